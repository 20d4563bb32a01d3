import PyProof.Rows.All
import Wide.All
import OpenK.AllK
import Wide.FinOn
import Lean
import PyProof.EqAt
import PyProof.EqKinds
import PyProof.TupleCall
import PySem.Challenge.RW_bellsaway_k12_lines_made
set_option Elab.async false
set_option linter.all false
set_option maxRecDepth 100000
namespace L2
open PySem PySem.Spec PyProof.Rows
abbrev Key := Sum Int Str
def keyIs : Key → Value → Bool
  | .inl k, v => Value.isInt k v
  | .inr x, v => Value.isStrOf x v
def keyH (w : World) : Key → Int
  | .inl k => hashInt k
  | .inr x => hashStr w x
theorem keyIs_shape : ∀ {k : Key} {v : Value}, keyIs k v = true → (∃ i t, k = Sum.inl i ∧ v = Value.int i t) ∨ (∃ x t, k = Sum.inr x ∧ v = Value.str x t)
  | .inl i, v, h => by
    obtain ⟨t, e⟩ := Value.isInt_shape (k := i) (v := v) h
    exact .inl ⟨i, t, rfl, e⟩
  | .inr x, v, h => by
    obtain ⟨t, e⟩ := Value.isStrOf_shape (x := x) (v := v) h
    exact .inr ⟨x, t, rfl, e⟩
theorem key_ll (a b : Int) : decide ((Sum.inl a : Key) = Sum.inl b) = (a == b) := by
  by_cases e : a = b
  · subst e; simp
  · have h : ¬ (Sum.inl a : Key) = Sum.inl b := fun q => e (Sum.inl.inj q)
    rw [decide_eq_false h]
    exact (beq_eq_false_iff_ne.mpr e).symm
theorem key_rr (a b : Str) : decide ((Sum.inr a : Key) = Sum.inr b) = decide (a = b) := by
  by_cases e : a = b
  · subst e; simp
  · have h : ¬ (Sum.inr a : Key) = Sum.inr b := fun q => e (Sum.inr.inj q)
    rw [decide_eq_false h, decide_eq_false e]
theorem key_lr (a : Int) (b : Str) : decide ((Sum.inl a : Key) = Sum.inr b) = false := decide_eq_false (fun q => nomatch q)
theorem key_rl (a : Str) (b : Int) : decide ((Sum.inr a : Key) = Sum.inl b) = false := decide_eq_false (fun q => nomatch q)
def mixKind (prog : Program) (w : World) : PySem.KeyKind prog w Key where
  is := keyIs
  hash := keyH w
  inj := fun v a b ha hb => by
    rcases keyIs_shape ha with ⟨i, t, rfl, rfl⟩ | ⟨x, t, rfl, rfl⟩
    · rcases keyIs_shape hb with ⟨j, u, rfl, e⟩ | ⟨y, u, rfl, e⟩
      · injection e with e1 _; rw [e1]
      · exact nomatch e
    · rcases keyIs_shape hb with ⟨j, u, rfl, e⟩ | ⟨y, u, rfl, e⟩
      · exact nomatch e
      · injection e with e1 _; rw [e1]
  byValue := fun k v h => by
    rcases keyIs_shape h with ⟨i, t, rfl, rfl⟩ | ⟨x, t, rfl, rfl⟩ <;> rfl
  pyHash := fun hv h => by
    rcases keyIs_shape hv with ⟨i, t, rfl, rfl⟩ | ⟨x, t, rfl, rfl⟩
    · exact wpAny_pyHash_int h
    · exact wpAny_pyHash_str h
  eqBool := fun hu hv h => by
    rcases keyIs_shape hu with ⟨i, t, rfl, rfl⟩ | ⟨x, t, rfl, rfl⟩
    · rcases keyIs_shape hv with ⟨j, u, rfl, rfl⟩ | ⟨y, u, rfl, rfl⟩
      · rw [key_ll] at h; exact wpAny_eqBool_int h
      · rw [key_lr] at h; exact SeqAt.EqAt.int_str i t y u _ _ _ _ h
    · rcases keyIs_shape hv with ⟨j, u, rfl, rfl⟩ | ⟨y, u, rfl, rfl⟩
      · rw [key_rl] at h; exact SeqAt.EqAt.str_int x t j u _ _ _ _ h
      · rw [key_rr] at h; exact wpAny_eqBool_str h
  «strs» := fun k x t v h => by
    rcases keyIs_shape h with ⟨i, u, rfl, e⟩ | ⟨y, u, rfl, e⟩
    · exact nomatch e
    · injection e with e1 _
      subst e1
      cases v <;> rfl
end L2
namespace L2
open PySem PySem.Spec PyProof.Rows
inductive V where
  | non | bl (b : Bool) | int (i : Int) | str (x : Str) | byt (b : Array UInt8) | flt (b : UInt64) | ref (a : Addr) | ty (n : String)
  deriving DecidableEq
def RelV : V → Value → Prop
  | .non, u => u = Value.none
  | .bl b, u => u = Value.bool b
  | .int i, u => ∃ t, u = Value.int i t
  | .str x, u => ∃ t, u = Value.str x t
  | .byt b, u => ∃ t, u = Value.bytes b t
  | .flt b, u => ∃ t, u = Value.float b t
  | .ref a, u => u = Value.ref a
  | .ty n, u => u = Value.type n
abbrev Vals : List V → List Value → Prop := Paired RelV
theorem Vals.length {xs : List V} {us : List Value} (r : Vals xs us) : xs.length = us.length := Paired.length r
theorem Vals.get : ∀ {xs : List V} {us : List Value} {i : Nat} {x : V}, Vals xs us → xs[i]? = some x → ∃ u, us[i]? = some u ∧ RelV x u
  | _, _, _, _, .nil, e => by simp at e
  | _, _, 0, _, .cons r _, e => by simp at e; subst e; exact ⟨_, rfl, r⟩
  | _, _, i + 1, x, .cons _ t, e => by
    obtain ⟨u, h1, h2⟩ := Vals.get (i := i) (x := x) t (by simpa using e)
    exact ⟨u, by simpa using h1, h2⟩
theorem Vals.set {x : V} {u : Value} (r : RelV x u) : ∀ {xs : List V} {us : List Value} (i : Nat), Vals xs us → Vals (xs.set i x) (us.set i u)
  | _, _, _, .nil => .nil
  | _, _, 0, .cons _ t => .cons r t
  | _, _, i + 1, .cons q t => .cons q (Vals.set r i t)
theorem Vals.append : ∀ {xs ys : List V} {us ws : List Value}, Vals xs us → Vals ys ws → Vals (xs ++ ys) (us ++ ws)
  | _, _, _, _, .nil, s => s
  | _, _, _, _, .cons r t, s => .cons r (Vals.append t s)
theorem Vals.take : ∀ {xs : List V} {us : List Value} (n : Nat), Vals xs us → Vals (xs.take n) (us.take n)
  | _, _, 0, _ => .nil
  | _, _, _ + 1, .nil => .nil
  | _, _, n + 1, .cons r t => .cons r (Vals.take n t)
theorem Vals.drop : ∀ {xs : List V} {us : List Value} (n : Nat), Vals xs us → Vals (xs.drop n) (us.drop n)
  | _, _, 0, r => r
  | _, _, _ + 1, .nil => .nil
  | _, _, n + 1, .cons _ t => Vals.drop n t
def RelO : Option V → Option Value → Prop
  | some v, some u => RelV v u
  | none, none => True
  | _, _ => False
def KV {κ : Type} : List (κ × V) → List (κ × Value) → Prop := Paired fun (p : κ × V) (q : κ × Value) => p.1 = q.1 ∧ RelV p.2 q.2
def kV : Key → V
  | .inl i => .int i
  | .inr x => .str x
inductive HO where
    | lst (xs : List V)
    | tup (xs : List V)
    | dK (kvs : List (Key × V)) | dT (kvs : List (List Key × V))
    | set (S : Int → Bool) (n : Nat)
    | ins (C dx : Addr) (fs : List (Str × V))
    | own (x : Addr)
    | xd (fs : List (Str × V))
    | met (f x : Addr)
    | rng (lo hi : Int)
    | frz (o : Obj) (u : HO)
    | tbl (ps : Array Value)
    | ext (φ : Heap → Prop)
abbrev Hp := Addr → Option HO
def upd (H : Hp) (a : Addr) (o : HO) : Hp := fun b => if b = a then some o else H b
theorem upd_same {H : Hp} {a : Addr} {o : HO} : upd H a o a = some o := by unfold upd; rw [if_pos rfl]
theorem upd_ne {H : Hp} {a b : Addr} {o : HO} (h : b ≠ a) : upd H a o b = H b := by unfold upd; rw [if_neg h]
theorem ne_of {H : Hp} {a b : Addr} {o u : HO} (h : H a = some o) (h' : H b = some u) (d : o ≠ u) : a ≠ b := by
  intro e; subst e; rw [h] at h'; exact d (Option.some.inj h')
theorem ne_of_none {H : Hp} {a b : Addr} {o : HO} (h : H a = some o) (h' : H b = none) : a ≠ b := by
  intro e; subst e; rw [h] at h'; cases h'
section
variable (P : Program) (w : World)
def ObjOk (H : Hp) (h : Heap) (a : Addr) : HO → Prop
  | .lst xs => xs.length ≤ sizeLine ∧ ∃ (its : List Value) (n : Nat), Vals xs its ∧ h.get? a = some { cls := .type "list", data := .seq its.toArray n }
  | .tup xs => xs.length ≤ sizeLine ∧ ∃ its : List Value, Vals xs its ∧ IsTup h a its.toArray
  | .dK kvs => kvs.length ≤ sizeLine ∧ (a == sysModules) = false ∧ ∃ vs, KV kvs vs ∧ h.DictOf (mixKind P w) a vs
  | .dT kvs => kvs.length ≤ sizeLine ∧ (a == sysModules) = false ∧ ∃ xs : List (List Key × Addr × Value),
      Paired (fun (p : List Key × V) (q : List Key × Addr × Value) => p.1 = q.1 ∧ H q.2.1 = some (.tup (p.1.map kV)) ∧ RelV p.2 q.2.2) kvs xs ∧
      ∃ o es ep, h.get? a = some o ∧ o.ExactDict ∧ o.data = .dict es ep ∧ es.toList = xs.map (entryOfKey (tupleKind (mixKind P w))) ∧ (xs.map (·.1)).Nodup
  | .set S n => h.SetOf (intKind P w) a S n
  | .ins C dx fs => H dx = some (.own a) ∧ fs.length ≤ 1000 ∧ dx ≠ a ∧ h.get? a = some (PySem.W.instObj C dx) ∧
      ∃ mA, h.Ns1 dx mA ∧ (∀ f, RelO (fs.lookup f) (mA f)) ∧ PySem.Within mA (fs.map (·.1))
  | .own _ => ∃ o, h.get? a = some o
  | .xd fs => ∃ mA, h.Ns1 a mA ∧ ∀ f, RelO (fs.lookup f) (mA f)
  | .rng lo hi => ∃ t u v, h.get? a = some { cls := .type "range", data := .fields #[.int lo t, .int hi u, .int 1 v] }
  | .frz o u => h.get? a = some o ∧ ObjOk H h a u
  | .tbl ps => h.get? a = some { cls := .none, data := .fields ps }
  | .met f x => h.get? a = some (PySem.W.methodObj (.ref f) (.ref x))
  | .ext φ => φ h ∧ (∃ o, h.get? a = some o) ∧ ∀ h1 h2 : Heap, φ h1 → (∀ o, h1.get? a = some o → h2.get? a = some o) → φ h2
def HOk (H : Hp) (h : Heap) : Prop := ∀ a o, H a = some o → ObjOk P w H h a o
end
section
variable {P : Program} {w : World} {H H' : Hp} {h h' : Heap} {a : Addr} {o : HO}
theorem ObjOk.lt (x : ObjOk P w H h a o) : a < h.objs.size := by
  cases o with
  | lst xs => obtain ⟨_, _, _, _, e⟩ := x; exact Heap.lt_size e
  | tup xs => obtain ⟨_, _, _, p⟩ := x; exact p.lt
  | dK kvs => obtain ⟨_, _, _, _, o, _, _, e, _⟩ := x; exact Heap.lt_size e
  | dT kvs => obtain ⟨_, _, _, _, o, _, _, e, _⟩ := x; exact Heap.lt_size e
  | set S n => obtain ⟨o, _, _, _, e, _⟩ := x; exact Heap.lt_size e
  | ins C dx fs => obtain ⟨_, _, _, e, _⟩ := x; exact Heap.lt_size e
  | own y => obtain ⟨_, e⟩ := x; exact Heap.lt_size e
  | xd fs => obtain ⟨_, ⟨_, _, _, e, _⟩, _⟩ := x; exact Heap.lt_size e
  | rng lo hi => obtain ⟨_, _, _, e⟩ := x; exact Heap.lt_size e
  | frz ob u => obtain ⟨e, _⟩ := x; exact Heap.lt_size e
  | tbl ps => exact Heap.lt_size (show h.get? a = some _ from x)
  | met f y => exact Heap.lt_size (show h.get? a = some _ from x)
  | ext φ => obtain ⟨_, ⟨_, e⟩, _⟩ := x; exact Heap.lt_size e
theorem Paired.mapP {α β : Type} {F G : α → β → Prop} : ∀ {l₁ : List α} {l₂ : List β}, Paired F l₁ l₂ → (∀ a b, F a b → G a b) → Paired G l₁ l₂
  | _, _, .nil, _ => .nil
  | _, _, .cons r t, f => .cons (f _ _ r) (Paired.mapP t f)
theorem ObjOk.stay (x : ObjOk P w H h a o) (k : ∀ b u, (b = a ∨ H b = some (.own a)) → h.get? b = some u → h'.get? b = some u)
    (ho : ∀ b, H b = some (.own a) → H' b = some (.own a)) (ht : ∀ b xs, H b = some (.tup xs) → H' b = some (.tup xs)) : ObjOk P w H' h' a o := by
  induction o with
  | lst xs => obtain ⟨z, its, n, r, e⟩ := x; exact ⟨z, its, n, r, k _ _ (.inl rfl) e⟩
  | tup xs => obtain ⟨z, its, r, ob, e, c⟩ := x; exact ⟨z, its, r, ob, k _ _ (.inl rfl) e, c⟩
  | dK kvs => obtain ⟨z, y, vs, r, ob, es, ep, e, c⟩ := x; exact ⟨z, y, vs, r, ob, es, ep, k _ _ (.inl rfl) e, c⟩
  | dT kvs =>
    obtain ⟨z, y, xs, r, ob, es, ep, e, c⟩ := x
    exact ⟨z, y, xs, Paired.mapP r fun p q z => ⟨z.1, ht _ _ z.2.1, z.2.2⟩, ob, es, ep, k _ _ (.inl rfl) e, c⟩
  | set S n => obtain ⟨ob, es, ep, t, e, c⟩ := x; exact ⟨ob, es, ep, t, k _ _ (.inl rfl) e, c⟩
  | ins C dx fs =>
    obtain ⟨d, z, ne, e, mA, ⟨od, es, ep, e2, c⟩, r⟩ := x
    exact ⟨ho _ d, z, ne, k _ _ (.inl rfl) e, mA, ⟨od, es, ep, k _ _ (.inr d) e2, c⟩, r⟩
  | own y => obtain ⟨ob, e⟩ := x; exact ⟨ob, k _ _ (.inl rfl) e⟩
  | xd fs => obtain ⟨mA, ⟨od, es, ep, e, c⟩, r⟩ := x; exact ⟨mA, ⟨od, es, ep, k _ _ (.inl rfl) e, c⟩, r⟩
  | rng lo hi => obtain ⟨t, u, v, e⟩ := x; exact ⟨t, u, v, k _ _ (.inl rfl) e⟩
  | frz ob u ih => obtain ⟨e, q⟩ := x; exact ⟨k _ _ (.inl rfl) e, ih q⟩
  | tbl ps =>
    have e : h.get? a = some { cls := .none, data := .fields ps } := x
    show h'.get? a = some { cls := .none, data := .fields ps }
    exact k a _ (.inl rfl) e
  | met f y =>
    have e : h.get? a = some (PySem.W.methodObj (.ref f) (.ref y)) := x
    show h'.get? a = some (PySem.W.methodObj (.ref f) (.ref y))
    exact k a _ (.inl rfl) e
  | ext φ => obtain ⟨p, ⟨o, e⟩, st⟩ := x; exact ⟨st _ _ p fun o q => k _ _ (.inl rfl) q, ⟨o, k _ _ (.inl rfl) e⟩, st⟩
theorem HOk.lt (x : HOk P w H h) (e : H a = some o) : a < h.objs.size := (x a o e).lt
theorem HOk.fresh (x : HOk P w H h) (e : h.objs.size ≤ a) : H a = none := by
  cases q : H a with
  | none => rfl
  | some u => exact absurd (Nat.lt_of_lt_of_le (x.lt q) e) (Nat.lt_irrefl _)
theorem HOk.kept (x : HOk P w H h) (k : ∀ b u, h.get? b = some u → h'.get? b = some u) : HOk P w H h' := fun a o e =>
  (x a o e).stay (fun b u _ q => k b u q) (fun _ q => q) fun _ _ q => q
theorem HOk.laid (x : HOk P w H h) (k : ∀ b u, h.get? b = some u → h'.get? b = some u) (hp : h.objs.size ≤ a) (new : ObjOk P w (upd H a o) h' a o) : HOk P w (upd H a o) h' := fun b u e => by
  have hn := x.fresh hp
  by_cases hb : b = a
  · subst hb; rw [upd_same] at e; cases e; exact new
  · rw [upd_ne hb] at e
    exact (x b u e).stay (fun c v _ q => k c v q) (fun c q => by rw [upd_ne (ne_of_none q hn)]; exact q) fun c xs q => by rw [upd_ne (ne_of_none q hn)]; exact q
end
def Rd (H : Hp) (a : Addr) (u : HO) : Prop := H a = some u ∨ ∃ o, H a = some (.frz o u)
theorem Rd.of {H : Hp} {a : Addr} {u : HO} (h : H a = some u) : Rd H a u := .inl h
theorem Rd.ok {P : Program} {w : World} {H : Hp} {h : Heap} {a : Addr} {u : HO} (r : Rd H a u) (x : HOk P w H h) : ObjOk P w H h a u := by
  rcases r with r | ⟨o, r⟩
  · exact x a u r
  · obtain ⟨_, q⟩ := x a _ r
    exact q
def Mut : Option HO → Prop
  | some (.lst _) => True
  | some (.dK _) => True
  | some (.dT _) => True
  | some (.set _ _) => True
  | some (.ins _ _ _) => True
  | some (.ext _) => True
  | _ => False
section
variable {P : Program} {w : World} {H : Hp} {h h' : Heap} {x e : Addr} {o' : HO}
theorem HOk.write (ok : HOk P w H h) (mu : Mut (H x)) (he : e = x ∨ H e = some (.own x)) (k : ∀ b u, b ≠ e → h.get? b = some u → h'.get? b = some u) (heo : ∃ u, h'.get? e = some u)
    (new : ObjOk P w (upd H x o') h' x o') : HOk P w (upd H x o') h' := fun b u q => by
  have nown : ∀ c y, H c = some (.own y) → c ≠ x := fun c y r z => by subst z; rw [r] at mu; exact mu
  have ntup : ∀ c xs, H c = some (.tup xs) → c ≠ x := fun c xs r z => by subst z; rw [r] at mu; exact mu
  by_cases hb : b = x
  · subst hb; rw [upd_same] at q; cases q; exact new
  · rw [upd_ne hb] at q
    by_cases hbe : b = e
    · have q' : H b = some (.own x) := by
        rcases he with z | z
        · exact absurd (hbe.trans z) hb
        · rw [hbe]; exact z
      rw [q] at q'; cases q'
      obtain ⟨v, hv⟩ := heo
      exact ⟨v, by rw [hbe]; exact hv⟩
    · refine (ok b u q).stay (fun c v hc r => k c v ?_ r) (fun c r => by rw [upd_ne (nown c b r)]; exact r) fun c xs r => by rw [upd_ne (ntup c xs r)]; exact r
      rcases hc with rfl | hc
      · exact hbe
      · rintro rfl
        rcases he with z | z
        · exact nown c b hc z
        · rw [hc] at z; cases z; exact hb rfl
end
structure Un (fs ex : List Addr) (H H' : Hp) (h h' : Heap) : Prop where
  keep : ∀ b o, h.get? b = some o → H b = none → b ∉ fs → b ∉ ex → h'.get? b = some o
  slot : ∀ b o, h.get? b = some o → H b = none → b ∈ fs → b ∉ ex → ∃ sl, h'.get? b = some { o with slots := sl }
  free : ∀ b o, h.get? b = some o → H b = none → b ∉ ex → H' b = none
  there : ∀ b o, h.get? b = some o → b ∉ ex → ∃ o', h'.get? b = some o'
  tups : ∀ b xs, H b = some (.tup xs) → H' b = some (.tup xs)
  frzs : ∀ b o u, H b = some (.frz o u) → H' b = some (.frz o u)
  tbls : ∀ b ps, H b = some (.tbl ps) → ∃ more, H' b = some (.tbl (ps ++ more))
section
variable {fs fs' ex ex' : List Addr} {H H1 H2 : Hp} {h h1 h2 h' : Heap} {a x e : Addr} {o : HO}
theorem Un.any (u : Un fs ex H H1 h h1) {b : Addr} {ob : Obj} (q : h.get? b = some ob) (n : H b = none) (hx : b ∉ ex) : ∃ sl, h1.get? b = some { ob with slots := sl } := by
  by_cases hb : b ∈ fs
  · exact u.slot b ob q n hb hx
  · exact ⟨ob.slots, u.keep b ob q n hb hx⟩
theorem Un.trans (a : Un fs ex H H1 h h1) (b : Un fs ex H1 H2 h1 h2) : Un fs ex H H2 h h2 where
  keep := fun c ob q n hc hx => b.keep c ob (a.keep c ob q n hc hx) (a.free c ob q n hx) hc hx
  slot := fun c ob q n hc hx => by
    obtain ⟨sl, e1⟩ := a.slot c ob q n hc hx
    obtain ⟨sl', e2⟩ := b.slot c _ e1 (a.free c ob q n hx) hc hx
    exact ⟨sl', e2⟩
  free := fun c ob q n hx => by
    obtain ⟨o', e1⟩ := a.there c ob q hx
    exact b.free c o' e1 (a.free c ob q n hx) hx
  there := fun c ob q hx => by
    obtain ⟨o', e1⟩ := a.there c ob q hx
    exact b.there c o' e1 hx
  tups := fun c xs q => b.tups c xs (a.tups c xs q)
  frzs := fun c ob xs q => b.frzs c ob xs (a.frzs c ob xs q)
  tbls := fun c ps q => by
    obtain ⟨m1, e1⟩ := a.tbls c ps q
    obtain ⟨m2, e2⟩ := b.tbls c _ e1
    exact ⟨m1 ++ m2, by rw [e2, Array.append_assoc]⟩
theorem Un.kept (k : ∀ b u, h.get? b = some u → h'.get? b = some u) : Un fs ex H H h h' :=
  ⟨fun b ob q _ _ _ => k b ob q, fun b ob q _ _ _ => ⟨ob.slots, k b ob q⟩, fun _ _ _ n _ => n, fun b ob q _ => ⟨ob, k b ob q⟩, fun _ _ q => q, fun _ _ _ q => q, fun _ ps q => ⟨#[], by rw [q]; simp⟩⟩
theorem Un.refl : Un fs ex H H h h := Un.kept fun _ _ q => q
theorem Un.laid (k : ∀ b u, h.get? b = some u → h'.get? b = some u) (hp : h.objs.size ≤ a) (hn : H a = none) : Un fs ex H (upd H a o) h h' where
  keep := fun b u q _ _ _ => k b u q
  slot := fun b u q _ _ _ => ⟨u.slots, k b u q⟩
  free := fun b u q n _ => by rw [upd_ne (Nat.ne_of_lt (Nat.lt_of_lt_of_le (Heap.lt_size q) hp))]; exact n
  there := fun b u q _ => ⟨u, k b u q⟩
  tups := fun b xs q => by rw [upd_ne (ne_of_none q hn)]; exact q
  frzs := fun b u xs q => by rw [upd_ne (ne_of_none q hn)]; exact q
  tbls := fun b ps q => ⟨#[], by rw [upd_ne (ne_of_none q hn), q]; simp⟩
theorem Un.write (mu : Mut (H x)) (he : e = x ∨ H e = some (.own x)) (k : ∀ b u, b ≠ e → h.get? b = some u → h'.get? b = some u) (heo : ∃ u, h'.get? e = some u) : Un fs ex H (upd H x o) h h' := by
  have hx : ∀ b, H b = none → b ≠ x := fun b n z => by subst z; rw [n] at mu; exact mu
  have hb : ∀ b, H b = none → b ≠ e := fun b n z => by
    subst z
    rcases he with r | r
    · exact hx b n r
    · rw [n] at r; cases r
  have hm : ∀ b u, H b = some u → ¬ Mut (some u) → b ≠ x := fun b u q nm z => by subst z; rw [q] at mu; exact nm mu
  refine ⟨fun b u q n _ _ => k b u (hb b n) q, fun b u q n _ _ => ⟨u.slots, k b u (hb b n) q⟩, fun b u q n _ => by rw [upd_ne (hx b n)]; exact n, fun b u q _ => ?_,
    fun b xs q => by rw [upd_ne (hm b _ q fun z => z)]; exact q, fun b u xs q => by rw [upd_ne (hm b _ q fun z => z)]; exact q, fun b ps q => ⟨#[], by rw [upd_ne (hm b _ q fun z => z), q]; simp⟩⟩
  by_cases hbe : b = e
  · subst hbe; exact heo
  · exact ⟨u, k b u hbe q⟩
theorem Un.mono (u : Un fs ex H H1 h h1) (hs : ∀ b ∈ fs, b ∈ fs') (hx : ∀ b ∈ ex, b ∈ ex') : Un fs' ex' H H1 h h1 :=
  ⟨fun b ob q n hb he => u.keep b ob q n (fun z => hb (hs b z)) fun z => he (hx b z), fun _ _ q n _ he => u.any q n fun z => he (hx _ z), fun b ob q n he => u.free b ob q n fun z => he (hx b z), fun b ob q he => u.there b ob q fun z => he (hx b z), u.tups, u.frzs, u.tbls⟩
end
def trk (h : Heap) (H : Hp) : List Addr := (List.range h.objs.size).filter fun a => (H a).isSome
def hidT (h : Heap) (H : Hp) : Heap := PySem.W.hideAll h (trk h H)
theorem hidT_size (h : Heap) (H : Hp) : (hidT h H).objs.size = h.objs.size := PySem.W.hideAll_size _ _
theorem hidT_get {h : Heap} {H : Hp} {b : Addr} {o : Obj} (e : h.get? b = some o) (n : H b = none) : (hidT h H).get? b = some o :=
  PySem.W.hideAll_get _ e fun hm => by
    have q : (H b).isSome = true := (List.mem_filter.mp hm).2
    rw [n] at q; simp at q
theorem of_hidT {h : Heap} {H : Hp} {b : Addr} {o : Obj} (e : (hidT h H).get? b = some o) : h.get? b = some o ∧ H b = none := by
  have e' : h.get? b = some o := PySem.W.of_hideAll (trk h H) e
  refine ⟨e', ?_⟩
  cases q : H b with
  | none => rfl
  | some x =>
    have hm : b ∈ trk h H := List.mem_filter.mpr ⟨List.mem_range.mpr (Heap.lt_size e'), by simp [q]⟩
    have z : (hidT h H).get? b = none := PySem.W.hideAll_none (trk h H) hm
    rw [z] at e; cases e
def allNews (g h : Heap) (L : Addr) : List (Addr × Obj) := (List.range h.objs.size).filterMap fun a => if a = L ∨ (g.get? a).isSome = true then none else (h.get? a).map fun o => (a, o)
def rest (g h : Heap) (L d : Addr) : List (Addr × Obj) := (allNews g h L).filter fun p => decide (p.1 ≠ d)
end L2
namespace L2
open PySem PySem.Spec PyProof.Rows
structure Mod (K : PySem.W.Frag) (mg : Str → Option Value) (base : Heap) : Prop where
  kin : K.In base
  glob : base.Ns mainGlobals mg
  blt : ∃ mb, base.Ns builtinsNs mb ∧ ∀ x : Str, x ≠ "__name__" → mb x = bootBuiltins x
  nolimit : base.NoLimit
structure Cx where
  prog : Program
  w : World
  K : PySem.W.Frag
  mg : Str → Option Value
  base : Heap
  A : Around
  N : List Str
  s₀ : Shared
  H₀ : Hp
  env : Env
  outer : List Env
  stack : List Env
  ex : List Addr
  fn : Str → Bool
  calm : Bool
  pn : List (Addr × Obj)
  xe : Value → Shared → Prop
def frs (l : List Env) : List Addr := l.filterMap (·.frame)
abbrev Cx.fs (X : Cx) : List Addr := frs X.outer
def Vis (sc : Scope) (x : Str) : Prop := sc.names.lookup x = some .local ∨ sc.names.lookup x = some .cell ∨ sc.names.lookup x = some .free
def Loc (sc : Scope) (x : Str) : Prop := sc.names.lookup x = some .local ∨ sc.names.lookup x = some .cell
def Look (env : Env) (h : Heap) (m : Str → Option Value) (x : Str) (u : Value) : Prop :=
  (env.kindOf x = some .local ∧ m x = some u) ∨ ((env.kindOf x = some .cell ∨ env.kindOf x = some .free) ∧ ∃ c, env.cells.lookup x = some c ∧ h.IsCell c (some u))
structure Cx.Ok (X : Cx) : Prop where
  mod : Mod X.K X.mg X.base
  kind : X.env.scope.kind = .function
  glob : X.env.globals = mainGlobals
  blt : X.env.builtins = builtinsNs
  above : X.s₀.heap.objs.size ≤ X.env.locals
  inj : ∀ x y c, X.env.cells.lookup x = some c → X.env.cells.lookup y = some c → x = y
  has : ∀ x, (X.env.kindOf x = some .cell ∨ X.env.kindOf x = some .free) → ∃ c, X.env.cells.lookup x = some c
  cab : ∀ x c, X.fn x = true → X.env.cells.lookup x = some c → X.s₀.heap.objs.size ≤ c
  hd : X.calm = true → X.A.handled = none
  frames : X.A.frames = some X.stack
  stk : X.stack = X.outer ∨ (X.stack = X.env :: X.outer ∧ X.env.frame = some X.env.locals)
  exf : ∀ b ∈ X.ex, b ≠ X.env.locals ∧ ∀ x c, X.env.cells.lookup x = some c → c ≠ b
  bs : ∀ b o, X.base.get? b = some o → X.s₀.heap.get? b = some o ∧ X.H₀ b = none
  bsz : X.base.objs.size ≤ X.s₀.heap.objs.size
  noex : ∀ b o, X.base.get? b = some o → b ∉ X.ex
  exfs : ∀ b ∈ X.ex, b ∉ X.fs
  funs : X.s₀.heap.FunFrames X.base X.outer
  frf : ∀ b ∈ X.fs, X.H₀ b = none
structure Inv (X : Cx) (pins : List (Addr × Obj)) (σ : List (Option V)) (H : Hp) (s : Shared) : Prop where
  ok : X.Ok
  os : s.os = X.s₀.os
  bare : AllBare s.gens
  base : Un X.fs X.ex X.H₀ H X.s₀.heap s.heap
  loc : ∃ m, s.heap.Ns X.env.locals m ∧ ∀ (i : Nat) (x : Str) (v : V), X.N[i]? = some x → σ[i]? = some (some v) → Vis X.env.scope x → ∃ u, RelV v u ∧ Look X.env s.heap m x u
  cell : ∀ x c, X.env.cells.lookup x = some c → ∃ v, s.heap.IsCell c v
  free : H X.env.locals = none
  freeC : ∀ x c, X.env.cells.lookup x = some c → H c = none
  pin : ∀ p ∈ X.pn ++ pins, s.heap.get? p.1 = some p.2 ∧ H p.1 = none ∧ p.1 ≠ X.env.locals ∧ p.1 ∉ X.fs ∧ ∀ v, p.2.data ≠ .cell v
  hok : HOk X.prog X.w H s.heap
  len : σ.length = X.N.length
section
variable {X : Cx} {pins : List (Addr × Obj)} {σ : List (Option V)} {H H' : Hp} {s : Shared} {h' : Heap}
theorem Cx.Ok.nofr (ok : X.Ok) {b : Addr} {o : Obj} (e : X.base.get? b = some o) : b ∉ X.fs := fun hb => by
  have := (ok.funs.mem hb).1
  rw [e] at this; cases this
theorem Inv.bs (I : Inv X pins σ H s) : ∀ b o, X.base.get? b = some o → s.heap.get? b = some o ∧ H b = none := fun b o e =>
  ⟨I.base.keep b o (I.ok.bs b o e).1 (I.ok.bs b o e).2 (I.ok.nofr e) (I.ok.noex b o e), I.base.free b o (I.ok.bs b o e).1 (I.ok.bs b o e).2 (I.ok.noex b o e)⟩
theorem Inv.bk (I : Inv X pins σ H s) : ∀ b o, X.base.get? b = some o → s.heap.get? b = some o := fun b o e => (I.bs b o e).1
theorem Inv.mod (I : Inv X pins σ H s) : Mod X.K X.mg X.base := I.ok.mod
theorem Inv.kIn (I : Inv X pins σ H s) : X.K.In s.heap := I.ok.mod.kin.keeps I.bk
theorem Inv.nolimit (I : Inv X pins σ H s) : s.heap.NoLimit := I.ok.mod.nolimit.keeps I.bk
theorem Inv.fr (I : Inv X pins σ H s) : ∃ m, Fr X.base X.env.locals s.heap m :=
  let ⟨m, hn, _⟩ := I.loc
  ⟨m, hn, I.bk, Nat.le_trans I.ok.bsz I.ok.above⟩
theorem Inv.lt (I : Inv X pins σ H s) : X.env.locals < s.heap.objs.size := let ⟨_, hn, _⟩ := I.loc; hn.lt
theorem Inv.sz (I : Inv X pins σ H s) : X.s₀.heap.objs.size ≤ s.heap.objs.size := Nat.le_trans I.ok.above (Nat.le_of_lt I.lt)
theorem Inv.nofs (I : Inv X pins σ H s) {a : Addr} (h : s.heap.objs.size ≤ a) : a ∉ X.fs := fun hb => by
  obtain ⟨_, o, ho, _⟩ := I.ok.funs.mem hb
  exact absurd (Nat.lt_of_lt_of_le (Heap.lt_size ho) (Nat.le_trans I.sz h)) (Nat.lt_irrefl _)
theorem Inv.cne (I : Inv X pins σ H s) : ∀ x c, X.env.cells.lookup x = some c → c ≠ X.env.locals := fun x c e z => by
  obtain ⟨v, o, ho, hd⟩ := I.cell x c e
  obtain ⟨m, ⟨o', es, ep, ho', hd', _⟩, _⟩ := I.loc
  rw [z, ho'] at ho; cases ho; rw [hd'] at hd; cases hd
theorem Inv.funs (I : Inv X pins σ H s) : s.heap.FunFrames X.base X.outer := by
  have all : ∀ (l : List Env), (∀ b ∈ frs l, b ∈ X.fs) → X.s₀.heap.FunFrames X.base l → s.heap.FunFrames X.base l := by
    intro l
    induction l with
    | nil => intro _ _; trivial
    | cons env r ih =>
      intro hs hl
      obtain ⟨hk, ⟨L, o, hf, hn, ho, hd⟩, hr⟩ := hl
      have hL : L ∈ X.fs := hs L (by unfold frs; rw [List.filterMap_cons, hf]; exact List.mem_cons_self)
      obtain ⟨sl, e⟩ := I.base.slot L o ho (I.ok.frf L hL) hL fun z => I.ok.exfs L z hL
      exact ⟨hk, ⟨L, _, hf, hn, e, hd⟩, ih (fun b hb => hs b (by unfold frs; rw [List.filterMap_cons, hf]; exact List.mem_cons_of_mem _ hb)) hr⟩
  exact all X.outer (fun _ hb => hb) I.ok.funs
theorem Inv.stack (I : Inv X pins σ H s) : s.heap.FunFrames X.base X.stack := by
  rcases I.ok.stk with e | ⟨e, hf⟩
  · rw [e]; exact I.funs
  · rw [e]
    obtain ⟨m, hn, _⟩ := I.loc
    refine .cons (by rw [I.ok.kind]; decide) hf hn ?_ I.funs
    exact Heap.get?_none_of_le (Nat.le_trans I.ok.bsz I.ok.above)
theorem Inv.stkSub (I : Inv X pins σ H s) : ∀ b ∈ frs X.stack, b ∈ X.env.locals :: X.fs := fun b hb => by
  rcases I.ok.stk with e | ⟨e, hf⟩
  · rw [e] at hb; exact List.mem_cons_of_mem _ hb
  · rw [e] at hb
    unfold frs at hb
    rw [List.filterMap_cons, hf] at hb
    exact hb
theorem Inv.stkFree (I : Inv X pins σ H s) : ∀ b ∈ frs X.stack, H b = none := fun b hb => by
  rcases List.mem_cons.mp (I.stkSub b hb) with e | hb
  · rw [e]; exact I.free
  · obtain ⟨_, o, ho, _⟩ := I.ok.funs.mem hb
    exact I.base.free b o ho (I.ok.frf b hb) fun z => I.ok.exfs b z hb
theorem Inv.step {g' : Array GenState} {t' : Nat} {d' : Drawn} {ch : List Addr} (I : Inv X pins σ H s)
    (hch : ∀ b ∈ ch, (b ∈ X.ex ∨ X.s₀.heap.objs.size ≤ b) ∧ b ≠ X.env.locals ∧ (∀ x c, X.env.cells.lookup x = some c → c ≠ b) ∧ ∀ p ∈ X.pn ++ pins, p.1 ≠ b)
    (keep : ∀ b o, b ≠ X.env.locals → b ∉ X.fs → b ∉ ch → s.heap.get? b = some o → H b = none → h'.get? b = some o)
    (slot : ∀ b o, b ≠ X.env.locals → b ∈ X.fs → b ∉ ch → s.heap.get? b = some o → H b = none → ∃ sl, h'.get? b = some { o with slots := sl }) (free : ∀ b o, b ∉ ch → s.heap.get? b = some o → H b = none → H' b = none)
    (there : ∀ b o, b ∉ ch → s.heap.get? b = some o → ∃ o', h'.get? b = some o')
    (tups : ∀ b xs, H b = some (.tup xs) → H' b = some (.tup xs)) (frzs : ∀ b o u, H b = some (.frz o u) → H' b = some (.frz o u)) (tbls : ∀ b ps, H b = some (.tbl ps) → ∃ more, H' b = some (.tbl (ps ++ more)))
    (ns : ∀ m, s.heap.Ns X.env.locals m → h'.Ns X.env.locals m) (hok : HOk X.prog X.w H' h') (hg : AllBare g') :
    Inv X pins σ H' { s with heap := h', gens := g', drawn := d', toks := t' } := by
  have neL : ∀ b o, X.s₀.heap.get? b = some o → b ≠ X.env.locals := fun b o e => Nat.ne_of_lt (Nat.lt_of_lt_of_le (Heap.lt_size e) I.ok.above)
  have neC : ∀ b o, X.s₀.heap.get? b = some o → b ∉ X.ex → b ∉ ch := fun b o e hx hb => by
    rcases (hch b hb).1 with z | z
    · exact hx z
    · exact absurd (Nat.lt_of_lt_of_le (Heap.lt_size e) z) (Nat.lt_irrefl _)
  have cellK : ∀ x c, X.env.cells.lookup x = some c → ∀ v, s.heap.IsCell c v → h'.IsCell c v := fun x c e v ⟨o, ho, hd⟩ => by
    have nch : c ∉ ch := fun z => (hch c z).2.2.1 x c e rfl
    by_cases hc : c ∈ X.fs
    · obtain ⟨sl, q⟩ := slot c o (I.cne x c e) hc nch ho (I.freeC x c e)
      exact ⟨_, q, hd⟩
    · exact ⟨o, keep c o (I.cne x c e) hc nch ho (I.freeC x c e), hd⟩
  refine ⟨I.ok, I.os, hg, ⟨fun b o e n hb hx => ?_, fun b o e n hb hx => ?_, fun b o e n hx => ?_, fun b o e hx => ?_, fun b xs e => tups b xs (I.base.tups b xs e), fun b o xs e => frzs b o xs (I.base.frzs b o xs e), fun b ps e => ?_⟩, ?_, fun x c e => ?_, ?_, fun x c e => ?_, fun p hp => ?_, hok, I.len⟩
  · exact keep b o (neL b o e) hb (neC b o e hx) (I.base.keep b o e n hb hx) (I.base.free b o e n hx)
  · obtain ⟨sl, e1⟩ := I.base.slot b o e n hb hx
    obtain ⟨sl', e2⟩ := slot b _ (neL b o e) hb (neC b o e hx) e1 (I.base.free b o e n hx)
    exact ⟨sl', e2⟩
  · obtain ⟨o', e1⟩ := I.base.there b o e hx
    exact free b o' (neC b o e hx) e1 (I.base.free b o e n hx)
  · obtain ⟨o', e1⟩ := I.base.there b o e hx
    exact there b o' (neC b o e hx) e1
  · obtain ⟨m1, e1⟩ := I.base.tbls b ps e
    obtain ⟨m2, e2⟩ := tbls b _ e1
    exact ⟨m1 ++ m2, by rw [e2, Array.append_assoc]⟩
  · obtain ⟨m, hn, hl⟩ := I.loc
    refine ⟨m, ns m hn, fun i x v e1 e2 e3 => ?_⟩
    obtain ⟨u, r, l⟩ := hl i x v e1 e2 e3
    refine ⟨u, r, ?_⟩
    rcases l with l | ⟨k, c, e, z⟩
    · exact .inl l
    · exact .inr ⟨k, c, e, cellK x c e _ z⟩
  · obtain ⟨v, z⟩ := I.cell x c e
    exact ⟨v, cellK x c e v z⟩
  · obtain ⟨m, ⟨o, _, _, ho, _⟩, _⟩ := I.loc
    exact free _ o (fun z => (hch _ z).2.1 rfl) ho I.free
  · obtain ⟨v, o, ho, hd⟩ := I.cell x c e
    exact free c o (fun z => (hch c z).2.2.1 x c e rfl) ho (I.freeC x c e)
  · obtain ⟨e, n, ne, nf, d⟩ := I.pin p hp
    have nch : p.1 ∉ ch := fun z => (hch p.1 z).2.2.2 p hp rfl
    exact ⟨keep p.1 p.2 ne nf nch e n, free p.1 p.2 nch e n, ne, nf, d⟩
theorem Inv.un {t' : Nat} (I : Inv X pins σ H s) (u : Un X.fs [] H H' s.heap h') (hok : HOk X.prog X.w H' h') : Inv X pins σ H' { s with heap := h', toks := t' } := by
  obtain ⟨m, ⟨o, es, ep, ho, r⟩, _⟩ := id I.loc
  obtain ⟨sl, hL⟩ := u.any ho I.free (by simp)
  exact I.step (g' := s.gens) (d' := s.drawn) (ch := []) (fun _ z => nomatch z) (fun b o _ hb _ e n => u.keep b o e n hb (by simp)) (fun b o _ hb _ e n => u.slot b o e n hb (by simp)) (fun b o _ e n => u.free b o e n (by simp)) (fun b o _ e => u.there b o e (by simp)) u.tups u.frzs u.tbls (fun m' hm => by
    obtain ⟨o', es', ep', ho', r'⟩ := hm
    rw [ho] at ho'; cases ho'
    exact ⟨_, es', ep', hL, r'⟩) hok I.bare
theorem Inv.call {g' : Array GenState} {t' : Nat} {d' : Drawn} {ch : List Addr} (I : Inv X pins σ H s) (u : Un (frs X.stack) ch H H' s.heap h') (hok : HOk X.prog X.w H' h') (hg : AllBare g')
    (hch : ∀ b ∈ ch, (b ∈ X.ex ∨ X.s₀.heap.objs.size ≤ b) ∧ b ≠ X.env.locals ∧ (∀ x c, X.env.cells.lookup x = some c → c ≠ b) ∧ ∀ p ∈ X.pn ++ pins, p.1 ≠ b) :
    Inv X pins σ H' { s with heap := h', gens := g', drawn := d', toks := t' } := by
  obtain ⟨m, ⟨o, es, ep, ho, r⟩, _⟩ := id I.loc
  obtain ⟨sl, hL⟩ := u.any ho I.free fun z => (hch _ z).2.1 rfl
  exact I.step (ch := ch) hch (fun b o hL hb hc e n => u.keep b o e n (fun z => (List.mem_cons.mp (I.stkSub b z)).elim hL hb) hc) (fun b o _ _ hc e n => u.any e n hc) (fun b o hc e n => u.free b o e n hc) (fun b o hc e => u.there b o e hc) u.tups u.frzs u.tbls (fun m' hm => by
    obtain ⟨o', es', ep', ho', r'⟩ := hm
    rw [ho] at ho'; cases ho'
    exact ⟨_, es', ep', hL, r'⟩) hok hg
theorem Inv.turned {t' : Nat} {it : Addr} (I : Inv X pins σ H s) (k : ∀ b o, b ≠ it → s.heap.get? b = some o → h'.get? b = some o) (hn : H it = none) (hL : it ≠ X.env.locals)
    (h1 : it ∈ X.ex ∨ X.s₀.heap.objs.size ≤ it) (h2 : ∀ x c, X.env.cells.lookup x = some c → c ≠ it) (h3 : ∀ p ∈ X.pn ++ pins, p.1 ≠ it) : Inv X pins σ H { s with heap := h', toks := t' } := by
  have nit : ∀ b u, H b = some u → b ≠ it := fun b u e z => by rw [z, hn] at e; cases e
  refine I.step (g' := s.gens) (d' := s.drawn) (ch := [it]) (fun b hb => ?_) (fun b o _ _ hc e _ => k b o (fun z => hc (by simp [z])) e) (fun b o _ _ hc e _ => ⟨o.slots, k b o (fun z => hc (by simp [z])) e⟩) (fun _ _ _ _ n => n)
    (fun b o hc e => ⟨o, k b o (fun z => hc (by simp [z])) e⟩) (fun _ _ e => e) (fun _ _ _ e => e) (fun b ps e => ⟨#[], by rw [e]; simp⟩) (fun m hm => ?_) (fun b u e => ?_) I.bare
  · have e : b = it := by simpa using hb
    subst e
    exact ⟨h1, hL, h2, h3⟩
  · obtain ⟨o, es, ep, ho, r⟩ := hm
    exact ⟨o, es, ep, k _ o (Ne.symm hL) ho, r⟩
  · refine (I.hok b u e).stay (fun c v hc q => k c v ?_ q) (fun _ q => q) fun _ _ q => q
    rcases hc with z | z
    · rw [z]; exact nit b u e
    · exact nit c _ z
theorem Inv.tok (I : Inv X pins σ H s) (t : Nat) : Inv X pins σ H { s with toks := t } := I.un (h' := s.heap) (t' := t) Un.refl I.hok
theorem Inv.kept {t' : Nat} (I : Inv X pins σ H s) (k : ∀ b u, s.heap.get? b = some u → h'.get? b = some u) : Inv X pins σ H { s with heap := h', toks := t' } := I.un (Un.kept k) (I.hok.kept k)
theorem Inv.laid {a : Addr} {o : HO} {t' : Nat} (I : Inv X pins σ H s) (k : ∀ b u, s.heap.get? b = some u → h'.get? b = some u) (hp : s.heap.objs.size ≤ a) (new : ObjOk X.prog X.w (upd H a o) h' a o) :
    Inv X pins σ (upd H a o) { s with heap := h', toks := t' } := I.un (Un.laid k hp (I.hok.fresh hp)) (I.hok.laid k hp new)
theorem Inv.write {x e : Addr} {o : HO} {t' : Nat} (I : Inv X pins σ H s) (mu : Mut (H x)) (he : e = x ∨ H e = some (.own x)) (k : ∀ b u, b ≠ e → s.heap.get? b = some u → h'.get? b = some u) (heo : ∃ u, h'.get? e = some u)
    (new : ObjOk X.prog X.w (upd H x o) h' x o) : Inv X pins σ (upd H x o) { s with heap := h', toks := t' } := I.un (Un.write mu he k heo) (I.hok.write mu he k heo new)
theorem Inv.pins_of {pins' : List (Addr × Obj)} (I : Inv X pins σ H s) (h : ∀ p ∈ pins', s.heap.get? p.1 = some p.2 ∧ H p.1 = none ∧ p.1 ≠ X.env.locals ∧ p.1 ∉ X.fs ∧ ∀ v, p.2.data ≠ .cell v) : Inv X pins' σ H s :=
  ⟨I.ok, I.os, I.bare, I.base, I.loc, I.cell, I.free, I.freeC, fun p hp => (List.mem_append.mp hp).elim (fun z => I.pin p (List.mem_append_left _ z)) (h p), I.hok, I.len⟩
theorem nodup_ix {N : List Str} (hN : N.Nodup) {i j : Nat} {x : Str} (a : N[i]? = some x) (b : N[j]? = some x) : i = j := by
  obtain ⟨h1, e1⟩ := List.getElem?_eq_some_iff.mp a
  obtain ⟨h2, e2⟩ := List.getElem?_eq_some_iff.mp b
  exact (List.getElem_inj hN).mp (e1.trans e2.symm)
theorem store_ok2 {M : Model} {A : Around} {E : Value → Shared → Prop} {i : Nat} {x : Str} {v : V} {u : Value} {Q : Unit → Shared → Prop} (I : Inv X pins σ H s) (hN : X.N.Nodup) (hi : X.N[i]? = some x) (hx : Loc X.env.scope x) (r : RelV v u)
    (h : ∀ s', Inv X pins (σ.set i (some v)) H s' → (∃ a, Heap.SameBut a s.heap s'.heap ∧ (a = X.env.locals ∨ X.env.cells.lookup x = some a)) → Q () s') (hf : X.fn x = true ∨ X.env.scope.names.lookup x = some .local := by first | exact .inl rfl | exact .inr rfl | assumption) : wpAny M A (storeName X.env x u) Q E s := by
  obtain ⟨m, hn, hl⟩ := id I.loc
  have hcls : (X.env.scope.kind == .class || (X.env.scope.kind == .module && X.env.locals != X.env.globals)) = false := by rw [I.ok.kind]; rfl
  have hiσ : i < σ.length := by rw [I.len]; exact (List.getElem?_eq_some_iff.mp hi).1
  have cne := I.cne
  have tracked : ∀ {a : Addr} {h' : Heap}, (∃ o, s.heap.get? a = some o ∧ H a = none) → Heap.SameBut a s.heap h' → HOk X.prog X.w H h' := fun {a h'} ha hs b ob e => by
    obtain ⟨_, _, hfree⟩ := ha
    refine (I.hok b ob e).stay (fun c w' hc q => (hs.2 c ?_).trans q) (fun _ q => q) fun _ _ q => q
    rintro rfl
    rcases hc with rfl | hc
    · rw [hfree] at e; cases e
    · rw [hfree] at hc; cases hc
  rcases hx with hk | hk
  · refine wpAny_storeName_local hk hn (fun h' hn' hs => ?_) hcls
    obtain ⟨oL, _, _, hoL, _⟩ := id hn
    refine h _ ⟨I.ok, I.os, I.bare, ⟨fun b o e n hb hx => ?_, fun b o e n hb hx => ?_, I.base.free, fun b o e hx => ?_, I.base.tups, I.base.frzs, I.base.tbls⟩, ⟨_, hn', fun j y v' e1 e2 e3 => ?_⟩, fun y c e => ?_, I.free, I.freeC, fun p hp => ?_, tracked ⟨oL, hoL, I.free⟩ hs, by simpa using I.len⟩ ⟨_, hs, .inl rfl⟩
    · exact (hs.2 b (Nat.ne_of_lt (Nat.lt_of_lt_of_le (Heap.lt_size e) I.ok.above))).trans (I.base.keep b o e n hb hx)
    · obtain ⟨sl, e1⟩ := I.base.slot b o e n hb hx
      exact ⟨sl, (hs.2 b (Nat.ne_of_lt (Nat.lt_of_lt_of_le (Heap.lt_size e) I.ok.above))).trans e1⟩
    · obtain ⟨o', e1⟩ := I.base.there b o e hx
      exact ⟨o', (hs.2 b (Nat.ne_of_lt (Nat.lt_of_lt_of_le (Heap.lt_size e) I.ok.above))).trans e1⟩
    · by_cases hj : j = i
      · subst hj
        rw [hi] at e1; cases e1
        rw [List.getElem?_set_self hiσ] at e2
        cases e2
        exact ⟨u, r, .inl ⟨hk, by simp⟩⟩
      · rw [List.getElem?_set_ne (Ne.symm hj)] at e2
        obtain ⟨u', r', q⟩ := hl j y v' e1 e2 e3
        refine ⟨u', r', ?_⟩
        rcases q with ⟨k, e⟩ | ⟨k, c, e, z⟩
        · refine .inl ⟨k, ?_⟩
          have : y ≠ x := fun e => hj (nodup_ix hN e1 (e ▸ hi))
          simp [this, e]
        · exact .inr ⟨k, c, e, z.sameBut hs (cne y c e)⟩
    · obtain ⟨w', z⟩ := I.cell y c e
      exact ⟨w', z.sameBut hs (cne y c e)⟩
    · obtain ⟨e, n, ne, nf, d⟩ := I.pin p hp
      exact ⟨(hs.2 p.1 ne).trans e, n, ne, nf, d⟩
  · have hfn : X.fn x = true := by
      rcases hf with z | z
      · exact z
      · rw [z] at hk; cases hk
    obtain ⟨c, hc⟩ := I.ok.has x (.inl hk)
    obtain ⟨w', z⟩ := I.cell x c hc
    refine wpAny_storeName_cell I.ok.kind hk hc z (fun h' hc' hs => ?_)
    obtain ⟨oc, hoc, hocd⟩ := id z
    refine h { s with heap := h' } ⟨I.ok, I.os, I.bare, ⟨fun b o e n hb hx => ?_, fun b o e n hb hx => ?_, I.base.free, fun b o e hx => ?_, I.base.tups, I.base.frzs, I.base.tbls⟩, ⟨m, hn.sameBut hs (Ne.symm (cne x c hc)), fun j y v' e1 e2 e3 => ?_⟩, fun y c' e => ?_, I.free, I.freeC, fun p hp => ?_, tracked ⟨oc, hoc, I.freeC x c hc⟩ hs, by simpa using I.len⟩ ⟨c, hs, .inr hc⟩
    · exact (hs.2 b (Nat.ne_of_lt (Nat.lt_of_lt_of_le (Heap.lt_size e) (I.ok.cab x c hfn hc)))).trans (I.base.keep b o e n hb hx)
    · obtain ⟨sl, e1⟩ := I.base.slot b o e n hb hx
      exact ⟨sl, (hs.2 b (Nat.ne_of_lt (Nat.lt_of_lt_of_le (Heap.lt_size e) (I.ok.cab x c hfn hc)))).trans e1⟩
    · obtain ⟨o', e1⟩ := I.base.there b o e hx
      exact ⟨o', (hs.2 b (Nat.ne_of_lt (Nat.lt_of_lt_of_le (Heap.lt_size e) (I.ok.cab x c hfn hc)))).trans e1⟩
    · by_cases hj : j = i
      · subst hj
        rw [hi] at e1; cases e1
        rw [List.getElem?_set_self hiσ] at e2
        cases e2
        exact ⟨u, r, .inr ⟨.inl hk, c, hc, hc'⟩⟩
      · rw [List.getElem?_set_ne (Ne.symm hj)] at e2
        obtain ⟨u', r', q⟩ := hl j y v' e1 e2 e3
        refine ⟨u', r', ?_⟩
        rcases q with q | ⟨k, c', e, z'⟩
        · exact .inl q
        · refine .inr ⟨k, c', e, z'.sameBut hs ?_⟩
          rintro rfl
          exact hj (nodup_ix hN e1 (I.ok.inj _ _ _ e hc ▸ hi))
    · by_cases hcc : c' = c
      · subst hcc; exact ⟨_, hc'⟩
      · obtain ⟨w2, z2⟩ := I.cell y c' e
        exact ⟨w2, z2.sameBut hs hcc⟩
    · obtain ⟨e, n, ne, nf, d⟩ := I.pin p hp
      refine ⟨(hs.2 p.1 ?_).trans e, n, ne, nf, d⟩
      intro q
      rw [q, hoc] at e
      have q' : oc = p.2 := Option.some.inj e
      exact d w' (by rw [← q']; exact hocd)
theorem store_ok {M : Model} {A : Around} {E : Value → Shared → Prop} {i : Nat} {x : Str} {v : V} {u : Value} {Q : Unit → Shared → Prop} (I : Inv X pins σ H s) (hN : X.N.Nodup) (hi : X.N[i]? = some x) (hx : Loc X.env.scope x) (r : RelV v u)
    (h : ∀ s', Inv X pins (σ.set i (some v)) H s' → Q () s') (hf : X.fn x = true ∨ X.env.scope.names.lookup x = some .local := by first | exact .inl rfl | exact .inr rfl | assumption) : wpAny M A (storeName X.env x u) Q E s :=
  store_ok2 I hN hi hx r (fun s' I' _ => h s' I') hf
theorem Inv.call' {s' : Shared} {ch : List Addr} (I : Inv X pins σ H s) (ho : s'.os = s.os) (u : Un (frs X.stack) ch H H' s.heap s'.heap) (hok : HOk X.prog X.w H' s'.heap) (hg : AllBare s'.gens)
    (hch : ∀ b ∈ ch, (b ∈ X.ex ∨ X.s₀.heap.objs.size ≤ b) ∧ b ≠ X.env.locals ∧ (∀ x c, X.env.cells.lookup x = some c → c ≠ b) ∧ ∀ p ∈ X.pn ++ pins, p.1 ≠ b) : Inv X pins σ H' s' := by
  obtain ⟨h', g', d', t', o'⟩ := s'
  have e : o' = s.os := ho
  subst e
  exact I.call (g' := g') (t' := t') (d' := d') u hok hg hch
end
abbrev XK := Value → Option Addr → Hp → Prop
abbrev St := List (Option V)
abbrev VK := V → Hp → Prop
abbrev TE := St → Hp → VK → Prop
abbrev TT := St → Hp → (Bool → Hp → Prop) → Prop
abbrev TA := St → Hp → (List V → Hp → Prop) → Prop
structure Ends where
  nx : St → Hp → Prop
  rt : VK
  bk : St → Hp → Prop := fun _ _ => False
  ct : St → Hp → Prop := fun _ _ => False
abbrev TS := Ends → St → Hp → Prop
def EP (X : Cx) (pins : List (Addr × Obj)) (σ : St) (Q : VK) (u : Value) (s' : Shared) : Prop := ∃ v H', Inv X pins σ H' s' ∧ RelV v u ∧ Q v H'
def TP (X : Cx) (pins : List (Addr × Obj)) (σ : St) (Q : Bool → Hp → Prop) (b : Bool) (s' : Shared) : Prop := ∃ H', Inv X pins σ H' s' ∧ Q b H'
def AP (X : Cx) (pins : List (Addr × Obj)) (σ : St) (Q : List V → Hp → Prop) (us : List Value) (s' : Shared) : Prop := ∃ vs H', Inv X pins σ H' s' ∧ Vals vs us ∧ Q vs H'
def SP (X : Cx) (pins : List (Addr × Obj)) (D : Ends) (f : Flow) (s' : Shared) : Prop :=
  match f with
  | .next => ∃ σ' H', Inv X pins σ' H' s' ∧ D.nx σ' H'
  | .brk => ∃ σ' H', Inv X pins σ' H' s' ∧ D.bk σ' H'
  | .cont => ∃ σ' H', Inv X pins σ' H' s' ∧ D.ct σ' H'
  | .ret u => ∃ v σ' H', Inv X pins σ' H' s' ∧ RelV v u ∧ D.rt v H'
def PE (X : Cx) (e : Expr) (t : TE) : Prop :=
  ∀ (pins : List (Addr × Obj)) (s : Shared) (σ : St) (H : Hp) (Q : VK), Inv X pins σ H s → t σ H Q → wpAny (model X.prog X.w) X.A (eval e X.env) (EP X pins σ Q) X.xe s
def PT (X : Cx) (e : Expr) (t : TT) : Prop :=
  ∀ (pins : List (Addr × Obj)) (s : Shared) (σ : St) (H : Hp) (Q : Bool → Hp → Prop), Inv X pins σ H s → t σ H Q → wpAny (model X.prog X.w) X.A (isTrue e X.env (eval e X.env)) (TP X pins σ Q) X.xe s
def PW (X : Cx) (e : Expr) (t : TT) : Prop :=
  ∀ (whole : Sem Value) (pins : List (Addr × Obj)) (s : Shared) (σ : St) (H : Hp) (Q : Bool → Hp → Prop), Inv X pins σ H s → t σ H Q → wpAny (model X.prog X.w) X.A (isTrue e X.env whole) (TP X pins σ Q) X.xe s
theorem PW.pt {X : Cx} {e : Expr} {t : TT} (h : PW X e t) : PT X e t := h _
def PA (X : Cx) (es : List Expr) (t : TA) : Prop :=
  ∀ (pos : Pos) (pins : List (Addr × Obj)) (s : Shared) (σ : St) (H : Hp) (Q : List V → Hp → Prop), Inv X pins σ H s → t σ H Q → wpAny (model X.prog X.w) X.A (spliced (backTo pos (starEach es X.env))) (AP X pins σ Q) X.xe s
def PS (X : Cx) (st : Stmt) (t : TS) : Prop :=
  ∀ (pins : List (Addr × Obj)) (s : Shared) (σ : St) (H : Hp) (D : Ends), Inv X pins σ H s → t D σ H → wpAny (model X.prog X.w) X.A (exec st X.env) (SP X pins D) X.xe s
def PSs (X : Cx) (st : List Stmt) (t : TS) : Prop :=
  ∀ (pins : List (Addr × Obj)) (s : Shared) (σ : St) (H : Hp) (D : Ends), Inv X pins σ H s → t D σ H → wpAny (model X.prog X.w) X.A (execs st X.env) (SP X pins D) X.xe s
theorem thn {α : Type} {t : Sem α} {Q Q' : α → Shared → Prop} {M : Model} {A : Around} {E : Value → Shared → Prop} {s : Shared} (h : wpAny M A t Q E s) (hQ : ∀ a s, Q a s → Q' a s) : wpAny M A t Q' E s := wpAny_mono h hQ fun _ _ x => x
end L2
namespace L2
open PySem PySem.Spec PyProof.Rows
section
variable {X : Cx}
def tVar (i : Nat) : TE := fun σ H Q => ∃ v, σ[i]? = some (some v) ∧ Q v H
def tC (v : V) : TE := fun _ H Q => Q v H
theorem pe_var {i : Nat} {x : Str} {pos : Pos} (hN : X.N[i]? = some x) (hv : Vis X.env.scope x) (hd : (x == ("__debug__" : Str)) = false := by decide) (hcd : (x == ("__classdict__" : Str)) = false := by decide) : PE X (.Name x pos) (tVar i) := by
  intro pins s σ H Q I h
  obtain ⟨v, e, h⟩ := h
  obtain ⟨m, hn, hl⟩ := I.loc
  obtain ⟨u, r, l⟩ := hl i x v hN e hv
  have fin : EP X pins σ Q u s := ⟨v, H, I, r, h⟩
  rcases l with ⟨hk, hm⟩ | ⟨hk, c, hc, hcell⟩
  · exact wpAny_Name (wpAny_loadName_local I.ok.kind hk hn hm fin) hd
  · rcases hk with hk | hk
    · exact wpAny_Name (wpAny_loadName_cell I.ok.kind hk hc hcell fin) hd
    · exact wpAny_Name (wpAny_loadName_free I.ok.kind hk hc hcell fin hcd) hd
theorem pe_int {i j pos} : PE X (.Constant (.int i) j pos) (tC (.int i)) := fun _ _ _ H _ I h => wpAny_Constant_int ⟨.int i, H, I.tok _, ⟨_, rfl⟩, h⟩
theorem pe_bl {b j pos} : PE X (.Constant (.bool b) j pos) (tC (.bl b)) := fun _ _ _ H _ I h => Constant_bool ⟨.bl b, H, I, rfl, h⟩
theorem pe_non {j pos} : PE X (.Constant .none j pos) (tC .non) := fun _ _ _ H _ I h => Constant_none ⟨.non, H, I, rfl, h⟩
theorem pe_str {x j pos} : PE X (.Constant (.str x) j pos) (tC (.str x)) := fun _ _ _ H _ I h => Calls.Constant_str ⟨.str x, H, I.tok _, ⟨_, rfl⟩, h⟩
def Gl (X : Cx) (x : Str) : Prop := X.env.kindOf x = some .globalImplicit
theorem ld_glob {E : Value → Shared → Prop} {pins : List (Addr × Obj)} {s : Shared} {σ : St} {H : Hp} {x : Str} {u : Value} {pos : Pos} {Q : Value → Shared → Prop} (I : Inv X pins σ H s) (hg : Gl X x) (hm : X.mg x = some u) (h : Q u s)
    (hd : (x == ("__debug__" : Str)) = false := by decide) : wpAny (model X.prog X.w) X.A (eval (.Name x pos) X.env) Q E s :=
  Calls.Name_function_global I.ok.kind hg (Calls.loadGlobal_global (by rw [I.ok.glob]; exact I.mod.glob.keeps I.bk) hm h) hd
theorem ld_blt {E : Value → Shared → Prop} {pins : List (Addr × Obj)} {s : Shared} {σ : St} {H : Hp} {x : Str} {u : Value} {pos : Pos} {Q : Value → Shared → Prop} (I : Inv X pins σ H s) (hg : Gl X x) (hm : X.mg x = none) (hv : bootBuiltins x = some u) (h : Q u s)
    (hn : x ≠ "__name__" := by decide) (hd : (x == ("__debug__" : Str)) = false := by decide) : wpAny (model X.prog X.w) X.A (eval (.Name x pos) X.env) Q E s := by
  obtain ⟨mb, h1, h2⟩ := I.mod.blt
  exact Calls.Name_function_global I.ok.kind hg (Calls.loadGlobal_builtin (by rw [I.ok.glob]; exact I.mod.glob.keeps I.bk) hm (by rw [I.ok.blt]; exact h1.keeps I.bk) ((h2 x hn).trans hv) h) hd
theorem pe_glob {x : Str} {v : V} {u : Value} {pos : Pos} (hg : Gl X x) (hm : X.mg x = some u) (r : RelV v u) (hd : (x == ("__debug__" : Str)) = false := by decide) : PE X (.Name x pos) (tC v) :=
  fun _ _ _ H _ I h => ld_glob I hg hm ⟨v, H, I, r, h⟩ hd
theorem pe_bltn {x : Str} {v : V} {u : Value} {pos : Pos} (hg : Gl X x) (hm : X.mg x = none) (hv : bootBuiltins x = some u) (r : RelV v u) (hn : x ≠ "__name__" := by decide) (hd : (x == ("__debug__" : Str)) = false := by decide) : PE X (.Name x pos) (tC v) :=
  fun _ _ _ H _ I h => ld_blt I hg hm hv ⟨v, H, I, r, h⟩ hn hd
variable {a b : Expr} {ta tb : TE} {pos : Pos}
def PC (X : Cx) (op : CmpOp) (a b : Expr) (t : TE) : Prop :=
  ∀ (pins : List (Addr × Obj)) (s : Shared) (σ : St) (H : Hp) (Q : VK), Inv X pins σ H s → t σ H Q →
    wpAny (model X.prog X.w) X.A (eval a X.env) (fun v s₁ => wpAny (model X.prog X.w) X.A (eval b X.env) (fun u s₂ => wpAny (model X.prog X.w) X.A (compareOp op v u) (EP X pins σ Q) X.xe s₂) X.xe s₁) X.xe s
theorem nobehind (b : Expr) {op : CmpOp} (h : op ≠ .In) (h2 : op ≠ .NotIn) : behindInMarks op b = false := by
  have e1 : (op == CmpOp.In) = false := by cases op <;> first | rfl | exact absurd rfl h
  have e2 : (op == CmpOp.NotIn) = false := by cases op <;> first | rfl | exact absurd rfl h2
  cases b <;> simp [behindInMarks, e1, e2]
def tIsN (ta : TE) : TE := fun σ H Q => ta σ H fun x H1 => Q (.bl (decide (x = .non))) H1
def tNotN (ta : TE) : TE := fun σ H Q => ta σ H fun x H1 => Q (.bl (!decide (x = .non))) H1
theorem RelV.none_iff {x : V} {v : Value} (r : RelV x v) : (v == Value.none) = decide (x = .non) := by
  cases x with
  | non => cases r; rfl
  | bl _ => cases r; rfl
  | int _ => obtain ⟨t, rfl⟩ := r; rfl
  | str _ => obtain ⟨t, rfl⟩ := r; rfl
  | byt _ => obtain ⟨t, rfl⟩ := r; rfl
  | flt _ => obtain ⟨t, rfl⟩ := r; rfl
  | ref _ => cases r; rfl
  | ty _ => cases r; rfl
theorem pc_isN {j pos'} (ha : PE X a ta) : PC X .Is a (.Constant .none j pos') (tIsN ta) := by
  intro pins s σ H Q I h
  refine thn (ha pins s σ H _ I h) fun v s1 ⟨x, H1, I1, r1, q1⟩ => ?_
  exact Constant_none (is_none_gen ⟨.bl _, H1, I1, by rw [r1.none_iff]; rfl, q1⟩)
theorem pc_notN {j pos'} (ha : PE X a ta) : PC X .IsNot a (.Constant .none j pos') (tNotN ta) := by
  intro pins s σ H Q I h
  refine thn (ha pins s σ H _ I h) fun v s1 ⟨x, H1, I1, r1, q1⟩ => ?_
  exact Constant_none (isnot_none_gen ⟨.bl _, H1, I1, by rw [r1.none_iff]; rfl, q1⟩)
def tB (t : TE) : TT := fun σ H Q => t σ H fun x H1 => ∃ c, x = .bl c ∧ Q c H1
theorem pe_cmp {op : CmpOp} {t : TE} (h : PC X op a b t) (h1 : behindInMarks op b = false := by first | exact nobehind _ (by decide) (by decide) | rfl) : PE X (.Compare a [op] [b] pos) t := fun pins s σ H Q I hw => wpAny_Compare1 (h pins s σ H Q I hw) h1
theorem pt_cmp {op : CmpOp} {t : TE} (h : PC X op a b t) (h1 : behindInMarks op b = false := by first | exact nobehind _ (by decide) (by decide) | rfl) : PT X (.Compare a [op] [b] pos) (tB t) := by
  intro pins s σ H Q I hw
  refine wpAny_isTrue_Compare1 (thn (h pins s σ H _ I hw) fun v s1 h1 => thn h1 fun u s2 h2 => thn h2 fun c s3 ⟨x, H1, I1, r1, q1⟩ => ?_) h1
  obtain ⟨d, rfl, q⟩ := q1
  cases r1
  exact wpAny_truthy_bool ⟨H1, I1, q⟩
theorem pt_val {e : Expr} {t : TE} (h : PE X e t) (he : ∀ whole, isTrue e X.env whole = (do let v ← whole; standAt e.pos; holding [v] (truthy v)) := by intro _; rfl) : PT X e (tB t) := by
  intro pins s σ H Q I hw
  refine isTrue_plain (thn (h pins s σ H _ I hw) fun v s1 ⟨x, H1, I1, r1, q1⟩ => ?_) (he _)
  obtain ⟨d, rfl, q⟩ := q1
  cases r1
  exact wpAny_truthy_bool ⟨H1, I1, q⟩
variable {tA tB' : TT} {rest : List Expr}
def tAnd (t u : TT) : TT := fun σ H Q => t σ H fun c H1 => if c = true then u σ H1 Q else Q false H1
def tOr (t u : TT) : TT := fun σ H Q => t σ H fun c H1 => if c = true then Q true H1 else u σ H1 Q
def tNot (t : TT) : TT := fun σ H Q => t σ H fun c H1 => Q (!c) H1
theorem pw_and1 (ha : PT X a tA) : PW X (.BoolOp .And [a] pos) tA := by
  intro wh pins s σ H Q I h
  refine isTrue_and (thn (ha pins s σ H Q I h) fun c s1 e => ?_)
  cases c with
  | true => exact isTrue_and_nil e
  | false => exact e
theorem pw_or1 (ha : PT X a tA) : PW X (.BoolOp .Or [a] pos) tA := by
  intro wh pins s σ H Q I h
  refine isTrue_or (thn (ha pins s σ H Q I h) fun c s1 e => ?_)
  cases c with
  | false => exact isTrue_or_nil e
  | true => exact e
theorem pw_and (ha : PT X a tA) (hb : PW X (.BoolOp .And (b :: rest) pos) tB') : PW X (.BoolOp .And (a :: b :: rest) pos) (tAnd tA tB') := by
  intro wh pins s σ H Q I h
  refine isTrue_and (thn (ha pins s σ H _ I h) fun c s1 ⟨H1, I1, q1⟩ => ?_)
  cases c with
  | true => exact hb wh pins s1 σ H1 Q I1 q1
  | false => exact ⟨H1, I1, q1⟩
theorem pw_or (ha : PT X a tA) (hb : PW X (.BoolOp .Or (b :: rest) pos) tB') : PW X (.BoolOp .Or (a :: b :: rest) pos) (tOr tA tB') := by
  intro wh pins s σ H Q I h
  refine isTrue_or (thn (ha pins s σ H _ I h) fun c s1 ⟨H1, I1, q1⟩ => ?_)
  cases c with
  | true => exact ⟨H1, I1, q1⟩
  | false => exact hb wh pins s1 σ H1 Q I1 q1
theorem pt_not (ha : PT X a tA) : PT X (.UnaryOp .Not a pos) (tNot tA) := by
  intro pins s σ H Q I h
  exact isTrue_not (ha pins s σ H (fun c H1 => Q (!c) H1) I h)
def tAndV (ta tb : TE) : TE := fun σ H Q => ta σ H fun x H1 => ∃ c, x = .bl c ∧ if c = true then tb σ H1 Q else Q (.bl false) H1
def tOrV (ta tb : TE) : TE := fun σ H Q => ta σ H fun x H1 => ∃ c, x = .bl c ∧ if c = true then Q (.bl true) H1 else tb σ H1 Q
def tNotV (ta : TE) : TE := fun σ H Q => ta σ H fun x H1 => ∃ c, x = .bl c ∧ Q (.bl (!c)) H1
theorem pe_one {op} {t : TE} (h : PE X a t) : PE X (.BoolOp op [a] pos) t := fun pins s σ H Q I hw => BoolOp_one (h pins s σ H Q I hw)
theorem pe_and (ha : PE X a ta) (hb : PE X (.BoolOp .And (b :: rest) pos) tb) : PE X (.BoolOp .And (a :: b :: rest) pos) (tAndV ta tb) := by
  intro pins s σ H Q I h
  refine BoolOp_and (thn (ha pins s σ H _ I h) fun v s1 ⟨x, H1, I1, r1, q1⟩ => ?_)
  obtain ⟨c, rfl, q1⟩ := q1
  cases r1
  refine wpAny_truthy_bool ?_
  cases c with
  | true => exact hb pins s1 σ H1 Q I1 q1
  | false => exact ⟨.bl false, H1, I1, rfl, q1⟩
theorem pe_not (ha : PE X a ta) : PE X (.UnaryOp .Not a pos) (tNotV ta) := by
  intro pins s σ H Q I h
  refine UnaryOp_ (thn (ha pins s σ H _ I h) fun v s1 ⟨x, H1, I1, r1, q1⟩ => ?_)
  obtain ⟨c, rfl, q1⟩ := q1
  cases r1
  exact not_of (wpAny_truthy_bool ⟨.bl (!c), H1, I1, rfl, q1⟩)
def tIf (t : TT) (ta tb : TE) : TE := fun σ H Q => t σ H fun c H1 => if c = true then ta σ H1 Q else tb σ H1 Q
end
end L2
namespace L2
open PySem PySem.Spec PyProof.Rows
def SqL (K : PySem.W.Frag) (H : Hp) (a : Addr) (xs : List V) : Prop :=
  Rd H a (.lst xs) ∨
    ∃ (o : Obj) (its : Array Value) (n : Nat), K.lookup a = some o ∧ o.cls = .type "list" ∧ o.dict = none ∧ o.data = .seq its n ∧ its.size ≤ sizeLine ∧ Vals xs its.toList
def SqT (K : PySem.W.Frag) (H : Hp) (a : Addr) (xs : List V) : Prop :=
  Rd H a (.tup xs) ∨
    ∃ (o : Obj) (its : Array Value) (n : Nat), K.lookup a = some o ∧ o.cls = .type "tuple" ∧ o.data = .seq its n ∧ its.size ≤ sizeLine ∧ Vals xs its.toList
def absV : Value → Option V
  | .none => some .non
  | .bool b => some (.bl b)
  | .int i _ => some (.int i)
  | .str x _ => some (.str x)
  | .bytes b _ => some (.byt b)
  | .float b _ => some (.flt b)
  | .ref a => some (.ref a)
  | .type n => some (.ty n)
  | _ => none
theorem RelV.abs {x : V} {u : Value} (r : RelV x u) : absV u = some x := by
  cases x with
  | non => cases r; rfl
  | bl _ => cases r; rfl
  | int _ => obtain ⟨t, rfl⟩ := r; rfl
  | str _ => obtain ⟨t, rfl⟩ := r; rfl
  | byt _ => obtain ⟨t, rfl⟩ := r; rfl
  | flt _ => obtain ⟨t, rfl⟩ := r; rfl
  | ref _ => cases r; rfl
  | ty _ => cases r; rfl
theorem RelV.inj {x y : V} {u : Value} (r : RelV x u) (q : RelV y u) : x = y := Option.some.inj (r.abs.symm.trans q.abs)
theorem Vals.inj : ∀ {xs ys : List V} {us : List Value}, Vals xs us → Vals ys us → xs = ys
  | _, _, _, .nil, .nil => rfl
  | _, _, _, .cons r t, .cons r' t' => by rw [r.inj r', Vals.inj t t']
section
variable {X : Cx} {pins : List (Addr × Obj)} {σ : St} {H : Hp} {s : Shared} {a : Addr} {xs ys : List V}
theorem SqL.of {K : PySem.W.Frag} (h : H a = some (.lst xs)) : SqL K H a xs := .inl (.inl h)
theorem SqT.of {K : PySem.W.Frag} (h : H a = some (.tup xs)) : SqT K H a xs := .inl (.inl h)
theorem Inv.list (I : Inv X pins σ H s) (h : SqL X.K H a xs) : ∃ its : List Value, Vals xs its ∧ PlainL s.heap a its.toArray ∧ xs.length ≤ sizeLine := by
  rcases h with h | ⟨o, its, n, hk, hc, hd, hs, hz, r⟩
  · obtain ⟨z, its, n, r, e⟩ := h.ok I.hok
    exact ⟨its, r, ⟨_, n, e, rfl, rfl, rfl⟩, z⟩
  · refine ⟨its.toList, r, ⟨o, n, I.kIn a o hk, hc, hd, by simpa using hs⟩, ?_⟩
    have e := r.length
    simp only [Array.length_toList] at e
    omega
theorem Inv.tuple (I : Inv X pins σ H s) (h : SqT X.K H a xs) : ∃ its : List Value, Vals xs its ∧ IsTup s.heap a its.toArray ∧ xs.length ≤ sizeLine := by
  rcases h with h | ⟨o, its, n, hk, hc, hs, hz, r⟩
  · obtain ⟨z, its, r, p⟩ := h.ok I.hok
    exact ⟨its, r, p, z⟩
  · refine ⟨its.toList, r, ⟨o, I.kIn a o hk, hc, n, by simpa using hs⟩, ?_⟩
    have e := r.length
    simp only [Array.length_toList] at e
    omega
theorem Inv.list_inj (I : Inv X pins σ H s) (h : SqL X.K H a xs) (h' : SqL X.K H a ys) : xs = ys := by
  obtain ⟨its, r, ⟨o, n, e, _, _, d⟩, _⟩ := I.list h
  obtain ⟨its', r', ⟨o', n', e', _, _, d'⟩, _⟩ := I.list h'
  rw [e] at e'; cases e'
  rw [d] at d'
  injection d' with d1 _
  have : its = its' := by simpa using congrArg Array.toList d1
  subst this
  exact r.inj r'
end
abbrev Cx.wish (X : Cx) (E : Value → Shared → Prop) : Cx := { X with xe := E }
abbrev Cx.nox (X : Cx) : Cx := X.wish fun _ _ => False
theorem Cx.Ok.wish {X : Cx} (ok : X.Ok) (E : Value → Shared → Prop) : (X.wish E).Ok :=
  ⟨ok.mod, ok.kind, ok.glob, ok.blt, ok.above, ok.inj, ok.has, ok.cab, ok.hd, ok.frames, ok.stk, ok.exf, ok.bs, ok.bsz, ok.noex, ok.exfs, ok.funs, ok.frf⟩
theorem Cx.Ok.unwish {X : Cx} {E : Value → Shared → Prop} (ok : (X.wish E).Ok) : X.Ok :=
  ⟨ok.mod, ok.kind, ok.glob, ok.blt, ok.above, ok.inj, ok.has, ok.cab, ok.hd, ok.frames, ok.stk, ok.exf, ok.bs, ok.bsz, ok.noex, ok.exfs, ok.funs, ok.frf⟩
section
variable {X : Cx} {pins : List (Addr × Obj)} {σ : St} {H : Hp} {s : Shared} {E : Value → Shared → Prop}
theorem Inv.wish (I : Inv X pins σ H s) (E : Value → Shared → Prop) : Inv (X.wish E) pins σ H s := ⟨I.ok.wish E, I.os, I.bare, I.base, I.loc, I.cell, I.free, I.freeC, I.pin, I.hok, I.len⟩
theorem Inv.unwish (I : Inv (X.wish E) pins σ H s) : Inv X pins σ H s := ⟨I.ok.unwish, I.os, I.bare, I.base, I.loc, I.cell, I.free, I.freeC, I.pin, I.hok, I.len⟩
theorem SP.unwish {D : Ends} {f : Flow} {s' : Shared} (h : SP (X.wish E) pins D f s') : SP X pins D f s' := by
  cases f with
  | next => obtain ⟨σ', H', I, q⟩ := h; exact ⟨σ', H', I.unwish, q⟩
  | brk => obtain ⟨σ', H', I, q⟩ := h; exact ⟨σ', H', I.unwish, q⟩
  | cont => obtain ⟨σ', H', I, q⟩ := h; exact ⟨σ', H', I.unwish, q⟩
  | ret u => obtain ⟨v, σ', H', I, r, q⟩ := h; exact ⟨v, σ', H', I.unwish, r, q⟩
theorem PE.nox {e : Expr} {t : TE} (h : PE X.nox e t) : PE X e t := fun pins s σ H Q I hw =>
  wpAny_mono (h pins s σ H Q (I.wish _) hw) (fun _ _ ⟨v, H', I', r, q⟩ => ⟨v, H', I'.unwish, r, q⟩) fun _ _ z => False.elim z
theorem PT.nox {e : Expr} {t : TT} (h : PT X.nox e t) : PT X e t := fun pins s σ H Q I hw =>
  wpAny_mono (h pins s σ H Q (I.wish _) hw) (fun _ _ ⟨H', I', q⟩ => ⟨H', I'.unwish, q⟩) fun _ _ z => False.elim z
theorem PSs.nox {st : List Stmt} {t : TS} (h : PSs X.nox st t) : PSs X st t := fun pins s σ H D I hw =>
  wpAny_mono (h pins s σ H D (I.wish _) hw) (fun _ _ q => q.unwish) fun _ _ z => False.elim z
end
section
variable {X : Cx} {st : Stmt} {rest : List Stmt} {t u : TS} {e : Expr} {te : TE} {pos : Pos}
def tNext : TS := fun D σ H => D.nx σ H
def tSeq (t u : TS) : TS := fun D σ H => t { D with nx := u D } σ H
theorem pss_nil : PSs X [] tNext := fun _ _ σ H _ I h => wpAny_execs_nil ⟨σ, H, I, h⟩
theorem pss_cons (h1 : PS X st t) (h2 : PSs X rest u) : PSs X (st :: rest) (tSeq t u) := by
  intro pins s σ H D I h
  refine wpAny_execs_cons (thn (h1 pins s σ H { D with nx := u D } I h) fun f s1 q => ?_)
  cases f with
  | next =>
    obtain ⟨σ', H', I', q⟩ := q
    exact h2 pins s1 σ' H' D I' q
  | ret v => exact q
  | brk => exact q
  | cont => exact q
theorem pss_one (h1 : PS X st t) : PSs X [st] t := by
  intro pins s σ H D I h
  refine wpAny_execs_cons (thn (h1 pins s σ H D I h) fun f s1 q => ?_)
  cases f with
  | next => exact wpAny_execs_nil q
  | ret v => exact q
  | brk => exact q
  | cont => exact q
theorem Inv.quiet {pins : List (Addr × Obj)} {σ : St} {H : Hp} {s : Shared} (I : Inv X pins σ H s) : interactive X.env = false := by simp [interactive, I.ok.kind]
def tDrop (te : TE) : TS := fun D σ H => te σ H fun _ H1 => D.nx σ H1
theorem ps_expr (he : PE X e te) (hs : swapsWith e none pos.line X.env = pure false := by rfl) : PS X (.Expr e pos) (tDrop te) := by
  intro pins s σ H D I h
  exact wpAny_Expr_any (thn (he pins s σ H _ I h) fun v s1 ⟨x, H1, I1, r1, q1⟩ => ⟨σ, H1, I1, q1⟩) I.quiet hs
def tRet (te : TE) : TS := fun D σ H => te σ H D.rt
theorem ps_ret (he : PE X e te) : PS X (.Return (some e) pos) (tRet te) := by
  intro pins s σ H D I h
  exact wpAny_Return_some (thn (he pins s σ H _ I h) fun v s1 ⟨x, H1, I1, r1, q1⟩ => ⟨x, σ, H1, I1, r1, q1⟩)
def tRetN : TS := fun D _ H => D.rt .non H
def tIfS (c : TT) (t u : TS) : TS := fun D σ H => c σ H fun b H1 => if b = true then t D σ H1 else u D σ H1
theorem ps_if {c : Expr} {a b : List Stmt} {tc : TT} (hc : PT X c tc) (ha : PSs X a t) (hb : PSs X b u) : PS X (.If c a b pos) (tIfS tc t u) := by
  intro pins s σ H D I h
  refine wpAny_If (thn (hc pins s σ H _ I h) fun d s1 ⟨H1, I1, q1⟩ => ?_)
  cases d with
  | true => exact ha pins s1 σ H1 D I1 q1
  | false => exact hb pins s1 σ H1 D I1 q1
def tNever : TS := fun _ _ _ => False
theorem pss_never {sts : List Stmt} : PSs X sts tNever := fun _ _ _ _ _ _ h => h.elim
end
abbrev TG := V → St → Hp → (St → Hp → Prop) → Prop
abbrev TGs := List V → St → Hp → (St → Hp → Prop) → Prop
def PG (X : Cx) (target : Expr) (t : TG) : Prop :=
  ∀ (pins : List (Addr × Obj)) (s : Shared) (σ : St) (H : Hp) (v : V) (u : Value) (Q : St → Hp → Prop), Inv X pins σ H s → RelV v u → t v σ H Q →
    wpAny (model X.prog X.w) X.A (assign target X.env u) (fun _ s' => ∃ σ' H', Inv X pins σ' H' s' ∧ Q σ' H') X.xe s
abbrev TSet := V → V → V → Hp → (Hp → Prop) → Prop
def PSet (X : Cx) (t : TSet) : Prop :=
  ∀ (pins : List (Addr × Obj)) (s : Shared) (σ : St) (H : Hp) (o i v : V) (ov iv u : Value) (Q : Hp → Prop), Inv X pins σ H s → RelV o ov → RelV i iv → RelV v u → t o i v H Q →
    wpAny (model X.prog X.w) X.A (setItem ov iv u) (fun _ s' => ∃ H', Inv X pins σ H' s' ∧ Q H') X.xe s
section
variable {X : Cx} {pos : Pos}
def gName (i : Nat) : TG := fun v σ H Q => Q (σ.set i (some v)) H
theorem pg_name {i : Nat} {x : Str} (hN : X.N.Nodup) (hi : X.N[i]? = some x) (hx : Loc X.env.scope x) (hf : X.fn x = true ∨ X.env.scope.names.lookup x = some .local := by first | exact .inl rfl | exact .inr rfl | assumption) : PG X (.Name x pos) (gName i) := by
  intro pins s σ H v u Q I r h
  exact wpAny_assign_Name (store_ok I hN hi hx r (fun s' I' => ⟨_, H, I', h⟩) hf)
def gNil : TGs := fun vs σ H Q => vs = [] ∧ Q σ H
def gCons (t : TG) (u : TGs) : TGs := fun vs σ H Q => ∃ v r, vs = v :: r ∧ t v σ H fun σ' H' => u r σ' H' Q
def gTup (K : PySem.W.Frag) (n : Nat) (t : TGs) : TG := fun v σ H Q => ∃ a xs, v = .ref a ∧ SqT K H a xs ∧ xs.length = n ∧ t xs σ H Q
def gSub (to ti : TE) (t : TSet) : TG := fun v σ H Q => to σ H fun o H1 => ti σ H1 fun i H2 => t o i v H2 fun H3 => Q σ H3
theorem pg_sub {o i : Expr} {to ti : TE} {t : TSet} (ho : PE X o to) (hi : PE X i ti) (hs : PSet X t)
    (ha : ∀ v, assign (.Subscript o i pos) X.env v = (do
      let ov ← holding [v] (eval o X.env)
      let iv ← holding [v, ov] (eval i X.env)
      standAt pos
      holding [v, ov, iv] (setItem ov iv v)
      release [v, ov, iv] []) := by intro _; rfl) : PG X (.Subscript o i pos) (gSub to ti t) := by
  intro pins s σ H v u Q I r h
  rw [ha]
  refine wpAny_bind (wpAny_holding (thn (ho pins s σ H _ I h) fun ov s1 ⟨x, H1, I1, r1, q1⟩ => ?_))
  refine wpAny_bind (wpAny_holding (thn (hi pins s1 σ H1 _ I1 q1) fun iv s2 ⟨y, H2, I2, r2, q2⟩ => ?_))
  refine wpAny_bind (wpAny_standAt (wpAny_bind (wpAny_holding (thn (hs pins s2 σ H2 x y v ov iv u _ I2 r1 r2 r q2) fun _ s3 ⟨H3, I3, q3⟩ => ?_))))
  exact wpAny_release ⟨σ, H3, I3, q3⟩
def tAsg (te : TE) (g : TG) : TS := fun D σ H => te σ H fun x H1 => g x σ H1 D.nx
theorem ps_asg {tg e : Expr} {te : TE} {g : TG} (he : PE X e te) (hg : PG X tg g) (hs : swapsWithSole [tg] e pos.line X.env = pure false := by rfl) (hw : swappedStores [tg] e X.env = pure none := by rfl)
    (h1 : (assignEach [tg] X.env).map (·.2) = [assign tg X.env] := by rfl) : PS X (.Assign [tg] e pos) (tAsg te g) := by
  intro pins s σ H D I h
  refine wpAny_Assign_stores (thn (he pins s σ H _ I h) fun v s1 ⟨x, H1, I1, r1, q1⟩ => ?_) hs hw
  rw [h1]
  exact thn (hg pins s1 σ H1 x v _ I1 r1 q1) fun _ s2 q => q
theorem ps_set {i : Nat} {x : Str} {e : Expr} {te : TE} {pos' : Pos} (hN : X.N.Nodup) (hi : X.N[i]? = some x) (hx : Loc X.env.scope x) (he : PE X e te) (hs : swapsWith e (some (.Name x pos')) pos.line X.env = pure false := by rfl) (hf : X.fn x = true ∨ X.env.scope.names.lookup x = some .local := by first | exact .inl rfl | exact .inr rfl | assumption) :
    PS X (.Assign [.Name x pos'] e pos) (tAsg te (gName i)) := by
  intro pins s σ H D I h
  refine wpAny_Assign_Name (thn (he pins s σ H _ I h) fun v s1 ⟨y, H1, I1, r1, q1⟩ => ?_) hs
  exact store_ok I1 hN hi hx r1 (fun s2 I2 => ⟨_, H1, I2, q1⟩) hf
end
section
variable {X : Cx} {pos : Pos}
end
structure It where
  go : Nat → Hp → Prop
  yld : Nat → Hp → V → Hp → Prop
  stop : Nat → Hp → Prop
def FpOk (X : Cx) (pins : List (Addr × Obj)) (H : Hp) (b : Addr) : Prop :=
  H b = none ∧ b ≠ X.env.locals ∧ b ∉ X.fs ∧ (b ∈ X.ex ∨ X.s₀.heap.objs.size ≤ b) ∧ (∀ x c, X.env.cells.lookup x = some c → c ≠ b) ∧ ∀ p ∈ X.pn ++ pins, p.1 ≠ b
theorem Inv.fpOk {X : Cx} {pins : List (Addr × Obj)} {σ : St} {H H' : Hp} {s : Shared} {b : Addr} (I : Inv X pins σ H s) (hb : s.heap.objs.size ≤ b) (hn : H' b = none) : FpOk X pins H' b := by
  refine ⟨hn, Nat.ne_of_gt (Nat.lt_of_lt_of_le I.lt hb), I.nofs hb, .inr (Nat.le_trans I.sz hb), fun x c e z => ?_, fun p hp z => ?_⟩
  · obtain ⟨v, q⟩ := I.cell x c e
    exact absurd (Nat.lt_of_lt_of_le q.lt (by rw [z]; exact hb)) (Nat.lt_irrefl _)
  · exact absurd (Nat.lt_of_lt_of_le (Heap.lt_size (I.pin p hp).1) (by rw [z]; exact hb)) (Nat.lt_irrefl _)
structure Turn (P : Program) (w : World) (K : PySem.W.Frag) (tg : Expr) (J : It) (fp : List Addr) (it : Addr) (tn : Nat → Heap → Prop) : Prop where
  mem : it ∈ fp
  obj : ∀ i h, tn i h → ∀ b ∈ fp, ∃ o, h.get? b = some o ∧ ∀ v, o.data ≠ .cell v
  keep : ∀ i h h', tn i h → (∀ b ∈ fp, ∀ o, h.get? b = some o → h'.get? b = some o) → tn i h'
  item : ∀ (X : Cx), X.prog = P → X.w = w → X.K = K → X.calm = true → ∀ (i : Nat) (pins : List (Addr × Obj)) (s : Shared) (σ : St) (H : Hp) (E : Value → Shared → Prop), Inv X pins σ H s → (∀ b ∈ fp, FpOk X pins H b) → tn i s.heap → J.go i H →
    wpAny (model P w) X.A (pyNext (.ref it)) (fun r s1 => ∃ u, r = some u ∧
      wpAny (model P w) X.A (letOwnedTupleGo tg (.ref it) u) (fun _ s2 => ∃ x H', Inv X pins σ H' s2 ∧ RelV x u ∧ J.yld i H x H' ∧ tn (i + 1) s2.heap ∧ ∀ b ∈ fp, H' b = none) E s1) E s
  done : ∀ (X : Cx), X.prog = P → X.w = w → X.K = K → X.calm = true → ∀ (i : Nat) (pins : List (Addr × Obj)) (s : Shared) (σ : St) (H : Hp) (E : Value → Shared → Prop), Inv X pins σ H s → (∀ b ∈ fp, FpOk X pins H b) → tn i s.heap → J.stop i H →
    wpAny (model P w) X.A (pyNext (.ref it)) (fun r s1 => r = none ∧ Inv X pins σ H s1) E s
  self : ∀ (A : Around) (i : Nat) (s : Shared) (Q : Value → Shared → Prop) (E : Value → Shared → Prop), tn i s.heap → Q (.ref it) s → wpAny (model P w) A (pyIter (.ref it)) Q E s
abbrev TI := St → Hp → (It → Hp → Prop) → Prop
def PIE (X : Cx) (pins : List (Addr × Obj)) (σ : St) (tg : Expr) (R : It → Hp → Prop) (itv : Value) (s2 : Shared) : Prop :=
  ∃ (it : Addr) (fp : List Addr) (tn : Nat → Heap → Prop) (J : It) (H' : Hp), itv = .ref it ∧ Inv X pins σ H' s2 ∧ Turn X.prog X.w X.K tg J fp it tn ∧ tn 0 s2.heap ∧ (∀ b ∈ fp, FpOk X pins H' b) ∧ R J H'
def PI (X : Cx) (tg iter : Expr) (wi : TI) : Prop :=
  ∀ (pins : List (Addr × Obj)) (s : Shared) (σ : St) (H : Hp) (R : It → Hp → Prop), Inv X pins σ H s → wi σ H R →
    wpAny (model X.prog X.w) X.A (eval iter X.env) (fun v s1 => wpAny (model X.prog X.w) X.A (pyIter v) (PIE X pins σ tg R) X.xe s1) X.xe s
theorem go_of {M : Model} {A : Around} {E : Value → Shared → Prop} {s : Shared} {tg : Expr} {it : Addr} {u : Value} {o : Obj} {n : String} {vs : Array Value} {Q : Unit → Shared → Prop} (ho : s.heap.get? it = some o) (hc : o.cls = .type n) (hd : o.data = .fields vs)
    (hn : ["enumerate", "zip", "dict_itemiterator", "dict_reverseitemiterator", "odict_iterator", "itertools.zip_longest", "itertools.pairwise"].contains n = false) (hQ : Q () s) : wpAny M A (letOwnedTupleGo tg (.ref it) u) Q E s := by
  unfold letOwnedTupleGo
  cases tg <;> first
    | exact wpAny_pure hQ
    | (cases u <;> first
        | exact wpAny_pure hQ
        | (refine wpAny_bind (wpAny_load ho ?_)
           rw [hc, hd]
           show wpAny M A (if (["enumerate", "zip", "dict_itemiterator", "dict_reverseitemiterator", "odict_iterator", "itertools.zip_longest", "itertools.pairwise"].contains n && vs[0]? == some (rawInt _)) = true then _ else _) Q E s
           rw [if_neg (by intro h; rw [hn, Bool.false_and] at h; cases h)]
           exact wpAny_pure hQ))
def Itl (K : PySem.W.Frag) (a : Addr) : It :=
  ⟨fun i H => ∃ xs x, SqL K H a xs ∧ xs[i]? = some x, fun i H x H' => H' = H ∧ ∀ xs, SqL K H a xs → xs[i]? = some x, fun i H => ∃ xs, SqL K H a xs ∧ xs.length ≤ i⟩
def Itr (lo : Int) (n : Nat) : It := ⟨fun i _ => i < n, fun i H x H' => H' = H ∧ x = .int (lo + i), fun i _ => n ≤ i⟩
theorem turn_list {P : Program} {w : World} {K : PySem.W.Frag} {tg : Expr} (a it : Addr) : Turn P w K tg (Itl K a) [it] it (fun i h => h.IsListIter it a i) where
  mem := by simp
  obj := fun i h st b hb => by
    have e : b = it := by simpa using hb
    subst e
    obtain ⟨o, e, c, d⟩ := st
    exact ⟨o, e, fun v z => by rw [d] at z; cases z⟩
  keep := fun i h h' st k => st.at fun o e => k it (by simp) o e
  item := by
    intro X hP hw hK hc i pins s σ H E I hf st hg
    subst hP hw hK
    obtain ⟨xs, x, hq, hx⟩ := hg
    obtain ⟨its, rv, p, hz⟩ := I.list hq
    obtain ⟨u, hu, ru⟩ := rv.get hx
    obtain ⟨f0, f1, f2, f3, f4, f5⟩ := hf it (by simp)
    refine wpAny_pyNext_list_item st p.isList (x := u) (by simpa using hu) fun h' st' sb => ?_
    have I1 : Inv X pins σ H { s with heap := h' } := I.turned (t' := s.toks) (fun b o hb e => (sb.2 b hb).trans e) f0 f1 f3 f4 f5
    obtain ⟨o, e, c, d⟩ := id st'
    exact ⟨u, rfl, go_of (s := { s with heap := h' }) e c d (by decide) ⟨x, H, I1, ru, ⟨rfl, fun ys hy => by rw [I.list_inj hy hq]; exact hx⟩, st', fun b hb => (hf b hb).1⟩⟩
  done := by
    intro X hP hw hK hc i pins s σ H E I hf st hg
    subst hP hw hK
    obtain ⟨xs, hq, hx⟩ := hg
    obtain ⟨its, rv, p, hz⟩ := I.list hq
    obtain ⟨f0, f1, f2, f3, f4, f5⟩ := hf it (by simp)
    have hl := rv.length
    exact wpAny_pyNext_list_end (I.ok.hd hc) st p.isList (by simp; omega) fun h' eb => ⟨rfl, I.turned (t' := s.toks) (fun b o hb e => eb b o hb e) f0 f1 f3 f4 f5⟩
  self := fun _ _ _ _ _ st h => wpAny_pyIter_listiter st h
theorem turn_range {P : Program} {w : World} {K : PySem.W.Frag} {tg : Expr} (it : Addr) (lo : Int) (n : Nat) : Turn P w K tg (Itr lo n) [it] it (fun i h => IsRangeIter h it (lo + (i : Nat) * 1) ((n : Int) - (i : Nat)) 1) where
  mem := by simp
  obj := fun i h st b hb => by
    have e : b = it := by simpa using hb
    subst e
    exact ⟨_, st, fun v z => by
      have z' : Data.fields _ = Data.cell v := z
      cases z'⟩
  keep := fun i h h' st k => k it (by simp) _ st
  item := by
    intro X hP hw hK hc i pins s σ H E I hf st hg
    subst hP hw hK
    obtain ⟨f0, f1, f2, f3, f4, f5⟩ := hf it (by simp)
    have W := Walks.range (prog := X.prog) (w := X.w) (I.ok.hd hc) it lo 1 n
    refine W.item i s _ _ hg st fun v h' tk hv st' kk => ?_
    obtain ⟨t, rfl⟩ := hv
    have I1 : Inv X pins σ H { s with heap := h', toks := tk } := I.turned (fun b o hb e => kk b o (by simpa using hb) e) f0 f1 f3 f4 f5
    refine ⟨_, rfl, go_of (s := { s with heap := h', toks := tk }) (n := "range_iterator") st' rfl rfl (by decide) ⟨.int (lo + i), H, I1, ⟨t, ?_⟩, ⟨rfl, rfl⟩, st', fun b hb => (hf b hb).1⟩⟩
    rw [Int.mul_one]
  done := by
    intro X hP hw hK hc i pins s σ H E I hf st hg
    subst hP hw hK
    obtain ⟨f0, f1, f2, f3, f4, f5⟩ := hf it (by simp)
    exact wpAny_pyNext_range_end (I.ok.hd hc) st (by have : n ≤ i := hg; omega) fun h' eb => ⟨rfl, I.turned (t' := s.toks) (fun b o hb e => eb b o hb e) f0 f1 f3 f4 f5⟩
  self := fun _ _ _ _ _ st h => wpAny_pyIter_rangeiter st h
end L2
namespace L2
open PySem PySem.Spec PyProof.Rows
section
variable {X : Cx} {tg : Expr}
def iList (K : PySem.W.Frag) (tl : TE) : TI := fun σ H R => tl σ H fun x H1 => ∃ a, x = .ref a ∧ (∃ xs, SqL K H1 a xs) ∧ R (Itl K a) H1
theorem pi_list {l : Expr} {tl : TE} (hl : PE X l tl) : PI X tg l (iList X.K tl) := by
  intro pins s σ H R I h
  refine thn (hl pins s σ H _ I h) fun v s1 ⟨x, H1, I1, r1, q1⟩ => ?_
  obtain ⟨a, e, ⟨xs, hq⟩, q⟩ := q1
  subst e
  cases r1
  obtain ⟨its, rv, p, hz⟩ := I1.list hq
  refine wpAny_pyIter_list p.isList ?_
  refine ⟨s1.heap.objs.size, [s1.heap.objs.size], _, _, H1, rfl, I1.kept (t' := s1.toks) fun b o e => Heap.get?_push_of_some _ e, turn_list a _, ⟨_, Heap.get?_push_size _ rfl, rfl, rfl⟩, fun b hb => ?_, q⟩
  have e : b = s1.heap.objs.size := by simpa using hb
  subst e
  exact I1.fpOk (Nat.le_refl _) (I1.hok.fresh (Nat.le_refl _))
theorem range_it {pins : List (Addr × Obj)} {σ : St} {H : Hp} {s : Shared} {R : It → Hp → Prop} {E : Value → Shared → Prop} {lo hi : Int} {t u v : Tok} {tk : Nat} (I : Inv X pins σ H s) (h1 : -(2 ^ 62) ≤ lo) (h2 : lo < 2 ^ 62) (h3 : -(2 ^ 62) ≤ hi) (h4 : hi < 2 ^ 62)
    (q : R (Itr lo (hi - lo).toNat) H) : wpAny (model X.prog X.w) X.A (pyIter (.ref s.heap.objs.size)) (PIE X pins σ tg R) E { s with heap := s.heap.push { cls := .type "range", data := .fields #[.int lo t, .int hi u, .int 1 v] }, toks := tk } := by
  refine wpAny_pyIter_range (IsRange.new ..) (small_one h1 h2 h3 h4) ?_
  have I1 : Inv X pins σ H { s with heap := s.heap.push { cls := .type "range", data := .fields #[.int lo t, .int hi u, .int 1 v] }, toks := tk } := I.kept fun b o e => Heap.get?_push_of_some _ e
  refine ⟨(s.heap.push { cls := .type "range", data := .fields #[.int lo t, .int hi u, .int 1 v] }).objs.size, [(s.heap.push { cls := .type "range", data := .fields #[.int lo t, .int hi u, .int 1 v] }).objs.size], _, _, H, rfl,
    I1.kept (t' := tk) fun b o e => Heap.get?_push_of_some _ e, turn_range _ lo (hi - lo).toNat, ?_, fun b hb => ?_, q⟩
  · have e1 : lo + ((0 : Nat) : Int) * 1 = lo := by simp
    have e2 : (((hi - lo).toNat : Nat) : Int) - ((0 : Nat) : Int) = Builtin.Range.rangeSize lo hi 1 := by rw [rangeSize_one]; split <;> omega
    show IsRangeIter _ _ (lo + ((0 : Nat) : Int) * 1) ((((hi - lo).toNat : Nat) : Int) - ((0 : Nat) : Int)) 1
    rw [e1, e2]
    exact Heap.get?_push_size _ rfl
  · have e : b = (s.heap.push { cls := .type "range", data := .fields #[.int lo t, .int hi u, .int 1 v] }).objs.size := by simpa using hb
    subst e
    exact I1.fpOk (Nat.le_refl _) (I1.hok.fresh (Nat.le_refl _))
def iRng1 (ta : TA) : TI := fun σ H R => ta σ H fun vs H1 => ∃ j : Int, vs = [.int j] ∧ -(2 ^ 62) ≤ j ∧ j < 2 ^ 62 ∧ R (Itr 0 j.toNat) H1
def iRng2 (ta : TA) : TI := fun σ H R => ta σ H fun vs H1 => ∃ i j : Int, vs = [.int i, .int j] ∧ (-(2 ^ 62) ≤ i ∧ i < 2 ^ 62 ∧ -(2 ^ 62) ≤ j ∧ j < 2 ^ 62) ∧ R (Itr i (j - i).toNat) H1
theorem pi_range1 {a : Expr} {ta : TA} {p pos : Pos} (hg : Gl X "range") (hm : X.mg "range" = none) (ha : PA X [a] ta) (hs : starEach [a] X.env = [(false, eval a X.env)] := by rfl) : PI X tg (.Call (.Name "range" p) [a] [] pos) (iRng1 ta) := by
  intro pins s σ H R I h
  refine Call_ (ld_blt I hg hm boot_range (PyProof.Rows.callWith_type1 (thn (ha pos pins s σ H _ I h) fun us s1 ⟨vs, H1, I1, r1, q1⟩ => ?_) hs rfl))
  obtain ⟨j, e, q1, q2, q⟩ := q1
  subst e
  cases r1 with
  | cons r rr =>
    cases rr
    obtain ⟨t, rfl⟩ := r
    exact call_range_1 (range_it I1 (by omega) (by omega) q1 q2 (by simpa using q))
def tFor (wi : TI) (g : TG) (tb : TS) : TS := fun D σ H => wi σ H fun J H1 => ∃ W : Nat → Nat → St → Hp → Prop, (∃ m, W 0 m σ H1) ∧ ∀ i m σ H, W i m σ H →
  (J.stop i H ∧ D.nx σ H) ∨ (J.go i H ∧ ∃ N : St → Hp → Prop, (∀ σ' H', N σ' H' → ∃ m', m' < m ∧ W (i + 1) m' σ' H') ∧ ∀ x H', J.yld i H x H' → g x σ H' fun σ2 H2 => tb { D with nx := N, ct := N, bk := D.nx } σ2 H2)
def pinsAt (fp : List Addr) (h : Heap) : List (Addr × Obj) := fp.filterMap fun b => (h.get? b).map fun o => (b, o)
theorem mem_pinsAt {fp : List Addr} {h : Heap} {b : Addr} {o : Obj} (hb : b ∈ fp) (e : h.get? b = some o) : (b, o) ∈ pinsAt fp h := List.mem_filterMap.mpr ⟨b, hb, by rw [e]; rfl⟩
theorem of_pinsAt {fp : List Addr} {h : Heap} {p : Addr × Obj} (hp : p ∈ pinsAt fp h) : p.1 ∈ fp ∧ h.get? p.1 = some p.2 := by
  obtain ⟨b, hb, e⟩ := List.mem_filterMap.mp hp
  cases q : h.get? b with
  | none => rw [q] at e; cases e
  | some o =>
    rw [q] at e
    have e' : (b, o) = p := Option.some.inj e
    subst e'
    exact ⟨hb, q⟩
theorem Inv.pinned {pins : List (Addr × Obj)} {σ : St} {H : Hp} {s : Shared} {fp : List Addr} (I : Inv X pins σ H s) (hf : ∀ b ∈ fp, FpOk X pins H b) (ho : ∀ b ∈ fp, ∃ o, s.heap.get? b = some o ∧ ∀ v, o.data ≠ .cell v) : Inv X (pins ++ pinsAt fp s.heap) σ H s :=
  I.pins_of fun p hp => (List.mem_append.mp hp).elim (fun z => I.pin p (List.mem_append_right _ z)) fun z => by
    obtain ⟨hb, e⟩ := of_pinsAt z
    obtain ⟨f0, f1, f2, _⟩ := hf p.1 hb
    obtain ⟨o, e', d⟩ := ho p.1 hb
    rw [e] at e'; cases e'
    exact ⟨e, f0, f1, f2, d⟩
theorem Inv.unpinned {pins pl : List (Addr × Obj)} {σ : St} {H : Hp} {s : Shared} (I : Inv X (pins ++ pl) σ H s) : Inv X pins σ H s := I.pins_of fun p hp => I.pin p (List.mem_append_right _ (List.mem_append_left _ hp))
theorem ps_for {iter : Expr} {body : List Stmt} {wi : TI} {g : TG} {tb : TS} {pos : Pos} (hp : PassesOwn (model X.prog X.w) X.A X.env X.xe) (hc : X.calm = true) (hi : PI X tg iter wi) (hg : PG X tg g) (hb : PSs X body tb)
    (hs : ∀ x, foldedSetIterable iter X.env x = pure x := by intro _; rfl) : PS X (.For tg iter body [] pos) (tFor wi g tb) := by
  intro pins s σ H D I h
  refine wpAny_For (thn (hi pins s σ H _ I h) fun v s1 h1 => thn h1 fun itv s2 h2 => ?_) hs
  obtain ⟨it, fp, tn, J, H2, e, I2, T, st2, f2, W, ⟨m0, w0⟩, turn⟩ := h2
  subst e
  -- what stays true of the iterator's objects through the loop
  have stat : ∀ {H' : Hp}, (∀ b ∈ fp, H' b = none) → ∀ b ∈ fp, FpOk X pins H' b := fun hn b hb => ⟨hn b hb, (f2 b hb).2⟩
  refine codeAny_forLoop_any (fun n s' => ∃ i σ' H', Inv X pins σ' H' s' ∧ tn i s'.heap ∧ (∀ b ∈ fp, H' b = none) ∧ W i n σ' H') ?_ m0 ⟨0, σ, H2, I2, st2, fun b hb => (f2 b hb).1, w0⟩
  rintro n s3 ⟨i, σ3, H3, I3, st3, fr3, w3⟩
  rcases turn i n σ3 H3 w3 with ⟨stop, qn⟩ | ⟨go, N, hN, step⟩
  · refine wpAny_passesOwn hp (thn (T.done X rfl rfl rfl hc i pins s3 σ3 H3 X.xe I3 (stat fr3) st3 stop) fun r s4 ⟨hr, I4⟩ => ?_)
    subst hr
    exact wpAny_execs_nil ⟨σ3, H3, I4, qn⟩
  · refine wpAny_passesOwn hp (thn (T.item X rfl rfl rfl hc i pins s3 σ3 H3 X.xe I3 (stat fr3) st3 go) fun r s4 ⟨u, hr, h4⟩ => ?_)
    subst hr
    refine wpAny_passesOwn hp (thn h4 fun _ s5 ⟨x, H5, I5, r5, y5, st5, fr5⟩ => ?_)
    have I5' := I5.pinned (stat fr5) (T.obj _ _ st5)
    refine wpAny_passesOwn hp (thn (hg _ s5 σ3 H5 x u _ I5' r5 (step x H5 y5)) fun _ s6 ⟨σ6, H6, I6, q6⟩ => ?_)
    refine wpAny_passesOwn hp (thn (hb _ s6 σ6 H6 _ I6 q6) fun f s7 q7 => ?_)
    have again : ∀ {σ7 : St} {H7 : Hp}, Inv X (pins ++ pinsAt fp s5.heap) σ7 H7 s7 → N σ7 H7 → ∃ m, m < n ∧ ∃ i σ' H', Inv X pins σ' H' s7 ∧ tn i s7.heap ∧ (∀ b ∈ fp, H' b = none) ∧ W i m σ' H' := fun {σ7 H7} I7 n7 => by
      obtain ⟨m', hm, w7⟩ := hN σ7 H7 n7
      refine ⟨m', hm, i + 1, σ7, H7, I7.unpinned, T.keep _ _ _ st5 fun b hb o e => (I7.pin (b, o) (List.mem_append_right _ (List.mem_append_right _ (mem_pinsAt hb e)))).1, fun b hb => ?_, w7⟩
      obtain ⟨o, e, d⟩ := T.obj _ _ st5 b hb
      exact (I7.pin (b, o) (List.mem_append_right _ (List.mem_append_right _ (mem_pinsAt hb e)))).2.1
    cases f with
    | next => obtain ⟨σ7, H7, I7, n7⟩ := q7; exact again I7 n7
    | cont => obtain ⟨σ7, H7, I7, n7⟩ := q7; exact again I7 n7
    | brk => obtain ⟨σ7, H7, I7, q7⟩ := q7; exact ⟨σ7, H7, I7.unpinned, q7⟩
    | ret v => obtain ⟨x7, σ7, H7, I7, r7, q7⟩ := q7; exact ⟨x7, σ7, H7, I7.unpinned, r7, q7⟩
end
theorem for_list {K : PySem.W.Frag} {a : Addr} {xs : List V} {g : TG} {tb : TS} {D : Ends} {σ : St} {H : Hp} (Pv : Nat → St → Hp → Prop) (h0 : Pv 0 σ H) (hl : ∀ i σ H, i ≤ xs.length → Pv i σ H → SqL K H a xs)
    (hs : ∀ i x σ H, xs[i]? = some x → Pv i σ H → g x σ H fun σ2 H2 => tb { D with nx := Pv (i + 1), ct := Pv (i + 1), bk := D.nx } σ2 H2) (hd : ∀ σ H, Pv xs.length σ H → D.nx σ H) :
    ∃ W : Nat → Nat → St → Hp → Prop, (∃ m, W 0 m σ H) ∧ ∀ i m σ H, W i m σ H →
      ((Itl K a).stop i H ∧ D.nx σ H) ∨ ((Itl K a).go i H ∧ ∃ N : St → Hp → Prop, (∀ σ' H', N σ' H' → ∃ m', m' < m ∧ W (i + 1) m' σ' H') ∧ ∀ x H', (Itl K a).yld i H x H' → g x σ H' fun σ2 H2 => tb { D with nx := N, ct := N, bk := D.nx } σ2 H2) := by
  refine ⟨fun i m σ H => m = xs.length - i ∧ i ≤ xs.length ∧ Pv i σ H, ⟨xs.length, by simp, Nat.zero_le _, h0⟩, ?_⟩
  rintro i m σ H ⟨rfl, hi, p⟩
  have q := hl i σ H hi p
  by_cases hlt : i < xs.length
  · refine .inr ⟨⟨xs, xs[i], q, by simp [hlt]⟩, Pv (i + 1), fun σ' H' p' => ⟨xs.length - (i + 1), by omega, rfl, hlt, p'⟩, fun x H' y => ?_⟩
    obtain ⟨e, y⟩ := y
    subst e
    exact hs i x σ _ (y xs q) p
  · have e : i = xs.length := by omega
    subst e
    exact .inl ⟨⟨xs, q, Nat.le_refl _⟩, hd σ H p⟩
theorem for_range {lo : Int} {n : Nat} {g : TG} {tb : TS} {D : Ends} {σ : St} {H : Hp} (Pv : Nat → St → Hp → Prop) (h0 : Pv 0 σ H)
    (hs : ∀ i σ H, i < n → Pv i σ H → g (.int (lo + i)) σ H fun σ2 H2 => tb { D with nx := Pv (i + 1), ct := Pv (i + 1), bk := D.nx } σ2 H2) (hd : ∀ σ H, Pv n σ H → D.nx σ H) :
    ∃ W : Nat → Nat → St → Hp → Prop, (∃ m, W 0 m σ H) ∧ ∀ i m σ H, W i m σ H →
      ((Itr lo n).stop i H ∧ D.nx σ H) ∨ ((Itr lo n).go i H ∧ ∃ N : St → Hp → Prop, (∀ σ' H', N σ' H' → ∃ m', m' < m ∧ W (i + 1) m' σ' H') ∧ ∀ x H', (Itr lo n).yld i H x H' → g x σ H' fun σ2 H2 => tb { D with nx := N, ct := N, bk := D.nx } σ2 H2) := by
  refine ⟨fun i m σ H => m = n - i ∧ i ≤ n ∧ Pv i σ H, ⟨n, by simp, Nat.zero_le _, h0⟩, ?_⟩
  rintro i m σ H ⟨rfl, hi, p⟩
  by_cases hlt : i < n
  · refine .inr ⟨hlt, Pv (i + 1), fun σ' H' p' => ⟨n - (i + 1), by omega, rfl, hlt, p'⟩, fun x H' y => ?_⟩
    obtain ⟨e, y⟩ := y
    subst e y
    exact hs i σ _ hlt p
  · have e : i = n := by omega
    subst e
    exact .inl ⟨Nat.le_refl _, hd σ H p⟩
end L2
namespace L2
open PySem PySem.Spec PyProof.Rows
abbrev R2 := V → V → Hp → VK → Prop
def OpR (X : Cx) (f : Value → Value → Sem Value) (r : R2) : Prop :=
  ∀ (pins : List (Addr × Obj)) (s : Shared) (σ : St) (H : Hp) (x y : V) (v u : Value) (Q : VK), Inv X pins σ H s → RelV x v → RelV y u → r x y H Q →
    wpAny (model X.prog X.w) X.A (f v u) (EP X pins σ Q) X.xe s
def UnR (X : Cx) (f : Value → Sem Value) (r : V → Hp → VK → Prop) : Prop :=
  ∀ (pins : List (Addr × Obj)) (s : Shared) (σ : St) (H : Hp) (x : V) (v : Value) (Q : VK), Inv X pins σ H s → RelV x v → r x H Q →
    wpAny (model X.prog X.w) X.A (f v) (EP X pins σ Q) X.xe s
def CallR (X : Cx) (f : Value) (r : List V → Hp → VK → Prop) : Prop :=
  ∀ (pins : List (Addr × Obj)) (s : Shared) (σ : St) (H : Hp) (xs : List V) (us : List Value) (Q : VK), Inv X pins σ H s → Vals xs us → r xs H Q →
    wpAny (model X.prog X.w) X.A (call f us) (EP X pins σ Q) X.xe s
def tOp (r : R2) (ta tb : TE) : TE := fun σ H Q => ta σ H fun x H1 => tb σ H1 fun y H2 => r x y H2 Q
def tUn (r : V → Hp → VK → Prop) (ta : TE) : TE := fun σ H Q => ta σ H fun x H1 => r x H1 Q
def rI (C : Int → Int → Prop) (g : Int → Int → V) : R2 := fun x y H Q => ∃ i j, x = .int i ∧ y = .int j ∧ C i j ∧ Q (g i j) H
def rI0 (g : Int → Int → V) : R2 := fun x y H Q => ∃ i j, x = .int i ∧ y = .int j ∧ Q (g i j) H
def rU (g : Int → V) : V → Hp → VK → Prop := fun x H Q => ∃ i, x = .int i ∧ Q (g i) H
section
variable {X : Cx} {a b c : Expr} {ta tb tc : TE} {pos : Pos}
theorem binT (ha : PE X a ta) (hb : PE X b tb) {pins : List (Addr × Obj)} {s : Shared} {σ : St} {H : Hp} {R : V → V → Hp → Prop} (I : Inv X pins σ H s)
    (h : ta σ H fun x H1 => tb σ H1 fun y H2 => R x y H2) {Q : Value → Shared → Prop} {f : Value → Value → Sem Value}
    (hf : ∀ v u s2 x y H2, Inv X pins σ H2 s2 → RelV x v → RelV y u → R x y H2 → wpAny (model X.prog X.w) X.A (f v u) Q X.xe s2) :
    wpAny (model X.prog X.w) X.A (eval a X.env) (fun v s₁ => wpAny (model X.prog X.w) X.A (eval b X.env) (fun u s₂ => wpAny (model X.prog X.w) X.A (f v u) Q X.xe s₂) X.xe s₁) X.xe s := by
  refine thn (ha pins s σ H _ I h) fun v s1 ⟨x, H1, I1, r1, q1⟩ => ?_
  refine thn (hb pins s1 σ H1 _ I1 q1) fun u s2 ⟨y, H2, I2, r2, q2⟩ => ?_
  exact hf v u s2 x y H2 I2 r1 r2 q2
theorem pe_op {op : Operator} {r : R2} (ho : OpR X (binaryOp op) r) (ha : PE X a ta) (hb : PE X b tb) : PE X (.BinOp a op b pos) (tOp r ta tb) := by
  intro pins s σ H Q I h
  exact wpAny_BinOp (binT ha hb I h fun v u s2 x y H2 I2 rx ry q => ho pins s2 σ H2 x y v u Q I2 rx ry q)
theorem pe_un {op : UnaryOp} {r : V → Hp → VK → Prop} (ho : UnR X (unaryOp op) r) (ha : PE X a ta) : PE X (.UnaryOp op a pos) (tUn r ta) := by
  intro pins s σ H Q I h
  exact UnaryOp_ (thn (ha pins s σ H _ I h) fun v s1 ⟨x, H1, I1, r1, q1⟩ => ho pins s1 σ H1 x v Q I1 r1 q1)
theorem opI {f : Value → Value → Sem Value} {C : Int → Int → Prop} {g : Int → Int → Int}
    (rule : ∀ (i j : Int) (t u : Tok) (s : Shared) (Q : Value → Shared → Prop) (E : Value → Shared → Prop), C i j → Q (.int (g i j) s.toks) { s with toks := s.toks + 1 } → wpAny (model X.prog X.w) X.A (f (.int i t) (.int j u)) Q E s) :
    OpR X f (rI C fun i j => .int (g i j)) := by
  intro pins s σ H x y v u Q I rx ry h
  obtain ⟨i, j, rfl, rfl, hc, q⟩ := h
  obtain ⟨t, rfl⟩ := rx
  obtain ⟨t', rfl⟩ := ry
  exact rule i j t t' s _ _ hc ⟨.int (g i j), H, I.tok _, ⟨_, rfl⟩, q⟩
theorem opI0 {f : Value → Value → Sem Value} {g : Int → Int → Int}
    (rule : ∀ (i j : Int) (t u : Tok) (s : Shared) (Q : Value → Shared → Prop) (E : Value → Shared → Prop), Q (.int (g i j) s.toks) { s with toks := s.toks + 1 } → wpAny (model X.prog X.w) X.A (f (.int i t) (.int j u)) Q E s) :
    OpR X f (rI0 fun i j => .int (g i j)) := by
  intro pins s σ H x y v u Q I rx ry h
  obtain ⟨i, j, rfl, rfl, q⟩ := h
  obtain ⟨t, rfl⟩ := rx
  obtain ⟨t', rfl⟩ := ry
  exact rule i j t t' s _ _ ⟨.int (g i j), H, I.tok _, ⟨_, rfl⟩, q⟩
theorem opB0 {f : Value → Value → Sem Value} {g : Int → Int → Bool}
    (rule : ∀ (i j : Int) (t u : Tok) (s : Shared) (Q : Value → Shared → Prop) (E : Value → Shared → Prop), Q (.bool (g i j)) s → wpAny (model X.prog X.w) X.A (f (.int i t) (.int j u)) Q E s) :
    OpR X f (rI0 fun i j => .bl (g i j)) := by
  intro pins s σ H x y v u Q I rx ry h
  obtain ⟨i, j, rfl, rfl, q⟩ := h
  obtain ⟨t, rfl⟩ := rx
  obtain ⟨t', rfl⟩ := ry
  exact rule i j t t' s _ _ ⟨.bl (g i j), H, I, rfl, q⟩
def CPow (i j : Int) : Prop := 0 ≤ j ∧ j ≤ 1000000 ∧ i.natAbs < 2 ^ 64
def CMul (i j : Int) : Prop := (-(2 ^ 64) < i ∧ i < 2 ^ 64) ∨ (-(2 ^ 64) < j ∧ j < 2 ^ 64)
theorem CMul.ok {i j : Int} (h : CMul i j) : IntMulOk i j := by
  rcases h with ⟨h1, h2⟩ | ⟨h1, h2⟩
  · exact .of_left (intBits_le_64 h1 h2)
  · exact .of_right (intBits_le_64 h1 h2)
theorem op_add : OpR X (binaryOp .Add) (rI0 fun i j => .int (i + j)) := opI0 fun _ _ _ _ _ _ _ q => add_int q
theorem op_sub : OpR X (binaryOp .Sub) (rI0 fun i j => .int (i - j)) := opI0 fun _ _ _ _ _ _ _ q => sub_int q
theorem op_mul : OpR X (binaryOp .Mult) (rI CMul fun i j => .int (i * j)) := opI fun _ _ _ _ _ _ _ hc q => mul_int q hc.ok
theorem op_mod : OpR X (binaryOp .Mod) (rI (fun _ j => 0 < j) fun i j => .int (i % j)) := opI fun i j _ _ _ _ _ hc q => by
  have h1 : (0 : Int) < j := hc
  exact mod_int' (by omega) (by rw [Int.fmod_eq_emod_of_nonneg i (by omega)]; exact q)
theorem op_pow : OpR X (binaryOp .Pow) (rI CPow fun i j => .int (i ^ j.toNat)) := opI fun _ _ _ _ _ _ _ hc q => pow_int_small hc.1 hc.2.1 hc.2.2 q
theorem unI {f : Value → Sem Value} {g : Int → Int}
    (rule : ∀ (i : Int) (t : Tok) (s : Shared) (Q : Value → Shared → Prop) (E : Value → Shared → Prop), Q (.int (g i) s.toks) { s with toks := s.toks + 1 } → wpAny (model X.prog X.w) X.A (f (.int i t)) Q E s) :
    UnR X f (rU fun i => .int (g i)) := by
  intro pins s σ H x v Q I rx h
  obtain ⟨i, rfl, q⟩ := h
  obtain ⟨t, rfl⟩ := rx
  exact rule i t s _ _ ⟨.int (g i), H, I.tok _, ⟨_, rfl⟩, q⟩
theorem un_neg : UnR X (unaryOp .USub) (rU fun i => .int (-i)) := unI fun _ _ _ _ _ q => neg_int q
end
def scal : V → V → Bool
  | .non, .non => true | .non, .int _ => true | .int _, .non => true | .non, .bl _ => true | .bl _, .non => true | .non, .str _ => true | .str _, .non => true
  | .int _, .int _ => true | .bl _, .bl _ => true | .str _, .str _ => true | .byt _, .byt _ => true
  | .int _, .str _ => true | .str _, .int _ => true | .bl _, .str _ => true | .str _, .bl _ => true
  | _, _ => false
def rEq : R2 := fun x y H Q => scal x y = true ∧ Q (.bl (decide (x = y))) H
def rNe : R2 := fun x y H Q => scal x y = true ∧ Q (.bl (!decide (x = y))) H
theorem dec_int {i j : Int} : decide (V.int i = V.int j) = (i == j) := by
  rw [Bool.eq_iff_iff]
  simp
theorem dec_bl {i j : Bool} : decide (V.bl i = V.bl j) = (i == j) := by
  rw [Bool.eq_iff_iff]
  simp
theorem dec_str {i j : Str} : decide (V.str i = V.str j) = (i == j) := by
  rw [Bool.eq_iff_iff]
  simp
theorem dec_byt {i j : Array UInt8} : decide (V.byt i = V.byt j) = (i.toList == j.toList) := by
  rw [Bool.eq_iff_iff]
  cases i
  cases j
  simp
section
variable {X : Cx} {a b c : Expr} {ta tb tc : TE} {pos : Pos}
theorem fin_bl {pins : List (Addr × Obj)} {σ : St} {H : Hp} {s : Shared} {Q : VK} {k k' : Bool} (I : Inv X pins σ H s) (q : Q (.bl k) H) (e : k = k') : EP X pins σ Q (.bool k') s := by
  subst e
  exact ⟨.bl k, H, I, rfl, q⟩
theorem op_eq : OpR X (compareOp .Eq) rEq := by
  intro pins s σ H x y v u Q I rx ry h
  obtain ⟨hs, q⟩ := h
  cases x with
  | non =>
    cases rx
    cases y with
    | non => cases ry; exact PySem.EqNone.eq_none_none (fin_bl I q (by simp))
    | bl j => cases ry; exact PySem.EqNone.eq_none_bool (fin_bl I q (by simp))
    | int j => obtain ⟨t', rfl⟩ := ry; exact PySem.EqNone.eq_none_int (fin_bl I q (by simp))
    | str j => obtain ⟨t', rfl⟩ := ry; exact PySem.EqNone.eq_none_str (fin_bl I q (by simp))
    | _ => exact absurd (show false = true from hs) Bool.false_ne_true
  | bl i =>
    cases rx
    cases y with
    | non => cases ry; exact PySem.EqNone.eq_bool_none (fin_bl I q (by simp))
    | bl j => cases ry; exact eq_bool (fin_bl I q dec_bl)
    | str j => obtain ⟨t', rfl⟩ := ry; exact PySem.EqMixed.eq_bool_str (fin_bl I q (by simp))
    | _ => exact absurd (show false = true from hs) Bool.false_ne_true
  | int i =>
    obtain ⟨t, rfl⟩ := rx
    cases y with
    | non => cases ry; exact PySem.EqNone.eq_int_none (fin_bl I q (by simp))
    | int j => obtain ⟨t', rfl⟩ := ry; exact eq_int (fin_bl I q dec_int)
    | str j => obtain ⟨t', rfl⟩ := ry; exact PySem.EqMixed.eq_int_str (fin_bl I q (by simp))
    | _ => exact absurd (show false = true from hs) Bool.false_ne_true
  | str i =>
    obtain ⟨t, rfl⟩ := rx
    cases y with
    | non => cases ry; exact PySem.EqNone.eq_str_none (fin_bl I q (by simp))
    | bl j => cases ry; exact PySem.EqMixed.eq_str_bool (fin_bl I q (by simp))
    | int j => obtain ⟨t', rfl⟩ := ry; exact PySem.EqMixed.eq_str_int (fin_bl I q (by simp))
    | str j => obtain ⟨t', rfl⟩ := ry; exact eq_str (fin_bl I q dec_str)
    | _ => exact absurd (show false = true from hs) Bool.false_ne_true
  | byt i =>
    obtain ⟨t, rfl⟩ := rx
    cases y with
    | byt j => obtain ⟨t', rfl⟩ := ry; exact PySem.W.eq_bytes (fin_bl I q dec_byt)
    | _ => exact absurd (show false = true from hs) Bool.false_ne_true
  | _ => cases y <;> exact absurd (show false = true from hs) Bool.false_ne_true
theorem op_ne : OpR X (compareOp .NotEq) rNe := by
  intro pins s σ H x y v u Q I rx ry h
  obtain ⟨hs, q⟩ := h
  cases x with
  | non =>
    cases rx
    cases y with
    | non => cases ry; exact PySem.EqNone.ne_none_none (fin_bl I q (by simp))
    | bl j => cases ry; exact PySem.EqNone.ne_none_bool (fin_bl I q (by simp))
    | int j => obtain ⟨t', rfl⟩ := ry; exact PySem.EqNone.ne_none_int (fin_bl I q (by simp))
    | str j => obtain ⟨t', rfl⟩ := ry; exact PySem.EqNone.ne_none_str (fin_bl I q (by simp))
    | _ => exact absurd (show false = true from hs) Bool.false_ne_true
  | bl i =>
    cases rx
    cases y with
    | non => cases ry; exact PySem.EqNone.ne_bool_none (fin_bl I q (by simp))
    | bl j => cases ry; exact ne_bool (fin_bl I q (congrArg not dec_bl))
    | str j => obtain ⟨t', rfl⟩ := ry; exact PySem.EqMixed.ne_bool_str (fin_bl I q (by simp))
    | _ => exact absurd (show false = true from hs) Bool.false_ne_true
  | int i =>
    obtain ⟨t, rfl⟩ := rx
    cases y with
    | non => cases ry; exact PySem.EqNone.ne_int_none (fin_bl I q (by simp))
    | int j => obtain ⟨t', rfl⟩ := ry; exact ne_int (fin_bl I q (congrArg not dec_int))
    | str j => obtain ⟨t', rfl⟩ := ry; exact PySem.EqMixed.ne_int_str (fin_bl I q (by simp))
    | _ => exact absurd (show false = true from hs) Bool.false_ne_true
  | str i =>
    obtain ⟨t, rfl⟩ := rx
    cases y with
    | non => cases ry; exact PySem.EqNone.ne_str_none (fin_bl I q (by simp))
    | bl j => cases ry; exact PySem.EqMixed.ne_str_bool (fin_bl I q (by simp))
    | int j => obtain ⟨t', rfl⟩ := ry; exact PySem.EqMixed.ne_str_int (fin_bl I q (by simp))
    | str j => obtain ⟨t', rfl⟩ := ry; exact ne_str (fin_bl I q (congrArg not dec_str))
    | _ => exact absurd (show false = true from hs) Bool.false_ne_true
  | byt i =>
    obtain ⟨t, rfl⟩ := rx
    cases y with
    | byt j => obtain ⟨t', rfl⟩ := ry; exact PySem.W.ne_bytes (fin_bl I q (congrArg not dec_byt))
    | _ => exact absurd (show false = true from hs) Bool.false_ne_true
  | _ => cases y <;> exact absurd (show false = true from hs) Bool.false_ne_true
theorem op_lt : OpR X (compareOp .Lt) (rI0 fun i j => .bl (decide (i < j))) := opB0 fun _ _ _ _ _ _ _ q => lt_int q
theorem op_le : OpR X (compareOp .LtE) (rI0 fun i j => .bl (decide (i ≤ j))) := opB0 fun _ _ _ _ _ _ _ q => le_int q
theorem op_gt : OpR X (compareOp .Gt) (rI0 fun i j => .bl (decide (j < i))) := opB0 fun _ _ _ _ _ _ _ q => gt_int q
theorem op_in_str : OpR X (compareOp .In) (fun x y H Q => ∃ i j, x = .str i ∧ y = .str j ∧ Q (.bl (!(Builtin.Str.occurrences j i 0 j.length 1).isEmpty)) H) := by
  intro pins s σ H x y v u Q I rx ry h
  obtain ⟨i, j, rfl, rfl, q⟩ := h
  obtain ⟨t, rfl⟩ := rx
  obtain ⟨t', rfl⟩ := ry
  exact in_str (fin_bl I q rfl)
theorem OpR.or {f : Value → Value → Sem Value} {r r' : R2} (h : OpR X f r) (h' : OpR X f r') : OpR X f (fun x y H Q => r x y H Q ∨ r' x y H Q) := by
  intro pins s σ H x y v u Q I rx ry q
  rcases q with q | q
  · exact h pins s σ H x y v u Q I rx ry q
  · exact h' pins s σ H x y v u Q I rx ry q
theorem nomark (b : Expr) {op : CmpOp} (h : op ≠ .In := by decide) (h2 : op ≠ .NotIn := by decide) : behindInMarks op b = false := by
  have e1 : (op == CmpOp.In) = false := by cases op <;> first | rfl | exact absurd rfl h
  have e2 : (op == CmpOp.NotIn) = false := by cases op <;> first | rfl | exact absurd rfl h2
  cases b <;> simp [behindInMarks, e1, e2]
theorem pe_cmpR {op : CmpOp} {r : R2} (ho : OpR X (compareOp op) r) (ha : PE X a ta) (hb : PE X b tb) (hm : behindInMarks op b = false) : PE X (.Compare a [op] [b] pos) (tOp r ta tb) := by
  intro pins s σ H Q I h
  exact wpAny_Compare1 (binT ha hb I h fun v u s2 x y H2 I2 rx ry q => ho pins s2 σ H2 x y v u Q I2 rx ry q) hm
def tTest (t : TE) : TT := fun σ H Q => t σ H fun x H' => ∃ k, x = .bl k ∧ Q k H'
theorem pt_cmpR {op : CmpOp} {r : R2} (ho : OpR X (compareOp op) r) (ha : PE X a ta) (hb : PE X b tb) (hm : behindInMarks op b = false) : PT X (.Compare a [op] [b] pos) (tTest (tOp r ta tb)) := by
  intro pins s σ H Q I h
  refine wpAny_isTrue_Compare1 (thn (ha pins s σ H _ I h) fun v s1 ⟨x, H1, I1, r1, q1⟩ => thn (hb pins s1 σ H1 _ I1 q1) fun u s2 ⟨y, H2, I2, r2, q2⟩ =>
    thn (ho pins s2 σ H2 x y v u _ I2 r1 r2 q2) fun c s3 ⟨z, H3, I3, r3, k, e, q3⟩ => ?_) hm
  subst e
  cases r3
  exact wpAny_truthy_bool ⟨H3, I3, q3⟩
def tChain (r r' : R2) (ta tb tc : TE) : TE := fun σ H Q => ta σ H fun x H1 => tb σ H1 fun y H2 => r x y H2 fun z H3 => ∃ k, z = .bl k ∧
  (if k = true then tc σ H3 fun w' H4 => r' y w' H4 Q else Q (.bl false) H3)
theorem line63 : (sizeLine : Nat) < 2 ^ 63 := by rw [sizeLine_eq]; decide
theorem op_add_str : OpR X (binaryOp .Add) (fun x y H Q => ∃ i j, x = .str i ∧ y = .str j ∧ i.length + j.length ≤ sizeLine ∧ Q (.str (i ++ j)) H) := by
  intro pins s σ H x y v u Q I rx ry h
  obtain ⟨i, j, rfl, rfl, hz, q⟩ := h
  obtain ⟨t, rfl⟩ := rx
  obtain ⟨t', rfl⟩ := ry
  exact add_str (fun t' tk => ⟨.str (i ++ j), H, I.tok _, ⟨_, rfl⟩, q⟩) hz
theorem vals1 {x : V} {us : List Value} (r : Vals [x] us) : ∃ u, us = [u] ∧ RelV x u := by
  cases r with
  | cons r1 r2 => cases r2; exact ⟨_, rfl, r1⟩
theorem vals2 {x y : V} {us : List Value} (r : Vals [x, y] us) : ∃ u w', us = [u, w'] ∧ RelV x u ∧ RelV y w' := by
  cases r with
  | cons r1 r2 =>
    cases r2 with
    | cons r3 r4 => cases r4; exact ⟨_, _, rfl, r1, r3⟩
theorem call_str_int : CallR X (.type "str") (fun xs H Q => ∃ i, xs = [.int i] ∧ i.natAbs.log2 < 1920 ∧ Q (.str (toString i)) H) := by
  intro pins s σ H xs us Q I r h
  obtain ⟨i, rfl, hz, q⟩ := h
  obtain ⟨u, rfl, t, rfl⟩ := vals1 r
  exact PySem.P.str_of_int hz ⟨.str _, H, I.tok _, ⟨_, rfl⟩, q⟩
end
end L2
namespace L2
open PySem PySem.Spec PyProof.Rows
structure ObjM (h : Heap) (x dx C : Addr) (mA : Str → Option Value) : Prop where
  obj : h.get? x = some (PySem.W.instObj C dx)
  ns : h.Ns1 dx mA
  ne : dx ≠ x
theorem lookIn_ns {h : Heap} {dx : Addr} {mA : Str → Option Value} (n : h.Ns1 dx mA) : ∃ od, h.get? dx = some od ∧ ∀ name, PySem.W.lookIn name od = some (mA name) := by
  obtain ⟨o, es, ep, ho, hd, hk, _, hm⟩ := n
  refine ⟨o, ho, fun name => ?_⟩
  have e := hm name
  unfold nsFind findBy at e
  rw [← Array.find?_toList] at e
  unfold PySem.W.lookIn
  rw [hd]
  dsimp only
  split
  · rename_i y q
    rw [q] at e
    exact congrArg some e
  · rename_i q
    rw [q] at e
    have a : es.toList.any (·.refKey) = false := by
      rw [List.any_eq_false]
      intro y hy
      obtain ⟨z, t, hkey⟩ := hk y (Array.mem_toList_iff.mp hy)
      simp [DictEntry.refKey, hkey]
    have a' : ¬ es.toList.any (·.refKey) = true := by rw [a]; exact Bool.false_ne_true
    rw [if_neg a']
    exact congrArg some e
theorem ObjM.look {h : Heap} {x dx C : Addr} {mA : Str → Option Value} (I : ObjM h x dx C mA) : ∃ od, PySem.W.InstAt h x (PySem.W.instObj C dx) C (some od) ∧ ∀ name, PySem.W.lookIn name od = some (mA name) :=
  let ⟨od, ho, hl⟩ := lookIn_ns I.ns
  ⟨od, ⟨I.obj, rfl, rfl, ho⟩, hl⟩
section
variable {prog : Program} {w : World} {A : Around} {E : Value → Shared → Prop} {s : Shared} {K : PySem.W.Frag} {x dx C f : Addr} {mA : Str → Option Value} {name : Str} {v : Value}
theorem get_map {expr : Bool} {Q : Value → Shared → Prop} (X : K.In s.heap) (I : ObjM s.heap x dx C mA) (hg : PySem.W.plainGet K C name = true) (hh : PySem.W.hasDictIn K C = true)
    (ha : PySem.W.findIn K (.ref C) name = some none) (hv : mA name = some v) (hv' : PySem.W.handedIn v = true) (h : Q v { s with toks := s.toks + 1 }) :
    wpAny (model prog w) A (getAttr (.ref x) name expr) Q E s := by
  obtain ⟨od, J, hl⟩ := I.look
  exact PySem.W.get_value X J (PySem.W.plainGet_of hg).1 (PySem.W.findObj_own hh ha rfl (by rw [hl, hv])) hv' h
theorem set_map {ns : List Str} {Q : Unit → Shared → Prop} (X : K.In s.heap) (I : ObjM s.heap x dx C mA)
    (hs : PySem.W.findIn K (.ref C) "__setattr__" = some (some (.builtin "object.__setattr__"))) (hp : PySem.W.plainOver K C = true) (ht : PySem.W.takerIn K C name = some none) (hh : PySem.W.hasDictIn K C = true)
    (hw : PySem.Within mA ns) (hsz : ns.length ≤ sizeLine)
    (h : ∀ h', ObjM h' x dx C (fun y => if y = name then some v else mA y) → Heap.SameBut dx s.heap h' → Q () { s with heap := h', toks := s.toks + 2 }) :
    wpAny (model prog w) A (setAttr (.ref x) name v) Q E s := by
  obtain ⟨od, J, hl⟩ := I.look
  refine PySem.W.set_plain X J hs (PySem.W.osa_open (s := { s with toks := s.toks + 1 }) (r := none) X J hp ht fun b => ?_)
  obtain ⟨cd, hc, hd'⟩ := PySem.W.any_some hh
  have hx : s.heap.get? x = some ⟨.ref C, some dx, .plain, #[]⟩ := I.obj
  refine wpAny_bind (wpAny_pure (wpAny_bind (wpAny_bind (wpAny_loadPart hx (wpAny_bind (PySem.W.Looks.here (s := { s with toks := s.toks + 1 }) (PySem.W.looks_clsIn X hc) ?_))))))
  rw [hd']
  refine wpAny_pure (a := some dx) (wpAny_bind (wpAny_pure (wpAny_bind ?_)))
  refine wpAny_nsSet1 (s := { s with toks := s.toks + 1 }) I.ns fun h' hn2 hs2 => ?_
  obtain ⟨oD, esD, epD, hoD, hdD, hcD⟩ := hn2.count (PySem.Within.cons name v hw)
  refine wpAny_bind (wpAny_lookBehind hoD (by rw [hdD]; exact pastItsLine_dict (Nat.le_trans hcD (by rw [List.length_cons]; omega))) ?_)
  exact wpAny_pure (h _ ⟨(hs2.2 _ (Ne.symm I.ne)).trans I.obj, hn2, I.ne⟩ hs2)
theorem make_map {R : Result → Shared → Prop} {vs : List Value} {kw : List (Str × Value)} (X : K.In s.heap) (hm : PySem.W.makesIn K C = true)
    (hi : PySem.W.findIn K (.ref C) "__init__" = some (some (.ref f))) (hf : PySem.W.typeIn K (.ref f) = some (.type "function"))
    (h : codeAny (model prog w) (A.under (.builtin "type.__call__" ⟨.ref C :: vs, kw⟩)) (.call (.ref f) ⟨.ref (s.heap.objs.size + 1) :: vs, kw⟩) (PySem.W.InitBack (s.heap.objs.size + 1) R)
      { s with heap := (s.heap.push PySem.W.emptyDict).push (PySem.W.instObj C s.heap.objs.size) }) :
    codeAny (model prog w) A (.call (.ref C) ⟨vs, kw⟩) R s := by
  obtain ⟨hh, g, d, t, os⟩ := s
  exact PySem.W.make_core (PySem.W.makes_of X hm) (PySem.W.looks_findIn X hi) (fun self => PySem.W.bind_fn X self hf) (.inl rfl) h
theorem make_map0 {R : Result → Shared → Prop} (X : K.In s.heap) (hm : PySem.W.makesIn K C = true)
    (hi : PySem.W.findIn K (.ref C) "__init__" = some (some (.builtin "object.__init__")))
    (hb : ∀ self, PySem.W.Looks (model prog w) s.heap (bindSpecial (.builtin "object.__init__") self) (.builtin "object.__init__", [self]))
    (h : codeAny (model prog w) (A.under (.builtin "type.__call__" ⟨[.ref C], []⟩)) (.call (.builtin "object.__init__") ⟨[.ref (s.heap.objs.size + 1)], []⟩) (PySem.W.InitBack (s.heap.objs.size + 1) R)
      { s with heap := (s.heap.push PySem.W.emptyDict).push (PySem.W.instObj C s.heap.objs.size) }) :
    codeAny (model prog w) A (.call (.ref C) ⟨[], []⟩) R s := by
  obtain ⟨hh, g, d, t, os⟩ := s
  exact PySem.W.make_core (PySem.W.makes_of X hm) (PySem.W.looks_findIn X hi) hb (.inr ⟨rfl, rfl⟩) h
end
def putF (f : Str) (v : V) : List (Str × V) → List (Str × V)
  | [] => [(f, v)]
  | (g, x) :: r => if g = f then (g, v) :: r else (g, x) :: putF f v r
theorem lookup_putF (f g : Str) (v : V) : ∀ fs : List (Str × V), (putF f v fs).lookup g = if g = f then some v else fs.lookup g
  | [] => by
    show List.lookup g [(f, v)] = _
    by_cases h : g = f
    · have hb : (g == f) = true := beq_iff_eq.mpr h
      simp only [List.lookup, hb, if_pos h]
    · have hb : (g == f) = false := beq_eq_false_iff_ne.mpr h
      simp only [List.lookup, hb, if_neg h]
  | (k, x) :: r => by
    have ih := lookup_putF f g v r
    rw [show putF f v ((k, x) :: r) = (if k = f then (k, v) :: r else (k, x) :: putF f v r) from rfl]
    by_cases hk : k = f
    · rw [if_pos hk]
      by_cases h : g = k
      · have hb : (g == k) = true := beq_iff_eq.mpr h
        simp only [List.lookup, hb, if_pos (h.trans hk)]
      · have hb : (g == k) = false := beq_eq_false_iff_ne.mpr h
        simp only [List.lookup, hb, if_neg (fun e : g = f => h (e.trans hk.symm))]
    · rw [if_neg hk]
      by_cases h : g = k
      · have hb : (g == k) = true := beq_iff_eq.mpr h
        simp only [List.lookup, hb, if_neg (fun e : g = f => hk (h.symm.trans e))]
      · have hb : (g == k) = false := beq_eq_false_iff_ne.mpr h
        simp only [List.lookup, hb]
        exact ih
theorem keys_putF (f : Str) (v : V) : ∀ fs : List (Str × V), f ∈ (putF f v fs).map (·.1) ∧ ∀ g, g ∈ fs.map (·.1) → g ∈ (putF f v fs).map (·.1)
  | [] => ⟨by simp [putF], fun g h => by simp at h⟩
  | (k, x) :: r => by
    obtain ⟨i1, i2⟩ := keys_putF f v r
    rw [show putF f v ((k, x) :: r) = (if k = f then (k, v) :: r else (k, x) :: putF f v r) from rfl]
    by_cases hk : k = f
    · rw [if_pos hk]
      subst hk
      exact ⟨by simp, fun g h => by simpa using h⟩
    · rw [if_neg hk]
      refine ⟨?_, fun g h => ?_⟩
      · rw [List.map_cons]
        exact List.mem_cons_of_mem _ i1
      · rw [List.map_cons] at h ⊢
        rcases List.mem_cons.mp h with e | e
        · exact List.mem_cons.mpr (.inl e)
        · exact List.mem_cons_of_mem _ (i2 g e)
theorem length_putF (f : Str) (v : V) : ∀ fs : List (Str × V), (putF f v fs).length ≤ fs.length + 1
  | [] => by simp [putF]
  | (k, x) :: r => by
    have ih := length_putF f v r
    rw [show putF f v ((k, x) :: r) = (if k = f then (k, v) :: r else (k, x) :: putF f v r) from rfl]
    by_cases hk : k = f
    · rw [if_pos hk, List.length_cons, List.length_cons]; omega
    · rw [if_neg hk, List.length_cons, List.length_cons]; omega
theorem RelO.some_of {v : V} {o : Option Value} (r : RelO (some v) o) : ∃ u, o = some u ∧ RelV v u := by
  cases o with
  | none => exact (show False from r).elim
  | some u => exact ⟨u, rfl, r⟩
theorem handed_of {v : V} {u : Value} (r : RelV v u) : PySem.W.handedIn u = true := by
  cases v with
  | non => cases (show u = Value.none from r); rfl
  | bl b => cases (show u = Value.bool b from r); rfl
  | int i => obtain ⟨t, e⟩ := (show ∃ t, u = Value.int i t from r); cases e; rfl
  | str x => obtain ⟨t, e⟩ := (show ∃ t, u = Value.str x t from r); cases e; rfl
  | byt b => obtain ⟨t, e⟩ := (show ∃ t, u = Value.bytes b t from r); cases e; rfl
  | flt b => obtain ⟨t, e⟩ := (show ∃ t, u = Value.float b t from r); cases e; rfl
  | ref a => cases (show u = Value.ref a from r); rfl
  | ty n => cases (show u = Value.type n from r); rfl
section
variable {P : Program} {w : World} {H H' : Hp} {h h' : Heap} {a C dx : Addr} {fs fs' : List (Str × V)}
theorem ins_get (hok : HOk P w H h) (e : H a = some (.ins C dx fs)) : ∃ mA, ObjM h a dx C mA ∧ (∀ f, RelO (fs.lookup f) (mA f)) ∧ PySem.Within mA (fs.map (·.1)) ∧ fs.length ≤ 1000 ∧ H dx = some (.own a) := by
  obtain ⟨d, z, ne, ob, mA, n, r, q⟩ := (show ObjOk P w H h a (.ins C dx fs) from hok a _ e)
  exact ⟨mA, ⟨ob, n, ne⟩, r, q, z, d⟩
end
structure Cls (K : PySem.W.Frag) (C : Addr) : Prop where
  pg : PySem.W.plainGet K C Str.empty = true
  hd : PySem.W.hasDictIn K C = true
  po : PySem.W.plainOver K C = true
  sa : PySem.W.findIn K (.ref C) "__setattr__" = some (some (.builtin "object.__setattr__"))
theorem Cls.get {K : PySem.W.Frag} {C : Addr} (c : Cls K C) (f : Str) : PySem.W.plainGet K C f = true := c.pg
def NoAttr (K : PySem.W.Frag) (C : Addr) (f : Str) : Prop := PySem.W.findIn K (.ref C) f = some none
theorem NoAttr.taker {K : PySem.W.Frag} {C : Addr} {f : Str} (n : NoAttr K C f) : PySem.W.takerIn K C f = some none := by
  unfold PySem.W.takerIn
  rw [show PySem.W.findIn K (.ref C) f = some none from n]
  rfl
structure Con (K : PySem.W.Frag) (C : Addr) (f : Str) (v : V) (u : Value) : Prop where
  at_ : PySem.W.findIn K (.ref C) f = some (some u)
  rel : RelV v u
  get : PySem.W.specialIn K u "__get__" = some none
  cp : PySem.W.copiedNames.contains f = false
structure Meth (K : PySem.W.Frag) (C : Addr) (m : Str) (f : Addr) : Prop where
  at_ : PySem.W.findIn K (.ref C) m = some (some (.ref f))
  fn : PySem.W.isFn K (.ref f) = true
  kp : PySem.W.keepIn K (.ref f) = true
section
variable {X : Cx} {pins : List (Addr × Obj)} {σ : St} {H : Hp} {s : Shared} {a C dx : Addr} {fs : List (Str × V)} {f : Str} {v : V} {A : Around} {E : Value → Shared → Prop}
theorem getattr_ok {b : Bool} {Q : Value → Shared → Prop} (I : Inv X pins σ H s) (e : H a = some (.ins C dx fs)) (c : Cls X.K C) (n : NoAttr X.K C f) (l : fs.lookup f = some v)
    (h : ∀ u s', Inv X pins σ H s' → RelV v u → Q u s') : wpAny (model X.prog X.w) A (getAttr (.ref a) f b) Q E s := by
  obtain ⟨mA, O, r, _, _, _⟩ := ins_get I.hok e
  obtain ⟨u, hu, ru⟩ := RelO.some_of (v := v) (o := mA f) (by rw [← l]; exact r f)
  exact get_map I.kIn O (c.get f) c.hd n hu (handed_of ru) (h u _ (I.tok _) ru)
theorem setattr_ok {y : V} {u : Value} {Q : Unit → Shared → Prop} (I : Inv X pins σ H s) (e : H a = some (.ins C dx fs)) (c : Cls X.K C) (n : NoAttr X.K C f) (hl : fs.length < 1000) (ry : RelV y u)
    (h : ∀ s', Inv X pins σ (upd H a (.ins C dx (putF f y fs))) s' → Q () s') : wpAny (model X.prog X.w) A (setAttr (.ref a) f u) Q E s := by
  obtain ⟨mA, O, r, wi, _, ho⟩ := ins_get I.hok e
  have hz : (fs.map (·.1)).length ≤ sizeLine := by rw [List.length_map, sizeLine_eq]; omega
  refine set_map I.kIn O c.sa c.po n.taker c.hd wi hz fun h' O' sb => h _ ?_
  have hd : ∃ o, h'.get? dx = some o := let ⟨o, _, _, e', _⟩ := O'.ns; ⟨o, e'⟩
  refine I.write (x := a) (e := dx) (by rw [e]; exact True.intro) (.inr ho) (fun b q hb z => (sb.2 b hb).trans z) hd ?_
  refine ⟨by rw [upd_ne O.ne]; exact ho, ?_, O.ne, O'.obj, _, O'.ns, fun g => ?_, fun g hg => ?_⟩
  · have := length_putF f y fs; omega
  · show RelO ((putF f y fs).lookup g) (if g = f then some u else mA g)
    rw [lookup_putF]
    by_cases q : g = f
    · rw [if_pos q, if_pos q]; exact ry
    · rw [if_neg q, if_neg q]; exact r g
  · by_cases q : g = f
    · rw [q]; exact (keys_putF f y fs).1
    · refine (keys_putF f y fs).2 g (wi g fun z => hg ?_)
      show (if g = f then some u else mA g) = none
      rw [if_neg q]; exact z
theorem Inv.made (I : Inv X pins σ H s) : Inv X pins σ (upd (upd H s.heap.objs.size (.own (s.heap.objs.size + 1))) (s.heap.objs.size + 1) (.ins C s.heap.objs.size []))
    { s with heap := (s.heap.push PySem.W.emptyDict).push (PySem.W.instObj C s.heap.objs.size) } := by
  have e1 : (s.heap.push PySem.W.emptyDict).get? s.heap.objs.size = some PySem.W.emptyDict := Heap.get?_push_size s.heap rfl
  have e2 : ((s.heap.push PySem.W.emptyDict).push (PySem.W.instObj C s.heap.objs.size)).get? (s.heap.objs.size + 1) = some (PySem.W.instObj C s.heap.objs.size) := by
    have := Heap.get?_push_size (s.heap.push PySem.W.emptyDict) (o := PySem.W.instObj C s.heap.objs.size) rfl
    rwa [Heap.size_push] at this
  have e3 : (s.heap.push PySem.W.emptyDict).Ns s.heap.objs.size (fun _ => none) := ⟨PySem.W.emptyDict, #[], _, e1, rfl, (fun e he => absurd he (by simp)), fun _ => rfl⟩
  have I1 := I.laid (a := s.heap.objs.size) (o := .own (s.heap.objs.size + 1)) (h' := s.heap.push PySem.W.emptyDict) (t' := s.toks) (fun b u q => Heap.get?_push_of_some _ q) (Nat.le_refl _) ⟨_, e1⟩
  refine I1.laid (a := s.heap.objs.size + 1) (o := .ins C s.heap.objs.size []) (t' := s.toks) (fun b u q => Heap.get?_push_of_some _ q) (Nat.le_of_eq (Heap.size_push _ _)) ?_
  have ne : s.heap.objs.size ≠ s.heap.objs.size + 1 := Nat.ne_of_lt (Nat.lt_succ_self _)
  refine ⟨by rw [upd_ne ne, upd_same], Nat.zero_le _, ne, e2, fun _ => none, (Heap.Ns1.of_empty e3).at fun o q => Heap.get?_push_of_some _ q, fun _ => True.intro, fun y hy => absurd rfl hy⟩
theorem attr_of {prog : Program} {w : World} {env : Env} {e : Expr} {f : Str} {pos : Pos} {s : Shared} {Q : Value → Shared → Prop} (hb : attributeBase e f env (eval e env) = eval e env)
    (h : wpAny (model prog w) A (eval e env) (fun o s₁ => wpAny (model prog w) A (getAttr o f true) Q E s₁) E s) : wpAny (model prog w) A (eval (.Attribute e f pos) env) Q E s :=
  Attribute_any_ h (by rw [arm_eval_Attribute, hb])
end
def tFld (K : PySem.W.Frag) (ta : TE) (f : Str) : TE := fun σ H Q => ta σ H fun x H1 => ∃ a C dx fs v, x = .ref a ∧ H1 a = some (.ins C dx fs) ∧ Cls K C ∧ NoAttr K C f ∧ fs.lookup f = some v ∧ Q v H1
def sFld (K : PySem.W.Frag) (ta tv : TE) (f : Str) : TS := fun D σ H => tv σ H fun y H1 => ta σ H1 fun x H2 => ∃ a C dx fs, x = .ref a ∧ H2 a = some (.ins C dx fs) ∧ Cls K C ∧ NoAttr K C f ∧ fs.length < 1000 ∧
  D.nx σ (upd H2 a (.ins C dx (putF f y fs)))
section
variable {X : Cx} {o e value : Expr} {f : Str} {pos pos' tpos : Pos} {ta tv : TE}
theorem pe_fld (he : PE X e ta) (hb : attributeBase e f X.env (eval e X.env) = eval e X.env) : PE X (.Attribute e f pos) (tFld X.K ta f) := by
  intro pins s σ H Q I h
  refine attr_of hb (thn (he pins s σ H _ I h) fun u s1 ⟨x, H1, I1, rx, a, C, dx, fs, v, ex, ea, c, n, l, q⟩ => ?_)
  subst ex
  obtain rfl : u = Value.ref a := rx
  exact getattr_ok I1 ea c n l fun u' s2 I2 ru => ⟨v, H1, I2, ru, q⟩
theorem ps_fld (ha : PE X o ta) (hv : PE X value tv) (hs : swapsWith value (some (.Attribute o f pos')) pos.line X.env = pure false) : PS X (.Assign [.Attribute o f pos'] value pos) (sFld X.K ta tv f) := by
  intro pins s σ H D I h
  refine plainObj_wpAny_Assign_Attribute (thn (hv pins s σ H _ I h) fun u s1 ⟨y, H1, I1, ry, q⟩ => thn (ha pins s1 σ H1 _ I1 q) fun ov s2 ⟨x, H2, I2, rx, a, C, dx, fs, ex, ea, c, n, l, q2⟩ => ?_) hs
  subst ex
  obtain rfl : ov = Value.ref a := rx
  exact setattr_ok I2 ea c n l ry fun s3 I3 => ⟨σ, _, I3, q2⟩
end
section
variable {X : Cx} {pins : List (Addr × Obj)} {σ : St} {H : Hp} {s : Shared} {A : Around} {E : Value → Shared → Prop} {Q : Value → Shared → Prop} {c : Value} {b : Bool}
inductive TyOf (K : PySem.W.Frag) (H : Hp) : V → Value → Prop where
  | non : TyOf K H .non (.type "NoneType")
  | bl (x : Bool) : TyOf K H (.bl x) (.type "bool")
  | int (i : Int) : TyOf K H (.int i) (.type "int")
  | str (x : Str) : TyOf K H (.str x) (.type "str")
  | flt (x : UInt64) : TyOf K H (.flt x) (.type "float")
  | lst {a : Addr} {xs : List V} (e : H a = some (.lst xs)) : TyOf K H (.ref a) (.type "list")
  | frz {a : Addr} {o : Obj} {xs : List V} (e : H a = some (.frz o (.lst xs))) : TyOf K H (.ref a) (.type "list")
  | tup {a : Addr} {xs : List V} (e : H a = some (.tup xs)) : TyOf K H (.ref a) (.type "tuple")
  | dK {a : Addr} {kvs : List (Key × V)} (e : H a = some (.dK kvs)) : TyOf K H (.ref a) (.type "dict")
  | dT {a : Addr} {kvs : List (List Key × V)} (e : H a = some (.dT kvs)) : TyOf K H (.ref a) (.type "dict")
  | ins {a C dx : Addr} {fs : List (Str × V)} (e : H a = some (.ins C dx fs)) (cl : Cls K C) (ha : PySem.W.findIn K (.ref C) "__class__" = some (some (.builtin "object.__class__")))
      (hn : PySem.W.specialIn K (.builtin "object.__class__") "__get__" = some (some (.builtin "getset_descriptor.__get__"))) (htk : PySem.W.takesIn K (.builtin "object.__class__") = some true)
      (hm : PySem.W.mroIn K C (.type "object") = some true) : TyOf K H (.ref a) (.ref C)
theorem isinst_ok {x : V} {u t : Value} (I : Inv X pins σ H s) (rx : RelV x u) (ty : TyOf X.K H x t) (e : PySem.W.kitOne X.K t c = some b) (h : ∀ tk, Q (.bool b) { s with toks := tk }) :
    wpAny (model X.prog X.w) A (call (.builtin "isinstance") [u, c]) Q E s := by
  cases ty with
  | non => cases (show u = Value.none from rx); exact PySem.W.kia_one PySem.W.kitx_none I.kIn True.intro e (fun z => nomatch z) h
  | bl y => cases (show u = Value.bool y from rx); exact PySem.W.kia_one PySem.W.kitx_bool I.kIn True.intro e (fun z => nomatch z) h
  | int i => obtain ⟨t, q⟩ := (show ∃ t, u = Value.int i t from rx); cases q; exact PySem.W.kia_one PySem.W.kitx_int I.kIn True.intro e (fun z => nomatch z) h
  | str y => obtain ⟨t, q⟩ := (show ∃ t, u = Value.str y t from rx); cases q; exact PySem.W.kia_one PySem.W.kitx_str I.kIn True.intro e (fun z => nomatch z) h
  | flt y => obtain ⟨t, q⟩ := (show ∃ t, u = Value.float y t from rx); cases q; exact PySem.W.kia_one PySem.W.kitx_float I.kIn True.intro e (fun z => nomatch z) h
  | @lst a xs ea =>
    cases (show u = Value.ref a from rx)
    obtain ⟨_, _, n, _, h1⟩ := (show ObjOk X.prog X.w H s.heap a (.lst xs) from I.hok a _ ea)
    exact PySem.W.kia_one PySem.W.kitx_list I.kIn ⟨_, h1, rfl⟩ e (fun z => nomatch z) h
  | @frz a ob xs ea =>
    cases (show u = Value.ref a from rx)
    obtain ⟨_, _, _, n, _, h1⟩ := (show ObjOk X.prog X.w H s.heap a (.frz ob (.lst xs)) from I.hok a _ ea)
    exact PySem.W.kia_one PySem.W.kitx_list I.kIn ⟨_, h1, rfl⟩ e (fun z => nomatch z) h
  | @tup a xs ea =>
    cases (show u = Value.ref a from rx)
    obtain ⟨_, _, _, p⟩ := (show ObjOk X.prog X.w H s.heap a (.tup xs) from I.hok a _ ea)
    obtain ⟨o, h1, h2, _⟩ := p
    exact PySem.W.kia_one PySem.W.kitx_tuple I.kIn ⟨o, h1, h2⟩ e (fun z => nomatch z) h
  | @dK a kvs ea =>
    cases (show u = Value.ref a from rx)
    obtain ⟨_, _, vs, _, p⟩ := (show ObjOk X.prog X.w H s.heap a (.dK kvs) from I.hok a _ ea)
    obtain ⟨o, es, ep, h1, h2, _⟩ := p
    exact PySem.W.kia_one PySem.W.kitx_dict I.kIn ⟨o, h1, h2.1⟩ e (fun z => nomatch z) h
  | @dT a kvs ea =>
    cases (show u = Value.ref a from rx)
    obtain ⟨_, _, xs, _, o, es, ep, h1, h2, _⟩ := (show ObjOk X.prog X.w H s.heap a (.dT kvs) from I.hok a _ ea)
    exact PySem.W.kia_one PySem.W.kitx_dict I.kIn ⟨o, h1, h2.1⟩ e (fun z => nomatch z) h
  | @ins a C dx fs ea cl ha hn htk hm =>
    cases (show u = Value.ref a from rx)
    obtain ⟨mA, O, _⟩ := ins_get I.hok ea
    obtain ⟨od, J, _⟩ := O.look
    exact PySem.W.kia_one (PySem.W.kitx_own (cl.get _) cl.hd ha hn htk hm) I.kIn J e (fun z => nomatch z) h
end
end L2
namespace L2
open PySem PySem.Spec PyProof.Rows
structure Room (k : Nat) (A : Around) : Prop where
  hd : A.handled = none
  dp : A.depth + 3 * k + 5 < recursionLimit
  un : A.units + 16 * k + 200 < cLine
theorem Room.mono {j k : Nat} {A : Around} (r : Room k A) (h : j ≤ k) : Room j A := ⟨r.hd, by have := r.dp; omega, by have := r.un; omega⟩
theorem Room.deeper {k : Nat} {A : Around} (r : Room (k + 1) A) (env : Env) : Room k (A.deeper env) :=
  ⟨r.hd, by have := r.dp; show A.depth + 1 + 3 * k + 5 < _; omega, by have := r.un; show A.units + 3 + 16 * k + 200 < _; omega⟩
theorem Room.in1 {k : Nat} {A : Around} (r : Room (k + 1) A) : Room k A.in1 :=
  ⟨r.hd, by have := r.dp; show A.depth + 3 * k + 5 < _; omega, by have := r.un; show A.units + 1 + 16 * k + 200 < _; omega⟩
theorem make_depth {A : Around} {C : Addr} {us : List Value} {kw : List (Str × Value)} : (A.under (.builtin "type.__call__" ⟨.ref C :: us, kw⟩)).depth = A.depth + 1 := by
  first | rfl | simp [Around.under, Code.weight, Code.isCreation, Code.isGuard, Code.isCaller, Code.frames, Code.isFrame, guardIds]
theorem make_units {A : Around} {C : Addr} {us : List Value} {kw : List (Str × Value)} : (A.under (.builtin "type.__call__" ⟨.ref C :: us, kw⟩)).units = A.units + 1 := by
  first | rfl | simp [Around.under, Code.cUnits, Code.frames, Code.isFrame]
theorem Room.make {k : Nat} {A : Around} (r : Room (k + 1) A) (C : Addr) (us : List Value) (kw : List (Str × Value)) : Room k (A.under (.builtin "type.__call__" ⟨.ref C :: us, kw⟩)) :=
  ⟨r.hd, by have := r.dp; rw [make_depth]; omega, by have := r.un; rw [make_units]; omega⟩
theorem Room.depth {k : Nat} {A : Around} (r : Room k A) : A.depth < recursionLimit := by have := r.dp; omega
theorem Room.units {k : Nat} {A : Around} (r : Room k A) : A.units + 64 < cLine := by have := r.un; omega
def tNil : TA := fun _ H Q => Q [] H
def tCons (ta : TE) (tr : TA) : TA := fun σ H Q => ta σ H fun x H1 => tr σ H1 fun xs H2 => Q (x :: xs) H2
section
variable {X : Cx} {e : Expr} {es : List Expr} {te : TE} {t : TA} {pos : Pos}
theorem pa_nil : PA X [] tNil := fun _ _ _ _ H Q I h => Calls.spliced_nil ⟨[], H, I, .nil, h⟩
theorem pa_cons (ha : PE X e te) (hr : PA X es t) (hs : starEach (e :: es) X.env = (false, eval e X.env) :: starEach es X.env := by rfl) : PA X (e :: es) (tCons te t) := by
  intro pos pins s σ H Q I h
  rw [hs]
  show wpAny _ _ (spliced ((false, eval e X.env) :: backTo pos (starEach es X.env))) _ _ s
  refine Calls.spliced_cons (thn (ha pins s σ H _ I h) fun u s1 ⟨x, H1, I1, r1, q1⟩ => ?_)
  exact thn (hr pos pins s1 σ H1 _ I1 q1) fun us s2 ⟨xs, H2, I2, r2, q2⟩ => ⟨x :: xs, H2, I2, .cons r1 r2, q2⟩
def tTup (t : TA) : TE := fun σ H Q => t σ H fun xs H1 => xs.length ≤ sizeLine ∧ ∀ p, H1 p = none → Q (.ref p) (upd H1 p (.tup xs))
def tLst (t : TA) : TE := fun σ H Q => t σ H fun xs H1 => xs.length ≤ sizeLine ∧ ∀ p, H1 p = none → Q (.ref p) (upd H1 p (.lst xs))
theorem pe_tup {x1} (h : PA X es t) : PE X (.Tuple es x1 pos) (tTup t) := by
  intro pins s σ H Q I hq
  refine wpAny_Tuple_spliced (thn (h pos pins s σ H _ I hq) fun us s1 ⟨xs, H1, I1, r, z, q⟩ => ⟨by rw [← r.length]; exact z, ?_⟩)
  have hf : H1 s1.heap.objs.size = none := I1.hok.fresh (Nat.le_refl _)
  refine ⟨.ref s1.heap.objs.size, upd H1 s1.heap.objs.size (.tup xs), I1.laid (t' := s1.toks) (fun b u e => Heap.get?_push_of_some _ e) (Nat.le_refl _) ?_, rfl, q _ hf⟩
  exact ⟨z, us, r, ⟨_, Heap.get?_push_size _ rfl, rfl, _, rfl⟩⟩
theorem pe_lst (h : PA X es t) : PE X (.List es pos) (tLst t) := by
  intro pins s σ H Q I hq
  refine wpAny_List_spliced (thn (h pos pins s σ H _ I hq) fun us s1 ⟨xs, H1, I1, r, z, q⟩ => ⟨by rw [← r.length]; exact z, ?_⟩)
  have hf : H1 s1.heap.objs.size = none := I1.hok.fresh (Nat.le_refl _)
  refine ⟨.ref s1.heap.objs.size, upd H1 s1.heap.objs.size (.lst xs), I1.laid (t' := s1.toks) (fun b u e => Heap.get?_push_of_some _ e) (Nat.le_refl _) ?_, rfl, q _ hf⟩
  exact ⟨z, us, 0, r, Heap.get?_push_size _ rfl⟩
end
abbrev Sp := List V → Hp → VK → XK → Prop
abbrev CXT := List Env → Hp → Shared → XK → Value → Shared → Prop
structure Env0 (P : Program) (w : World) (K : PySem.W.Frag) (mg : Str → Option Value) (base : Heap) (A : Around) (outer : List Env) (s : Shared) (H : Hp) : Prop where
  frames : A.frames = some outer
  mod : Mod K mg base
  bs : ∀ b o, base.get? b = some o → s.heap.get? b = some o ∧ H b = none
  bsz : base.objs.size ≤ s.heap.objs.size
  funs : s.heap.FunFrames base outer
  frf : ∀ b ∈ frs outer, H b = none
  hok : HOk P w H s.heap
  bare : AllBare s.gens
def CE (outer : List Env) (P : Program) (w : World) (H : Hp) (s : Shared) (Q : VK) (u : Value) (s' : Shared) : Prop :=
  ∃ v H', s'.os = s.os ∧ AllBare s'.gens ∧ Un (frs outer) [] H H' s.heap s'.heap ∧ HOk P w H' s'.heap ∧ RelV v u ∧ Q v H'
def CR (CX : CXT) (outer : List Env) (P : Program) (w : World) (H : Hp) (s : Shared) (Q : VK) (E : XK) (r : Result) (s' : Shared) : Prop :=
  match r with
  | .ok (.ret u) => CE outer P w H s Q u s'
  | .ok _ => False
  | .error e => CX outer H s E e s'
structure FnOk (P : Program) (w : World) (K : PySem.W.Frag) (mg : Str → Option Value) (base : Heap) (CX : CXT) (k : Nat) (f : Addr) (fd : FuncData) (ps : List Str) (sp : Sp) : Prop where
  len : ∀ vs H Q E, sp vs H Q E → vs.length = ps.length
  run : ∀ (A : Around) (outer : List Env) (s : Shared) (H : Hp) (args : Args) (us : List Value) (vs : List V) (Q : VK) (E : XK), Room k A → Env0 P w K mg base A outer s H → BindsTo s fd args (ps.zip us) → Vals vs us → sp vs H Q E →
    codeAny (model P w) A (.call (.ref f) args) (CR CX outer P w H s Q E) s
theorem FnOk.mono {P : Program} {w : World} {K : PySem.W.Frag} {mg : Str → Option Value} {base : Heap} {CX : CXT} {j k : Nat} {f : Addr} {fd : FuncData} {ps : List Str} {sp : Sp} (F : FnOk P w K mg base CX j f fd ps sp) (h : j ≤ k) :
    FnOk P w K mg base CX k f fd ps sp := ⟨F.len, fun A outer s H args us vs Q E hr => F.run A outer s H args us vs Q E (hr.mono h)⟩
theorem FnOk.imp {P : Program} {w : World} {K : PySem.W.Frag} {mg : Str → Option Value} {base : Heap} {CX : CXT} {k : Nat} {f : Addr} {fd : FuncData} {ps : List Str} {sp sp' : Sp} (F : FnOk P w K mg base CX k f fd ps sp)
    (h : ∀ vs H Q E, sp' vs H Q E → sp vs H Q E) : FnOk P w K mg base CX k f fd ps sp' :=
  ⟨fun vs H Q E q => F.len vs H Q E (h _ _ _ _ q), fun A outer s H args us vs Q E hr he hb hv hs => F.run A outer s H args us vs Q E hr he hb hv (h _ _ _ _ hs)⟩
theorem Env0.make {P : Program} {w : World} {K : PySem.W.Frag} {mg : Str → Option Value} {base : Heap} {A : Around} {outer : List Env} {s : Shared} {H : Hp} (e : Env0 P w K mg base A outer s H) (C : Addr) (us : List Value) (kw : List (Str × Value)) :
    Env0 P w K mg base (A.under (.builtin "type.__call__" ⟨.ref C :: us, kw⟩)) outer s H := ⟨by first | exact e.frames | (simpa [Around.under, Code.envs, Code.isFrame, pushEnvs] using e.frames), e.mod, e.bs, e.bsz, e.funs, e.frf, e.hok, e.bare⟩
theorem Env0.in1 {P : Program} {w : World} {K : PySem.W.Frag} {mg : Str → Option Value} {base : Heap} {A : Around} {outer : List Env} {s : Shared} {H : Hp} (e : Env0 P w K mg base A outer s H) :
    Env0 P w K mg base A.in1 outer s H := ⟨e.frames, e.mod, e.bs, e.bsz, e.funs, e.frf, e.hok, e.bare⟩
section
variable {X : Cx} {pins : List (Addr × Obj)} {σ : St} {H : Hp} {s s' : Shared}
theorem Inv.env0 (I : Inv X pins σ H s) : Env0 X.prog X.w X.K X.mg X.base X.A X.stack s H :=
  ⟨I.ok.frames, I.ok.mod, I.bs, Nat.le_trans I.ok.bsz I.sz, I.stack, I.stkFree, I.hok, I.bare⟩
theorem Inv.after {Q : VK} {u : Value} (I : Inv X pins σ H s) (h : CE X.stack X.prog X.w H s Q u s') : EP X pins σ Q u s' := by
  obtain ⟨v, H', os, bare, un, hok, r, q⟩ := h
  obtain ⟨hh, g, d, t, os'⟩ := s'
  obtain rfl : os' = s.os := os
  exact ⟨v, H', I.call (h' := hh) (g' := g) (d' := d) (t' := t) (ch := []) un hok bare (fun b z => absurd z (by simp)), r, q⟩
end
def tCall (sp : Sp) (dvs : List V) (E : XK) (t : TA) : TE := fun σ H Q => t σ H fun vs H1 => sp (vs ++ dvs) H1 Q E
def tMake (C : Addr) (sp : Sp) (dvs : List V) (E : XK) (t : TA) : TE := fun σ H Q => t σ H fun vs H1 => ∀ x dx, H1 x = none → H1 dx = none → dx ≠ x →
  sp (.ref x :: (vs ++ dvs)) (upd (upd H1 dx (.own x)) x (.ins C dx [])) (fun v H2 => v = .non ∧ Q (.ref x) H2) E
def Binds (K : PySem.W.Frag) (fd : FuncData) (ps : List Str) (ds : List Value) : Prop :=
  ∀ (s : Shared) (us : List Value), K.In s.heap → (us ++ ds).length = ps.length → BindsTo s fd ⟨us, []⟩ (ps.zip (us ++ ds))
theorem Binds.all {K : PySem.W.Frag} {fd : FuncData} {ps : List Str} (h : ∀ us : List Value, us.length = ps.length → bindArgs fd ⟨us, []⟩ = pure (ps.zip us)) : Binds K fd ps [] := fun s us _ hl => by
  rw [List.append_nil] at hl ⊢
  exact .of_eq (h us hl)
def Passes (CX : CXT) (X : Cx) (E : XK) : Prop := ∀ (pins : List (Addr × Obj)) (σ : St) (H : Hp) (s : Shared) (e : Value) (s' : Shared), Inv X pins σ H s → CX X.stack H s E e s' → X.xe e s'
section
variable {X : Cx} {CX : CXT} {k : Nat} {f C : Addr} {fd : FuncData} {ps : List Str} {sp : Sp} {dvs : List V} {ds : List Value} {E : XK} {x m : Str} {p pos apos : Pos} {e o : Expr} {es : List Expr} {ta : TE} {t : TA}
theorem run_fn {pins : List (Addr × Obj)} {σ : St} {H : Hp} {s : Shared} {Q : VK} {us : List Value} {vs : List V} (F : FnOk X.prog X.w X.K X.mg X.base CX k f fd ps sp) (hr : Room k X.A) (hb : Binds X.K fd ps ds) (hd : Vals dvs ds) (hx : Passes CX X E)
    (I : Inv X pins σ H s) (r : Vals vs us) (h : sp (vs ++ dvs) H Q E) : wpAny (model X.prog X.w) X.A (call (.ref f) us) (EP X pins σ Q) X.xe s := by
  have r2 : Vals (vs ++ dvs) (us ++ ds) := r.append hd
  have hl : (us ++ ds).length = ps.length := by rw [← r2.length]; exact F.len _ _ _ _ h
  refine wpAny_call (codeAny_mono (F.run X.A X.stack s H ⟨us, []⟩ (us ++ ds) (vs ++ dvs) Q E hr I.env0 (hb s us I.kIn hl) r2 h) fun r s' hq => ?_)
  cases r with
  | error e => exact hx pins σ H s e s' I hq
  | ok fl =>
    cases fl with
    | ret u => exact I.after hq
    | next => exact False.elim hq
    | brk => exact False.elim hq
    | cont => exact False.elim hq
theorem pe_call (F : FnOk X.prog X.w X.K X.mg X.base CX k f fd ps sp) (hr : Room k X.A) (hg : Gl X x) (hm : X.mg x = some (.ref f)) (hk : PySem.W.keepIn X.K (.ref f) = true) (hb : Binds X.K fd ps ds) (hd : Vals dvs ds) (hx : Passes CX X E)
    (ha : PA X (e :: es) t) (hdb : (x == ("__debug__" : Str)) = false := by decide) (he : starEach (e :: es) X.env = (false, eval e X.env) :: starEach es X.env := by rfl) (hpl : (backTo pos (starEach es X.env)).any (·.1) = false := by rfl) :
    PE X (.Call (.Name x p) (e :: es) [] pos) (tCall sp dvs E t) := by
  intro pins s σ H Q I h
  refine wpAny_Call_Name_kw (ld_glob I hg hm ?_ hdb)
  refine PySem.W.callWith_K (h₀ := X.base) I.ok.mod.kin hk (thn (ha pos pins s σ H _ I h) fun us s1 ⟨vs, H1, I1, r, q⟩ => ⟨I1.kIn, ?_⟩) he hpl
  exact run_fn F hr hb hd hx I1 r q
structure Mk (K : PySem.W.Frag) (C f : Addr) : Prop where
  makes : PySem.W.makesIn K C = true
  init : PySem.W.findIn K (.ref C) "__init__" = some (some (.ref f))
  fn : PySem.W.isFn K (.ref f) = true
  kp : PySem.W.keepIn K (.ref C) = true
theorem run_make {pins : List (Addr × Obj)} {σ : St} {H : Hp} {s : Shared} {Q : VK} {us : List Value} {vs : List V} (M : Mk X.K C f) (F : FnOk X.prog X.w X.K X.mg X.base CX k f fd ps sp) (hr : Room (k + 1) X.A) (hb : Binds X.K fd ps ds) (hd : Vals dvs ds)
    (hx : Passes CX X E) (I : Inv X pins σ H s) (r : Vals vs us)
    (h : ∀ x dx, H x = none → H dx = none → dx ≠ x → sp (.ref x :: (vs ++ dvs)) (upd (upd H dx (.own x)) x (.ins C dx [])) (fun v H2 => v = .non ∧ Q (.ref x) H2) E) :
    wpAny (model X.prog X.w) X.A (call (.ref C) us) (EP X pins σ Q) X.xe s := by
  have hq := h (s.heap.objs.size + 1) s.heap.objs.size (I.hok.fresh (Nat.le_succ _)) (I.hok.fresh (Nat.le_refl _)) (Nat.ne_of_lt (Nat.lt_succ_self _))
  have I2 := Inv.made (C := C) I
  have r2 : Vals (V.ref (s.heap.objs.size + 1) :: (vs ++ dvs)) (Value.ref (s.heap.objs.size + 1) :: (us ++ ds)) := .cons rfl (r.append hd)
  have hl : (Value.ref (s.heap.objs.size + 1) :: us ++ ds).length = ps.length := by
    have e := r2.length
    rw [F.len _ _ _ _ hq] at e
    exact e.symm
  refine wpAny_call (make_map (f := f) I.kIn M.makes M.init (beq_iff_eq.mp M.fn) (codeAny_mono (F.run _ X.stack _ _ ⟨Value.ref (s.heap.objs.size + 1) :: us, []⟩ (Value.ref (s.heap.objs.size + 1) :: (us ++ ds)) _ _ E (hr.make C us [])
    (I2.env0.make C us []) (hb _ (Value.ref (s.heap.objs.size + 1) :: us) I2.kIn hl) r2 hq) fun r s' hq' => ?_))
  cases r with
  | error e => exact hx pins σ _ _ e s' I2 hq'
  | ok fl =>
    cases fl with
    | ret u =>
      obtain ⟨v, H', I3, rv, ev, q3⟩ := I2.after hq'
      subst ev
      exact ⟨rv, ⟨V.ref (s.heap.objs.size + 1), H', I3, rfl, q3⟩⟩
    | next => exact False.elim hq'
    | brk => exact False.elim hq'
    | cont => exact False.elim hq'
theorem pe_make (M : Mk X.K C f) (F : FnOk X.prog X.w X.K X.mg X.base CX k f fd ps sp) (hr : Room (k + 1) X.A) (hg : Gl X x) (hm : X.mg x = some (.ref C)) (hb : Binds X.K fd ps ds) (hd : Vals dvs ds) (hx : Passes CX X E)
    (ha : PA X (e :: es) t) (hdb : (x == ("__debug__" : Str)) = false := by decide) (he : starEach (e :: es) X.env = (false, eval e X.env) :: starEach es X.env := by rfl) (hpl : (backTo pos (starEach es X.env)).any (·.1) = false := by rfl) :
    PE X (.Call (.Name x p) (e :: es) [] pos) (tMake C sp dvs E t) := by
  intro pins s σ H Q I h
  refine wpAny_Call_Name_kw (ld_glob I hg hm ?_ hdb)
  refine PySem.W.callWith_K (h₀ := X.base) I.ok.mod.kin M.kp (thn (ha pos pins s σ H _ I h) fun us s1 ⟨vs, H1, I1, r, q⟩ => ⟨I1.kIn, ?_⟩) he hpl
  exact run_make M F hr hb hd hx I1 r q
end
section
variable {X : Cx} {CX : CXT} {k : Nat} {f C : Addr} {fd : FuncData} {ps ks : List Str} {sp : Sp} {E : XK} {x m : Str} {p pos apos kpos : Pos} {e o : Expr} {es : List Expr} {kws : List Keyword} {te ta : TE} {t tk : TA} {nm : Option Str}
structure KBinds (K : PySem.W.Frag) (fd : FuncData) (ps ks : List Str) (g : List Value → List Value → List Value) (gV : List V → List V → List V) : Prop where
  to : ∀ (s : Shared) (us ws : List Value), K.In s.heap → (g us ws).length = ps.length → BindsTo s fd ⟨us, ks.zip ws⟩ (ps.zip (g us ws))
  rel : ∀ {vs : List V} {us : List Value} {zs : List V} {ws : List Value}, Vals vs us → Vals zs ws → Vals (gV vs zs) (g us ws)
variable {g : List Value → List Value → List Value} {gV : List V → List V → List V}
end
structure FnScope (N P : List Str) (sc : Scope) : Prop where
  kind : sc.kind = .function
  co : sc.isCoroutine = false
  gen : sc.isGenerator = false
  nd : N.Nodup
  pre : N.take P.length = P
  par : ∀ x ∈ P, sc.names.lookup x = some .local ∨ sc.names.lookup x = some .cell
  nofree : ∀ y ∈ sc.names, y.2 ≠ .free
theorem bindL_out {kindOf : Str → Option NameKind} {x : Str} : ∀ {binds : List (Str × Value)} {m : Str → Option Value}, (∀ v, (x, v) ∉ binds) → bindL kindOf binds m x = m x
  | [], _, _ => rfl
  | (n, v) :: r, m, h => by
    unfold bindL
    rw [bindL_out fun w hw => h w (List.mem_cons_of_mem _ hw)]
    split
    · have : x ≠ n := by rintro rfl; exact h v List.mem_cons_self
      simp [this]
    · rfl
theorem bindC_out {kindOf : Str → Option NameKind} {x : Str} : ∀ {binds : List (Str × Value)} {m : Str → Option Value}, (∀ v, (x, v) ∉ binds) → bindC kindOf binds m x = m x
  | [], _, _ => rfl
  | (n, v) :: r, m, h => by
    unfold bindC
    rw [bindC_out fun w hw => h w (List.mem_cons_of_mem _ hw)]
    split
    · rfl
    · have : x ≠ n := by rintro rfl; exact h v List.mem_cons_self
      simp [this]
theorem bindL_get {kindOf : Str → Option NameKind} {x : Str} {v : Value} : ∀ {P : List Str} {vs : List Value} {i : Nat} {m : Str → Option Value}, P.Nodup → P[i]? = some x → vs[i]? = some v → kindOf x = some .local →
    bindL kindOf (P.zip vs) m x = some v
  | [], _, _, _, _, h, _, _ => by simp at h
  | _ :: _, [], _, _, _, _, h, _ => by simp at h
  | p :: P, w :: vs, 0, m, nd, h1, h2, hk => by
    simp at h1 h2; subst h1; subst h2
    show bindL kindOf ((p, w) :: P.zip vs) m p = _
    unfold bindL
    rw [bindL_out fun v hv => (List.nodup_cons.mp nd).1 (List.of_mem_zip hv).1, if_pos hk]
    simp
  | p :: P, w :: vs, i + 1, m, nd, h1, h2, hk => by
    show bindL kindOf ((p, w) :: P.zip vs) m x = _
    unfold bindL
    exact bindL_get (i := i) (List.nodup_cons.mp nd).2 (by simpa using h1) (by simpa using h2) hk
theorem bindC_get {kindOf : Str → Option NameKind} {x : Str} {v : Value} : ∀ {P : List Str} {vs : List Value} {i : Nat} {m : Str → Option Value}, P.Nodup → P[i]? = some x → vs[i]? = some v → kindOf x ≠ some .local →
    bindC kindOf (P.zip vs) m x = some v
  | [], _, _, _, _, h, _, _ => by simp at h
  | _ :: _, [], _, _, _, _, h, _ => by simp at h
  | p :: P, w :: vs, 0, m, nd, h1, h2, hk => by
    simp at h1 h2; subst h1; subst h2
    show bindC kindOf ((p, w) :: P.zip vs) m p = _
    unfold bindC
    rw [bindC_out fun v hv => (List.nodup_cons.mp nd).1 (List.of_mem_zip hv).1, if_neg hk]
    simp
  | p :: P, w :: vs, i + 1, m, nd, h1, h2, hk => by
    show bindC kindOf ((p, w) :: P.zip vs) m x = _
    unfold bindC
    exact bindC_get (i := i) (List.nodup_cons.mp nd).2 (by simpa using h1) (by simpa using h2) hk
def start (N : List Str) (vs : List V) : St := vs.map some ++ List.replicate (N.length - vs.length) none
def cxOf (CX : CXT) (P : Program) (w : World) (K : PySem.W.Frag) (mg : Str → Option Value) (base : Heap) (N : List Str) (qual : Str) (scope : Scope) (f : Addr) (cd : Value) (A : Around) (outer : List Env) (s : Shared) (H : Hp) (E : XK) : Cx where
  prog := P
  w := w
  K := K
  mg := mg
  base := base
  A := A.deeper (envOfC qual scope s.heap.objs.size f cd)
  N := N
  s₀ := s
  H₀ := H
  env := envOfC qual scope s.heap.objs.size f cd
  outer := outer
  stack := envOfC qual scope s.heap.objs.size f cd :: outer
  ex := []
  calm := true
  fn := fun _ => true
  pn := []
  xe := fun e s' => wpAny (model P w) (A.deeper (envOfC qual scope s.heap.objs.size f cd)) (leaving (envOfC qual scope s.heap.objs.size f cd) e) (fun _ s'' => CX outer H s E e s'') (fun e' s'' => CX outer H s E e' s'') s'
theorem cell_has {sc : Scope} {n : Nat} {x : Str} (h : sc.names.lookup x = some .cell) : ∃ c, (cellsFrom n sc.names []).lookup x = some c := by
  have q := PySem.W.cellsFrom_some sc.names n [] (.inl h)
  exact Option.isSome_iff_exists.mp q
theorem inv_start {CX : CXT} {P : Program} {w : World} {K : PySem.W.Frag} {mg : Str → Option Value} {base : Heap} {N ps : List Str} {qual : Str} {scope : Scope} {f : Addr} {cd : Value} {A : Around} {outer : List Env} {s s1 : Shared} {H : Hp} {E : XK} {us : List Value} {vs : List V}
    (S : FnScope N ps scope) (hd : A.handled = none) (e0 : Env0 P w K mg base A outer s H) (hl : vs.length = ps.length) (r : Vals vs us)
    (x : InCallC s s.heap.objs.size (bindL (envOfC qual scope s.heap.objs.size f cd).kindOf (ps.zip us) fun _ => none) (cellsFrom (s.heap.objs.size + 1) scope.names []) (bindC (envOfC qual scope s.heap.objs.size f cd).kindOf (ps.zip us) fun _ => none) s1) :
    Inv (cxOf CX P w K mg base N qual scope f cd A outer s H E) [] (start N vs) H s1 := by
  have hpl : ps.length ≤ N.length := by have := congrArg List.length S.pre; rw [List.length_take] at this; omega
  obtain ⟨h1, tk, rfl, hk⟩ := x.done
  have noA : ∀ b : Addr, b ∉ (cxOf CX P w K mg base N qual scope f cd A outer s H E).ex := fun b z => absurd (show b ∈ ([] : List Addr) from z) (by simp)
  refine ⟨⟨e0.mod, S.kind, rfl, rfl, Nat.le_refl _, fun y z c h1 h2 => ?_, fun y hy => ?_, fun y c _ h => ?_, fun _ => hd, Around.frames_deeper e0.frames, .inr ⟨rfl, rfl⟩, fun b z => absurd z (noA b), e0.bs, e0.bsz, fun b _ _ => noA b, fun b z => absurd z (noA b), e0.funs, e0.frf⟩,
    rfl, e0.bare, Un.kept hk, ⟨_, x.toInCall.ns, fun i y v h1 h2 h3 => ?_⟩, fun y c h => ⟨_, x.cell y c h⟩, e0.hok.fresh (Nat.le_refl _), fun y c h => ?_, fun p hp => absurd (show p ∈ ([] : List (Addr × Obj)) from hp) (by simp), e0.hok.kept hk, ?_⟩
  · exact name_of_addr x.apart (PySem.mem_of_lookup h1) (PySem.mem_of_lookup h2)
  · have hy : scope.names.lookup y = some .cell ∨ scope.names.lookup y = some .free := hy
    rcases hy with hy | hy
    · exact cell_has hy
    · exact absurd rfl (S.nofree _ (PySem.mem_of_lookup hy))
  · exact Nat.le_of_lt (x.above y c (PySem.mem_of_lookup h))
  · have hi : i < vs.length := by
      unfold start at h2
      by_cases hi : i < vs.length
      · exact hi
      · rw [List.getElem?_append_right (by simpa using hi)] at h2
        rw [List.getElem?_replicate] at h2
        split at h2 <;> cases h2
    have ha : vs[i]? = some v := by
      unfold start at h2
      rw [List.getElem?_append_left (by simpa using hi), List.getElem?_map] at h2
      cases e : vs[i]? with
      | none => rw [e] at h2; cases h2
      | some a => rw [e] at h2; cases h2; rfl
    obtain ⟨u, hu, rv⟩ := r.get ha
    have hp : ps[i]? = some y := by
      rw [← S.pre, List.getElem?_take_of_lt (by omega)]; exact h1
    have ndP : ps.Nodup := by rw [← S.pre]; exact S.nd.sublist (List.take_sublist _ _)
    refine ⟨u, rv, ?_⟩
    rcases S.par y (List.mem_of_getElem? hp) with k | k
    · exact .inl ⟨k, bindL_get ndP hp hu k⟩
    · obtain ⟨c, e⟩ := cell_has (n := s.heap.objs.size + 1) k
      refine .inr ⟨.inl k, c, e, ?_⟩
      have q := x.cell y c e
      rw [bindC_get ndP hp hu (by show scope.names.lookup y ≠ _; rw [k]; decide)] at q
      exact q
  · exact e0.hok.fresh (Nat.le_of_lt (x.above y c (PySem.mem_of_lookup h)))
  · unfold start
    show _ = N.length
    rw [List.length_append, List.length_map, List.length_replicate]
    omega
theorem fn_of {CX : CXT} {P : Program} {w : World} {K : PySem.W.Frag} {mg : Str → Option Value} {base : Heap} {k : Nat} {f : Addr} {name qual : Str} {params : Arguments} {body : List Stmt} {scope : Scope} {dV kV doc pm cdv ct oc : Value} {an od : Option Addr}
    {osl : Array (Option Value)} {N ps : List Str} {sp : Sp} (lk : K.lookup f = some ⟨oc, od, .func (PySem.W.fnOf name qual params body scope dV kV doc pm an cdv ct), osl⟩) (hcd : PySem.W.codeIn K cdv qual = true) (S : FnScope N ps scope)
    (len : ∀ vs H Q E, sp vs H Q E → vs.length = ps.length)
    (hbody : ∀ (A : Around) (outer : List Env) (s : Shared) (H : Hp) (vs : List V) (Q : VK) (E : XK), Room k (A.deeper (envOfC qual scope s.heap.objs.size f cdv)) → sp vs H Q E →
      ∃ t, PSs (cxOf CX P w K mg base N qual scope f cdv A outer s H E) body t ∧ t { nx := fun _ H' => Q .non H', rt := Q } (start N vs) H) :
    FnOk P w K mg base CX (k + 1) f (PySem.W.fnOf name qual params body scope dV kV doc pm an cdv ct) ps sp := by
  refine ⟨len, fun A outer s H args us vs Q E hr e0 hb r hsp => ?_⟩
  have hl := len _ _ _ _ hsp
  have KX : K.In s.heap := e0.mod.kin.keeps fun b o e => (e0.bs b o e).1
  have lim : s.heap.NoLimit := e0.mod.nolimit.keeps fun b o e => (e0.bs b o e).1
  have hkind : ∀ y ∈ ps.zip us, scope.names.lookup y.1 = some .local ∨ (scope.names.lookup y.1 = some .cell ∧ ((cellsFrom (s.heap.objs.size + 1) scope.names []).lookup y.1).isSome = true) := fun ⟨n, v⟩ hy => by
    rcases S.par n (List.of_mem_zip hy).1 with q | q
    · exact .inl q
    · exact .inr ⟨q, PySem.W.cellsFrom_some _ _ _ (.inl q)⟩
  refine codeAny_call_function hr.depth (KX _ _ lk) rfl S.co S.gen rfl (PySem.W.codeRec_of KX hcd) (hb _ _ _ _ ?_)
  refine wpAny_newFunctionEnv_cells S.kind hkind fun env he s1 x => ?_
  subst he
  refine ⟨lim.keeps x.toInCall.keep, codeAny_func ?_⟩
  obtain ⟨t, ht, hq⟩ := hbody A outer s H vs Q E (hr.deeper _) hsp
  have I : Inv (cxOf CX P w K mg base N qual scope f cdv A outer s H E) [] (start N vs) H s1 := inv_start S hr.hd e0 hl r x
  refine wpAny_mono (ht [] s1 (start N vs) H _ I hq) (fun fl s' hs => ?_) fun e s' hs => hs
  have fin : ∀ {σ' : St} {H' : Hp} {v : V} {u : Value}, Inv (cxOf CX P w K mg base N qual scope f cdv A outer s H E) [] σ' H' s' → RelV v u → Q v H' → CE outer P w H s Q u s' :=
    fun {σ' H' v u} J rv q => ⟨v, H', J.os, J.bare, J.base, J.hok, rv, q⟩
  cases fl with
  | ret u =>
    obtain ⟨v, σ', H', J, rv, q⟩ := hs
    exact fin J rv q
  | next =>
    obtain ⟨σ', H', J, q⟩ := hs
    exact fin (v := V.non) (u := Value.none) J rfl q
  | brk =>
    obtain ⟨_, _, _, q⟩ := hs
    exact False.elim q
  | cont =>
    obtain ⟨_, _, _, q⟩ := hs
    exact False.elim q
end L2
namespace L2
open PySem PySem.Spec PyProof.Rows
section
variable {X : Cx} {x : Str} {p pos : Pos} {e : Expr} {es : List Expr} {t : TA} {id T : String} {r : List V → Hp → VK → Prop}
def tCB (r : List V → Hp → VK → Prop) (t : TA) : TE := fun σ H Q => t σ H fun vs H1 => r vs H1 Q
theorem pe_callB (hc : CallR X (.builtin id) r) (hg : Gl X x) (hm : X.mg x = none) (hv : bootBuiltins x = some (.builtin id)) (ha : PA X (e :: es) t) (hn : x ≠ "__name__" := by decide) (hdb : (x == ("__debug__" : Str)) = false := by decide)
    (he : starEach (e :: es) X.env = (false, eval e X.env) :: starEach es X.env := by rfl) (hpl : (backTo pos (starEach es X.env)).any (·.1) = false := by rfl) : PE X (.Call (.Name x p) (e :: es) [] pos) (tCB r t) := by
  intro pins s σ H Q I h
  refine wpAny_Call_Name_kw (ld_blt I hg hm hv ?_ hn hdb)
  exact PyProof.Rows.callWith_builtin1 (thn (ha pos pins s σ H _ I h) fun us s1 ⟨vs, H1, I1, r1, q1⟩ => hc pins s1 σ H1 vs us Q I1 r1 q1) he hpl
theorem pe_callTy (hc : CallR X (.type T) r) (hg : Gl X x) (hm : X.mg x = none) (hv : bootBuiltins x = some (.type T)) (ha : PA X (e :: es) t) (hn : x ≠ "__name__" := by decide) (hdb : (x == ("__debug__" : Str)) = false := by decide)
    (he : starEach (e :: es) X.env = (false, eval e X.env) :: starEach es X.env := by rfl) (hpl : (backTo pos (starEach es X.env)).any (·.1) = false := by rfl) : PE X (.Call (.Name x p) (e :: es) [] pos) (tCB r t) := by
  intro pins s σ H Q I h
  refine wpAny_Call_Name_kw (ld_blt I hg hm hv ?_ hn hdb)
  exact PyProof.Rows.callWith_type1 (thn (ha pos pins s σ H _ I h) fun us s1 ⟨vs, H1, I1, r1, q1⟩ => hc pins s1 σ H1 vs us Q I1 r1 q1) he hpl
end
end L2
namespace HT
open PySem PyProof.Rows
section
open PySem.SeqAt
open PySem.AutoSeq1 (wpAny_loadPart')
open PySem.MeetsSeq PySem.MeetsSeq2 PySem.MeetsSeq3
end
section
variable {prog : Program} {w : World} {A : Around} {E : Value → Shared → Prop} {s : Shared}
def sIx (n d : Nat) : Option Int → Nat
  | none => d
  | some v => if v < 0 then (v + (n : Int)).toNat else min v.toNat n
theorem sIx_none (n d : Nat) : sIx n d none = d := rfl
theorem sIx_nat (n d k : Nat) : sIx n d (some (k : Int)) = min k n := by
  show (if (k : Int) < 0 then ((k : Int) + (n : Int)).toNat else min (k : Int).toNat n) = min k n
  rw [if_neg (by omega), Int.toNat_natCast]
end
end HT
namespace L2
open PySem PySem.Spec PyProof.Rows
abbrev TO := St → Hp → (Option Int → Hp → Prop) → Prop
def PO (X : Cx) (e : Option Expr) (t : TO) : Prop :=
  ∀ (pins : List (Addr × Obj)) (s : Shared) (σ : St) (H : Hp) (Q : Option Int → Hp → Prop), Inv X pins σ H s → t σ H Q →
    wpAny (model X.prog X.w) X.A (evalPart e X.env) (fun u s' => ∃ o H', Inv X pins σ H' s' ∧ IsPart u o ∧ Q o H') X.xe s
def tNoPart : TO := fun _ H Q => Q none H
def tPart (t : TE) : TO := fun σ H Q => t σ H fun x H1 => ∃ i, x = .int i ∧ Q (some i) H1
section
variable {X : Cx} {e : Expr} {te : TE} {lo hi : Option Expr} {tl th : TO} {pos p2 : Pos}
theorem po_none : PO X none tNoPart := by
  intro pins s σ H Q I h
  rw [evalPart_none]
  exact wpAny_pure ⟨none, H, I, .none, h⟩
theorem po_some (h : PE X e te) : PO X (some e) (tPart te) := by
  intro pins s σ H Q I hw
  rw [evalPart_some]
  refine thn (h pins s σ H _ I hw) fun u s1 ⟨x, H1, I1, r1, q1⟩ => ?_
  obtain ⟨i, rfl, q⟩ := q1
  obtain ⟨t, rfl⟩ := r1
  exact ⟨some i, H1, I1, .int i t, q⟩
def SlR (X : Cx) (r : V → Option Int → Option Int → Hp → VK → Prop) : Prop :=
  ∀ (pins : List (Addr × Obj)) (s : Shared) (σ : St) (H : Hp) (x : V) (v vl vu : Value) (lo hi : Option Int) (sl : Addr) (Q : VK), Inv X pins σ H s → RelV x v → s.heap.IsSliceOf sl vl vu .none → IsPart vl lo → IsPart vu hi → r x lo hi H Q →
    ∃ T id, typeLookup (.type T) "__getitem__" = pure (some (.builtin id)) ∧ s.TypeIs v T ∧ wpAny (model X.prog X.w) X.A (getItem v (.ref sl)) (EP X pins σ Q) X.xe s
theorem SlR.or {r r' : V → Option Int → Option Int → Hp → VK → Prop} (h : SlR X r) (h' : SlR X r') : SlR X (fun x lo hi H Q => r x lo hi H Q ∨ r' x lo hi H Q) := by
  intro pins s σ H x v vl vu lo hi sl Q I rx hs pl pu q
  rcases q with q | q
  · exact h pins s σ H x v vl vu lo hi sl Q I rx hs pl pu q
  · exact h' pins s σ H x v vl vu lo hi sl Q I rx hs pl pu q
def tSl (r : V → Option Int → Option Int → Hp → VK → Prop) (te : TE) (tl th : TO) : TE := fun σ H Q => te σ H fun x H1 => tl σ H1 fun l H2 => th σ H2 fun u H3 => r x l u H3 Q
theorem pe_slice {r : V → Option Int → Option Int → Hp → VK → Prop} (hr : SlR X r) (he : PE X e te) (hl : PO X lo tl) (hu : PO X hi th) : PE X (.Subscript e (.Slice lo hi none p2) pos) (tSl r te tl th) := by
  intro pins s σ H Q I h
  refine Subscript_ (thn (he pins s σ H _ I h) fun v s1 ⟨x, H1, I1, r1, q1⟩ => ?_)
  refine wpAny_Slice (thn (hl pins s1 σ H1 _ I1 q1) fun vl s2 ⟨l, H2, I2, pl, q2⟩ => thn (hu pins s2 σ H2 _ I2 q2) fun vu s3 ⟨u, H3, I3, pu, q3⟩ => ?_)
  rw [evalPart_none]
  refine wpAny_pure ?_
  have I4 : Inv X pins σ H3 { s3 with heap := s3.heap.push { cls := .type "slice", data := .fields #[vl, vu, .none] } } := I3.kept (t' := s3.toks) fun b ob q => Heap.get?_push_of_some _ q
  obtain ⟨T, id, hT, ht, hg⟩ := hr pins { s3 with heap := s3.heap.push { cls := .type "slice", data := .fields #[vl, vu, .none] } } σ H3 x v vl vu l u s3.heap.objs.size Q I4 r1 (Heap.IsSliceOf.new ..) pl pu q3
  show wpAny (model X.prog X.w) X.A (subscriptTail e (.Slice lo hi none p2) v (.ref s3.heap.objs.size)) (EP X pins σ Q) X.xe { s3 with heap := s3.heap.push { cls := .type "slice", data := .fields #[vl, vu, .none] } }
  exact tail_any (ops := [.ref s3.heap.objs.size, v]) ht hT hg (by with_unfolding_all rfl)
def cutV (xs : List V) (lo hi : Option Int) : List V := (xs.drop (HT.sIx xs.length 0 lo)).take (HT.sIx xs.length xs.length hi - HT.sIx xs.length 0 lo)
theorem cutV_length (xs : List V) (lo hi : Option Int) : (cutV xs lo hi).length ≤ xs.length := by
  unfold cutV
  rw [List.length_take, List.length_drop]
  omega
end
end L2
namespace L2
open PySem PySem.Spec PyProof.Rows
def ixN (n : Nat) (i : Int) : Option Nat := if 0 ≤ i then (if i < n then some i.toNat else none) else if -(n : Int) ≤ i then some (i + n).toNat else none
def atI {α : Type} (xs : List α) (i : Int) : Option α := (ixN xs.length i).bind fun j => xs[j]?
theorem ixN_seq {n : Nat} {i : Int} {j : Nat} (h : ixN n i = some j) : seqIndex? i n = some j ∧ j < n ∧ -(n : Int) ≤ i ∧ i < n := by
  unfold ixN at h
  by_cases h0 : 0 ≤ i
  · rw [if_pos h0] at h
    by_cases h1 : i < n
    · rw [if_pos h1] at h
      have e : i.toNat = j := Option.some.inj h
      exact ⟨by rw [seqIndex_of h0 h1, e], by omega, by omega, h1⟩
    · rw [if_neg h1] at h; cases h
  · rw [if_neg h0] at h
    by_cases h1 : -(n : Int) ≤ i
    · rw [if_pos h1] at h
      have e : (i + n).toNat = j := Option.some.inj h
      exact ⟨by rw [seqIndex_neg (by omega) h1, e], by omega, h1, by omega⟩
    · rw [if_neg h1] at h; cases h
theorem atI_get {α : Type} {xs : List α} {i : Int} {v : α} (h : atI xs i = some v) : ∃ j, seqIndex? i xs.length = some j ∧ xs[j]? = some v ∧ j < xs.length ∧ -(xs.length : Int) ≤ i ∧ i < xs.length := by
  unfold atI at h
  cases e : ixN xs.length i with
  | none => rw [e] at h; cases h
  | some j =>
    rw [e] at h
    obtain ⟨h1, h2, h3, h4⟩ := ixN_seq e
    exact ⟨j, h1, h, h2, h3, h4⟩
theorem atI_nat {α : Type} {xs : List α} {j : Nat} {v : α} (h : xs[j]? = some v) : atI xs (j : Int) = some v := by
  have hj : j < xs.length := (List.getElem?_eq_some_iff.mp h).1
  have e : ixN xs.length (j : Int) = some j := by
    unfold ixN
    rw [if_pos (by omega), if_pos (by omega)]; simp
  unfold atI; rw [e]; exact h
def PlainIx (b : Expr) : Prop := ∀ o i, subscripted b false o i = operate [o, i] (getItem o i)
def IxR (X : Cx) (r : R2) : Prop :=
  ∀ (value slice : Expr) (pins : List (Addr × Obj)) (s : Shared) (σ : St) (H : Hp) (x y : V) (v u : Value) (Q : VK), Inv X pins σ H s → RelV x v → RelV y u → r x y H Q →
    subscripted slice false v u = operate [v, u] (getItem v u) → wpAny (model X.prog X.w) X.A (subscriptTail value slice v u) (EP X pins σ Q) X.xe s
def MtR (X : Cx) (id : String) (r : V → List V → Hp → VK → Prop) : Prop :=
  ∀ (pins : List (Addr × Obj)) (s : Shared) (σ : St) (H : Hp) (x : V) (xs : List V) (v : Value) (us : List Value) (Q : VK), Inv X pins σ H s → RelV x v → Vals xs us → r x xs H Q →
    wpAny (model X.prog X.w) X.A (call (.builtin id) (v :: us)) (EP X pins σ Q) X.xe s
section
variable {X : Cx} {a b : Expr} {ta tb : TE} {pos : Pos}
theorem IxR.or {r r' : R2} (h : IxR X r) (h' : IxR X r') : IxR X (fun x y H Q => r x y H Q ∨ r' x y H Q) := by
  intro value slice pins s σ H x y v u Q I rx ry q hs
  rcases q with q | q
  · exact h value slice pins s σ H x y v u Q I rx ry q hs
  · exact h' value slice pins s σ H x y v u Q I rx ry q hs
theorem MtR.or {id : String} {r r' : V → List V → Hp → VK → Prop} (h : MtR X id r) (h' : MtR X id r') : MtR X id (fun x xs H Q => r x xs H Q ∨ r' x xs H Q) := by
  intro pins s σ H x xs v us Q I rx rs q
  rcases q with q | q
  · exact h pins s σ H x xs v us Q I rx rs q
  · exact h' pins s σ H x xs v us Q I rx rs q
theorem pe_ix {r : R2} (hr : IxR X r) (ha : PE X a ta) (hb : PE X b tb) (hs : PlainIx b) : PE X (.Subscript a b pos) (tOp r ta tb) := by
  intro pins s σ H Q I h
  exact Subscript_ (binT ha hb I h fun v u s2 x y H2 I2 rx ry q => hr a b pins s2 σ H2 x y v u Q I2 rx ry q (hs _ _))
def rIxL (K : PySem.W.Frag) : R2 := fun x y H Q => ∃ p xs i v, x = .ref p ∧ y = .int i ∧ SqL K H p xs ∧ atI xs i = some v ∧ Q v H
def rIxS : R2 := fun x y H Q => ∃ z i c, x = .str z ∧ y = .int i ∧ z.length ≤ sizeLine ∧ atI z.cps.toList i = some c ∧ Q (.str ⟨#[c]⟩) H
theorem ix_list : IxR X (rIxL X.K) := by
  intro value slice pins s σ H x y v u Q I rx ry h hs
  obtain ⟨p, xs, i, z, rfl, rfl, hq, he, q⟩ := h
  cases rx
  obtain ⟨t, rfl⟩ := ry
  obtain ⟨its, r, pl, hz⟩ := I.list hq
  obtain ⟨j, h1, h2, h3, h4, h5⟩ := atI_get he
  obtain ⟨w, ew, rw'⟩ := r.get h2
  have hl := r.length
  have hn := line63
  have fin : EP X pins σ Q w s := ⟨z, H, I, rw', q⟩
  by_cases h0 : 0 ≤ i
  · have hj : i.toNat = j := by
      rw [seqIndex_of h0 h5] at h1
      exact Option.some.inj h1
    exact item_listR pl.isList h0 (by omega) (by rw [hj]; simpa using ew) fin hs
  · have hj : (i + (its.toArray.size : Int)).toNat = j := by
      rw [seqIndex_neg (by omega) h4] at h1
      rw [List.size_toArray, ← hl]
      exact Option.some.inj h1
    exact subscriptTail_builtinR (x := w) pl.isList.typeIs slot_list_getitem.lookup
      (wpAny_getItem_list_neg (Q := fun r s' => r = w ∧ EP X pins σ Q r s') pl.isList (by omega) (by rw [List.size_toArray] <;> omega) (by omega) (by rw [hj]; simpa using ew) ⟨rfl, fin⟩) hs
theorem ix_str : IxR X rIxS := by
  intro value slice pins s σ H x y v u Q I rx ry h hs
  obtain ⟨z, i, c, rfl, rfl, hz, he, q⟩ := h
  obtain ⟨t, rfl⟩ := rx
  obtain ⟨t', rfl⟩ := ry
  obtain ⟨j, h1, h2, h3, h4, h5⟩ := atI_get he
  have hl : z.cps.toList.length = z.length := by simp [Str.length]
  rw [hl] at h1 h4 h5
  have hn := line63
  exact tail_any (typeIs_str s z t) slot_str_getitem.lookup (getItem_str (c := c) (by
    have e1 : decide (i < -(2 ^ 63 : Int)) = false := decide_eq_false (by omega)
    have e2 : decide (i ≥ 2 ^ 63) = false := decide_eq_false (by omega)
    rw [e1, e2, Bool.or_false]) (by rw [h1]; simpa using h2) ⟨.str ⟨#[c]⟩, H, I.tok _, ⟨_, rfl⟩, q⟩) hs
theorem mapSeq_set (its : List Value) (n j : Nat) (u : Value) : Obj.mapSeq (·.setIfInBounds j u) { cls := .type "list", data := .seq its.toArray n } = { cls := .type "list", data := .seq (its.set j u).toArray n } := by
  simp [Obj.mapSeq]
theorem Inv.lst {pins : List (Addr × Obj)} {σ : St} {H : Hp} {s : Shared} {p : Addr} {xs : List V} (I : Inv X pins σ H s) (h : H p = some (.lst xs)) :
    ∃ (its : List Value) (n : Nat), Vals xs its ∧ s.heap.get? p = some { cls := .type "list", data := .seq its.toArray n } ∧ xs.length ≤ sizeLine := by
  obtain ⟨z, its, n, r, e⟩ := I.hok p _ h
  exact ⟨its, n, r, e, z⟩
theorem Inv.lstUpd {pins : List (Addr × Obj)} {σ : St} {H : Hp} {s : Shared} {p : Addr} {xs ys : List V} {its its' : List Value} {n n' : Nat} {f : Obj → Obj} (I : Inv X pins σ H s) (h : H p = some (.lst xs))
    (ho : s.heap.get? p = some { cls := .type "list", data := .seq its.toArray n }) (hf : f { cls := .type "list", data := .seq its.toArray n } = { cls := .type "list", data := .seq its'.toArray n' }) (r : Vals ys its') (hz : ys.length ≤ sizeLine) (t : Nat) :
    Inv X pins σ (upd H p (.lst ys)) { s with heap := s.heap.update p f, toks := t } := by
  have e : (s.heap.update p f).get? p = some { cls := .type "list", data := .seq its'.toArray n' } := by
    rw [Heap.get?_update_self f ho (by rw [hf] <;> rfl), hf]
  refine I.write (x := p) (e := p) (by rw [h]; trivial) (.inl rfl) (fun b u hb q => (Heap.get?_update_other _ _ (Ne.symm hb)).trans q) ⟨_, e⟩ ?_
  exact ⟨hz, its', n', r, e⟩
def rSetL : V → V → V → Hp → (Hp → Prop) → Prop := fun o i v H Q => ∃ p xs k j, o = .ref p ∧ i = .int k ∧ H p = some (.lst xs) ∧ ixN xs.length k = some j ∧ Q (upd H p (.lst (xs.set j v)))
theorem set_list : PSet X rSetL := by
  intro pins s σ H o i v ov iv u Q I ro ri rv h
  obtain ⟨p, xs, k, j, rfl, rfl, hp, hj, q⟩ := h
  cases ro
  obtain ⟨t, rfl⟩ := ri
  obtain ⟨its, n, r, ho, hz⟩ := I.lst hp
  obtain ⟨h1, h2, h3, h4⟩ := ixN_seq hj
  have hl := r.length
  have hn := line63
  have I' : Inv X pins σ (upd H p (.lst (xs.set j v))) { s with heap := s.heap.update p (Obj.mapSeq (·.setIfInBounds j u)) } :=
    I.lstUpd hp ho (mapSeq_set its n j u) (r.set rv j) (by rw [List.length_set]; exact hz) s.toks
  by_cases h0 : 0 ≤ k
  · have hk : k.toNat = j := by
      rw [seqIndex_of h0 h4] at h1
      exact Option.some.inj h1
    exact PySem.W.ki_setAt ho h0 (by omega) (by rw [List.size_toArray, ← hl]; exact h4) (by rw [hk]; exact ⟨_, I', q⟩)
  · have hk : (k + (its.toArray.size : Int)).toNat = j := by
      rw [seqIndex_neg (by omega) h3] at h1
      rw [List.size_toArray, ← hl]
      exact Option.some.inj h1
    exact PySem.W.ki_setBack ho (by omega) (by rw [List.size_toArray, ← hl]; exact h3) (by omega) (by rw [hk]; exact ⟨_, I', q⟩)
theorem slice_bounds (lo hi : Option Int) (n : Nat) : (sliceBounds lo hi none n).1 = ((HT.sIx n 0 lo : Nat) : Int) ∧ (sliceBounds lo hi none n).2.1 = ((HT.sIx n n hi : Nat) : Int) ∧ (sliceBounds lo hi none n).2.2 = 1 := by
  refine ⟨?_, ?_, rfl⟩
  · cases lo with
    | none => simp [sliceBounds, HT.sIx]
    | some i =>
      simp only [sliceBounds, HT.sIx, Option.getD_none, show (1 : Int) > 0 by decide, if_true]
      by_cases h : i < 0
      · simp only [h, if_true] <;> omega
      · simp only [h, if_false] <;> omega
  · cases hi with
    | none => simp [sliceBounds, HT.sIx]
    | some i =>
      simp only [sliceBounds, HT.sIx, Option.getD_none, show (1 : Int) > 0 by decide, if_true]
      by_cases h : i < 0
      · simp only [h, if_true] <;> omega
      · simp only [h, if_false] <;> omega
theorem slicePick_cut (its : List Value) (lo hi : Option Int) : slicePick its.toArray lo hi none = ((its.drop (HT.sIx its.length 0 lo)).take (HT.sIx its.length its.length hi - HT.sIx its.length 0 lo)).toArray := by
  obtain ⟨h1, h2, h3⟩ := slice_bounds lo hi its.toArray.size
  unfold slicePick
  rw [h1, h2, h3]
  simp only [sliceRange_one, pick_run, List.size_toArray] <;> rfl
def rSlL (K : PySem.W.Frag) : V → Option Int → Option Int → Hp → VK → Prop := fun x lo hi H Q => ∃ a xs, x = .ref a ∧ SqL K H a xs ∧ ∀ p, H p = none → Q (.ref p) (upd H p (.lst (cutV xs lo hi)))
theorem sl_list : SlR X (rSlL X.K) := by
  intro pins s σ H x v vl vu lo hi sl Q I rx hs pl pu h
  obtain ⟨a, xs, rfl, hx, q⟩ := h
  cases rx
  obtain ⟨its, r, ht, hz⟩ := I.list hx
  have hlen := r.length
  refine ⟨"list", _, slot_list_getitem.lookup, ht.isList.typeIs, ?_⟩
  refine wpAny_getItem_list_slice ht.isList hs pl pu .none (by simp) ?_ (by rw [List.size_toArray] <;> omega)
  rw [slicePick_cut, ← hlen]
  refine ⟨.ref s.heap.objs.size, _, I.laid (t' := s.toks) (o := .lst (cutV xs lo hi)) (fun b ob q => Heap.get?_push_of_some _ q) (Nat.le_refl _) ?_, rfl, q _ (I.hok.fresh (Nat.le_refl _))⟩
  exact ⟨Nat.le_trans (cutV_length xs lo hi) hz, _, 0, (r.drop (HT.sIx xs.length 0 lo)).take (HT.sIx xs.length xs.length hi - HT.sIx xs.length 0 lo), Heap.get?_push_size _ rfl⟩
def flatV : V → Bool
  | .non => true
  | .bl _ => true
  | .int _ => true
  | .str _ => true
  | _ => false
def eqV : V → V → Bool
  | .non, .non => true
  | .bl a, .bl b => a == b
  | .bl a, .int b => (if a then 1 else 0) == b
  | .int a, .bl b => a == (if b then 1 else 0)
  | .int a, .int b => a == b
  | .str a, .str b => a == b
  | _, _ => false
theorem eqAt_V {A : Around} {s : Shared} {y x : V} {u v : Value} (ry : RelV y u) (rx : RelV x v) (fy : flatV y = true) (fx : flatV x = true) : SeqAt.EqAt A s u v (eqV y x) := by
  cases y with
  | non =>
    cases ry
    cases x with
    | non => cases rx; exact SeqAt.EqAt.same _
    | bl b => cases rx; exact SeqAt.EqAt.none_bool b
    | int b => obtain ⟨t, rfl⟩ := rx; exact SeqAt.EqAt.none_int b t
    | str b => obtain ⟨t, rfl⟩ := rx; exact SeqAt.EqAt.none_str b t
    | _ => exact absurd (show false = true from fx) Bool.false_ne_true
  | bl a =>
    cases ry
    cases x with
    | non => cases rx; exact SeqAt.EqAt.bool_none a
    | bl b => cases rx; exact SeqAt.EqAt.bool_bool a b
    | int b => obtain ⟨t, rfl⟩ := rx; exact SeqAt.EqAt.bool_int a b t
    | str b => obtain ⟨t, rfl⟩ := rx; exact SeqAt.EqAt.bool_str a b t
    | _ => exact absurd (show false = true from fx) Bool.false_ne_true
  | int a =>
    obtain ⟨t', rfl⟩ := ry
    cases x with
    | non => cases rx; exact SeqAt.EqAt.int_none a t'
    | bl b => cases rx; exact SeqAt.EqAt.int_bool a t' b
    | int b => obtain ⟨t, rfl⟩ := rx; exact SeqAt.EqAt.int_int a t' b t
    | str b => obtain ⟨t, rfl⟩ := rx; exact SeqAt.EqAt.int_str a t' b t
    | _ => exact absurd (show false = true from fx) Bool.false_ne_true
  | str a =>
    obtain ⟨t', rfl⟩ := ry
    cases x with
    | non => cases rx; exact SeqAt.EqAt.str_none a t'
    | bl b => cases rx; exact SeqAt.EqAt.str_bool a t' b
    | int b => obtain ⟨t, rfl⟩ := rx; exact SeqAt.EqAt.str_int a t' b t
    | str b => obtain ⟨t, rfl⟩ := rx; exact SeqAt.EqAt.str_str a t' b t
    | _ => exact absurd (show false = true from fx) Bool.false_ne_true
  | _ => exact absurd (show false = true from fy) Bool.false_ne_true
def eqU (x : V) (u : Value) : Bool := match u with
  | .none => eqV .non x
  | .bool b => eqV (.bl b) x
  | .int i _ => eqV (.int i) x
  | .str z _ => eqV (.str z) x
  | _ => false
theorem eqU_of {x y : V} {u : Value} (r : RelV y u) (f : flatV y = true) : eqU x u = eqV y x := by
  cases y with
  | non => cases r; rfl
  | bl b => cases r; rfl
  | int i => obtain ⟨t, rfl⟩ := r; rfl
  | str z => obtain ⟨t, rfl⟩ := r; rfl
  | _ => exact absurd (show false = true from f) Bool.false_ne_true
theorem any_eqU {x : V} : ∀ {xs : List V} {us : List Value}, Vals xs us → xs.all flatV = true → us.any (eqU x) = xs.any fun y => eqV y x
  | _, _, .nil, _ => rfl
  | y :: xs, u :: us, .cons r t, f => by
    rw [List.all_cons, Bool.and_eq_true] at f
    rw [List.any_cons, List.any_cons, eqU_of r f.1, any_eqU t f.2]
theorem mem_eqAt {A : Around} {s : Shared} {x : V} {v : Value} (rx : RelV x v) (fx : flatV x = true) : ∀ {xs : List V} {us : List Value}, Vals xs us → xs.all flatV = true → ∀ u ∈ us, SeqAt.EqAt A s u v (eqU x u)
  | _, _, .nil, _ => fun u hu => by cases hu
  | y :: xs, u :: us, .cons r t, f => fun u' hu => by
    rw [List.all_cons, Bool.and_eq_true] at f
    rcases List.mem_cons.mp hu with rfl | hu
    · rw [eqU_of r f.1]; exact eqAt_V r rx f.1 fx
    · exact mem_eqAt rx fx t f.2 u' hu
def inV (x : V) (xs : List V) : Bool := xs.any fun y => eqV y x
def rIn (K : PySem.W.Frag) (neg : Bool) : R2 := fun x y H Q => ∃ p xs, y = .ref p ∧ (SqL K H p xs ∨ SqT K H p xs) ∧ flatV x = true ∧ xs.all flatV = true ∧ Q (.bl (if neg then !inV x xs else inV x xs)) H
theorem op_notIn_seq : OpR X (compareOp .NotIn) (rIn X.K true) := by
  intro pins s σ H x y v u Q I rx ry h
  obtain ⟨p, xs, rfl, hq, fx, fs, q⟩ := h
  cases ry
  rcases hq with hq | hq
  · obtain ⟨its, r, pl, hz⟩ := I.list hq
    refine SeqAt.notIn_listAt (eqU x) pl.isList (fun w hw => mem_eqAt rx fx r fs w (by simpa using hw)) ⟨.bl _, H, I, rfl, ?_⟩
    rw [show its.toArray.any (eqU x) = its.any (eqU x) by simp, any_eqU r fs]
    exact q
  · obtain ⟨its, r, pl, hz⟩ := I.tuple hq
    refine SeqAt.notIn_tupleAt (eqU x) pl (fun w hw => mem_eqAt rx fx r fs w (by simpa using hw)) ⟨.bl _, H, I, rfl, ?_⟩
    rw [show its.toArray.any (eqU x) = its.any (eqU x) by simp, any_eqU r fs]
    exact q
theorem call_len_seq : CallR X (.builtin "len") (fun xs H Q => ∃ p ys, xs = [.ref p] ∧ (SqL X.K H p ys ∨ SqT X.K H p ys) ∧ Q (.int ys.length) H) := by
  intro pins s σ H xs us Q I r h
  obtain ⟨p, ys, rfl, hq, q⟩ := h
  obtain ⟨u, rfl, rx⟩ := vals1 r
  cases rx
  have hn := line63
  rcases hq with hq | hq
  · obtain ⟨its, r', pl, hz⟩ := I.list hq
    have hlen := r'.length
    exact Calls.call_len_list pl.isList (by simp only [List.size_toArray] <;> omega) ⟨.int ys.length, H, I.tok _, ⟨s.toks + 1, by rw [List.size_toArray, hlen]⟩, q⟩
  · obtain ⟨its, r', pl, hz⟩ := I.tuple hq
    have hlen := r'.length
    exact len_tuple pl (by simp only [List.size_toArray] <;> omega) ⟨.int ys.length, H, I.tok _, ⟨s.toks + 1, by rw [List.size_toArray, hlen]⟩, q⟩
theorem call_len_str : CallR X (.builtin "len") (fun xs H Q => ∃ z, xs = [.str z] ∧ z.length ≤ sizeLine ∧ Q (.int z.length) H) := by
  intro pins s σ H xs us Q I r h
  obtain ⟨z, rfl, hz, q⟩ := h
  obtain ⟨u, rfl, t, rfl⟩ := vals1 r
  have hn := line63
  exact len_str (by omega) ⟨.int z.length, H, I.tok _, ⟨_, rfl⟩, q⟩
theorem CallR.or {f : Value} {r r' : List V → Hp → VK → Prop} (h : CallR X f r) (h' : CallR X f r') : CallR X f (fun xs H Q => r xs H Q ∨ r' xs H Q) := by
  intro pins s σ H xs us Q I rs q
  rcases q with q | q
  · exact h pins s σ H xs us Q I rs q
  · exact h' pins s σ H xs us Q I rs q
theorem call_list_of : CallR X (.type "list") (fun xs H Q => ∃ p ys, xs = [.ref p] ∧ (SqL X.K H p ys ∨ SqT X.K H p ys) ∧ ∀ l, H l = none → Q (.ref l) (upd H l (.lst ys))) := by
  intro pins s σ H xs us Q I r h
  obtain ⟨p, ys, rfl, hq, q⟩ := h
  obtain ⟨u, rfl, rx⟩ := vals1 r
  cases rx
  have fin : ∀ (its : List Value), Vals ys its → ys.length ≤ sizeLine → ∀ (h' : Heap) (c' : Nat), (∀ b o', s.heap.get? b = some o' → h'.get? b = some o') →
      h'.get? s.heap.objs.size = some { cls := .type "list", dict := none, data := .seq its.toArray c', slots := #[] } → EP X pins σ Q (.ref s.heap.objs.size) { s with heap := h' } := fun its r' hz h' c' kp e =>
    ⟨.ref s.heap.objs.size, _, I.laid (t' := s.toks) kp (Nat.le_refl _) (show ObjOk X.prog X.w _ h' _ (.lst ys) from ⟨hz, its, c', r', e⟩), rfl, q _ (I.hok.fresh (Nat.le_refl _))⟩
  rcases hq with hq | hq
  · obtain ⟨its, r', pl, hz⟩ := I.list hq
    have hlen := r'.length
    obtain ⟨o, ho, hc, n, hd⟩ := pl.isList
    exact call_list_seq p (.inl rfl) ho hc hd (fun h' c' kp e => fin its r' hz h' c' kp e) (by simp only [List.size_toArray] <;> omega)
  · obtain ⟨its, r', pl, hz⟩ := I.tuple hq
    have hlen := r'.length
    obtain ⟨o, ho, hc, n, hd⟩ := pl
    exact call_list_seq p (.inr rfl) ho hc hd (fun h' c' kp e => fin its r' hz h' c' kp e) (by simp only [List.size_toArray] <;> omega)
theorem call_tuple_of : CallR X (.type "tuple") (fun xs H Q => ∃ p ys, xs = [.ref p] ∧ ((SqL X.K H p ys ∧ ∀ l, H l = none → Q (.ref l) (upd H l (.tup ys))) ∨ (SqT X.K H p ys ∧ Q (.ref p) H))) := by
  intro pins s σ H xs us Q I r h
  obtain ⟨p, ys, rfl, h⟩ := h
  obtain ⟨u, rfl, rx⟩ := vals1 r
  cases rx
  rcases h with ⟨hq, q⟩ | ⟨hq, q⟩
  · obtain ⟨its, r', pl, hz⟩ := I.list hq
    have hlen := r'.length
    refine call_tuple_list pl.isList (fun h' kp => ?_) (by simp only [List.size_toArray] <;> omega)
    have I1 : Inv X pins σ H { s with heap := h' } := I.kept (t' := s.toks) kp
    have I2 : Inv X pins σ (upd H h'.objs.size (.tup ys)) { s with heap := h'.push { cls := .type "tuple", data := .seq its.toArray } } :=
      I1.laid (t' := s.toks) (fun b o e => Heap.get?_push_of_some _ e) (Nat.le_refl _) (show ObjOk X.prog X.w _ _ _ (.tup ys) from ⟨hz, its, r', IsTup.new _ _⟩)
    exact ⟨.ref h'.objs.size, _, I2, rfl, q _ (I1.hok.fresh (Nat.le_refl _))⟩
  · obtain ⟨its, r', pl, hz⟩ := I.tuple hq
    exact call_tuple_same pl ⟨.ref p, H, I, rfl, q⟩
def tyV (K : PySem.W.Frag) (T : String) (x : V) (H : Hp) : Prop := match x with
  | .str _ => T = "str"
  | .int _ => T = "int"
  | .ref p => (T = "list" ∧ ∃ xs, SqL K H p xs) ∨ (T = "tuple" ∧ ∃ o, K.lookup p = some o ∧ o.cls = .type "tuple" ∧ o.dict = none) ∨
      (T = "dict" ∧ ((∃ kvs, H p = some (.dK kvs)) ∨ ∃ kvs, H p = some (.dT kvs))) ∨ (T = "set" ∧ ∃ S n, H p = some (.set S n))
  | _ => False
theorem tyV_is {pins : List (Addr × Obj)} {σ : St} {H : Hp} {s : Shared} {T : String} {x : V} {v : Value} (I : Inv X pins σ H s) (r : RelV x v) (ty : tyV X.K T x H) :
    s.TypeIs v T ∧ ∀ a, v = .ref a → ∃ ob, s.heap.get? a = some ob ∧ ob.dict = none := by
  cases x with
  | str z =>
    obtain ⟨t, rfl⟩ := r
    cases (show T = "str" from ty)
    exact ⟨typeIs_str s z t, fun _ e => nomatch e⟩
  | int i =>
    obtain ⟨t, rfl⟩ := r
    cases (show T = "int" from ty)
    exact ⟨typeIs_int s i t, fun _ e => nomatch e⟩
  | ref p =>
    cases r
    rcases ty with ⟨rfl, xs, hq⟩ | ⟨rfl, o, hk, hc, hd⟩ | ⟨rfl, hk⟩ | ⟨rfl, S, n, hk⟩
    · obtain ⟨its, _, pl, _⟩ := I.list hq
      refine ⟨pl.isList.typeIs, fun a e => ?_⟩
      cases e
      obtain ⟨o, n, e, c, hd, _⟩ := pl
      exact ⟨o, e, hd⟩
    · refine ⟨⟨o, I.kIn p o hk, hc⟩, fun a e => ?_⟩
      cases e
      exact ⟨o, I.kIn _ o hk, hd⟩
    · have z : ∃ o, s.heap.get? p = some o ∧ o.ExactDict := by
        rcases hk with ⟨kvs, hk⟩ | ⟨kvs, hk⟩
        · obtain ⟨_, _, _, _, o, _, _, e, ex, _⟩ := I.hok p _ hk
          exact ⟨o, e, ex⟩
        · obtain ⟨_, _, _, _, o, _, _, e, ex, _⟩ := I.hok p _ hk
          exact ⟨o, e, ex⟩
      obtain ⟨o, e, ex⟩ := z
      refine ⟨⟨o, e, ex.1⟩, fun a e2 => ?_⟩
      cases e2
      exact ⟨o, e, ex.2.1⟩
    · obtain ⟨o, _, _, _, e, ex, _⟩ := I.hok p _ hk
      refine ⟨⟨o, e, ex.1⟩, fun a e2 => ?_⟩
      cases e2
      exact ⟨o, e, ex.2.1⟩
  | _ => exact False.elim ty
def tBM0 (K : PySem.W.Frag) (T : String) (r : V → List V → Hp → VK → Prop) (to : TE) : TE := fun σ H Q => to σ H fun x H1 => tyV K T x H1 ∧ r x [] H1 Q
def tBM (K : PySem.W.Frag) (T : String) (r : V → List V → Hp → VK → Prop) (to : TE) (t : TA) : TE := fun σ H Q => to σ H fun x H1 => tyV K T x H1 ∧ t σ H1 fun xs H2 => r x xs H2 Q
variable {o e : Expr} {es : List Expr} {to : TE} {t : TA} {name : Str} {apos cpos : Pos} {T id : String} {r : V → List V → Hp → VK → Prop}
theorem pe_bm (pa : PlainAttrs T) (slot : Slot T name id) (hty : typeOf (.builtin id) = pure (.type "method_descriptor")) (hm : MtR X id r) (ho : PE X o to) (ha : PA X (e :: es) t)
    (hbase : attributeBase o name X.env (eval o X.env) = eval o X.env := by rfl)
    (hfew : ((backTo cpos (starEach (e :: es) X.env)).all (fun x => !x.1) && (backToKw cpos (keywordEach [] X.env)).all (fun x => x.1.isSome)
      && decide ((e :: es).length + ([] : List Keyword).length + (if ([] : List Keyword).isEmpty then 0 else 1) < 30)) = true := by rfl)
    (hline : (apos.endLine == cpos.line) = true := by rfl) (hs : starEach (e :: es) X.env = (false, eval e X.env) :: starEach es X.env := by rfl) (hplain : (backTo cpos (starEach es X.env)).any (·.1) = false := by rfl) :
    PE X (.Call (.Attribute o name apos) (e :: es) [] cpos) (tBM X.K T r to t) := by
  intro pins s σ H Q I h
  refine wpAny_Call_method_late hbase hfew hline rfl (thn (ho pins s σ H _ I h) fun v s1 ⟨x, H1, I1, r1, ty, q1⟩ => ?_)
  obtain ⟨h1, h2⟩ := tyV_is I1 r1 ty
  refine ⟨T, id, pa, slot, hty, h1, h2, ?_⟩
  have hA := ha cpos pins s1 σ H1 _ I1 q1
  rw [hs] at hA ⊢
  refine Calls.callWith_builtin (by show (false || (backTo cpos (starEach es X.env)).any (·.1)) = false; rw [hplain] <;> rfl) (Calls.evalArgs_plain ?_)
  exact thn hA fun us s2 ⟨vs, H2, I2, r2, q2⟩ => hm pins s2 σ H2 x vs v us Q I2 r1 r2 q2
/- xs.append(e), list.index on a module's tuple .. are MtR facts of 06m -/
end
end L2
namespace L2
open PySem PySem.Spec PyProof.Rows
def MtM (X : Cx) (id : String) (r : V → List V → Hp → VK → Prop) : Prop :=
  ∀ (pins : List (Addr × Obj)) (s : Shared) (σ : St) (H : Hp) (x : V) (xs : List V) (v : Value) (us : List Value) (Q : VK), Inv X pins σ H s → RelV x v → Vals xs us → r x xs H Q →
    wpAny (model X.prog X.w) X.A (call (.builtin id) (v :: us)) (EP X pins σ Q) X.xe s
theorem Vals.one : ∀ {x : V} {us : List Value}, Vals [x] us → ∃ u, us = [u] ∧ RelV x u
  | _, _, .cons r .nil => ⟨_, rfl, r⟩
theorem Vals.two : ∀ {x y : V} {us : List Value}, Vals [x, y] us → ∃ u v, us = [u, v] ∧ RelV x u ∧ RelV y v
  | _, _, _, .cons r (.cons q .nil) => ⟨_, _, rfl, r, q⟩
theorem Vals.zero : ∀ {us : List Value}, Vals [] us → us = []
  | _, .nil => rfl
theorem Vals.reverse {xs : List V} {us : List Value} (h : Vals xs us) : Vals xs.reverse us.reverse := by
  induction h with
  | nil => exact .nil
  | cons r t ih => rw [List.reverse_cons, List.reverse_cons]; exact Vals.append ih (.cons r .nil)
section
variable {X : Cx} {pins : List (Addr × Obj)} {σ : St} {H : Hp} {s : Shared} {l b : Addr} {xs ys zs : List V}
theorem Inv.lset {its its' : List Value} {n : Nat} {f : Array Value → Array Value} {t' : Nat} (I : Inv X pins σ H s) (hH : H l = some (.lst xs))
    (e : s.heap.get? l = some { cls := .type "list", data := .seq its.toArray n }) (hf : f its.toArray = its'.toArray) (hv : Vals ys its') (hz : ys.length ≤ sizeLine) :
    Inv X pins σ (upd H l (.lst ys)) { s with heap := s.heap.update l (Obj.mapSeq f), toks := t' } := by
  have q := PySem.IsL.update e f
  rw [hf] at q
  refine I.write (x := l) (e := l) (by rw [hH]; exact trivial) (.inl rfl) (fun b' u hb hu => (Heap.get?_update_other s.heap (Obj.mapSeq f) (Ne.symm hb)).trans hu) ⟨_, q⟩ ?_
  exact ⟨hz, its', _, hv, q⟩
theorem Inv.lnew {its : List Value} {t' : Nat} (I : Inv X pins σ H s) (hv : Vals ys its) (hz : ys.length ≤ sizeLine) :
    Inv X pins σ (upd H s.heap.objs.size (.lst ys)) { s with heap := s.heap.push { cls := .type "list", data := .seq its.toArray }, toks := t' } :=
  I.laid (fun _ _ q => Heap.get?_push_of_some _ q) (Nat.le_refl _) ⟨hz, its, 0, hv, Heap.get?_push_size _ rfl⟩
theorem Inv.fresh (I : Inv X pins σ H s) : H s.heap.objs.size = none := I.hok.fresh (Nat.le_refl _)
theorem Inv.lstM (I : Inv X pins σ H s) (hH : H l = some (.lst xs)) : xs.length ≤ sizeLine ∧ ∃ (its : List Value) (n : Nat), Vals xs its ∧ xs.length = its.length ∧ s.heap.get? l = some { cls := .type "list", data := .seq its.toArray n } := by
  obtain ⟨z, its, n, r, e⟩ := I.hok l _ hH
  exact ⟨z, its, n, r, r.length, e⟩
end
section
variable {X : Cx}
def rAppend : V → List V → Hp → VK → Prop := fun x vs H Q => ∃ l xs y, x = .ref l ∧ vs = [y] ∧ H l = some (.lst xs) ∧ xs.length < sizeLine ∧ Q .non (upd H l (.lst (xs ++ [y])))
theorem mt_append : MtM X "list.append" rAppend := by
  intro pins s σ H x vs v us Q I rx rv h
  obtain ⟨l, xs, y, rfl, rfl, hH, hz, q⟩ := h
  cases rx
  obtain ⟨u, rfl, ru⟩ := rv.one
  obtain ⟨z, its, n, r, hl, e⟩ := I.lstM hH
  refine call_meets F.slot_list_append ⟨_, e, rfl⟩ F.entry_list_append (F.args_list_append_2 _ _) (PySem.list_append l its.toArray n u (by rw [List.size_toArray]; omega)) ⟨e, ?_⟩
  refine ⟨.non, _, I.lset (its' := its ++ [u]) hH e (by simp) (r.append (.cons ru .nil)) ?_, rfl, q⟩
  rw [List.length_append, List.length_singleton]
  omega
def rCat : R2 := fun x y H Q => ∃ l b xs zs, x = .ref l ∧ y = .ref b ∧ H l = some (.lst xs) ∧ H b = some (.lst zs) ∧ xs.length + zs.length ≤ sizeLine ∧ ∀ p, H p = none → Q (.ref p) (upd H p (.lst (xs ++ zs)))
theorem op_cat : OpR X (binaryOp .Add) rCat := by
  intro pins s σ H x y v u Q I rx ry h
  obtain ⟨l, b, xs, zs, rfl, rfl, hH, hB, hz, q⟩ := h
  cases rx
  cases ry
  obtain ⟨z, its, n, r, hl, e⟩ := I.lstM hH
  obtain ⟨z2, its2, n2, r2, hl2, e2⟩ := I.lstM hB
  refine PySem.P.add_list e e2 ?_ (by rw [List.size_toArray, List.size_toArray]; omega)
  have ea : its.toArray ++ its2.toArray = (its ++ its2).toArray := by simp
  rw [ea]
  exact ⟨.ref _, _, I.lnew (t' := s.toks) (r.append r2) (by rw [List.length_append]; omega), rfl, q _ I.fresh⟩
end
section
variable {prog : Program} {w : World} {A : Around} {E : Value → Shared → Prop} {s : Shared}
end
section
variable {X : Cx}
end
end L2
namespace Att
open PySem PySem.W PySem.Calls PyProof.Rows
theorem ints_of_wellAll {P : Params} {h : Heap} : ∀ (ns : List Int) (vs : List Value), WellAll P h vs (ns.map WData.int) → IntsAre vs ns := by
  intro ns
  induction ns with
  | nil =>
    intro vs w
    rw [List.map_nil] at w
    cases w
    exact .nil
  | cons n ns ih =>
    intro vs w
    rw [List.map_cons] at w
    cases w with
    | cons a b =>
      cases a
      exact .cons _ _ (ih _ b)
theorem script_of {l : OpenLaw} {n : Nat} (hn : l.most = some n) {P : Params} {h : Heap} {args : List WData} {vals : List Value}
    (hpre : l.row.toRowW.claim.pre args = true) (hwl : WellAll P h vals args) :
    ∃ a vs ns, vals = [Value.ref a] ∧ args = [WData.list (ns.map WData.int)] ∧ h.get? a = some { cls := .type "list", data := .seq vs.toArray } ∧ IntsAre vs ns ∧ ns.length ≤ n := by
  have hsh : WShape.hasAll [] args [.list .int] = true := (pre_splitW hpre).1
  have hc : l.pre.holds [] { args := args } = true := (pre_splitW hpre).2
  obtain ⟨d, r, rfl, h1, h2⟩ := hasAllW_cons hsh
  obtain rfl := hasAllW_nil h2
  obtain ⟨xs, rfl, h3⟩ := hasW_list h1
  obtain ⟨ns, rfl⟩ := items_int h3
  have hlen : ns.length ≤ n := by
    unfold OpenLaw.pre at hc
    have h4 : (WTm.not (.lt (.lit (.int (n : Int))) (.len (.arg 0)))).holds [] { args := [.list (ns.map .int)] } = true := by
      have h4 := (holds_andW hc).1
      rw [hn] at h4
      exact h4
    have h5 := condW_of h4 (w_not (w_lt w_lit (w_len_list (w_arg rfl))))
    rw [List.length_map] at h5
    refine Nat.le_of_not_lt fun q => ?_
    have q' : (n : Int) < ((ns.length : Nat) : Int) := by omega
    first
      | (rw [decide_eq_true q'] at h5; exact absurd h5 (by decide))
      | (simp at h5; omega)
  cases hwl with
  | cons w1 w2 =>
    cases w2
    cases w1 with
    | list ho hall => exact ⟨_, _, ns, rfl, rfl, ho, ints_of_wellAll ns _ hall, hlen⟩
theorem post_true (l : OpenLaw) (args : List WData) : l.row.toRowW.claim.post args (.bool true) args = true :=
  postW_of (r := l.row.toRowW) (X := (true == true))
    (show WShape.has [] (.bool true) .bool = true by first | rfl | decide | simp [WShape.has, WShape.arms, WShape.armsAll])
    (show (WTm.eq .res (.lit (.bool true))).value [] { args := args, res := some (.bool true), after := args } = some (.bool (true == true)) from w_eq_bool (w_res rfl) w_lit) rfl
theorem attach_call {l : OpenLaw} {n : Nat} {q : Program} {loose : List Str} {XP : (Str → Option Value) → Heap → Prop} {YP : World → Heap → Prop} {d : DefRec}
    (hn : l.most = some n) (hdf : d.params.defaults = [])
    (call : ∀ (w : World) (s₀ s₁ : Shared) (mg mb : Str → Option Value) (fa : Addr) (o : Obj) (pm cd doc : Value) (a : Addr) (vs : List Value) (ns : List Int),
      Ground q loose [] XP w s₀ mg mb s₁.heap → YP w s₁.heap →
      s₁.heap.get? fa = some o → o.data = .func (docDef d.name d.params d.body d.scope pm cd doc) → s₁.heap.CodeRec cd d.name → mg d.name = some (.ref fa) →
      s₁.heap.get? a = some { cls := .type "list", data := .seq vs.toArray } → IntsAre vs ns → ns.length ≤ n → s₁.gens = #[] →
      codeAny (model l.prog w) callerA (.call (.ref fa) ⟨[.ref a], []⟩) (fun r s' => r = .ok (.ret (.bool true)) ∧ OldK s₁.heap s'.heap ∧ s'.os = s₁.os ∧ AllBare s'.gens) s₁) :
    WalkO q loose XP YP l.row.toRowW d [] (fun f vs => PySem.call f vs) := by
  intro w s₀ s₁ mg mb G Y fa o pm cd doc dV kV ho hd hcd hD hmg hg args vals as hpre hlay hrd hwl hlo
  obtain rfl : dV = .none := Dflts.none hD hdf
  obtain rfl : kV = .none := Dflts.noKw hD
  obtain ⟨a, vs, ns, rfl, rfl, hobj, hints, hlen⟩ := script_of hn hpre hwl
  refine enter_call (codeAny_mono (call w s₀ s₁ mg mb fa o pm cd doc a vs ns G Y ho (fd_plain hd) hcd hmg hobj hints hlen hg) fun r s' hq => ?_)
  obtain ⟨rfl, h2, h3, h4⟩ := hq
  exact ⟨.inl ⟨.bool true, .bool true, [], rfl, fun _ => rfl, .bool true, post_true l _, fun _ => ⟨List.Pairwise.nil, fun _ hm => (nomatch hm)⟩⟩, h2, h3, h4⟩
section
variable {prog : Program} {w : World} {A : Around} {E : Value → Shared → Prop} {s : Shared} {K : Frag}
def ledger (h : Heap) (L d : Addr) : List (Addr × Obj) := (List.range h.objs.size).filterMap fun a => if a = L ∨ a = d then none else (h.get? a).map fun o => (a, o)
end
end Att
namespace L2
open PySem PySem.Spec PyProof.Rows
theorem vals_ints : ∀ {vs : List Value} {ns : List Int}, IntsAre vs ns → Vals (ns.map V.int) vs
  | _, _, .nil => .nil
  | _, _, .cons n t h => .cons ⟨t, rfl⟩ (vals_ints h)
def Only (H : Hp) : Prop := ∀ b, H b = none ∨ ∃ o xs, H b = some (.frz o (.lst xs))
theorem law_call {P : Program} {w : World} {K : PySem.W.Frag} {mg mb : Str → Option Value} {CX : CXT} {k : Nat} {fa a : Addr} {fd : FuncData} {x : Str} {sp : Sp} {s₁ : Shared} {vs : List Value} {ns : List Int}
    (KX : K.In s₁.heap) (hns : s₁.heap.Ns mainGlobals mg) (hb : s₁.heap.Ns builtinsNs mb) (hbb : ∀ x : Str, x ≠ "__name__" → mb x = bootBuiltins x) (hlim : s₁.heap.NoLimit) (hg : s₁.gens = #[])
    (ha : s₁.heap.get? a = some { cls := .type "list", data := .seq vs.toArray }) (hi : IntsAre vs ns) (hl : ns.length ≤ sizeLine) (hr : Room k callerA)
    (F : ∀ base : Heap, K.In base → base.Ns mainGlobals mg → FnOk P w K mg base CX k fa fd [x] sp) (hbind : ∀ (s : Shared) (u : Value), BindsTo s fd ⟨[u], []⟩ [(x, u)])
    (hsp : ∀ H : Hp, Only H → SqL K H a (ns.map V.int) → sp [.ref a] H (fun v _ => v = .bl true) fun _ _ _ => False)
    (hCX : ∀ H e s', CX [] H s₁ (fun _ _ _ => False) e s' → False) :
    codeAny (model P w) callerA (.call (.ref fa) ⟨[.ref a], []⟩) (fun r s' => r = .ok (.ret (.bool true)) ∧ OldK s₁.heap s'.heap ∧ s'.os = s₁.os ∧ AllBare s'.gens) s₁ := by
  have rv := vals_ints hi
  have lenV := hi.length
  -- from an abstract heap in which nothing but the script may be tracked
  have core : ∀ H : Hp, Only H → SqL K H a (ns.map V.int) → HOk P w H s₁.heap → (∀ b, H b ≠ none → b = a) → (H a ≠ none → K.lookup a = none) →
      codeAny (model P w) callerA (.call (.ref fa) ⟨[.ref a], []⟩) (fun r s' => r = .ok (.ret (.bool true)) ∧ OldK s₁.heap s'.heap ∧ s'.os = s₁.os ∧ AllBare s'.gens) s₁ := by
    intro H hO hS hok hA hK
    have base_of : ∀ {b : Addr} {o : Obj}, s₁.heap.get? b = some o → H b = none → (hidT s₁.heap H).get? b = some o := fun e n => hidT_get e n
    have noA : ∀ {b : Addr} {o : Obj} {es : Array DictEntry} {ep : Nat}, s₁.heap.get? b = some o → o.data = .dict es ep → H b = none := fun {b o es ep} e d => by
      cases q : H b with
      | none => rfl
      | some u =>
        have e' : b = a := hA b (by rw [q]; simp)
        subst e'
        rw [ha] at e; cases e
        have d' : Data.seq vs.toArray _ = Data.dict es ep := d
        cases d'
    have nsK : ∀ {b : Addr} {m : Str → Option Value}, s₁.heap.Ns b m → (hidT s₁.heap H).Ns b m := fun {b m} ⟨o, es, ep, e, d, r⟩ => ⟨o, es, ep, base_of e (noA e d), d, r⟩
    have hKb : K.In (hidT s₁.heap H) := fun b o e => base_of (KX b o e) (by
      cases q : H b with
      | none => rfl
      | some u =>
        have e' : b = a := hA b (by rw [q]; simp)
        subst e'
        rw [hK (by rw [q]; simp)] at e; cases e)
    have hM : Mod K mg (hidT s₁.heap H) := ⟨hKb, nsK hns, ⟨mb, nsK hb, hbb⟩, let ⟨mc, h1, h2⟩ := hlim; ⟨mc, nsK h1, h2⟩⟩
    have e0 : Env0 P w K mg (hidT s₁.heap H) callerA [] s₁ H := ⟨rfl, hM, fun b o e => of_hidT e, Nat.le_of_eq (hidT_size _ _), trivial, fun b hb => absurd (show b ∈ ([] : List Addr) from hb) (by simp), hok, .of_eq hg⟩
    refine codeAny_mono ((F _ hKb (nsK hns)).run callerA [] s₁ H ⟨[.ref a], []⟩ [.ref a] [.ref a] _ _ hr e0 (hbind s₁ (.ref a)) (.cons rfl .nil) (hsp H hO hS)) fun r s' h => ?_
    cases r with
    | error e => exact (hCX H e s' h).elim
    | ok fl =>
      cases fl with
      | next => exact False.elim h
      | brk => exact False.elim h
      | cont => exact False.elim h
      | ret u =>
        obtain ⟨v, H', os, bare, un, hok', r', q⟩ := h
        have q' : v = .bl true := q
        subst q'
        obtain rfl : u = Value.bool true := r'
        refine ⟨rfl, OldK.of_keep fun b o e => ?_, os, bare⟩
        cases q : H b with
        | none => exact un.keep b o e q (by intro z; exact absurd (show b ∈ ([] : List Addr) from z) (by simp)) (by simp)
        | some u =>
          rcases hO b with z | ⟨ob, xs, z⟩
          · rw [q] at z; cases z
          · have z2 := un.frzs b ob _ z
            obtain ⟨e1, _⟩ := hok b _ z
            obtain ⟨e2, _⟩ := hok' b _ z2
            rw [e] at e1; cases e1
            exact e2
  cases hk : K.lookup a with
  | some o =>
    -- the script is one of the module's own objects
    have e := KX a o hk
    rw [ha] at e
    cases e
    refine core (fun _ => none) (fun _ => .inl rfl) (.inr ⟨_, vs.toArray, _, hk, rfl, rfl, rfl, by rw [List.size_toArray, lenV]; exact hl, by simpa using rv⟩) (fun b u z => by have z' : (none : Option HO) = some u := z; cases z') (fun b z => absurd rfl z) fun z => absurd rfl z
  | none =>
    refine core (fun b => if b = a then some (.frz { cls := .type "list", data := .seq vs.toArray } (.lst (ns.map V.int))) else none) (fun b => ?_) (.inl (.inr ⟨{ cls := .type "list", data := .seq vs.toArray }, if_pos rfl⟩)) (fun b u z => ?_) (fun b z => ?_) fun _ => hk
    · by_cases hb : b = a
      · exact .inr ⟨_, _, if_pos hb⟩
      · exact .inl (if_neg hb)
    · by_cases hb : b = a
      · have z' := (if_pos hb).symm.trans z
        cases z'
        subst hb
        exact ⟨ha, by rw [List.length_map]; exact hl, vs, _, rv, ha⟩
      · have z' := (if_neg hb).symm.trans z
        cases z'
    · by_cases hb : b = a
      · exact hb
      · exact absurd (if_neg hb) z
end L2
namespace L2
open PySem PySem.Spec PyProof.Rows
theorem walk_of {l : PySem.W.OpenLaw} {n k : Nat} {q : Program} {loose : List Str} {XP : (Str → Option Value) → Heap → Prop} {YP : World → Heap → Prop} {d : DefRec} {K : Params → PySem.W.Frag} {CX : World → CXT} {sp : World → Sp} {x : Str}
    (hn : l.most = some n) (hn2 : n ≤ sizeLine) (hdf : d.params.defaults = []) (hr : Room k callerA)
    (hY : ∀ (w : World) (h : Heap), YP w h → (K w.params).In h)
    (F : ∀ (w : World) (mg : Str → Option Value) (fa : Addr) (h : Heap), (K w.params).In h → h.Ns mainGlobals mg → mg d.name = some (.ref fa) →
      ∃ fd : FuncData, (∀ (s : Shared) (u : Value), BindsTo s fd ⟨[u], []⟩ [(x, u)]) ∧
        ∀ base : Heap, (K w.params).In base → base.Ns mainGlobals mg → FnOk l.prog w (K w.params) mg base (CX w) k fa fd [x] (sp w))
    (hsp : ∀ (w : World) (H : Hp) (a : Addr) (ns : List Int), ns.length ≤ n → Only H → SqL (K w.params) H a (ns.map V.int) → sp w [.ref a] H (fun v _ => v = .bl true) fun _ _ _ => False)
    (hCX : ∀ (w : World) (H : Hp) (s : Shared) (e : Value) (s' : Shared), CX w [] H s (fun _ _ _ => False) e s' → False) :
    PySem.W.WalkO q loose XP YP l.row.toRowW d [] (fun f vs => PySem.call f vs) := by
  refine Att.attach_call hn hdf fun w s₀ s₁ mg mb fa o pm cd doc a vs ns G Y ho hd hcd hmg hobj hints hlen hg => ?_
  have KX := hY w _ Y
  obtain ⟨fd, hb, hF⟩ := F w mg fa _ KX G.T.g hmg
  exact law_call KX G.T.g G.T.b G.T.builtins G.T.nolimit hg hobj hints (Nat.le_trans hlen hn2) hr hF hb (fun H hO hS => hsp w H a ns hlen hO hS) fun H e s' => hCX w H s₁ e s'
end L2
namespace L2
open PySem PySem.Spec PyProof.Rows
def inClass (s : Stmt) (j : Nat) : Stmt := match s with
  | .ClassDef _ _ _ body _ _ _ _ _ _ _ => body.getD j (.Pass ⟨0, 0, 0, 0⟩)
  | _ => .Pass ⟨0, 0, 0, 0⟩
def defArgs (s : Stmt) : Arguments := match s with
  | .FunctionDef _ a _ _ _ _ _ _ _ _ => a
  | _ => { posonlyargs := [], args := [], vararg := none, kwonlyargs := [], kw_defaults := [], kwarg := none, defaults := [] }
def defBody (s : Stmt) : List Stmt := match s with
  | .FunctionDef _ _ b _ _ _ _ _ _ _ => b
  | _ => []
def defScope (s : Stmt) : Scope := match s with
  | .FunctionDef _ _ _ _ _ _ sc _ _ _ => sc
  | _ => { kind := .function, names := [], isGenerator := false, isCoroutine := false }
abbrev CX0 : CXT := fun _ _ _ _ _ _ => False
abbrev E0 : XK := fun _ _ _ => False
structure Fun (K : PySem.W.Frag) (x qual : Str) (st : Stmt) (f : Addr) (fd : FuncData) : Prop where
  ex : ∃ (oc : Value) (od : Option Addr) (kV doc pm : Value) (an : Option Addr) (cdv ct : Value) (osl : Array (Option Value)),
    fd = PySem.W.fnOf x qual (defArgs st) (defBody st) (defScope st) .none kV doc pm an cdv ct ∧ K.lookup f = some ⟨oc, od, .func fd, osl⟩ ∧ PySem.W.codeIn K cdv qual = true
  kp : PySem.W.keepIn K (.ref f) = true
section
variable {P : Program} {w : World} {K : PySem.W.Frag} {mg : Str → Option Value} {base : Heap}
theorem Fun.ok {x qual : Str} {st : Stmt} {f : Addr} {fd : FuncData} {N ps : List Str} {k : Nat} {sp : Sp} (F : Fun K x qual st f fd) (S : FnScope N ps (defScope st)) (len : ∀ vs H Q E, sp vs H Q E → vs.length = ps.length)
    (hbody : ∀ (cdv : Value) (A : Around) (outer : List Env) (s : Shared) (H : Hp) (vs : List V) (Q : VK) (E : XK), Room k (A.deeper (envOfC qual (defScope st) s.heap.objs.size f cdv)) → sp vs H Q E →
      ∃ t, PSs (cxOf CX0 P w K mg base N qual (defScope st) f cdv A outer s H E).nox (defBody st) t ∧ t { nx := fun _ H' => Q .non H', rt := Q } (start N vs) H) : FnOk P w K mg base CX0 (k + 1) f fd ps sp := by
  obtain ⟨oc, od, kV, doc, pm, an, cdv, ct, osl, rfl, lk, hcd⟩ := F.ex
  refine fn_of lk hcd S len fun A outer s H vs Q E hr hsp => ?_
  obtain ⟨t, h, q⟩ := hbody cdv A outer s H vs Q E hr hsp
  exact ⟨t, h.nox, q⟩
theorem Fun.binds {x qual : Str} {st : Stmt} {f : Addr} {fd : FuncData} {ps : List Str} (F : Fun K x qual st f fd)
    (h : ∀ (kV doc pm : Value) (an : Option Addr) (cdv ct : Value) (us : List Value), us.length = ps.length → bindArgs (PySem.W.fnOf x qual (defArgs st) (defBody st) (defScope st) .none kV doc pm an cdv ct) ⟨us, []⟩ = pure (ps.zip us)) : Binds K fd ps [] := by
  obtain ⟨oc, od, kV, doc, pm, an, cdv, ct, osl, rfl, lk, hcd⟩ := F.ex
  exact .all (h kV doc pm an cdv ct)
theorem fun_mk {x qual : Str} {st : Stmt} {f : Addr} {oc : Value} {od an : Option Addr} {osl : Array (Option Value)} {kV doc pm cdv ct : Value} (l : K.lookup f = some ⟨oc, od, .func (PySem.W.fnOf x qual (defArgs st) (defBody st) (defScope st) .none kV doc pm an cdv ct), osl⟩)
    (c : PySem.W.codeIn K cdv qual = true) (k : PySem.W.keepIn K (.ref f) = true) : Fun K x qual st f (PySem.W.fnOf x qual (defArgs st) (defBody st) (defScope st) .none kV doc pm an cdv ct) := ⟨⟨oc, od, kV, doc, pm, an, cdv, ct, osl, rfl, l, c⟩, k⟩
end
theorem small1000 {n : Nat} (h : n ≤ 1000) : n < sizeLine := Nat.lt_of_le_of_lt h (by decide)
section
variable {X : Cx}
theorem pv (i : Nat) {x : Str} {pos : Pos} (hN : X.N[i]? = some x := by rfl) (hv : Vis X.env.scope x := by first | exact Or.inl rfl | exact Or.inr (Or.inl rfl) | exact Or.inr (Or.inr rfl)) (hd : (x == ("__debug__" : Str)) = false := by decide)
    (hcd : (x == ("__classdict__" : Str)) = false := by decide) : PE X (.Name x pos) (tVar i) := pe_var hN hv hd hcd
end
def Same (H H' : Hp) : Prop := ∀ b o, H b = some o → H' b = some o
theorem Same.refl (H : Hp) : Same H H := fun _ _ h => h
theorem Same.trans {H H1 H2 : Hp} (a : Same H H1) (b : Same H1 H2) : Same H H2 := fun c o h => b c o (a c o h)
theorem Same.free {H H' : Hp} (e : Same H H') {l : Addr} (h : H' l = Option.none) : H l = Option.none := by
  cases q : H l with
  | none => rfl
  | some o =>
    rw [e l o q] at h
    cases h
theorem Same.seq {K : PySem.W.Frag} {H H' : Hp} {a : Addr} {xs : List V} (e : Same H H') (h : SqL K H a xs) : SqL K H' a xs := by
  rcases h with (h | ⟨o, h⟩) | h
  · exact .inl (.inl (e _ _ h))
  · exact .inl (.inr ⟨o, e _ _ h⟩)
  · exact .inr h
end L2
set_option Elab.async false
set_option linter.all false
set_option maxRecDepth 100000
namespace Bw
open PySem PySem.Spec PyProof.Rows L2
section
variable {X : Cx}
def CDivL (i j : Int) : Prop := 0 < j ∧ j < 2 ^ 62
theorem op_fdivL : OpR X (binaryOp .FloorDiv) (rI CDivL fun i j => .int (i / j)) := opI fun i j _ _ _ _ _ hc q => by
  have h1 : (0 : Int) < j := hc.1
  have h2 : j < 2 ^ 62 := hc.2
  refine floordiv_int (by omega) (by rw [Int.fdiv_eq_ediv_of_nonneg i (by omega)]; exact q) (.inl (PyProof.noPylong_of_log2 ?_))
  have h0 : j.natAbs ≠ 0 := by omega
  have : j.natAbs.log2 < 62 := (Nat.log2_lt h0).mpr (by omega)
  omega
def okV (H : Hp) : V → Prop
  | .non => True
  | .bl _ => True
  | .int _ => True
  | .str _ => True
  | .ref a => (∃ xs, H a = some (.lst xs)) ∨ ∃ xs, H a = some (.tup xs)
  | _ => False
def isIntV : V → Bool
  | .int _ => true
  | .bl _ => true
  | _ => false
def isBoolV : V → Bool
  | .bl _ => true
  | _ => false
def isTupV (H : Hp) : V → Bool
  | .ref a => match H a with
    | some (.tup _) => true
    | _ => false
  | _ => false
theorem okV.ty {K : PySem.W.Frag} {H : Hp} {x : V} (h : okV H x) : ∃ T, TyOf K H x (.type T) ∧ PySem.W.kitOne K (.type T) (.type "int") = some (isIntV x) ∧ PySem.W.kitOne K (.type T) (.type "bool") = some (isBoolV x) ∧ PySem.W.kitOne K (.type T) (.type "tuple") = some (isTupV H x) := by
  cases x with
  | non => exact ⟨_, .non, by kernel_rfl, by kernel_rfl, by kernel_rfl⟩
  | bl b => exact ⟨_, .bl b, by kernel_rfl, by kernel_rfl, by kernel_rfl⟩
  | int i => exact ⟨_, .int i, by kernel_rfl, by kernel_rfl, by kernel_rfl⟩
  | str i => exact ⟨_, .str i, by kernel_rfl, by kernel_rfl, by kernel_rfl⟩
  | ref a =>
    rcases h with ⟨xs, e⟩ | ⟨xs, e⟩
    · have q : isTupV H (.ref a) = false := by simp [isTupV, e]
      rw [q]
      exact ⟨_, .lst e, by kernel_rfl, by kernel_rfl, by kernel_rfl⟩
    · have q : isTupV H (.ref a) = true := by simp [isTupV, e]
      rw [q]
      exact ⟨_, .tup e, by kernel_rfl, by kernel_rfl, by kernel_rfl⟩
  | _ => exact h.elim
theorem isi_gen {pins : List (Addr × Obj)} {σ : L2.St} {H : Hp} {s : Shared} {x : V} {c T : String} {b : Bool} {us : List Value} {Q : VK} (I : Inv X pins σ H s) (r : Vals [x, .ty c] us) (ty : TyOf X.K H x (.type T)) (e : PySem.W.kitOne X.K (.type T) (.type c) = some b) (q : Q (.bl b) H) :
    wpAny (model X.prog X.w) X.A (call (.builtin "isinstance") us) (EP X pins σ Q) X.xe s := by
  obtain ⟨u, w', rfl, rx, rc⟩ := vals2 r
  cases (show w' = Value.type c from rc)
  exact isinst_ok I rx ty e fun tk => ⟨.bl b, H, I.tok _, rfl, q⟩
end
structure Cal (P : Program) (w : World) (K : PySem.W.Frag) (mg : Str → Option Value) (base : Heap) (x : Str) (ps : List Str) (k : Nat) (sp : Sp) : Prop where
  ex : ∃ f fd, FnOk P w K mg base CX0 k f fd ps sp ∧ Binds K fd ps [] ∧ PySem.W.keepIn K (.ref f) = true ∧ mg x = some (.ref f)
theorem same_new {H : Hp} {p : Addr} (h : H p = none) (o : HO) : Same H (upd H p o) := fun b u q => by rw [upd_ne (ne_of_none q h)]; exact q
def But (w : Addr) (H H' : Hp) : Prop := ∀ b o, b ≠ w → H b = some o → H' b = some o
theorem But.refl (w : Addr) (H : Hp) : But w H H := fun _ _ _ h => h
theorem But.trans {w : Addr} {H H1 H2 : Hp} (a : But w H H1) (b : But w H1 H2) : But w H H2 := fun c o n h => b c o n (a c o n h)
theorem But.upd {w : Addr} {H : Hp} (o : HO) : But w H (upd H w o) := fun b u n h => by rw [upd_ne n]; exact h
theorem Same.but {w : Addr} {H H' : Hp} (h : Same H H') : But w H H' := fun b o _ e => h b o e
def Well (H : Hp) (w : Addr) : Prop := ∃ a b c d : Int, H w = some (.lst [.int a, .int b, .int c, .int d])
theorem Well.same {H H' : Hp} {w : Addr} (W : Well H w) (s : Same H H') : Well H' w := by
  obtain ⟨a, b, c, d, h⟩ := W
  exact ⟨a, b, c, d, s _ _ h⟩
theorem Well.ne {H : Hp} {w p : Addr} (W : Well H w) (h : H p = none) : p ≠ w := by
  obtain ⟨a, b, c, d, e⟩ := W
  exact (ne_of_none e h).symm
theorem Well.neL {H : Hp} {w p : Addr} {xs : List V} (W : Well H w) (h : H p = some (.tup xs)) : p ≠ w := by
  obtain ⟨a, b, c, d, e⟩ := W
  exact (ne_of e h (by intro z; cases z)).symm
theorem int_at {ns : List Int} {i : Nat} {x : V} (h : (ns.map V.int)[i]? = some x) : ∃ c, x = .int c := by
  rw [List.getElem?_map] at h
  cases e : ns[i]? with
  | none => rw [e] at h; cases h
  | some c => rw [e] at h; exact ⟨c, (Option.some.inj h).symm⟩
theorem sz8 {n : Nat} (h : n ≤ 1000) : n ≤ sizeLine := Nat.le_of_lt (small1000 h)
section
variable {K : PySem.W.Frag} {ta tb tc te : TE} {tA tB' : TT} {t u : TS} {tr : TA} {D : Ends} {σ : L2.St} {H : Hp} {Q : VK} {QB : Bool → Hp → Prop} {QA : List V → Hp → Prop} {v x y z : V} {i j : Nat} {g : TG} {QS : L2.St → Hp → Prop}
theorem w_seq : tSeq t u D σ H = t { D with nx := u D } σ H := rfl
theorem w_next : tNext D σ H = D.nx σ H := rfl
theorem w_ifS : tIfS tA t u D σ H = tA σ H (fun b H1 => if b = true then t D σ H1 else u D σ H1) := rfl
theorem w_ret : tRet te D σ H = te σ H D.rt := rfl
theorem w_retN : tRetN D σ H = D.rt .non H := rfl
theorem w_drop : tDrop te D σ H = te σ H (fun _ H1 => D.nx σ H1) := rfl
theorem w_asg : tAsg te g D σ H = te σ H (fun x H1 => g x σ H1 D.nx) := rfl
theorem w_gName : gName i v σ H QS = QS (σ.set i (some v)) H := rfl
theorem w_gSub {ts : TSet} : gSub ta tb ts v σ H QS = ta σ H (fun o H1 => tb σ H1 (fun i H2 => ts o i v H2 (fun H3 => QS σ H3))) := rfl
theorem w_var : tVar i σ H Q = ∃ v, σ[i]? = some (some v) ∧ Q v H := rfl
theorem w_c : tC v σ H Q = Q v H := rfl
theorem w_op {r : R2} : tOp r ta tb σ H Q = ta σ H (fun x H1 => tb σ H1 (fun y H2 => r x y H2 Q)) := rfl
theorem w_un {r : V → Hp → VK → Prop} : tUn r ta σ H Q = ta σ H (fun x H1 => r x H1 Q) := rfl
theorem w_rU {f : Int → V} : rU f x H Q = ∃ i, x = .int i ∧ Q (f i) H := rfl
theorem w_rI0 {f : Int → Int → V} : rI0 f x y H Q = ∃ i j, x = .int i ∧ y = .int j ∧ Q (f i j) H := rfl
theorem w_rI {C : Int → Int → Prop} {f : Int → Int → V} : rI C f x y H Q = ∃ i j, x = .int i ∧ y = .int j ∧ C i j ∧ Q (f i j) H := rfl
theorem w_test : tTest te σ H QB = te σ H (fun x H' => ∃ k, x = .bl k ∧ QB k H') := rfl
theorem w_b : L2.tB te σ H QB = te σ H (fun x H1 => ∃ c, x = .bl c ∧ QB c H1) := rfl
theorem w_and : tAnd tA tB' σ H QB = tA σ H (fun c H1 => if c = true then tB' σ H1 QB else QB false H1) := rfl
theorem w_or : tOr tA tB' σ H QB = tA σ H (fun c H1 => if c = true then QB true H1 else tB' σ H1 QB) := rfl
theorem w_not : tNot tA σ H QB = tA σ H (fun c H1 => QB (!c) H1) := rfl
theorem w_andV : tAndV ta tb σ H Q = ta σ H (fun x H1 => ∃ c, x = .bl c ∧ if c = true then tb σ H1 Q else Q (.bl false) H1) := rfl
theorem w_orV : tOrV ta tb σ H Q = ta σ H (fun x H1 => ∃ c, x = .bl c ∧ if c = true then Q (.bl true) H1 else tb σ H1 Q) := rfl
theorem w_notV : tNotV ta σ H Q = ta σ H (fun x H1 => ∃ c, x = .bl c ∧ Q (.bl (!c)) H1) := rfl
theorem w_if : tIf tA ta tb σ H Q = tA σ H (fun c H1 => if c = true then ta σ H1 Q else tb σ H1 Q) := rfl
theorem w_cons : tCons ta tr σ H QA = ta σ H (fun x H1 => tr σ H1 (fun xs H2 => QA (x :: xs) H2)) := rfl
theorem w_nil : tNil σ H QA = QA [] H := rfl
theorem w_tup : tTup tr σ H Q = tr σ H (fun xs H1 => xs.length ≤ sizeLine ∧ ∀ p, H1 p = none → Q (.ref p) (L2.upd H1 p (.tup xs))) := rfl
theorem w_lst : tLst tr σ H Q = tr σ H (fun xs H1 => xs.length ≤ sizeLine ∧ ∀ p, H1 p = none → Q (.ref p) (L2.upd H1 p (.lst xs))) := rfl
theorem w_call {sp : Sp} {dvs : List V} {E : XK} : tCall sp dvs E tr σ H Q = tr σ H (fun vs H1 => sp (vs ++ dvs) H1 Q E) := rfl
theorem w_cB {r : List V → Hp → VK → Prop} : tCB r tr σ H Q = tr σ H (fun vs H1 => r vs H1 Q) := rfl
theorem w_eq : rEq x y H Q = (scal x y = true ∧ Q (.bl (decide (x = y))) H) := rfl
theorem w_ne : rNe x y H Q = (scal x y = true ∧ Q (.bl (!decide (x = y))) H) := rfl
theorem w_s1 {a b : Int} : scal (.int a) (.int b) = true := rfl
theorem w_s2 {a b : Bool} : scal (.bl a) (.bl b) = true := rfl
theorem w_s3 {a b : Str} : scal (.str a) (.str b) = true := rfl
theorem w_s4 {a : Int} : scal (.int a) .non = true := rfl
theorem w_s5 {a : Bool} : scal (.bl a) .non = true := rfl
theorem w_isN : tIsN ta σ H Q = ta σ H (fun x H1 => Q (.bl (decide (x = .non))) H1) := rfl
theorem w_notN : tNotN ta σ H Q = ta σ H (fun x H1 => Q (.bl (!decide (x = .non))) H1) := rfl
theorem w_chain {r r' : R2} : tChain r r' ta tb tc σ H Q = ta σ H (fun x H1 => tb σ H1 (fun y H2 => r x y H2 (fun z H3 => ∃ k, z = .bl k ∧ (if k = true then tc σ H3 (fun w' H4 => r' y w' H4 Q) else Q (.bl false) H3)))) := rfl
theorem w_sl {r : V → Option Int → Option Int → Hp → VK → Prop} {tl th : TO} : tSl r te tl th σ H Q = te σ H (fun x H1 => tl σ H1 (fun l H2 => th σ H2 (fun u H3 => r x l u H3 Q))) := rfl
theorem w_part {QO : Option Int → Hp → Prop} : tPart te σ H QO = te σ H (fun x H1 => ∃ i, x = .int i ∧ QO (some i) H1) := rfl
theorem w_noPart {QO : Option Int → Hp → Prop} : tNoPart σ H QO = QO none H := rfl
theorem w_K {CX : CXT} {P : Program} {w : World} {mg : Str → Option Value} {base : Heap} {N : List Str} {qual : Str} {sc : Scope} {f : Addr} {cd : Value} {A : Around} {outer : List Env} {s : Shared} {H : Hp} {E : XK} : (cxOf CX P w K mg base N qual sc f cd A outer s H E).K = K := rfl
def ForL (K : PySem.W.Frag) (a : Addr) (g : TG) (tb : TS) (D : Ends) (σ : L2.St) (H : Hp) : Prop := ∃ W : Nat → Nat → L2.St → Hp → Prop, (∃ m, W 0 m σ H) ∧ ∀ i m σ H, W i m σ H →
  ((Itl K a).stop i H ∧ D.nx σ H) ∨ ((Itl K a).go i H ∧ ∃ N : L2.St → Hp → Prop, (∀ σ' H', N σ' H' → ∃ m', m' < m ∧ W (i + 1) m' σ' H') ∧ ∀ x H', (Itl K a).yld i H x H' → g x σ H' fun σ2 H2 => tb { D with nx := N, ct := N, bk := D.nx } σ2 H2)
def ForR (lo : Int) (n : Nat) (g : TG) (tb : TS) (D : Ends) (σ : L2.St) (H : Hp) : Prop := ∃ W : Nat → Nat → L2.St → Hp → Prop, (∃ m, W 0 m σ H) ∧ ∀ i m σ H, W i m σ H →
  ((Itr lo n).stop i H ∧ D.nx σ H) ∨ ((Itr lo n).go i H ∧ ∃ N : L2.St → Hp → Prop, (∀ σ' H', N σ' H' → ∃ m', m' < m ∧ W (i + 1) m' σ' H') ∧ ∀ x H', (Itr lo n).yld i H x H' → g x σ H' fun σ2 H2 => tb { D with nx := N, ct := N, bk := D.nx } σ2 H2)
theorem w_forL : tFor (iList K ta) g t D σ H = ta σ H (fun x H1 => ∃ a, x = .ref a ∧ (∃ xs, SqL K H1 a xs) ∧ ForL K a g t D σ H1) := rfl
theorem w_for1 : tFor (iRng1 tr) g t D σ H = tr σ H (fun vs H1 => ∃ j : Int, vs = [.int j] ∧ -(2 ^ 62) ≤ j ∧ j < 2 ^ 62 ∧ ForR 0 j.toNat g t D σ H1) := rfl
theorem w_for2 : tFor (iRng2 tr) g t D σ H = tr σ H (fun vs H1 => ∃ i j : Int, vs = [.int i, .int j] ∧ (-(2 ^ 62) ≤ i ∧ i < 2 ^ 62 ∧ -(2 ^ 62) ≤ j ∧ j < 2 ^ 62) ∧ ForR i (j - i).toNat g t D σ H1) := rfl
theorem ForL.by {a : Addr} {xs : List V} (Pv : Nat → L2.St → Hp → Prop) (h0 : Pv 0 σ H) (hl : ∀ i σ H, i ≤ xs.length → Pv i σ H → SqL K H a xs)
    (hs : ∀ i x σ H, xs[i]? = some x → Pv i σ H → g x σ H fun σ2 H2 => t { D with nx := Pv (i + 1), ct := Pv (i + 1), bk := D.nx } σ2 H2) (hd : ∀ σ H, Pv xs.length σ H → D.nx σ H) : ForL K a g t D σ H := for_list Pv h0 hl hs hd
theorem ForR.by {lo : Int} {n : Nat} (Pv : Nat → L2.St → Hp → Prop) (h0 : Pv 0 σ H)
    (hs : ∀ i σ H, i < n → Pv i σ H → g (.int (lo + i)) σ H fun σ2 H2 => t { D with nx := Pv (i + 1), ct := Pv (i + 1), bk := D.nx } σ2 H2) (hd : ∀ σ H, Pv n σ H → D.nx σ H) : ForR lo n g t D σ H := for_range Pv h0 hs hd
theorem ixl {p : Addr} {xs : List V} {k : Int} (hS : SqL K H p xs) (hv : atI xs k = some v) (q : Q v H) : rIxL K (.ref p) (.int k) H Q := ⟨p, xs, k, v, rfl, rfl, hS, hv, q⟩
theorem setl {p : Addr} {xs : List V} {k : Int} {QH : Hp → Prop} (h : H p = some (.lst xs)) (hj : ixN xs.length k = some j) (q : QH (L2.upd H p (.lst (xs.set j v)))) : rSetL (.ref p) (.int k) v H QH := ⟨p, xs, k, j, rfl, rfl, h, hj, q⟩
end
end Bw
set_option Elab.async false
set_option linter.all false
set_option maxRecDepth 100000
namespace Bw
open PySem PySem.Spec PyProof.Rows L2
def rIsNotB : R2 := fun x y H Q => ∃ c d : Bool, x = .bl c ∧ y = .bl d ∧ Q (.bl (c != d)) H
theorem w_isnotB {x y : V} {H : Hp} {Q : VK} : rIsNotB x y H Q = ∃ c d : Bool, x = .bl c ∧ y = .bl d ∧ Q (.bl (c != d)) H := rfl
def Itr3 (lo c : Int) (n : Nat) : It := ⟨fun i _ => i < n, fun i H x H' => H' = H ∧ x = .int (lo + i * c), fun i _ => n ≤ i⟩
def rngN (i j c : Int) : Nat := if i < j then ((j - i - 1) / c + 1).toNat else 0
def iRng3 (ta : TA) : TI := fun σ H R => ta σ H fun vs H1 => ∃ i j c : Int, vs = [.int i, .int j, .int c] ∧ (-(2 ^ 60) ≤ i ∧ i < 2 ^ 60 ∧ -(2 ^ 60) ≤ j ∧ j < 2 ^ 60 ∧ 0 < c ∧ c < 2 ^ 30) ∧ R (Itr3 i c (rngN i j c)) H1
def ForR3 (lo c : Int) (n : Nat) (g : TG) (tb : TS) (D : Ends) (σ : L2.St) (H : Hp) : Prop := ∃ W : Nat → Nat → L2.St → Hp → Prop, (∃ m, W 0 m σ H) ∧ ∀ i m σ H, W i m σ H →
  ((Itr3 lo c n).stop i H ∧ D.nx σ H) ∨ ((Itr3 lo c n).go i H ∧ ∃ N : L2.St → Hp → Prop, (∀ σ' H', N σ' H' → ∃ m', m' < m ∧ W (i + 1) m' σ' H') ∧ ∀ x H', (Itr3 lo c n).yld i H x H' → g x σ H' fun σ2 H2 => tb { D with nx := N, ct := N, bk := D.nx } σ2 H2)
theorem w_for3 {tr : TA} {g : TG} {t : TS} {D : Ends} {σ : L2.St} {H : Hp} : tFor (iRng3 tr) g t D σ H = tr σ H (fun vs H1 => ∃ i j c : Int, vs = [.int i, .int j, .int c] ∧ (-(2 ^ 60) ≤ i ∧ i < 2 ^ 60 ∧ -(2 ^ 60) ≤ j ∧ j < 2 ^ 60 ∧ 0 < c ∧ c < 2 ^ 30) ∧ ForR3 i c (rngN i j c) g t D σ H1) := rfl
theorem ForR3.by {lo c : Int} {n : Nat} {g : TG} {t : TS} {D : Ends} {σ : L2.St} {H : Hp} (Pv : Nat → L2.St → Hp → Prop) (h0 : Pv 0 σ H)
    (hs : ∀ i σ H, i < n → Pv i σ H → g (.int (lo + i * c)) σ H fun σ2 H2 => t { D with nx := Pv (i + 1), ct := Pv (i + 1), bk := D.nx } σ2 H2) (hd : ∀ σ H, Pv n σ H → D.nx σ H) : ForR3 lo c n g t D σ H := by
  refine ⟨fun i m σ H => m = n - i ∧ i ≤ n ∧ Pv i σ H, ⟨n, by simp, Nat.zero_le _, h0⟩, ?_⟩
  rintro i m σ H ⟨rfl, hi, p⟩
  by_cases hlt : i < n
  · refine .inr ⟨hlt, Pv (i + 1), fun σ' H' p' => ⟨n - (i + 1), by omega, rfl, hlt, p'⟩, fun x H' y => ?_⟩
    obtain ⟨e, y⟩ := y
    subst e y
    exact hs i σ _ hlt p
  · have e : i = n := by omega
    subst e
    exact .inl ⟨Nat.le_refl _, hd σ H p⟩
structure QOk (H : Hp) (p : Addr) (s e : Int) : Prop where
  at_ : H p = some (.tup [.int s, .int e])
  s0 : 0 ≤ s
  s1 : s ≤ 1439
  e0 : 0 ≤ e
  e1 : e ≤ 1439
  ne : s ≠ e
theorem QOk.same {H H' : Hp} {p : Addr} {s e : Int} (q : QOk H p s e) (h : Same H H') : QOk H' p s e := ⟨h _ _ q.at_, q.s0, q.s1, q.e0, q.e1, q.ne⟩
theorem QOk.but {H H' : Hp} {w p : Addr} {s e : Int} (q : QOk H p s e) (W : Well H w) (h : But w H H') : QOk H' p s e := ⟨h _ _ (W.neL q.at_) q.at_, q.s0, q.s1, q.e0, q.e1, q.ne⟩
end Bw
set_option Elab.async false
set_option linter.all false
set_option maxRecDepth 100000
namespace Bw
open PySem PySem.Spec PyProof.Rows L2
abbrev vbm : List Value := [.type "ValueError", .type "Exception", .type "BaseException", .type "object"]
theorem obj_at {P : Program} {w : World} {H : Hp} {h : Heap} {a : Addr} {o : HO} (x : ObjOk P w H h a o) : ∃ ob, h.get? a = some ob := by
  cases o with
  | lst xs => exact ⟨_, x.2.choose_spec.choose_spec.2⟩
  | tup xs => exact let ⟨_, _, _, ob, e, _⟩ := x; ⟨ob, e⟩
  | dK kvs => exact let ⟨_, _, _, _, ob, _, _, e, _⟩ := x; ⟨ob, e⟩
  | dT kvs => exact let ⟨_, _, _, _, ob, _, _, e, _⟩ := x; ⟨ob, e⟩
  | set S n => exact let ⟨ob, _, _, _, e, _⟩ := x; ⟨ob, e⟩
  | ins C dx fs => exact let ⟨_, _, _, e, _⟩ := x; ⟨_, e⟩
  | own y => exact x
  | xd fs => exact let ⟨_, ⟨ob, _, _, e, _⟩, _⟩ := x; ⟨ob, e⟩
  | rng lo hi => exact let ⟨_, _, _, e⟩ := x; ⟨_, e⟩
  | frz ob u => exact ⟨ob, x.1⟩
  | tbl ps => exact ⟨_, show h.get? a = some _ from x⟩
  | met f y => exact ⟨_, show h.get? a = some _ from x⟩
  | ext φ => exact x.2.1
def CXF (P : Program) (w : World) : CXT := fun outer H s E e s' =>
  ∃ (x : Addr) (cls a0 : Value) (H' : Hp) (B : Heap), e = .ref x ∧ s'.os = s.os ∧ AllBare s'.gens ∧ Un (frs outer) [] H H' s.heap s'.heap ∧ HOk P w H' s'.heap ∧ Heap.FlyingW B outer x cls a0 s'.heap ∧
    (∀ b u, H' b = some u → ∃ o, B.get? b = some o) ∧ (∀ b o, s.heap.get? b = some o → H b = none → b ∉ frs outer → B.get? b = some o) ∧ (∀ b o, s.heap.get? b = some o → b ∉ frs outer → ∃ o', B.get? b = some o') ∧ E cls none H'
theorem ride {P : Program} {w : World} {outer : List Env} {H H' : Hp} {h0 g h2 B : Heap} (un : Un (frs outer) [] H H' h0 g) (hok : HOk P w H' g) (sg : B.StaysIn g) (fr : g.FunFrames B outer)
    (cT : ∀ b u, H' b = some u → ∃ o, B.get? b = some o) (cO : ∀ b o, h0.get? b = some o → H b = none → b ∉ frs outer → B.get? b = some o) (cA : ∀ b o, h0.get? b = some o → b ∉ frs outer → ∃ o', B.get? b = some o')
    (sh : B.StaysIn h2) (up : g.UpToSlots h2) : Un (frs outer) [] H H' h0 h2 ∧ HOk P w H' h2 := by
  have nf : ∀ b ∈ frs outer, ∀ o, g.get? b = some o → ∀ vs, o.data ≠ .fields vs := fun b hb o ho vs hd => by
    obtain ⟨_, o', ho', hn⟩ := fr.mem hb
    rw [ho] at ho'
    cases ho'
    exact hn vs hd
  refine ⟨⟨fun b o q n hb _ => sh b o (cO b o q n hb), fun b o q n hb hx => ?_, un.free, fun b o q hx => ?_, un.tups, un.frzs, un.tbls⟩, fun b u e => ?_⟩
  · obtain ⟨sl, e1⟩ := un.slot b o q n hb hx
    obtain ⟨sl2, e2⟩ := up b _ e1 (nf b hb _ e1)
    exact ⟨sl2, e2⟩
  · by_cases hb : b ∈ frs outer
    · obtain ⟨o', e1⟩ := un.there b o q hx
      obtain ⟨sl2, e2⟩ := up b _ e1 (nf b hb _ e1)
      exact ⟨_, e2⟩
    · obtain ⟨o', e1⟩ := cA b o q hb
      exact ⟨o', sh _ _ e1⟩
  · refine (hok b u e).stay (fun c v hc r => ?_) (fun _ q => q) fun _ _ q => q
    have tr : ∃ u', H' c = some u' := by
      rcases hc with rfl | hc
      · exact ⟨_, e⟩
      · exact ⟨_, hc⟩
    obtain ⟨u', hu⟩ := tr
    obtain ⟨o', e1⟩ := cT c u' hu
    have e2 := sg _ _ e1
    rw [r] at e2
    cases e2
    exact sh _ _ e1
section
variable {X : Cx} {pins : List (Addr × Obj)} {σ : L2.St} {H H' : Hp} {s : Shared} {h2 B : Heap}
theorem out_of (I : Inv X pins σ H s) (hex : X.ex = []) (un : Un (frs X.stack) [] H H' s.heap h2)
    (cO : ∀ b o, s.heap.get? b = some o → H b = none → b ∉ frs X.stack → B.get? b = some o) (cA : ∀ b o, s.heap.get? b = some o → b ∉ frs X.stack → ∃ o', B.get? b = some o') :
    Un (frs X.outer) [] X.H₀ H' X.s₀.heap h2 ∧ (∀ b o, X.s₀.heap.get? b = some o → X.H₀ b = none → b ∉ frs X.outer → B.get? b = some o) ∧ ∀ b o, X.s₀.heap.get? b = some o → b ∉ frs X.outer → ∃ o', B.get? b = some o' := by
  have nx : ∀ b : Addr, b ∉ X.ex := fun b z => by rw [hex] at z; cases z
  have nl : ∀ b o, X.s₀.heap.get? b = some o → b ∉ frs X.outer → b ∉ frs X.stack := fun b o q hb z => by
    rcases List.mem_cons.mp (I.stkSub b z) with e | e
    · exact absurd (Nat.lt_of_lt_of_le (Heap.lt_size q) I.ok.above) (by rw [e]; exact Nat.lt_irrefl _)
    · exact hb e
  have ne : ∀ b : Addr, b ∉ ([] : List Addr) := fun b => by simp
  refine ⟨⟨fun b o q n hb _ => ?_, fun b o q n hb _ => ?_, fun b o q n _ => ?_, fun b o q _ => ?_, fun b xs q => un.tups b xs (I.base.tups b xs q), fun b o u q => un.frzs b o u (I.base.frzs b o u q), fun b ps q => ?_⟩, fun b o q n hb => ?_, fun b o q hb => ?_⟩
  · exact un.keep b o (I.base.keep b o q n hb (nx b)) (I.base.free b o q n (nx b)) (nl b o q hb) (ne b)
  · obtain ⟨sl, e1⟩ := I.base.slot b o q n hb (nx b)
    obtain ⟨sl2, e2⟩ := un.any e1 (I.base.free b o q n (nx b)) (ne b)
    exact ⟨sl2, e2⟩
  · obtain ⟨o', e1⟩ := I.base.there b o q (nx b)
    exact un.free b o' e1 (I.base.free b o q n (nx b)) (ne b)
  · obtain ⟨o', e1⟩ := I.base.there b o q (nx b)
    exact un.there b o' e1 (ne b)
  · obtain ⟨m1, e1⟩ := I.base.tbls b ps q
    obtain ⟨m2, e2⟩ := un.tbls b _ e1
    exact ⟨m1 ++ m2, by rw [e2, Array.append_assoc]⟩
  · exact cO b o (I.base.keep b o q n hb (nx b)) (I.base.free b o q n (nx b)) (nl b o q hb)
  · obtain ⟨o', e1⟩ := I.base.there b o q (nx b)
    exact cA b o' e1 (nl b o q hb)
theorem raised_out {h' : Heap} {e : Addr} {cls : Value} {args : List Value} {E : XK} {F : Value → Shared → Prop} (I : Inv X pins σ H s) (hst : X.stack = X.env :: X.outer) (hf : X.env.frame = some X.env.locals) (hex : X.ex = [])
    (hx : Heap.MadeExcOf s.heap h' e cls args) (hE : E cls none H) :
    wpAny (model X.prog X.w) X.A (leaving X.env (.ref e)) (fun _ s'' => CXF X.prog X.w X.outer X.H₀ X.s₀ E (.ref e) s'') F { s with heap := h' } := by
  have hin : ∀ env ∈ X.stack, ∀ a, env.frame = some a → a ∈ frs X.stack := fun env he a ha => List.mem_filterMap.mpr ⟨env, he, ha⟩
  have hl : s.heap.FunFrames (PySem.W.hideAll s.heap (frs X.stack)) X.stack := PySem.W.funFrames_hide I.stack hin
  have hkb : (PySem.W.hideAll s.heap (frs X.stack)).StaysIn s.heap := fun b o q => PySem.W.of_hideAll _ q
  refine wpAny_leaves_madeW (base := PySem.W.hideAll s.heap (frs X.stack)) (h := s.heap) (outer := X.outer) (L := X.env.locals) (by rw [← hst]; exact I.ok.frames) hf hkb (by rw [← hst]; exact hl) hx fun h2 t fl tup tn up => ?_
  have cT : ∀ b u, H b = some u → ∃ o, (PySem.W.hideAll s.heap (frs X.stack)).get? b = some o := fun b u q => by
    obtain ⟨o, ho⟩ := obj_at (I.hok b u q)
    exact ⟨o, PySem.W.hideAll_get _ ho fun z => by rw [I.stkFree b z] at q; cases q⟩
  have cO : ∀ b o, s.heap.get? b = some o → H b = none → b ∉ frs X.stack → (PySem.W.hideAll s.heap (frs X.stack)).get? b = some o := fun b o q _ hb => PySem.W.hideAll_get _ q hb
  have cA : ∀ b o, s.heap.get? b = some o → b ∉ frs X.stack → ∃ o', (PySem.W.hideAll s.heap (frs X.stack)).get? b = some o' := fun b o q hb => ⟨o, PySem.W.hideAll_get _ q hb⟩
  obtain ⟨un, hok⟩ := ride (P := X.prog) (w := X.w) (H := H) (H' := H) (h0 := s.heap) (g := s.heap) Un.refl I.hok hkb hl cT cO cA fl.1 ((Heap.UpToSlots.of_keeps hx.keeps).trans up)
  obtain ⟨un2, cO2, cA2⟩ := out_of I hex un cO cA
  exact ⟨e, cls, _, H, _, rfl, I.os, I.bare, un2, hok, fl, cT, cO2, cA2, hE⟩
theorem passed_out {s' : Shared} {e : Value} {E : XK} {F : Value → Shared → Prop} (I : Inv X pins σ H s) (hst : X.stack = X.env :: X.outer) (hf : X.env.frame = some X.env.locals) (hex : X.ex = [])
    (hx : CXF X.prog X.w X.stack H s E e s') :
    wpAny (model X.prog X.w) X.A (leaving X.env e) (fun _ s'' => CXF X.prog X.w X.outer X.H₀ X.s₀ E e s'') F s' := by
  obtain ⟨x, cls, a0, H', B, rfl, os, bare, un, hok, fl, cT, cO, cA, hE⟩ := hx
  have fl' := fl
  rw [hst] at fl'
  refine wpAny_leaves_onW (base := B) (outer := X.outer) (by rw [← hst]; exact I.ok.frames) hf fl' fun h2 fl2 up => ?_
  obtain ⟨un1, hok1⟩ := ride (P := X.prog) (w := X.w) un hok fl.1 fl.2.2.1 cT cO cA fl2.1 up
  obtain ⟨un2, cO2, cA2⟩ := out_of I hex un1 cO cA
  exact ⟨x, cls, a0, H', B, rfl, os.trans I.os, bare, un2, hok1, fl2, cT, cO2, cA2, hE⟩
end
abbrev cxX (P : Program) (w : World) (K : PySem.W.Frag) (mg : Str → Option Value) (base : Heap) (N : List Str) (qual : Str) (sc : Scope) (f : Addr) (cdv : Value) (A : Around) (outer : List Env) (s : Shared) (H : Hp) (E : XK) : Cx :=
  cxOf (CXF P w) P w K mg base N qual sc f cdv A outer s H E
section
variable {P : Program} {w : World} {K : PySem.W.Frag} {mg : Str → Option Value} {base : Heap} {N : List Str} {qual : Str} {sc : Scope} {f : Addr} {cdv : Value} {A : Around} {outer : List Env} {s : Shared} {H : Hp} {E : XK}
theorem passX : Passes (CXF P w) (cxX P w K mg base N qual sc f cdv A outer s H E) E := fun pins σ H1 s1 e s' I hx => passed_out I rfl rfl rfl hx
theorem raiseX {pins : List (Addr × Obj)} {σ : L2.St} {H1 : Hp} {s1 : Shared} {h' : Heap} {e : Addr} {cls : Value} {args : List Value} (I : Inv (cxX P w K mg base N qual sc f cdv A outer s H E) pins σ H1 s1)
    (hx : Heap.MadeExcOf s1.heap h' e cls args) (hE : E cls none H1) : (cxX P w K mg base N qual sc f cdv A outer s H E).xe (.ref e) { s1 with heap := h' } := raised_out I rfl rfl rfl hx hE
theorem pass00 {X : Cx} : Passes (CXF P w) X E0 := fun pins σ H1 s1 e s' I hx => by
  obtain ⟨_, _, _, _, _, _, _, _, _, _, _, _, _, _, hE⟩ := hx
  exact hE.elim
theorem FnOk.up {k : Nat} {fd : FuncData} {ps : List Str} {sp : Sp} {CX : CXT} (F : FnOk P w K mg base CX0 k f fd ps sp) : FnOk P w K mg base CX k f fd ps sp :=
  ⟨F.len, fun A outer s H args us vs Q E hr he hb hv hs => codeAny_mono (F.run A outer s H args us vs Q E hr he hb hv hs) fun r s' q => by
    cases r with
    | ok fl => cases fl <;> exact q
    | error e => exact (show False from q).elim⟩
theorem Fun.okX {x qual : Str} {st : Stmt} {fd : FuncData} {ps : List Str} {k : Nat} {sp : Sp} (F : Fun K x qual st f fd) (S : FnScope N ps (defScope st)) (len : ∀ vs H Q E, sp vs H Q E → vs.length = ps.length)
    (hbody : ∀ (cdv : Value) (A : Around) (outer : List Env) (s : Shared) (H : Hp) (vs : List V) (Q : VK) (E : XK), Room k (A.deeper (envOfC qual (defScope st) s.heap.objs.size f cdv)) → sp vs H Q E →
      ∃ t, PSs (cxX P w K mg base N qual (defScope st) f cdv A outer s H E) (defBody st) t ∧ t { nx := fun _ H' => Q .non H', rt := Q } (L2.start N vs) H) : FnOk P w K mg base (CXF P w) (k + 1) f fd ps sp := by
  obtain ⟨oc, od, kV, doc, pm, an, cdv, ct, osl, rfl, lk, hcd⟩ := F.ex
  exact fn_of lk hcd S len fun A outer s H vs Q E hr hsp => hbody cdv A outer s H vs Q E hr hsp
end
theorem own_obj {K : PySem.W.Frag} {h : Heap} {C : Addr} {bmB : List Value} {nw : String} (Z : K.In h) (q : PySem.W.excIn K C bmB nw = true) :
    ∃ bm N nm qn bs hd sn sub ab col dd k0 k1 k2 k3 k5 mN, h.get? C = some (excClassObj nm qn C N bs bm hd sn sub ab col dd k0 k1 k2 k3 k5 nw) ∧ h.Ns N mN ∧ mN "__init__" = none ∧ OwnTail h bmB bm := by
  unfold PySem.W.excIn at q
  split at q
  · rename_i dd cd sl lk
    split at q
    · rename_i C' bm k0 k1 k2 k3 n k5 hm hs
      simp only [Bool.and_eq_true, beq_iff_eq, Bool.not_eq_true'] at q
      obtain ⟨⟨⟨⟨⟨z1, z2⟩, z3⟩, z4⟩, z5⟩, z6⟩ := q
      subst z1 z2
      obtain ⟨nm, bs, mro, ns, qn, hd, sn, sub, ab, col, del⟩ := cd
      dsimp only at hm z3 z5 z6
      subst hm z3
      obtain ⟨l⟩ := sl
      dsimp only at hs
      subst hs
      exact ⟨bm, ns, nm, qn, bs, hd, sn, sub, ab, col, dd, k0, k1, k2, k3, k5, h.nsMap ns, Z _ _ lk, .of_isNs (PySem.W.isNs_of_in Z z5), PySem.W.nsMap_none_of_in Z z5 z6, PySem.W.tail_of_in Z z4⟩
    · exact absurd q Bool.false_ne_true
  · exact absurd q Bool.false_ne_true
def tRaise (R : Hp → Prop) : TS := fun _ _ H => R H
theorem ps_raise {X : Cx} {x : Str} {C : Addr} {m : Str} {j : Nat} {np ap cpos pos : Pos} {R : Hp → Prop} (hc : X.calm = true) (hg : Gl X x) (hm : X.mg x = some (.ref C)) (q : PySem.W.excIn X.K C vbm "ValueError.__new__" = true)
    (hxe : ∀ pins σ H s h' e args, Inv X pins σ H s → Heap.MadeExcOf s.heap h' e (.ref C) args → R H → X.xe (.ref e) { s with heap := h' }) (hd : (x == ("__debug__" : Str)) = false := by decide) :
    PS X (.Raise (some (.Call (.Name x np) [.Constant (.str m) j ap] [] cpos)) none pos) (tRaise R) := by
  intro pins s σ H D I h
  obtain ⟨bm, N, nm, qn, bs, hd', sn, sub, ab, col, dd, k0, k1, k2, k3, k5, mN, hC, hN, hni, T⟩ := own_obj I.kIn q
  refine wpAny_Raise_call_subT (C := C) (nm := nm) (q := qn) (N := N) (bs := bs) (bm := bm) (hdct := hd') (sn := sn) (sub := sub) (ab := ab) (col := col) (dd := dd) (k0 := k0) (k1 := k1) (k2 := k2) (k3 := k3) (k5 := k5) PySem.F.excBase_ValueError (mN := mN) (T.hasType PySem.F.excBase_ValueError.hasBase) (I.ok.hd hc) rfl hni (ld_glob I hg hm ⟨rfl, ?_⟩ hd)
  refine Calls.evalArgs_plain (Calls.spliced_cons (Calls.Constant_str (k := j) (pos := ap) (Calls.spliced_nil ?_)))
  exact ⟨rfl, sz8 (show 1 ≤ 1000 by decide), hC, hN, T, fun h' e hm => hxe pins σ H _ h' e _ (I.tok _) hm h⟩
section
variable {X : Cx} {pins : List (Addr × Obj)} {σ : L2.St} {H H' : Hp} {s : Shared}
abbrev cxE (X : Cx) (v : Value) : Cx := { X with A := X.A.mark (some v), calm := false }
theorem inv_mark (I : Inv X pins σ H s) (v : Value) : Inv (cxE X v) pins σ H s :=
  ⟨⟨I.ok.mod, I.ok.kind, I.ok.glob, I.ok.blt, I.ok.above, I.ok.inj, I.ok.has, I.ok.cab, (fun z => nomatch z), I.ok.frames, I.ok.stk, I.ok.exf, I.ok.bs, I.ok.bsz, I.ok.noex, I.ok.exfs, I.ok.funs, I.ok.frf⟩, I.os, I.bare, I.base, I.loc, I.cell, I.free, I.freeC, I.pin, I.hok, I.len⟩
theorem inv_unmark {v : Value} (ok : X.Ok) (I : Inv (cxE X v) pins σ H s) : Inv X pins σ H s :=
  ⟨ok, I.os, I.bare, I.base, I.loc, I.cell, I.free, I.freeC, I.pin, I.hok, I.len⟩
theorem goes {M : Model} {A : Around} {E : Value → Shared → Prop} {n : Str} {i : Nat} {pos : Pos} {Q : Unit → Shared → Prop} (I : Inv X pins σ H s) (hN : X.N.Nodup) (hi : X.N[i]? = some n) (hl : X.env.kindOf n = some .local)
    (h : ∀ s', Inv X pins (σ.set i none) H s' → Q () s') : wpAny M A (do bindName X.env n .none; unbindBehindTheSuite X.env n pos) Q E s := by
  obtain ⟨m, hn, hl'⟩ := id I.loc
  have hiσ : i < σ.length := by rw [I.len]; exact (List.getElem?_eq_some_iff.mp hi).1
  refine wpAny_nameGoes_keeps hl hn (by rw [I.ok.kind]; rfl) fun h' v hn' hs => h _ ?_
  have ltL : ∀ b o, X.s₀.heap.get? b = some o → b ≠ X.env.locals := fun b o e => Nat.ne_of_lt (Nat.lt_of_lt_of_le (Heap.lt_size e) I.ok.above)
  have hok : HOk X.prog X.w H h' := fun b ob e => by
    refine (I.hok b ob e).stay (fun c w' hc q => (hs.2 c ?_).trans q) (fun _ q => q) fun _ _ q => q
    intro z
    rcases hc with y | y
    · rw [← y, z, I.free] at e; cases e
    · rw [z, I.free] at y; cases y
  refine ⟨I.ok, I.os, I.bare, ⟨fun b o e k hb hx => ?_, fun b o e k hb hx => ?_, I.base.free, fun b o e hx => ?_, I.base.tups, I.base.frzs, I.base.tbls⟩, ⟨_, hn', fun j y v' e1 e2 e3 => ?_⟩, fun y c e => ?_, I.free, I.freeC, fun p hp => ?_, hok, ?_⟩
  · exact (hs.2 b (ltL b o e)).trans (I.base.keep b o e k hb hx)
  · obtain ⟨sl, q⟩ := I.base.slot b o e k hb hx
    exact ⟨sl, (hs.2 b (ltL b o e)).trans q⟩
  · obtain ⟨o', q⟩ := I.base.there b o e hx
    exact ⟨o', (hs.2 b (ltL b o e)).trans q⟩
  · by_cases hj : j = i
    · rw [hj, List.getElem?_set_self hiσ] at e2
      cases e2
    · rw [List.getElem?_set_ne (Ne.symm hj)] at e2
      obtain ⟨u, r, q⟩ := hl' j y v' e1 e2 e3
      refine ⟨u, r, ?_⟩
      rcases q with ⟨k, e⟩ | ⟨k, c, e, z⟩
      · have ny : y ≠ n := fun z => hj (nodup_ix hN e1 (z ▸ hi))
        exact .inl ⟨k, by show (if y = n then v else m y) = some u; rw [if_neg ny]; exact e⟩
      · exact .inr ⟨k, c, e, z.sameBut hs (I.cne y c e)⟩
  · obtain ⟨w', z⟩ := I.cell y c e
    exact ⟨w', z.sameBut hs (I.cne y c e)⟩
  · obtain ⟨e, k, ne, nf, d⟩ := I.pin p hp
    exact ⟨(hs.2 p.1 ne).trans e, k, ne, nf, d⟩
  · rw [List.length_set]; exact I.len
def excAt (x : Addr) (cls : Value) (h : Heap) : Prop := ∃ ob, h.get? x = some ob ∧ ob.cls = cls
def hoExc (x : Addr) (cls : Value) : HO := .ext (excAt x cls)
def tTry (K : PySem.W.Frag) (CB : Addr) (i : Nat) (sp : Sp) (t : TA) (ts : TS) : TS := fun D σ H => t σ H fun vs H1 => sp vs H1 (fun _ H2 => D.nx σ H2) fun cls _ H2 => PySem.W.exmOne K cls (.ref CB) = some true ∧
  ∀ x, H2 x = none → ts { nx := fun σ' H3 => D.nx (σ'.set i none) H3, rt := D.rt, bk := fun σ' H3 => D.bk (σ'.set i none) H3, ct := fun σ' H3 => D.ct (σ'.set i none) H3 } (σ.set i (some (.ref x))) (L2.upd H2 x (hoExc x cls))
end
end Bw
set_option Elab.async false
set_option linter.all false
set_option maxRecDepth 100000
set_option maxHeartbeats 400000
namespace Bw
open PySem PySem.Spec PyProof.Rows L2
section
variable {prog : Program} {w : World} {A : Around} {E : Value → Shared → Prop} {K : PySem.W.Frag} {h : Heap} {g : Array GenState} {d : Drawn} {t : Nat} {os : OsState} {x C : Addr}
structure ExcK (K : PySem.W.Frag) (C : Addr) : Prop where
  ga : PySem.W.findIn K (.ref C) "__getattribute__" = some (some (.builtin "BaseException.__getattribute__"))
  gt : PySem.W.findIn K (.ref C) "__getattr__" = some none
  cl : PySem.W.findIn K (.ref C) "__class__" = some (some (.builtin "object.__class__"))
  mB : PySem.W.mroIn K C (.type "BaseException") = some true
  mO : PySem.W.mroIn K C (.type "object") = some true
  cls : (PySem.W.clsIn K C).isSome = true
theorem exc_ty {cls : Value} (p : excAt x cls h) (M : Model) : PySem.W.Looks M h (typeOf (.ref x)) cls := by
  obtain ⟨ob, h1, h2⟩ := p
  exact h2 ▸ (PySem.W.Looks.ld h1).andThen .now
theorem exc_get {tp : Value} {R : Result → Shared → Prop} (Z : K.In h) (F : ExcK K C) (p : excAt x (.ref C) h) (hq : R (.ok (.ret (.ref C))) ⟨h, g, d, t, os⟩) :
    codeAny (model prog w) A (.call (.builtin "getset_descriptor.__get__") ⟨[.builtin "object.__class__", .ref x, tp], []⟩) R ⟨h, g, d, t, os⟩ := by
  have L0 := exc_ty p (model prog w)
  have L1 := PySem.W.looks_mroIn (M := model prog w) Z F.mO
  refine codeAny_call_builtin PySem.W.KF.slot_gs.plain PySem.W.KF.entry_gs (PySem.W.KF.slot_gs.check _ _ _ _ _ _ _ _ PySem.W.KF.type_class (PySem.W.KF.args_gs _ _ _) ?_)
  unfold Builtin.«getset_descriptor.__get__» Builtin.Getset_descriptor.descrGet
  rw [PySem.W.dga_obj]
  refine wpAny_bind (wpAny_pure ?_)
  unfold Builtin.Getset_descriptor.descrGetter Builtin.Getset_descriptor.descrCheckInstance Builtin.Getset_descriptor.descrNameAndClass isInstance
  simp only [PySem.W.KF.owner_class]
  repeat lk
  refine ⟨Code.quiet_builtin _ (by decide +kernel), codeAny_builtin PySem.W.KF.entry_class ?_⟩
  unfold Builtin.«object.__class__» shownTypeOf
  repeat lk
  exact hq
theorem exc_entry {tk : Tok} {Q : Fin → Shared → Prop} (Z : K.In h) (F : ExcK K C) (p : excAt x (.ref C) h) (hq : Q (.done (.ret (.ref C))) ⟨h, g, d, t, os⟩) :
    wpAny (model prog w) A (Builtin.«object.__getattribute__» ⟨[.ref x, .str "__class__" tk], []⟩) Q E ⟨h, g, d, t, os⟩ := by
  have L0 := exc_ty p (model prog w)
  have L1 := PySem.W.looks_findIn (M := model prog w) Z F.cl
  have hT5 : (⟨h, g, d, t, os⟩ : Shared).TypeIs (.builtin "object.__class__") "getset_descriptor" := PySem.F.typeOf_object_class
  have f5 := PySem.F.typeOf_object_class
  have f6 := PySem.F.slot_gs_get.lookup
  have f7 := PySem.F.slot_gs_set.lookup
  repeat (any_goals (first | assumption | (with_reducible refine PySem.W.Looks.at (by assumption) ?_) | wp_step))
  refine exc_get Z F p ?_
  repeat (any_goals (first | assumption | wp_step))
theorem exc_isB {M : Model} (Z : K.In h) (F : ExcK K C) (p : excAt x (.ref C) h) : PySem.W.Looks M h (isInstance (.ref x) (.type "BaseException")) true := (exc_ty p M).andThen (PySem.W.looks_mroIn Z F.mB)
theorem ga_kind : builtinKind "BaseException.__getattribute__" = some .slot := by decide +kernel
theorem ga_split : splitId "BaseException.__getattribute__" = some ("BaseException", "__getattribute__") := by decide +kernel
theorem exc_check {M : Model} {nameV : Value} {Q : Unit → Shared → Prop} (Z : K.In h) (F : ExcK K C) (p : excAt x (.ref C) h) (hq : Q () ⟨h, g, d, t, os⟩) :
    wpAny M A (checkBuiltinCall "BaseException.__getattribute__" ⟨[.ref x, nameV], []⟩) Q E ⟨h, g, d, t, os⟩ := by
  have ha := PySem.F.args_bexc_ga (.ref x) nameV
  simp only [checkBuiltinCall, ga_kind, ga_split]
  refine wpAny_bind ((exc_isB (M := M) Z F p).here (s := ⟨h, g, d, t, os⟩) ?_)
  repeat wp_step
  exact hq
theorem exc_call {tk : Tok} {R : Result → Shared → Prop} (Z : K.In h) (F : ExcK K C) (p : excAt x (.ref C) h) (hq : R (.ok (.ret (.ref C))) ⟨h, g, d, t, os⟩) :
    codeAny (model prog w) A (.call (.builtin "BaseException.__getattribute__") ⟨[.ref x, .str "__class__" tk], []⟩) R ⟨h, g, d, t, os⟩ :=
  codeAny_call_builtin PySem.F.excAttr_ValueError.ga.plain PySem.F.entry_bexc_ga (exc_check Z F p (exc_entry Z F p hq))
theorem exc_by {tk : Tok} {Q : Value → Shared → Prop} (Z : K.In h) (F : ExcK K C) (p : excAt x (.ref C) h) (hq : Q (.ref C) ⟨h, g, d, t, os⟩) :
    wpAny (model prog w) A (getAttrBy (.ref x) (.str "__class__" tk) false) Q E ⟨h, g, d, t, os⟩ := by
  have L0 := exc_ty p (model prog w)
  have L1 := PySem.W.looks_findIn (M := model prog w) Z F.ga
  have L2 := PySem.W.looks_findIn (M := model prog w) Z F.gt
  have f3 := PySem.F.excAttr_ValueError.ga.bind (.ref x)
  have hx2 : (Value.builtin "BaseException.__getattribute__" == Value.builtin "object.__getattribute__") = false := by decide +kernel
  have hx1 : (onTheHeap (Value.ref C) && Value.builtin "BaseException.__getattribute__" == Value.builtin "object.__getattribute__") = false := by rw [hx2]; rfl
  repeat (any_goals (first | assumption | (with_reducible refine PySem.W.Looks.at (by assumption) ?_) | wp_step))
  refine exc_call Z F p ?_
  repeat (any_goals (first | assumption | wp_step))
theorem exc_attr {Q : Option Value → Shared → Prop} (Z : K.In h) (F : ExcK K C) (p : excAt x (.ref C) h) (hq : Q (some (.ref C)) ⟨h, g, d, t + 1, os⟩) :
    wpAny (model prog w) A (getAttr? (.ref x) "__class__") Q E ⟨h, g, d, t, os⟩ := by
  unfold getAttr? getAttrBy?
  repeat (any_goals (first | assumption | with_reducible apply exc_by Z F p | wp_step))
theorem kitx_exc (F : ExcK K C) : PySem.W.KitX K (.ref x) (.ref C) (excAt x (.ref C)) where
  ty := fun M _ _ p => exc_ty p M
  it := fun M h' Z _ => by
    obtain ⟨cd, hcd⟩ := Option.isSome_iff_exists.mp F.cls
    unfold PySem.W.clsIn at hcd
    split at hcd
    · rename_i lk
      intro A' Q' E' s' k q
      unfold isType loadHead
      exact wpAny_bind (wpAny_loadPart (k _ _ (Z _ _ lk)) (wpAny_pure q))
    · cases hcd
  ne := fun h' tp dd its n sl Z htp => by
    obtain ⟨cd, hcd⟩ := Option.isSome_iff_exists.mp F.cls
    refine Bool.eq_false_iff.mpr fun q => ?_
    have e : C = tp := Value.ref.inj (beq_iff_eq.mp q)
    subst e
    unfold PySem.W.clsIn at hcd
    split at hcd
    · rename_i lk
      have z := (Z _ _ lk).symm.trans htp
      cases z
    · cases hcd
  ca := fun {prog w A E Q s} Z p k => by
    obtain ⟨h1, g1, d1, t1, os1⟩ := s
    exact exc_attr Z F p k
end
section
variable {X : Cx}
def rIsiE (K : PySem.W.Frag) (C : Addr) : List V → Hp → VK → Prop := fun xs H Q => ∃ (x : Addr) (c : V) (cv : Value) (b : Bool), xs = [.ref x, c] ∧ RelV c cv ∧ H x = some (hoExc x (.ref C)) ∧ PySem.W.kitOne K (.ref C) cv = some b ∧ Q (.bl b) H
theorem call_isiE {C : Addr} (F : ExcK X.K C) : CallR X (.builtin "isinstance") (rIsiE X.K C) := by
  intro pins s σ H xs us Q I r h
  obtain ⟨x, c, cv, b, rfl, rc, hx, e, q⟩ := h
  obtain ⟨u, w', rfl, rx, rc'⟩ := vals2 r
  cases (show u = Value.ref x from rx)
  have hw : w' = cv := by
    cases c with
    | ref a => exact (show w' = Value.ref a from rc').trans (show cv = Value.ref a from rc).symm
    | ty n => exact (show w' = Value.type n from rc').trans (show cv = Value.type n from rc).symm
    | non => exact (show w' = Value.none from rc').trans (show cv = Value.none from rc).symm
    | bl z => exact (show w' = Value.bool z from rc').trans (show cv = Value.bool z from rc).symm
    | int i =>
      obtain ⟨t, rfl⟩ := rc
      exact absurd e (by unfold PySem.W.kitOne PySem.W.kitCls; simp)
    | str i =>
      obtain ⟨t, rfl⟩ := rc
      exact absurd e (by unfold PySem.W.kitOne PySem.W.kitCls; simp)
    | byt i =>
      obtain ⟨t, rfl⟩ := rc
      exact absurd e (by unfold PySem.W.kitOne PySem.W.kitCls; simp)
    | flt i =>
      obtain ⟨t, rfl⟩ := rc
      exact absurd e (by unfold PySem.W.kitOne PySem.W.kitCls; simp)
  subst hw
  have hp : excAt x (.ref C) s.heap := (I.hok x _ hx).1
  exact PySem.W.kia_one (kitx_exc F) I.kIn hp e (fun z => nomatch z) fun tk => ⟨.bl b, H, I.tok _, rfl, q⟩
def rIsiT (K : PySem.W.Frag) (C : Addr) : List V → Hp → VK → Prop := fun xs H Q => ∃ (x tp : Addr) (cs : List Addr) (b : Bool), xs = [.ref x, .ref tp] ∧ H x = some (hoExc x (.ref C)) ∧ H tp = some (.tup (cs.map V.ref)) ∧ PySem.W.kitAny K (.ref C) (cs.map Value.ref) = some b ∧ Q (.bl b) H
theorem vals_refs : ∀ {cs : List Addr} {us : List Value}, Vals (cs.map V.ref) us → us = cs.map Value.ref
  | [], _, .nil => rfl
  | a :: cs, _, .cons r t => by
    cases (show _ = Value.ref a from r)
    rw [vals_refs t]
    rfl
theorem call_isiT {C : Addr} (F : ExcK X.K C) : CallR X (.builtin "isinstance") (rIsiT X.K C) := by
  intro pins s σ H xs us Q I r h
  obtain ⟨x, tp, cs, b, rfl, hx, ht, e, q⟩ := h
  obtain ⟨u, w', rfl, rx, rc'⟩ := vals2 r
  cases (show u = Value.ref x from rx)
  cases (show w' = Value.ref tp from rc')
  have hp : excAt x (.ref C) s.heap := (I.hok x _ hx).1
  obtain ⟨_, its, rv, o, ho, hc, n, hd⟩ := (show ObjOk X.prog X.w H s.heap tp (.tup (cs.map V.ref)) from I.hok tp _ ht)
  have hv := vals_refs rv
  subst hv
  obtain ⟨oc, dd, dt, sl⟩ := o
  dsimp only at hc hd
  subst hc hd
  exact PySem.W.kia_tup (kitx_exc F) I.kIn hp ho e (fun z => nomatch z) fun tk => ⟨.bl b, H, I.tok _, rfl, q⟩
end
structure CalX (P : Program) (w : World) (K : PySem.W.Frag) (mg : Str → Option Value) (base : Heap) (x : Str) (ps : List Str) (k : Nat) (sp : Sp) : Prop where
  ex : ∃ f fd, FnOk P w K mg base (CXF P w) k f fd ps sp ∧ Binds K fd ps [] ∧ PySem.W.keepIn K (.ref f) = true ∧ mg x = some (.ref f)
theorem pe_calN {X : Cx} {x : Str} {ps : List Str} {k : Nat} {sp : Sp} {e : Expr} {es : List Expr} {t : TA} {p pos : Pos} (C : CalX X.prog X.w X.K X.mg X.base x ps k sp) (hr : Room k X.A) (hg : Gl X x) (ha : PA X (e :: es) t)
    (hdb : (x == ("__debug__" : Str)) = false := by decide) (he : starEach (e :: es) X.env = (false, eval e X.env) :: starEach es X.env := by rfl) (hpl : (backTo pos (starEach es X.env)).any (·.1) = false := by rfl) :
    PE X (.Call (.Name x p) (e :: es) [] pos) (tCall sp [] E0 t) := by
  obtain ⟨f, fd, F, b, kp, m⟩ := C.ex
  exact pe_call F hr hg m kp b .nil pass00 ha hdb he hpl
theorem pe_calX {P : Program} {w : World} {K : PySem.W.Frag} {mg : Str → Option Value} {base : Heap} {N : List Str} {qual : Str} {sc : Scope} {f : Addr} {cdv : Value} {A : Around} {outer : List Env} {s : Shared} {H : Hp} {E : XK}
    {x : Str} {ps : List Str} {k : Nat} {sp : Sp} {e : Expr} {es : List Expr} {t : TA} {p pos : Pos} (C : CalX P w K mg base x ps k sp) (hr : Room k (cxX P w K mg base N qual sc f cdv A outer s H E).A) (hg : Gl (cxX P w K mg base N qual sc f cdv A outer s H E) x)
    (ha : PA (cxX P w K mg base N qual sc f cdv A outer s H E) (e :: es) t)
    (hdb : (x == ("__debug__" : Str)) = false := by decide) (he : starEach (e :: es) (cxX P w K mg base N qual sc f cdv A outer s H E).env = (false, eval e (cxX P w K mg base N qual sc f cdv A outer s H E).env) :: starEach es (cxX P w K mg base N qual sc f cdv A outer s H E).env := by rfl)
    (hpl : (backTo pos (starEach es (cxX P w K mg base N qual sc f cdv A outer s H E).env)).any (·.1) = false := by rfl) :
    PE (cxX P w K mg base N qual sc f cdv A outer s H E) (.Call (.Name x p) (e :: es) [] pos) (tCall sp [] E t) := by
  obtain ⟨f', fd, F, b, kp, m⟩ := C.ex
  exact pe_call F hr hg m kp b .nil passX ha hdb he hpl
theorem w_raise {R : Hp → Prop} {D : Ends} {σ : L2.St} {H : Hp} : tRaise R D σ H = R H := rfl
theorem w_try {K : PySem.W.Frag} {CB : Addr} {i : Nat} {sp : Sp} {t : TA} {ts : TS} {D : Ends} {σ : L2.St} {H : Hp} : tTry K CB i sp t ts D σ H = t σ H (fun vs H1 => sp vs H1 (fun _ H2 => D.nx σ H2) fun cls _ H2 => PySem.W.exmOne K cls (.ref CB) = some true ∧
  ∀ x, H2 x = none → ts { nx := fun σ' H3 => D.nx (σ'.set i none) H3, rt := D.rt, bk := fun σ' H3 => D.bk (σ'.set i none) H3, ct := fun σ' H3 => D.ct (σ'.set i none) H3 } (σ.set i (some (.ref x))) (L2.upd H2 x (hoExc x cls))) := rfl
theorem w_KX {K : PySem.W.Frag} {P : Program} {w : World} {mg : Str → Option Value} {base : Heap} {N : List Str} {qual : Str} {sc : Scope} {f : Addr} {cd : Value} {A : Around} {outer : List Env} {s : Shared} {H : Hp} {E : XK} : (cxX P w K mg base N qual sc f cd A outer s H E).K = K := rfl
theorem at_memV {xs : List V} {i : Int} (h0 : 0 ≤ i) (h : i < xs.length) : ∃ z ∈ xs, atI xs i = some z := by
  have hk : i.toNat < xs.length := by omega
  have ek : i = ((i.toNat : Nat) : Int) := by omega
  refine ⟨xs[i.toNat], List.getElem_mem hk, ?_⟩
  have q : atI xs ((i.toNat : Nat) : Int) = some xs[i.toNat] := atI_nat (List.getElem?_eq_getElem hk)
  rwa [← ek] at q
theorem boot_ValueError : bootBuiltins "ValueError" = some (.type "ValueError") := by decide +kernel
end Bw
set_option Elab.async false
set_option linter.all false
set_option maxRecDepth 100000
set_option maxHeartbeats 1000000
namespace Bw
open PySem PySem.Spec PyProof.Rows L2
section
variable {X : Cx}
def Flew (X : Cx) (pins : List (Addr × Obj)) (σ : L2.St) (E : XK) (e : Value) (s' : Shared) : Prop := ∃ H1 s1, Inv X pins σ H1 s1 ∧ CXF X.prog X.w X.stack H1 s1 E e s'
def PBE (X : Cx) (e : Expr) (t : XK → TE) : Prop :=
  ∀ (pins : List (Addr × Obj)) (s : Shared) (σ : L2.St) (H : Hp) (Q : VK) (E : XK), Inv X pins σ H s → t E σ H Q → wpAny (model X.prog X.w) X.A (eval e X.env) (EP X pins σ Q) (Flew X pins σ E) s
def PBS (X : Cx) (st : Stmt) (t : XK → TS) : Prop :=
  ∀ (pins : List (Addr × Obj)) (s : Shared) (σ : L2.St) (H : Hp) (D : Ends) (E : XK), Inv X pins σ H s → t E D σ H → wpAny (model X.prog X.w) X.A (exec st X.env) (SP X pins D) (Flew X pins σ E) s
def tBMake (C : Addr) (sp : Sp) (dvs : List V) (t : TA) : XK → TE := fun E σ H Q => t σ H fun vs H1 => ∀ x dx, H1 x = none → H1 dx = none → dx ≠ x →
  sp (.ref x :: (vs ++ dvs)) (upd (upd H1 dx (.own x)) x (.ins C dx [])) (fun v H2 => v = .non ∧ Q (.ref x) H2) E
theorem pbe_make {x : Str} {k : Nat} {f C : Addr} {fd : FuncData} {ps : List Str} {sp : Sp} {ds : List Value} {dvs : List V} {e : Expr} {es : List Expr} {t : TA} {p pos : Pos} (hnx : ∀ v s, ¬ X.xe v s) (M : Mk X.K C f)
    (F : FnOk X.prog X.w X.K X.mg X.base (CXF X.prog X.w) k f fd ps sp) (hr : Room (k + 1) X.A) (hg : Gl X x) (hm : X.mg x = some (.ref C)) (hb : Binds X.K fd ps ds) (hd : Vals dvs ds) (ha : PA X (e :: es) t)
    (hdb : (x == ("__debug__" : Str)) = false := by decide) (he : starEach (e :: es) X.env = (false, eval e X.env) :: starEach es X.env := by rfl) (hpl : (backTo pos (starEach es X.env)).any (·.1) = false := by rfl) :
    PBE X (.Call (.Name x p) (e :: es) [] pos) (tBMake C sp dvs t) := by
  intro pins s0 σ H0 Q E I0 h
  refine wpAny_Call_Name_kw (ld_glob I0 hg hm ?_ hdb)
  refine PySem.W.callWith_K (h₀ := X.base) I0.ok.mod.kin M.kp (wpAny_mono (ha pos pins s0 σ H0 _ I0 h) (fun us s q1 => ?_) fun _ _ z => (hnx _ _ z).elim) he hpl
  obtain ⟨vs, H, I, r, h⟩ := q1
  refine ⟨I.kIn, ?_⟩
  have hq := h (s.heap.objs.size + 1) s.heap.objs.size (I.hok.fresh (Nat.le_succ _)) (I.hok.fresh (Nat.le_refl _)) (Nat.ne_of_lt (Nat.lt_succ_self _))
  have I2 := Inv.made (C := C) I
  have r2 : Vals (V.ref (s.heap.objs.size + 1) :: (vs ++ dvs)) (Value.ref (s.heap.objs.size + 1) :: (us ++ ds)) := .cons rfl (r.append hd)
  have hl : (Value.ref (s.heap.objs.size + 1) :: us ++ ds).length = ps.length := by
    have e := r2.length
    rw [F.len _ _ _ _ hq] at e
    exact e.symm
  refine wpAny_call (make_map (f := f) I.kIn M.makes M.init (beq_iff_eq.mp M.fn) (codeAny_mono (F.run _ X.stack _ _ ⟨Value.ref (s.heap.objs.size + 1) :: us, []⟩ (Value.ref (s.heap.objs.size + 1) :: (us ++ ds)) _ _ E (hr.make C us [])
    (I2.env0.make C us []) (hb _ (Value.ref (s.heap.objs.size + 1) :: us) I2.kIn hl) r2 hq) fun r s' hq' => ?_))
  cases r with
  | error e => exact ⟨_, _, I2, hq'⟩
  | ok fl =>
    cases fl with
    | ret u =>
      obtain ⟨v, H', I3, rv, ev, q3⟩ := I2.after hq'
      subst ev
      exact ⟨rv, ⟨V.ref (s.heap.objs.size + 1), H', I3, rfl, q3⟩⟩
    | next => exact False.elim hq'
    | brk => exact False.elim hq'
    | cont => exact False.elim hq'
theorem pbs_expr {e : Expr} {t : XK → TE} {pos : Pos} (he : PBE X e t) (hsw : swapsWith e none pos.line X.env = pure false := by rfl) : PBS X (.Expr e pos) (fun E => tDrop (t E)) := by
  intro pins s σ H D E I h
  exact wpAny_Expr_any (thn (he pins s σ H _ E I h) fun v s1 ⟨x, H1, I1, _, q⟩ => ⟨σ, H1, I1, q⟩) I.quiet hsw
def tTryB (K : PySem.W.Frag) (CB : Addr) (i : Nat) (tb : XK → TS) (ts : TS) : TS := fun D σ H => tb (fun cls _ H2 => PySem.W.exmOne K cls (.ref CB) = some true ∧
  ∀ x, H2 x = none → ts { nx := fun σ' H3 => D.nx (σ'.set i none) H3, rt := D.rt, bk := fun σ' H3 => D.bk (σ'.set i none) H3, ct := fun σ' H3 => D.ct (σ'.set i none) H3 } (σ.set i (some (.ref x))) (L2.upd H2 x (hoExc x cls))) D σ H
theorem ps_tryB {cn n : Str} {i : Nat} {CB : Addr} {st : Stmt} {tb : XK → TS} {b₀ : Stmt} {suite : List Stmt} {ts : TS} {cp hpos tpos : Pos}
    (hst : X.stack = X.env :: X.outer) (hf : X.env.frame = some X.env.locals) (hnx : ∀ v s, ¬ X.xe v s) (hb : PBS X st tb)
    (hgC : Gl X cn) (hmC : X.mg cn = some (.ref CB)) (hN : X.N.Nodup) (hi : X.N[i]? = some n) (hl : X.env.scope.names.lookup n = some .local) (hs : ∀ v : Value, PSs (cxE X v) (b₀ :: suite) ts)
    (hdc : (cn == ("__debug__" : Str)) = false := by decide) :
    PS X (.Try [st] [.ExceptHandler (some (.Name cn cp)) (some n) (b₀ :: suite) hpos] [] [] tpos) (tTryB X.K CB i tb ts) := by
  intro pins s σ H D I h
  refine wpAny_Try_except (wpAny_execs_cons (wpAny_mono (hb pins s σ H _ _ I h) (fun fl s' q => ?_) fun ev s' hq => ?_))
  · cases fl with
    | next => exact wpAny_execs_nil (wpAny_execs_nil q)
    | brk => exact q
    | cont => exact q
    | ret u => exact q
  obtain ⟨H1, s1, I1, hq1⟩ := hq
  obtain ⟨x', cls, a0, H2, B, rfl, os, bare, un, hok, fl, cT, cO, cA, hm1, hE⟩ := hq1
  have fl' := fl
  rw [hst] at fl'
  refine wpAny_looks_onW (base := B) (outer := X.outer) (L := X.env.locals) (by rw [← hst]; exact I1.ok.frames) hf fl' fun h4 held4 up4 => ?_
  refine wpAny_landsW held4 fun h5 fl5 up5 => ?_
  rw [← hst] at fl5
  obtain ⟨un5, hok5⟩ := ride (P := X.prog) (w := X.w) un hok fl.1 fl.2.2.1 cT cO cA fl5.1 (up4.trans up5)
  have I5 : Inv X pins σ H2 { s' with heap := h5 } := I1.call' (s' := { s' with heap := h5 }) (ch := []) os un5 hok5 bare (fun b z => absurd z (by simp))
  have X5 := inv_mark I5 (.ref x')
  have ty5 : PySem.W.Looks (model X.prog X.w) h5 (typeOf (.ref x')) cls := by
    obtain ⟨ob, hob, hc⟩ := fl5.there
    subst hc
    exact (PySem.W.Looks.ld hob).andThen .now
  refine wpAny_handleBy_cons (codeAny_handlers_test (ld_glob X5 hgC hmC ((PySem.W.exm_one I5.kIn ty5 hm1).here ?_) hdc)) (by intro z; cases z)
  refine codeAny_handlers_suite_as ?_
  refine lands_againW fl5 fun h6 fl6 up6 => ?_
  obtain ⟨un6, hok6⟩ := ride (P := X.prog) (w := X.w) un5 hok5 fl5.1 fl5.2.2.1 cT cO cA fl6.1 up6
  obtain ⟨ob, hob, hcl⟩ := fl6.there
  have nH : H2 x' = none := by
    cases z : H2 x' with
    | none => rfl
    | some u =>
      obtain ⟨o, ho⟩ := cT x' u z
      rw [fl.2.1] at ho
      cases ho
  have nS : ∀ o, s1.heap.get? x' ≠ some o := fun o ho => by
    by_cases hx' : x' ∈ frs X.stack
    · obtain ⟨_, o', ho', hn'⟩ := fl6.2.2.1.mem hx'
      obtain ⟨oe, ws, hoe, _, hoed, _⟩ := fl6.first
      rw [hoe] at ho'
      cases ho'
      exact hn' _ hoed
    · obtain ⟨o', ho'⟩ := cA x' o ho hx'
      rw [fl.2.1] at ho'
      cases ho'
  have hT : ∀ b u, H2 b = some u → L2.upd H2 x' (hoExc x' cls) b = some u := fun b u z => by rw [upd_ne (ne_of_none z nH)]; exact z
  have un7 : Un (frs X.stack) [] H1 (L2.upd H2 x' (hoExc x' cls)) s1.heap h6 :=
    ⟨un6.keep, un6.slot, fun b o q n hx => by
      have nb : b ≠ x' := fun z => nS o (by rw [← z]; exact q)
      rw [upd_ne nb]
      exact un6.free b o q n hx, un6.there, fun b xs z => hT _ _ (un6.tups b xs z), fun b o u z => hT _ _ (un6.frzs b o u z), fun b ps z => by
      obtain ⟨m1, e1⟩ := un6.tbls b ps z
      exact ⟨m1, hT _ _ e1⟩⟩
  have hok7 : HOk X.prog X.w (L2.upd H2 x' (hoExc x' cls)) h6 := fun b u z => by
    by_cases hbx : b = x'
    · subst hbx
      rw [upd_same] at z
      cases z
      exact ⟨⟨ob, hob, hcl⟩, ⟨ob, hob⟩, fun h1 h2 ⟨o1, q1, q2⟩ k => ⟨o1, k _ q1, q2⟩⟩
    · rw [upd_ne hbx] at z
      exact (hok6 b u z).stay (fun _ _ _ q => q) (fun c q => hT _ _ q) fun c xs q => hT _ _ q
  have I6 : Inv X pins σ (L2.upd H2 x' (hoExc x' cls)) { s' with heap := h6 } := I1.call' (s' := { s' with heap := h6 }) (ch := []) os un7 hok7 bare (fun b z => absurd z (by simp))
  refine store_ok (X := cxE X (.ref x')) (inv_mark I6 (.ref x')) hN hi (.inl hl) (v := .ref x') rfl (fun s7 I7 => ?_) (.inr hl)
  refine wpAny_mono (hs (.ref x') pins s7 _ _ _ I7 (hE x' nH)) (fun f8 s8 q8 => ?_) fun _ _ z => (hnx _ _ z).elim
  cases f8 with
  | next =>
    obtain ⟨σ8, H8, I8, q8⟩ := q8
    exact goes (inv_unmark I1.ok I8) hN hi hl fun s9 I9 => ⟨_, H8, I9, q8⟩
  | brk =>
    obtain ⟨σ8, H8, I8, q8⟩ := q8
    exact goes (inv_unmark I1.ok I8) hN hi hl fun s9 I9 => ⟨_, H8, I9, q8⟩
  | cont =>
    obtain ⟨σ8, H8, I8, q8⟩ := q8
    exact goes (inv_unmark I1.ok I8) hN hi hl fun s9 I9 => ⟨_, H8, I9, q8⟩
  | ret u =>
    obtain ⟨v, σ8, H8, I8, r8, q8⟩ := q8
    exact goes (inv_unmark I1.ok I8) hN hi hl fun s9 I9 => ⟨v, _, H8, I9, r8, q8⟩
end
end Bw
set_option Elab.async false
set_option linter.all false
set_option maxRecDepth 100000
set_option maxHeartbeats 1000000
namespace Bw
open PySem PySem.Spec PyProof.Rows L2
theorem lookup_mem {α : Type} {x : Str} {c : α} : ∀ {l : List (Str × α)}, l.lookup x = some c → (x, c) ∈ l
  | [], h => by simp at h
  | (n, k) :: r, h => by
    rw [List.lookup_cons] at h
    cases hx : x == n with
    | true =>
      rw [hx] at h
      have e : x = n := by simpa using hx
      have e2 : k = c := by simpa using h
      subst e e2
      exact List.mem_cons_self
    | false =>
      rw [hx] at h
      exact List.mem_cons_of_mem _ (lookup_mem h)
theorem mem_lookup {α : Type} {x : Str} {c : α} : ∀ {l : List (Str × α)}, (x, c) ∈ l → ∃ c', l.lookup x = some c'
  | [], h => by cases h
  | (n, k) :: r, h => by
    rw [List.lookup_cons]
    cases hx : x == n with
    | true => exact ⟨k, rfl⟩
    | false =>
      rcases List.mem_cons.mp h with e | e
      · cases e
        simp at hx
      · exact mem_lookup e
theorem closure_run {env : Env} : ∀ (names : List (Str × NameKind)) (acc : List (Str × Addr)), (∀ y ∈ names, y.2 = .free → ∃ c, env.cells.lookup y.1 = some c) →
    ∃ cl : List (Str × Addr), (forIn (m := Sem) names acc fun (x : Str × NameKind) r =>
        if (x.2 == NameKind.free) = true then do let a ← cellOf env x.1; pure (ForInStep.yield ((x.1, a) :: r)) else pure (ForInStep.yield r)) = pure cl ∧
      (∀ p ∈ cl, p ∈ acc ∨ env.cells.lookup p.1 = some p.2) ∧ (∀ p ∈ acc, p ∈ cl) ∧ ∀ x, (x, NameKind.free) ∈ names → ∃ c, (x, c) ∈ cl
  | [], acc, _ => ⟨acc, rfl, fun p hp => .inl hp, fun p hp => hp, fun x hx => by cases hx⟩
  | (n, k) :: r, acc, h => by
    by_cases hk : k = .free
    · subst hk
      obtain ⟨c, hc⟩ := h (n, .free) List.mem_cons_self rfl
      obtain ⟨cl, e, h1, h2, h3⟩ := closure_run r ((n, c) :: acc) fun y hy => h y (List.mem_cons_of_mem _ hy)
      have hc' : cellOf env n = pure c := by unfold cellOf; rw [hc]
      refine ⟨cl, ?_, fun p hp => ?_, fun p hp => h2 p (List.mem_cons_of_mem _ hp), fun x hx => ?_⟩
      · rw [List.forIn_cons]
        simp only [beq_self_eq_true, if_true, hc', pure_bind]
        exact e
      · rcases h1 p hp with z | z
        · rcases List.mem_cons.mp z with rfl | z
          · exact .inr hc
          · exact .inl z
        · exact .inr z
      · rcases List.mem_cons.mp hx with z | z
        · cases z
          exact ⟨c, h2 _ List.mem_cons_self⟩
        · exact h3 x z
    · obtain ⟨cl, e, h1, h2, h3⟩ := closure_run r acc fun y hy => h y (List.mem_cons_of_mem _ hy)
      have hb : (k == NameKind.free) = false := by simpa using hk
      refine ⟨cl, ?_, h1, h2, fun x hx => ?_⟩
      · rw [List.forIn_cons]
        simp only [hb, Bool.false_eq_true, if_false, pure_bind]
        exact e
      · rcases List.mem_cons.mp hx with z | z
        · cases z
          exact absurd rfl hk
        · exact h3 x z
theorem closure_of {env : Env} {scope : Scope} (h : ∀ y ∈ scope.names, y.2 = .free → ∃ c, env.cells.lookup y.1 = some c) :
    ∃ cl, closureFor scope env = pure cl ∧ (∀ x c, cl.lookup x = some c → env.cells.lookup x = some c) ∧ ∀ x, (x, NameKind.free) ∈ scope.names → ∃ c, cl.lookup x = some c := by
  obtain ⟨cl, e, h1, h2, h3⟩ := closure_run (env := env) scope.names [] h
  refine ⟨cl, ?_, fun x c hx => ?_, fun x hx => ?_⟩
  · unfold closureFor
    simp only [bind_pure]
    exact e
  · rcases h1 _ (lookup_mem hx) with z | z
    · cases z
    · exact z
  · obtain ⟨c, hc⟩ := h3 x hx
    exact mem_lookup hc
theorem relabel_mem {scope : Scope} {env : Env} {x : Str} {k : NameKind} (h : (relabel scope env).names.lookup x = some k) : (x, k) ∈ scope.names ∨ (k = .cell ∧ (x, NameKind.free) ∈ scope.names) := by
  obtain ⟨⟨n, k'⟩, hm, e⟩ := List.mem_map.mp (lookup_mem h)
  dsimp only at e
  split at e
  · rename_i hc
    simp only [Bool.and_eq_true, beq_iff_eq] at hc
    obtain ⟨⟨rfl, _⟩, _⟩ := hc
    cases e
    exact .inr ⟨rfl, hm⟩
  · cases e
    exact .inl hm
abbrev blk (X : Cx) (N : List Str) (scope : Scope) (cl : List (Str × Addr)) (C : Addr) (s : Shared) (H : Hp) (fp : List Addr) : Cx :=
  { prog := X.prog, w := X.w, K := X.K, mg := X.mg, base := X.base, A := X.A, N := N, s₀ := s, H₀ := H, env := compEnvC scope cl C X.env, outer := X.stack, stack := X.stack, ex := fp, fn := fun _ => false, calm := X.calm, pn := [], xe := fun _ _ => False }
def pick (ix : List (Option Nat)) (σ : L2.St) : L2.St := ix.map fun o => o.bind fun j => (σ[j]?).getD none
def PTs (X : Cx) (ifs : List Expr) (t : TT) : Prop :=
  ∀ (pins : List (Addr × Obj)) (s : Shared) (σ : L2.St) (H : Hp) (Q : Bool → Hp → Prop), Inv X pins σ H s → t σ H Q →
    wpAny (model X.prog X.w) X.A (forIn ifs true fun c r => if r = true then do let ok ← isTrue c X.env (eval c X.env); pure (ForInStep.yield ok) else pure (ForInStep.yield r)) (TP X pins σ Q) X.xe s
def tYes : TT := fun _ H Q => Q true H
theorem pts_nil {X : Cx} : PTs X [] tYes := fun pins s σ H Q I h => wpAny_tests_nil ⟨H, I, h⟩
def tComp (wi : TI) (ix : List (Option Nat)) (g : TG) (tt : TT) (te : TE) : TE := fun σ H Q => wi σ H fun J H1 => ∃ W : Nat → Nat → List V → L2.St → Hp → Prop, (∃ m, W 0 m [] (pick ix σ) H1) ∧ ∀ i m acc σ H, W i m acc σ H →
  (J.stop i H ∧ ∀ D, H D = none → Q (.ref D) (upd H D (.lst acc))) ∨
  (J.go i H ∧ acc.length < sizeLine ∧ ∃ N : List V → L2.St → Hp → Prop, (∀ acc' σ' H', N acc' σ' H' → ∃ m', m' < m ∧ W (i + 1) m' acc' σ' H') ∧
    ∀ x H', J.yld i H x H' → g x σ H' fun σ2 H2 => tt σ2 H2 fun b H3 => if b = true then te σ2 H3 fun y H4 => N (acc ++ [y]) σ2 H4 else N acc σ2 H3)
section
variable {prog : Program} {w : World} {A : Around} {R : Result → Shared → Prop} {s : Shared}
theorem codeAny_compLoopT {elt target iter : Expr} {ifs : List Expr} {scope : Scope} {pos : Pos} {it acc : Value} {env : Env} (I : Nat → Shared → Prop)
    (turn : ∀ n s, I n s → wpAny (model prog w) A (pyNext it) (fun r s₁ => match r with
      | none => R (.ok .next) s₁
      | some v => wpAny (model prog w) A (letOwnedTupleGo target it v) (fun _ s₁ => wpAny (model prog w) A (assign target env v) (fun _ s₂ =>
          wpAny (model prog w) A (forIn ifs true fun c r => if r = true then do let ok ← isTrue c env (eval c env); pure (ForInStep.yield ok) else pure (ForInStep.yield r)) (fun ok s₃ =>
            if ok = true then wpAny (model prog w) A (eval elt env) (fun x s₄ =>
              wpAny (model prog w) A (call (.builtin "list.append") [acc, x]) (fun _ s₅ => ∃ m, m < n ∧ I m s₅) (fun _ _ => False) s₄) (fun _ _ => False) s₃
            else ∃ m, m < n ∧ I m s₃) (fun _ _ => False) s₂) (fun _ _ => False) s₁) (fun _ _ => False) s₁) (fun _ _ => False) s)
    (n : Nat) (h : I n s) :
    codeAny (model prog w) A (.compLoop (.ListComp elt [⟨target, iter, ifs, 0⟩] scope pos) 0 it acc env) R s := by
  refine codeAny_loop rfl I (fun n s hI => ?_) n h
  show wpAny _ A ((compTurn (.ListComp elt [⟨target, iter, ifs, 0⟩] scope pos) 0 it acc env).onRaise (fun x => do noteFrame x env; theTreesLotGoes x)) _ _ s
  refine wpAny_noted ?_
  rw [compTurn_list]
  refine wpAny_bind (wpAny_standAt (wpAny_bind (wpAny_mono (turn n s hI) (fun r s₁ h₁ => ?_) fun _ _ h' => h'.elim)))
  cases r with
  | none => exact wpAny_pure h₁
  | some v =>
    refine wpAny_bind (wpAny_mono h₁ (fun _ s₁ h₁ => ?_) fun _ _ h' => h'.elim)
    refine wpAny_bind (wpAny_mono h₁ (fun _ s₂ h₂ => wpAny_bind (wpAny_mono h₂ (fun ok s₃ h₃ => ?_) fun _ _ h' => h'.elim)) fun _ _ h' => h'.elim)
    cases ok with
    | false => exact wpAny_pure ⟨rfl, h₃⟩
    | true =>
      exact wpAny_bind (wpAny_bind (wpAny_mono h₃ (fun x s₄ h₄ => wpAny_bind (wpAny_mono h₄ (fun _ s₅ h₅ => wpAny_pure (wpAny_pure ⟨rfl, h₅⟩)) fun _ _ h' => h'.elim)) fun _ _ h' => h'.elim))
end
section
variable {X : Cx} {pins : List (Addr × Obj)} {σ : L2.St} {H : Hp} {s : Shared} {N : List Str} {scope : Scope} {cl : List (Str × Addr)} {C : Addr} {fp : List Addr}
theorem blk_ok (I : Inv X pins σ H s) (hkind : scope.kind = .function) (hcell : ∀ y ∈ scope.names, y.2 ≠ .cell) (h1 : ∀ x c, cl.lookup x = some c → X.env.cells.lookup x = some c)
    (h2 : ∀ x, (x, NameKind.free) ∈ scope.names → ∃ c, cl.lookup x = some c) (hC : s.heap.objs.size ≤ C) (hf : ∀ b ∈ fp, FpOk X pins H b) (hb : ∀ b ∈ fp, b < s.heap.objs.size) : (blk X N scope cl C s H fp).Ok where
  mod := I.ok.mod
  kind := hkind
  glob := I.ok.glob
  blt := I.ok.blt
  above := hC
  inj := fun x y c a b => I.ok.inj x y c (h1 x c a) (h1 y c b)
  has := fun x hx => by
    have : (x, NameKind.free) ∈ scope.names := by
      rcases hx with z | z
      · rcases relabel_mem z with q | ⟨_, q⟩
        · exact absurd rfl (hcell _ q)
        · exact q
      · rcases relabel_mem z with q | ⟨e, q⟩
        · exact q
        · cases e
    exact h2 x this
  cab := fun x c hx => by cases hx
  hd := I.ok.hd
  frames := I.ok.frames
  stk := .inl rfl
  exf := fun b hm => ⟨Nat.ne_of_lt (Nat.lt_of_lt_of_le (hb b hm) hC), fun x c e => (hf b hm).2.2.2.2.1 x c (h1 x c e)⟩
  bs := I.bs
  bsz := Nat.le_trans I.ok.bsz I.sz
  noex := fun b o e hm => by
    rcases (hf b hm).2.2.2.1 with z | z
    · exact I.ok.noex b o e z
    · exact absurd (Nat.lt_of_lt_of_le (Heap.lt_size e) (Nat.le_trans I.ok.bsz z)) (Nat.lt_irrefl _)
  exfs := fun b hm hs => (List.mem_cons.mp (I.stkSub b hs)).elim (hf b hm).2.1 (hf b hm).2.2.1
  funs := I.stack
  frf := I.stkFree
end
theorem lookup_relabel_free {env : Env} : ∀ {names : List (Str × NameKind)} {x : Str}, names.lookup x = some .free →
    (names.map fun (n, k) => if (k == NameKind.free && env.scope.kind == .function && env.kindOf n == some .cell) then (n, NameKind.cell) else (n, k)).lookup x = some .cell ∨
    (names.map fun (n, k) => if (k == NameKind.free && env.scope.kind == .function && env.kindOf n == some .cell) then (n, NameKind.cell) else (n, k)).lookup x = some .free
  | [], _, h => by simp at h
  | (n, k) :: r, x, h => by
    have ih := @lookup_relabel_free env r x
    rw [List.map_cons]
    cases hx : x == n with
    | true =>
      simp only [List.lookup_cons, hx] at h
      cases h
      by_cases hc : (NameKind.free == NameKind.free && env.scope.kind == .function && env.kindOf n == some .cell) = true
      · left; simp only [hc, if_true, List.lookup_cons, hx]
      · right; simp only [Bool.not_eq_true] at hc; simp only [hc, Bool.false_eq_true, if_false, List.lookup_cons, hx]
    | false =>
      simp only [List.lookup_cons, hx] at h
      by_cases hc : (k == NameKind.free && env.scope.kind == .function && env.kindOf n == some .cell) = true
      · simp only [hc, if_true, List.lookup_cons, hx]; exact ih h
      · simp only [Bool.not_eq_true] at hc; simp only [hc, Bool.false_eq_true, if_false, List.lookup_cons, hx]; exact ih h
section
variable {X : Cx}
structure Gone (X : Cx) (pins : List (Addr × Obj)) (H : Hp) (C : Addr) : Prop where
  n : H C = none
  l : C ≠ X.env.locals
  y : X.s₀.heap.objs.size ≤ C
  c : ∀ x c, X.env.cells.lookup x = some c → c ≠ C
  p : ∀ p ∈ X.pn ++ pins, p.1 ≠ C
theorem Gone.inv {pins : List (Addr × Obj)} {σ : L2.St} {H : Hp} {s : Shared} {C : Addr} {h' : Heap} (G : Gone X pins H C) (I : Inv X pins σ H s) (hs : Heap.SameBut C s.heap h') : Inv X pins σ H { s with heap := h' } :=
  I.turned (t' := s.toks) (fun b o hb e => (hs.2 b hb).trans e) G.n G.l (.inr G.y) G.c G.p
theorem comp_run {elt iter tg : Expr} {ifs : List Expr} {scope : Scope} {pos ppos : Pos} {wi : TI} {g : TG} {tt : TT} {te : TE} {use : Option (Value → Sem Unit)} {Q' : Value → Shared → Prop} {pins : List (Addr × Obj)} {s : Shared} {σ : L2.St} {H : Hp} {Q : VK} (N : List Str) (ix : List (Option Nat)) (hc : X.calm = true) (hkind : scope.kind = .function) (hcell : ∀ y ∈ scope.names, y.2 ≠ .cell)
    (hnames : ∀ y ∈ scope.names, y.2 = .local → scope.names.lookup y.1 = some .local) (hfree : ∀ y ∈ scope.names, y.2 = .free → X.env.kindOf y.1 = some .cell ∨ X.env.kindOf y.1 = some .free)
    (hlen : ix.length = N.length) (hcap : ∀ (i j : Nat) (x : Str), ix[i]? = some (some j) → N[i]? = some x → X.N[j]? = some x ∧ scope.names.lookup x = some .free) (hi : PI X tg iter wi)
    (hb : ∀ cl C s H fp, PG (blk X N scope cl C s H fp) tg g ∧ PTs (blk X N scope cl C s H fp) ifs tt ∧ PE (blk X N scope cl C s H fp) elt te)
    (hs : ∀ x, foldedSetIterable iter X.env x = pure x) (I : Inv X pins σ H s) (h : tComp wi ix g tt te σ H Q)
    (hend : ∀ (D C : Addr) (H' : Hp) (s4 : Shared) (mC : Str → Option Value), Inv X pins σ H' s4 → s4.heap.Ns C mC → Gone X pins H' C → Q (.ref D) H' → compPost (model X.prog X.w) X.A X.xe use Q' (.ref D) C (.ok .next) s4) :
    wpAny (model X.prog X.w) X.A (comprehension (.ListComp elt [⟨tg, iter, ifs, 0⟩] scope pos) scope X.env ppos (newList []) false (eval iter X.env) use) Q' X.xe s := by
  obtain ⟨cl, hclos, hcl1, hcl2⟩ := closure_of (env := X.env) (scope := scope) fun y hy e => I.ok.has _ (hfree y hy e)
  refine wpAny_comprehension_free rfl hs hclos hkind hnames (thn (hi pins s σ H _ I h) fun v s1 h1 => thn h1 fun itv s2 h2 => ?_)
  obtain ⟨it, fp, tn, J, H2, e, I2, T, st2, f2, W, ⟨m0, w0⟩, turn⟩ := h2
  subst e
  refine wpAny_newObj_type (wpAny_newFunctionEnv hcell (by intro y hy; simp at hy) (fun h₁ hns₁ hsb₁ => ?_) hkind)
  dsimp only at hns₁ hsb₁ ⊢
  generalize hH2 : s2.heap.push { cls := .type "list", dict := none, data := .seq ([] : List Value).toArray } = HH at hns₁ hsb₁ ⊢
  have hC : HH.objs.size = s2.heap.objs.size + 1 := by rw [← hH2, Heap.size_push]
  have hDC : s2.heap.objs.size ≠ HH.objs.size := by rw [hC]; exact Nat.ne_of_lt (Nat.lt_succ_self _)
  have hCle : s2.heap.objs.size ≤ HH.objs.size := by rw [hC]; exact Nat.le_succ _
  have below : ∀ b, b < s2.heap.objs.size → b ≠ HH.objs.size ∧ b ≠ s2.heap.objs.size := fun b hb => ⟨by rw [hC]; exact Nat.ne_of_lt (Nat.lt_succ_of_lt hb), Nat.ne_of_lt hb⟩
  have hfp : ∀ b ∈ fp, b < s2.heap.objs.size := fun b hm => by
    obtain ⟨o, e, _⟩ := T.obj _ _ st2 b hm
    exact Heap.lt_size e
  have old : ∀ b o, s2.heap.get? b = some o → h₁.get? b = some o := fun b o e => hsb₁.extBut b o (below b (Heap.lt_size e)).1 (Heap.get?_push_of_some _ (hH2 ▸ Heap.get?_push_of_some _ e))
  have hacc : h₁.get? s2.heap.objs.size = some { cls := .type "list", data := .seq ([] : List Value).toArray } := hsb₁.extBut _ _ hDC (Heap.get?_push_of_some _ (hH2 ▸ Heap.get?_push_size _ rfl))
  generalize hD : s2.heap.objs.size = D at hDC hCle hacc ⊢
  generalize hCC : HH.objs.size = C at hns₁ hsb₁ hDC hCle ⊢
  have hDle : s2.heap.objs.size ≤ D := by rw [hD]; exact Nat.le_refl _
  have hCle' : s2.heap.objs.size ≤ C := by rw [hD]; exact hCle
  obtain ⟨bg, bt, be⟩ := hb cl C s2 H2 fp
  have ok := blk_ok (N := N) I2 hkind hcell hcl1 hcl2 hCle' f2 hfp
  have notY : ∀ b, s2.heap.objs.size ≤ b → b ∉ frs X.stack := fun b hle hm => by
    rcases List.mem_cons.mp (I2.stkSub b hm) with z | z
    · exact absurd (Nat.lt_of_lt_of_le I2.lt (z ▸ hle)) (Nat.lt_irrefl _)
    · exact I2.nofs hle z
  -- the block's invariant at its entry
  have I4 : Inv (blk X N scope cl C s2 H2 fp) [(D, { cls := .type "list", data := .seq ([] : List Value).toArray })] (pick ix σ) H2 { s2 with heap := h₁, toks := s2.toks + ([] : List (Str × Value)).length } := by
    refine ⟨ok, rfl, I2.bare, Un.kept old, ⟨_, hns₁, fun i x v e1 e2 e3 => ?_⟩, fun x c e => ?_, I2.hok.fresh hCle', fun x c e => I2.freeC x c (hcl1 x c e), fun p hp => ?_, I2.hok.kept old, ?_⟩
    · have q : ∃ j, ix[i]? = some (some j) ∧ σ[j]? = some (some v) := by
        unfold pick at e2
        rw [List.getElem?_map] at e2
        cases z : ix[i]? with
        | none => rw [z] at e2; cases e2
        | some o =>
          rw [z] at e2
          cases o with
          | none => cases e2
          | some j =>
            refine ⟨j, rfl, ?_⟩
            have e2' : (σ[j]?).getD none = some v := Option.some.inj e2
            cases z2 : σ[j]? with
            | none => rw [z2] at e2'; cases e2'
            | some w' => rw [z2] at e2'; exact congrArg some e2'
      obtain ⟨j, q1, q2⟩ := q
      obtain ⟨n1, n2⟩ := hcap i j x q1 e1
      obtain ⟨m, hn, hl⟩ := I2.loc
      have hmem := lookup_mem n2
      have hkx := hfree _ hmem rfl
      have hvis : Vis X.env.scope x := by
        rcases hkx with z | z
        · exact .inr (.inl z)
        · exact .inr (.inr z)
      obtain ⟨u, ru, lk⟩ := hl j x v n1 q2 hvis
      refine ⟨u, ru, .inr ⟨lookup_relabel_free n2, ?_⟩⟩
      obtain ⟨c, hcc⟩ := hcl2 x hmem
      rcases lk with ⟨k, _⟩ | ⟨_, c', e', z⟩
      · rcases hkx with z | z <;> · rw [k] at z; cases z
      · rw [hcl1 x c hcc] at e'
        cases e'
        obtain ⟨o, ho, hd⟩ := z
        exact ⟨c, hcc, o, old _ _ ho, hd⟩
    · obtain ⟨v, o, ho, hd⟩ := I2.cell x c (hcl1 x c e)
      exact ⟨v, o, old _ _ ho, hd⟩
    · have e : p = (D, { cls := .type "list", data := .seq ([] : List Value).toArray }) := by simpa using hp
      subst e
      exact ⟨hacc, I2.hok.fresh hDle, hDC, notY D hDle, fun v z => by cases z⟩
    · unfold pick
      rw [List.length_map]
      exact hlen
  have stat : ∀ {pl : List (Addr × Obj)} {H' : Hp}, (∀ p ∈ pl, p.1 ∉ fp) → (∀ b ∈ fp, H' b = none) → ∀ b ∈ fp, FpOk (blk X N scope cl C s2 H2 fp) pl H' b := fun {pl H'} hpl hn b hm =>
    ⟨hn b hm, (ok.exf b hm).1, ok.exfs b hm, .inl hm, (ok.exf b hm).2, fun p hp e => hpl p (by simpa using hp) (e ▸ hm)⟩
  have nfp : D ∉ fp := fun hm => absurd (Nat.lt_of_lt_of_le (hfp D hm) hDle) (Nat.lt_irrefl _)
  have nfpP : ∀ (o : Obj), ∀ p ∈ [(D, o)], p.1 ∉ fp := fun o p hp => by
    have e : p = (D, o) := by simpa using hp
    subst e
    exact nfp
  have loop : ∀ s3 : Shared, s3 = { s2 with heap := h₁, toks := s2.toks + ([] : List (Str × Value)).length } →
      codeAny (model X.prog X.w) X.A (.compLoop (.ListComp elt [⟨tg, iter, ifs, 0⟩] scope pos) 0 (.ref it) (.ref D) (compEnvC scope cl C X.env)) (compPost (model X.prog X.w) X.A X.xe use Q' (.ref D) C) s3 := by
    rintro s3 rfl
    refine codeAny_compLoopT (fun n s' => ∃ i σ' H' acc its nn, Inv (blk X N scope cl C s2 H2 fp) [(D, { cls := .type "list", data := .seq its nn })] σ' H' s' ∧ Vals acc its.toList ∧ tn i s'.heap ∧ (∀ b ∈ fp, H' b = none) ∧ acc.length ≤ sizeLine ∧ W i n acc σ' H') ?_ m0
      ⟨0, pick ix σ, H2, [], #[], 0, I4, .nil, T.keep _ _ _ st2 fun b _ o e => old b o e, fun b hm => (f2 b hm).1, Nat.zero_le _, w0⟩
    rintro n s3 ⟨i, σ3, H3, acc, its, nn, I3, rv, st3, fr3, hz, w3⟩
    rcases turn i n acc σ3 H3 w3 with ⟨stop, qn⟩ | ⟨go, hlt, NN, hN, step⟩
    · refine thn (T.done (blk X N scope cl C s2 H2 fp) rfl rfl rfl hc i _ s3 σ3 H3 (fun _ _ => False) I3 (stat (nfpP _) fr3) st3 stop) fun r s4 ⟨hr, I5⟩ => ?_
      subst hr
      obtain ⟨eD, nD, _⟩ := I5.pin (D, { cls := .type "list", data := .seq its nn }) (by simp)
      obtain ⟨mC, hnC, _⟩ := I5.loc
      -- back in the def's own frame
      have hne : ∀ b u, H3 b = some u → b ≠ D := fun b u q z => by rw [z, nD] at q; cases q
      have un : Un (frs X.stack) fp H2 (upd H3 D (.lst acc)) s2.heap s4.heap := by
        have b := I5.base
        have neD : ∀ b o, s2.heap.get? b = some o → b ≠ D := fun b o e => Nat.ne_of_lt (Nat.lt_of_lt_of_le (Heap.lt_size e) hDle)
        refine ⟨b.keep, b.slot, fun b' o q n' hx => ?_, b.there, fun b' xs q => ?_, fun b' o u q => ?_, fun b' ps q => ?_⟩
        · rw [upd_ne (neD b' o q)]
          exact b.free b' o q n' hx
        · have q' := b.tups b' xs q
          rw [upd_ne (hne _ _ q')]
          exact q'
        · have q' := b.frzs b' o u q
          rw [upd_ne (hne _ _ q')]
          exact q'
        · obtain ⟨more, q'⟩ := b.tbls b' ps q
          exact ⟨more, by rw [upd_ne (hne _ _ q')]; exact q'⟩
      have hokD : HOk X.prog X.w (upd H3 D (.lst acc)) s4.heap := fun b u e => by
        by_cases hbD : b = D
        · subst hbD
          rw [upd_same] at e
          cases e
          exact ⟨hz, its.toList, nn, rv, by simpa using eD⟩
        · rw [upd_ne hbD] at e
          refine (I5.hok b u e).stay (fun _ _ _ q => q) (fun c r => ?_) fun c xs r => ?_
          · rw [upd_ne (fun z => by rw [z, nD] at r; cases r)]; exact r
          · rw [upd_ne (fun z => by rw [z, nD] at r; cases r)]; exact r
      have IX : Inv X pins σ (upd H3 D (.lst acc)) s4 := I2.call' I5.os un hokD I5.bare fun b hm => ⟨(f2 b hm).2.2.2.1, (f2 b hm).2.1, (f2 b hm).2.2.2.2.1, (f2 b hm).2.2.2.2.2⟩
      refine hend D C _ s4 mC IX hnC ⟨?_, Nat.ne_of_gt (Nat.lt_of_lt_of_le I2.lt hCle'), Nat.le_trans I2.sz hCle', fun x c e z => ?_, fun p hp z => ?_⟩ (qn D nD)
      · rw [upd_ne (Ne.symm hDC)]
        exact I5.free
      · obtain ⟨v, o, ho, _⟩ := I2.cell x c e
        exact absurd (Nat.lt_of_lt_of_le (Heap.lt_size ho) (z ▸ hCle')) (Nat.lt_irrefl _)
      · exact absurd (Nat.lt_of_lt_of_le (Heap.lt_size (I2.pin p hp).1) (z ▸ hCle')) (Nat.lt_irrefl _)
    · refine thn (T.item (blk X N scope cl C s2 H2 fp) rfl rfl rfl hc i _ s3 σ3 H3 (fun _ _ => False) I3 (stat (nfpP _) fr3) st3 go) fun r s4 ⟨u, hr, h4⟩ => ?_
      subst hr
      refine thn h4 fun _ s5 ⟨x, H5, I5, r5, y5, st5, fr5⟩ => ?_
      have I5' := I5.pinned (stat (nfpP _) fr5) (T.obj _ _ st5)
      refine thn (bg _ s5 σ3 H5 x u _ I5' r5 (step x H5 y5)) fun _ s6 ⟨σ6, H6, I6, q6⟩ => ?_
      refine thn (bt _ s6 σ6 H6 _ I6 q6) fun b s7 ⟨H7, I7, q7⟩ => ?_
      have after : ∀ {o : Obj} {σ8 : L2.St} {H8 : Hp} {s8 : Shared}, Inv (blk X N scope cl C s2 H2 fp) ([(D, o)] ++ pinsAt fp s5.heap) σ8 H8 s8 → tn (i + 1) s8.heap ∧ ∀ b ∈ fp, H8 b = none := fun {o σ8 H8 s8} I8 => by
        refine ⟨T.keep _ _ _ st5 fun b hb o e => (I8.pin (b, o) (List.mem_append_right _ (List.mem_append_right _ (mem_pinsAt hb e)))).1, fun b hb => ?_⟩
        obtain ⟨o, e, d⟩ := T.obj _ _ st5 b hb
        exact (I8.pin (b, o) (List.mem_append_right _ (List.mem_append_right _ (mem_pinsAt hb e)))).2.1
      cases b with
      | false =>
        simp only [Bool.false_eq_true, if_false] at q7 ⊢
        obtain ⟨m', hm, w7⟩ := hN acc σ6 H7 q7
        exact ⟨m', hm, i + 1, σ6, H7, acc, its, nn, I7.unpinned, rv, (after I7).1, (after I7).2, hz, w7⟩
      | true =>
        simp only [if_true] at q7 ⊢
        refine thn (be _ s7 σ6 H7 _ I7 q7) fun yv s8 ⟨y, H8, I8, r8, q8⟩ => ?_
        obtain ⟨eD, nD, _⟩ := I8.pin (D, { cls := .type "list", data := .seq its nn }) (by simp)
        have hl : acc.length = its.size := by have := rv.length; simpa using this
        refine wpAny_list_append_plain (hsz := by omega) ⟨nn, eD⟩ fun h9 ⟨n9, e9⟩ hs9 => ?_
        obtain ⟨m', hm, w9⟩ := hN _ _ _ q8
        have J1 : Inv (blk X N scope cl C s2 H2 fp) (pinsAt fp s5.heap) σ6 H8 s8 := I8.pins_of fun p hp => I8.pin p (List.mem_append_right _ (List.mem_append_right _ hp))
        have nc : ∀ x c, cl.lookup x = some c → c ≠ D := fun x c e z => by
          obtain ⟨v, o, ho, _⟩ := I2.cell x c (hcl1 x c e)
          exact absurd (Nat.lt_of_lt_of_le (Heap.lt_size ho) (z ▸ hDle)) (Nat.lt_irrefl _)
        have J2 : Inv (blk X N scope cl C s2 H2 fp) (pinsAt fp s5.heap) σ6 H8 { s8 with heap := h9 } := J1.turned (t' := s8.toks) (fun b o hb e => hs9.extBut b o hb e) nD hDC (.inr hDle) nc fun p hp z => by
          have hp' : p ∈ pinsAt fp s5.heap := by simpa using hp
          exact nfp (z ▸ (of_pinsAt hp').1)
        have J3 : Inv (blk X N scope cl C s2 H2 fp) ([(D, { cls := .type "list", data := .seq (its.push yv) n9 })] ++ pinsAt fp s5.heap) σ6 H8 { s8 with heap := h9 } := J2.pins_of fun p hp => by
          rcases List.mem_append.mp hp with hp | hp
          · have e : p = (D, { cls := .type "list", data := .seq (its.push yv) n9 }) := by simpa using hp
            subst e
            exact ⟨e9, nD, hDC, notY D hDle, fun v z => by cases z⟩
          · exact J2.pin p (List.mem_append_right _ hp)
        refine ⟨m', hm, i + 1, σ6, H8, acc ++ [y], its.push yv, n9, J3.unpinned, ?_, (after J3).1, (after J3).2, by rw [List.length_append, List.length_singleton]; omega, w9⟩
        rw [Array.toList_push]
        exact rv.append (.cons r8 .nil)
  exact codeAny_compStart_list (loop _ rfl) (T.self _ 0 _ _ _ (T.keep _ _ _ st2 fun b _ o e => old b o e) (loop _ rfl))
theorem pe_comp {elt iter tg : Expr} {ifs : List Expr} {scope : Scope} {pos : Pos} {wi : TI} {g : TG} {tt : TT} {te : TE} (N : List Str) (ix : List (Option Nat)) (hc : X.calm = true) (hkind : scope.kind = .function) (hcell : ∀ y ∈ scope.names, y.2 ≠ .cell)
    (hnames : ∀ y ∈ scope.names, y.2 = .local → scope.names.lookup y.1 = some .local) (hfree : ∀ y ∈ scope.names, y.2 = .free → X.env.kindOf y.1 = some .cell ∨ X.env.kindOf y.1 = some .free)
    (hlen : ix.length = N.length) (hcap : ∀ (i j : Nat) (x : Str), ix[i]? = some (some j) → N[i]? = some x → X.N[j]? = some x ∧ scope.names.lookup x = some .free) (hi : PI X tg iter wi)
    (hb : ∀ cl C s H fp, PG (blk X N scope cl C s H fp) tg g ∧ PTs (blk X N scope cl C s H fp) ifs tt ∧ PE (blk X N scope cl C s H fp) elt te)
    (hs : ∀ x, foldedSetIterable iter X.env x = pure x := by intro _; rfl) : PE X (.ListComp elt [⟨tg, iter, ifs, 0⟩] scope pos) (tComp wi ix g tt te) := by
  intro pins s σ H Q I h
  rw [eval_ListComp]
  exact comp_run (use := none) N ix hc hkind hcell hnames hfree hlen hcap hi hb hs I h fun D C H' s4 mC I4 hn G q => ⟨mC, hn, fun h' hs' => ⟨.ref D, H', G.inv I4 hs', rfl, q⟩⟩
theorem ps_comp {i : Nat} {y : Str} {elt iter tg : Expr} {ifs : List Expr} {scope : Scope} {pos py spos : Pos} {wi : TI} {g : TG} {tt : TT} {te : TE} (N : List Str) (ix : List (Option Nat)) (hc : X.calm = true) (hkind : scope.kind = .function) (hcell : ∀ y ∈ scope.names, y.2 ≠ .cell)
    (hnames : ∀ y ∈ scope.names, y.2 = .local → scope.names.lookup y.1 = some .local) (hfree : ∀ y ∈ scope.names, y.2 = .free → X.env.kindOf y.1 = some .cell ∨ X.env.kindOf y.1 = some .free)
    (hlen : ix.length = N.length) (hcap : ∀ (i j : Nat) (x : Str), ix[i]? = some (some j) → N[i]? = some x → X.N[j]? = some x ∧ scope.names.lookup x = some .free) (hN : X.N.Nodup) (hin : X.N[i]? = some y) (hy : X.env.scope.names.lookup y = some .local) (hi : PI X tg iter wi)
    (hb : ∀ cl C s H fp, PG (blk X N scope cl C s H fp) tg g ∧ PTs (blk X N scope cl C s H fp) ifs tt ∧ PE (blk X N scope cl C s H fp) elt te)
    (hsw : swapsWith (.ListComp elt [⟨tg, iter, ifs, 0⟩] scope pos) (some (.Name y py)) spos.line X.env = pure true := by rfl)
    (hs : ∀ x, foldedSetIterable iter X.env x = pure x := by intro _; rfl) : PS X (.Assign [.Name y py] (.ListComp elt [⟨tg, iter, ifs, 0⟩] scope pos) spos) (tAsg (tComp wi ix g tt te) (gName i)) := by
  intro pins s σ H D I h
  rw [exec_Assign_Name_used _ _ _ _ hsw]
  refine wpAny_bind (wpAny_standAt (wpAny_bind ?_))
  show wpAny _ X.A (do let _ ← comprehension (.ListComp elt [⟨tg, iter, ifs, 0⟩] scope pos) scope X.env _ (newList []) false (eval iter X.env) (some (assign (.Name y py) X.env))) _ _ s
  refine wpAny_bind (thn (comp_run (use := some (assign (.Name y py) X.env)) (Q' := fun _ s' => SP X pins D .next s') (Q := fun v H' => D.nx (σ.set i (some v)) H') N ix hc hkind hcell hnames hfree hlen hcap hi hb hs I h fun Dd C H' s4 mC I4 hn G q => ?_) fun _ s' hq => wpAny_pure (wpAny_pure hq))
  show wpAny _ X.A (assign (.Name y py) X.env (.ref Dd)) _ _ _
  refine wpAny_assign_Name (store_ok2 (v := .ref Dd) I4 hN hin (.inl hy) rfl (fun s5 I5 ⟨a, sb, ha⟩ => ?_) (.inr hy))
  have hCa : C ≠ a := by
    rcases ha with z | z
    · rw [z]; exact G.l
    · exact fun e => G.c _ _ z e.symm
  exact ⟨mC, hn.sameBut sb hCa, fun h' hs' => ⟨_, H', G.inv I5 hs', q⟩⟩
end
theorem comp_list {K : PySem.W.Frag} {a : Addr} {xs : List V} {g : TG} {tt : TT} {te : TE} {σ : L2.St} {H : Hp} {Q : VK} (Pv : Nat → List V → L2.St → Hp → Prop) (hz : xs.length ≤ sizeLine) (h0 : Pv 0 [] σ H) (hl : ∀ i acc σ H, i ≤ xs.length → Pv i acc σ H → SqL K H a xs)
    (hs : ∀ i x acc σ H, xs[i]? = some x → Pv i acc σ H → g x σ H fun σ2 H2 => tt σ2 H2 fun b H3 => if b = true then te σ2 H3 fun y H4 => Pv (i + 1) (acc ++ [y]) σ2 H4 else Pv (i + 1) acc σ2 H3)
    (hacc : ∀ i acc σ H, Pv i acc σ H → acc.length ≤ i) (hd : ∀ acc σ H, Pv xs.length acc σ H → ∀ D, H D = none → Q (.ref D) (upd H D (.lst acc))) :
    ∃ W : Nat → Nat → List V → L2.St → Hp → Prop, (∃ m, W 0 m [] σ H) ∧ ∀ i m acc σ H, W i m acc σ H →
      ((Itl K a).stop i H ∧ ∀ D, H D = none → Q (.ref D) (upd H D (.lst acc))) ∨
      ((Itl K a).go i H ∧ acc.length < sizeLine ∧ ∃ N : List V → L2.St → Hp → Prop, (∀ acc' σ' H', N acc' σ' H' → ∃ m', m' < m ∧ W (i + 1) m' acc' σ' H') ∧
        ∀ x H', (Itl K a).yld i H x H' → g x σ H' fun σ2 H2 => tt σ2 H2 fun b H3 => if b = true then te σ2 H3 fun y H4 => N (acc ++ [y]) σ2 H4 else N acc σ2 H3) := by
  refine ⟨fun i m acc σ H => m = xs.length - i ∧ i ≤ xs.length ∧ Pv i acc σ H, ⟨xs.length, by simp, Nat.zero_le _, h0⟩, ?_⟩
  rintro i m acc σ H ⟨rfl, hi, p⟩
  have q := hl i acc σ H hi p
  have ha := hacc i acc σ H p
  by_cases hlt : i < xs.length
  · refine .inr ⟨⟨xs, xs[i], q, by simp [hlt]⟩, by omega, Pv (i + 1), fun acc' σ' H' p' => ⟨xs.length - (i + 1), by omega, rfl, hlt, p'⟩, fun x H' y => ?_⟩
    obtain ⟨e, y⟩ := y
    subst e
    exact hs i x acc σ _ (y xs q) p
  · have e : i = xs.length := by omega
    subst e
    exact .inl ⟨⟨xs, q, Nat.le_refl _⟩, hd acc σ H p⟩
theorem comp_range {lo : Int} {n : Nat} {g : TG} {tt : TT} {te : TE} {σ : L2.St} {H : Hp} {Q : VK} (Pv : Nat → List V → L2.St → Hp → Prop) (hz : n ≤ sizeLine) (h0 : Pv 0 [] σ H)
    (hs : ∀ i acc σ H, i < n → Pv i acc σ H → g (.int (lo + i)) σ H fun σ2 H2 => tt σ2 H2 fun b H3 => if b = true then te σ2 H3 fun y H4 => Pv (i + 1) (acc ++ [y]) σ2 H4 else Pv (i + 1) acc σ2 H3)
    (hacc : ∀ i acc σ H, Pv i acc σ H → acc.length ≤ i) (hd : ∀ acc σ H, Pv n acc σ H → ∀ D, H D = none → Q (.ref D) (upd H D (.lst acc))) :
    ∃ W : Nat → Nat → List V → L2.St → Hp → Prop, (∃ m, W 0 m [] σ H) ∧ ∀ i m acc σ H, W i m acc σ H →
      ((Itr lo n).stop i H ∧ ∀ D, H D = none → Q (.ref D) (upd H D (.lst acc))) ∨
      ((Itr lo n).go i H ∧ acc.length < sizeLine ∧ ∃ N : List V → L2.St → Hp → Prop, (∀ acc' σ' H', N acc' σ' H' → ∃ m', m' < m ∧ W (i + 1) m' acc' σ' H') ∧
        ∀ x H', (Itr lo n).yld i H x H' → g x σ H' fun σ2 H2 => tt σ2 H2 fun b H3 => if b = true then te σ2 H3 fun y H4 => N (acc ++ [y]) σ2 H4 else N acc σ2 H3) := by
  refine ⟨fun i m acc σ H => m = n - i ∧ i ≤ n ∧ Pv i acc σ H, ⟨n, by simp, Nat.zero_le _, h0⟩, ?_⟩
  rintro i m acc σ H ⟨rfl, hi, p⟩
  have ha := hacc i acc σ H p
  by_cases hlt : i < n
  · refine .inr ⟨hlt, by omega, Pv (i + 1), fun acc' σ' H' p' => ⟨n - (i + 1), by omega, rfl, hlt, p'⟩, fun x H' y => ?_⟩
    obtain ⟨e, y⟩ := y
    subst e y
    exact hs i acc σ _ hlt p
  · have e : i = n := by omega
    subst e
    exact .inl ⟨Nat.le_refl _, hd acc σ H p⟩
def capB (XN : List Str) (scope : Scope) : List Str → List (Option Nat) → Bool
  | _, [] => true
  | [], _ => true
  | _ :: r, none :: s => capB XN scope r s
  | x :: r, some j :: s => decide (XN[j]? = some x) && decide (scope.names.lookup x = some .free) && capB XN scope r s
theorem capB_ok {XN : List Str} {scope : Scope} : ∀ {N : List Str} {ix : List (Option Nat)}, capB XN scope N ix = true → ∀ (i j : Nat) (x : Str), ix[i]? = some (some j) → N[i]? = some x → XN[j]? = some x ∧ scope.names.lookup x = some .free
  | [], [], _, i, j, x, h1, _ => by simp at h1
  | _ :: _, [], _, i, j, x, h1, _ => by simp at h1
  | [], _ :: _, _, i, j, x, _, h2 => by simp at h2
  | y :: r, none :: s, h, i, j, x, h1, h2 => by
    cases i with
    | zero => simp at h1
    | succ i => exact capB_ok (N := r) (ix := s) h i j x (by simpa using h1) (by simpa using h2)
  | y :: r, some k :: s, h, i, j, x, h1, h2 => by
    have h' : (decide (XN[k]? = some y) && decide (scope.names.lookup y = some .free) && capB XN scope r s) = true := h
    rw [Bool.and_eq_true, Bool.and_eq_true, decide_eq_true_eq, decide_eq_true_eq] at h'
    cases i with
    | zero =>
      simp at h1 h2
      subst h1 h2
      exact h'.1
    | succ i => exact capB_ok h'.2 i j x (by simpa using h1) (by simpa using h2)
def compOk (XN : List Str) (sc scope : Scope) (N : List Str) (ix : List (Option Nat)) : Bool :=
  decide (scope.kind = .function) && decide (∀ y ∈ scope.names, y.2 ≠ .cell) && decide (∀ y ∈ scope.names, y.2 = .local → scope.names.lookup y.1 = some .local) &&
    decide (∀ y ∈ scope.names, y.2 = .free → sc.names.lookup y.1 = some .cell ∨ sc.names.lookup y.1 = some .free) && decide (ix.length = N.length) && capB XN scope N ix
section
variable {X : Cx}
theorem pe_compB {elt iter tg : Expr} {ifs : List Expr} {scope : Scope} {pos : Pos} {wi : TI} {g : TG} {tt : TT} {te : TE} (N : List Str) (ix : List (Option Nat)) (hc : X.calm = true) (hk : compOk X.N X.env.scope scope N ix = true) (hi : PI X tg iter wi)
    (hb : ∀ cl C s H fp, PG (blk X N scope cl C s H fp) tg g ∧ PTs (blk X N scope cl C s H fp) ifs tt ∧ PE (blk X N scope cl C s H fp) elt te)
    (hs : ∀ x, foldedSetIterable iter X.env x = pure x := by intro _; rfl) : PE X (.ListComp elt [⟨tg, iter, ifs, 0⟩] scope pos) (tComp wi ix g tt te) := by
  unfold compOk at hk
  simp only [Bool.and_eq_true, decide_eq_true_eq] at hk
  obtain ⟨⟨⟨⟨⟨h1, h2⟩, h3⟩, h4⟩, h5⟩, h6⟩ := hk
  exact pe_comp N ix hc h1 h2 h3 h4 h5 (capB_ok h6) hi hb hs
theorem ps_compB {i : Nat} {y : Str} {elt iter tg : Expr} {ifs : List Expr} {scope : Scope} {pos py spos : Pos} {wi : TI} {g : TG} {tt : TT} {te : TE} (N : List Str) (ix : List (Option Nat)) (hc : X.calm = true) (hk : compOk X.N X.env.scope scope N ix = true)
    (hN : X.N.Nodup) (hin : X.N[i]? = some y) (hy : X.env.scope.names.lookup y = some .local) (hi : PI X tg iter wi)
    (hb : ∀ cl C s H fp, PG (blk X N scope cl C s H fp) tg g ∧ PTs (blk X N scope cl C s H fp) ifs tt ∧ PE (blk X N scope cl C s H fp) elt te)
    (hsw : swapsWith (.ListComp elt [⟨tg, iter, ifs, 0⟩] scope pos) (some (.Name y py)) spos.line X.env = pure true := by rfl)
    (hs : ∀ x, foldedSetIterable iter X.env x = pure x := by intro _; rfl) : PS X (.Assign [.Name y py] (.ListComp elt [⟨tg, iter, ifs, 0⟩] scope pos) spos) (tAsg (tComp wi ix g tt te) (gName i)) := by
  unfold compOk at hk
  simp only [Bool.and_eq_true, decide_eq_true_eq] at hk
  obtain ⟨⟨⟨⟨⟨h1, h2⟩, h3⟩, h4⟩, h5⟩, h6⟩ := hk
  exact ps_comp N ix hc h1 h2 h3 h4 h5 (capB_ok h6) hN hin hy hi hb hsw hs
end
end Bw
set_option Elab.async false
set_option linter.all false
set_option maxRecDepth 100000
set_option maxHeartbeats 1000000
namespace Bw
open PySem PySem.Spec PyProof.Rows L2
section
variable {X : Cx}
theorem ep_str {pins : List (Addr × Obj)} {σ : L2.St} {H : Hp} {s : Shared} {Q : VK} {u : Str} {t : Tok} {k : Nat} (I : Inv X pins σ H s) (q : Q (.str u) H) : EP X pins σ Q (.str u t) { s with toks := k } := ⟨.str u, H, I.tok k, ⟨t, rfl⟩, q⟩
def rSlS : V → Option Int → Option Int → Hp → VK → Prop := fun x lo hi H Q => ∃ u, x = .str u ∧ u.length ≤ sizeLine ∧ Q (.str (Txt.slice u lo hi)) H
theorem sl_str : SlR X rSlS := by
  intro pins s σ H x v vl vu lo hi sl Q I rx hs pl pu h
  obtain ⟨u, rfl, hz, q⟩ := h
  obtain ⟨t, rfl⟩ := rx
  refine ⟨"str", _, PySem.F.slot_str_getitem.lookup, typeIs_str _ _ _, ?_⟩
  obtain ⟨os, hos, hcs, hds⟩ := hs
  cases pl with
  | none =>
    cases pu with
    | none => exact wpAny_getItem_str_slice (l := none) (u := none) (st := none) ⟨os, hos, hcs, hds⟩ rfl (post_val_or_str ⟨Nat.le_trans (Txt.slice_le u _ _) hz, fun t' k => ep_str I q⟩)
    | int j tj => exact wpAny_getItem_str_slice (l := none) (u := some (j, tj)) (st := none) ⟨os, hos, hcs, hds⟩ rfl (post_val_or_str ⟨Nat.le_trans (Txt.slice_le u _ _) hz, fun t' k => ep_str I q⟩)
  | int i ti =>
    cases pu with
    | none => exact wpAny_getItem_str_slice (l := some (i, ti)) (u := none) (st := none) ⟨os, hos, hcs, hds⟩ rfl (post_val_or_str ⟨Nat.le_trans (Txt.slice_le u _ _) hz, fun t' k => ep_str I q⟩)
    | int j tj => exact wpAny_getItem_str_slice (l := some (i, ti)) (u := some (j, tj)) (st := none) ⟨os, hos, hcs, hds⟩ rfl (post_val_or_str ⟨Nat.le_trans (Txt.slice_le u _ _) hz, fun t' k => ep_str I q⟩)
def rJoin : V → List V → Hp → VK → Prop := fun x xs H Q => ∃ u l ts, x = .str u ∧ xs = [.ref l] ∧ H l = some (.lst (ts.map V.str)) ∧ JoinOk u ts = true ∧ Q (.str (Txt.join u ts)) H
theorem vals_str : ∀ {ts : List Str} {us : List Value}, Vals (ts.map V.str) us → ∃ l : List (Str × Tok), us = strValues l ∧ l.map (·.1) = ts
  | [], _, r => by
    rw [List.map_nil] at r
    cases r
    exact ⟨[], rfl, rfl⟩
  | a :: ts, _, r => by
    rw [List.map_cons] at r
    cases r with
    | cons r1 r2 =>
      obtain ⟨t, rfl⟩ := r1
      obtain ⟨l, rfl, e⟩ := vals_str r2
      exact ⟨(a, t) :: l, rfl, by rw [List.map_cons, e]⟩
theorem mt_join : MtR X "str.join" rJoin := by
  intro pins s σ H x xs v us Q I rx rv h
  obtain ⟨u, l, ts, rfl, rfl, hl, hz, q⟩ := h
  obtain ⟨t, rfl⟩ := rx
  cases rv with
  | cons r1 r2 =>
    cases r2
    cases r1
    obtain ⟨_, its, n, r, e⟩ := I.hok l _ hl
    obtain ⟨ll, rfl, e2⟩ := vals_str r
    exact SC.join (D := l) (l := ll) ⟨_, e, rfl, n, rfl⟩ e2 hz fun t' k => ep_str I q
end
end Bw
set_option Elab.async false
set_option linter.all false
set_option maxRecDepth 100000
set_option maxHeartbeats 1000000
namespace Bw
open PySem PySem.Spec PyProof.Rows L2
section
variable {K : PySem.W.Frag} {ta te : TE} {tr : TA} {wi : TI} {ix : List (Option Nat)} {g : TG} {tt : TT} {σ : L2.St} {H : Hp} {Q : VK} {QB : Bool → Hp → Prop}
def CompL (K : PySem.W.Frag) (a : Addr) (g : TG) (tt : TT) (te : TE) (Q : VK) (σ : L2.St) (H : Hp) : Prop := ∃ W : Nat → Nat → List V → L2.St → Hp → Prop, (∃ m, W 0 m [] σ H) ∧ ∀ i m acc σ H, W i m acc σ H →
  ((Itl K a).stop i H ∧ ∀ D, H D = none → Q (.ref D) (L2.upd H D (.lst acc))) ∨
  ((Itl K a).go i H ∧ acc.length < sizeLine ∧ ∃ N : List V → L2.St → Hp → Prop, (∀ acc' σ' H', N acc' σ' H' → ∃ m', m' < m ∧ W (i + 1) m' acc' σ' H') ∧
    ∀ x H', (Itl K a).yld i H x H' → g x σ H' fun σ2 H2 => tt σ2 H2 fun b H3 => if b = true then te σ2 H3 fun y H4 => N (acc ++ [y]) σ2 H4 else N acc σ2 H3)
def CompR (lo : Int) (n : Nat) (g : TG) (tt : TT) (te : TE) (Q : VK) (σ : L2.St) (H : Hp) : Prop := ∃ W : Nat → Nat → List V → L2.St → Hp → Prop, (∃ m, W 0 m [] σ H) ∧ ∀ i m acc σ H, W i m acc σ H →
  ((Itr lo n).stop i H ∧ ∀ D, H D = none → Q (.ref D) (L2.upd H D (.lst acc))) ∨
  ((Itr lo n).go i H ∧ acc.length < sizeLine ∧ ∃ N : List V → L2.St → Hp → Prop, (∀ acc' σ' H', N acc' σ' H' → ∃ m', m' < m ∧ W (i + 1) m' acc' σ' H') ∧
    ∀ x H', (Itr lo n).yld i H x H' → g x σ H' fun σ2 H2 => tt σ2 H2 fun b H3 => if b = true then te σ2 H3 fun y H4 => N (acc ++ [y]) σ2 H4 else N acc σ2 H3)
theorem w_compL : tComp (iList K ta) ix g tt te σ H Q = ta σ H (fun x H1 => ∃ a, x = .ref a ∧ (∃ xs, SqL K H1 a xs) ∧ CompL K a g tt te Q (pick ix σ) H1) := rfl
theorem w_comp1 : tComp (iRng1 tr) ix g tt te σ H Q = tr σ H (fun vs H1 => ∃ j : Int, vs = [.int j] ∧ -(2 ^ 62) ≤ j ∧ j < 2 ^ 62 ∧ CompR 0 j.toNat g tt te Q (pick ix σ) H1) := rfl
theorem w_comp2 : tComp (iRng2 tr) ix g tt te σ H Q = tr σ H (fun vs H1 => ∃ i j : Int, vs = [.int i, .int j] ∧ (-(2 ^ 62) ≤ i ∧ i < 2 ^ 62 ∧ -(2 ^ 62) ≤ j ∧ j < 2 ^ 62) ∧ CompR i (j - i).toNat g tt te Q (pick ix σ) H1) := rfl
theorem w_yes : tYes σ H QB = QB true H := rfl
theorem w_pick0 : pick [] σ = [] := rfl
theorem w_pickN : pick (none :: ix) σ = none :: pick ix σ := rfl
theorem w_pickS {j : Nat} : pick (some j :: ix) σ = ((σ[j]?).getD none) :: pick ix σ := rfl
theorem w_bm {T : String} {r : V → List V → Hp → VK → Prop} : tBM K T r ta tr σ H Q = ta σ H (fun x H1 => tyV K T x H1 ∧ tr σ H1 (fun xs H2 => r x xs H2 Q)) := rfl
theorem w_bm0 {T : String} {r : V → List V → Hp → VK → Prop} : tBM0 K T r ta σ H Q = ta σ H (fun x H1 => tyV K T x H1 ∧ r x [] H1 Q) := rfl
theorem w_tyS {u : Str} : tyV K "str" (.str u) H = True := by simp [tyV]
theorem w_addS {u v : Str} : (∃ i j, V.str u = .str i ∧ V.str v = .str j ∧ i.length + j.length ≤ sizeLine ∧ Q (.str (i ++ j)) H) = (u.length + v.length ≤ sizeLine ∧ Q (.str (u ++ v)) H) := by simp
theorem w_slS {u : Str} {lo hi : Option Int} : rSlS (.str u) lo hi H Q = (u.length ≤ sizeLine ∧ Q (.str (Txt.slice u lo hi)) H) := by simp [rSlS]
theorem w_blkK {X : Cx} {N : List Str} {scope : Scope} {cl : List (Str × Addr)} {C : Addr} {s : Shared} {fp : List Addr} : (blk X N scope cl C s H fp).K = X.K := rfl
theorem CompL.by {a : Addr} {xs : List V} (Pv : Nat → List V → L2.St → Hp → Prop) (hz : xs.length ≤ sizeLine) (h0 : Pv 0 [] σ H) (hl : ∀ i acc σ H, i ≤ xs.length → Pv i acc σ H → SqL K H a xs)
    (hs : ∀ i x acc σ H, xs[i]? = some x → Pv i acc σ H → g x σ H fun σ2 H2 => tt σ2 H2 fun b H3 => if b = true then te σ2 H3 fun y H4 => Pv (i + 1) (acc ++ [y]) σ2 H4 else Pv (i + 1) acc σ2 H3)
    (hacc : ∀ i acc σ H, Pv i acc σ H → acc.length ≤ i) (hd : ∀ acc σ H, Pv xs.length acc σ H → ∀ D, H D = none → Q (.ref D) (L2.upd H D (.lst acc))) : CompL K a g tt te Q σ H := comp_list Pv hz h0 hl hs hacc hd
theorem CompR.by {lo : Int} {n : Nat} (Pv : Nat → List V → L2.St → Hp → Prop) (hz : n ≤ sizeLine) (h0 : Pv 0 [] σ H)
    (hs : ∀ i acc σ H, i < n → Pv i acc σ H → g (.int (lo + i)) σ H fun σ2 H2 => tt σ2 H2 fun b H3 => if b = true then te σ2 H3 fun y H4 => Pv (i + 1) (acc ++ [y]) σ2 H4 else Pv (i + 1) acc σ2 H3)
    (hacc : ∀ i acc σ H, Pv i acc σ H → acc.length ≤ i) (hd : ∀ acc σ H, Pv n acc σ H → ∀ D, H D = none → Q (.ref D) (L2.upd H D (.lst acc))) : CompR lo n g tt te Q σ H := comp_range Pv hz h0 hs hacc hd
theorem ixs {u : Str} {k : Int} {c : Nat} (hz : u.length ≤ sizeLine) (hv : atI u.cps.toList k = some c) (q : Q (.str ⟨#[c]⟩) H) : rIxS (.str u) (.int k) H Q := ⟨u, k, c, rfl, rfl, hz, hv, q⟩
end
theorem gl_of {X : Cx} {x : Str} (h : X.env.kindOf x = some .globalImplicit) : Gl X x := h
def tStrs (xs : List Str) : TA := fun _ H Q => Q (xs.map V.str) H
theorem w_strs {xs : List Str} {σ : L2.St} {H : Hp} {Q : List V → Hp → Prop} : tStrs xs σ H Q = Q (xs.map V.str) H := rfl
def Well3 (H : Hp) (w : Addr) : Prop := ∃ a b c : Int, H w = some (.lst [.int a, .int b, .int c])
theorem Well3.same {H H' : Hp} {w : Addr} (W : Well3 H w) (s : Same H H') : Well3 H' w := by
  obtain ⟨a, b, c, h⟩ := W
  exact ⟨a, b, c, s _ _ h⟩
theorem Well3.ne {H : Hp} {w p : Addr} (W : Well3 H w) (h : H p = none) : p ≠ w := by
  obtain ⟨a, b, c, e⟩ := W
  exact (ne_of_none e h).symm
def goodN (u : Str) : Prop := 1 ≤ u.length ∧ u.length ≤ 8 ∧ ∀ c ∈ u.cps.toList, 97 ≤ c ∧ c ≤ 122
instance (u : Str) : Decidable (goodN u) := by unfold goodN; infer_instance
def letters : Str := "abcdefghijklmnopqrstuvwxyz"
theorem letter_at {i : Int} (h0 : 0 ≤ i) (h1 : i < 26) : ∃ c, atI letters.cps.toList i = some c ∧ 97 ≤ c ∧ c ≤ 122 := by
  have h : ∀ k : Fin 26, ∃ c, c < 123 ∧ atI letters.cps.toList ((k.val : Nat) : Int) = some c ∧ 97 ≤ c ∧ c ≤ 122 := by
    intro k
    refine ⟨97 + k.val, ?_⟩
    revert k
    decide +kernel
  obtain ⟨c, _, e, q⟩ := h ⟨i.toNat, by omega⟩
  have e2 : ((i.toNat : Nat) : Int) = i := by omega
  rw [e2] at e
  exact ⟨c, e, q⟩
def w8 : Str := "bcdefghi"
def axz : Str := "axz"
theorem way_len {r : Int} (h0 : 0 ≤ r) (h1 : r < 8) : (Txt.slice w8 none (some (1 + r))).length = (r + 1).toNat := by
  have h : ∀ k : Fin 8, (Txt.slice w8 none (some (1 + ((k.val : Nat) : Int)))).length = k.val + 1 := by decide +kernel
  have q := h ⟨r.toNat, by omega⟩
  have e2 : ((r.toNat : Nat) : Int) = r := by omega
  rw [e2] at q
  rw [q]
  show r.toNat + 1 = (r + 1).toNat
  omega
theorem way_good {r a k : Int} (h0 : 0 ≤ r) (h1 : r < 8) (a0 : 0 ≤ a) (a1 : a < r + 1) (k0 : 0 ≤ k) (k1 : k < 3) : ∃ c, atI axz.cps.toList k = some c ∧
    goodN (Txt.slice (Txt.slice w8 none (some (1 + r))) none (some a) ++ ⟨#[c]⟩ ++ Txt.slice (Txt.slice w8 none (some (1 + r))) (some (a + 1)) none) := by
  have h : ∀ (r a : Fin 8) (k : Fin 3), a.val < r.val + 1 → ∃ c ∈ [97, 120, 122], atI axz.cps.toList ((k.val : Nat) : Int) = some c ∧
    goodN (Txt.slice (Txt.slice w8 none (some (1 + ((r.val : Nat) : Int)))) none (some ((a.val : Nat) : Int)) ++ ⟨#[c]⟩ ++ Txt.slice (Txt.slice w8 none (some (1 + ((r.val : Nat) : Int)))) (some (((a.val : Nat) : Int) + 1)) none) := by decide +kernel
  obtain ⟨c, _, q⟩ := h ⟨r.toNat, by omega⟩ ⟨a.toNat, by omega⟩ ⟨k.toNat, by omega⟩ (by show a.toNat < r.toNat + 1; omega)
  have e1 : ((r.toNat : Nat) : Int) = r := by omega
  have e2 : ((a.toNat : Nat) : Int) = a := by omega
  have e3 : ((k.toNat : Nat) : Int) = k := by omega
  rw [e1, e2, e3] at q
  exact ⟨c, q⟩
theorem slice_le8 (u : Str) (h : u.length ≤ 8) (l r : Option Int) : (Txt.slice u l r).length ≤ 8 := Nat.le_trans (Txt.slice_le u l r) h
theorem join_one : ∀ ts : List Str, (∀ t ∈ ts, ∃ c, t = ⟨#[c]⟩ ∧ 97 ≤ c ∧ c ≤ 122) → (Str.join Str.empty ts).length = ts.length ∧ ∀ c ∈ (Str.join Str.empty ts).cps.toList, 97 ≤ c ∧ c ≤ 122
  | [], _ => ⟨rfl, fun c hc => by cases hc⟩
  | [x], h => by
    obtain ⟨c, rfl, q⟩ := h x List.mem_cons_self
    refine ⟨rfl, fun c' hc => ?_⟩
    have e : c' = c := by simpa [Str.join] using hc
    subst e
    exact q
  | x :: y :: r, h => by
    obtain ⟨i1, i2⟩ := join_one (y :: r) fun t ht => h t (List.mem_cons_of_mem _ ht)
    obtain ⟨c, rfl, q⟩ := h x List.mem_cons_self
    show ((⟨#[c]⟩ : Str) ++ Str.empty ++ Str.join Str.empty (y :: r)).length = _ ∧ ∀ c' ∈ ((⟨#[c]⟩ : Str) ++ Str.empty ++ Str.join Str.empty (y :: r)).cps.toList, _
    refine ⟨?_, fun c' hc => ?_⟩
    · rw [Str.length_append, Str.length_append, i1]
      show 1 + 0 + (y :: r).length = (y :: r).length + 1
      omega
    · have hc' : c' ∈ ((#[c] ++ #[]) ++ (Str.join Str.empty (y :: r)).cps).toList := hc
      rw [Array.toList_append] at hc'
      rcases List.mem_append.mp hc' with z | z
      · have e : c' = c := by simpa using z
        subst e
        exact q
      · exact i2 c' z
theorem join_good {ts : List Str} (h : ∀ t ∈ ts, ∃ c, t = ⟨#[c]⟩ ∧ 97 ≤ c ∧ c ≤ 122) (h1 : 1 ≤ ts.length) (h8 : ts.length ≤ 8) : JoinOk Str.empty ts = true ∧ goodN (Txt.join Str.empty ts) := by
  obtain ⟨i1, i2⟩ := join_one ts h
  have hj : Txt.join Str.empty ts = Str.join Str.empty ts := StrLaws.glued_eq_join _ _
  refine ⟨?_, ?_⟩
  · unfold JoinOk Builtin.Str.tooLong
    rw [StrLaws.joinTotal]
    have hs : ∀ l : List Str, (∀ t ∈ l, ∃ c, t = ⟨#[c]⟩ ∧ 97 ≤ c ∧ c ≤ 122) → (l.map (·.length)).sum = l.length := by
      intro l
      induction l with
      | nil => intro _; rfl
      | cons x r ih =>
        intro hl
        obtain ⟨c, rfl, _⟩ := hl x List.mem_cons_self
        rw [List.map_cons, List.sum_cons, ih fun t ht => hl t (List.mem_cons_of_mem _ ht), List.length_cons]
        show 1 + r.length = r.length + 1
        omega
    rw [hs ts h]
    have e : Str.empty.length = 0 := rfl
    rw [e]
    have z : (1000 : Nat) < sizeLine := by decide
    rw [Bool.not_eq_true', decide_eq_false_iff_not]
    omega
  · rw [hj]
    exact ⟨by omega, by omega, i2⟩
end Bw
set_option Elab.async false
set_option linter.all false
set_option maxRecDepth 100000
set_option maxHeartbeats 1000000
namespace Bw
open PySem PySem.Spec PyProof.Rows L2
structure CalC (P : Program) (w : World) (K : PySem.W.Frag) (mg : Str → Option Value) (base : Heap) (x : Str) (C : Addr) (ps : List Str) (k : Nat) (sp : Sp) : Prop where
  ex : ∃ f fd, FnOk P w K mg base (CXF P w) k f fd ps sp ∧ Binds K fd ps [] ∧ Mk K C f ∧ mg x = some (.ref C)
structure CalM (P : Program) (w : World) (K : PySem.W.Frag) (mg : Str → Option Value) (base : Heap) (C : Addr) (m : Str) (ps : List Str) (k : Nat) (sp : Sp) : Prop where
  ex : ∃ f fd, FnOk P w K mg base (CXF P w) k f fd ps sp ∧ Binds K fd ps [] ∧ Meth K C m f ∧ Cls K C
section
variable {X : Cx} {x m : Str} {C : Addr} {ps : List Str} {k : Nat} {sp : Sp} {e o : Expr} {es : List Expr} {ta : TE} {t : TA} {p pos apos : Pos} {E : XK}
theorem pe_mak (c : CalC X.prog X.w X.K X.mg X.base x C ps k sp) (hx : Passes (CXF X.prog X.w) X E) (hr : Room (k + 1) X.A) (hg : Gl X x) (ha : PA X (e :: es) t)
    (hdb : (x == ("__debug__" : Str)) = false := by decide) (he : starEach (e :: es) X.env = (false, eval e X.env) :: starEach es X.env := by rfl) (hpl : (backTo pos (starEach es X.env)).any (·.1) = false := by rfl) :
    PE X (.Call (.Name x p) (e :: es) [] pos) (tMake C sp [] E t) := by
  obtain ⟨f, fd, F, b, M, hm⟩ := c.ex
  exact pe_make M F hr hg hm b .nil hx ha hdb he hpl
def tMethD (Mm : Addr → Sp → Prop) (m : Str) (E : XK) (ta : TE) (t : TA) : TE := fun σ H Q => ta σ H fun x H1 => ∃ a C dx fs sp, x = .ref a ∧ H1 a = some (.ins C dx fs) ∧ fs.lookup m = none ∧ Mm C sp ∧
  t σ H1 fun vs H2 => sp (x :: vs) H2 Q E
theorem w_methD {Mm : Addr → Sp → Prop} {σ : L2.St} {H : Hp} {Q : VK} : tMethD Mm m E ta t σ H Q = ta σ H (fun x H1 => ∃ a C dx fs sp, x = .ref a ∧ H1 a = some (.ins C dx fs) ∧ fs.lookup m = none ∧ Mm C sp ∧
  t σ H1 fun vs H2 => sp (x :: vs) H2 Q E) := rfl
structure MkN (K : PySem.W.Frag) (C : Addr) : Prop where
  makes : PySem.W.makesIn K C = true
  init : PySem.W.findIn K (.ref C) "__init__" = some (some (.builtin "object.__init__"))
  kp : PySem.W.keepIn K (.ref C) = true
def tMakeN (C : Addr) : TE := fun _ H Q => ∀ x dx, H x = none → H dx = none → dx ≠ x → Q (.ref x) (L2.upd (L2.upd H dx (.own x)) x (.ins C dx []))
theorem w_makeN {σ : L2.St} {H : Hp} {Q : VK} : tMakeN C σ H Q = ∀ x dx, H x = none → H dx = none → dx ≠ x → Q (.ref x) (L2.upd (L2.upd H dx (.own x)) x (.ins C dx [])) := rfl
theorem pe_makN (M : MkN X.K C) (hg : Gl X x) (hm : X.mg x = some (.ref C)) (hdb : (x == ("__debug__" : Str)) = false := by decide) : PE X (.Call (.Name x p) [] [] pos) (tMakeN C) := by
  intro pins s σ H Q I h
  refine wpAny_Call_Name_kw (ld_glob I hg hm ?_ hdb)
  refine PySem.W.callWith_K0 I.kIn M.kp ?_
  have hq := h (s.heap.objs.size + 1) s.heap.objs.size (I.hok.fresh (Nat.le_succ _)) (I.hok.fresh (Nat.le_refl _)) (Nat.ne_of_lt (Nat.lt_succ_self _))
  have I2 := Inv.made (C := C) I
  have Y := PySem.W.makes_of (M := model X.prog X.w) I.kIn M.makes
  refine wpAny_call (make_map0 I.kIn M.makes M.init (fun self => PySem.W.Looks.of_pure (PySem.W.oi_bind self)) ?_)
  obtain ⟨hh, g, d, tt, os⟩ := s
  have t1 : PySem.W.Looks (model X.prog X.w) ((hh.push PySem.W.emptyDict).push (PySem.W.instObj C hh.objs.size)) (typeOf (.ref (hh.objs.size + 1))) (.ref C) := by
    obtain ⟨mA, O, _⟩ := ins_get (a := hh.objs.size + 1) (C := C) (dx := hh.objs.size) (fs := []) I2.hok upd_same
    obtain ⟨od, J, _⟩ := O.look
    exact J.type
  have t2 : PySem.W.Looks (model X.prog X.w) ((hh.push PySem.W.emptyDict).push (PySem.W.instObj C hh.objs.size)) (isInstance (.ref (hh.objs.size + 1)) (.type "object")) true :=
    t1.andThen (Y.top.keeps fun b o e => Heap.get?_push_of_some _ (Heap.get?_push_of_some _ e))
  refine codeAny_call_builtin PySem.W.oi_plain PySem.W.entry_oi (@PySem.W.check_slot (model X.prog X.w) _ _ _ "object.__init__" "object" "__init__" (.ref (hh.objs.size + 1)) [] [] _ PySem.W.oi_kind PySem.W.oi_split t2 (PySem.W.oi_args (.ref (hh.objs.size + 1))) ?_)
  rw [PySem.W.oi_run]
  exact wpAny_pure (And.intro rfl ⟨V.ref (hh.objs.size + 1), _, I2, rfl, hq⟩)
end
def rIsiV (K : PySem.W.Frag) : List V → Hp → VK → Prop := fun xs H Q => ∃ (x : V) (c : Addr) (t : Value) (b : Bool), xs = [x, .ref c] ∧ TyOf K H x t ∧ PySem.W.kitOne K t (.ref c) = some b ∧ Q (.bl b) H
theorem call_isiV {X : Cx} : CallR X (.builtin "isinstance") (rIsiV X.K) := by
  intro pins s σ H xs us Q I r h
  obtain ⟨x, c, t, b, rfl, ty, e, q⟩ := h
  obtain ⟨u, w', rfl, rx, rc⟩ := vals2 r
  cases (show w' = Value.ref c from rc)
  exact isinst_ok I rx ty e fun tk => ⟨.bl b, H, I.tok _, rfl, q⟩
section
variable {X : Cx}
end
section
variable {K : PySem.W.Frag} {C : Addr} {sp : Sp} {dvs : List V} {E : XK} {ta tv : TE} {t : TA} {f : Str} {σ : L2.St} {H : Hp} {Q : VK} {D : Ends} {n : Nat} {ts : TGs} {v : V} {QS : L2.St → Hp → Prop} {g : TG}
theorem w_make : tMake C sp dvs E t σ H Q = t σ H (fun vs H1 => ∀ x dx, H1 x = none → H1 dx = none → dx ≠ x →
  sp (.ref x :: (vs ++ dvs)) (L2.upd (L2.upd H1 dx (.own x)) x (.ins C dx [])) (fun v H2 => v = .non ∧ Q (.ref x) H2) E) := rfl
theorem w_fld : tFld K ta f σ H Q = ta σ H (fun x H1 => ∃ a C dx fs v, x = .ref a ∧ H1 a = some (.ins C dx fs) ∧ Cls K C ∧ NoAttr K C f ∧ fs.lookup f = some v ∧ Q v H1) := rfl
theorem w_gTup : gTup K n ts v σ H QS = ∃ a xs, v = .ref a ∧ SqT K H a xs ∧ xs.length = n ∧ ts xs σ H QS := rfl
theorem w_gCons {vs : List V} : gCons g ts vs σ H QS = ∃ v r, vs = v :: r ∧ g v σ H (fun σ' H' => ts r σ' H' QS) := rfl
theorem w_sFld : sFld K ta tv f D σ H = tv σ H (fun y H1 => ta σ H1 (fun x H2 => ∃ a C dx fs, x = .ref a ∧ H2 a = some (.ins C dx fs) ∧ Cls K C ∧ NoAttr K C f ∧ fs.length < 1000 ∧
  D.nx σ (L2.upd H2 a (.ins C dx (putF f y fs))))) := rfl
theorem w_gNil {vs : List V} : gNil vs σ H QS = (vs = [] ∧ QS σ H) := rfl
end
end Bw
namespace Bw
open PySem PySem.Spec PyProof.Rows L2
section
variable {X : Cx} {x : Str} {ps : List Str} {k : Nat} {sp : Sp} {p pos : Pos}
end
theorem made_same {H : Hp} {x dx : Addr} {o o' : HO} (hx : H x = none) (hd : H dx = none) : Same H (L2.upd (L2.upd H dx o) x o') := fun b u q => by
  rw [upd_ne (ne_of_none q hx), upd_ne (ne_of_none q hd)]
  exact q
structure ClsK (K : PySem.W.Frag) (C : Addr) : Prop where
  cl : Cls K C
  ha : PySem.W.findIn K (.ref C) "__class__" = some (some (.builtin "object.__class__"))
  hn : PySem.W.specialIn K (.builtin "object.__class__") "__get__" = some (some (.builtin "getset_descriptor.__get__"))
  ht : PySem.W.takesIn K (.builtin "object.__class__") = some true
  hm : PySem.W.mroIn K C (.type "object") = some true
theorem ClsK.ty {K : PySem.W.Frag} {C : Addr} (c : ClsK K C) {H : Hp} {a dx : Addr} {fs : List (Str × V)} (e : H a = some (.ins C dx fs)) : TyOf K H (.ref a) (.ref C) := .ins e c.cl c.ha c.hn c.ht c.hm
theorem isiE_at {X : Cx} {K : PySem.W.Frag} {C : Addr} (hK : X.K = K) (F : ExcK K C) : CallR X (.builtin "isinstance") (rIsiE K C) := by
  subst hK
  exact call_isiE F
theorem isiT_at {X : Cx} {K : PySem.W.Frag} {C : Addr} (hK : X.K = K) (F : ExcK K C) : CallR X (.builtin "isinstance") (rIsiT K C) := by
  subst hK
  exact call_isiT F
theorem isiV_at {X : Cx} {K : PySem.W.Frag} (hK : X.K = K) : CallR X (.builtin "isinstance") (rIsiV K) := by
  subst hK
  exact call_isiV
end Bw
set_option Elab.async false
set_option linter.all false
set_option maxRecDepth 100000
set_option maxHeartbeats 1000000
namespace Bw
open PySem PySem.Spec PyProof.Rows L2
def isStar : Expr → Bool
  | .Starred _ _ => true
  | _ => false
theorem star_plain : ∀ (e : Expr) (es : List Expr) (env : Env), isStar e = false → starEach (e :: es) env = (false, eval e env) :: starEach es env := by
  intro e es env h
  cases e <;> first | rfl | (cases h)
def noStar : List Expr → Bool
  | [] => true
  | e :: r => !isStar e && noStar r
theorem plain_any {pos : Pos} {env : Env} : ∀ {es : List Expr}, noStar es = true → (backTo pos (starEach es env)).any (·.1) = false
  | [], _ => rfl
  | e :: r, h => by
    have h' : (!isStar e) = true ∧ noStar r = true := by simpa [noStar] using h
    rw [star_plain e r env (by simpa using h'.1)]
    have ih := plain_any (pos := pos) (env := env) h'.2
    have e1 : backTo pos ((false, eval e env) :: starEach r env) = (false, eval e env) :: backTo pos (starEach r env) := rfl
    rw [e1, List.any_cons, ih]
    rfl
theorem pa_c {X : Cx} {e : Expr} {es : List Expr} {te : TE} {t : TA} (ha : PE X e te) (hr : PA X es t) (hs : isStar e = false := by rfl) : PA X (e :: es) (tCons te t) := pa_cons ha hr (star_plain e es X.env hs)
structure QA (X : Cx) (es : List Expr) (t : TA) : Prop where
  h : PA X es t
theorem qa_nil {X : Cx} : QA X [] tNil := ⟨pa_nil⟩
theorem qa_c {X : Cx} {e : Expr} {es : List Expr} {te : TE} {t : TA} (ha : PE X e te) (hr : QA X es t) (hs : isStar e = false := by rfl) : QA X (e :: es) (tCons te t) := ⟨pa_c ha hr.h hs⟩
theorem pa_of {X : Cx} {es : List Expr} {t : TA} (h : QA X es t) : PA X es t := h.h
end Bw
set_option Elab.async false
set_option linter.all false
set_option maxRecDepth 100000
set_option maxHeartbeats 1000000
namespace Bw
open PySem PySem.Spec PyProof.Rows L2
def wholeV : V → Bool
  | .int _ => true
  | _ => false
def betwV (x : V) (lo hi : Int) : Bool := match x with
  | .int i => decide (lo ≤ i) && decide (i ≤ hi)
  | _ => false
def fromV (x : V) (lo : Int) : Bool := match x with
  | .int i => decide (lo ≤ i)
  | _ => false
theorem okV.same {H H' : Hp} {x : V} (h : okV H x) (s : Same H H') : okV H' x := by
  cases x with
  | ref a =>
    rcases h with ⟨xs, e⟩ | ⟨xs, e⟩
    · exact .inl ⟨xs, s _ _ e⟩
    · exact .inr ⟨xs, s _ _ e⟩
  | non => trivial
  | bl _ => trivial
  | int _ => trivial
  | str _ => trivial
  | _ => exact h.elim
theorem okV.but3 {H H' : Hp} {x : V} {w : Addr} (h : okV H x) (W : Well3 H' w) (s : But w H H') : okV H' x := by
  cases x with
  | ref a =>
    by_cases ha : a = w
    · obtain ⟨b, c, d, q⟩ := W
      exact .inl ⟨_, by rw [ha]; exact q⟩
    · rcases h with ⟨xs, e⟩ | ⟨xs, e⟩
      · exact .inl ⟨xs, s _ _ ha e⟩
      · exact .inr ⟨xs, s _ _ ha e⟩
  | non => trivial
  | bl _ => trivial
  | int _ => trivial
  | str _ => trivial
  | _ => exact h.elim
theorem okV.lst {H : Hp} {p : Addr} {xs : List V} (h : H p = some (.lst xs)) : okV H (.ref p) := .inl ⟨_, h⟩
theorem okV.tup {H : Hp} {p : Addr} {xs : List V} (h : H p = some (.tup xs)) : okV H (.ref p) := .inr ⟨_, h⟩
def tCut (t u : TS) : TS := fun D σ H => ∃ M : L2.St → Hp → Prop, t { D with nx := M } σ H ∧ ∀ σ' H', M σ' H' → u D σ' H'
theorem w_cut {t u : TS} {D : Ends} {σ : L2.St} {H : Hp} : tCut t u D σ H = ∃ M : L2.St → Hp → Prop, t { D with nx := M } σ H ∧ ∀ σ' H', M σ' H' → u D σ' H' := rfl
end Bw
set_option Elab.async false
set_option linter.all false
set_option maxRecDepth 100000
set_option maxHeartbeats 1000000
namespace Bw
open PySem PySem.Spec PyProof.Rows L2
def plainS (u : Str) : Bool := u.cps.all (· < 128)
def Its (u : Str) : It := ⟨fun i _ => i < u.cps.size, fun i H x H' => H' = H ∧ ∃ c, u.cps[i]? = some c ∧ x = .str ⟨#[c]⟩, fun i _ => u.cps.size ≤ i⟩
theorem turn_str {P : Program} {w : World} {K : PySem.W.Frag} {tg : Expr} (u : Str) (t : Tok) (it : Addr) : Turn P w K tg (Its u) [it] it (fun i h => h.IsStrIter it "str_ascii_iterator" u t i) where
  mem := by simp
  obj := fun i h st b hb => by
    have e : b = it := by simpa using hb
    subst e
    obtain ⟨o, e, c, d⟩ := st
    exact ⟨o, e, fun v z => by rw [d] at z; cases z⟩
  keep := fun i h h' st k => by
    obtain ⟨o, e, c, d⟩ := st
    exact ⟨o, k it (by simp) o e, c, d⟩
  item := by
    intro X hP hw hK hc i pins s σ H E I hf st hg
    subst hP hw hK
    have hx : u.cps[i]? = some u.cps[i] := Array.getElem?_eq_getElem hg
    obtain ⟨f0, f1, f2, f3, f4, f5⟩ := hf it (by simp)
    refine wpAny_pyNext_ascii_item st hx fun h' st' sb => ?_
    have I1 : Inv X pins σ H { s with heap := h', toks := s.toks + 1 } := I.turned (t' := s.toks + 1) (fun b o hb e => (sb.2 b hb).trans e) f0 f1 f3 f4 f5
    obtain ⟨o, e, c, d⟩ := id st'
    exact ⟨_, rfl, go_of (s := { s with heap := h', toks := s.toks + 1 }) e c d (by decide) ⟨.str ⟨#[u.cps[i]]⟩, H, I1, ⟨_, rfl⟩, ⟨rfl, _, hx, rfl⟩, st', fun b hb => (hf b hb).1⟩⟩
  done := by
    intro X hP hw hK hc i pins s σ H E I hf st hg
    subst hP hw hK
    obtain ⟨f0, f1, f2, f3, f4, f5⟩ := hf it (by simp)
    exact wpAny_pyNext_ascii_end (I.ok.hd hc) st (Array.getElem?_eq_none hg) fun h' eb => ⟨rfl, I.turned (t' := s.toks) (fun b o hb e => eb b o hb e) f0 f1 f3 f4 f5⟩
  self := fun _ _ _ _ _ st h => wpAny_pyIter_striter_ascii st h
def iStr (tl : TE) : TI := fun σ H R => tl σ H fun x H1 => ∃ u, x = .str u ∧ plainS u = true ∧ R (Its u) H1
theorem pi_str {X : Cx} {tg l : Expr} {tl : TE} (hl : PE X l tl) : PI X tg l (iStr tl) := by
  intro pins s σ H R I h
  refine thn (hl pins s σ H _ I h) fun v s1 ⟨x, H1, I1, r1, q1⟩ => ?_
  obtain ⟨u, e, hp, q⟩ := q1
  subst e
  obtain ⟨t, rfl⟩ := r1
  refine wpAny_pyIter_ascii hp ?_
  refine ⟨s1.heap.objs.size, [s1.heap.objs.size], _, _, H1, rfl, I1.kept (t' := s1.toks) fun b o e => Heap.get?_push_of_some _ e, turn_str u t _, ⟨_, Heap.get?_push_size _ rfl, rfl, rfl⟩, fun b hb => ?_, q⟩
  have e : b = s1.heap.objs.size := by simpa using hb
  subst e
  exact I1.fpOk (Nat.le_refl _) (I1.hok.fresh (Nat.le_refl _))
section
variable {K : PySem.W.Frag} {ta te : TE} {ix : List (Option Nat)} {g : TG} {tt : TT} {σ : L2.St} {H : Hp} {Q : VK}
def CompS (u : Str) (g : TG) (tt : TT) (te : TE) (Q : VK) (σ : L2.St) (H : Hp) : Prop := ∃ W : Nat → Nat → List V → L2.St → Hp → Prop, (∃ m, W 0 m [] σ H) ∧ ∀ i m acc σ H, W i m acc σ H →
  ((Its u).stop i H ∧ ∀ D, H D = none → Q (.ref D) (L2.upd H D (.lst acc))) ∨
  ((Its u).go i H ∧ acc.length < sizeLine ∧ ∃ N : List V → L2.St → Hp → Prop, (∀ acc' σ' H', N acc' σ' H' → ∃ m', m' < m ∧ W (i + 1) m' acc' σ' H') ∧
    ∀ x H', (Its u).yld i H x H' → g x σ H' fun σ2 H2 => tt σ2 H2 fun b H3 => if b = true then te σ2 H3 fun y H4 => N (acc ++ [y]) σ2 H4 else N acc σ2 H3)
theorem w_compS : tComp (iStr ta) ix g tt te σ H Q = ta σ H (fun x H1 => ∃ u, x = .str u ∧ plainS u = true ∧ CompS u g tt te Q (pick ix σ) H1) := rfl
theorem CompS.by {u : Str} (Pv : Nat → List V → L2.St → Hp → Prop) (hz : u.cps.size ≤ sizeLine) (h0 : Pv 0 [] σ H)
    (hs : ∀ i c acc σ H, u.cps[i]? = some c → Pv i acc σ H → g (.str ⟨#[c]⟩) σ H fun σ2 H2 => tt σ2 H2 fun b H3 => if b = true then te σ2 H3 fun y H4 => Pv (i + 1) (acc ++ [y]) σ2 H4 else Pv (i + 1) acc σ2 H3)
    (hacc : ∀ i acc σ H, Pv i acc σ H → acc.length ≤ i) (hd : ∀ acc σ H, Pv u.cps.size acc σ H → ∀ D, H D = none → Q (.ref D) (L2.upd H D (.lst acc))) : CompS u g tt te Q σ H := by
  refine ⟨fun i m acc σ H => m = u.cps.size - i ∧ i ≤ u.cps.size ∧ Pv i acc σ H, ⟨u.cps.size, by simp, Nat.zero_le _, h0⟩, ?_⟩
  rintro i m acc σ H ⟨rfl, hi, p⟩
  have ha := hacc i acc σ H p
  by_cases hlt : i < u.cps.size
  · refine .inr ⟨hlt, by omega, Pv (i + 1), fun acc' σ' H' p' => ⟨u.cps.size - (i + 1), by omega, rfl, hlt, p'⟩, fun x H' y => ?_⟩
    obtain ⟨e, c, hc, y⟩ := y
    subst e y
    exact hs i c acc σ _ hc p
  · have e : i = u.cps.size := by omega
    subst e
    exact .inl ⟨Nat.le_refl _, hd acc σ H p⟩
end
theorem bools_at : ∀ {bs : List Bool} {its : List Value}, Vals (bs.map V.bl) its → ∀ (i : Nat) (v : Value), its[i]? = some v → ∃ b : Bool, bs[i]? = some b ∧ v = Value.bool b
  | [], _, r, i, v, h => by
    rw [List.map_nil] at r
    cases r
    simp at h
  | b :: bs, _, r, i, v, h => by
    rw [List.map_cons] at r
    cases r with
    | cons r1 r2 =>
      cases i with
      | zero =>
        simp at h
        subst h
        exact ⟨b, rfl, r1⟩
      | succ i => exact bools_at r2 i v (by simpa using h)
theorem call_all {X : Cx} (hc : X.calm = true) : CallR X (.builtin "all") (fun xs H Q => ∃ (a : Addr) (bs : List Bool), xs = [.ref a] ∧ SqL X.K H a (bs.map V.bl) ∧ Q (.bl (bs.all id)) H) := by
  intro pins s σ H xs us Q I r h
  obtain ⟨a, bs, rfl, hS, q⟩ := h
  obtain ⟨u, rfl, ru⟩ := vals1 r
  cases ru
  obtain ⟨its, rv, pl, hz⟩ := I.list hS
  have hl : s.heap.IsList a its.toArray := pl.isList
  have hlt : a < s.heap.objs.size := by obtain ⟨_, e, _⟩ := hl; exact Heap.lt_size e
  refine call_all_walk (wpAny_pyIter_list hl ?_)
  refine ⟨s.heap.objs.size, [s.heap.objs.size, a], [s.heap.objs.size], its.toArray.size, _, _, fun i => (bs[i]?).getD true, rfl, Walks.list (A := X.A.in1) (I.ok.hd hc) _ a (Nat.ne_of_lt hlt) its.toArray,
    ⟨⟨_, Heap.get?_push_size _ rfl, rfl, rfl⟩, hl.push _⟩, fun i v s' Q' E' hP hQ => ?_, fun h' tk hk => ?_⟩
  · obtain ⟨b, e, rfl⟩ := bools_at rv i v (by simpa using hP)
    simp only [e, Option.getD_some] at hQ
    exact wpAny_truthy_bool hQ
  · have hn : its.toArray.size = bs.length := by
      have := rv.length
      rw [List.length_map] at this
      simpa using this.symm
    have e : ((List.range its.toArray.size).all fun i => (bs[i]?).getD true) = bs.all id := by
      rw [hn, Bool.eq_iff_iff, List.all_eq_true, List.all_eq_true]
      constructor
      · intro z b hb
        obtain ⟨i, hi, rfl⟩ := List.getElem_of_mem hb
        have := z i (List.mem_range.mpr hi)
        simpa [List.getElem?_eq_getElem hi] using this
      · intro z i hi
        have hi' := List.mem_range.mp hi
        simp only [List.getElem?_eq_getElem hi', Option.getD_some]
        exact z _ (List.getElem_mem hi')
    rw [e]
    refine ⟨.bl _, H, I.kept (t' := tk) fun b o eb => hk b o (fun hm => by rw [List.mem_singleton.mp hm] at eb; exact Nat.lt_irrefl _ (Heap.lt_size eb)) (Heap.get?_push_of_some _ eb), rfl, q⟩
def okN (H : Hp) : V → Prop
  | .non => True
  | .bl _ => True
  | .int _ => True
  | .str u => plainS u = true ∧ u.length ≤ 1000
  | .ref a => (∃ xs, H a = some (.lst xs)) ∨ (∃ xs, H a = some (.tup xs)) ∨ ∃ kvs, H a = some (.dK kvs)
  | _ => False
def isStrV : V → Bool
  | .str _ => true
  | _ => false
theorem okN.ty {K : PySem.W.Frag} {H : Hp} {x : V} (h : okN H x) : ∃ T, TyOf K H x (.type T) ∧ PySem.W.kitOne K (.type T) (.type "str") = some (isStrV x) := by
  cases x with
  | non => exact ⟨_, .non, by kernel_rfl⟩
  | bl b => exact ⟨_, .bl b, by kernel_rfl⟩
  | int i => exact ⟨_, .int i, by kernel_rfl⟩
  | str i => exact ⟨_, .str i, by kernel_rfl⟩
  | ref a =>
    rcases h with ⟨xs, e⟩ | ⟨xs, e⟩ | ⟨xs, e⟩
    · exact ⟨_, .lst e, by kernel_rfl⟩
    · exact ⟨_, .tup e, by kernel_rfl⟩
    · exact ⟨_, .dK e, by kernel_rfl⟩
  | _ => exact h.elim
theorem call_isi_str {X : Cx} : CallR X (.builtin "isinstance") (fun xs H Q => ∃ x, xs = [x, .ty "str"] ∧ okN H x ∧ Q (.bl (isStrV x)) H) := by
  intro pins s σ H xs us Q I r h
  obtain ⟨x, rfl, ok, q⟩ := h
  obtain ⟨T, ty, e⟩ := ok.ty (K := X.K)
  exact isi_gen I r ty e q
theorem okN.same {H H' : Hp} {x : V} (h : okN H x) (s : Same H H') : okN H' x := by
  cases x with
  | ref a =>
    rcases h with ⟨xs, e⟩ | ⟨xs, e⟩ | ⟨xs, e⟩
    · exact .inl ⟨xs, s _ _ e⟩
    · exact .inr (.inl ⟨xs, s _ _ e⟩)
    · exact .inr (.inr ⟨xs, s _ _ e⟩)
  | non => trivial
  | bl _ => trivial
  | int _ => trivial
  | str _ => exact h
  | _ => exact h.elim
theorem okN.but {H H' : Hp} {x : V} {w : Addr} (h : okN H x) (W : Well3 H' w) (s : But w H H') : okN H' x := by
  cases x with
  | ref a =>
    by_cases ha : a = w
    · obtain ⟨b, c, d, q⟩ := W
      exact .inl ⟨_, by rw [ha]; exact q⟩
    · rcases h with ⟨xs, e⟩ | ⟨xs, e⟩ | ⟨xs, e⟩
      · exact .inl ⟨xs, s _ _ ha e⟩
      · exact .inr (.inl ⟨xs, s _ _ ha e⟩)
      · exact .inr (.inr ⟨xs, s _ _ ha e⟩)
  | non => trivial
  | bl _ => trivial
  | int _ => trivial
  | str _ => exact h
  | _ => exact h.elim
def nameB : V → Bool
  | .str u => decide (goodN u)
  | _ => false
theorem in_letters {c : Nat} (h : c < 128) : (!(Builtin.Str.occurrences letters ⟨#[c]⟩ 0 letters.length 1).isEmpty) = decide (97 ≤ c ∧ c ≤ 122) := by
  have q : ∀ k : Fin 128, (!(Builtin.Str.occurrences letters ⟨#[k.val]⟩ 0 letters.length 1).isEmpty) = decide (97 ≤ k.val ∧ k.val ≤ 122) := by decide +kernel
  exact q ⟨c, h⟩
def LetS (u : Str) : Prop := ∀ c ∈ u.cps.toList, 97 ≤ c ∧ c ≤ 122
def Sm (u : Str) : Prop := plainS u = true ∧ u.length ≤ 100
theorem plain_iff {u : Str} : plainS u = true ↔ ∀ c ∈ u.cps.toList, c < 128 := by
  unfold plainS
  rw [Array.all_eq_true']
  constructor
  · intro h c hc
    have := h c (by simpa using hc)
    simpa using this
  · intro h c hc
    have := h c (by simpa using hc)
    simpa using this
theorem LetS.plain {u : Str} (h : LetS u) : plainS u = true := plain_iff.mpr fun c hc => by have := h c hc; omega
theorem good_let {u : Str} (h : goodN u) : LetS u := h.2.2
theorem good_sm {u : Str} (h : goodN u) : Sm u := ⟨(good_let h).plain, by have := h.2.1; omega⟩
theorem app_toList (u v : Str) : (u ++ v).cps.toList = u.cps.toList ++ v.cps.toList := by
  show (u.cps ++ v.cps).toList = _
  rw [Array.toList_append]
def badC (u : Str) : Prop := ∃ c ∈ u.cps.toList, ¬ (97 ≤ c ∧ c ≤ 122)
instance (u : Str) : Decidable (badC u) := by unfold badC; infer_instance
theorem badC.no {u : Str} (h : badC u) : ¬ goodN u := fun g => by
  obtain ⟨c, hc, n⟩ := h
  exact n (g.2.2 c hc)
theorem badC.l {u : Str} (h : badC u) (v : Str) : badC (u ++ v) := by
  obtain ⟨c, hc, n⟩ := h
  exact ⟨c, by rw [app_toList]; exact List.mem_append.mpr (.inl hc), n⟩
theorem badC.r {v : Str} (h : badC v) (u : Str) : badC (u ++ v) := by
  obtain ⟨c, hc, n⟩ := h
  exact ⟨c, by rw [app_toList]; exact List.mem_append.mpr (.inr hc), n⟩
theorem name_all {u : Str} (h : plainS u = true) : (u.cps.toList.map fun c => !(Builtin.Str.occurrences letters ⟨#[c]⟩ 0 letters.length 1).isEmpty).all id = decide (∀ c ∈ u.cps.toList, 97 ≤ c ∧ c ≤ 122) := by
  rw [Bool.eq_iff_iff, List.all_eq_true, decide_eq_true_eq]
  constructor
  · intro z c hc
    have q := z _ (List.mem_map.mpr ⟨c, hc, rfl⟩)
    rw [in_letters (plain_iff.mp h c hc)] at q
    simpa using q
  · intro z b hb
    obtain ⟨c, hc, rfl⟩ := List.mem_map.mp hb
    rw [in_letters (plain_iff.mp h c hc)]
    simpa using z c hc
theorem good_str {u : Str} (g : goodN u) : PyData.strOk u = true := by
  unfold PyData.strOk
  rw [Array.all_eq_true']
  intro c hc
  have := g.2.2 c (by simpa using hc)
  simp only [decide_eq_true_eq]
  omega
section
variable {X : Cx} {x : Str} {C : Addr} {ps : List Str} {k : Nat} {sp : Sp} {e : Expr} {es : List Expr} {t : TA} {p pos : Pos}
variable {K : PySem.W.Frag} {σ : L2.St} {H : Hp} {Q : VK} {D : Ends} {CB : Addr} {i : Nat} {tb : XK → TS} {ts : TS} {E : XK} {dvs : List V}
theorem w_tryB : tTryB K CB i tb ts D σ H = tb (fun cls _ H2 => PySem.W.exmOne K cls (.ref CB) = some true ∧
  ∀ x, H2 x = none → ts { nx := fun σ' H3 => D.nx (σ'.set i none) H3, rt := D.rt, bk := fun σ' H3 => D.bk (σ'.set i none) H3, ct := fun σ' H3 => D.ct (σ'.set i none) H3 } (σ.set i (some (.ref x))) (L2.upd H2 x (hoExc x cls))) D σ H := rfl
theorem w_bmake : tBMake C sp dvs t E σ H Q = t σ H (fun vs H1 => ∀ x dx, H1 x = none → H1 dx = none → dx ≠ x →
  sp (.ref x :: (vs ++ dvs)) (L2.upd (L2.upd H1 dx (.own x)) x (.ins C dx [])) (fun v H2 => v = .non ∧ Q (.ref x) H2) E) := rfl
def tNoKeys : TE := fun _ H0 Q0 => ∀ d, H0 d = none → Q0 (.ref d) (L2.upd H0 d (.dK []))
theorem w_noKeys : tNoKeys σ H Q = ∀ d, H d = none → Q (.ref d) (L2.upd H d (.dK [])) := rfl
theorem pe_noKeys : PE X (.Dict [] [] pos) tNoKeys := by
  intro pins s σ H Q I h
  have hf := I.hok.fresh (Nat.le_refl s.heap.objs.size)
  have ho : ObjOk X.prog X.w H (s.heap.push { cls := .type "dict", data := .dict #[] }) s.heap.objs.size (.dK []) := by
    refine ⟨Nat.zero_le _, ?_, [], .nil, Heap.DictOf.new s.heap⟩
    rw [beq_eq_false_iff_ne]
    have hlt := (I.mod.glob.keeps I.bk).lt
    exact fun z => absurd (Nat.lt_trans (show sysModules < mainGlobals by decide) hlt) (by rw [z]; exact Nat.lt_irrefl _)
  refine wpAny_Dict_empty ⟨.ref s.heap.objs.size, _, ?_, rfl, h _ hf⟩
  exact I.laid (o := .dK []) (t' := s.toks) (fun _ _ q => Heap.get?_push_of_some _ q) (Nat.le_refl _) ho
end
end Bw
set_option Elab.async false
set_option linter.all false
set_option maxRecDepth 100000
set_option maxHeartbeats 1000000
namespace Bw
open PySem PySem.Spec PyProof.Rows L2
structure QE (X : Cx) (e : Expr) (t : TE) : Prop where
  h : PE X e t
structure QS (X : Cx) (st : Stmt) (t : TS) : Prop where
  h : PS X st t
structure QSs (X : Cx) (sts : List Stmt) (t : TS) : Prop where
  h : PSs X sts t
section
variable {X : Cx} {e a b c : Expr} {es : List Expr} {st : Stmt} {rest sa sb : List Stmt} {te ta tb : TE} {tl : TA} {tc : TT} {t u : TS} {pos pos' : Pos} {x : Str} {i : Nat}
theorem qe_of (h : PE X e te) : QE X e te := ⟨h⟩
theorem qs_of (h : PS X st t) : QS X st t := ⟨h⟩
theorem pss_of (h : QSs X rest t) : PSs X rest t := h.h
theorem qe_lst (h : QA X es tl) : QE X (.List es pos) (tLst tl) := ⟨pe_lst h.h⟩
theorem qe_op {op : Operator} {r : R2} (ho : OpR X (binaryOp op) r) (ha : QE X a ta) (hb : QE X b tb) : QE X (.BinOp a op b pos) (tOp r ta tb) := ⟨pe_op ho ha.h hb.h⟩
theorem qe_ix {r : R2} (hr : IxR X r) (ha : QE X a ta) (hb : QE X b tb) (hs : PlainIx b) : QE X (.Subscript a b pos) (tOp r ta tb) := ⟨pe_ix hr ha.h hb.h hs⟩
theorem qs_ret (he : QE X e te) : QS X (.Return (some e) pos) (tRet te) := ⟨ps_ret he.h⟩
theorem qs_set (hN : X.N.Nodup) (hi : X.N[i]? = some x) (hx : Loc X.env.scope x) (he : QE X e te) (hs : swapsWith e (some (.Name x pos')) pos.line X.env = pure false) (hf : X.fn x = true ∨ X.env.scope.names.lookup x = some .local := by first | exact .inl rfl | exact .inr rfl | assumption) :
    QS X (.Assign [.Name x pos'] e pos) (tAsg te (gName i)) := ⟨ps_set hN hi hx he.h hs hf⟩
theorem qs_if (hc : PT X c tc) (ha : QSs X sa t) (hb : QSs X sb u) : QS X (.If c sa sb pos) (tIfS tc t u) := ⟨ps_if hc ha.h hb.h⟩
theorem qss_nil : QSs X [] tNext := ⟨pss_nil⟩
theorem qss_one (h : QS X st t) : QSs X [st] t := ⟨pss_one h.h⟩
theorem qss_cons (h1 : QS X st t) (h2 : QSs X rest u) : QSs X (st :: rest) (tSeq t u) := ⟨pss_cons h1.h h2.h⟩
theorem qss_of (h : PSs X rest t) : QSs X rest t := ⟨h⟩
end
end Bw
set_option Elab.async false
set_option linter.all false
set_option maxRecDepth 100000
set_option maxHeartbeats 1000000
namespace Bw
open PySem PySem.Spec PyProof.Rows L2
end Bw
set_option Elab.async false
set_option linter.all false
set_option maxRecDepth 100000
set_option maxHeartbeats 1000000
namespace Bw
open PySem PySem.Spec PyProof.Rows L2
mutual
inductive RD (H : Hp) : V → PyData → Prop
  | non : RD H .non .none
  | bl (b : Bool) : RD H (.bl b) (.bool b)
  | int (i : Int) : RD H (.int i) (.int i)
  | str (x : Str) : RD H (.str x) (.str x)
  | lst {p : Addr} {xs : List V} {ds : List PyData} : H p = some (.lst xs) → RDs H xs ds → RD H (.ref p) (.list ds)
  | tup {p : Addr} {xs : List V} {ds : List PyData} : H p = some (.tup xs) → RDs H xs ds → RD H (.ref p) (.tuple ds)
inductive RDs (H : Hp) : List V → List PyData → Prop
  | nil : RDs H [] []
  | cons {v : V} {d : PyData} {vs : List V} {ds : List PyData} : RD H v d → RDs H vs ds → RDs H (v :: vs) (d :: ds)
end
section
variable {X : Cx} {pins : List (Addr × Obj)} {σ : L2.St} {H : Hp} {s : Shared}
mutual
theorem RD.reads (I : Inv X pins σ H s) : ∀ {v : V} {d : PyData}, RD H v d → ∀ {u : Value}, RelV v u → ∃ as, Reads s.heap u d as
  | _, _, .non, u, r => by cases (show u = Value.none from r); exact ⟨_, .none⟩
  | _, _, .bl b, u, r => by cases (show u = Value.bool b from r); exact ⟨_, .bool b⟩
  | _, _, .int i, u, r => by obtain ⟨t, rfl⟩ := (show ∃ t, u = Value.int i t from r); exact ⟨_, .int i t⟩
  | _, _, .str i, u, r => by obtain ⟨t, rfl⟩ := (show ∃ t, u = Value.str i t from r); exact ⟨_, .str i t⟩
  | _, _, .lst h hs, u, r => by
    cases (show u = Value.ref _ from r)
    obtain ⟨its, r1, ⟨o1, n1, p1, c1, _, d1⟩, _⟩ := I.list (SqL.of h)
    obtain ⟨as, ra⟩ := RDs.reads I hs r1
    exact ⟨_, Reads.list p1 c1 d1 (by simpa using ra)⟩
  | _, _, .tup h hs, u, r => by
    cases (show u = Value.ref _ from r)
    obtain ⟨its, r1, ⟨o1, p1, c1, n1, d1⟩, _⟩ := I.tuple (SqT.of h)
    obtain ⟨as, ra⟩ := RDs.reads I hs r1
    exact ⟨_, Reads.tuple p1 c1 d1 (by simpa using ra)⟩
theorem RDs.reads (I : Inv X pins σ H s) : ∀ {vs : List V} {ds : List PyData}, RDs H vs ds → ∀ {us : List Value}, Vals vs us → ∃ as, ReadsAll s.heap us ds as
  | _, _, .nil, _, .nil => ⟨_, .nil⟩
  | _, _, .cons h hs, _, .cons r rs => by
    obtain ⟨as, ra⟩ := RD.reads I h r
    obtain ⟨bs, rb⟩ := RDs.reads I hs rs
    exact ⟨_, .cons ra rb⟩
end
end
mutual
theorem mix_self : ∀ d : PyData, PyData.canLay0 d = true → SeqAt.noMix d d = true
  | .none, _ => by simp [SeqAt.noMix]
  | .bool _, _ => by simp [SeqAt.noMix]
  | .int _, _ => by simp [SeqAt.noMix]
  | .str _, _ => by simp [SeqAt.noMix]
  | .list xs, h => by
    simp only [SeqAt.noMix]
    exact mixs_self xs (by simpa [PyData.canLay0] using h)
  | .tuple xs, h => by
    simp only [SeqAt.noMix]
    exact mixs_self xs (by simpa [PyData.canLay0] using h)
  | .dict _, h => by simp [PyData.canLay0] at h
theorem mixs_self : ∀ ds : List PyData, PyData.canLayAll0 ds = true → SeqAt.noMixAll ds ds = true
  | [], _ => by simp [SeqAt.noMixAll]
  | d :: r, h => by
    have h' : PyData.canLay0 d = true ∧ PyData.canLayAll0 r = true := by simpa [PyData.canLayAll0] using h
    simp only [SeqAt.noMixAll, mix_self d h'.1, mixs_self r h'.2, Bool.and_self]
end
theorem eqv_self {d : PyData} (h : SeqAt.shaped d = true) : PyData.eqv d d = true := by
  have hc : PyData.canLay0 d = true := by
    have h' : (PyData.canLay0 d && decide (PyData.depth d ≤ 64)) = true := h
    rw [Bool.and_eq_true] at h'
    exact h'.1
  rw [← SeqAt.same_eq_eqv d d (mix_self d hc)]
  exact same_self d
section
variable {X : Cx}
def rEqD (b : Bool) : R2 := fun x y H Q => ∃ (d d' : PyData), RD H x d ∧ RD H y d' ∧ SeqAt.shaped d = true ∧ SeqAt.shaped d' = true ∧ Q (.bl (PyData.eqv d d' == b)) H
theorem op_eqD (hu : X.A.units + 64 < cLine) : OpR X (compareOp .Eq) (rEqD true) := by
  intro pins s σ H x y v u Q I rx ry h
  obtain ⟨d, d', h1, h2, s1, s2, q⟩ := h
  obtain ⟨as, r1⟩ := h1.reads I rx
  obtain ⟨bs, r2⟩ := h2.reads I ry
  refine eq_dataH r1 r2 s1 s2 hu ⟨.bl _, H, I, rfl, ?_⟩
  have e : (PyData.eqv d d' == true) = PyData.eqv d d' := by cases PyData.eqv d d' <;> rfl
  rw [e] at q
  exact q
theorem op_neD (hu : X.A.units + 64 < cLine) : OpR X (compareOp .NotEq) (rEqD false) := by
  intro pins s σ H x y v u Q I rx ry h
  obtain ⟨d, d', h1, h2, s1, s2, q⟩ := h
  obtain ⟨as, r1⟩ := h1.reads I rx
  obtain ⟨bs, r2⟩ := h2.reads I ry
  refine ne_dataH r1 r2 s1 s2 hu ⟨.bl _, H, I, rfl, ?_⟩
  have e : (PyData.eqv d d' == false) = !PyData.eqv d d' := by cases PyData.eqv d d' <;> rfl
  rw [e] at q
  exact q
theorem eqd {H : Hp} {x y : V} {d : PyData} {b : Bool} {Q : VK} (h1 : RD H x d) (h2 : RD H y d) (s : SeqAt.shaped d = true) (q : Q (.bl b) H) : rEqD b x y H Q := by
  refine ⟨d, d, h1, h2, s, s, ?_⟩
  rw [eqv_self s]
  cases b <;> exact q
end
def tNev : TE := fun _ _ _ => False
theorem w_nev {σ : L2.St} {H : Hp} {Q : VK} : tNev σ H Q = False := rfl
theorem w_never {D : Ends} {σ : L2.St} {H : Hp} : tNever D σ H = False := rfl
structure CalD (P : Program) (w : World) (K : PySem.W.Frag) (mg : Str → Option Value) (base : Heap) (x : Str) (C : Addr) (ps : List Str) (k : Nat) (dvs : List V) (sp : Sp) : Prop where
  ex : ∃ f fd ds, FnOk P w K mg base (CXF P w) k f fd ps sp ∧ Binds K fd ps ds ∧ Vals dvs ds ∧ Mk K C f ∧ mg x = some (.ref C)
section
variable {X : Cx} {x m : Str} {C : Addr} {ps : List Str} {k : Nat} {sp : Sp} {e o : Expr} {es : List Expr} {ta : TE} {t : TA} {p pos apos : Pos} {E : XK} {dvs : List V}
theorem pe_makD (c : CalD X.prog X.w X.K X.mg X.base x C ps k dvs sp) (hx : Passes (CXF X.prog X.w) X E) (hr : Room (k + 1) X.A) (hg : Gl X x) (ha : PA X (e :: es) t)
    (hdb : (x == ("__debug__" : Str)) = false := by decide) (he : starEach (e :: es) X.env = (false, eval e X.env) :: starEach es X.env := by rfl) (hpl : (backTo pos (starEach es X.env)).any (·.1) = false := by rfl) :
    PE X (.Call (.Name x p) (e :: es) [] pos) (tMake C sp dvs E t) := by
  obtain ⟨f, fd, ds, F, b, hd, M, hm⟩ := c.ex
  exact pe_make M F hr hg hm b hd hx ha hdb he hpl
theorem pbe_makD (c : CalD X.prog X.w X.K X.mg X.base x C ps k dvs sp) (hnx : ∀ v s, ¬ X.xe v s) (hr : Room (k + 1) X.A) (hg : Gl X x) (ha : PA X (e :: es) t)
    (hdb : (x == ("__debug__" : Str)) = false := by decide) (he : starEach (e :: es) X.env = (false, eval e X.env) :: starEach es X.env := by rfl) (hpl : (backTo pos (starEach es X.env)).any (·.1) = false := by rfl) :
    PBE X (.Call (.Name x p) (e :: es) [] pos) (tBMake C sp dvs t) := by
  obtain ⟨f, fd, ds, F, b, hd, M, hm⟩ := c.ex
  exact pbe_make hnx M F hr hg hm b hd ha hdb he hpl
end
structure FunA (K : PySem.W.Frag) (x qual : Str) (st : Stmt) (f : Addr) (fd : FuncData) : Prop where
  ex : ∃ (oc : Value) (od : Option Addr) (dV kV doc pm : Value) (an : Option Addr) (cdv ct : Value) (osl : Array (Option Value)),
    fd = PySem.W.fnOf x qual (defArgs st) (defBody st) (defScope st) dV kV doc pm an cdv ct ∧ K.lookup f = some ⟨oc, od, .func fd, osl⟩ ∧ PySem.W.codeIn K cdv qual = true
section
variable {P : Program} {w : World} {K : PySem.W.Frag} {mg : Str → Option Value} {base : Heap} {N : List Str} {f : Addr}
theorem FunA.okX {x qual : Str} {st : Stmt} {fd : FuncData} {ps : List Str} {k : Nat} {sp : Sp} (F : FunA K x qual st f fd) (S : FnScope N ps (defScope st)) (len : ∀ vs H Q E, sp vs H Q E → vs.length = ps.length)
    (hbody : ∀ (cdv : Value) (A : Around) (outer : List Env) (s : Shared) (H : Hp) (vs : List V) (Q : VK) (E : XK), Room k (A.deeper (envOfC qual (defScope st) s.heap.objs.size f cdv)) → sp vs H Q E →
      ∃ t, PSs (cxX P w K mg base N qual (defScope st) f cdv A outer s H E) (defBody st) t ∧ t { nx := fun _ H' => Q .non H', rt := Q } (L2.start N vs) H) : FnOk P w K mg base (CXF P w) (k + 1) f fd ps sp := by
  obtain ⟨oc, od, dV, kV, doc, pm, an, cdv, ct, osl, rfl, lk, hcd⟩ := F.ex
  exact fn_of lk hcd S len fun A outer s H vs Q E hr hsp => hbody cdv A outer s H vs Q E hr hsp
theorem FunA.ok {x qual : Str} {st : Stmt} {fd : FuncData} {ps : List Str} {k : Nat} {sp : Sp} (F : FunA K x qual st f fd) (S : FnScope N ps (defScope st)) (len : ∀ vs H Q E, sp vs H Q E → vs.length = ps.length)
    (hbody : ∀ (cdv : Value) (A : Around) (outer : List Env) (s : Shared) (H : Hp) (vs : List V) (Q : VK) (E : XK), Room k (A.deeper (envOfC qual (defScope st) s.heap.objs.size f cdv)) → sp vs H Q E →
      ∃ t, PSs (cxOf CX0 P w K mg base N qual (defScope st) f cdv A outer s H E).nox (defBody st) t ∧ t { nx := fun _ H' => Q .non H', rt := Q } (L2.start N vs) H) : FnOk P w K mg base CX0 (k + 1) f fd ps sp := by
  obtain ⟨oc, od, dV, kV, doc, pm, an, cdv, ct, osl, rfl, lk, hcd⟩ := F.ex
  refine fn_of lk hcd S len fun A outer s H vs Q E hr hsp => ?_
  obtain ⟨t, h, q⟩ := hbody cdv A outer s H vs Q E hr hsp
  exact ⟨t, h.nox, q⟩
theorem funA_mk {x qual : Str} {st : Stmt} {oc : Value} {od an : Option Addr} {osl : Array (Option Value)} {dV kV doc pm cdv ct : Value} (l : K.lookup f = some ⟨oc, od, .func (PySem.W.fnOf x qual (defArgs st) (defBody st) (defScope st) dV kV doc pm an cdv ct), osl⟩)
    (c : PySem.W.codeIn K cdv qual = true) : FunA K x qual st f (PySem.W.fnOf x qual (defArgs st) (defBody st) (defScope st) dV kV doc pm an cdv ct) := ⟨⟨oc, od, dV, kV, doc, pm, an, cdv, ct, osl, rfl, l, c⟩⟩
theorem bindsD {fd : FuncData} {ps : List Str} {ds : List Value} (n : Nat) (hn : n + ds.length = ps.length) (h : ∀ (s : Shared) (us : List Value), K.In s.heap → us.length = n → BindsTo s fd ⟨us, []⟩ (ps.zip (us ++ ds))) : Binds K fd ps ds := fun s us X hl => h s us X (by
  rw [List.length_append] at hl
  omega)
end
end Bw
set_option Elab.async false
set_option linter.all false
set_option maxRecDepth 100000
namespace Bw
open PySem PySem.Spec PyProof.Rows L2
def below (s e t : Int) : Int := (t - s) / 1440 * ((e - s) % 1440) + (if (e - s) % 1440 < (t - s) % 1440 then (e - s) % 1440 else (t - s) % 1440)
end Bw
set_option Elab.async false
set_option linter.all false
set_option maxRecDepth 100000
set_option maxHeartbeats 1000000
namespace Bw
open PySem PySem.Spec PyProof.Rows L2
theorem rds_strs {H : Hp} : ∀ us : List Str, RDs H (us.map V.str) (us.map PyData.str)
  | [] => .nil
  | u :: r => .cons (.str u) (rds_strs r)
theorem lay_strs : ∀ {us : List Str}, (∀ u ∈ us, PyData.strOk u = true) → PyData.canLayAll0 (us.map PyData.str) = true ∧ PyData.depthAll (us.map PyData.str) = 0
  | [], _ => ⟨by simp [PyData.canLayAll0], by simp [PyData.depthAll]⟩
  | u :: r, h => by
    obtain ⟨a, b⟩ := lay_strs (us := r) fun v hv => h v (List.mem_cons_of_mem _ hv)
    exact ⟨by simp [PyData.canLayAll0, PyData.canLay0, h u List.mem_cons_self, a], by simp [PyData.depthAll, PyData.depth, b]⟩
theorem shaped_of {ds : List PyData} {n : Nat} (hn : n ≤ 60) (h : PyData.canLayAll0 ds = true ∧ PyData.depthAll ds = n) : SeqAt.shaped (.list ds) = true ∧ SeqAt.shaped (.tuple ds) = true := by
  have h1 := h.1
  have h2 := h.2
  constructor
  · show (PyData.canLay0 (.list ds) && decide (PyData.depth (.list ds) ≤ 64)) = true
    rw [Bool.and_eq_true]
    exact ⟨by simp only [PyData.canLay0]; exact h1, decide_eq_true (by simp only [PyData.depth]; omega)⟩
  · show (PyData.canLay0 (.tuple ds) && decide (PyData.depth (.tuple ds) ≤ 64)) = true
    rw [Bool.and_eq_true]
    exact ⟨by simp only [PyData.canLay0]; exact h1, decide_eq_true (by simp only [PyData.depth]; omega)⟩
end Bw
set_option Elab.async false
set_option linter.all false
set_option maxRecDepth 100000
set_option maxHeartbeats 1000000
namespace Bw
open PySem PySem.Spec PyProof.Rows L2
end Bw
set_option Elab.async false
set_option linter.all false
set_option maxRecDepth 100000
set_option maxHeartbeats 1000000
namespace Bw
open PySem PySem.Spec PyProof.Rows L2
def metS (l : List Str) : List Str := l.foldl (fun a x => if x ∈ a then a else a ++ [x]) []
theorem metS_snoc (l : List Str) (x : Str) : metS (l ++ [x]) = if x ∈ metS l then metS l else metS l ++ [x] := by
  unfold metS; rw [List.foldl_append]; rfl
theorem metS_take {l : List Str} {i : Nat} (h : i < l.length) : metS (l.take (i + 1)) = if l.getD i Str.empty ∈ metS (l.take i) then metS (l.take i) else metS (l.take i) ++ [l.getD i Str.empty] := by
  rw [← metS_snoc, List.take_succ, List.getElem?_eq_getElem h]
  simp [List.getD, List.getElem?_eq_getElem h]
theorem snoc_ind {p : List Str → Prop} (h0 : p []) (h1 : ∀ l x, p l → p (l ++ [x])) (l : List Str) : p l := by
  have q : ∀ m : List Str, p m.reverse := fun m => by
    induction m with
    | nil => exact h0
    | cons a m ih => rw [List.reverse_cons]; exact h1 _ _ ih
  have := q l.reverse
  rwa [List.reverse_reverse] at this
theorem mem_metS (x : Str) (l : List Str) : x ∈ metS l ↔ x ∈ l := by
  refine snoc_ind (p := fun l => x ∈ metS l ↔ x ∈ l) (by simp [metS]) (fun l y ih => ?_) l
  · show x ∈ metS (l ++ [y]) ↔ x ∈ l ++ [y]
    rw [metS_snoc]
    split
    · rename_i h
      rw [ih]
      constructor
      · intro z; exact List.mem_append_left _ z
      · intro z
        rcases List.mem_append.mp z with z | z
        · exact z
        · have e : x = y := by simpa using z
          subst e
          exact ih.mp h
    · simp [ih]
theorem metS_le (l : List Str) : (metS l).length ≤ l.length := by
  refine snoc_ind (p := fun l => (metS l).length ≤ l.length) (by simp [metS]) (fun l y ih => ?_) l
  · show (metS (l ++ [y])).length ≤ (l ++ [y]).length
    rw [metS_snoc]
    split <;> simp <;> omega
theorem metS_all (l : List Str) : (metS l).length = l.length ↔ l.Nodup := by
  refine snoc_ind (p := fun l => (metS l).length = l.length ↔ l.Nodup) (by simp [metS]) (fun l y ih => ?_) l
  · show (metS (l ++ [y])).length = (l ++ [y]).length ↔ (l ++ [y]).Nodup
    have h := metS_le l
    rw [metS_snoc]
    by_cases m : y ∈ metS l
    · rw [if_pos m, List.length_append, List.length_singleton]
      constructor
      · intro z; omega
      · intro z
        have := (mem_metS y l).mp m
        rw [List.nodup_append] at z
        exact absurd rfl (z.2.2 y this y (List.mem_singleton.mpr rfl))
    · rw [if_neg m, List.length_append, List.length_append, List.length_singleton]
      have n : y ∉ l := fun z => m ((mem_metS y l).mpr z)
      constructor
      · intro z
        rw [List.nodup_append]
        refine ⟨ih.mp (by omega), by simp, fun a ha b hb e => ?_⟩
        have : b = y := by simpa using hb
        subst this; subst e; exact n ha
      · intro z
        rw [List.nodup_append] at z
        have := ih.mpr z.1
        omega
abbrev memS (l : List Str) : Str → Bool := fun k => decide (k ∈ metS l)
section
variable {prog : Program} {w : World} {A : Around} {R : Result → Shared → Prop} {I : Addr} {fp wr : List Addr} {G : Array GenState → Array GenState → Prop} {P : Nat → Value → Prop} {St : Nat → Shared → Prop}
theorem setLoopS {l : List Str} (W : WalksS prog w A.in1 I fp wr G l.length P St) (S : Addr) (hS0 : S ∉ fp) (hv : ∀ i v, P i v → ∃ t, v = .str (l.getD i Str.empty) t) (hb : l.length + 1 < scanBound) : ∀ (k i : Nat) (s : Shared) (q : ∀ s', Moved (S :: wr) G s s' → s'.heap.SetOf (strKind prog w) S (memS l) (metS l).length → R (.ok (.ret .none)) s'),
      l.length - i = k → i ≤ l.length → St i s → s.heap.SetOf (strKind prog w) S (memS (l.take i)) (metS (l.take i)).length →
      codeAny (model prog w) A (.builtin "set.update.loop" ⟨[.ref S, .ref I], []⟩) R s := by
  have nw : S ∉ wr := fun h => hS0 (W.sub _ h)
  have up : ∀ b ∈ wr, b ∈ S :: wr := fun b hb => List.mem_cons_of_mem _ hb
  have move : ∀ {s s' : Shared} {T : Str → Bool} {n : Nat}, Moved wr G s s' → s.heap.SetOf (strKind prog w) S T n → s'.heap.SetOf (strKind prog w) S T n := fun hm z => by
    obtain ⟨o, es, ep, t, ho, z⟩ := z
    exact ⟨o, es, ep, t, hm.heap S _ nw ho, z⟩
  intro k
  induction k with
  | zero =>
    intro i s q hk hi hst z
    have e : i = l.length := by omega
    subst e
    rw [List.take_length] at z
    refine codeAny_builtin PyProof.Rows.F.entry_set_update_loop ?_
    rw [Around.under_plainId PyProof.Rows.F.plain_set_update_loop _]; show wpAny _ A.in1 (pyNext (.ref I) >>= _) _ _ s
    refine wpAny_bind (W.done s _ _ hst fun s' hm => ?_)
    show wpAny _ A.in1 (ret Value.none) _ _ s'; exact wpAny_pure (q s' (hm.mono up) (move hm z))
  | succ k ih =>
    intro i s q hk hi hst z
    have lt : i < l.length := by omega
    refine codeAny_builtin PyProof.Rows.F.entry_set_update_loop ?_
    rw [Around.under_plainId PyProof.Rows.F.plain_set_update_loop _]; show wpAny _ A.in1 (pyNext (.ref I) >>= _) _ _ s
    refine wpAny_bind (W.item i s _ _ lt hst fun v s' hP hst' hm => ?_)
    obtain ⟨t, rfl⟩ := hv i v hP
    have z' := move hm z
    show wpAny _ A.in1 (holding [Value.str (l.getD i Str.empty) t] (setAdd S (.str (l.getD i Str.empty) t)) >>= _) _ _ s'
    refine wpAny_bind (wpAny_holding ?_); unfold setAdd
    refine wpAny_holding (wpAny_bind ((strKind prog w).pyHash (k := l.getD i Str.empty) (strKind_is _ _ _ _) ?_))
    have room : (metS (l.take i)).length + 1 < scanBound := by
      have h1 := metS_le (l.take i)
      have h2 : (l.take i).length ≤ l.length := by rw [List.length_take]; omega
      omega
    refine wpAny_setAddHashed_of (knd := strKind prog w) (s := { s' with toks := s'.toks + 1 }) (strKind_is _ _ _ _) rfl z' room fun h' sb z2 => ?_
    have z3 : h'.SetOf (strKind prog w) S (memS (l.take (i + 1))) (metS (l.take (i + 1))).length := by
      refine SetOf_congr z2 (fun k' => ?_) ?_
      · show (decide (k' ∈ metS (l.take i)) || decide (k' = l.getD i Str.empty)) = decide (k' ∈ metS (l.take (i + 1)))
        rw [metS_take lt]
        generalize l.getD i Str.empty = y
        split
        · rename_i m
          by_cases e : k' = y
          · subst e; simp [m]
          · simp [e]
        · by_cases e : k' = y
          · subst e; simp
          · simp [e]
      · rw [metS_take lt]
        generalize l.getD i Str.empty = y
        by_cases m : y ∈ metS (l.take i)
        · rw [if_pos m, if_pos (by simpa using m)]
        · rw [if_neg m, if_neg (by simpa using m), List.length_append]; rfl
    refine wpAny_pure ⟨plainId_quiet PyProof.Rows.F.plain_set_update_loop _, ih (i + 1) _ (fun s'' hm'' z4 => ?_) (by omega) lt (W.frame _ s' _ _ hst' (Nat.le_succ _) fun b hb o e => ?_) z3⟩
    · refine q s'' (Moved.trans W.gtrans ((hm.mono up).then_heap (Nat.le_succ _) fun b o hb e => ?_) hm'') z4
      rw [sb.2 b (fun h : b = S => hb (by rw [h]; exact List.mem_cons_self))]; exact e
    · rw [sb.2 b (fun h : b = S => hS0 (by rw [← h]; exact hb))]; exact e
end
abbrev freshSet (led : Bool) : Obj := { cls := .type "set", dict := none, data := .set #[] 0 (.fresh 0 0 led) }
theorem hasS {its : List Value} {l : List Str} (h : Vals (l.map V.str) its) (i : Nat) (v : Value) (e : its[i]? = some v) : ∃ t, v = .str (l.getD i Str.empty) t := by
  induction l generalizing its i with
  | nil => cases h; simp at e
  | cons x l ih =>
    cases h with
    | cons r1 r2 =>
      cases i with
      | zero =>
        obtain ⟨t, rfl⟩ := r1
        have : v = .str x t := by simpa using e.symm
        exact ⟨t, by rw [this]; rfl⟩
      | succ i => exact ih r2 i (by simpa using e)
section
variable {prog : Program} {w : World} {A : Around} {E : Value → Shared → Prop} {s : Shared}
set_option maxHeartbeats 4000000 in
theorem callSetS {a : Addr} {its : List Value} {l : List Str} {Q : Value → Shared → Prop} (hh : A.handled = none) (hl : s.heap.IsList a its.toArray) (hv : Vals (l.map V.str) its) (hb : l.length + 1 < scanBound)
    (q : ∀ (h' : Heap) (tk : Nat), h'.SetOf (strKind prog w) s.heap.objs.size (memS l) (metS l).length → (∀ b o, s.heap.get? b = some o → h'.get? b = some o) → Q (.ref s.heap.objs.size) { s with heap := h', toks := tk }) :
    wpAny (model prog w) A (call (.type "set") [.ref a]) Q E s := by
  have hn : its.toArray.size = l.length := by have := hv.length; rw [List.length_map] at this; simpa using this.symm
  obtain ⟨c, tl, hmro⟩ := PySem.F.called_set.mro
  have hmade := PySem.F.called_set.made; have hsub := PySem.F.called_set.sub
  refine wpAny_call (codeAny_of_tree ?_); show wpAny _ _ (callAny (.type "set") _) _ _ _
  refine wpAny_pure ⟨Code.quiet_builtin _ (by decide +kernel), codeAny_builtin PySem.F.entry_type_call ?_⟩
  rw [Around.under_plain (weight_type_call_type "set" [.ref a] []) rfl]
  have h1 := PySem.F.called_set.notType; have h2 := PySem.F.called_set.canCreate
  have hct := PySem.F.typeCall_set_1 (.ref a)
  repeat (any_goals (first | assumption | wp_step))
  refine codeAny_mono (PySem.code_set_new_1 (.ref a) (E := E) (Q₁ := fun obj s₁ => ∃ led : Bool, obj = .ref s.heap.objs.size ∧ s₁ = { s with heap := s.heap.push (freshSet led) }) fun led => ⟨led, rfl, rfl⟩) fun r s₁ hr => ?_
  match r, hr with
  | .error e, hr => exact hr
  | .ok (.ret obj), hr =>
    obtain ⟨led, rfl, rfl⟩ := hr
    have hS : (s.heap.push (freshSet led)).get? s.heap.objs.size = some (freshSet led) := Heap.get?_push_size _ rfl
    have hT : Shared.TypeIs { s with heap := s.heap.push (freshSet led) } (.ref s.heap.objs.size) "set" := ⟨_, hS, rfl⟩
    have hli := PySem.F.called_set.init.lookup; have hbi := PySem.F.called_set.init.bind (.ref s.heap.objs.size)
    repeat (any_goals (first | assumption | wp_step))
    refine codeAny_mono (codeAny_call_builtin (R := wants (fun r s₂ => r = .none ∧ ∃ h' tk, s₂ = { s with heap := h', toks := tk } ∧ h'.SetOf (strKind prog w) s.heap.objs.size (memS l) (metS l).length ∧
        (∀ b o, s.heap.get? b = some o → h'.get? b = some o)) E) PySem.F.called_set.init.plain PySem.F.entry_set_init (PySem.check_set_init_1 hT ?_)) fun r₂ s₂ hr₂ => ?_
    · obtain ⟨⟨oc, od, odt, osl⟩, hol, hcl, nl, hdl⟩ := hl
      simp only at hcl hdl; subst hcl; subst hdl
      have hol' : (s.heap.push (freshSet led)).get? a = some { cls := .type "list", dict := od, data := .seq its.toArray nl, slots := osl } := Heap.get?_push_of_some _ hol
      have n1 := PySem.F.sub_list_set; have n2 := PySem.F.sub_list_frozenset
      have n3 : (Value.type "list" == Value.type "dict") = false := by decide
      have hl1 : (s.heap.push (freshSet led)).IsList a its.toArray := ⟨_, hol', rfl, nl, rfl⟩
      unfold Builtin.«set.__init__» noKeywords Builtin.Frozenset.updateFrom
      generalize hPI : pyIter = PI
      wp_walk
      subst hPI
      refine wpAny_pyIter_list hl1 (wpAny_bind (wpAny_runValue ?_))
      have lt : a < s.heap.objs.size := Heap.lt_size hol
      have hh3 : A.in1.in1.in1.handled = none := by simp [hh]
      have ne1 : a ≠ (s.heap.push (freshSet led)).objs.size := by rw [Heap.size_push]; exact Nat.ne_of_lt (Nat.lt_succ_of_lt lt)
      have ne2 : s.heap.objs.size ∉ [(s.heap.push (freshSet led)).objs.size, a] := by
        rw [Heap.size_push]; intro z
        rcases List.mem_cons.mp z with z | z
        · exact absurd z (Nat.ne_of_lt (Nat.lt_succ_self _))
        · exact absurd (List.mem_singleton.mp z) (Nat.ne_of_gt lt)
      have W := (Walks.list (prog := prog) (w := w) hh3 _ a ne1 its.toArray).toS
      rw [hn] at W
      refine setLoopS W s.heap.objs.size ne2 (fun i v hv' => hasS hv i v (by simpa using hv')) hb (l.length - 0) 0 _ (fun s' hm z => ?_) (by omega) (Nat.zero_le _) ⟨⟨_, Heap.get?_push_size _ rfl, rfl, rfl⟩, hl1.push _⟩ ?_
      · obtain ⟨h', g', d', tk', os'⟩ := s'
        have eg : g' = s.gens := hm.gens
        have ed : d' = s.drawn := hm.drawn
        have eo : os' = s.os := hm.os
        subst eg; subst ed; subst eo
        show wpAny _ _ _ _ _ _
        refine wpAny_pure ?_
        show wpAny _ _ (ret Value.none) _ _ _
        refine wpAny_pure ⟨rfl, h', tk', rfl, z, fun b o e => ?_⟩
        have bl := Heap.lt_size e
        refine hm.heap b o (fun y => ?_) (Heap.get?_push_of_some _ (Heap.get?_push_of_some _ e))
        rcases List.mem_cons.mp y with y | y
        · exact absurd y (Nat.ne_of_lt bl)
        · have := List.mem_singleton.mp y; rw [Heap.size_push] at this; exact absurd this (Nat.ne_of_lt (Nat.lt_succ_of_lt bl))
      · have hg : ((s.heap.push (freshSet led)).push { cls := .type "list_iterator", data := .fields #[.ref a, .int 0 0] }).get? s.heap.objs.size = some (freshSet led) := Heap.get?_push_of_some _ hS
        exact SetOf_congr ((setObjOf_fresh (knd := strKind prog w) led).setOf hg (by unfold scanBound; omega)) (fun k => by simp [memS, metS]) rfl
    · match r₂, hr₂ with
      | .error e, hr₂ => exact hr₂
      | .ok (.ret r), hr₂ =>
        obtain ⟨rfl, h', tk, rfl, z, kp⟩ := hr₂
        repeat (any_goals (first | assumption | wp_step))
        exact q _ _ z kp
end
def hoSet (P : Program) (w : World) (a : Addr) (l : List Str) : HO := .ext fun h => h.SetOf (strKind P w) a (memS l) (metS l).length
theorem set_ext {P : Program} {w : World} {H : Hp} {h : Heap} {a : Addr} {l : List Str} (z : h.SetOf (strKind P w) a (memS l) (metS l).length) : ObjOk P w H h a (hoSet P w a l) := by
  refine ⟨z, ?_, fun h1 h2 z1 k => ?_⟩
  · obtain ⟨o, _, _, _, e, _⟩ := z; exact ⟨o, e⟩
  · obtain ⟨o, es, ep, t, e, z1⟩ := z1; exact ⟨o, es, ep, t, k o e, z1⟩
theorem call_setS {X : Cx} (hc : X.calm = true) : CallR X (.type "set") (fun xs H Q => ∃ (a : Addr) (l : List Str), xs = [.ref a] ∧ SqL X.K H a (l.map V.str) ∧ l.length ≤ 1000 ∧ ∀ p, H p = none → Q (.ref p) (upd H p (hoSet X.prog X.w p l))) := by
  intro pins s σ H xs us Q I r h
  obtain ⟨a, l, rfl, hS, hz, q⟩ := h
  obtain ⟨u, rfl, ru⟩ := vals1 r
  cases ru
  obtain ⟨its, rv, pl, _⟩ := I.list hS
  refine callSetS (I.ok.hd hc) pl.isList rv (by unfold scanBound; omega) fun h' tk z kp => ?_
  exact ⟨.ref s.heap.objs.size, _, I.laid (t' := tk) kp (Nat.le_refl _) (set_ext z), rfl, q _ (I.hok.fresh (Nat.le_refl _))⟩
theorem call_lenS {X : Cx} : CallR X (.builtin "len") (fun xs H Q => ∃ (a : Addr) (l : List Str), xs = [.ref a] ∧ H a = some (hoSet X.prog X.w a l) ∧ Q (.int (metS l).length) H) := by
  intro pins s σ H xs us Q I r h
  obtain ⟨a, l, rfl, e, q⟩ := h
  obtain ⟨u, rfl, ru⟩ := vals1 r
  cases ru
  obtain ⟨⟨o, es, ep, t, ho, hex, hd, _, _, hb, hf, hn⟩, _⟩ := I.hok a _ e
  rw [← hn] at q
  exact call_len_set ho hex hd hf (by unfold scanBound at hb; omega) ⟨.int es.size, H, I.tok _, ⟨_, rfl⟩, q⟩
end Bw
set_option Elab.async false
set_option linter.all false
set_option maxRecDepth 100000
set_option maxHeartbeats 1000000
namespace Bw
open PySem PySem.Spec PyProof.Rows L2
theorem TyOf.same {K : PySem.W.Frag} {H H' : Hp} {x : V} {t : Value} (h : TyOf K H x t) (s : Same H H') : TyOf K H' x t := by
  cases h with
  | non => exact .non
  | bl x => exact .bl x
  | int i => exact .int i
  | str x => exact .str x
  | flt x => exact .flt x
  | lst e => exact .lst (s _ _ e)
  | frz e => exact .frz (s _ _ e)
  | tup e => exact .tup (s _ _ e)
  | dK e => exact .dK (s _ _ e)
  | dT e => exact .dT (s _ _ e)
  | ins e cl ha hn ht hm => exact .ins (s _ _ e) cl ha hn ht hm
theorem TyOf.but3 {K : PySem.W.Frag} {H H' : Hp} {w : Addr} {x : V} {t : Value} (h : TyOf K H x t) (W0 : Well3 H w) (W : Well3 H' w) (s : But w H H') : TyOf K H' x t := by
  have ne : ∀ {b : Addr} {o : HO}, H b = some o → (∀ xs, o ≠ .lst xs) → b ≠ w := fun e n z => by
    obtain ⟨a, b, c, q⟩ := W0
    rw [z, q] at e
    exact n _ (Option.some.inj e).symm
  cases h with
  | non => exact .non
  | bl x => exact .bl x
  | int i => exact .int i
  | str x => exact .str x
  | flt x => exact .flt x
  | @lst p xs e =>
    by_cases z : p = w
    · obtain ⟨a, b, c, q⟩ := W
      rw [z]
      exact .lst q
    · exact .lst (s _ _ z e)
  | frz e => exact .frz (s _ _ (ne e (by intro xs z; cases z)) e)
  | tup e => exact .tup (s _ _ (ne e (by intro xs z; cases z)) e)
  | dK e => exact .dK (s _ _ (ne e (by intro xs z; cases z)) e)
  | dT e => exact .dT (s _ _ (ne e (by intro xs z; cases z)) e)
  | ins e cl ha hn ht hm => exact .ins (s _ _ (ne e (by intro xs z; cases z)) e) cl ha hn ht hm
def rIsiG (K : PySem.W.Frag) (T : String) : List V → Hp → VK → Prop := fun xs H Q => ∃ (x : V) (t : Value) (b : Bool), xs = [x, .ty T] ∧ TyOf K H x t ∧ PySem.W.kitOne K t (.type T) = some b ∧ Q (.bl b) H
theorem isiG_at {X : Cx} {K : PySem.W.Frag} {T : String} (hK : X.K = K) : CallR X (.builtin "isinstance") (rIsiG K T) := by
  subst hK
  intro pins s σ H xs us Q I r h
  obtain ⟨x, t, b, rfl, ty, e, q⟩ := h
  obtain ⟨u, w', rfl, rx, rc⟩ := vals2 r
  cases (show w' = Value.type T from rc)
  exact isinst_ok I rx ty e fun tk => ⟨.bl b, H, I.tok _, rfl, q⟩
end Bw
set_option Elab.async false
set_option linter.all false
set_option maxRecDepth 100000
set_option maxHeartbeats 1000000
namespace Bw
open PySem PySem.Spec PyProof.Rows L2
section
variable {X : Cx}
def tBIf (c : TT) (t u : XK → TS) : XK → TS := fun E D σ H => c σ H fun b H1 => if b = true then t E D σ H1 else u E D σ H1
theorem pbs_if {c : Expr} {a b : Stmt} {tc : TT} {t u : XK → TS} {pos : Pos} (hnx : ∀ v s, ¬ X.xe v s) (hc : PT X c tc) (ha : PBS X a t) (hb : PBS X b u) : PBS X (.If c [a] [b] pos) (tBIf tc t u) := by
  intro pins s σ H D E I h
  have one : ∀ {st : Stmt} {t : XK → TS} {s1 : Shared} {H1 : Hp}, PBS X st t → Inv X pins σ H1 s1 → t E D σ H1 → wpAny (model X.prog X.w) X.A (execs [st] X.env) (SP X pins D) (Flew X pins σ E) s1 := by
    intro st t s1 H1 h1 I1 q
    refine wpAny_execs_cons (thn (h1 pins s1 σ H1 D E I1 q) fun f s2 q2 => ?_)
    cases f with
    | next => exact wpAny_execs_nil q2
    | brk => exact q2
    | cont => exact q2
    | ret u => exact q2
  refine wpAny_If (wpAny_mono (hc pins s σ H _ I h) (fun d s1 ⟨H1, I1, q1⟩ => ?_) fun _ _ z => (hnx _ _ z).elim)
  cases d with
  | true => exact one ha I1 q1
  | false => exact one hb I1 q1
theorem w_bIf {c : TT} {t u : XK → TS} {E : XK} {D : Ends} {σ : L2.St} {H : Hp} : tBIf c t u E D σ H = c σ H (fun b H1 => if b = true then t E D σ H1 else u E D σ H1) := rfl
def rIsiI (K : PySem.W.Frag) : List V → Hp → VK → Prop := fun xs H Q => ∃ (x tp C dx : Addr) (fs : List (Str × V)) (cs : List Addr) (b : Bool), xs = [.ref x, .ref tp] ∧ H x = some (.ins C dx fs) ∧ ClsK K C ∧ H tp = some (.tup (cs.map V.ref)) ∧ PySem.W.kitAny K (.ref C) (cs.map Value.ref) = some b ∧ Q (.bl b) H
theorem isiI_at {K : PySem.W.Frag} (hK : X.K = K) : CallR X (.builtin "isinstance") (rIsiI K) := by
  subst hK
  intro pins s σ H xs us Q I r h
  obtain ⟨x, tp, C, dx, fs, cs, b, rfl, hx, ck, ht, e, q⟩ := h
  obtain ⟨u, w', rfl, rx, rc'⟩ := vals2 r
  cases (show u = Value.ref x from rx)
  cases (show w' = Value.ref tp from rc')
  obtain ⟨_, its, rv, o, ho, hc, n, hd⟩ := (show ObjOk X.prog X.w H s.heap tp (.tup (cs.map V.ref)) from I.hok tp _ ht)
  have hv := vals_refs rv
  subst hv
  obtain ⟨oc, dd, dt, sl⟩ := o
  dsimp only at hc hd
  subst hc hd
  obtain ⟨mA, O, _⟩ := ins_get I.hok hx
  obtain ⟨od, J, _⟩ := O.look
  exact PySem.W.kia_tup (PySem.W.kitx_own (ck.cl.get _) ck.cl.hd ck.ha ck.hn ck.ht ck.hm) I.kIn J ho e (fun z => nomatch z) fun tk => ⟨.bl b, H, I.tok _, rfl, q⟩
end
end Bw
set_option Elab.async false
set_option linter.all false
set_option maxRecDepth 100000
set_option maxHeartbeats 8000000
namespace Bw
open PySem L2
local macro_rules | `(tactic| walk_at "w0") => `(tactic| try simp only [w_seq, w_next, w_ifS, w_ret, w_retN, w_drop, w_asg, w_gName, w_gSub, w_var, w_c, w_op, w_un, w_rU, w_rI0, w_rI, w_test, w_b, w_and, w_or, w_not, w_andV, w_orV, w_notV, w_if, w_cons, w_nil, w_tup, w_lst, w_call, w_cB, w_eq, w_ne, w_isN, w_notN, w_chain, w_sl, w_part, w_noPart, w_forL, w_for1, w_for2, w_K, w_for3, w_isnotB, w_raise, w_try, w_KX, w_cut, w_compL, w_comp1, w_comp2, w_yes, w_pick0, w_pickN, w_pickS, w_bm, w_bm0, w_tyS, w_addS, w_slS, w_blkK, w_strs, w_methD, w_makeN, w_make, w_fld, w_gTup, w_gCons, w_gNil, w_sFld, w_compS, w_tryB, w_bmake, w_noKeys, w_bIf, w_nev, w_never, Option.getD_some,  exists_const, false_or, or_false, exists_false, w_s1, w_s2, w_s3, w_s4, w_s5, L2.start, List.map_cons, List.map_nil, List.length_cons, List.length_nil, List.replicate, List.replicate_zero, List.replicate_succ, Nat.reduceAdd, Nat.reduceSub, Nat.reduceLeDiff, List.cons_append, List.nil_append, List.append_nil, List.set_cons_zero, List.set_cons_succ, List.getElem?_cons_zero, List.getElem?_cons_succ, Option.some.injEq, V.int.injEq, V.bl.injEq, V.ref.injEq, V.str.injEq, V.ty.injEq, List.cons.injEq, and_true, true_and, exists_eq_left, exists_eq_left', exists_and_left, exists_eq, exists_eq', and_self, decide_eq_true_eq, Bool.not_eq_true', decide_eq_false_iff_not, Bool.true_eq_false, Bool.false_eq_true, if_true, if_false, ite_true, ite_false, false_and, and_false, and_assoc, reduceCtorEq])
local macro_rules | `(tactic| exists $[$es:term],*) => `(tactic| try simp only [$[$es:term],*, w_seq, w_next, w_ifS, w_ret, w_retN, w_drop, w_asg, w_gName, w_gSub, w_var, w_c, w_op, w_un, w_rU, w_rI0, w_rI, w_test, w_b, w_and, w_or, w_not, w_andV, w_orV, w_notV, w_if, w_cons, w_nil, w_tup, w_lst, w_call, w_cB, w_eq, w_ne, w_isN, w_notN, w_chain, w_sl, w_part, w_noPart, w_forL, w_for1, w_for2, w_K, w_for3, w_isnotB, w_raise, w_try, w_KX, w_cut, w_compL, w_comp1, w_comp2, w_yes, w_pick0, w_pickN, w_pickS, w_bm, w_bm0, w_tyS, w_addS, w_slS, w_blkK, w_strs, w_methD, w_makeN, w_make, w_fld, w_gTup, w_gCons, w_gNil, w_sFld, w_compS, w_tryB, w_bmake, w_noKeys, w_bIf, w_nev, w_never, Option.getD_some,  exists_const, false_or, or_false, exists_false, w_s1, w_s2, w_s3, w_s4, w_s5, L2.start, List.map_cons, List.map_nil, List.length_cons, List.length_nil, List.replicate, List.replicate_zero, List.replicate_succ, Nat.reduceAdd, Nat.reduceSub, Nat.reduceLeDiff, List.cons_append, List.nil_append, List.append_nil, List.set_cons_zero, List.set_cons_succ, List.getElem?_cons_zero, List.getElem?_cons_succ, Option.some.injEq, V.int.injEq, V.bl.injEq, V.ref.injEq, V.str.injEq, V.ty.injEq, List.cons.injEq, and_true, true_and, exists_eq_left, exists_eq_left', exists_and_left, exists_eq, exists_eq', and_self, decide_eq_true_eq, Bool.not_eq_true', decide_eq_false_iff_not, Bool.true_eq_false, Bool.false_eq_true, if_true, if_false, ite_true, ite_false, false_and, and_false, and_assoc, reduceCtorEq])
def top (i : Nat) : Stmt := PySem.Challenge.pw_bellsaway_k12_lines_made.main.body.getD i (.Pass ⟨0, 0, 0, 0⟩)
abbrev s_is_whole : Stmt := top 10
theorem sc_is_whole : FnScope ["thing"] ["thing"] (defScope s_is_whole) := ⟨rfl, rfl, rfl, by decide +kernel, rfl, by decide +kernel, by decide +kernel⟩
abbrev s_is_whole_between : Stmt := top 11
theorem sc_is_whole_between : FnScope ["thing", "least", "most"] ["thing", "least", "most"] (defScope s_is_whole_between) := ⟨rfl, rfl, rfl, by decide +kernel, rfl, by decide +kernel, by decide +kernel⟩
abbrev s_is_whole_from : Stmt := top 12
theorem sc_is_whole_from : FnScope ["thing", "least"] ["thing", "least"] (defScope s_is_whole_from) := ⟨rfl, rfl, rfl, by decide +kernel, rfl, by decide +kernel, by decide +kernel⟩
abbrev s_is_minute_of_day : Stmt := top 16
theorem sc_is_minute_of_day : FnScope ["thing"] ["thing"] (defScope s_is_minute_of_day) := ⟨rfl, rfl, rfl, by decide +kernel, rfl, by decide +kernel, by decide +kernel⟩
abbrev s_check_minute_of_hour : Stmt := top 17
theorem sc_check_minute_of_hour : FnScope ["minute"] ["minute"] (defScope s_check_minute_of_hour) := ⟨rfl, rfl, rfl, by decide +kernel, rfl, by decide +kernel, by decide +kernel⟩
abbrev s_check_minute_of_day : Stmt := top 18
theorem sc_check_minute_of_day : FnScope ["minute"] ["minute"] (defScope s_check_minute_of_day) := ⟨rfl, rfl, rfl, by decide +kernel, rfl, by decide +kernel, by decide +kernel⟩
abbrev s_is_name : Stmt := top 22
theorem sc_is_name : FnScope ["thing"] ["thing"] (defScope s_is_name) := ⟨rfl, rfl, rfl, by decide +kernel, rfl, by decide +kernel, by decide +kernel⟩
abbrev s_are_unlike_names : Stmt := top 24
theorem sc_are_unlike_names : FnScope ["thing"] ["thing"] (defScope s_are_unlike_names) := ⟨rfl, rfl, rfl, by decide +kernel, rfl, by decide +kernel, by decide +kernel⟩
abbrev s_Least___init__ : Stmt := inClass (top 27) 0
theorem sc_Least___init__ : FnScope ["self", "weight"] ["self", "weight"] (defScope s_Least___init__) := ⟨rfl, rfl, rfl, by decide +kernel, rfl, by decide +kernel, by decide +kernel⟩
abbrev s_Hour___init__ : Stmt := inClass (top 31) 0
theorem sc_Hour___init__ : FnScope ["self", "minute"] ["self", "minute"] (defScope s_Hour___init__) := ⟨rfl, rfl, rfl, by decide +kernel, rfl, by decide +kernel, by decide +kernel⟩
abbrev s_Day___init__ : Stmt := inClass (top 32) 0
theorem sc_Day___init__ : FnScope ["self", "minute"] ["self", "minute"] (defScope s_Day___init__) := ⟨rfl, rfl, rfl, by decide +kernel, rfl, by decide +kernel, by decide +kernel⟩
abbrev s_Raised___init__ : Stmt := inClass (top 35) 0
theorem sc_Raised___init__ : FnScope ["self", "minutes", "times", "to"] ["self", "minutes", "times", "to"] (defScope s_Raised___init__) := ⟨rfl, rfl, rfl, by decide +kernel, rfl, by decide +kernel, by decide +kernel⟩
abbrev s_Line___init__ : Stmt := inClass (top 36) 0
theorem sc_Line___init__ : FnScope ["self", "fit", "way", "roads", "sure", "raised"] ["self", "fit", "way", "roads", "sure", "raised"] (defScope s_Line___init__) := ⟨rfl, rfl, rfl, by decide +kernel, rfl, by decide +kernel, by decide +kernel⟩
abbrev s_check_by_way : Stmt := top 37
theorem sc_check_by_way : FnScope ["way", "roads", "sure", "raised"] ["way", "roads", "sure", "raised"] (defScope s_check_by_way) := ⟨rfl, rfl, rfl, by decide +kernel, rfl, by decide +kernel, by decide +kernel⟩
abbrev s_law_begin : Stmt := top 40
theorem sc_law_begin : FnScope ["_law_cell"] ["_law_cell"] (defScope s_law_begin) := ⟨rfl, rfl, rfl, by decide +kernel, rfl, by decide +kernel, by decide +kernel⟩
abbrev s_law_next : Stmt := top 41
theorem sc_law_next : FnScope ["_law_state", "_law_base", "_law_found", "_law_number"] ["_law_state", "_law_base"] (defScope s_law_next) := ⟨rfl, rfl, rfl, by decide +kernel, rfl, by decide +kernel, by decide +kernel⟩
abbrev s_law_name : Stmt := top 42
theorem sc_law_name : FnScope ["_law_state", "_law_letters", "_law_way", "_law_some", "_law_word", "_law_at"] ["_law_state"] (defScope s_law_name) := ⟨rfl, rfl, rfl, by decide +kernel, rfl, by decide +kernel, by decide +kernel⟩
abbrev s_law_roads : Stmt := top 43
theorem sc_law_roads : FnScope ["_law_state", "_law_found", "_law_k", "_law_name_here"] ["_law_state"] (defScope s_law_roads) := ⟨rfl, rfl, rfl, by decide +kernel, rfl, by decide +kernel, by decide +kernel⟩
abbrev s_law_refused : Stmt := top 44
theorem sc_law_refused : FnScope ["_law_word", "_law_parts", "_law_found", "e", "_law_other"] ["_law_word", "_law_parts"] (defScope s_law_refused) := ⟨rfl, rfl, rfl, by decide +kernel, rfl, by decide +kernel, by decide +kernel⟩
abbrev s_law_put : Stmt := top 45
theorem sc_law_put : FnScope ["_law_parts", "_law_at", "_law_thing"] ["_law_parts", "_law_at", "_law_thing"] (defScope s_law_put) := ⟨rfl, rfl, rfl, by decide +kernel, rfl, by decide +kernel, by decide +kernel⟩
abbrev s_law_odd_raised : Stmt := top 46
theorem sc_law_odd_raised : FnScope ["_law_minutes", "_law_times", "_law_to", "_law_good", "_law_odd"] ["_law_minutes", "_law_times", "_law_to"] (defScope s_law_odd_raised) := ⟨rfl, rfl, rfl, by decide +kernel, rfl, by decide +kernel, by decide +kernel⟩
abbrev s_law_odd_line : Stmt := top 47
theorem sc_law_odd_line : FnScope ["_law_fit", "_law_way", "_law_roads_here", "_law_raised", "_law_good", "_law_odd", "_law_never"] ["_law_fit", "_law_way", "_law_roads_here", "_law_raised"] (defScope s_law_odd_line) := ⟨rfl, rfl, rfl, by decide +kernel, rfl, by decide +kernel, by decide +kernel⟩
abbrev s_law_line_right : Stmt := top 48
theorem sc_law_line_right : FnScope ["_law_line", "_law_weight", "_law_roads_here", "_law_sure", "_law_raised", "_law_found"] ["_law_line", "_law_weight", "_law_roads_here", "_law_sure", "_law_raised"] (defScope s_law_line_right) := ⟨rfl, rfl, rfl, by decide +kernel, rfl, by decide +kernel, by decide +kernel⟩
abbrev s_law : Stmt := top 49
theorem sc_law : FnScope ["_law_script", "_law_cell", "_law_state", "_law_minutes", "_law_times", "_law_to", "_law_raised", "_law_bare", "_law_roads_here", "_law_weight", "_law_fit", "_law_way", "_law_sure", "_law_handed", "_law_line", "_law_parts", "_law_odd", "_law_more", "_law_k", "_law_thing"] ["_law_script"] (defScope s_law) := ⟨rfl, rfl, rfl, by decide +kernel, rfl, by decide +kernel, by decide +kernel⟩
structure Ad where
  BellError : Addr
  NoClock : Addr
  NoHappening : Addr
  NoFit : Addr
  NoWish : Addr
  NoRoad : Addr
  NoText : Addr
  Fit : Addr
  Least : Addr
  Way : Addr
  Now : Addr
  Hour : Addr
  Day : Addr
  Never : Addr
  Raised : Addr
  Line : Addr
  t0 : Tok
  t1 : Tok
  t2 : Tok
  t3 : Tok
structure Bt (K : PySem.W.Frag) (mg : Str → Option Value) (a : Ad) : Prop where
  len : mg "len" = none
  int : mg "int" = none
  bool : mg "bool" = none
  str : mg "str" = none
  tuple : mg "tuple" = none
  list : mg "list" = none
  all : mg "all" = none
  isinstance : mg "isinstance" = none
  range : mg "range" = none
  set : mg "set" = none
  ValueError : mg "ValueError" = none
  MINUTES_OF_HOUR : mg "MINUTES_OF_HOUR" = some (.int 60 a.t0)
  MINUTES_OF_DAY : mg "MINUTES_OF_DAY" = some (.int 1440 a.t1)
  LETTERS : mg "LETTERS" = some (.str "abcdefghijklmnopqrstuvwxyz" a.t2)
  MOST_LETTERS : mg "MOST_LETTERS" = some (.int 8 a.t3)
  BellError : mg "BellError" = some (.ref a.BellError)
  NoClock : mg "NoClock" = some (.ref a.NoClock)
  NoHappening : mg "NoHappening" = some (.ref a.NoHappening)
  NoFit : mg "NoFit" = some (.ref a.NoFit)
  NoWish : mg "NoWish" = some (.ref a.NoWish)
  NoRoad : mg "NoRoad" = some (.ref a.NoRoad)
  NoText : mg "NoText" = some (.ref a.NoText)
  Fit : mg "Fit" = some (.ref a.Fit)
  Least : mg "Least" = some (.ref a.Least)
  Way : mg "Way" = some (.ref a.Way)
  Now : mg "Now" = some (.ref a.Now)
  Hour : mg "Hour" = some (.ref a.Hour)
  Day : mg "Day" = some (.ref a.Day)
  Never : mg "Never" = some (.ref a.Never)
  Raised : mg "Raised" = some (.ref a.Raised)
  Line : mg "Line" = some (.ref a.Line)
  exc_NoWish : PySem.W.excIn K a.NoWish vbm "ValueError.__new__" = true
  excK_NoWish : ExcK K a.NoWish
  exm : PySem.W.exmOne K (.ref a.NoWish) (.ref a.BellError) = some true
  any1 : PySem.W.kitAny K (.ref a.NoWish) ([.ref a.NoClock, .ref a.NoFit, .ref a.NoHappening, .ref a.NoRoad, .ref a.NoText] : List Value) = some false
  isV : PySem.W.kitOne K (.ref a.NoWish) (.type "ValueError") = some true
  isC : PySem.W.kitOne K (.ref a.NoWish) (.ref a.NoWish) = some true
  ck_Least : ClsK K a.Least
  na_Least_weight : NoAttr K a.Least "weight"
  ck_Now : ClsK K a.Now
  ck_Hour : ClsK K a.Hour
  na_Hour_minute : NoAttr K a.Hour "minute"
  ck_Day : ClsK K a.Day
  na_Day_minute : NoAttr K a.Day "minute"
  ck_Never : ClsK K a.Never
  ck_Raised : ClsK K a.Raised
  na_Raised_minutes : NoAttr K a.Raised "minutes"
  na_Raised_times : NoAttr K a.Raised "times"
  na_Raised_to : NoAttr K a.Raised "to"
  ck_Line : ClsK K a.Line
  na_Line_fit : NoAttr K a.Line "fit"
  na_Line_way : NoAttr K a.Line "way"
  na_Line_roads : NoAttr K a.Line "roads"
  na_Line_sure : NoAttr K a.Line "sure"
  na_Line_raised : NoAttr K a.Line "raised"
  is_Least_Fit : PySem.W.kitOne K (.ref a.Least) (.ref a.Fit) = some true
  is_Now_Fit : PySem.W.kitOne K (.ref a.Now) (.ref a.Fit) = some false
  is_Hour_Fit : PySem.W.kitOne K (.ref a.Hour) (.ref a.Fit) = some false
  is_Day_Fit : PySem.W.kitOne K (.ref a.Day) (.ref a.Fit) = some false
  is_Raised_Fit : PySem.W.kitOne K (.ref a.Raised) (.ref a.Fit) = some false
  is_Least_Way : PySem.W.kitOne K (.ref a.Least) (.ref a.Way) = some false
  is_Now_Way : PySem.W.kitOne K (.ref a.Now) (.ref a.Way) = some true
  is_Hour_Way : PySem.W.kitOne K (.ref a.Hour) (.ref a.Way) = some true
  is_Day_Way : PySem.W.kitOne K (.ref a.Day) (.ref a.Way) = some true
  is_Never_Way : PySem.W.kitOne K (.ref a.Never) (.ref a.Way) = some true
  is_Raised_Way : PySem.W.kitOne K (.ref a.Raised) (.ref a.Way) = some false
  is_Now_Never : PySem.W.kitOne K (.ref a.Now) (.ref a.Never) = some false
  is_Hour_Never : PySem.W.kitOne K (.ref a.Hour) (.ref a.Never) = some false
  is_Day_Never : PySem.W.kitOne K (.ref a.Day) (.ref a.Never) = some false
  is_Never_Never : PySem.W.kitOne K (.ref a.Never) (.ref a.Never) = some true
  is_Least_Raised : PySem.W.kitOne K (.ref a.Least) (.ref a.Raised) = some false
  is_Raised_Raised : PySem.W.kitOne K (.ref a.Raised) (.ref a.Raised) = some true
  is_Line_Line : PySem.W.kitOne K (.ref a.Line) (.ref a.Line) = some true
  is_Least_Least : PySem.W.kitOne K (.ref a.Least) (.ref a.Least) = some true
  noFit_NoneType : PySem.W.kitOne K (.type "NoneType") (.ref a.Fit) = some false
  noFit_bool : PySem.W.kitOne K (.type "bool") (.ref a.Fit) = some false
  noFit_int : PySem.W.kitOne K (.type "int") (.ref a.Fit) = some false
  noFit_str : PySem.W.kitOne K (.type "str") (.ref a.Fit) = some false
  noFit_list : PySem.W.kitOne K (.type "list") (.ref a.Fit) = some false
  noFit_tuple : PySem.W.kitOne K (.type "tuple") (.ref a.Fit) = some false
  noFit_dict : PySem.W.kitOne K (.type "dict") (.ref a.Fit) = some false
  noWay_NoneType : PySem.W.kitOne K (.type "NoneType") (.ref a.Way) = some false
  noWay_bool : PySem.W.kitOne K (.type "bool") (.ref a.Way) = some false
  noWay_int : PySem.W.kitOne K (.type "int") (.ref a.Way) = some false
  noWay_str : PySem.W.kitOne K (.type "str") (.ref a.Way) = some false
  noWay_list : PySem.W.kitOne K (.type "list") (.ref a.Way) = some false
  noWay_tuple : PySem.W.kitOne K (.type "tuple") (.ref a.Way) = some false
  noWay_dict : PySem.W.kitOne K (.type "dict") (.ref a.Way) = some false
  noRaised_NoneType : PySem.W.kitOne K (.type "NoneType") (.ref a.Raised) = some false
  noRaised_bool : PySem.W.kitOne K (.type "bool") (.ref a.Raised) = some false
  noRaised_int : PySem.W.kitOne K (.type "int") (.ref a.Raised) = some false
  noRaised_str : PySem.W.kitOne K (.type "str") (.ref a.Raised) = some false
  noRaised_list : PySem.W.kitOne K (.type "list") (.ref a.Raised) = some false
  noRaised_tuple : PySem.W.kitOne K (.type "tuple") (.ref a.Raised) = some false
  noRaised_dict : PySem.W.kitOne K (.type "dict") (.ref a.Raised) = some false
  anyW_Now : PySem.W.kitAny K (.ref a.Now) ([.ref a.Now, .ref a.Hour, .ref a.Day] : List Value) = some true
  anyW_Hour : PySem.W.kitAny K (.ref a.Hour) ([.ref a.Now, .ref a.Hour, .ref a.Day] : List Value) = some true
  anyW_Day : PySem.W.kitAny K (.ref a.Day) ([.ref a.Now, .ref a.Hour, .ref a.Day] : List Value) = some true
  mk_Now : MkN K a.Now
  mk_Never : MkN K a.Never
def okI (K : PySem.W.Frag) (H : Hp) (x : V) : Prop := ∃ t, TyOf K H x t ∧ PySem.W.kitOne K t (.type "int") = some (isIntV x) ∧ PySem.W.kitOne K t (.type "bool") = some (isBoolV x)
def okK (K : PySem.W.Frag) (c : Value) (H : Hp) (x : V) (b : Bool) : Prop := ∃ t, TyOf K H x t ∧ PySem.W.kitOne K t c = some b
abbrev noL (K : PySem.W.Frag) (H : Hp) (x : V) : Prop := ∃ t, TyOf K H x t ∧ PySem.W.kitOne K t (.type "list") = some false
theorem okI.same {K : PySem.W.Frag} {H H' : Hp} {x : V} (h : okI K H x) (s : Same H H') : okI K H' x := let ⟨t, y, r⟩ := h; ⟨t, TyOf.same y s, r⟩
theorem okK.same {K : PySem.W.Frag} {c : Value} {H H' : Hp} {x : V} {b : Bool} (h : okK K c H x b) (s : Same H H') : okK K c H' x b := let ⟨t, y, r⟩ := h; ⟨t, TyOf.same y s, r⟩
theorem okI.but3 {K : PySem.W.Frag} {H H' : Hp} {w : Addr} {x : V} (h : okI K H x) (W0 : Well3 H w) (W : Well3 H' w) (s : But w H H') : okI K H' x := let ⟨t, y, r⟩ := h; ⟨t, TyOf.but3 y W0 W s, r⟩
theorem okK.but3 {K : PySem.W.Frag} {c : Value} {H H' : Hp} {w : Addr} {x : V} {b : Bool} (h : okK K c H x b) (W0 : Well3 H w) (W : Well3 H' w) (s : But w H H') : okK K c H' x b := let ⟨t, y, r⟩ := h; ⟨t, TyOf.but3 y W0 W s, r⟩
def strV : V → Str
  | .str u => u
  | _ => Str.empty
def namesB (xs : List V) : Bool := xs.all nameB && decide ((xs.map strV).Nodup)
theorem nameB_str {x : V} (h : nameB x = true) : x = .str (strV x) := by cases x <;> first | rfl | cases h
theorem all_str : ∀ {xs : List V}, xs.all nameB = true → xs = (xs.map strV).map V.str
  | [], _ => rfl
  | x :: xs, h => by
    simp only [List.all_cons, Bool.and_eq_true] at h
    rw [List.map_cons, List.map_cons, ← nameB_str h.1, ← all_str h.2]
def NmIs (K : PySem.W.Frag) (H : Hp) (x : V) (b : Bool) : Prop := (∃ p xs, x = .ref p ∧ H p = some (.lst xs) ∧ xs.length ≤ 100 ∧ (∀ y ∈ xs, okN H y) ∧ b = namesB xs) ∨ (b = false ∧ noL K H x)
def NmE (K : PySem.W.Frag) (H : Hp) (x : V) (b e : Bool) : Prop := (∃ p xs, x = .ref p ∧ H p = some (.lst xs) ∧ xs.length ≤ 100 ∧ (∀ y ∈ xs, okN H y) ∧ b = namesB xs ∧ e = xs.isEmpty) ∨ (b = false ∧ noL K H x)
theorem NmE.is {K : PySem.W.Frag} {H : Hp} {x : V} {b e : Bool} (h : NmE K H x b e) : NmIs K H x b := by
  rcases h with ⟨p, xs, h1, h2, h3, h4, h5, _⟩ | h
  · exact .inl ⟨p, xs, h1, h2, h3, h4, h5⟩
  · exact .inr h
theorem NmE.same {K : PySem.W.Frag} {H H' : Hp} {x : V} {b e : Bool} (h : NmE K H x b e) (s : Same H H') : NmE K H' x b e := by
  rcases h with ⟨p, xs, h1, h2, h3, h4, h5, h6⟩ | ⟨e, h⟩
  · exact .inl ⟨p, xs, h1, s _ _ h2, h3, fun y hy => (h4 y hy).same s, h5, h6⟩
  · exact .inr ⟨e, okK.same h s⟩
theorem NmE.but3 {K : PySem.W.Frag} {H H' : Hp} {w : Addr} {x : V} {b e : Bool} (h : NmE K H x b e) (nx : x ≠ .ref w) (W0 : Well3 H w) (W : Well3 H' w) (s : But w H H') : NmE K H' x b e := by
  rcases h with ⟨p, xs, h1, h2, h3, h4, h5, h6⟩ | ⟨e, h⟩
  · exact .inl ⟨p, xs, h1, s _ _ (fun z => nx (by rw [h1, z])) h2, h3, fun y hy => (h4 y hy).but W s, h5, h6⟩
  · exact .inr ⟨e, okK.but3 h W0 W s⟩
def isNonV : V → Bool
  | .non => true
  | _ => false
def isTrueV : V → Bool
  | .bl b => b
  | _ => false
theorem isNonV_eq {x : V} : isNonV x = decide (x = .non) := by
  cases x <;> first | rfl | (symm; apply decide_eq_false; intro z; cases z)
def raisB (x y z : V) : Bool := fromV x 1 && fromV y 0 && (isNonV z || nameB z)
def okS (K : PySem.W.Frag) (H : Hp) (x : V) (b : Bool) : Prop := (∃ c, x = .bl c ∧ b = true) ∨ (b = false ∧ okK K (.type "bool") H x false)
def wayB (n e t x : Bool) : Bool := if n then e && !t && x else !e
structure Lk (K : PySem.W.Frag) (a : Ad) (H : Hp) (f y r s z : V) (bf bw bn br be bs bz : Bool) : Prop where
  kf : okK K (.ref a.Fit) H f bf
  kw : okK K (.ref a.Way) H y bw
  kn : bw = true → okK K (.ref a.Never) H y bn
  kr : NmE K H r br be
  ks : okS K H s bs
  kz : (z = .non ∧ bz = true) ∨ (z ≠ .non ∧ okK K (.ref a.Raised) H z bz)
theorem okS.same {K : PySem.W.Frag} {H H' : Hp} {x : V} {b : Bool} (h : okS K H x b) (s : Same H H') : okS K H' x b := by
  rcases h with h | ⟨e, h⟩
  · exact .inl h
  · exact .inr ⟨e, h.same s⟩
theorem okS.but3 {K : PySem.W.Frag} {H H' : Hp} {w : Addr} {x : V} {b : Bool} (h : okS K H x b) (W0 : Well3 H w) (W : Well3 H' w) (s : But w H H') : okS K H' x b := by
  rcases h with h | ⟨e, h⟩
  · exact .inl h
  · exact .inr ⟨e, h.but3 W0 W s⟩
theorem Lk.same {K : PySem.W.Frag} {a : Ad} {H H' : Hp} {f y r s z : V} {bf bw bn br be bs bz : Bool} (h : Lk K a H f y r s z bf bw bn br be bs bz) (S : Same H H') : Lk K a H' f y r s z bf bw bn br be bs bz :=
  ⟨h.kf.same S, h.kw.same S, fun e => (h.kn e).same S, h.kr.same S, h.ks.same S, h.kz.imp id fun ⟨n, k⟩ => ⟨n, k.same S⟩⟩
theorem Lk.but3 {K : PySem.W.Frag} {a : Ad} {H H' : Hp} {w : Addr} {f y r s z : V} {bf bw bn br be bs bz : Bool} (h : Lk K a H f y r s z bf bw bn br be bs bz) (nr : r ≠ .ref w) (W0 : Well3 H w) (W : Well3 H' w) (S : But w H H') : Lk K a H' f y r s z bf bw bn br be bs bz :=
  ⟨h.kf.but3 W0 W S, h.kw.but3 W0 W S, fun e => (h.kn e).but3 W0 W S, h.kr.but3 nr W0 W S, h.ks.but3 W0 W S, h.kz.imp id fun ⟨n, k⟩ => ⟨n, k.but3 W0 W S⟩⟩
def lineB (bf bw bn br be bs bz t x : Bool) : Bool := bf && bw && br && bs && bz && wayB bn be t x
def BadL (K : PySem.W.Frag) (a : Ad) (w0 : Addr) (H : Hp) (v : V) : Prop := ∃ p f y r s z, v = .ref p ∧ p ≠ w0 ∧ H p = some (.lst [f, y, r, s, z]) ∧ r ≠ .ref w0 ∧ ∃ bf bw bn br be bs bz, Lk K a H f y r s z bf bw bn br be bs bz ∧ lineB bf bw bn br be bs bz (isTrueV s) (isNonV z) = false
def BadR (K : PySem.W.Frag) (w0 : Addr) (H : Hp) (v : V) : Prop := ∃ p m t o, v = .ref p ∧ p ≠ w0 ∧ H p = some (.lst [m, t, o]) ∧ okI K H m ∧ okI K H t ∧ okN H o ∧ raisB m t o = false
theorem BadL.same {K : PySem.W.Frag} {a : Ad} {w0 : Addr} {H H' : Hp} {v : V} (h : BadL K a w0 H v) (S : Same H H') : BadL K a w0 H' v := by
  obtain ⟨p, f, y, r, s, z, e, n, e2, nr, bf, bw, bn, br, be, bs, bz, k, b⟩ := h
  exact ⟨p, f, y, r, s, z, e, n, S _ _ e2, nr, bf, bw, bn, br, be, bs, bz, k.same S, b⟩
theorem BadL.but3 {K : PySem.W.Frag} {a : Ad} {w0 : Addr} {H H' : Hp} {v : V} (h : BadL K a w0 H v) (W0 : Well3 H w0) (W : Well3 H' w0) (S : But w0 H H') : BadL K a w0 H' v := by
  obtain ⟨p, f, y, r, s, z, e, n, e2, nr, bf, bw, bn, br, be, bs, bz, k, b⟩ := h
  exact ⟨p, f, y, r, s, z, e, n, S _ _ n e2, nr, bf, bw, bn, br, be, bs, bz, k.but3 nr W0 W S, b⟩
theorem BadR.same {K : PySem.W.Frag} {w0 : Addr} {H H' : Hp} {v : V} (h : BadR K w0 H v) (S : Same H H') : BadR K w0 H' v := by
  obtain ⟨p, m, t, o, e, n, e2, h1, h2, h3, b⟩ := h
  exact ⟨p, m, t, o, e, n, S _ _ e2, h1.same S, h2.same S, h3.same S, b⟩
theorem BadR.but3 {K : PySem.W.Frag} {w0 : Addr} {H H' : Hp} {v : V} (h : BadR K w0 H v) (W0 : Well3 H w0) (W : Well3 H' w0) (S : But w0 H H') : BadR K w0 H' v := by
  obtain ⟨p, m, t, o, e, n, e2, h1, h2, h3, b⟩ := h
  exact ⟨p, m, t, o, e, n, S _ _ n e2, h1.but3 W0 W S, h2.but3 W0 W S, h3.but W S, b⟩
def WyC (a : Ad) (C : Addr) : Prop := C = a.Now ∨ C = a.Hour ∨ C = a.Day
def toOk (z : V) : Prop := z = .non ∨ ∃ u, z = .str u ∧ goodN u
def rFs (x y z : V) : List (Str × V) := [("minutes", x), ("times", y), ("to", z)]
def lFs (f y r s z : V) : List (Str × V) := [("fit", f), ("way", y), ("roads", r), ("sure", s), ("raised", z)]
theorem putF_new {k : Str} {v : V} : ∀ {fs : List (Str × V)}, (∀ q ∈ fs, q.1 ≠ k) → putF k v fs = fs ++ [(k, v)]
  | [], _ => rfl
  | (k0, v0) :: fs, h => by
    show (if k0 = k then _ else _ : List (Str × V)) = _
    rw [if_neg (h (k0, v0) List.mem_cons_self), putF_new fun q hq => h q (List.mem_cons_of_mem _ hq)]
    rfl
def sp_is_whole (K : PySem.W.Frag) (a : Ad) : Sp := fun vs H Q E => ∃ x, vs = [x] ∧ okI K H x ∧ Q (.bl (wholeV x)) H
def sp_is_whole_between (K : PySem.W.Frag) (a : Ad) : Sp := fun vs H Q E => ∃ x lo hi, vs = [x, .int lo, .int hi] ∧ okI K H x ∧ Q (.bl (betwV x lo hi)) H
def sp_is_whole_from (K : PySem.W.Frag) (a : Ad) : Sp := fun vs H Q E => ∃ x lo, vs = [x, .int lo] ∧ okI K H x ∧ Q (.bl (fromV x lo)) H
def sp_is_minute_of_day (K : PySem.W.Frag) (a : Ad) : Sp := fun vs H Q E => ∃ x, vs = [x] ∧ okI K H x ∧ Q (.bl (betwV x 0 1439)) H
def sp_check_minute_of_hour (K : PySem.W.Frag) (a : Ad) : Sp := fun vs H Q E => ∃ i : Int, vs = [.int i] ∧ 0 ≤ i ∧ i ≤ 59 ∧ Q .non H
def sp_check_minute_of_day (K : PySem.W.Frag) (a : Ad) : Sp := fun vs H Q E => ∃ i : Int, vs = [.int i] ∧ 0 ≤ i ∧ i ≤ 1439 ∧ Q .non H
def sp_is_name (K : PySem.W.Frag) (a : Ad) : Sp := fun vs H Q E => ∃ x, vs = [x] ∧ okN H x ∧ ∀ H', Same H H' → Q (.bl (nameB x)) H'
def sp_are_unlike_names (K : PySem.W.Frag) (a : Ad) : Sp := fun vs H Q E => ∃ (x : V) (b : Bool), vs = [x] ∧ NmIs K H x b ∧ ∀ H', Same H H' → Q (.bl b) H'
def sp_Least___init__ (K : PySem.W.Frag) (a : Ad) : Sp := fun vs H Q E => ∃ (p dx : Addr) (n : Int), vs = [.ref p, .int n] ∧ H p = some (.ins a.Least dx []) ∧ 0 ≤ n ∧ Q .non (upd H p (.ins a.Least dx [("weight", .int n)]))
def sp_Hour___init__ (K : PySem.W.Frag) (a : Ad) : Sp := fun vs H Q E => ∃ (p dx : Addr) (i : Int), vs = [.ref p, .int i] ∧ H p = some (.ins a.Hour dx []) ∧ 0 ≤ i ∧ i ≤ 59 ∧ Q .non (upd H p (.ins a.Hour dx [("minute", .int i)]))
def sp_Day___init__ (K : PySem.W.Frag) (a : Ad) : Sp := fun vs H Q E => ∃ (p dx : Addr) (i : Int), vs = [.ref p, .int i] ∧ H p = some (.ins a.Day dx []) ∧ 0 ≤ i ∧ i ≤ 1439 ∧ Q .non (upd H p (.ins a.Day dx [("minute", .int i)]))
def sp_Raised___init__ (K : PySem.W.Frag) (a : Ad) : Sp := fun vs H Q E => ∃ (p dx : Addr) (x y z : V), vs = [.ref p, x, y, z] ∧ H p = some (.ins a.Raised dx []) ∧ okI K H x ∧ okI K H y ∧ okN H z ∧ ((raisB x y z = true ∧ ∀ H', But p H H' → H' p = some (.ins a.Raised dx (rFs x y z)) → Q .non H') ∨ (raisB x y z = false ∧ ∀ H', Same H H' → E (.ref a.NoWish) none H'))
def sp_Line___init__ (K : PySem.W.Frag) (a : Ad) : Sp := fun vs H Q E => ∃ (p dx : Addr) (f y r s z : V) (bf bw bn br be bs bz : Bool), vs = [.ref p, f, y, r, s, z] ∧ H p = some (.ins a.Line dx []) ∧ Lk K a H f y r s z bf bw bn br be bs bz ∧ ((lineB bf bw bn br be bs bz (isTrueV s) (isNonV z) = true ∧ ∃ rp xs, r = .ref rp ∧ H rp = some (.lst xs) ∧ ∀ l H', But p H H' → H l = none → H' l = some (.lst xs) → H' p = some (.ins a.Line dx (lFs f y (.ref l) s z)) → Q .non H') ∨ (lineB bf bw bn br be bs bz (isTrueV s) (isNonV z) = false ∧ ∀ H', Same H H' → E (.ref a.NoWish) none H'))
def sp_check_by_way (K : PySem.W.Frag) (a : Ad) : Sp := fun vs H Q E => ∃ (y : V) (rp : Addr) (xs : List V) (c : Bool) (z : V) (bn : Bool), vs = [y, .ref rp, .bl c, z] ∧ okK K (.ref a.Never) H y bn ∧ H rp = some (.lst xs) ∧ ((wayB bn xs.isEmpty c (isNonV z) = true ∧ Q .non H) ∨ (wayB bn xs.isEmpty c (isNonV z) = false ∧ E (.ref a.NoWish) none H))
def sp_law_begin (K : PySem.W.Frag) (a : Ad) : Sp := fun vs H Q E => ∃ c : Int, vs = [.int c] ∧ ∀ p a b c, H p = none → Q (.ref p) (upd H p (.lst [.int a, .int b, .int c]))
def sp_law_next (K : PySem.W.Frag) (a : Ad) : Sp := fun vs H Q E => ∃ (w : Addr) (m : Int), vs = [.ref w, .int m] ∧ Well3 H w ∧ 0 < m ∧ m < 2 ^ 62 ∧ ∀ (r : Int) (H' : Hp), 0 ≤ r → r < m → Well3 H' w → But w H H' → Q (.int r) H'
def sp_law_name (K : PySem.W.Frag) (a : Ad) : Sp := fun vs H Q E => ∃ w : Addr, vs = [.ref w] ∧ Well3 H w ∧ ∀ (u : Str) (H' : Hp), goodN u → Well3 H' w → But w H H' → Q (.str u) H'
def sp_law_roads (K : PySem.W.Frag) (a : Ad) : Sp := fun vs H Q E => ∃ (w : Addr), vs = [.ref w] ∧ Well3 H w ∧ ∀ (p : Addr) (us : List Str) (H' : Hp), us ≠ [] → us.length ≤ 5 → (∀ u ∈ us, goodN u) → us.Nodup → Well3 H' w → But w H H' → H p = none → H' p = some (.lst (us.map V.str)) → Q (.ref p) H'
def sp_law_refused (K : PySem.W.Frag) (a : Ad) : Sp := fun vs H Q E => ∃ (wd : Str) (x : V) (w0 : Addr), vs = [.str wd, x] ∧ ((wd = "raised" ∧ BadR K w0 H x) ∨ (wd = "line" ∧ BadL K a w0 H x)) ∧ ∀ H', Same H H' → Q (.bl true) H'
def sp_law_put (K : PySem.W.Frag) (a : Ad) : Sp := fun vs H Q E => ∃ (g : Addr) (i : Int) (x : V) (xs : List V), vs = [.ref g, .int i, x] ∧ H g = some (.lst xs) ∧ 0 ≤ i ∧ i < xs.length ∧ xs.length ≤ 100 ∧ ∀ (p : Addr) (H' : Hp), Same H H' → H p = none → H' p = some (.lst (xs.set i.toNat x)) → Q (.ref p) H'
def sp_law_odd_raised (K : PySem.W.Frag) (a : Ad) : Sp := fun vs H Q E => ∃ (m t : Int) (o : V) (w0 : Addr), vs = [.int m, .int t, o] ∧ 1 ≤ m ∧ m < 1000001 ∧ 0 ≤ t ∧ t < 1000000 ∧ toOk o ∧ Well3 H w0 ∧ ∀ (p : Addr) (xs : List V) (H' : Hp), Same H H' → H p = none → H' p = some (.lst xs) → 0 < xs.length → xs.length ≤ 100 → (∀ x ∈ xs, BadR K w0 H' x) → Q (.ref p) H'
def sp_law_odd_line (K : PySem.W.Frag) (a : Ad) : Sp := fun vs H Q E => ∃ (fp yp rp zp w0 C d1 d2 d3 : Addr) (f1 f2 f3 : List (Str × V)) (us : List Str), vs = [.ref fp, .ref yp, .ref rp, .ref zp] ∧ H fp = some (.ins a.Least d1 f1) ∧ H yp = some (.ins C d2 f2) ∧ WyC a C ∧ H zp = some (.ins a.Raised d3 f3) ∧ H rp = some (.lst (us.map V.str)) ∧ us ≠ [] ∧ us.length ≤ 5 ∧ (∀ u ∈ us, goodN u) ∧ us.Nodup ∧ Well3 H w0 ∧ rp ≠ w0 ∧ ∀ (p : Addr) (xs : List V) (H' : Hp), Same H H' → H p = none → H' p = some (.lst xs) → 0 < xs.length → xs.length ≤ 100 → (∀ x ∈ xs, BadL K a w0 H' x) → Q (.ref p) H'
def sp_law_line_right (K : PySem.W.Frag) (a : Ad) : Sp := fun vs H Q E => ∃ (lp fp lr rp dl dw : Addr) (n : Int) (y s z : V) (us : List Str) (b : Bool) (v : V), vs = [.ref lp, .int n, .ref rp, .bl b, v] ∧ H lp = some (.ins a.Line dl (lFs (.ref fp) y (.ref lr) (.bl b) z)) ∧ H fp = some (.ins a.Least dw [("weight", .int n)]) ∧ H lr = some (.lst (us.map V.str)) ∧ H rp = some (.lst (us.map V.str)) ∧ us.length ≤ 100 ∧ (∀ u ∈ us, goodN u) ∧ ((v = .non ∧ z = .non) ∨ ∃ (zp d vp : Addr) (m t : Int) (o : V), z = .ref zp ∧ v = .ref vp ∧ toOk o ∧ H zp = some (.ins a.Raised d (rFs (.int m) (.int t) o)) ∧ H vp = some (.tup [.int m, .int t, o])) ∧ ∀ H', Same H H' → Q (.bl true) H'
def spL (K : PySem.W.Frag) : Sp := fun vs H Q _ => ∃ (a : Addr) (ns : List Int), vs = [.ref a] ∧ SqL K H a (ns.map V.int) ∧ ns.length ≤ 63 ∧ ∀ H', Q (.bl true) H'
abbrev sp_law (K : PySem.W.Frag) (_ : Ad) : Sp := spL K
section
variable {P : Program} {w : World} {K : PySem.W.Frag} {mg : Str → Option Value} {base : Heap} {f : Addr} {fd : FuncData} {a : Ad}
theorem drw3 {H : Hp} {w : Addr} {m : Int} {Q : VK} {E : XK} (W : Well3 H w) (h0 : 0 < m) (h1 : m < 2 ^ 62) (q : ∀ (r : Int) (H' : Hp), 0 ≤ r → r < m → Well3 H' w → But w H H' → Q (.int r) H') : sp_law_next K a [.ref w, .int m] H Q E := ⟨w, m, rfl, W, h0, h1, q⟩
theorem ok_is_whole (B : Bt K mg a)  (F : Fun K "is_whole" "is_whole" s_is_whole f fd) : FnOk P w K mg base CX0 1 f fd ["thing"] (sp_is_whole K a) := by
  refine F.ok sc_is_whole (fun vs H Q E h => ?_) (fun cdv A outer s H vs Q E hr h => ?_)
  · obtain ⟨x, rfl, _⟩ := h
    rfl
  obtain ⟨x, rfl, ⟨t, ty, ki, kb⟩, q⟩ := h
  refine ⟨_, (pss_of (qss_one (qs_ret (qe_of (pe_and (pe_callB (isiG_at (K := K) (T := "int") rfl) rfl B.isinstance PyProof.Rows.boot_isinstance (pa_of (qa_c (pv 0) (qa_c (pe_bltn (v := .ty "int") rfl B.int PyProof.Rows.boot_int rfl) qa_nil))) (he := star_plain _ _ _ rfl) (hpl := plain_any rfl)) (pe_one (pe_not (pe_callB (isiG_at (K := K) (T := "bool") rfl) rfl B.isinstance PyProof.Rows.boot_isinstance (pa_of (qa_c (pv 0) (qa_c (pe_bltn (v := .ty "bool") rfl B.bool PyProof.Rows.boot_bool rfl) qa_nil))) (he := star_plain _ _ _ rfl) (hpl := plain_any rfl))))))))), ?_⟩
  walk_at "w0"
  refine ⟨x, t, _, rfl, ty, ki, ?_⟩
  walk_at "w0"
  cases x <;> try simp only [isIntV, wholeV, w_seq, w_next, w_ifS, w_ret, w_retN, w_drop, w_asg, w_gName, w_gSub, w_var, w_c, w_op, w_un, w_rU, w_rI0, w_rI, w_test, w_b, w_and, w_or, w_not, w_andV, w_orV, w_notV, w_if, w_cons, w_nil, w_tup, w_lst, w_call, w_cB, w_eq, w_ne, w_isN, w_notN, w_chain, w_sl, w_part, w_noPart, w_forL, w_for1, w_for2, w_K, w_for3, w_isnotB, w_raise, w_try, w_KX, w_cut, w_compL, w_comp1, w_comp2, w_yes, w_pick0, w_pickN, w_pickS, w_bm, w_bm0, w_tyS, w_addS, w_slS, w_blkK, w_strs, w_methD, w_makeN, w_make, w_fld, w_gTup, w_gCons, w_gNil, w_sFld, w_compS, w_tryB, w_bmake, w_noKeys, w_bIf, w_nev, w_never, Option.getD_some,  exists_const, false_or, or_false, exists_false, w_s1, w_s2, w_s3, w_s4, w_s5, L2.start, List.map_cons, List.map_nil, List.length_cons, List.length_nil, List.replicate, List.replicate_zero, List.replicate_succ, Nat.reduceAdd, Nat.reduceSub, Nat.reduceLeDiff, List.cons_append, List.nil_append, List.append_nil, List.set_cons_zero, List.set_cons_succ, List.getElem?_cons_zero, List.getElem?_cons_succ, Option.some.injEq, V.int.injEq, V.bl.injEq, V.ref.injEq, V.str.injEq, V.ty.injEq, List.cons.injEq, and_true, true_and, exists_eq_left, exists_eq_left', exists_and_left, exists_eq, exists_eq', and_self, decide_eq_true_eq, Bool.not_eq_true', decide_eq_false_iff_not, Bool.true_eq_false, Bool.false_eq_true, if_true, if_false, ite_true, ite_false, false_and, and_false, and_assoc, reduceCtorEq] at * <;> first | exact q | exact ⟨_, t, _, rfl, ty, kb, q⟩ | (refine ⟨_, t, _, rfl, ty, kb, ?_⟩; simpa [isBoolV] using q)
theorem ok_is_whole_from (B : Bt K mg a) (C_is_whole : CalX P w K mg base "is_whole" ["thing"] 1 (sp_is_whole K a)) (F : Fun K "is_whole_from" "is_whole_from" s_is_whole_from f fd) : FnOk P w K mg base CX0 2 f fd ["thing", "least"] (sp_is_whole_from K a) := by
  refine F.ok sc_is_whole_from (fun vs H Q E h => ?_) (fun cdv A outer s H vs Q E hr h => ?_)
  · obtain ⟨x, lo, rfl, _⟩ := h
    rfl
  obtain ⟨x, lo, rfl, ox, q⟩ := h
  refine ⟨_, (pss_of (qss_one (qs_ret (qe_of (pe_and (pe_calN C_is_whole (hr.mono (by decide)) rfl (pa_of (qa_c (pv 0) qa_nil)) (he := star_plain _ _ _ rfl) (hpl := plain_any rfl)) (pe_one (pe_cmpR op_le (pv 1) (pv 0) (nomark _)))))))), ?_⟩
  walk_at "w0"
  refine ⟨x, rfl, ox, ?_⟩
  cases x <;> simp_all [wholeV, fromV]
theorem ok_is_whole_between (B : Bt K mg a) (C_is_whole : CalX P w K mg base "is_whole" ["thing"] 1 (sp_is_whole K a)) (F : Fun K "is_whole_between" "is_whole_between" s_is_whole_between f fd) : FnOk P w K mg base CX0 2 f fd ["thing", "least", "most"] (sp_is_whole_between K a) := by
  refine F.ok sc_is_whole_between (fun vs H Q E h => ?_) (fun cdv A outer s H vs Q E hr h => ?_)
  · obtain ⟨x, lo, hi, rfl, _⟩ := h
    rfl
  obtain ⟨x, lo, hi, rfl, ox, q⟩ := h
  refine ⟨_, (pss_of (qss_one (qs_ret (qe_of (pe_and (pe_calN C_is_whole (hr.mono (by decide)) rfl (pa_of (qa_c (pv 0) qa_nil)) (he := star_plain _ _ _ rfl) (hpl := plain_any rfl)) (pe_and (pe_cmpR op_le (pv 1) (pv 0) (nomark _)) (pe_one (pe_cmpR op_le (pv 0) (pv 2) (nomark _))))))))), ?_⟩
  walk_at "w0"
  refine ⟨x, rfl, ox, ?_⟩
  cases x <;> simp_all [wholeV, betwV]
  split <;> simp_all
theorem ok_is_minute_of_day (B : Bt K mg a) (C_is_whole_between : CalX P w K mg base "is_whole_between" ["thing", "least", "most"] 2 (sp_is_whole_between K a)) (F : Fun K "is_minute_of_day" "is_minute_of_day" s_is_minute_of_day f fd) : FnOk P w K mg base CX0 3 f fd ["thing"] (sp_is_minute_of_day K a) := by
  refine F.ok sc_is_minute_of_day (fun vs H Q E h => ?_) (fun cdv A outer s H vs Q E hr h => ?_)
  · obtain ⟨x, rfl, _⟩ := h
    rfl
  obtain ⟨x, rfl, ox, q⟩ := h
  refine ⟨_, (pss_of (qss_one (qs_ret (qe_of (pe_calN C_is_whole_between (hr.mono (by decide)) rfl (pa_of (qa_c (pv 0) (qa_c pe_int (qa_c (pe_op op_sub (pe_glob (v := .int 1440) rfl B.MINUTES_OF_DAY ⟨_, rfl⟩) pe_int) qa_nil)))) (he := star_plain _ _ _ rfl) (hpl := plain_any rfl)))))), ?_⟩
  walk_at "w0"
  exact ⟨x, 0, 1440 - 1, rfl, ox, q⟩
theorem ok_check_minute_of_hour (B : Bt K mg a) (C_is_whole_between : CalX P w K mg base "is_whole_between" ["thing", "least", "most"] 2 (sp_is_whole_between K a)) (F : Fun K "check_minute_of_hour" "check_minute_of_hour" s_check_minute_of_hour f fd) : FnOk P w K mg base CX0 3 f fd ["minute"] (sp_check_minute_of_hour K a) := by
  refine F.ok sc_check_minute_of_hour (fun vs H Q E h => ?_) (fun cdv A outer s H vs Q E hr h => ?_)
  · obtain ⟨i, rfl, _⟩ := h
    rfl
  obtain ⟨i, rfl, i0, i1, q⟩ := h
  refine ⟨_, (pss_of (qss_one (qs_if (pt_not (pt_val (pe_calN C_is_whole_between (hr.mono (by decide)) rfl (pa_of (qa_c (pv 0) (qa_c pe_int (qa_c (pe_op op_sub (pe_glob (v := .int 60) rfl B.MINUTES_OF_HOUR ⟨_, rfl⟩) pe_int) qa_nil)))) (he := star_plain _ _ _ rfl) (hpl := plain_any rfl)))) (qss_of pss_never) qss_nil))), ?_⟩
  have e : betwV (.int i) 0 (60 - 1) = true := by simp only [betwV, Bool.and_eq_true, decide_eq_true_eq]; omega
  walk_at "w0"
  refine ⟨_, _, _, rfl, ⟨_, .int i, by kernel_rfl, by kernel_rfl⟩, ?_⟩
  exists e
  exact q
theorem ok_check_minute_of_day (B : Bt K mg a) (C_is_minute_of_day : CalX P w K mg base "is_minute_of_day" ["thing"] 3 (sp_is_minute_of_day K a)) (F : Fun K "check_minute_of_day" "check_minute_of_day" s_check_minute_of_day f fd) : FnOk P w K mg base CX0 4 f fd ["minute"] (sp_check_minute_of_day K a) := by
  refine F.ok sc_check_minute_of_day (fun vs H Q E h => ?_) (fun cdv A outer s H vs Q E hr h => ?_)
  · obtain ⟨i, rfl, _⟩ := h
    rfl
  obtain ⟨i, rfl, i0, i1, q⟩ := h
  refine ⟨_, (pss_of (qss_one (qs_if (pt_not (pt_val (pe_calN C_is_minute_of_day (hr.mono (by decide)) rfl (pa_of (qa_c (pv 0) qa_nil)) (he := star_plain _ _ _ rfl) (hpl := plain_any rfl)))) (qss_of pss_never) qss_nil))), ?_⟩
  have e : betwV (.int i) 0 1439 = true := by simp only [betwV, Bool.and_eq_true, decide_eq_true_eq]; omega
  walk_at "w0"
  refine ⟨_, rfl, ⟨_, .int i, by kernel_rfl, by kernel_rfl⟩, ?_⟩
  exists e
  exact q
theorem ok_is_name (B : Bt K mg a)  (F : Fun K "is_name" "is_name" s_is_name f fd) : FnOk P w K mg base CX0 1 f fd ["thing"] (sp_is_name K a) := by
  refine F.ok sc_is_name (fun vs H Q E h => ?_) (fun cdv A outer s H vs Q E hr h => ?_)
  · obtain ⟨x, rfl, _⟩ := h
    rfl
  obtain ⟨x, rfl, ox, q⟩ := h
  refine ⟨_, (pss_of (qss_cons (qs_if (L2.PW.pt (pw_or (pt_not (pt_val (pe_callB call_isi_str rfl B.isinstance PyProof.Rows.boot_isinstance (pa_of (qa_c (pv 0) (qa_c (pe_bltn (v := .ty "str") rfl B.str PyProof.Rows.boot_str rfl) qa_nil))) (he := star_plain _ _ _ rfl) (hpl := plain_any rfl)))) (pw_or (pt_cmpR op_lt (pe_callB call_len_str rfl B.len PySem.boot_len (pa_of (qa_c (pv 0) qa_nil))) pe_int (nomark _)) (pw_or1 (pt_cmpR op_gt (pe_callB call_len_str rfl B.len PySem.boot_len (pa_of (qa_c (pv 0) qa_nil))) (pe_glob (v := .int 8) rfl B.MOST_LETTERS ⟨_, rfl⟩) (nomark _)))))) (qss_one (qs_ret (qe_of pe_bl))) qss_nil) (qss_one (qs_ret (qe_of (pe_callB (call_all rfl) rfl B.all PyProof.Rows.boot_all (pa_of (qa_c (pe_compB ["sign"] [none] rfl (by kernel_rfl) (pi_str (pv 0)) (fun cl C s H fp => ⟨(pg_name (i := 0) (by decide : List.Nodup (["sign"] : List Str)) rfl (Or.inl (by kernel_rfl)) (Or.inr (by kernel_rfl))), pts_nil, (pe_cmpR op_in_str (pv 0 (hv := Or.inl (by kernel_rfl))) (pe_glob (v := .str "abcdefghijklmnopqrstuvwxyz") (gl_of (by kernel_rfl)) B.LETTERS ⟨_, rfl⟩) (by with_unfolding_all rfl))⟩)) qa_nil)) (he := star_plain _ _ _ rfl) (hpl := plain_any rfl))))))), ?_⟩
  cases x with
  | str u =>
    obtain ⟨hp, hl⟩ := id ox
    exists isStrV
    refine ⟨ox, sz8 hl, ?_⟩
    by_cases h1 : ((u.length : Nat) : Int) < 1
    · rw [if_pos h1]
      have e : nameB (.str u) = false := decide_eq_false fun g => by have := g.1; omega
      rw [e] at q
      exact q _ fun _ _ z => z
    rw [if_neg h1]
    refine ⟨sz8 hl, ?_⟩
    by_cases h2 : (8 : Int) < ((u.length : Nat) : Int)
    · rw [if_pos h2]
      have e : nameB (.str u) = false := decide_eq_false fun g => by have := g.2.1; omega
      rw [e] at q
      exact q _ fun _ _ z => z
    rw [if_neg h2]
    refine ⟨hp, ?_⟩
    refine CompS.by (fun i acc σ H' => acc = (u.cps.toList.take i).map (fun c => V.bl (!(Builtin.Str.occurrences letters ⟨#[c]⟩ 0 letters.length 1).isEmpty)) ∧ (∃ v, σ = [v]) ∧ H' = H) (sz8 hl) ⟨rfl, ⟨_, rfl⟩, rfl⟩ ?_ ?_ ?_
    · rintro i c acc σ H' hc ⟨rfl, ⟨v, rfl⟩, rfl⟩
      have hc' : u.cps.toList[i]? = some c := by simpa using hc
      have ea : (u.cps.toList.take i).map (fun c => V.bl (!(Builtin.Str.occurrences letters ⟨#[c]⟩ 0 letters.length 1).isEmpty)) ++ [V.bl (!(Builtin.Str.occurrences letters ⟨#[c]⟩ 0 letters.length 1).isEmpty)] = (u.cps.toList.take (i + 1)).map (fun c => V.bl (!(Builtin.Str.occurrences letters ⟨#[c]⟩ 0 letters.length 1).isEmpty)) := by
        rw [List.take_succ, hc', List.map_append]
        rfl
      walk_at "w0"
      first | exact ea | exact ⟨ea, ⟨_, rfl⟩, rfl⟩
    · rintro i acc σ H' ⟨rfl, _, _⟩
      rw [List.length_map, List.length_take]
      omega
    · rintro acc σ H' ⟨rfl, ⟨v, rfl⟩, rfl⟩ D hD
      have e : (u.cps.toList.take u.cps.size).map (fun c => V.bl (!(Builtin.Str.occurrences letters ⟨#[c]⟩ 0 letters.length 1).isEmpty)) = (u.cps.toList.map fun c => !(Builtin.Str.occurrences letters ⟨#[c]⟩ 0 letters.length 1).isEmpty).map V.bl := by
        rw [List.take_of_length_le (by simp), List.map_map]
        rfl
      rw [e]
      refine ⟨D, rfl, _, SqL.of upd_same, ?_⟩
      have e2 : nameB (.str u) = decide (∀ c ∈ u.cps.toList, 97 ≤ c ∧ c ≤ 122) := by
        rw [Bool.eq_iff_iff]
        refine ⟨fun g => ?_, fun g => ?_⟩
        · have g' : goodN u := of_decide_eq_true g
          exact decide_eq_true g'.2.2
        · exact decide_eq_true (p := goodN u) ⟨by omega, by omega, of_decide_eq_true g⟩
      rw [name_all hp, ← e2]
      exact q _ (same_new hD _)
  | non =>
    exists isStrV
    exact ⟨ox, q _ fun _ _ z => z⟩
  | bl b =>
    exists isStrV
    exact ⟨ox, q _ fun _ _ z => z⟩
  | int b =>
    exists isStrV
    exact ⟨ox, q _ fun _ _ z => z⟩
  | ref b =>
    exists isStrV
    exact ⟨ox, q _ fun _ _ z => z⟩
  | _ => exact ox.elim
theorem ok_law_begin (B : Bt K mg a)  (F : Fun K "_law_begin" "_law_begin" s_law_begin f fd) : FnOk P w K mg base CX0 1 f fd ["_law_cell"] (sp_law_begin K a) := by
  refine F.ok sc_law_begin (fun vs H Q E h => ?_) (fun cdv A outer s H vs Q E hr h => ?_)
  · obtain ⟨c, rfl, _⟩ := h
    rfl
  obtain ⟨c, rfl, q⟩ := h
  refine ⟨_, (pss_of (qss_one (qs_ret (qe_lst (qa_c (pe_op op_mul (pe_op op_fdivL (pv 0) pe_int) (pe_op op_sub pe_int (pe_op op_mod (pv 0) pe_int))) (qa_c (pe_op op_mod (pv 0) pe_int) (qa_c pe_int qa_nil))))))), ?_⟩
  walk_at "w0"
  exact ⟨⟨by decide, by decide⟩, by decide, .inr ⟨by omega, by omega⟩, by decide, by decide, fun p hp => q p _ _ _ hp⟩
theorem ok_law_next (B : Bt K mg a)  (F : Fun K "_law_next" "_law_next" s_law_next f fd) : FnOk P w K mg base CX0 1 f fd ["_law_state", "_law_base"] (sp_law_next K a) := by
  refine F.ok sc_law_next (fun vs H Q E h => ?_) (fun cdv A outer s H vs Q E hr h => ?_)
  · obtain ⟨wl, m, rfl, _⟩ := h
    rfl
  obtain ⟨wl, m, rfl, ⟨a, b, c, hw⟩, m0, m1, q⟩ := h
  refine ⟨_, (pss_of (qss_cons (qs_if (pt_cmpR op_gt (pe_ix ix_list (pv 0) pe_int (fun _ _ => rfl)) pe_int (nomark _)) (qss_cons (qs_set (i := 2) sc_law_next.nd rfl (Or.inl rfl) (qe_of (pe_op op_mod (pe_ix ix_list (pv 0) pe_int (fun _ _ => rfl)) (pv 1))) (by kernel_rfl)) (qss_cons (qs_of (ps_asg (pe_op op_fdivL (pe_ix ix_list (pv 0) pe_int (fun _ _ => rfl)) (pv 1)) (pg_sub (pv 0) pe_int set_list))) (qss_one (qs_ret (qe_of (pv 2)))))) qss_nil) (qss_cons (qs_of (ps_asg (pe_op op_add (pe_ix ix_list (pv 0) pe_int (fun _ _ => rfl)) pe_int) (pg_sub (pv 0) pe_int set_list))) (qss_cons (qs_set (i := 3) sc_law_next.nd rfl (Or.inl rfl) (qe_of (pe_op op_mod (pe_op op_mul (pe_op op_add (pe_op op_add (pe_ix ix_list (pv 0) pe_int (fun _ _ => rfl)) (pe_op op_mul pe_int (pe_ix ix_list (pv 0) pe_int (fun _ _ => rfl)))) pe_int) pe_int) pe_int)) (by kernel_rfl)) (qss_cons (qs_set (i := 3) sc_law_next.nd rfl (Or.inl rfl) (qe_of (pe_op op_mod (pe_op op_mul (pv 3) (pe_op op_add (pe_op op_fdivL (pv 3) pe_int) pe_int)) pe_int)) (by kernel_rfl)) (qss_cons (qs_set (i := 3) sc_law_next.nd rfl (Or.inl rfl) (qe_of (pe_op op_mod (pe_op op_mul (pv 3) (pe_op op_add (pe_op op_fdivL (pv 3) pe_int) pe_int)) pe_int)) (by kernel_rfl)) (qss_one (qs_ret (qe_of (pe_op op_mod (pe_op op_fdivL (pv 3) pe_int) (pv 1))))))))))), ?_⟩
  have em : ∀ x k : Int, 0 < k → 0 ≤ x % k ∧ x % k < k := fun x k h => ⟨Int.emod_nonneg _ (by omega), Int.emod_lt_of_pos _ h⟩
  walk_at "w0"
  refine ixl (SqL.of hw) (v := .int a) rfl ?_
  walk_at "w0"
  split
  · refine ixl (SqL.of hw) (v := .int a) rfl ?_
    walk_at "w0"
    refine ⟨m0, ?_⟩
    refine ixl (SqL.of hw) (v := .int a) rfl ?_
    walk_at "w0"
    refine ⟨⟨m0, m1⟩, ?_⟩
    refine setl hw (j := 0) rfl ?_
    exact q _ _ (em a m m0).1 (em a m m0).2 ⟨_, _, _, upd_same⟩ (But.upd _)
  · refine ixl (SqL.of hw) (v := .int c) rfl ?_
    walk_at "w0"
    refine setl hw (j := 2) rfl ?_
    refine ixl (SqL.of upd_same) (v := .int b) rfl ?_
    refine ixl (SqL.of upd_same) (v := .int (c + 1)) rfl ?_
    walk_at "w0"
    generalize hn1 : (b + 7919 * (c + 1) + 1) * 48271 % 2147483647 = n1
    have b1 : 0 ≤ n1 ∧ n1 < 2147483647 := hn1 ▸ em _ _ (by decide)
    generalize hn2 : n1 * (n1 / 1009 + 69621) % 2147483647 = n2
    have b2 : 0 ≤ n2 ∧ n2 < 2147483647 := hn2 ▸ em _ _ (by decide)
    refine ⟨.inl ⟨by decide, by decide⟩, .inr ⟨by decide, by decide⟩, by decide, ⟨by decide, by decide⟩, .inl ⟨by omega, by omega⟩, by decide, ⟨by decide, by decide⟩, .inl ⟨by omega, by omega⟩, by decide, ⟨by decide, by decide⟩, m0, ?_⟩
    exact q _ _ (em _ m m0).1 (em _ m m0).2 ⟨_, _, _, upd_same⟩ (But.upd _)
theorem ok_Least___init__ (B : Bt K mg a) (C_is_whole_from : CalX P w K mg base "is_whole_from" ["thing", "least"] 2 (sp_is_whole_from K a)) (F : Fun K "__init__" "Least.__init__" s_Least___init__ f fd) : FnOk P w K mg base CX0 3 f fd ["self", "weight"] (sp_Least___init__ K a) := by
  refine F.ok sc_Least___init__ (fun vs H Q E h => ?_) (fun cdv A outer s H vs Q E hr h => ?_)
  · obtain ⟨p, dx, n, rfl, _⟩ := h
    rfl
  obtain ⟨p, dx, n, rfl, hp, n0, q⟩ := h
  refine ⟨_, (pss_of (qss_cons (qs_if (pt_not (pt_val (pe_calN C_is_whole_from (hr.mono (by decide)) rfl (pa_of (qa_c (pv 1) (qa_c pe_int qa_nil))) (he := star_plain _ _ _ rfl) (hpl := plain_any rfl)))) (qss_of pss_never) qss_nil) (qss_one (qs_of (ps_fld (pv 0) (pv 1) rfl))))), ?_⟩
  walk_at "w0"
  have e : fromV (.int n) 0 = true := decide_eq_true n0
  refine ⟨_, _, rfl, ⟨_, .int n, by kernel_rfl, by kernel_rfl⟩, ?_⟩
  exists e
  exact ⟨_, _, _, hp, B.ck_Least.cl, B.na_Least_weight, by decide, q⟩
theorem ok_Hour___init__ (B : Bt K mg a) (C_check_minute_of_hour : CalX P w K mg base "check_minute_of_hour" ["minute"] 3 (sp_check_minute_of_hour K a)) (F : Fun K "__init__" "Hour.__init__" s_Hour___init__ f fd) : FnOk P w K mg base CX0 4 f fd ["self", "minute"] (sp_Hour___init__ K a) := by
  refine F.ok sc_Hour___init__ (fun vs H Q E h => ?_) (fun cdv A outer s H vs Q E hr h => ?_)
  · obtain ⟨p, dx, i, rfl, _⟩ := h
    rfl
  obtain ⟨p, dx, i, rfl, hp, i0, i1, q⟩ := h
  refine ⟨_, (pss_of (qss_cons (qs_of (ps_expr (pe_calN C_check_minute_of_hour (hr.mono (by decide)) rfl (pa_of (qa_c (pv 1) qa_nil)) (he := star_plain _ _ _ rfl) (hpl := plain_any rfl)))) (qss_one (qs_of (ps_fld (pv 0) (pv 1) rfl))))), ?_⟩
  walk_at "w0"
  refine ⟨i, rfl, i0, i1, ?_⟩
  walk_at "w0"
  exact ⟨_, _, _, hp, B.ck_Hour.cl, B.na_Hour_minute, by decide, q⟩
theorem ok_Day___init__ (B : Bt K mg a) (C_check_minute_of_day : CalX P w K mg base "check_minute_of_day" ["minute"] 4 (sp_check_minute_of_day K a)) (F : Fun K "__init__" "Day.__init__" s_Day___init__ f fd) : FnOk P w K mg base CX0 5 f fd ["self", "minute"] (sp_Day___init__ K a) := by
  refine F.ok sc_Day___init__ (fun vs H Q E h => ?_) (fun cdv A outer s H vs Q E hr h => ?_)
  · obtain ⟨p, dx, i, rfl, _⟩ := h
    rfl
  obtain ⟨p, dx, i, rfl, hp, i0, i1, q⟩ := h
  refine ⟨_, (pss_of (qss_cons (qs_of (ps_expr (pe_calN C_check_minute_of_day (hr.mono (by decide)) rfl (pa_of (qa_c (pv 1) qa_nil)) (he := star_plain _ _ _ rfl) (hpl := plain_any rfl)))) (qss_one (qs_of (ps_fld (pv 0) (pv 1) rfl))))), ?_⟩
  walk_at "w0"
  refine ⟨i, rfl, i0, i1, ?_⟩
  walk_at "w0"
  exact ⟨_, _, _, hp, B.ck_Day.cl, B.na_Day_minute, by decide, q⟩
theorem ok_are_unlike_names (B : Bt K mg a) (C_is_name : CalX P w K mg base "is_name" ["thing"] 1 (sp_is_name K a)) (F : Fun K "are_unlike_names" "are_unlike_names" s_are_unlike_names f fd) : FnOk P w K mg base CX0 2 f fd ["thing"] (sp_are_unlike_names K a) := by
  refine F.ok sc_are_unlike_names (fun vs H Q E h => ?_) (fun cdv A outer s H vs Q E hr h => ?_)
  · obtain ⟨x, b, rfl, _⟩ := h
    rfl
  obtain ⟨x, b, rfl, hx, q⟩ := h
  refine ⟨_, (pss_of (qss_cons (qs_if (L2.PW.pt (pw_or (pt_not (pt_val (pe_callB (isiG_at (K := K) (T := "list") rfl) rfl B.isinstance PyProof.Rows.boot_isinstance (pa_of (qa_c (pv 0) (qa_c (pe_bltn (v := .ty "list") rfl B.list PyProof.Rows.boot_list rfl) qa_nil))) (he := star_plain _ _ _ rfl) (hpl := plain_any rfl)))) (pw_or1 (pt_not (pt_val (pe_callB (call_all rfl) rfl B.all PyProof.Rows.boot_all (pa_of (qa_c (pe_compB ["name"] [none] rfl (by kernel_rfl) (pi_list (pv 0)) (fun cl C s H fp => ⟨(pg_name (i := 0) (by decide : List.Nodup (["name"] : List Str)) rfl (Or.inl (by kernel_rfl)) (Or.inr (by kernel_rfl))), pts_nil, (pe_calN C_is_name (hr.mono (by decide)) (gl_of (by kernel_rfl)) (pa_of (qa_c (pv 0 (hv := Or.inl (by kernel_rfl))) qa_nil)) (he := star_plain _ _ _ rfl) (hpl := plain_any rfl))⟩)) qa_nil)) (he := star_plain _ _ _ rfl) (hpl := plain_any rfl))))))) (qss_one (qs_ret (qe_of pe_bl))) qss_nil) (qss_one (qs_ret (qe_of (pe_cmpR op_eq (pe_callB call_lenS rfl B.len PySem.boot_len (pa_of (qa_c (pe_callTy (call_setS rfl) rfl B.set PyProof.Rows.boot_set (pa_of (qa_c (pv 0) qa_nil))) qa_nil))) (pe_callB call_len_seq rfl B.len PySem.boot_len (pa_of (qa_c (pv 0) qa_nil))) (nomark _))))))), ?_⟩
  walk_at "w0"
  rcases hx with ⟨p, xs, rfl, hp, hl, hn, rfl⟩ | ⟨rfl, t, ty, e⟩
  · refine ⟨_, _, true, rfl, .lst hp, by kernel_rfl, ?_⟩
    exists Bool.not_true
    refine ⟨⟨xs, SqL.of hp⟩, ?_⟩
    refine CompL.by (xs := xs) (fun i acc σ H' => acc = ((xs.take i).map nameB).map V.bl ∧ (∃ v, σ = [v]) ∧ Same H H') (sz8 (by omega)) ⟨rfl, ⟨_, rfl⟩, fun _ _ z => z⟩ (fun i acc σ H' _ h => SqL.of (h.2.2 _ _ hp)) ?_ ?_ ?_
    · rintro i y acc σ H' hy ⟨rfl, ⟨v, rfl⟩, S1⟩
      have ea : ((xs.take i).map nameB).map V.bl ++ [V.bl (nameB y)] = ((xs.take (i + 1)).map nameB).map V.bl := by
        rw [List.take_succ, hy, List.map_append, List.map_append]
        rfl
      walk_at "w0"
      refine ⟨y, rfl, (hn y (List.mem_of_getElem? hy)).same S1, fun H2 S2 => ?_⟩
      first | exact ⟨ea, ⟨_, rfl⟩, S1.trans S2⟩ | exact ⟨ea, S1.trans S2⟩
    · rintro i acc σ H' ⟨rfl, _, _⟩
      rw [List.length_map, List.length_map, List.length_take]
      omega
    · rintro acc σ H' ⟨rfl, ⟨v, rfl⟩, S1⟩ D hD
      rw [List.take_length]
      have S2 := S1.trans (same_new hD (.lst ((xs.map nameB).map V.bl)))
      refine ⟨D, rfl, _, SqL.of upd_same, ?_⟩
      have eall : (xs.map nameB).all id = xs.all nameB := by rw [List.all_map]; rfl
      rw [eall]
      generalize upd H' D (.lst ((xs.map nameB).map V.bl)) = H2 at *
      by_cases ha : xs.all nameB = true
      · exists ha, Bool.not_true
        have es := all_str ha
        have hz : (xs.map strV).length = xs.length := List.length_map ..
        refine ⟨xs.map strV, by rw [← es]; exact SqL.of (S2 _ _ hp), by omega, fun p3 h3 => ?_⟩
        have S3 := same_new h3 (hoSet P w p3 (xs.map strV))
        refine ⟨xs.map strV, upd_same, ?_⟩
        walk_at "w0"
        refine ⟨xs, .inl (SqL.of (S3 _ _ (S2 _ _ hp))), ?_⟩
        walk_at "w0"
        have hq := q _ (S2.trans S3)
        have ed : namesB xs = decide ((((metS (xs.map strV)).length : Nat) : Int) = ((xs.length : Nat) : Int)) := by
          unfold namesB
          rw [ha, Bool.true_and]
          have := metS_all (xs.map strV)
          rw [hz] at this
          by_cases c : (xs.map strV).Nodup
          · rw [decide_eq_true c, decide_eq_true (by have := this.mpr c; omega)]
          · rw [decide_eq_false c, decide_eq_false (fun z => c (this.mp (by omega)))]
        rw [ed] at hq
        exact hq
      · have ha' := Bool.eq_false_iff.mpr ha
        exists ha', Bool.not_false
        have hq := q _ S2
        unfold namesB at hq
        rw [ha', Bool.false_and] at hq
        exact hq
  · refine ⟨x, t, false, rfl, ty, e, ?_⟩
    exists Bool.not_false
    exact q _ fun _ _ z => z
theorem ok_law_name (B : Bt K mg a) (C_law_next : CalX P w K mg base "_law_next" ["_law_state", "_law_base"] 1 (sp_law_next K a)) (F : Fun K "_law_name" "_law_name" s_law_name f fd) : FnOk P w K mg base CX0 2 f fd ["_law_state"] (sp_law_name K a) := by
  refine F.ok sc_law_name (fun vs H Q E h => ?_) (fun cdv A outer s H vs Q E hr h => ?_)
  · obtain ⟨wl, rfl, _⟩ := h
    rfl
  obtain ⟨wl, rfl, W, q⟩ := h
  refine ⟨_, (pss_of (qss_cons (qs_set (i := 1) sc_law_name.nd rfl (Or.inr rfl) (qe_of pe_str) (by kernel_rfl)) (qss_cons (qs_set (i := 2) sc_law_name.nd rfl (Or.inl rfl) (qe_of (pe_calN C_law_next (hr.mono (by decide)) rfl (pa_of (qa_c (pv 0) (qa_c pe_int qa_nil))) (he := star_plain _ _ _ rfl) (hpl := plain_any rfl))) (by kernel_rfl)) (qss_cons (qs_if (pt_cmpR op_eq (pv 2) pe_int (nomark _)) (qss_cons (qs_set (i := 3) sc_law_name.nd rfl (Or.inl rfl) (qe_lst (qa_c pe_str (qa_c pe_str (qa_c pe_str (qa_c pe_str (qa_c pe_str (qa_c pe_str (qa_c pe_str (qa_c pe_str (qa_c pe_str (qa_c pe_str (qa_c pe_str (qa_c pe_str (qa_c pe_str qa_nil)))))))))))))) (by kernel_rfl)) (qss_one (qs_ret (qe_ix ix_list (qe_op op_cat (qe_of (pv 3)) (qe_lst (qa_c pe_str (qa_c pe_str (qa_c pe_str qa_nil))))) (qe_of (pe_calN C_law_next (hr.mono (by decide)) rfl (pa_of (qa_c (pv 0) (qa_c pe_int qa_nil))) (he := star_plain _ _ _ rfl) (hpl := plain_any rfl))) (fun _ _ => rfl))))) qss_nil) (qss_cons (qs_if (pt_cmpR op_eq (pv 2) pe_int (nomark _)) (qss_cons (qs_set (i := 4) sc_law_name.nd rfl (Or.inl rfl) (qe_of (pe_slice sl_str pe_str po_none (po_some (pe_op op_add pe_int (pe_calN C_law_next (hr.mono (by decide)) rfl (pa_of (qa_c (pv 0) (qa_c pe_int qa_nil))) (he := star_plain _ _ _ rfl) (hpl := plain_any rfl)))))) (by kernel_rfl)) (qss_cons (qs_set (i := 5) sc_law_name.nd rfl (Or.inl rfl) (qe_of (pe_calN C_law_next (hr.mono (by decide)) rfl (pa_of (qa_c (pv 0) (qa_c (pe_callB call_len_str rfl B.len PySem.boot_len (pa_of (qa_c (pv 4) qa_nil))) qa_nil))) (he := star_plain _ _ _ rfl) (hpl := plain_any rfl))) (by kernel_rfl)) (qss_one (qs_ret (qe_of (pe_op op_add_str (pe_op op_add_str (pe_slice sl_str (pv 4) po_none (po_some (pv 5))) (pe_ix ix_str pe_str (pe_calN C_law_next (hr.mono (by decide)) rfl (pa_of (qa_c (pv 0) (qa_c pe_int qa_nil))) (he := star_plain _ _ _ rfl) (hpl := plain_any rfl)) (fun _ _ => rfl))) (pe_slice sl_str (pv 4) (po_some (pe_op op_add (pv 5) pe_int)) po_none))))))) qss_nil) (qss_one (qs_ret (qe_of (pe_bm PySem.F.plainAttrs_str PySem.F.slot_str_join PySem.F.type_str_join mt_join pe_str (pa_of (qa_c (pe_compB ["_law_k", "_law_letters", "_law_state"] [none, some 1, some 0] rfl (by kernel_rfl) (pi_range1 rfl B.range (pa_of (qa_c (pe_op op_add pe_int (pe_calN C_law_next (hr.mono (by decide)) rfl (pa_of (qa_c (pv 0) (qa_c pe_int qa_nil))) (he := star_plain _ _ _ rfl) (hpl := plain_any rfl))) qa_nil))) (fun cl C s H fp => ⟨(pg_name (i := 0) (by decide : List.Nodup (["_law_k", "_law_letters", "_law_state"] : List Str)) rfl (Or.inl (by kernel_rfl)) (Or.inr (by kernel_rfl))), pts_nil, (pe_ix ix_str (pv 1 (hv := Or.inr (Or.inl (by kernel_rfl)))) (pe_calN C_law_next (hr.mono (by decide)) (gl_of (by kernel_rfl)) (pa_of (qa_c (pv 2 (hv := Or.inr (Or.inl (by kernel_rfl)))) (qa_c pe_int qa_nil))) (he := star_plain _ _ _ rfl) (hpl := plain_any rfl)) (fun _ _ => rfl))⟩)) qa_nil))))))))))), ?_⟩
  walk_at "w0"
  refine drw3 W (by decide) (by decide) fun r1 H1 a1 b1 W1 B1 => ?_
  walk_at "w0"
  by_cases h0 : r1 = 0
  · rw [if_pos h0]
    refine ⟨sz8 (by decide), fun p hp => ?_⟩
    have S1 := same_new hp (.lst [.str "any", .str "kind", .str "place", .str "weight", .str "not", .str "by", .str "now", .str "hour", .str "day", .str "never", .str "sure", .str "raise", .str "zone"])
    have e1 : upd H1 p (.lst [.str "any", .str "kind", .str "place", .str "weight", .str "not", .str "by", .str "now", .str "hour", .str "day", .str "never", .str "sure", .str "raise", .str "zone"]) p = some (.lst [.str "any", .str "kind", .str "place", .str "weight", .str "not", .str "by", .str "now", .str "hour", .str "day", .str "never", .str "sure", .str "raise", .str "zone"]) := upd_same
    generalize upd H1 p (.lst [.str "any", .str "kind", .str "place", .str "weight", .str "not", .str "by", .str "now", .str "hour", .str "day", .str "never", .str "sure", .str "raise", .str "zone"]) = H2 at *
    refine ⟨sz8 (by decide), fun p2 hp2 => ?_⟩
    have S2 := same_new hp2 (.lst [.str "quiet", .str "a", .str "to"])
    have e2 : upd H2 p2 (.lst [.str "quiet", .str "a", .str "to"]) p2 = some (.lst [.str "quiet", .str "a", .str "to"]) := upd_same
    have e1' := S2 _ _ e1
    generalize upd H2 p2 (.lst [.str "quiet", .str "a", .str "to"]) = H3 at *
    refine ⟨p, p2, [.str "any", .str "kind", .str "place", .str "weight", .str "not", .str "by", .str "now", .str "hour", .str "day", .str "never", .str "sure", .str "raise", .str "zone"], [.str "quiet", .str "a", .str "to"], rfl, rfl, e1', e2, sz8 (by decide), fun p3 hp3 => ?_⟩
    have S3 := same_new hp3 (.lst ([.str "any", .str "kind", .str "place", .str "weight", .str "not", .str "by", .str "now", .str "hour", .str "day", .str "never", .str "sure", .str "raise", .str "zone"] ++ [.str "quiet", .str "a", .str "to"]))
    have e3 : upd H3 p3 (.lst ([.str "any", .str "kind", .str "place", .str "weight", .str "not", .str "by", .str "now", .str "hour", .str "day", .str "never", .str "sure", .str "raise", .str "zone"] ++ [.str "quiet", .str "a", .str "to"])) p3 = some (.lst ([.str "any", .str "kind", .str "place", .str "weight", .str "not", .str "by", .str "now", .str "hour", .str "day", .str "never", .str "sure", .str "raise", .str "zone"] ++ [.str "quiet", .str "a", .str "to"])) := upd_same
    have n3 := (W1.same (S1.trans S2)).ne hp3
    generalize upd H3 p3 (.lst ([.str "any", .str "kind", .str "place", .str "weight", .str "not", .str "by", .str "now", .str "hour", .str "day", .str "never", .str "sure", .str "raise", .str "zone"] ++ [.str "quiet", .str "a", .str "to"])) = H4 at *
    have SS := S1.trans (S2.trans S3)
    refine drw3 (W1.same SS) (by decide) (by decide) fun r4 H5 a4 b4 W5 B5 => ?_
    have e5 := B5 p3 _ n3 e3
    obtain ⟨v, hv, ev⟩ := at_memV (xs := ([.str "any", .str "kind", .str "place", .str "weight", .str "not", .str "by", .str "now", .str "hour", .str "day", .str "never", .str "sure", .str "raise", .str "zone"] : List V) ++ [.str "quiet", .str "a", .str "to"]) a4 (by simp only [List.length_append, List.length_cons, List.length_nil]; omega)
    refine ixl (SqL.of e5) ev ?_
    obtain ⟨u, rfl, g⟩ : ∃ u, v = .str u ∧ goodN u := by
      simp only [List.cons_append, List.nil_append, List.mem_cons, List.not_mem_nil, or_false] at hv
      rcases hv with rfl | rfl | rfl | rfl | rfl | rfl | rfl | rfl | rfl | rfl | rfl | rfl | rfl | rfl | rfl | rfl <;> exact ⟨_, rfl, by decide +kernel⟩
    exact q u H5 g W5 (B1.trans ((Same.but SS).trans B5))
  rw [if_neg h0]
  by_cases h1 : r1 = 1
  · rw [if_pos h1]
    refine drw3 W1 (by decide) (by decide) fun r2 H2 a2 b2 W2 B2 => ?_
    walk_at "w0"
    have e8 : Str.ofString "bcdefghi" = w8 := rfl
    have e3 : Str.ofString "axz" = axz := rfl
    rw [e8]
    have hw := way_len a2 b2
    have hl : (Txt.slice w8 none (some (1 + r2))).length ≤ 8 := slice_le8 w8 (by decide) _ _
    refine ⟨sz8 (by decide), sz8 (by omega), ?_⟩
    refine drw3 W2 (by rw [hw]; omega) (by rw [hw]; omega) fun r3 H3 a3 b3 W3 B3 => ?_
    have b3' : r3 < r2 + 1 := by rw [hw] at b3; omega
    walk_at "w0"
    refine ⟨sz8 (by omega), ?_⟩
    refine drw3 W3 (by decide) (by decide) fun r4 H4 a4 b4 W4 B4 => ?_
    obtain ⟨c, ec, gd⟩ := way_good a2 b2 a3 b3' a4 b4
    refine ixs (u := axz) (sz8 (by decide)) ec ?_
    walk_at "w0"
    have l1 := slice_le8 (Txt.slice w8 none (some (1 + r2))) hl none (some r3)
    have l2 := slice_le8 (Txt.slice w8 none (some (1 + r2))) hl (some (r3 + 1)) none
    have l3 : (⟨#[c]⟩ : Str).length = 1 := rfl
    refine ⟨sz8 (by rw [l3]; omega), sz8 (by omega), sz8 (by rw [Str.length_append, l3]; omega), ?_⟩
    exact q _ H4 gd W4 (B1.trans (B2.trans (B3.trans B4)))
  · rw [if_neg h1]
    refine drw3 W1 (by decide) (by decide) fun r2 H2 a2 b2 W2 B2 => ?_
    walk_at "w0"
    refine ⟨by omega, by omega, ?_⟩
    refine CompR.by (fun i acc σ H' => (∃ ts : List Str, acc = ts.map V.str ∧ ts.length = i ∧ ∀ t ∈ ts, ∃ c, t = ⟨#[c]⟩ ∧ 97 ≤ c ∧ c ≤ 122) ∧ (∃ v, σ = [v, some (.str letters), some (.ref wl)]) ∧ Well3 H' wl ∧ But wl H2 H') (sz8 (by omega)) ⟨⟨[], rfl, rfl, fun t ht => by cases ht⟩, ⟨_, rfl⟩, W2, But.refl _ _⟩ ?_ ?_ ?_
    · rintro i acc σ H' hi ⟨⟨ts, rfl, hl, ht⟩, ⟨v, rfl⟩, W3, B3⟩
      walk_at "w0"
      refine drw3 W3 (by decide) (by decide) fun r3 H3 a3 b3 W4 B4 => ?_
      obtain ⟨c, ec, c0, c1⟩ := letter_at a3 b3
      refine ixs (u := letters) (sz8 (by decide)) ec ?_
      have new : ∃ us : List Str, ts.map V.str ++ [V.str ⟨#[c]⟩] = us.map V.str ∧ us.length = i + 1 ∧ ∀ t ∈ us, ∃ c, t = ⟨#[c]⟩ ∧ 97 ≤ c ∧ c ≤ 122 := by
        refine ⟨ts ++ [⟨#[c]⟩], by rw [List.map_append]; rfl, by rw [List.length_append, hl]; rfl, fun t h => ?_⟩
        rcases List.mem_append.mp h with z | z
        · exact ht t z
        · rw [List.mem_singleton.mp z]
          exact ⟨c, rfl, c0, c1⟩
      first | exact ⟨new, ⟨_, rfl⟩, W4, B3.trans B4⟩ | exact ⟨new, W4, B3.trans B4⟩
    · rintro i acc σ H' ⟨⟨ts, rfl, hl, _⟩, _⟩
      rw [List.length_map, hl]
      exact Nat.le_refl _
    · rintro acc σ H' ⟨⟨ts, rfl, hl, ht⟩, ⟨v, rfl⟩, W3, B3⟩ D hD
      have hn : ts.length = (1 + r2).toNat := hl
      obtain ⟨j1, j2⟩ := join_good ht (by omega) (by omega)
      have n0 := W3.ne hD
      have S9 := same_new hD (.lst (ts.map V.str))
      refine ⟨Str.empty, D, ts, rfl, rfl, upd_same, j1, ?_⟩
      exact q _ _ j2 (W3.same S9) (B1.trans (B2.trans (B3.trans (Same.but S9))))
theorem rfs (x y z : V) : putF ("minutes" : Str) x [] = ([("minutes", x)] : List (Str × V)) ∧ putF ("times" : Str) y ([("minutes", x)] : List (Str × V)) = ([("minutes", x), ("times", y)] : List (Str × V)) ∧ putF ("to" : Str) z ([("minutes", x), ("times", y)] : List (Str × V)) = rFs x y z := by
  refine ⟨rfl, putF_new fun q hq => ?_, putF_new fun q hq => ?_⟩
  · simp only [List.mem_cons, List.not_mem_nil, or_false] at hq
    rcases hq with rfl <;> (dsimp only; decide)
  · simp only [List.mem_cons, List.not_mem_nil, or_false] at hq
    rcases hq with rfl | rfl <;> (dsimp only; decide)
theorem lfs (f y r s z : V) : putF ("fit" : Str) f [] = ([("fit", f)] : List (Str × V)) ∧ putF ("way" : Str) y ([("fit", f)] : List (Str × V)) = ([("fit", f), ("way", y)] : List (Str × V)) ∧ putF ("roads" : Str) r ([("fit", f), ("way", y)] : List (Str × V)) = ([("fit", f), ("way", y), ("roads", r)] : List (Str × V)) ∧ putF ("sure" : Str) s ([("fit", f), ("way", y), ("roads", r)] : List (Str × V)) = ([("fit", f), ("way", y), ("roads", r), ("sure", s)] : List (Str × V)) ∧ putF ("raised" : Str) z ([("fit", f), ("way", y), ("roads", r), ("sure", s)] : List (Str × V)) = lFs f y r s z := by
  refine ⟨rfl, putF_new fun q hq => ?_, putF_new fun q hq => ?_, putF_new fun q hq => ?_, putF_new fun q hq => ?_⟩
  · simp only [List.mem_cons, List.not_mem_nil, or_false] at hq
    rcases hq with rfl <;> (dsimp only; decide)
  · simp only [List.mem_cons, List.not_mem_nil, or_false] at hq
    rcases hq with rfl | rfl <;> (dsimp only; decide)
  · simp only [List.mem_cons, List.not_mem_nil, or_false] at hq
    rcases hq with rfl | rfl | rfl <;> (dsimp only; decide)
  · simp only [List.mem_cons, List.not_mem_nil, or_false] at hq
    rcases hq with rfl | rfl | rfl | rfl <;> (dsimp only; decide)
theorem ok_Raised___init__ (B : Bt K mg a) (C_is_whole_from : CalX P w K mg base "is_whole_from" ["thing", "least"] 2 (sp_is_whole_from K a)) (C_is_name : CalX P w K mg base "is_name" ["thing"] 1 (sp_is_name K a)) (F : FunA K "__init__" "Raised.__init__" s_Raised___init__ f fd) : FnOk P w K mg base (CXF P w) 3 f fd ["self", "minutes", "times", "to"] (sp_Raised___init__ K a) := by
  refine FunA.okX F sc_Raised___init__ (fun vs H Q E h => ?_) (fun cdv A outer s H vs Q E hr h => ?_)
  · obtain ⟨p, dx, x, y, z, rfl, _⟩ := h
    rfl
  obtain ⟨p, dx, x, y, z, rfl, hp, ox, oy, oz, h⟩ := h
  refine ⟨_, (pss_of (qss_cons (qs_if (pt_not (pt_val (pe_calX C_is_whole_from (hr.mono (by decide)) rfl (pa_of (qa_c (pv 1) (qa_c pe_int qa_nil))) (he := star_plain _ _ _ rfl) (hpl := plain_any rfl)))) (qss_of (pss_one (ps_raise (R := fun H9 => E (.ref a.NoWish) none H9) rfl rfl B.NoWish B.exc_NoWish (fun _ _ _ _ _ _ _ I hx hE => raiseX I hx hE)))) qss_nil) (qss_cons (qs_if (pt_not (pt_val (pe_calX C_is_whole_from (hr.mono (by decide)) rfl (pa_of (qa_c (pv 2) (qa_c pe_int qa_nil))) (he := star_plain _ _ _ rfl) (hpl := plain_any rfl)))) (qss_of (pss_one (ps_raise (R := fun H9 => E (.ref a.NoWish) none H9) rfl rfl B.NoWish B.exc_NoWish (fun _ _ _ _ _ _ _ I hx hE => raiseX I hx hE)))) qss_nil) (qss_cons (qs_if (L2.PW.pt (pw_and (pt_cmp (pc_notN (pv 3))) (pw_and1 (pt_not (pt_val (pe_calX C_is_name (hr.mono (by decide)) rfl (pa_of (qa_c (pv 3) qa_nil)) (he := star_plain _ _ _ rfl) (hpl := plain_any rfl))))))) (qss_of (pss_one (ps_raise (R := fun H9 => E (.ref a.NoWish) none H9) rfl rfl B.NoWish B.exc_NoWish (fun _ _ _ _ _ _ _ I hx hE => raiseX I hx hE)))) qss_nil) (qss_cons (qs_of (ps_fld (pv 0) (pv 1) rfl)) (qss_cons (qs_of (ps_fld (pv 0) (pv 2) rfl)) (qss_one (qs_of (ps_fld (pv 0) (pv 3) rfl))))))))), ?_⟩
  have bads : raisB x y z = false → ∀ H', Same H H' → E (.ref a.NoWish) none H' := fun b => by
    rcases h with ⟨e, _⟩ | ⟨_, q⟩
    · rw [b] at e; cases e
    · exact q
  have good : raisB x y z = true → ∀ H', But p H H' → H' p = some (.ins a.Raised dx (rFs x y z)) → Q .non H' := fun b => by
    rcases h with ⟨_, q⟩ | ⟨e, _⟩
    · exact q
    · rw [b] at e; cases e
  clear h
  obtain ⟨e1, e2, e3⟩ := rfs x y z
  walk_at "w0"
  refine ⟨_, _, rfl, ox, ?_⟩
  cases hx : fromV x 1 with
  | false =>
    exists Bool.not_false
    exact bads (by unfold raisB; rw [hx]; rfl) _ fun _ _ z => z
  | true =>
  exists Bool.not_true
  refine ⟨_, _, rfl, oy, ?_⟩
  cases hy : fromV y 0 with
  | false =>
    exists Bool.not_false
    exact bads (by unfold raisB; rw [hx, hy]; rfl) _ fun _ _ z => z
  | true =>
  exists Bool.not_true
  by_cases hz : z = .non
  · subst hz
    rw [if_neg (fun h => h rfl)]
    have S0 : Same H H := fun _ _ z => z
    refine ⟨_, _, _, S0 _ _ hp, B.ck_Raised.cl, B.na_Raised_minutes, by decide, _, _, _, upd_same, B.ck_Raised.cl, B.na_Raised_times, by rw [e1]; simp only [List.length_cons, List.length_nil]; decide, _, _, _, upd_same, B.ck_Raised.cl, B.na_Raised_to, by rw [e1, e2]; simp only [List.length_cons, List.length_nil]; decide, ?_⟩
    refine good (by unfold raisB; rw [hx, hy]; rfl) _ (fun b o n e => ?_) ?_
    · rw [upd_ne n, upd_ne n, upd_ne n]
      exact S0 b o e
    · rw [upd_same, e1, e2, e3]
  · rw [if_pos hz]
    refine ⟨_, rfl, oz, fun H1 S1 => ?_⟩
    have hn : isNonV z = false := by rw [isNonV_eq, decide_eq_false hz]
    cases hb : nameB z with
    | false =>
      exists Bool.not_false
      exact bads (by unfold raisB; rw [hx, hy, hn, hb]; rfl) _ S1
    | true =>
    exists Bool.not_true
    refine ⟨_, _, _, S1 _ _ hp, B.ck_Raised.cl, B.na_Raised_minutes, by decide, _, _, _, upd_same, B.ck_Raised.cl, B.na_Raised_times, by rw [e1]; simp only [List.length_cons, List.length_nil]; decide, _, _, _, upd_same, B.ck_Raised.cl, B.na_Raised_to, by rw [e1, e2]; simp only [List.length_cons, List.length_nil]; decide, ?_⟩
    refine good (by unfold raisB; rw [hx, hy, hn, hb]; rfl) _ (fun b o n e => ?_) ?_
    · rw [upd_ne n, upd_ne n, upd_ne n]
      exact S1 b o e
    · rw [upd_same, e1, e2, e3]
theorem ok_check_by_way (B : Bt K mg a)  (F : Fun K "check_by_way" "check_by_way" s_check_by_way f fd) : FnOk P w K mg base (CXF P w) 1 f fd ["way", "roads", "sure", "raised"] (sp_check_by_way K a) := by
  refine Fun.okX F sc_check_by_way (fun vs H Q E h => ?_) (fun cdv A outer s H vs Q E hr h => ?_)
  · obtain ⟨y, rp, xs, c, z, bn, rfl, _⟩ := h
    rfl
  obtain ⟨y, rp, xs, c, z, bn, rfl, ⟨t, ty, e⟩, hr1, h⟩ := h
  refine ⟨_, (pss_of (qss_one (qs_if (pt_not (pt_val (pe_callB (isiV_at (K := K) rfl) rfl B.isinstance PyProof.Rows.boot_isinstance (pa_of (qa_c (pv 0) (qa_c (pe_glob (v := .ref _) rfl B.Never rfl) qa_nil))) (he := star_plain _ _ _ rfl) (hpl := plain_any rfl)))) (qss_one (qs_if (pt_cmpR op_eq (pe_callB call_len_seq rfl B.len PySem.boot_len (pa_of (qa_c (pv 1) qa_nil))) pe_int (nomark _)) (qss_of (pss_one (ps_raise (R := fun H9 => E (.ref a.NoWish) none H9) rfl rfl B.NoWish B.exc_NoWish (fun _ _ _ _ _ _ _ I hx hE => raiseX I hx hE)))) qss_nil)) (qss_one (qs_if (L2.PW.pt (pw_or (pt_cmpR op_gt (pe_callB call_len_seq rfl B.len PySem.boot_len (pa_of (qa_c (pv 1) qa_nil))) pe_int (nomark _)) (pw_or (pt_val (pv 2)) (pw_or1 (pt_cmp (pc_notN (pv 3))))))) (qss_of (pss_one (ps_raise (R := fun H9 => E (.ref a.NoWish) none H9) rfl rfl B.NoWish B.exc_NoWish (fun _ _ _ _ _ _ _ I hx hE => raiseX I hx hE)))) qss_nil))))), ?_⟩
  have le : xs.isEmpty = decide (xs.length = 0) := by cases xs <;> rfl
  walk_at "w0"
  refine ⟨y, _, t, bn, rfl, ty, e, ?_⟩
  cases bn with
  | false =>
    exists Bool.not_false
    refine ⟨_, .inl (SqL.of hr1), ?_⟩
    by_cases l0 : xs.length = 0
    · rw [if_pos (by omega)]
      rcases h with ⟨b, q⟩ | ⟨b, q⟩
      · simp [wayB, le, l0] at b
      · exact q
    · rw [if_neg (by omega)]
      rcases h with ⟨b, q⟩ | ⟨b, q⟩
      · exact q
      · simp [wayB, le, l0] at b
  | true =>
    exists Bool.not_true
    refine ⟨_, .inl (SqL.of hr1), ?_⟩
    by_cases l0 : xs.length = 0
    · rw [if_neg (by omega)]
      cases c with
      | true =>
        walk_at "w0"
        rcases h with ⟨b, q⟩ | ⟨b, q⟩
        · simp [wayB] at b
        · exact q
      | false =>
        walk_at "w0"
        by_cases hz : z = .non
        · subst hz
          exists decide_true, not_true_eq_false, Bool.not_true
          rcases h with ⟨b, q⟩ | ⟨b, q⟩
          · first | exact q | (rw [if_neg (fun h => h rfl)]; exact q)
          · simp [wayB, le, l0, isNonV] at b
        · have hn : isNonV z = false := by rw [isNonV_eq, decide_eq_false hz]
          rcases h with ⟨b, q⟩ | ⟨b, q⟩
          · simp [wayB, hn] at b
          · first | (rw [if_pos hz]; exact q) | (exists hz, decide_false, Bool.not_false; exact q)
    · rw [if_pos (by omega)]
      rcases h with ⟨b, q⟩ | ⟨b, q⟩
      · simp [wayB, le, l0] at b
      · exact q
theorem ok_Line___init__ (B : Bt K mg a) (C_check_by_way : CalX P w K mg base "check_by_way" ["way", "roads", "sure", "raised"] 1 (sp_check_by_way K a)) (C_are_unlike_names : CalX P w K mg base "are_unlike_names" ["thing"] 2 (sp_are_unlike_names K a)) (F : FunA K "__init__" "Line.__init__" s_Line___init__ f fd) : FnOk P w K mg base (CXF P w) 3 f fd ["self", "fit", "way", "roads", "sure", "raised"] (sp_Line___init__ K a) := by
  refine FunA.okX F sc_Line___init__ (fun vs H Q E h => ?_) (fun cdv A outer s H vs Q E hr h => ?_)
  · obtain ⟨p, dx, f, y, r, s, z, bf, bw, bn, br, be, bs, bz, rfl, _⟩ := h
    rfl
  obtain ⟨p, dx, f, y, r, s, z, bf, bw, bn, br, be, bs, bz, rfl, hp, lk, h⟩ := h
  refine ⟨_, (pss_of (qss_cons (qs_if (pt_not (pt_val (pe_callB (isiV_at (K := K) rfl) rfl B.isinstance PyProof.Rows.boot_isinstance (pa_of (qa_c (pv 1) (qa_c (pe_glob (v := .ref _) rfl B.Fit rfl) qa_nil))) (he := star_plain _ _ _ rfl) (hpl := plain_any rfl)))) (qss_of (pss_one (ps_raise (R := fun H9 => E (.ref a.NoWish) none H9) rfl rfl B.NoWish B.exc_NoWish (fun _ _ _ _ _ _ _ I hx hE => raiseX I hx hE)))) qss_nil) (qss_cons (qs_if (pt_not (pt_val (pe_callB (isiV_at (K := K) rfl) rfl B.isinstance PyProof.Rows.boot_isinstance (pa_of (qa_c (pv 2) (qa_c (pe_glob (v := .ref _) rfl B.Way rfl) qa_nil))) (he := star_plain _ _ _ rfl) (hpl := plain_any rfl)))) (qss_of (pss_one (ps_raise (R := fun H9 => E (.ref a.NoWish) none H9) rfl rfl B.NoWish B.exc_NoWish (fun _ _ _ _ _ _ _ I hx hE => raiseX I hx hE)))) qss_nil) (qss_cons (qs_if (pt_not (pt_val (pe_calX C_are_unlike_names (hr.mono (by decide)) rfl (pa_of (qa_c (pv 3) qa_nil)) (he := star_plain _ _ _ rfl) (hpl := plain_any rfl)))) (qss_of (pss_one (ps_raise (R := fun H9 => E (.ref a.NoWish) none H9) rfl rfl B.NoWish B.exc_NoWish (fun _ _ _ _ _ _ _ I hx hE => raiseX I hx hE)))) qss_nil) (qss_cons (qs_if (pt_not (pt_val (pe_callB (isiG_at (K := K) (T := "bool") rfl) rfl B.isinstance PyProof.Rows.boot_isinstance (pa_of (qa_c (pv 4) (qa_c (pe_bltn (v := .ty "bool") rfl B.bool PyProof.Rows.boot_bool rfl) qa_nil))) (he := star_plain _ _ _ rfl) (hpl := plain_any rfl)))) (qss_of (pss_one (ps_raise (R := fun H9 => E (.ref a.NoWish) none H9) rfl rfl B.NoWish B.exc_NoWish (fun _ _ _ _ _ _ _ I hx hE => raiseX I hx hE)))) qss_nil) (qss_cons (qs_if (L2.PW.pt (pw_and (pt_cmp (pc_notN (pv 5))) (pw_and1 (pt_not (pt_val (pe_callB (isiV_at (K := K) rfl) rfl B.isinstance PyProof.Rows.boot_isinstance (pa_of (qa_c (pv 5) (qa_c (pe_glob (v := .ref _) rfl B.Raised rfl) qa_nil))) (he := star_plain _ _ _ rfl) (hpl := plain_any rfl))))))) (qss_of (pss_one (ps_raise (R := fun H9 => E (.ref a.NoWish) none H9) rfl rfl B.NoWish B.exc_NoWish (fun _ _ _ _ _ _ _ I hx hE => raiseX I hx hE)))) qss_nil) (qss_cons (qs_of (ps_expr (pe_calX C_check_by_way (hr.mono (by decide)) rfl (pa_of (qa_c (pv 2) (qa_c (pv 3) (qa_c (pv 4) (qa_c (pv 5) qa_nil))))) (he := star_plain _ _ _ rfl) (hpl := plain_any rfl)))) (qss_cons (qs_of (ps_fld (pv 0) (pv 1) rfl)) (qss_cons (qs_of (ps_fld (pv 0) (pv 2) rfl)) (qss_cons (qs_of (ps_fld (pv 0) (pe_callTy call_list_of rfl B.list PyProof.Rows.boot_list (pa_of (qa_c (pv 3) qa_nil))) rfl)) (qss_cons (qs_of (ps_fld (pv 0) (pv 4) rfl)) (qss_one (qs_of (ps_fld (pv 0) (pv 5) rfl)))))))))))))), ?_⟩
  have bads : lineB bf bw bn br be bs bz (isTrueV s) (isNonV z) = false → ∀ H', Same H H' → E (.ref a.NoWish) none H' := fun b => by
    rcases h with ⟨e, _⟩ | ⟨_, q⟩
    · rw [b] at e; cases e
    · exact q
  have good : lineB bf bw bn br be bs bz (isTrueV s) (isNonV z) = true → ∃ rp xs, r = .ref rp ∧ H rp = some (.lst xs) ∧ ∀ l H', But p H H' → H l = none → H' l = some (.lst xs) → H' p = some (.ins a.Line dx (lFs f y (.ref l) s z)) → Q .non H' := fun b => by
    rcases h with ⟨_, q⟩ | ⟨e, _⟩
    · exact q
    · rw [b] at e; cases e
  clear h
  obtain ⟨e1, _⟩ := lfs f y r s z
  obtain ⟨tf, tyf, ef⟩ := lk.kf
  obtain ⟨tw, tyw, ew⟩ := lk.kw
  walk_at "w0"
  refine ⟨f, _, tf, bf, rfl, tyf, ef, ?_⟩
  cases bf with
  | false =>
    exists Bool.not_false
    exact bads (by simp only [lineB, Bool.false_and]) _ fun _ _ z => z
  | true =>
  exists Bool.not_true
  refine ⟨y, _, tw, bw, rfl, tyw, ew, ?_⟩
  cases bw with
  | false =>
    exists Bool.not_false
    exact bads (by simp only [lineB, Bool.false_and, Bool.and_false]) _ fun _ _ z => z
  | true =>
  exists Bool.not_true
  refine ⟨r, br, rfl, lk.kr.is, fun H1 S1 => ?_⟩
  cases br with
  | false =>
    exists Bool.not_false
    exact bads (by simp only [lineB, Bool.false_and, Bool.and_false]) _ S1
  | true =>
  exists Bool.not_true
  have lk1 := lk.same S1
  rcases lk1.ks with ⟨c, rfl, ebs⟩ | ⟨ebs, ts, tys, es⟩
  rotate_left
  · refine ⟨s, ts, false, rfl, tys, es, ?_⟩
    exists Bool.not_false
    exact bads (by rw [ebs]; simp only [lineB, Bool.false_and, Bool.and_false]) _ S1
  refine ⟨_, _, true, rfl, .bl c, by kernel_rfl, ?_⟩
  exists Bool.not_true
  rcases lk1.kr with ⟨rp, xs, rfl, hr1, _, _, _, ebe⟩ | ⟨h, _⟩
  rotate_left
  · cases h
  rcases lk1.kz with ⟨rfl, ez⟩ | ⟨nz, tz, tyz, ez⟩
  · rw [if_neg (fun h => h rfl)]
    refine ⟨y, rp, xs, c, .non, bn, rfl, lk1.kn rfl, hr1, ?_⟩
    cases hw : wayB bn xs.isEmpty c (isNonV .non) with
    | false => exact .inr ⟨rfl, bads (by rw [ebs, ebe]; simp only [lineB, isTrueV, hw, Bool.and_false]) _ S1⟩
    | true =>
    refine .inl ⟨rfl, ?_⟩
    obtain ⟨rp', xs', er, hx', q⟩ := good (by rw [ebs, ebe]; simp only [lineB, isTrueV, hw, ez, Bool.and_self])
    cases er
    have exs : xs' = xs := by
      have := S1 _ _ hx'
      rw [hr1] at this
      cases this
      rfl
    subst exs
    walk_at "w0"
    have nrp : rp ≠ p := fun z => by rw [z, S1 _ _ hp] at hr1; cases hr1
    refine ⟨_, _, _, S1 _ _ hp, B.ck_Line.cl, B.na_Line_fit, by decide, _, _, _, upd_same, B.ck_Line.cl, B.na_Line_way, by rw [e1]; simp only [List.length_cons, List.length_nil]; decide, ?_⟩
    refine ⟨_, .inl (SqL.of (by rw [upd_ne nrp, upd_ne nrp]; exact hr1)), fun l hl => ?_⟩
    have nlp : l ≠ p := fun z => by rw [z, upd_same] at hl; cases hl
    have hl1 : H1 l = none := by rw [upd_ne nlp, upd_ne nlp] at hl; exact hl
    obtain ⟨e1, e2, e3, e4, e5⟩ := lfs f y (.ref l) (.bl c) .non
    refine ⟨_, _, _, by rw [upd_ne nlp.symm]; exact upd_same, B.ck_Line.cl, B.na_Line_roads, by rw [e1, e2]; simp only [List.length_cons, List.length_nil]; decide, _, _, _, upd_same, B.ck_Line.cl, B.na_Line_sure, by rw [e1, e2, e3]; simp only [List.length_cons, List.length_nil]; decide, _, _, _, upd_same, B.ck_Line.cl, B.na_Line_raised, by rw [e1, e2, e3, e4]; simp only [List.length_cons, List.length_nil]; decide, ?_⟩
    refine q l _ (fun b o n e => ?_) (S1.free hl1) ?_ ?_
    · rw [upd_ne n, upd_ne n, upd_ne n, upd_ne (ne_of_none (S1 _ _ e) hl1), upd_ne n, upd_ne n]
      exact S1 b o e
    · rw [upd_ne nlp, upd_ne nlp, upd_ne nlp]
      exact upd_same
    · rw [upd_same, e1, e2, e3, e4, e5]
  · rw [if_pos nz]
    refine ⟨z, _, tz, bz, rfl, tyz, ez, ?_⟩
    cases bz with
    | false =>
      exists Bool.not_false
      exact bads (by simp only [lineB, Bool.false_and, Bool.and_false]) _ S1
    | true =>
    exists Bool.not_true
    refine ⟨y, rp, xs, c, z, bn, rfl, lk1.kn rfl, hr1, ?_⟩
    cases hw : wayB bn xs.isEmpty c (isNonV z) with
    | false => exact .inr ⟨rfl, bads (by rw [ebs, ebe]; simp only [lineB, isTrueV, hw, Bool.and_false]) _ S1⟩
    | true =>
    refine .inl ⟨rfl, ?_⟩
    obtain ⟨rp', xs', er, hx', q⟩ := good (by rw [ebs, ebe]; simp only [lineB, isTrueV, hw, Bool.and_self])
    cases er
    have exs : xs' = xs := by
      have := S1 _ _ hx'
      rw [hr1] at this
      cases this
      rfl
    subst exs
    walk_at "w0"
    have nrp : rp ≠ p := fun z => by rw [z, S1 _ _ hp] at hr1; cases hr1
    refine ⟨_, _, _, S1 _ _ hp, B.ck_Line.cl, B.na_Line_fit, by decide, _, _, _, upd_same, B.ck_Line.cl, B.na_Line_way, by rw [e1]; simp only [List.length_cons, List.length_nil]; decide, ?_⟩
    refine ⟨_, .inl (SqL.of (by rw [upd_ne nrp, upd_ne nrp]; exact hr1)), fun l hl => ?_⟩
    have nlp : l ≠ p := fun z => by rw [z, upd_same] at hl; cases hl
    have hl1 : H1 l = none := by rw [upd_ne nlp, upd_ne nlp] at hl; exact hl
    obtain ⟨e1, e2, e3, e4, e5⟩ := lfs f y (.ref l) (.bl c) z
    refine ⟨_, _, _, by rw [upd_ne nlp.symm]; exact upd_same, B.ck_Line.cl, B.na_Line_roads, by rw [e1, e2]; simp only [List.length_cons, List.length_nil]; decide, _, _, _, upd_same, B.ck_Line.cl, B.na_Line_sure, by rw [e1, e2, e3]; simp only [List.length_cons, List.length_nil]; decide, _, _, _, upd_same, B.ck_Line.cl, B.na_Line_raised, by rw [e1, e2, e3, e4]; simp only [List.length_cons, List.length_nil]; decide, ?_⟩
    refine q l _ (fun b o n e => ?_) (S1.free hl1) ?_ ?_
    · rw [upd_ne n, upd_ne n, upd_ne n, upd_ne (ne_of_none (S1 _ _ e) hl1), upd_ne n, upd_ne n]
      exact S1 b o e
    · rw [upd_ne nlp, upd_ne nlp, upd_ne nlp]
      exact upd_same
    · rw [upd_same, e1, e2, e3, e4, e5]
theorem inV_str (u : Str) : ∀ us : List Str, inV (.str u) (us.map V.str) = decide (u ∈ us)
  | [] => rfl
  | v :: us => by
    have e : inV (.str u) ((v :: us).map V.str) = (eqV (.str v) (.str u) || inV (.str u) (us.map V.str)) := rfl
    rw [e, inV_str u us]
    have e2 : eqV (.str v) (.str u) = decide (v = u) := by
      first | rfl | (unfold eqV; by_cases c : v = u <;> simp [c])
    rw [e2]
    by_cases c : v = u
    · simp [c]
    · have c' : ¬ u = v := fun z => c z.symm
      simp [c, c']
theorem flat_strs : ∀ us : List Str, (us.map V.str).all flatV = true
  | [] => rfl
  | v :: us => by rw [List.map_cons, List.all_cons, flat_strs us]; rfl
theorem ok_law_roads (B : Bt K mg a) (C_law_name : CalX P w K mg base "_law_name" ["_law_state"] 2 (sp_law_name K a)) (C_law_next : CalX P w K mg base "_law_next" ["_law_state", "_law_base"] 1 (sp_law_next K a)) (F : Fun K "_law_roads" "_law_roads" s_law_roads f fd) : FnOk P w K mg base CX0 3 f fd ["_law_state"] (sp_law_roads K a) := by
  refine F.ok sc_law_roads (fun vs H Q E h => ?_) (fun cdv A outer s H vs Q E hr h => ?_)
  · obtain ⟨wl, rfl, _⟩ := h
    rfl
  obtain ⟨wl, rfl, W, q⟩ := h
  refine ⟨_, (pss_of (qss_cons (qs_set (i := 1) sc_law_roads.nd rfl (Or.inl rfl) (qe_lst qa_nil) (by kernel_rfl)) (qss_cons (qs_of (ps_for PassesOwn.never rfl (pi_range1 rfl B.range (pa_of (qa_c (pe_op op_add pe_int (pe_calN C_law_next (hr.mono (by decide)) rfl (pa_of (qa_c (pv 0) (qa_c pe_int qa_nil))) (he := star_plain _ _ _ rfl) (hpl := plain_any rfl))) qa_nil))) (pg_name (i := 2) sc_law_roads.nd rfl (Or.inl rfl)) (pss_of (qss_cons (qs_set (i := 3) sc_law_roads.nd rfl (Or.inl rfl) (qe_of (pe_calN C_law_name (hr.mono (by decide)) rfl (pa_of (qa_c (pv 0) qa_nil)) (he := star_plain _ _ _ rfl) (hpl := plain_any rfl))) (by kernel_rfl)) (qss_one (qs_if (pt_cmpR op_notIn_seq (pv 3) (pv 1) (by with_unfolding_all rfl)) (qss_one (qs_of (ps_expr (pe_bm PySem.F.plainAttrs_list PySem.F.slot_list_append PySem.F.type_list_append mt_append (pv 1) (pa_of (qa_c (pv 3) qa_nil)))))) qss_nil)))))) (qss_one (qs_ret (qe_of (pv 1))))))), ?_⟩
  walk_at "w0"
  refine ⟨Nat.zero_le _, fun pf hf => ?_⟩
  have nw := W.ne hf
  have S1 := same_new hf (.lst [])
  have W1 := W.same S1
  have e1 : upd H pf (.lst []) pf = some (.lst (([] : List Str).map V.str)) := upd_same
  generalize upd H pf (.lst []) = H1 at *
  refine drw3 W1 (by decide) (by decide) fun r H2 a2 b2 W2 B2 => ?_
  have e2 := B2 pf _ nw e1
  walk_at "w0"
  refine ⟨by omega, by omega, ?_⟩
  refine ForR.by (fun i σ H' => (∃ us : List Str, us.length ≤ i ∧ (0 < i → us ≠ []) ∧ (∀ u ∈ us, goodN u) ∧ us.Nodup ∧ H' pf = some (.lst (us.map V.str))) ∧ (∃ v8 v9, σ = [some (.ref wl), some (.ref pf), v8, v9]) ∧ Well3 H' wl ∧ But wl H H') ⟨⟨[], Nat.le_refl _, fun z => absurd z (Nat.lt_irrefl _), (fun u hu => absurd hu List.not_mem_nil), List.nodup_nil, e2⟩, ⟨_, _, rfl⟩, W2, (Same.but S1).trans B2⟩ ?_ ?_
  · rintro i σ H9 hi ⟨⟨us, ul, u0, ug, un, ue⟩, ⟨v8, v9, rfl⟩, W9, B9⟩
    walk_at "w0"
    refine ⟨wl, rfl, W9, fun u H3 g W3 B3 => ?_⟩
    have ue3 := B3 pf _ nw ue
    walk_at "w0"
    refine ⟨pf, _, rfl, .inl (SqL.of ue3), rfl, flat_strs us, ?_⟩
    rw [inV_str]
    by_cases c : u ∈ us
    · exists decide_eq_true c, Bool.not_true
      exact ⟨⟨us, by omega, (fun _ z => by rw [z] at c; exact absurd c List.not_mem_nil), ug, un, ue3⟩, W3, B9.trans B3⟩
    · exists decide_eq_false c, Bool.not_false
      refine ⟨.inl ⟨rfl, _, SqL.of ue3⟩, pf, _, _, rfl, rfl, ue3, ?_, ?_⟩
      · rw [List.length_map]
        exact Nat.lt_of_le_of_lt (by omega : us.length ≤ 1000) (by decide)
      · have W12 : Well3 (upd H3 pf (.lst (us.map V.str ++ [.str u]))) wl := by
          obtain ⟨x1, x2, x3, e⟩ := W3
          exact ⟨x1, x2, x3, by rw [upd_ne (fun z => nw z.symm)]; exact e⟩
        refine ⟨⟨us ++ [u], by rw [List.length_append, List.length_singleton]; omega, fun _ z => by simp at z, fun y hy => ?_, ?_, by rw [upd_same, List.map_append]; rfl⟩, W12, fun b o nb e => ?_⟩
        · rcases List.mem_append.mp hy with z | z
          · exact ug y z
          · rw [List.mem_singleton.mp z]; exact g
        · rw [List.nodup_append]
          exact ⟨un, by simp, fun x hx y hy e => c (by rw [List.mem_singleton.mp hy] at e; rw [← e]; exact hx)⟩
        · rw [upd_ne (ne_of_none e hf)]
          exact B3 b o nb (B9 b o nb e)
  · rintro σ H9 ⟨⟨us, ul, u0, ug, un, ue⟩, ⟨v8, v9, rfl⟩, W9, B9⟩
    walk_at "w0"
    exact q pf us H9 (u0 (by omega)) (by omega) ug un W9 B9 hf ue
theorem put_set {xs : List V} {i : Nat} {x : V} (h : i < xs.length) : cutV xs none (some (i : Int)) ++ [x] ++ cutV xs (some ((i : Int) + 1)) none = xs.set i x := by
  have e1 : cutV xs none (some (i : Int)) = xs.take i := by
    unfold cutV
    rw [HT.sIx_none, HT.sIx_nat, List.drop_zero, Nat.sub_zero, Nat.min_eq_left (Nat.le_of_lt h)]
  have e2 : cutV xs (some ((i : Int) + 1)) none = xs.drop (i + 1) := by
    unfold cutV
    rw [HT.sIx_none, show ((i : Int) + 1) = ((i + 1 : Nat) : Int) from rfl, HT.sIx_nat, Nat.min_eq_left h, List.take_of_length_le (by rw [List.length_drop]; exact Nat.le_refl _)]
  rw [e1, e2, List.set_eq_take_append_cons_drop, if_pos h, List.append_assoc]
  rfl
theorem ok_law_put (B : Bt K mg a)  (F : Fun K "_law_put" "_law_put" s_law_put f fd) : FnOk P w K mg base CX0 1 f fd ["_law_parts", "_law_at", "_law_thing"] (sp_law_put K a) := by
  refine F.ok sc_law_put (fun vs H Q E h => ?_) (fun cdv A outer s H vs Q E hr h => ?_)
  · obtain ⟨g, i, x, xs, rfl, _⟩ := h
    rfl
  obtain ⟨g, i, x, xs, rfl, hg, i0, i1, l1, q⟩ := h
  refine ⟨_, (pss_of (qss_one (qs_ret (qe_op op_cat (qe_op op_cat (qe_of (pe_slice sl_list (pv 0) po_none (po_some (pv 1)))) (qe_lst (qa_c (pv 2) qa_nil))) (qe_of (pe_slice sl_list (pv 0) (po_some (pe_op op_add (pv 1) pe_int)) po_none)))))), ?_⟩
  obtain ⟨j, rfl⟩ : ∃ j : Nat, i = j := ⟨i.toNat, by omega⟩
  have hj : j < xs.length := by omega
  have c1 := cutV_length xs none (some (j : Int))
  have c2 := cutV_length xs (some ((j : Int) + 1)) none
  walk_at "w0"
  refine ⟨g, _, rfl, SqL.of hg, fun p1 h1 => ?_⟩
  have S1 := same_new h1 (.lst (cutV xs none (some (j : Int))))
  have e1 : upd H p1 (.lst (cutV xs none (some (j : Int)))) p1 = some (.lst (cutV xs none (some (j : Int)))) := upd_same
  generalize upd H p1 (.lst (cutV xs none (some (j : Int)))) = H1 at *
  walk_at "w0"
  refine ⟨sz8 (by first | decide | (simp only [List.length_cons, List.length_nil]; decide)), fun p2 h2 => ?_⟩
  have S2 := same_new h2 (.lst [x])
  have e2 : upd H1 p2 (.lst [x]) p2 = some (.lst [x]) := upd_same
  have e1' := S2 _ _ e1
  generalize upd H1 p2 (.lst [x]) = H2 at *
  refine ⟨p1, p2, _, _, rfl, rfl, e1', e2, sz8 (by simp only [List.length_cons, List.length_nil]; omega), fun p3 h3 => ?_⟩
  have S3 := same_new h3 (.lst (cutV xs none (some (j : Int)) ++ [x]))
  have e3 : upd H2 p3 (.lst (cutV xs none (some (j : Int)) ++ [x])) p3 = some (.lst (cutV xs none (some (j : Int)) ++ [x])) := upd_same
  generalize upd H2 p3 (.lst (cutV xs none (some (j : Int)) ++ [x])) = H3 at *
  walk_at "w0"
  refine ⟨g, _, rfl, SqL.of ((S1.trans (S2.trans S3)) _ _ hg), fun p4 h4 => ?_⟩
  have S4 := same_new h4 (.lst (cutV xs (some ((j : Int) + 1)) none))
  have e4 : upd H3 p4 (.lst (cutV xs (some ((j : Int) + 1)) none)) p4 = some (.lst (cutV xs (some ((j : Int) + 1)) none)) := upd_same
  have e3' := S4 _ _ e3
  generalize upd H3 p4 (.lst (cutV xs (some ((j : Int) + 1)) none)) = H4 at *
  refine ⟨p3, p4, _, _, rfl, rfl, e3', e4, sz8 (by simp only [List.length_append, List.length_cons, List.length_nil]; omega), fun p5 h5 => ?_⟩
  have SS := S1.trans (S2.trans (S3.trans S4))
  refine q p5 _ (SS.trans (same_new h5 _)) (SS.free h5) ?_
  rw [upd_same, Int.toNat_natCast, put_set hj]
theorem ok_law_refused (B : Bt K mg a) (CD_Raised_3 : CalD P w K mg base "Raised" a.Raised ["self", "minutes", "times", "to"] 3 [] (sp_Raised___init__ K a)) (CD_Line_5 : CalD P w K mg base "Line" a.Line ["self", "fit", "way", "roads", "sure", "raised"] 3 [] (sp_Line___init__ K a)) (F : Fun K "_law_refused" "_law_refused" s_law_refused f fd) : FnOk P w K mg base CX0 5 f fd ["_law_word", "_law_parts"] (sp_law_refused K a) := by
  refine F.ok sc_law_refused (fun vs H Q E h => ?_) (fun cdv A outer s H vs Q E hr h => ?_)
  · obtain ⟨wd, x, w0, rfl, _⟩ := h
    rfl
  obtain ⟨wd, x, w0, rfl, h, q⟩ := h
  refine ⟨_, (pss_of (qss_cons (qs_set (i := 2) sc_law_refused.nd rfl (Or.inl rfl) (qe_of pe_bl) (by kernel_rfl)) (qss_cons (qs_of (ps_tryB (i := 3) rfl rfl (fun _ _ z => z) (pbs_if (fun _ _ z => z) (pt_cmpR op_eq (pv 0) pe_str (nomark _)) (pbs_expr (pbe_makD CD_Raised_3 (fun _ _ z => z) (hr.mono (by decide)) rfl (pa_of (qa_c (pe_ix ix_list (pv 1) pe_int (fun _ _ => rfl)) (qa_c (pe_ix ix_list (pv 1) pe_int (fun _ _ => rfl)) (qa_c (pe_ix ix_list (pv 1) pe_int (fun _ _ => rfl)) qa_nil)))) (he := star_plain _ _ _ rfl) (hpl := plain_any rfl))) (pbs_expr (pbe_makD CD_Line_5 (fun _ _ z => z) (hr.mono (by decide)) rfl (pa_of (qa_c (pe_ix ix_list (pv 1) pe_int (fun _ _ => rfl)) (qa_c (pe_ix ix_list (pv 1) pe_int (fun _ _ => rfl)) (qa_c (pe_ix ix_list (pv 1) pe_int (fun _ _ => rfl)) (qa_c (pe_ix ix_list (pv 1) pe_int (fun _ _ => rfl)) (qa_c (pe_ix ix_list (pv 1) pe_int (fun _ _ => rfl)) qa_nil)))))) (he := star_plain _ _ _ rfl) (hpl := plain_any rfl)))) rfl B.BellError sc_law_refused.nd rfl rfl (fun v => (pss_of (qss_cons (qs_set (i := 4) sc_law_refused.nd rfl (Or.inl rfl) (qe_of (pe_callB (isiT_at (K := K) (C := a.NoWish) rfl B.excK_NoWish) rfl B.isinstance PyProof.Rows.boot_isinstance (pa_of (qa_c (pv 3) (qa_c (pe_tup (pa_of (qa_c (pe_glob (v := .ref _) rfl B.NoClock rfl) (qa_c (pe_glob (v := .ref _) rfl B.NoFit rfl) (qa_c (pe_glob (v := .ref _) rfl B.NoHappening rfl) (qa_c (pe_glob (v := .ref _) rfl B.NoRoad rfl) (qa_c (pe_glob (v := .ref _) rfl B.NoText rfl) qa_nil))))))) qa_nil))) (he := star_plain _ _ _ rfl) (hpl := plain_any rfl))) (by kernel_rfl)) (qss_one (qs_set (i := 2) sc_law_refused.nd rfl (Or.inl rfl) (qe_of (pe_and (pe_callB (isiE_at (K := K) (C := a.NoWish) rfl B.excK_NoWish) rfl B.isinstance PyProof.Rows.boot_isinstance (pa_of (qa_c (pv 3) (qa_c (pe_glob (v := .ref _) rfl B.NoWish rfl) qa_nil))) (he := star_plain _ _ _ rfl) (hpl := plain_any rfl)) (pe_and (pe_callB (isiE_at (K := K) (C := a.NoWish) rfl B.excK_NoWish) rfl B.isinstance PyProof.Rows.boot_isinstance (pa_of (qa_c (pv 3) (qa_c (pe_bltn (v := .ty "ValueError") rfl B.ValueError boot_ValueError rfl) qa_nil))) (he := star_plain _ _ _ rfl) (hpl := plain_any rfl)) (pe_one (pe_not (pv 4)))))) (by kernel_rfl)))))))) (qss_one (qs_ret (qe_of (pv 2))))))), ?_⟩
  rcases h with ⟨rfl, p, m, t, o, rfl, _, hp, om, ot, oo, b⟩ | ⟨rfl, p, f, y, r, s, z, rfl, _, hp, _, bf, bw, bn, br, be, bs, bz, lk, b⟩
  · walk_at "w0"
    refine ixl (SqL.of hp) (v := m) rfl ?_
    walk_at "w0"
    refine ixl (SqL.of hp) (v := t) rfl ?_
    walk_at "w0"
    refine ixl (SqL.of hp) (v := o) rfl ?_
    walk_at "w0"
    intro x dx hx hd ne
    have M := made_same (o := .own x) (o' := .ins a.Raised dx []) hx hd
    refine ⟨x, dx, m, t, o, rfl, upd_same, om.same M, ot.same M, oo.same M, .inr ⟨b, fun H0 S0 => ⟨B.exm, fun y hy => ?_⟩⟩⟩
    have S1 := same_new hy (hoExc y (.ref a.NoWish))
    have e1 : upd H0 y (hoExc y (.ref a.NoWish)) y = some (hoExc y (.ref a.NoWish)) := upd_same
    generalize upd H0 y (hoExc y (.ref a.NoWish)) = H1 at *
    walk_at "w0"
    refine ⟨sz8 (by decide), fun t1 ht1 => ?_⟩
    have S2 := same_new ht1 (.tup [.ref a.NoClock, .ref a.NoFit, .ref a.NoHappening, .ref a.NoRoad, .ref a.NoText])
    refine ⟨y, t1, [a.NoClock, a.NoFit, a.NoHappening, a.NoRoad, a.NoText], false, rfl, S2 _ _ e1, upd_same, B.any1, ?_⟩
    have e2 := S2 _ _ e1
    generalize upd H1 t1 (.tup [.ref a.NoClock, .ref a.NoFit, .ref a.NoHappening, .ref a.NoRoad, .ref a.NoText]) = H2 at *
    walk_at "w0"
    refine ⟨y, _, _, true, rfl, rfl, e2, B.isC, ?_⟩
    walk_at "w0"
    refine ⟨y, _, _, true, rfl, rfl, e2, B.isV, ?_⟩
    exists Bool.not_false
    exact q _ ((made_same hx hd).trans (S0.trans (S1.trans S2)))
  · walk_at "w0"
    first | rw [if_neg (by decide)] | skip
    refine ixl (SqL.of hp) (v := f) rfl ?_
    walk_at "w0"
    refine ixl (SqL.of hp) (v := y) rfl ?_
    walk_at "w0"
    refine ixl (SqL.of hp) (v := r) rfl ?_
    walk_at "w0"
    refine ixl (SqL.of hp) (v := s) rfl ?_
    walk_at "w0"
    refine ixl (SqL.of hp) (v := z) rfl ?_
    walk_at "w0"
    intro x dx hx hd ne
    have M := made_same (o := .own x) (o' := .ins a.Line dx []) hx hd
    refine ⟨x, dx, f, y, r, s, z, bf, bw, bn, br, be, bs, bz, rfl, upd_same, lk.same M, .inr ⟨b, fun H0 S0 => ⟨B.exm, fun y hy => ?_⟩⟩⟩
    have S1 := same_new hy (hoExc y (.ref a.NoWish))
    have e1 : upd H0 y (hoExc y (.ref a.NoWish)) y = some (hoExc y (.ref a.NoWish)) := upd_same
    generalize upd H0 y (hoExc y (.ref a.NoWish)) = H1 at *
    walk_at "w0"
    refine ⟨sz8 (by decide), fun t1 ht1 => ?_⟩
    have S2 := same_new ht1 (.tup [.ref a.NoClock, .ref a.NoFit, .ref a.NoHappening, .ref a.NoRoad, .ref a.NoText])
    refine ⟨y, t1, [a.NoClock, a.NoFit, a.NoHappening, a.NoRoad, a.NoText], false, rfl, S2 _ _ e1, upd_same, B.any1, ?_⟩
    have e2 := S2 _ _ e1
    generalize upd H1 t1 (.tup [.ref a.NoClock, .ref a.NoFit, .ref a.NoHappening, .ref a.NoRoad, .ref a.NoText]) = H2 at *
    walk_at "w0"
    refine ⟨y, _, _, true, rfl, rfl, e2, B.isC, ?_⟩
    walk_at "w0"
    refine ⟨y, _, _, true, rfl, rfl, e2, B.isV, ?_⟩
    exists Bool.not_false
    exact q _ ((made_same hx hd).trans (S0.trans (S1.trans S2)))
theorem same_id (H : Hp) : Same H H := fun _ _ z => z
def tHold (t : TS) : TS := t
theorem w_hold {t : TS} {D : Ends} {σ : L2.St} {H : Hp} : tHold t D σ H = t D σ H := rfl
theorem hold_ret {t : TE} {nx : L2.St → Hp → Prop} {rt : VK} {bk ct : L2.St → Hp → Prop} {σ : L2.St} {H : Hp} (h : t σ H rt) : tHold (tRet t) { nx := nx, rt := rt, bk := bk, ct := ct } σ H := h
theorem qss_hold {X : Cx} {b : List Stmt} {t : TS} (h : QSs X b t) : QSs X b (tHold t) := h
theorem okI_no {H : Hp} {x : V} (h : okV H x) : okI K H x := by
  obtain ⟨T, ty, e1, e2, _⟩ := h.ty (K := K)
  exact ⟨_, ty, e1, e2⟩
theorem noL_no {H : Hp} {x : V} (h : okN H x) (n : ∀ p xs, x = .ref p → H p ≠ some (.lst xs)) : noL K H x := by
  cases x with
  | non => exact ⟨_, .non, by kernel_rfl⟩
  | bl b => exact ⟨_, .bl b, by kernel_rfl⟩
  | int i => exact ⟨_, .int i, by kernel_rfl⟩
  | str u => exact ⟨_, .str u, by kernel_rfl⟩
  | ref p =>
    rcases h with ⟨xs, e⟩ | ⟨xs, e⟩ | ⟨xs, e⟩
    · exact absurd e (n p xs rfl)
    · exact ⟨_, .tup e, by kernel_rfl⟩
    · exact ⟨_, .dK e, by kernel_rfl⟩
  | _ => exact h.elim
theorem noFit_no (B : Bt K mg a) {H : Hp} {x : V} (h : okN H x) : okK K (.ref a.Fit) H x false := by
  cases x with
  | non => exact ⟨_, .non, B.noFit_NoneType⟩
  | bl b => exact ⟨_, .bl b, B.noFit_bool⟩
  | int i => exact ⟨_, .int i, B.noFit_int⟩
  | str u => exact ⟨_, .str u, B.noFit_str⟩
  | ref p =>
    rcases h with ⟨xs, e⟩ | ⟨xs, e⟩ | ⟨xs, e⟩
    · exact ⟨_, .lst e, B.noFit_list⟩
    · exact ⟨_, .tup e, B.noFit_tuple⟩
    · exact ⟨_, .dK e, B.noFit_dict⟩
  | _ => exact h.elim
theorem noWay_no (B : Bt K mg a) {H : Hp} {x : V} (h : okN H x) : okK K (.ref a.Way) H x false := by
  cases x with
  | non => exact ⟨_, .non, B.noWay_NoneType⟩
  | bl b => exact ⟨_, .bl b, B.noWay_bool⟩
  | int i => exact ⟨_, .int i, B.noWay_int⟩
  | str u => exact ⟨_, .str u, B.noWay_str⟩
  | ref p =>
    rcases h with ⟨xs, e⟩ | ⟨xs, e⟩ | ⟨xs, e⟩
    · exact ⟨_, .lst e, B.noWay_list⟩
    · exact ⟨_, .tup e, B.noWay_tuple⟩
    · exact ⟨_, .dK e, B.noWay_dict⟩
  | _ => exact h.elim
theorem noRaised_no (B : Bt K mg a) {H : Hp} {x : V} (h : okN H x) : okK K (.ref a.Raised) H x false := by
  cases x with
  | non => exact ⟨_, .non, B.noRaised_NoneType⟩
  | bl b => exact ⟨_, .bl b, B.noRaised_bool⟩
  | int i => exact ⟨_, .int i, B.noRaised_int⟩
  | str u => exact ⟨_, .str u, B.noRaised_str⟩
  | ref p =>
    rcases h with ⟨xs, e⟩ | ⟨xs, e⟩ | ⟨xs, e⟩
    · exact ⟨_, .lst e, B.noRaised_list⟩
    · exact ⟨_, .tup e, B.noRaised_tuple⟩
    · exact ⟨_, .dK e, B.noRaised_dict⟩
  | _ => exact h.elim
theorem str_ok {H : Hp} {us : List Str} (ug : ∀ u ∈ us, goodN u) {z : V} (hz : z ∈ us.map V.str) : okN H z := by
  obtain ⟨u, hu, rfl⟩ := List.mem_map.mp hz
  exact ⟨(good_sm (ug u hu)).1, by have := (good_sm (ug u hu)).2; omega⟩
theorem strV_map (us : List Str) : (us.map V.str).map strV = us := by rw [List.map_map]; exact List.map_id us
theorem dup_l {us : List Str} {z : Str} (h : z ∈ us) : ¬ ((us.map V.str ++ [V.str z]).map strV).Nodup := by
  rw [List.map_append, strV_map]
  intro n
  exact (List.nodup_append.mp n).2.2 z h z (List.mem_singleton.mpr rfl) rfl
theorem dup_f {us : List Str} {z : Str} (h : z ∈ us) : ¬ (([V.str z] ++ us.map V.str).map strV).Nodup := by
  rw [List.map_append, strV_map]
  intro n
  exact (List.nodup_append.mp n).2.2 z (List.mem_singleton.mpr rfl) z h rfl
theorem names_dup {xs : List V} (nd : ¬ (xs.map strV).Nodup) : namesB xs = false := by
  unfold namesB
  rw [decide_eq_false nd, Bool.and_false]
theorem names_bad {xs : List V} {y : V} (m : y ∈ xs) (b : nameB y = false) : namesB xs = false := by
  unfold namesB
  have : xs.all nameB = false := by
    rw [List.all_eq_false]
    exact ⟨y, m, by rw [b]; exact Bool.false_ne_true⟩
  rw [this, Bool.false_and]
theorem names_good {us : List Str} (ug : ∀ u ∈ us, goodN u) (nd : us.Nodup) : namesB (us.map V.str) = true := by
  unfold namesB
  have e1 : (us.map V.str).all nameB = true := by
    rw [List.all_map, List.all_eq_true]
    intro u hu
    exact decide_eq_true (ug u hu)
  rw [e1, strV_map, decide_eq_true nd]
  rfl
theorem drop_last : ∀ {us : List Str} (h : us ≠ []), us.drop (us.length - 1) = [us.getLast h]
  | [_], _ => rfl
  | _ :: b :: r, _ => by
    have := drop_last (us := b :: r) (by intro z; cases z)
    simpa using this
theorem cut_last {us : List Str} (h : us ≠ []) : cutV (us.map V.str) (some (-1)) none = [V.str (us.getLast h)] := by
  have l0 : 0 < us.length := List.length_pos_iff.mpr h
  have e1 : HT.sIx (us.map V.str).length 0 (some (-1)) = us.length - 1 := by
    simp only [HT.sIx, List.length_map]
    rw [if_pos (by decide)]
    omega
  unfold cutV
  rw [e1, HT.sIx_none, List.length_map, ← List.map_drop, ← List.map_take, drop_last h, List.take_of_length_le (by simp only [List.length_singleton]; omega)]
  rfl
theorem at_last {us : List Str} (h : us ≠ []) : atI (us.map V.str) (-1) = some (V.str (us.getLast h)) := by
  have l0 : 0 < us.length := List.length_pos_iff.mpr h
  have e1 : ixN (us.map V.str).length (-1) = some (us.length - 1) := by
    unfold ixN
    rw [if_neg (by decide), List.length_map, if_pos (by omega)]
    congr 1
    omega
  unfold atI
  rw [e1, Option.bind_some, List.getElem?_map, List.getElem?_eq_getElem (by omega), List.getLast_eq_getElem]
  rfl
theorem cut_map (ns : List Int) (lo hi : Option Int) : ∃ ms : List Int, cutV (ns.map V.int) lo hi = ms.map V.int ∧ ms.length ≤ ns.length := by
  unfold cutV
  rw [List.length_map, ← List.map_drop, ← List.map_take]
  exact ⟨_, rfl, by rw [List.length_take, List.length_drop]; omega⟩
theorem toOk.okN {H : Hp} {z : V} (h : toOk z) : okN H z := by
  rcases h with rfl | ⟨u, rfl, g⟩
  · exact trivial
  · exact ⟨(good_sm g).1, by have := (good_sm g).2; omega⟩
theorem toOk.b {z : V} (h : toOk z) : (isNonV z || nameB z) = true := by
  rcases h with rfl | ⟨u, rfl, g⟩
  · rfl
  · exact decide_eq_true g
theorem ok_law_odd_raised (B : Bt K mg a) (C_law_put : CalX P w K mg base "_law_put" ["_law_parts", "_law_at", "_law_thing"] 1 (sp_law_put K a)) (F : Fun K "_law_odd_raised" "_law_odd_raised" s_law_odd_raised f fd) : FnOk P w K mg base CX0 2 f fd ["_law_minutes", "_law_times", "_law_to"] (sp_law_odd_raised K a) := by
  refine F.ok sc_law_odd_raised (fun vs H Q E h => ?_) (fun cdv A outer s H vs Q E hr h => ?_)
  · obtain ⟨m, t, o, w0, rfl, _⟩ := h
    rfl
  obtain ⟨m, t, o, w0, rfl, m0, m1, t0, t1, ho, W, q⟩ := h
  refine ⟨_, (pss_of (qss_hold (qss_cons (qs_set (i := 3) sc_law_odd_raised.nd rfl (Or.inr rfl) (qe_lst (qa_c (pv 0) (qa_c (pv 1) (qa_c (pv 2) qa_nil)))) (by kernel_rfl)) (qss_hold (qss_cons (qs_of (ps_compB (i := 4) ["_law_thing", "_law_good"] [none, some 3] rfl (by kernel_rfl) sc_law_odd_raised.nd rfl rfl (pi_list (pe_lst (pa_of (qa_c pe_int (qa_c (pe_un un_neg pe_int) (qa_c (pe_un un_neg (pv 0)) (qa_c pe_bl (qa_c pe_non (qa_c (pe_callTy call_str_int rfl B.str PyProof.Rows.boot_str (pa_of (qa_c (pv 0) qa_nil))) (qa_c (pe_lst (pa_of (qa_c (pv 0) qa_nil))) qa_nil)))))))))) (fun cl C s H fp => ⟨(pg_name (i := 0) (by decide : List.Nodup (["_law_thing", "_law_good"] : List Str)) rfl (Or.inl (by kernel_rfl)) (Or.inr (by kernel_rfl))), pts_nil, (pe_calN C_law_put (hr.mono (by decide)) (gl_of (by kernel_rfl)) (pa_of (qa_c (pv 1 (hv := Or.inr (Or.inl (by kernel_rfl)))) (qa_c pe_int (qa_c (pv 0 (hv := Or.inl (by kernel_rfl))) qa_nil)))) (he := star_plain _ _ _ rfl) (hpl := plain_any rfl))⟩))) (qss_hold (qss_cons (qs_set (i := 4) sc_law_odd_raised.nd rfl (Or.inl rfl) (qe_op op_cat (qe_of (pv 4)) (qe_of (pe_compB ["_law_thing", "_law_good"] [none, some 3] rfl (by kernel_rfl) (pi_list (pe_lst (pa_of (qa_c (pe_un un_neg pe_int) (qa_c (pe_op op_sub (pe_un un_neg pe_int) (pv 1)) (qa_c pe_bl (qa_c pe_bl (qa_c pe_non (qa_c (pe_callTy call_str_int rfl B.str PyProof.Rows.boot_str (pa_of (qa_c (pv 1) qa_nil))) (qa_c (pe_tup (pa_of (qa_c (pv 1) qa_nil))) qa_nil)))))))))) (fun cl C s H fp => ⟨(pg_name (i := 0) (by decide : List.Nodup (["_law_thing", "_law_good"] : List Str)) rfl (Or.inl (by kernel_rfl)) (Or.inr (by kernel_rfl))), pts_nil, (pe_calN C_law_put (hr.mono (by decide)) (gl_of (by kernel_rfl)) (pa_of (qa_c (pv 1 (hv := Or.inr (Or.inl (by kernel_rfl)))) (qa_c pe_int (qa_c (pv 0 (hv := Or.inl (by kernel_rfl))) qa_nil)))) (he := star_plain _ _ _ rfl) (hpl := plain_any rfl))⟩)))) (by kernel_rfl)) (qss_hold (qss_one (qs_ret (qe_op op_cat (qe_of (pv 4)) (qe_of (pe_compB ["_law_thing", "_law_good"] [none, some 3] rfl (by kernel_rfl) (pi_list (pe_lst (pa_of (qa_c pe_str (qa_c pe_str (qa_c pe_str (qa_c pe_str (qa_c pe_int (qa_c pe_bl (qa_c (pe_lst (pa_of (qa_c pe_str qa_nil))) qa_nil)))))))))) (fun cl C s H fp => ⟨(pg_name (i := 0) (by decide : List.Nodup (["_law_thing", "_law_good"] : List Str)) rfl (Or.inl (by kernel_rfl)) (Or.inr (by kernel_rfl))), pts_nil, (pe_calN C_law_put (hr.mono (by decide)) (gl_of (by kernel_rfl)) (pa_of (qa_c (pv 1 (hv := Or.inr (Or.inl (by kernel_rfl)))) (qa_c pe_int (qa_c (pv 0 (hv := Or.inl (by kernel_rfl))) qa_nil)))) (he := star_plain _ _ _ rfl) (hpl := plain_any rfl))⟩)))))))))))))), ?_⟩
  obtain ⟨w1, w2, w3, ew⟩ := id W
  have freshN : ∀ {H' : Hp} {p : Addr}, Same H H' → H' p = none → p ≠ w0 := fun s h z => by
    have := s _ _ ew
    rw [← z, h] at this
    cases this
  have fresh : ∀ {H' : Hp} {p : Addr}, Same H H' → H' p = none → V.ref p ≠ .ref w0 := fun s h z => freshN s h (V.ref.inj z)
  have hlog : ∀ {n : Int}, 0 ≤ n → n < 1000001 → n.natAbs.log2 < 1920 := fun {n} h0 h1 => by
    by_cases hz : n.natAbs = 0
    · rw [hz]; decide
    · have := (Nat.log2_lt hz).mpr (show n.natAbs < 2 ^ 20 by omega)
      omega
  have hlm := hlog (show 0 ≤ m by omega) m1
  have hlt := hlog t0 (by omega)
  have oM : ∀ {H' : Hp} {n : Int}, okI K H' (.int n) := fun {H' n} => ⟨_, .int n, by kernel_rfl, by kernel_rfl⟩
  first | rw [w_hold] | (dsimp only; rw [w_hold])
  walk_at "w0"
  refine ⟨sz8 (by first | decide | (simp only [List.length_cons, List.length_nil]; decide)), fun g hg => ?_⟩
  have Sg := same_new hg (.lst [.int m, .int t, o])
  have gg := fresh (same_id _) hg
  have eg : upd H g (.lst [.int m, .int t, o]) g = some (.lst [.int m, .int t, o]) := upd_same
  generalize upd H g (.lst [.int m, .int t, o]) = J1 at *
  first | rw [w_hold] | (dsimp only; rw [w_hold])
  walk_at "w0"
  refine ⟨hlm, sz8 (by first | decide | (simp only [List.length_cons, List.length_nil]; decide)), fun q1 hq1 => ?_⟩
  have Sq1 := same_new hq1 (.lst [.int m])
  have gq1 := fresh Sg hq1
  have eq1 : upd J1 q1 (.lst [.int m]) q1 = some (.lst [.int m]) := upd_same
  generalize upd J1 q1 (.lst [.int m]) = J2 at *
  refine ⟨sz8 (by first | decide | (simp only [List.length_cons, List.length_nil]; decide)), fun pT1 hpT1 => ?_⟩
  have SpT1 := same_new hpT1 (.lst [.int 0, .int (-1), .int (-m), .bl true, .non, .str (Str.ofString (toString m)), .ref q1])
  have gpT1 := fresh (Sg.trans Sq1) hpT1
  have epT1 : upd J2 pT1 (.lst [.int 0, .int (-1), .int (-m), .bl true, .non, .str (Str.ofString (toString m)), .ref q1]) pT1 = some (.lst [.int 0, .int (-1), .int (-m), .bl true, .non, .str (Str.ofString (toString m)), .ref q1]) := upd_same
  generalize upd J2 pT1 (.lst [.int 0, .int (-1), .int (-m), .bl true, .non, .str (Str.ofString (toString m)), .ref q1]) = J3 at *
  have th1 : ∀ y ∈ ([.int 0, .int (-1), .int (-m), .bl true, .non, .str (Str.ofString (toString m)), .ref q1] : List V), okI K J3 y ∧ fromV y 1 = false := fun y hy => by
    simp only [List.mem_cons, List.not_mem_nil, or_false] at hy
    rcases hy with rfl | rfl | rfl | rfl | rfl | rfl | rfl
    · exact ⟨okI_no trivial, rfl⟩
    · exact ⟨okI_no trivial, rfl⟩
    · exact ⟨okI_no trivial, decide_eq_false (by omega)⟩
    · exact ⟨okI_no trivial, rfl⟩
    · exact ⟨okI_no trivial, rfl⟩
    · exact ⟨okI_no trivial, rfl⟩
    · exact ⟨okI_no (okV.lst (SpT1 _ _ eq1)), rfl⟩
  have lth1 : ([.int 0, .int (-1), .int (-m), .bl true, .non, .str (Str.ofString (toString m)), .ref q1] : List V).length = 7 := rfl
  generalize ([.int 0, .int (-1), .int (-m), .bl true, .non, .str (Str.ofString (toString m)), .ref q1] : List V) = Lth1 at *
  first | refine ⟨⟨_, SqL.of ((same_id _) _ _ epT1)⟩, ?_⟩ | refine ⟨pT1, rfl, ⟨_, SqL.of ((same_id _) _ _ epT1)⟩, ?_⟩
  refine CompL.by (xs := Lth1) (fun i acc σ H' => acc.length = i ∧ (∀ x ∈ acc, BadR K w0 H' x) ∧ (∃ v, σ = [v, some (.ref g)]) ∧ Same J3 H') (by rw [lth1]; exact sz8 (by decide)) ⟨rfl, (fun x hx => absurd hx List.not_mem_nil), ⟨_, rfl⟩, fun _ _ z => z⟩ (fun i acc σ H' _ h => SqL.of (h.2.2.2 _ _ ((same_id _) _ _ epT1))) ?_ ?_ ?_
  · rintro i y acc σ H' hy ⟨hl, ha, ⟨v, rfl⟩, S'⟩
    have hyb := th1 y (List.mem_of_getElem? hy)
    have SH := (Sg.trans (Sq1.trans SpT1)).trans S'
    have SB := (same_id _).trans S'
    walk_at "w0"
    refine ⟨g, 0, y, _, rfl, ((Sq1.trans SpT1).trans S') _ _ eg, by decide, (by decide : ((0 : Int) < ((3 : Nat) : Int))), (by decide : (3 : Nat) ≤ 100), fun r1 G1 T1 f1 e1 => ?_⟩
    have n1 := freshN SH f1
    have TT := T1
    have SG := SH.trans TT
    have SY := SB.trans TT
    have e2 : G1 r1 = some (.lst [y, .int t, o]) := e1
    have nb : BadR K w0 G1 (.ref r1) := ⟨r1, y, .int t, o, rfl, n1, e2, hyb.1.same SY, oM, ho.okN, by unfold raisB; rw [hyb.2]; rfl⟩
    have new : (acc ++ [V.ref r1]).length = i + 1 ∧ (∀ x ∈ acc ++ [V.ref r1], BadR K w0 G1 x) := ⟨by rw [List.length_append, hl]; rfl, fun x hx => by
      rcases List.mem_append.mp hx with hx | hx
      · exact (ha x hx).same TT
      · rw [List.mem_singleton.mp hx]; exact nb⟩
    first | exact ⟨new.1, new.2, ⟨_, rfl⟩, S'.trans TT⟩ | exact ⟨new.1, new.2, S'.trans TT⟩
  · rintro i acc σ H' ⟨hl, _⟩
    omega
  rintro accA σ J4 ⟨hlA, haA, ⟨vA, rfl⟩, SCA⟩ pA hpA
  rw [lth1] at hlA
  have SpA := same_new hpA (.lst accA)
  have gpA := fresh (Sg.trans (Sq1.trans (SpT1.trans SCA))) hpA
  have epA : upd J4 pA (.lst accA) pA = some (.lst accA) := upd_same
  generalize upd J4 pA (.lst accA) = J5 at *
  first | rw [w_hold] | (dsimp only; rw [w_hold])
  walk_at "w0"
  refine ⟨hlt, sz8 (by first | decide | (simp only [List.length_cons, List.length_nil]; decide)), fun q2 hq2 => ?_⟩
  have Sq2 := same_new hq2 (.tup [.int t])
  have gq2 := fresh (Sg.trans (Sq1.trans (SpT1.trans (SCA.trans SpA)))) hq2
  have eq2 : upd J5 q2 (.tup [.int t]) q2 = some (.tup [.int t]) := upd_same
  generalize upd J5 q2 (.tup [.int t]) = J6 at *
  refine ⟨sz8 (by first | decide | (simp only [List.length_cons, List.length_nil]; decide)), fun pT2 hpT2 => ?_⟩
  have SpT2 := same_new hpT2 (.lst [.int (-1), .int (-1 - t), .bl true, .bl false, .non, .str (Str.ofString (toString t)), .ref q2])
  have gpT2 := fresh (Sg.trans (Sq1.trans (SpT1.trans (SCA.trans (SpA.trans Sq2))))) hpT2
  have epT2 : upd J6 pT2 (.lst [.int (-1), .int (-1 - t), .bl true, .bl false, .non, .str (Str.ofString (toString t)), .ref q2]) pT2 = some (.lst [.int (-1), .int (-1 - t), .bl true, .bl false, .non, .str (Str.ofString (toString t)), .ref q2]) := upd_same
  generalize upd J6 pT2 (.lst [.int (-1), .int (-1 - t), .bl true, .bl false, .non, .str (Str.ofString (toString t)), .ref q2]) = J7 at *
  have th2 : ∀ y ∈ ([.int (-1), .int (-1 - t), .bl true, .bl false, .non, .str (Str.ofString (toString t)), .ref q2] : List V), okI K J7 y ∧ fromV y 0 = false := fun y hy => by
    simp only [List.mem_cons, List.not_mem_nil, or_false] at hy
    rcases hy with rfl | rfl | rfl | rfl | rfl | rfl | rfl
    · exact ⟨okI_no trivial, rfl⟩
    · exact ⟨okI_no trivial, decide_eq_false (by omega)⟩
    · exact ⟨okI_no trivial, rfl⟩
    · exact ⟨okI_no trivial, rfl⟩
    · exact ⟨okI_no trivial, rfl⟩
    · exact ⟨okI_no trivial, rfl⟩
    · exact ⟨okI_no (okV.tup (SpT2 _ _ eq2)), rfl⟩
  have lth2 : ([.int (-1), .int (-1 - t), .bl true, .bl false, .non, .str (Str.ofString (toString t)), .ref q2] : List V).length = 7 := rfl
  generalize ([.int (-1), .int (-1 - t), .bl true, .bl false, .non, .str (Str.ofString (toString t)), .ref q2] : List V) = Lth2 at *
  first | refine ⟨⟨_, SqL.of ((same_id _) _ _ epT2)⟩, ?_⟩ | refine ⟨pT2, rfl, ⟨_, SqL.of ((same_id _) _ _ epT2)⟩, ?_⟩
  refine CompL.by (xs := Lth2) (fun i acc σ H' => acc.length = i ∧ (∀ x ∈ acc, BadR K w0 H' x) ∧ (∃ v, σ = [v, some (.ref g)]) ∧ Same J7 H') (by rw [lth2]; exact sz8 (by decide)) ⟨rfl, (fun x hx => absurd hx List.not_mem_nil), ⟨_, rfl⟩, fun _ _ z => z⟩ (fun i acc σ H' _ h => SqL.of (h.2.2.2 _ _ ((same_id _) _ _ epT2))) ?_ ?_ ?_
  · rintro i y acc σ H' hy ⟨hl, ha, ⟨v, rfl⟩, S'⟩
    have hyb := th2 y (List.mem_of_getElem? hy)
    have SH := (Sg.trans (Sq1.trans (SpT1.trans (SCA.trans (SpA.trans (Sq2.trans SpT2)))))).trans S'
    have SB := (same_id _).trans S'
    walk_at "w0"
    refine ⟨g, 1, y, _, rfl, ((Sq1.trans (SpT1.trans (SCA.trans (SpA.trans (Sq2.trans SpT2))))).trans S') _ _ eg, by decide, (by decide : ((1 : Int) < ((3 : Nat) : Int))), (by decide : (3 : Nat) ≤ 100), fun r1 G1 T1 f1 e1 => ?_⟩
    have n1 := freshN SH f1
    have TT := T1
    have SG := SH.trans TT
    have SY := SB.trans TT
    have e2 : G1 r1 = some (.lst [.int m, y, o]) := e1
    have nb : BadR K w0 G1 (.ref r1) := ⟨r1, .int m, y, o, rfl, n1, e2, oM, hyb.1.same SY, ho.okN, by unfold raisB; rw [hyb.2, Bool.and_false]; rfl⟩
    have new : (acc ++ [V.ref r1]).length = i + 1 ∧ (∀ x ∈ acc ++ [V.ref r1], BadR K w0 G1 x) := ⟨by rw [List.length_append, hl]; rfl, fun x hx => by
      rcases List.mem_append.mp hx with hx | hx
      · exact (ha x hx).same TT
      · rw [List.mem_singleton.mp hx]; exact nb⟩
    first | exact ⟨new.1, new.2, ⟨_, rfl⟩, S'.trans TT⟩ | exact ⟨new.1, new.2, S'.trans TT⟩
  · rintro i acc σ H' ⟨hl, _⟩
    omega
  rintro accB σ J8 ⟨hlB, haB, ⟨vB, rfl⟩, SCB⟩ pB hpB
  rw [lth2] at hlB
  have SpB := same_new hpB (.lst accB)
  have gpB := fresh (Sg.trans (Sq1.trans (SpT1.trans (SCA.trans (SpA.trans (Sq2.trans (SpT2.trans SCB))))))) hpB
  have epB : upd J8 pB (.lst accB) pB = some (.lst accB) := upd_same
  generalize upd J8 pB (.lst accB) = J9 at *
  refine ⟨pA, pB, _, _, rfl, rfl, ((Sq2.trans (SpT2.trans (SCB.trans SpB))) _ _ epA), epB, sz8 (by omega), fun pAB hpAB => ?_⟩
  have SpAB := same_new hpAB (.lst (accA ++ accB))
  have gpAB := fresh (Sg.trans (Sq1.trans (SpT1.trans (SCA.trans (SpA.trans (Sq2.trans (SpT2.trans (SCB.trans SpB)))))))) hpAB
  have epAB : upd J9 pAB (.lst (accA ++ accB)) pAB = some (.lst (accA ++ accB)) := upd_same
  generalize upd J9 pAB (.lst (accA ++ accB)) = J10 at *
  first | refine hold_ret ?_ | (dsimp only; refine hold_ret ?_)
  walk_at "w0"
  refine ⟨sz8 (by first | decide | (simp only [List.length_cons, List.length_nil]; decide)), fun q3 hq3 => ?_⟩
  have Sq3 := same_new hq3 (.lst [.str (Str.ofString "a")])
  have gq3 := fresh (Sg.trans (Sq1.trans (SpT1.trans (SCA.trans (SpA.trans (Sq2.trans (SpT2.trans (SCB.trans (SpB.trans SpAB))))))))) hq3
  have eq3 : upd J10 q3 (.lst [.str (Str.ofString "a")]) q3 = some (.lst [.str (Str.ofString "a")]) := upd_same
  generalize upd J10 q3 (.lst [.str (Str.ofString "a")]) = J11 at *
  refine ⟨sz8 (by first | decide | (simp only [List.length_cons, List.length_nil]; decide)), fun pT3 hpT3 => ?_⟩
  have SpT3 := same_new hpT3 (.lst [.str (Str.ofString ""), .str (Str.ofString "A"), .str (Str.ofString "a b"), .str (Str.ofString "abcdefghi"), .int 5, .bl true, .ref q3])
  have gpT3 := fresh (Sg.trans (Sq1.trans (SpT1.trans (SCA.trans (SpA.trans (Sq2.trans (SpT2.trans (SCB.trans (SpB.trans (SpAB.trans Sq3)))))))))) hpT3
  have epT3 : upd J11 pT3 (.lst [.str (Str.ofString ""), .str (Str.ofString "A"), .str (Str.ofString "a b"), .str (Str.ofString "abcdefghi"), .int 5, .bl true, .ref q3]) pT3 = some (.lst [.str (Str.ofString ""), .str (Str.ofString "A"), .str (Str.ofString "a b"), .str (Str.ofString "abcdefghi"), .int 5, .bl true, .ref q3]) := upd_same
  generalize upd J11 pT3 (.lst [.str (Str.ofString ""), .str (Str.ofString "A"), .str (Str.ofString "a b"), .str (Str.ofString "abcdefghi"), .int 5, .bl true, .ref q3]) = J12 at *
  have th3 : ∀ y ∈ ([.str (Str.ofString ""), .str (Str.ofString "A"), .str (Str.ofString "a b"), .str (Str.ofString "abcdefghi"), .int 5, .bl true, .ref q3] : List V), okN J12 y ∧ isNonV y = false ∧ nameB y = false := fun y hy => by
    simp only [List.mem_cons, List.not_mem_nil, or_false] at hy
    rcases hy with rfl | rfl | rfl | rfl | rfl | rfl | rfl
    · exact ⟨⟨by decide +kernel, by decide +kernel⟩, rfl, by decide +kernel⟩
    · exact ⟨⟨by decide +kernel, by decide +kernel⟩, rfl, by decide +kernel⟩
    · exact ⟨⟨by decide +kernel, by decide +kernel⟩, rfl, by decide +kernel⟩
    · exact ⟨⟨by decide +kernel, by decide +kernel⟩, rfl, by decide +kernel⟩
    · exact ⟨trivial, rfl, rfl⟩
    · exact ⟨trivial, rfl, rfl⟩
    · exact ⟨.inl ⟨_, (SpT3 _ _ eq3)⟩, rfl, rfl⟩
  have lth3 : ([.str (Str.ofString ""), .str (Str.ofString "A"), .str (Str.ofString "a b"), .str (Str.ofString "abcdefghi"), .int 5, .bl true, .ref q3] : List V).length = 7 := rfl
  generalize ([.str (Str.ofString ""), .str (Str.ofString "A"), .str (Str.ofString "a b"), .str (Str.ofString "abcdefghi"), .int 5, .bl true, .ref q3] : List V) = Lth3 at *
  first | refine ⟨⟨_, SqL.of ((same_id _) _ _ epT3)⟩, ?_⟩ | refine ⟨pT3, rfl, ⟨_, SqL.of ((same_id _) _ _ epT3)⟩, ?_⟩
  refine CompL.by (xs := Lth3) (fun i acc σ H' => acc.length = i ∧ (∀ x ∈ acc, BadR K w0 H' x) ∧ (∃ v, σ = [v, some (.ref g)]) ∧ Same J12 H') (by rw [lth3]; exact sz8 (by decide)) ⟨rfl, (fun x hx => absurd hx List.not_mem_nil), ⟨_, rfl⟩, fun _ _ z => z⟩ (fun i acc σ H' _ h => SqL.of (h.2.2.2 _ _ ((same_id _) _ _ epT3))) ?_ ?_ ?_
  · rintro i y acc σ H' hy ⟨hl, ha, ⟨v, rfl⟩, S'⟩
    have hyb := th3 y (List.mem_of_getElem? hy)
    have SH := (Sg.trans (Sq1.trans (SpT1.trans (SCA.trans (SpA.trans (Sq2.trans (SpT2.trans (SCB.trans (SpB.trans (SpAB.trans (Sq3.trans SpT3))))))))))).trans S'
    have SB := (same_id _).trans S'
    walk_at "w0"
    refine ⟨g, 2, y, _, rfl, ((Sq1.trans (SpT1.trans (SCA.trans (SpA.trans (Sq2.trans (SpT2.trans (SCB.trans (SpB.trans (SpAB.trans (Sq3.trans SpT3)))))))))).trans S') _ _ eg, by decide, (by decide : ((2 : Int) < ((3 : Nat) : Int))), (by decide : (3 : Nat) ≤ 100), fun r1 G1 T1 f1 e1 => ?_⟩
    have n1 := freshN SH f1
    have TT := T1
    have SG := SH.trans TT
    have SY := SB.trans TT
    have e2 : G1 r1 = some (.lst [.int m, .int t, y]) := e1
    have nb : BadR K w0 G1 (.ref r1) := ⟨r1, .int m, .int t, y, rfl, n1, e2, oM, oM, hyb.1.same SY, by unfold raisB; rw [hyb.2.1, hyb.2.2, Bool.or_false, Bool.and_false]⟩
    have new : (acc ++ [V.ref r1]).length = i + 1 ∧ (∀ x ∈ acc ++ [V.ref r1], BadR K w0 G1 x) := ⟨by rw [List.length_append, hl]; rfl, fun x hx => by
      rcases List.mem_append.mp hx with hx | hx
      · exact (ha x hx).same TT
      · rw [List.mem_singleton.mp hx]; exact nb⟩
    first | exact ⟨new.1, new.2, ⟨_, rfl⟩, S'.trans TT⟩ | exact ⟨new.1, new.2, S'.trans TT⟩
  · rintro i acc σ H' ⟨hl, _⟩
    omega
  rintro accC σ J13 ⟨hlC, haC, ⟨vC, rfl⟩, SCC⟩ pC hpC
  rw [lth3] at hlC
  have SpC := same_new hpC (.lst accC)
  have gpC := fresh (Sg.trans (Sq1.trans (SpT1.trans (SCA.trans (SpA.trans (Sq2.trans (SpT2.trans (SCB.trans (SpB.trans (SpAB.trans (Sq3.trans (SpT3.trans SCC)))))))))))) hpC
  have epC : upd J13 pC (.lst accC) pC = some (.lst accC) := upd_same
  generalize upd J13 pC (.lst accC) = J14 at *
  refine ⟨pAB, pC, _, _, rfl, rfl, ((Sq3.trans (SpT3.trans (SCC.trans SpC))) _ _ epAB), epC, sz8 (by rw [List.length_append]; omega), fun pZ hpZ => ?_⟩
  have SpZ := same_new hpZ (.lst ((accA ++ accB) ++ accC))
  have gpZ := fresh (Sg.trans (Sq1.trans (SpT1.trans (SCA.trans (SpA.trans (Sq2.trans (SpT2.trans (SCB.trans (SpB.trans (SpAB.trans (Sq3.trans (SpT3.trans (SCC.trans SpC))))))))))))) hpZ
  have epZ : upd J14 pZ (.lst ((accA ++ accB) ++ accC)) pZ = some (.lst ((accA ++ accB) ++ accC)) := upd_same
  generalize upd J14 pZ (.lst ((accA ++ accB) ++ accC)) = J15 at *
  refine q pZ _ _ (Sg.trans (Sq1.trans (SpT1.trans (SCA.trans (SpA.trans (Sq2.trans (SpT2.trans (SCB.trans (SpB.trans (SpAB.trans (Sq3.trans (SpT3.trans (SCC.trans (SpC.trans SpZ)))))))))))))) ((Sg.trans (Sq1.trans (SpT1.trans (SCA.trans (SpA.trans (Sq2.trans (SpT2.trans (SCB.trans (SpB.trans (SpAB.trans (Sq3.trans (SpT3.trans (SCC.trans SpC))))))))))))).free hpZ) epZ (by rw [List.length_append, List.length_append]; omega) (by rw [List.length_append, List.length_append]; omega) fun x hx => ?_
  rcases List.mem_append.mp hx with hx | hx
  · rcases List.mem_append.mp hx with hx | hx
    · exact (haA x hx).same (SpA.trans (Sq2.trans (SpT2.trans (SCB.trans (SpB.trans (SpAB.trans (Sq3.trans (SpT3.trans (SCC.trans (SpC.trans SpZ))))))))))
    · exact (haB x hx).same (SpB.trans (SpAB.trans (Sq3.trans (SpT3.trans (SCC.trans (SpC.trans SpZ))))))
  · exact (haC x hx).same (SpC.trans SpZ)
theorem ok_law_odd_line (B : Bt K mg a) (C_law_put : CalX P w K mg base "_law_put" ["_law_parts", "_law_at", "_law_thing"] 1 (sp_law_put K a)) (F : Fun K "_law_odd_line" "_law_odd_line" s_law_odd_line f fd) : FnOk P w K mg base CX0 2 f fd ["_law_fit", "_law_way", "_law_roads_here", "_law_raised"] (sp_law_odd_line K a) := by
  refine F.ok sc_law_odd_line (fun vs H Q E h => ?_) (fun cdv A outer s H vs Q E hr h => ?_)
  · obtain ⟨fp, yp, rp, zp, w0, C, d1, d2, d3, f1, f2, f3, us, rfl, _⟩ := h
    rfl
  obtain ⟨fp, yp, rp, zp, w0, C, d1, d2, d3, f1, f2, f3, us, rfl, hfp, hyp, hC, hzp, hr1, une, ul5, ug, nd, W, nw, q⟩ := h
  refine ⟨_, (pss_of (qss_hold (qss_cons (qs_set (i := 4) sc_law_odd_line.nd rfl (Or.inr rfl) (qe_lst (qa_c (pv 0) (qa_c (pv 1) (qa_c (pv 2) (qa_c pe_bl (qa_c (pv 3) qa_nil)))))) (by kernel_rfl)) (qss_hold (qss_cons (qs_of (ps_compB (i := 5) ["_law_thing", "_law_good"] [none, some 4] rfl (by kernel_rfl) sc_law_odd_line.nd rfl rfl (pi_list (pe_lst (pa_of (qa_c pe_non (qa_c pe_str (qa_c pe_int (qa_c pe_bl (qa_c (pe_lst (pa_of (qa_c (pv 0) qa_nil))) (qa_c (pv 1) (qa_c (pv 3) qa_nil)))))))))) (fun cl C s H fp => ⟨(pg_name (i := 0) (by decide : List.Nodup (["_law_thing", "_law_good"] : List Str)) rfl (Or.inl (by kernel_rfl)) (Or.inr (by kernel_rfl))), pts_nil, (pe_calN C_law_put (hr.mono (by decide)) (gl_of (by kernel_rfl)) (pa_of (qa_c (pv 1 (hv := Or.inr (Or.inl (by kernel_rfl)))) (qa_c pe_int (qa_c (pv 0 (hv := Or.inl (by kernel_rfl))) qa_nil)))) (he := star_plain _ _ _ rfl) (hpl := plain_any rfl))⟩))) (qss_hold (qss_cons (qs_set (i := 5) sc_law_odd_line.nd rfl (Or.inl rfl) (qe_op op_cat (qe_of (pv 5)) (qe_of (pe_compB ["_law_thing", "_law_good"] [none, some 4] rfl (by kernel_rfl) (pi_list (pe_lst (pa_of (qa_c pe_non (qa_c pe_str (qa_c pe_int (qa_c pe_bl (qa_c (pe_lst (pa_of (qa_c (pv 1) qa_nil))) (qa_c (pv 0) (qa_c (pv 3) qa_nil)))))))))) (fun cl C s H fp => ⟨(pg_name (i := 0) (by decide : List.Nodup (["_law_thing", "_law_good"] : List Str)) rfl (Or.inl (by kernel_rfl)) (Or.inr (by kernel_rfl))), pts_nil, (pe_calN C_law_put (hr.mono (by decide)) (gl_of (by kernel_rfl)) (pa_of (qa_c (pv 1 (hv := Or.inr (Or.inl (by kernel_rfl)))) (qa_c pe_int (qa_c (pv 0 (hv := Or.inl (by kernel_rfl))) qa_nil)))) (he := star_plain _ _ _ rfl) (hpl := plain_any rfl))⟩)))) (by kernel_rfl)) (qss_hold (qss_cons (qs_set (i := 5) sc_law_odd_line.nd rfl (Or.inl rfl) (qe_op op_cat (qe_of (pv 5)) (qe_of (pe_compB ["_law_thing", "_law_good"] [none, some 4] rfl (by kernel_rfl) (pi_list (pe_lst (pa_of (qa_c (pe_lst (pa_of qa_nil)) (qa_c (pe_callTy call_tuple_of rfl B.tuple PyProof.Rows.boot_tuple (pa_of (qa_c (pv 2) qa_nil))) (qa_c (pe_ix ix_list (pv 2) pe_int (fun _ _ => rfl)) (qa_c pe_non (qa_c pe_int (qa_c pe_noKeys (qa_c (pe_op op_cat (pv 2) (pe_slice sl_list (pv 2) (po_some (pe_un un_neg pe_int)) po_none)) qa_nil)))))))))) (fun cl C s H fp => ⟨(pg_name (i := 0) (by decide : List.Nodup (["_law_thing", "_law_good"] : List Str)) rfl (Or.inl (by kernel_rfl)) (Or.inr (by kernel_rfl))), pts_nil, (pe_calN C_law_put (hr.mono (by decide)) (gl_of (by kernel_rfl)) (pa_of (qa_c (pv 1 (hv := Or.inr (Or.inl (by kernel_rfl)))) (qa_c pe_int (qa_c (pv 0 (hv := Or.inl (by kernel_rfl))) qa_nil)))) (he := star_plain _ _ _ rfl) (hpl := plain_any rfl))⟩)))) (by kernel_rfl)) (qss_hold (qss_cons (qs_set (i := 5) sc_law_odd_line.nd rfl (Or.inl rfl) (qe_op op_cat (qe_of (pv 5)) (qe_of (pe_compB ["_law_thing", "_law_good", "_law_roads_here"] [none, some 4, some 2] rfl (by kernel_rfl) (pi_list (pe_lst (pa_of (qa_c pe_str (qa_c pe_str (qa_c pe_str (qa_c pe_non (qa_c pe_int (qa_c (pe_lst (pa_of (qa_c (pe_ix ix_list (pv 2) pe_int (fun _ _ => rfl)) qa_nil))) qa_nil))))))))) (fun cl C s H fp => ⟨(pg_name (i := 0) (by decide : List.Nodup (["_law_thing", "_law_good", "_law_roads_here"] : List Str)) rfl (Or.inl (by kernel_rfl)) (Or.inr (by kernel_rfl))), pts_nil, (pe_calN C_law_put (hr.mono (by decide)) (gl_of (by kernel_rfl)) (pa_of (qa_c (pv 1 (hv := Or.inr (Or.inl (by kernel_rfl)))) (qa_c pe_int (qa_c (pe_op op_cat (pv 2 (hv := Or.inr (Or.inl (by kernel_rfl)))) (pe_lst (pa_of (qa_c (pv 0 (hv := Or.inl (by kernel_rfl))) qa_nil)))) qa_nil)))) (he := star_plain _ _ _ rfl) (hpl := plain_any rfl))⟩)))) (by kernel_rfl)) (qss_hold (qss_cons (qs_set (i := 5) sc_law_odd_line.nd rfl (Or.inl rfl) (qe_op op_cat (qe_of (pv 5)) (qe_of (pe_compB ["_law_thing", "_law_good", "_law_roads_here"] [none, some 4, some 2] rfl (by kernel_rfl) (pi_list (pe_lst (pa_of (qa_c pe_str (qa_c pe_bl (qa_c (pe_ix ix_list (pv 2) (pe_un un_neg pe_int) (fun _ _ => rfl)) qa_nil)))))) (fun cl C s H fp => ⟨(pg_name (i := 0) (by decide : List.Nodup (["_law_thing", "_law_good", "_law_roads_here"] : List Str)) rfl (Or.inl (by kernel_rfl)) (Or.inr (by kernel_rfl))), pts_nil, (pe_calN C_law_put (hr.mono (by decide)) (gl_of (by kernel_rfl)) (pa_of (qa_c (pv 1 (hv := Or.inr (Or.inl (by kernel_rfl)))) (qa_c pe_int (qa_c (pe_op op_cat (pe_lst (pa_of (qa_c (pv 0 (hv := Or.inl (by kernel_rfl))) qa_nil))) (pv 2 (hv := Or.inr (Or.inl (by kernel_rfl))))) qa_nil)))) (he := star_plain _ _ _ rfl) (hpl := plain_any rfl))⟩)))) (by kernel_rfl)) (qss_hold (qss_cons (qs_set (i := 5) sc_law_odd_line.nd rfl (Or.inl rfl) (qe_op op_cat (qe_of (pv 5)) (qe_of (pe_compB ["_law_thing", "_law_good"] [none, some 4] rfl (by kernel_rfl) (pi_list (pe_lst (pa_of (qa_c pe_non (qa_c pe_int (qa_c pe_int (qa_c pe_str (qa_c (pe_lst (pa_of (qa_c pe_bl qa_nil))) qa_nil)))))))) (fun cl C s H fp => ⟨(pg_name (i := 0) (by decide : List.Nodup (["_law_thing", "_law_good"] : List Str)) rfl (Or.inl (by kernel_rfl)) (Or.inr (by kernel_rfl))), pts_nil, (pe_calN C_law_put (hr.mono (by decide)) (gl_of (by kernel_rfl)) (pa_of (qa_c (pv 1 (hv := Or.inr (Or.inl (by kernel_rfl)))) (qa_c pe_int (qa_c (pv 0 (hv := Or.inl (by kernel_rfl))) qa_nil)))) (he := star_plain _ _ _ rfl) (hpl := plain_any rfl))⟩)))) (by kernel_rfl)) (qss_hold (qss_cons (qs_set (i := 5) sc_law_odd_line.nd rfl (Or.inl rfl) (qe_op op_cat (qe_of (pv 5)) (qe_of (pe_compB ["_law_thing", "_law_good"] [none, some 4] rfl (by kernel_rfl) (pi_list (pe_lst (pa_of (qa_c pe_bl (qa_c pe_bl (qa_c pe_int (qa_c pe_str (qa_c (pe_tup (pa_of (qa_c pe_int (qa_c pe_int (qa_c pe_non qa_nil))))) (qa_c (pe_lst (pa_of (qa_c (pv 3) qa_nil))) (qa_c (pv 0) qa_nil)))))))))) (fun cl C s H fp => ⟨(pg_name (i := 0) (by decide : List.Nodup (["_law_thing", "_law_good"] : List Str)) rfl (Or.inl (by kernel_rfl)) (Or.inr (by kernel_rfl))), pts_nil, (pe_calN C_law_put (hr.mono (by decide)) (gl_of (by kernel_rfl)) (pa_of (qa_c (pv 1 (hv := Or.inr (Or.inl (by kernel_rfl)))) (qa_c pe_int (qa_c (pv 0 (hv := Or.inl (by kernel_rfl))) qa_nil)))) (he := star_plain _ _ _ rfl) (hpl := plain_any rfl))⟩)))) (by kernel_rfl)) (qss_hold (qss_cons (qs_set (i := 6) sc_law_odd_line.nd rfl (Or.inl rfl) (qe_lst (qa_c (pv 0) (qa_c (pe_makN B.mk_Never rfl B.Never) (qa_c (pe_lst (pa_of qa_nil)) (qa_c pe_bl (qa_c pe_non qa_nil)))))) (by kernel_rfl)) (qss_hold (qss_cons (qs_set (i := 5) sc_law_odd_line.nd rfl (Or.inl rfl) (qe_op op_cat (qe_of (pv 5)) (qe_lst (qa_c (pe_calN C_law_put (hr.mono (by decide)) rfl (pa_of (qa_c (pv 6) (qa_c pe_int (qa_c (pv 2) qa_nil)))) (he := star_plain _ _ _ rfl) (hpl := plain_any rfl)) (qa_c (pe_calN C_law_put (hr.mono (by decide)) rfl (pa_of (qa_c (pv 6) (qa_c pe_int (qa_c pe_bl qa_nil)))) (he := star_plain _ _ _ rfl) (hpl := plain_any rfl)) (qa_c (pe_calN C_law_put (hr.mono (by decide)) rfl (pa_of (qa_c (pv 6) (qa_c pe_int (qa_c (pv 3) qa_nil)))) (he := star_plain _ _ _ rfl) (hpl := plain_any rfl)) qa_nil))))) (by kernel_rfl)) (qss_hold (qss_one (qs_ret (qe_op op_cat (qe_of (pv 5)) (qe_lst (qa_c (pe_calN C_law_put (hr.mono (by decide)) rfl (pa_of (qa_c (pv 6) (qa_c pe_int (qa_c (pe_tup (pa_of qa_nil)) qa_nil)))) (he := star_plain _ _ _ rfl) (hpl := plain_any rfl)) (qa_c (pe_calN C_law_put (hr.mono (by decide)) rfl (pa_of (qa_c (pv 6) (qa_c pe_int (qa_c pe_non qa_nil)))) (he := star_plain _ _ _ rfl) (hpl := plain_any rfl)) qa_nil)))))))))))))))))))))))))))), ?_⟩
  obtain ⟨w1, w2, w3, ew⟩ := id W
  have freshN : ∀ {H' : Hp} {p : Addr}, Same H H' → H' p = none → p ≠ w0 := fun s h z => by
    have := s _ _ ew
    rw [← z, h] at this
    cases this
  have fresh : ∀ {H' : Hp} {p : Addr}, Same H H' → H' p = none → V.ref p ≠ .ref w0 := fun s h z => freshN s h (V.ref.inj z)
  have wyF : ClsK K C ∧ PySem.W.kitOne K (.ref C) (.ref a.Way) = some true ∧ PySem.W.kitOne K (.ref C) (.ref a.Never) = some false ∧ PySem.W.kitOne K (.ref C) (.ref a.Fit) = some false := by
    rcases hC with rfl | rfl | rfl
    · exact ⟨B.ck_Now, B.is_Now_Way, B.is_Now_Never, B.is_Now_Fit⟩
    · exact ⟨B.ck_Hour, B.is_Hour_Way, B.is_Hour_Never, B.is_Hour_Fit⟩
    · exact ⟨B.ck_Day, B.is_Day_Way, B.is_Day_Never, B.is_Day_Fit⟩
  obtain ⟨ckC, cW, cN, cF⟩ := wyF
  have nrp : V.ref rp ≠ .ref w0 := fun z => nw (V.ref.inj z)
  have emp : (us.map V.str).isEmpty = false := by
    cases us with
    | nil => exact absurd rfl une
    | cons u r => rfl
  obtain ⟨u0, eu0⟩ : ∃ u, us[0]? = some u := ⟨us[0]'(List.length_pos_iff.mpr une), List.getElem?_eq_getElem _⟩
  have um0 : u0 ∈ us := List.mem_of_getElem? eu0
  have gu0 := ug u0 um0
  have iu0 : atI (us.map V.str) 0 = some (.str u0) := atI_nat (j := 0) (by rw [List.getElem?_map, eu0]; rfl)
  have okU : ∀ {G : Hp} {u : Str}, u ∈ us → okN G (.str u) := fun {G u} hu => ⟨(good_sm (ug u hu)).1, by have := (good_sm (ug u hu)).2; omega⟩
  have gl := ug _ (List.getLast_mem une)
  have cl := cut_last une
  have il := at_last une
  have lkG : ∀ {G : Hp}, Same H G → Lk K a G (.ref fp) (.ref yp) (.ref rp) (.bl true) (.ref zp) true true false true false true true := fun {G} S => ⟨⟨_, B.ck_Least.ty (S _ _ hfp), B.is_Least_Fit⟩, ⟨_, ckC.ty (S _ _ hyp), cW⟩, fun _ => ⟨_, ckC.ty (S _ _ hyp), cN⟩, .inl ⟨rp, _, rfl, S _ _ hr1, by rw [List.length_map]; omega, fun z hz => str_ok ug hz, (names_good ug nd).symm, emp.symm⟩, .inl ⟨true, rfl, rfl⟩, .inr ⟨(by intro z; cases z), _, B.ck_Raised.ty (S _ _ hzp), B.is_Raised_Raised⟩⟩
  have anyN : ∀ {G : Hp} {x : Str}, (plainS x = true ∧ x.length ≤ 1000) → okN G (.str x) := fun h => h
  first | rw [w_hold] | (dsimp only; rw [w_hold])
  walk_at "w0"
  refine ⟨sz8 (by first | decide | (simp only [List.length_cons, List.length_nil]; decide)), fun g hg => ?_⟩
  have Sg := same_new hg (.lst [.ref fp, .ref yp, .ref rp, .bl true, .ref zp])
  have gg := fresh (same_id _) hg
  have eg : upd H g (.lst [.ref fp, .ref yp, .ref rp, .bl true, .ref zp]) g = some (.lst [.ref fp, .ref yp, .ref rp, .bl true, .ref zp]) := upd_same
  generalize upd H g (.lst [.ref fp, .ref yp, .ref rp, .bl true, .ref zp]) = J1 at *
  have Z1 := Sg
  have eg1 := ((same_id _) _ _ eg)
  clear Sg
  first | rw [w_hold] | (dsimp only; rw [w_hold])
  walk_at "w0"
  refine ⟨sz8 (by first | decide | (simp only [List.length_cons, List.length_nil]; decide)), fun q1 hq1 => ?_⟩
  have Sq1 := same_new hq1 (.lst [.ref fp])
  have gq1 := fresh Z1 hq1
  have eq1 : upd J1 q1 (.lst [.ref fp]) q1 = some (.lst [.ref fp]) := upd_same
  generalize upd J1 q1 (.lst [.ref fp]) = J2 at *
  refine ⟨sz8 (by first | decide | (simp only [List.length_cons, List.length_nil]; decide)), fun pT0 hpT0 => ?_⟩
  have SpT0 := same_new hpT0 (.lst [.non, .str (Str.ofString "any"), .int 5, .bl true, .ref q1, .ref yp, .ref zp])
  have gpT0 := fresh (Z1.trans Sq1) hpT0
  have epT0 : upd J2 pT0 (.lst [.non, .str (Str.ofString "any"), .int 5, .bl true, .ref q1, .ref yp, .ref zp]) pT0 = some (.lst [.non, .str (Str.ofString "any"), .int 5, .bl true, .ref q1, .ref yp, .ref zp]) := upd_same
  generalize upd J2 pT0 (.lst [.non, .str (Str.ofString "any"), .int 5, .bl true, .ref q1, .ref yp, .ref zp]) = J3 at *
  have th0 : ∀ y ∈ ([.non, .str (Str.ofString "any"), .int 5, .bl true, .ref q1, .ref yp, .ref zp] : List V), okK K (.ref a.Fit) J3 y false := fun y hy => by
    simp only [List.mem_cons, List.not_mem_nil, or_false] at hy
    rcases hy with rfl | rfl | rfl | rfl | rfl | rfl | rfl
    · exact noFit_no B trivial
    · exact noFit_no B (anyN ⟨by decide +kernel, by decide +kernel⟩)
    · exact noFit_no B trivial
    · exact noFit_no B trivial
    · exact noFit_no B (.inl ⟨_, (SpT0 _ _ eq1)⟩)
    · exact ⟨_, ckC.ty ((Z1.trans (Sq1.trans SpT0)) _ _ hyp), cF⟩
    · exact ⟨_, B.ck_Raised.ty ((Z1.trans (Sq1.trans SpT0)) _ _ hzp), B.is_Raised_Fit⟩
  have lth0 : ([.non, .str (Str.ofString "any"), .int 5, .bl true, .ref q1, .ref yp, .ref zp] : List V).length = 7 := rfl
  generalize ([.non, .str (Str.ofString "any"), .int 5, .bl true, .ref q1, .ref yp, .ref zp] : List V) = Lth0 at *
  first | refine ⟨⟨_, SqL.of ((same_id _) _ _ epT0)⟩, ?_⟩ | refine ⟨pT0, rfl, ⟨_, SqL.of ((same_id _) _ _ epT0)⟩, ?_⟩
  refine CompL.by (xs := Lth0) (fun i acc σ H' => acc.length = i ∧ (∀ x ∈ acc, BadL K a w0 H' x) ∧ (∃ v, σ = [v, some (.ref g)]) ∧ Same J3 H') (by rw [lth0]; exact sz8 (by decide)) ⟨rfl, (fun x hx => absurd hx List.not_mem_nil), ⟨_, rfl⟩, fun _ _ z => z⟩ (fun i acc σ H' _ h => SqL.of (h.2.2.2 _ _ ((same_id _) _ _ epT0))) ?_ ?_ ?_
  · rintro i y acc σ H' hy ⟨hl, ha, ⟨v, rfl⟩, S'⟩
    have hyb := th0 y (List.mem_of_getElem? hy)
    have SH := (Z1.trans (Sq1.trans SpT0)).trans S'
    have SB := (same_id _).trans S'
    walk_at "w0"
    refine ⟨g, 0, y, _, rfl, ((Sq1.trans SpT0).trans S') _ _ eg1, by decide, (by decide : ((0 : Int) < ((5 : Nat) : Int))), (by decide : (5 : Nat) ≤ 100), fun r1 G1 T1 f1 e1 => ?_⟩
    have n1 := freshN SH f1
    have TT := T1
    have SG := SH.trans TT
    have SY := SB.trans TT
    have e2 : G1 r1 = some (.lst [y, .ref yp, .ref rp, .bl true, .ref zp]) := e1
    have nb : BadL K a w0 G1 (.ref r1) := have k := lkG SG
      ⟨r1, y, .ref yp, .ref rp, .bl true, .ref zp, rfl, n1, e2, nrp, false, true, false, true, false, true, true, ⟨hyb.same SY, k.kw, k.kn, k.kr, k.ks, k.kz⟩, rfl⟩
    have new : (acc ++ [V.ref r1]).length = i + 1 ∧ (∀ x ∈ acc ++ [V.ref r1], BadL K a w0 G1 x) := ⟨by rw [List.length_append, hl]; rfl, fun x hx => by
      rcases List.mem_append.mp hx with hx | hx
      · exact (ha x hx).same TT
      · rw [List.mem_singleton.mp hx]; exact nb⟩
    first | exact ⟨new.1, new.2, ⟨_, rfl⟩, S'.trans TT⟩ | exact ⟨new.1, new.2, S'.trans TT⟩
  · rintro i acc σ H' ⟨hl, _⟩
    omega
  rintro accD0 σ J4 ⟨hlD0, haD0, ⟨vD0, rfl⟩, SCD0⟩ pD0 hpD0
  rw [lth0] at hlD0
  have SpD0 := same_new hpD0 (.lst accD0)
  have gpD0 := fresh (Z1.trans (Sq1.trans (SpT0.trans SCD0))) hpD0
  have epD0 : upd J4 pD0 (.lst accD0) pD0 = some (.lst accD0) := upd_same
  generalize upd J4 pD0 (.lst accD0) = J5 at *
  have hO1 := haD0
  have lO1 := hlD0
  have hO1' : ∀ x ∈ accD0, BadL K a w0 J5 x := fun x hx => (haD0 x hx).same SpD0
  have eO := epD0
  generalize accD0 = O1 at *
  have Z2 := (Z1.trans (Sq1.trans (SpT0.trans (SCD0.trans SpD0))))
  have eg2 := ((Sq1.trans (SpT0.trans (SCD0.trans SpD0))) _ _ eg1)
  clear Sq1 SpT0 SCD0 SpD0
  have eO2 := eO
  clear eO
  first | rw [w_hold] | (dsimp only; rw [w_hold])
  walk_at "w0"
  refine ⟨sz8 (by first | decide | (simp only [List.length_cons, List.length_nil]; decide)), fun q1 hq1 => ?_⟩
  have Sq1 := same_new hq1 (.lst [.ref yp])
  have gq1 := fresh Z2 hq1
  have eq1 : upd J5 q1 (.lst [.ref yp]) q1 = some (.lst [.ref yp]) := upd_same
  generalize upd J5 q1 (.lst [.ref yp]) = J6 at *
  refine ⟨sz8 (by first | decide | (simp only [List.length_cons, List.length_nil]; decide)), fun pT1 hpT1 => ?_⟩
  have SpT1 := same_new hpT1 (.lst [.non, .str (Str.ofString "now"), .int 5, .bl false, .ref q1, .ref fp, .ref zp])
  have gpT1 := fresh (Z2.trans Sq1) hpT1
  have epT1 : upd J6 pT1 (.lst [.non, .str (Str.ofString "now"), .int 5, .bl false, .ref q1, .ref fp, .ref zp]) pT1 = some (.lst [.non, .str (Str.ofString "now"), .int 5, .bl false, .ref q1, .ref fp, .ref zp]) := upd_same
  generalize upd J6 pT1 (.lst [.non, .str (Str.ofString "now"), .int 5, .bl false, .ref q1, .ref fp, .ref zp]) = J7 at *
  have th1 : ∀ y ∈ ([.non, .str (Str.ofString "now"), .int 5, .bl false, .ref q1, .ref fp, .ref zp] : List V), okK K (.ref a.Way) J7 y false := fun y hy => by
    simp only [List.mem_cons, List.not_mem_nil, or_false] at hy
    rcases hy with rfl | rfl | rfl | rfl | rfl | rfl | rfl
    · exact noWay_no B trivial
    · exact noWay_no B (anyN ⟨by decide +kernel, by decide +kernel⟩)
    · exact noWay_no B trivial
    · exact noWay_no B trivial
    · exact noWay_no B (.inl ⟨_, (SpT1 _ _ eq1)⟩)
    · exact ⟨_, B.ck_Least.ty ((Z2.trans (Sq1.trans SpT1)) _ _ hfp), B.is_Least_Way⟩
    · exact ⟨_, B.ck_Raised.ty ((Z2.trans (Sq1.trans SpT1)) _ _ hzp), B.is_Raised_Way⟩
  have lth1 : ([.non, .str (Str.ofString "now"), .int 5, .bl false, .ref q1, .ref fp, .ref zp] : List V).length = 7 := rfl
  generalize ([.non, .str (Str.ofString "now"), .int 5, .bl false, .ref q1, .ref fp, .ref zp] : List V) = Lth1 at *
  first | refine ⟨⟨_, SqL.of ((same_id _) _ _ epT1)⟩, ?_⟩ | refine ⟨pT1, rfl, ⟨_, SqL.of ((same_id _) _ _ epT1)⟩, ?_⟩
  refine CompL.by (xs := Lth1) (fun i acc σ H' => acc.length = i ∧ (∀ x ∈ acc, BadL K a w0 H' x) ∧ (∃ v, σ = [v, some (.ref g)]) ∧ Same J7 H') (by rw [lth1]; exact sz8 (by decide)) ⟨rfl, (fun x hx => absurd hx List.not_mem_nil), ⟨_, rfl⟩, fun _ _ z => z⟩ (fun i acc σ H' _ h => SqL.of (h.2.2.2 _ _ ((same_id _) _ _ epT1))) ?_ ?_ ?_
  · rintro i y acc σ H' hy ⟨hl, ha, ⟨v, rfl⟩, S'⟩
    have hyb := th1 y (List.mem_of_getElem? hy)
    have SH := (Z2.trans (Sq1.trans SpT1)).trans S'
    have SB := (same_id _).trans S'
    walk_at "w0"
    refine ⟨g, 1, y, _, rfl, ((Sq1.trans SpT1).trans S') _ _ eg2, by decide, (by decide : ((1 : Int) < ((5 : Nat) : Int))), (by decide : (5 : Nat) ≤ 100), fun r1 G1 T1 f1 e1 => ?_⟩
    have n1 := freshN SH f1
    have TT := T1
    have SG := SH.trans TT
    have SY := SB.trans TT
    have e2 : G1 r1 = some (.lst [.ref fp, y, .ref rp, .bl true, .ref zp]) := e1
    have nb : BadL K a w0 G1 (.ref r1) := have k := lkG SG
      ⟨r1, .ref fp, y, .ref rp, .bl true, .ref zp, rfl, n1, e2, nrp, true, false, false, true, false, true, true, ⟨k.kf, hyb.same SY, (fun h => by cases h), k.kr, k.ks, k.kz⟩, rfl⟩
    have new : (acc ++ [V.ref r1]).length = i + 1 ∧ (∀ x ∈ acc ++ [V.ref r1], BadL K a w0 G1 x) := ⟨by rw [List.length_append, hl]; rfl, fun x hx => by
      rcases List.mem_append.mp hx with hx | hx
      · exact (ha x hx).same TT
      · rw [List.mem_singleton.mp hx]; exact nb⟩
    first | exact ⟨new.1, new.2, ⟨_, rfl⟩, S'.trans TT⟩ | exact ⟨new.1, new.2, S'.trans TT⟩
  · rintro i acc σ H' ⟨hl, _⟩
    omega
  rintro accD1 σ J8 ⟨hlD1, haD1, ⟨vD1, rfl⟩, SCD1⟩ pD1 hpD1
  rw [lth1] at hlD1
  have SpD1 := same_new hpD1 (.lst accD1)
  have gpD1 := fresh (Z2.trans (Sq1.trans (SpT1.trans SCD1))) hpD1
  have epD1 : upd J8 pD1 (.lst accD1) pD1 = some (.lst accD1) := upd_same
  generalize upd J8 pD1 (.lst accD1) = J9 at *
  refine ⟨pD0, pD1, _, _, rfl, rfl, ((Sq1.trans (SpT1.trans (SCD1.trans SpD1))) _ _ eO2), epD1, sz8 (by omega), fun pO2 hpO2 => ?_⟩
  have SpO2 := same_new hpO2 (.lst (O1 ++ accD1))
  have gpO2 := fresh (Z2.trans (Sq1.trans (SpT1.trans (SCD1.trans SpD1)))) hpO2
  have epO2 : upd J9 pO2 (.lst (O1 ++ accD1)) pO2 = some (.lst (O1 ++ accD1)) := upd_same
  generalize upd J9 pO2 (.lst (O1 ++ accD1)) = J10 at *
  have hO2' : ∀ x ∈ O1 ++ accD1, BadL K a w0 J10 x := fun x hx => by
    rcases List.mem_append.mp hx with hx | hx
    · exact (hO1' x hx).same (Sq1.trans (SpT1.trans (SCD1.trans (SpD1.trans SpO2))))
    · exact (haD1 x hx).same (SpD1.trans SpO2)
  have lO2 : (O1 ++ accD1).length = 14 := by rw [List.length_append, lO1, hlD1]
  have eO := epO2
  generalize O1 ++ accD1 = O2 at *
  have Z3 := (Z2.trans (Sq1.trans (SpT1.trans (SCD1.trans (SpD1.trans SpO2)))))
  have eg3 := ((Sq1.trans (SpT1.trans (SCD1.trans (SpD1.trans SpO2)))) _ _ eg2)
  clear Sq1 SpT1 SCD1 SpD1 SpO2
  have eO3 := eO
  clear eO
  first | rw [w_hold] | (dsimp only; rw [w_hold])
  walk_at "w0"
  refine ⟨Nat.zero_le _, fun q1 hq1 => ?_⟩
  have Sq1 := same_new hq1 (.lst [])
  have gq1 := fresh Z3 hq1
  have eq1 : upd J10 q1 (.lst []) q1 = some (.lst []) := upd_same
  generalize upd J10 q1 (.lst []) = J11 at *
  refine ⟨_, .inl ⟨SqL.of ((Z3.trans Sq1) _ _ hr1), fun q2 hq2 => ?_⟩⟩
  have Sq2 := same_new hq2 (.tup (us.map V.str))
  have gq2 := fresh (Z3.trans Sq1) hq2
  have eq2 : upd J11 q2 (.tup (us.map V.str)) q2 = some (.tup (us.map V.str)) := upd_same
  generalize upd J11 q2 (.tup (us.map V.str)) = J12 at *
  walk_at "w0"
  refine ixl (SqL.of ((Z3.trans (Sq1.trans Sq2)) _ _ hr1)) (v := .str u0) iu0 ?_
  walk_at "w0"
  intro d1 hd1
  have Sd1 := same_new hd1 (.dK [])
  have gd1 := fresh (Z3.trans (Sq1.trans Sq2)) hd1
  have ed1 : upd J12 d1 (.dK []) d1 = some (.dK []) := upd_same
  generalize upd J12 d1 (.dK []) = J13 at *
  walk_at "w0"
  refine ⟨rp, _, rfl, SqL.of ((Z3.trans (Sq1.trans (Sq2.trans Sd1))) _ _ hr1), fun q3 hq3 => ?_⟩
  have Sq3 := same_new hq3 (.lst (cutV (us.map V.str) (some (-1)) none))
  have gq3 := fresh (Z3.trans (Sq1.trans (Sq2.trans Sd1))) hq3
  have eq3 : upd J13 q3 (.lst (cutV (us.map V.str) (some (-1)) none)) q3 = some (.lst (cutV (us.map V.str) (some (-1)) none)) := upd_same
  generalize upd J13 q3 (.lst (cutV (us.map V.str) (some (-1)) none)) = J14 at *
  rw [cl] at eq3
  refine ⟨rp, q3, _, _, rfl, rfl, (Z3.trans (Sq1.trans (Sq2.trans (Sd1.trans Sq3)))) _ _ hr1, eq3, sz8 (by simp only [List.length_map, List.length_cons, List.length_nil]; omega), fun q4 hq4 => ?_⟩
  have Sq4 := same_new hq4 (.lst (us.map V.str ++ [.str (us.getLast une)]))
  have gq4 := fresh (Z3.trans (Sq1.trans (Sq2.trans (Sd1.trans Sq3)))) hq4
  have eq4 : upd J14 q4 (.lst (us.map V.str ++ [.str (us.getLast une)])) q4 = some (.lst (us.map V.str ++ [.str (us.getLast une)])) := upd_same
  generalize upd J14 q4 (.lst (us.map V.str ++ [.str (us.getLast une)])) = J15 at *
  walk_at "w0"
  refine ⟨sz8 (by first | decide | (simp only [List.length_cons, List.length_nil]; decide)), fun pT2 hpT2 => ?_⟩
  have SpT2 := same_new hpT2 (.lst [.ref q1, .ref q2, .str u0, .non, .int 5, .ref d1, .ref q4])
  have gpT2 := fresh (Z3.trans (Sq1.trans (Sq2.trans (Sd1.trans (Sq3.trans Sq4))))) hpT2
  have epT2 : upd J15 pT2 (.lst [.ref q1, .ref q2, .str u0, .non, .int 5, .ref d1, .ref q4]) pT2 = some (.lst [.ref q1, .ref q2, .str u0, .non, .int 5, .ref d1, .ref q4]) := upd_same
  generalize upd J15 pT2 (.lst [.ref q1, .ref q2, .str u0, .non, .int 5, .ref d1, .ref q4]) = J16 at *
  have th2 : ∀ y ∈ ([.ref q1, .ref q2, .str u0, .non, .int 5, .ref d1, .ref q4] : List V), ∃ br be, NmE K J16 y br be ∧ (br && !be) = false ∧ y ≠ .ref w0 := fun y hy => by
    simp only [List.mem_cons, List.not_mem_nil, or_false] at hy
    rcases hy with rfl | rfl | rfl | rfl | rfl | rfl | rfl
    · exact ⟨true, true, .inl ⟨q1, [], rfl, ((Sq2.trans (Sd1.trans (Sq3.trans (Sq4.trans SpT2)))) _ _ eq1), by decide, (fun z hz => absurd hz List.not_mem_nil), by decide +kernel, rfl⟩, rfl, gq1⟩
    · exact ⟨false, false, .inr ⟨rfl, _, .tup ((Sd1.trans (Sq3.trans (Sq4.trans SpT2))) _ _ eq2), by kernel_rfl⟩, rfl, gq2⟩
    · exact ⟨false, false, .inr ⟨rfl, noL_no (okU um0) (by intro p xs z; cases z)⟩, rfl, by intro z; cases z⟩
    · exact ⟨false, false, .inr ⟨rfl, noL_no (trivial) (by intro p xs z; cases z)⟩, rfl, by intro z; cases z⟩
    · exact ⟨false, false, .inr ⟨rfl, noL_no (trivial) (by intro p xs z; cases z)⟩, rfl, by intro z; cases z⟩
    · exact ⟨false, false, .inr ⟨rfl, _, .dK ((Sq3.trans (Sq4.trans SpT2)) _ _ ed1), by kernel_rfl⟩, rfl, gd1⟩
    · exact ⟨false, _, .inl ⟨q4, _, rfl, (SpT2 _ _ eq4), (by simp only [List.length_append, List.length_map, List.length_cons, List.length_nil]; omega), (fun z hz => by
      rcases List.mem_append.mp hz with hz | hz
      · exact str_ok ug hz
      · rw [List.mem_singleton.mp hz]; exact okU (List.getLast_mem une)), (names_dup (dup_l (List.getLast_mem une))).symm, rfl⟩, rfl, gq4⟩
  have lth2 : ([.ref q1, .ref q2, .str u0, .non, .int 5, .ref d1, .ref q4] : List V).length = 7 := rfl
  generalize ([.ref q1, .ref q2, .str u0, .non, .int 5, .ref d1, .ref q4] : List V) = Lth2 at *
  first | refine ⟨⟨_, SqL.of ((same_id _) _ _ epT2)⟩, ?_⟩ | refine ⟨pT2, rfl, ⟨_, SqL.of ((same_id _) _ _ epT2)⟩, ?_⟩
  refine CompL.by (xs := Lth2) (fun i acc σ H' => acc.length = i ∧ (∀ x ∈ acc, BadL K a w0 H' x) ∧ (∃ v, σ = [v, some (.ref g)]) ∧ Same J16 H') (by rw [lth2]; exact sz8 (by decide)) ⟨rfl, (fun x hx => absurd hx List.not_mem_nil), ⟨_, rfl⟩, fun _ _ z => z⟩ (fun i acc σ H' _ h => SqL.of (h.2.2.2 _ _ ((same_id _) _ _ epT2))) ?_ ?_ ?_
  · rintro i y acc σ H' hy ⟨hl, ha, ⟨v, rfl⟩, S'⟩
    have hyb := th2 y (List.mem_of_getElem? hy)
    have SH := (Z3.trans (Sq1.trans (Sq2.trans (Sd1.trans (Sq3.trans (Sq4.trans SpT2)))))).trans S'
    have SB := (same_id _).trans S'
    walk_at "w0"
    refine ⟨g, 2, y, _, rfl, ((Sq1.trans (Sq2.trans (Sd1.trans (Sq3.trans (Sq4.trans SpT2))))).trans S') _ _ eg3, by decide, (by decide : ((2 : Int) < ((5 : Nat) : Int))), (by decide : (5 : Nat) ≤ 100), fun r1 G1 T1 f1 e1 => ?_⟩
    have n1 := freshN SH f1
    have TT := T1
    have SG := SH.trans TT
    have SY := SB.trans TT
    have e2 : G1 r1 = some (.lst [.ref fp, .ref yp, y, .bl true, .ref zp]) := e1
    have nb : BadL K a w0 G1 (.ref r1) := by
      obtain ⟨br, be, h1, h2, h3⟩ := hyb
      have k := lkG SG
      exact ⟨r1, .ref fp, .ref yp, y, .bl true, .ref zp, rfl, n1, e2, h3, true, true, false, br, be, true, true, ⟨k.kf, k.kw, k.kn, h1.same SY, k.ks, k.kz⟩, by cases br <;> cases be <;> first | rfl | cases h2⟩
    have new : (acc ++ [V.ref r1]).length = i + 1 ∧ (∀ x ∈ acc ++ [V.ref r1], BadL K a w0 G1 x) := ⟨by rw [List.length_append, hl]; rfl, fun x hx => by
      rcases List.mem_append.mp hx with hx | hx
      · exact (ha x hx).same TT
      · rw [List.mem_singleton.mp hx]; exact nb⟩
    first | exact ⟨new.1, new.2, ⟨_, rfl⟩, S'.trans TT⟩ | exact ⟨new.1, new.2, S'.trans TT⟩
  · rintro i acc σ H' ⟨hl, _⟩
    omega
  rintro accD2 σ J17 ⟨hlD2, haD2, ⟨vD2, rfl⟩, SCD2⟩ pD2 hpD2
  rw [lth2] at hlD2
  have SpD2 := same_new hpD2 (.lst accD2)
  have gpD2 := fresh (Z3.trans (Sq1.trans (Sq2.trans (Sd1.trans (Sq3.trans (Sq4.trans (SpT2.trans SCD2))))))) hpD2
  have epD2 : upd J17 pD2 (.lst accD2) pD2 = some (.lst accD2) := upd_same
  generalize upd J17 pD2 (.lst accD2) = J18 at *
  refine ⟨pO2, pD2, _, _, rfl, rfl, ((Sq1.trans (Sq2.trans (Sd1.trans (Sq3.trans (Sq4.trans (SpT2.trans (SCD2.trans SpD2))))))) _ _ eO3), epD2, sz8 (by omega), fun pO3 hpO3 => ?_⟩
  have SpO3 := same_new hpO3 (.lst (O2 ++ accD2))
  have gpO3 := fresh (Z3.trans (Sq1.trans (Sq2.trans (Sd1.trans (Sq3.trans (Sq4.trans (SpT2.trans (SCD2.trans SpD2)))))))) hpO3
  have epO3 : upd J18 pO3 (.lst (O2 ++ accD2)) pO3 = some (.lst (O2 ++ accD2)) := upd_same
  generalize upd J18 pO3 (.lst (O2 ++ accD2)) = J19 at *
  have hO3' : ∀ x ∈ O2 ++ accD2, BadL K a w0 J19 x := fun x hx => by
    rcases List.mem_append.mp hx with hx | hx
    · exact (hO2' x hx).same (Sq1.trans (Sq2.trans (Sd1.trans (Sq3.trans (Sq4.trans (SpT2.trans (SCD2.trans (SpD2.trans SpO3))))))))
    · exact (haD2 x hx).same (SpD2.trans SpO3)
  have lO3 : (O2 ++ accD2).length = 21 := by rw [List.length_append, lO2, hlD2]
  have eO := epO3
  generalize O2 ++ accD2 = O3 at *
  have Z4 := (Z3.trans (Sq1.trans (Sq2.trans (Sd1.trans (Sq3.trans (Sq4.trans (SpT2.trans (SCD2.trans (SpD2.trans SpO3)))))))))
  have eg4 := ((Sq1.trans (Sq2.trans (Sd1.trans (Sq3.trans (Sq4.trans (SpT2.trans (SCD2.trans (SpD2.trans SpO3)))))))) _ _ eg3)
  clear Sq1 Sq2 Sd1 Sq3 Sq4 SpT2 SCD2 SpD2 SpO3
  have eO4 := eO
  clear eO
  first | rw [w_hold] | (dsimp only; rw [w_hold])
  walk_at "w0"
  refine ixl (SqL.of (Z4 _ _ hr1)) (v := .str u0) iu0 ?_
  walk_at "w0"
  refine ⟨sz8 (by first | decide | (simp only [List.length_cons, List.length_nil]; decide)), fun q1 hq1 => ?_⟩
  have Sq1 := same_new hq1 (.lst [.str u0])
  have gq1 := fresh Z4 hq1
  have eq1 : upd J19 q1 (.lst [.str u0]) q1 = some (.lst [.str u0]) := upd_same
  generalize upd J19 q1 (.lst [.str u0]) = J20 at *
  refine ⟨sz8 (by first | decide | (simp only [List.length_cons, List.length_nil]; decide)), fun pT3 hpT3 => ?_⟩
  have SpT3 := same_new hpT3 (.lst [.str (Str.ofString ""), .str (Str.ofString "A"), .str (Str.ofString "a b"), .non, .int 5, .ref q1])
  have gpT3 := fresh (Z4.trans Sq1) hpT3
  have epT3 : upd J20 pT3 (.lst [.str (Str.ofString ""), .str (Str.ofString "A"), .str (Str.ofString "a b"), .non, .int 5, .ref q1]) pT3 = some (.lst [.str (Str.ofString ""), .str (Str.ofString "A"), .str (Str.ofString "a b"), .non, .int 5, .ref q1]) := upd_same
  generalize upd J20 pT3 (.lst [.str (Str.ofString ""), .str (Str.ofString "A"), .str (Str.ofString "a b"), .non, .int 5, .ref q1]) = J21 at *
  have th3 : ∀ y ∈ ([.str (Str.ofString ""), .str (Str.ofString "A"), .str (Str.ofString "a b"), .non, .int 5, .ref q1] : List V), okN J21 y ∧ nameB y = false := fun y hy => by
    simp only [List.mem_cons, List.not_mem_nil, or_false] at hy
    rcases hy with rfl | rfl | rfl | rfl | rfl | rfl
    · exact ⟨anyN ⟨by decide +kernel, by decide +kernel⟩, by decide +kernel⟩
    · exact ⟨anyN ⟨by decide +kernel, by decide +kernel⟩, by decide +kernel⟩
    · exact ⟨anyN ⟨by decide +kernel, by decide +kernel⟩, by decide +kernel⟩
    · exact ⟨trivial, rfl⟩
    · exact ⟨trivial, rfl⟩
    · exact ⟨.inl ⟨_, (SpT3 _ _ eq1)⟩, rfl⟩
  have lth3 : ([.str (Str.ofString ""), .str (Str.ofString "A"), .str (Str.ofString "a b"), .non, .int 5, .ref q1] : List V).length = 6 := rfl
  generalize ([.str (Str.ofString ""), .str (Str.ofString "A"), .str (Str.ofString "a b"), .non, .int 5, .ref q1] : List V) = Lth3 at *
  first | refine ⟨⟨_, SqL.of ((same_id _) _ _ epT3)⟩, ?_⟩ | refine ⟨pT3, rfl, ⟨_, SqL.of ((same_id _) _ _ epT3)⟩, ?_⟩
  refine CompL.by (xs := Lth3) (fun i acc σ H' => acc.length = i ∧ (∀ x ∈ acc, BadL K a w0 H' x) ∧ (∃ v, σ = [v, some (.ref g), some (.ref rp)]) ∧ Same J21 H') (by rw [lth3]; exact sz8 (by decide)) ⟨rfl, (fun x hx => absurd hx List.not_mem_nil), ⟨_, rfl⟩, fun _ _ z => z⟩ (fun i acc σ H' _ h => SqL.of (h.2.2.2 _ _ ((same_id _) _ _ epT3))) ?_ ?_ ?_
  · rintro i y acc σ H' hy ⟨hl, ha, ⟨v, rfl⟩, S'⟩
    have hyb := th3 y (List.mem_of_getElem? hy)
    have SH := (Z4.trans (Sq1.trans SpT3)).trans S'
    have SB := (same_id _).trans S'
    walk_at "w0"
    refine ⟨sz8 (by first | decide | (simp only [List.length_cons, List.length_nil]; decide)), fun r0 hr0 => ?_⟩
    have X0 := same_new hr0 (.lst [y])
    have er0 : upd H' r0 (.lst [y]) r0 = some (.lst [y]) := upd_same
    generalize upd H' r0 (.lst [y]) = K1 at *
    have hq0 := (SH.trans X0) _ _ hr1
    refine ⟨rp, r0, _, _, rfl, rfl, hq0, er0, sz8 (by simp only [List.length_map, List.length_cons, List.length_nil]; omega), fun r9 hr9 => ?_⟩
    have X9 := same_new hr9 (.lst (us.map V.str ++ [y]))
    have er9 : upd K1 r9 (.lst (us.map V.str ++ [y])) r9 = some (.lst (us.map V.str ++ [y])) := upd_same
    have g9 := fresh (SH.trans X0) hr9
    generalize upd K1 r9 (.lst (us.map V.str ++ [y])) = K2 at *
    have TX := X0.trans X9
    have SX := SH.trans TX
    walk_at "w0"
    refine ⟨g, 2, .ref r9, _, rfl, ((Sq1.trans SpT3).trans (S'.trans TX)) _ _ eg4, by decide, (by decide : ((2 : Int) < ((5 : Nat) : Int))), (by decide : (5 : Nat) ≤ 100), fun r1 G1 T1 f1 e1 => ?_⟩
    have n1 := freshN SX f1
    have TT := TX.trans T1
    have SG := SH.trans TT
    have SY := SB.trans TT
    have e2 : G1 r1 = some (.lst [.ref fp, .ref yp, .ref r9, .bl true, .ref zp]) := e1
    have nb : BadL K a w0 G1 (.ref r1) := by
      have nmf : namesB (us.map V.str ++ [y]) = false := names_bad (y := y) (List.mem_append.mpr (.inr (List.mem_singleton.mpr rfl))) hyb.2
      have k := lkG SG
      have er := T1 _ _ er9
      exact ⟨r1, .ref fp, .ref yp, .ref r9, .bl true, .ref zp, rfl, n1, e2, g9, true, true, false, false, _, true, true, ⟨k.kf, k.kw, k.kn, .inl ⟨r9, _, rfl, er, (by simp only [List.length_append, List.length_map, List.length_cons, List.length_nil]; omega), (fun z hz => by
        rcases List.mem_append.mp hz with hz | hz
        · exact str_ok ug hz
        · rw [List.mem_singleton.mp hz]; exact hyb.1.same SY), nmf.symm, rfl⟩, k.ks, k.kz⟩, rfl⟩
    have new : (acc ++ [V.ref r1]).length = i + 1 ∧ (∀ x ∈ acc ++ [V.ref r1], BadL K a w0 G1 x) := ⟨by rw [List.length_append, hl]; rfl, fun x hx => by
      rcases List.mem_append.mp hx with hx | hx
      · exact (ha x hx).same TT
      · rw [List.mem_singleton.mp hx]; exact nb⟩
    first | exact ⟨new.1, new.2, ⟨_, rfl⟩, S'.trans TT⟩ | exact ⟨new.1, new.2, S'.trans TT⟩
  · rintro i acc σ H' ⟨hl, _⟩
    omega
  rintro accD3 σ J22 ⟨hlD3, haD3, ⟨vD3, rfl⟩, SCD3⟩ pD3 hpD3
  rw [lth3] at hlD3
  have SpD3 := same_new hpD3 (.lst accD3)
  have gpD3 := fresh (Z4.trans (Sq1.trans (SpT3.trans SCD3))) hpD3
  have epD3 : upd J22 pD3 (.lst accD3) pD3 = some (.lst accD3) := upd_same
  generalize upd J22 pD3 (.lst accD3) = J23 at *
  refine ⟨pO3, pD3, _, _, rfl, rfl, ((Sq1.trans (SpT3.trans (SCD3.trans SpD3))) _ _ eO4), epD3, sz8 (by omega), fun pO4 hpO4 => ?_⟩
  have SpO4 := same_new hpO4 (.lst (O3 ++ accD3))
  have gpO4 := fresh (Z4.trans (Sq1.trans (SpT3.trans (SCD3.trans SpD3)))) hpO4
  have epO4 : upd J23 pO4 (.lst (O3 ++ accD3)) pO4 = some (.lst (O3 ++ accD3)) := upd_same
  generalize upd J23 pO4 (.lst (O3 ++ accD3)) = J24 at *
  have hO4' : ∀ x ∈ O3 ++ accD3, BadL K a w0 J24 x := fun x hx => by
    rcases List.mem_append.mp hx with hx | hx
    · exact (hO3' x hx).same (Sq1.trans (SpT3.trans (SCD3.trans (SpD3.trans SpO4))))
    · exact (haD3 x hx).same (SpD3.trans SpO4)
  have lO4 : (O3 ++ accD3).length = 27 := by rw [List.length_append, lO3, hlD3]
  have eO := epO4
  generalize O3 ++ accD3 = O4 at *
  have Z5 := (Z4.trans (Sq1.trans (SpT3.trans (SCD3.trans (SpD3.trans SpO4)))))
  have eg5 := ((Sq1.trans (SpT3.trans (SCD3.trans (SpD3.trans SpO4)))) _ _ eg4)
  clear Sq1 SpT3 SCD3 SpD3 SpO4
  have eO5 := eO
  clear eO
  first | rw [w_hold] | (dsimp only; rw [w_hold])
  walk_at "w0"
  refine ixl (SqL.of (Z5 _ _ hr1)) (v := .str (us.getLast une)) il ?_
  walk_at "w0"
  refine ⟨sz8 (by first | decide | (simp only [List.length_cons, List.length_nil]; decide)), fun pT4 hpT4 => ?_⟩
  have SpT4 := same_new hpT4 (.lst [.str (Str.ofString "abcdefghi"), .bl true, .str (us.getLast une)])
  have gpT4 := fresh Z5 hpT4
  have epT4 : upd J24 pT4 (.lst [.str (Str.ofString "abcdefghi"), .bl true, .str (us.getLast une)]) pT4 = some (.lst [.str (Str.ofString "abcdefghi"), .bl true, .str (us.getLast une)]) := upd_same
  generalize upd J24 pT4 (.lst [.str (Str.ofString "abcdefghi"), .bl true, .str (us.getLast une)]) = J25 at *
  have th4 : ∀ y ∈ ([.str (Str.ofString "abcdefghi"), .bl true, .str (us.getLast une)] : List V), okN J25 y ∧ (nameB y = false ∨ ∃ u ∈ us, y = .str u) := fun y hy => by
    simp only [List.mem_cons, List.not_mem_nil, or_false] at hy
    rcases hy with rfl | rfl | rfl
    · exact ⟨anyN ⟨by decide +kernel, by decide +kernel⟩, .inl (by decide +kernel)⟩
    · exact ⟨trivial, .inl rfl⟩
    · exact ⟨okU (List.getLast_mem une), .inr ⟨_, List.getLast_mem une, rfl⟩⟩
  have lth4 : ([.str (Str.ofString "abcdefghi"), .bl true, .str (us.getLast une)] : List V).length = 3 := rfl
  generalize ([.str (Str.ofString "abcdefghi"), .bl true, .str (us.getLast une)] : List V) = Lth4 at *
  first | refine ⟨⟨_, SqL.of ((same_id _) _ _ epT4)⟩, ?_⟩ | refine ⟨pT4, rfl, ⟨_, SqL.of ((same_id _) _ _ epT4)⟩, ?_⟩
  refine CompL.by (xs := Lth4) (fun i acc σ H' => acc.length = i ∧ (∀ x ∈ acc, BadL K a w0 H' x) ∧ (∃ v, σ = [v, some (.ref g), some (.ref rp)]) ∧ Same J25 H') (by rw [lth4]; exact sz8 (by decide)) ⟨rfl, (fun x hx => absurd hx List.not_mem_nil), ⟨_, rfl⟩, fun _ _ z => z⟩ (fun i acc σ H' _ h => SqL.of (h.2.2.2 _ _ ((same_id _) _ _ epT4))) ?_ ?_ ?_
  · rintro i y acc σ H' hy ⟨hl, ha, ⟨v, rfl⟩, S'⟩
    have hyb := th4 y (List.mem_of_getElem? hy)
    have SH := (Z5.trans SpT4).trans S'
    have SB := (same_id _).trans S'
    walk_at "w0"
    refine ⟨sz8 (by first | decide | (simp only [List.length_cons, List.length_nil]; decide)), fun r0 hr0 => ?_⟩
    have X0 := same_new hr0 (.lst [y])
    have er0 : upd H' r0 (.lst [y]) r0 = some (.lst [y]) := upd_same
    generalize upd H' r0 (.lst [y]) = K1 at *
    have hq0 := (SH.trans X0) _ _ hr1
    refine ⟨r0, rp, _, _, rfl, rfl, er0, hq0, sz8 (by simp only [List.length_map, List.length_cons, List.length_nil]; omega), fun r9 hr9 => ?_⟩
    have X9 := same_new hr9 (.lst ([y] ++ us.map V.str))
    have er9 : upd K1 r9 (.lst ([y] ++ us.map V.str)) r9 = some (.lst ([y] ++ us.map V.str)) := upd_same
    have g9 := fresh (SH.trans X0) hr9
    generalize upd K1 r9 (.lst ([y] ++ us.map V.str)) = K2 at *
    have TX := X0.trans X9
    have SX := SH.trans TX
    walk_at "w0"
    refine ⟨g, 2, .ref r9, _, rfl, (SpT4.trans (S'.trans TX)) _ _ eg5, by decide, (by decide : ((2 : Int) < ((5 : Nat) : Int))), (by decide : (5 : Nat) ≤ 100), fun r1 G1 T1 f1 e1 => ?_⟩
    have n1 := freshN SX f1
    have TT := TX.trans T1
    have SG := SH.trans TT
    have SY := SB.trans TT
    have e2 : G1 r1 = some (.lst [.ref fp, .ref yp, .ref r9, .bl true, .ref zp]) := e1
    have nb : BadL K a w0 G1 (.ref r1) := by
      have nmf : namesB ([y] ++ us.map V.str) = false := by
        rcases hyb.2 with h | ⟨u, hu, rfl⟩
        · exact names_bad (y := y) (List.mem_append.mpr (.inl (List.mem_singleton.mpr rfl))) h
        · exact names_dup (dup_f hu)
      have k := lkG SG
      have er := T1 _ _ er9
      exact ⟨r1, .ref fp, .ref yp, .ref r9, .bl true, .ref zp, rfl, n1, e2, g9, true, true, false, false, _, true, true, ⟨k.kf, k.kw, k.kn, .inl ⟨r9, _, rfl, er, (by simp only [List.length_append, List.length_map, List.length_cons, List.length_nil]; omega), (fun z hz => by
        rcases List.mem_append.mp hz with hz | hz
        · rw [List.mem_singleton.mp hz]; exact hyb.1.same SY
        · exact str_ok ug hz), nmf.symm, rfl⟩, k.ks, k.kz⟩, rfl⟩
    have new : (acc ++ [V.ref r1]).length = i + 1 ∧ (∀ x ∈ acc ++ [V.ref r1], BadL K a w0 G1 x) := ⟨by rw [List.length_append, hl]; rfl, fun x hx => by
      rcases List.mem_append.mp hx with hx | hx
      · exact (ha x hx).same TT
      · rw [List.mem_singleton.mp hx]; exact nb⟩
    first | exact ⟨new.1, new.2, ⟨_, rfl⟩, S'.trans TT⟩ | exact ⟨new.1, new.2, S'.trans TT⟩
  · rintro i acc σ H' ⟨hl, _⟩
    omega
  rintro accD4 σ J26 ⟨hlD4, haD4, ⟨vD4, rfl⟩, SCD4⟩ pD4 hpD4
  rw [lth4] at hlD4
  have SpD4 := same_new hpD4 (.lst accD4)
  have gpD4 := fresh (Z5.trans (SpT4.trans SCD4)) hpD4
  have epD4 : upd J26 pD4 (.lst accD4) pD4 = some (.lst accD4) := upd_same
  generalize upd J26 pD4 (.lst accD4) = J27 at *
  refine ⟨pO4, pD4, _, _, rfl, rfl, ((SpT4.trans (SCD4.trans SpD4)) _ _ eO5), epD4, sz8 (by omega), fun pO5 hpO5 => ?_⟩
  have SpO5 := same_new hpO5 (.lst (O4 ++ accD4))
  have gpO5 := fresh (Z5.trans (SpT4.trans (SCD4.trans SpD4))) hpO5
  have epO5 : upd J27 pO5 (.lst (O4 ++ accD4)) pO5 = some (.lst (O4 ++ accD4)) := upd_same
  generalize upd J27 pO5 (.lst (O4 ++ accD4)) = J28 at *
  have hO5' : ∀ x ∈ O4 ++ accD4, BadL K a w0 J28 x := fun x hx => by
    rcases List.mem_append.mp hx with hx | hx
    · exact (hO4' x hx).same (SpT4.trans (SCD4.trans (SpD4.trans SpO5)))
    · exact (haD4 x hx).same (SpD4.trans SpO5)
  have lO5 : (O4 ++ accD4).length = 30 := by rw [List.length_append, lO4, hlD4]
  have eO := epO5
  generalize O4 ++ accD4 = O5 at *
  have Z6 := (Z5.trans (SpT4.trans (SCD4.trans (SpD4.trans SpO5))))
  have eg6 := ((SpT4.trans (SCD4.trans (SpD4.trans SpO5))) _ _ eg5)
  clear SpT4 SCD4 SpD4 SpO5
  have eO6 := eO
  clear eO
  first | rw [w_hold] | (dsimp only; rw [w_hold])
  walk_at "w0"
  refine ⟨sz8 (by first | decide | (simp only [List.length_cons, List.length_nil]; decide)), fun q1 hq1 => ?_⟩
  have Sq1 := same_new hq1 (.lst [.bl true])
  have gq1 := fresh Z6 hq1
  have eq1 : upd J28 q1 (.lst [.bl true]) q1 = some (.lst [.bl true]) := upd_same
  generalize upd J28 q1 (.lst [.bl true]) = J29 at *
  refine ⟨sz8 (by first | decide | (simp only [List.length_cons, List.length_nil]; decide)), fun pT5 hpT5 => ?_⟩
  have SpT5 := same_new hpT5 (.lst [.non, .int 0, .int 1, .str (Str.ofString "sure"), .ref q1])
  have gpT5 := fresh (Z6.trans Sq1) hpT5
  have epT5 : upd J29 pT5 (.lst [.non, .int 0, .int 1, .str (Str.ofString "sure"), .ref q1]) pT5 = some (.lst [.non, .int 0, .int 1, .str (Str.ofString "sure"), .ref q1]) := upd_same
  generalize upd J29 pT5 (.lst [.non, .int 0, .int 1, .str (Str.ofString "sure"), .ref q1]) = J30 at *
  have th5 : ∀ y ∈ ([.non, .int 0, .int 1, .str (Str.ofString "sure"), .ref q1] : List V), okK K (.type "bool") J30 y false := fun y hy => by
    simp only [List.mem_cons, List.not_mem_nil, or_false] at hy
    rcases hy with rfl | rfl | rfl | rfl | rfl
    · exact ⟨_, .non, by kernel_rfl⟩
    · exact ⟨_, .int 0, by kernel_rfl⟩
    · exact ⟨_, .int 1, by kernel_rfl⟩
    · exact ⟨_, .str _, by kernel_rfl⟩
    · exact ⟨_, .lst (SpT5 _ _ eq1), by kernel_rfl⟩
  have lth5 : ([.non, .int 0, .int 1, .str (Str.ofString "sure"), .ref q1] : List V).length = 5 := rfl
  generalize ([.non, .int 0, .int 1, .str (Str.ofString "sure"), .ref q1] : List V) = Lth5 at *
  first | refine ⟨⟨_, SqL.of ((same_id _) _ _ epT5)⟩, ?_⟩ | refine ⟨pT5, rfl, ⟨_, SqL.of ((same_id _) _ _ epT5)⟩, ?_⟩
  refine CompL.by (xs := Lth5) (fun i acc σ H' => acc.length = i ∧ (∀ x ∈ acc, BadL K a w0 H' x) ∧ (∃ v, σ = [v, some (.ref g)]) ∧ Same J30 H') (by rw [lth5]; exact sz8 (by decide)) ⟨rfl, (fun x hx => absurd hx List.not_mem_nil), ⟨_, rfl⟩, fun _ _ z => z⟩ (fun i acc σ H' _ h => SqL.of (h.2.2.2 _ _ ((same_id _) _ _ epT5))) ?_ ?_ ?_
  · rintro i y acc σ H' hy ⟨hl, ha, ⟨v, rfl⟩, S'⟩
    have hyb := th5 y (List.mem_of_getElem? hy)
    have SH := (Z6.trans (Sq1.trans SpT5)).trans S'
    have SB := (same_id _).trans S'
    walk_at "w0"
    refine ⟨g, 3, y, _, rfl, ((Sq1.trans SpT5).trans S') _ _ eg6, by decide, (by decide : ((3 : Int) < ((5 : Nat) : Int))), (by decide : (5 : Nat) ≤ 100), fun r1 G1 T1 f1 e1 => ?_⟩
    have n1 := freshN SH f1
    have TT := T1
    have SG := SH.trans TT
    have SY := SB.trans TT
    have e2 : G1 r1 = some (.lst [.ref fp, .ref yp, .ref rp, y, .ref zp]) := e1
    have nb : BadL K a w0 G1 (.ref r1) := have k := lkG SG
      ⟨r1, .ref fp, .ref yp, .ref rp, y, .ref zp, rfl, n1, e2, nrp, true, true, false, true, false, false, true, ⟨k.kf, k.kw, k.kn, k.kr, .inr ⟨rfl, hyb.same SY⟩, k.kz⟩, rfl⟩
    have new : (acc ++ [V.ref r1]).length = i + 1 ∧ (∀ x ∈ acc ++ [V.ref r1], BadL K a w0 G1 x) := ⟨by rw [List.length_append, hl]; rfl, fun x hx => by
      rcases List.mem_append.mp hx with hx | hx
      · exact (ha x hx).same TT
      · rw [List.mem_singleton.mp hx]; exact nb⟩
    first | exact ⟨new.1, new.2, ⟨_, rfl⟩, S'.trans TT⟩ | exact ⟨new.1, new.2, S'.trans TT⟩
  · rintro i acc σ H' ⟨hl, _⟩
    omega
  rintro accD5 σ J31 ⟨hlD5, haD5, ⟨vD5, rfl⟩, SCD5⟩ pD5 hpD5
  rw [lth5] at hlD5
  have SpD5 := same_new hpD5 (.lst accD5)
  have gpD5 := fresh (Z6.trans (Sq1.trans (SpT5.trans SCD5))) hpD5
  have epD5 : upd J31 pD5 (.lst accD5) pD5 = some (.lst accD5) := upd_same
  generalize upd J31 pD5 (.lst accD5) = J32 at *
  refine ⟨pO5, pD5, _, _, rfl, rfl, ((Sq1.trans (SpT5.trans (SCD5.trans SpD5))) _ _ eO6), epD5, sz8 (by omega), fun pO6 hpO6 => ?_⟩
  have SpO6 := same_new hpO6 (.lst (O5 ++ accD5))
  have gpO6 := fresh (Z6.trans (Sq1.trans (SpT5.trans (SCD5.trans SpD5)))) hpO6
  have epO6 : upd J32 pO6 (.lst (O5 ++ accD5)) pO6 = some (.lst (O5 ++ accD5)) := upd_same
  generalize upd J32 pO6 (.lst (O5 ++ accD5)) = J33 at *
  have hO6' : ∀ x ∈ O5 ++ accD5, BadL K a w0 J33 x := fun x hx => by
    rcases List.mem_append.mp hx with hx | hx
    · exact (hO5' x hx).same (Sq1.trans (SpT5.trans (SCD5.trans (SpD5.trans SpO6))))
    · exact (haD5 x hx).same (SpD5.trans SpO6)
  have lO6 : (O5 ++ accD5).length = 35 := by rw [List.length_append, lO5, hlD5]
  have eO := epO6
  generalize O5 ++ accD5 = O6 at *
  have Z7 := (Z6.trans (Sq1.trans (SpT5.trans (SCD5.trans (SpD5.trans SpO6)))))
  have eg7 := ((Sq1.trans (SpT5.trans (SCD5.trans (SpD5.trans SpO6)))) _ _ eg6)
  clear Sq1 SpT5 SCD5 SpD5 SpO6
  have eO7 := eO
  clear eO
  first | rw [w_hold] | (dsimp only; rw [w_hold])
  walk_at "w0"
  refine ⟨sz8 (by first | decide | (simp only [List.length_cons, List.length_nil]; decide)), fun q1 hq1 => ?_⟩
  have Sq1 := same_new hq1 (.tup [.int 10, .int 3, .non])
  have gq1 := fresh Z7 hq1
  have eq1 : upd J33 q1 (.tup [.int 10, .int 3, .non]) q1 = some (.tup [.int 10, .int 3, .non]) := upd_same
  generalize upd J33 q1 (.tup [.int 10, .int 3, .non]) = J34 at *
  refine ⟨sz8 (by first | decide | (simp only [List.length_cons, List.length_nil]; decide)), fun q2 hq2 => ?_⟩
  have Sq2 := same_new hq2 (.lst [.ref zp])
  have gq2 := fresh (Z7.trans Sq1) hq2
  have eq2 : upd J34 q2 (.lst [.ref zp]) q2 = some (.lst [.ref zp]) := upd_same
  generalize upd J34 q2 (.lst [.ref zp]) = J35 at *
  refine ⟨sz8 (by first | decide | (simp only [List.length_cons, List.length_nil]; decide)), fun pT6 hpT6 => ?_⟩
  have SpT6 := same_new hpT6 (.lst [.bl true, .bl false, .int 5, .str (Str.ofString "raise"), .ref q1, .ref q2, .ref fp])
  have gpT6 := fresh (Z7.trans (Sq1.trans Sq2)) hpT6
  have epT6 : upd J35 pT6 (.lst [.bl true, .bl false, .int 5, .str (Str.ofString "raise"), .ref q1, .ref q2, .ref fp]) pT6 = some (.lst [.bl true, .bl false, .int 5, .str (Str.ofString "raise"), .ref q1, .ref q2, .ref fp]) := upd_same
  generalize upd J35 pT6 (.lst [.bl true, .bl false, .int 5, .str (Str.ofString "raise"), .ref q1, .ref q2, .ref fp]) = J36 at *
  have th6 : ∀ y ∈ ([.bl true, .bl false, .int 5, .str (Str.ofString "raise"), .ref q1, .ref q2, .ref fp] : List V), y ≠ .non ∧ okK K (.ref a.Raised) J36 y false := fun y hy => by
    simp only [List.mem_cons, List.not_mem_nil, or_false] at hy
    rcases hy with rfl | rfl | rfl | rfl | rfl | rfl | rfl
    · exact ⟨(by intro z; cases z), noRaised_no B trivial⟩
    · exact ⟨(by intro z; cases z), noRaised_no B trivial⟩
    · exact ⟨(by intro z; cases z), noRaised_no B trivial⟩
    · exact ⟨(by intro z; cases z), noRaised_no B (anyN ⟨by decide +kernel, by decide +kernel⟩)⟩
    · exact ⟨(by intro z; cases z), noRaised_no B (.inr (.inl ⟨_, ((Sq2.trans SpT6) _ _ eq1)⟩))⟩
    · exact ⟨(by intro z; cases z), noRaised_no B (.inl ⟨_, (SpT6 _ _ eq2)⟩)⟩
    · exact ⟨(by intro z; cases z), _, B.ck_Least.ty ((Z7.trans (Sq1.trans (Sq2.trans SpT6))) _ _ hfp), B.is_Least_Raised⟩
  have lth6 : ([.bl true, .bl false, .int 5, .str (Str.ofString "raise"), .ref q1, .ref q2, .ref fp] : List V).length = 7 := rfl
  generalize ([.bl true, .bl false, .int 5, .str (Str.ofString "raise"), .ref q1, .ref q2, .ref fp] : List V) = Lth6 at *
  first | refine ⟨⟨_, SqL.of ((same_id _) _ _ epT6)⟩, ?_⟩ | refine ⟨pT6, rfl, ⟨_, SqL.of ((same_id _) _ _ epT6)⟩, ?_⟩
  refine CompL.by (xs := Lth6) (fun i acc σ H' => acc.length = i ∧ (∀ x ∈ acc, BadL K a w0 H' x) ∧ (∃ v, σ = [v, some (.ref g)]) ∧ Same J36 H') (by rw [lth6]; exact sz8 (by decide)) ⟨rfl, (fun x hx => absurd hx List.not_mem_nil), ⟨_, rfl⟩, fun _ _ z => z⟩ (fun i acc σ H' _ h => SqL.of (h.2.2.2 _ _ ((same_id _) _ _ epT6))) ?_ ?_ ?_
  · rintro i y acc σ H' hy ⟨hl, ha, ⟨v, rfl⟩, S'⟩
    have hyb := th6 y (List.mem_of_getElem? hy)
    have SH := (Z7.trans (Sq1.trans (Sq2.trans SpT6))).trans S'
    have SB := (same_id _).trans S'
    walk_at "w0"
    refine ⟨g, 4, y, _, rfl, ((Sq1.trans (Sq2.trans SpT6)).trans S') _ _ eg7, by decide, (by decide : ((4 : Int) < ((5 : Nat) : Int))), (by decide : (5 : Nat) ≤ 100), fun r1 G1 T1 f1 e1 => ?_⟩
    have n1 := freshN SH f1
    have TT := T1
    have SG := SH.trans TT
    have SY := SB.trans TT
    have e2 : G1 r1 = some (.lst [.ref fp, .ref yp, .ref rp, .bl true, y]) := e1
    have nb : BadL K a w0 G1 (.ref r1) := have k := lkG SG
      ⟨r1, .ref fp, .ref yp, .ref rp, .bl true, y, rfl, n1, e2, nrp, true, true, false, true, false, true, false, ⟨k.kf, k.kw, k.kn, k.kr, k.ks, .inr ⟨hyb.1, hyb.2.same SY⟩⟩, rfl⟩
    have new : (acc ++ [V.ref r1]).length = i + 1 ∧ (∀ x ∈ acc ++ [V.ref r1], BadL K a w0 G1 x) := ⟨by rw [List.length_append, hl]; rfl, fun x hx => by
      rcases List.mem_append.mp hx with hx | hx
      · exact (ha x hx).same TT
      · rw [List.mem_singleton.mp hx]; exact nb⟩
    first | exact ⟨new.1, new.2, ⟨_, rfl⟩, S'.trans TT⟩ | exact ⟨new.1, new.2, S'.trans TT⟩
  · rintro i acc σ H' ⟨hl, _⟩
    omega
  rintro accD6 σ J37 ⟨hlD6, haD6, ⟨vD6, rfl⟩, SCD6⟩ pD6 hpD6
  rw [lth6] at hlD6
  have SpD6 := same_new hpD6 (.lst accD6)
  have gpD6 := fresh (Z7.trans (Sq1.trans (Sq2.trans (SpT6.trans SCD6)))) hpD6
  have epD6 : upd J37 pD6 (.lst accD6) pD6 = some (.lst accD6) := upd_same
  generalize upd J37 pD6 (.lst accD6) = J38 at *
  refine ⟨pO6, pD6, _, _, rfl, rfl, ((Sq1.trans (Sq2.trans (SpT6.trans (SCD6.trans SpD6)))) _ _ eO7), epD6, sz8 (by omega), fun pO7 hpO7 => ?_⟩
  have SpO7 := same_new hpO7 (.lst (O6 ++ accD6))
  have gpO7 := fresh (Z7.trans (Sq1.trans (Sq2.trans (SpT6.trans (SCD6.trans SpD6))))) hpO7
  have epO7 : upd J38 pO7 (.lst (O6 ++ accD6)) pO7 = some (.lst (O6 ++ accD6)) := upd_same
  generalize upd J38 pO7 (.lst (O6 ++ accD6)) = J39 at *
  have hO7' : ∀ x ∈ O6 ++ accD6, BadL K a w0 J39 x := fun x hx => by
    rcases List.mem_append.mp hx with hx | hx
    · exact (hO6' x hx).same (Sq1.trans (Sq2.trans (SpT6.trans (SCD6.trans (SpD6.trans SpO7)))))
    · exact (haD6 x hx).same (SpD6.trans SpO7)
  have lO7 : (O6 ++ accD6).length = 42 := by rw [List.length_append, lO6, hlD6]
  have eO := epO7
  generalize O6 ++ accD6 = O7 at *
  have Z8 := (Z7.trans (Sq1.trans (Sq2.trans (SpT6.trans (SCD6.trans (SpD6.trans SpO7))))))
  have eg8 := ((Sq1.trans (Sq2.trans (SpT6.trans (SCD6.trans (SpD6.trans SpO7))))) _ _ eg7)
  clear Sq1 Sq2 SpT6 SCD6 SpD6 SpO7
  have eO8 := eO
  clear eO
  first | rw [w_hold] | (dsimp only; rw [w_hold])
  walk_at "w0"
  intro nv dn hnv hdn nen
  have Snv := made_same (o := .own nv) (o' := .ins a.Never dn []) hnv hdn
  have env : upd (upd J39 dn (.own nv)) nv (.ins a.Never dn []) nv = some (.ins a.Never dn []) := upd_same
  generalize upd (upd J39 dn (.own nv)) nv (.ins a.Never dn []) = J40 at *
  walk_at "w0"
  refine ⟨Nat.zero_le _, fun e0 he0 => ?_⟩
  have Se0 := same_new he0 (.lst [])
  have ge0 := fresh (Z8.trans Snv) he0
  have ee0 : upd J40 e0 (.lst []) e0 = some (.lst []) := upd_same
  generalize upd J40 e0 (.lst []) = J41 at *
  refine ⟨sz8 (by first | decide | (simp only [List.length_cons, List.length_nil]; decide)), fun ng hng => ?_⟩
  have Sng := same_new hng (.lst [.ref fp, .ref nv, .ref e0, .bl false, .non])
  have gng := fresh (Z8.trans (Snv.trans Se0)) hng
  have eng : upd J41 ng (.lst [.ref fp, .ref nv, .ref e0, .bl false, .non]) ng = some (.lst [.ref fp, .ref nv, .ref e0, .bl false, .non]) := upd_same
  generalize upd J41 ng (.lst [.ref fp, .ref nv, .ref e0, .bl false, .non]) = J42 at *
  have lkN : ∀ {G : Hp}, Same J42 G → Lk K a G (.ref fp) (.ref nv) (.ref e0) (.bl false) .non true true true true true true true := fun {G} S => ⟨⟨_, B.ck_Least.ty (S _ _ ((Z8.trans (Snv.trans (Se0.trans Sng))) _ _ hfp)), B.is_Least_Fit⟩, ⟨_, B.ck_Never.ty (S _ _ ((Se0.trans Sng) _ _ env)), B.is_Never_Way⟩, fun _ => ⟨_, B.ck_Never.ty (S _ _ ((Se0.trans Sng) _ _ env)), B.is_Never_Never⟩, .inl ⟨e0, [], rfl, S _ _ (Sng _ _ ee0), by decide, (fun z hz => absurd hz List.not_mem_nil), by decide +kernel, rfl⟩, .inl ⟨false, rfl, rfl⟩, .inl ⟨rfl, rfl⟩⟩
  first | rw [w_hold] | (dsimp only; rw [w_hold])
  walk_at "w0"
  refine ⟨ng, 2, .ref rp, _, rfl, ((same_id _) _ _ eng), by decide, (by decide : ((2 : Int) < ((5 : Nat) : Int))), (by decide : (5 : Nat) ≤ 100), fun a1 J43 Sa1 fa1 ea1 => ?_⟩
  have na1 := freshN (Z8.trans (Snv.trans (Se0.trans Sng))) fa1
  have ea1' : J43 a1 = some (.lst [.ref fp, .ref nv, .ref rp, .bl false, .non]) := ea1
  have ba1 : BadL K a w0 J43 (.ref a1) := by
    have k := lkN Sa1
    have k2 := lkG (Z8.trans (Snv.trans (Se0.trans (Sng.trans Sa1))))
    exact ⟨a1, .ref fp, .ref nv, .ref rp, .bl false, .non, rfl, na1, ea1', nrp, true, true, true, true, false, true, true, ⟨k.kf, k.kw, k.kn, k2.kr, k.ks, k.kz⟩, rfl⟩
  walk_at "w0"
  refine ⟨ng, 3, .bl true, _, rfl, (Sa1 _ _ eng), by decide, (by decide : ((3 : Int) < ((5 : Nat) : Int))), (by decide : (5 : Nat) ≤ 100), fun a2 J44 Sa2 fa2 ea2 => ?_⟩
  have na2 := freshN (Z8.trans (Snv.trans (Se0.trans (Sng.trans Sa1)))) fa2
  have ea2' : J44 a2 = some (.lst [.ref fp, .ref nv, .ref e0, .bl true, .non]) := ea2
  have ba2 : BadL K a w0 J44 (.ref a2) := by
    have k := lkN (Sa1.trans Sa2)
    have k2 := lkG (Z8.trans (Snv.trans (Se0.trans (Sng.trans (Sa1.trans Sa2)))))
    exact ⟨a2, .ref fp, .ref nv, .ref e0, .bl true, .non, rfl, na2, ea2', ge0, true, true, true, true, true, true, true, ⟨k.kf, k.kw, k.kn, k.kr, .inl ⟨true, rfl, rfl⟩, k.kz⟩, rfl⟩
  walk_at "w0"
  refine ⟨ng, 4, .ref zp, _, rfl, ((Sa1.trans Sa2) _ _ eng), by decide, (by decide : ((4 : Int) < ((5 : Nat) : Int))), (by decide : (5 : Nat) ≤ 100), fun a3 J45 Sa3 fa3 ea3 => ?_⟩
  have na3 := freshN (Z8.trans (Snv.trans (Se0.trans (Sng.trans (Sa1.trans Sa2))))) fa3
  have ea3' : J45 a3 = some (.lst [.ref fp, .ref nv, .ref e0, .bl false, .ref zp]) := ea3
  have ba3 : BadL K a w0 J45 (.ref a3) := by
    have k := lkN (Sa1.trans (Sa2.trans Sa3))
    have k2 := lkG (Z8.trans (Snv.trans (Se0.trans (Sng.trans (Sa1.trans (Sa2.trans Sa3))))))
    exact ⟨a3, .ref fp, .ref nv, .ref e0, .bl false, .ref zp, rfl, na3, ea3', ge0, true, true, true, true, true, true, true, ⟨k.kf, k.kw, k.kn, k.kr, k.ks, k2.kz⟩, rfl⟩
  walk_at "w0"
  refine ⟨sz8 (by first | decide | (simp only [List.length_cons, List.length_nil]; decide)), fun l3 hl3 => ?_⟩
  have Sl3 := same_new hl3 (.lst [.ref a1, .ref a2, .ref a3])
  have gl3 := fresh (Z8.trans (Snv.trans (Se0.trans (Sng.trans (Sa1.trans (Sa2.trans Sa3)))))) hl3
  have el3 : upd J45 l3 (.lst [.ref a1, .ref a2, .ref a3]) l3 = some (.lst [.ref a1, .ref a2, .ref a3]) := upd_same
  generalize upd J45 l3 (.lst [.ref a1, .ref a2, .ref a3]) = J46 at *
  refine ⟨pO7, l3, _, _, rfl, rfl, ((Snv.trans (Se0.trans (Sng.trans (Sa1.trans (Sa2.trans (Sa3.trans Sl3)))))) _ _ eO8), el3, sz8 (by simp only [List.length_cons, List.length_nil]; omega), fun o3 ho3 => ?_⟩
  have So3 := same_new ho3 (.lst (O7 ++ [.ref a1, .ref a2, .ref a3]))
  have go3 := fresh (Z8.trans (Snv.trans (Se0.trans (Sng.trans (Sa1.trans (Sa2.trans (Sa3.trans Sl3))))))) ho3
  have eo3 : upd J46 o3 (.lst (O7 ++ [.ref a1, .ref a2, .ref a3])) o3 = some (.lst (O7 ++ [.ref a1, .ref a2, .ref a3])) := upd_same
  generalize upd J46 o3 (.lst (O7 ++ [.ref a1, .ref a2, .ref a3])) = J47 at *
  first | refine hold_ret ?_ | (dsimp only; refine hold_ret ?_)
  walk_at "w0"
  refine ⟨Nat.zero_le _, fun t0 ht0 => ?_⟩
  have St0 := same_new ht0 (.tup [])
  have gt0 := fresh (Z8.trans (Snv.trans (Se0.trans (Sng.trans (Sa1.trans (Sa2.trans (Sa3.trans (Sl3.trans So3)))))))) ht0
  have et0 : upd J47 t0 (.tup []) t0 = some (.tup []) := upd_same
  generalize upd J47 t0 (.tup []) = J48 at *
  walk_at "w0"
  refine ⟨ng, 2, .ref t0, _, rfl, ((Sa1.trans (Sa2.trans (Sa3.trans (Sl3.trans (So3.trans St0))))) _ _ eng), by decide, (by decide : ((2 : Int) < ((5 : Nat) : Int))), (by decide : (5 : Nat) ≤ 100), fun a4 J49 Sa4 fa4 ea4 => ?_⟩
  have na4 := freshN (Z8.trans (Snv.trans (Se0.trans (Sng.trans (Sa1.trans (Sa2.trans (Sa3.trans (Sl3.trans (So3.trans St0))))))))) fa4
  have ea4' : J49 a4 = some (.lst [.ref fp, .ref nv, .ref t0, .bl false, .non]) := ea4
  have ba4 : BadL K a w0 J49 (.ref a4) := by
    have k := lkN (Sa1.trans (Sa2.trans (Sa3.trans (Sl3.trans (So3.trans (St0.trans Sa4))))))
    have k2 := lkG (Z8.trans (Snv.trans (Se0.trans (Sng.trans (Sa1.trans (Sa2.trans (Sa3.trans (Sl3.trans (So3.trans (St0.trans Sa4))))))))))
    exact ⟨a4, .ref fp, .ref nv, .ref t0, .bl false, .non, rfl, na4, ea4', gt0, true, true, true, false, false, true, true, ⟨k.kf, k.kw, k.kn, .inr ⟨rfl, _, .tup (Sa4 _ _ et0), by kernel_rfl⟩, k.ks, k.kz⟩, rfl⟩
  walk_at "w0"
  refine ⟨ng, 2, .non, _, rfl, ((Sa1.trans (Sa2.trans (Sa3.trans (Sl3.trans (So3.trans (St0.trans Sa4)))))) _ _ eng), by decide, (by decide : ((2 : Int) < ((5 : Nat) : Int))), (by decide : (5 : Nat) ≤ 100), fun a5 J50 Sa5 fa5 ea5 => ?_⟩
  have na5 := freshN (Z8.trans (Snv.trans (Se0.trans (Sng.trans (Sa1.trans (Sa2.trans (Sa3.trans (Sl3.trans (So3.trans (St0.trans Sa4)))))))))) fa5
  have ea5' : J50 a5 = some (.lst [.ref fp, .ref nv, .non, .bl false, .non]) := ea5
  have ba5 : BadL K a w0 J50 (.ref a5) := by
    have k := lkN (Sa1.trans (Sa2.trans (Sa3.trans (Sl3.trans (So3.trans (St0.trans (Sa4.trans Sa5)))))))
    have k2 := lkG (Z8.trans (Snv.trans (Se0.trans (Sng.trans (Sa1.trans (Sa2.trans (Sa3.trans (Sl3.trans (So3.trans (St0.trans (Sa4.trans Sa5)))))))))))
    exact ⟨a5, .ref fp, .ref nv, .non, .bl false, .non, rfl, na5, ea5', (by intro z; cases z), true, true, true, false, false, true, true, ⟨k.kf, k.kw, k.kn, .inr ⟨rfl, _, .non, by kernel_rfl⟩, k.ks, k.kz⟩, rfl⟩
  walk_at "w0"
  refine ⟨sz8 (by first | decide | (simp only [List.length_cons, List.length_nil]; decide)), fun l2 hl2 => ?_⟩
  have Sl2 := same_new hl2 (.lst [.ref a4, .ref a5])
  have gl2 := fresh (Z8.trans (Snv.trans (Se0.trans (Sng.trans (Sa1.trans (Sa2.trans (Sa3.trans (Sl3.trans (So3.trans (St0.trans (Sa4.trans Sa5))))))))))) hl2
  have el2 : upd J50 l2 (.lst [.ref a4, .ref a5]) l2 = some (.lst [.ref a4, .ref a5]) := upd_same
  generalize upd J50 l2 (.lst [.ref a4, .ref a5]) = J51 at *
  refine ⟨o3, l2, _, _, rfl, rfl, ((St0.trans (Sa4.trans (Sa5.trans Sl2))) _ _ eo3), el2, sz8 (by simp only [List.length_append, List.length_cons, List.length_nil]; omega), fun o2 ho2 => ?_⟩
  have So2 := same_new ho2 (.lst ((O7 ++ [.ref a1, .ref a2, .ref a3]) ++ [.ref a4, .ref a5]))
  have go2 := fresh (Z8.trans (Snv.trans (Se0.trans (Sng.trans (Sa1.trans (Sa2.trans (Sa3.trans (Sl3.trans (So3.trans (St0.trans (Sa4.trans (Sa5.trans Sl2)))))))))))) ho2
  have eo2 : upd J51 o2 (.lst ((O7 ++ [.ref a1, .ref a2, .ref a3]) ++ [.ref a4, .ref a5])) o2 = some (.lst ((O7 ++ [.ref a1, .ref a2, .ref a3]) ++ [.ref a4, .ref a5])) := upd_same
  generalize upd J51 o2 (.lst ((O7 ++ [.ref a1, .ref a2, .ref a3]) ++ [.ref a4, .ref a5])) = J52 at *
  refine q o2 _ _ (Z8.trans (Snv.trans (Se0.trans (Sng.trans (Sa1.trans (Sa2.trans (Sa3.trans (Sl3.trans (So3.trans (St0.trans (Sa4.trans (Sa5.trans (Sl2.trans So2))))))))))))) ((Z8.trans (Snv.trans (Se0.trans (Sng.trans (Sa1.trans (Sa2.trans (Sa3.trans (Sl3.trans (So3.trans (St0.trans (Sa4.trans (Sa5.trans Sl2)))))))))))).free ho2) eo2 (by simp only [List.length_append, List.length_cons, List.length_nil]; omega) (by simp only [List.length_append, List.length_cons, List.length_nil]; omega) fun x hx => ?_
  rcases List.mem_append.mp hx with hx | hx
  · rcases List.mem_append.mp hx with hx | hx
    · exact (hO7' x hx).same (Snv.trans (Se0.trans (Sng.trans (Sa1.trans (Sa2.trans (Sa3.trans (Sl3.trans (So3.trans (St0.trans (Sa4.trans (Sa5.trans (Sl2.trans So2))))))))))))
    · simp only [List.mem_cons, List.not_mem_nil, or_false] at hx
      rcases hx with rfl | rfl | rfl
      · exact ba1.same (Sa2.trans (Sa3.trans (Sl3.trans (So3.trans (St0.trans (Sa4.trans (Sa5.trans (Sl2.trans So2))))))))
      · exact ba2.same (Sa3.trans (Sl3.trans (So3.trans (St0.trans (Sa4.trans (Sa5.trans (Sl2.trans So2)))))))
      · exact ba3.same (Sl3.trans (So3.trans (St0.trans (Sa4.trans (Sa5.trans (Sl2.trans So2))))))
  · simp only [List.mem_cons, List.not_mem_nil, or_false] at hx
    rcases hx with rfl | rfl
    · exact ba4.same (Sa5.trans (Sl2.trans So2))
    · exact ba5.same (Sl2.trans So2)
theorem ok_law_line_right (B : Bt K mg a)  (F : Fun K "_law_line_right" "_law_line_right" s_law_line_right f fd) : FnOk P w K mg base CX0 1 f fd ["_law_line", "_law_weight", "_law_roads_here", "_law_sure", "_law_raised"] (sp_law_line_right K a) := by
  refine F.ok sc_law_line_right (fun vs H Q E h => ?_) (fun cdv A outer s H vs Q E hr h => ?_)
  · obtain ⟨lp, fp, lr, rp, dl, dw, n, y, s, z, us, b, v, rfl, _⟩ := h
    rfl
  obtain ⟨lp, fp, lr, rp, dl, dw, n, y, s, z, us, b, v, rfl, hl, hf, hlr, hrp, u100, ug, hv, q⟩ := h
  refine ⟨_, (pss_of (qss_cons (qs_if (L2.PW.pt (pw_or (pt_not (pt_val (pe_callB (isiV_at (K := K) rfl) rfl B.isinstance PyProof.Rows.boot_isinstance (pa_of (qa_c (pv 0) (qa_c (pe_glob (v := .ref _) rfl B.Line rfl) qa_nil))) (he := star_plain _ _ _ rfl) (hpl := plain_any rfl)))) (pw_or (pt_not (pt_val (pe_callB (isiV_at (K := K) rfl) rfl B.isinstance PyProof.Rows.boot_isinstance (pa_of (qa_c (pe_fld (pv 0) rfl) (qa_c (pe_glob (v := .ref _) rfl B.Least rfl) qa_nil))) (he := star_plain _ _ _ rfl) (hpl := plain_any rfl)))) (pw_or1 (pt_cmpR op_ne (pe_fld (pe_fld (pv 0) rfl) rfl) (pv 1) (nomark _)))))) (qss_one (qs_ret (qe_of pe_bl))) qss_nil) (qss_cons (qs_if (L2.PW.pt (pw_or (pt_not (pt_val (pe_callB (isiG_at (K := K) (T := "list") rfl) rfl B.isinstance PyProof.Rows.boot_isinstance (pa_of (qa_c (pe_fld (pv 0) rfl) (qa_c (pe_bltn (v := .ty "list") rfl B.list PyProof.Rows.boot_list rfl) qa_nil))) (he := star_plain _ _ _ rfl) (hpl := plain_any rfl)))) (pw_or1 (pt_cmpR (op_neD hr.units) (pe_fld (pv 0) rfl) (pv 2) (nomark _))))) (qss_one (qs_ret (qe_of pe_bl))) qss_nil) (qss_cons (qs_if (L2.PW.pt (pw_or (pt_not (pt_val (pe_callB (isiG_at (K := K) (T := "bool") rfl) rfl B.isinstance PyProof.Rows.boot_isinstance (pa_of (qa_c (pe_fld (pv 0) rfl) (qa_c (pe_bltn (v := .ty "bool") rfl B.bool PyProof.Rows.boot_bool rfl) qa_nil))) (he := star_plain _ _ _ rfl) (hpl := plain_any rfl)))) (pw_or1 (pt_cmpR (op_neD hr.units) (pe_fld (pv 0) rfl) (pv 3) (nomark _))))) (qss_one (qs_ret (qe_of pe_bl))) qss_nil) (qss_cons (qs_if (pt_cmp (pc_isN (pv 4))) (qss_one (qs_ret (qe_of (pe_cmp (pc_isN (pe_fld (pv 0) rfl)))))) qss_nil) (qss_cons (qs_set (i := 5) sc_law_line_right.nd rfl (Or.inl rfl) (qe_of (pe_fld (pv 0) rfl)) (by kernel_rfl)) (qss_cons (qs_if (pt_not (pt_val (pe_callB (isiV_at (K := K) rfl) rfl B.isinstance PyProof.Rows.boot_isinstance (pa_of (qa_c (pv 5) (qa_c (pe_glob (v := .ref _) rfl B.Raised rfl) qa_nil))) (he := star_plain _ _ _ rfl) (hpl := plain_any rfl)))) (qss_one (qs_ret (qe_of pe_bl))) qss_nil) (qss_one (qs_ret (qe_of (pe_cmpR (op_eqD hr.units) (pe_tup (pa_of (qa_c (pe_fld (pv 5) rfl) (qa_c (pe_fld (pv 5) rfl) (qa_c (pe_fld (pv 5) rfl) qa_nil))))) (pv 4) (nomark _)))))))))))), ?_⟩
  have gsh : SeqAt.shaped (.list (us.map PyData.str)) = true := (shaped_of (Nat.zero_le _) (lay_strs fun u hu => good_str (ug u hu))).1
  walk_at "w0"
  refine ⟨_, _, _, true, rfl, B.ck_Line.ty hl, B.is_Line_Line, ?_⟩
  exists Bool.not_true
  refine ⟨_, _, _, hl, B.ck_Line.cl, B.na_Line_fit, .ref fp, rfl, ?_⟩
  walk_at "w0"
  refine ⟨_, _, _, true, rfl, B.ck_Least.ty hf, B.is_Least_Least, ?_⟩
  exists Bool.not_true
  refine ⟨_, _, _, hl, B.ck_Line.cl, B.na_Line_fit, .ref fp, rfl, ?_⟩
  walk_at "w0"
  refine ⟨_, _, _, hf, B.ck_Least.cl, B.na_Least_weight, .int n, rfl, ?_⟩
  exists ne_eq, not_true_eq_false
  refine ⟨_, _, _, hl, B.ck_Line.cl, B.na_Line_roads, .ref lr, rfl, ?_⟩
  walk_at "w0"
  refine ⟨_, _, true, rfl, .lst hlr, by kernel_rfl, ?_⟩
  exists Bool.not_true
  refine ⟨_, _, _, hl, B.ck_Line.cl, B.na_Line_roads, .ref lr, rfl, ?_⟩
  walk_at "w0"
  refine eqd (.lst hlr (rds_strs us)) (.lst hrp (rds_strs us)) gsh ?_
  walk_at "w0"
  refine ⟨_, _, _, hl, B.ck_Line.cl, B.na_Line_sure, .bl b, rfl, ?_⟩
  walk_at "w0"
  refine ⟨_, _, true, rfl, .bl b, by kernel_rfl, ?_⟩
  exists Bool.not_true
  refine ⟨_, _, _, hl, B.ck_Line.cl, B.na_Line_sure, .bl b, rfl, ?_⟩
  walk_at "w0"
  refine eqd (.bl b) (.bl b) (by cases b <;> rfl) ?_
  walk_at "w0"
  rcases hv with ⟨rfl, rfl⟩ | ⟨zp, d, vp, m, t, o, rfl, rfl, ho, hz, hvp⟩
  · exists decide_true
    refine ⟨_, _, _, hl, B.ck_Line.cl, B.na_Line_raised, .non, rfl, ?_⟩
    walk_at "w0"
    first | exact q _ (fun _ _ z => z) | (exists decide_true; exact q _ (fun _ _ z => z))
  · exists decide_false
    refine ⟨_, _, _, hl, B.ck_Line.cl, B.na_Line_raised, .ref zp, rfl, ?_⟩
    walk_at "w0"
    refine ⟨_, _, _, true, rfl, B.ck_Raised.ty hz, B.is_Raised_Raised, ?_⟩
    exists Bool.not_true
    refine ⟨_, _, _, hz, B.ck_Raised.cl, B.na_Raised_minutes, .int m, rfl, ?_⟩
    walk_at "w0"
    refine ⟨_, _, _, hz, B.ck_Raised.cl, B.na_Raised_times, .int t, rfl, ?_⟩
    walk_at "w0"
    refine ⟨_, _, _, hz, B.ck_Raised.cl, B.na_Raised_to, o, rfl, ?_⟩
    walk_at "w0"
    refine ⟨sz8 (by decide), fun tp htp => ?_⟩
    have ST := same_new htp (.tup [.int m, .int t, o])
    obtain ⟨dd, rdo, sho⟩ : ∃ dd, (∀ H' : Hp, RD H' o dd) ∧ SeqAt.shaped (.tuple [.int m, .int t, dd]) = true := by
      rcases ho with rfl | ⟨u, rfl, g⟩
      · exact ⟨.none, fun _ => .non, by simp [SeqAt.shaped, PyData.canLay0, PyData.canLayAll0, PyData.depth, PyData.depthAll]⟩
      · exact ⟨.str u, fun _ => .str u, by simp [SeqAt.shaped, PyData.canLay0, PyData.canLayAll0, PyData.depth, PyData.depthAll, good_str g]⟩
    refine eqd (.tup upd_same (.cons (.int m) (.cons (.int t) (.cons (rdo _) .nil)))) (.tup (ST _ _ hvp) (.cons (.int m) (.cons (.int t) (.cons (rdo _) .nil)))) sho ?_
    exact q _ ST
theorem made_but {H H' : Hp} {x dx : Addr} {o o' : HO} (hx : H x = none) (hd : H dx = none) (b : But x (upd (upd H dx o) x o') H') : Same H H' := fun c u e => b c u (ne_of_none e hx) (made_same hx hd c u e)
theorem ok_law (B : Bt K mg a) (C_law_begin : CalX P w K mg base "_law_begin" ["_law_cell"] 1 (sp_law_begin K a)) (C_law_next : CalX P w K mg base "_law_next" ["_law_state", "_law_base"] 1 (sp_law_next K a)) (CD_Raised_3 : CalD P w K mg base "Raised" a.Raised ["self", "minutes", "times", "to"] 3 [] (sp_Raised___init__ K a)) (CD_Raised_2 : CalD P w K mg base "Raised" a.Raised ["self", "minutes", "times", "to"] 3 [.non] (sp_Raised___init__ K a)) (C_law_roads : CalX P w K mg base "_law_roads" ["_law_state"] 3 (sp_law_roads K a)) (CC_Least : CalC P w K mg base "Least" a.Least ["self", "weight"] 3 (sp_Least___init__ K a)) (CD_Line_5 : CalD P w K mg base "Line" a.Line ["self", "fit", "way", "roads", "sure", "raised"] 3 [] (sp_Line___init__ K a)) (C_law_odd_raised : CalX P w K mg base "_law_odd_raised" ["_law_minutes", "_law_times", "_law_to"] 2 (sp_law_odd_raised K a)) (C_law_odd_line : CalX P w K mg base "_law_odd_line" ["_law_fit", "_law_way", "_law_roads_here", "_law_raised"] 2 (sp_law_odd_line K a)) (C_law_line_right : CalX P w K mg base "_law_line_right" ["_law_line", "_law_weight", "_law_roads_here", "_law_sure", "_law_raised"] 1 (sp_law_line_right K a)) (C_law_name : CalX P w K mg base "_law_name" ["_law_state"] 2 (sp_law_name K a)) (CC_Hour : CalC P w K mg base "Hour" a.Hour ["self", "minute"] 4 (sp_Hour___init__ K a)) (CC_Day : CalC P w K mg base "Day" a.Day ["self", "minute"] 5 (sp_Day___init__ K a)) (CD_Line_3 : CalD P w K mg base "Line" a.Line ["self", "fit", "way", "roads", "sure", "raised"] 3 [.bl false, .non] (sp_Line___init__ K a)) (C_law_refused : CalX P w K mg base "_law_refused" ["_law_word", "_law_parts"] 5 (sp_law_refused K a)) (F : Fun K "law" "law" s_law f fd) : FnOk P w K mg base CX0 7 f fd ["_law_script"] (sp_law K a) := by
  refine F.ok sc_law (fun vs H Q E h => ?_) (fun cdv A outer s H vs Q E hr h => ?_)
  · obtain ⟨sc, ns, rfl, _⟩ := h
    rfl
  obtain ⟨sc, ns, rfl, hS, h63, q⟩ := h
  refine ⟨_, (pss_of (qss_cons (qs_of (ps_for PassesOwn.never rfl (pi_list (pe_op op_cat (pe_lst (pa_of (qa_c pe_int qa_nil))) (pe_slice sl_list (pv 0) po_none (po_some pe_int)))) (pg_name (i := 1) sc_law.nd rfl (Or.inl rfl)) (pss_of (qss_hold (qss_cons (qs_set (i := 2) sc_law.nd rfl (Or.inl rfl) (qe_of (pe_calN C_law_begin (hr.mono (by decide)) rfl (pa_of (qa_c (pv 1) qa_nil)) (he := star_plain _ _ _ rfl) (hpl := plain_any rfl))) (by kernel_rfl)) (qss_hold (qss_cons (qs_set (i := 3) sc_law.nd rfl (Or.inl rfl) (qe_of (pe_op op_add pe_int (pe_calN C_law_next (hr.mono (by decide)) rfl (pa_of (qa_c (pv 2) (qa_c pe_int qa_nil))) (he := star_plain _ _ _ rfl) (hpl := plain_any rfl)))) (by kernel_rfl)) (qss_hold (qss_cons (qs_set (i := 4) sc_law.nd rfl (Or.inl rfl) (qe_of (pe_calN C_law_next (hr.mono (by decide)) rfl (pa_of (qa_c (pv 2) (qa_c pe_int qa_nil))) (he := star_plain _ _ _ rfl) (hpl := plain_any rfl))) (by kernel_rfl)) (qss_hold (qss_cons (qs_set (i := 5) sc_law.nd rfl (Or.inl rfl) (qe_ix ix_list (qe_lst (qa_c pe_non (qa_c (pe_calN C_law_name (hr.mono (by decide)) rfl (pa_of (qa_c (pv 2) qa_nil)) (he := star_plain _ _ _ rfl) (hpl := plain_any rfl)) qa_nil))) (qe_of (pe_calN C_law_next (hr.mono (by decide)) rfl (pa_of (qa_c (pv 2) (qa_c pe_int qa_nil))) (he := star_plain _ _ _ rfl) (hpl := plain_any rfl))) (fun _ _ => rfl)) (by kernel_rfl)) (qss_hold (qss_cons (qs_set (i := 6) sc_law.nd rfl (Or.inl rfl) (qe_of (pe_makD CD_Raised_3 pass00 (hr.mono (by decide)) rfl (pa_of (qa_c (pv 3) (qa_c (pv 4) (qa_c (pv 5) qa_nil)))) (he := star_plain _ _ _ rfl) (hpl := plain_any rfl))) (by kernel_rfl)) (qss_hold (qss_cons (qs_set (i := 7) sc_law.nd rfl (Or.inl rfl) (qe_of (pe_makD CD_Raised_2 pass00 (hr.mono (by decide)) rfl (pa_of (qa_c (pv 3) (qa_c (pv 4) qa_nil))) (he := star_plain _ _ _ rfl) (hpl := plain_any rfl))) (by kernel_rfl)) (qss_hold (qss_cons (qs_if (L2.PW.pt (pw_or (pt_cmpR (op_neD hr.units) (pe_tup (pa_of (qa_c (pe_fld (pv 6) rfl) (qa_c (pe_fld (pv 6) rfl) (qa_c (pe_fld (pv 6) rfl) qa_nil))))) (pe_tup (pa_of (qa_c (pv 3) (qa_c (pv 4) (qa_c (pv 5) qa_nil))))) (nomark _)) (pw_or1 (pt_cmp (pc_notN (pe_fld (pv 7) rfl)))))) (qss_one (qs_ret (qe_of pe_bl))) qss_nil) (qss_hold (qss_cons (qs_set (i := 8) sc_law.nd rfl (Or.inl rfl) (qe_of (pe_calN C_law_roads (hr.mono (by decide)) rfl (pa_of (qa_c (pv 2) qa_nil)) (he := star_plain _ _ _ rfl) (hpl := plain_any rfl))) (by kernel_rfl)) (qss_hold (qss_cons (qs_set (i := 9) sc_law.nd rfl (Or.inl rfl) (qe_of (pe_calN C_law_next (hr.mono (by decide)) rfl (pa_of (qa_c (pv 2) (qa_c (pe_op op_pow pe_int pe_int) qa_nil))) (he := star_plain _ _ _ rfl) (hpl := plain_any rfl))) (by kernel_rfl)) (qss_hold (qss_cons (qs_set (i := 10) sc_law.nd rfl (Or.inl rfl) (qe_of (pe_mak CC_Least pass00 (hr.mono (by decide)) rfl (pa_of (qa_c (pv 9) qa_nil)) (he := star_plain _ _ _ rfl) (hpl := plain_any rfl))) (by kernel_rfl)) (qss_hold (qss_cons (qs_set (i := 11) sc_law.nd rfl (Or.inl rfl) (qe_ix ix_list (qe_lst (qa_c (pe_makN B.mk_Now rfl B.Now) (qa_c (pe_mak CC_Hour pass00 (hr.mono (by decide)) rfl (pa_of (qa_c (pe_calN C_law_next (hr.mono (by decide)) rfl (pa_of (qa_c (pv 2) (qa_c pe_int qa_nil))) (he := star_plain _ _ _ rfl) (hpl := plain_any rfl)) qa_nil)) (he := star_plain _ _ _ rfl) (hpl := plain_any rfl)) (qa_c (pe_mak CC_Day pass00 (hr.mono (by decide)) rfl (pa_of (qa_c (pe_calN C_law_next (hr.mono (by decide)) rfl (pa_of (qa_c (pv 2) (qa_c pe_int qa_nil))) (he := star_plain _ _ _ rfl) (hpl := plain_any rfl)) qa_nil)) (he := star_plain _ _ _ rfl) (hpl := plain_any rfl)) qa_nil)))) (qe_of (pe_calN C_law_next (hr.mono (by decide)) rfl (pa_of (qa_c (pv 2) (qa_c pe_int qa_nil))) (he := star_plain _ _ _ rfl) (hpl := plain_any rfl))) (fun _ _ => rfl)) (by kernel_rfl)) (qss_hold (qss_cons (qs_set (i := 12) sc_law.nd rfl (Or.inl rfl) (qe_of (pe_cmpR op_eq (pe_calN C_law_next (hr.mono (by decide)) rfl (pa_of (qa_c (pv 2) (qa_c pe_int qa_nil))) (he := star_plain _ _ _ rfl) (hpl := plain_any rfl)) pe_int (nomark _))) (by kernel_rfl)) (qss_hold (qss_cons (qs_set (i := 13) sc_law.nd rfl (Or.inl rfl) (qe_of (pe_callTy call_list_of rfl B.list PyProof.Rows.boot_list (pa_of (qa_c (pv 8) qa_nil)))) (by kernel_rfl)) (qss_hold (qss_cons (qs_set (i := 14) sc_law.nd rfl (Or.inl rfl) (qe_of (pe_makD CD_Line_5 pass00 (hr.mono (by decide)) rfl (pa_of (qa_c (pv 10) (qa_c (pv 11) (qa_c (pv 13) (qa_c (pv 12) (qa_c (pv 6) qa_nil)))))) (he := star_plain _ _ _ rfl) (hpl := plain_any rfl))) (by kernel_rfl)) (qss_hold (qss_cons (qs_set (i := 15) sc_law.nd rfl (Or.inl rfl) (qe_of (pe_tup (pa_of (qa_c (pv 3) (qa_c (pv 4) (qa_c (pv 5) qa_nil)))))) (by kernel_rfl)) (qss_hold (qss_cons (qs_if (L2.PW.pt (pw_or (pt_cmpR (op_neD hr.units) (pv 13) (pv 8) (nomark _)) (pw_or1 (pt_not (pt_val (pe_calN C_law_line_right (hr.mono (by decide)) rfl (pa_of (qa_c (pv 14) (qa_c (pv 9) (qa_c (pv 8) (qa_c (pv 12) (qa_c (pv 15) qa_nil)))))) (he := star_plain _ _ _ rfl) (hpl := plain_any rfl))))))) (qss_one (qs_ret (qe_of pe_bl))) qss_nil) (qss_hold (qss_cons (qs_of (ps_expr (pe_bm PySem.F.plainAttrs_list PySem.F.slot_list_append PySem.F.type_list_append mt_append (pv 13) (pa_of (qa_c pe_str qa_nil))))) (qss_hold (qss_cons (qs_of (ps_asg pe_str (pg_sub (pv 13) pe_int set_list))) (qss_hold (qss_cons (qs_if (L2.PW.pt (pw_or (pt_cmpR (op_neD hr.units) (pe_fld (pv 14) rfl) (pv 8) (nomark _)) (pw_or1 (pt_not (pt_val (pe_callB (isiI_at (K := K) rfl) rfl B.isinstance PyProof.Rows.boot_isinstance (pa_of (qa_c (pe_fld (pv 14) rfl) (qa_c (pe_tup (pa_of (qa_c (pe_glob (v := .ref _) rfl B.Now rfl) (qa_c (pe_glob (v := .ref _) rfl B.Hour rfl) (qa_c (pe_glob (v := .ref _) rfl B.Day rfl) qa_nil))))) qa_nil))) (he := star_plain _ _ _ rfl) (hpl := plain_any rfl))))))) (qss_one (qs_ret (qe_of pe_bl))) qss_nil) (qss_hold (qss_cons (qs_if (pt_not (pt_val (pe_calN C_law_line_right (hr.mono (by decide)) rfl (pa_of (qa_c (pe_makD CD_Line_3 pass00 (hr.mono (by decide)) rfl (pa_of (qa_c (pv 10) (qa_c (pv 11) (qa_c (pv 8) qa_nil)))) (he := star_plain _ _ _ rfl) (hpl := plain_any rfl)) (qa_c (pv 9) (qa_c (pv 8) (qa_c pe_bl (qa_c pe_non qa_nil)))))) (he := star_plain _ _ _ rfl) (hpl := plain_any rfl)))) (qss_one (qs_ret (qe_of pe_bl))) qss_nil) (qss_hold (qss_cons (qs_if (pt_not (pt_val (pe_calN C_law_line_right (hr.mono (by decide)) rfl (pa_of (qa_c (pe_makD CD_Line_3 pass00 (hr.mono (by decide)) rfl (pa_of (qa_c (pv 10) (qa_c (pe_makN B.mk_Never rfl B.Never) (qa_c (pe_lst (pa_of qa_nil)) qa_nil)))) (he := star_plain _ _ _ rfl) (hpl := plain_any rfl)) (qa_c (pv 9) (qa_c (pe_lst (pa_of qa_nil)) (qa_c pe_bl (qa_c pe_non qa_nil)))))) (he := star_plain _ _ _ rfl) (hpl := plain_any rfl)))) (qss_one (qs_ret (qe_of pe_bl))) qss_nil) (qss_hold (qss_cons (qs_set (i := 16) sc_law.nd rfl (Or.inl rfl) (qe_of (pe_calN C_law_odd_raised (hr.mono (by decide)) rfl (pa_of (qa_c (pv 3) (qa_c (pv 4) (qa_c (pv 5) qa_nil)))) (he := star_plain _ _ _ rfl) (hpl := plain_any rfl))) (by kernel_rfl)) (qss_hold (qss_cons (qs_set (i := 17) sc_law.nd rfl (Or.inl rfl) (qe_of (pe_calN C_law_odd_line (hr.mono (by decide)) rfl (pa_of (qa_c (pv 10) (qa_c (pv 11) (qa_c (pv 8) (qa_c (pv 6) qa_nil))))) (he := star_plain _ _ _ rfl) (hpl := plain_any rfl))) (by kernel_rfl)) (qss_hold (qss_one (qs_of (ps_for PassesOwn.never rfl (pi_range1 rfl B.range (pa_of (qa_c pe_int qa_nil))) (pg_name (i := 18) sc_law.nd rfl (Or.inl rfl)) (pss_of (qss_hold (qss_cons (qs_set (i := 19) sc_law.nd rfl (Or.inl rfl) (qe_of (pe_ix ix_list (pv 16) (pe_calN C_law_next (hr.mono (by decide)) rfl (pa_of (qa_c (pv 2) (qa_c (pe_callB call_len_seq rfl B.len PySem.boot_len (pa_of (qa_c (pv 16) qa_nil))) qa_nil))) (he := star_plain _ _ _ rfl) (hpl := plain_any rfl)) (fun _ _ => rfl))) (by kernel_rfl)) (qss_hold (qss_cons (qs_if (pt_not (pt_val (pe_calN C_law_refused (hr.mono (by decide)) rfl (pa_of (qa_c pe_str (qa_c (pv 19) qa_nil))) (he := star_plain _ _ _ rfl) (hpl := plain_any rfl)))) (qss_one (qs_ret (qe_of pe_bl))) qss_nil) (qss_hold (qss_cons (qs_set (i := 19) sc_law.nd rfl (Or.inl rfl) (qe_of (pe_ix ix_list (pv 17) (pe_calN C_law_next (hr.mono (by decide)) rfl (pa_of (qa_c (pv 2) (qa_c (pe_callB call_len_seq rfl B.len PySem.boot_len (pa_of (qa_c (pv 17) qa_nil))) qa_nil))) (he := star_plain _ _ _ rfl) (hpl := plain_any rfl)) (fun _ _ => rfl))) (by kernel_rfl)) (qss_hold (qss_one (qs_if (pt_not (pt_val (pe_calN C_law_refused (hr.mono (by decide)) rfl (pa_of (qa_c pe_str (qa_c (pv 19) qa_nil))) (he := star_plain _ _ _ rfl) (hpl := plain_any rfl)))) (qss_one (qs_ret (qe_of pe_bl))) qss_nil))))))))))))))))))))))))))))))))))))))))))))))))))))))))))))))) (qss_one (qs_ret (qe_of pe_bl))))), ?_⟩
  walk_at "w0"
  refine ⟨sz8 (by decide), fun p hp => ?_⟩
  refine ⟨sc, _, rfl, (same_new hp _).seq hS, fun p2 hp2 => ?_⟩
  obtain ⟨ms, em, lm⟩ := cut_map ns none (some 10)
  rw [em]
  refine ⟨p, p2, [.int 0], _, rfl, rfl, ?_, upd_same, ?_, fun l hl => ?_⟩
  · rw [upd_ne (ne_of_none upd_same hp2)]; exact upd_same
  · simp only [List.length_cons, List.length_nil, List.length_map]
    exact sz8 (by omega)
  refine ⟨l, rfl, ⟨_, SqL.of upd_same⟩, ?_⟩
  refine ForL.by (xs := ([0] ++ ms).map V.int) (fun _ σ H1 => (∃ s1 s2 s3 s4 s5 s6 s7 s8 s9 s10 s11 s12 s13 s14 s15 s16 s17 s18 s19, σ = [some (.ref sc), s1, s2, s3, s4, s5, s6, s7, s8, s9, s10, s11, s12, s13, s14, s15, s16, s17, s18, s19]) ∧ H1 l = some (.lst (([0] ++ ms).map V.int))) ⟨⟨_, _, _, _, _, _, _, _, _, _, _, _, _, _, _, _, _, _, _, rfl⟩, by rw [List.map_append]; exact upd_same⟩ (fun i σ H1 _ h => SqL.of h.2) ?_ ?_
  · rintro i x σ H1 hx ⟨⟨s1, s2, s3, s4, s5, s6, s7, s8, s9, s10, s11, s12, s13, s14, s15, s16, s17, s18, s19, rfl⟩, h1⟩
    obtain ⟨c, rfl⟩ := int_at hx
    clear hx hl hp2 em lm hS h63
    walk_at "w0"
    first | rw [w_hold] | (dsimp only; rw [w_hold])
    walk_at "w0"
    refine ⟨c, rfl, fun pw wa wb wc hpw => ?_⟩
    have W0 : Well3 (upd H1 pw (.lst [.int wa, .int wb, .int wc])) pw := ⟨_, _, _, upd_same⟩
    have l0 : l ≠ pw := ne_of_none h1 hpw
    have h2 := same_new hpw (.lst [.int wa, .int wb, .int wc]) l _ h1
    generalize upd H1 pw (.lst [.int wa, .int wb, .int wc]) = H2 at *
    first | rw [w_hold] | (dsimp only; rw [w_hold])
    walk_at "w0"
    refine drw3 W0 (by decide) (by decide) fun r1 H3 a1 b1 W1 B1 => ?_
    have b1' : r1 < 999999 := b1
    walk_at "w0"
    first | rw [w_hold] | (dsimp only; rw [w_hold])
    walk_at "w0"
    refine drw3 W1 (by decide) (by decide) fun tm H4 t0 t1 W2 B2 => ?_
    have t1' : tm < 21 := t1
    have h4 := B2 l _ l0 (B1 l _ l0 h2)
    clear B1 B2 W0 W1 h2
    walk_at "w0"
    first | rw [w_hold] | (dsimp only; rw [w_hold])
    walk_at "w0"
    refine ⟨pw, rfl, W2, fun nu H5 gnu W3 B3 => ?_⟩
    walk_at "w0"
    refine ⟨sz8 (by decide), fun p3 hp3 => ?_⟩
    have S3 := same_new hp3 (.lst [.non, .str nu])
    have e3 : upd H5 p3 (.lst [.non, .str nu]) p3 = some (.lst [.non, .str nu]) := upd_same
    have n3 := W3.ne hp3
    have W3' := W3.same S3
    generalize upd H5 p3 (.lst [.non, .str nu]) = H6 at *
    refine drw3 W3' (by decide) (by decide) fun r2 H7 a2 b2 W4 B4 => ?_
    have e4 := B4 p3 _ n3 e3
    obtain ⟨o, ho, eo⟩ := at_memV (xs := [.non, .str nu]) a2 (by simpa using b2)
    refine ixl (SqL.of e4) eo ?_
    have to : toOk o := by
      simp only [List.mem_cons, List.not_mem_nil, or_false] at ho
      rcases ho with rfl | rfl
      · exact .inl rfl
      · exact .inr ⟨nu, rfl, gnu⟩
    have h7 := B4 l _ l0 (S3 _ _ (B3 l _ l0 h4))
    clear B3 B4 S3 e3 e4 n3 W3 W3' W2 h4 eo ho hp3
    walk_at "w0"
    first | rw [w_hold] | (dsimp only; rw [w_hold])
    walk_at "w0"
    have rb : raisB (.int (1 + r1)) (.int tm) o = true := by
      unfold raisB
      rw [to.b]
      simp only [fromV, Bool.and_true, Bool.and_eq_true, decide_eq_true_eq]
      omega
    have rb0 : raisB (.int (1 + r1)) (.int tm) .non = true := by
      unfold raisB
      simp only [fromV, isNonV, Bool.true_or, Bool.and_true, Bool.and_eq_true, decide_eq_true_eq]
      omega
    have oI : ∀ {G : Hp} {n : Int}, okI K G (.int n) := fun {G n} => ⟨_, .int n, by kernel_rfl, by kernel_rfl⟩
    intro z1 d1 hz1 hd1 nz1
    refine ⟨z1, d1, _, _, _, rfl, upd_same, oI, oI, to.okN, .inl ⟨rb, fun H8 B8 e8 => ?_⟩⟩
    have S8 := made_but hz1 hd1 B8
    have h8 := S8 _ _ h7
    have W5 := W4.same S8
    clear B8 S8 h7 W4 hz1 hd1 nz1
    walk_at "w0"
    first | rw [w_hold] | (dsimp only; rw [w_hold])
    walk_at "w0"
    intro z2 d2 hz2 hd2 nz2
    refine ⟨z2, d2, _, _, _, rfl, upd_same, oI, oI, trivial, .inl ⟨rb0, fun H9 B9 e9 => ?_⟩⟩
    have S9 := made_but hz2 hd2 B9
    have h9 := S9 _ _ h8
    have W6 := W5.same S9
    have e8' := S9 _ _ e8
    clear B9 S9 h8 W5 e8 hz2 hd2 nz2
    walk_at "w0"
    first | rw [w_hold] | (dsimp only; rw [w_hold])
    walk_at "w0"
    refine ⟨_, _, _, e8', B.ck_Raised.cl, B.na_Raised_minutes, .int (1 + r1), rfl, ?_⟩
    walk_at "w0"
    refine ⟨_, _, _, e8', B.ck_Raised.cl, B.na_Raised_times, .int tm, rfl, ?_⟩
    walk_at "w0"
    refine ⟨_, _, _, e8', B.ck_Raised.cl, B.na_Raised_to, o, rfl, ?_⟩
    walk_at "w0"
    refine ⟨sz8 (by decide), fun q1 hq1 => ?_⟩
    have T1 := same_new hq1 (.tup [.int (1 + r1), .int tm, o])
    have f1 : upd H9 q1 (.tup [.int (1 + r1), .int tm, o]) q1 = some (.tup [.int (1 + r1), .int tm, o]) := upd_same
    generalize upd H9 q1 (.tup [.int (1 + r1), .int tm, o]) = J1 at *
    refine ⟨sz8 (by decide), fun q2 hq2 => ?_⟩
    have T2 := same_new hq2 (.tup [.int (1 + r1), .int tm, o])
    have f2 : upd J1 q2 (.tup [.int (1 + r1), .int tm, o]) q2 = some (.tup [.int (1 + r1), .int tm, o]) := upd_same
    have f1' := T2 _ _ f1
    generalize upd J1 q2 (.tup [.int (1 + r1), .int tm, o]) = J2 at *
    obtain ⟨dd, rdo, sho⟩ : ∃ dd, (∀ H' : Hp, RD H' o dd) ∧ SeqAt.shaped (.tuple [.int (1 + r1), .int tm, dd]) = true := by
      rcases to with rfl | ⟨u, rfl, g⟩
      · exact ⟨.none, fun _ => .non, by simp [SeqAt.shaped, PyData.canLay0, PyData.canLayAll0, PyData.depth, PyData.depthAll]⟩
      · exact ⟨.str u, fun _ => .str u, by simp [SeqAt.shaped, PyData.canLay0, PyData.canLayAll0, PyData.depth, PyData.depthAll, good_str g]⟩
    refine eqd (.tup f1' (.cons (.int _) (.cons (.int _) (.cons (rdo _) .nil)))) (.tup f2 (.cons (.int _) (.cons (.int _) (.cons (rdo _) .nil)))) sho ?_
    have TT := T1.trans T2
    have k8 := TT _ _ e8'
    have k9 := TT _ _ e9
    have hA := TT _ _ h9
    have WA := W6.same TT
    clear T1 T2 f1 f1' f2 TT e8' e9 h9 W6 hq1 hq2
    walk_at "w0"
    refine ⟨_, _, _, k9, B.ck_Raised.cl, B.na_Raised_to, .non, rfl, ?_⟩
    exists decide_true, not_true_eq_false, Bool.not_true
    clear k9
    first | rw [w_hold] | (dsimp only; rw [w_hold])
    walk_at "w0"
    refine ⟨pw, rfl, WA, fun rp us J3 une ul ug und WB B3 frp hr3 => ?_⟩
    have nrp : rp ≠ pw := WA.ne frp
    have k8b := B3 z1 _ (fun z => by rw [z] at k8; obtain ⟨x1, x2, x3, e⟩ := WA; rw [e] at k8; cases k8) k8
    have hB := B3 l _ l0 hA
    clear B3 WA hA k8 frp
    walk_at "w0"
    first | rw [w_hold] | (dsimp only; rw [w_hold])
    walk_at "w0"
    refine ⟨⟨by decide, by decide, by decide⟩, ?_⟩
    refine drw3 WB (by decide) (by decide) fun n J4 n0 n1 WC B4 => ?_
    have k8 := B4 z1 _ (fun z => by rw [z] at k8b; obtain ⟨x1, x2, x3, e⟩ := WB; rw [e] at k8b; cases k8b) k8b
    have hC := B4 l _ l0 hB
    have hr4 := B4 rp _ nrp hr3
    clear B4 WB hB k8b hr3
    walk_at "w0"
    first | rw [w_hold] | (dsimp only; rw [w_hold])
    walk_at "w0"
    intro fp df hfp hdf nfp
    have M1 := made_same (o := .own fp) (o' := .ins a.Least df []) hfp hdf
    refine ⟨fp, df, n, rfl, upd_same, n0, ?_⟩
    have T1 : Same J4 (upd (upd (upd J4 df (.own fp)) fp (.ins a.Least df [])) fp (.ins a.Least df [("weight", .int n)])) := fun b o e => by
      rw [upd_ne (ne_of_none e hfp)]
      exact M1 b o e
    have ef : upd (upd (upd J4 df (.own fp)) fp (.ins a.Least df [])) fp (.ins a.Least df [("weight", .int n)]) fp = some (.ins a.Least df [("weight", .int n)]) := upd_same
    generalize upd (upd (upd J4 df (.own fp)) fp (.ins a.Least df [])) fp (.ins a.Least df [("weight", .int n)]) = J5 at *
    have k5 := T1 _ _ k8
    have hD := T1 _ _ hC
    have hr5 := T1 _ _ hr4
    have WD := WC.same T1
    clear T1 M1 hfp hdf nfp k8 hC hr4 WC
    walk_at "w0"
    first | rw [w_hold] | (dsimp only; rw [w_hold])
    walk_at "w0"
    -- the way
    intro y1 dy1 hy1 hdy1 ny1
    have T1 := made_same (o := .own y1) (o' := .ins a.Now dy1 []) hy1 hdy1
    have ey1 : upd (upd J5 dy1 (.own y1)) y1 (.ins a.Now dy1 []) y1 = some (.ins a.Now dy1 []) := upd_same
    generalize upd (upd J5 dy1 (.own y1)) y1 (.ins a.Now dy1 []) = J6 at *
    walk_at "w0"
    refine drw3 (WD.same T1) (by decide) (by decide) fun mh J7 h0 h1' WE B1 => ?_
    have h1'' : mh < 60 := h1'
    walk_at "w0"
    intro y2 dy2 hy2 hdy2 ny2
    have M2 := made_same (o := .own y2) (o' := .ins a.Hour dy2 []) hy2 hdy2
    refine ⟨y2, dy2, mh, rfl, upd_same, h0, by omega, ?_⟩
    have T2 : Same J7 (upd (upd (upd J7 dy2 (.own y2)) y2 (.ins a.Hour dy2 [])) y2 (.ins a.Hour dy2 [("minute", .int mh)])) := fun b o e => by
      rw [upd_ne (ne_of_none e hy2)]
      exact M2 b o e
    have ey2 : upd (upd (upd J7 dy2 (.own y2)) y2 (.ins a.Hour dy2 [])) y2 (.ins a.Hour dy2 [("minute", .int mh)]) y2 = some (.ins a.Hour dy2 [("minute", .int mh)]) := upd_same
    generalize upd (upd (upd J7 dy2 (.own y2)) y2 (.ins a.Hour dy2 [])) y2 (.ins a.Hour dy2 [("minute", .int mh)]) = J8 at *
    walk_at "w0"
    refine drw3 (WE.same T2) (by decide) (by decide) fun md J9 m0 m1 WF B2 => ?_
    have m1' : md < 1440 := m1
    walk_at "w0"
    intro y3 dy3 hy3 hdy3 ny3
    have M3 := made_same (o := .own y3) (o' := .ins a.Day dy3 []) hy3 hdy3
    refine ⟨y3, dy3, md, rfl, upd_same, m0, by omega, ?_⟩
    have T3 : Same J9 (upd (upd (upd J9 dy3 (.own y3)) y3 (.ins a.Day dy3 [])) y3 (.ins a.Day dy3 [("minute", .int md)])) := fun b o e => by
      rw [upd_ne (ne_of_none e hy3)]
      exact M3 b o e
    have ey3 : upd (upd (upd J9 dy3 (.own y3)) y3 (.ins a.Day dy3 [])) y3 (.ins a.Day dy3 [("minute", .int md)]) y3 = some (.ins a.Day dy3 [("minute", .int md)]) := upd_same
    generalize upd (upd (upd J9 dy3 (.own y3)) y3 (.ins a.Day dy3 [])) y3 (.ins a.Day dy3 [("minute", .int md)]) = G1 at *
    walk_at "w0"
    refine ⟨sz8 (by first | decide | (simp only [List.length_cons, List.length_nil]; decide)), fun lw hlw => ?_⟩
    have T4 := same_new hlw (.lst [.ref y1, .ref y2, .ref y3])
    have elw : upd G1 lw (.lst [.ref y1, .ref y2, .ref y3]) lw = some (.lst [.ref y1, .ref y2, .ref y3]) := upd_same
    have WG := (WF.same T3).same T4
    have nlw := (WF.same T3).ne hlw
    generalize upd G1 lw (.lst [.ref y1, .ref y2, .ref y3]) = G2 at *
    refine drw3 WG (by decide) (by decide) fun r5 G3 a5 b5 WH B3 => ?_
    obtain ⟨y, hy, ey⟩ := at_memV (xs := [.ref y1, .ref y2, .ref y3]) a5 (by simpa using b5)
    refine ixl (SqL.of (B3 _ _ nlw elw)) ey ?_
    have nin : ∀ {G : Hp} {x C dx : Addr} {fs : List (Str × V)}, Well3 G pw → G x = some (.ins C dx fs) → x ≠ pw := fun W e z => by
      obtain ⟨x1, x2, x3, w⟩ := W
      rw [z, w] at e
      cases e
    -- all things through
    have thr : ∀ {x C dx : Addr} {fs : List (Str × V)}, J5 x = some (.ins C dx fs) → G3 x = some (.ins C dx fs) := fun e => B3 _ _ (nin WG (T4 _ _ (T3 _ _ (B2 _ _ (nin (WE.same T2) (T2 _ _ (B1 _ _ (nin (WD.same T1) (T1 _ _ e)) (T1 _ _ e)))) (T2 _ _ (B1 _ _ (nin (WD.same T1) (T1 _ _ e)) (T1 _ _ e))))))) (T4 _ _ (T3 _ _ (B2 _ _ (nin (WE.same T2) (T2 _ _ (B1 _ _ (nin (WD.same T1) (T1 _ _ e)) (T1 _ _ e)))) (T2 _ _ (B1 _ _ (nin (WD.same T1) (T1 _ _ e)) (T1 _ _ e))))))
    have thl : ∀ {x : Addr} {o : HO}, x ≠ pw → J5 x = some o → G3 x = some o := fun n e => B3 _ _ n (T4 _ _ (T3 _ _ (B2 _ _ n (T2 _ _ (B1 _ _ n (T1 _ _ e))))))
    have yw : ∃ yp C dy fs, y = .ref yp ∧ G3 yp = some (.ins C dy fs) ∧ WyC a C := by
      simp only [List.mem_cons, List.not_mem_nil, or_false] at hy
      have j2 : ∀ {x C dx : Addr} {fs : List (Str × V)}, J8 x = some (.ins C dx fs) → G3 x = some (.ins C dx fs) := fun e => B3 _ _ (nin WG (T4 _ _ (T3 _ _ (B2 _ _ (nin (WE.same T2) e) e)))) (T4 _ _ (T3 _ _ (B2 _ _ (nin (WE.same T2) e) e)))
      rcases hy with rfl | rfl | rfl
      · exact ⟨y1, _, _, _, rfl, j2 (T2 _ _ (B1 _ _ (nin (WD.same T1) ey1) ey1)), .inl rfl⟩
      · exact ⟨y2, _, _, _, rfl, j2 ey2, .inr (.inl rfl)⟩
      · exact ⟨y3, _, _, _, rfl, B3 _ _ (nin WG (T4 _ _ ey3)) (T4 _ _ ey3), .inr (.inr rfl)⟩
    obtain ⟨yp, C, dy, fy, rfl, eyp, wC⟩ := yw
    have k3 := thr k5
    have hE := thl l0 hD
    have hr6 := thl nrp hr5
    have ef3 := thr ef
    clear thr thl T1 T2 T3 T4 M2 M3 B1 B2 B3 ey1 ey2 ey3 elw nlw hy ey hlw hy1 hy2 hy3 hdy1 hdy2 hdy3 ny1 ny2 ny3 k5 hD hr5 ef WD WE WF WG h0 h1' h1'' m0 m1 m1' a5 b5
    walk_at "w0"
    first | rw [w_hold] | (dsimp only; rw [w_hold])
    walk_at "w0"
    refine drw3 WH (by decide) (by decide) fun rs G4 a6 b6 WI B4 => ?_
    have k4 := B4 _ _ (nin WH k3) k3
    have ef4 := B4 _ _ (nin WH ef3) ef3
    have eyp4 := B4 _ _ (nin WH eyp) eyp
    have hF := B4 l _ l0 hE
    have hr7 := B4 rp _ nrp hr6
    clear B4 WH k3 ef3 eyp hE hr6
    walk_at "w0"
    generalize decide (rs = 1) = bs
    first | rw [w_hold] | (dsimp only; rw [w_hold])
    walk_at "w0"
    refine ⟨_, .inl (SqL.of hr7), fun hh hhh => ?_⟩
    have T1 := same_new hhh (.lst (us.map V.str))
    have nhh : hh ≠ pw := WI.ne hhh
    have eh : upd G4 hh (.lst (us.map V.str)) hh = some (.lst (us.map V.str)) := upd_same
    have nrh : rp ≠ hh := ne_of_none hr7 hhh
    have nlh : l ≠ hh := ne_of_none hF hhh
    generalize upd G4 hh (.lst (us.map V.str)) = G5 at *
    have k5 := T1 _ _ k4
    have ef5 := T1 _ _ ef4
    have eyp5 := T1 _ _ eyp4
    have hG := T1 _ _ hF
    have hr8 := T1 _ _ hr7
    have WJ := WI.same T1
    clear T1 WI k4 ef4 eyp4 hF hr7 hhh
    walk_at "w0"
    first | rw [w_hold] | (dsimp only; rw [w_hold])
    walk_at "w0"
    obtain ⟨ckC, cW, cN⟩ : ClsK K C ∧ PySem.W.kitOne K (.ref C) (.ref a.Way) = some true ∧ PySem.W.kitOne K (.ref C) (.ref a.Never) = some false := by
      rcases wC with rfl | rfl | rfl
      · exact ⟨B.ck_Now, B.is_Now_Way, B.is_Now_Never⟩
      · exact ⟨B.ck_Hour, B.is_Hour_Way, B.is_Hour_Never⟩
      · exact ⟨B.ck_Day, B.is_Day_Way, B.is_Day_Never⟩
    have emp : (us.map V.str).isEmpty = false := by
      cases us with
      | nil => exact absurd rfl une
      | cons u r => rfl
    have kr : ∀ {G : Hp} {x : Addr}, G x = some (.lst (us.map V.str)) → NmE K G (.ref x) true false := fun {G x} e => .inl ⟨x, _, rfl, e, by rw [List.length_map]; omega, fun z hz => str_ok ug hz, (names_good ug und).symm, emp.symm⟩
    have nz0 : V.ref z1 ≠ .non := by intro z; cases z
    intro lp dl hlp hdl nlp
    have M1 := made_same (o := .own lp) (o' := .ins a.Line dl []) hlp hdl
    refine ⟨lp, dl, .ref fp, .ref yp, .ref hh, .bl bs, .ref z1, true, true, false, true, false, true, true, rfl, upd_same, ⟨⟨_, B.ck_Least.ty (M1 _ _ ef5), B.is_Least_Fit⟩, ⟨_, ckC.ty (M1 _ _ eyp5), cW⟩, fun _ => ⟨_, ckC.ty (M1 _ _ eyp5), cN⟩, kr (M1 _ _ eh), .inl ⟨bs, rfl, rfl⟩, .inr ⟨nz0, _, B.ck_Raised.ty (M1 _ _ k5), B.is_Raised_Raised⟩⟩, .inl ⟨by cases bs <;> rfl, hh, _, rfl, M1 _ _ eh, fun lr G6 B6 flr elr elp => ?_⟩⟩
    have T2 := made_but hlp hdl B6
    have nlr : lr ≠ hh := fun z => by rw [z, M1 _ _ eh] at flr; cases flr
    have k6 := T2 _ _ k5
    have ef6 := T2 _ _ ef5
    have eyp6 := T2 _ _ eyp5
    have hH := T2 _ _ hG
    have hr9 := T2 _ _ hr8
    have WK := WJ.same T2
    have eh6 := T2 _ _ eh
    clear T2 M1 WJ k5 ef5 eyp5 hG hr8 B6 hlp hdl nlp eh flr
    walk_at "w0"
    first | rw [w_hold] | (dsimp only; rw [w_hold])
    walk_at "w0"
    refine ⟨sz8 (by decide), fun tp htp => ?_⟩
    have T1 := same_new htp (.tup [.int (1 + r1), .int tm, o])
    have etp : upd G6 tp (.tup [.int (1 + r1), .int tm, o]) tp = some (.tup [.int (1 + r1), .int tm, o]) := upd_same
    generalize upd G6 tp (.tup [.int (1 + r1), .int tm, o]) = G7 at *
    have k7 := T1 _ _ k6
    have ef7 := T1 _ _ ef6
    have eyp7 := T1 _ _ eyp6
    have hI := T1 _ _ hH
    have hrA := T1 _ _ hr9
    have WL := WK.same T1
    have eh7 := T1 _ _ eh6
    have elr7 := T1 _ _ elr
    have elp7 := T1 _ _ elp
    clear T1 WK k6 ef6 eyp6 hH hr9 eh6 elr elp htp
    walk_at "w0"
    first | rw [w_hold] | (dsimp only; rw [w_hold])
    walk_at "w0"
    have gsh : SeqAt.shaped (.list (us.map PyData.str)) = true := (shaped_of (Nat.zero_le _) (lay_strs fun u hu => good_str (ug u hu))).1
    refine eqd (.lst eh7 (rds_strs us)) (.lst hrA (rds_strs us)) gsh ?_
    walk_at "w0"
    refine ⟨lp, fp, lr, rp, dl, df, n, .ref yp, .non, .ref z1, us, bs, .ref tp, rfl, elp7, ef7, elr7, hrA, by omega, ug, .inr ⟨z1, d1, tp, _, _, _, rfl, rfl, to, k7, etp⟩, fun G8 T1 => ?_⟩
    have k8 := T1 _ _ k7
    have ef8 := T1 _ _ ef7
    have eyp8 := T1 _ _ eyp7
    have hJ := T1 _ _ hI
    have hrB := T1 _ _ hrA
    have WM := WL.same T1
    have eh8 := T1 _ _ eh7
    have elr8 := T1 _ _ elr7
    have elp8 := T1 _ _ elp7
    clear T1 WL k7 ef7 eyp7 hI hrA eh7 elr7 elp7 etp
    exists Bool.not_true
    first | rw [w_hold] | (dsimp only; rw [w_hold])
    walk_at "w0"
    refine ⟨.inl ⟨rfl, _, SqL.of eh8⟩, hh, _, _, rfl, rfl, eh8, ?_, ?_⟩
    · rw [List.length_map]
      exact Nat.lt_of_le_of_lt (by omega : us.length ≤ 1000) (by decide)
    have eh9 : upd G8 hh (.lst (us.map V.str ++ [V.str (Str.ofString "zz")])) hh = some (.lst (us.map V.str ++ [V.str (Str.ofString "zz")])) := upd_same
    have K9 : ∀ {b : Addr} {o : HO}, b ≠ hh → G8 b = some o → upd G8 hh (.lst (us.map V.str ++ [V.str (Str.ofString "zz")])) b = some o := fun nb e => by rw [upd_ne nb]; exact e
    have nhi : ∀ {x C dx : Addr} {fs : List (Str × V)}, G8 x = some (.ins C dx fs) → x ≠ hh := fun e z => by rw [z, eh8] at e; cases e
    have k9 := K9 (nhi k8) k8
    have ef9 := K9 (nhi ef8) ef8
    have eyp9 := K9 (nhi eyp8) eyp8
    have hK := K9 nlh hJ
    have hrC := K9 nrh hrB
    have WN : Well3 (upd G8 hh (.lst (us.map V.str ++ [V.str (Str.ofString "zz")]))) pw := let ⟨x1, x2, x3, e⟩ := WM; ⟨x1, x2, x3, K9 nhh.symm e⟩
    have elr9 := K9 nlr elr8
    have elp9 := K9 (nhi elp8) elp8
    generalize upd G8 hh (.lst (us.map V.str ++ [V.str (Str.ofString "zz")])) = G9 at *
    clear K9 nhi WM k8 ef8 eyp8 hJ hrB eh8 elr8 elp8
    walk_at "w0"
    first | rw [w_hold] | (dsimp only; rw [w_hold])
    walk_at "w0"
    refine setl eh9 (j := 0) (by rw [List.length_append]; unfold ixN; rw [if_pos (Int.le_refl _), if_pos (by simp only [List.length_cons, List.length_nil]; omega)]; rfl) ?_
    have K9 : ∀ {b : Addr} {o : HO} {o' : HO}, b ≠ hh → G9 b = some o → upd G9 hh o' b = some o := fun nb e => by rw [upd_ne nb]; exact e
    have nhi : ∀ {x C dx : Addr} {fs : List (Str × V)}, G9 x = some (.ins C dx fs) → x ≠ hh := fun e z => by rw [z, eh9] at e; cases e
    have kA := K9 (o' := .lst ((us.map V.str ++ [V.str (Str.ofString "zz")]).set 0 (V.str (Str.ofString "zzz")))) (nhi k9) k9
    have efA := K9 (o' := .lst ((us.map V.str ++ [V.str (Str.ofString "zz")]).set 0 (V.str (Str.ofString "zzz")))) (nhi ef9) ef9
    have eypA := K9 (o' := .lst ((us.map V.str ++ [V.str (Str.ofString "zz")]).set 0 (V.str (Str.ofString "zzz")))) (nhi eyp9) eyp9
    have hL := K9 (o' := .lst ((us.map V.str ++ [V.str (Str.ofString "zz")]).set 0 (V.str (Str.ofString "zzz")))) nlh hK
    have hrD := K9 (o' := .lst ((us.map V.str ++ [V.str (Str.ofString "zz")]).set 0 (V.str (Str.ofString "zzz")))) nrh hrC
    have WO : Well3 (upd G9 hh (.lst ((us.map V.str ++ [V.str (Str.ofString "zz")]).set 0 (V.str (Str.ofString "zzz"))))) pw := let ⟨x1, x2, x3, e⟩ := WN; ⟨x1, x2, x3, K9 nhh.symm e⟩
    have elrA := K9 (o' := .lst ((us.map V.str ++ [V.str (Str.ofString "zz")]).set 0 (V.str (Str.ofString "zzz")))) nlr elr9
    have elpA := K9 (o' := .lst ((us.map V.str ++ [V.str (Str.ofString "zz")]).set 0 (V.str (Str.ofString "zzz")))) (nhi elp9) elp9
    generalize upd G9 hh (.lst ((us.map V.str ++ [V.str (Str.ofString "zz")]).set 0 (V.str (Str.ofString "zzz")))) = GA at *
    clear K9 nhi WN k9 ef9 eyp9 hK hrC eh9 elr9 elp9
    walk_at "w0"
    first | rw [w_hold] | (dsimp only; rw [w_hold])
    walk_at "w0"
    refine ⟨_, _, _, elpA, B.ck_Line.cl, B.na_Line_roads, .ref lr, rfl, ?_⟩
    walk_at "w0"
    refine eqd (.lst elrA (rds_strs us)) (.lst hrD (rds_strs us)) gsh ?_
    walk_at "w0"
    refine ⟨_, _, _, elpA, B.ck_Line.cl, B.na_Line_way, .ref yp, rfl, ?_⟩
    walk_at "w0"
    refine ⟨sz8 (by decide), fun tw htw => ?_⟩
    have T1 := same_new htw (.tup [.ref a.Now, .ref a.Hour, .ref a.Day])
    have anyC : PySem.W.kitAny K (.ref C) ([.ref a.Now, .ref a.Hour, .ref a.Day] : List Value) = some true := by
      rcases wC with rfl | rfl | rfl
      · exact B.anyW_Now
      · exact B.anyW_Hour
      · exact B.anyW_Day
    refine ⟨yp, tw, C, dy, _, [a.Now, a.Hour, a.Day], true, rfl, T1 _ _ eypA, ckC, upd_same, anyC, ?_⟩
    generalize upd GA tw (.tup [.ref a.Now, .ref a.Hour, .ref a.Day]) = GB at *
    have kB := T1 _ _ kA
    have efB := T1 _ _ efA
    have eypB := T1 _ _ eypA
    have hM := T1 _ _ hL
    have hrE := T1 _ _ hrD
    have WP := WO.same T1
    clear T1 WO kA efA eypA hL hrD elrA elpA htw anyC
    exists Bool.not_true
    first | rw [w_hold] | (dsimp only; rw [w_hold])
    walk_at "w0"
    -- with what may be left out left out
    have mkl : ∀ {G : Hp} {lq dq : Addr}, G fp = some (.ins a.Least df [("weight", .int n)]) → G yp = some (.ins C dy fy) → G rp = some (.lst (us.map V.str)) → Lk K a G (.ref fp) (.ref yp) (.ref rp) (.bl false) .non true true false true false true true := fun e1 e2 e3 => ⟨⟨_, B.ck_Least.ty e1, B.is_Least_Fit⟩, ⟨_, ckC.ty e2, cW⟩, fun _ => ⟨_, ckC.ty e2, cN⟩, kr e3, .inl ⟨false, rfl, rfl⟩, .inl ⟨rfl, rfl⟩⟩
    intro lq dq hlq hdq nlq
    have M1 := made_same (o := .own lq) (o' := .ins a.Line dq []) hlq hdq
    refine ⟨lq, dq, .ref fp, .ref yp, .ref rp, .bl false, .non, true, true, false, true, false, true, true, rfl, upd_same, mkl (lq := lq) (dq := dq) (M1 _ _ efB) (M1 _ _ eypB) (M1 _ _ hrE), .inl ⟨rfl, rp, _, rfl, M1 _ _ hrE, fun lr2 GC B7 flr2 elr2 elq => ?_⟩⟩
    have T2 := made_but hlq hdq B7
    walk_at "w0"
    refine ⟨lq, fp, lr2, rp, dq, df, n, .ref yp, .non, .non, us, false, .non, rfl, elq, T2 _ _ efB, elr2, T2 _ _ hrE, by omega, ug, .inl ⟨rfl, rfl⟩, fun GD T3 => ?_⟩
    have TT := T2.trans T3
    have kD := TT _ _ kB
    have efD := TT _ _ efB
    have eypD := TT _ _ eypB
    have hN := TT _ _ hM
    have hrF := TT _ _ hrE
    have WQ := WP.same TT
    clear TT T2 T3 M1 B7 flr2 elr2 elq hlq hdq nlq kB efB eypB hM hrE WP mkl
    exists Bool.not_true
    first | rw [w_hold] | (dsimp only; rw [w_hold])
    walk_at "w0"
    -- never
    intro nv dn hnv hdn nnv
    have T1 := made_same (o := .own nv) (o' := .ins a.Never dn []) hnv hdn
    have env : upd (upd GD dn (.own nv)) nv (.ins a.Never dn []) nv = some (.ins a.Never dn []) := upd_same
    generalize upd (upd GD dn (.own nv)) nv (.ins a.Never dn []) = GE at *
    walk_at "w0"
    refine ⟨Nat.zero_le _, fun e0 he0 => ?_⟩
    have T2 := same_new he0 (.lst [])
    have ee0 : upd GE e0 (.lst []) e0 = some (.lst (([] : List Str).map V.str)) := upd_same
    have env2 := T2 _ _ env
    generalize upd GE e0 (.lst []) = GF at *
    walk_at "w0"
    intro lq dq hlq hdq nlq
    have M1 := made_same (o := .own lq) (o' := .ins a.Line dq []) hlq hdq
    have T12 := T1.trans T2
    refine ⟨lq, dq, .ref fp, .ref nv, .ref e0, .bl false, .non, true, true, true, true, true, true, true, rfl, upd_same, ⟨⟨_, B.ck_Least.ty (M1 _ _ (T12 _ _ efD)), B.is_Least_Fit⟩, ⟨_, B.ck_Never.ty (M1 _ _ env2), B.is_Never_Way⟩, fun _ => ⟨_, B.ck_Never.ty (M1 _ _ env2), B.is_Never_Never⟩, .inl ⟨e0, _, rfl, M1 _ _ ee0, by decide, (fun z hz => absurd hz List.not_mem_nil), by decide +kernel, rfl⟩, .inl ⟨false, rfl, rfl⟩, .inl ⟨rfl, rfl⟩⟩, .inl ⟨rfl, e0, _, rfl, M1 _ _ ee0, fun lr2 GG B7 flr2 elr2 elq => ?_⟩⟩
    have T3 := made_but hlq hdq B7
    walk_at "w0"
    refine ⟨Nat.zero_le _, fun e9 he9 => ?_⟩
    have T4 := same_new he9 (.lst [])
    have ee9 : upd GG e9 (.lst []) e9 = some (.lst (([] : List Str).map V.str)) := upd_same
    generalize upd GG e9 (.lst []) = GH at *
    have T123 := T12.trans (T3.trans T4)
    walk_at "w0"
    refine ⟨lq, fp, lr2, e9, dq, df, n, .ref nv, .non, .non, [], false, .non, rfl, T4 _ _ elq, T123 _ _ efD, T4 _ _ elr2, ee9, by decide, (fun z hz => absurd hz List.not_mem_nil), .inl ⟨rfl, rfl⟩, fun GI T5 => ?_⟩
    have TT := T123.trans T5
    have kE := TT _ _ kD
    have efE := TT _ _ efD
    have eypE := TT _ _ eypD
    have hO := TT _ _ hN
    have hrG := TT _ _ hrF
    have WR := WQ.same TT
    clear TT T1 T2 T12 T123 T3 T4 T5 M1 B7 flr2 elr2 elq hlq hdq nlq kD efD eypD hN hrF WQ ee0 ee9 env env2 hnv hdn nnv he0 he9
    exists Bool.not_true
    first | rw [w_hold] | (dsimp only; rw [w_hold])
    walk_at "w0"
    refine ⟨1 + r1, tm, o, pw, rfl, by omega, by omega, t0, by omega, to, WR, fun po xs GJ T1 fo eo lo0 lo1 bad => ?_⟩
    have npo : po ≠ pw := WR.ne fo
    have WS := WR.same T1
    walk_at "w0"
    first | rw [w_hold] | (dsimp only; rw [w_hold])
    walk_at "w0"
    refine ⟨fp, yp, rp, z1, pw, C, df, dy, d1, _, _, _, us, rfl, T1 _ _ efE, T1 _ _ eypE, wC, T1 _ _ kE, T1 _ _ hrG, une, by omega, ug, und, WS, nrp, fun pm ys GK T2 fm emm lm0 lm1 badm => ?_⟩
    have npm : pm ≠ pw := WS.ne fm
    have hP := (T1.trans T2) _ _ hO
    have eo2 := T2 _ _ eo
    have WT := WS.same T2
    have bad2 : ∀ x ∈ xs, BadR K pw GK x := fun x hx => (bad x hx).same T2
    clear T1 T2 fo fm eo bad WR WS kE efE eypE hO hrG
    walk_at "w0"
    first | rw [w_hold] | (dsimp only; rw [w_hold])
    walk_at "w0"
    refine ⟨by decide, by decide, ?_⟩
    refine ForR.by (fun i σ H' => (∃ v18 v19, σ = [some (.ref sc), some (.int c), some (.ref pw), some (.int (1 + r1)), some (.int tm), some o, some (.ref z1), some (.ref z2), some (.ref rp), some (.int n), some (.ref fp), some (.ref yp), some (.bl bs), some (.ref hh), some (.ref lp), some (.ref tp), some (.ref po), some (.ref pm), v18, v19]) ∧ H' l = some (.lst (([0] ++ ms).map V.int)) ∧ Well3 H' pw ∧ H' po = some (.lst xs) ∧ H' pm = some (.lst ys) ∧ (∀ x ∈ xs, BadR K pw H' x) ∧ ∀ x ∈ ys, BadL K a pw H' x) ⟨⟨_, _, rfl⟩, hP, WT, eo2, emm, bad2, badm⟩ ?_ ?_
    · clear hP WT eo2 emm bad2 badm
      rintro j σ Q1 hj ⟨⟨v18, v19, rfl⟩, g1, g2, g3, g4, g5, g6⟩
      walk_at "w0"
      first | rw [w_hold] | (dsimp only; rw [w_hold])
      walk_at "w0"
      refine ⟨_, .inl (SqL.of g3), ?_⟩
      refine drw3 g2 (by omega) (by omega) fun r Q2 c0 c1 X1 Y1 => ?_
      obtain ⟨x, hx, ex⟩ := at_memV (xs := xs) c0 c1
      have i3 := Y1 _ _ npo g3
      refine ixl (SqL.of i3) ex ?_
      have i1 := Y1 _ _ l0 g1
      have i4 := Y1 _ _ npm g4
      have i5 : ∀ x ∈ xs, BadR K pw Q2 x := fun x hx => (g5 x hx).but3 g2 X1 Y1
      have i6 : ∀ x ∈ ys, BadL K a pw Q2 x := fun x hx => (g6 x hx).but3 g2 X1 Y1
      clear g1 g2 g3 g4 g5 g6 Y1
      walk_at "w0"
      first | rw [w_hold] | (dsimp only; rw [w_hold])
      walk_at "w0"
      refine ⟨_, x, pw, rfl, .inl ⟨rfl, i5 x hx⟩, fun Q3 U1 => ?_⟩
      have g1 := U1 _ _ i1
      have g2 := X1.same U1
      have g3 := U1 _ _ i3
      have g4 := U1 _ _ i4
      have g5 : ∀ x ∈ xs, BadR K pw Q3 x := fun x hx => (i5 x hx).same U1
      have g6 : ∀ x ∈ ys, BadL K a pw Q3 x := fun x hx => (i6 x hx).same U1
      clear i1 i3 i4 i5 i6 X1 U1 ex
      exists Bool.not_true
      first | rw [w_hold] | (dsimp only; rw [w_hold])
      walk_at "w0"
      refine ⟨_, .inl (SqL.of g4), ?_⟩
      refine drw3 g2 (by omega) (by omega) fun r' Q4 c2 c3 X2 Y2 => ?_
      obtain ⟨x', hx', ex'⟩ := at_memV (xs := ys) c2 c3
      have i4 := Y2 _ _ npm g4
      refine ixl (SqL.of i4) ex' ?_
      have i1 := Y2 _ _ l0 g1
      have i3 := Y2 _ _ npo g3
      have i5 : ∀ x ∈ xs, BadR K pw Q4 x := fun x hx => (g5 x hx).but3 g2 X2 Y2
      have i6 : ∀ x ∈ ys, BadL K a pw Q4 x := fun x hx => (g6 x hx).but3 g2 X2 Y2
      clear g1 g2 g3 g4 g5 g6 Y2
      walk_at "w0"
      first | rw [w_hold] | (dsimp only; rw [w_hold])
      walk_at "w0"
      refine ⟨_, x', pw, rfl, .inr ⟨rfl, i6 x' hx'⟩, fun Q5 U2 => ?_⟩
      have k5 : ∀ x ∈ xs, BadR K pw Q5 x := fun x hx => (i5 x hx).same U2
      have k6 : ∀ x ∈ ys, BadL K a pw Q5 x := fun x hx => (i6 x hx).same U2
      exists Bool.not_true
      first | exact ⟨⟨_, _, rfl⟩, U2 _ _ i1, X2.same U2, U2 _ _ i3, U2 _ _ i4, k5, k6⟩ | exact ⟨U2 _ _ i1, X2.same U2, U2 _ _ i3, U2 _ _ i4, k5, k6⟩
    · rintro σ Q1 ⟨⟨v18, v19, rfl⟩, g1, _⟩
      first | exact ⟨⟨_, _, _, _, _, _, _, _, _, _, _, _, _, _, _, _, _, _, _, rfl⟩, g1⟩ | exact g1 | (walk_at "w0"; exact g1)
  · rintro σ H1 ⟨⟨s1, s2, s3, s4, s5, s6, s7, s8, s9, s10, s11, s12, s13, s14, s15, s16, s17, s18, s19, rfl⟩, h1⟩
    walk_at "w0"
    exact q _
end
end Bw
set_option Elab.async false
set_option linter.all false
namespace Hd
open PySem PySem.W L2
set_option maxRecDepth 100000
set_option maxHeartbeats 0
structure AT where
  p : Program
  a : List Str
  t : List String
def s (A : AT) (i : Nat) : Str := A.a.getD i Str.empty
def t (A : AT) (i : Nat) : String := A.t.getD i ""
def stm (A : AT) (i : Nat) : Stmt := A.p.main.body.getD i (.Pass ⟨0, 0, 0, 0⟩)
abbrev N : Obj → BT → BT → BT := BT.node
abbrev L : BT := BT.nil
open PyData
noncomputable section
def o_43 (A : AT) (P : Params) : Obj := (Obj.mk (.type (t A 0)) none (.seq #[] 0) #[])
def o_44 (A : AT) (P : Params) : Obj := (Obj.mk .none none (.fields #[]) #[])
def o_45 (A : AT) (P : Params) : Obj := (Obj.mk (.type (t A 2)) none (.fields #[(.str (s A 109) 182), (.str (s A 109) 183), (.str (s A 7) 184), (.int 1 0), (.int 0 0), (.int 0 0), (.int 0 0), (.int 0 0), (.ref 11), (.bool false), (.int 181 0), (.ref 12), .none, .none, .none, .none, (.int 185 0), (.int 1 0), (.str (s A 7) 186)]) #[])
def o_46 (A : AT) (P : Params) : Obj := (Obj.mk (.type (t A 4)) none .plain #[(some (.ref 13)), (some (.ref 3)), (some (.ref 3)), none, (some (.str (s A 102) 164)), none, (some (.ref 0))])
def o_49 (A : AT) (P : Params) : Obj := (Obj.mk (.type (t A 3)) none (.dict #[(DictEntry.mk (keyHash P (s A 20)) (.str (s A 20) 165) (.str (s A 18) 194)), (DictEntry.mk (keyHash P (s A 14)) (.str (s A 14) 166) .none), (DictEntry.mk (keyHash P (s A 22)) (.str (s A 22) 167) .none), (DictEntry.mk (keyHash P (s A 23)) (.str (s A 23) 168) (.builtin (t A 8))), (DictEntry.mk (keyHash P (s A 24)) (.str (s A 24) 169) .none), (DictEntry.mk (keyHash P (s A 25)) (.str (s A 25) 170) (.ref 6)), (DictEntry.mk (keyHash P (s A 26)) (.str (s A 26) 171) (.ref 4)), (DictEntry.mk (keyHash P (s A 27)) (.str (s A 27) 173) (.str (s A 7) 172)), (DictEntry.mk (keyHash P (s A 28)) (.str (s A 28) 174) .none), (DictEntry.mk (keyHash P (s A 29)) (.str (s A 29) 193) (.ref 21)), (DictEntry.mk (keyHash P (s A 30)) (.str (s A 30) 213) (.ref 31))] 11) #[])
def o_50 (A : AT) (P : Params) : Obj := (Obj.mk .none none (.fields #[(.int 1 0), (.int 0 0), (.ref 20), (.int 5 0), (.int 0 0), (.ref 27)]) #[])
def o_51 (A : AT) (P : Params) : Obj := (Obj.mk (.type (t A 0)) none (.seq #[] 0) #[])
def o_52 (A : AT) (P : Params) : Obj := (Obj.mk .none none (.fields #[]) #[])
def o_53 (A : AT) (P : Params) : Obj := (Obj.mk (.type (t A 0)) none (.seq #[(.str (s A 146) 190)] 0) #[])
def o_54 (A : AT) (P : Params) : Obj := (Obj.mk (.type (t A 0)) none (.seq #[] 0) #[])
def o_55 (A : AT) (P : Params) : Obj := (Obj.mk .none none (.func (FuncData.mk (s A 29) (s A 29) (defArgs (stm A 0)) (FuncBody.stmts (defBody (stm A 0))) (defScope (stm A 0)) 0 [] .none .none .none .none none .none .none 0)) #[])
def o_56 (A : AT) (P : Params) : Obj := (Obj.mk (.type (t A 2)) none (.fields #[(.str (s A 29) 187), (.str (s A 29) 188), (.str (s A 7) 189), (.int 1 0), (.int 1 0), (.int 0 0), (.int 0 0), (.int 3 0), (.ref 15), (.bool true), (.int 181 0), (.ref 16), .none, (.ref 17), (.ref 18), (.ref 19), (.int 191 0), (.int 1 0), (.str (s A 7) 192)]) #[])
def o_57 (A : AT) (P : Params) : Obj := (Obj.mk (.type (t A 1)) none (.func (FuncData.mk (s A 29) (s A 29) (defArgs (stm A 0)) (FuncBody.stmts (defBody (stm A 0))) (defScope (stm A 0)) 3 [] .none .none .none (.str (s A 102) 164) none (.ref 20) .none 0)) #[])
def o_58 (A : AT) (P : Params) : Obj := (Obj.mk (.type (t A 0)) none (.seq #[(.type (t A 9))] 0) #[])
def o_59 (A : AT) (P : Params) : Obj := (Obj.mk (.type (t A 5)) none (.fields #[(.builtin (t A 6)), (.type (t A 7))]) #[])
def o_60 (A : AT) (P : Params) : Obj := (Obj.mk (.type (t A 3)) none (.dict #[(DictEntry.mk (keyHash P (s A 8)) (.str (s A 8) 203) (.str (s A 18) 194)), (DictEntry.mk (keyHash P (s A 15)) (.str (s A 15) 205) (.str (s A 30) 204)), (DictEntry.mk (keyHash P (s A 10)) (.str (s A 10) 207) (.int 5 206)), (DictEntry.mk (keyHash P (s A 11)) (.str (s A 11) 208) (.ref 29))] 4) #[])
def o_61 (A : AT) (P : Params) : Obj := (Obj.mk (.type (t A 0)) none (.seq #[] 0) #[])
def o_62 (A : AT) (P : Params) : Obj := (Obj.mk .none none (.fields #[]) #[])
def o_63 (A : AT) (P : Params) : Obj := (Obj.mk (.type (t A 2)) none (.fields #[(.str (s A 30) 198), (.str (s A 30) 199), (.str (s A 7) 200), (.int 5 0), (.int 0 0), (.int 0 0), (.int 0 0), (.int 0 0), (.ref 25), (.bool false), (.int 181 0), (.ref 26), .none, .none, .none, .none, (.int 201 0), (.int 5 0), (.str (s A 7) 202)]) #[])
def o_64 (A : AT) (P : Params) : Obj := (Obj.mk (.type (t A 4)) none .plain #[(some (.ref 27)), (some (.ref 3)), (some (.ref 24)), none, (some (.str (s A 18) 194)), none, (some (.ref 0))])
def o_65 (A : AT) (P : Params) : Obj := (Obj.mk (.type (t A 0)) none (.seq #[] 0) #[])
def o_66 (A : AT) (P : Params) : Obj := (Obj.mk (.type (t A 3)) none (.dict #[(DictEntry.mk (keyHash P (s A 8)) (.str (s A 8) 203) (.str (s A 18) 194)), (DictEntry.mk (keyHash P (s A 10)) (.str (s A 10) 207) (.int 5 206)), (DictEntry.mk (keyHash P (s A 11)) (.str (s A 11) 208) (.ref 29)), (DictEntry.mk (keyHash P (s A 13)) (.str (s A 13) 210) (.ref 32)), (DictEntry.mk (keyHash P (s A 14)) (.str (s A 14) 211) .none)] 3) #[])
def o_67 (A : AT) (P : Params) : Obj := (Obj.mk (.type (t A 7)) none (.cls (ClassData.mk (s A 30) [(.type (t A 9))] [(.ref 31), (.type (t A 9)), (.type (t A 10)), (.type (t A 11)), (.type (t A 12))] 30 (s A 30) true [] [] false none false)) #[(some (.ref 22)), none, (some (.str (s A 30) 196)), (some (.str (s A 30) 204)), (some (.builtin (t A 13))), (some (.bool true))])
def o_68 (A : AT) (P : Params) : Obj := (Obj.mk (.type (t A 17)) none (.fields #[(.str (s A 13) 209), (.ref 31), (.builtin (t A 18)), .none]) #[])
def o_69 (A : AT) (P : Params) : Obj := (Obj.mk (.type (t A 15)) none (.fields #[(.ref 31), (.ref 31), (.ref 31)]) #[])
def o_70 (A : AT) (P : Params) : Obj := (Obj.mk (.type (t A 5)) none (.fields #[(.builtin (t A 16)), (.ref 31)]) #[])
def o_71 (A : AT) (P : Params) : Obj := (Obj.mk (.type (t A 3)) none (.dict #[(DictEntry.mk (keyHash P (s A 20)) (.str (s A 20) 165) (.str (s A 18) 194)), (DictEntry.mk (keyHash P (s A 14)) (.str (s A 14) 166) .none), (DictEntry.mk (keyHash P (s A 22)) (.str (s A 22) 167) .none), (DictEntry.mk (keyHash P (s A 23)) (.str (s A 23) 168) (.builtin (t A 8))), (DictEntry.mk (keyHash P (s A 24)) (.str (s A 24) 169) .none), (DictEntry.mk (keyHash P (s A 25)) (.str (s A 25) 170) (.ref 6)), (DictEntry.mk (keyHash P (s A 26)) (.str (s A 26) 171) (.ref 4)), (DictEntry.mk (keyHash P (s A 27)) (.str (s A 27) 173) (.str (s A 7) 172)), (DictEntry.mk (keyHash P (s A 28)) (.str (s A 28) 174) .none), (DictEntry.mk (keyHash P (s A 29)) (.str (s A 29) 193) (.ref 21)), (DictEntry.mk (keyHash P (s A 30)) (.str (s A 30) 213) (.ref 31)), (DictEntry.mk (keyHash P (s A 31)) (.str (s A 31) 229) (.ref 44))] 12) #[])
def o_72 (A : AT) (P : Params) : Obj := (Obj.mk .none none (.fields #[(.int 1 0), (.int 0 0), (.ref 20), (.int 5 0), (.int 0 0), (.ref 27), (.int 7 0), (.int 0 0), (.ref 40)]) #[])
def o_73 (A : AT) (P : Params) : Obj := (Obj.mk (.type (t A 7)) none (.cls (ClassData.mk (s A 30) [(.type (t A 9))] [(.ref 31), (.type (t A 9)), (.type (t A 10)), (.type (t A 11)), (.type (t A 12))] 30 (s A 30) true [] [(.ref 44)] false none false)) #[(some (.ref 22)), none, (some (.str (s A 30) 196)), (some (.str (s A 30) 204)), (some (.builtin (t A 13))), (some (.bool true))])
def o_74 (A : AT) (P : Params) : Obj := (Obj.mk (.type (t A 0)) none (.seq #[(.ref 31)] 0) #[])
def o_75 (A : AT) (P : Params) : Obj := (Obj.mk (.type (t A 5)) none (.fields #[(.builtin (t A 6)), (.type (t A 7))]) #[])
def o_76 (A : AT) (P : Params) : Obj := (Obj.mk (.type (t A 3)) none (.dict #[(DictEntry.mk (keyHash P (s A 8)) (.str (s A 8) 221) (.str (s A 18) 194)), (DictEntry.mk (keyHash P (s A 15)) (.str (s A 15) 223) (.str (s A 31) 222)), (DictEntry.mk (keyHash P (s A 10)) (.str (s A 10) 225) (.int 7 224)), (DictEntry.mk (keyHash P (s A 11)) (.str (s A 11) 226) (.ref 42))] 4) #[])
def o_77 (A : AT) (P : Params) : Obj := (Obj.mk (.type (t A 0)) none (.seq #[] 0) #[])
def o_78 (A : AT) (P : Params) : Obj := (Obj.mk .none none (.fields #[]) #[])
def o_79 (A : AT) (P : Params) : Obj := (Obj.mk (.type (t A 2)) none (.fields #[(.str (s A 31) 216), (.str (s A 31) 217), (.str (s A 7) 218), (.int 7 0), (.int 0 0), (.int 0 0), (.int 0 0), (.int 0 0), (.ref 38), (.bool false), (.int 181 0), (.ref 39), .none, .none, .none, .none, (.int 219 0), (.int 7 0), (.str (s A 7) 220)]) #[])
def o_80 (A : AT) (P : Params) : Obj := (Obj.mk (.type (t A 4)) none .plain #[(some (.ref 40)), (some (.ref 3)), (some (.ref 37)), none, (some (.str (s A 18) 194)), none, (some (.ref 0))])
def o_81 (A : AT) (P : Params) : Obj := (Obj.mk (.type (t A 0)) none (.seq #[] 0) #[])
def o_82 (A : AT) (P : Params) : Obj := (Obj.mk (.type (t A 3)) none (.dict #[(DictEntry.mk (keyHash P (s A 8)) (.str (s A 8) 221) (.str (s A 18) 194)), (DictEntry.mk (keyHash P (s A 10)) (.str (s A 10) 225) (.int 7 224)), (DictEntry.mk (keyHash P (s A 11)) (.str (s A 11) 226) (.ref 42)), (DictEntry.mk (keyHash P (s A 14)) (.str (s A 14) 227) .none)] 2) #[])
def o_83 (A : AT) (P : Params) : Obj := (Obj.mk (.type (t A 7)) none (.cls (ClassData.mk (s A 31) [(.ref 31)] [(.ref 44), (.ref 31), (.type (t A 9)), (.type (t A 10)), (.type (t A 11)), (.type (t A 12))] 43 (s A 31) true [] [] false none false)) #[(some (.ref 35)), none, (some (.str (s A 31) 214)), (some (.str (s A 31) 222)), (some (.builtin (t A 13))), (some (.bool true))])
def o_84 (A : AT) (P : Params) : Obj := (Obj.mk (.type (t A 15)) none (.fields #[(.ref 44), (.ref 44), (.ref 44)]) #[])
def o_85 (A : AT) (P : Params) : Obj := (Obj.mk (.type (t A 5)) none (.fields #[(.builtin (t A 16)), (.ref 44)]) #[])
def o_86 (A : AT) (P : Params) : Obj := (Obj.mk (.type (t A 3)) none (.dict #[(DictEntry.mk (keyHash P (s A 20)) (.str (s A 20) 165) (.str (s A 18) 194)), (DictEntry.mk (keyHash P (s A 14)) (.str (s A 14) 166) .none), (DictEntry.mk (keyHash P (s A 22)) (.str (s A 22) 167) .none), (DictEntry.mk (keyHash P (s A 23)) (.str (s A 23) 168) (.builtin (t A 8))), (DictEntry.mk (keyHash P (s A 24)) (.str (s A 24) 169) .none), (DictEntry.mk (keyHash P (s A 25)) (.str (s A 25) 170) (.ref 6)), (DictEntry.mk (keyHash P (s A 26)) (.str (s A 26) 171) (.ref 4)), (DictEntry.mk (keyHash P (s A 27)) (.str (s A 27) 173) (.str (s A 7) 172)), (DictEntry.mk (keyHash P (s A 28)) (.str (s A 28) 174) .none), (DictEntry.mk (keyHash P (s A 29)) (.str (s A 29) 193) (.ref 21)), (DictEntry.mk (keyHash P (s A 30)) (.str (s A 30) 213) (.ref 31)), (DictEntry.mk (keyHash P (s A 31)) (.str (s A 31) 229) (.ref 44)), (DictEntry.mk (keyHash P (s A 32)) (.str (s A 32) 245) (.ref 56))] 13) #[])
def o_87 (A : AT) (P : Params) : Obj := (Obj.mk .none none (.fields #[(.int 1 0), (.int 0 0), (.ref 20), (.int 5 0), (.int 0 0), (.ref 27), (.int 7 0), (.int 0 0), (.ref 40), (.int 9 0), (.int 0 0), (.ref 52)]) #[])
def o_88 (A : AT) (P : Params) : Obj := (Obj.mk (.type (t A 7)) none (.cls (ClassData.mk (s A 30) [(.type (t A 9))] [(.ref 31), (.type (t A 9)), (.type (t A 10)), (.type (t A 11)), (.type (t A 12))] 30 (s A 30) true [] [(.ref 44), (.ref 56)] false none false)) #[(some (.ref 22)), none, (some (.str (s A 30) 196)), (some (.str (s A 30) 204)), (some (.builtin (t A 13))), (some (.bool true))])
def o_89 (A : AT) (P : Params) : Obj := (Obj.mk (.type (t A 0)) none (.seq #[(.ref 31)] 0) #[])
def o_90 (A : AT) (P : Params) : Obj := (Obj.mk (.type (t A 5)) none (.fields #[(.builtin (t A 6)), (.type (t A 7))]) #[])
def o_91 (A : AT) (P : Params) : Obj := (Obj.mk (.type (t A 3)) none (.dict #[(DictEntry.mk (keyHash P (s A 8)) (.str (s A 8) 237) (.str (s A 18) 194)), (DictEntry.mk (keyHash P (s A 15)) (.str (s A 15) 239) (.str (s A 32) 238)), (DictEntry.mk (keyHash P (s A 10)) (.str (s A 10) 241) (.int 9 240)), (DictEntry.mk (keyHash P (s A 11)) (.str (s A 11) 242) (.ref 54))] 4) #[])
def o_92 (A : AT) (P : Params) : Obj := (Obj.mk (.type (t A 0)) none (.seq #[] 0) #[])
def o_93 (A : AT) (P : Params) : Obj := (Obj.mk .none none (.fields #[]) #[])
def o_94 (A : AT) (P : Params) : Obj := (Obj.mk (.type (t A 2)) none (.fields #[(.str (s A 32) 232), (.str (s A 32) 233), (.str (s A 7) 234), (.int 9 0), (.int 0 0), (.int 0 0), (.int 0 0), (.int 0 0), (.ref 50), (.bool false), (.int 181 0), (.ref 51), .none, .none, .none, .none, (.int 235 0), (.int 9 0), (.str (s A 7) 236)]) #[])
def o_95 (A : AT) (P : Params) : Obj := (Obj.mk (.type (t A 4)) none .plain #[(some (.ref 52)), (some (.ref 3)), (some (.ref 49)), none, (some (.str (s A 18) 194)), none, (some (.ref 0))])
def o_96 (A : AT) (P : Params) : Obj := (Obj.mk (.type (t A 0)) none (.seq #[] 0) #[])
def o_97 (A : AT) (P : Params) : Obj := (Obj.mk (.type (t A 3)) none (.dict #[(DictEntry.mk (keyHash P (s A 8)) (.str (s A 8) 237) (.str (s A 18) 194)), (DictEntry.mk (keyHash P (s A 10)) (.str (s A 10) 241) (.int 9 240)), (DictEntry.mk (keyHash P (s A 11)) (.str (s A 11) 242) (.ref 54)), (DictEntry.mk (keyHash P (s A 14)) (.str (s A 14) 243) .none)] 2) #[])
def o_98 (A : AT) (P : Params) : Obj := (Obj.mk (.type (t A 7)) none (.cls (ClassData.mk (s A 32) [(.ref 31)] [(.ref 56), (.ref 31), (.type (t A 9)), (.type (t A 10)), (.type (t A 11)), (.type (t A 12))] 55 (s A 32) true [] [] false none false)) #[(some (.ref 47)), none, (some (.str (s A 32) 230)), (some (.str (s A 32) 238)), (some (.builtin (t A 13))), (some (.bool true))])
def o_99 (A : AT) (P : Params) : Obj := (Obj.mk (.type (t A 15)) none (.fields #[(.ref 56), (.ref 56), (.ref 56)]) #[])
def o_100 (A : AT) (P : Params) : Obj := (Obj.mk (.type (t A 5)) none (.fields #[(.builtin (t A 16)), (.ref 56)]) #[])
def o_101 (A : AT) (P : Params) : Obj := (Obj.mk (.type (t A 3)) none (.dict #[(DictEntry.mk (keyHash P (s A 20)) (.str (s A 20) 165) (.str (s A 18) 194)), (DictEntry.mk (keyHash P (s A 14)) (.str (s A 14) 166) .none), (DictEntry.mk (keyHash P (s A 22)) (.str (s A 22) 167) .none), (DictEntry.mk (keyHash P (s A 23)) (.str (s A 23) 168) (.builtin (t A 8))), (DictEntry.mk (keyHash P (s A 24)) (.str (s A 24) 169) .none), (DictEntry.mk (keyHash P (s A 25)) (.str (s A 25) 170) (.ref 6)), (DictEntry.mk (keyHash P (s A 26)) (.str (s A 26) 171) (.ref 4)), (DictEntry.mk (keyHash P (s A 27)) (.str (s A 27) 173) (.str (s A 7) 172)), (DictEntry.mk (keyHash P (s A 28)) (.str (s A 28) 174) .none), (DictEntry.mk (keyHash P (s A 29)) (.str (s A 29) 193) (.ref 21)), (DictEntry.mk (keyHash P (s A 30)) (.str (s A 30) 213) (.ref 31)), (DictEntry.mk (keyHash P (s A 31)) (.str (s A 31) 229) (.ref 44)), (DictEntry.mk (keyHash P (s A 32)) (.str (s A 32) 245) (.ref 56)), (DictEntry.mk (keyHash P (s A 33)) (.str (s A 33) 261) (.ref 68))] 14) #[])
def o_102 (A : AT) (P : Params) : Obj := (Obj.mk .none none (.fields #[(.int 1 0), (.int 0 0), (.ref 20), (.int 5 0), (.int 0 0), (.ref 27), (.int 7 0), (.int 0 0), (.ref 40), (.int 9 0), (.int 0 0), (.ref 52), (.int 11 0), (.int 0 0), (.ref 64)]) #[])
def o_103 (A : AT) (P : Params) : Obj := (Obj.mk (.type (t A 7)) none (.cls (ClassData.mk (s A 30) [(.type (t A 9))] [(.ref 31), (.type (t A 9)), (.type (t A 10)), (.type (t A 11)), (.type (t A 12))] 30 (s A 30) true [] [(.ref 44), (.ref 56), (.ref 68)] false none false)) #[(some (.ref 22)), none, (some (.str (s A 30) 196)), (some (.str (s A 30) 204)), (some (.builtin (t A 13))), (some (.bool true))])
def o_104 (A : AT) (P : Params) : Obj := (Obj.mk (.type (t A 0)) none (.seq #[(.ref 31)] 0) #[])
def o_105 (A : AT) (P : Params) : Obj := (Obj.mk (.type (t A 5)) none (.fields #[(.builtin (t A 6)), (.type (t A 7))]) #[])
def o_106 (A : AT) (P : Params) : Obj := (Obj.mk (.type (t A 3)) none (.dict #[(DictEntry.mk (keyHash P (s A 8)) (.str (s A 8) 253) (.str (s A 18) 194)), (DictEntry.mk (keyHash P (s A 15)) (.str (s A 15) 255) (.str (s A 33) 254)), (DictEntry.mk (keyHash P (s A 10)) (.str (s A 10) 257) (.int 11 256)), (DictEntry.mk (keyHash P (s A 11)) (.str (s A 11) 258) (.ref 66))] 4) #[])
def o_107 (A : AT) (P : Params) : Obj := (Obj.mk (.type (t A 0)) none (.seq #[] 0) #[])
def o_108 (A : AT) (P : Params) : Obj := (Obj.mk .none none (.fields #[]) #[])
def o_109 (A : AT) (P : Params) : Obj := (Obj.mk (.type (t A 2)) none (.fields #[(.str (s A 33) 248), (.str (s A 33) 249), (.str (s A 7) 250), (.int 11 0), (.int 0 0), (.int 0 0), (.int 0 0), (.int 0 0), (.ref 62), (.bool false), (.int 181 0), (.ref 63), .none, .none, .none, .none, (.int 251 0), (.int 11 0), (.str (s A 7) 252)]) #[])
def o_110 (A : AT) (P : Params) : Obj := (Obj.mk (.type (t A 4)) none .plain #[(some (.ref 64)), (some (.ref 3)), (some (.ref 61)), none, (some (.str (s A 18) 194)), none, (some (.ref 0))])
def o_111 (A : AT) (P : Params) : Obj := (Obj.mk (.type (t A 0)) none (.seq #[] 0) #[])
def o_112 (A : AT) (P : Params) : Obj := (Obj.mk (.type (t A 3)) none (.dict #[(DictEntry.mk (keyHash P (s A 8)) (.str (s A 8) 253) (.str (s A 18) 194)), (DictEntry.mk (keyHash P (s A 10)) (.str (s A 10) 257) (.int 11 256)), (DictEntry.mk (keyHash P (s A 11)) (.str (s A 11) 258) (.ref 66)), (DictEntry.mk (keyHash P (s A 14)) (.str (s A 14) 259) .none)] 2) #[])
def o_113 (A : AT) (P : Params) : Obj := (Obj.mk (.type (t A 7)) none (.cls (ClassData.mk (s A 33) [(.ref 31)] [(.ref 68), (.ref 31), (.type (t A 9)), (.type (t A 10)), (.type (t A 11)), (.type (t A 12))] 67 (s A 33) true [] [] false none false)) #[(some (.ref 59)), none, (some (.str (s A 33) 246)), (some (.str (s A 33) 254)), (some (.builtin (t A 13))), (some (.bool true))])
def o_114 (A : AT) (P : Params) : Obj := (Obj.mk (.type (t A 15)) none (.fields #[(.ref 68), (.ref 68), (.ref 68)]) #[])
def o_115 (A : AT) (P : Params) : Obj := (Obj.mk (.type (t A 5)) none (.fields #[(.builtin (t A 16)), (.ref 68)]) #[])
def o_116 (A : AT) (P : Params) : Obj := (Obj.mk (.type (t A 3)) none (.dict #[(DictEntry.mk (keyHash P (s A 20)) (.str (s A 20) 165) (.str (s A 18) 194)), (DictEntry.mk (keyHash P (s A 14)) (.str (s A 14) 166) .none), (DictEntry.mk (keyHash P (s A 22)) (.str (s A 22) 167) .none), (DictEntry.mk (keyHash P (s A 23)) (.str (s A 23) 168) (.builtin (t A 8))), (DictEntry.mk (keyHash P (s A 24)) (.str (s A 24) 169) .none), (DictEntry.mk (keyHash P (s A 25)) (.str (s A 25) 170) (.ref 6)), (DictEntry.mk (keyHash P (s A 26)) (.str (s A 26) 171) (.ref 4)), (DictEntry.mk (keyHash P (s A 27)) (.str (s A 27) 173) (.str (s A 7) 172)), (DictEntry.mk (keyHash P (s A 28)) (.str (s A 28) 174) .none), (DictEntry.mk (keyHash P (s A 29)) (.str (s A 29) 193) (.ref 21)), (DictEntry.mk (keyHash P (s A 30)) (.str (s A 30) 213) (.ref 31)), (DictEntry.mk (keyHash P (s A 31)) (.str (s A 31) 229) (.ref 44)), (DictEntry.mk (keyHash P (s A 32)) (.str (s A 32) 245) (.ref 56)), (DictEntry.mk (keyHash P (s A 33)) (.str (s A 33) 261) (.ref 68)), (DictEntry.mk (keyHash P (s A 34)) (.str (s A 34) 277) (.ref 80))] 15) #[])
def o_117 (A : AT) (P : Params) : Obj := (Obj.mk .none none (.fields #[(.int 1 0), (.int 0 0), (.ref 20), (.int 5 0), (.int 0 0), (.ref 27), (.int 7 0), (.int 0 0), (.ref 40), (.int 9 0), (.int 0 0), (.ref 52), (.int 11 0), (.int 0 0), (.ref 64), (.int 13 0), (.int 0 0), (.ref 76)]) #[])
def o_118 (A : AT) (P : Params) : Obj := (Obj.mk (.type (t A 7)) none (.cls (ClassData.mk (s A 30) [(.type (t A 9))] [(.ref 31), (.type (t A 9)), (.type (t A 10)), (.type (t A 11)), (.type (t A 12))] 30 (s A 30) true [] [(.ref 44), (.ref 56), (.ref 68), (.ref 80)] false none false)) #[(some (.ref 22)), none, (some (.str (s A 30) 196)), (some (.str (s A 30) 204)), (some (.builtin (t A 13))), (some (.bool true))])
def o_119 (A : AT) (P : Params) : Obj := (Obj.mk (.type (t A 0)) none (.seq #[(.ref 31)] 0) #[])
def o_120 (A : AT) (P : Params) : Obj := (Obj.mk (.type (t A 5)) none (.fields #[(.builtin (t A 6)), (.type (t A 7))]) #[])
def o_121 (A : AT) (P : Params) : Obj := (Obj.mk (.type (t A 3)) none (.dict #[(DictEntry.mk (keyHash P (s A 8)) (.str (s A 8) 269) (.str (s A 18) 194)), (DictEntry.mk (keyHash P (s A 15)) (.str (s A 15) 271) (.str (s A 34) 270)), (DictEntry.mk (keyHash P (s A 10)) (.str (s A 10) 273) (.int 13 272)), (DictEntry.mk (keyHash P (s A 11)) (.str (s A 11) 274) (.ref 78))] 4) #[])
def o_122 (A : AT) (P : Params) : Obj := (Obj.mk (.type (t A 0)) none (.seq #[] 0) #[])
def o_123 (A : AT) (P : Params) : Obj := (Obj.mk .none none (.fields #[]) #[])
def o_124 (A : AT) (P : Params) : Obj := (Obj.mk (.type (t A 2)) none (.fields #[(.str (s A 34) 264), (.str (s A 34) 265), (.str (s A 7) 266), (.int 13 0), (.int 0 0), (.int 0 0), (.int 0 0), (.int 0 0), (.ref 74), (.bool false), (.int 181 0), (.ref 75), .none, .none, .none, .none, (.int 267 0), (.int 13 0), (.str (s A 7) 268)]) #[])
def o_125 (A : AT) (P : Params) : Obj := (Obj.mk (.type (t A 4)) none .plain #[(some (.ref 76)), (some (.ref 3)), (some (.ref 73)), none, (some (.str (s A 18) 194)), none, (some (.ref 0))])
def o_126 (A : AT) (P : Params) : Obj := (Obj.mk (.type (t A 0)) none (.seq #[] 0) #[])
def o_127 (A : AT) (P : Params) : Obj := (Obj.mk (.type (t A 3)) none (.dict #[(DictEntry.mk (keyHash P (s A 8)) (.str (s A 8) 269) (.str (s A 18) 194)), (DictEntry.mk (keyHash P (s A 10)) (.str (s A 10) 273) (.int 13 272)), (DictEntry.mk (keyHash P (s A 11)) (.str (s A 11) 274) (.ref 78)), (DictEntry.mk (keyHash P (s A 14)) (.str (s A 14) 275) .none)] 2) #[])
def o_128 (A : AT) (P : Params) : Obj := (Obj.mk (.type (t A 7)) none (.cls (ClassData.mk (s A 34) [(.ref 31)] [(.ref 80), (.ref 31), (.type (t A 9)), (.type (t A 10)), (.type (t A 11)), (.type (t A 12))] 79 (s A 34) true [] [] false none false)) #[(some (.ref 71)), none, (some (.str (s A 34) 262)), (some (.str (s A 34) 270)), (some (.builtin (t A 13))), (some (.bool true))])
def o_129 (A : AT) (P : Params) : Obj := (Obj.mk (.type (t A 15)) none (.fields #[(.ref 80), (.ref 80), (.ref 80)]) #[])
def o_130 (A : AT) (P : Params) : Obj := (Obj.mk (.type (t A 5)) none (.fields #[(.builtin (t A 16)), (.ref 80)]) #[])
def o_131 (A : AT) (P : Params) : Obj := (Obj.mk (.type (t A 3)) none (.dict #[(DictEntry.mk (keyHash P (s A 20)) (.str (s A 20) 165) (.str (s A 18) 194)), (DictEntry.mk (keyHash P (s A 14)) (.str (s A 14) 166) .none), (DictEntry.mk (keyHash P (s A 22)) (.str (s A 22) 167) .none), (DictEntry.mk (keyHash P (s A 23)) (.str (s A 23) 168) (.builtin (t A 8))), (DictEntry.mk (keyHash P (s A 24)) (.str (s A 24) 169) .none), (DictEntry.mk (keyHash P (s A 25)) (.str (s A 25) 170) (.ref 6)), (DictEntry.mk (keyHash P (s A 26)) (.str (s A 26) 171) (.ref 4)), (DictEntry.mk (keyHash P (s A 27)) (.str (s A 27) 173) (.str (s A 7) 172)), (DictEntry.mk (keyHash P (s A 28)) (.str (s A 28) 174) .none), (DictEntry.mk (keyHash P (s A 29)) (.str (s A 29) 193) (.ref 21)), (DictEntry.mk (keyHash P (s A 30)) (.str (s A 30) 213) (.ref 31)), (DictEntry.mk (keyHash P (s A 31)) (.str (s A 31) 229) (.ref 44)), (DictEntry.mk (keyHash P (s A 32)) (.str (s A 32) 245) (.ref 56)), (DictEntry.mk (keyHash P (s A 33)) (.str (s A 33) 261) (.ref 68)), (DictEntry.mk (keyHash P (s A 34)) (.str (s A 34) 277) (.ref 80)), (DictEntry.mk (keyHash P (s A 35)) (.str (s A 35) 302) (.ref 100))] 16) #[])
def o_132 (A : AT) (P : Params) : Obj := (Obj.mk .none none (.fields #[(.int 1 0), (.int 0 0), (.ref 20), (.int 5 0), (.int 0 0), (.ref 27), (.int 7 0), (.int 0 0), (.ref 40), (.int 9 0), (.int 0 0), (.ref 52), (.int 11 0), (.int 0 0), (.ref 64), (.int 13 0), (.int 0 0), (.ref 76), (.int 15 0), (.int 0 0), (.ref 88)]) #[])
def o_133 (A : AT) (P : Params) : Obj := (Obj.mk (.type (t A 7)) none (.cls (ClassData.mk (s A 30) [(.type (t A 9))] [(.ref 31), (.type (t A 9)), (.type (t A 10)), (.type (t A 11)), (.type (t A 12))] 30 (s A 30) true [] [(.ref 44), (.ref 56), (.ref 68), (.ref 80), (.ref 100)] false none false)) #[(some (.ref 22)), none, (some (.str (s A 30) 196)), (some (.str (s A 30) 204)), (some (.builtin (t A 13))), (some (.bool true))])
def o_134 (A : AT) (P : Params) : Obj := (Obj.mk (.type (t A 0)) none (.seq #[(.ref 31)] 0) #[])
def o_135 (A : AT) (P : Params) : Obj := (Obj.mk (.type (t A 5)) none (.fields #[(.builtin (t A 6)), (.type (t A 7))]) #[])
def o_136 (A : AT) (P : Params) : Obj := (Obj.mk (.type (t A 3)) none (.dict #[(DictEntry.mk (keyHash P (s A 8)) (.str (s A 8) 285) (.str (s A 18) 194)), (DictEntry.mk (keyHash P (s A 15)) (.str (s A 15) 287) (.str (s A 35) 286)), (DictEntry.mk (keyHash P (s A 10)) (.str (s A 10) 289) (.int 15 288)), (DictEntry.mk (keyHash P (s A 19)) (.str (s A 19) 297) (.ref 97)), (DictEntry.mk (keyHash P (s A 11)) (.str (s A 11) 299) (.ref 98))] 5) #[])
def o_137 (A : AT) (P : Params) : Obj := (Obj.mk (.type (t A 0)) none (.seq #[] 0) #[])
def o_138 (A : AT) (P : Params) : Obj := (Obj.mk .none none (.fields #[(.int 17 0), (.int 4 0), (.ref 96)]) #[])
def o_139 (A : AT) (P : Params) : Obj := (Obj.mk (.type (t A 2)) none (.fields #[(.str (s A 35) 280), (.str (s A 35) 281), (.str (s A 7) 282), (.int 15 0), (.int 0 0), (.int 0 0), (.int 0 0), (.int 0 0), (.ref 86), (.bool false), (.int 181 0), (.ref 87), .none, .none, .none, .none, (.int 283 0), (.int 15 0), (.str (s A 7) 284)]) #[])
def o_140 (A : AT) (P : Params) : Obj := (Obj.mk (.type (t A 4)) none .plain #[(some (.ref 88)), (some (.ref 3)), (some (.ref 85)), none, (some (.str (s A 18) 194)), none, (some (.ref 0))])
def o_141 (A : AT) (P : Params) : Obj := (Obj.mk (.type (t A 0)) none (.seq #[.none] 0) #[])
def o_142 (A : AT) (P : Params) : Obj := (Obj.mk (.type (t A 0)) none (.seq #[] 0) #[])
def o_143 (A : AT) (P : Params) : Obj := (Obj.mk .none none (.fields #[]) #[])
def o_144 (A : AT) (P : Params) : Obj := (Obj.mk (.type (t A 0)) none (.seq #[(.str (s A 74) 293), (.str (s A 58) 294)] 0) #[])
def o_145 (A : AT) (P : Params) : Obj := (Obj.mk (.type (t A 0)) none (.seq #[] 0) #[])
def o_146 (A : AT) (P : Params) : Obj := (Obj.mk .none none (.func (FuncData.mk (s A 19) (s A 52) (defArgs (inClass (stm A 7) 0)) (FuncBody.stmts (defBody (inClass (stm A 7) 0))) (defScope (inClass (stm A 7) 0)) 0 [] .none .none .none .none none .none .none 0)) #[])
def o_147 (A : AT) (P : Params) : Obj := (Obj.mk (.type (t A 2)) none (.fields #[(.str (s A 19) 290), (.str (s A 52) 291), (.str (s A 7) 292), (.int 17 0), (.int 2 0), (.int 0 0), (.int 0 0), (.int 3 0), (.ref 91), (.bool true), (.int 181 0), (.ref 92), .none, (.ref 93), (.ref 94), (.ref 95), (.int 295 0), (.int 17 0), (.str (s A 7) 296)]) #[])
def o_148 (A : AT) (P : Params) : Obj := (Obj.mk (.type (t A 1)) none (.func (FuncData.mk (s A 19) (s A 52) (defArgs (inClass (stm A 7) 0)) (FuncBody.stmts (defBody (inClass (stm A 7) 0))) (defScope (inClass (stm A 7) 0)) 3 [] (.ref 90) .none .none (.str (s A 18) 194) none (.ref 96) .none 0)) #[])
def o_149 (A : AT) (P : Params) : Obj := (Obj.mk (.type (t A 0)) none (.seq #[(.str (s A 58) 298)] 0) #[])
def o_150 (A : AT) (P : Params) : Obj := (Obj.mk (.type (t A 3)) none (.dict #[(DictEntry.mk (keyHash P (s A 8)) (.str (s A 8) 285) (.str (s A 18) 194)), (DictEntry.mk (keyHash P (s A 10)) (.str (s A 10) 289) (.int 15 288)), (DictEntry.mk (keyHash P (s A 19)) (.str (s A 19) 297) (.ref 97)), (DictEntry.mk (keyHash P (s A 11)) (.str (s A 11) 299) (.ref 98)), (DictEntry.mk (keyHash P (s A 14)) (.str (s A 14) 300) .none)] 2) #[])
def o_151 (A : AT) (P : Params) : Obj := (Obj.mk (.type (t A 7)) none (.cls (ClassData.mk (s A 35) [(.ref 31)] [(.ref 100), (.ref 31), (.type (t A 9)), (.type (t A 10)), (.type (t A 11)), (.type (t A 12))] 99 (s A 35) true [] [] false none false)) #[(some (.ref 83)), none, (some (.str (s A 35) 278)), (some (.str (s A 35) 286)), (some (.builtin (t A 13))), (some (.bool true))])
def o_152 (A : AT) (P : Params) : Obj := (Obj.mk (.type (t A 15)) none (.fields #[(.ref 100), (.ref 100), (.ref 100)]) #[])
def o_153 (A : AT) (P : Params) : Obj := (Obj.mk (.type (t A 5)) none (.fields #[(.builtin (t A 16)), (.ref 100)]) #[])
def o_154 (A : AT) (P : Params) : Obj := (Obj.mk (.type (t A 3)) none (.dict #[(DictEntry.mk (keyHash P (s A 20)) (.str (s A 20) 165) (.str (s A 87) 355)), (DictEntry.mk (keyHash P (s A 14)) (.str (s A 14) 166) .none), (DictEntry.mk (keyHash P (s A 22)) (.str (s A 22) 167) .none), (DictEntry.mk (keyHash P (s A 23)) (.str (s A 23) 168) (.builtin (t A 8))), (DictEntry.mk (keyHash P (s A 24)) (.str (s A 24) 169) .none), (DictEntry.mk (keyHash P (s A 25)) (.str (s A 25) 170) (.ref 6)), (DictEntry.mk (keyHash P (s A 26)) (.str (s A 26) 171) (.ref 4)), (DictEntry.mk (keyHash P (s A 27)) (.str (s A 27) 173) (.str (s A 7) 172)), (DictEntry.mk (keyHash P (s A 28)) (.str (s A 28) 174) .none), (DictEntry.mk (keyHash P (s A 29)) (.str (s A 29) 193) (.ref 21)), (DictEntry.mk (keyHash P (s A 30)) (.str (s A 30) 213) (.ref 31)), (DictEntry.mk (keyHash P (s A 31)) (.str (s A 31) 229) (.ref 44)), (DictEntry.mk (keyHash P (s A 32)) (.str (s A 32) 245) (.ref 56)), (DictEntry.mk (keyHash P (s A 33)) (.str (s A 33) 261) (.ref 68)), (DictEntry.mk (keyHash P (s A 34)) (.str (s A 34) 277) (.ref 80)), (DictEntry.mk (keyHash P (s A 35)) (.str (s A 35) 302) (.ref 100)), (DictEntry.mk (keyHash P (s A 36)) (.str (s A 36) 328) (.ref 120)), (DictEntry.mk (keyHash P (s A 37)) (.str (s A 37) 337) (.ref 129)), (DictEntry.mk (keyHash P (s A 38)) (.str (s A 38) 346) (.ref 136)), (DictEntry.mk (keyHash P (s A 39)) (.str (s A 39) 354) (.ref 143)), (DictEntry.mk (keyHash P (s A 40)) (.str (s A 40) 358) (.int 60 357)), (DictEntry.mk (keyHash P (s A 41)) (.str (s A 41) 360) (.int 1440 359))] 22) #[])
def o_155 (A : AT) (P : Params) : Obj := (Obj.mk .none none (.fields #[(.int 1 0), (.int 0 0), (.ref 20), (.int 5 0), (.int 0 0), (.ref 27), (.int 7 0), (.int 0 0), (.ref 40), (.int 9 0), (.int 0 0), (.ref 52), (.int 11 0), (.int 0 0), (.ref 64), (.int 13 0), (.int 0 0), (.ref 76), (.int 15 0), (.int 0 0), (.ref 88), (.int 19 0), (.int 0 0), (.ref 108), (.int 24 0), (.int 0 0), (.ref 128), (.int 26 0), (.int 0 0), (.ref 135), (.int 28 0), (.int 0 0), (.ref 142)]) #[])
def o_156 (A : AT) (P : Params) : Obj := (Obj.mk (.type (t A 7)) none (.cls (ClassData.mk (s A 30) [(.type (t A 9))] [(.ref 31), (.type (t A 9)), (.type (t A 10)), (.type (t A 11)), (.type (t A 12))] 30 (s A 30) true [] [(.ref 44), (.ref 56), (.ref 68), (.ref 80), (.ref 100), (.ref 120)] false none false)) #[(some (.ref 22)), none, (some (.str (s A 30) 196)), (some (.str (s A 30) 204)), (some (.builtin (t A 13))), (some (.bool true))])
def o_157 (A : AT) (P : Params) : Obj := (Obj.mk (.type (t A 0)) none (.seq #[(.ref 31)] 0) #[])
def o_158 (A : AT) (P : Params) : Obj := (Obj.mk (.type (t A 5)) none (.fields #[(.builtin (t A 6)), (.type (t A 7))]) #[])
def o_159 (A : AT) (P : Params) : Obj := (Obj.mk (.type (t A 3)) none (.dict #[(DictEntry.mk (keyHash P (s A 8)) (.str (s A 8) 310) (.str (s A 18) 194)), (DictEntry.mk (keyHash P (s A 15)) (.str (s A 15) 312) (.str (s A 36) 311)), (DictEntry.mk (keyHash P (s A 10)) (.str (s A 10) 314) (.int 19 313)), (DictEntry.mk (keyHash P (s A 19)) (.str (s A 19) 323) (.ref 117)), (DictEntry.mk (keyHash P (s A 11)) (.str (s A 11) 325) (.ref 118))] 5) #[])
def o_160 (A : AT) (P : Params) : Obj := (Obj.mk (.type (t A 0)) none (.seq #[] 0) #[])
def o_161 (A : AT) (P : Params) : Obj := (Obj.mk .none none (.fields #[(.int 21 0), (.int 4 0), (.ref 116)]) #[])
def o_162 (A : AT) (P : Params) : Obj := (Obj.mk (.type (t A 2)) none (.fields #[(.str (s A 36) 305), (.str (s A 36) 306), (.str (s A 7) 307), (.int 19 0), (.int 0 0), (.int 0 0), (.int 0 0), (.int 0 0), (.ref 106), (.bool false), (.int 181 0), (.ref 107), .none, .none, .none, .none, (.int 308 0), (.int 19 0), (.str (s A 7) 309)]) #[])
def o_163 (A : AT) (P : Params) : Obj := (Obj.mk (.type (t A 4)) none .plain #[(some (.ref 108)), (some (.ref 3)), (some (.ref 105)), none, (some (.str (s A 18) 194)), none, (some (.ref 0))])
def o_164 (A : AT) (P : Params) : Obj := (Obj.mk (.type (t A 0)) none (.seq #[(.int 0 315)] 0) #[])
def o_165 (A : AT) (P : Params) : Obj := (Obj.mk (.type (t A 0)) none (.seq #[] 0) #[])
def o_166 (A : AT) (P : Params) : Obj := (Obj.mk .none none (.fields #[]) #[])
def o_167 (A : AT) (P : Params) : Obj := (Obj.mk (.type (t A 0)) none (.seq #[(.str (s A 74) 319), (.str (s A 127) 320)] 0) #[])
def o_168 (A : AT) (P : Params) : Obj := (Obj.mk (.type (t A 0)) none (.seq #[] 0) #[])
def o_169 (A : AT) (P : Params) : Obj := (Obj.mk .none none (.func (FuncData.mk (s A 19) (s A 96) (defArgs (inClass (stm A 8) 0)) (FuncBody.stmts (defBody (inClass (stm A 8) 0))) (defScope (inClass (stm A 8) 0)) 0 [] .none .none .none .none none .none .none 0)) #[])
def o_170 (A : AT) (P : Params) : Obj := (Obj.mk (.type (t A 2)) none (.fields #[(.str (s A 19) 316), (.str (s A 96) 317), (.str (s A 7) 318), (.int 21 0), (.int 2 0), (.int 0 0), (.int 0 0), (.int 3 0), (.ref 111), (.bool true), (.int 181 0), (.ref 112), .none, (.ref 113), (.ref 114), (.ref 115), (.int 321 0), (.int 21 0), (.str (s A 7) 322)]) #[])
def o_171 (A : AT) (P : Params) : Obj := (Obj.mk (.type (t A 1)) none (.func (FuncData.mk (s A 19) (s A 96) (defArgs (inClass (stm A 8) 0)) (FuncBody.stmts (defBody (inClass (stm A 8) 0))) (defScope (inClass (stm A 8) 0)) 3 [] (.ref 110) .none .none (.str (s A 18) 194) none (.ref 116) .none 0)) #[])
def o_172 (A : AT) (P : Params) : Obj := (Obj.mk (.type (t A 0)) none (.seq #[(.str (s A 127) 324)] 0) #[])
def o_173 (A : AT) (P : Params) : Obj := (Obj.mk (.type (t A 3)) none (.dict #[(DictEntry.mk (keyHash P (s A 8)) (.str (s A 8) 310) (.str (s A 18) 194)), (DictEntry.mk (keyHash P (s A 10)) (.str (s A 10) 314) (.int 19 313)), (DictEntry.mk (keyHash P (s A 19)) (.str (s A 19) 323) (.ref 117)), (DictEntry.mk (keyHash P (s A 11)) (.str (s A 11) 325) (.ref 118)), (DictEntry.mk (keyHash P (s A 14)) (.str (s A 14) 326) .none)] 2) #[])
def o_174 (A : AT) (P : Params) : Obj := (Obj.mk (.type (t A 7)) none (.cls (ClassData.mk (s A 36) [(.ref 31)] [(.ref 120), (.ref 31), (.type (t A 9)), (.type (t A 10)), (.type (t A 11)), (.type (t A 12))] 119 (s A 36) true [] [] false none false)) #[(some (.ref 103)), none, (some (.str (s A 36) 303)), (some (.str (s A 36) 311)), (some (.builtin (t A 13))), (some (.bool true))])
def o_175 (A : AT) (P : Params) : Obj := (Obj.mk (.type (t A 15)) none (.fields #[(.ref 120), (.ref 120), (.ref 120)]) #[])
def o_176 (A : AT) (P : Params) : Obj := (Obj.mk (.type (t A 5)) none (.fields #[(.builtin (t A 16)), (.ref 120)]) #[])
def o_177 (A : AT) (P : Params) : Obj := (Obj.mk (.type (t A 0)) none (.seq #[] 0) #[])
def o_178 (A : AT) (P : Params) : Obj := (Obj.mk .none none (.fields #[]) #[])
def o_179 (A : AT) (P : Params) : Obj := (Obj.mk (.type (t A 0)) none (.seq #[(.str (s A 0) 334)] 0) #[])
def o_180 (A : AT) (P : Params) : Obj := (Obj.mk (.type (t A 0)) none (.seq #[] 0) #[])
def o_181 (A : AT) (P : Params) : Obj := (Obj.mk .none none (.func (FuncData.mk (s A 37) (s A 37) (defArgs (stm A 10)) (FuncBody.stmts (defBody (stm A 10))) (defScope (stm A 10)) 0 [] .none .none .none .none none .none .none 0)) #[])
def o_182 (A : AT) (P : Params) : Obj := (Obj.mk (.type (t A 2)) none (.fields #[(.str (s A 37) 331), (.str (s A 37) 332), (.str (s A 7) 333), (.int 24 0), (.int 1 0), (.int 0 0), (.int 0 0), (.int 3 0), (.ref 123), (.bool true), (.int 181 0), (.ref 124), .none, (.ref 125), (.ref 126), (.ref 127), (.int 335 0), (.int 24 0), (.str (s A 7) 336)]) #[])
def o_183 (A : AT) (P : Params) : Obj := (Obj.mk (.type (t A 1)) none (.func (FuncData.mk (s A 37) (s A 37) (defArgs (stm A 10)) (FuncBody.stmts (defBody (stm A 10))) (defScope (stm A 10)) 3 [] .none .none .none (.str (s A 53) 329) none (.ref 128) .none 0)) #[])
def o_184 (A : AT) (P : Params) : Obj := (Obj.mk (.type (t A 0)) none (.seq #[] 0) #[])
def o_185 (A : AT) (P : Params) : Obj := (Obj.mk .none none (.fields #[]) #[])
def o_186 (A : AT) (P : Params) : Obj := (Obj.mk (.type (t A 0)) none (.seq #[(.str (s A 0) 341), (.str (s A 1) 342), (.str (s A 2) 343)] 0) #[])
def o_187 (A : AT) (P : Params) : Obj := (Obj.mk (.type (t A 0)) none (.seq #[] 0) #[])
def o_188 (A : AT) (P : Params) : Obj := (Obj.mk .none none (.func (FuncData.mk (s A 38) (s A 38) (defArgs (stm A 11)) (FuncBody.stmts (defBody (stm A 11))) (defScope (stm A 11)) 0 [] .none .none .none .none none .none .none 0)) #[])
def o_189 (A : AT) (P : Params) : Obj := (Obj.mk (.type (t A 2)) none (.fields #[(.str (s A 38) 338), (.str (s A 38) 339), (.str (s A 7) 340), (.int 26 0), (.int 3 0), (.int 0 0), (.int 0 0), (.int 3 0), (.ref 130), (.bool true), (.int 181 0), (.ref 131), .none, (.ref 132), (.ref 133), (.ref 134), (.int 344 0), (.int 26 0), (.str (s A 7) 345)]) #[])
def o_190 (A : AT) (P : Params) : Obj := (Obj.mk (.type (t A 1)) none (.func (FuncData.mk (s A 38) (s A 38) (defArgs (stm A 11)) (FuncBody.stmts (defBody (stm A 11))) (defScope (stm A 11)) 3 [] .none .none .none (.str (s A 53) 329) none (.ref 135) .none 0)) #[])
def o_191 (A : AT) (P : Params) : Obj := (Obj.mk (.type (t A 0)) none (.seq #[] 0) #[])
def o_192 (A : AT) (P : Params) : Obj := (Obj.mk .none none (.fields #[]) #[])
def o_193 (A : AT) (P : Params) : Obj := (Obj.mk (.type (t A 0)) none (.seq #[(.str (s A 0) 350), (.str (s A 1) 351)] 0) #[])
def o_194 (A : AT) (P : Params) : Obj := (Obj.mk (.type (t A 0)) none (.seq #[] 0) #[])
def o_195 (A : AT) (P : Params) : Obj := (Obj.mk .none none (.func (FuncData.mk (s A 39) (s A 39) (defArgs (stm A 12)) (FuncBody.stmts (defBody (stm A 12))) (defScope (stm A 12)) 0 [] .none .none .none .none none .none .none 0)) #[])
def o_196 (A : AT) (P : Params) : Obj := (Obj.mk (.type (t A 2)) none (.fields #[(.str (s A 39) 347), (.str (s A 39) 348), (.str (s A 7) 349), (.int 28 0), (.int 2 0), (.int 0 0), (.int 0 0), (.int 3 0), (.ref 137), (.bool true), (.int 181 0), (.ref 138), .none, (.ref 139), (.ref 140), (.ref 141), (.int 352 0), (.int 28 0), (.str (s A 7) 353)]) #[])
def o_197 (A : AT) (P : Params) : Obj := (Obj.mk (.type (t A 1)) none (.func (FuncData.mk (s A 39) (s A 39) (defArgs (stm A 12)) (FuncBody.stmts (defBody (stm A 12))) (defScope (stm A 12)) 3 [] .none .none .none (.str (s A 53) 329) none (.ref 142) .none 0)) #[])
def o_198 (A : AT) (P : Params) : Obj := (Obj.mk (.type (t A 3)) none (.dict #[(DictEntry.mk (keyHash P (s A 20)) (.str (s A 20) 165) (.str (s A 21) 402)), (DictEntry.mk (keyHash P (s A 14)) (.str (s A 14) 166) .none), (DictEntry.mk (keyHash P (s A 22)) (.str (s A 22) 167) .none), (DictEntry.mk (keyHash P (s A 23)) (.str (s A 23) 168) (.builtin (t A 8))), (DictEntry.mk (keyHash P (s A 24)) (.str (s A 24) 169) .none), (DictEntry.mk (keyHash P (s A 25)) (.str (s A 25) 170) (.ref 6)), (DictEntry.mk (keyHash P (s A 26)) (.str (s A 26) 171) (.ref 4)), (DictEntry.mk (keyHash P (s A 27)) (.str (s A 27) 173) (.str (s A 7) 172)), (DictEntry.mk (keyHash P (s A 28)) (.str (s A 28) 174) .none), (DictEntry.mk (keyHash P (s A 29)) (.str (s A 29) 193) (.ref 21)), (DictEntry.mk (keyHash P (s A 30)) (.str (s A 30) 213) (.ref 31)), (DictEntry.mk (keyHash P (s A 31)) (.str (s A 31) 229) (.ref 44)), (DictEntry.mk (keyHash P (s A 32)) (.str (s A 32) 245) (.ref 56)), (DictEntry.mk (keyHash P (s A 33)) (.str (s A 33) 261) (.ref 68)), (DictEntry.mk (keyHash P (s A 34)) (.str (s A 34) 277) (.ref 80)), (DictEntry.mk (keyHash P (s A 35)) (.str (s A 35) 302) (.ref 100)), (DictEntry.mk (keyHash P (s A 36)) (.str (s A 36) 328) (.ref 120)), (DictEntry.mk (keyHash P (s A 37)) (.str (s A 37) 337) (.ref 129)), (DictEntry.mk (keyHash P (s A 38)) (.str (s A 38) 346) (.ref 136)), (DictEntry.mk (keyHash P (s A 39)) (.str (s A 39) 354) (.ref 143)), (DictEntry.mk (keyHash P (s A 40)) (.str (s A 40) 358) (.int 60 357)), (DictEntry.mk (keyHash P (s A 41)) (.str (s A 41) 360) (.int 1440 359)), (DictEntry.mk (keyHash P (s A 42)) (.str (s A 42) 367) (.ref 150)), (DictEntry.mk (keyHash P (s A 43)) (.str (s A 43) 374) (.ref 157)), (DictEntry.mk (keyHash P (s A 44)) (.str (s A 44) 381) (.ref 164)), (DictEntry.mk (keyHash P (s A 45)) (.str (s A 45) 385) (.str (s A 46) 384)), (DictEntry.mk (keyHash P (s A 47)) (.str (s A 47) 387) (.int 8 386)), (DictEntry.mk (keyHash P (s A 3)) (.str (s A 3) 393) (.ref 169)), (DictEntry.mk (keyHash P (s A 48)) (.str (s A 48) 401) (.ref 174)), (DictEntry.mk (keyHash P (s A 49)) (.str (s A 49) 423) (.ref 184))] 30) #[])
def o_199 (A : AT) (P : Params) : Obj := (Obj.mk .none none (.fields #[(.int 1 0), (.int 0 0), (.ref 20), (.int 5 0), (.int 0 0), (.ref 27), (.int 7 0), (.int 0 0), (.ref 40), (.int 9 0), (.int 0 0), (.ref 52), (.int 11 0), (.int 0 0), (.ref 64), (.int 13 0), (.int 0 0), (.ref 76), (.int 15 0), (.int 0 0), (.ref 88), (.int 19 0), (.int 0 0), (.ref 108), (.int 24 0), (.int 0 0), (.ref 128), (.int 26 0), (.int 0 0), (.ref 135), (.int 28 0), (.int 0 0), (.ref 142), (.int 33 0), (.int 0 0), (.ref 149), (.int 35 0), (.int 0 0), (.ref 156), (.int 38 0), (.int 0 0), (.ref 163), (.int 44 0), (.int 0 0), (.ref 168), (.int 49 0), (.int 0 0), (.ref 173), (.int 54 0), (.int 0 0), (.ref 180)]) #[])
def o_200 (A : AT) (P : Params) : Obj := (Obj.mk (.type (t A 0)) none (.seq #[] 0) #[])
def o_201 (A : AT) (P : Params) : Obj := (Obj.mk .none none (.fields #[]) #[])
def o_202 (A : AT) (P : Params) : Obj := (Obj.mk (.type (t A 0)) none (.seq #[(.str (s A 0) 364)] 0) #[])
def o_203 (A : AT) (P : Params) : Obj := (Obj.mk (.type (t A 0)) none (.seq #[] 0) #[])
def o_204 (A : AT) (P : Params) : Obj := (Obj.mk .none none (.func (FuncData.mk (s A 42) (s A 42) (defArgs (stm A 16)) (FuncBody.stmts (defBody (stm A 16))) (defScope (stm A 16)) 0 [] .none .none .none .none none .none .none 0)) #[])
def o_205 (A : AT) (P : Params) : Obj := (Obj.mk (.type (t A 2)) none (.fields #[(.str (s A 42) 361), (.str (s A 42) 362), (.str (s A 7) 363), (.int 33 0), (.int 1 0), (.int 0 0), (.int 0 0), (.int 3 0), (.ref 144), (.bool true), (.int 181 0), (.ref 145), .none, (.ref 146), (.ref 147), (.ref 148), (.int 365 0), (.int 33 0), (.str (s A 7) 366)]) #[])
def o_206 (A : AT) (P : Params) : Obj := (Obj.mk (.type (t A 1)) none (.func (FuncData.mk (s A 42) (s A 42) (defArgs (stm A 16)) (FuncBody.stmts (defBody (stm A 16))) (defScope (stm A 16)) 3 [] .none .none .none (.str (s A 87) 355) none (.ref 149) .none 0)) #[])
def o_207 (A : AT) (P : Params) : Obj := (Obj.mk (.type (t A 0)) none (.seq #[] 0) #[])
def o_208 (A : AT) (P : Params) : Obj := (Obj.mk .none none (.fields #[]) #[])
def o_209 (A : AT) (P : Params) : Obj := (Obj.mk (.type (t A 0)) none (.seq #[(.str (s A 5) 371)] 0) #[])
def o_210 (A : AT) (P : Params) : Obj := (Obj.mk (.type (t A 0)) none (.seq #[] 0) #[])
def o_211 (A : AT) (P : Params) : Obj := (Obj.mk .none none (.func (FuncData.mk (s A 43) (s A 43) (defArgs (stm A 17)) (FuncBody.stmts (defBody (stm A 17))) (defScope (stm A 17)) 0 [] .none .none .none .none none .none .none 0)) #[])
def o_212 (A : AT) (P : Params) : Obj := (Obj.mk (.type (t A 2)) none (.fields #[(.str (s A 43) 368), (.str (s A 43) 369), (.str (s A 7) 370), (.int 35 0), (.int 1 0), (.int 0 0), (.int 0 0), (.int 3 0), (.ref 151), (.bool true), (.int 181 0), (.ref 152), .none, (.ref 153), (.ref 154), (.ref 155), (.int 372 0), (.int 35 0), (.str (s A 7) 373)]) #[])
def o_213 (A : AT) (P : Params) : Obj := (Obj.mk (.type (t A 1)) none (.func (FuncData.mk (s A 43) (s A 43) (defArgs (stm A 17)) (FuncBody.stmts (defBody (stm A 17))) (defScope (stm A 17)) 3 [] .none .none .none (.str (s A 87) 355) none (.ref 156) .none 0)) #[])
def o_214 (A : AT) (P : Params) : Obj := (Obj.mk (.type (t A 0)) none (.seq #[] 0) #[])
def o_215 (A : AT) (P : Params) : Obj := (Obj.mk .none none (.fields #[]) #[])
def o_216 (A : AT) (P : Params) : Obj := (Obj.mk (.type (t A 0)) none (.seq #[(.str (s A 5) 378)] 0) #[])
def o_217 (A : AT) (P : Params) : Obj := (Obj.mk (.type (t A 0)) none (.seq #[] 0) #[])
def o_218 (A : AT) (P : Params) : Obj := (Obj.mk .none none (.func (FuncData.mk (s A 44) (s A 44) (defArgs (stm A 18)) (FuncBody.stmts (defBody (stm A 18))) (defScope (stm A 18)) 0 [] .none .none .none .none none .none .none 0)) #[])
def o_219 (A : AT) (P : Params) : Obj := (Obj.mk (.type (t A 2)) none (.fields #[(.str (s A 44) 375), (.str (s A 44) 376), (.str (s A 7) 377), (.int 38 0), (.int 1 0), (.int 0 0), (.int 0 0), (.int 3 0), (.ref 158), (.bool true), (.int 181 0), (.ref 159), .none, (.ref 160), (.ref 161), (.ref 162), (.int 379 0), (.int 38 0), (.str (s A 7) 380)]) #[])
def o_220 (A : AT) (P : Params) : Obj := (Obj.mk (.type (t A 1)) none (.func (FuncData.mk (s A 44) (s A 44) (defArgs (stm A 18)) (FuncBody.stmts (defBody (stm A 18))) (defScope (stm A 18)) 3 [] .none .none .none (.str (s A 87) 355) none (.ref 163) .none 0)) #[])
def o_221 (A : AT) (P : Params) : Obj := (Obj.mk (.type (t A 0)) none (.seq #[] 0) #[])
def o_222 (A : AT) (P : Params) : Obj := (Obj.mk .none none (.fields #[]) #[])
def o_223 (A : AT) (P : Params) : Obj := (Obj.mk .none none (.func (FuncData.mk (s A 3) (s A 3) (defArgs (stm A 22)) (FuncBody.stmts (defBody (stm A 22))) (defScope (stm A 22)) 0 [] .none .none .none .none none .none .none 0)) #[])
def o_224 (A : AT) (P : Params) : Obj := (Obj.mk (.type (t A 2)) none (.fields #[(.str (s A 3) 388), (.str (s A 3) 389), (.str (s A 7) 390), (.int 44 0), (.int 1 0), (.int 0 0), (.int 0 0), (.int 3 0), (.ref 165), (.bool true), (.int 181 0), (.ref 166), .none, .none, .none, (.ref 167), (.int 391 0), (.int 44 0), (.str (s A 7) 392)]) #[])
def o_225 (A : AT) (P : Params) : Obj := (Obj.mk (.type (t A 1)) none (.func (FuncData.mk (s A 3) (s A 3) (defArgs (stm A 22)) (FuncBody.stmts (defBody (stm A 22))) (defScope (stm A 22)) 3 [] .none .none .none (.str (s A 4) 382) none (.ref 168) .none 0)) #[])
def o_226 (A : AT) (P : Params) : Obj := (Obj.mk (.type (t A 0)) none (.seq #[] 0) #[])
def o_227 (A : AT) (P : Params) : Obj := (Obj.mk .none none (.fields #[]) #[])
def o_228 (A : AT) (P : Params) : Obj := (Obj.mk .none none (.func (FuncData.mk (s A 48) (s A 48) (defArgs (stm A 24)) (FuncBody.stmts (defBody (stm A 24))) (defScope (stm A 24)) 0 [] .none .none .none .none none .none .none 0)) #[])
def o_229 (A : AT) (P : Params) : Obj := (Obj.mk (.type (t A 2)) none (.fields #[(.str (s A 48) 396), (.str (s A 48) 397), (.str (s A 7) 398), (.int 49 0), (.int 1 0), (.int 0 0), (.int 0 0), (.int 3 0), (.ref 170), (.bool true), (.int 181 0), (.ref 171), .none, .none, .none, (.ref 172), (.int 399 0), (.int 49 0), (.str (s A 7) 400)]) #[])
def o_230 (A : AT) (P : Params) : Obj := (Obj.mk (.type (t A 1)) none (.func (FuncData.mk (s A 48) (s A 48) (defArgs (stm A 24)) (FuncBody.stmts (defBody (stm A 24))) (defScope (stm A 24)) 3 [] .none .none .none (.str (s A 145) 394) none (.ref 173) .none 0)) #[])
def o_231 (A : AT) (P : Params) : Obj := (Obj.mk (.type (t A 0)) none (.seq #[] 0) #[])
def o_232 (A : AT) (P : Params) : Obj := (Obj.mk (.type (t A 5)) none (.fields #[(.builtin (t A 6)), (.type (t A 7))]) #[])
def o_233 (A : AT) (P : Params) : Obj := (Obj.mk (.type (t A 3)) none (.dict #[(DictEntry.mk (keyHash P (s A 8)) (.str (s A 8) 411) (.str (s A 21) 402)), (DictEntry.mk (keyHash P (s A 15)) (.str (s A 15) 413) (.str (s A 49) 412)), (DictEntry.mk (keyHash P (s A 10)) (.str (s A 10) 415) (.int 54 414)), (DictEntry.mk (keyHash P (s A 11)) (.str (s A 11) 416) (.ref 182))] 4) #[])
def o_234 (A : AT) (P : Params) : Obj := (Obj.mk (.type (t A 0)) none (.seq #[] 0) #[])
def o_235 (A : AT) (P : Params) : Obj := (Obj.mk .none none (.fields #[]) #[])
def o_236 (A : AT) (P : Params) : Obj := (Obj.mk (.type (t A 2)) none (.fields #[(.str (s A 49) 406), (.str (s A 49) 407), (.str (s A 7) 408), (.int 54 0), (.int 0 0), (.int 0 0), (.int 0 0), (.int 0 0), (.ref 178), (.bool false), (.int 181 0), (.ref 179), .none, .none, .none, .none, (.int 409 0), (.int 54 0), (.str (s A 7) 410)]) #[])
def o_237 (A : AT) (P : Params) : Obj := (Obj.mk (.type (t A 4)) none .plain #[(some (.ref 180)), (some (.ref 3)), (some (.ref 177)), none, (some (.str (s A 21) 402)), none, (some (.ref 0))])
def o_238 (A : AT) (P : Params) : Obj := (Obj.mk (.type (t A 0)) none (.seq #[] 0) #[])
def o_239 (A : AT) (P : Params) : Obj := (Obj.mk (.type (t A 3)) none (.dict #[(DictEntry.mk (keyHash P (s A 8)) (.str (s A 8) 411) (.str (s A 21) 402)), (DictEntry.mk (keyHash P (s A 10)) (.str (s A 10) 415) (.int 54 414)), (DictEntry.mk (keyHash P (s A 11)) (.str (s A 11) 416) (.ref 182)), (DictEntry.mk (keyHash P (s A 12)) (.str (s A 12) 418) (.ref 185)), (DictEntry.mk (keyHash P (s A 13)) (.str (s A 13) 420) (.ref 186)), (DictEntry.mk (keyHash P (s A 14)) (.str (s A 14) 421) .none)] 4) #[])
def o_240 (A : AT) (P : Params) : Obj := (Obj.mk (.type (t A 7)) none (.cls (ClassData.mk (s A 49) [(.type (t A 12))] [(.ref 184), (.type (t A 12))] 183 (s A 49) true [] [] false none false)) #[none, none, (some (.str (s A 49) 404)), (some (.str (s A 49) 412)), (some (.builtin (t A 14))), (some (.bool true))])
def o_241 (A : AT) (P : Params) : Obj := (Obj.mk (.type (t A 17)) none (.fields #[(.str (s A 12) 417), (.ref 184), (.builtin (t A 19)), (.builtin (t A 20))]) #[])
def o_242 (A : AT) (P : Params) : Obj := (Obj.mk (.type (t A 17)) none (.fields #[(.str (s A 13) 419), (.ref 184), (.builtin (t A 18)), .none]) #[])
def o_243 (A : AT) (P : Params) : Obj := (Obj.mk (.type (t A 15)) none (.fields #[(.ref 184), (.ref 184), (.ref 184)]) #[])
def o_244 (A : AT) (P : Params) : Obj := (Obj.mk (.type (t A 5)) none (.fields #[(.builtin (t A 16)), (.ref 184)]) #[])
def o_245 (A : AT) (P : Params) : Obj := (Obj.mk (.type (t A 3)) none (.dict #[(DictEntry.mk (keyHash P (s A 20)) (.str (s A 20) 165) (.str (s A 9) 477)), (DictEntry.mk (keyHash P (s A 14)) (.str (s A 14) 166) .none), (DictEntry.mk (keyHash P (s A 22)) (.str (s A 22) 167) .none), (DictEntry.mk (keyHash P (s A 23)) (.str (s A 23) 168) (.builtin (t A 8))), (DictEntry.mk (keyHash P (s A 24)) (.str (s A 24) 169) .none), (DictEntry.mk (keyHash P (s A 25)) (.str (s A 25) 170) (.ref 6)), (DictEntry.mk (keyHash P (s A 26)) (.str (s A 26) 171) (.ref 4)), (DictEntry.mk (keyHash P (s A 27)) (.str (s A 27) 173) (.str (s A 7) 172)), (DictEntry.mk (keyHash P (s A 28)) (.str (s A 28) 174) .none), (DictEntry.mk (keyHash P (s A 29)) (.str (s A 29) 193) (.ref 21)), (DictEntry.mk (keyHash P (s A 30)) (.str (s A 30) 213) (.ref 31)), (DictEntry.mk (keyHash P (s A 31)) (.str (s A 31) 229) (.ref 44)), (DictEntry.mk (keyHash P (s A 32)) (.str (s A 32) 245) (.ref 56)), (DictEntry.mk (keyHash P (s A 33)) (.str (s A 33) 261) (.ref 68)), (DictEntry.mk (keyHash P (s A 34)) (.str (s A 34) 277) (.ref 80)), (DictEntry.mk (keyHash P (s A 35)) (.str (s A 35) 302) (.ref 100)), (DictEntry.mk (keyHash P (s A 36)) (.str (s A 36) 328) (.ref 120)), (DictEntry.mk (keyHash P (s A 37)) (.str (s A 37) 337) (.ref 129)), (DictEntry.mk (keyHash P (s A 38)) (.str (s A 38) 346) (.ref 136)), (DictEntry.mk (keyHash P (s A 39)) (.str (s A 39) 354) (.ref 143)), (DictEntry.mk (keyHash P (s A 40)) (.str (s A 40) 358) (.int 60 357)), (DictEntry.mk (keyHash P (s A 41)) (.str (s A 41) 360) (.int 1440 359)), (DictEntry.mk (keyHash P (s A 42)) (.str (s A 42) 367) (.ref 150)), (DictEntry.mk (keyHash P (s A 43)) (.str (s A 43) 374) (.ref 157)), (DictEntry.mk (keyHash P (s A 44)) (.str (s A 44) 381) (.ref 164)), (DictEntry.mk (keyHash P (s A 45)) (.str (s A 45) 385) (.str (s A 46) 384)), (DictEntry.mk (keyHash P (s A 47)) (.str (s A 47) 387) (.int 8 386)), (DictEntry.mk (keyHash P (s A 3)) (.str (s A 3) 393) (.ref 169)), (DictEntry.mk (keyHash P (s A 48)) (.str (s A 48) 401) (.ref 174)), (DictEntry.mk (keyHash P (s A 49)) (.str (s A 49) 423) (.ref 184)), (DictEntry.mk (keyHash P (s A 91)) (.str (s A 91) 476) (.ref 226))] 31) #[])
def o_246 (A : AT) (P : Params) : Obj := (Obj.mk .none none (.fields #[(.int 1 0), (.int 0 0), (.ref 20), (.int 5 0), (.int 0 0), (.ref 27), (.int 7 0), (.int 0 0), (.ref 40), (.int 9 0), (.int 0 0), (.ref 52), (.int 11 0), (.int 0 0), (.ref 64), (.int 13 0), (.int 0 0), (.ref 76), (.int 15 0), (.int 0 0), (.ref 88), (.int 19 0), (.int 0 0), (.ref 108), (.int 24 0), (.int 0 0), (.ref 128), (.int 26 0), (.int 0 0), (.ref 135), (.int 28 0), (.int 0 0), (.ref 142), (.int 33 0), (.int 0 0), (.ref 149), (.int 35 0), (.int 0 0), (.ref 156), (.int 38 0), (.int 0 0), (.ref 163), (.int 44 0), (.int 0 0), (.ref 168), (.int 49 0), (.int 0 0), (.ref 173), (.int 54 0), (.int 0 0), (.ref 180), (.int 56 0), (.int 0 0), (.ref 194)]) #[])
def o_247 (A : AT) (P : Params) : Obj := (Obj.mk (.type (t A 7)) none (.cls (ClassData.mk (s A 49) [(.type (t A 12))] [(.ref 184), (.type (t A 12))] 183 (s A 49) true [] [(.ref 226)] false none false)) #[none, none, (some (.str (s A 49) 404)), (some (.str (s A 49) 412)), (some (.builtin (t A 14))), (some (.bool true))])
def o_248 (A : AT) (P : Params) : Obj := (Obj.mk (.type (t A 0)) none (.seq #[(.ref 184)] 0) #[])
def o_249 (A : AT) (P : Params) : Obj := (Obj.mk (.type (t A 5)) none (.fields #[(.builtin (t A 6)), (.type (t A 7))]) #[])
def o_250 (A : AT) (P : Params) : Obj := (Obj.mk (.type (t A 3)) none (.dict #[(DictEntry.mk (keyHash P (s A 8)) (.str (s A 8) 431) (.str (s A 21) 402)), (DictEntry.mk (keyHash P (s A 15)) (.str (s A 15) 433) (.str (s A 91) 432)), (DictEntry.mk (keyHash P (s A 10)) (.str (s A 10) 435) (.int 56 434)), (DictEntry.mk (keyHash P (s A 19)) (.str (s A 19) 443) (.ref 202)), (DictEntry.mk (keyHash P (s A 108)) (.str (s A 108) 451) (.ref 209)), (DictEntry.mk (keyHash P (s A 72)) (.str (s A 72) 461) (.ref 216)), (DictEntry.mk (keyHash P (s A 77)) (.str (s A 77) 471) (.ref 223)), (DictEntry.mk (keyHash P (s A 11)) (.str (s A 11) 473) (.ref 224))] 8) #[])
def o_251 (A : AT) (P : Params) : Obj := (Obj.mk (.type (t A 0)) none (.seq #[] 0) #[])
def o_252 (A : AT) (P : Params) : Obj := (Obj.mk .none none (.fields #[(.int 58 0), (.int 4 0), (.ref 201), (.int 63 0), (.int 4 0), (.ref 208), (.int 66 0), (.int 4 0), (.ref 215), (.int 69 0), (.int 4 0), (.ref 222)]) #[])
def o_253 (A : AT) (P : Params) : Obj := (Obj.mk (.type (t A 2)) none (.fields #[(.str (s A 91) 426), (.str (s A 91) 427), (.str (s A 7) 428), (.int 56 0), (.int 0 0), (.int 0 0), (.int 0 0), (.int 0 0), (.ref 192), (.bool false), (.int 181 0), (.ref 193), .none, .none, .none, .none, (.int 429 0), (.int 56 0), (.str (s A 7) 430)]) #[])
def o_254 (A : AT) (P : Params) : Obj := (Obj.mk (.type (t A 4)) none .plain #[(some (.ref 194)), (some (.ref 3)), (some (.ref 191)), none, (some (.str (s A 21) 402)), none, (some (.ref 0))])
def o_255 (A : AT) (P : Params) : Obj := (Obj.mk (.type (t A 0)) none (.seq #[] 0) #[])
def o_256 (A : AT) (P : Params) : Obj := (Obj.mk .none none (.fields #[]) #[])
def o_257 (A : AT) (P : Params) : Obj := (Obj.mk (.type (t A 0)) none (.seq #[(.str (s A 74) 439), (.str (s A 129) 440)] 0) #[])
def o_258 (A : AT) (P : Params) : Obj := (Obj.mk (.type (t A 0)) none (.seq #[] 0) #[])
def o_259 (A : AT) (P : Params) : Obj := (Obj.mk .none none (.func (FuncData.mk (s A 19) (s A 83) (defArgs (inClass (stm A 27) 0)) (FuncBody.stmts (defBody (inClass (stm A 27) 0))) (defScope (inClass (stm A 27) 0)) 0 [] .none .none .none .none none .none .none 0)) #[])
def o_260 (A : AT) (P : Params) : Obj := (Obj.mk (.type (t A 2)) none (.fields #[(.str (s A 19) 436), (.str (s A 83) 437), (.str (s A 7) 438), (.int 58 0), (.int 2 0), (.int 0 0), (.int 0 0), (.int 3 0), (.ref 196), (.bool true), (.int 181 0), (.ref 197), .none, (.ref 198), (.ref 199), (.ref 200), (.int 441 0), (.int 58 0), (.str (s A 7) 442)]) #[])
def o_261 (A : AT) (P : Params) : Obj := (Obj.mk (.type (t A 1)) none (.func (FuncData.mk (s A 19) (s A 83) (defArgs (inClass (stm A 27) 0)) (FuncBody.stmts (defBody (inClass (stm A 27) 0))) (defScope (inClass (stm A 27) 0)) 3 [] .none .none .none (.str (s A 21) 402) none (.ref 201) .none 0)) #[])
def o_262 (A : AT) (P : Params) : Obj := (Obj.mk (.type (t A 0)) none (.seq #[] 0) #[])
def o_263 (A : AT) (P : Params) : Obj := (Obj.mk .none none (.fields #[]) #[])
def o_264 (A : AT) (P : Params) : Obj := (Obj.mk (.type (t A 0)) none (.seq #[(.str (s A 74) 447), (.str (s A 123) 448)] 0) #[])
def o_265 (A : AT) (P : Params) : Obj := (Obj.mk (.type (t A 0)) none (.seq #[] 0) #[])
def o_266 (A : AT) (P : Params) : Obj := (Obj.mk .none none (.func (FuncData.mk (s A 108) (s A 112) (defArgs (inClass (stm A 27) 1)) (FuncBody.stmts (defBody (inClass (stm A 27) 1))) (defScope (inClass (stm A 27) 1)) 0 [] .none .none .none .none none .none .none 0)) #[])
def o_267 (A : AT) (P : Params) : Obj := (Obj.mk (.type (t A 2)) none (.fields #[(.str (s A 108) 444), (.str (s A 112) 445), (.str (s A 7) 446), (.int 63 0), (.int 2 0), (.int 0 0), (.int 0 0), (.int 3 0), (.ref 203), (.bool true), (.int 181 0), (.ref 204), .none, (.ref 205), (.ref 206), (.ref 207), (.int 449 0), (.int 63 0), (.str (s A 7) 450)]) #[])
def o_268 (A : AT) (P : Params) : Obj := (Obj.mk (.type (t A 1)) none (.func (FuncData.mk (s A 108) (s A 112) (defArgs (inClass (stm A 27) 1)) (FuncBody.stmts (defBody (inClass (stm A 27) 1))) (defScope (inClass (stm A 27) 1)) 3 [] .none .none .none (.str (s A 21) 402) none (.ref 208) .none 0)) #[])
def o_269 (A : AT) (P : Params) : Obj := (Obj.mk (.type (t A 0)) none (.seq #[] 0) #[])
def o_270 (A : AT) (P : Params) : Obj := (Obj.mk .none none (.fields #[]) #[])
def o_271 (A : AT) (P : Params) : Obj := (Obj.mk (.type (t A 0)) none (.seq #[(.str (s A 74) 455), (.str (s A 98) 456), (.str (s A 99) 457), (.str (s A 100) 458)] 0) #[])
def o_272 (A : AT) (P : Params) : Obj := (Obj.mk (.type (t A 0)) none (.seq #[] 0) #[])
def o_273 (A : AT) (P : Params) : Obj := (Obj.mk .none none (.func (FuncData.mk (s A 72) (s A 73) (defArgs (inClass (stm A 27) 2)) (FuncBody.stmts (defBody (inClass (stm A 27) 2))) (defScope (inClass (stm A 27) 2)) 0 [] .none .none .none .none none .none .none 0)) #[])
def o_274 (A : AT) (P : Params) : Obj := (Obj.mk (.type (t A 2)) none (.fields #[(.str (s A 72) 452), (.str (s A 73) 453), (.str (s A 7) 454), (.int 66 0), (.int 4 0), (.int 0 0), (.int 0 0), (.int 3 0), (.ref 210), (.bool true), (.int 181 0), (.ref 211), .none, (.ref 212), (.ref 213), (.ref 214), (.int 459 0), (.int 66 0), (.str (s A 7) 460)]) #[])
def o_275 (A : AT) (P : Params) : Obj := (Obj.mk (.type (t A 1)) none (.func (FuncData.mk (s A 72) (s A 73) (defArgs (inClass (stm A 27) 2)) (FuncBody.stmts (defBody (inClass (stm A 27) 2))) (defScope (inClass (stm A 27) 2)) 3 [] .none .none .none (.str (s A 21) 402) none (.ref 215) .none 0)) #[])
def o_276 (A : AT) (P : Params) : Obj := (Obj.mk (.type (t A 0)) none (.seq #[] 0) #[])
def o_277 (A : AT) (P : Params) : Obj := (Obj.mk .none none (.fields #[]) #[])
def o_278 (A : AT) (P : Params) : Obj := (Obj.mk (.type (t A 0)) none (.seq #[(.str (s A 74) 465), (.str (s A 131) 466), (.str (s A 132) 467), (.str (s A 133) 468)] 0) #[])
def o_279 (A : AT) (P : Params) : Obj := (Obj.mk (.type (t A 0)) none (.seq #[] 0) #[])
def o_280 (A : AT) (P : Params) : Obj := (Obj.mk .none none (.func (FuncData.mk (s A 77) (s A 78) (defArgs (inClass (stm A 27) 3)) (FuncBody.stmts (defBody (inClass (stm A 27) 3))) (defScope (inClass (stm A 27) 3)) 0 [] .none .none .none .none none .none .none 0)) #[])
def o_281 (A : AT) (P : Params) : Obj := (Obj.mk (.type (t A 2)) none (.fields #[(.str (s A 77) 462), (.str (s A 78) 463), (.str (s A 7) 464), (.int 69 0), (.int 4 0), (.int 0 0), (.int 0 0), (.int 3 0), (.ref 217), (.bool true), (.int 181 0), (.ref 218), .none, (.ref 219), (.ref 220), (.ref 221), (.int 469 0), (.int 69 0), (.str (s A 7) 470)]) #[])
def o_282 (A : AT) (P : Params) : Obj := (Obj.mk (.type (t A 1)) none (.func (FuncData.mk (s A 77) (s A 78) (defArgs (inClass (stm A 27) 3)) (FuncBody.stmts (defBody (inClass (stm A 27) 3))) (defScope (inClass (stm A 27) 3)) 3 [] .none .none .none (.str (s A 21) 402) none (.ref 222) .none 0)) #[])
def o_283 (A : AT) (P : Params) : Obj := (Obj.mk (.type (t A 0)) none (.seq #[(.str (s A 129) 472)] 0) #[])
def o_284 (A : AT) (P : Params) : Obj := (Obj.mk (.type (t A 3)) none (.dict #[(DictEntry.mk (keyHash P (s A 8)) (.str (s A 8) 431) (.str (s A 21) 402)), (DictEntry.mk (keyHash P (s A 10)) (.str (s A 10) 435) (.int 56 434)), (DictEntry.mk (keyHash P (s A 19)) (.str (s A 19) 443) (.ref 202)), (DictEntry.mk (keyHash P (s A 108)) (.str (s A 108) 451) (.ref 209)), (DictEntry.mk (keyHash P (s A 72)) (.str (s A 72) 461) (.ref 216)), (DictEntry.mk (keyHash P (s A 77)) (.str (s A 77) 471) (.ref 223)), (DictEntry.mk (keyHash P (s A 11)) (.str (s A 11) 473) (.ref 224)), (DictEntry.mk (keyHash P (s A 14)) (.str (s A 14) 474) .none)] 2) #[])
def o_285 (A : AT) (P : Params) : Obj := (Obj.mk (.type (t A 7)) none (.cls (ClassData.mk (s A 91) [(.ref 184)] [(.ref 226), (.ref 184), (.type (t A 12))] 225 (s A 91) true [] [] false none false)) #[(some (.ref 189)), none, (some (.str (s A 91) 424)), (some (.str (s A 91) 432)), (some (.builtin (t A 14))), (some (.bool true))])
def o_286 (A : AT) (P : Params) : Obj := (Obj.mk (.type (t A 15)) none (.fields #[(.ref 226), (.ref 226), (.ref 226)]) #[])
def o_287 (A : AT) (P : Params) : Obj := (Obj.mk (.type (t A 5)) none (.fields #[(.builtin (t A 16)), (.ref 226)]) #[])
def o_288 (A : AT) (P : Params) : Obj := (Obj.mk (.type (t A 3)) none (.dict #[(DictEntry.mk (keyHash P (s A 20)) (.str (s A 20) 165) (.str (s A 9) 477)), (DictEntry.mk (keyHash P (s A 14)) (.str (s A 14) 166) .none), (DictEntry.mk (keyHash P (s A 22)) (.str (s A 22) 167) .none), (DictEntry.mk (keyHash P (s A 23)) (.str (s A 23) 168) (.builtin (t A 8))), (DictEntry.mk (keyHash P (s A 24)) (.str (s A 24) 169) .none), (DictEntry.mk (keyHash P (s A 25)) (.str (s A 25) 170) (.ref 6)), (DictEntry.mk (keyHash P (s A 26)) (.str (s A 26) 171) (.ref 4)), (DictEntry.mk (keyHash P (s A 27)) (.str (s A 27) 173) (.str (s A 7) 172)), (DictEntry.mk (keyHash P (s A 28)) (.str (s A 28) 174) .none), (DictEntry.mk (keyHash P (s A 29)) (.str (s A 29) 193) (.ref 21)), (DictEntry.mk (keyHash P (s A 30)) (.str (s A 30) 213) (.ref 31)), (DictEntry.mk (keyHash P (s A 31)) (.str (s A 31) 229) (.ref 44)), (DictEntry.mk (keyHash P (s A 32)) (.str (s A 32) 245) (.ref 56)), (DictEntry.mk (keyHash P (s A 33)) (.str (s A 33) 261) (.ref 68)), (DictEntry.mk (keyHash P (s A 34)) (.str (s A 34) 277) (.ref 80)), (DictEntry.mk (keyHash P (s A 35)) (.str (s A 35) 302) (.ref 100)), (DictEntry.mk (keyHash P (s A 36)) (.str (s A 36) 328) (.ref 120)), (DictEntry.mk (keyHash P (s A 37)) (.str (s A 37) 337) (.ref 129)), (DictEntry.mk (keyHash P (s A 38)) (.str (s A 38) 346) (.ref 136)), (DictEntry.mk (keyHash P (s A 39)) (.str (s A 39) 354) (.ref 143)), (DictEntry.mk (keyHash P (s A 40)) (.str (s A 40) 358) (.int 60 357)), (DictEntry.mk (keyHash P (s A 41)) (.str (s A 41) 360) (.int 1440 359)), (DictEntry.mk (keyHash P (s A 42)) (.str (s A 42) 367) (.ref 150)), (DictEntry.mk (keyHash P (s A 43)) (.str (s A 43) 374) (.ref 157)), (DictEntry.mk (keyHash P (s A 44)) (.str (s A 44) 381) (.ref 164)), (DictEntry.mk (keyHash P (s A 45)) (.str (s A 45) 385) (.str (s A 46) 384)), (DictEntry.mk (keyHash P (s A 47)) (.str (s A 47) 387) (.int 8 386)), (DictEntry.mk (keyHash P (s A 3)) (.str (s A 3) 393) (.ref 169)), (DictEntry.mk (keyHash P (s A 48)) (.str (s A 48) 401) (.ref 174)), (DictEntry.mk (keyHash P (s A 49)) (.str (s A 49) 423) (.ref 184)), (DictEntry.mk (keyHash P (s A 91)) (.str (s A 91) 476) (.ref 226)), (DictEntry.mk (keyHash P (s A 16)) (.str (s A 16) 498) (.ref 238))] 32) #[])
def o_289 (A : AT) (P : Params) : Obj := (Obj.mk .none none (.fields #[(.int 1 0), (.int 0 0), (.ref 20), (.int 5 0), (.int 0 0), (.ref 27), (.int 7 0), (.int 0 0), (.ref 40), (.int 9 0), (.int 0 0), (.ref 52), (.int 11 0), (.int 0 0), (.ref 64), (.int 13 0), (.int 0 0), (.ref 76), (.int 15 0), (.int 0 0), (.ref 88), (.int 19 0), (.int 0 0), (.ref 108), (.int 24 0), (.int 0 0), (.ref 128), (.int 26 0), (.int 0 0), (.ref 135), (.int 28 0), (.int 0 0), (.ref 142), (.int 33 0), (.int 0 0), (.ref 149), (.int 35 0), (.int 0 0), (.ref 156), (.int 38 0), (.int 0 0), (.ref 163), (.int 44 0), (.int 0 0), (.ref 168), (.int 49 0), (.int 0 0), (.ref 173), (.int 54 0), (.int 0 0), (.ref 180), (.int 56 0), (.int 0 0), (.ref 194), (.int 72 0), (.int 0 0), (.ref 234)]) #[])
def o_290 (A : AT) (P : Params) : Obj := (Obj.mk (.type (t A 0)) none (.seq #[] 0) #[])
def o_291 (A : AT) (P : Params) : Obj := (Obj.mk (.type (t A 5)) none (.fields #[(.builtin (t A 6)), (.type (t A 7))]) #[])
def o_292 (A : AT) (P : Params) : Obj := (Obj.mk (.type (t A 3)) none (.dict #[(DictEntry.mk (keyHash P (s A 8)) (.str (s A 8) 486) (.str (s A 9) 477)), (DictEntry.mk (keyHash P (s A 15)) (.str (s A 15) 488) (.str (s A 16) 487)), (DictEntry.mk (keyHash P (s A 10)) (.str (s A 10) 490) (.int 72 489)), (DictEntry.mk (keyHash P (s A 11)) (.str (s A 11) 491) (.ref 236))] 4) #[])
def o_293 (A : AT) (P : Params) : Obj := (Obj.mk (.type (t A 0)) none (.seq #[] 0) #[])
def o_294 (A : AT) (P : Params) : Obj := (Obj.mk .none none (.fields #[]) #[])
def o_295 (A : AT) (P : Params) : Obj := (Obj.mk (.type (t A 2)) none (.fields #[(.str (s A 16) 481), (.str (s A 16) 482), (.str (s A 7) 483), (.int 72 0), (.int 0 0), (.int 0 0), (.int 0 0), (.int 0 0), (.ref 232), (.bool false), (.int 181 0), (.ref 233), .none, .none, .none, .none, (.int 484 0), (.int 72 0), (.str (s A 7) 485)]) #[])
def o_296 (A : AT) (P : Params) : Obj := (Obj.mk (.type (t A 4)) none .plain #[(some (.ref 234)), (some (.ref 3)), (some (.ref 231)), none, (some (.str (s A 9) 477)), none, (some (.ref 0))])
def o_297 (A : AT) (P : Params) : Obj := (Obj.mk (.type (t A 0)) none (.seq #[] 0) #[])
def o_298 (A : AT) (P : Params) : Obj := (Obj.mk (.type (t A 3)) none (.dict #[(DictEntry.mk (keyHash P (s A 8)) (.str (s A 8) 486) (.str (s A 9) 477)), (DictEntry.mk (keyHash P (s A 10)) (.str (s A 10) 490) (.int 72 489)), (DictEntry.mk (keyHash P (s A 11)) (.str (s A 11) 491) (.ref 236)), (DictEntry.mk (keyHash P (s A 12)) (.str (s A 12) 493) (.ref 239)), (DictEntry.mk (keyHash P (s A 13)) (.str (s A 13) 495) (.ref 240)), (DictEntry.mk (keyHash P (s A 14)) (.str (s A 14) 496) .none)] 4) #[])
def o_299 (A : AT) (P : Params) : Obj := (Obj.mk (.type (t A 7)) none (.cls (ClassData.mk (s A 16) [(.type (t A 12))] [(.ref 238), (.type (t A 12))] 237 (s A 16) true [] [] false none false)) #[none, none, (some (.str (s A 16) 479)), (some (.str (s A 16) 487)), (some (.builtin (t A 14))), (some (.bool true))])
def o_300 (A : AT) (P : Params) : Obj := (Obj.mk (.type (t A 17)) none (.fields #[(.str (s A 12) 492), (.ref 238), (.builtin (t A 19)), (.builtin (t A 20))]) #[])
def o_301 (A : AT) (P : Params) : Obj := (Obj.mk (.type (t A 17)) none (.fields #[(.str (s A 13) 494), (.ref 238), (.builtin (t A 18)), .none]) #[])
def o_302 (A : AT) (P : Params) : Obj := (Obj.mk (.type (t A 15)) none (.fields #[(.ref 238), (.ref 238), (.ref 238)]) #[])
def o_303 (A : AT) (P : Params) : Obj := (Obj.mk (.type (t A 5)) none (.fields #[(.builtin (t A 16)), (.ref 238)]) #[])
def o_304 (A : AT) (P : Params) : Obj := (Obj.mk (.type (t A 3)) none (.dict #[(DictEntry.mk (keyHash P (s A 20)) (.str (s A 20) 165) (.str (s A 9) 477)), (DictEntry.mk (keyHash P (s A 14)) (.str (s A 14) 166) .none), (DictEntry.mk (keyHash P (s A 22)) (.str (s A 22) 167) .none), (DictEntry.mk (keyHash P (s A 23)) (.str (s A 23) 168) (.builtin (t A 8))), (DictEntry.mk (keyHash P (s A 24)) (.str (s A 24) 169) .none), (DictEntry.mk (keyHash P (s A 25)) (.str (s A 25) 170) (.ref 6)), (DictEntry.mk (keyHash P (s A 26)) (.str (s A 26) 171) (.ref 4)), (DictEntry.mk (keyHash P (s A 27)) (.str (s A 27) 173) (.str (s A 7) 172)), (DictEntry.mk (keyHash P (s A 28)) (.str (s A 28) 174) .none), (DictEntry.mk (keyHash P (s A 29)) (.str (s A 29) 193) (.ref 21)), (DictEntry.mk (keyHash P (s A 30)) (.str (s A 30) 213) (.ref 31)), (DictEntry.mk (keyHash P (s A 31)) (.str (s A 31) 229) (.ref 44)), (DictEntry.mk (keyHash P (s A 32)) (.str (s A 32) 245) (.ref 56)), (DictEntry.mk (keyHash P (s A 33)) (.str (s A 33) 261) (.ref 68)), (DictEntry.mk (keyHash P (s A 34)) (.str (s A 34) 277) (.ref 80)), (DictEntry.mk (keyHash P (s A 35)) (.str (s A 35) 302) (.ref 100)), (DictEntry.mk (keyHash P (s A 36)) (.str (s A 36) 328) (.ref 120)), (DictEntry.mk (keyHash P (s A 37)) (.str (s A 37) 337) (.ref 129)), (DictEntry.mk (keyHash P (s A 38)) (.str (s A 38) 346) (.ref 136)), (DictEntry.mk (keyHash P (s A 39)) (.str (s A 39) 354) (.ref 143)), (DictEntry.mk (keyHash P (s A 40)) (.str (s A 40) 358) (.int 60 357)), (DictEntry.mk (keyHash P (s A 41)) (.str (s A 41) 360) (.int 1440 359)), (DictEntry.mk (keyHash P (s A 42)) (.str (s A 42) 367) (.ref 150)), (DictEntry.mk (keyHash P (s A 43)) (.str (s A 43) 374) (.ref 157)), (DictEntry.mk (keyHash P (s A 44)) (.str (s A 44) 381) (.ref 164)), (DictEntry.mk (keyHash P (s A 45)) (.str (s A 45) 385) (.str (s A 46) 384)), (DictEntry.mk (keyHash P (s A 47)) (.str (s A 47) 387) (.int 8 386)), (DictEntry.mk (keyHash P (s A 3)) (.str (s A 3) 393) (.ref 169)), (DictEntry.mk (keyHash P (s A 48)) (.str (s A 48) 401) (.ref 174)), (DictEntry.mk (keyHash P (s A 49)) (.str (s A 49) 423) (.ref 184)), (DictEntry.mk (keyHash P (s A 91)) (.str (s A 91) 476) (.ref 226)), (DictEntry.mk (keyHash P (s A 16)) (.str (s A 16) 498) (.ref 238)), (DictEntry.mk (keyHash P (s A 17)) (.str (s A 17) 530) (.ref 266))] 33) #[])
def o_305 (A : AT) (P : Params) : Obj := (Obj.mk .none none (.fields #[(.int 1 0), (.int 0 0), (.ref 20), (.int 5 0), (.int 0 0), (.ref 27), (.int 7 0), (.int 0 0), (.ref 40), (.int 9 0), (.int 0 0), (.ref 52), (.int 11 0), (.int 0 0), (.ref 64), (.int 13 0), (.int 0 0), (.ref 76), (.int 15 0), (.int 0 0), (.ref 88), (.int 19 0), (.int 0 0), (.ref 108), (.int 24 0), (.int 0 0), (.ref 128), (.int 26 0), (.int 0 0), (.ref 135), (.int 28 0), (.int 0 0), (.ref 142), (.int 33 0), (.int 0 0), (.ref 149), (.int 35 0), (.int 0 0), (.ref 156), (.int 38 0), (.int 0 0), (.ref 163), (.int 44 0), (.int 0 0), (.ref 168), (.int 49 0), (.int 0 0), (.ref 173), (.int 54 0), (.int 0 0), (.ref 180), (.int 56 0), (.int 0 0), (.ref 194), (.int 72 0), (.int 0 0), (.ref 234), (.int 74 0), (.int 0 0), (.ref 248)]) #[])
def o_306 (A : AT) (P : Params) : Obj := (Obj.mk (.type (t A 7)) none (.cls (ClassData.mk (s A 16) [(.type (t A 12))] [(.ref 238), (.type (t A 12))] 237 (s A 16) true [] [(.ref 266)] false none false)) #[none, none, (some (.str (s A 16) 479)), (some (.str (s A 16) 487)), (some (.builtin (t A 14))), (some (.bool true))])
def o_307 (A : AT) (P : Params) : Obj := (Obj.mk (.type (t A 0)) none (.seq #[(.ref 238)] 0) #[])
def o_308 (A : AT) (P : Params) : Obj := (Obj.mk (.type (t A 5)) none (.fields #[(.builtin (t A 6)), (.type (t A 7))]) #[])
def o_309 (A : AT) (P : Params) : Obj := (Obj.mk (.type (t A 3)) none (.dict #[(DictEntry.mk (keyHash P (s A 8)) (.str (s A 8) 506) (.str (s A 9) 477)), (DictEntry.mk (keyHash P (s A 15)) (.str (s A 15) 508) (.str (s A 17) 507)), (DictEntry.mk (keyHash P (s A 10)) (.str (s A 10) 510) (.int 74 509)), (DictEntry.mk (keyHash P (s A 60)) (.str (s A 60) 519) (.ref 256)), (DictEntry.mk (keyHash P (s A 50)) (.str (s A 50) 526) (.ref 263)), (DictEntry.mk (keyHash P (s A 11)) (.str (s A 11) 527) (.ref 264))] 6) #[])
def o_310 (A : AT) (P : Params) : Obj := (Obj.mk (.type (t A 0)) none (.seq #[] 0) #[])
def o_311 (A : AT) (P : Params) : Obj := (Obj.mk .none none (.fields #[(.int 76 0), (.int 4 0), (.ref 255), (.int 79 0), (.int 4 0), (.ref 262)]) #[])
def o_312 (A : AT) (P : Params) : Obj := (Obj.mk (.type (t A 2)) none (.fields #[(.str (s A 17) 501), (.str (s A 17) 502), (.str (s A 7) 503), (.int 74 0), (.int 0 0), (.int 0 0), (.int 0 0), (.int 0 0), (.ref 246), (.bool false), (.int 181 0), (.ref 247), .none, .none, .none, .none, (.int 504 0), (.int 74 0), (.str (s A 7) 505)]) #[])
def o_313 (A : AT) (P : Params) : Obj := (Obj.mk (.type (t A 4)) none .plain #[(some (.ref 248)), (some (.ref 3)), (some (.ref 245)), none, (some (.str (s A 9) 477)), none, (some (.ref 0))])
def o_314 (A : AT) (P : Params) : Obj := (Obj.mk (.type (t A 0)) none (.seq #[] 0) #[])
def o_315 (A : AT) (P : Params) : Obj := (Obj.mk .none none (.fields #[]) #[])
def o_316 (A : AT) (P : Params) : Obj := (Obj.mk (.type (t A 0)) none (.seq #[(.str (s A 74) 514), (.str (s A 94) 515), (.str (s A 95) 516)] 0) #[])
def o_317 (A : AT) (P : Params) : Obj := (Obj.mk (.type (t A 0)) none (.seq #[] 0) #[])
def o_318 (A : AT) (P : Params) : Obj := (Obj.mk .none none (.func (FuncData.mk (s A 60) (s A 130) (defArgs (inClass (stm A 30) 0)) (FuncBody.stmts (defBody (inClass (stm A 30) 0))) (defScope (inClass (stm A 30) 0)) 0 [] .none .none .none .none none .none .none 0)) #[])
def o_319 (A : AT) (P : Params) : Obj := (Obj.mk (.type (t A 2)) none (.fields #[(.str (s A 60) 511), (.str (s A 130) 512), (.str (s A 7) 513), (.int 76 0), (.int 3 0), (.int 0 0), (.int 0 0), (.int 3 0), (.ref 250), (.bool true), (.int 181 0), (.ref 251), .none, (.ref 252), (.ref 253), (.ref 254), (.int 517 0), (.int 76 0), (.str (s A 7) 518)]) #[])
def o_320 (A : AT) (P : Params) : Obj := (Obj.mk (.type (t A 1)) none (.func (FuncData.mk (s A 60) (s A 130) (defArgs (inClass (stm A 30) 0)) (FuncBody.stmts (defBody (inClass (stm A 30) 0))) (defScope (inClass (stm A 30) 0)) 3 [] .none .none .none (.str (s A 9) 477) none (.ref 255) .none 0)) #[])
def o_321 (A : AT) (P : Params) : Obj := (Obj.mk (.type (t A 0)) none (.seq #[] 0) #[])
def o_322 (A : AT) (P : Params) : Obj := (Obj.mk .none none (.fields #[]) #[])
def o_323 (A : AT) (P : Params) : Obj := (Obj.mk (.type (t A 0)) none (.seq #[(.str (s A 74) 523)] 0) #[])
def o_324 (A : AT) (P : Params) : Obj := (Obj.mk (.type (t A 0)) none (.seq #[] 0) #[])
def o_325 (A : AT) (P : Params) : Obj := (Obj.mk .none none (.func (FuncData.mk (s A 50) (s A 113) (defArgs (inClass (stm A 30) 1)) (FuncBody.stmts (defBody (inClass (stm A 30) 1))) (defScope (inClass (stm A 30) 1)) 0 [] .none .none .none .none none .none .none 0)) #[])
def o_326 (A : AT) (P : Params) : Obj := (Obj.mk (.type (t A 2)) none (.fields #[(.str (s A 50) 520), (.str (s A 113) 521), (.str (s A 7) 522), (.int 79 0), (.int 1 0), (.int 0 0), (.int 0 0), (.int 3 0), (.ref 257), (.bool true), (.int 181 0), (.ref 258), .none, (.ref 259), (.ref 260), (.ref 261), (.int 524 0), (.int 79 0), (.str (s A 7) 525)]) #[])
def o_327 (A : AT) (P : Params) : Obj := (Obj.mk (.type (t A 1)) none (.func (FuncData.mk (s A 50) (s A 113) (defArgs (inClass (stm A 30) 1)) (FuncBody.stmts (defBody (inClass (stm A 30) 1))) (defScope (inClass (stm A 30) 1)) 3 [] .none .none .none (.str (s A 9) 477) none (.ref 262) .none 0)) #[])
def o_328 (A : AT) (P : Params) : Obj := (Obj.mk (.type (t A 0)) none (.seq #[] 0) #[])
def o_329 (A : AT) (P : Params) : Obj := (Obj.mk (.type (t A 3)) none (.dict #[(DictEntry.mk (keyHash P (s A 8)) (.str (s A 8) 506) (.str (s A 9) 477)), (DictEntry.mk (keyHash P (s A 10)) (.str (s A 10) 510) (.int 74 509)), (DictEntry.mk (keyHash P (s A 60)) (.str (s A 60) 519) (.ref 256)), (DictEntry.mk (keyHash P (s A 50)) (.str (s A 50) 526) (.ref 263)), (DictEntry.mk (keyHash P (s A 11)) (.str (s A 11) 527) (.ref 264)), (DictEntry.mk (keyHash P (s A 14)) (.str (s A 14) 528) .none)] 2) #[])
def o_330 (A : AT) (P : Params) : Obj := (Obj.mk (.type (t A 7)) none (.cls (ClassData.mk (s A 17) [(.ref 238)] [(.ref 266), (.ref 238), (.type (t A 12))] 265 (s A 17) true [] [] false none false)) #[(some (.ref 243)), none, (some (.str (s A 17) 499)), (some (.str (s A 17) 507)), (some (.builtin (t A 14))), (some (.bool true))])
def o_331 (A : AT) (P : Params) : Obj := (Obj.mk (.type (t A 15)) none (.fields #[(.ref 266), (.ref 266), (.ref 266)]) #[])
def o_332 (A : AT) (P : Params) : Obj := (Obj.mk (.type (t A 5)) none (.fields #[(.builtin (t A 16)), (.ref 266)]) #[])
def o_333 (A : AT) (P : Params) : Obj := (Obj.mk (.type (t A 3)) none (.dict #[(DictEntry.mk (keyHash P (s A 20)) (.str (s A 20) 165) (.str (s A 9) 477)), (DictEntry.mk (keyHash P (s A 14)) (.str (s A 14) 166) .none), (DictEntry.mk (keyHash P (s A 22)) (.str (s A 22) 167) .none), (DictEntry.mk (keyHash P (s A 23)) (.str (s A 23) 168) (.builtin (t A 8))), (DictEntry.mk (keyHash P (s A 24)) (.str (s A 24) 169) .none), (DictEntry.mk (keyHash P (s A 25)) (.str (s A 25) 170) (.ref 6)), (DictEntry.mk (keyHash P (s A 26)) (.str (s A 26) 171) (.ref 4)), (DictEntry.mk (keyHash P (s A 27)) (.str (s A 27) 173) (.str (s A 7) 172)), (DictEntry.mk (keyHash P (s A 28)) (.str (s A 28) 174) .none), (DictEntry.mk (keyHash P (s A 29)) (.str (s A 29) 193) (.ref 21)), (DictEntry.mk (keyHash P (s A 30)) (.str (s A 30) 213) (.ref 31)), (DictEntry.mk (keyHash P (s A 31)) (.str (s A 31) 229) (.ref 44)), (DictEntry.mk (keyHash P (s A 32)) (.str (s A 32) 245) (.ref 56)), (DictEntry.mk (keyHash P (s A 33)) (.str (s A 33) 261) (.ref 68)), (DictEntry.mk (keyHash P (s A 34)) (.str (s A 34) 277) (.ref 80)), (DictEntry.mk (keyHash P (s A 35)) (.str (s A 35) 302) (.ref 100)), (DictEntry.mk (keyHash P (s A 36)) (.str (s A 36) 328) (.ref 120)), (DictEntry.mk (keyHash P (s A 37)) (.str (s A 37) 337) (.ref 129)), (DictEntry.mk (keyHash P (s A 38)) (.str (s A 38) 346) (.ref 136)), (DictEntry.mk (keyHash P (s A 39)) (.str (s A 39) 354) (.ref 143)), (DictEntry.mk (keyHash P (s A 40)) (.str (s A 40) 358) (.int 60 357)), (DictEntry.mk (keyHash P (s A 41)) (.str (s A 41) 360) (.int 1440 359)), (DictEntry.mk (keyHash P (s A 42)) (.str (s A 42) 367) (.ref 150)), (DictEntry.mk (keyHash P (s A 43)) (.str (s A 43) 374) (.ref 157)), (DictEntry.mk (keyHash P (s A 44)) (.str (s A 44) 381) (.ref 164)), (DictEntry.mk (keyHash P (s A 45)) (.str (s A 45) 385) (.str (s A 46) 384)), (DictEntry.mk (keyHash P (s A 47)) (.str (s A 47) 387) (.int 8 386)), (DictEntry.mk (keyHash P (s A 3)) (.str (s A 3) 393) (.ref 169)), (DictEntry.mk (keyHash P (s A 48)) (.str (s A 48) 401) (.ref 174)), (DictEntry.mk (keyHash P (s A 49)) (.str (s A 49) 423) (.ref 184)), (DictEntry.mk (keyHash P (s A 91)) (.str (s A 91) 476) (.ref 226)), (DictEntry.mk (keyHash P (s A 16)) (.str (s A 16) 498) (.ref 238)), (DictEntry.mk (keyHash P (s A 17)) (.str (s A 17) 530) (.ref 266)), (DictEntry.mk (keyHash P (s A 92)) (.str (s A 92) 571) (.ref 299))] 34) #[])
def o_334 (A : AT) (P : Params) : Obj := (Obj.mk .none none (.fields #[(.int 1 0), (.int 0 0), (.ref 20), (.int 5 0), (.int 0 0), (.ref 27), (.int 7 0), (.int 0 0), (.ref 40), (.int 9 0), (.int 0 0), (.ref 52), (.int 11 0), (.int 0 0), (.ref 64), (.int 13 0), (.int 0 0), (.ref 76), (.int 15 0), (.int 0 0), (.ref 88), (.int 19 0), (.int 0 0), (.ref 108), (.int 24 0), (.int 0 0), (.ref 128), (.int 26 0), (.int 0 0), (.ref 135), (.int 28 0), (.int 0 0), (.ref 142), (.int 33 0), (.int 0 0), (.ref 149), (.int 35 0), (.int 0 0), (.ref 156), (.int 38 0), (.int 0 0), (.ref 163), (.int 44 0), (.int 0 0), (.ref 168), (.int 49 0), (.int 0 0), (.ref 173), (.int 54 0), (.int 0 0), (.ref 180), (.int 56 0), (.int 0 0), (.ref 194), (.int 72 0), (.int 0 0), (.ref 234), (.int 74 0), (.int 0 0), (.ref 248), (.int 81 0), (.int 0 0), (.ref 274)]) #[])
def o_335 (A : AT) (P : Params) : Obj := (Obj.mk (.type (t A 7)) none (.cls (ClassData.mk (s A 16) [(.type (t A 12))] [(.ref 238), (.type (t A 12))] 237 (s A 16) true [] [(.ref 266), (.ref 299)] false none false)) #[none, none, (some (.str (s A 16) 479)), (some (.str (s A 16) 487)), (some (.builtin (t A 14))), (some (.bool true))])
def o_336 (A : AT) (P : Params) : Obj := (Obj.mk (.type (t A 0)) none (.seq #[(.ref 238)] 0) #[])
def o_337 (A : AT) (P : Params) : Obj := (Obj.mk (.type (t A 5)) none (.fields #[(.builtin (t A 6)), (.type (t A 7))]) #[])
def o_338 (A : AT) (P : Params) : Obj := (Obj.mk (.type (t A 3)) none (.dict #[(DictEntry.mk (keyHash P (s A 8)) (.str (s A 8) 538) (.str (s A 9) 477)), (DictEntry.mk (keyHash P (s A 15)) (.str (s A 15) 540) (.str (s A 92) 539)), (DictEntry.mk (keyHash P (s A 10)) (.str (s A 10) 542) (.int 81 541)), (DictEntry.mk (keyHash P (s A 19)) (.str (s A 19) 550) (.ref 282)), (DictEntry.mk (keyHash P (s A 60)) (.str (s A 60) 559) (.ref 289)), (DictEntry.mk (keyHash P (s A 50)) (.str (s A 50) 566) (.ref 296)), (DictEntry.mk (keyHash P (s A 11)) (.str (s A 11) 568) (.ref 297))] 7) #[])
def o_339 (A : AT) (P : Params) : Obj := (Obj.mk (.type (t A 0)) none (.seq #[] 0) #[])
def o_340 (A : AT) (P : Params) : Obj := (Obj.mk .none none (.fields #[(.int 83 0), (.int 4 0), (.ref 281), (.int 87 0), (.int 4 0), (.ref 288), (.int 90 0), (.int 4 0), (.ref 295)]) #[])
def o_341 (A : AT) (P : Params) : Obj := (Obj.mk (.type (t A 2)) none (.fields #[(.str (s A 92) 533), (.str (s A 92) 534), (.str (s A 7) 535), (.int 81 0), (.int 0 0), (.int 0 0), (.int 0 0), (.int 0 0), (.ref 272), (.bool false), (.int 181 0), (.ref 273), .none, .none, .none, .none, (.int 536 0), (.int 81 0), (.str (s A 7) 537)]) #[])
def o_342 (A : AT) (P : Params) : Obj := (Obj.mk (.type (t A 4)) none .plain #[(some (.ref 274)), (some (.ref 3)), (some (.ref 271)), none, (some (.str (s A 9) 477)), none, (some (.ref 0))])
def o_343 (A : AT) (P : Params) : Obj := (Obj.mk (.type (t A 0)) none (.seq #[] 0) #[])
def o_344 (A : AT) (P : Params) : Obj := (Obj.mk .none none (.fields #[]) #[])
def o_345 (A : AT) (P : Params) : Obj := (Obj.mk (.type (t A 0)) none (.seq #[(.str (s A 74) 546), (.str (s A 5) 547)] 0) #[])
def o_346 (A : AT) (P : Params) : Obj := (Obj.mk (.type (t A 0)) none (.seq #[] 0) #[])
def o_347 (A : AT) (P : Params) : Obj := (Obj.mk .none none (.func (FuncData.mk (s A 19) (s A 111) (defArgs (inClass (stm A 31) 0)) (FuncBody.stmts (defBody (inClass (stm A 31) 0))) (defScope (inClass (stm A 31) 0)) 0 [] .none .none .none .none none .none .none 0)) #[])
def o_348 (A : AT) (P : Params) : Obj := (Obj.mk (.type (t A 2)) none (.fields #[(.str (s A 19) 543), (.str (s A 111) 544), (.str (s A 7) 545), (.int 83 0), (.int 2 0), (.int 0 0), (.int 0 0), (.int 3 0), (.ref 276), (.bool true), (.int 181 0), (.ref 277), .none, (.ref 278), (.ref 279), (.ref 280), (.int 548 0), (.int 83 0), (.str (s A 7) 549)]) #[])
def o_349 (A : AT) (P : Params) : Obj := (Obj.mk (.type (t A 1)) none (.func (FuncData.mk (s A 19) (s A 111) (defArgs (inClass (stm A 31) 0)) (FuncBody.stmts (defBody (inClass (stm A 31) 0))) (defScope (inClass (stm A 31) 0)) 3 [] .none .none .none (.str (s A 9) 477) none (.ref 281) .none 0)) #[])
def o_350 (A : AT) (P : Params) : Obj := (Obj.mk (.type (t A 0)) none (.seq #[] 0) #[])
def o_351 (A : AT) (P : Params) : Obj := (Obj.mk .none none (.fields #[]) #[])
def o_352 (A : AT) (P : Params) : Obj := (Obj.mk (.type (t A 0)) none (.seq #[(.str (s A 74) 554), (.str (s A 94) 555), (.str (s A 95) 556)] 0) #[])
def o_353 (A : AT) (P : Params) : Obj := (Obj.mk (.type (t A 0)) none (.seq #[] 0) #[])
def o_354 (A : AT) (P : Params) : Obj := (Obj.mk .none none (.func (FuncData.mk (s A 60) (s A 82) (defArgs (inClass (stm A 31) 1)) (FuncBody.stmts (defBody (inClass (stm A 31) 1))) (defScope (inClass (stm A 31) 1)) 0 [] .none .none .none .none none .none .none 0)) #[])
def o_355 (A : AT) (P : Params) : Obj := (Obj.mk (.type (t A 2)) none (.fields #[(.str (s A 60) 551), (.str (s A 82) 552), (.str (s A 7) 553), (.int 87 0), (.int 3 0), (.int 0 0), (.int 0 0), (.int 3 0), (.ref 283), (.bool true), (.int 181 0), (.ref 284), .none, (.ref 285), (.ref 286), (.ref 287), (.int 557 0), (.int 87 0), (.str (s A 7) 558)]) #[])
def o_356 (A : AT) (P : Params) : Obj := (Obj.mk (.type (t A 1)) none (.func (FuncData.mk (s A 60) (s A 82) (defArgs (inClass (stm A 31) 1)) (FuncBody.stmts (defBody (inClass (stm A 31) 1))) (defScope (inClass (stm A 31) 1)) 3 [] .none .none .none (.str (s A 9) 477) none (.ref 288) .none 0)) #[])
def o_357 (A : AT) (P : Params) : Obj := (Obj.mk (.type (t A 0)) none (.seq #[] 0) #[])
def o_358 (A : AT) (P : Params) : Obj := (Obj.mk .none none (.fields #[]) #[])
def o_359 (A : AT) (P : Params) : Obj := (Obj.mk (.type (t A 0)) none (.seq #[(.str (s A 74) 563)] 0) #[])
def o_360 (A : AT) (P : Params) : Obj := (Obj.mk (.type (t A 0)) none (.seq #[] 0) #[])
def o_361 (A : AT) (P : Params) : Obj := (Obj.mk .none none (.func (FuncData.mk (s A 50) (s A 51) (defArgs (inClass (stm A 31) 2)) (FuncBody.stmts (defBody (inClass (stm A 31) 2))) (defScope (inClass (stm A 31) 2)) 0 [] .none .none .none .none none .none .none 0)) #[])
def o_362 (A : AT) (P : Params) : Obj := (Obj.mk (.type (t A 2)) none (.fields #[(.str (s A 50) 560), (.str (s A 51) 561), (.str (s A 7) 562), (.int 90 0), (.int 1 0), (.int 0 0), (.int 0 0), (.int 3 0), (.ref 290), (.bool true), (.int 181 0), (.ref 291), .none, (.ref 292), (.ref 293), (.ref 294), (.int 564 0), (.int 90 0), (.str (s A 7) 565)]) #[])
def o_363 (A : AT) (P : Params) : Obj := (Obj.mk (.type (t A 1)) none (.func (FuncData.mk (s A 50) (s A 51) (defArgs (inClass (stm A 31) 2)) (FuncBody.stmts (defBody (inClass (stm A 31) 2))) (defScope (inClass (stm A 31) 2)) 3 [] .none .none .none (.str (s A 9) 477) none (.ref 295) .none 0)) #[])
def o_364 (A : AT) (P : Params) : Obj := (Obj.mk (.type (t A 0)) none (.seq #[(.str (s A 5) 567)] 0) #[])
def o_365 (A : AT) (P : Params) : Obj := (Obj.mk (.type (t A 3)) none (.dict #[(DictEntry.mk (keyHash P (s A 8)) (.str (s A 8) 538) (.str (s A 9) 477)), (DictEntry.mk (keyHash P (s A 10)) (.str (s A 10) 542) (.int 81 541)), (DictEntry.mk (keyHash P (s A 19)) (.str (s A 19) 550) (.ref 282)), (DictEntry.mk (keyHash P (s A 60)) (.str (s A 60) 559) (.ref 289)), (DictEntry.mk (keyHash P (s A 50)) (.str (s A 50) 566) (.ref 296)), (DictEntry.mk (keyHash P (s A 11)) (.str (s A 11) 568) (.ref 297)), (DictEntry.mk (keyHash P (s A 14)) (.str (s A 14) 569) .none)] 2) #[])
def o_366 (A : AT) (P : Params) : Obj := (Obj.mk (.type (t A 7)) none (.cls (ClassData.mk (s A 92) [(.ref 238)] [(.ref 299), (.ref 238), (.type (t A 12))] 298 (s A 92) true [] [] false none false)) #[(some (.ref 269)), none, (some (.str (s A 92) 531)), (some (.str (s A 92) 539)), (some (.builtin (t A 14))), (some (.bool true))])
def o_367 (A : AT) (P : Params) : Obj := (Obj.mk (.type (t A 15)) none (.fields #[(.ref 299), (.ref 299), (.ref 299)]) #[])
def o_368 (A : AT) (P : Params) : Obj := (Obj.mk (.type (t A 5)) none (.fields #[(.builtin (t A 16)), (.ref 299)]) #[])
def o_369 (A : AT) (P : Params) : Obj := (Obj.mk (.type (t A 3)) none (.dict #[(DictEntry.mk (keyHash P (s A 20)) (.str (s A 20) 165) (.str (s A 9) 477)), (DictEntry.mk (keyHash P (s A 14)) (.str (s A 14) 166) .none), (DictEntry.mk (keyHash P (s A 22)) (.str (s A 22) 167) .none), (DictEntry.mk (keyHash P (s A 23)) (.str (s A 23) 168) (.builtin (t A 8))), (DictEntry.mk (keyHash P (s A 24)) (.str (s A 24) 169) .none), (DictEntry.mk (keyHash P (s A 25)) (.str (s A 25) 170) (.ref 6)), (DictEntry.mk (keyHash P (s A 26)) (.str (s A 26) 171) (.ref 4)), (DictEntry.mk (keyHash P (s A 27)) (.str (s A 27) 173) (.str (s A 7) 172)), (DictEntry.mk (keyHash P (s A 28)) (.str (s A 28) 174) .none), (DictEntry.mk (keyHash P (s A 29)) (.str (s A 29) 193) (.ref 21)), (DictEntry.mk (keyHash P (s A 30)) (.str (s A 30) 213) (.ref 31)), (DictEntry.mk (keyHash P (s A 31)) (.str (s A 31) 229) (.ref 44)), (DictEntry.mk (keyHash P (s A 32)) (.str (s A 32) 245) (.ref 56)), (DictEntry.mk (keyHash P (s A 33)) (.str (s A 33) 261) (.ref 68)), (DictEntry.mk (keyHash P (s A 34)) (.str (s A 34) 277) (.ref 80)), (DictEntry.mk (keyHash P (s A 35)) (.str (s A 35) 302) (.ref 100)), (DictEntry.mk (keyHash P (s A 36)) (.str (s A 36) 328) (.ref 120)), (DictEntry.mk (keyHash P (s A 37)) (.str (s A 37) 337) (.ref 129)), (DictEntry.mk (keyHash P (s A 38)) (.str (s A 38) 346) (.ref 136)), (DictEntry.mk (keyHash P (s A 39)) (.str (s A 39) 354) (.ref 143)), (DictEntry.mk (keyHash P (s A 40)) (.str (s A 40) 358) (.int 60 357)), (DictEntry.mk (keyHash P (s A 41)) (.str (s A 41) 360) (.int 1440 359)), (DictEntry.mk (keyHash P (s A 42)) (.str (s A 42) 367) (.ref 150)), (DictEntry.mk (keyHash P (s A 43)) (.str (s A 43) 374) (.ref 157)), (DictEntry.mk (keyHash P (s A 44)) (.str (s A 44) 381) (.ref 164)), (DictEntry.mk (keyHash P (s A 45)) (.str (s A 45) 385) (.str (s A 46) 384)), (DictEntry.mk (keyHash P (s A 47)) (.str (s A 47) 387) (.int 8 386)), (DictEntry.mk (keyHash P (s A 3)) (.str (s A 3) 393) (.ref 169)), (DictEntry.mk (keyHash P (s A 48)) (.str (s A 48) 401) (.ref 174)), (DictEntry.mk (keyHash P (s A 49)) (.str (s A 49) 423) (.ref 184)), (DictEntry.mk (keyHash P (s A 91)) (.str (s A 91) 476) (.ref 226)), (DictEntry.mk (keyHash P (s A 16)) (.str (s A 16) 498) (.ref 238)), (DictEntry.mk (keyHash P (s A 17)) (.str (s A 17) 530) (.ref 266)), (DictEntry.mk (keyHash P (s A 92)) (.str (s A 92) 571) (.ref 299)), (DictEntry.mk (keyHash P (s A 90)) (.str (s A 90) 612) (.ref 332))] 35) #[])
def o_370 (A : AT) (P : Params) : Obj := (Obj.mk .none none (.fields #[(.int 1 0), (.int 0 0), (.ref 20), (.int 5 0), (.int 0 0), (.ref 27), (.int 7 0), (.int 0 0), (.ref 40), (.int 9 0), (.int 0 0), (.ref 52), (.int 11 0), (.int 0 0), (.ref 64), (.int 13 0), (.int 0 0), (.ref 76), (.int 15 0), (.int 0 0), (.ref 88), (.int 19 0), (.int 0 0), (.ref 108), (.int 24 0), (.int 0 0), (.ref 128), (.int 26 0), (.int 0 0), (.ref 135), (.int 28 0), (.int 0 0), (.ref 142), (.int 33 0), (.int 0 0), (.ref 149), (.int 35 0), (.int 0 0), (.ref 156), (.int 38 0), (.int 0 0), (.ref 163), (.int 44 0), (.int 0 0), (.ref 168), (.int 49 0), (.int 0 0), (.ref 173), (.int 54 0), (.int 0 0), (.ref 180), (.int 56 0), (.int 0 0), (.ref 194), (.int 72 0), (.int 0 0), (.ref 234), (.int 74 0), (.int 0 0), (.ref 248), (.int 81 0), (.int 0 0), (.ref 274), (.int 92 0), (.int 0 0), (.ref 307)]) #[])
def o_371 (A : AT) (P : Params) : Obj := (Obj.mk (.type (t A 7)) none (.cls (ClassData.mk (s A 16) [(.type (t A 12))] [(.ref 238), (.type (t A 12))] 237 (s A 16) true [] [(.ref 266), (.ref 299), (.ref 332)] false none false)) #[none, none, (some (.str (s A 16) 479)), (some (.str (s A 16) 487)), (some (.builtin (t A 14))), (some (.bool true))])
def o_372 (A : AT) (P : Params) : Obj := (Obj.mk (.type (t A 0)) none (.seq #[(.ref 238)] 0) #[])
def o_373 (A : AT) (P : Params) : Obj := (Obj.mk (.type (t A 5)) none (.fields #[(.builtin (t A 6)), (.type (t A 7))]) #[])
def o_374 (A : AT) (P : Params) : Obj := (Obj.mk (.type (t A 3)) none (.dict #[(DictEntry.mk (keyHash P (s A 8)) (.str (s A 8) 579) (.str (s A 9) 477)), (DictEntry.mk (keyHash P (s A 15)) (.str (s A 15) 581) (.str (s A 90) 580)), (DictEntry.mk (keyHash P (s A 10)) (.str (s A 10) 583) (.int 92 582)), (DictEntry.mk (keyHash P (s A 19)) (.str (s A 19) 591) (.ref 315)), (DictEntry.mk (keyHash P (s A 60)) (.str (s A 60) 600) (.ref 322)), (DictEntry.mk (keyHash P (s A 50)) (.str (s A 50) 607) (.ref 329)), (DictEntry.mk (keyHash P (s A 11)) (.str (s A 11) 609) (.ref 330))] 7) #[])
def o_375 (A : AT) (P : Params) : Obj := (Obj.mk (.type (t A 0)) none (.seq #[] 0) #[])
def o_376 (A : AT) (P : Params) : Obj := (Obj.mk .none none (.fields #[(.int 94 0), (.int 4 0), (.ref 314), (.int 98 0), (.int 4 0), (.ref 321), (.int 101 0), (.int 4 0), (.ref 328)]) #[])
def o_377 (A : AT) (P : Params) : Obj := (Obj.mk (.type (t A 2)) none (.fields #[(.str (s A 90) 574), (.str (s A 90) 575), (.str (s A 7) 576), (.int 92 0), (.int 0 0), (.int 0 0), (.int 0 0), (.int 0 0), (.ref 305), (.bool false), (.int 181 0), (.ref 306), .none, .none, .none, .none, (.int 577 0), (.int 92 0), (.str (s A 7) 578)]) #[])
def o_378 (A : AT) (P : Params) : Obj := (Obj.mk (.type (t A 4)) none .plain #[(some (.ref 307)), (some (.ref 3)), (some (.ref 304)), none, (some (.str (s A 9) 477)), none, (some (.ref 0))])
def o_379 (A : AT) (P : Params) : Obj := (Obj.mk (.type (t A 0)) none (.seq #[] 0) #[])
def o_380 (A : AT) (P : Params) : Obj := (Obj.mk .none none (.fields #[]) #[])
def o_381 (A : AT) (P : Params) : Obj := (Obj.mk (.type (t A 0)) none (.seq #[(.str (s A 74) 587), (.str (s A 5) 588)] 0) #[])
def o_382 (A : AT) (P : Params) : Obj := (Obj.mk (.type (t A 0)) none (.seq #[] 0) #[])
def o_383 (A : AT) (P : Params) : Obj := (Obj.mk .none none (.func (FuncData.mk (s A 19) (s A 55) (defArgs (inClass (stm A 32) 0)) (FuncBody.stmts (defBody (inClass (stm A 32) 0))) (defScope (inClass (stm A 32) 0)) 0 [] .none .none .none .none none .none .none 0)) #[])
def o_384 (A : AT) (P : Params) : Obj := (Obj.mk (.type (t A 2)) none (.fields #[(.str (s A 19) 584), (.str (s A 55) 585), (.str (s A 7) 586), (.int 94 0), (.int 2 0), (.int 0 0), (.int 0 0), (.int 3 0), (.ref 309), (.bool true), (.int 181 0), (.ref 310), .none, (.ref 311), (.ref 312), (.ref 313), (.int 589 0), (.int 94 0), (.str (s A 7) 590)]) #[])
def o_385 (A : AT) (P : Params) : Obj := (Obj.mk (.type (t A 1)) none (.func (FuncData.mk (s A 19) (s A 55) (defArgs (inClass (stm A 32) 0)) (FuncBody.stmts (defBody (inClass (stm A 32) 0))) (defScope (inClass (stm A 32) 0)) 3 [] .none .none .none (.str (s A 9) 477) none (.ref 314) .none 0)) #[])
def o_386 (A : AT) (P : Params) : Obj := (Obj.mk (.type (t A 0)) none (.seq #[] 0) #[])
def o_387 (A : AT) (P : Params) : Obj := (Obj.mk .none none (.fields #[]) #[])
def o_388 (A : AT) (P : Params) : Obj := (Obj.mk (.type (t A 0)) none (.seq #[(.str (s A 74) 595), (.str (s A 94) 596), (.str (s A 95) 597)] 0) #[])
def o_389 (A : AT) (P : Params) : Obj := (Obj.mk (.type (t A 0)) none (.seq #[] 0) #[])
def o_390 (A : AT) (P : Params) : Obj := (Obj.mk .none none (.func (FuncData.mk (s A 60) (s A 61) (defArgs (inClass (stm A 32) 1)) (FuncBody.stmts (defBody (inClass (stm A 32) 1))) (defScope (inClass (stm A 32) 1)) 0 [] .none .none .none .none none .none .none 0)) #[])
def o_391 (A : AT) (P : Params) : Obj := (Obj.mk (.type (t A 2)) none (.fields #[(.str (s A 60) 592), (.str (s A 61) 593), (.str (s A 7) 594), (.int 98 0), (.int 3 0), (.int 0 0), (.int 0 0), (.int 3 0), (.ref 316), (.bool true), (.int 181 0), (.ref 317), .none, (.ref 318), (.ref 319), (.ref 320), (.int 598 0), (.int 98 0), (.str (s A 7) 599)]) #[])
def o_392 (A : AT) (P : Params) : Obj := (Obj.mk (.type (t A 1)) none (.func (FuncData.mk (s A 60) (s A 61) (defArgs (inClass (stm A 32) 1)) (FuncBody.stmts (defBody (inClass (stm A 32) 1))) (defScope (inClass (stm A 32) 1)) 3 [] .none .none .none (.str (s A 9) 477) none (.ref 321) .none 0)) #[])
def o_393 (A : AT) (P : Params) : Obj := (Obj.mk (.type (t A 0)) none (.seq #[] 0) #[])
def o_394 (A : AT) (P : Params) : Obj := (Obj.mk .none none (.fields #[]) #[])
def o_395 (A : AT) (P : Params) : Obj := (Obj.mk (.type (t A 0)) none (.seq #[(.str (s A 74) 604)] 0) #[])
def o_396 (A : AT) (P : Params) : Obj := (Obj.mk (.type (t A 0)) none (.seq #[] 0) #[])
def o_397 (A : AT) (P : Params) : Obj := (Obj.mk .none none (.func (FuncData.mk (s A 50) (s A 115) (defArgs (inClass (stm A 32) 2)) (FuncBody.stmts (defBody (inClass (stm A 32) 2))) (defScope (inClass (stm A 32) 2)) 0 [] .none .none .none .none none .none .none 0)) #[])
def o_398 (A : AT) (P : Params) : Obj := (Obj.mk (.type (t A 2)) none (.fields #[(.str (s A 50) 601), (.str (s A 115) 602), (.str (s A 7) 603), (.int 101 0), (.int 1 0), (.int 0 0), (.int 0 0), (.int 3 0), (.ref 323), (.bool true), (.int 181 0), (.ref 324), .none, (.ref 325), (.ref 326), (.ref 327), (.int 605 0), (.int 101 0), (.str (s A 7) 606)]) #[])
def o_399 (A : AT) (P : Params) : Obj := (Obj.mk (.type (t A 1)) none (.func (FuncData.mk (s A 50) (s A 115) (defArgs (inClass (stm A 32) 2)) (FuncBody.stmts (defBody (inClass (stm A 32) 2))) (defScope (inClass (stm A 32) 2)) 3 [] .none .none .none (.str (s A 9) 477) none (.ref 328) .none 0)) #[])
def o_400 (A : AT) (P : Params) : Obj := (Obj.mk (.type (t A 0)) none (.seq #[(.str (s A 5) 608)] 0) #[])
def o_401 (A : AT) (P : Params) : Obj := (Obj.mk (.type (t A 3)) none (.dict #[(DictEntry.mk (keyHash P (s A 8)) (.str (s A 8) 579) (.str (s A 9) 477)), (DictEntry.mk (keyHash P (s A 10)) (.str (s A 10) 583) (.int 92 582)), (DictEntry.mk (keyHash P (s A 19)) (.str (s A 19) 591) (.ref 315)), (DictEntry.mk (keyHash P (s A 60)) (.str (s A 60) 600) (.ref 322)), (DictEntry.mk (keyHash P (s A 50)) (.str (s A 50) 607) (.ref 329)), (DictEntry.mk (keyHash P (s A 11)) (.str (s A 11) 609) (.ref 330)), (DictEntry.mk (keyHash P (s A 14)) (.str (s A 14) 610) .none)] 2) #[])
def o_402 (A : AT) (P : Params) : Obj := (Obj.mk (.type (t A 7)) none (.cls (ClassData.mk (s A 90) [(.ref 238)] [(.ref 332), (.ref 238), (.type (t A 12))] 331 (s A 90) true [] [] false none false)) #[(some (.ref 302)), none, (some (.str (s A 90) 572)), (some (.str (s A 90) 580)), (some (.builtin (t A 14))), (some (.bool true))])
def o_403 (A : AT) (P : Params) : Obj := (Obj.mk (.type (t A 15)) none (.fields #[(.ref 332), (.ref 332), (.ref 332)]) #[])
def o_404 (A : AT) (P : Params) : Obj := (Obj.mk (.type (t A 5)) none (.fields #[(.builtin (t A 16)), (.ref 332)]) #[])
def o_405 (A : AT) (P : Params) : Obj := (Obj.mk (.type (t A 3)) none (.dict #[(DictEntry.mk (keyHash P (s A 20)) (.str (s A 20) 165) (.str (s A 56) 645)), (DictEntry.mk (keyHash P (s A 14)) (.str (s A 14) 166) .none), (DictEntry.mk (keyHash P (s A 22)) (.str (s A 22) 167) .none), (DictEntry.mk (keyHash P (s A 23)) (.str (s A 23) 168) (.builtin (t A 8))), (DictEntry.mk (keyHash P (s A 24)) (.str (s A 24) 169) .none), (DictEntry.mk (keyHash P (s A 25)) (.str (s A 25) 170) (.ref 6)), (DictEntry.mk (keyHash P (s A 26)) (.str (s A 26) 171) (.ref 4)), (DictEntry.mk (keyHash P (s A 27)) (.str (s A 27) 173) (.str (s A 7) 172)), (DictEntry.mk (keyHash P (s A 28)) (.str (s A 28) 174) .none), (DictEntry.mk (keyHash P (s A 29)) (.str (s A 29) 193) (.ref 21)), (DictEntry.mk (keyHash P (s A 30)) (.str (s A 30) 213) (.ref 31)), (DictEntry.mk (keyHash P (s A 31)) (.str (s A 31) 229) (.ref 44)), (DictEntry.mk (keyHash P (s A 32)) (.str (s A 32) 245) (.ref 56)), (DictEntry.mk (keyHash P (s A 33)) (.str (s A 33) 261) (.ref 68)), (DictEntry.mk (keyHash P (s A 34)) (.str (s A 34) 277) (.ref 80)), (DictEntry.mk (keyHash P (s A 35)) (.str (s A 35) 302) (.ref 100)), (DictEntry.mk (keyHash P (s A 36)) (.str (s A 36) 328) (.ref 120)), (DictEntry.mk (keyHash P (s A 37)) (.str (s A 37) 337) (.ref 129)), (DictEntry.mk (keyHash P (s A 38)) (.str (s A 38) 346) (.ref 136)), (DictEntry.mk (keyHash P (s A 39)) (.str (s A 39) 354) (.ref 143)), (DictEntry.mk (keyHash P (s A 40)) (.str (s A 40) 358) (.int 60 357)), (DictEntry.mk (keyHash P (s A 41)) (.str (s A 41) 360) (.int 1440 359)), (DictEntry.mk (keyHash P (s A 42)) (.str (s A 42) 367) (.ref 150)), (DictEntry.mk (keyHash P (s A 43)) (.str (s A 43) 374) (.ref 157)), (DictEntry.mk (keyHash P (s A 44)) (.str (s A 44) 381) (.ref 164)), (DictEntry.mk (keyHash P (s A 45)) (.str (s A 45) 385) (.str (s A 46) 384)), (DictEntry.mk (keyHash P (s A 47)) (.str (s A 47) 387) (.int 8 386)), (DictEntry.mk (keyHash P (s A 3)) (.str (s A 3) 393) (.ref 169)), (DictEntry.mk (keyHash P (s A 48)) (.str (s A 48) 401) (.ref 174)), (DictEntry.mk (keyHash P (s A 49)) (.str (s A 49) 423) (.ref 184)), (DictEntry.mk (keyHash P (s A 91)) (.str (s A 91) 476) (.ref 226)), (DictEntry.mk (keyHash P (s A 16)) (.str (s A 16) 498) (.ref 238)), (DictEntry.mk (keyHash P (s A 17)) (.str (s A 17) 530) (.ref 266)), (DictEntry.mk (keyHash P (s A 92)) (.str (s A 92) 571) (.ref 299)), (DictEntry.mk (keyHash P (s A 90)) (.str (s A 90) 612) (.ref 332)), (DictEntry.mk (keyHash P (s A 54)) (.str (s A 54) 644) (.ref 358))] 36) #[])
def o_406 (A : AT) (P : Params) : Obj := (Obj.mk .none none (.fields #[(.int 1 0), (.int 0 0), (.ref 20), (.int 5 0), (.int 0 0), (.ref 27), (.int 7 0), (.int 0 0), (.ref 40), (.int 9 0), (.int 0 0), (.ref 52), (.int 11 0), (.int 0 0), (.ref 64), (.int 13 0), (.int 0 0), (.ref 76), (.int 15 0), (.int 0 0), (.ref 88), (.int 19 0), (.int 0 0), (.ref 108), (.int 24 0), (.int 0 0), (.ref 128), (.int 26 0), (.int 0 0), (.ref 135), (.int 28 0), (.int 0 0), (.ref 142), (.int 33 0), (.int 0 0), (.ref 149), (.int 35 0), (.int 0 0), (.ref 156), (.int 38 0), (.int 0 0), (.ref 163), (.int 44 0), (.int 0 0), (.ref 168), (.int 49 0), (.int 0 0), (.ref 173), (.int 54 0), (.int 0 0), (.ref 180), (.int 56 0), (.int 0 0), (.ref 194), (.int 72 0), (.int 0 0), (.ref 234), (.int 74 0), (.int 0 0), (.ref 248), (.int 81 0), (.int 0 0), (.ref 274), (.int 92 0), (.int 0 0), (.ref 307), (.int 103 0), (.int 0 0), (.ref 340)]) #[])
def o_407 (A : AT) (P : Params) : Obj := (Obj.mk (.type (t A 7)) none (.cls (ClassData.mk (s A 16) [(.type (t A 12))] [(.ref 238), (.type (t A 12))] 237 (s A 16) true [] [(.ref 266), (.ref 299), (.ref 332), (.ref 358)] false none false)) #[none, none, (some (.str (s A 16) 479)), (some (.str (s A 16) 487)), (some (.builtin (t A 14))), (some (.bool true))])
def o_408 (A : AT) (P : Params) : Obj := (Obj.mk (.type (t A 0)) none (.seq #[(.ref 238)] 0) #[])
def o_409 (A : AT) (P : Params) : Obj := (Obj.mk (.type (t A 5)) none (.fields #[(.builtin (t A 6)), (.type (t A 7))]) #[])
def o_410 (A : AT) (P : Params) : Obj := (Obj.mk (.type (t A 3)) none (.dict #[(DictEntry.mk (keyHash P (s A 8)) (.str (s A 8) 620) (.str (s A 9) 477)), (DictEntry.mk (keyHash P (s A 15)) (.str (s A 15) 622) (.str (s A 54) 621)), (DictEntry.mk (keyHash P (s A 10)) (.str (s A 10) 624) (.int 103 623)), (DictEntry.mk (keyHash P (s A 60)) (.str (s A 60) 633) (.ref 348)), (DictEntry.mk (keyHash P (s A 50)) (.str (s A 50) 640) (.ref 355)), (DictEntry.mk (keyHash P (s A 11)) (.str (s A 11) 641) (.ref 356))] 6) #[])
def o_411 (A : AT) (P : Params) : Obj := (Obj.mk (.type (t A 0)) none (.seq #[] 0) #[])
def o_412 (A : AT) (P : Params) : Obj := (Obj.mk .none none (.fields #[(.int 105 0), (.int 4 0), (.ref 347), (.int 108 0), (.int 4 0), (.ref 354)]) #[])
def o_413 (A : AT) (P : Params) : Obj := (Obj.mk (.type (t A 2)) none (.fields #[(.str (s A 54) 615), (.str (s A 54) 616), (.str (s A 7) 617), (.int 103 0), (.int 0 0), (.int 0 0), (.int 0 0), (.int 0 0), (.ref 338), (.bool false), (.int 181 0), (.ref 339), .none, .none, .none, .none, (.int 618 0), (.int 103 0), (.str (s A 7) 619)]) #[])
def o_414 (A : AT) (P : Params) : Obj := (Obj.mk (.type (t A 4)) none .plain #[(some (.ref 340)), (some (.ref 3)), (some (.ref 337)), none, (some (.str (s A 9) 477)), none, (some (.ref 0))])
def o_415 (A : AT) (P : Params) : Obj := (Obj.mk (.type (t A 0)) none (.seq #[] 0) #[])
def o_416 (A : AT) (P : Params) : Obj := (Obj.mk .none none (.fields #[]) #[])
def o_417 (A : AT) (P : Params) : Obj := (Obj.mk (.type (t A 0)) none (.seq #[(.str (s A 74) 628), (.str (s A 94) 629), (.str (s A 95) 630)] 0) #[])
def o_418 (A : AT) (P : Params) : Obj := (Obj.mk (.type (t A 0)) none (.seq #[] 0) #[])
def o_419 (A : AT) (P : Params) : Obj := (Obj.mk .none none (.func (FuncData.mk (s A 60) (s A 75) (defArgs (inClass (stm A 33) 0)) (FuncBody.stmts (defBody (inClass (stm A 33) 0))) (defScope (inClass (stm A 33) 0)) 0 [] .none .none .none .none none .none .none 0)) #[])
def o_420 (A : AT) (P : Params) : Obj := (Obj.mk (.type (t A 2)) none (.fields #[(.str (s A 60) 625), (.str (s A 75) 626), (.str (s A 7) 627), (.int 105 0), (.int 3 0), (.int 0 0), (.int 0 0), (.int 3 0), (.ref 342), (.bool true), (.int 181 0), (.ref 343), .none, (.ref 344), (.ref 345), (.ref 346), (.int 631 0), (.int 105 0), (.str (s A 7) 632)]) #[])
def o_421 (A : AT) (P : Params) : Obj := (Obj.mk (.type (t A 1)) none (.func (FuncData.mk (s A 60) (s A 75) (defArgs (inClass (stm A 33) 0)) (FuncBody.stmts (defBody (inClass (stm A 33) 0))) (defScope (inClass (stm A 33) 0)) 3 [] .none .none .none (.str (s A 9) 477) none (.ref 347) .none 0)) #[])
def o_422 (A : AT) (P : Params) : Obj := (Obj.mk (.type (t A 0)) none (.seq #[] 0) #[])
def o_423 (A : AT) (P : Params) : Obj := (Obj.mk .none none (.fields #[]) #[])
def o_424 (A : AT) (P : Params) : Obj := (Obj.mk (.type (t A 0)) none (.seq #[(.str (s A 74) 637)] 0) #[])
def o_425 (A : AT) (P : Params) : Obj := (Obj.mk (.type (t A 0)) none (.seq #[] 0) #[])
def o_426 (A : AT) (P : Params) : Obj := (Obj.mk .none none (.func (FuncData.mk (s A 50) (s A 107) (defArgs (inClass (stm A 33) 1)) (FuncBody.stmts (defBody (inClass (stm A 33) 1))) (defScope (inClass (stm A 33) 1)) 0 [] .none .none .none .none none .none .none 0)) #[])
def o_427 (A : AT) (P : Params) : Obj := (Obj.mk (.type (t A 2)) none (.fields #[(.str (s A 50) 634), (.str (s A 107) 635), (.str (s A 7) 636), (.int 108 0), (.int 1 0), (.int 0 0), (.int 0 0), (.int 3 0), (.ref 349), (.bool true), (.int 181 0), (.ref 350), .none, (.ref 351), (.ref 352), (.ref 353), (.int 638 0), (.int 108 0), (.str (s A 7) 639)]) #[])
def o_428 (A : AT) (P : Params) : Obj := (Obj.mk (.type (t A 1)) none (.func (FuncData.mk (s A 50) (s A 107) (defArgs (inClass (stm A 33) 1)) (FuncBody.stmts (defBody (inClass (stm A 33) 1))) (defScope (inClass (stm A 33) 1)) 3 [] .none .none .none (.str (s A 9) 477) none (.ref 354) .none 0)) #[])
def o_429 (A : AT) (P : Params) : Obj := (Obj.mk (.type (t A 0)) none (.seq #[] 0) #[])
def o_430 (A : AT) (P : Params) : Obj := (Obj.mk (.type (t A 3)) none (.dict #[(DictEntry.mk (keyHash P (s A 8)) (.str (s A 8) 620) (.str (s A 9) 477)), (DictEntry.mk (keyHash P (s A 10)) (.str (s A 10) 624) (.int 103 623)), (DictEntry.mk (keyHash P (s A 60)) (.str (s A 60) 633) (.ref 348)), (DictEntry.mk (keyHash P (s A 50)) (.str (s A 50) 640) (.ref 355)), (DictEntry.mk (keyHash P (s A 11)) (.str (s A 11) 641) (.ref 356)), (DictEntry.mk (keyHash P (s A 14)) (.str (s A 14) 642) .none)] 2) #[])
def o_431 (A : AT) (P : Params) : Obj := (Obj.mk (.type (t A 7)) none (.cls (ClassData.mk (s A 54) [(.ref 238)] [(.ref 358), (.ref 238), (.type (t A 12))] 357 (s A 54) true [] [] false none false)) #[(some (.ref 335)), none, (some (.str (s A 54) 613)), (some (.str (s A 54) 621)), (some (.builtin (t A 14))), (some (.bool true))])
def o_432 (A : AT) (P : Params) : Obj := (Obj.mk (.type (t A 15)) none (.fields #[(.ref 358), (.ref 358), (.ref 358)]) #[])
def o_433 (A : AT) (P : Params) : Obj := (Obj.mk (.type (t A 5)) none (.fields #[(.builtin (t A 16)), (.ref 358)]) #[])
def o_434 (A : AT) (P : Params) : Obj := (Obj.mk (.type (t A 3)) none (.dict #[(DictEntry.mk (keyHash P (s A 20)) (.str (s A 20) 165) (.str (s A 56) 645)), (DictEntry.mk (keyHash P (s A 14)) (.str (s A 14) 166) .none), (DictEntry.mk (keyHash P (s A 22)) (.str (s A 22) 167) .none), (DictEntry.mk (keyHash P (s A 23)) (.str (s A 23) 168) (.builtin (t A 8))), (DictEntry.mk (keyHash P (s A 24)) (.str (s A 24) 169) .none), (DictEntry.mk (keyHash P (s A 25)) (.str (s A 25) 170) (.ref 6)), (DictEntry.mk (keyHash P (s A 26)) (.str (s A 26) 171) (.ref 4)), (DictEntry.mk (keyHash P (s A 27)) (.str (s A 27) 173) (.str (s A 7) 172)), (DictEntry.mk (keyHash P (s A 28)) (.str (s A 28) 174) .none), (DictEntry.mk (keyHash P (s A 29)) (.str (s A 29) 193) (.ref 21)), (DictEntry.mk (keyHash P (s A 30)) (.str (s A 30) 213) (.ref 31)), (DictEntry.mk (keyHash P (s A 31)) (.str (s A 31) 229) (.ref 44)), (DictEntry.mk (keyHash P (s A 32)) (.str (s A 32) 245) (.ref 56)), (DictEntry.mk (keyHash P (s A 33)) (.str (s A 33) 261) (.ref 68)), (DictEntry.mk (keyHash P (s A 34)) (.str (s A 34) 277) (.ref 80)), (DictEntry.mk (keyHash P (s A 35)) (.str (s A 35) 302) (.ref 100)), (DictEntry.mk (keyHash P (s A 36)) (.str (s A 36) 328) (.ref 120)), (DictEntry.mk (keyHash P (s A 37)) (.str (s A 37) 337) (.ref 129)), (DictEntry.mk (keyHash P (s A 38)) (.str (s A 38) 346) (.ref 136)), (DictEntry.mk (keyHash P (s A 39)) (.str (s A 39) 354) (.ref 143)), (DictEntry.mk (keyHash P (s A 40)) (.str (s A 40) 358) (.int 60 357)), (DictEntry.mk (keyHash P (s A 41)) (.str (s A 41) 360) (.int 1440 359)), (DictEntry.mk (keyHash P (s A 42)) (.str (s A 42) 367) (.ref 150)), (DictEntry.mk (keyHash P (s A 43)) (.str (s A 43) 374) (.ref 157)), (DictEntry.mk (keyHash P (s A 44)) (.str (s A 44) 381) (.ref 164)), (DictEntry.mk (keyHash P (s A 45)) (.str (s A 45) 385) (.str (s A 46) 384)), (DictEntry.mk (keyHash P (s A 47)) (.str (s A 47) 387) (.int 8 386)), (DictEntry.mk (keyHash P (s A 3)) (.str (s A 3) 393) (.ref 169)), (DictEntry.mk (keyHash P (s A 48)) (.str (s A 48) 401) (.ref 174)), (DictEntry.mk (keyHash P (s A 49)) (.str (s A 49) 423) (.ref 184)), (DictEntry.mk (keyHash P (s A 91)) (.str (s A 91) 476) (.ref 226)), (DictEntry.mk (keyHash P (s A 16)) (.str (s A 16) 498) (.ref 238)), (DictEntry.mk (keyHash P (s A 17)) (.str (s A 17) 530) (.ref 266)), (DictEntry.mk (keyHash P (s A 92)) (.str (s A 92) 571) (.ref 299)), (DictEntry.mk (keyHash P (s A 90)) (.str (s A 90) 612) (.ref 332)), (DictEntry.mk (keyHash P (s A 54)) (.str (s A 54) 644) (.ref 358)), (DictEntry.mk (keyHash P (s A 93)) (.str (s A 93) 679) (.ref 378))] 37) #[])
def o_435 (A : AT) (P : Params) : Obj := (Obj.mk .none none (.fields #[(.int 1 0), (.int 0 0), (.ref 20), (.int 5 0), (.int 0 0), (.ref 27), (.int 7 0), (.int 0 0), (.ref 40), (.int 9 0), (.int 0 0), (.ref 52), (.int 11 0), (.int 0 0), (.ref 64), (.int 13 0), (.int 0 0), (.ref 76), (.int 15 0), (.int 0 0), (.ref 88), (.int 19 0), (.int 0 0), (.ref 108), (.int 24 0), (.int 0 0), (.ref 128), (.int 26 0), (.int 0 0), (.ref 135), (.int 28 0), (.int 0 0), (.ref 142), (.int 33 0), (.int 0 0), (.ref 149), (.int 35 0), (.int 0 0), (.ref 156), (.int 38 0), (.int 0 0), (.ref 163), (.int 44 0), (.int 0 0), (.ref 168), (.int 49 0), (.int 0 0), (.ref 173), (.int 54 0), (.int 0 0), (.ref 180), (.int 56 0), (.int 0 0), (.ref 194), (.int 72 0), (.int 0 0), (.ref 234), (.int 74 0), (.int 0 0), (.ref 248), (.int 81 0), (.int 0 0), (.ref 274), (.int 92 0), (.int 0 0), (.ref 307), (.int 103 0), (.int 0 0), (.ref 340), (.int 111 0), (.int 0 0), (.ref 366)]) #[])
def o_436 (A : AT) (P : Params) : Obj := (Obj.mk (.type (t A 0)) none (.seq #[] 0) #[])
def o_437 (A : AT) (P : Params) : Obj := (Obj.mk (.type (t A 5)) none (.fields #[(.builtin (t A 6)), (.type (t A 7))]) #[])
def o_438 (A : AT) (P : Params) : Obj := (Obj.mk (.type (t A 3)) none (.dict #[(DictEntry.mk (keyHash P (s A 8)) (.str (s A 8) 654) (.str (s A 56) 645)), (DictEntry.mk (keyHash P (s A 15)) (.str (s A 15) 656) (.str (s A 93) 655)), (DictEntry.mk (keyHash P (s A 10)) (.str (s A 10) 658) (.int 111 657)), (DictEntry.mk (keyHash P (s A 19)) (.str (s A 19) 668) (.ref 375)), (DictEntry.mk (keyHash P (s A 11)) (.str (s A 11) 672) (.ref 376))] 5) #[])
def o_439 (A : AT) (P : Params) : Obj := (Obj.mk (.type (t A 0)) none (.seq #[] 0) #[])
def o_440 (A : AT) (P : Params) : Obj := (Obj.mk .none none (.fields #[(.int 113 0), (.int 4 0), (.ref 374)]) #[])
def o_441 (A : AT) (P : Params) : Obj := (Obj.mk (.type (t A 2)) none (.fields #[(.str (s A 93) 649), (.str (s A 93) 650), (.str (s A 7) 651), (.int 111 0), (.int 0 0), (.int 0 0), (.int 0 0), (.int 0 0), (.ref 364), (.bool false), (.int 181 0), (.ref 365), .none, .none, .none, .none, (.int 652 0), (.int 111 0), (.str (s A 7) 653)]) #[])
def o_442 (A : AT) (P : Params) : Obj := (Obj.mk (.type (t A 4)) none .plain #[(some (.ref 366)), (some (.ref 3)), (some (.ref 363)), none, (some (.str (s A 56) 645)), none, (some (.ref 0))])
def o_443 (A : AT) (P : Params) : Obj := (Obj.mk (.type (t A 0)) none (.seq #[.none] 0) #[])
def o_444 (A : AT) (P : Params) : Obj := (Obj.mk (.type (t A 0)) none (.seq #[] 0) #[])
def o_445 (A : AT) (P : Params) : Obj := (Obj.mk .none none (.fields #[]) #[])
def o_446 (A : AT) (P : Params) : Obj := (Obj.mk (.type (t A 0)) none (.seq #[(.str (s A 74) 662), (.str (s A 84) 663), (.str (s A 85) 664), (.str (s A 86) 665)] 0) #[])
def o_447 (A : AT) (P : Params) : Obj := (Obj.mk (.type (t A 0)) none (.seq #[] 0) #[])
def o_448 (A : AT) (P : Params) : Obj := (Obj.mk .none none (.func (FuncData.mk (s A 19) (s A 88) (defArgs (inClass (stm A 35) 0)) (FuncBody.stmts (defBody (inClass (stm A 35) 0))) (defScope (inClass (stm A 35) 0)) 0 [] .none .none .none .none none .none .none 0)) #[])
def o_449 (A : AT) (P : Params) : Obj := (Obj.mk (.type (t A 2)) none (.fields #[(.str (s A 19) 659), (.str (s A 88) 660), (.str (s A 7) 661), (.int 113 0), (.int 4 0), (.int 0 0), (.int 0 0), (.int 3 0), (.ref 369), (.bool true), (.int 181 0), (.ref 370), .none, (.ref 371), (.ref 372), (.ref 373), (.int 666 0), (.int 113 0), (.str (s A 7) 667)]) #[])
def o_450 (A : AT) (P : Params) : Obj := (Obj.mk (.type (t A 1)) none (.func (FuncData.mk (s A 19) (s A 88) (defArgs (inClass (stm A 35) 0)) (FuncBody.stmts (defBody (inClass (stm A 35) 0))) (defScope (inClass (stm A 35) 0)) 3 [] (.ref 368) .none .none (.str (s A 56) 645) none (.ref 374) .none 0)) #[])
def o_451 (A : AT) (P : Params) : Obj := (Obj.mk (.type (t A 0)) none (.seq #[(.str (s A 84) 669), (.str (s A 85) 670), (.str (s A 86) 671)] 0) #[])
def o_452 (A : AT) (P : Params) : Obj := (Obj.mk (.type (t A 3)) none (.dict #[(DictEntry.mk (keyHash P (s A 8)) (.str (s A 8) 654) (.str (s A 56) 645)), (DictEntry.mk (keyHash P (s A 10)) (.str (s A 10) 658) (.int 111 657)), (DictEntry.mk (keyHash P (s A 19)) (.str (s A 19) 668) (.ref 375)), (DictEntry.mk (keyHash P (s A 11)) (.str (s A 11) 672) (.ref 376)), (DictEntry.mk (keyHash P (s A 12)) (.str (s A 12) 674) (.ref 379)), (DictEntry.mk (keyHash P (s A 13)) (.str (s A 13) 676) (.ref 380)), (DictEntry.mk (keyHash P (s A 14)) (.str (s A 14) 677) .none)] 4) #[])
def o_453 (A : AT) (P : Params) : Obj := (Obj.mk (.type (t A 7)) none (.cls (ClassData.mk (s A 93) [(.type (t A 12))] [(.ref 378), (.type (t A 12))] 377 (s A 93) true [] [] false none false)) #[none, none, (some (.str (s A 93) 647)), (some (.str (s A 93) 655)), (some (.builtin (t A 14))), (some (.bool true))])
def o_454 (A : AT) (P : Params) : Obj := (Obj.mk (.type (t A 17)) none (.fields #[(.str (s A 12) 673), (.ref 378), (.builtin (t A 19)), (.builtin (t A 20))]) #[])
def o_455 (A : AT) (P : Params) : Obj := (Obj.mk (.type (t A 17)) none (.fields #[(.str (s A 13) 675), (.ref 378), (.builtin (t A 18)), .none]) #[])
def o_456 (A : AT) (P : Params) : Obj := (Obj.mk (.type (t A 15)) none (.fields #[(.ref 378), (.ref 378), (.ref 378)]) #[])
def o_457 (A : AT) (P : Params) : Obj := (Obj.mk (.type (t A 5)) none (.fields #[(.builtin (t A 16)), (.ref 378)]) #[])
def o_458 (A : AT) (P : Params) : Obj := (Obj.mk (.type (t A 3)) none (.dict #[(DictEntry.mk (keyHash P (s A 20)) (.str (s A 20) 165) (.str (s A 64) 727)), (DictEntry.mk (keyHash P (s A 14)) (.str (s A 14) 166) .none), (DictEntry.mk (keyHash P (s A 22)) (.str (s A 22) 167) .none), (DictEntry.mk (keyHash P (s A 23)) (.str (s A 23) 168) (.builtin (t A 8))), (DictEntry.mk (keyHash P (s A 24)) (.str (s A 24) 169) .none), (DictEntry.mk (keyHash P (s A 25)) (.str (s A 25) 170) (.ref 6)), (DictEntry.mk (keyHash P (s A 26)) (.str (s A 26) 171) (.ref 4)), (DictEntry.mk (keyHash P (s A 27)) (.str (s A 27) 173) (.str (s A 7) 172)), (DictEntry.mk (keyHash P (s A 28)) (.str (s A 28) 174) .none), (DictEntry.mk (keyHash P (s A 29)) (.str (s A 29) 193) (.ref 21)), (DictEntry.mk (keyHash P (s A 30)) (.str (s A 30) 213) (.ref 31)), (DictEntry.mk (keyHash P (s A 31)) (.str (s A 31) 229) (.ref 44)), (DictEntry.mk (keyHash P (s A 32)) (.str (s A 32) 245) (.ref 56)), (DictEntry.mk (keyHash P (s A 33)) (.str (s A 33) 261) (.ref 68)), (DictEntry.mk (keyHash P (s A 34)) (.str (s A 34) 277) (.ref 80)), (DictEntry.mk (keyHash P (s A 35)) (.str (s A 35) 302) (.ref 100)), (DictEntry.mk (keyHash P (s A 36)) (.str (s A 36) 328) (.ref 120)), (DictEntry.mk (keyHash P (s A 37)) (.str (s A 37) 337) (.ref 129)), (DictEntry.mk (keyHash P (s A 38)) (.str (s A 38) 346) (.ref 136)), (DictEntry.mk (keyHash P (s A 39)) (.str (s A 39) 354) (.ref 143)), (DictEntry.mk (keyHash P (s A 40)) (.str (s A 40) 358) (.int 60 357)), (DictEntry.mk (keyHash P (s A 41)) (.str (s A 41) 360) (.int 1440 359)), (DictEntry.mk (keyHash P (s A 42)) (.str (s A 42) 367) (.ref 150)), (DictEntry.mk (keyHash P (s A 43)) (.str (s A 43) 374) (.ref 157)), (DictEntry.mk (keyHash P (s A 44)) (.str (s A 44) 381) (.ref 164)), (DictEntry.mk (keyHash P (s A 45)) (.str (s A 45) 385) (.str (s A 46) 384)), (DictEntry.mk (keyHash P (s A 47)) (.str (s A 47) 387) (.int 8 386)), (DictEntry.mk (keyHash P (s A 3)) (.str (s A 3) 393) (.ref 169)), (DictEntry.mk (keyHash P (s A 48)) (.str (s A 48) 401) (.ref 174)), (DictEntry.mk (keyHash P (s A 49)) (.str (s A 49) 423) (.ref 184)), (DictEntry.mk (keyHash P (s A 91)) (.str (s A 91) 476) (.ref 226)), (DictEntry.mk (keyHash P (s A 16)) (.str (s A 16) 498) (.ref 238)), (DictEntry.mk (keyHash P (s A 17)) (.str (s A 17) 530) (.ref 266)), (DictEntry.mk (keyHash P (s A 92)) (.str (s A 92) 571) (.ref 299)), (DictEntry.mk (keyHash P (s A 90)) (.str (s A 90) 612) (.ref 332)), (DictEntry.mk (keyHash P (s A 54)) (.str (s A 54) 644) (.ref 358)), (DictEntry.mk (keyHash P (s A 93)) (.str (s A 93) 679) (.ref 378)), (DictEntry.mk (keyHash P (s A 57)) (.str (s A 57) 716) (.ref 400)), (DictEntry.mk (keyHash P (s A 65)) (.str (s A 65) 726) (.ref 411)), (DictEntry.mk (keyHash P (s A 101)) (.str (s A 101) 736) (.ref 418)), (DictEntry.mk (keyHash P (s A 76)) (.str (s A 76) 743) (.ref 425)), (DictEntry.mk (keyHash P (s A 114)) (.str (s A 114) 753) (.ref 432)), (DictEntry.mk (keyHash P (s A 103)) (.str (s A 103) 759) (.ref 437))] 43) #[])
def o_459 (A : AT) (P : Params) : Obj := (Obj.mk .none none (.fields #[(.int 1 0), (.int 0 0), (.ref 20), (.int 5 0), (.int 0 0), (.ref 27), (.int 7 0), (.int 0 0), (.ref 40), (.int 9 0), (.int 0 0), (.ref 52), (.int 11 0), (.int 0 0), (.ref 64), (.int 13 0), (.int 0 0), (.ref 76), (.int 15 0), (.int 0 0), (.ref 88), (.int 19 0), (.int 0 0), (.ref 108), (.int 24 0), (.int 0 0), (.ref 128), (.int 26 0), (.int 0 0), (.ref 135), (.int 28 0), (.int 0 0), (.ref 142), (.int 33 0), (.int 0 0), (.ref 149), (.int 35 0), (.int 0 0), (.ref 156), (.int 38 0), (.int 0 0), (.ref 163), (.int 44 0), (.int 0 0), (.ref 168), (.int 49 0), (.int 0 0), (.ref 173), (.int 54 0), (.int 0 0), (.ref 180), (.int 56 0), (.int 0 0), (.ref 194), (.int 72 0), (.int 0 0), (.ref 234), (.int 74 0), (.int 0 0), (.ref 248), (.int 81 0), (.int 0 0), (.ref 274), (.int 92 0), (.int 0 0), (.ref 307), (.int 103 0), (.int 0 0), (.ref 340), (.int 111 0), (.int 0 0), (.ref 366), (.int 123 0), (.int 0 0), (.ref 388), (.int 142 0), (.int 0 0), (.ref 410), (.int 149 0), (.int 0 0), (.ref 417), (.int 153 0), (.int 0 0), (.ref 424), (.int 155 0), (.int 0 0), (.ref 431), (.int 165 0), (.int 0 0), (.ref 436)]) #[])
def o_460 (A : AT) (P : Params) : Obj := (Obj.mk (.type (t A 0)) none (.seq #[] 0) #[])
def o_461 (A : AT) (P : Params) : Obj := (Obj.mk (.type (t A 5)) none (.fields #[(.builtin (t A 6)), (.type (t A 7))]) #[])
def o_462 (A : AT) (P : Params) : Obj := (Obj.mk (.type (t A 3)) none (.dict #[(DictEntry.mk (keyHash P (s A 8)) (.str (s A 8) 687) (.str (s A 56) 645)), (DictEntry.mk (keyHash P (s A 15)) (.str (s A 15) 689) (.str (s A 57) 688)), (DictEntry.mk (keyHash P (s A 10)) (.str (s A 10) 691) (.int 123 690)), (DictEntry.mk (keyHash P (s A 19)) (.str (s A 19) 703) (.ref 397)), (DictEntry.mk (keyHash P (s A 11)) (.str (s A 11) 709) (.ref 398))] 5) #[])
def o_463 (A : AT) (P : Params) : Obj := (Obj.mk (.type (t A 0)) none (.seq #[] 0) #[])
def o_464 (A : AT) (P : Params) : Obj := (Obj.mk .none none (.fields #[(.int 125 0), (.int 4 0), (.ref 396)]) #[])
def o_465 (A : AT) (P : Params) : Obj := (Obj.mk (.type (t A 2)) none (.fields #[(.str (s A 57) 682), (.str (s A 57) 683), (.str (s A 7) 684), (.int 123 0), (.int 0 0), (.int 0 0), (.int 0 0), (.int 0 0), (.ref 386), (.bool false), (.int 181 0), (.ref 387), .none, .none, .none, .none, (.int 685 0), (.int 123 0), (.str (s A 7) 686)]) #[])
def o_466 (A : AT) (P : Params) : Obj := (Obj.mk (.type (t A 4)) none .plain #[(some (.ref 388)), (some (.ref 3)), (some (.ref 385)), none, (some (.str (s A 56) 645)), none, (some (.ref 0))])
def o_467 (A : AT) (P : Params) : Obj := (Obj.mk (.type (t A 0)) none (.seq #[(.bool false), .none] 0) #[])
def o_468 (A : AT) (P : Params) : Obj := (Obj.mk (.type (t A 0)) none (.seq #[] 0) #[])
def o_469 (A : AT) (P : Params) : Obj := (Obj.mk .none none (.fields #[]) #[])
def o_470 (A : AT) (P : Params) : Obj := (Obj.mk (.type (t A 0)) none (.seq #[(.str (s A 74) 695), (.str (s A 134) 696), (.str (s A 119) 697), (.str (s A 120) 698), (.str (s A 121) 699), (.str (s A 122) 700)] 0) #[])
def o_471 (A : AT) (P : Params) : Obj := (Obj.mk (.type (t A 0)) none (.seq #[] 0) #[])
def o_472 (A : AT) (P : Params) : Obj := (Obj.mk .none none (.func (FuncData.mk (s A 19) (s A 59) (defArgs (inClass (stm A 36) 0)) (FuncBody.stmts (defBody (inClass (stm A 36) 0))) (defScope (inClass (stm A 36) 0)) 0 [] .none .none .none .none none .none .none 0)) #[])
def o_473 (A : AT) (P : Params) : Obj := (Obj.mk (.type (t A 2)) none (.fields #[(.str (s A 19) 692), (.str (s A 59) 693), (.str (s A 7) 694), (.int 125 0), (.int 6 0), (.int 0 0), (.int 0 0), (.int 3 0), (.ref 391), (.bool true), (.int 181 0), (.ref 392), .none, (.ref 393), (.ref 394), (.ref 395), (.int 701 0), (.int 125 0), (.str (s A 7) 702)]) #[])
def o_474 (A : AT) (P : Params) : Obj := (Obj.mk (.type (t A 1)) none (.func (FuncData.mk (s A 19) (s A 59) (defArgs (inClass (stm A 36) 0)) (FuncBody.stmts (defBody (inClass (stm A 36) 0))) (defScope (inClass (stm A 36) 0)) 3 [] (.ref 390) .none .none (.str (s A 56) 645) none (.ref 396) .none 0)) #[])
def o_475 (A : AT) (P : Params) : Obj := (Obj.mk (.type (t A 0)) none (.seq #[(.str (s A 134) 704), (.str (s A 122) 705), (.str (s A 120) 706), (.str (s A 121) 707), (.str (s A 119) 708)] 0) #[])
def o_476 (A : AT) (P : Params) : Obj := (Obj.mk (.type (t A 3)) none (.dict #[(DictEntry.mk (keyHash P (s A 8)) (.str (s A 8) 687) (.str (s A 56) 645)), (DictEntry.mk (keyHash P (s A 10)) (.str (s A 10) 691) (.int 123 690)), (DictEntry.mk (keyHash P (s A 19)) (.str (s A 19) 703) (.ref 397)), (DictEntry.mk (keyHash P (s A 11)) (.str (s A 11) 709) (.ref 398)), (DictEntry.mk (keyHash P (s A 12)) (.str (s A 12) 711) (.ref 401)), (DictEntry.mk (keyHash P (s A 13)) (.str (s A 13) 713) (.ref 402)), (DictEntry.mk (keyHash P (s A 14)) (.str (s A 14) 714) .none)] 4) #[])
def o_477 (A : AT) (P : Params) : Obj := (Obj.mk (.type (t A 7)) none (.cls (ClassData.mk (s A 57) [(.type (t A 12))] [(.ref 400), (.type (t A 12))] 399 (s A 57) true [] [] false none false)) #[none, none, (some (.str (s A 57) 680)), (some (.str (s A 57) 688)), (some (.builtin (t A 14))), (some (.bool true))])
def o_478 (A : AT) (P : Params) : Obj := (Obj.mk (.type (t A 17)) none (.fields #[(.str (s A 12) 710), (.ref 400), (.builtin (t A 19)), (.builtin (t A 20))]) #[])
def o_479 (A : AT) (P : Params) : Obj := (Obj.mk (.type (t A 17)) none (.fields #[(.str (s A 13) 712), (.ref 400), (.builtin (t A 18)), .none]) #[])
def o_480 (A : AT) (P : Params) : Obj := (Obj.mk (.type (t A 15)) none (.fields #[(.ref 400), (.ref 400), (.ref 400)]) #[])
def o_481 (A : AT) (P : Params) : Obj := (Obj.mk (.type (t A 5)) none (.fields #[(.builtin (t A 16)), (.ref 400)]) #[])
def o_482 (A : AT) (P : Params) : Obj := (Obj.mk (.type (t A 0)) none (.seq #[] 0) #[])
def o_483 (A : AT) (P : Params) : Obj := (Obj.mk .none none (.fields #[]) #[])
def o_484 (A : AT) (P : Params) : Obj := (Obj.mk (.type (t A 0)) none (.seq #[(.str (s A 119) 720), (.str (s A 120) 721), (.str (s A 121) 722), (.str (s A 122) 723)] 0) #[])
def o_485 (A : AT) (P : Params) : Obj := (Obj.mk (.type (t A 0)) none (.seq #[] 0) #[])
def o_486 (A : AT) (P : Params) : Obj := (Obj.mk .none none (.func (FuncData.mk (s A 65) (s A 65) (defArgs (stm A 37)) (FuncBody.stmts (defBody (stm A 37))) (defScope (stm A 37)) 0 [] .none .none .none .none none .none .none 0)) #[])
def o_487 (A : AT) (P : Params) : Obj := (Obj.mk (.type (t A 2)) none (.fields #[(.str (s A 65) 717), (.str (s A 65) 718), (.str (s A 7) 719), (.int 142 0), (.int 4 0), (.int 0 0), (.int 0 0), (.int 3 0), (.ref 405), (.bool true), (.int 181 0), (.ref 406), .none, (.ref 407), (.ref 408), (.ref 409), (.int 724 0), (.int 142 0), (.str (s A 7) 725)]) #[])
def o_488 (A : AT) (P : Params) : Obj := (Obj.mk (.type (t A 1)) none (.func (FuncData.mk (s A 65) (s A 65) (defArgs (stm A 37)) (FuncBody.stmts (defBody (stm A 37))) (defScope (stm A 37)) 3 [] .none .none .none (.str (s A 56) 645) none (.ref 410) .none 0)) #[])
def o_489 (A : AT) (P : Params) : Obj := (Obj.mk (.type (t A 0)) none (.seq #[] 0) #[])
def o_490 (A : AT) (P : Params) : Obj := (Obj.mk .none none (.fields #[]) #[])
def o_491 (A : AT) (P : Params) : Obj := (Obj.mk (.type (t A 0)) none (.seq #[(.str (s A 104) 732), (.str (s A 105) 733)] 0) #[])
def o_492 (A : AT) (P : Params) : Obj := (Obj.mk (.type (t A 0)) none (.seq #[] 0) #[])
def o_493 (A : AT) (P : Params) : Obj := (Obj.mk .none none (.func (FuncData.mk (s A 101) (s A 101) (defArgs (stm A 39)) (FuncBody.stmts (defBody (stm A 39))) (defScope (stm A 39)) 0 [] .none .none .none .none none .none .none 0)) #[])
def o_494 (A : AT) (P : Params) : Obj := (Obj.mk (.type (t A 2)) none (.fields #[(.str (s A 101) 729), (.str (s A 101) 730), (.str (s A 7) 731), (.int 149 0), (.int 2 0), (.int 0 0), (.int 0 0), (.int 3 0), (.ref 412), (.bool true), (.int 181 0), (.ref 413), .none, (.ref 414), (.ref 415), (.ref 416), (.int 734 0), (.int 149 0), (.str (s A 7) 735)]) #[])
def o_495 (A : AT) (P : Params) : Obj := (Obj.mk (.type (t A 1)) none (.func (FuncData.mk (s A 101) (s A 101) (defArgs (stm A 39)) (FuncBody.stmts (defBody (stm A 39))) (defScope (stm A 39)) 3 [] .none .none .none (.str (s A 64) 727) none (.ref 417) .none 0)) #[])
def o_496 (A : AT) (P : Params) : Obj := (Obj.mk (.type (t A 0)) none (.seq #[] 0) #[])
def o_497 (A : AT) (P : Params) : Obj := (Obj.mk .none none (.fields #[]) #[])
def o_498 (A : AT) (P : Params) : Obj := (Obj.mk (.type (t A 0)) none (.seq #[(.str (s A 135) 740)] 0) #[])
def o_499 (A : AT) (P : Params) : Obj := (Obj.mk (.type (t A 0)) none (.seq #[] 0) #[])
def o_500 (A : AT) (P : Params) : Obj := (Obj.mk .none none (.func (FuncData.mk (s A 76) (s A 76) (defArgs (stm A 40)) (FuncBody.stmts (defBody (stm A 40))) (defScope (stm A 40)) 0 [] .none .none .none .none none .none .none 0)) #[])
def o_501 (A : AT) (P : Params) : Obj := (Obj.mk (.type (t A 2)) none (.fields #[(.str (s A 76) 737), (.str (s A 76) 738), (.str (s A 7) 739), (.int 153 0), (.int 1 0), (.int 0 0), (.int 0 0), (.int 3 0), (.ref 419), (.bool true), (.int 181 0), (.ref 420), .none, (.ref 421), (.ref 422), (.ref 423), (.int 741 0), (.int 153 0), (.str (s A 7) 742)]) #[])
def o_502 (A : AT) (P : Params) : Obj := (Obj.mk (.type (t A 1)) none (.func (FuncData.mk (s A 76) (s A 76) (defArgs (stm A 40)) (FuncBody.stmts (defBody (stm A 40))) (defScope (stm A 40)) 3 [] .none .none .none (.str (s A 64) 727) none (.ref 424) .none 0)) #[])
def o_503 (A : AT) (P : Params) : Obj := (Obj.mk (.type (t A 0)) none (.seq #[] 0) #[])
def o_504 (A : AT) (P : Params) : Obj := (Obj.mk .none none (.fields #[]) #[])
def o_505 (A : AT) (P : Params) : Obj := (Obj.mk (.type (t A 0)) none (.seq #[(.str (s A 116) 747), (.str (s A 117) 748), (.str (s A 71) 749), (.str (s A 118) 750)] 0) #[])
def o_506 (A : AT) (P : Params) : Obj := (Obj.mk (.type (t A 0)) none (.seq #[] 0) #[])
def o_507 (A : AT) (P : Params) : Obj := (Obj.mk .none none (.func (FuncData.mk (s A 114) (s A 114) (defArgs (stm A 41)) (FuncBody.stmts (defBody (stm A 41))) (defScope (stm A 41)) 0 [] .none .none .none .none none .none .none 0)) #[])
def o_508 (A : AT) (P : Params) : Obj := (Obj.mk (.type (t A 2)) none (.fields #[(.str (s A 114) 744), (.str (s A 114) 745), (.str (s A 7) 746), (.int 155 0), (.int 2 0), (.int 0 0), (.int 0 0), (.int 3 0), (.ref 426), (.bool true), (.int 181 0), (.ref 427), .none, (.ref 428), (.ref 429), (.ref 430), (.int 751 0), (.int 155 0), (.str (s A 7) 752)]) #[])
def o_509 (A : AT) (P : Params) : Obj := (Obj.mk (.type (t A 1)) none (.func (FuncData.mk (s A 114) (s A 114) (defArgs (stm A 41)) (FuncBody.stmts (defBody (stm A 41))) (defScope (stm A 41)) 3 [] .none .none .none (.str (s A 64) 727) none (.ref 431) .none 0)) #[])
def o_510 (A : AT) (P : Params) : Obj := (Obj.mk (.type (t A 0)) none (.seq #[] 0) #[])
def o_511 (A : AT) (P : Params) : Obj := (Obj.mk .none none (.fields #[]) #[])
def o_512 (A : AT) (P : Params) : Obj := (Obj.mk .none none (.func (FuncData.mk (s A 103) (s A 103) (defArgs (stm A 42)) (FuncBody.stmts (defBody (stm A 42))) (defScope (stm A 42)) 0 [] .none .none .none .none none .none .none 0)) #[])
def o_513 (A : AT) (P : Params) : Obj := (Obj.mk (.type (t A 2)) none (.fields #[(.str (s A 103) 754), (.str (s A 103) 755), (.str (s A 7) 756), (.int 165 0), (.int 1 0), (.int 0 0), (.int 0 0), (.int 3 0), (.ref 433), (.bool true), (.int 181 0), (.ref 434), .none, .none, .none, (.ref 435), (.int 757 0), (.int 165 0), (.str (s A 7) 758)]) #[])
def o_514 (A : AT) (P : Params) : Obj := (Obj.mk (.type (t A 1)) none (.func (FuncData.mk (s A 103) (s A 103) (defArgs (stm A 42)) (FuncBody.stmts (defBody (stm A 42))) (defScope (stm A 42)) 3 [] .none .none .none (.str (s A 64) 727) none (.ref 436) .none 0)) #[])
def o_515 (A : AT) (P : Params) : Obj := (Obj.mk (.type (t A 3)) none (.dict #[(DictEntry.mk (keyHash P (s A 20)) (.str (s A 20) 165) (.str (s A 64) 727)), (DictEntry.mk (keyHash P (s A 14)) (.str (s A 14) 166) .none), (DictEntry.mk (keyHash P (s A 22)) (.str (s A 22) 167) .none), (DictEntry.mk (keyHash P (s A 23)) (.str (s A 23) 168) (.builtin (t A 8))), (DictEntry.mk (keyHash P (s A 24)) (.str (s A 24) 169) .none), (DictEntry.mk (keyHash P (s A 25)) (.str (s A 25) 170) (.ref 6)), (DictEntry.mk (keyHash P (s A 26)) (.str (s A 26) 171) (.ref 4)), (DictEntry.mk (keyHash P (s A 27)) (.str (s A 27) 173) (.str (s A 7) 172)), (DictEntry.mk (keyHash P (s A 28)) (.str (s A 28) 174) .none), (DictEntry.mk (keyHash P (s A 29)) (.str (s A 29) 193) (.ref 21)), (DictEntry.mk (keyHash P (s A 30)) (.str (s A 30) 213) (.ref 31)), (DictEntry.mk (keyHash P (s A 31)) (.str (s A 31) 229) (.ref 44)), (DictEntry.mk (keyHash P (s A 32)) (.str (s A 32) 245) (.ref 56)), (DictEntry.mk (keyHash P (s A 33)) (.str (s A 33) 261) (.ref 68)), (DictEntry.mk (keyHash P (s A 34)) (.str (s A 34) 277) (.ref 80)), (DictEntry.mk (keyHash P (s A 35)) (.str (s A 35) 302) (.ref 100)), (DictEntry.mk (keyHash P (s A 36)) (.str (s A 36) 328) (.ref 120)), (DictEntry.mk (keyHash P (s A 37)) (.str (s A 37) 337) (.ref 129)), (DictEntry.mk (keyHash P (s A 38)) (.str (s A 38) 346) (.ref 136)), (DictEntry.mk (keyHash P (s A 39)) (.str (s A 39) 354) (.ref 143)), (DictEntry.mk (keyHash P (s A 40)) (.str (s A 40) 358) (.int 60 357)), (DictEntry.mk (keyHash P (s A 41)) (.str (s A 41) 360) (.int 1440 359)), (DictEntry.mk (keyHash P (s A 42)) (.str (s A 42) 367) (.ref 150)), (DictEntry.mk (keyHash P (s A 43)) (.str (s A 43) 374) (.ref 157)), (DictEntry.mk (keyHash P (s A 44)) (.str (s A 44) 381) (.ref 164)), (DictEntry.mk (keyHash P (s A 45)) (.str (s A 45) 385) (.str (s A 46) 384)), (DictEntry.mk (keyHash P (s A 47)) (.str (s A 47) 387) (.int 8 386)), (DictEntry.mk (keyHash P (s A 3)) (.str (s A 3) 393) (.ref 169)), (DictEntry.mk (keyHash P (s A 48)) (.str (s A 48) 401) (.ref 174)), (DictEntry.mk (keyHash P (s A 49)) (.str (s A 49) 423) (.ref 184)), (DictEntry.mk (keyHash P (s A 91)) (.str (s A 91) 476) (.ref 226)), (DictEntry.mk (keyHash P (s A 16)) (.str (s A 16) 498) (.ref 238)), (DictEntry.mk (keyHash P (s A 17)) (.str (s A 17) 530) (.ref 266)), (DictEntry.mk (keyHash P (s A 92)) (.str (s A 92) 571) (.ref 299)), (DictEntry.mk (keyHash P (s A 90)) (.str (s A 90) 612) (.ref 332)), (DictEntry.mk (keyHash P (s A 54)) (.str (s A 54) 644) (.ref 358)), (DictEntry.mk (keyHash P (s A 93)) (.str (s A 93) 679) (.ref 378)), (DictEntry.mk (keyHash P (s A 57)) (.str (s A 57) 716) (.ref 400)), (DictEntry.mk (keyHash P (s A 65)) (.str (s A 65) 726) (.ref 411)), (DictEntry.mk (keyHash P (s A 101)) (.str (s A 101) 736) (.ref 418)), (DictEntry.mk (keyHash P (s A 76)) (.str (s A 76) 743) (.ref 425)), (DictEntry.mk (keyHash P (s A 114)) (.str (s A 114) 753) (.ref 432)), (DictEntry.mk (keyHash P (s A 103)) (.str (s A 103) 759) (.ref 437)), (DictEntry.mk (keyHash P (s A 6)) (.str (s A 6) 769) (.ref 444)), (DictEntry.mk (keyHash P (s A 97)) (.str (s A 97) 780) (.ref 451)), (DictEntry.mk (keyHash P (s A 110)) (.str (s A 110) 789) (.ref 458)), (DictEntry.mk (keyHash P (s A 89)) (.str (s A 89) 795) (.ref 463)), (DictEntry.mk (keyHash P (s A 63)) (.str (s A 63) 801) (.ref 468)), (DictEntry.mk (keyHash P (s A 106)) (.str (s A 106) 813) (.ref 475)), (DictEntry.mk (keyHash P (s A 62)) (.str (s A 62) 839) (.ref 482))] 50) #[])
def o_516 (A : AT) (P : Params) : Obj := (Obj.mk .none none (.fields #[(.int 1 0), (.int 0 0), (.ref 20), (.int 5 0), (.int 0 0), (.ref 27), (.int 7 0), (.int 0 0), (.ref 40), (.int 9 0), (.int 0 0), (.ref 52), (.int 11 0), (.int 0 0), (.ref 64), (.int 13 0), (.int 0 0), (.ref 76), (.int 15 0), (.int 0 0), (.ref 88), (.int 19 0), (.int 0 0), (.ref 108), (.int 24 0), (.int 0 0), (.ref 128), (.int 26 0), (.int 0 0), (.ref 135), (.int 28 0), (.int 0 0), (.ref 142), (.int 33 0), (.int 0 0), (.ref 149), (.int 35 0), (.int 0 0), (.ref 156), (.int 38 0), (.int 0 0), (.ref 163), (.int 44 0), (.int 0 0), (.ref 168), (.int 49 0), (.int 0 0), (.ref 173), (.int 54 0), (.int 0 0), (.ref 180), (.int 56 0), (.int 0 0), (.ref 194), (.int 72 0), (.int 0 0), (.ref 234), (.int 74 0), (.int 0 0), (.ref 248), (.int 81 0), (.int 0 0), (.ref 274), (.int 92 0), (.int 0 0), (.ref 307), (.int 103 0), (.int 0 0), (.ref 340), (.int 111 0), (.int 0 0), (.ref 366), (.int 123 0), (.int 0 0), (.ref 388), (.int 142 0), (.int 0 0), (.ref 410), (.int 149 0), (.int 0 0), (.ref 417), (.int 153 0), (.int 0 0), (.ref 424), (.int 155 0), (.int 0 0), (.ref 431), (.int 165 0), (.int 0 0), (.ref 436), (.int 176 0), (.int 0 0), (.ref 443), (.int 183 0), (.int 0 0), (.ref 450), (.int 194 0), (.int 0 0), (.ref 457), (.int 196 0), (.int 0 0), (.ref 462), (.int 201 0), (.int 0 0), (.ref 467), (.int 213 0), (.int 0 0), (.ref 474), (.int 226 0), (.int 0 0), (.ref 481)]) #[])
def o_517 (A : AT) (P : Params) : Obj := (Obj.mk (.type (t A 0)) none (.seq #[] 0) #[])
def o_518 (A : AT) (P : Params) : Obj := (Obj.mk .none none (.fields #[]) #[])
def o_519 (A : AT) (P : Params) : Obj := (Obj.mk (.type (t A 0)) none (.seq #[(.str (s A 116) 763), (.str (s A 71) 764), (.str (s A 105) 765), (.str (s A 128) 766)] 0) #[])
def o_520 (A : AT) (P : Params) : Obj := (Obj.mk (.type (t A 0)) none (.seq #[] 0) #[])
def o_521 (A : AT) (P : Params) : Obj := (Obj.mk .none none (.func (FuncData.mk (s A 6) (s A 6) (defArgs (stm A 43)) (FuncBody.stmts (defBody (stm A 43))) (defScope (stm A 43)) 0 [] .none .none .none .none none .none .none 0)) #[])
def o_522 (A : AT) (P : Params) : Obj := (Obj.mk (.type (t A 2)) none (.fields #[(.str (s A 6) 760), (.str (s A 6) 761), (.str (s A 7) 762), (.int 176 0), (.int 1 0), (.int 0 0), (.int 0 0), (.int 3 0), (.ref 438), (.bool true), (.int 181 0), (.ref 439), .none, (.ref 440), (.ref 441), (.ref 442), (.int 767 0), (.int 176 0), (.str (s A 7) 768)]) #[])
def o_523 (A : AT) (P : Params) : Obj := (Obj.mk (.type (t A 1)) none (.func (FuncData.mk (s A 6) (s A 6) (defArgs (stm A 43)) (FuncBody.stmts (defBody (stm A 43))) (defScope (stm A 43)) 3 [] .none .none .none (.str (s A 64) 727) none (.ref 443) .none 0)) #[])
def o_524 (A : AT) (P : Params) : Obj := (Obj.mk (.type (t A 0)) none (.seq #[] 0) #[])
def o_525 (A : AT) (P : Params) : Obj := (Obj.mk .none none (.fields #[]) #[])
def o_526 (A : AT) (P : Params) : Obj := (Obj.mk (.type (t A 0)) none (.seq #[(.str (s A 124) 773), (.str (s A 79) 774), (.str (s A 71) 775), (.str (s A 125) 776), (.str (s A 126) 777)] 0) #[])
def o_527 (A : AT) (P : Params) : Obj := (Obj.mk (.type (t A 0)) none (.seq #[] 0) #[])
def o_528 (A : AT) (P : Params) : Obj := (Obj.mk .none none (.func (FuncData.mk (s A 97) (s A 97) (defArgs (stm A 44)) (FuncBody.stmts (defBody (stm A 44))) (defScope (stm A 44)) 0 [] .none .none .none .none none .none .none 0)) #[])
def o_529 (A : AT) (P : Params) : Obj := (Obj.mk (.type (t A 2)) none (.fields #[(.str (s A 97) 770), (.str (s A 97) 771), (.str (s A 7) 772), (.int 183 0), (.int 2 0), (.int 0 0), (.int 0 0), (.int 3 0), (.ref 445), (.bool true), (.int 181 0), (.ref 446), .none, (.ref 447), (.ref 448), (.ref 449), (.int 778 0), (.int 183 0), (.str (s A 7) 779)]) #[])
def o_530 (A : AT) (P : Params) : Obj := (Obj.mk (.type (t A 1)) none (.func (FuncData.mk (s A 97) (s A 97) (defArgs (stm A 44)) (FuncBody.stmts (defBody (stm A 44))) (defScope (stm A 44)) 3 [] .none .none .none (.str (s A 64) 727) none (.ref 450) .none 0)) #[])
def o_531 (A : AT) (P : Params) : Obj := (Obj.mk (.type (t A 0)) none (.seq #[] 0) #[])
def o_532 (A : AT) (P : Params) : Obj := (Obj.mk .none none (.fields #[]) #[])
def o_533 (A : AT) (P : Params) : Obj := (Obj.mk (.type (t A 0)) none (.seq #[(.str (s A 79) 784), (.str (s A 80) 785), (.str (s A 81) 786)] 0) #[])
def o_534 (A : AT) (P : Params) : Obj := (Obj.mk (.type (t A 0)) none (.seq #[] 0) #[])
def o_535 (A : AT) (P : Params) : Obj := (Obj.mk .none none (.func (FuncData.mk (s A 110) (s A 110) (defArgs (stm A 45)) (FuncBody.stmts (defBody (stm A 45))) (defScope (stm A 45)) 0 [] .none .none .none .none none .none .none 0)) #[])
def o_536 (A : AT) (P : Params) : Obj := (Obj.mk (.type (t A 2)) none (.fields #[(.str (s A 110) 781), (.str (s A 110) 782), (.str (s A 7) 783), (.int 194 0), (.int 3 0), (.int 0 0), (.int 0 0), (.int 3 0), (.ref 452), (.bool true), (.int 181 0), (.ref 453), .none, (.ref 454), (.ref 455), (.ref 456), (.int 787 0), (.int 194 0), (.str (s A 7) 788)]) #[])
def o_537 (A : AT) (P : Params) : Obj := (Obj.mk (.type (t A 1)) none (.func (FuncData.mk (s A 110) (s A 110) (defArgs (stm A 45)) (FuncBody.stmts (defBody (stm A 45))) (defScope (stm A 45)) 3 [] .none .none .none (.str (s A 64) 727) none (.ref 457) .none 0)) #[])
def o_538 (A : AT) (P : Params) : Obj := (Obj.mk (.type (t A 0)) none (.seq #[] 0) #[])
def o_539 (A : AT) (P : Params) : Obj := (Obj.mk .none none (.fields #[]) #[])
def o_540 (A : AT) (P : Params) : Obj := (Obj.mk .none none (.func (FuncData.mk (s A 89) (s A 89) (defArgs (stm A 46)) (FuncBody.stmts (defBody (stm A 46))) (defScope (stm A 46)) 0 [] .none .none .none .none none .none .none 0)) #[])
def o_541 (A : AT) (P : Params) : Obj := (Obj.mk (.type (t A 2)) none (.fields #[(.str (s A 89) 790), (.str (s A 89) 791), (.str (s A 7) 792), (.int 196 0), (.int 3 0), (.int 0 0), (.int 0 0), (.int 3 0), (.ref 459), (.bool true), (.int 181 0), (.ref 460), .none, .none, .none, (.ref 461), (.int 793 0), (.int 196 0), (.str (s A 7) 794)]) #[])
def o_542 (A : AT) (P : Params) : Obj := (Obj.mk (.type (t A 1)) none (.func (FuncData.mk (s A 89) (s A 89) (defArgs (stm A 46)) (FuncBody.stmts (defBody (stm A 46))) (defScope (stm A 46)) 3 [] .none .none .none (.str (s A 64) 727) none (.ref 462) .none 0)) #[])
def o_543 (A : AT) (P : Params) : Obj := (Obj.mk (.type (t A 0)) none (.seq #[] 0) #[])
def o_544 (A : AT) (P : Params) : Obj := (Obj.mk .none none (.fields #[]) #[])
def o_545 (A : AT) (P : Params) : Obj := (Obj.mk .none none (.func (FuncData.mk (s A 63) (s A 63) (defArgs (stm A 47)) (FuncBody.stmts (defBody (stm A 47))) (defScope (stm A 47)) 0 [] .none .none .none .none none .none .none 0)) #[])
def o_546 (A : AT) (P : Params) : Obj := (Obj.mk (.type (t A 2)) none (.fields #[(.str (s A 63) 796), (.str (s A 63) 797), (.str (s A 7) 798), (.int 201 0), (.int 4 0), (.int 0 0), (.int 0 0), (.int 3 0), (.ref 464), (.bool true), (.int 181 0), (.ref 465), .none, .none, .none, (.ref 466), (.int 799 0), (.int 201 0), (.str (s A 7) 800)]) #[])
def o_547 (A : AT) (P : Params) : Obj := (Obj.mk (.type (t A 1)) none (.func (FuncData.mk (s A 63) (s A 63) (defArgs (stm A 47)) (FuncBody.stmts (defBody (stm A 47))) (defScope (stm A 47)) 3 [] .none .none .none (.str (s A 64) 727) none (.ref 467) .none 0)) #[])
def o_548 (A : AT) (P : Params) : Obj := (Obj.mk (.type (t A 0)) none (.seq #[] 0) #[])
def o_549 (A : AT) (P : Params) : Obj := (Obj.mk .none none (.fields #[]) #[])
def o_550 (A : AT) (P : Params) : Obj := (Obj.mk (.type (t A 0)) none (.seq #[(.str (s A 66) 805), (.str (s A 67) 806), (.str (s A 68) 807), (.str (s A 69) 808), (.str (s A 70) 809), (.str (s A 71) 810)] 0) #[])
def o_551 (A : AT) (P : Params) : Obj := (Obj.mk (.type (t A 0)) none (.seq #[] 0) #[])
def o_552 (A : AT) (P : Params) : Obj := (Obj.mk .none none (.func (FuncData.mk (s A 106) (s A 106) (defArgs (stm A 48)) (FuncBody.stmts (defBody (stm A 48))) (defScope (stm A 48)) 0 [] .none .none .none .none none .none .none 0)) #[])
def o_553 (A : AT) (P : Params) : Obj := (Obj.mk (.type (t A 2)) none (.fields #[(.str (s A 106) 802), (.str (s A 106) 803), (.str (s A 7) 804), (.int 213 0), (.int 5 0), (.int 0 0), (.int 0 0), (.int 3 0), (.ref 469), (.bool true), (.int 181 0), (.ref 470), .none, (.ref 471), (.ref 472), (.ref 473), (.int 811 0), (.int 213 0), (.str (s A 7) 812)]) #[])
def o_554 (A : AT) (P : Params) : Obj := (Obj.mk (.type (t A 1)) none (.func (FuncData.mk (s A 106) (s A 106) (defArgs (stm A 48)) (FuncBody.stmts (defBody (stm A 48))) (defScope (stm A 48)) 3 [] .none .none .none (.str (s A 64) 727) none (.ref 474) .none 0)) #[])
def o_555 (A : AT) (P : Params) : Obj := (Obj.mk (.type (t A 0)) none (.seq #[] 0) #[])
def o_556 (A : AT) (P : Params) : Obj := (Obj.mk .none none (.fields #[]) #[])
def o_557 (A : AT) (P : Params) : Obj := (Obj.mk (.type (t A 0)) none (.seq #[(.str (s A 104) 817), (.str (s A 135) 818), (.str (s A 116) 819), (.str (s A 136) 820), (.str (s A 137) 821), (.str (s A 138) 822), (.str (s A 70) 823), (.str (s A 139) 824), (.str (s A 68) 825), (.str (s A 67) 826), (.str (s A 140) 827), (.str (s A 141) 828), (.str (s A 69) 829), (.str (s A 142) 830), (.str (s A 66) 831), (.str (s A 79) 832), (.str (s A 143) 833), (.str (s A 144) 834), (.str (s A 105) 835), (.str (s A 81) 836)] 0) #[])
def o_558 (A : AT) (P : Params) : Obj := (Obj.mk (.type (t A 0)) none (.seq #[] 0) #[])
def o_559 (A : AT) (P : Params) : Obj := (Obj.mk .none none (.func (FuncData.mk (s A 62) (s A 62) (defArgs (stm A 49)) (FuncBody.stmts (defBody (stm A 49))) (defScope (stm A 49)) 0 [] .none .none .none .none none .none .none 0)) #[])
def o_560 (A : AT) (P : Params) : Obj := (Obj.mk (.type (t A 2)) none (.fields #[(.str (s A 62) 814), (.str (s A 62) 815), (.str (s A 7) 816), (.int 226 0), (.int 1 0), (.int 0 0), (.int 0 0), (.int 3 0), (.ref 476), (.bool true), (.int 181 0), (.ref 477), .none, (.ref 478), (.ref 479), (.ref 480), (.int 837 0), (.int 226 0), (.str (s A 7) 838)]) #[])
def o_561 (A : AT) (P : Params) : Obj := (Obj.mk (.type (t A 1)) none (.func (FuncData.mk (s A 62) (s A 62) (defArgs (stm A 49)) (FuncBody.stmts (defBody (stm A 49))) (defScope (stm A 49)) 3 [] .none .none .none (.str (s A 64) 727) none (.ref 481) .none 0)) #[])
def tree_47 (A : AT) : Params → PySem.W.BT := (fun P => (N (boot_o_0 P) (N (boot_o_1 P) (N (boot_o_3 P) (N (boot_o_7 P) L L) (N (o_43 A P) L L)) (N (boot_o_5 P) (N (boot_o_9 P) L L) (N (o_45 A P) L L))) (N (boot_o_2 P) (N (boot_o_4 P) (N (boot_o_8 P) L L) (N (o_44 A P) L L)) (N (boot_o_6 P) (N (boot_o_10 P) L L) (N (o_46 A P) L L)))))
def heap_46 (A : AT) : Params → PySem.Heap := (fun P => (Heap.mk (Array.mk [(boot_o_0 P), (boot_o_1 P), (boot_o_2 P), (boot_o_3 P), (boot_o_4 P), (boot_o_5 P), (boot_o_6 P), (boot_o_7 P), (boot_o_8 P), (boot_o_9 P), (boot_o_10 P), (o_43 A P), (o_44 A P), (o_45 A P), (o_46 A P)]) (Life.mk [] [] [] 0 [] [] false #[] [] 0 false false false 0 [2000, 10, 10] false 0 true [] [] 0 false)))
def heap_562 (A : AT) : Params → PySem.Heap := (fun P => (Heap.mk (Array.mk [(boot_o_0 P), (boot_o_1 P), (boot_o_2 P), (o_515 A P), (boot_o_4 P), (boot_o_5 P), (boot_o_6 P), (boot_o_7 P), (boot_o_8 P), (boot_o_9 P), (boot_o_10 P), (o_43 A P), (o_516 A P), (o_45 A P), (o_46 A P), (o_51 A P), (o_52 A P), (o_53 A P), (o_54 A P), (o_55 A P), (o_56 A P), (o_57 A P), (o_58 A P), (o_59 A P), (o_60 A P), (o_61 A P), (o_62 A P), (o_63 A P), (o_64 A P), (o_65 A P), (o_66 A P), (o_156 A P), (o_68 A P), (o_69 A P), (o_70 A P), (o_74 A P), (o_75 A P), (o_76 A P), (o_77 A P), (o_78 A P), (o_79 A P), (o_80 A P), (o_81 A P), (o_82 A P), (o_83 A P), (o_84 A P), (o_85 A P), (o_89 A P), (o_90 A P), (o_91 A P), (o_92 A P), (o_93 A P), (o_94 A P), (o_95 A P), (o_96 A P), (o_97 A P), (o_98 A P), (o_99 A P), (o_100 A P), (o_104 A P), (o_105 A P), (o_106 A P), (o_107 A P), (o_108 A P), (o_109 A P), (o_110 A P), (o_111 A P), (o_112 A P), (o_113 A P), (o_114 A P), (o_115 A P), (o_119 A P), (o_120 A P), (o_121 A P), (o_122 A P), (o_123 A P), (o_124 A P), (o_125 A P), (o_126 A P), (o_127 A P), (o_128 A P), (o_129 A P), (o_130 A P), (o_134 A P), (o_135 A P), (o_136 A P), (o_137 A P), (o_138 A P), (o_139 A P), (o_140 A P), (o_141 A P), (o_142 A P), (o_143 A P), (o_144 A P), (o_145 A P), (o_146 A P), (o_147 A P), (o_148 A P), (o_149 A P), (o_150 A P), (o_151 A P), (o_152 A P), (o_153 A P), (o_157 A P), (o_158 A P), (o_159 A P), (o_160 A P), (o_161 A P), (o_162 A P), (o_163 A P), (o_164 A P), (o_165 A P), (o_166 A P), (o_167 A P), (o_168 A P), (o_169 A P), (o_170 A P), (o_171 A P), (o_172 A P), (o_173 A P), (o_174 A P), (o_175 A P), (o_176 A P), (o_177 A P), (o_178 A P), (o_179 A P), (o_180 A P), (o_181 A P), (o_182 A P), (o_183 A P), (o_184 A P), (o_185 A P), (o_186 A P), (o_187 A P), (o_188 A P), (o_189 A P), (o_190 A P), (o_191 A P), (o_192 A P), (o_193 A P), (o_194 A P), (o_195 A P), (o_196 A P), (o_197 A P), (o_200 A P), (o_201 A P), (o_202 A P), (o_203 A P), (o_204 A P), (o_205 A P), (o_206 A P), (o_207 A P), (o_208 A P), (o_209 A P), (o_210 A P), (o_211 A P), (o_212 A P), (o_213 A P), (o_214 A P), (o_215 A P), (o_216 A P), (o_217 A P), (o_218 A P), (o_219 A P), (o_220 A P), (o_221 A P), (o_222 A P), (o_223 A P), (o_224 A P), (o_225 A P), (o_226 A P), (o_227 A P), (o_228 A P), (o_229 A P), (o_230 A P), (o_231 A P), (o_232 A P), (o_233 A P), (o_234 A P), (o_235 A P), (o_236 A P), (o_237 A P), (o_238 A P), (o_239 A P), (o_247 A P), (o_241 A P), (o_242 A P), (o_243 A P), (o_244 A P), (o_248 A P), (o_249 A P), (o_250 A P), (o_251 A P), (o_252 A P), (o_253 A P), (o_254 A P), (o_255 A P), (o_256 A P), (o_257 A P), (o_258 A P), (o_259 A P), (o_260 A P), (o_261 A P), (o_262 A P), (o_263 A P), (o_264 A P), (o_265 A P), (o_266 A P), (o_267 A P), (o_268 A P), (o_269 A P), (o_270 A P), (o_271 A P), (o_272 A P), (o_273 A P), (o_274 A P), (o_275 A P), (o_276 A P), (o_277 A P), (o_278 A P), (o_279 A P), (o_280 A P), (o_281 A P), (o_282 A P), (o_283 A P), (o_284 A P), (o_285 A P), (o_286 A P), (o_287 A P), (o_290 A P), (o_291 A P), (o_292 A P), (o_293 A P), (o_294 A P), (o_295 A P), (o_296 A P), (o_297 A P), (o_298 A P), (o_407 A P), (o_300 A P), (o_301 A P), (o_302 A P), (o_303 A P), (o_307 A P), (o_308 A P), (o_309 A P), (o_310 A P), (o_311 A P), (o_312 A P), (o_313 A P), (o_314 A P), (o_315 A P), (o_316 A P), (o_317 A P), (o_318 A P), (o_319 A P), (o_320 A P), (o_321 A P), (o_322 A P), (o_323 A P), (o_324 A P), (o_325 A P), (o_326 A P), (o_327 A P), (o_328 A P), (o_329 A P), (o_330 A P), (o_331 A P), (o_332 A P), (o_336 A P), (o_337 A P), (o_338 A P), (o_339 A P), (o_340 A P), (o_341 A P), (o_342 A P), (o_343 A P), (o_344 A P), (o_345 A P), (o_346 A P), (o_347 A P), (o_348 A P), (o_349 A P), (o_350 A P), (o_351 A P), (o_352 A P), (o_353 A P), (o_354 A P), (o_355 A P), (o_356 A P), (o_357 A P), (o_358 A P), (o_359 A P), (o_360 A P), (o_361 A P), (o_362 A P), (o_363 A P), (o_364 A P), (o_365 A P), (o_366 A P), (o_367 A P), (o_368 A P), (o_372 A P), (o_373 A P), (o_374 A P), (o_375 A P), (o_376 A P), (o_377 A P), (o_378 A P), (o_379 A P), (o_380 A P), (o_381 A P), (o_382 A P), (o_383 A P), (o_384 A P), (o_385 A P), (o_386 A P), (o_387 A P), (o_388 A P), (o_389 A P), (o_390 A P), (o_391 A P), (o_392 A P), (o_393 A P), (o_394 A P), (o_395 A P), (o_396 A P), (o_397 A P), (o_398 A P), (o_399 A P), (o_400 A P), (o_401 A P), (o_402 A P), (o_403 A P), (o_404 A P), (o_408 A P), (o_409 A P), (o_410 A P), (o_411 A P), (o_412 A P), (o_413 A P), (o_414 A P), (o_415 A P), (o_416 A P), (o_417 A P), (o_418 A P), (o_419 A P), (o_420 A P), (o_421 A P), (o_422 A P), (o_423 A P), (o_424 A P), (o_425 A P), (o_426 A P), (o_427 A P), (o_428 A P), (o_429 A P), (o_430 A P), (o_431 A P), (o_432 A P), (o_433 A P), (o_436 A P), (o_437 A P), (o_438 A P), (o_439 A P), (o_440 A P), (o_441 A P), (o_442 A P), (o_443 A P), (o_444 A P), (o_445 A P), (o_446 A P), (o_447 A P), (o_448 A P), (o_449 A P), (o_450 A P), (o_451 A P), (o_452 A P), (o_453 A P), (o_454 A P), (o_455 A P), (o_456 A P), (o_457 A P), (o_460 A P), (o_461 A P), (o_462 A P), (o_463 A P), (o_464 A P), (o_465 A P), (o_466 A P), (o_467 A P), (o_468 A P), (o_469 A P), (o_470 A P), (o_471 A P), (o_472 A P), (o_473 A P), (o_474 A P), (o_475 A P), (o_476 A P), (o_477 A P), (o_478 A P), (o_479 A P), (o_480 A P), (o_481 A P), (o_482 A P), (o_483 A P), (o_484 A P), (o_485 A P), (o_486 A P), (o_487 A P), (o_488 A P), (o_489 A P), (o_490 A P), (o_491 A P), (o_492 A P), (o_493 A P), (o_494 A P), (o_495 A P), (o_496 A P), (o_497 A P), (o_498 A P), (o_499 A P), (o_500 A P), (o_501 A P), (o_502 A P), (o_503 A P), (o_504 A P), (o_505 A P), (o_506 A P), (o_507 A P), (o_508 A P), (o_509 A P), (o_510 A P), (o_511 A P), (o_512 A P), (o_513 A P), (o_514 A P), (o_517 A P), (o_518 A P), (o_519 A P), (o_520 A P), (o_521 A P), (o_522 A P), (o_523 A P), (o_524 A P), (o_525 A P), (o_526 A P), (o_527 A P), (o_528 A P), (o_529 A P), (o_530 A P), (o_531 A P), (o_532 A P), (o_533 A P), (o_534 A P), (o_535 A P), (o_536 A P), (o_537 A P), (o_538 A P), (o_539 A P), (o_540 A P), (o_541 A P), (o_542 A P), (o_543 A P), (o_544 A P), (o_545 A P), (o_546 A P), (o_547 A P), (o_548 A P), (o_549 A P), (o_550 A P), (o_551 A P), (o_552 A P), (o_553 A P), (o_554 A P), (o_555 A P), (o_556 A P), (o_557 A P), (o_558 A P), (o_559 A P), (o_560 A P), (o_561 A P)]) (Life.mk [] [] [] 0 [] [] false #[] [] 0 false false false 0 [2000, 10, 10] false 0 true [] [] 0 false)))
def tree_244 (A : AT) : Params → PySem.W.BT := (fun P => (N (boot_o_0 P) (N (boot_o_1 P) (N (o_198 A P) (N (boot_o_7 P) (N (o_51 A P) (N (o_156 A P) (N (o_108 A P) (N (o_181 A P) L L) L) (N (o_146 A P) (N (o_215 A P) L L) L)) (N (o_89 A P) (N (o_127 A P) (N (o_197 A P) L L) L) (N (o_165 A P) (N (o_231 A P) L L) L))) (N (o_59 A P) (N (o_78 A P) (N (o_119 A P) (N (o_189 A P) L L) L) (N (o_157 A P) (N (o_223 A P) L L) L)) (N (o_97 A P) (N (o_138 A P) (N (o_207 A P) L L) L) (N (o_173 A P) (N (o_239 A P) L L) L)))) (N (o_43 A P) (N (o_55 A P) (N (o_74 A P) (N (o_112 A P) (N (o_185 A P) L L) L) (N (o_150 A P) (N (o_219 A P) L L) L)) (N (o_93 A P) (N (o_134 A P) (N (o_203 A P) L L) L) (N (o_169 A P) (N (o_235 A P) L L) L))) (N (o_63 A P) (N (o_82 A P) (N (o_123 A P) (N (o_193 A P) L L) L) (N (o_161 A P) (N (o_227 A P) L L) L)) (N (o_104 A P) (N (o_142 A P) (N (o_211 A P) L L) L) (N (o_177 A P) (N (o_243 A P) L L) L))))) (N (boot_o_5 P) (N (boot_o_9 P) (N (o_53 A P) (N (o_69 A P) (N (o_110 A P) (N (o_183 A P) L L) L) (N (o_148 A P) (N (o_217 A P) L L) L)) (N (o_91 A P) (N (o_129 A P) (N (o_201 A P) L L) L) (N (o_167 A P) (N (o_233 A P) L L) L))) (N (o_61 A P) (N (o_80 A P) (N (o_121 A P) (N (o_191 A P) L L) L) (N (o_159 A P) (N (o_225 A P) L L) L)) (N (o_99 A P) (N (o_140 A P) (N (o_209 A P) L L) L) (N (o_175 A P) (N (o_241 A P) L L) L)))) (N (o_45 A P) (N (o_57 A P) (N (o_76 A P) (N (o_114 A P) (N (o_187 A P) L L) L) (N (o_152 A P) (N (o_221 A P) L L) L)) (N (o_95 A P) (N (o_136 A P) (N (o_205 A P) L L) L) (N (o_171 A P) (N (o_237 A P) L L) L))) (N (o_65 A P) (N (o_84 A P) (N (o_125 A P) (N (o_195 A P) L L) L) (N (o_163 A P) (N (o_229 A P) L L) L)) (N (o_106 A P) (N (o_144 A P) (N (o_213 A P) L L) L) (N (o_179 A P) L L)))))) (N (boot_o_2 P) (N (boot_o_4 P) (N (boot_o_8 P) (N (o_52 A P) (N (o_68 A P) (N (o_109 A P) (N (o_182 A P) L L) L) (N (o_147 A P) (N (o_216 A P) L L) L)) (N (o_90 A P) (N (o_128 A P) (N (o_200 A P) L L) L) (N (o_166 A P) (N (o_232 A P) L L) L))) (N (o_60 A P) (N (o_79 A P) (N (o_120 A P) (N (o_190 A P) L L) L) (N (o_158 A P) (N (o_224 A P) L L) L)) (N (o_98 A P) (N (o_139 A P) (N (o_208 A P) L L) L) (N (o_174 A P) (N (o_240 A P) L L) L)))) (N (o_199 A P) (N (o_56 A P) (N (o_75 A P) (N (o_113 A P) (N (o_186 A P) L L) L) (N (o_151 A P) (N (o_220 A P) L L) L)) (N (o_94 A P) (N (o_135 A P) (N (o_204 A P) L L) L) (N (o_170 A P) (N (o_236 A P) L L) L))) (N (o_64 A P) (N (o_83 A P) (N (o_124 A P) (N (o_194 A P) L L) L) (N (o_162 A P) (N (o_228 A P) L L) L)) (N (o_105 A P) (N (o_143 A P) (N (o_212 A P) L L) L) (N (o_178 A P) (N (o_244 A P) L L) L))))) (N (boot_o_6 P) (N (boot_o_10 P) (N (o_54 A P) (N (o_70 A P) (N (o_111 A P) (N (o_184 A P) L L) L) (N (o_149 A P) (N (o_218 A P) L L) L)) (N (o_92 A P) (N (o_130 A P) (N (o_202 A P) L L) L) (N (o_168 A P) (N (o_234 A P) L L) L))) (N (o_62 A P) (N (o_81 A P) (N (o_122 A P) (N (o_192 A P) L L) L) (N (o_160 A P) (N (o_226 A P) L L) L)) (N (o_100 A P) (N (o_141 A P) (N (o_210 A P) L L) L) (N (o_176 A P) (N (o_242 A P) L L) L)))) (N (o_46 A P) (N (o_58 A P) (N (o_77 A P) (N (o_115 A P) (N (o_188 A P) L L) L) (N (o_153 A P) (N (o_222 A P) L L) L)) (N (o_96 A P) (N (o_137 A P) (N (o_206 A P) L L) L) (N (o_172 A P) (N (o_238 A P) L L) L))) (N (o_66 A P) (N (o_85 A P) (N (o_126 A P) (N (o_196 A P) L L) L) (N (o_164 A P) (N (o_230 A P) L L) L)) (N (o_107 A P) (N (o_145 A P) (N (o_214 A P) L L) L) (N (o_180 A P) L L))))))))
def tree_368 (A : AT) : Params → PySem.W.BT := (fun P => (N (boot_o_0 P) (N (boot_o_1 P) (N (o_333 A P) (N (boot_o_7 P) (N (o_51 A P) (N (o_156 A P) (N (o_108 A P) (N (o_181 A P) (N (o_319 A P) L L) L) (N (o_250 A P) L L)) (N (o_146 A P) (N (o_215 A P) (N (o_354 A P) L L) L) (N (o_282 A P) L L))) (N (o_89 A P) (N (o_127 A P) (N (o_197 A P) (N (o_338 A P) L L) L) (N (o_266 A P) L L)) (N (o_165 A P) (N (o_231 A P) L L) (N (o_300 A P) L L)))) (N (o_59 A P) (N (o_78 A P) (N (o_119 A P) (N (o_189 A P) (N (o_327 A P) L L) L) (N (o_258 A P) L L)) (N (o_157 A P) (N (o_223 A P) (N (o_362 A P) L L) L) (N (o_292 A P) L L))) (N (o_97 A P) (N (o_138 A P) (N (o_207 A P) (N (o_346 A P) L L) L) (N (o_274 A P) L L)) (N (o_173 A P) (N (o_239 A P) L L) (N (o_311 A P) L L))))) (N (o_43 A P) (N (o_55 A P) (N (o_74 A P) (N (o_112 A P) (N (o_185 A P) (N (o_323 A P) L L) L) (N (o_254 A P) L L)) (N (o_150 A P) (N (o_219 A P) (N (o_358 A P) L L) L) (N (o_286 A P) L L))) (N (o_93 A P) (N (o_134 A P) (N (o_203 A P) (N (o_342 A P) L L) L) (N (o_270 A P) L L)) (N (o_169 A P) (N (o_235 A P) L L) (N (o_307 A P) L L)))) (N (o_63 A P) (N (o_82 A P) (N (o_123 A P) (N (o_193 A P) (N (o_331 A P) L L) L) (N (o_262 A P) L L)) (N (o_161 A P) (N (o_227 A P) (N (o_366 A P) L L) L) (N (o_296 A P) L L))) (N (o_104 A P) (N (o_142 A P) (N (o_211 A P) (N (o_350 A P) L L) L) (N (o_278 A P) L L)) (N (o_177 A P) (N (o_243 A P) L L) (N (o_315 A P) L L)))))) (N (boot_o_5 P) (N (boot_o_9 P) (N (o_53 A P) (N (o_69 A P) (N (o_110 A P) (N (o_183 A P) (N (o_321 A P) L L) L) (N (o_252 A P) L L)) (N (o_148 A P) (N (o_217 A P) (N (o_356 A P) L L) L) (N (o_284 A P) L L))) (N (o_91 A P) (N (o_129 A P) (N (o_201 A P) (N (o_340 A P) L L) L) (N (o_268 A P) L L)) (N (o_167 A P) (N (o_233 A P) L L) (N (o_302 A P) L L)))) (N (o_61 A P) (N (o_80 A P) (N (o_121 A P) (N (o_191 A P) (N (o_329 A P) L L) L) (N (o_260 A P) L L)) (N (o_159 A P) (N (o_225 A P) (N (o_364 A P) L L) L) (N (o_294 A P) L L))) (N (o_99 A P) (N (o_140 A P) (N (o_209 A P) (N (o_348 A P) L L) L) (N (o_276 A P) L L)) (N (o_175 A P) (N (o_241 A P) L L) (N (o_313 A P) L L))))) (N (o_45 A P) (N (o_57 A P) (N (o_76 A P) (N (o_114 A P) (N (o_187 A P) (N (o_325 A P) L L) L) (N (o_256 A P) L L)) (N (o_152 A P) (N (o_221 A P) (N (o_360 A P) L L) L) (N (o_290 A P) L L))) (N (o_95 A P) (N (o_136 A P) (N (o_205 A P) (N (o_344 A P) L L) L) (N (o_272 A P) L L)) (N (o_171 A P) (N (o_237 A P) L L) (N (o_309 A P) L L)))) (N (o_65 A P) (N (o_84 A P) (N (o_125 A P) (N (o_195 A P) (N (o_336 A P) L L) L) (N (o_264 A P) L L)) (N (o_163 A P) (N (o_229 A P) (N (o_368 A P) L L) L) (N (o_298 A P) L L))) (N (o_106 A P) (N (o_144 A P) (N (o_213 A P) (N (o_352 A P) L L) L) (N (o_280 A P) L L)) (N (o_179 A P) (N (o_248 A P) L L) (N (o_317 A P) L L))))))) (N (boot_o_2 P) (N (boot_o_4 P) (N (boot_o_8 P) (N (o_52 A P) (N (o_68 A P) (N (o_109 A P) (N (o_182 A P) (N (o_320 A P) L L) L) (N (o_251 A P) L L)) (N (o_147 A P) (N (o_216 A P) (N (o_355 A P) L L) L) (N (o_283 A P) L L))) (N (o_90 A P) (N (o_128 A P) (N (o_200 A P) (N (o_339 A P) L L) L) (N (o_267 A P) L L)) (N (o_166 A P) (N (o_232 A P) L L) (N (o_301 A P) L L)))) (N (o_60 A P) (N (o_79 A P) (N (o_120 A P) (N (o_190 A P) (N (o_328 A P) L L) L) (N (o_259 A P) L L)) (N (o_158 A P) (N (o_224 A P) (N (o_363 A P) L L) L) (N (o_293 A P) L L))) (N (o_98 A P) (N (o_139 A P) (N (o_208 A P) (N (o_347 A P) L L) L) (N (o_275 A P) L L)) (N (o_174 A P) (N (o_247 A P) L L) (N (o_312 A P) L L))))) (N (o_334 A P) (N (o_56 A P) (N (o_75 A P) (N (o_113 A P) (N (o_186 A P) (N (o_324 A P) L L) L) (N (o_255 A P) L L)) (N (o_151 A P) (N (o_220 A P) (N (o_359 A P) L L) L) (N (o_287 A P) L L))) (N (o_94 A P) (N (o_135 A P) (N (o_204 A P) (N (o_343 A P) L L) L) (N (o_271 A P) L L)) (N (o_170 A P) (N (o_236 A P) L L) (N (o_308 A P) L L)))) (N (o_64 A P) (N (o_83 A P) (N (o_124 A P) (N (o_194 A P) (N (o_332 A P) L L) L) (N (o_263 A P) L L)) (N (o_162 A P) (N (o_228 A P) (N (o_367 A P) L L) L) (N (o_297 A P) L L))) (N (o_105 A P) (N (o_143 A P) (N (o_212 A P) (N (o_351 A P) L L) L) (N (o_279 A P) L L)) (N (o_178 A P) (N (o_244 A P) L L) (N (o_316 A P) L L)))))) (N (boot_o_6 P) (N (boot_o_10 P) (N (o_54 A P) (N (o_70 A P) (N (o_111 A P) (N (o_184 A P) (N (o_322 A P) L L) L) (N (o_253 A P) L L)) (N (o_149 A P) (N (o_218 A P) (N (o_357 A P) L L) L) (N (o_285 A P) L L))) (N (o_92 A P) (N (o_130 A P) (N (o_202 A P) (N (o_341 A P) L L) L) (N (o_269 A P) L L)) (N (o_168 A P) (N (o_234 A P) L L) (N (o_303 A P) L L)))) (N (o_62 A P) (N (o_81 A P) (N (o_122 A P) (N (o_192 A P) (N (o_330 A P) L L) L) (N (o_261 A P) L L)) (N (o_160 A P) (N (o_226 A P) (N (o_365 A P) L L) L) (N (o_295 A P) L L))) (N (o_100 A P) (N (o_141 A P) (N (o_210 A P) (N (o_349 A P) L L) L) (N (o_277 A P) L L)) (N (o_176 A P) (N (o_242 A P) L L) (N (o_314 A P) L L))))) (N (o_46 A P) (N (o_58 A P) (N (o_77 A P) (N (o_115 A P) (N (o_188 A P) (N (o_326 A P) L L) L) (N (o_257 A P) L L)) (N (o_153 A P) (N (o_222 A P) (N (o_361 A P) L L) L) (N (o_291 A P) L L))) (N (o_96 A P) (N (o_137 A P) (N (o_206 A P) (N (o_345 A P) L L) L) (N (o_273 A P) L L)) (N (o_172 A P) (N (o_238 A P) L L) (N (o_310 A P) L L)))) (N (o_66 A P) (N (o_85 A P) (N (o_126 A P) (N (o_196 A P) (N (o_337 A P) L L) L) (N (o_265 A P) L L)) (N (o_164 A P) (N (o_230 A P) L L) (N (o_335 A P) L L))) (N (o_107 A P) (N (o_145 A P) (N (o_214 A P) (N (o_353 A P) L L) L) (N (o_281 A P) L L)) (N (o_180 A P) (N (o_249 A P) L L) (N (o_318 A P) L L)))))))))
def tree_287 (A : AT) : Params → PySem.W.BT := (fun P => (N (boot_o_0 P) (N (boot_o_1 P) (N (o_245 A P) (N (boot_o_7 P) (N (o_51 A P) (N (o_156 A P) (N (o_108 A P) (N (o_181 A P) L L) (N (o_250 A P) L L)) (N (o_146 A P) (N (o_215 A P) L L) (N (o_282 A P) L L))) (N (o_89 A P) (N (o_127 A P) (N (o_197 A P) L L) (N (o_266 A P) L L)) (N (o_165 A P) (N (o_231 A P) L L) L))) (N (o_59 A P) (N (o_78 A P) (N (o_119 A P) (N (o_189 A P) L L) (N (o_258 A P) L L)) (N (o_157 A P) (N (o_223 A P) L L) L)) (N (o_97 A P) (N (o_138 A P) (N (o_207 A P) L L) (N (o_274 A P) L L)) (N (o_173 A P) (N (o_239 A P) L L) L)))) (N (o_43 A P) (N (o_55 A P) (N (o_74 A P) (N (o_112 A P) (N (o_185 A P) L L) (N (o_254 A P) L L)) (N (o_150 A P) (N (o_219 A P) L L) (N (o_286 A P) L L))) (N (o_93 A P) (N (o_134 A P) (N (o_203 A P) L L) (N (o_270 A P) L L)) (N (o_169 A P) (N (o_235 A P) L L) L))) (N (o_63 A P) (N (o_82 A P) (N (o_123 A P) (N (o_193 A P) L L) (N (o_262 A P) L L)) (N (o_161 A P) (N (o_227 A P) L L) L)) (N (o_104 A P) (N (o_142 A P) (N (o_211 A P) L L) (N (o_278 A P) L L)) (N (o_177 A P) (N (o_243 A P) L L) L))))) (N (boot_o_5 P) (N (boot_o_9 P) (N (o_53 A P) (N (o_69 A P) (N (o_110 A P) (N (o_183 A P) L L) (N (o_252 A P) L L)) (N (o_148 A P) (N (o_217 A P) L L) (N (o_284 A P) L L))) (N (o_91 A P) (N (o_129 A P) (N (o_201 A P) L L) (N (o_268 A P) L L)) (N (o_167 A P) (N (o_233 A P) L L) L))) (N (o_61 A P) (N (o_80 A P) (N (o_121 A P) (N (o_191 A P) L L) (N (o_260 A P) L L)) (N (o_159 A P) (N (o_225 A P) L L) L)) (N (o_99 A P) (N (o_140 A P) (N (o_209 A P) L L) (N (o_276 A P) L L)) (N (o_175 A P) (N (o_241 A P) L L) L)))) (N (o_45 A P) (N (o_57 A P) (N (o_76 A P) (N (o_114 A P) (N (o_187 A P) L L) (N (o_256 A P) L L)) (N (o_152 A P) (N (o_221 A P) L L) L)) (N (o_95 A P) (N (o_136 A P) (N (o_205 A P) L L) (N (o_272 A P) L L)) (N (o_171 A P) (N (o_237 A P) L L) L))) (N (o_65 A P) (N (o_84 A P) (N (o_125 A P) (N (o_195 A P) L L) (N (o_264 A P) L L)) (N (o_163 A P) (N (o_229 A P) L L) L)) (N (o_106 A P) (N (o_144 A P) (N (o_213 A P) L L) (N (o_280 A P) L L)) (N (o_179 A P) (N (o_248 A P) L L) L)))))) (N (boot_o_2 P) (N (boot_o_4 P) (N (boot_o_8 P) (N (o_52 A P) (N (o_68 A P) (N (o_109 A P) (N (o_182 A P) L L) (N (o_251 A P) L L)) (N (o_147 A P) (N (o_216 A P) L L) (N (o_283 A P) L L))) (N (o_90 A P) (N (o_128 A P) (N (o_200 A P) L L) (N (o_267 A P) L L)) (N (o_166 A P) (N (o_232 A P) L L) L))) (N (o_60 A P) (N (o_79 A P) (N (o_120 A P) (N (o_190 A P) L L) (N (o_259 A P) L L)) (N (o_158 A P) (N (o_224 A P) L L) L)) (N (o_98 A P) (N (o_139 A P) (N (o_208 A P) L L) (N (o_275 A P) L L)) (N (o_174 A P) (N (o_247 A P) L L) L)))) (N (o_246 A P) (N (o_56 A P) (N (o_75 A P) (N (o_113 A P) (N (o_186 A P) L L) (N (o_255 A P) L L)) (N (o_151 A P) (N (o_220 A P) L L) (N (o_287 A P) L L))) (N (o_94 A P) (N (o_135 A P) (N (o_204 A P) L L) (N (o_271 A P) L L)) (N (o_170 A P) (N (o_236 A P) L L) L))) (N (o_64 A P) (N (o_83 A P) (N (o_124 A P) (N (o_194 A P) L L) (N (o_263 A P) L L)) (N (o_162 A P) (N (o_228 A P) L L) L)) (N (o_105 A P) (N (o_143 A P) (N (o_212 A P) L L) (N (o_279 A P) L L)) (N (o_178 A P) (N (o_244 A P) L L) L))))) (N (boot_o_6 P) (N (boot_o_10 P) (N (o_54 A P) (N (o_70 A P) (N (o_111 A P) (N (o_184 A P) L L) (N (o_253 A P) L L)) (N (o_149 A P) (N (o_218 A P) L L) (N (o_285 A P) L L))) (N (o_92 A P) (N (o_130 A P) (N (o_202 A P) L L) (N (o_269 A P) L L)) (N (o_168 A P) (N (o_234 A P) L L) L))) (N (o_62 A P) (N (o_81 A P) (N (o_122 A P) (N (o_192 A P) L L) (N (o_261 A P) L L)) (N (o_160 A P) (N (o_226 A P) L L) L)) (N (o_100 A P) (N (o_141 A P) (N (o_210 A P) L L) (N (o_277 A P) L L)) (N (o_176 A P) (N (o_242 A P) L L) L)))) (N (o_46 A P) (N (o_58 A P) (N (o_77 A P) (N (o_115 A P) (N (o_188 A P) L L) (N (o_257 A P) L L)) (N (o_153 A P) (N (o_222 A P) L L) L)) (N (o_96 A P) (N (o_137 A P) (N (o_206 A P) L L) (N (o_273 A P) L L)) (N (o_172 A P) (N (o_238 A P) L L) L))) (N (o_66 A P) (N (o_85 A P) (N (o_126 A P) (N (o_196 A P) L L) (N (o_265 A P) L L)) (N (o_164 A P) (N (o_230 A P) L L) L)) (N (o_107 A P) (N (o_145 A P) (N (o_214 A P) L L) (N (o_281 A P) L L)) (N (o_180 A P) (N (o_249 A P) L L) L))))))))
def tree_115 (A : AT) : Params → PySem.W.BT := (fun P => (N (boot_o_0 P) (N (boot_o_1 P) (N (o_101 A P) (N (boot_o_7 P) (N (o_51 A P) (N (o_103 A P) (N (o_108 A P) L L) L) (N (o_89 A P) L L)) (N (o_59 A P) (N (o_78 A P) L L) (N (o_97 A P) L L))) (N (o_43 A P) (N (o_55 A P) (N (o_74 A P) (N (o_112 A P) L L) L) (N (o_93 A P) L L)) (N (o_63 A P) (N (o_82 A P) L L) (N (o_104 A P) L L)))) (N (boot_o_5 P) (N (boot_o_9 P) (N (o_53 A P) (N (o_69 A P) (N (o_110 A P) L L) L) (N (o_91 A P) L L)) (N (o_61 A P) (N (o_80 A P) L L) (N (o_99 A P) L L))) (N (o_45 A P) (N (o_57 A P) (N (o_76 A P) (N (o_114 A P) L L) L) (N (o_95 A P) L L)) (N (o_65 A P) (N (o_84 A P) L L) (N (o_106 A P) L L))))) (N (boot_o_2 P) (N (boot_o_4 P) (N (boot_o_8 P) (N (o_52 A P) (N (o_68 A P) (N (o_109 A P) L L) L) (N (o_90 A P) L L)) (N (o_60 A P) (N (o_79 A P) L L) (N (o_98 A P) L L))) (N (o_102 A P) (N (o_56 A P) (N (o_75 A P) (N (o_113 A P) L L) L) (N (o_94 A P) L L)) (N (o_64 A P) (N (o_83 A P) L L) (N (o_105 A P) L L)))) (N (boot_o_6 P) (N (boot_o_10 P) (N (o_54 A P) (N (o_70 A P) (N (o_111 A P) L L) L) (N (o_92 A P) L L)) (N (o_62 A P) (N (o_81 A P) L L) (N (o_100 A P) L L))) (N (o_46 A P) (N (o_58 A P) (N (o_77 A P) (N (o_115 A P) L L) L) (N (o_96 A P) L L)) (N (o_66 A P) (N (o_85 A P) L L) (N (o_107 A P) L L)))))))
def tree_303 (A : AT) : Params → PySem.W.BT := (fun P => (N (boot_o_0 P) (N (boot_o_1 P) (N (o_288 A P) (N (boot_o_7 P) (N (o_51 A P) (N (o_156 A P) (N (o_108 A P) (N (o_181 A P) L L) (N (o_250 A P) L L)) (N (o_146 A P) (N (o_215 A P) L L) (N (o_282 A P) L L))) (N (o_89 A P) (N (o_127 A P) (N (o_197 A P) L L) (N (o_266 A P) L L)) (N (o_165 A P) (N (o_231 A P) L L) (N (o_300 A P) L L)))) (N (o_59 A P) (N (o_78 A P) (N (o_119 A P) (N (o_189 A P) L L) (N (o_258 A P) L L)) (N (o_157 A P) (N (o_223 A P) L L) (N (o_292 A P) L L))) (N (o_97 A P) (N (o_138 A P) (N (o_207 A P) L L) (N (o_274 A P) L L)) (N (o_173 A P) (N (o_239 A P) L L) L)))) (N (o_43 A P) (N (o_55 A P) (N (o_74 A P) (N (o_112 A P) (N (o_185 A P) L L) (N (o_254 A P) L L)) (N (o_150 A P) (N (o_219 A P) L L) (N (o_286 A P) L L))) (N (o_93 A P) (N (o_134 A P) (N (o_203 A P) L L) (N (o_270 A P) L L)) (N (o_169 A P) (N (o_235 A P) L L) L))) (N (o_63 A P) (N (o_82 A P) (N (o_123 A P) (N (o_193 A P) L L) (N (o_262 A P) L L)) (N (o_161 A P) (N (o_227 A P) L L) (N (o_296 A P) L L))) (N (o_104 A P) (N (o_142 A P) (N (o_211 A P) L L) (N (o_278 A P) L L)) (N (o_177 A P) (N (o_243 A P) L L) L))))) (N (boot_o_5 P) (N (boot_o_9 P) (N (o_53 A P) (N (o_69 A P) (N (o_110 A P) (N (o_183 A P) L L) (N (o_252 A P) L L)) (N (o_148 A P) (N (o_217 A P) L L) (N (o_284 A P) L L))) (N (o_91 A P) (N (o_129 A P) (N (o_201 A P) L L) (N (o_268 A P) L L)) (N (o_167 A P) (N (o_233 A P) L L) (N (o_302 A P) L L)))) (N (o_61 A P) (N (o_80 A P) (N (o_121 A P) (N (o_191 A P) L L) (N (o_260 A P) L L)) (N (o_159 A P) (N (o_225 A P) L L) (N (o_294 A P) L L))) (N (o_99 A P) (N (o_140 A P) (N (o_209 A P) L L) (N (o_276 A P) L L)) (N (o_175 A P) (N (o_241 A P) L L) L)))) (N (o_45 A P) (N (o_57 A P) (N (o_76 A P) (N (o_114 A P) (N (o_187 A P) L L) (N (o_256 A P) L L)) (N (o_152 A P) (N (o_221 A P) L L) (N (o_290 A P) L L))) (N (o_95 A P) (N (o_136 A P) (N (o_205 A P) L L) (N (o_272 A P) L L)) (N (o_171 A P) (N (o_237 A P) L L) L))) (N (o_65 A P) (N (o_84 A P) (N (o_125 A P) (N (o_195 A P) L L) (N (o_264 A P) L L)) (N (o_163 A P) (N (o_229 A P) L L) (N (o_298 A P) L L))) (N (o_106 A P) (N (o_144 A P) (N (o_213 A P) L L) (N (o_280 A P) L L)) (N (o_179 A P) (N (o_248 A P) L L) L)))))) (N (boot_o_2 P) (N (boot_o_4 P) (N (boot_o_8 P) (N (o_52 A P) (N (o_68 A P) (N (o_109 A P) (N (o_182 A P) L L) (N (o_251 A P) L L)) (N (o_147 A P) (N (o_216 A P) L L) (N (o_283 A P) L L))) (N (o_90 A P) (N (o_128 A P) (N (o_200 A P) L L) (N (o_267 A P) L L)) (N (o_166 A P) (N (o_232 A P) L L) (N (o_301 A P) L L)))) (N (o_60 A P) (N (o_79 A P) (N (o_120 A P) (N (o_190 A P) L L) (N (o_259 A P) L L)) (N (o_158 A P) (N (o_224 A P) L L) (N (o_293 A P) L L))) (N (o_98 A P) (N (o_139 A P) (N (o_208 A P) L L) (N (o_275 A P) L L)) (N (o_174 A P) (N (o_247 A P) L L) L)))) (N (o_289 A P) (N (o_56 A P) (N (o_75 A P) (N (o_113 A P) (N (o_186 A P) L L) (N (o_255 A P) L L)) (N (o_151 A P) (N (o_220 A P) L L) (N (o_287 A P) L L))) (N (o_94 A P) (N (o_135 A P) (N (o_204 A P) L L) (N (o_271 A P) L L)) (N (o_170 A P) (N (o_236 A P) L L) L))) (N (o_64 A P) (N (o_83 A P) (N (o_124 A P) (N (o_194 A P) L L) (N (o_263 A P) L L)) (N (o_162 A P) (N (o_228 A P) L L) (N (o_297 A P) L L))) (N (o_105 A P) (N (o_143 A P) (N (o_212 A P) L L) (N (o_279 A P) L L)) (N (o_178 A P) (N (o_244 A P) L L) L))))) (N (boot_o_6 P) (N (boot_o_10 P) (N (o_54 A P) (N (o_70 A P) (N (o_111 A P) (N (o_184 A P) L L) (N (o_253 A P) L L)) (N (o_149 A P) (N (o_218 A P) L L) (N (o_285 A P) L L))) (N (o_92 A P) (N (o_130 A P) (N (o_202 A P) L L) (N (o_269 A P) L L)) (N (o_168 A P) (N (o_234 A P) L L) (N (o_303 A P) L L)))) (N (o_62 A P) (N (o_81 A P) (N (o_122 A P) (N (o_192 A P) L L) (N (o_261 A P) L L)) (N (o_160 A P) (N (o_226 A P) L L) (N (o_295 A P) L L))) (N (o_100 A P) (N (o_141 A P) (N (o_210 A P) L L) (N (o_277 A P) L L)) (N (o_176 A P) (N (o_242 A P) L L) L)))) (N (o_46 A P) (N (o_58 A P) (N (o_77 A P) (N (o_115 A P) (N (o_188 A P) L L) (N (o_257 A P) L L)) (N (o_153 A P) (N (o_222 A P) L L) (N (o_291 A P) L L))) (N (o_96 A P) (N (o_137 A P) (N (o_206 A P) L L) (N (o_273 A P) L L)) (N (o_172 A P) (N (o_238 A P) L L) L))) (N (o_66 A P) (N (o_85 A P) (N (o_126 A P) (N (o_196 A P) L L) (N (o_265 A P) L L)) (N (o_164 A P) (N (o_230 A P) L L) (N (o_299 A P) L L))) (N (o_107 A P) (N (o_145 A P) (N (o_214 A P) L L) (N (o_281 A P) L L)) (N (o_180 A P) (N (o_249 A P) L L) L))))))))
def tree_457 (A : AT) : Params → PySem.W.BT := (fun P => (N (boot_o_0 P) (N (boot_o_1 P) (N (o_434 A P) (N (boot_o_7 P) (N (o_51 A P) (N (o_156 A P) (N (o_108 A P) (N (o_181 A P) (N (o_319 A P) L L) L) (N (o_250 A P) (N (o_389 A P) L L) L)) (N (o_146 A P) (N (o_215 A P) (N (o_354 A P) L L) L) (N (o_282 A P) (N (o_424 A P) L L) L))) (N (o_89 A P) (N (o_127 A P) (N (o_197 A P) (N (o_338 A P) L L) L) (N (o_266 A P) (N (o_408 A P) L L) L)) (N (o_165 A P) (N (o_231 A P) (N (o_373 A P) L L) L) (N (o_300 A P) (N (o_442 A P) L L) L)))) (N (o_59 A P) (N (o_78 A P) (N (o_119 A P) (N (o_189 A P) (N (o_327 A P) L L) L) (N (o_258 A P) (N (o_397 A P) L L) L)) (N (o_157 A P) (N (o_223 A P) (N (o_362 A P) L L) L) (N (o_292 A P) (N (o_432 A P) L L) L))) (N (o_97 A P) (N (o_138 A P) (N (o_207 A P) (N (o_346 A P) L L) L) (N (o_274 A P) (N (o_416 A P) L L) L)) (N (o_173 A P) (N (o_239 A P) (N (o_381 A P) L L) L) (N (o_311 A P) (N (o_450 A P) L L) L))))) (N (o_43 A P) (N (o_55 A P) (N (o_74 A P) (N (o_112 A P) (N (o_185 A P) (N (o_323 A P) L L) L) (N (o_254 A P) (N (o_393 A P) L L) L)) (N (o_150 A P) (N (o_219 A P) (N (o_358 A P) L L) L) (N (o_286 A P) (N (o_428 A P) L L) L))) (N (o_93 A P) (N (o_134 A P) (N (o_203 A P) (N (o_342 A P) L L) L) (N (o_270 A P) (N (o_412 A P) L L) L)) (N (o_169 A P) (N (o_235 A P) (N (o_377 A P) L L) L) (N (o_307 A P) (N (o_446 A P) L L) L)))) (N (o_63 A P) (N (o_82 A P) (N (o_123 A P) (N (o_193 A P) (N (o_331 A P) L L) L) (N (o_262 A P) (N (o_401 A P) L L) L)) (N (o_161 A P) (N (o_227 A P) (N (o_366 A P) L L) L) (N (o_296 A P) (N (o_438 A P) L L) L))) (N (o_104 A P) (N (o_142 A P) (N (o_211 A P) (N (o_350 A P) L L) L) (N (o_278 A P) (N (o_420 A P) L L) L)) (N (o_177 A P) (N (o_243 A P) (N (o_385 A P) L L) L) (N (o_315 A P) (N (o_454 A P) L L) L)))))) (N (boot_o_5 P) (N (boot_o_9 P) (N (o_53 A P) (N (o_69 A P) (N (o_110 A P) (N (o_183 A P) (N (o_321 A P) L L) L) (N (o_252 A P) (N (o_391 A P) L L) L)) (N (o_148 A P) (N (o_217 A P) (N (o_356 A P) L L) L) (N (o_284 A P) (N (o_426 A P) L L) L))) (N (o_91 A P) (N (o_129 A P) (N (o_201 A P) (N (o_340 A P) L L) L) (N (o_268 A P) (N (o_410 A P) L L) L)) (N (o_167 A P) (N (o_233 A P) (N (o_375 A P) L L) L) (N (o_302 A P) (N (o_444 A P) L L) L)))) (N (o_61 A P) (N (o_80 A P) (N (o_121 A P) (N (o_191 A P) (N (o_329 A P) L L) L) (N (o_260 A P) (N (o_399 A P) L L) L)) (N (o_159 A P) (N (o_225 A P) (N (o_364 A P) L L) L) (N (o_294 A P) (N (o_436 A P) L L) L))) (N (o_99 A P) (N (o_140 A P) (N (o_209 A P) (N (o_348 A P) L L) L) (N (o_276 A P) (N (o_418 A P) L L) L)) (N (o_175 A P) (N (o_241 A P) (N (o_383 A P) L L) L) (N (o_313 A P) (N (o_452 A P) L L) L))))) (N (o_45 A P) (N (o_57 A P) (N (o_76 A P) (N (o_114 A P) (N (o_187 A P) (N (o_325 A P) L L) L) (N (o_256 A P) (N (o_395 A P) L L) L)) (N (o_152 A P) (N (o_221 A P) (N (o_360 A P) L L) L) (N (o_290 A P) (N (o_430 A P) L L) L))) (N (o_95 A P) (N (o_136 A P) (N (o_205 A P) (N (o_344 A P) L L) L) (N (o_272 A P) (N (o_414 A P) L L) L)) (N (o_171 A P) (N (o_237 A P) (N (o_379 A P) L L) L) (N (o_309 A P) (N (o_448 A P) L L) L)))) (N (o_65 A P) (N (o_84 A P) (N (o_125 A P) (N (o_195 A P) (N (o_336 A P) L L) L) (N (o_264 A P) (N (o_403 A P) L L) L)) (N (o_163 A P) (N (o_229 A P) (N (o_368 A P) L L) L) (N (o_298 A P) (N (o_440 A P) L L) L))) (N (o_106 A P) (N (o_144 A P) (N (o_213 A P) (N (o_352 A P) L L) L) (N (o_280 A P) (N (o_422 A P) L L) L)) (N (o_179 A P) (N (o_248 A P) (N (o_387 A P) L L) L) (N (o_317 A P) (N (o_456 A P) L L) L))))))) (N (boot_o_2 P) (N (boot_o_4 P) (N (boot_o_8 P) (N (o_52 A P) (N (o_68 A P) (N (o_109 A P) (N (o_182 A P) (N (o_320 A P) L L) L) (N (o_251 A P) (N (o_390 A P) L L) L)) (N (o_147 A P) (N (o_216 A P) (N (o_355 A P) L L) L) (N (o_283 A P) (N (o_425 A P) L L) L))) (N (o_90 A P) (N (o_128 A P) (N (o_200 A P) (N (o_339 A P) L L) L) (N (o_267 A P) (N (o_409 A P) L L) L)) (N (o_166 A P) (N (o_232 A P) (N (o_374 A P) L L) L) (N (o_301 A P) (N (o_443 A P) L L) L)))) (N (o_60 A P) (N (o_79 A P) (N (o_120 A P) (N (o_190 A P) (N (o_328 A P) L L) L) (N (o_259 A P) (N (o_398 A P) L L) L)) (N (o_158 A P) (N (o_224 A P) (N (o_363 A P) L L) L) (N (o_293 A P) (N (o_433 A P) L L) L))) (N (o_98 A P) (N (o_139 A P) (N (o_208 A P) (N (o_347 A P) L L) L) (N (o_275 A P) (N (o_417 A P) L L) L)) (N (o_174 A P) (N (o_247 A P) (N (o_382 A P) L L) L) (N (o_312 A P) (N (o_451 A P) L L) L))))) (N (o_435 A P) (N (o_56 A P) (N (o_75 A P) (N (o_113 A P) (N (o_186 A P) (N (o_324 A P) L L) L) (N (o_255 A P) (N (o_394 A P) L L) L)) (N (o_151 A P) (N (o_220 A P) (N (o_359 A P) L L) L) (N (o_287 A P) (N (o_429 A P) L L) L))) (N (o_94 A P) (N (o_135 A P) (N (o_204 A P) (N (o_343 A P) L L) L) (N (o_271 A P) (N (o_413 A P) L L) L)) (N (o_170 A P) (N (o_236 A P) (N (o_378 A P) L L) L) (N (o_308 A P) (N (o_447 A P) L L) L)))) (N (o_64 A P) (N (o_83 A P) (N (o_124 A P) (N (o_194 A P) (N (o_332 A P) L L) L) (N (o_263 A P) (N (o_402 A P) L L) L)) (N (o_162 A P) (N (o_228 A P) (N (o_367 A P) L L) L) (N (o_297 A P) (N (o_439 A P) L L) L))) (N (o_105 A P) (N (o_143 A P) (N (o_212 A P) (N (o_351 A P) L L) L) (N (o_279 A P) (N (o_421 A P) L L) L)) (N (o_178 A P) (N (o_244 A P) (N (o_386 A P) L L) L) (N (o_316 A P) (N (o_455 A P) L L) L)))))) (N (boot_o_6 P) (N (boot_o_10 P) (N (o_54 A P) (N (o_70 A P) (N (o_111 A P) (N (o_184 A P) (N (o_322 A P) L L) L) (N (o_253 A P) (N (o_392 A P) L L) L)) (N (o_149 A P) (N (o_218 A P) (N (o_357 A P) L L) L) (N (o_285 A P) (N (o_427 A P) L L) L))) (N (o_92 A P) (N (o_130 A P) (N (o_202 A P) (N (o_341 A P) L L) L) (N (o_269 A P) (N (o_411 A P) L L) L)) (N (o_168 A P) (N (o_234 A P) (N (o_376 A P) L L) L) (N (o_303 A P) (N (o_445 A P) L L) L)))) (N (o_62 A P) (N (o_81 A P) (N (o_122 A P) (N (o_192 A P) (N (o_330 A P) L L) L) (N (o_261 A P) (N (o_400 A P) L L) L)) (N (o_160 A P) (N (o_226 A P) (N (o_365 A P) L L) L) (N (o_295 A P) (N (o_437 A P) L L) L))) (N (o_100 A P) (N (o_141 A P) (N (o_210 A P) (N (o_349 A P) L L) L) (N (o_277 A P) (N (o_419 A P) L L) L)) (N (o_176 A P) (N (o_242 A P) (N (o_384 A P) L L) L) (N (o_314 A P) (N (o_453 A P) L L) L))))) (N (o_46 A P) (N (o_58 A P) (N (o_77 A P) (N (o_115 A P) (N (o_188 A P) (N (o_326 A P) L L) L) (N (o_257 A P) (N (o_396 A P) L L) L)) (N (o_153 A P) (N (o_222 A P) (N (o_361 A P) L L) L) (N (o_291 A P) (N (o_431 A P) L L) L))) (N (o_96 A P) (N (o_137 A P) (N (o_206 A P) (N (o_345 A P) L L) L) (N (o_273 A P) (N (o_415 A P) L L) L)) (N (o_172 A P) (N (o_238 A P) (N (o_380 A P) L L) L) (N (o_310 A P) (N (o_449 A P) L L) L)))) (N (o_66 A P) (N (o_85 A P) (N (o_126 A P) (N (o_196 A P) (N (o_337 A P) L L) L) (N (o_265 A P) (N (o_404 A P) L L) L)) (N (o_164 A P) (N (o_230 A P) (N (o_372 A P) L L) L) (N (o_407 A P) (N (o_441 A P) L L) L))) (N (o_107 A P) (N (o_145 A P) (N (o_214 A P) (N (o_353 A P) L L) L) (N (o_281 A P) (N (o_423 A P) L L) L)) (N (o_180 A P) (N (o_249 A P) (N (o_388 A P) L L) L) (N (o_318 A P) (N (o_457 A P) L L) L)))))))))
def tree_100 (A : AT) : Params → PySem.W.BT := (fun P => (N (boot_o_0 P) (N (boot_o_1 P) (N (o_86 A P) (N (boot_o_7 P) (N (o_51 A P) (N (o_88 A P) L L) (N (o_89 A P) L L)) (N (o_59 A P) (N (o_78 A P) L L) (N (o_97 A P) L L))) (N (o_43 A P) (N (o_55 A P) (N (o_74 A P) L L) (N (o_93 A P) L L)) (N (o_63 A P) (N (o_82 A P) L L) L))) (N (boot_o_5 P) (N (boot_o_9 P) (N (o_53 A P) (N (o_69 A P) L L) (N (o_91 A P) L L)) (N (o_61 A P) (N (o_80 A P) L L) (N (o_99 A P) L L))) (N (o_45 A P) (N (o_57 A P) (N (o_76 A P) L L) (N (o_95 A P) L L)) (N (o_65 A P) (N (o_84 A P) L L) L)))) (N (boot_o_2 P) (N (boot_o_4 P) (N (boot_o_8 P) (N (o_52 A P) (N (o_68 A P) L L) (N (o_90 A P) L L)) (N (o_60 A P) (N (o_79 A P) L L) (N (o_98 A P) L L))) (N (o_87 A P) (N (o_56 A P) (N (o_75 A P) L L) (N (o_94 A P) L L)) (N (o_64 A P) (N (o_83 A P) L L) L))) (N (boot_o_6 P) (N (boot_o_10 P) (N (o_54 A P) (N (o_70 A P) L L) (N (o_92 A P) L L)) (N (o_62 A P) (N (o_81 A P) L L) (N (o_100 A P) L L))) (N (o_46 A P) (N (o_58 A P) (N (o_77 A P) L L) (N (o_96 A P) L L)) (N (o_66 A P) (N (o_85 A P) L L) L))))))
def tree_404 (A : AT) : Params → PySem.W.BT := (fun P => (N (boot_o_0 P) (N (boot_o_1 P) (N (o_369 A P) (N (boot_o_7 P) (N (o_51 A P) (N (o_156 A P) (N (o_108 A P) (N (o_181 A P) (N (o_319 A P) L L) L) (N (o_250 A P) (N (o_389 A P) L L) L)) (N (o_146 A P) (N (o_215 A P) (N (o_354 A P) L L) L) (N (o_282 A P) L L))) (N (o_89 A P) (N (o_127 A P) (N (o_197 A P) (N (o_338 A P) L L) L) (N (o_266 A P) L L)) (N (o_165 A P) (N (o_231 A P) (N (o_373 A P) L L) L) (N (o_300 A P) L L)))) (N (o_59 A P) (N (o_78 A P) (N (o_119 A P) (N (o_189 A P) (N (o_327 A P) L L) L) (N (o_258 A P) (N (o_397 A P) L L) L)) (N (o_157 A P) (N (o_223 A P) (N (o_362 A P) L L) L) (N (o_292 A P) L L))) (N (o_97 A P) (N (o_138 A P) (N (o_207 A P) (N (o_346 A P) L L) L) (N (o_274 A P) L L)) (N (o_173 A P) (N (o_239 A P) (N (o_381 A P) L L) L) (N (o_311 A P) L L))))) (N (o_43 A P) (N (o_55 A P) (N (o_74 A P) (N (o_112 A P) (N (o_185 A P) (N (o_323 A P) L L) L) (N (o_254 A P) (N (o_393 A P) L L) L)) (N (o_150 A P) (N (o_219 A P) (N (o_358 A P) L L) L) (N (o_286 A P) L L))) (N (o_93 A P) (N (o_134 A P) (N (o_203 A P) (N (o_342 A P) L L) L) (N (o_270 A P) L L)) (N (o_169 A P) (N (o_235 A P) (N (o_377 A P) L L) L) (N (o_307 A P) L L)))) (N (o_63 A P) (N (o_82 A P) (N (o_123 A P) (N (o_193 A P) (N (o_331 A P) L L) L) (N (o_262 A P) (N (o_401 A P) L L) L)) (N (o_161 A P) (N (o_227 A P) (N (o_366 A P) L L) L) (N (o_296 A P) L L))) (N (o_104 A P) (N (o_142 A P) (N (o_211 A P) (N (o_350 A P) L L) L) (N (o_278 A P) L L)) (N (o_177 A P) (N (o_243 A P) (N (o_385 A P) L L) L) (N (o_315 A P) L L)))))) (N (boot_o_5 P) (N (boot_o_9 P) (N (o_53 A P) (N (o_69 A P) (N (o_110 A P) (N (o_183 A P) (N (o_321 A P) L L) L) (N (o_252 A P) (N (o_391 A P) L L) L)) (N (o_148 A P) (N (o_217 A P) (N (o_356 A P) L L) L) (N (o_284 A P) L L))) (N (o_91 A P) (N (o_129 A P) (N (o_201 A P) (N (o_340 A P) L L) L) (N (o_268 A P) L L)) (N (o_167 A P) (N (o_233 A P) (N (o_375 A P) L L) L) (N (o_302 A P) L L)))) (N (o_61 A P) (N (o_80 A P) (N (o_121 A P) (N (o_191 A P) (N (o_329 A P) L L) L) (N (o_260 A P) (N (o_399 A P) L L) L)) (N (o_159 A P) (N (o_225 A P) (N (o_364 A P) L L) L) (N (o_294 A P) L L))) (N (o_99 A P) (N (o_140 A P) (N (o_209 A P) (N (o_348 A P) L L) L) (N (o_276 A P) L L)) (N (o_175 A P) (N (o_241 A P) (N (o_383 A P) L L) L) (N (o_313 A P) L L))))) (N (o_45 A P) (N (o_57 A P) (N (o_76 A P) (N (o_114 A P) (N (o_187 A P) (N (o_325 A P) L L) L) (N (o_256 A P) (N (o_395 A P) L L) L)) (N (o_152 A P) (N (o_221 A P) (N (o_360 A P) L L) L) (N (o_290 A P) L L))) (N (o_95 A P) (N (o_136 A P) (N (o_205 A P) (N (o_344 A P) L L) L) (N (o_272 A P) L L)) (N (o_171 A P) (N (o_237 A P) (N (o_379 A P) L L) L) (N (o_309 A P) L L)))) (N (o_65 A P) (N (o_84 A P) (N (o_125 A P) (N (o_195 A P) (N (o_336 A P) L L) L) (N (o_264 A P) (N (o_403 A P) L L) L)) (N (o_163 A P) (N (o_229 A P) (N (o_368 A P) L L) L) (N (o_298 A P) L L))) (N (o_106 A P) (N (o_144 A P) (N (o_213 A P) (N (o_352 A P) L L) L) (N (o_280 A P) L L)) (N (o_179 A P) (N (o_248 A P) (N (o_387 A P) L L) L) (N (o_317 A P) L L))))))) (N (boot_o_2 P) (N (boot_o_4 P) (N (boot_o_8 P) (N (o_52 A P) (N (o_68 A P) (N (o_109 A P) (N (o_182 A P) (N (o_320 A P) L L) L) (N (o_251 A P) (N (o_390 A P) L L) L)) (N (o_147 A P) (N (o_216 A P) (N (o_355 A P) L L) L) (N (o_283 A P) L L))) (N (o_90 A P) (N (o_128 A P) (N (o_200 A P) (N (o_339 A P) L L) L) (N (o_267 A P) L L)) (N (o_166 A P) (N (o_232 A P) (N (o_374 A P) L L) L) (N (o_301 A P) L L)))) (N (o_60 A P) (N (o_79 A P) (N (o_120 A P) (N (o_190 A P) (N (o_328 A P) L L) L) (N (o_259 A P) (N (o_398 A P) L L) L)) (N (o_158 A P) (N (o_224 A P) (N (o_363 A P) L L) L) (N (o_293 A P) L L))) (N (o_98 A P) (N (o_139 A P) (N (o_208 A P) (N (o_347 A P) L L) L) (N (o_275 A P) L L)) (N (o_174 A P) (N (o_247 A P) (N (o_382 A P) L L) L) (N (o_312 A P) L L))))) (N (o_370 A P) (N (o_56 A P) (N (o_75 A P) (N (o_113 A P) (N (o_186 A P) (N (o_324 A P) L L) L) (N (o_255 A P) (N (o_394 A P) L L) L)) (N (o_151 A P) (N (o_220 A P) (N (o_359 A P) L L) L) (N (o_287 A P) L L))) (N (o_94 A P) (N (o_135 A P) (N (o_204 A P) (N (o_343 A P) L L) L) (N (o_271 A P) L L)) (N (o_170 A P) (N (o_236 A P) (N (o_378 A P) L L) L) (N (o_308 A P) L L)))) (N (o_64 A P) (N (o_83 A P) (N (o_124 A P) (N (o_194 A P) (N (o_332 A P) L L) L) (N (o_263 A P) (N (o_402 A P) L L) L)) (N (o_162 A P) (N (o_228 A P) (N (o_367 A P) L L) L) (N (o_297 A P) L L))) (N (o_105 A P) (N (o_143 A P) (N (o_212 A P) (N (o_351 A P) L L) L) (N (o_279 A P) L L)) (N (o_178 A P) (N (o_244 A P) (N (o_386 A P) L L) L) (N (o_316 A P) L L)))))) (N (boot_o_6 P) (N (boot_o_10 P) (N (o_54 A P) (N (o_70 A P) (N (o_111 A P) (N (o_184 A P) (N (o_322 A P) L L) L) (N (o_253 A P) (N (o_392 A P) L L) L)) (N (o_149 A P) (N (o_218 A P) (N (o_357 A P) L L) L) (N (o_285 A P) L L))) (N (o_92 A P) (N (o_130 A P) (N (o_202 A P) (N (o_341 A P) L L) L) (N (o_269 A P) L L)) (N (o_168 A P) (N (o_234 A P) (N (o_376 A P) L L) L) (N (o_303 A P) L L)))) (N (o_62 A P) (N (o_81 A P) (N (o_122 A P) (N (o_192 A P) (N (o_330 A P) L L) L) (N (o_261 A P) (N (o_400 A P) L L) L)) (N (o_160 A P) (N (o_226 A P) (N (o_365 A P) L L) L) (N (o_295 A P) L L))) (N (o_100 A P) (N (o_141 A P) (N (o_210 A P) (N (o_349 A P) L L) L) (N (o_277 A P) L L)) (N (o_176 A P) (N (o_242 A P) (N (o_384 A P) L L) L) (N (o_314 A P) L L))))) (N (o_46 A P) (N (o_58 A P) (N (o_77 A P) (N (o_115 A P) (N (o_188 A P) (N (o_326 A P) L L) L) (N (o_257 A P) (N (o_396 A P) L L) L)) (N (o_153 A P) (N (o_222 A P) (N (o_361 A P) L L) L) (N (o_291 A P) L L))) (N (o_96 A P) (N (o_137 A P) (N (o_206 A P) (N (o_345 A P) L L) L) (N (o_273 A P) L L)) (N (o_172 A P) (N (o_238 A P) (N (o_380 A P) L L) L) (N (o_310 A P) L L)))) (N (o_66 A P) (N (o_85 A P) (N (o_126 A P) (N (o_196 A P) (N (o_337 A P) L L) L) (N (o_265 A P) (N (o_404 A P) L L) L)) (N (o_164 A P) (N (o_230 A P) (N (o_372 A P) L L) L) (N (o_371 A P) L L))) (N (o_107 A P) (N (o_145 A P) (N (o_214 A P) (N (o_353 A P) L L) L) (N (o_281 A P) L L)) (N (o_180 A P) (N (o_249 A P) (N (o_388 A P) L L) L) (N (o_318 A P) L L)))))))))
def tree_85 (A : AT) : Params → PySem.W.BT := (fun P => (N (boot_o_0 P) (N (boot_o_1 P) (N (o_71 A P) (N (boot_o_7 P) (N (o_51 A P) (N (o_73 A P) L L) L) (N (o_59 A P) (N (o_78 A P) L L) L)) (N (o_43 A P) (N (o_55 A P) (N (o_74 A P) L L) L) (N (o_63 A P) (N (o_82 A P) L L) L))) (N (boot_o_5 P) (N (boot_o_9 P) (N (o_53 A P) (N (o_69 A P) L L) L) (N (o_61 A P) (N (o_80 A P) L L) L)) (N (o_45 A P) (N (o_57 A P) (N (o_76 A P) L L) L) (N (o_65 A P) (N (o_84 A P) L L) L)))) (N (boot_o_2 P) (N (boot_o_4 P) (N (boot_o_8 P) (N (o_52 A P) (N (o_68 A P) L L) L) (N (o_60 A P) (N (o_79 A P) L L) L)) (N (o_72 A P) (N (o_56 A P) (N (o_75 A P) L L) L) (N (o_64 A P) (N (o_83 A P) L L) L))) (N (boot_o_6 P) (N (boot_o_10 P) (N (o_54 A P) (N (o_70 A P) L L) L) (N (o_62 A P) (N (o_81 A P) L L) L)) (N (o_46 A P) (N (o_58 A P) (N (o_77 A P) L L) L) (N (o_66 A P) (N (o_85 A P) L L) L))))))
def tree_153 (A : AT) : Params → PySem.W.BT := (fun P => (N (boot_o_0 P) (N (boot_o_1 P) (N (o_131 A P) (N (boot_o_7 P) (N (o_51 A P) (N (o_133 A P) (N (o_108 A P) L L) (N (o_146 A P) L L)) (N (o_89 A P) (N (o_127 A P) L L) L)) (N (o_59 A P) (N (o_78 A P) (N (o_119 A P) L L) L) (N (o_97 A P) (N (o_138 A P) L L) L))) (N (o_43 A P) (N (o_55 A P) (N (o_74 A P) (N (o_112 A P) L L) (N (o_150 A P) L L)) (N (o_93 A P) (N (o_134 A P) L L) L)) (N (o_63 A P) (N (o_82 A P) (N (o_123 A P) L L) L) (N (o_104 A P) (N (o_142 A P) L L) L)))) (N (boot_o_5 P) (N (boot_o_9 P) (N (o_53 A P) (N (o_69 A P) (N (o_110 A P) L L) (N (o_148 A P) L L)) (N (o_91 A P) (N (o_129 A P) L L) L)) (N (o_61 A P) (N (o_80 A P) (N (o_121 A P) L L) L) (N (o_99 A P) (N (o_140 A P) L L) L))) (N (o_45 A P) (N (o_57 A P) (N (o_76 A P) (N (o_114 A P) L L) (N (o_152 A P) L L)) (N (o_95 A P) (N (o_136 A P) L L) L)) (N (o_65 A P) (N (o_84 A P) (N (o_125 A P) L L) L) (N (o_106 A P) (N (o_144 A P) L L) L))))) (N (boot_o_2 P) (N (boot_o_4 P) (N (boot_o_8 P) (N (o_52 A P) (N (o_68 A P) (N (o_109 A P) L L) (N (o_147 A P) L L)) (N (o_90 A P) (N (o_128 A P) L L) L)) (N (o_60 A P) (N (o_79 A P) (N (o_120 A P) L L) L) (N (o_98 A P) (N (o_139 A P) L L) L))) (N (o_132 A P) (N (o_56 A P) (N (o_75 A P) (N (o_113 A P) L L) (N (o_151 A P) L L)) (N (o_94 A P) (N (o_135 A P) L L) L)) (N (o_64 A P) (N (o_83 A P) (N (o_124 A P) L L) L) (N (o_105 A P) (N (o_143 A P) L L) L)))) (N (boot_o_6 P) (N (boot_o_10 P) (N (o_54 A P) (N (o_70 A P) (N (o_111 A P) L L) (N (o_149 A P) L L)) (N (o_92 A P) (N (o_130 A P) L L) L)) (N (o_62 A P) (N (o_81 A P) (N (o_122 A P) L L) L) (N (o_100 A P) (N (o_141 A P) L L) L))) (N (o_46 A P) (N (o_58 A P) (N (o_77 A P) (N (o_115 A P) L L) (N (o_153 A P) L L)) (N (o_96 A P) (N (o_137 A P) L L) L)) (N (o_66 A P) (N (o_85 A P) (N (o_126 A P) L L) L) (N (o_107 A P) (N (o_145 A P) L L) L)))))))
def tree_561 (A : AT) : Params → PySem.W.BT := (fun P => (N (boot_o_0 P) (N (boot_o_1 P) (N (o_515 A P) (N (boot_o_7 P) (N (o_51 A P) (N (o_156 A P) (N (o_108 A P) (N (o_181 A P) (N (o_319 A P) L L) (N (o_460 A P) L L)) (N (o_250 A P) (N (o_389 A P) L L) (N (o_526 A P) L L))) (N (o_146 A P) (N (o_215 A P) (N (o_354 A P) L L) (N (o_492 A P) L L)) (N (o_282 A P) (N (o_424 A P) L L) (N (o_558 A P) L L)))) (N (o_89 A P) (N (o_127 A P) (N (o_197 A P) (N (o_338 A P) L L) (N (o_476 A P) L L)) (N (o_266 A P) (N (o_408 A P) L L) (N (o_542 A P) L L))) (N (o_165 A P) (N (o_231 A P) (N (o_373 A P) L L) (N (o_508 A P) L L)) (N (o_300 A P) (N (o_442 A P) L L) L)))) (N (o_59 A P) (N (o_78 A P) (N (o_119 A P) (N (o_189 A P) (N (o_327 A P) L L) (N (o_468 A P) L L)) (N (o_258 A P) (N (o_397 A P) L L) (N (o_534 A P) L L))) (N (o_157 A P) (N (o_223 A P) (N (o_362 A P) L L) (N (o_500 A P) L L)) (N (o_292 A P) (N (o_432 A P) L L) L))) (N (o_97 A P) (N (o_138 A P) (N (o_207 A P) (N (o_346 A P) L L) (N (o_484 A P) L L)) (N (o_274 A P) (N (o_416 A P) L L) (N (o_550 A P) L L))) (N (o_173 A P) (N (o_239 A P) (N (o_381 A P) L L) (N (o_518 A P) L L)) (N (o_311 A P) (N (o_450 A P) L L) L))))) (N (o_43 A P) (N (o_55 A P) (N (o_74 A P) (N (o_112 A P) (N (o_185 A P) (N (o_323 A P) L L) (N (o_464 A P) L L)) (N (o_254 A P) (N (o_393 A P) L L) (N (o_530 A P) L L))) (N (o_150 A P) (N (o_219 A P) (N (o_358 A P) L L) (N (o_496 A P) L L)) (N (o_286 A P) (N (o_428 A P) L L) L))) (N (o_93 A P) (N (o_134 A P) (N (o_203 A P) (N (o_342 A P) L L) (N (o_480 A P) L L)) (N (o_270 A P) (N (o_412 A P) L L) (N (o_546 A P) L L))) (N (o_169 A P) (N (o_235 A P) (N (o_377 A P) L L) (N (o_512 A P) L L)) (N (o_307 A P) (N (o_446 A P) L L) L)))) (N (o_63 A P) (N (o_82 A P) (N (o_123 A P) (N (o_193 A P) (N (o_331 A P) L L) (N (o_472 A P) L L)) (N (o_262 A P) (N (o_401 A P) L L) (N (o_538 A P) L L))) (N (o_161 A P) (N (o_227 A P) (N (o_366 A P) L L) (N (o_504 A P) L L)) (N (o_296 A P) (N (o_438 A P) L L) L))) (N (o_104 A P) (N (o_142 A P) (N (o_211 A P) (N (o_350 A P) L L) (N (o_488 A P) L L)) (N (o_278 A P) (N (o_420 A P) L L) (N (o_554 A P) L L))) (N (o_177 A P) (N (o_243 A P) (N (o_385 A P) L L) (N (o_522 A P) L L)) (N (o_315 A P) (N (o_454 A P) L L) L)))))) (N (boot_o_5 P) (N (boot_o_9 P) (N (o_53 A P) (N (o_69 A P) (N (o_110 A P) (N (o_183 A P) (N (o_321 A P) L L) (N (o_462 A P) L L)) (N (o_252 A P) (N (o_391 A P) L L) (N (o_528 A P) L L))) (N (o_148 A P) (N (o_217 A P) (N (o_356 A P) L L) (N (o_494 A P) L L)) (N (o_284 A P) (N (o_426 A P) L L) (N (o_560 A P) L L)))) (N (o_91 A P) (N (o_129 A P) (N (o_201 A P) (N (o_340 A P) L L) (N (o_478 A P) L L)) (N (o_268 A P) (N (o_410 A P) L L) (N (o_544 A P) L L))) (N (o_167 A P) (N (o_233 A P) (N (o_375 A P) L L) (N (o_510 A P) L L)) (N (o_302 A P) (N (o_444 A P) L L) L)))) (N (o_61 A P) (N (o_80 A P) (N (o_121 A P) (N (o_191 A P) (N (o_329 A P) L L) (N (o_470 A P) L L)) (N (o_260 A P) (N (o_399 A P) L L) (N (o_536 A P) L L))) (N (o_159 A P) (N (o_225 A P) (N (o_364 A P) L L) (N (o_502 A P) L L)) (N (o_294 A P) (N (o_436 A P) L L) L))) (N (o_99 A P) (N (o_140 A P) (N (o_209 A P) (N (o_348 A P) L L) (N (o_486 A P) L L)) (N (o_276 A P) (N (o_418 A P) L L) (N (o_552 A P) L L))) (N (o_175 A P) (N (o_241 A P) (N (o_383 A P) L L) (N (o_520 A P) L L)) (N (o_313 A P) (N (o_452 A P) L L) L))))) (N (o_45 A P) (N (o_57 A P) (N (o_76 A P) (N (o_114 A P) (N (o_187 A P) (N (o_325 A P) L L) (N (o_466 A P) L L)) (N (o_256 A P) (N (o_395 A P) L L) (N (o_532 A P) L L))) (N (o_152 A P) (N (o_221 A P) (N (o_360 A P) L L) (N (o_498 A P) L L)) (N (o_290 A P) (N (o_430 A P) L L) L))) (N (o_95 A P) (N (o_136 A P) (N (o_205 A P) (N (o_344 A P) L L) (N (o_482 A P) L L)) (N (o_272 A P) (N (o_414 A P) L L) (N (o_548 A P) L L))) (N (o_171 A P) (N (o_237 A P) (N (o_379 A P) L L) (N (o_514 A P) L L)) (N (o_309 A P) (N (o_448 A P) L L) L)))) (N (o_65 A P) (N (o_84 A P) (N (o_125 A P) (N (o_195 A P) (N (o_336 A P) L L) (N (o_474 A P) L L)) (N (o_264 A P) (N (o_403 A P) L L) (N (o_540 A P) L L))) (N (o_163 A P) (N (o_229 A P) (N (o_368 A P) L L) (N (o_506 A P) L L)) (N (o_298 A P) (N (o_440 A P) L L) L))) (N (o_106 A P) (N (o_144 A P) (N (o_213 A P) (N (o_352 A P) L L) (N (o_490 A P) L L)) (N (o_280 A P) (N (o_422 A P) L L) (N (o_556 A P) L L))) (N (o_179 A P) (N (o_248 A P) (N (o_387 A P) L L) (N (o_524 A P) L L)) (N (o_317 A P) (N (o_456 A P) L L) L))))))) (N (boot_o_2 P) (N (boot_o_4 P) (N (boot_o_8 P) (N (o_52 A P) (N (o_68 A P) (N (o_109 A P) (N (o_182 A P) (N (o_320 A P) L L) (N (o_461 A P) L L)) (N (o_251 A P) (N (o_390 A P) L L) (N (o_527 A P) L L))) (N (o_147 A P) (N (o_216 A P) (N (o_355 A P) L L) (N (o_493 A P) L L)) (N (o_283 A P) (N (o_425 A P) L L) (N (o_559 A P) L L)))) (N (o_90 A P) (N (o_128 A P) (N (o_200 A P) (N (o_339 A P) L L) (N (o_477 A P) L L)) (N (o_267 A P) (N (o_409 A P) L L) (N (o_543 A P) L L))) (N (o_166 A P) (N (o_232 A P) (N (o_374 A P) L L) (N (o_509 A P) L L)) (N (o_301 A P) (N (o_443 A P) L L) L)))) (N (o_60 A P) (N (o_79 A P) (N (o_120 A P) (N (o_190 A P) (N (o_328 A P) L L) (N (o_469 A P) L L)) (N (o_259 A P) (N (o_398 A P) L L) (N (o_535 A P) L L))) (N (o_158 A P) (N (o_224 A P) (N (o_363 A P) L L) (N (o_501 A P) L L)) (N (o_293 A P) (N (o_433 A P) L L) L))) (N (o_98 A P) (N (o_139 A P) (N (o_208 A P) (N (o_347 A P) L L) (N (o_485 A P) L L)) (N (o_275 A P) (N (o_417 A P) L L) (N (o_551 A P) L L))) (N (o_174 A P) (N (o_247 A P) (N (o_382 A P) L L) (N (o_519 A P) L L)) (N (o_312 A P) (N (o_451 A P) L L) L))))) (N (o_516 A P) (N (o_56 A P) (N (o_75 A P) (N (o_113 A P) (N (o_186 A P) (N (o_324 A P) L L) (N (o_465 A P) L L)) (N (o_255 A P) (N (o_394 A P) L L) (N (o_531 A P) L L))) (N (o_151 A P) (N (o_220 A P) (N (o_359 A P) L L) (N (o_497 A P) L L)) (N (o_287 A P) (N (o_429 A P) L L) L))) (N (o_94 A P) (N (o_135 A P) (N (o_204 A P) (N (o_343 A P) L L) (N (o_481 A P) L L)) (N (o_271 A P) (N (o_413 A P) L L) (N (o_547 A P) L L))) (N (o_170 A P) (N (o_236 A P) (N (o_378 A P) L L) (N (o_513 A P) L L)) (N (o_308 A P) (N (o_447 A P) L L) L)))) (N (o_64 A P) (N (o_83 A P) (N (o_124 A P) (N (o_194 A P) (N (o_332 A P) L L) (N (o_473 A P) L L)) (N (o_263 A P) (N (o_402 A P) L L) (N (o_539 A P) L L))) (N (o_162 A P) (N (o_228 A P) (N (o_367 A P) L L) (N (o_505 A P) L L)) (N (o_297 A P) (N (o_439 A P) L L) L))) (N (o_105 A P) (N (o_143 A P) (N (o_212 A P) (N (o_351 A P) L L) (N (o_489 A P) L L)) (N (o_279 A P) (N (o_421 A P) L L) (N (o_555 A P) L L))) (N (o_178 A P) (N (o_244 A P) (N (o_386 A P) L L) (N (o_523 A P) L L)) (N (o_316 A P) (N (o_455 A P) L L) L)))))) (N (boot_o_6 P) (N (boot_o_10 P) (N (o_54 A P) (N (o_70 A P) (N (o_111 A P) (N (o_184 A P) (N (o_322 A P) L L) (N (o_463 A P) L L)) (N (o_253 A P) (N (o_392 A P) L L) (N (o_529 A P) L L))) (N (o_149 A P) (N (o_218 A P) (N (o_357 A P) L L) (N (o_495 A P) L L)) (N (o_285 A P) (N (o_427 A P) L L) (N (o_561 A P) L L)))) (N (o_92 A P) (N (o_130 A P) (N (o_202 A P) (N (o_341 A P) L L) (N (o_479 A P) L L)) (N (o_269 A P) (N (o_411 A P) L L) (N (o_545 A P) L L))) (N (o_168 A P) (N (o_234 A P) (N (o_376 A P) L L) (N (o_511 A P) L L)) (N (o_303 A P) (N (o_445 A P) L L) L)))) (N (o_62 A P) (N (o_81 A P) (N (o_122 A P) (N (o_192 A P) (N (o_330 A P) L L) (N (o_471 A P) L L)) (N (o_261 A P) (N (o_400 A P) L L) (N (o_537 A P) L L))) (N (o_160 A P) (N (o_226 A P) (N (o_365 A P) L L) (N (o_503 A P) L L)) (N (o_295 A P) (N (o_437 A P) L L) L))) (N (o_100 A P) (N (o_141 A P) (N (o_210 A P) (N (o_349 A P) L L) (N (o_487 A P) L L)) (N (o_277 A P) (N (o_419 A P) L L) (N (o_553 A P) L L))) (N (o_176 A P) (N (o_242 A P) (N (o_384 A P) L L) (N (o_521 A P) L L)) (N (o_314 A P) (N (o_453 A P) L L) L))))) (N (o_46 A P) (N (o_58 A P) (N (o_77 A P) (N (o_115 A P) (N (o_188 A P) (N (o_326 A P) L L) (N (o_467 A P) L L)) (N (o_257 A P) (N (o_396 A P) L L) (N (o_533 A P) L L))) (N (o_153 A P) (N (o_222 A P) (N (o_361 A P) L L) (N (o_499 A P) L L)) (N (o_291 A P) (N (o_431 A P) L L) L))) (N (o_96 A P) (N (o_137 A P) (N (o_206 A P) (N (o_345 A P) L L) (N (o_483 A P) L L)) (N (o_273 A P) (N (o_415 A P) L L) (N (o_549 A P) L L))) (N (o_172 A P) (N (o_238 A P) (N (o_380 A P) L L) (N (o_517 A P) L L)) (N (o_310 A P) (N (o_449 A P) L L) L)))) (N (o_66 A P) (N (o_85 A P) (N (o_126 A P) (N (o_196 A P) (N (o_337 A P) L L) (N (o_475 A P) L L)) (N (o_265 A P) (N (o_404 A P) L L) (N (o_541 A P) L L))) (N (o_164 A P) (N (o_230 A P) (N (o_372 A P) L L) (N (o_507 A P) L L)) (N (o_407 A P) (N (o_441 A P) L L) L))) (N (o_107 A P) (N (o_145 A P) (N (o_214 A P) (N (o_353 A P) L L) (N (o_491 A P) L L)) (N (o_281 A P) (N (o_423 A P) L L) (N (o_557 A P) L L))) (N (o_180 A P) (N (o_249 A P) (N (o_388 A P) L L) (N (o_525 A P) L L)) (N (o_318 A P) (N (o_457 A P) L L) L)))))))))
def tree_332 (A : AT) : Params → PySem.W.BT := (fun P => (N (boot_o_0 P) (N (boot_o_1 P) (N (o_304 A P) (N (boot_o_7 P) (N (o_51 A P) (N (o_156 A P) (N (o_108 A P) (N (o_181 A P) (N (o_319 A P) L L) L) (N (o_250 A P) L L)) (N (o_146 A P) (N (o_215 A P) L L) (N (o_282 A P) L L))) (N (o_89 A P) (N (o_127 A P) (N (o_197 A P) L L) (N (o_266 A P) L L)) (N (o_165 A P) (N (o_231 A P) L L) (N (o_300 A P) L L)))) (N (o_59 A P) (N (o_78 A P) (N (o_119 A P) (N (o_189 A P) (N (o_327 A P) L L) L) (N (o_258 A P) L L)) (N (o_157 A P) (N (o_223 A P) L L) (N (o_292 A P) L L))) (N (o_97 A P) (N (o_138 A P) (N (o_207 A P) L L) (N (o_274 A P) L L)) (N (o_173 A P) (N (o_239 A P) L L) (N (o_311 A P) L L))))) (N (o_43 A P) (N (o_55 A P) (N (o_74 A P) (N (o_112 A P) (N (o_185 A P) (N (o_323 A P) L L) L) (N (o_254 A P) L L)) (N (o_150 A P) (N (o_219 A P) L L) (N (o_286 A P) L L))) (N (o_93 A P) (N (o_134 A P) (N (o_203 A P) L L) (N (o_270 A P) L L)) (N (o_169 A P) (N (o_235 A P) L L) (N (o_307 A P) L L)))) (N (o_63 A P) (N (o_82 A P) (N (o_123 A P) (N (o_193 A P) (N (o_331 A P) L L) L) (N (o_262 A P) L L)) (N (o_161 A P) (N (o_227 A P) L L) (N (o_296 A P) L L))) (N (o_104 A P) (N (o_142 A P) (N (o_211 A P) L L) (N (o_278 A P) L L)) (N (o_177 A P) (N (o_243 A P) L L) (N (o_315 A P) L L)))))) (N (boot_o_5 P) (N (boot_o_9 P) (N (o_53 A P) (N (o_69 A P) (N (o_110 A P) (N (o_183 A P) (N (o_321 A P) L L) L) (N (o_252 A P) L L)) (N (o_148 A P) (N (o_217 A P) L L) (N (o_284 A P) L L))) (N (o_91 A P) (N (o_129 A P) (N (o_201 A P) L L) (N (o_268 A P) L L)) (N (o_167 A P) (N (o_233 A P) L L) (N (o_302 A P) L L)))) (N (o_61 A P) (N (o_80 A P) (N (o_121 A P) (N (o_191 A P) (N (o_329 A P) L L) L) (N (o_260 A P) L L)) (N (o_159 A P) (N (o_225 A P) L L) (N (o_294 A P) L L))) (N (o_99 A P) (N (o_140 A P) (N (o_209 A P) L L) (N (o_276 A P) L L)) (N (o_175 A P) (N (o_241 A P) L L) (N (o_313 A P) L L))))) (N (o_45 A P) (N (o_57 A P) (N (o_76 A P) (N (o_114 A P) (N (o_187 A P) (N (o_325 A P) L L) L) (N (o_256 A P) L L)) (N (o_152 A P) (N (o_221 A P) L L) (N (o_290 A P) L L))) (N (o_95 A P) (N (o_136 A P) (N (o_205 A P) L L) (N (o_272 A P) L L)) (N (o_171 A P) (N (o_237 A P) L L) (N (o_309 A P) L L)))) (N (o_65 A P) (N (o_84 A P) (N (o_125 A P) (N (o_195 A P) L L) (N (o_264 A P) L L)) (N (o_163 A P) (N (o_229 A P) L L) (N (o_298 A P) L L))) (N (o_106 A P) (N (o_144 A P) (N (o_213 A P) L L) (N (o_280 A P) L L)) (N (o_179 A P) (N (o_248 A P) L L) (N (o_317 A P) L L))))))) (N (boot_o_2 P) (N (boot_o_4 P) (N (boot_o_8 P) (N (o_52 A P) (N (o_68 A P) (N (o_109 A P) (N (o_182 A P) (N (o_320 A P) L L) L) (N (o_251 A P) L L)) (N (o_147 A P) (N (o_216 A P) L L) (N (o_283 A P) L L))) (N (o_90 A P) (N (o_128 A P) (N (o_200 A P) L L) (N (o_267 A P) L L)) (N (o_166 A P) (N (o_232 A P) L L) (N (o_301 A P) L L)))) (N (o_60 A P) (N (o_79 A P) (N (o_120 A P) (N (o_190 A P) (N (o_328 A P) L L) L) (N (o_259 A P) L L)) (N (o_158 A P) (N (o_224 A P) L L) (N (o_293 A P) L L))) (N (o_98 A P) (N (o_139 A P) (N (o_208 A P) L L) (N (o_275 A P) L L)) (N (o_174 A P) (N (o_247 A P) L L) (N (o_312 A P) L L))))) (N (o_305 A P) (N (o_56 A P) (N (o_75 A P) (N (o_113 A P) (N (o_186 A P) (N (o_324 A P) L L) L) (N (o_255 A P) L L)) (N (o_151 A P) (N (o_220 A P) L L) (N (o_287 A P) L L))) (N (o_94 A P) (N (o_135 A P) (N (o_204 A P) L L) (N (o_271 A P) L L)) (N (o_170 A P) (N (o_236 A P) L L) (N (o_308 A P) L L)))) (N (o_64 A P) (N (o_83 A P) (N (o_124 A P) (N (o_194 A P) (N (o_332 A P) L L) L) (N (o_263 A P) L L)) (N (o_162 A P) (N (o_228 A P) L L) (N (o_297 A P) L L))) (N (o_105 A P) (N (o_143 A P) (N (o_212 A P) L L) (N (o_279 A P) L L)) (N (o_178 A P) (N (o_244 A P) L L) (N (o_316 A P) L L)))))) (N (boot_o_6 P) (N (boot_o_10 P) (N (o_54 A P) (N (o_70 A P) (N (o_111 A P) (N (o_184 A P) (N (o_322 A P) L L) L) (N (o_253 A P) L L)) (N (o_149 A P) (N (o_218 A P) L L) (N (o_285 A P) L L))) (N (o_92 A P) (N (o_130 A P) (N (o_202 A P) L L) (N (o_269 A P) L L)) (N (o_168 A P) (N (o_234 A P) L L) (N (o_303 A P) L L)))) (N (o_62 A P) (N (o_81 A P) (N (o_122 A P) (N (o_192 A P) (N (o_330 A P) L L) L) (N (o_261 A P) L L)) (N (o_160 A P) (N (o_226 A P) L L) (N (o_295 A P) L L))) (N (o_100 A P) (N (o_141 A P) (N (o_210 A P) L L) (N (o_277 A P) L L)) (N (o_176 A P) (N (o_242 A P) L L) (N (o_314 A P) L L))))) (N (o_46 A P) (N (o_58 A P) (N (o_77 A P) (N (o_115 A P) (N (o_188 A P) (N (o_326 A P) L L) L) (N (o_257 A P) L L)) (N (o_153 A P) (N (o_222 A P) L L) (N (o_291 A P) L L))) (N (o_96 A P) (N (o_137 A P) (N (o_206 A P) L L) (N (o_273 A P) L L)) (N (o_172 A P) (N (o_238 A P) L L) (N (o_310 A P) L L)))) (N (o_66 A P) (N (o_85 A P) (N (o_126 A P) (N (o_196 A P) L L) (N (o_265 A P) L L)) (N (o_164 A P) (N (o_230 A P) L L) (N (o_306 A P) L L))) (N (o_107 A P) (N (o_145 A P) (N (o_214 A P) L L) (N (o_281 A P) L L)) (N (o_180 A P) (N (o_249 A P) L L) (N (o_318 A P) L L)))))))))
def tree_514 (A : AT) : Params → PySem.W.BT := (fun P => (N (boot_o_0 P) (N (boot_o_1 P) (N (o_458 A P) (N (boot_o_7 P) (N (o_51 A P) (N (o_156 A P) (N (o_108 A P) (N (o_181 A P) (N (o_319 A P) L L) (N (o_460 A P) L L)) (N (o_250 A P) (N (o_389 A P) L L) L)) (N (o_146 A P) (N (o_215 A P) (N (o_354 A P) L L) (N (o_492 A P) L L)) (N (o_282 A P) (N (o_424 A P) L L) L))) (N (o_89 A P) (N (o_127 A P) (N (o_197 A P) (N (o_338 A P) L L) (N (o_476 A P) L L)) (N (o_266 A P) (N (o_408 A P) L L) L)) (N (o_165 A P) (N (o_231 A P) (N (o_373 A P) L L) (N (o_508 A P) L L)) (N (o_300 A P) (N (o_442 A P) L L) L)))) (N (o_59 A P) (N (o_78 A P) (N (o_119 A P) (N (o_189 A P) (N (o_327 A P) L L) (N (o_468 A P) L L)) (N (o_258 A P) (N (o_397 A P) L L) L)) (N (o_157 A P) (N (o_223 A P) (N (o_362 A P) L L) (N (o_500 A P) L L)) (N (o_292 A P) (N (o_432 A P) L L) L))) (N (o_97 A P) (N (o_138 A P) (N (o_207 A P) (N (o_346 A P) L L) (N (o_484 A P) L L)) (N (o_274 A P) (N (o_416 A P) L L) L)) (N (o_173 A P) (N (o_239 A P) (N (o_381 A P) L L) L) (N (o_311 A P) (N (o_450 A P) L L) L))))) (N (o_43 A P) (N (o_55 A P) (N (o_74 A P) (N (o_112 A P) (N (o_185 A P) (N (o_323 A P) L L) (N (o_464 A P) L L)) (N (o_254 A P) (N (o_393 A P) L L) L)) (N (o_150 A P) (N (o_219 A P) (N (o_358 A P) L L) (N (o_496 A P) L L)) (N (o_286 A P) (N (o_428 A P) L L) L))) (N (o_93 A P) (N (o_134 A P) (N (o_203 A P) (N (o_342 A P) L L) (N (o_480 A P) L L)) (N (o_270 A P) (N (o_412 A P) L L) L)) (N (o_169 A P) (N (o_235 A P) (N (o_377 A P) L L) (N (o_512 A P) L L)) (N (o_307 A P) (N (o_446 A P) L L) L)))) (N (o_63 A P) (N (o_82 A P) (N (o_123 A P) (N (o_193 A P) (N (o_331 A P) L L) (N (o_472 A P) L L)) (N (o_262 A P) (N (o_401 A P) L L) L)) (N (o_161 A P) (N (o_227 A P) (N (o_366 A P) L L) (N (o_504 A P) L L)) (N (o_296 A P) (N (o_438 A P) L L) L))) (N (o_104 A P) (N (o_142 A P) (N (o_211 A P) (N (o_350 A P) L L) (N (o_488 A P) L L)) (N (o_278 A P) (N (o_420 A P) L L) L)) (N (o_177 A P) (N (o_243 A P) (N (o_385 A P) L L) L) (N (o_315 A P) (N (o_454 A P) L L) L)))))) (N (boot_o_5 P) (N (boot_o_9 P) (N (o_53 A P) (N (o_69 A P) (N (o_110 A P) (N (o_183 A P) (N (o_321 A P) L L) (N (o_462 A P) L L)) (N (o_252 A P) (N (o_391 A P) L L) L)) (N (o_148 A P) (N (o_217 A P) (N (o_356 A P) L L) (N (o_494 A P) L L)) (N (o_284 A P) (N (o_426 A P) L L) L))) (N (o_91 A P) (N (o_129 A P) (N (o_201 A P) (N (o_340 A P) L L) (N (o_478 A P) L L)) (N (o_268 A P) (N (o_410 A P) L L) L)) (N (o_167 A P) (N (o_233 A P) (N (o_375 A P) L L) (N (o_510 A P) L L)) (N (o_302 A P) (N (o_444 A P) L L) L)))) (N (o_61 A P) (N (o_80 A P) (N (o_121 A P) (N (o_191 A P) (N (o_329 A P) L L) (N (o_470 A P) L L)) (N (o_260 A P) (N (o_399 A P) L L) L)) (N (o_159 A P) (N (o_225 A P) (N (o_364 A P) L L) (N (o_502 A P) L L)) (N (o_294 A P) (N (o_436 A P) L L) L))) (N (o_99 A P) (N (o_140 A P) (N (o_209 A P) (N (o_348 A P) L L) (N (o_486 A P) L L)) (N (o_276 A P) (N (o_418 A P) L L) L)) (N (o_175 A P) (N (o_241 A P) (N (o_383 A P) L L) L) (N (o_313 A P) (N (o_452 A P) L L) L))))) (N (o_45 A P) (N (o_57 A P) (N (o_76 A P) (N (o_114 A P) (N (o_187 A P) (N (o_325 A P) L L) (N (o_466 A P) L L)) (N (o_256 A P) (N (o_395 A P) L L) L)) (N (o_152 A P) (N (o_221 A P) (N (o_360 A P) L L) (N (o_498 A P) L L)) (N (o_290 A P) (N (o_430 A P) L L) L))) (N (o_95 A P) (N (o_136 A P) (N (o_205 A P) (N (o_344 A P) L L) (N (o_482 A P) L L)) (N (o_272 A P) (N (o_414 A P) L L) L)) (N (o_171 A P) (N (o_237 A P) (N (o_379 A P) L L) (N (o_514 A P) L L)) (N (o_309 A P) (N (o_448 A P) L L) L)))) (N (o_65 A P) (N (o_84 A P) (N (o_125 A P) (N (o_195 A P) (N (o_336 A P) L L) (N (o_474 A P) L L)) (N (o_264 A P) (N (o_403 A P) L L) L)) (N (o_163 A P) (N (o_229 A P) (N (o_368 A P) L L) (N (o_506 A P) L L)) (N (o_298 A P) (N (o_440 A P) L L) L))) (N (o_106 A P) (N (o_144 A P) (N (o_213 A P) (N (o_352 A P) L L) (N (o_490 A P) L L)) (N (o_280 A P) (N (o_422 A P) L L) L)) (N (o_179 A P) (N (o_248 A P) (N (o_387 A P) L L) L) (N (o_317 A P) (N (o_456 A P) L L) L))))))) (N (boot_o_2 P) (N (boot_o_4 P) (N (boot_o_8 P) (N (o_52 A P) (N (o_68 A P) (N (o_109 A P) (N (o_182 A P) (N (o_320 A P) L L) (N (o_461 A P) L L)) (N (o_251 A P) (N (o_390 A P) L L) L)) (N (o_147 A P) (N (o_216 A P) (N (o_355 A P) L L) (N (o_493 A P) L L)) (N (o_283 A P) (N (o_425 A P) L L) L))) (N (o_90 A P) (N (o_128 A P) (N (o_200 A P) (N (o_339 A P) L L) (N (o_477 A P) L L)) (N (o_267 A P) (N (o_409 A P) L L) L)) (N (o_166 A P) (N (o_232 A P) (N (o_374 A P) L L) (N (o_509 A P) L L)) (N (o_301 A P) (N (o_443 A P) L L) L)))) (N (o_60 A P) (N (o_79 A P) (N (o_120 A P) (N (o_190 A P) (N (o_328 A P) L L) (N (o_469 A P) L L)) (N (o_259 A P) (N (o_398 A P) L L) L)) (N (o_158 A P) (N (o_224 A P) (N (o_363 A P) L L) (N (o_501 A P) L L)) (N (o_293 A P) (N (o_433 A P) L L) L))) (N (o_98 A P) (N (o_139 A P) (N (o_208 A P) (N (o_347 A P) L L) (N (o_485 A P) L L)) (N (o_275 A P) (N (o_417 A P) L L) L)) (N (o_174 A P) (N (o_247 A P) (N (o_382 A P) L L) L) (N (o_312 A P) (N (o_451 A P) L L) L))))) (N (o_459 A P) (N (o_56 A P) (N (o_75 A P) (N (o_113 A P) (N (o_186 A P) (N (o_324 A P) L L) (N (o_465 A P) L L)) (N (o_255 A P) (N (o_394 A P) L L) L)) (N (o_151 A P) (N (o_220 A P) (N (o_359 A P) L L) (N (o_497 A P) L L)) (N (o_287 A P) (N (o_429 A P) L L) L))) (N (o_94 A P) (N (o_135 A P) (N (o_204 A P) (N (o_343 A P) L L) (N (o_481 A P) L L)) (N (o_271 A P) (N (o_413 A P) L L) L)) (N (o_170 A P) (N (o_236 A P) (N (o_378 A P) L L) (N (o_513 A P) L L)) (N (o_308 A P) (N (o_447 A P) L L) L)))) (N (o_64 A P) (N (o_83 A P) (N (o_124 A P) (N (o_194 A P) (N (o_332 A P) L L) (N (o_473 A P) L L)) (N (o_263 A P) (N (o_402 A P) L L) L)) (N (o_162 A P) (N (o_228 A P) (N (o_367 A P) L L) (N (o_505 A P) L L)) (N (o_297 A P) (N (o_439 A P) L L) L))) (N (o_105 A P) (N (o_143 A P) (N (o_212 A P) (N (o_351 A P) L L) (N (o_489 A P) L L)) (N (o_279 A P) (N (o_421 A P) L L) L)) (N (o_178 A P) (N (o_244 A P) (N (o_386 A P) L L) L) (N (o_316 A P) (N (o_455 A P) L L) L)))))) (N (boot_o_6 P) (N (boot_o_10 P) (N (o_54 A P) (N (o_70 A P) (N (o_111 A P) (N (o_184 A P) (N (o_322 A P) L L) (N (o_463 A P) L L)) (N (o_253 A P) (N (o_392 A P) L L) L)) (N (o_149 A P) (N (o_218 A P) (N (o_357 A P) L L) (N (o_495 A P) L L)) (N (o_285 A P) (N (o_427 A P) L L) L))) (N (o_92 A P) (N (o_130 A P) (N (o_202 A P) (N (o_341 A P) L L) (N (o_479 A P) L L)) (N (o_269 A P) (N (o_411 A P) L L) L)) (N (o_168 A P) (N (o_234 A P) (N (o_376 A P) L L) (N (o_511 A P) L L)) (N (o_303 A P) (N (o_445 A P) L L) L)))) (N (o_62 A P) (N (o_81 A P) (N (o_122 A P) (N (o_192 A P) (N (o_330 A P) L L) (N (o_471 A P) L L)) (N (o_261 A P) (N (o_400 A P) L L) L)) (N (o_160 A P) (N (o_226 A P) (N (o_365 A P) L L) (N (o_503 A P) L L)) (N (o_295 A P) (N (o_437 A P) L L) L))) (N (o_100 A P) (N (o_141 A P) (N (o_210 A P) (N (o_349 A P) L L) (N (o_487 A P) L L)) (N (o_277 A P) (N (o_419 A P) L L) L)) (N (o_176 A P) (N (o_242 A P) (N (o_384 A P) L L) L) (N (o_314 A P) (N (o_453 A P) L L) L))))) (N (o_46 A P) (N (o_58 A P) (N (o_77 A P) (N (o_115 A P) (N (o_188 A P) (N (o_326 A P) L L) (N (o_467 A P) L L)) (N (o_257 A P) (N (o_396 A P) L L) L)) (N (o_153 A P) (N (o_222 A P) (N (o_361 A P) L L) (N (o_499 A P) L L)) (N (o_291 A P) (N (o_431 A P) L L) L))) (N (o_96 A P) (N (o_137 A P) (N (o_206 A P) (N (o_345 A P) L L) (N (o_483 A P) L L)) (N (o_273 A P) (N (o_415 A P) L L) L)) (N (o_172 A P) (N (o_238 A P) (N (o_380 A P) L L) L) (N (o_310 A P) (N (o_449 A P) L L) L)))) (N (o_66 A P) (N (o_85 A P) (N (o_126 A P) (N (o_196 A P) (N (o_337 A P) L L) (N (o_475 A P) L L)) (N (o_265 A P) (N (o_404 A P) L L) L)) (N (o_164 A P) (N (o_230 A P) (N (o_372 A P) L L) (N (o_507 A P) L L)) (N (o_407 A P) (N (o_441 A P) L L) L))) (N (o_107 A P) (N (o_145 A P) (N (o_214 A P) (N (o_353 A P) L L) (N (o_491 A P) L L)) (N (o_281 A P) (N (o_423 A P) L L) L)) (N (o_180 A P) (N (o_249 A P) (N (o_388 A P) L L) L) (N (o_318 A P) (N (o_457 A P) L L) L)))))))))
def tree_433 (A : AT) : Params → PySem.W.BT := (fun P => (N (boot_o_0 P) (N (boot_o_1 P) (N (o_405 A P) (N (boot_o_7 P) (N (o_51 A P) (N (o_156 A P) (N (o_108 A P) (N (o_181 A P) (N (o_319 A P) L L) L) (N (o_250 A P) (N (o_389 A P) L L) L)) (N (o_146 A P) (N (o_215 A P) (N (o_354 A P) L L) L) (N (o_282 A P) (N (o_424 A P) L L) L))) (N (o_89 A P) (N (o_127 A P) (N (o_197 A P) (N (o_338 A P) L L) L) (N (o_266 A P) (N (o_408 A P) L L) L)) (N (o_165 A P) (N (o_231 A P) (N (o_373 A P) L L) L) (N (o_300 A P) L L)))) (N (o_59 A P) (N (o_78 A P) (N (o_119 A P) (N (o_189 A P) (N (o_327 A P) L L) L) (N (o_258 A P) (N (o_397 A P) L L) L)) (N (o_157 A P) (N (o_223 A P) (N (o_362 A P) L L) L) (N (o_292 A P) (N (o_432 A P) L L) L))) (N (o_97 A P) (N (o_138 A P) (N (o_207 A P) (N (o_346 A P) L L) L) (N (o_274 A P) (N (o_416 A P) L L) L)) (N (o_173 A P) (N (o_239 A P) (N (o_381 A P) L L) L) (N (o_311 A P) L L))))) (N (o_43 A P) (N (o_55 A P) (N (o_74 A P) (N (o_112 A P) (N (o_185 A P) (N (o_323 A P) L L) L) (N (o_254 A P) (N (o_393 A P) L L) L)) (N (o_150 A P) (N (o_219 A P) (N (o_358 A P) L L) L) (N (o_286 A P) (N (o_428 A P) L L) L))) (N (o_93 A P) (N (o_134 A P) (N (o_203 A P) (N (o_342 A P) L L) L) (N (o_270 A P) (N (o_412 A P) L L) L)) (N (o_169 A P) (N (o_235 A P) (N (o_377 A P) L L) L) (N (o_307 A P) L L)))) (N (o_63 A P) (N (o_82 A P) (N (o_123 A P) (N (o_193 A P) (N (o_331 A P) L L) L) (N (o_262 A P) (N (o_401 A P) L L) L)) (N (o_161 A P) (N (o_227 A P) (N (o_366 A P) L L) L) (N (o_296 A P) L L))) (N (o_104 A P) (N (o_142 A P) (N (o_211 A P) (N (o_350 A P) L L) L) (N (o_278 A P) (N (o_420 A P) L L) L)) (N (o_177 A P) (N (o_243 A P) (N (o_385 A P) L L) L) (N (o_315 A P) L L)))))) (N (boot_o_5 P) (N (boot_o_9 P) (N (o_53 A P) (N (o_69 A P) (N (o_110 A P) (N (o_183 A P) (N (o_321 A P) L L) L) (N (o_252 A P) (N (o_391 A P) L L) L)) (N (o_148 A P) (N (o_217 A P) (N (o_356 A P) L L) L) (N (o_284 A P) (N (o_426 A P) L L) L))) (N (o_91 A P) (N (o_129 A P) (N (o_201 A P) (N (o_340 A P) L L) L) (N (o_268 A P) (N (o_410 A P) L L) L)) (N (o_167 A P) (N (o_233 A P) (N (o_375 A P) L L) L) (N (o_302 A P) L L)))) (N (o_61 A P) (N (o_80 A P) (N (o_121 A P) (N (o_191 A P) (N (o_329 A P) L L) L) (N (o_260 A P) (N (o_399 A P) L L) L)) (N (o_159 A P) (N (o_225 A P) (N (o_364 A P) L L) L) (N (o_294 A P) L L))) (N (o_99 A P) (N (o_140 A P) (N (o_209 A P) (N (o_348 A P) L L) L) (N (o_276 A P) (N (o_418 A P) L L) L)) (N (o_175 A P) (N (o_241 A P) (N (o_383 A P) L L) L) (N (o_313 A P) L L))))) (N (o_45 A P) (N (o_57 A P) (N (o_76 A P) (N (o_114 A P) (N (o_187 A P) (N (o_325 A P) L L) L) (N (o_256 A P) (N (o_395 A P) L L) L)) (N (o_152 A P) (N (o_221 A P) (N (o_360 A P) L L) L) (N (o_290 A P) (N (o_430 A P) L L) L))) (N (o_95 A P) (N (o_136 A P) (N (o_205 A P) (N (o_344 A P) L L) L) (N (o_272 A P) (N (o_414 A P) L L) L)) (N (o_171 A P) (N (o_237 A P) (N (o_379 A P) L L) L) (N (o_309 A P) L L)))) (N (o_65 A P) (N (o_84 A P) (N (o_125 A P) (N (o_195 A P) (N (o_336 A P) L L) L) (N (o_264 A P) (N (o_403 A P) L L) L)) (N (o_163 A P) (N (o_229 A P) (N (o_368 A P) L L) L) (N (o_298 A P) L L))) (N (o_106 A P) (N (o_144 A P) (N (o_213 A P) (N (o_352 A P) L L) L) (N (o_280 A P) (N (o_422 A P) L L) L)) (N (o_179 A P) (N (o_248 A P) (N (o_387 A P) L L) L) (N (o_317 A P) L L))))))) (N (boot_o_2 P) (N (boot_o_4 P) (N (boot_o_8 P) (N (o_52 A P) (N (o_68 A P) (N (o_109 A P) (N (o_182 A P) (N (o_320 A P) L L) L) (N (o_251 A P) (N (o_390 A P) L L) L)) (N (o_147 A P) (N (o_216 A P) (N (o_355 A P) L L) L) (N (o_283 A P) (N (o_425 A P) L L) L))) (N (o_90 A P) (N (o_128 A P) (N (o_200 A P) (N (o_339 A P) L L) L) (N (o_267 A P) (N (o_409 A P) L L) L)) (N (o_166 A P) (N (o_232 A P) (N (o_374 A P) L L) L) (N (o_301 A P) L L)))) (N (o_60 A P) (N (o_79 A P) (N (o_120 A P) (N (o_190 A P) (N (o_328 A P) L L) L) (N (o_259 A P) (N (o_398 A P) L L) L)) (N (o_158 A P) (N (o_224 A P) (N (o_363 A P) L L) L) (N (o_293 A P) (N (o_433 A P) L L) L))) (N (o_98 A P) (N (o_139 A P) (N (o_208 A P) (N (o_347 A P) L L) L) (N (o_275 A P) (N (o_417 A P) L L) L)) (N (o_174 A P) (N (o_247 A P) (N (o_382 A P) L L) L) (N (o_312 A P) L L))))) (N (o_406 A P) (N (o_56 A P) (N (o_75 A P) (N (o_113 A P) (N (o_186 A P) (N (o_324 A P) L L) L) (N (o_255 A P) (N (o_394 A P) L L) L)) (N (o_151 A P) (N (o_220 A P) (N (o_359 A P) L L) L) (N (o_287 A P) (N (o_429 A P) L L) L))) (N (o_94 A P) (N (o_135 A P) (N (o_204 A P) (N (o_343 A P) L L) L) (N (o_271 A P) (N (o_413 A P) L L) L)) (N (o_170 A P) (N (o_236 A P) (N (o_378 A P) L L) L) (N (o_308 A P) L L)))) (N (o_64 A P) (N (o_83 A P) (N (o_124 A P) (N (o_194 A P) (N (o_332 A P) L L) L) (N (o_263 A P) (N (o_402 A P) L L) L)) (N (o_162 A P) (N (o_228 A P) (N (o_367 A P) L L) L) (N (o_297 A P) L L))) (N (o_105 A P) (N (o_143 A P) (N (o_212 A P) (N (o_351 A P) L L) L) (N (o_279 A P) (N (o_421 A P) L L) L)) (N (o_178 A P) (N (o_244 A P) (N (o_386 A P) L L) L) (N (o_316 A P) L L)))))) (N (boot_o_6 P) (N (boot_o_10 P) (N (o_54 A P) (N (o_70 A P) (N (o_111 A P) (N (o_184 A P) (N (o_322 A P) L L) L) (N (o_253 A P) (N (o_392 A P) L L) L)) (N (o_149 A P) (N (o_218 A P) (N (o_357 A P) L L) L) (N (o_285 A P) (N (o_427 A P) L L) L))) (N (o_92 A P) (N (o_130 A P) (N (o_202 A P) (N (o_341 A P) L L) L) (N (o_269 A P) (N (o_411 A P) L L) L)) (N (o_168 A P) (N (o_234 A P) (N (o_376 A P) L L) L) (N (o_303 A P) L L)))) (N (o_62 A P) (N (o_81 A P) (N (o_122 A P) (N (o_192 A P) (N (o_330 A P) L L) L) (N (o_261 A P) (N (o_400 A P) L L) L)) (N (o_160 A P) (N (o_226 A P) (N (o_365 A P) L L) L) (N (o_295 A P) L L))) (N (o_100 A P) (N (o_141 A P) (N (o_210 A P) (N (o_349 A P) L L) L) (N (o_277 A P) (N (o_419 A P) L L) L)) (N (o_176 A P) (N (o_242 A P) (N (o_384 A P) L L) L) (N (o_314 A P) L L))))) (N (o_46 A P) (N (o_58 A P) (N (o_77 A P) (N (o_115 A P) (N (o_188 A P) (N (o_326 A P) L L) L) (N (o_257 A P) (N (o_396 A P) L L) L)) (N (o_153 A P) (N (o_222 A P) (N (o_361 A P) L L) L) (N (o_291 A P) (N (o_431 A P) L L) L))) (N (o_96 A P) (N (o_137 A P) (N (o_206 A P) (N (o_345 A P) L L) L) (N (o_273 A P) (N (o_415 A P) L L) L)) (N (o_172 A P) (N (o_238 A P) (N (o_380 A P) L L) L) (N (o_310 A P) L L)))) (N (o_66 A P) (N (o_85 A P) (N (o_126 A P) (N (o_196 A P) (N (o_337 A P) L L) L) (N (o_265 A P) (N (o_404 A P) L L) L)) (N (o_164 A P) (N (o_230 A P) (N (o_372 A P) L L) L) (N (o_407 A P) L L))) (N (o_107 A P) (N (o_145 A P) (N (o_214 A P) (N (o_353 A P) L L) L) (N (o_281 A P) (N (o_423 A P) L L) L)) (N (o_180 A P) (N (o_249 A P) (N (o_388 A P) L L) L) (N (o_318 A P) L L)))))))))
def tree_130 (A : AT) : Params → PySem.W.BT := (fun P => (N (boot_o_0 P) (N (boot_o_1 P) (N (o_116 A P) (N (boot_o_7 P) (N (o_51 A P) (N (o_118 A P) (N (o_108 A P) L L) L) (N (o_89 A P) (N (o_127 A P) L L) L)) (N (o_59 A P) (N (o_78 A P) (N (o_119 A P) L L) L) (N (o_97 A P) L L))) (N (o_43 A P) (N (o_55 A P) (N (o_74 A P) (N (o_112 A P) L L) L) (N (o_93 A P) L L)) (N (o_63 A P) (N (o_82 A P) (N (o_123 A P) L L) L) (N (o_104 A P) L L)))) (N (boot_o_5 P) (N (boot_o_9 P) (N (o_53 A P) (N (o_69 A P) (N (o_110 A P) L L) L) (N (o_91 A P) (N (o_129 A P) L L) L)) (N (o_61 A P) (N (o_80 A P) (N (o_121 A P) L L) L) (N (o_99 A P) L L))) (N (o_45 A P) (N (o_57 A P) (N (o_76 A P) (N (o_114 A P) L L) L) (N (o_95 A P) L L)) (N (o_65 A P) (N (o_84 A P) (N (o_125 A P) L L) L) (N (o_106 A P) L L))))) (N (boot_o_2 P) (N (boot_o_4 P) (N (boot_o_8 P) (N (o_52 A P) (N (o_68 A P) (N (o_109 A P) L L) L) (N (o_90 A P) (N (o_128 A P) L L) L)) (N (o_60 A P) (N (o_79 A P) (N (o_120 A P) L L) L) (N (o_98 A P) L L))) (N (o_117 A P) (N (o_56 A P) (N (o_75 A P) (N (o_113 A P) L L) L) (N (o_94 A P) L L)) (N (o_64 A P) (N (o_83 A P) (N (o_124 A P) L L) L) (N (o_105 A P) L L)))) (N (boot_o_6 P) (N (boot_o_10 P) (N (o_54 A P) (N (o_70 A P) (N (o_111 A P) L L) L) (N (o_92 A P) (N (o_130 A P) L L) L)) (N (o_62 A P) (N (o_81 A P) (N (o_122 A P) L L) L) (N (o_100 A P) L L))) (N (o_46 A P) (N (o_58 A P) (N (o_77 A P) (N (o_115 A P) L L) L) (N (o_96 A P) L L)) (N (o_66 A P) (N (o_85 A P) (N (o_126 A P) L L) L) (N (o_107 A P) L L)))))))
def tree_70 (A : AT) : Params → PySem.W.BT := (fun P => (N (boot_o_0 P) (N (boot_o_1 P) (N (o_49 A P) (N (boot_o_7 P) (N (o_51 A P) (N (o_67 A P) L L) L) (N (o_59 A P) L L)) (N (o_43 A P) (N (o_55 A P) L L) (N (o_63 A P) L L))) (N (boot_o_5 P) (N (boot_o_9 P) (N (o_53 A P) (N (o_69 A P) L L) L) (N (o_61 A P) L L)) (N (o_45 A P) (N (o_57 A P) L L) (N (o_65 A P) L L)))) (N (boot_o_2 P) (N (boot_o_4 P) (N (boot_o_8 P) (N (o_52 A P) (N (o_68 A P) L L) L) (N (o_60 A P) L L)) (N (o_50 A P) (N (o_56 A P) L L) (N (o_64 A P) L L))) (N (boot_o_6 P) (N (boot_o_10 P) (N (o_54 A P) (N (o_70 A P) L L) L) (N (o_62 A P) L L)) (N (o_46 A P) (N (o_58 A P) L L) (N (o_66 A P) L L))))))
def tree_197 (A : AT) : Params → PySem.W.BT := (fun P => (N (boot_o_0 P) (N (boot_o_1 P) (N (o_154 A P) (N (boot_o_7 P) (N (o_51 A P) (N (o_156 A P) (N (o_108 A P) (N (o_181 A P) L L) L) (N (o_146 A P) L L)) (N (o_89 A P) (N (o_127 A P) (N (o_197 A P) L L) L) (N (o_165 A P) L L))) (N (o_59 A P) (N (o_78 A P) (N (o_119 A P) (N (o_189 A P) L L) L) (N (o_157 A P) L L)) (N (o_97 A P) (N (o_138 A P) L L) (N (o_173 A P) L L)))) (N (o_43 A P) (N (o_55 A P) (N (o_74 A P) (N (o_112 A P) (N (o_185 A P) L L) L) (N (o_150 A P) L L)) (N (o_93 A P) (N (o_134 A P) L L) (N (o_169 A P) L L))) (N (o_63 A P) (N (o_82 A P) (N (o_123 A P) (N (o_193 A P) L L) L) (N (o_161 A P) L L)) (N (o_104 A P) (N (o_142 A P) L L) (N (o_177 A P) L L))))) (N (boot_o_5 P) (N (boot_o_9 P) (N (o_53 A P) (N (o_69 A P) (N (o_110 A P) (N (o_183 A P) L L) L) (N (o_148 A P) L L)) (N (o_91 A P) (N (o_129 A P) L L) (N (o_167 A P) L L))) (N (o_61 A P) (N (o_80 A P) (N (o_121 A P) (N (o_191 A P) L L) L) (N (o_159 A P) L L)) (N (o_99 A P) (N (o_140 A P) L L) (N (o_175 A P) L L)))) (N (o_45 A P) (N (o_57 A P) (N (o_76 A P) (N (o_114 A P) (N (o_187 A P) L L) L) (N (o_152 A P) L L)) (N (o_95 A P) (N (o_136 A P) L L) (N (o_171 A P) L L))) (N (o_65 A P) (N (o_84 A P) (N (o_125 A P) (N (o_195 A P) L L) L) (N (o_163 A P) L L)) (N (o_106 A P) (N (o_144 A P) L L) (N (o_179 A P) L L)))))) (N (boot_o_2 P) (N (boot_o_4 P) (N (boot_o_8 P) (N (o_52 A P) (N (o_68 A P) (N (o_109 A P) (N (o_182 A P) L L) L) (N (o_147 A P) L L)) (N (o_90 A P) (N (o_128 A P) L L) (N (o_166 A P) L L))) (N (o_60 A P) (N (o_79 A P) (N (o_120 A P) (N (o_190 A P) L L) L) (N (o_158 A P) L L)) (N (o_98 A P) (N (o_139 A P) L L) (N (o_174 A P) L L)))) (N (o_155 A P) (N (o_56 A P) (N (o_75 A P) (N (o_113 A P) (N (o_186 A P) L L) L) (N (o_151 A P) L L)) (N (o_94 A P) (N (o_135 A P) L L) (N (o_170 A P) L L))) (N (o_64 A P) (N (o_83 A P) (N (o_124 A P) (N (o_194 A P) L L) L) (N (o_162 A P) L L)) (N (o_105 A P) (N (o_143 A P) L L) (N (o_178 A P) L L))))) (N (boot_o_6 P) (N (boot_o_10 P) (N (o_54 A P) (N (o_70 A P) (N (o_111 A P) (N (o_184 A P) L L) L) (N (o_149 A P) L L)) (N (o_92 A P) (N (o_130 A P) L L) (N (o_168 A P) L L))) (N (o_62 A P) (N (o_81 A P) (N (o_122 A P) (N (o_192 A P) L L) L) (N (o_160 A P) L L)) (N (o_100 A P) (N (o_141 A P) L L) (N (o_176 A P) L L)))) (N (o_46 A P) (N (o_58 A P) (N (o_77 A P) (N (o_115 A P) (N (o_188 A P) L L) L) (N (o_153 A P) L L)) (N (o_96 A P) (N (o_137 A P) L L) (N (o_172 A P) L L))) (N (o_66 A P) (N (o_85 A P) (N (o_126 A P) (N (o_196 A P) L L) L) (N (o_164 A P) L L)) (N (o_107 A P) (N (o_145 A P) L L) (N (o_180 A P) L L))))))))
end
theorem trig : (PySem.Challenge.pw_bellsaway_k12_lines_made.main.body.length == 0) = (PySem.Challenge.pw_bellsaway_k12_lines_made.main.body.length == 0) := rfl
theorem trig2 : (!(PySem.Challenge.pw_bellsaway_k12_lines_made.main.body.length == 0)) = true := by k_qdec
def a0 : List Str := [Str.ofString "thing", Str.ofString "least", Str.ofString "most", Str.ofString "is_name", Str.ofString "bellsaway.happenings", Str.ofString "minute", Str.ofString "_law_roads", Str.ofString "/claim/cut.py", Str.ofString "__module__", Str.ofString "bellsaway.ways", Str.ofString "__firstlineno__", Str.ofString "__static_attributes__", Str.ofString "__dict__", Str.ofString "__weakref__", Str.ofString "__doc__", Str.ofString "__qualname__", Str.ofString "Way", Str.ofString "Now", Str.ofString "bellsaway.errors", Str.ofString "__init__", Str.ofString "__name__", Str.ofString "bellsaway.fits", Str.ofString "__package__", Str.ofString "__loader__", Str.ofString "__spec__", Str.ofString "__annotations__", Str.ofString "__builtins__", Str.ofString "__file__", Str.ofString "__cached__", Str.ofString "_wall", Str.ofString "BellError", Str.ofString "NoClock", Str.ofString "NoHappening", Str.ofString "NoFit", Str.ofString "NoWish", Str.ofString "NoRoad", Str.ofString "NoText", Str.ofString "is_whole", Str.ofString "is_whole_between", Str.ofString "is_whole_from", Str.ofString "MINUTES_OF_HOUR", Str.ofString "MINUTES_OF_DAY", Str.ofString "is_minute_of_day", Str.ofString "check_minute_of_hour", Str.ofString "check_minute_of_day", Str.ofString "LETTERS", Str.ofString "abcdefghijklmnopqrstuvwxyz", Str.ofString "MOST_LETTERS", Str.ofString "are_unlike_names", Str.ofString "Fit", Str.ofString "is_gathered", Str.ofString "Hour.is_gathered", Str.ofString "NoRoad.__init__", Str.ofString "bellsaway.wholes", Str.ofString "Never", Str.ofString "Day.__init__", Str.ofString "bellsaway.wishes", Str.ofString "Line", Str.ofString "road", Str.ofString "Line.__init__", Str.ofString "moment_from", Str.ofString "Day.moment_from", Str.ofString "law", Str.ofString "_law_odd_line", Str.ofString "law_bellsaway_k12_lines_made", Str.ofString "check_by_way", Str.ofString "_law_line", Str.ofString "_law_weight", Str.ofString "_law_roads_here", Str.ofString "_law_sure", Str.ofString "_law_raised", Str.ofString "_law_found", Str.ofString "note_turns", Str.ofString "Least.note_turns", Str.ofString "self", Str.ofString "Never.moment_from", Str.ofString "_law_begin", Str.ofString "weight_bits", Str.ofString "Least.weight_bits", Str.ofString "_law_parts", Str.ofString "_law_at", Str.ofString "_law_thing", Str.ofString "Hour.moment_from", Str.ofString "Least.__init__", Str.ofString "minutes", Str.ofString "times", Str.ofString "to", Str.ofString "bellsaway.clocks", Str.ofString "Raised.__init__", Str.ofString "_law_odd_raised", Str.ofString "Day", Str.ofString "Least", Str.ofString "Hour", Str.ofString "Raised", Str.ofString "moment", Str.ofString "zone", Str.ofString "NoText.__init__", Str.ofString "_law_refused", Str.ofString "kinds", Str.ofString "places", Str.ofString "weights", Str.ofString "_law_cell_at", Str.ofString "__main__", Str.ofString "_law_name", Str.ofString "_law_script", Str.ofString "_law_k", Str.ofString "_law_line_right", Str.ofString "Never.is_gathered", Str.ofString "fits_it", Str.ofString "<module>", Str.ofString "_law_put", Str.ofString "Hour.__init__", Str.ofString "Least.fits_it", Str.ofString "Now.is_gathered", Str.ofString "_law_next", Str.ofString "Day.is_gathered", Str.ofString "_law_state", Str.ofString "_law_base", Str.ofString "_law_number", Str.ofString "way", Str.ofString "roads", Str.ofString "sure", Str.ofString "raised", Str.ofString "happening", Str.ofString "_law_word", Str.ofString "e", Str.ofString "_law_other", Str.ofString "line", Str.ofString "_law_name_here", Str.ofString "weight", Str.ofString "Now.moment_from", Str.ofString "kind", Str.ofString "place", Str.ofString "from_weight", Str.ofString "fit", Str.ofString "_law_cell", Str.ofString "_law_minutes", Str.ofString "_law_times", Str.ofString "_law_to", Str.ofString "_law_bare", Str.ofString "_law_fit", Str.ofString "_law_way", Str.ofString "_law_handed", Str.ofString "_law_odd", Str.ofString "_law_more", Str.ofString "bellsaway.words", Str.ofString "k"]
def a1 : List Str := [⟨⟨[116, 104, 105, 110, 103]⟩⟩, ⟨⟨[108, 101, 97, 115, 116]⟩⟩, ⟨⟨[109, 111, 115, 116]⟩⟩, ⟨⟨[105, 115, 95, 110, 97, 109, 101]⟩⟩, ⟨⟨[98, 101, 108, 108, 115, 97, 119, 97, 121, 46, 104, 97, 112, 112, 101, 110, 105, 110, 103, 115]⟩⟩, ⟨⟨[109, 105, 110, 117, 116, 101]⟩⟩, ⟨⟨[95, 108, 97, 119, 95, 114, 111, 97, 100, 115]⟩⟩, ⟨⟨[47, 99, 108, 97, 105, 109, 47, 99, 117, 116, 46, 112, 121]⟩⟩, ⟨⟨[95, 95, 109, 111, 100, 117, 108, 101, 95, 95]⟩⟩, ⟨⟨[98, 101, 108, 108, 115, 97, 119, 97, 121, 46, 119, 97, 121, 115]⟩⟩, ⟨⟨[95, 95, 102, 105, 114, 115, 116, 108, 105, 110, 101, 110, 111, 95, 95]⟩⟩, ⟨⟨[95, 95, 115, 116, 97, 116, 105, 99, 95, 97, 116, 116, 114, 105, 98, 117, 116, 101, 115, 95, 95]⟩⟩, ⟨⟨[95, 95, 100, 105, 99, 116, 95, 95]⟩⟩, ⟨⟨[95, 95, 119, 101, 97, 107, 114, 101, 102, 95, 95]⟩⟩, ⟨⟨[95, 95, 100, 111, 99, 95, 95]⟩⟩, ⟨⟨[95, 95, 113, 117, 97, 108, 110, 97, 109, 101, 95, 95]⟩⟩, ⟨⟨[87, 97, 121]⟩⟩, ⟨⟨[78, 111, 119]⟩⟩, ⟨⟨[98, 101, 108, 108, 115, 97, 119, 97, 121, 46, 101, 114, 114, 111, 114, 115]⟩⟩, ⟨⟨[95, 95, 105, 110, 105, 116, 95, 95]⟩⟩, ⟨⟨[95, 95, 110, 97, 109, 101, 95, 95]⟩⟩, ⟨⟨[98, 101, 108, 108, 115, 97, 119, 97, 121, 46, 102, 105, 116, 115]⟩⟩, ⟨⟨[95, 95, 112, 97, 99, 107, 97, 103, 101, 95, 95]⟩⟩, ⟨⟨[95, 95, 108, 111, 97, 100, 101, 114, 95, 95]⟩⟩, ⟨⟨[95, 95, 115, 112, 101, 99, 95, 95]⟩⟩, ⟨⟨[95, 95, 97, 110, 110, 111, 116, 97, 116, 105, 111, 110, 115, 95, 95]⟩⟩, ⟨⟨[95, 95, 98, 117, 105, 108, 116, 105, 110, 115, 95, 95]⟩⟩, ⟨⟨[95, 95, 102, 105, 108, 101, 95, 95]⟩⟩, ⟨⟨[95, 95, 99, 97, 99, 104, 101, 100, 95, 95]⟩⟩, ⟨⟨[95, 119, 97, 108, 108]⟩⟩, ⟨⟨[66, 101, 108, 108, 69, 114, 114, 111, 114]⟩⟩, ⟨⟨[78, 111, 67, 108, 111, 99, 107]⟩⟩, ⟨⟨[78, 111, 72, 97, 112, 112, 101, 110, 105, 110, 103]⟩⟩, ⟨⟨[78, 111, 70, 105, 116]⟩⟩, ⟨⟨[78, 111, 87, 105, 115, 104]⟩⟩, ⟨⟨[78, 111, 82, 111, 97, 100]⟩⟩, ⟨⟨[78, 111, 84, 101, 120, 116]⟩⟩, ⟨⟨[105, 115, 95, 119, 104, 111, 108, 101]⟩⟩, ⟨⟨[105, 115, 95, 119, 104, 111, 108, 101, 95, 98, 101, 116, 119, 101, 101, 110]⟩⟩, ⟨⟨[105, 115, 95, 119, 104, 111, 108, 101, 95, 102, 114, 111, 109]⟩⟩, ⟨⟨[77, 73, 78, 85, 84, 69, 83, 95, 79, 70, 95, 72, 79, 85, 82]⟩⟩, ⟨⟨[77, 73, 78, 85, 84, 69, 83, 95, 79, 70, 95, 68, 65, 89]⟩⟩, ⟨⟨[105, 115, 95, 109, 105, 110, 117, 116, 101, 95, 111, 102, 95, 100, 97, 121]⟩⟩, ⟨⟨[99, 104, 101, 99, 107, 95, 109, 105, 110, 117, 116, 101, 95, 111, 102, 95, 104, 111, 117, 114]⟩⟩, ⟨⟨[99, 104, 101, 99, 107, 95, 109, 105, 110, 117, 116, 101, 95, 111, 102, 95, 100, 97, 121]⟩⟩, ⟨⟨[76, 69, 84, 84, 69, 82, 83]⟩⟩, ⟨⟨[97, 98, 99, 100, 101, 102, 103, 104, 105, 106, 107, 108, 109, 110, 111, 112, 113, 114, 115, 116, 117, 118, 119, 120, 121, 122]⟩⟩, ⟨⟨[77, 79, 83, 84, 95, 76, 69, 84, 84, 69, 82, 83]⟩⟩, ⟨⟨[97, 114, 101, 95, 117, 110, 108, 105, 107, 101, 95, 110, 97, 109, 101, 115]⟩⟩, ⟨⟨[70, 105, 116]⟩⟩, ⟨⟨[105, 115, 95, 103, 97, 116, 104, 101, 114, 101, 100]⟩⟩, ⟨⟨[72, 111, 117, 114, 46, 105, 115, 95, 103, 97, 116, 104, 101, 114, 101, 100]⟩⟩, ⟨⟨[78, 111, 82, 111, 97, 100, 46, 95, 95, 105, 110, 105, 116, 95, 95]⟩⟩, ⟨⟨[98, 101, 108, 108, 115, 97, 119, 97, 121, 46, 119, 104, 111, 108, 101, 115]⟩⟩, ⟨⟨[78, 101, 118, 101, 114]⟩⟩, ⟨⟨[68, 97, 121, 46, 95, 95, 105, 110, 105, 116, 95, 95]⟩⟩, ⟨⟨[98, 101, 108, 108, 115, 97, 119, 97, 121, 46, 119, 105, 115, 104, 101, 115]⟩⟩, ⟨⟨[76, 105, 110, 101]⟩⟩, ⟨⟨[114, 111, 97, 100]⟩⟩, ⟨⟨[76, 105, 110, 101, 46, 95, 95, 105, 110, 105, 116, 95, 95]⟩⟩, ⟨⟨[109, 111, 109, 101, 110, 116, 95, 102, 114, 111, 109]⟩⟩, ⟨⟨[68, 97, 121, 46, 109, 111, 109, 101, 110, 116, 95, 102, 114, 111, 109]⟩⟩, ⟨⟨[108, 97, 119]⟩⟩, ⟨⟨[95, 108, 97, 119, 95, 111, 100, 100, 95, 108, 105, 110, 101]⟩⟩, ⟨⟨[108, 97, 119, 95, 98, 101, 108, 108, 115, 97, 119, 97, 121, 95, 107, 49, 50, 95, 108, 105, 110, 101, 115, 95, 109, 97, 100, 101]⟩⟩, ⟨⟨[99, 104, 101, 99, 107, 95, 98, 121, 95, 119, 97, 121]⟩⟩, ⟨⟨[95, 108, 97, 119, 95, 108, 105, 110, 101]⟩⟩, ⟨⟨[95, 108, 97, 119, 95, 119, 101, 105, 103, 104, 116]⟩⟩, ⟨⟨[95, 108, 97, 119, 95, 114, 111, 97, 100, 115, 95, 104, 101, 114, 101]⟩⟩, ⟨⟨[95, 108, 97, 119, 95, 115, 117, 114, 101]⟩⟩, ⟨⟨[95, 108, 97, 119, 95, 114, 97, 105, 115, 101, 100]⟩⟩, ⟨⟨[95, 108, 97, 119, 95, 102, 111, 117, 110, 100]⟩⟩, ⟨⟨[110, 111, 116, 101, 95, 116, 117, 114, 110, 115]⟩⟩, ⟨⟨[76, 101, 97, 115, 116, 46, 110, 111, 116, 101, 95, 116, 117, 114, 110, 115]⟩⟩, ⟨⟨[115, 101, 108, 102]⟩⟩, ⟨⟨[78, 101, 118, 101, 114, 46, 109, 111, 109, 101, 110, 116, 95, 102, 114, 111, 109]⟩⟩, ⟨⟨[95, 108, 97, 119, 95, 98, 101, 103, 105, 110]⟩⟩, ⟨⟨[119, 101, 105, 103, 104, 116, 95, 98, 105, 116, 115]⟩⟩, ⟨⟨[76, 101, 97, 115, 116, 46, 119, 101, 105, 103, 104, 116, 95, 98, 105, 116, 115]⟩⟩, ⟨⟨[95, 108, 97, 119, 95, 112, 97, 114, 116, 115]⟩⟩, ⟨⟨[95, 108, 97, 119, 95, 97, 116]⟩⟩, ⟨⟨[95, 108, 97, 119, 95, 116, 104, 105, 110, 103]⟩⟩, ⟨⟨[72, 111, 117, 114, 46, 109, 111, 109, 101, 110, 116, 95, 102, 114, 111, 109]⟩⟩, ⟨⟨[76, 101, 97, 115, 116, 46, 95, 95, 105, 110, 105, 116, 95, 95]⟩⟩, ⟨⟨[109, 105, 110, 117, 116, 101, 115]⟩⟩, ⟨⟨[116, 105, 109, 101, 115]⟩⟩, ⟨⟨[116, 111]⟩⟩, ⟨⟨[98, 101, 108, 108, 115, 97, 119, 97, 121, 46, 99, 108, 111, 99, 107, 115]⟩⟩, ⟨⟨[82, 97, 105, 115, 101, 100, 46, 95, 95, 105, 110, 105, 116, 95, 95]⟩⟩, ⟨⟨[95, 108, 97, 119, 95, 111, 100, 100, 95, 114, 97, 105, 115, 101, 100]⟩⟩, ⟨⟨[68, 97, 121]⟩⟩, ⟨⟨[76, 101, 97, 115, 116]⟩⟩, ⟨⟨[72, 111, 117, 114]⟩⟩, ⟨⟨[82, 97, 105, 115, 101, 100]⟩⟩, ⟨⟨[109, 111, 109, 101, 110, 116]⟩⟩, ⟨⟨[122, 111, 110, 101]⟩⟩, ⟨⟨[78, 111, 84, 101, 120, 116, 46, 95, 95, 105, 110, 105, 116, 95, 95]⟩⟩, ⟨⟨[95, 108, 97, 119, 95, 114, 101, 102, 117, 115, 101, 100]⟩⟩, ⟨⟨[107, 105, 110, 100, 115]⟩⟩, ⟨⟨[112, 108, 97, 99, 101, 115]⟩⟩, ⟨⟨[119, 101, 105, 103, 104, 116, 115]⟩⟩, ⟨⟨[95, 108, 97, 119, 95, 99, 101, 108, 108, 95, 97, 116]⟩⟩, ⟨⟨[95, 95, 109, 97, 105, 110, 95, 95]⟩⟩, ⟨⟨[95, 108, 97, 119, 95, 110, 97, 109, 101]⟩⟩, ⟨⟨[95, 108, 97, 119, 95, 115, 99, 114, 105, 112, 116]⟩⟩, ⟨⟨[95, 108, 97, 119, 95, 107]⟩⟩, ⟨⟨[95, 108, 97, 119, 95, 108, 105, 110, 101, 95, 114, 105, 103, 104, 116]⟩⟩, ⟨⟨[78, 101, 118, 101, 114, 46, 105, 115, 95, 103, 97, 116, 104, 101, 114, 101, 100]⟩⟩, ⟨⟨[102, 105, 116, 115, 95, 105, 116]⟩⟩, ⟨⟨[60, 109, 111, 100, 117, 108, 101, 62]⟩⟩, ⟨⟨[95, 108, 97, 119, 95, 112, 117, 116]⟩⟩, ⟨⟨[72, 111, 117, 114, 46, 95, 95, 105, 110, 105, 116, 95, 95]⟩⟩, ⟨⟨[76, 101, 97, 115, 116, 46, 102, 105, 116, 115, 95, 105, 116]⟩⟩, ⟨⟨[78, 111, 119, 46, 105, 115, 95, 103, 97, 116, 104, 101, 114, 101, 100]⟩⟩, ⟨⟨[95, 108, 97, 119, 95, 110, 101, 120, 116]⟩⟩, ⟨⟨[68, 97, 121, 46, 105, 115, 95, 103, 97, 116, 104, 101, 114, 101, 100]⟩⟩, ⟨⟨[95, 108, 97, 119, 95, 115, 116, 97, 116, 101]⟩⟩, ⟨⟨[95, 108, 97, 119, 95, 98, 97, 115, 101]⟩⟩, ⟨⟨[95, 108, 97, 119, 95, 110, 117, 109, 98, 101, 114]⟩⟩, ⟨⟨[119, 97, 121]⟩⟩, ⟨⟨[114, 111, 97, 100, 115]⟩⟩, ⟨⟨[115, 117, 114, 101]⟩⟩, ⟨⟨[114, 97, 105, 115, 101, 100]⟩⟩, ⟨⟨[104, 97, 112, 112, 101, 110, 105, 110, 103]⟩⟩, ⟨⟨[95, 108, 97, 119, 95, 119, 111, 114, 100]⟩⟩, ⟨⟨[101]⟩⟩, ⟨⟨[95, 108, 97, 119, 95, 111, 116, 104, 101, 114]⟩⟩, ⟨⟨[108, 105, 110, 101]⟩⟩, ⟨⟨[95, 108, 97, 119, 95, 110, 97, 109, 101, 95, 104, 101, 114, 101]⟩⟩, ⟨⟨[119, 101, 105, 103, 104, 116]⟩⟩, ⟨⟨[78, 111, 119, 46, 109, 111, 109, 101, 110, 116, 95, 102, 114, 111, 109]⟩⟩, ⟨⟨[107, 105, 110, 100]⟩⟩, ⟨⟨[112, 108, 97, 99, 101]⟩⟩, ⟨⟨[102, 114, 111, 109, 95, 119, 101, 105, 103, 104, 116]⟩⟩, ⟨⟨[102, 105, 116]⟩⟩, ⟨⟨[95, 108, 97, 119, 95, 99, 101, 108, 108]⟩⟩, ⟨⟨[95, 108, 97, 119, 95, 109, 105, 110, 117, 116, 101, 115]⟩⟩, ⟨⟨[95, 108, 97, 119, 95, 116, 105, 109, 101, 115]⟩⟩, ⟨⟨[95, 108, 97, 119, 95, 116, 111]⟩⟩, ⟨⟨[95, 108, 97, 119, 95, 98, 97, 114, 101]⟩⟩, ⟨⟨[95, 108, 97, 119, 95, 102, 105, 116]⟩⟩, ⟨⟨[95, 108, 97, 119, 95, 119, 97, 121]⟩⟩, ⟨⟨[95, 108, 97, 119, 95, 104, 97, 110, 100, 101, 100]⟩⟩, ⟨⟨[95, 108, 97, 119, 95, 111, 100, 100]⟩⟩, ⟨⟨[95, 108, 97, 119, 95, 109, 111, 114, 101]⟩⟩, ⟨⟨[98, 101, 108, 108, 115, 97, 119, 97, 121, 46, 119, 111, 114, 100, 115]⟩⟩, ⟨⟨[107]⟩⟩]
def t0 : List String := ["tuple", "function", "code", "dict", "frame", "builtin_function_or_method", "type.__prepare__", "type", "__main__.__loader__#opaque", "ValueError", "Exception", "BaseException", "object", "ValueError.__new__", "object.__new__", "super", "object.__init_subclass__", "getset_descriptor", "ExceptionGroup.__weakref__", "function.__dict__", "function.__dict__#set"]
noncomputable def t1 : List String := [PySem.W.SL.s2766695959194262286x5, PySem.W.SL.s7174869446012820540x8, PySem.W.SL.s5856160107412720595x4, PySem.W.SL.s14018661285674007319x4, PySem.W.SL.s658472552662922059x5, PySem.W.SL.s11030030927630378310x26, PySem.W.SL.s10062305145149207511x16, PySem.W.SL.s17162191345867700912x4, PySem.W.SL.s7097527257260152453x26, PySem.W.SL.s6070975301684473832x10, PySem.W.SL.s5946037652744460706x9, PySem.W.SL.s4278001404047624695x13, PySem.W.SL.s2742458400755230247x6, PySem.W.SL.s4209523147560561109x18, PySem.W.SL.s11443829558043349243x14, PySem.W.SL.s4290257624100764138x5, PySem.W.SL.s4860613602091757760x24, PySem.W.SL.s14755015743595814543x17, PySem.W.SL.s10220274742760427390x26, PySem.W.SL.s6511155373996960695x17, PySem.W.SL.s12411053484034534018x21]
theorem cc {α : Type} {x y : α} {l m : List α} (h : x = y) (k : l = m) : x :: l = y :: m := by rw [h, k]
theorem ea : a0 = a1 := (cc (by kernel_rfl) (cc (by kernel_rfl) (cc (by kernel_rfl) (cc (by kernel_rfl) (cc (by kernel_rfl) (cc (by kernel_rfl) (cc (by kernel_rfl) (cc (by kernel_rfl) (cc (by kernel_rfl) (cc (by kernel_rfl) (cc (by kernel_rfl) (cc (by kernel_rfl) (cc (by kernel_rfl) (cc (by kernel_rfl) (cc (by kernel_rfl) (cc (by kernel_rfl) (cc (by kernel_rfl) (cc (by kernel_rfl) (cc (by kernel_rfl) (cc (by kernel_rfl) (cc (by kernel_rfl) (cc (by kernel_rfl) (cc (by kernel_rfl) (cc (by kernel_rfl) (cc (by kernel_rfl) (cc (by kernel_rfl) (cc (by kernel_rfl) (cc (by kernel_rfl) (cc (by kernel_rfl) (cc (by kernel_rfl) (cc (by kernel_rfl) (cc (by kernel_rfl) (cc (by kernel_rfl) (cc (by kernel_rfl) (cc (by kernel_rfl) (cc (by kernel_rfl) (cc (by kernel_rfl) (cc (by kernel_rfl) (cc (by kernel_rfl) (cc (by kernel_rfl) (cc (by kernel_rfl) (cc (by kernel_rfl) (cc (by kernel_rfl) (cc (by kernel_rfl) (cc (by kernel_rfl) (cc (by kernel_rfl) (cc (by kernel_rfl) (cc (by kernel_rfl) (cc (by kernel_rfl) (cc (by kernel_rfl) (cc (by kernel_rfl) (cc (by kernel_rfl) (cc (by kernel_rfl) (cc (by kernel_rfl) (cc (by kernel_rfl) (cc (by kernel_rfl) (cc (by kernel_rfl) (cc (by kernel_rfl) (cc (by kernel_rfl) (cc (by kernel_rfl) (cc (by kernel_rfl) (cc (by kernel_rfl) (cc (by kernel_rfl) (cc (by kernel_rfl) (cc (by kernel_rfl) (cc (by kernel_rfl) (cc (by kernel_rfl) (cc (by kernel_rfl) (cc (by kernel_rfl) (cc (by kernel_rfl) (cc (by kernel_rfl) (cc (by kernel_rfl) (cc (by kernel_rfl) (cc (by kernel_rfl) (cc (by kernel_rfl) (cc (by kernel_rfl) (cc (by kernel_rfl) (cc (by kernel_rfl) (cc (by kernel_rfl) (cc (by kernel_rfl) (cc (by kernel_rfl) (cc (by kernel_rfl) (cc (by kernel_rfl) (cc (by kernel_rfl) (cc (by kernel_rfl) (cc (by kernel_rfl) (cc (by kernel_rfl) (cc (by kernel_rfl) (cc (by kernel_rfl) (cc (by kernel_rfl) (cc (by kernel_rfl) (cc (by kernel_rfl) (cc (by kernel_rfl) (cc (by kernel_rfl) (cc (by kernel_rfl) (cc (by kernel_rfl) (cc (by kernel_rfl) (cc (by kernel_rfl) (cc (by kernel_rfl) (cc (by kernel_rfl) (cc (by kernel_rfl) (cc (by kernel_rfl) (cc (by kernel_rfl) (cc (by kernel_rfl) (cc (by kernel_rfl) (cc (by kernel_rfl) (cc (by kernel_rfl) (cc (by kernel_rfl) (cc (by kernel_rfl) (cc (by kernel_rfl) (cc (by kernel_rfl) (cc (by kernel_rfl) (cc (by kernel_rfl) (cc (by kernel_rfl) (cc (by kernel_rfl) (cc (by kernel_rfl) (cc (by kernel_rfl) (cc (by kernel_rfl) (cc (by kernel_rfl) (cc (by kernel_rfl) (cc (by kernel_rfl) (cc (by kernel_rfl) (cc (by kernel_rfl) (cc (by kernel_rfl) (cc (by kernel_rfl) (cc (by kernel_rfl) (cc (by kernel_rfl) (cc (by kernel_rfl) (cc (by kernel_rfl) (cc (by kernel_rfl) (cc (by kernel_rfl) (cc (by kernel_rfl) (cc (by kernel_rfl) (cc (by kernel_rfl) (cc (by kernel_rfl) (cc (by kernel_rfl) (cc (by kernel_rfl) (cc (by kernel_rfl) (cc (by kernel_rfl) (cc (by kernel_rfl) (cc (by kernel_rfl) (cc (by kernel_rfl) (cc (by kernel_rfl) (cc (by kernel_rfl) (cc (by kernel_rfl) (cc (by kernel_rfl) (cc (by kernel_rfl) rfl)))))))))))))))))))))))))))))))))))))))))))))))))))))))))))))))))))))))))))))))))))))))))))))))))))))))))))))))))))))))))))))))))))))))))))))))))))
theorem et : t0 = t1 := (cc PySem.W.SL.e2766695959194262286x5 (cc PySem.W.SL.e7174869446012820540x8 (cc PySem.W.SL.e5856160107412720595x4 (cc PySem.W.SL.e14018661285674007319x4 (cc PySem.W.SL.e658472552662922059x5 (cc PySem.W.SL.e11030030927630378310x26 (cc PySem.W.SL.e10062305145149207511x16 (cc PySem.W.SL.e17162191345867700912x4 (cc PySem.W.SL.e7097527257260152453x26 (cc PySem.W.SL.e6070975301684473832x10 (cc PySem.W.SL.e5946037652744460706x9 (cc PySem.W.SL.e4278001404047624695x13 (cc PySem.W.SL.e2742458400755230247x6 (cc PySem.W.SL.e4209523147560561109x18 (cc PySem.W.SL.e11443829558043349243x14 (cc PySem.W.SL.e4290257624100764138x5 (cc PySem.W.SL.e4860613602091757760x24 (cc PySem.W.SL.e14755015743595814543x17 (cc PySem.W.SL.e10220274742760427390x26 (cc PySem.W.SL.e6511155373996960695x17 (cc PySem.W.SL.e12411053484034534018x21 rfl)))))))))))))))))))))
noncomputable def A0 : AT := ⟨PySem.Challenge.pw_bellsaway_k12_lines_made, a0, t0⟩
noncomputable def B0 : AT := ⟨PySem.W.Fast.tw6649943699245154583, a1, t1⟩
theorem ab : A0 = B0 := by
  unfold A0 B0
  rw [ea, et, PySem.W.Fast.te6649943699245154583]
end Hd
noncomputable def PySem.W.Fast.tw17263008827020034656 : PySem.Params → PySem.W.BT := Hd.tree_47 Hd.B0
theorem PySem.W.Fast.te17263008827020034656 : Hd.tree_47 Hd.A0 = PySem.W.Fast.tw17263008827020034656 := congrArg Hd.tree_47 Hd.ab
noncomputable def PySem.W.Fast.tw3809760847522791522 : PySem.Params → PySem.Heap := Hd.heap_46 Hd.B0
theorem PySem.W.Fast.te3809760847522791522 : Hd.heap_46 Hd.A0 = PySem.W.Fast.tw3809760847522791522 := congrArg Hd.heap_46 Hd.ab
noncomputable def PySem.W.Fast.tw15777900335425626371 : PySem.Params → PySem.Heap := Hd.heap_562 Hd.B0
theorem PySem.W.Fast.te15777900335425626371 : Hd.heap_562 Hd.A0 = PySem.W.Fast.tw15777900335425626371 := congrArg Hd.heap_562 Hd.ab
noncomputable def PySem.W.Fast.tw7526843025026403206 : PySem.Params → PySem.W.BT := Hd.tree_244 Hd.B0
theorem PySem.W.Fast.te7526843025026403206 : Hd.tree_244 Hd.A0 = PySem.W.Fast.tw7526843025026403206 := congrArg Hd.tree_244 Hd.ab
noncomputable def PySem.W.Fast.tw4056304484686437287 : PySem.Params → PySem.W.BT := Hd.tree_368 Hd.B0
theorem PySem.W.Fast.te4056304484686437287 : Hd.tree_368 Hd.A0 = PySem.W.Fast.tw4056304484686437287 := congrArg Hd.tree_368 Hd.ab
noncomputable def PySem.W.Fast.tw8749664444534384008 : PySem.Params → PySem.W.BT := Hd.tree_287 Hd.B0
theorem PySem.W.Fast.te8749664444534384008 : Hd.tree_287 Hd.A0 = PySem.W.Fast.tw8749664444534384008 := congrArg Hd.tree_287 Hd.ab
noncomputable def PySem.W.Fast.tw13518146504658564811 : PySem.Params → PySem.W.BT := Hd.tree_115 Hd.B0
theorem PySem.W.Fast.te13518146504658564811 : Hd.tree_115 Hd.A0 = PySem.W.Fast.tw13518146504658564811 := congrArg Hd.tree_115 Hd.ab
noncomputable def PySem.W.Fast.tw17718128943326745165 : PySem.Params → PySem.W.BT := Hd.tree_303 Hd.B0
theorem PySem.W.Fast.te17718128943326745165 : Hd.tree_303 Hd.A0 = PySem.W.Fast.tw17718128943326745165 := congrArg Hd.tree_303 Hd.ab
noncomputable def PySem.W.Fast.tw8565052073276126799 : PySem.Params → PySem.W.BT := Hd.tree_457 Hd.B0
theorem PySem.W.Fast.te8565052073276126799 : Hd.tree_457 Hd.A0 = PySem.W.Fast.tw8565052073276126799 := congrArg Hd.tree_457 Hd.ab
noncomputable def PySem.W.Fast.tw15747438001769273488 : PySem.Params → PySem.W.BT := Hd.tree_100 Hd.B0
theorem PySem.W.Fast.te15747438001769273488 : Hd.tree_100 Hd.A0 = PySem.W.Fast.tw15747438001769273488 := congrArg Hd.tree_100 Hd.ab
noncomputable def PySem.W.Fast.tw3056565535139942643 : PySem.Params → PySem.W.BT := Hd.tree_404 Hd.B0
theorem PySem.W.Fast.te3056565535139942643 : Hd.tree_404 Hd.A0 = PySem.W.Fast.tw3056565535139942643 := congrArg Hd.tree_404 Hd.ab
noncomputable def PySem.W.Fast.tw16728918713386364755 : PySem.Params → PySem.W.BT := Hd.tree_85 Hd.B0
theorem PySem.W.Fast.te16728918713386364755 : Hd.tree_85 Hd.A0 = PySem.W.Fast.tw16728918713386364755 := congrArg Hd.tree_85 Hd.ab
noncomputable def PySem.W.Fast.tw3015385591651303476 : PySem.Params → PySem.W.BT := Hd.tree_153 Hd.B0
theorem PySem.W.Fast.te3015385591651303476 : Hd.tree_153 Hd.A0 = PySem.W.Fast.tw3015385591651303476 := congrArg Hd.tree_153 Hd.ab
noncomputable def PySem.W.Fast.tw4474362312786206294 : PySem.Params → PySem.W.BT := Hd.tree_561 Hd.B0
theorem PySem.W.Fast.te4474362312786206294 : Hd.tree_561 Hd.A0 = PySem.W.Fast.tw4474362312786206294 := congrArg Hd.tree_561 Hd.ab
noncomputable def PySem.W.Fast.tw1395251418486637398 : PySem.Params → PySem.W.BT := Hd.tree_332 Hd.B0
theorem PySem.W.Fast.te1395251418486637398 : Hd.tree_332 Hd.A0 = PySem.W.Fast.tw1395251418486637398 := congrArg Hd.tree_332 Hd.ab
noncomputable def PySem.W.Fast.tw3068033564505351671 : PySem.Params → PySem.W.BT := Hd.tree_514 Hd.B0
theorem PySem.W.Fast.te3068033564505351671 : Hd.tree_514 Hd.A0 = PySem.W.Fast.tw3068033564505351671 := congrArg Hd.tree_514 Hd.ab
noncomputable def PySem.W.Fast.tw11279398783818048888 : PySem.Params → PySem.W.BT := Hd.tree_433 Hd.B0
theorem PySem.W.Fast.te11279398783818048888 : Hd.tree_433 Hd.A0 = PySem.W.Fast.tw11279398783818048888 := congrArg Hd.tree_433 Hd.ab
noncomputable def PySem.W.Fast.tw3546177833984087226 : PySem.Params → PySem.W.BT := Hd.tree_130 Hd.B0
theorem PySem.W.Fast.te3546177833984087226 : Hd.tree_130 Hd.A0 = PySem.W.Fast.tw3546177833984087226 := congrArg Hd.tree_130 Hd.ab
noncomputable def PySem.W.Fast.tw13347702497901111582 : PySem.Params → PySem.W.BT := Hd.tree_70 Hd.B0
theorem PySem.W.Fast.te13347702497901111582 : Hd.tree_70 Hd.A0 = PySem.W.Fast.tw13347702497901111582 := congrArg Hd.tree_70 Hd.ab
noncomputable def PySem.W.Fast.tw17712229168169168894 : PySem.Params → PySem.W.BT := Hd.tree_197 Hd.B0
theorem PySem.W.Fast.te17712229168169168894 : Hd.tree_197 Hd.A0 = PySem.W.Fast.tw17712229168169168894 := congrArg Hd.tree_197 Hd.ab
set_option Elab.async false
set_option linter.all false
set_option maxRecDepth 100000
set_option maxHeartbeats 8000000
namespace Bw
open PySem L2
theorem all_mk {l : PySem.W.OpenLaw} {w : World} {K : PySem.W.Frag} {h : Heap} {mg : Str → Option Value} {fa f0 f1 f2 f3 f4 f5 f6 f7 f8 f9 f10 f11 f12 f13 f14 f15 f16 f17 f18 f19 f20 f21 f22 f23 cBellError cNoClock cNoHappening cNoFit cNoWish cNoRoad cNoText cFit cLeast cWay cNow cHour cDay cNever cRaised cLine : Addr} {t0 t1 t2 t3 : Tok} (X : K.In h) (G : h.Ns mainGlobals mg) (hfa : mg "law" = some (.ref fa))
    {od0 an0 : Option Addr} {sl0 : Array (Option Value)} {oc0 kV0 dc0 pm0 cd0 ct0 : Value}
    (a0 : PySem.W.nsIn K mainGlobals "is_whole" = some (some (.ref f0)))
    (l0 : K.lookup f0 = some ⟨oc0, od0, .func (PySem.W.fnOf "is_whole" "is_whole" (defArgs s_is_whole) (defBody s_is_whole) (defScope s_is_whole) .none kV0 dc0 pm0 an0 cd0 ct0), sl0⟩)
    (c0 : PySem.W.codeIn K cd0 "is_whole" = true)
    (k0 : PySem.W.keepIn K (.ref f0) = true)
    {od1 an1 : Option Addr} {sl1 : Array (Option Value)} {oc1 kV1 dc1 pm1 cd1 ct1 : Value}
    (a1 : PySem.W.nsIn K mainGlobals "is_whole_between" = some (some (.ref f1)))
    (l1 : K.lookup f1 = some ⟨oc1, od1, .func (PySem.W.fnOf "is_whole_between" "is_whole_between" (defArgs s_is_whole_between) (defBody s_is_whole_between) (defScope s_is_whole_between) .none kV1 dc1 pm1 an1 cd1 ct1), sl1⟩)
    (c1 : PySem.W.codeIn K cd1 "is_whole_between" = true)
    (k1 : PySem.W.keepIn K (.ref f1) = true)
    {od2 an2 : Option Addr} {sl2 : Array (Option Value)} {oc2 kV2 dc2 pm2 cd2 ct2 : Value}
    (a2 : PySem.W.nsIn K mainGlobals "is_whole_from" = some (some (.ref f2)))
    (l2 : K.lookup f2 = some ⟨oc2, od2, .func (PySem.W.fnOf "is_whole_from" "is_whole_from" (defArgs s_is_whole_from) (defBody s_is_whole_from) (defScope s_is_whole_from) .none kV2 dc2 pm2 an2 cd2 ct2), sl2⟩)
    (c2 : PySem.W.codeIn K cd2 "is_whole_from" = true)
    (k2 : PySem.W.keepIn K (.ref f2) = true)
    {od3 an3 : Option Addr} {sl3 : Array (Option Value)} {oc3 kV3 dc3 pm3 cd3 ct3 : Value}
    (a3 : PySem.W.nsIn K mainGlobals "is_minute_of_day" = some (some (.ref f3)))
    (l3 : K.lookup f3 = some ⟨oc3, od3, .func (PySem.W.fnOf "is_minute_of_day" "is_minute_of_day" (defArgs s_is_minute_of_day) (defBody s_is_minute_of_day) (defScope s_is_minute_of_day) .none kV3 dc3 pm3 an3 cd3 ct3), sl3⟩)
    (c3 : PySem.W.codeIn K cd3 "is_minute_of_day" = true)
    (k3 : PySem.W.keepIn K (.ref f3) = true)
    {od4 an4 : Option Addr} {sl4 : Array (Option Value)} {oc4 kV4 dc4 pm4 cd4 ct4 : Value}
    (a4 : PySem.W.nsIn K mainGlobals "check_minute_of_hour" = some (some (.ref f4)))
    (l4 : K.lookup f4 = some ⟨oc4, od4, .func (PySem.W.fnOf "check_minute_of_hour" "check_minute_of_hour" (defArgs s_check_minute_of_hour) (defBody s_check_minute_of_hour) (defScope s_check_minute_of_hour) .none kV4 dc4 pm4 an4 cd4 ct4), sl4⟩)
    (c4 : PySem.W.codeIn K cd4 "check_minute_of_hour" = true)
    (k4 : PySem.W.keepIn K (.ref f4) = true)
    {od5 an5 : Option Addr} {sl5 : Array (Option Value)} {oc5 kV5 dc5 pm5 cd5 ct5 : Value}
    (a5 : PySem.W.nsIn K mainGlobals "check_minute_of_day" = some (some (.ref f5)))
    (l5 : K.lookup f5 = some ⟨oc5, od5, .func (PySem.W.fnOf "check_minute_of_day" "check_minute_of_day" (defArgs s_check_minute_of_day) (defBody s_check_minute_of_day) (defScope s_check_minute_of_day) .none kV5 dc5 pm5 an5 cd5 ct5), sl5⟩)
    (c5 : PySem.W.codeIn K cd5 "check_minute_of_day" = true)
    (k5 : PySem.W.keepIn K (.ref f5) = true)
    {od6 an6 : Option Addr} {sl6 : Array (Option Value)} {oc6 kV6 dc6 pm6 cd6 ct6 : Value}
    (a6 : PySem.W.nsIn K mainGlobals "is_name" = some (some (.ref f6)))
    (l6 : K.lookup f6 = some ⟨oc6, od6, .func (PySem.W.fnOf "is_name" "is_name" (defArgs s_is_name) (defBody s_is_name) (defScope s_is_name) .none kV6 dc6 pm6 an6 cd6 ct6), sl6⟩)
    (c6 : PySem.W.codeIn K cd6 "is_name" = true)
    (k6 : PySem.W.keepIn K (.ref f6) = true)
    {od7 an7 : Option Addr} {sl7 : Array (Option Value)} {oc7 kV7 dc7 pm7 cd7 ct7 : Value}
    (a7 : PySem.W.nsIn K mainGlobals "are_unlike_names" = some (some (.ref f7)))
    (l7 : K.lookup f7 = some ⟨oc7, od7, .func (PySem.W.fnOf "are_unlike_names" "are_unlike_names" (defArgs s_are_unlike_names) (defBody s_are_unlike_names) (defScope s_are_unlike_names) .none kV7 dc7 pm7 an7 cd7 ct7), sl7⟩)
    (c7 : PySem.W.codeIn K cd7 "are_unlike_names" = true)
    (k7 : PySem.W.keepIn K (.ref f7) = true)
    {od8 an8 : Option Addr} {sl8 : Array (Option Value)} {oc8 kV8 dc8 pm8 cd8 ct8 : Value}
    (a8 : PySem.W.findIn K (.ref cLeast) "__init__" = some (some (.ref f8)))
    (i8 : PySem.W.isFn K (.ref f8) = true)
    (l8 : K.lookup f8 = some ⟨oc8, od8, .func (PySem.W.fnOf "__init__" "Least.__init__" (defArgs s_Least___init__) (defBody s_Least___init__) (defScope s_Least___init__) .none kV8 dc8 pm8 an8 cd8 ct8), sl8⟩)
    (c8 : PySem.W.codeIn K cd8 "Least.__init__" = true)
    (k8 : PySem.W.keepIn K (.ref f8) = true)
    {od9 an9 : Option Addr} {sl9 : Array (Option Value)} {oc9 kV9 dc9 pm9 cd9 ct9 : Value}
    (a9 : PySem.W.findIn K (.ref cHour) "__init__" = some (some (.ref f9)))
    (i9 : PySem.W.isFn K (.ref f9) = true)
    (l9 : K.lookup f9 = some ⟨oc9, od9, .func (PySem.W.fnOf "__init__" "Hour.__init__" (defArgs s_Hour___init__) (defBody s_Hour___init__) (defScope s_Hour___init__) .none kV9 dc9 pm9 an9 cd9 ct9), sl9⟩)
    (c9 : PySem.W.codeIn K cd9 "Hour.__init__" = true)
    (k9 : PySem.W.keepIn K (.ref f9) = true)
    {od10 an10 : Option Addr} {sl10 : Array (Option Value)} {oc10 kV10 dc10 pm10 cd10 ct10 : Value}
    (a10 : PySem.W.findIn K (.ref cDay) "__init__" = some (some (.ref f10)))
    (i10 : PySem.W.isFn K (.ref f10) = true)
    (l10 : K.lookup f10 = some ⟨oc10, od10, .func (PySem.W.fnOf "__init__" "Day.__init__" (defArgs s_Day___init__) (defBody s_Day___init__) (defScope s_Day___init__) .none kV10 dc10 pm10 an10 cd10 ct10), sl10⟩)
    (c10 : PySem.W.codeIn K cd10 "Day.__init__" = true)
    (k10 : PySem.W.keepIn K (.ref f10) = true)
    {od11 an11 : Option Addr} {sl11 : Array (Option Value)} {oc11 kV11 dc11 pm11 cd11 ct11 : Value}
    (a11 : PySem.W.findIn K (.ref cRaised) "__init__" = some (some (.ref f11)))
    (i11 : PySem.W.isFn K (.ref f11) = true)
    {T11 : Addr} {doc11 : Value} {dod11 : Option Addr} {dn11 : Nat} {dsl11 : Array (Option Value)}
    (l11 : K.lookup f11 = some ⟨oc11, od11, .func (PySem.W.fnOf "__init__" "Raised.__init__" (defArgs s_Raised___init__) (defBody s_Raised___init__) (defScope s_Raised___init__) (.ref T11) kV11 dc11 pm11 an11 cd11 ct11), sl11⟩)
    (d11 : K.lookup T11 = some ⟨doc11, dod11, .seq #[.none] dn11, dsl11⟩)
    (c11 : PySem.W.codeIn K cd11 "Raised.__init__" = true)
    {od12 an12 : Option Addr} {sl12 : Array (Option Value)} {oc12 kV12 dc12 pm12 cd12 ct12 : Value}
    (a12 : PySem.W.findIn K (.ref cLine) "__init__" = some (some (.ref f12)))
    (i12 : PySem.W.isFn K (.ref f12) = true)
    {T12 : Addr} {doc12 : Value} {dod12 : Option Addr} {dn12 : Nat} {dsl12 : Array (Option Value)}
    (l12 : K.lookup f12 = some ⟨oc12, od12, .func (PySem.W.fnOf "__init__" "Line.__init__" (defArgs s_Line___init__) (defBody s_Line___init__) (defScope s_Line___init__) (.ref T12) kV12 dc12 pm12 an12 cd12 ct12), sl12⟩)
    (d12 : K.lookup T12 = some ⟨doc12, dod12, .seq #[.bool false, .none] dn12, dsl12⟩)
    (c12 : PySem.W.codeIn K cd12 "Line.__init__" = true)
    {od13 an13 : Option Addr} {sl13 : Array (Option Value)} {oc13 kV13 dc13 pm13 cd13 ct13 : Value}
    (a13 : PySem.W.nsIn K mainGlobals "check_by_way" = some (some (.ref f13)))
    (l13 : K.lookup f13 = some ⟨oc13, od13, .func (PySem.W.fnOf "check_by_way" "check_by_way" (defArgs s_check_by_way) (defBody s_check_by_way) (defScope s_check_by_way) .none kV13 dc13 pm13 an13 cd13 ct13), sl13⟩)
    (c13 : PySem.W.codeIn K cd13 "check_by_way" = true)
    (k13 : PySem.W.keepIn K (.ref f13) = true)
    {od14 an14 : Option Addr} {sl14 : Array (Option Value)} {oc14 kV14 dc14 pm14 cd14 ct14 : Value}
    (a14 : PySem.W.nsIn K mainGlobals "_law_begin" = some (some (.ref f14)))
    (l14 : K.lookup f14 = some ⟨oc14, od14, .func (PySem.W.fnOf "_law_begin" "_law_begin" (defArgs s_law_begin) (defBody s_law_begin) (defScope s_law_begin) .none kV14 dc14 pm14 an14 cd14 ct14), sl14⟩)
    (c14 : PySem.W.codeIn K cd14 "_law_begin" = true)
    (k14 : PySem.W.keepIn K (.ref f14) = true)
    {od15 an15 : Option Addr} {sl15 : Array (Option Value)} {oc15 kV15 dc15 pm15 cd15 ct15 : Value}
    (a15 : PySem.W.nsIn K mainGlobals "_law_next" = some (some (.ref f15)))
    (l15 : K.lookup f15 = some ⟨oc15, od15, .func (PySem.W.fnOf "_law_next" "_law_next" (defArgs s_law_next) (defBody s_law_next) (defScope s_law_next) .none kV15 dc15 pm15 an15 cd15 ct15), sl15⟩)
    (c15 : PySem.W.codeIn K cd15 "_law_next" = true)
    (k15 : PySem.W.keepIn K (.ref f15) = true)
    {od16 an16 : Option Addr} {sl16 : Array (Option Value)} {oc16 kV16 dc16 pm16 cd16 ct16 : Value}
    (a16 : PySem.W.nsIn K mainGlobals "_law_name" = some (some (.ref f16)))
    (l16 : K.lookup f16 = some ⟨oc16, od16, .func (PySem.W.fnOf "_law_name" "_law_name" (defArgs s_law_name) (defBody s_law_name) (defScope s_law_name) .none kV16 dc16 pm16 an16 cd16 ct16), sl16⟩)
    (c16 : PySem.W.codeIn K cd16 "_law_name" = true)
    (k16 : PySem.W.keepIn K (.ref f16) = true)
    {od17 an17 : Option Addr} {sl17 : Array (Option Value)} {oc17 kV17 dc17 pm17 cd17 ct17 : Value}
    (a17 : PySem.W.nsIn K mainGlobals "_law_roads" = some (some (.ref f17)))
    (l17 : K.lookup f17 = some ⟨oc17, od17, .func (PySem.W.fnOf "_law_roads" "_law_roads" (defArgs s_law_roads) (defBody s_law_roads) (defScope s_law_roads) .none kV17 dc17 pm17 an17 cd17 ct17), sl17⟩)
    (c17 : PySem.W.codeIn K cd17 "_law_roads" = true)
    (k17 : PySem.W.keepIn K (.ref f17) = true)
    {od18 an18 : Option Addr} {sl18 : Array (Option Value)} {oc18 kV18 dc18 pm18 cd18 ct18 : Value}
    (a18 : PySem.W.nsIn K mainGlobals "_law_refused" = some (some (.ref f18)))
    (l18 : K.lookup f18 = some ⟨oc18, od18, .func (PySem.W.fnOf "_law_refused" "_law_refused" (defArgs s_law_refused) (defBody s_law_refused) (defScope s_law_refused) .none kV18 dc18 pm18 an18 cd18 ct18), sl18⟩)
    (c18 : PySem.W.codeIn K cd18 "_law_refused" = true)
    (k18 : PySem.W.keepIn K (.ref f18) = true)
    {od19 an19 : Option Addr} {sl19 : Array (Option Value)} {oc19 kV19 dc19 pm19 cd19 ct19 : Value}
    (a19 : PySem.W.nsIn K mainGlobals "_law_put" = some (some (.ref f19)))
    (l19 : K.lookup f19 = some ⟨oc19, od19, .func (PySem.W.fnOf "_law_put" "_law_put" (defArgs s_law_put) (defBody s_law_put) (defScope s_law_put) .none kV19 dc19 pm19 an19 cd19 ct19), sl19⟩)
    (c19 : PySem.W.codeIn K cd19 "_law_put" = true)
    (k19 : PySem.W.keepIn K (.ref f19) = true)
    {od20 an20 : Option Addr} {sl20 : Array (Option Value)} {oc20 kV20 dc20 pm20 cd20 ct20 : Value}
    (a20 : PySem.W.nsIn K mainGlobals "_law_odd_raised" = some (some (.ref f20)))
    (l20 : K.lookup f20 = some ⟨oc20, od20, .func (PySem.W.fnOf "_law_odd_raised" "_law_odd_raised" (defArgs s_law_odd_raised) (defBody s_law_odd_raised) (defScope s_law_odd_raised) .none kV20 dc20 pm20 an20 cd20 ct20), sl20⟩)
    (c20 : PySem.W.codeIn K cd20 "_law_odd_raised" = true)
    (k20 : PySem.W.keepIn K (.ref f20) = true)
    {od21 an21 : Option Addr} {sl21 : Array (Option Value)} {oc21 kV21 dc21 pm21 cd21 ct21 : Value}
    (a21 : PySem.W.nsIn K mainGlobals "_law_odd_line" = some (some (.ref f21)))
    (l21 : K.lookup f21 = some ⟨oc21, od21, .func (PySem.W.fnOf "_law_odd_line" "_law_odd_line" (defArgs s_law_odd_line) (defBody s_law_odd_line) (defScope s_law_odd_line) .none kV21 dc21 pm21 an21 cd21 ct21), sl21⟩)
    (c21 : PySem.W.codeIn K cd21 "_law_odd_line" = true)
    (k21 : PySem.W.keepIn K (.ref f21) = true)
    {od22 an22 : Option Addr} {sl22 : Array (Option Value)} {oc22 kV22 dc22 pm22 cd22 ct22 : Value}
    (a22 : PySem.W.nsIn K mainGlobals "_law_line_right" = some (some (.ref f22)))
    (l22 : K.lookup f22 = some ⟨oc22, od22, .func (PySem.W.fnOf "_law_line_right" "_law_line_right" (defArgs s_law_line_right) (defBody s_law_line_right) (defScope s_law_line_right) .none kV22 dc22 pm22 an22 cd22 ct22), sl22⟩)
    (c22 : PySem.W.codeIn K cd22 "_law_line_right" = true)
    (k22 : PySem.W.keepIn K (.ref f22) = true)
    {od23 an23 : Option Addr} {sl23 : Array (Option Value)} {oc23 kV23 dc23 pm23 cd23 ct23 : Value}
    (a23 : PySem.W.nsIn K mainGlobals "law" = some (some (.ref f23)))
    (l23 : K.lookup f23 = some ⟨oc23, od23, .func (PySem.W.fnOf "law" "law" (defArgs s_law) (defBody s_law) (defScope s_law) .none kV23 dc23 pm23 an23 cd23 ct23), sl23⟩)
    (c23 : PySem.W.codeIn K cd23 "law" = true)
    (k23 : PySem.W.keepIn K (.ref f23) = true)
    (y0 : PySem.W.nsIn K mainGlobals "len" = some none)
    (y1 : PySem.W.nsIn K mainGlobals "int" = some none)
    (y2 : PySem.W.nsIn K mainGlobals "bool" = some none)
    (y3 : PySem.W.nsIn K mainGlobals "str" = some none)
    (y4 : PySem.W.nsIn K mainGlobals "tuple" = some none)
    (y5 : PySem.W.nsIn K mainGlobals "list" = some none)
    (y6 : PySem.W.nsIn K mainGlobals "all" = some none)
    (y7 : PySem.W.nsIn K mainGlobals "isinstance" = some none)
    (y8 : PySem.W.nsIn K mainGlobals "range" = some none)
    (y9 : PySem.W.nsIn K mainGlobals "set" = some none)
    (y10 : PySem.W.nsIn K mainGlobals "ValueError" = some none)
    (y11 : PySem.W.nsIn K mainGlobals "MINUTES_OF_HOUR" = some (some (.int 60 t0)))
    (y12 : PySem.W.nsIn K mainGlobals "MINUTES_OF_DAY" = some (some (.int 1440 t1)))
    (y13 : PySem.W.nsIn K mainGlobals "LETTERS" = some (some (.str "abcdefghijklmnopqrstuvwxyz" t2)))
    (y14 : PySem.W.nsIn K mainGlobals "MOST_LETTERS" = some (some (.int 8 t3)))
    (y15 : PySem.W.nsIn K mainGlobals "BellError" = some (some (.ref cBellError)))
    (y16 : PySem.W.nsIn K mainGlobals "NoClock" = some (some (.ref cNoClock)))
    (y17 : PySem.W.nsIn K mainGlobals "NoHappening" = some (some (.ref cNoHappening)))
    (y18 : PySem.W.nsIn K mainGlobals "NoFit" = some (some (.ref cNoFit)))
    (y19 : PySem.W.nsIn K mainGlobals "NoWish" = some (some (.ref cNoWish)))
    (y20 : PySem.W.nsIn K mainGlobals "NoRoad" = some (some (.ref cNoRoad)))
    (y21 : PySem.W.nsIn K mainGlobals "NoText" = some (some (.ref cNoText)))
    (y22 : PySem.W.nsIn K mainGlobals "Fit" = some (some (.ref cFit)))
    (y23 : PySem.W.nsIn K mainGlobals "Least" = some (some (.ref cLeast)))
    (y24 : PySem.W.nsIn K mainGlobals "Way" = some (some (.ref cWay)))
    (y25 : PySem.W.nsIn K mainGlobals "Now" = some (some (.ref cNow)))
    (y26 : PySem.W.nsIn K mainGlobals "Hour" = some (some (.ref cHour)))
    (y27 : PySem.W.nsIn K mainGlobals "Day" = some (some (.ref cDay)))
    (y28 : PySem.W.nsIn K mainGlobals "Never" = some (some (.ref cNever)))
    (y29 : PySem.W.nsIn K mainGlobals "Raised" = some (some (.ref cRaised)))
    (y30 : PySem.W.nsIn K mainGlobals "Line" = some (some (.ref cLine)))
    (y31 : PySem.W.excIn K cNoWish vbm "ValueError.__new__" = true)
    (y32_0 : PySem.W.findIn K (.ref cNoWish) "__getattribute__" = some (some (.builtin "BaseException.__getattribute__")))
    (y32_1 : PySem.W.findIn K (.ref cNoWish) "__getattr__" = some none)
    (y32_2 : PySem.W.findIn K (.ref cNoWish) "__class__" = some (some (.builtin "object.__class__")))
    (y32_3 : PySem.W.mroIn K cNoWish (.type "BaseException") = some true)
    (y32_4 : PySem.W.mroIn K cNoWish (.type "object") = some true)
    (y32_5 : PySem.W.isClsIn K cNoWish = true)
    (y33 : PySem.W.exmOne K (.ref cNoWish) (.ref cBellError) = some true)
    (y34 : PySem.W.kitAny K (.ref cNoWish) ([.ref cNoClock, .ref cNoFit, .ref cNoHappening, .ref cNoRoad, .ref cNoText] : List Value) = some false)
    (y35 : PySem.W.kitOne K (.ref cNoWish) (.type "ValueError") = some true)
    (y36 : PySem.W.kitOne K (.ref cNoWish) (.ref cNoWish) = some true)
    (y37_0 : PySem.W.plainGet K cLeast Str.empty = true)
    (y37_1 : PySem.W.hasDictIn K cLeast = true)
    (y37_2 : PySem.W.plainOver K cLeast = true)
    (y37_3 : PySem.W.findIn K (.ref cLeast) "__setattr__" = some (some (.builtin "object.__setattr__")))
    (y37_4 : PySem.W.findIn K (.ref cLeast) "__class__" = some (some (.builtin "object.__class__")))
    (y37_5 : PySem.W.specialIn K (.builtin "object.__class__") "__get__" = some (some (.builtin "getset_descriptor.__get__")))
    (y37_6 : PySem.W.takesIn K (.builtin "object.__class__") = some true)
    (y37_7 : PySem.W.mroIn K cLeast (.type "object") = some true)
    (y38 : PySem.W.findIn K (.ref cLeast) "weight" = some none)
    (y39_0 : PySem.W.plainGet K cNow Str.empty = true)
    (y39_1 : PySem.W.hasDictIn K cNow = true)
    (y39_2 : PySem.W.plainOver K cNow = true)
    (y39_3 : PySem.W.findIn K (.ref cNow) "__setattr__" = some (some (.builtin "object.__setattr__")))
    (y39_4 : PySem.W.findIn K (.ref cNow) "__class__" = some (some (.builtin "object.__class__")))
    (y39_5 : PySem.W.specialIn K (.builtin "object.__class__") "__get__" = some (some (.builtin "getset_descriptor.__get__")))
    (y39_6 : PySem.W.takesIn K (.builtin "object.__class__") = some true)
    (y39_7 : PySem.W.mroIn K cNow (.type "object") = some true)
    (y40_0 : PySem.W.plainGet K cHour Str.empty = true)
    (y40_1 : PySem.W.hasDictIn K cHour = true)
    (y40_2 : PySem.W.plainOver K cHour = true)
    (y40_3 : PySem.W.findIn K (.ref cHour) "__setattr__" = some (some (.builtin "object.__setattr__")))
    (y40_4 : PySem.W.findIn K (.ref cHour) "__class__" = some (some (.builtin "object.__class__")))
    (y40_5 : PySem.W.specialIn K (.builtin "object.__class__") "__get__" = some (some (.builtin "getset_descriptor.__get__")))
    (y40_6 : PySem.W.takesIn K (.builtin "object.__class__") = some true)
    (y40_7 : PySem.W.mroIn K cHour (.type "object") = some true)
    (y41 : PySem.W.findIn K (.ref cHour) "minute" = some none)
    (y42_0 : PySem.W.plainGet K cDay Str.empty = true)
    (y42_1 : PySem.W.hasDictIn K cDay = true)
    (y42_2 : PySem.W.plainOver K cDay = true)
    (y42_3 : PySem.W.findIn K (.ref cDay) "__setattr__" = some (some (.builtin "object.__setattr__")))
    (y42_4 : PySem.W.findIn K (.ref cDay) "__class__" = some (some (.builtin "object.__class__")))
    (y42_5 : PySem.W.specialIn K (.builtin "object.__class__") "__get__" = some (some (.builtin "getset_descriptor.__get__")))
    (y42_6 : PySem.W.takesIn K (.builtin "object.__class__") = some true)
    (y42_7 : PySem.W.mroIn K cDay (.type "object") = some true)
    (y43 : PySem.W.findIn K (.ref cDay) "minute" = some none)
    (y44_0 : PySem.W.plainGet K cNever Str.empty = true)
    (y44_1 : PySem.W.hasDictIn K cNever = true)
    (y44_2 : PySem.W.plainOver K cNever = true)
    (y44_3 : PySem.W.findIn K (.ref cNever) "__setattr__" = some (some (.builtin "object.__setattr__")))
    (y44_4 : PySem.W.findIn K (.ref cNever) "__class__" = some (some (.builtin "object.__class__")))
    (y44_5 : PySem.W.specialIn K (.builtin "object.__class__") "__get__" = some (some (.builtin "getset_descriptor.__get__")))
    (y44_6 : PySem.W.takesIn K (.builtin "object.__class__") = some true)
    (y44_7 : PySem.W.mroIn K cNever (.type "object") = some true)
    (y45_0 : PySem.W.plainGet K cRaised Str.empty = true)
    (y45_1 : PySem.W.hasDictIn K cRaised = true)
    (y45_2 : PySem.W.plainOver K cRaised = true)
    (y45_3 : PySem.W.findIn K (.ref cRaised) "__setattr__" = some (some (.builtin "object.__setattr__")))
    (y45_4 : PySem.W.findIn K (.ref cRaised) "__class__" = some (some (.builtin "object.__class__")))
    (y45_5 : PySem.W.specialIn K (.builtin "object.__class__") "__get__" = some (some (.builtin "getset_descriptor.__get__")))
    (y45_6 : PySem.W.takesIn K (.builtin "object.__class__") = some true)
    (y45_7 : PySem.W.mroIn K cRaised (.type "object") = some true)
    (y46 : PySem.W.findIn K (.ref cRaised) "minutes" = some none)
    (y47 : PySem.W.findIn K (.ref cRaised) "times" = some none)
    (y48 : PySem.W.findIn K (.ref cRaised) "to" = some none)
    (y49_0 : PySem.W.plainGet K cLine Str.empty = true)
    (y49_1 : PySem.W.hasDictIn K cLine = true)
    (y49_2 : PySem.W.plainOver K cLine = true)
    (y49_3 : PySem.W.findIn K (.ref cLine) "__setattr__" = some (some (.builtin "object.__setattr__")))
    (y49_4 : PySem.W.findIn K (.ref cLine) "__class__" = some (some (.builtin "object.__class__")))
    (y49_5 : PySem.W.specialIn K (.builtin "object.__class__") "__get__" = some (some (.builtin "getset_descriptor.__get__")))
    (y49_6 : PySem.W.takesIn K (.builtin "object.__class__") = some true)
    (y49_7 : PySem.W.mroIn K cLine (.type "object") = some true)
    (y50 : PySem.W.findIn K (.ref cLine) "fit" = some none)
    (y51 : PySem.W.findIn K (.ref cLine) "way" = some none)
    (y52 : PySem.W.findIn K (.ref cLine) "roads" = some none)
    (y53 : PySem.W.findIn K (.ref cLine) "sure" = some none)
    (y54 : PySem.W.findIn K (.ref cLine) "raised" = some none)
    (y55 : PySem.W.kitOne K (.ref cLeast) (.ref cFit) = some true)
    (y56 : PySem.W.kitOne K (.ref cNow) (.ref cFit) = some false)
    (y57 : PySem.W.kitOne K (.ref cHour) (.ref cFit) = some false)
    (y58 : PySem.W.kitOne K (.ref cDay) (.ref cFit) = some false)
    (y59 : PySem.W.kitOne K (.ref cRaised) (.ref cFit) = some false)
    (y60 : PySem.W.kitOne K (.ref cLeast) (.ref cWay) = some false)
    (y61 : PySem.W.kitOne K (.ref cNow) (.ref cWay) = some true)
    (y62 : PySem.W.kitOne K (.ref cHour) (.ref cWay) = some true)
    (y63 : PySem.W.kitOne K (.ref cDay) (.ref cWay) = some true)
    (y64 : PySem.W.kitOne K (.ref cNever) (.ref cWay) = some true)
    (y65 : PySem.W.kitOne K (.ref cRaised) (.ref cWay) = some false)
    (y66 : PySem.W.kitOne K (.ref cNow) (.ref cNever) = some false)
    (y67 : PySem.W.kitOne K (.ref cHour) (.ref cNever) = some false)
    (y68 : PySem.W.kitOne K (.ref cDay) (.ref cNever) = some false)
    (y69 : PySem.W.kitOne K (.ref cNever) (.ref cNever) = some true)
    (y70 : PySem.W.kitOne K (.ref cLeast) (.ref cRaised) = some false)
    (y71 : PySem.W.kitOne K (.ref cRaised) (.ref cRaised) = some true)
    (y72 : PySem.W.kitOne K (.ref cLine) (.ref cLine) = some true)
    (y73 : PySem.W.kitOne K (.ref cLeast) (.ref cLeast) = some true)
    (y74 : PySem.W.kitOne K (.type "NoneType") (.ref cFit) = some false)
    (y75 : PySem.W.kitOne K (.type "bool") (.ref cFit) = some false)
    (y76 : PySem.W.kitOne K (.type "int") (.ref cFit) = some false)
    (y77 : PySem.W.kitOne K (.type "str") (.ref cFit) = some false)
    (y78 : PySem.W.kitOne K (.type "list") (.ref cFit) = some false)
    (y79 : PySem.W.kitOne K (.type "tuple") (.ref cFit) = some false)
    (y80 : PySem.W.kitOne K (.type "dict") (.ref cFit) = some false)
    (y81 : PySem.W.kitOne K (.type "NoneType") (.ref cWay) = some false)
    (y82 : PySem.W.kitOne K (.type "bool") (.ref cWay) = some false)
    (y83 : PySem.W.kitOne K (.type "int") (.ref cWay) = some false)
    (y84 : PySem.W.kitOne K (.type "str") (.ref cWay) = some false)
    (y85 : PySem.W.kitOne K (.type "list") (.ref cWay) = some false)
    (y86 : PySem.W.kitOne K (.type "tuple") (.ref cWay) = some false)
    (y87 : PySem.W.kitOne K (.type "dict") (.ref cWay) = some false)
    (y88 : PySem.W.kitOne K (.type "NoneType") (.ref cRaised) = some false)
    (y89 : PySem.W.kitOne K (.type "bool") (.ref cRaised) = some false)
    (y90 : PySem.W.kitOne K (.type "int") (.ref cRaised) = some false)
    (y91 : PySem.W.kitOne K (.type "str") (.ref cRaised) = some false)
    (y92 : PySem.W.kitOne K (.type "list") (.ref cRaised) = some false)
    (y93 : PySem.W.kitOne K (.type "tuple") (.ref cRaised) = some false)
    (y94 : PySem.W.kitOne K (.type "dict") (.ref cRaised) = some false)
    (y95 : PySem.W.kitAny K (.ref cNow) ([.ref cNow, .ref cHour, .ref cDay] : List Value) = some true)
    (y96 : PySem.W.kitAny K (.ref cHour) ([.ref cNow, .ref cHour, .ref cDay] : List Value) = some true)
    (y97 : PySem.W.kitAny K (.ref cDay) ([.ref cNow, .ref cHour, .ref cDay] : List Value) = some true)
    (y98_0 : PySem.W.makesIn K cNow = true)
    (y98_1 : PySem.W.findIn K (.ref cNow) "__init__" = some (some (.builtin "object.__init__")))
    (y98_2 : PySem.W.keepIn K (.ref cNow) = true)
    (y99_0 : PySem.W.makesIn K cNever = true)
    (y99_1 : PySem.W.findIn K (.ref cNever) "__init__" = some (some (.builtin "object.__init__")))
    (y99_2 : PySem.W.keepIn K (.ref cNever) = true)
    (mkLeast : PySem.W.makesIn K cLeast = true)
    (kcLeast : PySem.W.keepIn K (.ref cLeast) = true)
    (mkHour : PySem.W.makesIn K cHour = true)
    (kcHour : PySem.W.keepIn K (.ref cHour) = true)
    (mkDay : PySem.W.makesIn K cDay = true)
    (kcDay : PySem.W.keepIn K (.ref cDay) = true)
    (mkRaised : PySem.W.makesIn K cRaised = true)
    (kcRaised : PySem.W.keepIn K (.ref cRaised) = true)
    (mkLine : PySem.W.makesIn K cLine = true)
    (kcLine : PySem.W.keepIn K (.ref cLine) = true) :
    ∃ (a : Ad) (fd : FuncData), (∀ (s : Shared) (v : Value), BindsTo s fd ⟨[v], []⟩ [("_law_script", v)]) ∧ ∀ base : Heap, K.In base → base.Ns mainGlobals mg → FnOk l.prog w K mg base CX0 7 fa fd ["_law_script"] (sp_law K a) := by
  have e := hfa.symm.trans (PySem.W.mg_of X G a23)
  cases e
  have B : Bt K mg ⟨cBellError, cNoClock, cNoHappening, cNoFit, cNoWish, cNoRoad, cNoText, cFit, cLeast, cWay, cNow, cHour, cDay, cNever, cRaised, cLine, t0, t1, t2, t3⟩ := ⟨PySem.W.mg_none_of X G y0, PySem.W.mg_none_of X G y1, PySem.W.mg_none_of X G y2, PySem.W.mg_none_of X G y3, PySem.W.mg_none_of X G y4, PySem.W.mg_none_of X G y5, PySem.W.mg_none_of X G y6, PySem.W.mg_none_of X G y7, PySem.W.mg_none_of X G y8, PySem.W.mg_none_of X G y9, PySem.W.mg_none_of X G y10, PySem.W.mg_of X G y11, PySem.W.mg_of X G y12, PySem.W.mg_of X G y13, PySem.W.mg_of X G y14, PySem.W.mg_of X G y15, PySem.W.mg_of X G y16, PySem.W.mg_of X G y17, PySem.W.mg_of X G y18, PySem.W.mg_of X G y19, PySem.W.mg_of X G y20, PySem.W.mg_of X G y21, PySem.W.mg_of X G y22, PySem.W.mg_of X G y23, PySem.W.mg_of X G y24, PySem.W.mg_of X G y25, PySem.W.mg_of X G y26, PySem.W.mg_of X G y27, PySem.W.mg_of X G y28, PySem.W.mg_of X G y29, PySem.W.mg_of X G y30, y31, ⟨y32_0, y32_1, y32_2, y32_3, y32_4, y32_5⟩, y33, y34, y35, y36, ⟨⟨y37_0, y37_1, y37_2, y37_3⟩, y37_4, y37_5, y37_6, y37_7⟩, y38, ⟨⟨y39_0, y39_1, y39_2, y39_3⟩, y39_4, y39_5, y39_6, y39_7⟩, ⟨⟨y40_0, y40_1, y40_2, y40_3⟩, y40_4, y40_5, y40_6, y40_7⟩, y41, ⟨⟨y42_0, y42_1, y42_2, y42_3⟩, y42_4, y42_5, y42_6, y42_7⟩, y43, ⟨⟨y44_0, y44_1, y44_2, y44_3⟩, y44_4, y44_5, y44_6, y44_7⟩, ⟨⟨y45_0, y45_1, y45_2, y45_3⟩, y45_4, y45_5, y45_6, y45_7⟩, y46, y47, y48, ⟨⟨y49_0, y49_1, y49_2, y49_3⟩, y49_4, y49_5, y49_6, y49_7⟩, y50, y51, y52, y53, y54, y55, y56, y57, y58, y59, y60, y61, y62, y63, y64, y65, y66, y67, y68, y69, y70, y71, y72, y73, y74, y75, y76, y77, y78, y79, y80, y81, y82, y83, y84, y85, y86, y87, y88, y89, y90, y91, y92, y93, y94, y95, y96, y97, ⟨y98_0, y98_1, y98_2⟩, ⟨y99_0, y99_1, y99_2⟩⟩
  have F0 := fun_mk (st := s_is_whole) l0 c0 k0
  have b0 := F0.binds (ps := ["thing"]) fun _ _ _ _ _ _ us hl => match us, hl with | [_], _ => rfl
  have F1 := fun_mk (st := s_is_whole_between) l1 c1 k1
  have b1 := F1.binds (ps := ["thing", "least", "most"]) fun _ _ _ _ _ _ us hl => match us, hl with | [_, _, _], _ => rfl
  have F2 := fun_mk (st := s_is_whole_from) l2 c2 k2
  have b2 := F2.binds (ps := ["thing", "least"]) fun _ _ _ _ _ _ us hl => match us, hl with | [_, _], _ => rfl
  have F3 := fun_mk (st := s_is_minute_of_day) l3 c3 k3
  have b3 := F3.binds (ps := ["thing"]) fun _ _ _ _ _ _ us hl => match us, hl with | [_], _ => rfl
  have F4 := fun_mk (st := s_check_minute_of_hour) l4 c4 k4
  have b4 := F4.binds (ps := ["minute"]) fun _ _ _ _ _ _ us hl => match us, hl with | [_], _ => rfl
  have F5 := fun_mk (st := s_check_minute_of_day) l5 c5 k5
  have b5 := F5.binds (ps := ["minute"]) fun _ _ _ _ _ _ us hl => match us, hl with | [_], _ => rfl
  have F6 := fun_mk (st := s_is_name) l6 c6 k6
  have b6 := F6.binds (ps := ["thing"]) fun _ _ _ _ _ _ us hl => match us, hl with | [_], _ => rfl
  have F7 := fun_mk (st := s_are_unlike_names) l7 c7 k7
  have b7 := F7.binds (ps := ["thing"]) fun _ _ _ _ _ _ us hl => match us, hl with | [_], _ => rfl
  have F8 := fun_mk (st := s_Least___init__) l8 c8 k8
  have b8 := F8.binds (ps := ["self", "weight"]) fun _ _ _ _ _ _ us hl => match us, hl with | [_, _], _ => rfl
  have F9 := fun_mk (st := s_Hour___init__) l9 c9 k9
  have b9 := F9.binds (ps := ["self", "minute"]) fun _ _ _ _ _ _ us hl => match us, hl with | [_, _], _ => rfl
  have F10 := fun_mk (st := s_Day___init__) l10 c10 k10
  have b10 := F10.binds (ps := ["self", "minute"]) fun _ _ _ _ _ _ us hl => match us, hl with | [_, _], _ => rfl
  have F11 := funA_mk (st := s_Raised___init__) l11 c11
  have b11_3 : Binds K _ ["self", "minutes", "times", "to"] [] := bindsD (fd := PySem.W.fnOf "__init__" "Raised.__init__" (defArgs s_Raised___init__) (defBody s_Raised___init__) (defScope s_Raised___init__) (.ref T11) kV11 dc11 pm11 an11 cd11 ct11) 4 rfl fun s us X hl => match us, hl with | [_, _, _, _], _ => by first | exact .of_eq rfl | exact PySem.W.binds_K X rfl d11 rfl rfl rfl
  have b11_2 : Binds K _ ["self", "minutes", "times", "to"] [.none] := bindsD (fd := PySem.W.fnOf "__init__" "Raised.__init__" (defArgs s_Raised___init__) (defBody s_Raised___init__) (defScope s_Raised___init__) (.ref T11) kV11 dc11 pm11 an11 cd11 ct11) 3 rfl fun s us X hl => match us, hl with | [_, _, _], _ => by first | exact .of_eq rfl | exact PySem.W.binds_K X rfl d11 rfl rfl rfl
  have F12 := funA_mk (st := s_Line___init__) l12 c12
  have b12_5 : Binds K _ ["self", "fit", "way", "roads", "sure", "raised"] [] := bindsD (fd := PySem.W.fnOf "__init__" "Line.__init__" (defArgs s_Line___init__) (defBody s_Line___init__) (defScope s_Line___init__) (.ref T12) kV12 dc12 pm12 an12 cd12 ct12) 6 rfl fun s us X hl => match us, hl with | [_, _, _, _, _, _], _ => by first | exact .of_eq rfl | exact PySem.W.binds_K X rfl d12 rfl rfl rfl
  have b12_3 : Binds K _ ["self", "fit", "way", "roads", "sure", "raised"] [.bool false, .none] := bindsD (fd := PySem.W.fnOf "__init__" "Line.__init__" (defArgs s_Line___init__) (defBody s_Line___init__) (defScope s_Line___init__) (.ref T12) kV12 dc12 pm12 an12 cd12 ct12) 4 rfl fun s us X hl => match us, hl with | [_, _, _, _], _ => by first | exact .of_eq rfl | exact PySem.W.binds_K X rfl d12 rfl rfl rfl
  have F13 := fun_mk (st := s_check_by_way) l13 c13 k13
  have b13 := F13.binds (ps := ["way", "roads", "sure", "raised"]) fun _ _ _ _ _ _ us hl => match us, hl with | [_, _, _, _], _ => rfl
  have F14 := fun_mk (st := s_law_begin) l14 c14 k14
  have b14 := F14.binds (ps := ["_law_cell"]) fun _ _ _ _ _ _ us hl => match us, hl with | [_], _ => rfl
  have F15 := fun_mk (st := s_law_next) l15 c15 k15
  have b15 := F15.binds (ps := ["_law_state", "_law_base"]) fun _ _ _ _ _ _ us hl => match us, hl with | [_, _], _ => rfl
  have F16 := fun_mk (st := s_law_name) l16 c16 k16
  have b16 := F16.binds (ps := ["_law_state"]) fun _ _ _ _ _ _ us hl => match us, hl with | [_], _ => rfl
  have F17 := fun_mk (st := s_law_roads) l17 c17 k17
  have b17 := F17.binds (ps := ["_law_state"]) fun _ _ _ _ _ _ us hl => match us, hl with | [_], _ => rfl
  have F18 := fun_mk (st := s_law_refused) l18 c18 k18
  have b18 := F18.binds (ps := ["_law_word", "_law_parts"]) fun _ _ _ _ _ _ us hl => match us, hl with | [_, _], _ => rfl
  have F19 := fun_mk (st := s_law_put) l19 c19 k19
  have b19 := F19.binds (ps := ["_law_parts", "_law_at", "_law_thing"]) fun _ _ _ _ _ _ us hl => match us, hl with | [_, _, _], _ => rfl
  have F20 := fun_mk (st := s_law_odd_raised) l20 c20 k20
  have b20 := F20.binds (ps := ["_law_minutes", "_law_times", "_law_to"]) fun _ _ _ _ _ _ us hl => match us, hl with | [_, _, _], _ => rfl
  have F21 := fun_mk (st := s_law_odd_line) l21 c21 k21
  have b21 := F21.binds (ps := ["_law_fit", "_law_way", "_law_roads_here", "_law_raised"]) fun _ _ _ _ _ _ us hl => match us, hl with | [_, _, _, _], _ => rfl
  have F22 := fun_mk (st := s_law_line_right) l22 c22 k22
  have b22 := F22.binds (ps := ["_law_line", "_law_weight", "_law_roads_here", "_law_sure", "_law_raised"]) fun _ _ _ _ _ _ us hl => match us, hl with | [_, _, _, _, _], _ => rfl
  have F23 := fun_mk (st := s_law) l23 c23 k23
  have b23 := F23.binds (ps := ["_law_script"]) fun _ _ _ _ _ _ us hl => match us, hl with | [_], _ => rfl
  refine ⟨(⟨cBellError, cNoClock, cNoHappening, cNoFit, cNoWish, cNoRoad, cNoText, cFit, cLeast, cWay, cNow, cHour, cDay, cNever, cRaised, cLine, t0, t1, t2, t3⟩ : Ad), PySem.W.fnOf "law" "law" (defArgs s_law) (defBody s_law) (defScope s_law) .none kV23 dc23 pm23 an23 cd23 ct23, fun s v => .of_eq rfl, fun base _ _ => ?_⟩
  have G_is_whole : FnOk l.prog w K mg base (CXF l.prog w) 1 f0 _ ["thing"] (sp_is_whole K (⟨cBellError, cNoClock, cNoHappening, cNoFit, cNoWish, cNoRoad, cNoText, cFit, cLeast, cWay, cNow, cHour, cDay, cNever, cRaised, cLine, t0, t1, t2, t3⟩ : Ad)) := FnOk.up (ok_is_whole (P := l.prog) (w := w) (base := base) B  F0)
  have C_is_whole : CalX l.prog w K mg base "is_whole" ["thing"] 1 (sp_is_whole K (⟨cBellError, cNoClock, cNoHappening, cNoFit, cNoWish, cNoRoad, cNoText, cFit, cLeast, cWay, cNow, cHour, cDay, cNever, cRaised, cLine, t0, t1, t2, t3⟩ : Ad)) := ⟨_, _, G_is_whole, b0, k0, PySem.W.mg_of X G a0⟩
  have G_is_name : FnOk l.prog w K mg base (CXF l.prog w) 1 f6 _ ["thing"] (sp_is_name K (⟨cBellError, cNoClock, cNoHappening, cNoFit, cNoWish, cNoRoad, cNoText, cFit, cLeast, cWay, cNow, cHour, cDay, cNever, cRaised, cLine, t0, t1, t2, t3⟩ : Ad)) := FnOk.up (ok_is_name (P := l.prog) (w := w) (base := base) B  F6)
  have C_is_name : CalX l.prog w K mg base "is_name" ["thing"] 1 (sp_is_name K (⟨cBellError, cNoClock, cNoHappening, cNoFit, cNoWish, cNoRoad, cNoText, cFit, cLeast, cWay, cNow, cHour, cDay, cNever, cRaised, cLine, t0, t1, t2, t3⟩ : Ad)) := ⟨_, _, G_is_name, b6, k6, PySem.W.mg_of X G a6⟩
  have G_check_by_way : FnOk l.prog w K mg base (CXF l.prog w) 1 f13 _ ["way", "roads", "sure", "raised"] (sp_check_by_way K (⟨cBellError, cNoClock, cNoHappening, cNoFit, cNoWish, cNoRoad, cNoText, cFit, cLeast, cWay, cNow, cHour, cDay, cNever, cRaised, cLine, t0, t1, t2, t3⟩ : Ad)) := ok_check_by_way (P := l.prog) (w := w) (base := base) B  F13
  have C_check_by_way : CalX l.prog w K mg base "check_by_way" ["way", "roads", "sure", "raised"] 1 (sp_check_by_way K (⟨cBellError, cNoClock, cNoHappening, cNoFit, cNoWish, cNoRoad, cNoText, cFit, cLeast, cWay, cNow, cHour, cDay, cNever, cRaised, cLine, t0, t1, t2, t3⟩ : Ad)) := ⟨_, _, G_check_by_way, b13, k13, PySem.W.mg_of X G a13⟩
  have G_law_begin : FnOk l.prog w K mg base (CXF l.prog w) 1 f14 _ ["_law_cell"] (sp_law_begin K (⟨cBellError, cNoClock, cNoHappening, cNoFit, cNoWish, cNoRoad, cNoText, cFit, cLeast, cWay, cNow, cHour, cDay, cNever, cRaised, cLine, t0, t1, t2, t3⟩ : Ad)) := FnOk.up (ok_law_begin (P := l.prog) (w := w) (base := base) B  F14)
  have C_law_begin : CalX l.prog w K mg base "_law_begin" ["_law_cell"] 1 (sp_law_begin K (⟨cBellError, cNoClock, cNoHappening, cNoFit, cNoWish, cNoRoad, cNoText, cFit, cLeast, cWay, cNow, cHour, cDay, cNever, cRaised, cLine, t0, t1, t2, t3⟩ : Ad)) := ⟨_, _, G_law_begin, b14, k14, PySem.W.mg_of X G a14⟩
  have G_law_next : FnOk l.prog w K mg base (CXF l.prog w) 1 f15 _ ["_law_state", "_law_base"] (sp_law_next K (⟨cBellError, cNoClock, cNoHappening, cNoFit, cNoWish, cNoRoad, cNoText, cFit, cLeast, cWay, cNow, cHour, cDay, cNever, cRaised, cLine, t0, t1, t2, t3⟩ : Ad)) := FnOk.up (ok_law_next (P := l.prog) (w := w) (base := base) B  F15)
  have C_law_next : CalX l.prog w K mg base "_law_next" ["_law_state", "_law_base"] 1 (sp_law_next K (⟨cBellError, cNoClock, cNoHappening, cNoFit, cNoWish, cNoRoad, cNoText, cFit, cLeast, cWay, cNow, cHour, cDay, cNever, cRaised, cLine, t0, t1, t2, t3⟩ : Ad)) := ⟨_, _, G_law_next, b15, k15, PySem.W.mg_of X G a15⟩
  have G_law_put : FnOk l.prog w K mg base (CXF l.prog w) 1 f19 _ ["_law_parts", "_law_at", "_law_thing"] (sp_law_put K (⟨cBellError, cNoClock, cNoHappening, cNoFit, cNoWish, cNoRoad, cNoText, cFit, cLeast, cWay, cNow, cHour, cDay, cNever, cRaised, cLine, t0, t1, t2, t3⟩ : Ad)) := FnOk.up (ok_law_put (P := l.prog) (w := w) (base := base) B  F19)
  have C_law_put : CalX l.prog w K mg base "_law_put" ["_law_parts", "_law_at", "_law_thing"] 1 (sp_law_put K (⟨cBellError, cNoClock, cNoHappening, cNoFit, cNoWish, cNoRoad, cNoText, cFit, cLeast, cWay, cNow, cHour, cDay, cNever, cRaised, cLine, t0, t1, t2, t3⟩ : Ad)) := ⟨_, _, G_law_put, b19, k19, PySem.W.mg_of X G a19⟩
  have G_law_line_right : FnOk l.prog w K mg base (CXF l.prog w) 1 f22 _ ["_law_line", "_law_weight", "_law_roads_here", "_law_sure", "_law_raised"] (sp_law_line_right K (⟨cBellError, cNoClock, cNoHappening, cNoFit, cNoWish, cNoRoad, cNoText, cFit, cLeast, cWay, cNow, cHour, cDay, cNever, cRaised, cLine, t0, t1, t2, t3⟩ : Ad)) := FnOk.up (ok_law_line_right (P := l.prog) (w := w) (base := base) B  F22)
  have C_law_line_right : CalX l.prog w K mg base "_law_line_right" ["_law_line", "_law_weight", "_law_roads_here", "_law_sure", "_law_raised"] 1 (sp_law_line_right K (⟨cBellError, cNoClock, cNoHappening, cNoFit, cNoWish, cNoRoad, cNoText, cFit, cLeast, cWay, cNow, cHour, cDay, cNever, cRaised, cLine, t0, t1, t2, t3⟩ : Ad)) := ⟨_, _, G_law_line_right, b22, k22, PySem.W.mg_of X G a22⟩
  have G_is_whole_between : FnOk l.prog w K mg base (CXF l.prog w) 2 f1 _ ["thing", "least", "most"] (sp_is_whole_between K (⟨cBellError, cNoClock, cNoHappening, cNoFit, cNoWish, cNoRoad, cNoText, cFit, cLeast, cWay, cNow, cHour, cDay, cNever, cRaised, cLine, t0, t1, t2, t3⟩ : Ad)) := FnOk.up (ok_is_whole_between (P := l.prog) (w := w) (base := base) B C_is_whole F1)
  have C_is_whole_between : CalX l.prog w K mg base "is_whole_between" ["thing", "least", "most"] 2 (sp_is_whole_between K (⟨cBellError, cNoClock, cNoHappening, cNoFit, cNoWish, cNoRoad, cNoText, cFit, cLeast, cWay, cNow, cHour, cDay, cNever, cRaised, cLine, t0, t1, t2, t3⟩ : Ad)) := ⟨_, _, G_is_whole_between, b1, k1, PySem.W.mg_of X G a1⟩
  have G_is_whole_from : FnOk l.prog w K mg base (CXF l.prog w) 2 f2 _ ["thing", "least"] (sp_is_whole_from K (⟨cBellError, cNoClock, cNoHappening, cNoFit, cNoWish, cNoRoad, cNoText, cFit, cLeast, cWay, cNow, cHour, cDay, cNever, cRaised, cLine, t0, t1, t2, t3⟩ : Ad)) := FnOk.up (ok_is_whole_from (P := l.prog) (w := w) (base := base) B C_is_whole F2)
  have C_is_whole_from : CalX l.prog w K mg base "is_whole_from" ["thing", "least"] 2 (sp_is_whole_from K (⟨cBellError, cNoClock, cNoHappening, cNoFit, cNoWish, cNoRoad, cNoText, cFit, cLeast, cWay, cNow, cHour, cDay, cNever, cRaised, cLine, t0, t1, t2, t3⟩ : Ad)) := ⟨_, _, G_is_whole_from, b2, k2, PySem.W.mg_of X G a2⟩
  have G_are_unlike_names : FnOk l.prog w K mg base (CXF l.prog w) 2 f7 _ ["thing"] (sp_are_unlike_names K (⟨cBellError, cNoClock, cNoHappening, cNoFit, cNoWish, cNoRoad, cNoText, cFit, cLeast, cWay, cNow, cHour, cDay, cNever, cRaised, cLine, t0, t1, t2, t3⟩ : Ad)) := FnOk.up (ok_are_unlike_names (P := l.prog) (w := w) (base := base) B C_is_name F7)
  have C_are_unlike_names : CalX l.prog w K mg base "are_unlike_names" ["thing"] 2 (sp_are_unlike_names K (⟨cBellError, cNoClock, cNoHappening, cNoFit, cNoWish, cNoRoad, cNoText, cFit, cLeast, cWay, cNow, cHour, cDay, cNever, cRaised, cLine, t0, t1, t2, t3⟩ : Ad)) := ⟨_, _, G_are_unlike_names, b7, k7, PySem.W.mg_of X G a7⟩
  have G_law_name : FnOk l.prog w K mg base (CXF l.prog w) 2 f16 _ ["_law_state"] (sp_law_name K (⟨cBellError, cNoClock, cNoHappening, cNoFit, cNoWish, cNoRoad, cNoText, cFit, cLeast, cWay, cNow, cHour, cDay, cNever, cRaised, cLine, t0, t1, t2, t3⟩ : Ad)) := FnOk.up (ok_law_name (P := l.prog) (w := w) (base := base) B C_law_next F16)
  have C_law_name : CalX l.prog w K mg base "_law_name" ["_law_state"] 2 (sp_law_name K (⟨cBellError, cNoClock, cNoHappening, cNoFit, cNoWish, cNoRoad, cNoText, cFit, cLeast, cWay, cNow, cHour, cDay, cNever, cRaised, cLine, t0, t1, t2, t3⟩ : Ad)) := ⟨_, _, G_law_name, b16, k16, PySem.W.mg_of X G a16⟩
  have G_law_odd_raised : FnOk l.prog w K mg base (CXF l.prog w) 2 f20 _ ["_law_minutes", "_law_times", "_law_to"] (sp_law_odd_raised K (⟨cBellError, cNoClock, cNoHappening, cNoFit, cNoWish, cNoRoad, cNoText, cFit, cLeast, cWay, cNow, cHour, cDay, cNever, cRaised, cLine, t0, t1, t2, t3⟩ : Ad)) := FnOk.up (ok_law_odd_raised (P := l.prog) (w := w) (base := base) B C_law_put F20)
  have C_law_odd_raised : CalX l.prog w K mg base "_law_odd_raised" ["_law_minutes", "_law_times", "_law_to"] 2 (sp_law_odd_raised K (⟨cBellError, cNoClock, cNoHappening, cNoFit, cNoWish, cNoRoad, cNoText, cFit, cLeast, cWay, cNow, cHour, cDay, cNever, cRaised, cLine, t0, t1, t2, t3⟩ : Ad)) := ⟨_, _, G_law_odd_raised, b20, k20, PySem.W.mg_of X G a20⟩
  have G_law_odd_line : FnOk l.prog w K mg base (CXF l.prog w) 2 f21 _ ["_law_fit", "_law_way", "_law_roads_here", "_law_raised"] (sp_law_odd_line K (⟨cBellError, cNoClock, cNoHappening, cNoFit, cNoWish, cNoRoad, cNoText, cFit, cLeast, cWay, cNow, cHour, cDay, cNever, cRaised, cLine, t0, t1, t2, t3⟩ : Ad)) := FnOk.up (ok_law_odd_line (P := l.prog) (w := w) (base := base) B C_law_put F21)
  have C_law_odd_line : CalX l.prog w K mg base "_law_odd_line" ["_law_fit", "_law_way", "_law_roads_here", "_law_raised"] 2 (sp_law_odd_line K (⟨cBellError, cNoClock, cNoHappening, cNoFit, cNoWish, cNoRoad, cNoText, cFit, cLeast, cWay, cNow, cHour, cDay, cNever, cRaised, cLine, t0, t1, t2, t3⟩ : Ad)) := ⟨_, _, G_law_odd_line, b21, k21, PySem.W.mg_of X G a21⟩
  have G_is_minute_of_day : FnOk l.prog w K mg base (CXF l.prog w) 3 f3 _ ["thing"] (sp_is_minute_of_day K (⟨cBellError, cNoClock, cNoHappening, cNoFit, cNoWish, cNoRoad, cNoText, cFit, cLeast, cWay, cNow, cHour, cDay, cNever, cRaised, cLine, t0, t1, t2, t3⟩ : Ad)) := FnOk.up (ok_is_minute_of_day (P := l.prog) (w := w) (base := base) B C_is_whole_between F3)
  have C_is_minute_of_day : CalX l.prog w K mg base "is_minute_of_day" ["thing"] 3 (sp_is_minute_of_day K (⟨cBellError, cNoClock, cNoHappening, cNoFit, cNoWish, cNoRoad, cNoText, cFit, cLeast, cWay, cNow, cHour, cDay, cNever, cRaised, cLine, t0, t1, t2, t3⟩ : Ad)) := ⟨_, _, G_is_minute_of_day, b3, k3, PySem.W.mg_of X G a3⟩
  have G_check_minute_of_hour : FnOk l.prog w K mg base (CXF l.prog w) 3 f4 _ ["minute"] (sp_check_minute_of_hour K (⟨cBellError, cNoClock, cNoHappening, cNoFit, cNoWish, cNoRoad, cNoText, cFit, cLeast, cWay, cNow, cHour, cDay, cNever, cRaised, cLine, t0, t1, t2, t3⟩ : Ad)) := FnOk.up (ok_check_minute_of_hour (P := l.prog) (w := w) (base := base) B C_is_whole_between F4)
  have C_check_minute_of_hour : CalX l.prog w K mg base "check_minute_of_hour" ["minute"] 3 (sp_check_minute_of_hour K (⟨cBellError, cNoClock, cNoHappening, cNoFit, cNoWish, cNoRoad, cNoText, cFit, cLeast, cWay, cNow, cHour, cDay, cNever, cRaised, cLine, t0, t1, t2, t3⟩ : Ad)) := ⟨_, _, G_check_minute_of_hour, b4, k4, PySem.W.mg_of X G a4⟩
  have G_Least___init__ : FnOk l.prog w K mg base (CXF l.prog w) 3 f8 _ ["self", "weight"] (sp_Least___init__ K (⟨cBellError, cNoClock, cNoHappening, cNoFit, cNoWish, cNoRoad, cNoText, cFit, cLeast, cWay, cNow, cHour, cDay, cNever, cRaised, cLine, t0, t1, t2, t3⟩ : Ad)) := FnOk.up (ok_Least___init__ (P := l.prog) (w := w) (base := base) B C_is_whole_from F8)
  have CC_Least : CalC l.prog w K mg base "Least" cLeast ["self", "weight"] 3 (sp_Least___init__ K (⟨cBellError, cNoClock, cNoHappening, cNoFit, cNoWish, cNoRoad, cNoText, cFit, cLeast, cWay, cNow, cHour, cDay, cNever, cRaised, cLine, t0, t1, t2, t3⟩ : Ad)) := ⟨_, _, G_Least___init__, b8, ⟨mkLeast, a8, i8, kcLeast⟩, B.Least⟩
  have G_Raised___init__ : FnOk l.prog w K mg base (CXF l.prog w) 3 f11 _ ["self", "minutes", "times", "to"] (sp_Raised___init__ K (⟨cBellError, cNoClock, cNoHappening, cNoFit, cNoWish, cNoRoad, cNoText, cFit, cLeast, cWay, cNow, cHour, cDay, cNever, cRaised, cLine, t0, t1, t2, t3⟩ : Ad)) := ok_Raised___init__ (P := l.prog) (w := w) (base := base) B C_is_whole_from C_is_name F11
  have CD_Raised_3 : CalD l.prog w K mg base "Raised" cRaised ["self", "minutes", "times", "to"] 3 [] (sp_Raised___init__ K (⟨cBellError, cNoClock, cNoHappening, cNoFit, cNoWish, cNoRoad, cNoText, cFit, cLeast, cWay, cNow, cHour, cDay, cNever, cRaised, cLine, t0, t1, t2, t3⟩ : Ad)) := ⟨_, _, _, G_Raised___init__, b11_3, .nil, ⟨mkRaised, a11, i11, kcRaised⟩, B.Raised⟩
  have CD_Raised_2 : CalD l.prog w K mg base "Raised" cRaised ["self", "minutes", "times", "to"] 3 [.non] (sp_Raised___init__ K (⟨cBellError, cNoClock, cNoHappening, cNoFit, cNoWish, cNoRoad, cNoText, cFit, cLeast, cWay, cNow, cHour, cDay, cNever, cRaised, cLine, t0, t1, t2, t3⟩ : Ad)) := ⟨_, _, _, G_Raised___init__, b11_2, (.cons rfl .nil), ⟨mkRaised, a11, i11, kcRaised⟩, B.Raised⟩
  have G_Line___init__ : FnOk l.prog w K mg base (CXF l.prog w) 3 f12 _ ["self", "fit", "way", "roads", "sure", "raised"] (sp_Line___init__ K (⟨cBellError, cNoClock, cNoHappening, cNoFit, cNoWish, cNoRoad, cNoText, cFit, cLeast, cWay, cNow, cHour, cDay, cNever, cRaised, cLine, t0, t1, t2, t3⟩ : Ad)) := ok_Line___init__ (P := l.prog) (w := w) (base := base) B C_check_by_way C_are_unlike_names F12
  have CD_Line_5 : CalD l.prog w K mg base "Line" cLine ["self", "fit", "way", "roads", "sure", "raised"] 3 [] (sp_Line___init__ K (⟨cBellError, cNoClock, cNoHappening, cNoFit, cNoWish, cNoRoad, cNoText, cFit, cLeast, cWay, cNow, cHour, cDay, cNever, cRaised, cLine, t0, t1, t2, t3⟩ : Ad)) := ⟨_, _, _, G_Line___init__, b12_5, .nil, ⟨mkLine, a12, i12, kcLine⟩, B.Line⟩
  have CD_Line_3 : CalD l.prog w K mg base "Line" cLine ["self", "fit", "way", "roads", "sure", "raised"] 3 [.bl false, .non] (sp_Line___init__ K (⟨cBellError, cNoClock, cNoHappening, cNoFit, cNoWish, cNoRoad, cNoText, cFit, cLeast, cWay, cNow, cHour, cDay, cNever, cRaised, cLine, t0, t1, t2, t3⟩ : Ad)) := ⟨_, _, _, G_Line___init__, b12_3, (.cons rfl (.cons rfl .nil)), ⟨mkLine, a12, i12, kcLine⟩, B.Line⟩
  have G_law_roads : FnOk l.prog w K mg base (CXF l.prog w) 3 f17 _ ["_law_state"] (sp_law_roads K (⟨cBellError, cNoClock, cNoHappening, cNoFit, cNoWish, cNoRoad, cNoText, cFit, cLeast, cWay, cNow, cHour, cDay, cNever, cRaised, cLine, t0, t1, t2, t3⟩ : Ad)) := FnOk.up (ok_law_roads (P := l.prog) (w := w) (base := base) B C_law_name C_law_next F17)
  have C_law_roads : CalX l.prog w K mg base "_law_roads" ["_law_state"] 3 (sp_law_roads K (⟨cBellError, cNoClock, cNoHappening, cNoFit, cNoWish, cNoRoad, cNoText, cFit, cLeast, cWay, cNow, cHour, cDay, cNever, cRaised, cLine, t0, t1, t2, t3⟩ : Ad)) := ⟨_, _, G_law_roads, b17, k17, PySem.W.mg_of X G a17⟩
  have G_check_minute_of_day : FnOk l.prog w K mg base (CXF l.prog w) 4 f5 _ ["minute"] (sp_check_minute_of_day K (⟨cBellError, cNoClock, cNoHappening, cNoFit, cNoWish, cNoRoad, cNoText, cFit, cLeast, cWay, cNow, cHour, cDay, cNever, cRaised, cLine, t0, t1, t2, t3⟩ : Ad)) := FnOk.up (ok_check_minute_of_day (P := l.prog) (w := w) (base := base) B C_is_minute_of_day F5)
  have C_check_minute_of_day : CalX l.prog w K mg base "check_minute_of_day" ["minute"] 4 (sp_check_minute_of_day K (⟨cBellError, cNoClock, cNoHappening, cNoFit, cNoWish, cNoRoad, cNoText, cFit, cLeast, cWay, cNow, cHour, cDay, cNever, cRaised, cLine, t0, t1, t2, t3⟩ : Ad)) := ⟨_, _, G_check_minute_of_day, b5, k5, PySem.W.mg_of X G a5⟩
  have G_Hour___init__ : FnOk l.prog w K mg base (CXF l.prog w) 4 f9 _ ["self", "minute"] (sp_Hour___init__ K (⟨cBellError, cNoClock, cNoHappening, cNoFit, cNoWish, cNoRoad, cNoText, cFit, cLeast, cWay, cNow, cHour, cDay, cNever, cRaised, cLine, t0, t1, t2, t3⟩ : Ad)) := FnOk.up (ok_Hour___init__ (P := l.prog) (w := w) (base := base) B C_check_minute_of_hour F9)
  have CC_Hour : CalC l.prog w K mg base "Hour" cHour ["self", "minute"] 4 (sp_Hour___init__ K (⟨cBellError, cNoClock, cNoHappening, cNoFit, cNoWish, cNoRoad, cNoText, cFit, cLeast, cWay, cNow, cHour, cDay, cNever, cRaised, cLine, t0, t1, t2, t3⟩ : Ad)) := ⟨_, _, G_Hour___init__, b9, ⟨mkHour, a9, i9, kcHour⟩, B.Hour⟩
  have G_Day___init__ : FnOk l.prog w K mg base (CXF l.prog w) 5 f10 _ ["self", "minute"] (sp_Day___init__ K (⟨cBellError, cNoClock, cNoHappening, cNoFit, cNoWish, cNoRoad, cNoText, cFit, cLeast, cWay, cNow, cHour, cDay, cNever, cRaised, cLine, t0, t1, t2, t3⟩ : Ad)) := FnOk.up (ok_Day___init__ (P := l.prog) (w := w) (base := base) B C_check_minute_of_day F10)
  have CC_Day : CalC l.prog w K mg base "Day" cDay ["self", "minute"] 5 (sp_Day___init__ K (⟨cBellError, cNoClock, cNoHappening, cNoFit, cNoWish, cNoRoad, cNoText, cFit, cLeast, cWay, cNow, cHour, cDay, cNever, cRaised, cLine, t0, t1, t2, t3⟩ : Ad)) := ⟨_, _, G_Day___init__, b10, ⟨mkDay, a10, i10, kcDay⟩, B.Day⟩
  have G_law_refused : FnOk l.prog w K mg base (CXF l.prog w) 5 f18 _ ["_law_word", "_law_parts"] (sp_law_refused K (⟨cBellError, cNoClock, cNoHappening, cNoFit, cNoWish, cNoRoad, cNoText, cFit, cLeast, cWay, cNow, cHour, cDay, cNever, cRaised, cLine, t0, t1, t2, t3⟩ : Ad)) := FnOk.up (ok_law_refused (P := l.prog) (w := w) (base := base) B CD_Raised_3 CD_Line_5 F18)
  have C_law_refused : CalX l.prog w K mg base "_law_refused" ["_law_word", "_law_parts"] 5 (sp_law_refused K (⟨cBellError, cNoClock, cNoHappening, cNoFit, cNoWish, cNoRoad, cNoText, cFit, cLeast, cWay, cNow, cHour, cDay, cNever, cRaised, cLine, t0, t1, t2, t3⟩ : Ad)) := ⟨_, _, G_law_refused, b18, k18, PySem.W.mg_of X G a18⟩
  exact ok_law (P := l.prog) (w := w) (base := base) B C_law_begin C_law_next CD_Raised_3 CD_Raised_2 C_law_roads CC_Least CD_Line_5 C_law_odd_raised C_law_odd_line C_law_line_right C_law_name CC_Hour CC_Day CD_Line_3 C_law_refused F23
theorem walk {l : PySem.W.OpenLaw} {q : Program} {loose : List Str} {XP : (Str → Option Value) → Heap → Prop} {YP : World → Heap → Prop} {d : DefRec} {K : Params → PySem.W.Frag} (hn : l.most = some 63) (hdf : d.params.defaults = [])
    (hY : ∀ (w : World) (h : Heap), YP w h → (K w.params).In h)
    (F : ∀ (w : World) (mg : Str → Option Value) (fa : Addr) (h : Heap), (K w.params).In h → h.Ns mainGlobals mg → mg d.name = some (.ref fa) →
      ∃ fd : FuncData, (∀ (s : Shared) (u : Value), BindsTo s fd ⟨[u], []⟩ [("_law_script", u)]) ∧ ∀ base : Heap, (K w.params).In base → base.Ns mainGlobals mg → FnOk l.prog w (K w.params) mg base CX0 7 fa fd ["_law_script"] (spL (K w.params))) :
    PySem.W.WalkO q loose XP YP l.row.toRowW d [] (fun f vs => PySem.call f vs) :=
  L2.walk_of (n := 63) (k := 7) (x := "_law_script") (CX := fun _ => CX0) (sp := fun w => spL (K w.params)) hn (by decide) hdf ⟨rfl, by decide, by decide⟩ hY F (fun _ _ a ns hl _ hS => ⟨a, ns, rfl, hS, hl, fun _ => rfl⟩) fun _ _ _ _ _ z => z
theorem all_mk2 {P : Program} {w : World} {K : PySem.W.Frag} {mg : Str → Option Value} {fa : Addr} (h : ∃ (a : Ad) (fd : FuncData), (∀ (s : Shared) (v : Value), BindsTo s fd ⟨[v], []⟩ [("_law_script", v)]) ∧ ∀ base : Heap, K.In base → base.Ns mainGlobals mg → FnOk P w K mg base CX0 7 fa fd ["_law_script"] (sp_law K a)) :
    ∃ fd : FuncData, (∀ (s : Shared) (v : Value), BindsTo s fd ⟨[v], []⟩ [("_law_script", v)]) ∧ ∀ base : Heap, K.In base → base.Ns mainGlobals mg → FnOk P w K mg base CX0 7 fa fd ["_law_script"] (spL K) := by
  obtain ⟨a, fd, b, q⟩ := h
  exact ⟨fd, b, fun base x y => q base x y⟩
end Bw
open PySem PySem.W PyProof.Rows
set_option maxRecDepth 100000 in
set_option maxHeartbeats 0 in
theorem PySem.Challenge.cw_bellsaway_k12_lines_made_holds : PySem.Challenge.rw_bellsaway_k12_lines_made.Holds := by
  w_on; o_law; k_head; (case hw => w_witness2)
  k_fill
  refine Bw.walk (l := PySem.Challenge.rw_bellsaway_k12_lines_made) rfl rfl (fun w h Y => PySem.W.kIn_of Y) ?F
  case F =>
    intro w mg fa h KX G hmg
    refine Bw.all_mk2 ?Z
    refine' Bw.all_mk KX G hmg ?a0 ?l0 ?c0 ?k0 ?a1 ?l1 ?c1 ?k1 ?a2 ?l2 ?c2 ?k2 ?a3 ?l3 ?c3 ?k3 ?a4 ?l4 ?c4 ?k4 ?a5 ?l5 ?c5 ?k5 ?a6 ?l6 ?c6 ?k6 ?a7 ?l7 ?c7 ?k7 ?a8 ?i8 ?l8 ?c8 ?k8 ?a9 ?i9 ?l9 ?c9 ?k9 ?a10 ?i10 ?l10 ?c10 ?k10 ?a11 ?i11 ?l11 ?d11 ?c11 ?a12 ?i12 ?l12 ?d12 ?c12 ?a13 ?l13 ?c13 ?k13 ?a14 ?l14 ?c14 ?k14 ?a15 ?l15 ?c15 ?k15 ?a16 ?l16 ?c16 ?k16 ?a17 ?l17 ?c17 ?k17 ?a18 ?l18 ?c18 ?k18 ?a19 ?l19 ?c19 ?k19 ?a20 ?l20 ?c20 ?k20 ?a21 ?l21 ?c21 ?k21 ?a22 ?l22 ?c22 ?k22 ?a23 ?l23 ?c23 ?k23 ?y0 ?y1 ?y2 ?y3 ?y4 ?y5 ?y6 ?y7 ?y8 ?y9 ?y10 ?y11 ?y12 ?y13 ?y14 ?y15 ?y16 ?y17 ?y18 ?y19 ?y20 ?y21 ?y22 ?y23 ?y24 ?y25 ?y26 ?y27 ?y28 ?y29 ?y30 ?y31 ?y32_0 ?y32_1 ?y32_2 ?y32_3 ?y32_4 ?y32_5 ?y33 ?y34 ?y35 ?y36 ?y37_0 ?y37_1 ?y37_2 ?y37_3 ?y37_4 ?y37_5 ?y37_6 ?y37_7 ?y38 ?y39_0 ?y39_1 ?y39_2 ?y39_3 ?y39_4 ?y39_5 ?y39_6 ?y39_7 ?y40_0 ?y40_1 ?y40_2 ?y40_3 ?y40_4 ?y40_5 ?y40_6 ?y40_7 ?y41 ?y42_0 ?y42_1 ?y42_2 ?y42_3 ?y42_4 ?y42_5 ?y42_6 ?y42_7 ?y43 ?y44_0 ?y44_1 ?y44_2 ?y44_3 ?y44_4 ?y44_5 ?y44_6 ?y44_7 ?y45_0 ?y45_1 ?y45_2 ?y45_3 ?y45_4 ?y45_5 ?y45_6 ?y45_7 ?y46 ?y47 ?y48 ?y49_0 ?y49_1 ?y49_2 ?y49_3 ?y49_4 ?y49_5 ?y49_6 ?y49_7 ?y50 ?y51 ?y52 ?y53 ?y54 ?y55 ?y56 ?y57 ?y58 ?y59 ?y60 ?y61 ?y62 ?y63 ?y64 ?y65 ?y66 ?y67 ?y68 ?y69 ?y70 ?y71 ?y72 ?y73 ?y74 ?y75 ?y76 ?y77 ?y78 ?y79 ?y80 ?y81 ?y82 ?y83 ?y84 ?y85 ?y86 ?y87 ?y88 ?y89 ?y90 ?y91 ?y92 ?y93 ?y94 ?y95 ?y96 ?y97 ?y98_0 ?y98_1 ?y98_2 ?y99_0 ?y99_1 ?y99_2 ?mkLeast ?kcLeast ?mkHour ?kcHour ?mkDay ?kcDay ?mkRaised ?kcRaised ?mkLine ?kcLine
    (case y0 => k_is)
    (case y1 => k_is)
    (case y2 => k_is)
    (case y3 => k_is)
    (case y4 => k_is)
    (case y5 => k_is)
    (case y6 => k_is)
    (case y7 => k_is)
    (case y8 => k_is)
    (case y9 => k_is)
    (case y10 => k_is)
    (case y11 => k_is)
    (case y12 => k_is)
    (case y13 => k_is)
    (case y14 => k_is)
    (case y15 => k_is)
    (case y16 => k_is)
    (case y17 => k_is)
    (case y18 => k_is)
    (case y19 => k_is)
    (case y20 => k_is)
    (case y21 => k_is)
    (case y22 => k_is)
    (case y23 => k_is)
    (case y24 => k_is)
    (case y25 => k_is)
    (case y26 => k_is)
    (case y27 => k_is)
    (case y28 => k_is)
    (case y29 => k_is)
    (case y30 => k_is)
    (case a0 => k_is)
    (case l0 => k_is)
    (case c0 => k_is)
    (case k0 => k_is)
    (case a1 => k_is)
    (case l1 => k_is)
    (case c1 => k_is)
    (case k1 => k_is)
    (case a2 => k_is)
    (case l2 => k_is)
    (case c2 => k_is)
    (case k2 => k_is)
    (case a3 => k_is)
    (case l3 => k_is)
    (case c3 => k_is)
    (case k3 => k_is)
    (case a4 => k_is)
    (case l4 => k_is)
    (case c4 => k_is)
    (case k4 => k_is)
    (case a5 => k_is)
    (case l5 => k_is)
    (case c5 => k_is)
    (case k5 => k_is)
    (case a6 => k_is)
    (case l6 => k_is)
    (case c6 => k_is)
    (case k6 => k_is)
    (case a7 => k_is)
    (case l7 => k_is)
    (case c7 => k_is)
    (case k7 => k_is)
    (case a8 => k_is)
    (case i8 => k_is)
    (case l8 => k_is)
    (case c8 => k_is)
    (case k8 => k_is)
    (case a9 => k_is)
    (case i9 => k_is)
    (case l9 => k_is)
    (case c9 => k_is)
    (case k9 => k_is)
    (case a10 => k_is)
    (case i10 => k_is)
    (case l10 => k_is)
    (case c10 => k_is)
    (case k10 => k_is)
    (case a11 => k_is)
    (case i11 => k_is)
    (case l11 => k_is)
    (case d11 => k_is)
    (case c11 => k_is)
    (case a12 => k_is)
    (case i12 => k_is)
    (case l12 => k_is)
    (case d12 => k_is)
    (case c12 => k_is)
    (case a13 => k_is)
    (case l13 => k_is)
    (case c13 => k_is)
    (case k13 => k_is)
    (case a14 => k_is)
    (case l14 => k_is)
    (case c14 => k_is)
    (case k14 => k_is)
    (case a15 => k_is)
    (case l15 => k_is)
    (case c15 => k_is)
    (case k15 => k_is)
    (case a16 => k_is)
    (case l16 => k_is)
    (case c16 => k_is)
    (case k16 => k_is)
    (case a17 => k_is)
    (case l17 => k_is)
    (case c17 => k_is)
    (case k17 => k_is)
    (case a18 => k_is)
    (case l18 => k_is)
    (case c18 => k_is)
    (case k18 => k_is)
    (case a19 => k_is)
    (case l19 => k_is)
    (case c19 => k_is)
    (case k19 => k_is)
    (case a20 => k_is)
    (case l20 => k_is)
    (case c20 => k_is)
    (case k20 => k_is)
    (case a21 => k_is)
    (case l21 => k_is)
    (case c21 => k_is)
    (case k21 => k_is)
    (case a22 => k_is)
    (case l22 => k_is)
    (case c22 => k_is)
    (case k22 => k_is)
    (case a23 => k_is)
    (case l23 => k_is)
    (case c23 => k_is)
    (case k23 => k_is)
    (case y31 => k_exc)
    (case y32_0 => k_is)
    (case y32_1 => k_is)
    (case y32_2 => k_is)
    (case y32_3 => k_is)
    (case y32_4 => k_is)
    (case y32_5 => k_is)
    (case y33 => kts_exm)
    (case y34 => kit_is)
    (case y35 => kit_is)
    (case y36 => kit_is)
    (case y37_0 => k_is)
    (case y37_1 => k_is)
    (case y37_2 => k_is)
    (case y37_3 => k_is)
    (case y37_4 => k_is)
    (case y37_5 => k_is)
    (case y37_6 => k_is)
    (case y37_7 => k_is)
    (case y38 => k_is)
    (case y39_0 => k_is)
    (case y39_1 => k_is)
    (case y39_2 => k_is)
    (case y39_3 => k_is)
    (case y39_4 => k_is)
    (case y39_5 => k_is)
    (case y39_6 => k_is)
    (case y39_7 => k_is)
    (case y40_0 => k_is)
    (case y40_1 => k_is)
    (case y40_2 => k_is)
    (case y40_3 => k_is)
    (case y40_4 => k_is)
    (case y40_5 => k_is)
    (case y40_6 => k_is)
    (case y40_7 => k_is)
    (case y41 => k_is)
    (case y42_0 => k_is)
    (case y42_1 => k_is)
    (case y42_2 => k_is)
    (case y42_3 => k_is)
    (case y42_4 => k_is)
    (case y42_5 => k_is)
    (case y42_6 => k_is)
    (case y42_7 => k_is)
    (case y43 => k_is)
    (case y44_0 => k_is)
    (case y44_1 => k_is)
    (case y44_2 => k_is)
    (case y44_3 => k_is)
    (case y44_4 => k_is)
    (case y44_5 => k_is)
    (case y44_6 => k_is)
    (case y44_7 => k_is)
    (case y45_0 => k_is)
    (case y45_1 => k_is)
    (case y45_2 => k_is)
    (case y45_3 => k_is)
    (case y45_4 => k_is)
    (case y45_5 => k_is)
    (case y45_6 => k_is)
    (case y45_7 => k_is)
    (case y46 => k_is)
    (case y47 => k_is)
    (case y48 => k_is)
    (case y49_0 => k_is)
    (case y49_1 => k_is)
    (case y49_2 => k_is)
    (case y49_3 => k_is)
    (case y49_4 => k_is)
    (case y49_5 => k_is)
    (case y49_6 => k_is)
    (case y49_7 => k_is)
    (case y50 => k_is)
    (case y51 => k_is)
    (case y52 => k_is)
    (case y53 => k_is)
    (case y54 => k_is)
    (case y55 => kit_is)
    (case y56 => kit_is)
    (case y57 => kit_is)
    (case y58 => kit_is)
    (case y59 => kit_is)
    (case y60 => kit_is)
    (case y61 => kit_is)
    (case y62 => kit_is)
    (case y63 => kit_is)
    (case y64 => kit_is)
    (case y65 => kit_is)
    (case y66 => kit_is)
    (case y67 => kit_is)
    (case y68 => kit_is)
    (case y69 => kit_is)
    (case y70 => kit_is)
    (case y71 => kit_is)
    (case y72 => kit_is)
    (case y73 => kit_is)
    (case y74 => kit_is)
    (case y75 => kit_is)
    (case y76 => kit_is)
    (case y77 => kit_is)
    (case y78 => kit_is)
    (case y79 => kit_is)
    (case y80 => kit_is)
    (case y81 => kit_is)
    (case y82 => kit_is)
    (case y83 => kit_is)
    (case y84 => kit_is)
    (case y85 => kit_is)
    (case y86 => kit_is)
    (case y87 => kit_is)
    (case y88 => kit_is)
    (case y89 => kit_is)
    (case y90 => kit_is)
    (case y91 => kit_is)
    (case y92 => kit_is)
    (case y93 => kit_is)
    (case y94 => kit_is)
    (case y95 => kit_is)
    (case y96 => kit_is)
    (case y97 => kit_is)
    (case y98_0 => k_is)
    (case y98_1 => k_is)
    (case y98_2 => k_is)
    (case y99_0 => k_is)
    (case y99_1 => k_is)
    (case y99_2 => k_is)
    (case mkLeast => k_is)
    (case kcLeast => k_is)
    (case mkHour => k_is)
    (case kcHour => k_is)
    (case mkDay => k_is)
    (case kcDay => k_is)
    (case mkRaised => k_is)
    (case kcRaised => k_is)
    (case mkLine => k_is)
    (case kcLine => k_is)
