import PyProof.Rows.All
import Wide.All
import OpenK.AllK
import Wide.FinOn
import Lean
import PyProof.EqAt
import PyProof.EqKinds
import PyProof.TupleCall
import PySem.Challenge.RW_bellsaway_k09_whole_fits_turned
set_option Elab.async false
set_option linter.all false
set_option maxRecDepth 100000
namespace L2
open PySem PySem.Spec PyProof.Rows
abbrev Key := Sum Int Str
def keyIs : Key → Value → Bool
  | .inl k, v => Value.isInt k v
  | .inr x, v => Value.isStrOf x v
def keyH (w : World) : Key → Int
  | .inl k => hashInt k
  | .inr x => hashStr w x
theorem keyIs_shape : ∀ {k : Key} {v : Value}, keyIs k v = true → (∃ i t, k = Sum.inl i ∧ v = Value.int i t) ∨ (∃ x t, k = Sum.inr x ∧ v = Value.str x t)
  | .inl i, v, h => by
    obtain ⟨t, e⟩ := Value.isInt_shape (k := i) (v := v) h
    exact .inl ⟨i, t, rfl, e⟩
  | .inr x, v, h => by
    obtain ⟨t, e⟩ := Value.isStrOf_shape (x := x) (v := v) h
    exact .inr ⟨x, t, rfl, e⟩
theorem key_ll (a b : Int) : decide ((Sum.inl a : Key) = Sum.inl b) = (a == b) := by
  by_cases e : a = b
  · subst e; simp
  · have h : ¬ (Sum.inl a : Key) = Sum.inl b := fun q => e (Sum.inl.inj q)
    rw [decide_eq_false h]
    exact (beq_eq_false_iff_ne.mpr e).symm
theorem key_rr (a b : Str) : decide ((Sum.inr a : Key) = Sum.inr b) = decide (a = b) := by
  by_cases e : a = b
  · subst e; simp
  · have h : ¬ (Sum.inr a : Key) = Sum.inr b := fun q => e (Sum.inr.inj q)
    rw [decide_eq_false h, decide_eq_false e]
theorem key_lr (a : Int) (b : Str) : decide ((Sum.inl a : Key) = Sum.inr b) = false := decide_eq_false (fun q => nomatch q)
theorem key_rl (a : Str) (b : Int) : decide ((Sum.inr a : Key) = Sum.inl b) = false := decide_eq_false (fun q => nomatch q)
def mixKind (prog : Program) (w : World) : PySem.KeyKind prog w Key where
  is := keyIs
  hash := keyH w
  inj := fun v a b ha hb => by
    rcases keyIs_shape ha with ⟨i, t, rfl, rfl⟩ | ⟨x, t, rfl, rfl⟩
    · rcases keyIs_shape hb with ⟨j, u, rfl, e⟩ | ⟨y, u, rfl, e⟩
      · injection e with e1 _; rw [e1]
      · exact nomatch e
    · rcases keyIs_shape hb with ⟨j, u, rfl, e⟩ | ⟨y, u, rfl, e⟩
      · exact nomatch e
      · injection e with e1 _; rw [e1]
  byValue := fun k v h => by
    rcases keyIs_shape h with ⟨i, t, rfl, rfl⟩ | ⟨x, t, rfl, rfl⟩ <;> rfl
  pyHash := fun hv h => by
    rcases keyIs_shape hv with ⟨i, t, rfl, rfl⟩ | ⟨x, t, rfl, rfl⟩
    · exact wpAny_pyHash_int h
    · exact wpAny_pyHash_str h
  eqBool := fun hu hv h => by
    rcases keyIs_shape hu with ⟨i, t, rfl, rfl⟩ | ⟨x, t, rfl, rfl⟩
    · rcases keyIs_shape hv with ⟨j, u, rfl, rfl⟩ | ⟨y, u, rfl, rfl⟩
      · rw [key_ll] at h; exact wpAny_eqBool_int h
      · rw [key_lr] at h; exact SeqAt.EqAt.int_str i t y u _ _ _ _ h
    · rcases keyIs_shape hv with ⟨j, u, rfl, rfl⟩ | ⟨y, u, rfl, rfl⟩
      · rw [key_rl] at h; exact SeqAt.EqAt.str_int x t j u _ _ _ _ h
      · rw [key_rr] at h; exact wpAny_eqBool_str h
  «strs» := fun k x t v h => by
    rcases keyIs_shape h with ⟨i, u, rfl, e⟩ | ⟨y, u, rfl, e⟩
    · exact nomatch e
    · injection e with e1 _
      subst e1
      cases v <;> rfl
end L2
namespace L2
open PySem PySem.Spec PyProof.Rows
inductive V where
  | non | bl (b : Bool) | int (i : Int) | str (x : Str) | byt (b : Array UInt8) | flt (b : UInt64) | ref (a : Addr) | ty (n : String)
  deriving DecidableEq
def RelV : V → Value → Prop
  | .non, u => u = Value.none
  | .bl b, u => u = Value.bool b
  | .int i, u => ∃ t, u = Value.int i t
  | .str x, u => ∃ t, u = Value.str x t
  | .byt b, u => ∃ t, u = Value.bytes b t
  | .flt b, u => ∃ t, u = Value.float b t
  | .ref a, u => u = Value.ref a
  | .ty n, u => u = Value.type n
abbrev Vals : List V → List Value → Prop := Paired RelV
theorem Vals.length {xs : List V} {us : List Value} (r : Vals xs us) : xs.length = us.length := Paired.length r
theorem Vals.get : ∀ {xs : List V} {us : List Value} {i : Nat} {x : V}, Vals xs us → xs[i]? = some x → ∃ u, us[i]? = some u ∧ RelV x u
  | _, _, _, _, .nil, e => by simp at e
  | _, _, 0, _, .cons r _, e => by simp at e; subst e; exact ⟨_, rfl, r⟩
  | _, _, i + 1, x, .cons _ t, e => by
    obtain ⟨u, h1, h2⟩ := Vals.get (i := i) (x := x) t (by simpa using e)
    exact ⟨u, by simpa using h1, h2⟩
theorem Vals.set {x : V} {u : Value} (r : RelV x u) : ∀ {xs : List V} {us : List Value} (i : Nat), Vals xs us → Vals (xs.set i x) (us.set i u)
  | _, _, _, .nil => .nil
  | _, _, 0, .cons _ t => .cons r t
  | _, _, i + 1, .cons q t => .cons q (Vals.set r i t)
theorem Vals.append : ∀ {xs ys : List V} {us ws : List Value}, Vals xs us → Vals ys ws → Vals (xs ++ ys) (us ++ ws)
  | _, _, _, _, .nil, s => s
  | _, _, _, _, .cons r t, s => .cons r (Vals.append t s)
theorem Vals.take : ∀ {xs : List V} {us : List Value} (n : Nat), Vals xs us → Vals (xs.take n) (us.take n)
  | _, _, 0, _ => .nil
  | _, _, _ + 1, .nil => .nil
  | _, _, n + 1, .cons r t => .cons r (Vals.take n t)
theorem Vals.drop : ∀ {xs : List V} {us : List Value} (n : Nat), Vals xs us → Vals (xs.drop n) (us.drop n)
  | _, _, 0, r => r
  | _, _, _ + 1, .nil => .nil
  | _, _, n + 1, .cons _ t => Vals.drop n t
theorem Vals.none_of : ∀ {xs : List V} {us : List Value} {i : Nat}, Vals xs us → xs[i]? = none → us[i]? = none := fun {xs us i} r e => by
  have h1 := r.length
  have h2 : xs.length ≤ i := List.getElem?_eq_none_iff.mp e
  exact List.getElem?_eq_none_iff.mpr (by omega)
def RelO : Option V → Option Value → Prop
  | some v, some u => RelV v u
  | none, none => True
  | _, _ => False
def KV {κ : Type} : List (κ × V) → List (κ × Value) → Prop := Paired fun (p : κ × V) (q : κ × Value) => p.1 = q.1 ∧ RelV p.2 q.2
def kV : Key → V
  | .inl i => .int i
  | .inr x => .str x
inductive HO where
    | lst (xs : List V)
    | tup (xs : List V)
    | dK (kvs : List (Key × V)) | dT (kvs : List (List Key × V))
    | set (S : Int → Bool) (n : Nat)
    | ins (C dx : Addr) (fs : List (Str × V))
    | own (x : Addr)
    | xd (fs : List (Str × V))
    | met (f x : Addr)
    | rng (lo hi : Int)
    | frz (o : Obj) (u : HO)
    | tbl (ps : Array Value)
    | ext (φ : Heap → Prop)
abbrev Hp := Addr → Option HO
def upd (H : Hp) (a : Addr) (o : HO) : Hp := fun b => if b = a then some o else H b
theorem upd_same {H : Hp} {a : Addr} {o : HO} : upd H a o a = some o := by unfold upd; rw [if_pos rfl]
theorem upd_ne {H : Hp} {a b : Addr} {o : HO} (h : b ≠ a) : upd H a o b = H b := by unfold upd; rw [if_neg h]
theorem ne_of {H : Hp} {a b : Addr} {o u : HO} (h : H a = some o) (h' : H b = some u) (d : o ≠ u) : a ≠ b := by
  intro e; subst e; rw [h] at h'; exact d (Option.some.inj h')
theorem ne_of_none {H : Hp} {a b : Addr} {o : HO} (h : H a = some o) (h' : H b = none) : a ≠ b := by
  intro e; subst e; rw [h] at h'; cases h'
section
variable (P : Program) (w : World)
def ObjOk (H : Hp) (h : Heap) (a : Addr) : HO → Prop
  | .lst xs => xs.length ≤ sizeLine ∧ ∃ (its : List Value) (n : Nat), Vals xs its ∧ h.get? a = some { cls := .type "list", data := .seq its.toArray n }
  | .tup xs => xs.length ≤ sizeLine ∧ ∃ its : List Value, Vals xs its ∧ IsTup h a its.toArray
  | .dK kvs => kvs.length ≤ sizeLine ∧ (a == sysModules) = false ∧ ∃ vs, KV kvs vs ∧ h.DictOf (mixKind P w) a vs
  | .dT kvs => kvs.length ≤ sizeLine ∧ (a == sysModules) = false ∧ ∃ xs : List (List Key × Addr × Value),
      Paired (fun (p : List Key × V) (q : List Key × Addr × Value) => p.1 = q.1 ∧ H q.2.1 = some (.tup (p.1.map kV)) ∧ RelV p.2 q.2.2) kvs xs ∧
      ∃ o es ep, h.get? a = some o ∧ o.ExactDict ∧ o.data = .dict es ep ∧ es.toList = xs.map (entryOfKey (tupleKind (mixKind P w))) ∧ (xs.map (·.1)).Nodup
  | .set S n => h.SetOf (intKind P w) a S n
  | .ins C dx fs => H dx = some (.own a) ∧ fs.length ≤ 1000 ∧ dx ≠ a ∧ h.get? a = some (PySem.W.instObj C dx) ∧
      ∃ mA, h.Ns1 dx mA ∧ (∀ f, RelO (fs.lookup f) (mA f)) ∧ PySem.Within mA (fs.map (·.1))
  | .own _ => ∃ o, h.get? a = some o
  | .xd fs => ∃ mA, h.Ns1 a mA ∧ ∀ f, RelO (fs.lookup f) (mA f)
  | .rng lo hi => ∃ t u v, h.get? a = some { cls := .type "range", data := .fields #[.int lo t, .int hi u, .int 1 v] }
  | .frz o u => h.get? a = some o ∧ ObjOk H h a u
  | .tbl ps => h.get? a = some { cls := .none, data := .fields ps }
  | .met f x => h.get? a = some (PySem.W.methodObj (.ref f) (.ref x))
  | .ext φ => φ h ∧ (∃ o, h.get? a = some o) ∧ ∀ h1 h2 : Heap, φ h1 → (∀ o, h1.get? a = some o → h2.get? a = some o) → φ h2
def HOk (H : Hp) (h : Heap) : Prop := ∀ a o, H a = some o → ObjOk P w H h a o
end
section
variable {P : Program} {w : World} {H H' : Hp} {h h' : Heap} {a : Addr} {o : HO}
theorem ObjOk.lt (x : ObjOk P w H h a o) : a < h.objs.size := by
  cases o with
  | lst xs => obtain ⟨_, _, _, _, e⟩ := x; exact Heap.lt_size e
  | tup xs => obtain ⟨_, _, _, p⟩ := x; exact p.lt
  | dK kvs => obtain ⟨_, _, _, _, o, _, _, e, _⟩ := x; exact Heap.lt_size e
  | dT kvs => obtain ⟨_, _, _, _, o, _, _, e, _⟩ := x; exact Heap.lt_size e
  | set S n => obtain ⟨o, _, _, _, e, _⟩ := x; exact Heap.lt_size e
  | ins C dx fs => obtain ⟨_, _, _, e, _⟩ := x; exact Heap.lt_size e
  | own y => obtain ⟨_, e⟩ := x; exact Heap.lt_size e
  | xd fs => obtain ⟨_, ⟨_, _, _, e, _⟩, _⟩ := x; exact Heap.lt_size e
  | rng lo hi => obtain ⟨_, _, _, e⟩ := x; exact Heap.lt_size e
  | frz ob u => obtain ⟨e, _⟩ := x; exact Heap.lt_size e
  | tbl ps => exact Heap.lt_size (show h.get? a = some _ from x)
  | met f y => exact Heap.lt_size (show h.get? a = some _ from x)
  | ext φ => obtain ⟨_, ⟨_, e⟩, _⟩ := x; exact Heap.lt_size e
theorem Paired.mapP {α β : Type} {F G : α → β → Prop} : ∀ {l₁ : List α} {l₂ : List β}, Paired F l₁ l₂ → (∀ a b, F a b → G a b) → Paired G l₁ l₂
  | _, _, .nil, _ => .nil
  | _, _, .cons r t, f => .cons (f _ _ r) (Paired.mapP t f)
theorem ObjOk.stay (x : ObjOk P w H h a o) (k : ∀ b u, (b = a ∨ H b = some (.own a)) → h.get? b = some u → h'.get? b = some u)
    (ho : ∀ b, H b = some (.own a) → H' b = some (.own a)) (ht : ∀ b xs, H b = some (.tup xs) → H' b = some (.tup xs)) : ObjOk P w H' h' a o := by
  induction o with
  | lst xs => obtain ⟨z, its, n, r, e⟩ := x; exact ⟨z, its, n, r, k _ _ (.inl rfl) e⟩
  | tup xs => obtain ⟨z, its, r, ob, e, c⟩ := x; exact ⟨z, its, r, ob, k _ _ (.inl rfl) e, c⟩
  | dK kvs => obtain ⟨z, y, vs, r, ob, es, ep, e, c⟩ := x; exact ⟨z, y, vs, r, ob, es, ep, k _ _ (.inl rfl) e, c⟩
  | dT kvs =>
    obtain ⟨z, y, xs, r, ob, es, ep, e, c⟩ := x
    exact ⟨z, y, xs, Paired.mapP r fun p q z => ⟨z.1, ht _ _ z.2.1, z.2.2⟩, ob, es, ep, k _ _ (.inl rfl) e, c⟩
  | set S n => obtain ⟨ob, es, ep, t, e, c⟩ := x; exact ⟨ob, es, ep, t, k _ _ (.inl rfl) e, c⟩
  | ins C dx fs =>
    obtain ⟨d, z, ne, e, mA, ⟨od, es, ep, e2, c⟩, r⟩ := x
    exact ⟨ho _ d, z, ne, k _ _ (.inl rfl) e, mA, ⟨od, es, ep, k _ _ (.inr d) e2, c⟩, r⟩
  | own y => obtain ⟨ob, e⟩ := x; exact ⟨ob, k _ _ (.inl rfl) e⟩
  | xd fs => obtain ⟨mA, ⟨od, es, ep, e, c⟩, r⟩ := x; exact ⟨mA, ⟨od, es, ep, k _ _ (.inl rfl) e, c⟩, r⟩
  | rng lo hi => obtain ⟨t, u, v, e⟩ := x; exact ⟨t, u, v, k _ _ (.inl rfl) e⟩
  | frz ob u ih => obtain ⟨e, q⟩ := x; exact ⟨k _ _ (.inl rfl) e, ih q⟩
  | tbl ps =>
    have e : h.get? a = some { cls := .none, data := .fields ps } := x
    show h'.get? a = some { cls := .none, data := .fields ps }
    exact k a _ (.inl rfl) e
  | met f y =>
    have e : h.get? a = some (PySem.W.methodObj (.ref f) (.ref y)) := x
    show h'.get? a = some (PySem.W.methodObj (.ref f) (.ref y))
    exact k a _ (.inl rfl) e
  | ext φ => obtain ⟨p, ⟨o, e⟩, st⟩ := x; exact ⟨st _ _ p fun o q => k _ _ (.inl rfl) q, ⟨o, k _ _ (.inl rfl) e⟩, st⟩
theorem HOk.lt (x : HOk P w H h) (e : H a = some o) : a < h.objs.size := (x a o e).lt
theorem HOk.fresh (x : HOk P w H h) (e : h.objs.size ≤ a) : H a = none := by
  cases q : H a with
  | none => rfl
  | some u => exact absurd (Nat.lt_of_lt_of_le (x.lt q) e) (Nat.lt_irrefl _)
theorem HOk.kept (x : HOk P w H h) (k : ∀ b u, h.get? b = some u → h'.get? b = some u) : HOk P w H h' := fun a o e =>
  (x a o e).stay (fun b u _ q => k b u q) (fun _ q => q) fun _ _ q => q
theorem HOk.laid (x : HOk P w H h) (k : ∀ b u, h.get? b = some u → h'.get? b = some u) (hp : h.objs.size ≤ a) (new : ObjOk P w (upd H a o) h' a o) : HOk P w (upd H a o) h' := fun b u e => by
  have hn := x.fresh hp
  by_cases hb : b = a
  · subst hb; rw [upd_same] at e; cases e; exact new
  · rw [upd_ne hb] at e
    exact (x b u e).stay (fun c v _ q => k c v q) (fun c q => by rw [upd_ne (ne_of_none q hn)]; exact q) fun c xs q => by rw [upd_ne (ne_of_none q hn)]; exact q
end
def Rd (H : Hp) (a : Addr) (u : HO) : Prop := H a = some u ∨ ∃ o, H a = some (.frz o u)
theorem Rd.of {H : Hp} {a : Addr} {u : HO} (h : H a = some u) : Rd H a u := .inl h
theorem Rd.ok {P : Program} {w : World} {H : Hp} {h : Heap} {a : Addr} {u : HO} (r : Rd H a u) (x : HOk P w H h) : ObjOk P w H h a u := by
  rcases r with r | ⟨o, r⟩
  · exact x a u r
  · obtain ⟨_, q⟩ := x a _ r
    exact q
def Mut : Option HO → Prop
  | some (.lst _) => True
  | some (.dK _) => True
  | some (.dT _) => True
  | some (.set _ _) => True
  | some (.ins _ _ _) => True
  | some (.ext _) => True
  | _ => False
section
variable {P : Program} {w : World} {H : Hp} {h h' : Heap} {x e : Addr} {o' : HO}
theorem HOk.write (ok : HOk P w H h) (mu : Mut (H x)) (he : e = x ∨ H e = some (.own x)) (k : ∀ b u, b ≠ e → h.get? b = some u → h'.get? b = some u) (heo : ∃ u, h'.get? e = some u)
    (new : ObjOk P w (upd H x o') h' x o') : HOk P w (upd H x o') h' := fun b u q => by
  have nown : ∀ c y, H c = some (.own y) → c ≠ x := fun c y r z => by subst z; rw [r] at mu; exact mu
  have ntup : ∀ c xs, H c = some (.tup xs) → c ≠ x := fun c xs r z => by subst z; rw [r] at mu; exact mu
  by_cases hb : b = x
  · subst hb; rw [upd_same] at q; cases q; exact new
  · rw [upd_ne hb] at q
    by_cases hbe : b = e
    · have q' : H b = some (.own x) := by
        rcases he with z | z
        · exact absurd (hbe.trans z) hb
        · rw [hbe]; exact z
      rw [q] at q'; cases q'
      obtain ⟨v, hv⟩ := heo
      exact ⟨v, by rw [hbe]; exact hv⟩
    · refine (ok b u q).stay (fun c v hc r => k c v ?_ r) (fun c r => by rw [upd_ne (nown c b r)]; exact r) fun c xs r => by rw [upd_ne (ntup c xs r)]; exact r
      rcases hc with rfl | hc
      · exact hbe
      · rintro rfl
        rcases he with z | z
        · exact nown c b hc z
        · rw [hc] at z; cases z; exact hb rfl
end
structure Un (fs ex : List Addr) (H H' : Hp) (h h' : Heap) : Prop where
  keep : ∀ b o, h.get? b = some o → H b = none → b ∉ fs → b ∉ ex → h'.get? b = some o
  slot : ∀ b o, h.get? b = some o → H b = none → b ∈ fs → b ∉ ex → ∃ sl, h'.get? b = some { o with slots := sl }
  free : ∀ b o, h.get? b = some o → H b = none → b ∉ ex → H' b = none
  there : ∀ b o, h.get? b = some o → b ∉ ex → ∃ o', h'.get? b = some o'
  tups : ∀ b xs, H b = some (.tup xs) → H' b = some (.tup xs)
  frzs : ∀ b o u, H b = some (.frz o u) → H' b = some (.frz o u)
  tbls : ∀ b ps, H b = some (.tbl ps) → ∃ more, H' b = some (.tbl (ps ++ more))
section
variable {fs fs' ex ex' : List Addr} {H H1 H2 : Hp} {h h1 h2 h' : Heap} {a x e : Addr} {o : HO}
theorem Un.any (u : Un fs ex H H1 h h1) {b : Addr} {ob : Obj} (q : h.get? b = some ob) (n : H b = none) (hx : b ∉ ex) : ∃ sl, h1.get? b = some { ob with slots := sl } := by
  by_cases hb : b ∈ fs
  · exact u.slot b ob q n hb hx
  · exact ⟨ob.slots, u.keep b ob q n hb hx⟩
theorem Un.trans (a : Un fs ex H H1 h h1) (b : Un fs ex H1 H2 h1 h2) : Un fs ex H H2 h h2 where
  keep := fun c ob q n hc hx => b.keep c ob (a.keep c ob q n hc hx) (a.free c ob q n hx) hc hx
  slot := fun c ob q n hc hx => by
    obtain ⟨sl, e1⟩ := a.slot c ob q n hc hx
    obtain ⟨sl', e2⟩ := b.slot c _ e1 (a.free c ob q n hx) hc hx
    exact ⟨sl', e2⟩
  free := fun c ob q n hx => by
    obtain ⟨o', e1⟩ := a.there c ob q hx
    exact b.free c o' e1 (a.free c ob q n hx) hx
  there := fun c ob q hx => by
    obtain ⟨o', e1⟩ := a.there c ob q hx
    exact b.there c o' e1 hx
  tups := fun c xs q => b.tups c xs (a.tups c xs q)
  frzs := fun c ob xs q => b.frzs c ob xs (a.frzs c ob xs q)
  tbls := fun c ps q => by
    obtain ⟨m1, e1⟩ := a.tbls c ps q
    obtain ⟨m2, e2⟩ := b.tbls c _ e1
    exact ⟨m1 ++ m2, by rw [e2, Array.append_assoc]⟩
theorem Un.kept (k : ∀ b u, h.get? b = some u → h'.get? b = some u) : Un fs ex H H h h' :=
  ⟨fun b ob q _ _ _ => k b ob q, fun b ob q _ _ _ => ⟨ob.slots, k b ob q⟩, fun _ _ _ n _ => n, fun b ob q _ => ⟨ob, k b ob q⟩, fun _ _ q => q, fun _ _ _ q => q, fun _ ps q => ⟨#[], by rw [q]; simp⟩⟩
theorem Un.refl : Un fs ex H H h h := Un.kept fun _ _ q => q
theorem Un.laid (k : ∀ b u, h.get? b = some u → h'.get? b = some u) (hp : h.objs.size ≤ a) (hn : H a = none) : Un fs ex H (upd H a o) h h' where
  keep := fun b u q _ _ _ => k b u q
  slot := fun b u q _ _ _ => ⟨u.slots, k b u q⟩
  free := fun b u q n _ => by rw [upd_ne (Nat.ne_of_lt (Nat.lt_of_lt_of_le (Heap.lt_size q) hp))]; exact n
  there := fun b u q _ => ⟨u, k b u q⟩
  tups := fun b xs q => by rw [upd_ne (ne_of_none q hn)]; exact q
  frzs := fun b u xs q => by rw [upd_ne (ne_of_none q hn)]; exact q
  tbls := fun b ps q => ⟨#[], by rw [upd_ne (ne_of_none q hn), q]; simp⟩
theorem Un.write (mu : Mut (H x)) (he : e = x ∨ H e = some (.own x)) (k : ∀ b u, b ≠ e → h.get? b = some u → h'.get? b = some u) (heo : ∃ u, h'.get? e = some u) : Un fs ex H (upd H x o) h h' := by
  have hx : ∀ b, H b = none → b ≠ x := fun b n z => by subst z; rw [n] at mu; exact mu
  have hb : ∀ b, H b = none → b ≠ e := fun b n z => by
    subst z
    rcases he with r | r
    · exact hx b n r
    · rw [n] at r; cases r
  have hm : ∀ b u, H b = some u → ¬ Mut (some u) → b ≠ x := fun b u q nm z => by subst z; rw [q] at mu; exact nm mu
  refine ⟨fun b u q n _ _ => k b u (hb b n) q, fun b u q n _ _ => ⟨u.slots, k b u (hb b n) q⟩, fun b u q n _ => by rw [upd_ne (hx b n)]; exact n, fun b u q _ => ?_,
    fun b xs q => by rw [upd_ne (hm b _ q fun z => z)]; exact q, fun b u xs q => by rw [upd_ne (hm b _ q fun z => z)]; exact q, fun b ps q => ⟨#[], by rw [upd_ne (hm b _ q fun z => z), q]; simp⟩⟩
  by_cases hbe : b = e
  · subst hbe; exact heo
  · exact ⟨u, k b u hbe q⟩
theorem Un.mono (u : Un fs ex H H1 h h1) (hs : ∀ b ∈ fs, b ∈ fs') (hx : ∀ b ∈ ex, b ∈ ex') : Un fs' ex' H H1 h h1 :=
  ⟨fun b ob q n hb he => u.keep b ob q n (fun z => hb (hs b z)) fun z => he (hx b z), fun _ _ q n _ he => u.any q n fun z => he (hx _ z), fun b ob q n he => u.free b ob q n fun z => he (hx b z), fun b ob q he => u.there b ob q fun z => he (hx b z), u.tups, u.frzs, u.tbls⟩
end
def trk (h : Heap) (H : Hp) : List Addr := (List.range h.objs.size).filter fun a => (H a).isSome
def hidT (h : Heap) (H : Hp) : Heap := PySem.W.hideAll h (trk h H)
theorem hidT_size (h : Heap) (H : Hp) : (hidT h H).objs.size = h.objs.size := PySem.W.hideAll_size _ _
theorem hidT_get {h : Heap} {H : Hp} {b : Addr} {o : Obj} (e : h.get? b = some o) (n : H b = none) : (hidT h H).get? b = some o :=
  PySem.W.hideAll_get _ e fun hm => by
    have q : (H b).isSome = true := (List.mem_filter.mp hm).2
    rw [n] at q; simp at q
theorem of_hidT {h : Heap} {H : Hp} {b : Addr} {o : Obj} (e : (hidT h H).get? b = some o) : h.get? b = some o ∧ H b = none := by
  have e' : h.get? b = some o := PySem.W.of_hideAll (trk h H) e
  refine ⟨e', ?_⟩
  cases q : H b with
  | none => rfl
  | some x =>
    have hm : b ∈ trk h H := List.mem_filter.mpr ⟨List.mem_range.mpr (Heap.lt_size e'), by simp [q]⟩
    have z : (hidT h H).get? b = none := PySem.W.hideAll_none (trk h H) hm
    rw [z] at e; cases e
def allNews (g h : Heap) (L : Addr) : List (Addr × Obj) := (List.range h.objs.size).filterMap fun a => if a = L ∨ (g.get? a).isSome = true then none else (h.get? a).map fun o => (a, o)
def rest (g h : Heap) (L d : Addr) : List (Addr × Obj) := (allNews g h L).filter fun p => decide (p.1 ≠ d)
end L2
namespace L2
open PySem PySem.Spec PyProof.Rows
structure Mod (K : PySem.W.Frag) (mg : Str → Option Value) (base : Heap) : Prop where
  kin : K.In base
  glob : base.Ns mainGlobals mg
  blt : ∃ mb, base.Ns builtinsNs mb ∧ ∀ x : Str, x ≠ "__name__" → mb x = bootBuiltins x
  nolimit : base.NoLimit
structure Cx where
  prog : Program
  w : World
  K : PySem.W.Frag
  mg : Str → Option Value
  base : Heap
  A : Around
  N : List Str
  s₀ : Shared
  H₀ : Hp
  env : Env
  outer : List Env
  stack : List Env
  ex : List Addr
  fn : Str → Bool
  calm : Bool
  pn : List (Addr × Obj)
  xe : Value → Shared → Prop
def frs (l : List Env) : List Addr := l.filterMap (·.frame)
abbrev Cx.fs (X : Cx) : List Addr := frs X.outer
def Vis (sc : Scope) (x : Str) : Prop := sc.names.lookup x = some .local ∨ sc.names.lookup x = some .cell ∨ sc.names.lookup x = some .free
def Loc (sc : Scope) (x : Str) : Prop := sc.names.lookup x = some .local ∨ sc.names.lookup x = some .cell
def Look (env : Env) (h : Heap) (m : Str → Option Value) (x : Str) (u : Value) : Prop :=
  (env.kindOf x = some .local ∧ m x = some u) ∨ ((env.kindOf x = some .cell ∨ env.kindOf x = some .free) ∧ ∃ c, env.cells.lookup x = some c ∧ h.IsCell c (some u))
structure Cx.Ok (X : Cx) : Prop where
  mod : Mod X.K X.mg X.base
  kind : X.env.scope.kind = .function
  glob : X.env.globals = mainGlobals
  blt : X.env.builtins = builtinsNs
  above : X.s₀.heap.objs.size ≤ X.env.locals
  inj : ∀ x y c, X.env.cells.lookup x = some c → X.env.cells.lookup y = some c → x = y
  has : ∀ x, (X.env.kindOf x = some .cell ∨ X.env.kindOf x = some .free) → ∃ c, X.env.cells.lookup x = some c
  cab : ∀ x c, X.fn x = true → X.env.cells.lookup x = some c → X.s₀.heap.objs.size ≤ c
  hd : X.calm = true → X.A.handled = none
  frames : X.A.frames = some X.stack
  stk : X.stack = X.outer ∨ (X.stack = X.env :: X.outer ∧ X.env.frame = some X.env.locals)
  exf : ∀ b ∈ X.ex, b ≠ X.env.locals ∧ ∀ x c, X.env.cells.lookup x = some c → c ≠ b
  bs : ∀ b o, X.base.get? b = some o → X.s₀.heap.get? b = some o ∧ X.H₀ b = none
  bsz : X.base.objs.size ≤ X.s₀.heap.objs.size
  noex : ∀ b o, X.base.get? b = some o → b ∉ X.ex
  exfs : ∀ b ∈ X.ex, b ∉ X.fs
  funs : X.s₀.heap.FunFrames X.base X.outer
  frf : ∀ b ∈ X.fs, X.H₀ b = none
structure Inv (X : Cx) (pins : List (Addr × Obj)) (σ : List (Option V)) (H : Hp) (s : Shared) : Prop where
  ok : X.Ok
  os : s.os = X.s₀.os
  bare : AllBare s.gens
  base : Un X.fs X.ex X.H₀ H X.s₀.heap s.heap
  loc : ∃ m, s.heap.Ns X.env.locals m ∧ ∀ (i : Nat) (x : Str) (v : V), X.N[i]? = some x → σ[i]? = some (some v) → Vis X.env.scope x → ∃ u, RelV v u ∧ Look X.env s.heap m x u
  cell : ∀ x c, X.env.cells.lookup x = some c → ∃ v, s.heap.IsCell c v
  free : H X.env.locals = none
  freeC : ∀ x c, X.env.cells.lookup x = some c → H c = none
  pin : ∀ p ∈ X.pn ++ pins, s.heap.get? p.1 = some p.2 ∧ H p.1 = none ∧ p.1 ≠ X.env.locals ∧ p.1 ∉ X.fs ∧ ∀ v, p.2.data ≠ .cell v
  hok : HOk X.prog X.w H s.heap
  len : σ.length = X.N.length
section
variable {X : Cx} {pins : List (Addr × Obj)} {σ : List (Option V)} {H H' : Hp} {s : Shared} {h' : Heap}
theorem Cx.Ok.nofr (ok : X.Ok) {b : Addr} {o : Obj} (e : X.base.get? b = some o) : b ∉ X.fs := fun hb => by
  have := (ok.funs.mem hb).1
  rw [e] at this; cases this
theorem Inv.bs (I : Inv X pins σ H s) : ∀ b o, X.base.get? b = some o → s.heap.get? b = some o ∧ H b = none := fun b o e =>
  ⟨I.base.keep b o (I.ok.bs b o e).1 (I.ok.bs b o e).2 (I.ok.nofr e) (I.ok.noex b o e), I.base.free b o (I.ok.bs b o e).1 (I.ok.bs b o e).2 (I.ok.noex b o e)⟩
theorem Inv.bk (I : Inv X pins σ H s) : ∀ b o, X.base.get? b = some o → s.heap.get? b = some o := fun b o e => (I.bs b o e).1
theorem Inv.mod (I : Inv X pins σ H s) : Mod X.K X.mg X.base := I.ok.mod
theorem Inv.kIn (I : Inv X pins σ H s) : X.K.In s.heap := I.ok.mod.kin.keeps I.bk
theorem Inv.nolimit (I : Inv X pins σ H s) : s.heap.NoLimit := I.ok.mod.nolimit.keeps I.bk
theorem Inv.lt (I : Inv X pins σ H s) : X.env.locals < s.heap.objs.size := let ⟨_, hn, _⟩ := I.loc; hn.lt
theorem Inv.sz (I : Inv X pins σ H s) : X.s₀.heap.objs.size ≤ s.heap.objs.size := Nat.le_trans I.ok.above (Nat.le_of_lt I.lt)
theorem Inv.nofs (I : Inv X pins σ H s) {a : Addr} (h : s.heap.objs.size ≤ a) : a ∉ X.fs := fun hb => by
  obtain ⟨_, o, ho, _⟩ := I.ok.funs.mem hb
  exact absurd (Nat.lt_of_lt_of_le (Heap.lt_size ho) (Nat.le_trans I.sz h)) (Nat.lt_irrefl _)
theorem Inv.cne (I : Inv X pins σ H s) : ∀ x c, X.env.cells.lookup x = some c → c ≠ X.env.locals := fun x c e z => by
  obtain ⟨v, o, ho, hd⟩ := I.cell x c e
  obtain ⟨m, ⟨o', es, ep, ho', hd', _⟩, _⟩ := I.loc
  rw [z, ho'] at ho; cases ho; rw [hd'] at hd; cases hd
theorem Inv.funs (I : Inv X pins σ H s) : s.heap.FunFrames X.base X.outer := by
  have all : ∀ (l : List Env), (∀ b ∈ frs l, b ∈ X.fs) → X.s₀.heap.FunFrames X.base l → s.heap.FunFrames X.base l := by
    intro l
    induction l with
    | nil => intro _ _; trivial
    | cons env r ih =>
      intro hs hl
      obtain ⟨hk, ⟨L, o, hf, hn, ho, hd⟩, hr⟩ := hl
      have hL : L ∈ X.fs := hs L (by unfold frs; rw [List.filterMap_cons, hf]; exact List.mem_cons_self)
      obtain ⟨sl, e⟩ := I.base.slot L o ho (I.ok.frf L hL) hL fun z => I.ok.exfs L z hL
      exact ⟨hk, ⟨L, _, hf, hn, e, hd⟩, ih (fun b hb => hs b (by unfold frs; rw [List.filterMap_cons, hf]; exact List.mem_cons_of_mem _ hb)) hr⟩
  exact all X.outer (fun _ hb => hb) I.ok.funs
theorem Inv.stack (I : Inv X pins σ H s) : s.heap.FunFrames X.base X.stack := by
  rcases I.ok.stk with e | ⟨e, hf⟩
  · rw [e]; exact I.funs
  · rw [e]
    obtain ⟨m, hn, _⟩ := I.loc
    refine .cons (by rw [I.ok.kind]; decide) hf hn ?_ I.funs
    exact Heap.get?_none_of_le (Nat.le_trans I.ok.bsz I.ok.above)
theorem Inv.stkSub (I : Inv X pins σ H s) : ∀ b ∈ frs X.stack, b ∈ X.env.locals :: X.fs := fun b hb => by
  rcases I.ok.stk with e | ⟨e, hf⟩
  · rw [e] at hb; exact List.mem_cons_of_mem _ hb
  · rw [e] at hb
    unfold frs at hb
    rw [List.filterMap_cons, hf] at hb
    exact hb
theorem Inv.stkFree (I : Inv X pins σ H s) : ∀ b ∈ frs X.stack, H b = none := fun b hb => by
  rcases List.mem_cons.mp (I.stkSub b hb) with e | hb
  · rw [e]; exact I.free
  · obtain ⟨_, o, ho, _⟩ := I.ok.funs.mem hb
    exact I.base.free b o ho (I.ok.frf b hb) fun z => I.ok.exfs b z hb
theorem Inv.step {g' : Array GenState} {t' : Nat} {d' : Drawn} {ch : List Addr} (I : Inv X pins σ H s)
    (hch : ∀ b ∈ ch, (b ∈ X.ex ∨ X.s₀.heap.objs.size ≤ b) ∧ b ≠ X.env.locals ∧ (∀ x c, X.env.cells.lookup x = some c → c ≠ b) ∧ ∀ p ∈ X.pn ++ pins, p.1 ≠ b)
    (keep : ∀ b o, b ≠ X.env.locals → b ∉ X.fs → b ∉ ch → s.heap.get? b = some o → H b = none → h'.get? b = some o)
    (slot : ∀ b o, b ≠ X.env.locals → b ∈ X.fs → b ∉ ch → s.heap.get? b = some o → H b = none → ∃ sl, h'.get? b = some { o with slots := sl }) (free : ∀ b o, b ∉ ch → s.heap.get? b = some o → H b = none → H' b = none)
    (there : ∀ b o, b ∉ ch → s.heap.get? b = some o → ∃ o', h'.get? b = some o')
    (tups : ∀ b xs, H b = some (.tup xs) → H' b = some (.tup xs)) (frzs : ∀ b o u, H b = some (.frz o u) → H' b = some (.frz o u)) (tbls : ∀ b ps, H b = some (.tbl ps) → ∃ more, H' b = some (.tbl (ps ++ more)))
    (ns : ∀ m, s.heap.Ns X.env.locals m → h'.Ns X.env.locals m) (hok : HOk X.prog X.w H' h') (hg : AllBare g') :
    Inv X pins σ H' { s with heap := h', gens := g', drawn := d', toks := t' } := by
  have neL : ∀ b o, X.s₀.heap.get? b = some o → b ≠ X.env.locals := fun b o e => Nat.ne_of_lt (Nat.lt_of_lt_of_le (Heap.lt_size e) I.ok.above)
  have neC : ∀ b o, X.s₀.heap.get? b = some o → b ∉ X.ex → b ∉ ch := fun b o e hx hb => by
    rcases (hch b hb).1 with z | z
    · exact hx z
    · exact absurd (Nat.lt_of_lt_of_le (Heap.lt_size e) z) (Nat.lt_irrefl _)
  have cellK : ∀ x c, X.env.cells.lookup x = some c → ∀ v, s.heap.IsCell c v → h'.IsCell c v := fun x c e v ⟨o, ho, hd⟩ => by
    have nch : c ∉ ch := fun z => (hch c z).2.2.1 x c e rfl
    by_cases hc : c ∈ X.fs
    · obtain ⟨sl, q⟩ := slot c o (I.cne x c e) hc nch ho (I.freeC x c e)
      exact ⟨_, q, hd⟩
    · exact ⟨o, keep c o (I.cne x c e) hc nch ho (I.freeC x c e), hd⟩
  refine ⟨I.ok, I.os, hg, ⟨fun b o e n hb hx => ?_, fun b o e n hb hx => ?_, fun b o e n hx => ?_, fun b o e hx => ?_, fun b xs e => tups b xs (I.base.tups b xs e), fun b o xs e => frzs b o xs (I.base.frzs b o xs e), fun b ps e => ?_⟩, ?_, fun x c e => ?_, ?_, fun x c e => ?_, fun p hp => ?_, hok, I.len⟩
  · exact keep b o (neL b o e) hb (neC b o e hx) (I.base.keep b o e n hb hx) (I.base.free b o e n hx)
  · obtain ⟨sl, e1⟩ := I.base.slot b o e n hb hx
    obtain ⟨sl', e2⟩ := slot b _ (neL b o e) hb (neC b o e hx) e1 (I.base.free b o e n hx)
    exact ⟨sl', e2⟩
  · obtain ⟨o', e1⟩ := I.base.there b o e hx
    exact free b o' (neC b o e hx) e1 (I.base.free b o e n hx)
  · obtain ⟨o', e1⟩ := I.base.there b o e hx
    exact there b o' (neC b o e hx) e1
  · obtain ⟨m1, e1⟩ := I.base.tbls b ps e
    obtain ⟨m2, e2⟩ := tbls b _ e1
    exact ⟨m1 ++ m2, by rw [e2, Array.append_assoc]⟩
  · obtain ⟨m, hn, hl⟩ := I.loc
    refine ⟨m, ns m hn, fun i x v e1 e2 e3 => ?_⟩
    obtain ⟨u, r, l⟩ := hl i x v e1 e2 e3
    refine ⟨u, r, ?_⟩
    rcases l with l | ⟨k, c, e, z⟩
    · exact .inl l
    · exact .inr ⟨k, c, e, cellK x c e _ z⟩
  · obtain ⟨v, z⟩ := I.cell x c e
    exact ⟨v, cellK x c e v z⟩
  · obtain ⟨m, ⟨o, _, _, ho, _⟩, _⟩ := I.loc
    exact free _ o (fun z => (hch _ z).2.1 rfl) ho I.free
  · obtain ⟨v, o, ho, hd⟩ := I.cell x c e
    exact free c o (fun z => (hch c z).2.2.1 x c e rfl) ho (I.freeC x c e)
  · obtain ⟨e, n, ne, nf, d⟩ := I.pin p hp
    have nch : p.1 ∉ ch := fun z => (hch p.1 z).2.2.2 p hp rfl
    exact ⟨keep p.1 p.2 ne nf nch e n, free p.1 p.2 nch e n, ne, nf, d⟩
theorem Inv.un {t' : Nat} (I : Inv X pins σ H s) (u : Un X.fs [] H H' s.heap h') (hok : HOk X.prog X.w H' h') : Inv X pins σ H' { s with heap := h', toks := t' } := by
  obtain ⟨m, ⟨o, es, ep, ho, r⟩, _⟩ := id I.loc
  obtain ⟨sl, hL⟩ := u.any ho I.free (by simp)
  exact I.step (g' := s.gens) (d' := s.drawn) (ch := []) (fun _ z => nomatch z) (fun b o _ hb _ e n => u.keep b o e n hb (by simp)) (fun b o _ hb _ e n => u.slot b o e n hb (by simp)) (fun b o _ e n => u.free b o e n (by simp)) (fun b o _ e => u.there b o e (by simp)) u.tups u.frzs u.tbls (fun m' hm => by
    obtain ⟨o', es', ep', ho', r'⟩ := hm
    rw [ho] at ho'; cases ho'
    exact ⟨_, es', ep', hL, r'⟩) hok I.bare
theorem Inv.call {g' : Array GenState} {t' : Nat} {d' : Drawn} {ch : List Addr} (I : Inv X pins σ H s) (u : Un (frs X.stack) ch H H' s.heap h') (hok : HOk X.prog X.w H' h') (hg : AllBare g')
    (hch : ∀ b ∈ ch, (b ∈ X.ex ∨ X.s₀.heap.objs.size ≤ b) ∧ b ≠ X.env.locals ∧ (∀ x c, X.env.cells.lookup x = some c → c ≠ b) ∧ ∀ p ∈ X.pn ++ pins, p.1 ≠ b) :
    Inv X pins σ H' { s with heap := h', gens := g', drawn := d', toks := t' } := by
  obtain ⟨m, ⟨o, es, ep, ho, r⟩, _⟩ := id I.loc
  obtain ⟨sl, hL⟩ := u.any ho I.free fun z => (hch _ z).2.1 rfl
  exact I.step (ch := ch) hch (fun b o hL hb hc e n => u.keep b o e n (fun z => (List.mem_cons.mp (I.stkSub b z)).elim hL hb) hc) (fun b o _ _ hc e n => u.any e n hc) (fun b o hc e n => u.free b o e n hc) (fun b o hc e => u.there b o e hc) u.tups u.frzs u.tbls (fun m' hm => by
    obtain ⟨o', es', ep', ho', r'⟩ := hm
    rw [ho] at ho'; cases ho'
    exact ⟨_, es', ep', hL, r'⟩) hok hg
theorem Inv.turned {t' : Nat} {it : Addr} (I : Inv X pins σ H s) (k : ∀ b o, b ≠ it → s.heap.get? b = some o → h'.get? b = some o) (hn : H it = none) (hL : it ≠ X.env.locals)
    (h1 : it ∈ X.ex ∨ X.s₀.heap.objs.size ≤ it) (h2 : ∀ x c, X.env.cells.lookup x = some c → c ≠ it) (h3 : ∀ p ∈ X.pn ++ pins, p.1 ≠ it) : Inv X pins σ H { s with heap := h', toks := t' } := by
  have nit : ∀ b u, H b = some u → b ≠ it := fun b u e z => by rw [z, hn] at e; cases e
  refine I.step (g' := s.gens) (d' := s.drawn) (ch := [it]) (fun b hb => ?_) (fun b o _ _ hc e _ => k b o (fun z => hc (by simp [z])) e) (fun b o _ _ hc e _ => ⟨o.slots, k b o (fun z => hc (by simp [z])) e⟩) (fun _ _ _ _ n => n)
    (fun b o hc e => ⟨o, k b o (fun z => hc (by simp [z])) e⟩) (fun _ _ e => e) (fun _ _ _ e => e) (fun b ps e => ⟨#[], by rw [e]; simp⟩) (fun m hm => ?_) (fun b u e => ?_) I.bare
  · have e : b = it := by simpa using hb
    subst e
    exact ⟨h1, hL, h2, h3⟩
  · obtain ⟨o, es, ep, ho, r⟩ := hm
    exact ⟨o, es, ep, k _ o (Ne.symm hL) ho, r⟩
  · refine (I.hok b u e).stay (fun c v hc q => k c v ?_ q) (fun _ q => q) fun _ _ q => q
    rcases hc with z | z
    · rw [z]; exact nit b u e
    · exact nit c _ z
theorem Inv.tok (I : Inv X pins σ H s) (t : Nat) : Inv X pins σ H { s with toks := t } := I.un (h' := s.heap) (t' := t) Un.refl I.hok
theorem Inv.kept {t' : Nat} (I : Inv X pins σ H s) (k : ∀ b u, s.heap.get? b = some u → h'.get? b = some u) : Inv X pins σ H { s with heap := h', toks := t' } := I.un (Un.kept k) (I.hok.kept k)
theorem Inv.laid {a : Addr} {o : HO} {t' : Nat} (I : Inv X pins σ H s) (k : ∀ b u, s.heap.get? b = some u → h'.get? b = some u) (hp : s.heap.objs.size ≤ a) (new : ObjOk X.prog X.w (upd H a o) h' a o) :
    Inv X pins σ (upd H a o) { s with heap := h', toks := t' } := I.un (Un.laid k hp (I.hok.fresh hp)) (I.hok.laid k hp new)
theorem Inv.write {x e : Addr} {o : HO} {t' : Nat} (I : Inv X pins σ H s) (mu : Mut (H x)) (he : e = x ∨ H e = some (.own x)) (k : ∀ b u, b ≠ e → s.heap.get? b = some u → h'.get? b = some u) (heo : ∃ u, h'.get? e = some u)
    (new : ObjOk X.prog X.w (upd H x o) h' x o) : Inv X pins σ (upd H x o) { s with heap := h', toks := t' } := I.un (Un.write mu he k heo) (I.hok.write mu he k heo new)
theorem Inv.pins_of {pins' : List (Addr × Obj)} (I : Inv X pins σ H s) (h : ∀ p ∈ pins', s.heap.get? p.1 = some p.2 ∧ H p.1 = none ∧ p.1 ≠ X.env.locals ∧ p.1 ∉ X.fs ∧ ∀ v, p.2.data ≠ .cell v) : Inv X pins' σ H s :=
  ⟨I.ok, I.os, I.bare, I.base, I.loc, I.cell, I.free, I.freeC, fun p hp => (List.mem_append.mp hp).elim (fun z => I.pin p (List.mem_append_left _ z)) (h p), I.hok, I.len⟩
theorem nodup_ix {N : List Str} (hN : N.Nodup) {i j : Nat} {x : Str} (a : N[i]? = some x) (b : N[j]? = some x) : i = j := by
  obtain ⟨h1, e1⟩ := List.getElem?_eq_some_iff.mp a
  obtain ⟨h2, e2⟩ := List.getElem?_eq_some_iff.mp b
  exact (List.getElem_inj hN).mp (e1.trans e2.symm)
theorem store_ok2 {M : Model} {A : Around} {E : Value → Shared → Prop} {i : Nat} {x : Str} {v : V} {u : Value} {Q : Unit → Shared → Prop} (I : Inv X pins σ H s) (hN : X.N.Nodup) (hi : X.N[i]? = some x) (hx : Loc X.env.scope x) (r : RelV v u)
    (h : ∀ s', Inv X pins (σ.set i (some v)) H s' → (∃ a, Heap.SameBut a s.heap s'.heap ∧ (a = X.env.locals ∨ X.env.cells.lookup x = some a)) → Q () s') (hf : X.fn x = true ∨ X.env.scope.names.lookup x = some .local := by first | exact .inl rfl | exact .inr rfl | assumption) : wpAny M A (storeName X.env x u) Q E s := by
  obtain ⟨m, hn, hl⟩ := id I.loc
  have hcls : (X.env.scope.kind == .class || (X.env.scope.kind == .module && X.env.locals != X.env.globals)) = false := by rw [I.ok.kind]; rfl
  have hiσ : i < σ.length := by rw [I.len]; exact (List.getElem?_eq_some_iff.mp hi).1
  have cne := I.cne
  have tracked : ∀ {a : Addr} {h' : Heap}, (∃ o, s.heap.get? a = some o ∧ H a = none) → Heap.SameBut a s.heap h' → HOk X.prog X.w H h' := fun {a h'} ha hs b ob e => by
    obtain ⟨_, _, hfree⟩ := ha
    refine (I.hok b ob e).stay (fun c w' hc q => (hs.2 c ?_).trans q) (fun _ q => q) fun _ _ q => q
    rintro rfl
    rcases hc with rfl | hc
    · rw [hfree] at e; cases e
    · rw [hfree] at hc; cases hc
  rcases hx with hk | hk
  · refine wpAny_storeName_local hk hn (fun h' hn' hs => ?_) hcls
    obtain ⟨oL, _, _, hoL, _⟩ := id hn
    refine h _ ⟨I.ok, I.os, I.bare, ⟨fun b o e n hb hx => ?_, fun b o e n hb hx => ?_, I.base.free, fun b o e hx => ?_, I.base.tups, I.base.frzs, I.base.tbls⟩, ⟨_, hn', fun j y v' e1 e2 e3 => ?_⟩, fun y c e => ?_, I.free, I.freeC, fun p hp => ?_, tracked ⟨oL, hoL, I.free⟩ hs, by simpa using I.len⟩ ⟨_, hs, .inl rfl⟩
    · exact (hs.2 b (Nat.ne_of_lt (Nat.lt_of_lt_of_le (Heap.lt_size e) I.ok.above))).trans (I.base.keep b o e n hb hx)
    · obtain ⟨sl, e1⟩ := I.base.slot b o e n hb hx
      exact ⟨sl, (hs.2 b (Nat.ne_of_lt (Nat.lt_of_lt_of_le (Heap.lt_size e) I.ok.above))).trans e1⟩
    · obtain ⟨o', e1⟩ := I.base.there b o e hx
      exact ⟨o', (hs.2 b (Nat.ne_of_lt (Nat.lt_of_lt_of_le (Heap.lt_size e) I.ok.above))).trans e1⟩
    · by_cases hj : j = i
      · subst hj
        rw [hi] at e1; cases e1
        rw [List.getElem?_set_self hiσ] at e2
        cases e2
        exact ⟨u, r, .inl ⟨hk, by simp⟩⟩
      · rw [List.getElem?_set_ne (Ne.symm hj)] at e2
        obtain ⟨u', r', q⟩ := hl j y v' e1 e2 e3
        refine ⟨u', r', ?_⟩
        rcases q with ⟨k, e⟩ | ⟨k, c, e, z⟩
        · refine .inl ⟨k, ?_⟩
          have : y ≠ x := fun e => hj (nodup_ix hN e1 (e ▸ hi))
          simp [this, e]
        · exact .inr ⟨k, c, e, z.sameBut hs (cne y c e)⟩
    · obtain ⟨w', z⟩ := I.cell y c e
      exact ⟨w', z.sameBut hs (cne y c e)⟩
    · obtain ⟨e, n, ne, nf, d⟩ := I.pin p hp
      exact ⟨(hs.2 p.1 ne).trans e, n, ne, nf, d⟩
  · have hfn : X.fn x = true := by
      rcases hf with z | z
      · exact z
      · rw [z] at hk; cases hk
    obtain ⟨c, hc⟩ := I.ok.has x (.inl hk)
    obtain ⟨w', z⟩ := I.cell x c hc
    refine wpAny_storeName_cell I.ok.kind hk hc z (fun h' hc' hs => ?_)
    obtain ⟨oc, hoc, hocd⟩ := id z
    refine h { s with heap := h' } ⟨I.ok, I.os, I.bare, ⟨fun b o e n hb hx => ?_, fun b o e n hb hx => ?_, I.base.free, fun b o e hx => ?_, I.base.tups, I.base.frzs, I.base.tbls⟩, ⟨m, hn.sameBut hs (Ne.symm (cne x c hc)), fun j y v' e1 e2 e3 => ?_⟩, fun y c' e => ?_, I.free, I.freeC, fun p hp => ?_, tracked ⟨oc, hoc, I.freeC x c hc⟩ hs, by simpa using I.len⟩ ⟨c, hs, .inr hc⟩
    · exact (hs.2 b (Nat.ne_of_lt (Nat.lt_of_lt_of_le (Heap.lt_size e) (I.ok.cab x c hfn hc)))).trans (I.base.keep b o e n hb hx)
    · obtain ⟨sl, e1⟩ := I.base.slot b o e n hb hx
      exact ⟨sl, (hs.2 b (Nat.ne_of_lt (Nat.lt_of_lt_of_le (Heap.lt_size e) (I.ok.cab x c hfn hc)))).trans e1⟩
    · obtain ⟨o', e1⟩ := I.base.there b o e hx
      exact ⟨o', (hs.2 b (Nat.ne_of_lt (Nat.lt_of_lt_of_le (Heap.lt_size e) (I.ok.cab x c hfn hc)))).trans e1⟩
    · by_cases hj : j = i
      · subst hj
        rw [hi] at e1; cases e1
        rw [List.getElem?_set_self hiσ] at e2
        cases e2
        exact ⟨u, r, .inr ⟨.inl hk, c, hc, hc'⟩⟩
      · rw [List.getElem?_set_ne (Ne.symm hj)] at e2
        obtain ⟨u', r', q⟩ := hl j y v' e1 e2 e3
        refine ⟨u', r', ?_⟩
        rcases q with q | ⟨k, c', e, z'⟩
        · exact .inl q
        · refine .inr ⟨k, c', e, z'.sameBut hs ?_⟩
          rintro rfl
          exact hj (nodup_ix hN e1 (I.ok.inj _ _ _ e hc ▸ hi))
    · by_cases hcc : c' = c
      · subst hcc; exact ⟨_, hc'⟩
      · obtain ⟨w2, z2⟩ := I.cell y c' e
        exact ⟨w2, z2.sameBut hs hcc⟩
    · obtain ⟨e, n, ne, nf, d⟩ := I.pin p hp
      refine ⟨(hs.2 p.1 ?_).trans e, n, ne, nf, d⟩
      intro q
      rw [q, hoc] at e
      have q' : oc = p.2 := Option.some.inj e
      exact d w' (by rw [← q']; exact hocd)
theorem store_ok {M : Model} {A : Around} {E : Value → Shared → Prop} {i : Nat} {x : Str} {v : V} {u : Value} {Q : Unit → Shared → Prop} (I : Inv X pins σ H s) (hN : X.N.Nodup) (hi : X.N[i]? = some x) (hx : Loc X.env.scope x) (r : RelV v u)
    (h : ∀ s', Inv X pins (σ.set i (some v)) H s' → Q () s') (hf : X.fn x = true ∨ X.env.scope.names.lookup x = some .local := by first | exact .inl rfl | exact .inr rfl | assumption) : wpAny M A (storeName X.env x u) Q E s :=
  store_ok2 I hN hi hx r (fun s' I' _ => h s' I') hf
theorem Inv.call' {s' : Shared} {ch : List Addr} (I : Inv X pins σ H s) (ho : s'.os = s.os) (u : Un (frs X.stack) ch H H' s.heap s'.heap) (hok : HOk X.prog X.w H' s'.heap) (hg : AllBare s'.gens)
    (hch : ∀ b ∈ ch, (b ∈ X.ex ∨ X.s₀.heap.objs.size ≤ b) ∧ b ≠ X.env.locals ∧ (∀ x c, X.env.cells.lookup x = some c → c ≠ b) ∧ ∀ p ∈ X.pn ++ pins, p.1 ≠ b) : Inv X pins σ H' s' := by
  obtain ⟨h', g', d', t', o'⟩ := s'
  have e : o' = s.os := ho
  subst e
  exact I.call (g' := g') (t' := t') (d' := d') u hok hg hch
end
abbrev XK := Value → Option Addr → Hp → Prop
abbrev St := List (Option V)
abbrev VK := V → Hp → Prop
abbrev TE := St → Hp → VK → Prop
abbrev TT := St → Hp → (Bool → Hp → Prop) → Prop
abbrev TA := St → Hp → (List V → Hp → Prop) → Prop
structure Ends where
  nx : St → Hp → Prop
  rt : VK
  bk : St → Hp → Prop := fun _ _ => False
  ct : St → Hp → Prop := fun _ _ => False
abbrev TS := Ends → St → Hp → Prop
def EP (X : Cx) (pins : List (Addr × Obj)) (σ : St) (Q : VK) (u : Value) (s' : Shared) : Prop := ∃ v H', Inv X pins σ H' s' ∧ RelV v u ∧ Q v H'
def TP (X : Cx) (pins : List (Addr × Obj)) (σ : St) (Q : Bool → Hp → Prop) (b : Bool) (s' : Shared) : Prop := ∃ H', Inv X pins σ H' s' ∧ Q b H'
def AP (X : Cx) (pins : List (Addr × Obj)) (σ : St) (Q : List V → Hp → Prop) (us : List Value) (s' : Shared) : Prop := ∃ vs H', Inv X pins σ H' s' ∧ Vals vs us ∧ Q vs H'
def SP (X : Cx) (pins : List (Addr × Obj)) (D : Ends) (f : Flow) (s' : Shared) : Prop :=
  match f with
  | .next => ∃ σ' H', Inv X pins σ' H' s' ∧ D.nx σ' H'
  | .brk => ∃ σ' H', Inv X pins σ' H' s' ∧ D.bk σ' H'
  | .cont => ∃ σ' H', Inv X pins σ' H' s' ∧ D.ct σ' H'
  | .ret u => ∃ v σ' H', Inv X pins σ' H' s' ∧ RelV v u ∧ D.rt v H'
def PE (X : Cx) (e : Expr) (t : TE) : Prop :=
  ∀ (pins : List (Addr × Obj)) (s : Shared) (σ : St) (H : Hp) (Q : VK), Inv X pins σ H s → t σ H Q → wpAny (model X.prog X.w) X.A (eval e X.env) (EP X pins σ Q) X.xe s
def PT (X : Cx) (e : Expr) (t : TT) : Prop :=
  ∀ (pins : List (Addr × Obj)) (s : Shared) (σ : St) (H : Hp) (Q : Bool → Hp → Prop), Inv X pins σ H s → t σ H Q → wpAny (model X.prog X.w) X.A (isTrue e X.env (eval e X.env)) (TP X pins σ Q) X.xe s
def PW (X : Cx) (e : Expr) (t : TT) : Prop :=
  ∀ (whole : Sem Value) (pins : List (Addr × Obj)) (s : Shared) (σ : St) (H : Hp) (Q : Bool → Hp → Prop), Inv X pins σ H s → t σ H Q → wpAny (model X.prog X.w) X.A (isTrue e X.env whole) (TP X pins σ Q) X.xe s
theorem PW.pt {X : Cx} {e : Expr} {t : TT} (h : PW X e t) : PT X e t := h _
def PA (X : Cx) (es : List Expr) (t : TA) : Prop :=
  ∀ (pos : Pos) (pins : List (Addr × Obj)) (s : Shared) (σ : St) (H : Hp) (Q : List V → Hp → Prop), Inv X pins σ H s → t σ H Q → wpAny (model X.prog X.w) X.A (spliced (backTo pos (starEach es X.env))) (AP X pins σ Q) X.xe s
def PS (X : Cx) (st : Stmt) (t : TS) : Prop :=
  ∀ (pins : List (Addr × Obj)) (s : Shared) (σ : St) (H : Hp) (D : Ends), Inv X pins σ H s → t D σ H → wpAny (model X.prog X.w) X.A (exec st X.env) (SP X pins D) X.xe s
def PSs (X : Cx) (st : List Stmt) (t : TS) : Prop :=
  ∀ (pins : List (Addr × Obj)) (s : Shared) (σ : St) (H : Hp) (D : Ends), Inv X pins σ H s → t D σ H → wpAny (model X.prog X.w) X.A (execs st X.env) (SP X pins D) X.xe s
theorem thn {α : Type} {t : Sem α} {Q Q' : α → Shared → Prop} {M : Model} {A : Around} {E : Value → Shared → Prop} {s : Shared} (h : wpAny M A t Q E s) (hQ : ∀ a s, Q a s → Q' a s) : wpAny M A t Q' E s := wpAny_mono h hQ fun _ _ x => x
end L2
namespace L2
open PySem PySem.Spec PyProof.Rows
section
variable {X : Cx}
def tVar (i : Nat) : TE := fun σ H Q => ∃ v, σ[i]? = some (some v) ∧ Q v H
def tC (v : V) : TE := fun _ H Q => Q v H
theorem pe_var {i : Nat} {x : Str} {pos : Pos} (hN : X.N[i]? = some x) (hv : Vis X.env.scope x) (hd : (x == ("__debug__" : Str)) = false := by decide) (hcd : (x == ("__classdict__" : Str)) = false := by decide) : PE X (.Name x pos) (tVar i) := by
  intro pins s σ H Q I h
  obtain ⟨v, e, h⟩ := h
  obtain ⟨m, hn, hl⟩ := I.loc
  obtain ⟨u, r, l⟩ := hl i x v hN e hv
  have fin : EP X pins σ Q u s := ⟨v, H, I, r, h⟩
  rcases l with ⟨hk, hm⟩ | ⟨hk, c, hc, hcell⟩
  · exact wpAny_Name (wpAny_loadName_local I.ok.kind hk hn hm fin) hd
  · rcases hk with hk | hk
    · exact wpAny_Name (wpAny_loadName_cell I.ok.kind hk hc hcell fin) hd
    · exact wpAny_Name (wpAny_loadName_free I.ok.kind hk hc hcell fin hcd) hd
theorem pe_int {i j pos} : PE X (.Constant (.int i) j pos) (tC (.int i)) := fun _ _ _ H _ I h => wpAny_Constant_int ⟨.int i, H, I.tok _, ⟨_, rfl⟩, h⟩
theorem pe_bl {b j pos} : PE X (.Constant (.bool b) j pos) (tC (.bl b)) := fun _ _ _ H _ I h => Constant_bool ⟨.bl b, H, I, rfl, h⟩
theorem pe_str {x j pos} : PE X (.Constant (.str x) j pos) (tC (.str x)) := fun _ _ _ H _ I h => Calls.Constant_str ⟨.str x, H, I.tok _, ⟨_, rfl⟩, h⟩
def Gl (X : Cx) (x : Str) : Prop := X.env.kindOf x = some .globalImplicit
theorem ld_glob {E : Value → Shared → Prop} {pins : List (Addr × Obj)} {s : Shared} {σ : St} {H : Hp} {x : Str} {u : Value} {pos : Pos} {Q : Value → Shared → Prop} (I : Inv X pins σ H s) (hg : Gl X x) (hm : X.mg x = some u) (h : Q u s)
    (hd : (x == ("__debug__" : Str)) = false := by decide) : wpAny (model X.prog X.w) X.A (eval (.Name x pos) X.env) Q E s :=
  Calls.Name_function_global I.ok.kind hg (Calls.loadGlobal_global (by rw [I.ok.glob]; exact I.mod.glob.keeps I.bk) hm h) hd
theorem ld_blt {E : Value → Shared → Prop} {pins : List (Addr × Obj)} {s : Shared} {σ : St} {H : Hp} {x : Str} {u : Value} {pos : Pos} {Q : Value → Shared → Prop} (I : Inv X pins σ H s) (hg : Gl X x) (hm : X.mg x = none) (hv : bootBuiltins x = some u) (h : Q u s)
    (hn : x ≠ "__name__" := by decide) (hd : (x == ("__debug__" : Str)) = false := by decide) : wpAny (model X.prog X.w) X.A (eval (.Name x pos) X.env) Q E s := by
  obtain ⟨mb, h1, h2⟩ := I.mod.blt
  exact Calls.Name_function_global I.ok.kind hg (Calls.loadGlobal_builtin (by rw [I.ok.glob]; exact I.mod.glob.keeps I.bk) hm (by rw [I.ok.blt]; exact h1.keeps I.bk) ((h2 x hn).trans hv) h) hd
theorem pe_glob {x : Str} {v : V} {u : Value} {pos : Pos} (hg : Gl X x) (hm : X.mg x = some u) (r : RelV v u) (hd : (x == ("__debug__" : Str)) = false := by decide) : PE X (.Name x pos) (tC v) :=
  fun _ _ _ H _ I h => ld_glob I hg hm ⟨v, H, I, r, h⟩ hd
theorem pe_bltn {x : Str} {v : V} {u : Value} {pos : Pos} (hg : Gl X x) (hm : X.mg x = none) (hv : bootBuiltins x = some u) (r : RelV v u) (hn : x ≠ "__name__" := by decide) (hd : (x == ("__debug__" : Str)) = false := by decide) : PE X (.Name x pos) (tC v) :=
  fun _ _ _ H _ I h => ld_blt I hg hm hv ⟨v, H, I, r, h⟩ hn hd
variable {a b : Expr} {ta tb : TE} {pos : Pos}
def tIsN (ta : TE) : TE := fun σ H Q => ta σ H fun x H1 => Q (.bl (decide (x = .non))) H1
def tNotN (ta : TE) : TE := fun σ H Q => ta σ H fun x H1 => Q (.bl (!decide (x = .non))) H1
def tB (t : TE) : TT := fun σ H Q => t σ H fun x H1 => ∃ c, x = .bl c ∧ Q c H1
theorem pt_val {e : Expr} {t : TE} (h : PE X e t) (he : ∀ whole, isTrue e X.env whole = (do let v ← whole; standAt e.pos; holding [v] (truthy v)) := by intro _; rfl) : PT X e (tB t) := by
  intro pins s σ H Q I hw
  refine isTrue_plain (thn (h pins s σ H _ I hw) fun v s1 ⟨x, H1, I1, r1, q1⟩ => ?_) (he _)
  obtain ⟨d, rfl, q⟩ := q1
  cases r1
  exact wpAny_truthy_bool ⟨H1, I1, q⟩
variable {tA tB' : TT} {rest : List Expr}
def tAnd (t u : TT) : TT := fun σ H Q => t σ H fun c H1 => if c = true then u σ H1 Q else Q false H1
def tOr (t u : TT) : TT := fun σ H Q => t σ H fun c H1 => if c = true then Q true H1 else u σ H1 Q
def tNot (t : TT) : TT := fun σ H Q => t σ H fun c H1 => Q (!c) H1
theorem pw_and1 (ha : PT X a tA) : PW X (.BoolOp .And [a] pos) tA := by
  intro wh pins s σ H Q I h
  refine isTrue_and (thn (ha pins s σ H Q I h) fun c s1 e => ?_)
  cases c with
  | true => exact isTrue_and_nil e
  | false => exact e
theorem pw_or1 (ha : PT X a tA) : PW X (.BoolOp .Or [a] pos) tA := by
  intro wh pins s σ H Q I h
  refine isTrue_or (thn (ha pins s σ H Q I h) fun c s1 e => ?_)
  cases c with
  | false => exact isTrue_or_nil e
  | true => exact e
theorem pw_and (ha : PT X a tA) (hb : PW X (.BoolOp .And (b :: rest) pos) tB') : PW X (.BoolOp .And (a :: b :: rest) pos) (tAnd tA tB') := by
  intro wh pins s σ H Q I h
  refine isTrue_and (thn (ha pins s σ H _ I h) fun c s1 ⟨H1, I1, q1⟩ => ?_)
  cases c with
  | true => exact hb wh pins s1 σ H1 Q I1 q1
  | false => exact ⟨H1, I1, q1⟩
theorem pw_or (ha : PT X a tA) (hb : PW X (.BoolOp .Or (b :: rest) pos) tB') : PW X (.BoolOp .Or (a :: b :: rest) pos) (tOr tA tB') := by
  intro wh pins s σ H Q I h
  refine isTrue_or (thn (ha pins s σ H _ I h) fun c s1 ⟨H1, I1, q1⟩ => ?_)
  cases c with
  | true => exact ⟨H1, I1, q1⟩
  | false => exact hb wh pins s1 σ H1 Q I1 q1
theorem pt_not (ha : PT X a tA) : PT X (.UnaryOp .Not a pos) (tNot tA) := by
  intro pins s σ H Q I h
  exact isTrue_not (ha pins s σ H (fun c H1 => Q (!c) H1) I h)
def tAndV (ta tb : TE) : TE := fun σ H Q => ta σ H fun x H1 => ∃ c, x = .bl c ∧ if c = true then tb σ H1 Q else Q (.bl false) H1
def tOrV (ta tb : TE) : TE := fun σ H Q => ta σ H fun x H1 => ∃ c, x = .bl c ∧ if c = true then Q (.bl true) H1 else tb σ H1 Q
def tNotV (ta : TE) : TE := fun σ H Q => ta σ H fun x H1 => ∃ c, x = .bl c ∧ Q (.bl (!c)) H1
theorem pe_one {op} {t : TE} (h : PE X a t) : PE X (.BoolOp op [a] pos) t := fun pins s σ H Q I hw => BoolOp_one (h pins s σ H Q I hw)
theorem pe_and (ha : PE X a ta) (hb : PE X (.BoolOp .And (b :: rest) pos) tb) : PE X (.BoolOp .And (a :: b :: rest) pos) (tAndV ta tb) := by
  intro pins s σ H Q I h
  refine BoolOp_and (thn (ha pins s σ H _ I h) fun v s1 ⟨x, H1, I1, r1, q1⟩ => ?_)
  obtain ⟨c, rfl, q1⟩ := q1
  cases r1
  refine wpAny_truthy_bool ?_
  cases c with
  | true => exact hb pins s1 σ H1 Q I1 q1
  | false => exact ⟨.bl false, H1, I1, rfl, q1⟩
theorem pe_not (ha : PE X a ta) : PE X (.UnaryOp .Not a pos) (tNotV ta) := by
  intro pins s σ H Q I h
  refine UnaryOp_ (thn (ha pins s σ H _ I h) fun v s1 ⟨x, H1, I1, r1, q1⟩ => ?_)
  obtain ⟨c, rfl, q1⟩ := q1
  cases r1
  exact not_of (wpAny_truthy_bool ⟨.bl (!c), H1, I1, rfl, q1⟩)
def tIf (t : TT) (ta tb : TE) : TE := fun σ H Q => t σ H fun c H1 => if c = true then ta σ H1 Q else tb σ H1 Q
end
end L2
namespace L2
open PySem PySem.Spec PyProof.Rows
def SqL (K : PySem.W.Frag) (H : Hp) (a : Addr) (xs : List V) : Prop :=
  Rd H a (.lst xs) ∨
    ∃ (o : Obj) (its : Array Value) (n : Nat), K.lookup a = some o ∧ o.cls = .type "list" ∧ o.dict = none ∧ o.data = .seq its n ∧ its.size ≤ sizeLine ∧ Vals xs its.toList
def SqT (K : PySem.W.Frag) (H : Hp) (a : Addr) (xs : List V) : Prop :=
  Rd H a (.tup xs) ∨
    ∃ (o : Obj) (its : Array Value) (n : Nat), K.lookup a = some o ∧ o.cls = .type "tuple" ∧ o.data = .seq its n ∧ its.size ≤ sizeLine ∧ Vals xs its.toList
def absV : Value → Option V
  | .none => some .non
  | .bool b => some (.bl b)
  | .int i _ => some (.int i)
  | .str x _ => some (.str x)
  | .bytes b _ => some (.byt b)
  | .float b _ => some (.flt b)
  | .ref a => some (.ref a)
  | .type n => some (.ty n)
  | _ => none
theorem RelV.abs {x : V} {u : Value} (r : RelV x u) : absV u = some x := by
  cases x with
  | non => cases r; rfl
  | bl _ => cases r; rfl
  | int _ => obtain ⟨t, rfl⟩ := r; rfl
  | str _ => obtain ⟨t, rfl⟩ := r; rfl
  | byt _ => obtain ⟨t, rfl⟩ := r; rfl
  | flt _ => obtain ⟨t, rfl⟩ := r; rfl
  | ref _ => cases r; rfl
  | ty _ => cases r; rfl
theorem RelV.inj {x y : V} {u : Value} (r : RelV x u) (q : RelV y u) : x = y := Option.some.inj (r.abs.symm.trans q.abs)
theorem Vals.inj : ∀ {xs ys : List V} {us : List Value}, Vals xs us → Vals ys us → xs = ys
  | _, _, _, .nil, .nil => rfl
  | _, _, _, .cons r t, .cons r' t' => by rw [r.inj r', Vals.inj t t']
section
variable {X : Cx} {pins : List (Addr × Obj)} {σ : St} {H : Hp} {s : Shared} {a : Addr} {xs ys : List V}
theorem SqL.of {K : PySem.W.Frag} (h : H a = some (.lst xs)) : SqL K H a xs := .inl (.inl h)
theorem SqT.of {K : PySem.W.Frag} (h : H a = some (.tup xs)) : SqT K H a xs := .inl (.inl h)
theorem Inv.list (I : Inv X pins σ H s) (h : SqL X.K H a xs) : ∃ its : List Value, Vals xs its ∧ PlainL s.heap a its.toArray ∧ xs.length ≤ sizeLine := by
  rcases h with h | ⟨o, its, n, hk, hc, hd, hs, hz, r⟩
  · obtain ⟨z, its, n, r, e⟩ := h.ok I.hok
    exact ⟨its, r, ⟨_, n, e, rfl, rfl, rfl⟩, z⟩
  · refine ⟨its.toList, r, ⟨o, n, I.kIn a o hk, hc, hd, by simpa using hs⟩, ?_⟩
    have e := r.length
    simp only [Array.length_toList] at e
    omega
theorem Inv.tuple (I : Inv X pins σ H s) (h : SqT X.K H a xs) : ∃ its : List Value, Vals xs its ∧ IsTup s.heap a its.toArray ∧ xs.length ≤ sizeLine := by
  rcases h with h | ⟨o, its, n, hk, hc, hs, hz, r⟩
  · obtain ⟨z, its, r, p⟩ := h.ok I.hok
    exact ⟨its, r, p, z⟩
  · refine ⟨its.toList, r, ⟨o, I.kIn a o hk, hc, n, by simpa using hs⟩, ?_⟩
    have e := r.length
    simp only [Array.length_toList] at e
    omega
theorem Inv.list_inj (I : Inv X pins σ H s) (h : SqL X.K H a xs) (h' : SqL X.K H a ys) : xs = ys := by
  obtain ⟨its, r, ⟨o, n, e, _, _, d⟩, _⟩ := I.list h
  obtain ⟨its', r', ⟨o', n', e', _, _, d'⟩, _⟩ := I.list h'
  rw [e] at e'; cases e'
  rw [d] at d'
  injection d' with d1 _
  have : its = its' := by simpa using congrArg Array.toList d1
  subst this
  exact r.inj r'
theorem Inv.tuple_inj (I : Inv X pins σ H s) (h : SqT X.K H a xs) (h' : SqT X.K H a ys) : xs = ys := by
  obtain ⟨its, r, ⟨o, e, _, n, d⟩, _⟩ := I.tuple h
  obtain ⟨its', r', ⟨o', e', _, n', d'⟩, _⟩ := I.tuple h'
  rw [e] at e'; cases e'
  rw [d] at d'
  injection d' with d1 _
  have : its = its' := by simpa using congrArg Array.toList d1
  subst this
  exact r.inj r'
end
abbrev Cx.wish (X : Cx) (E : Value → Shared → Prop) : Cx := { X with xe := E }
abbrev Cx.nox (X : Cx) : Cx := X.wish fun _ _ => False
theorem Cx.Ok.wish {X : Cx} (ok : X.Ok) (E : Value → Shared → Prop) : (X.wish E).Ok :=
  ⟨ok.mod, ok.kind, ok.glob, ok.blt, ok.above, ok.inj, ok.has, ok.cab, ok.hd, ok.frames, ok.stk, ok.exf, ok.bs, ok.bsz, ok.noex, ok.exfs, ok.funs, ok.frf⟩
theorem Cx.Ok.unwish {X : Cx} {E : Value → Shared → Prop} (ok : (X.wish E).Ok) : X.Ok :=
  ⟨ok.mod, ok.kind, ok.glob, ok.blt, ok.above, ok.inj, ok.has, ok.cab, ok.hd, ok.frames, ok.stk, ok.exf, ok.bs, ok.bsz, ok.noex, ok.exfs, ok.funs, ok.frf⟩
section
variable {X : Cx} {pins : List (Addr × Obj)} {σ : St} {H : Hp} {s : Shared} {E : Value → Shared → Prop}
theorem Inv.wish (I : Inv X pins σ H s) (E : Value → Shared → Prop) : Inv (X.wish E) pins σ H s := ⟨I.ok.wish E, I.os, I.bare, I.base, I.loc, I.cell, I.free, I.freeC, I.pin, I.hok, I.len⟩
theorem Inv.unwish (I : Inv (X.wish E) pins σ H s) : Inv X pins σ H s := ⟨I.ok.unwish, I.os, I.bare, I.base, I.loc, I.cell, I.free, I.freeC, I.pin, I.hok, I.len⟩
theorem SP.unwish {D : Ends} {f : Flow} {s' : Shared} (h : SP (X.wish E) pins D f s') : SP X pins D f s' := by
  cases f with
  | next => obtain ⟨σ', H', I, q⟩ := h; exact ⟨σ', H', I.unwish, q⟩
  | brk => obtain ⟨σ', H', I, q⟩ := h; exact ⟨σ', H', I.unwish, q⟩
  | cont => obtain ⟨σ', H', I, q⟩ := h; exact ⟨σ', H', I.unwish, q⟩
  | ret u => obtain ⟨v, σ', H', I, r, q⟩ := h; exact ⟨v, σ', H', I.unwish, r, q⟩
theorem PE.nox {e : Expr} {t : TE} (h : PE X.nox e t) : PE X e t := fun pins s σ H Q I hw =>
  wpAny_mono (h pins s σ H Q (I.wish _) hw) (fun _ _ ⟨v, H', I', r, q⟩ => ⟨v, H', I'.unwish, r, q⟩) fun _ _ z => False.elim z
theorem PT.nox {e : Expr} {t : TT} (h : PT X.nox e t) : PT X e t := fun pins s σ H Q I hw =>
  wpAny_mono (h pins s σ H Q (I.wish _) hw) (fun _ _ ⟨H', I', q⟩ => ⟨H', I'.unwish, q⟩) fun _ _ z => False.elim z
theorem PSs.nox {st : List Stmt} {t : TS} (h : PSs X.nox st t) : PSs X st t := fun pins s σ H D I hw =>
  wpAny_mono (h pins s σ H D (I.wish _) hw) (fun _ _ q => q.unwish) fun _ _ z => False.elim z
end
section
variable {X : Cx} {st : Stmt} {rest : List Stmt} {t u : TS} {e : Expr} {te : TE} {pos : Pos}
def tNext : TS := fun D σ H => D.nx σ H
def tSeq (t u : TS) : TS := fun D σ H => t { D with nx := u D } σ H
theorem pss_nil : PSs X [] tNext := fun _ _ σ H _ I h => wpAny_execs_nil ⟨σ, H, I, h⟩
theorem pss_cons (h1 : PS X st t) (h2 : PSs X rest u) : PSs X (st :: rest) (tSeq t u) := by
  intro pins s σ H D I h
  refine wpAny_execs_cons (thn (h1 pins s σ H { D with nx := u D } I h) fun f s1 q => ?_)
  cases f with
  | next =>
    obtain ⟨σ', H', I', q⟩ := q
    exact h2 pins s1 σ' H' D I' q
  | ret v => exact q
  | brk => exact q
  | cont => exact q
theorem pss_one (h1 : PS X st t) : PSs X [st] t := by
  intro pins s σ H D I h
  refine wpAny_execs_cons (thn (h1 pins s σ H D I h) fun f s1 q => ?_)
  cases f with
  | next => exact wpAny_execs_nil q
  | ret v => exact q
  | brk => exact q
  | cont => exact q
theorem Inv.quiet {pins : List (Addr × Obj)} {σ : St} {H : Hp} {s : Shared} (I : Inv X pins σ H s) : interactive X.env = false := by simp [interactive, I.ok.kind]
def tDrop (te : TE) : TS := fun D σ H => te σ H fun _ H1 => D.nx σ H1
theorem ps_expr (he : PE X e te) (hs : swapsWith e none pos.line X.env = pure false := by rfl) : PS X (.Expr e pos) (tDrop te) := by
  intro pins s σ H D I h
  exact wpAny_Expr_any (thn (he pins s σ H _ I h) fun v s1 ⟨x, H1, I1, r1, q1⟩ => ⟨σ, H1, I1, q1⟩) I.quiet hs
def tRet (te : TE) : TS := fun D σ H => te σ H D.rt
theorem ps_ret (he : PE X e te) : PS X (.Return (some e) pos) (tRet te) := by
  intro pins s σ H D I h
  exact wpAny_Return_some (thn (he pins s σ H _ I h) fun v s1 ⟨x, H1, I1, r1, q1⟩ => ⟨x, σ, H1, I1, r1, q1⟩)
def tRetN : TS := fun D _ H => D.rt .non H
def tIfS (c : TT) (t u : TS) : TS := fun D σ H => c σ H fun b H1 => if b = true then t D σ H1 else u D σ H1
theorem ps_if {c : Expr} {a b : List Stmt} {tc : TT} (hc : PT X c tc) (ha : PSs X a t) (hb : PSs X b u) : PS X (.If c a b pos) (tIfS tc t u) := by
  intro pins s σ H D I h
  refine wpAny_If (thn (hc pins s σ H _ I h) fun d s1 ⟨H1, I1, q1⟩ => ?_)
  cases d with
  | true => exact ha pins s1 σ H1 D I1 q1
  | false => exact hb pins s1 σ H1 D I1 q1
def tNever : TS := fun _ _ _ => False
theorem pss_never {sts : List Stmt} : PSs X sts tNever := fun _ _ _ _ _ _ h => h.elim
end
abbrev TG := V → St → Hp → (St → Hp → Prop) → Prop
abbrev TGs := List V → St → Hp → (St → Hp → Prop) → Prop
def PG (X : Cx) (target : Expr) (t : TG) : Prop :=
  ∀ (pins : List (Addr × Obj)) (s : Shared) (σ : St) (H : Hp) (v : V) (u : Value) (Q : St → Hp → Prop), Inv X pins σ H s → RelV v u → t v σ H Q →
    wpAny (model X.prog X.w) X.A (assign target X.env u) (fun _ s' => ∃ σ' H', Inv X pins σ' H' s' ∧ Q σ' H') X.xe s
def PGs (X : Cx) (ts : List Expr) (t : TGs) : Prop :=
  ∀ (pins : List (Addr × Obj)) (s : Shared) (σ : St) (H : Hp) (vs : List V) (us : List Value) (Q : St → Hp → Prop), Inv X pins σ H s → Vals vs us → t vs σ H Q →
    wpAny (model X.prog X.w) X.A (assignInOrder ((assignEach ts X.env).map (·.2)) us) (fun _ s' => ∃ σ' H', Inv X pins σ' H' s' ∧ Q σ' H') X.xe s
abbrev TSet := V → V → V → Hp → (Hp → Prop) → Prop
def PSet (X : Cx) (t : TSet) : Prop :=
  ∀ (pins : List (Addr × Obj)) (s : Shared) (σ : St) (H : Hp) (o i v : V) (ov iv u : Value) (Q : Hp → Prop), Inv X pins σ H s → RelV o ov → RelV i iv → RelV v u → t o i v H Q →
    wpAny (model X.prog X.w) X.A (setItem ov iv u) (fun _ s' => ∃ H', Inv X pins σ H' s' ∧ Q H') X.xe s
section
variable {X : Cx} {pos : Pos}
def gName (i : Nat) : TG := fun v σ H Q => Q (σ.set i (some v)) H
theorem pg_name {i : Nat} {x : Str} (hN : X.N.Nodup) (hi : X.N[i]? = some x) (hx : Loc X.env.scope x) (hf : X.fn x = true ∨ X.env.scope.names.lookup x = some .local := by first | exact .inl rfl | exact .inr rfl | assumption) : PG X (.Name x pos) (gName i) := by
  intro pins s σ H v u Q I r h
  exact wpAny_assign_Name (store_ok I hN hi hx r (fun s' I' => ⟨_, H, I', h⟩) hf)
def gNil : TGs := fun vs σ H Q => vs = [] ∧ Q σ H
def gCons (t : TG) (u : TGs) : TGs := fun vs σ H Q => ∃ v r, vs = v :: r ∧ t v σ H fun σ' H' => u r σ' H' Q
theorem pgs_nil : PGs X [] gNil := by
  intro pins s σ H vs us Q I r h
  obtain ⟨e, h⟩ := h
  subst e
  cases r
  exact assignInOrder_nil ⟨σ, H, I, h⟩
theorem pgs_cons {e : Expr} {es : List Expr} {t : TG} {u : TGs} (h1 : PG X e t) (h2 : PGs X es u)
    (hs : (assignEach (e :: es) X.env).map (·.2) = assign e X.env :: (assignEach es X.env).map (·.2) := by rfl) : PGs X (e :: es) (gCons t u) := by
  intro pins s σ H vs us Q I r h
  obtain ⟨v, vr, e1, h⟩ := h
  subst e1
  cases r with
  | cons r rr =>
    rw [hs]
    refine assignInOrder_cons (thn (h1 pins s σ H _ _ _ I r h) fun _ s1 ⟨σ1, H1, I1, q1⟩ => ?_)
    exact h2 pins s1 σ1 H1 _ _ Q I1 rr q1
def gTup (K : PySem.W.Frag) (n : Nat) (t : TGs) : TG := fun v σ H Q => ∃ a xs, v = .ref a ∧ SqT K H a xs ∧ xs.length = n ∧ t xs σ H Q
theorem pg_tup {es : List Expr} {k : Nat} {t : TGs} {n : Nat} (hc : X.calm = true) (h : PGs X es t)
    (hn : (assignEach es X.env).length = n := by rfl) (hst : (assignEach es X.env).findIdx? (·.1) = none := by rfl) : PG X (.Tuple es k pos) (gTup X.K n t) := by
  intro pins s σ H v u Q I r hw
  obtain ⟨a, xs, e1, hq, hl, hw⟩ := hw
  subst e1
  cases r
  obtain ⟨its, rv, ht, hz⟩ := I.tuple hq
  refine assign_Tuple_tuple (I.ok.hd hc) ht (by simp [hn, ← hl, rv.length]) hst fun h' hx => ?_
  have I1 : Inv X pins σ H { s with heap := h' } := I.kept (t' := s.toks) fun b o e => hx b o (Nat.ne_of_lt (Heap.lt_size e)) e
  exact h pins _ σ H xs _ Q I1 (by simpa using rv) hw
def gSub (to ti : TE) (t : TSet) : TG := fun v σ H Q => to σ H fun o H1 => ti σ H1 fun i H2 => t o i v H2 fun H3 => Q σ H3
theorem pg_sub {o i : Expr} {to ti : TE} {t : TSet} (ho : PE X o to) (hi : PE X i ti) (hs : PSet X t)
    (ha : ∀ v, assign (.Subscript o i pos) X.env v = (do
      let ov ← holding [v] (eval o X.env)
      let iv ← holding [v, ov] (eval i X.env)
      standAt pos
      holding [v, ov, iv] (setItem ov iv v)
      release [v, ov, iv] []) := by intro _; rfl) : PG X (.Subscript o i pos) (gSub to ti t) := by
  intro pins s σ H v u Q I r h
  rw [ha]
  refine wpAny_bind (wpAny_holding (thn (ho pins s σ H _ I h) fun ov s1 ⟨x, H1, I1, r1, q1⟩ => ?_))
  refine wpAny_bind (wpAny_holding (thn (hi pins s1 σ H1 _ I1 q1) fun iv s2 ⟨y, H2, I2, r2, q2⟩ => ?_))
  refine wpAny_bind (wpAny_standAt (wpAny_bind (wpAny_holding (thn (hs pins s2 σ H2 x y v ov iv u _ I2 r1 r2 r q2) fun _ s3 ⟨H3, I3, q3⟩ => ?_))))
  exact wpAny_release ⟨σ, H3, I3, q3⟩
def tAsg (te : TE) (g : TG) : TS := fun D σ H => te σ H fun x H1 => g x σ H1 D.nx
theorem ps_asg {tg e : Expr} {te : TE} {g : TG} (he : PE X e te) (hg : PG X tg g) (hs : swapsWithSole [tg] e pos.line X.env = pure false := by rfl) (hw : swappedStores [tg] e X.env = pure none := by rfl)
    (h1 : (assignEach [tg] X.env).map (·.2) = [assign tg X.env] := by rfl) : PS X (.Assign [tg] e pos) (tAsg te g) := by
  intro pins s σ H D I h
  refine wpAny_Assign_stores (thn (he pins s σ H _ I h) fun v s1 ⟨x, H1, I1, r1, q1⟩ => ?_) hs hw
  rw [h1]
  exact thn (hg pins s1 σ H1 x v _ I1 r1 q1) fun _ s2 q => q
theorem ps_set {i : Nat} {x : Str} {e : Expr} {te : TE} {pos' : Pos} (hN : X.N.Nodup) (hi : X.N[i]? = some x) (hx : Loc X.env.scope x) (he : PE X e te) (hs : swapsWith e (some (.Name x pos')) pos.line X.env = pure false := by rfl) (hf : X.fn x = true ∨ X.env.scope.names.lookup x = some .local := by first | exact .inl rfl | exact .inr rfl | assumption) :
    PS X (.Assign [.Name x pos'] e pos) (tAsg te (gName i)) := by
  intro pins s σ H D I h
  refine wpAny_Assign_Name (thn (he pins s σ H _ I h) fun v s1 ⟨y, H1, I1, r1, q1⟩ => ?_) hs
  exact store_ok I1 hN hi hx r1 (fun s2 I2 => ⟨_, H1, I2, q1⟩) hf
end
section
variable {X : Cx} {pos : Pos}
end
structure It where
  go : Nat → Hp → Prop
  yld : Nat → Hp → V → Hp → Prop
  stop : Nat → Hp → Prop
def FpOk (X : Cx) (pins : List (Addr × Obj)) (H : Hp) (b : Addr) : Prop :=
  H b = none ∧ b ≠ X.env.locals ∧ b ∉ X.fs ∧ (b ∈ X.ex ∨ X.s₀.heap.objs.size ≤ b) ∧ (∀ x c, X.env.cells.lookup x = some c → c ≠ b) ∧ ∀ p ∈ X.pn ++ pins, p.1 ≠ b
theorem Inv.fpOk {X : Cx} {pins : List (Addr × Obj)} {σ : St} {H H' : Hp} {s : Shared} {b : Addr} (I : Inv X pins σ H s) (hb : s.heap.objs.size ≤ b) (hn : H' b = none) : FpOk X pins H' b := by
  refine ⟨hn, Nat.ne_of_gt (Nat.lt_of_lt_of_le I.lt hb), I.nofs hb, .inr (Nat.le_trans I.sz hb), fun x c e z => ?_, fun p hp z => ?_⟩
  · obtain ⟨v, q⟩ := I.cell x c e
    exact absurd (Nat.lt_of_lt_of_le q.lt (by rw [z]; exact hb)) (Nat.lt_irrefl _)
  · exact absurd (Nat.lt_of_lt_of_le (Heap.lt_size (I.pin p hp).1) (by rw [z]; exact hb)) (Nat.lt_irrefl _)
structure Turn (P : Program) (w : World) (K : PySem.W.Frag) (tg : Expr) (J : It) (fp : List Addr) (it : Addr) (tn : Nat → Heap → Prop) : Prop where
  mem : it ∈ fp
  obj : ∀ i h, tn i h → ∀ b ∈ fp, ∃ o, h.get? b = some o ∧ ∀ v, o.data ≠ .cell v
  keep : ∀ i h h', tn i h → (∀ b ∈ fp, ∀ o, h.get? b = some o → h'.get? b = some o) → tn i h'
  item : ∀ (X : Cx), X.prog = P → X.w = w → X.K = K → X.calm = true → ∀ (i : Nat) (pins : List (Addr × Obj)) (s : Shared) (σ : St) (H : Hp) (E : Value → Shared → Prop), Inv X pins σ H s → (∀ b ∈ fp, FpOk X pins H b) → tn i s.heap → J.go i H →
    wpAny (model P w) X.A (pyNext (.ref it)) (fun r s1 => ∃ u, r = some u ∧
      wpAny (model P w) X.A (letOwnedTupleGo tg (.ref it) u) (fun _ s2 => ∃ x H', Inv X pins σ H' s2 ∧ RelV x u ∧ J.yld i H x H' ∧ tn (i + 1) s2.heap ∧ ∀ b ∈ fp, H' b = none) E s1) E s
  done : ∀ (X : Cx), X.prog = P → X.w = w → X.K = K → X.calm = true → ∀ (i : Nat) (pins : List (Addr × Obj)) (s : Shared) (σ : St) (H : Hp) (E : Value → Shared → Prop), Inv X pins σ H s → (∀ b ∈ fp, FpOk X pins H b) → tn i s.heap → J.stop i H →
    wpAny (model P w) X.A (pyNext (.ref it)) (fun r s1 => r = none ∧ Inv X pins σ H s1) E s
  self : ∀ (A : Around) (i : Nat) (s : Shared) (Q : Value → Shared → Prop) (E : Value → Shared → Prop), tn i s.heap → Q (.ref it) s → wpAny (model P w) A (pyIter (.ref it)) Q E s
abbrev TI := St → Hp → (It → Hp → Prop) → Prop
def PIE (X : Cx) (pins : List (Addr × Obj)) (σ : St) (tg : Expr) (R : It → Hp → Prop) (itv : Value) (s2 : Shared) : Prop :=
  ∃ (it : Addr) (fp : List Addr) (tn : Nat → Heap → Prop) (J : It) (H' : Hp), itv = .ref it ∧ Inv X pins σ H' s2 ∧ Turn X.prog X.w X.K tg J fp it tn ∧ tn 0 s2.heap ∧ (∀ b ∈ fp, FpOk X pins H' b) ∧ R J H'
def PI (X : Cx) (tg iter : Expr) (wi : TI) : Prop :=
  ∀ (pins : List (Addr × Obj)) (s : Shared) (σ : St) (H : Hp) (R : It → Hp → Prop), Inv X pins σ H s → wi σ H R →
    wpAny (model X.prog X.w) X.A (eval iter X.env) (fun v s1 => wpAny (model X.prog X.w) X.A (pyIter v) (PIE X pins σ tg R) X.xe s1) X.xe s
theorem go_of {M : Model} {A : Around} {E : Value → Shared → Prop} {s : Shared} {tg : Expr} {it : Addr} {u : Value} {o : Obj} {n : String} {vs : Array Value} {Q : Unit → Shared → Prop} (ho : s.heap.get? it = some o) (hc : o.cls = .type n) (hd : o.data = .fields vs)
    (hn : ["enumerate", "zip", "dict_itemiterator", "dict_reverseitemiterator", "odict_iterator", "itertools.zip_longest", "itertools.pairwise"].contains n = false) (hQ : Q () s) : wpAny M A (letOwnedTupleGo tg (.ref it) u) Q E s := by
  unfold letOwnedTupleGo
  cases tg <;> first
    | exact wpAny_pure hQ
    | (cases u <;> first
        | exact wpAny_pure hQ
        | (refine wpAny_bind (wpAny_load ho ?_)
           rw [hc, hd]
           show wpAny M A (if (["enumerate", "zip", "dict_itemiterator", "dict_reverseitemiterator", "odict_iterator", "itertools.zip_longest", "itertools.pairwise"].contains n && vs[0]? == some (rawInt _)) = true then _ else _) Q E s
           rw [if_neg (by intro h; rw [hn, Bool.false_and] at h; cases h)]
           exact wpAny_pure hQ))
def Itl (K : PySem.W.Frag) (a : Addr) : It :=
  ⟨fun i H => ∃ xs x, SqL K H a xs ∧ xs[i]? = some x, fun i H x H' => H' = H ∧ ∀ xs, SqL K H a xs → xs[i]? = some x, fun i H => ∃ xs, SqL K H a xs ∧ xs.length ≤ i⟩
def Itt (K : PySem.W.Frag) (a : Addr) : It :=
  ⟨fun i H => ∃ xs x, SqT K H a xs ∧ xs[i]? = some x, fun i H x H' => H' = H ∧ ∀ xs, SqT K H a xs → xs[i]? = some x, fun i H => ∃ xs, SqT K H a xs ∧ xs.length ≤ i⟩
def Itr (lo : Int) (n : Nat) : It := ⟨fun i _ => i < n, fun i H x H' => H' = H ∧ x = .int (lo + i), fun i _ => n ≤ i⟩
theorem turn_list {P : Program} {w : World} {K : PySem.W.Frag} {tg : Expr} (a it : Addr) : Turn P w K tg (Itl K a) [it] it (fun i h => h.IsListIter it a i) where
  mem := by simp
  obj := fun i h st b hb => by
    have e : b = it := by simpa using hb
    subst e
    obtain ⟨o, e, c, d⟩ := st
    exact ⟨o, e, fun v z => by rw [d] at z; cases z⟩
  keep := fun i h h' st k => st.at fun o e => k it (by simp) o e
  item := by
    intro X hP hw hK hc i pins s σ H E I hf st hg
    subst hP hw hK
    obtain ⟨xs, x, hq, hx⟩ := hg
    obtain ⟨its, rv, p, hz⟩ := I.list hq
    obtain ⟨u, hu, ru⟩ := rv.get hx
    obtain ⟨f0, f1, f2, f3, f4, f5⟩ := hf it (by simp)
    refine wpAny_pyNext_list_item st p.isList (x := u) (by simpa using hu) fun h' st' sb => ?_
    have I1 : Inv X pins σ H { s with heap := h' } := I.turned (t' := s.toks) (fun b o hb e => (sb.2 b hb).trans e) f0 f1 f3 f4 f5
    obtain ⟨o, e, c, d⟩ := id st'
    exact ⟨u, rfl, go_of (s := { s with heap := h' }) e c d (by decide) ⟨x, H, I1, ru, ⟨rfl, fun ys hy => by rw [I.list_inj hy hq]; exact hx⟩, st', fun b hb => (hf b hb).1⟩⟩
  done := by
    intro X hP hw hK hc i pins s σ H E I hf st hg
    subst hP hw hK
    obtain ⟨xs, hq, hx⟩ := hg
    obtain ⟨its, rv, p, hz⟩ := I.list hq
    obtain ⟨f0, f1, f2, f3, f4, f5⟩ := hf it (by simp)
    have hl := rv.length
    exact wpAny_pyNext_list_end (I.ok.hd hc) st p.isList (by simp; omega) fun h' eb => ⟨rfl, I.turned (t' := s.toks) (fun b o hb e => eb b o hb e) f0 f1 f3 f4 f5⟩
  self := fun _ _ _ _ _ st h => wpAny_pyIter_listiter st h
theorem turn_tuple {P : Program} {w : World} {K : PySem.W.Frag} {tg : Expr} (a it : Addr) : Turn P w K tg (Itt K a) [it] it (fun i h => h.IsTupleIter it a i) where
  mem := by simp
  obj := fun i h st b hb => by
    have e : b = it := by simpa using hb
    subst e
    obtain ⟨o, e, c, d⟩ := st
    exact ⟨o, e, fun v z => by rw [d] at z; cases z⟩
  keep := fun i h h' st k => st.at fun o e => k it (by simp) o e
  item := by
    intro X hP hw hK hc i pins s σ H E I hf st hg
    subst hP hw hK
    obtain ⟨xs, x, hq, hx⟩ := hg
    obtain ⟨its, rv, p, hz⟩ := I.tuple hq
    obtain ⟨u, hu, ru⟩ := rv.get hx
    obtain ⟨f0, f1, f2, f3, f4, f5⟩ := hf it (by simp)
    refine wpAny_pyNext_tuple_item st (show s.heap.IsTuple a its.toArray from p) (x := u) (by simpa using hu) fun h' st' sb => ?_
    have I1 : Inv X pins σ H { s with heap := h' } := I.turned (t' := s.toks) (fun b o hb e => (sb.2 b hb).trans e) f0 f1 f3 f4 f5
    obtain ⟨o, e, c, d⟩ := id st'
    exact ⟨u, rfl, go_of (s := { s with heap := h' }) e c d (by decide) ⟨x, H, I1, ru, ⟨rfl, fun ys hy => by rw [I.tuple_inj hy hq]; exact hx⟩, st', fun b hb => (hf b hb).1⟩⟩
  done := by
    intro X hP hw hK hc i pins s σ H E I hf st hg
    subst hP hw hK
    obtain ⟨xs, hq, hx⟩ := hg
    obtain ⟨its, rv, p, hz⟩ := I.tuple hq
    obtain ⟨f0, f1, f2, f3, f4, f5⟩ := hf it (by simp)
    have hl := rv.length
    exact wpAny_pyNext_tuple_end (I.ok.hd hc) st (show s.heap.IsTuple a its.toArray from p) (by simp; omega) fun h' eb => ⟨rfl, I.turned (t' := s.toks) (fun b o hb e => eb b o hb e) f0 f1 f3 f4 f5⟩
  self := fun _ _ _ _ _ st h => wpAny_pyIter_tupleiter st h
theorem turn_range {P : Program} {w : World} {K : PySem.W.Frag} {tg : Expr} (it : Addr) (lo : Int) (n : Nat) : Turn P w K tg (Itr lo n) [it] it (fun i h => IsRangeIter h it (lo + (i : Nat) * 1) ((n : Int) - (i : Nat)) 1) where
  mem := by simp
  obj := fun i h st b hb => by
    have e : b = it := by simpa using hb
    subst e
    exact ⟨_, st, fun v z => by
      have z' : Data.fields _ = Data.cell v := z
      cases z'⟩
  keep := fun i h h' st k => k it (by simp) _ st
  item := by
    intro X hP hw hK hc i pins s σ H E I hf st hg
    subst hP hw hK
    obtain ⟨f0, f1, f2, f3, f4, f5⟩ := hf it (by simp)
    have W := Walks.range (prog := X.prog) (w := X.w) (I.ok.hd hc) it lo 1 n
    refine W.item i s _ _ hg st fun v h' tk hv st' kk => ?_
    obtain ⟨t, rfl⟩ := hv
    have I1 : Inv X pins σ H { s with heap := h', toks := tk } := I.turned (fun b o hb e => kk b o (by simpa using hb) e) f0 f1 f3 f4 f5
    refine ⟨_, rfl, go_of (s := { s with heap := h', toks := tk }) (n := "range_iterator") st' rfl rfl (by decide) ⟨.int (lo + i), H, I1, ⟨t, ?_⟩, ⟨rfl, rfl⟩, st', fun b hb => (hf b hb).1⟩⟩
    rw [Int.mul_one]
  done := by
    intro X hP hw hK hc i pins s σ H E I hf st hg
    subst hP hw hK
    obtain ⟨f0, f1, f2, f3, f4, f5⟩ := hf it (by simp)
    exact wpAny_pyNext_range_end (I.ok.hd hc) st (by have : n ≤ i := hg; omega) fun h' eb => ⟨rfl, I.turned (t' := s.toks) (fun b o hb e => eb b o hb e) f0 f1 f3 f4 f5⟩
  self := fun _ _ _ _ _ st h => wpAny_pyIter_rangeiter st h
end L2
namespace L2
open PySem PySem.Spec PyProof.Rows
section
variable {X : Cx} {tg : Expr}
def iList (K : PySem.W.Frag) (tl : TE) : TI := fun σ H R => tl σ H fun x H1 => ∃ a, x = .ref a ∧ (∃ xs, SqL K H1 a xs) ∧ R (Itl K a) H1
def iTup (K : PySem.W.Frag) (tl : TE) : TI := fun σ H R => tl σ H fun x H1 => ∃ a, x = .ref a ∧ (∃ xs, SqT K H1 a xs) ∧ R (Itt K a) H1
theorem pi_list {l : Expr} {tl : TE} (hl : PE X l tl) : PI X tg l (iList X.K tl) := by
  intro pins s σ H R I h
  refine thn (hl pins s σ H _ I h) fun v s1 ⟨x, H1, I1, r1, q1⟩ => ?_
  obtain ⟨a, e, ⟨xs, hq⟩, q⟩ := q1
  subst e
  cases r1
  obtain ⟨its, rv, p, hz⟩ := I1.list hq
  refine wpAny_pyIter_list p.isList ?_
  refine ⟨s1.heap.objs.size, [s1.heap.objs.size], _, _, H1, rfl, I1.kept (t' := s1.toks) fun b o e => Heap.get?_push_of_some _ e, turn_list a _, ⟨_, Heap.get?_push_size _ rfl, rfl, rfl⟩, fun b hb => ?_, q⟩
  have e : b = s1.heap.objs.size := by simpa using hb
  subst e
  exact I1.fpOk (Nat.le_refl _) (I1.hok.fresh (Nat.le_refl _))
theorem pi_tup {l : Expr} {tl : TE} (hl : PE X l tl) : PI X tg l (iTup X.K tl) := by
  intro pins s σ H R I h
  refine thn (hl pins s σ H _ I h) fun v s1 ⟨x, H1, I1, r1, q1⟩ => ?_
  obtain ⟨a, e, ⟨xs, hq⟩, q⟩ := q1
  subst e
  cases r1
  obtain ⟨its, rv, p, hz⟩ := I1.tuple hq
  refine wpAny_pyIter_tuple (show s1.heap.IsTuple a its.toArray from p) ?_
  refine ⟨s1.heap.objs.size, [s1.heap.objs.size], _, _, H1, rfl, I1.kept (t' := s1.toks) fun b o e => Heap.get?_push_of_some _ e, turn_tuple a _, ⟨_, Heap.get?_push_size _ rfl, rfl, rfl⟩, fun b hb => ?_, q⟩
  have e : b = s1.heap.objs.size := by simpa using hb
  subst e
  exact I1.fpOk (Nat.le_refl _) (I1.hok.fresh (Nat.le_refl _))
theorem range_it {pins : List (Addr × Obj)} {σ : St} {H : Hp} {s : Shared} {R : It → Hp → Prop} {E : Value → Shared → Prop} {lo hi : Int} {t u v : Tok} {tk : Nat} (I : Inv X pins σ H s) (h1 : -(2 ^ 62) ≤ lo) (h2 : lo < 2 ^ 62) (h3 : -(2 ^ 62) ≤ hi) (h4 : hi < 2 ^ 62)
    (q : R (Itr lo (hi - lo).toNat) H) : wpAny (model X.prog X.w) X.A (pyIter (.ref s.heap.objs.size)) (PIE X pins σ tg R) E { s with heap := s.heap.push { cls := .type "range", data := .fields #[.int lo t, .int hi u, .int 1 v] }, toks := tk } := by
  refine wpAny_pyIter_range (IsRange.new ..) (small_one h1 h2 h3 h4) ?_
  have I1 : Inv X pins σ H { s with heap := s.heap.push { cls := .type "range", data := .fields #[.int lo t, .int hi u, .int 1 v] }, toks := tk } := I.kept fun b o e => Heap.get?_push_of_some _ e
  refine ⟨(s.heap.push { cls := .type "range", data := .fields #[.int lo t, .int hi u, .int 1 v] }).objs.size, [(s.heap.push { cls := .type "range", data := .fields #[.int lo t, .int hi u, .int 1 v] }).objs.size], _, _, H, rfl,
    I1.kept (t' := tk) fun b o e => Heap.get?_push_of_some _ e, turn_range _ lo (hi - lo).toNat, ?_, fun b hb => ?_, q⟩
  · have e1 : lo + ((0 : Nat) : Int) * 1 = lo := by simp
    have e2 : (((hi - lo).toNat : Nat) : Int) - ((0 : Nat) : Int) = Builtin.Range.rangeSize lo hi 1 := by rw [rangeSize_one]; split <;> omega
    show IsRangeIter _ _ (lo + ((0 : Nat) : Int) * 1) ((((hi - lo).toNat : Nat) : Int) - ((0 : Nat) : Int)) 1
    rw [e1, e2]
    exact Heap.get?_push_size _ rfl
  · have e : b = (s.heap.push { cls := .type "range", data := .fields #[.int lo t, .int hi u, .int 1 v] }).objs.size := by simpa using hb
    subst e
    exact I1.fpOk (Nat.le_refl _) (I1.hok.fresh (Nat.le_refl _))
def iRng1 (ta : TA) : TI := fun σ H R => ta σ H fun vs H1 => ∃ j : Int, vs = [.int j] ∧ -(2 ^ 62) ≤ j ∧ j < 2 ^ 62 ∧ R (Itr 0 j.toNat) H1
def iRng2 (ta : TA) : TI := fun σ H R => ta σ H fun vs H1 => ∃ i j : Int, vs = [.int i, .int j] ∧ (-(2 ^ 62) ≤ i ∧ i < 2 ^ 62 ∧ -(2 ^ 62) ≤ j ∧ j < 2 ^ 62) ∧ R (Itr i (j - i).toNat) H1
theorem pi_range1 {a : Expr} {ta : TA} {p pos : Pos} (hg : Gl X "range") (hm : X.mg "range" = none) (ha : PA X [a] ta) (hs : starEach [a] X.env = [(false, eval a X.env)] := by rfl) : PI X tg (.Call (.Name "range" p) [a] [] pos) (iRng1 ta) := by
  intro pins s σ H R I h
  refine Call_ (ld_blt I hg hm boot_range (PyProof.Rows.callWith_type1 (thn (ha pos pins s σ H _ I h) fun us s1 ⟨vs, H1, I1, r1, q1⟩ => ?_) hs rfl))
  obtain ⟨j, e, q1, q2, q⟩ := q1
  subst e
  cases r1 with
  | cons r rr =>
    cases rr
    obtain ⟨t, rfl⟩ := r
    exact call_range_1 (range_it I1 (by omega) (by omega) q1 q2 (by simpa using q))
def tFor (wi : TI) (g : TG) (tb : TS) : TS := fun D σ H => wi σ H fun J H1 => ∃ W : Nat → Nat → St → Hp → Prop, (∃ m, W 0 m σ H1) ∧ ∀ i m σ H, W i m σ H →
  (J.stop i H ∧ D.nx σ H) ∨ (J.go i H ∧ ∃ N : St → Hp → Prop, (∀ σ' H', N σ' H' → ∃ m', m' < m ∧ W (i + 1) m' σ' H') ∧ ∀ x H', J.yld i H x H' → g x σ H' fun σ2 H2 => tb { D with nx := N, ct := N, bk := D.nx } σ2 H2)
def pinsAt (fp : List Addr) (h : Heap) : List (Addr × Obj) := fp.filterMap fun b => (h.get? b).map fun o => (b, o)
theorem mem_pinsAt {fp : List Addr} {h : Heap} {b : Addr} {o : Obj} (hb : b ∈ fp) (e : h.get? b = some o) : (b, o) ∈ pinsAt fp h := List.mem_filterMap.mpr ⟨b, hb, by rw [e]; rfl⟩
theorem of_pinsAt {fp : List Addr} {h : Heap} {p : Addr × Obj} (hp : p ∈ pinsAt fp h) : p.1 ∈ fp ∧ h.get? p.1 = some p.2 := by
  obtain ⟨b, hb, e⟩ := List.mem_filterMap.mp hp
  cases q : h.get? b with
  | none => rw [q] at e; cases e
  | some o =>
    rw [q] at e
    have e' : (b, o) = p := Option.some.inj e
    subst e'
    exact ⟨hb, q⟩
theorem Inv.pinned {pins : List (Addr × Obj)} {σ : St} {H : Hp} {s : Shared} {fp : List Addr} (I : Inv X pins σ H s) (hf : ∀ b ∈ fp, FpOk X pins H b) (ho : ∀ b ∈ fp, ∃ o, s.heap.get? b = some o ∧ ∀ v, o.data ≠ .cell v) : Inv X (pins ++ pinsAt fp s.heap) σ H s :=
  I.pins_of fun p hp => (List.mem_append.mp hp).elim (fun z => I.pin p (List.mem_append_right _ z)) fun z => by
    obtain ⟨hb, e⟩ := of_pinsAt z
    obtain ⟨f0, f1, f2, _⟩ := hf p.1 hb
    obtain ⟨o, e', d⟩ := ho p.1 hb
    rw [e] at e'; cases e'
    exact ⟨e, f0, f1, f2, d⟩
theorem Inv.unpinned {pins pl : List (Addr × Obj)} {σ : St} {H : Hp} {s : Shared} (I : Inv X (pins ++ pl) σ H s) : Inv X pins σ H s := I.pins_of fun p hp => I.pin p (List.mem_append_right _ (List.mem_append_left _ hp))
theorem ps_for {iter : Expr} {body : List Stmt} {wi : TI} {g : TG} {tb : TS} {pos : Pos} (hp : PassesOwn (model X.prog X.w) X.A X.env X.xe) (hc : X.calm = true) (hi : PI X tg iter wi) (hg : PG X tg g) (hb : PSs X body tb)
    (hs : ∀ x, foldedSetIterable iter X.env x = pure x := by intro _; rfl) : PS X (.For tg iter body [] pos) (tFor wi g tb) := by
  intro pins s σ H D I h
  refine wpAny_For (thn (hi pins s σ H _ I h) fun v s1 h1 => thn h1 fun itv s2 h2 => ?_) hs
  obtain ⟨it, fp, tn, J, H2, e, I2, T, st2, f2, W, ⟨m0, w0⟩, turn⟩ := h2
  subst e
  -- what stays true of the iterator's objects through the loop
  have stat : ∀ {H' : Hp}, (∀ b ∈ fp, H' b = none) → ∀ b ∈ fp, FpOk X pins H' b := fun hn b hb => ⟨hn b hb, (f2 b hb).2⟩
  refine codeAny_forLoop_any (fun n s' => ∃ i σ' H', Inv X pins σ' H' s' ∧ tn i s'.heap ∧ (∀ b ∈ fp, H' b = none) ∧ W i n σ' H') ?_ m0 ⟨0, σ, H2, I2, st2, fun b hb => (f2 b hb).1, w0⟩
  rintro n s3 ⟨i, σ3, H3, I3, st3, fr3, w3⟩
  rcases turn i n σ3 H3 w3 with ⟨stop, qn⟩ | ⟨go, N, hN, step⟩
  · refine wpAny_passesOwn hp (thn (T.done X rfl rfl rfl hc i pins s3 σ3 H3 X.xe I3 (stat fr3) st3 stop) fun r s4 ⟨hr, I4⟩ => ?_)
    subst hr
    exact wpAny_execs_nil ⟨σ3, H3, I4, qn⟩
  · refine wpAny_passesOwn hp (thn (T.item X rfl rfl rfl hc i pins s3 σ3 H3 X.xe I3 (stat fr3) st3 go) fun r s4 ⟨u, hr, h4⟩ => ?_)
    subst hr
    refine wpAny_passesOwn hp (thn h4 fun _ s5 ⟨x, H5, I5, r5, y5, st5, fr5⟩ => ?_)
    have I5' := I5.pinned (stat fr5) (T.obj _ _ st5)
    refine wpAny_passesOwn hp (thn (hg _ s5 σ3 H5 x u _ I5' r5 (step x H5 y5)) fun _ s6 ⟨σ6, H6, I6, q6⟩ => ?_)
    refine wpAny_passesOwn hp (thn (hb _ s6 σ6 H6 _ I6 q6) fun f s7 q7 => ?_)
    have again : ∀ {σ7 : St} {H7 : Hp}, Inv X (pins ++ pinsAt fp s5.heap) σ7 H7 s7 → N σ7 H7 → ∃ m, m < n ∧ ∃ i σ' H', Inv X pins σ' H' s7 ∧ tn i s7.heap ∧ (∀ b ∈ fp, H' b = none) ∧ W i m σ' H' := fun {σ7 H7} I7 n7 => by
      obtain ⟨m', hm, w7⟩ := hN σ7 H7 n7
      refine ⟨m', hm, i + 1, σ7, H7, I7.unpinned, T.keep _ _ _ st5 fun b hb o e => (I7.pin (b, o) (List.mem_append_right _ (List.mem_append_right _ (mem_pinsAt hb e)))).1, fun b hb => ?_, w7⟩
      obtain ⟨o, e, d⟩ := T.obj _ _ st5 b hb
      exact (I7.pin (b, o) (List.mem_append_right _ (List.mem_append_right _ (mem_pinsAt hb e)))).2.1
    cases f with
    | next => obtain ⟨σ7, H7, I7, n7⟩ := q7; exact again I7 n7
    | cont => obtain ⟨σ7, H7, I7, n7⟩ := q7; exact again I7 n7
    | brk => obtain ⟨σ7, H7, I7, q7⟩ := q7; exact ⟨σ7, H7, I7.unpinned, q7⟩
    | ret v => obtain ⟨x7, σ7, H7, I7, r7, q7⟩ := q7; exact ⟨x7, σ7, H7, I7.unpinned, r7, q7⟩
end
theorem for_list {K : PySem.W.Frag} {a : Addr} {xs : List V} {g : TG} {tb : TS} {D : Ends} {σ : St} {H : Hp} (Pv : Nat → St → Hp → Prop) (h0 : Pv 0 σ H) (hl : ∀ i σ H, i ≤ xs.length → Pv i σ H → SqL K H a xs)
    (hs : ∀ i x σ H, xs[i]? = some x → Pv i σ H → g x σ H fun σ2 H2 => tb { D with nx := Pv (i + 1), ct := Pv (i + 1), bk := D.nx } σ2 H2) (hd : ∀ σ H, Pv xs.length σ H → D.nx σ H) :
    ∃ W : Nat → Nat → St → Hp → Prop, (∃ m, W 0 m σ H) ∧ ∀ i m σ H, W i m σ H →
      ((Itl K a).stop i H ∧ D.nx σ H) ∨ ((Itl K a).go i H ∧ ∃ N : St → Hp → Prop, (∀ σ' H', N σ' H' → ∃ m', m' < m ∧ W (i + 1) m' σ' H') ∧ ∀ x H', (Itl K a).yld i H x H' → g x σ H' fun σ2 H2 => tb { D with nx := N, ct := N, bk := D.nx } σ2 H2) := by
  refine ⟨fun i m σ H => m = xs.length - i ∧ i ≤ xs.length ∧ Pv i σ H, ⟨xs.length, by simp, Nat.zero_le _, h0⟩, ?_⟩
  rintro i m σ H ⟨rfl, hi, p⟩
  have q := hl i σ H hi p
  by_cases hlt : i < xs.length
  · refine .inr ⟨⟨xs, xs[i], q, by simp [hlt]⟩, Pv (i + 1), fun σ' H' p' => ⟨xs.length - (i + 1), by omega, rfl, hlt, p'⟩, fun x H' y => ?_⟩
    obtain ⟨e, y⟩ := y
    subst e
    exact hs i x σ _ (y xs q) p
  · have e : i = xs.length := by omega
    subst e
    exact .inl ⟨⟨xs, q, Nat.le_refl _⟩, hd σ H p⟩
theorem for_tup {K : PySem.W.Frag} {a : Addr} {xs : List V} {g : TG} {tb : TS} {D : Ends} {σ : St} {H : Hp} (Pv : Nat → St → Hp → Prop) (h0 : Pv 0 σ H) (hl : ∀ i σ H, i ≤ xs.length → Pv i σ H → SqT K H a xs)
    (hs : ∀ i x σ H, xs[i]? = some x → Pv i σ H → g x σ H fun σ2 H2 => tb { D with nx := Pv (i + 1), ct := Pv (i + 1), bk := D.nx } σ2 H2) (hd : ∀ σ H, Pv xs.length σ H → D.nx σ H) :
    ∃ W : Nat → Nat → St → Hp → Prop, (∃ m, W 0 m σ H) ∧ ∀ i m σ H, W i m σ H →
      ((Itt K a).stop i H ∧ D.nx σ H) ∨ ((Itt K a).go i H ∧ ∃ N : St → Hp → Prop, (∀ σ' H', N σ' H' → ∃ m', m' < m ∧ W (i + 1) m' σ' H') ∧ ∀ x H', (Itt K a).yld i H x H' → g x σ H' fun σ2 H2 => tb { D with nx := N, ct := N, bk := D.nx } σ2 H2) := by
  refine ⟨fun i m σ H => m = xs.length - i ∧ i ≤ xs.length ∧ Pv i σ H, ⟨xs.length, by simp, Nat.zero_le _, h0⟩, ?_⟩
  rintro i m σ H ⟨rfl, hi, p⟩
  have q := hl i σ H hi p
  by_cases hlt : i < xs.length
  · refine .inr ⟨⟨xs, xs[i], q, by simp [hlt]⟩, Pv (i + 1), fun σ' H' p' => ⟨xs.length - (i + 1), by omega, rfl, hlt, p'⟩, fun x H' y => ?_⟩
    obtain ⟨e, y⟩ := y
    subst e
    exact hs i x σ _ (y xs q) p
  · have e : i = xs.length := by omega
    subst e
    exact .inl ⟨⟨xs, q, Nat.le_refl _⟩, hd σ H p⟩
theorem for_range {lo : Int} {n : Nat} {g : TG} {tb : TS} {D : Ends} {σ : St} {H : Hp} (Pv : Nat → St → Hp → Prop) (h0 : Pv 0 σ H)
    (hs : ∀ i σ H, i < n → Pv i σ H → g (.int (lo + i)) σ H fun σ2 H2 => tb { D with nx := Pv (i + 1), ct := Pv (i + 1), bk := D.nx } σ2 H2) (hd : ∀ σ H, Pv n σ H → D.nx σ H) :
    ∃ W : Nat → Nat → St → Hp → Prop, (∃ m, W 0 m σ H) ∧ ∀ i m σ H, W i m σ H →
      ((Itr lo n).stop i H ∧ D.nx σ H) ∨ ((Itr lo n).go i H ∧ ∃ N : St → Hp → Prop, (∀ σ' H', N σ' H' → ∃ m', m' < m ∧ W (i + 1) m' σ' H') ∧ ∀ x H', (Itr lo n).yld i H x H' → g x σ H' fun σ2 H2 => tb { D with nx := N, ct := N, bk := D.nx } σ2 H2) := by
  refine ⟨fun i m σ H => m = n - i ∧ i ≤ n ∧ Pv i σ H, ⟨n, by simp, Nat.zero_le _, h0⟩, ?_⟩
  rintro i m σ H ⟨rfl, hi, p⟩
  by_cases hlt : i < n
  · refine .inr ⟨hlt, Pv (i + 1), fun σ' H' p' => ⟨n - (i + 1), by omega, rfl, hlt, p'⟩, fun x H' y => ?_⟩
    obtain ⟨e, y⟩ := y
    subst e y
    exact hs i σ _ hlt p
  · have e : i = n := by omega
    subst e
    exact .inl ⟨Nat.le_refl _, hd σ H p⟩
end L2
namespace L2
open PySem PySem.Spec PyProof.Rows
abbrev R2 := V → V → Hp → VK → Prop
def OpR (X : Cx) (f : Value → Value → Sem Value) (r : R2) : Prop :=
  ∀ (pins : List (Addr × Obj)) (s : Shared) (σ : St) (H : Hp) (x y : V) (v u : Value) (Q : VK), Inv X pins σ H s → RelV x v → RelV y u → r x y H Q →
    wpAny (model X.prog X.w) X.A (f v u) (EP X pins σ Q) X.xe s
def UnR (X : Cx) (f : Value → Sem Value) (r : V → Hp → VK → Prop) : Prop :=
  ∀ (pins : List (Addr × Obj)) (s : Shared) (σ : St) (H : Hp) (x : V) (v : Value) (Q : VK), Inv X pins σ H s → RelV x v → r x H Q →
    wpAny (model X.prog X.w) X.A (f v) (EP X pins σ Q) X.xe s
def CallR (X : Cx) (f : Value) (r : List V → Hp → VK → Prop) : Prop :=
  ∀ (pins : List (Addr × Obj)) (s : Shared) (σ : St) (H : Hp) (xs : List V) (us : List Value) (Q : VK), Inv X pins σ H s → Vals xs us → r xs H Q →
    wpAny (model X.prog X.w) X.A (call f us) (EP X pins σ Q) X.xe s
def tOp (r : R2) (ta tb : TE) : TE := fun σ H Q => ta σ H fun x H1 => tb σ H1 fun y H2 => r x y H2 Q
def tUn (r : V → Hp → VK → Prop) (ta : TE) : TE := fun σ H Q => ta σ H fun x H1 => r x H1 Q
def rI (C : Int → Int → Prop) (g : Int → Int → V) : R2 := fun x y H Q => ∃ i j, x = .int i ∧ y = .int j ∧ C i j ∧ Q (g i j) H
def rI0 (g : Int → Int → V) : R2 := fun x y H Q => ∃ i j, x = .int i ∧ y = .int j ∧ Q (g i j) H
def rU (g : Int → V) : V → Hp → VK → Prop := fun x H Q => ∃ i, x = .int i ∧ Q (g i) H
section
variable {X : Cx} {a b c : Expr} {ta tb tc : TE} {pos : Pos}
theorem binT (ha : PE X a ta) (hb : PE X b tb) {pins : List (Addr × Obj)} {s : Shared} {σ : St} {H : Hp} {R : V → V → Hp → Prop} (I : Inv X pins σ H s)
    (h : ta σ H fun x H1 => tb σ H1 fun y H2 => R x y H2) {Q : Value → Shared → Prop} {f : Value → Value → Sem Value}
    (hf : ∀ v u s2 x y H2, Inv X pins σ H2 s2 → RelV x v → RelV y u → R x y H2 → wpAny (model X.prog X.w) X.A (f v u) Q X.xe s2) :
    wpAny (model X.prog X.w) X.A (eval a X.env) (fun v s₁ => wpAny (model X.prog X.w) X.A (eval b X.env) (fun u s₂ => wpAny (model X.prog X.w) X.A (f v u) Q X.xe s₂) X.xe s₁) X.xe s := by
  refine thn (ha pins s σ H _ I h) fun v s1 ⟨x, H1, I1, r1, q1⟩ => ?_
  refine thn (hb pins s1 σ H1 _ I1 q1) fun u s2 ⟨y, H2, I2, r2, q2⟩ => ?_
  exact hf v u s2 x y H2 I2 r1 r2 q2
theorem pe_op {op : Operator} {r : R2} (ho : OpR X (binaryOp op) r) (ha : PE X a ta) (hb : PE X b tb) : PE X (.BinOp a op b pos) (tOp r ta tb) := by
  intro pins s σ H Q I h
  exact wpAny_BinOp (binT ha hb I h fun v u s2 x y H2 I2 rx ry q => ho pins s2 σ H2 x y v u Q I2 rx ry q)
theorem pe_un {op : UnaryOp} {r : V → Hp → VK → Prop} (ho : UnR X (unaryOp op) r) (ha : PE X a ta) : PE X (.UnaryOp op a pos) (tUn r ta) := by
  intro pins s σ H Q I h
  exact UnaryOp_ (thn (ha pins s σ H _ I h) fun v s1 ⟨x, H1, I1, r1, q1⟩ => ho pins s1 σ H1 x v Q I1 r1 q1)
theorem opI {f : Value → Value → Sem Value} {C : Int → Int → Prop} {g : Int → Int → Int}
    (rule : ∀ (i j : Int) (t u : Tok) (s : Shared) (Q : Value → Shared → Prop) (E : Value → Shared → Prop), C i j → Q (.int (g i j) s.toks) { s with toks := s.toks + 1 } → wpAny (model X.prog X.w) X.A (f (.int i t) (.int j u)) Q E s) :
    OpR X f (rI C fun i j => .int (g i j)) := by
  intro pins s σ H x y v u Q I rx ry h
  obtain ⟨i, j, rfl, rfl, hc, q⟩ := h
  obtain ⟨t, rfl⟩ := rx
  obtain ⟨t', rfl⟩ := ry
  exact rule i j t t' s _ _ hc ⟨.int (g i j), H, I.tok _, ⟨_, rfl⟩, q⟩
theorem opI0 {f : Value → Value → Sem Value} {g : Int → Int → Int}
    (rule : ∀ (i j : Int) (t u : Tok) (s : Shared) (Q : Value → Shared → Prop) (E : Value → Shared → Prop), Q (.int (g i j) s.toks) { s with toks := s.toks + 1 } → wpAny (model X.prog X.w) X.A (f (.int i t) (.int j u)) Q E s) :
    OpR X f (rI0 fun i j => .int (g i j)) := by
  intro pins s σ H x y v u Q I rx ry h
  obtain ⟨i, j, rfl, rfl, q⟩ := h
  obtain ⟨t, rfl⟩ := rx
  obtain ⟨t', rfl⟩ := ry
  exact rule i j t t' s _ _ ⟨.int (g i j), H, I.tok _, ⟨_, rfl⟩, q⟩
theorem opB0 {f : Value → Value → Sem Value} {g : Int → Int → Bool}
    (rule : ∀ (i j : Int) (t u : Tok) (s : Shared) (Q : Value → Shared → Prop) (E : Value → Shared → Prop), Q (.bool (g i j)) s → wpAny (model X.prog X.w) X.A (f (.int i t) (.int j u)) Q E s) :
    OpR X f (rI0 fun i j => .bl (g i j)) := by
  intro pins s σ H x y v u Q I rx ry h
  obtain ⟨i, j, rfl, rfl, q⟩ := h
  obtain ⟨t, rfl⟩ := rx
  obtain ⟨t', rfl⟩ := ry
  exact rule i j t t' s _ _ ⟨.bl (g i j), H, I, rfl, q⟩
def CPow (i j : Int) : Prop := 0 ≤ j ∧ j ≤ 1000000 ∧ i.natAbs < 2 ^ 64
def CMul (i j : Int) : Prop := (-(2 ^ 64) < i ∧ i < 2 ^ 64) ∨ (-(2 ^ 64) < j ∧ j < 2 ^ 64)
theorem CMul.ok {i j : Int} (h : CMul i j) : IntMulOk i j := by
  rcases h with ⟨h1, h2⟩ | ⟨h1, h2⟩
  · exact .of_left (intBits_le_64 h1 h2)
  · exact .of_right (intBits_le_64 h1 h2)
theorem op_add : OpR X (binaryOp .Add) (rI0 fun i j => .int (i + j)) := opI0 fun _ _ _ _ _ _ _ q => add_int q
theorem op_sub : OpR X (binaryOp .Sub) (rI0 fun i j => .int (i - j)) := opI0 fun _ _ _ _ _ _ _ q => sub_int q
theorem op_mul : OpR X (binaryOp .Mult) (rI CMul fun i j => .int (i * j)) := opI fun _ _ _ _ _ _ _ hc q => mul_int q hc.ok
theorem op_mod : OpR X (binaryOp .Mod) (rI (fun _ j => 0 < j) fun i j => .int (i % j)) := opI fun i j _ _ _ _ _ hc q => by
  have h1 : (0 : Int) < j := hc
  exact mod_int' (by omega) (by rw [Int.fmod_eq_emod_of_nonneg i (by omega)]; exact q)
theorem op_pow : OpR X (binaryOp .Pow) (rI CPow fun i j => .int (i ^ j.toNat)) := opI fun _ _ _ _ _ _ _ hc q => pow_int_small hc.1 hc.2.1 hc.2.2 q
theorem unI {f : Value → Sem Value} {g : Int → Int}
    (rule : ∀ (i : Int) (t : Tok) (s : Shared) (Q : Value → Shared → Prop) (E : Value → Shared → Prop), Q (.int (g i) s.toks) { s with toks := s.toks + 1 } → wpAny (model X.prog X.w) X.A (f (.int i t)) Q E s) :
    UnR X f (rU fun i => .int (g i)) := by
  intro pins s σ H x v Q I rx h
  obtain ⟨i, rfl, q⟩ := h
  obtain ⟨t, rfl⟩ := rx
  exact rule i t s _ _ ⟨.int (g i), H, I.tok _, ⟨_, rfl⟩, q⟩
theorem un_neg : UnR X (unaryOp .USub) (rU fun i => .int (-i)) := unI fun _ _ _ _ _ q => neg_int q
end
def scal : V → V → Bool
  | .non, .non => true | .non, .int _ => true | .int _, .non => true | .non, .bl _ => true | .bl _, .non => true | .non, .str _ => true | .str _, .non => true
  | .int _, .int _ => true | .bl _, .bl _ => true | .str _, .str _ => true | .byt _, .byt _ => true
  | .int _, .str _ => true | .str _, .int _ => true | .bl _, .str _ => true | .str _, .bl _ => true
  | _, _ => false
def rEq : R2 := fun x y H Q => scal x y = true ∧ Q (.bl (decide (x = y))) H
def rNe : R2 := fun x y H Q => scal x y = true ∧ Q (.bl (!decide (x = y))) H
theorem dec_int {i j : Int} : decide (V.int i = V.int j) = (i == j) := by
  rw [Bool.eq_iff_iff]
  simp
theorem dec_bl {i j : Bool} : decide (V.bl i = V.bl j) = (i == j) := by
  rw [Bool.eq_iff_iff]
  simp
theorem dec_str {i j : Str} : decide (V.str i = V.str j) = (i == j) := by
  rw [Bool.eq_iff_iff]
  simp
theorem dec_byt {i j : Array UInt8} : decide (V.byt i = V.byt j) = (i.toList == j.toList) := by
  rw [Bool.eq_iff_iff]
  cases i
  cases j
  simp
section
variable {X : Cx} {a b c : Expr} {ta tb tc : TE} {pos : Pos}
theorem fin_bl {pins : List (Addr × Obj)} {σ : St} {H : Hp} {s : Shared} {Q : VK} {k k' : Bool} (I : Inv X pins σ H s) (q : Q (.bl k) H) (e : k = k') : EP X pins σ Q (.bool k') s := by
  subst e
  exact ⟨.bl k, H, I, rfl, q⟩
theorem op_eq : OpR X (compareOp .Eq) rEq := by
  intro pins s σ H x y v u Q I rx ry h
  obtain ⟨hs, q⟩ := h
  cases x with
  | non =>
    cases rx
    cases y with
    | non => cases ry; exact PySem.EqNone.eq_none_none (fin_bl I q (by simp))
    | bl j => cases ry; exact PySem.EqNone.eq_none_bool (fin_bl I q (by simp))
    | int j => obtain ⟨t', rfl⟩ := ry; exact PySem.EqNone.eq_none_int (fin_bl I q (by simp))
    | str j => obtain ⟨t', rfl⟩ := ry; exact PySem.EqNone.eq_none_str (fin_bl I q (by simp))
    | _ => exact absurd (show false = true from hs) Bool.false_ne_true
  | bl i =>
    cases rx
    cases y with
    | non => cases ry; exact PySem.EqNone.eq_bool_none (fin_bl I q (by simp))
    | bl j => cases ry; exact eq_bool (fin_bl I q dec_bl)
    | str j => obtain ⟨t', rfl⟩ := ry; exact PySem.EqMixed.eq_bool_str (fin_bl I q (by simp))
    | _ => exact absurd (show false = true from hs) Bool.false_ne_true
  | int i =>
    obtain ⟨t, rfl⟩ := rx
    cases y with
    | non => cases ry; exact PySem.EqNone.eq_int_none (fin_bl I q (by simp))
    | int j => obtain ⟨t', rfl⟩ := ry; exact eq_int (fin_bl I q dec_int)
    | str j => obtain ⟨t', rfl⟩ := ry; exact PySem.EqMixed.eq_int_str (fin_bl I q (by simp))
    | _ => exact absurd (show false = true from hs) Bool.false_ne_true
  | str i =>
    obtain ⟨t, rfl⟩ := rx
    cases y with
    | non => cases ry; exact PySem.EqNone.eq_str_none (fin_bl I q (by simp))
    | bl j => cases ry; exact PySem.EqMixed.eq_str_bool (fin_bl I q (by simp))
    | int j => obtain ⟨t', rfl⟩ := ry; exact PySem.EqMixed.eq_str_int (fin_bl I q (by simp))
    | str j => obtain ⟨t', rfl⟩ := ry; exact eq_str (fin_bl I q dec_str)
    | _ => exact absurd (show false = true from hs) Bool.false_ne_true
  | byt i =>
    obtain ⟨t, rfl⟩ := rx
    cases y with
    | byt j => obtain ⟨t', rfl⟩ := ry; exact PySem.W.eq_bytes (fin_bl I q dec_byt)
    | _ => exact absurd (show false = true from hs) Bool.false_ne_true
  | _ => cases y <;> exact absurd (show false = true from hs) Bool.false_ne_true
theorem op_ne : OpR X (compareOp .NotEq) rNe := by
  intro pins s σ H x y v u Q I rx ry h
  obtain ⟨hs, q⟩ := h
  cases x with
  | non =>
    cases rx
    cases y with
    | non => cases ry; exact PySem.EqNone.ne_none_none (fin_bl I q (by simp))
    | bl j => cases ry; exact PySem.EqNone.ne_none_bool (fin_bl I q (by simp))
    | int j => obtain ⟨t', rfl⟩ := ry; exact PySem.EqNone.ne_none_int (fin_bl I q (by simp))
    | str j => obtain ⟨t', rfl⟩ := ry; exact PySem.EqNone.ne_none_str (fin_bl I q (by simp))
    | _ => exact absurd (show false = true from hs) Bool.false_ne_true
  | bl i =>
    cases rx
    cases y with
    | non => cases ry; exact PySem.EqNone.ne_bool_none (fin_bl I q (by simp))
    | bl j => cases ry; exact ne_bool (fin_bl I q (congrArg not dec_bl))
    | str j => obtain ⟨t', rfl⟩ := ry; exact PySem.EqMixed.ne_bool_str (fin_bl I q (by simp))
    | _ => exact absurd (show false = true from hs) Bool.false_ne_true
  | int i =>
    obtain ⟨t, rfl⟩ := rx
    cases y with
    | non => cases ry; exact PySem.EqNone.ne_int_none (fin_bl I q (by simp))
    | int j => obtain ⟨t', rfl⟩ := ry; exact ne_int (fin_bl I q (congrArg not dec_int))
    | str j => obtain ⟨t', rfl⟩ := ry; exact PySem.EqMixed.ne_int_str (fin_bl I q (by simp))
    | _ => exact absurd (show false = true from hs) Bool.false_ne_true
  | str i =>
    obtain ⟨t, rfl⟩ := rx
    cases y with
    | non => cases ry; exact PySem.EqNone.ne_str_none (fin_bl I q (by simp))
    | bl j => cases ry; exact PySem.EqMixed.ne_str_bool (fin_bl I q (by simp))
    | int j => obtain ⟨t', rfl⟩ := ry; exact PySem.EqMixed.ne_str_int (fin_bl I q (by simp))
    | str j => obtain ⟨t', rfl⟩ := ry; exact ne_str (fin_bl I q (congrArg not dec_str))
    | _ => exact absurd (show false = true from hs) Bool.false_ne_true
  | byt i =>
    obtain ⟨t, rfl⟩ := rx
    cases y with
    | byt j => obtain ⟨t', rfl⟩ := ry; exact PySem.W.ne_bytes (fin_bl I q (congrArg not dec_byt))
    | _ => exact absurd (show false = true from hs) Bool.false_ne_true
  | _ => cases y <;> exact absurd (show false = true from hs) Bool.false_ne_true
theorem op_lt : OpR X (compareOp .Lt) (rI0 fun i j => .bl (decide (i < j))) := opB0 fun _ _ _ _ _ _ _ q => lt_int q
theorem op_le : OpR X (compareOp .LtE) (rI0 fun i j => .bl (decide (i ≤ j))) := opB0 fun _ _ _ _ _ _ _ q => le_int q
theorem op_gt : OpR X (compareOp .Gt) (rI0 fun i j => .bl (decide (j < i))) := opB0 fun _ _ _ _ _ _ _ q => gt_int q
theorem op_ge : OpR X (compareOp .GtE) (rI0 fun i j => .bl (decide (j ≤ i))) := opB0 fun _ _ _ _ _ _ _ q => ge_int q
theorem op_in_str : OpR X (compareOp .In) (fun x y H Q => ∃ i j, x = .str i ∧ y = .str j ∧ Q (.bl (!(Builtin.Str.occurrences j i 0 j.length 1).isEmpty)) H) := by
  intro pins s σ H x y v u Q I rx ry h
  obtain ⟨i, j, rfl, rfl, q⟩ := h
  obtain ⟨t, rfl⟩ := rx
  obtain ⟨t', rfl⟩ := ry
  exact in_str (fin_bl I q rfl)
theorem OpR.or {f : Value → Value → Sem Value} {r r' : R2} (h : OpR X f r) (h' : OpR X f r') : OpR X f (fun x y H Q => r x y H Q ∨ r' x y H Q) := by
  intro pins s σ H x y v u Q I rx ry q
  rcases q with q | q
  · exact h pins s σ H x y v u Q I rx ry q
  · exact h' pins s σ H x y v u Q I rx ry q
theorem nomark (b : Expr) {op : CmpOp} (h : op ≠ .In := by decide) (h2 : op ≠ .NotIn := by decide) : behindInMarks op b = false := by
  have e1 : (op == CmpOp.In) = false := by cases op <;> first | rfl | exact absurd rfl h
  have e2 : (op == CmpOp.NotIn) = false := by cases op <;> first | rfl | exact absurd rfl h2
  cases b <;> simp [behindInMarks, e1, e2]
theorem pe_cmpR {op : CmpOp} {r : R2} (ho : OpR X (compareOp op) r) (ha : PE X a ta) (hb : PE X b tb) (hm : behindInMarks op b = false) : PE X (.Compare a [op] [b] pos) (tOp r ta tb) := by
  intro pins s σ H Q I h
  exact wpAny_Compare1 (binT ha hb I h fun v u s2 x y H2 I2 rx ry q => ho pins s2 σ H2 x y v u Q I2 rx ry q) hm
def tTest (t : TE) : TT := fun σ H Q => t σ H fun x H' => ∃ k, x = .bl k ∧ Q k H'
theorem pt_cmpR {op : CmpOp} {r : R2} (ho : OpR X (compareOp op) r) (ha : PE X a ta) (hb : PE X b tb) (hm : behindInMarks op b = false) : PT X (.Compare a [op] [b] pos) (tTest (tOp r ta tb)) := by
  intro pins s σ H Q I h
  refine wpAny_isTrue_Compare1 (thn (ha pins s σ H _ I h) fun v s1 ⟨x, H1, I1, r1, q1⟩ => thn (hb pins s1 σ H1 _ I1 q1) fun u s2 ⟨y, H2, I2, r2, q2⟩ =>
    thn (ho pins s2 σ H2 x y v u _ I2 r1 r2 q2) fun c s3 ⟨z, H3, I3, r3, k, e, q3⟩ => ?_) hm
  subst e
  cases r3
  exact wpAny_truthy_bool ⟨H3, I3, q3⟩
def tChain (r r' : R2) (ta tb tc : TE) : TE := fun σ H Q => ta σ H fun x H1 => tb σ H1 fun y H2 => r x y H2 fun z H3 => ∃ k, z = .bl k ∧
  (if k = true then tc σ H3 fun w' H4 => r' y w' H4 Q else Q (.bl false) H3)
theorem line63 : (sizeLine : Nat) < 2 ^ 63 := by rw [sizeLine_eq]; decide
theorem op_add_str : OpR X (binaryOp .Add) (fun x y H Q => ∃ i j, x = .str i ∧ y = .str j ∧ i.length + j.length ≤ sizeLine ∧ Q (.str (i ++ j)) H) := by
  intro pins s σ H x y v u Q I rx ry h
  obtain ⟨i, j, rfl, rfl, hz, q⟩ := h
  obtain ⟨t, rfl⟩ := rx
  obtain ⟨t', rfl⟩ := ry
  exact add_str (fun t' tk => ⟨.str (i ++ j), H, I.tok _, ⟨_, rfl⟩, q⟩) hz
theorem vals1 {x : V} {us : List Value} (r : Vals [x] us) : ∃ u, us = [u] ∧ RelV x u := by
  cases r with
  | cons r1 r2 => cases r2; exact ⟨_, rfl, r1⟩
theorem vals2 {x y : V} {us : List Value} (r : Vals [x, y] us) : ∃ u w', us = [u, w'] ∧ RelV x u ∧ RelV y w' := by
  cases r with
  | cons r1 r2 =>
    cases r2 with
    | cons r3 r4 => cases r4; exact ⟨_, _, rfl, r1, r3⟩
theorem call_max2 (hc : X.calm = true) : CallR X (.builtin "max") (fun xs H Q => ∃ i j, xs = [.int i, .int j] ∧ Q (.int (if j > i then j else i)) H) := by
  intro pins s σ H xs us Q I r h
  obtain ⟨i, j, rfl, q⟩ := h
  obtain ⟨u, w', rfl, ⟨t, rfl⟩, ⟨t', rfl⟩⟩ := vals2 r
  refine max_two_ints (I.ok.hd hc) fun h' tk k => ⟨_, H, I.kept k, ?_, q⟩
  by_cases hj : j > i
  · rw [if_pos hj, if_pos hj]; exact ⟨_, rfl⟩
  · rw [if_neg hj, if_neg hj]; exact ⟨_, rfl⟩
theorem call_min2 (hc : X.calm = true) : CallR X (.builtin "min") (fun xs H Q => ∃ i j, xs = [.int i, .int j] ∧ Q (.int (if j < i then j else i)) H) := by
  intro pins s σ H xs us Q I r h
  obtain ⟨i, j, rfl, q⟩ := h
  obtain ⟨u, w', rfl, ⟨t, rfl⟩, ⟨t', rfl⟩⟩ := vals2 r
  refine min_two_ints (I.ok.hd hc) fun h' tk k => ⟨_, H, I.kept k, ?_, q⟩
  by_cases hj : j < i
  · rw [if_pos hj, if_pos hj]; exact ⟨_, rfl⟩
  · rw [if_neg hj, if_neg hj]; exact ⟨_, rfl⟩
theorem call_int1 : CallR X (.type "int") (fun xs H Q => (∃ i, xs = [.int i] ∧ Q (.int i) H) ∨ ∃ k, xs = [.bl k] ∧ Q (.int (if k then 1 else 0)) H) := by
  intro pins s σ H xs us Q I r h
  rcases h with ⟨i, rfl, q⟩ | ⟨k, rfl, q⟩
  · obtain ⟨u, rfl, t, rfl⟩ := vals1 r
    exact call_int_int ⟨.int i, H, I, ⟨_, rfl⟩, q⟩
  · obtain ⟨u, rfl, r1⟩ := vals1 r
    cases r1
    exact call_int_bool ⟨.int (if k then 1 else 0), H, I.tok _, ⟨_, rfl⟩, q⟩
def LenV (K : PySem.W.Frag) (x : V) (H : Hp) (n : Nat) : Prop :=
  match x with
  | .str y => y.length ≤ sizeLine ∧ n = y.length
  | .byt y => y.size ≤ sizeLine ∧ n = y.size
  | .ref p => (∃ xs, SqL K H p xs ∧ n = xs.length) ∨ ∃ xs, SqT K H p xs ∧ n = xs.length
  | _ => False
theorem call_len : CallR X (.builtin "len") (fun xs H Q => ∃ x n, xs = [x] ∧ LenV X.K x H n ∧ Q (.int n) H) := by
  intro pins s σ H xs us Q I r h
  obtain ⟨x, n, rfl, e, q⟩ := h
  obtain ⟨u, rfl, rx⟩ := vals1 r
  have hl := line63
  have hs : sizeLine = 16777216 := sizeLine_eq
  cases x with
  | str y =>
    obtain ⟨t, rfl⟩ := rx
    obtain ⟨hy, e'⟩ : y.length ≤ sizeLine ∧ n = y.length := e
    subst e'
    exact len_str (by omega) ⟨.int _, H, I.tok _, ⟨_, rfl⟩, q⟩
  | byt y =>
    obtain ⟨t, rfl⟩ := rx
    obtain ⟨hy, e'⟩ : y.size ≤ sizeLine ∧ n = y.size := e
    subst e'
    exact PySem.W.len_bytes (by omega) ⟨.int _, H, I.tok _, ⟨_, rfl⟩, q⟩
  | ref p =>
    cases rx
    have e' : (∃ xs, SqL X.K H p xs ∧ n = xs.length) ∨ ∃ xs, SqT X.K H p xs ∧ n = xs.length := e
    rcases e' with ⟨xs, hx, e'⟩ | ⟨xs, hx, e'⟩
    · subst e'
      obtain ⟨its, r', pl, hz⟩ := I.list hx
      have hlen := r'.length
      exact Calls.call_len_list pl.isList (by simp only [List.size_toArray]; omega) ⟨.int xs.length, H, I.tok _, ⟨_, by simp only [List.size_toArray]; rw [hlen]⟩, q⟩
    · subst e'
      obtain ⟨its, r', pl, hz⟩ := I.tuple hx
      have hlen := r'.length
      exact len_tuple pl (by simp only [List.size_toArray]; omega) ⟨.int xs.length, H, I.tok _, ⟨_, by simp only [List.size_toArray]; rw [hlen]⟩, q⟩
  | _ => exact (show False from e).elim
end
end L2
namespace L2
open PySem PySem.Spec PyProof.Rows
structure ObjM (h : Heap) (x dx C : Addr) (mA : Str → Option Value) : Prop where
  obj : h.get? x = some (PySem.W.instObj C dx)
  ns : h.Ns1 dx mA
  ne : dx ≠ x
theorem lookIn_ns {h : Heap} {dx : Addr} {mA : Str → Option Value} (n : h.Ns1 dx mA) : ∃ od, h.get? dx = some od ∧ ∀ name, PySem.W.lookIn name od = some (mA name) := by
  obtain ⟨o, es, ep, ho, hd, hk, _, hm⟩ := n
  refine ⟨o, ho, fun name => ?_⟩
  have e := hm name
  unfold nsFind findBy at e
  rw [← Array.find?_toList] at e
  unfold PySem.W.lookIn
  rw [hd]
  dsimp only
  split
  · rename_i y q
    rw [q] at e
    exact congrArg some e
  · rename_i q
    rw [q] at e
    have a : es.toList.any (·.refKey) = false := by
      rw [List.any_eq_false]
      intro y hy
      obtain ⟨z, t, hkey⟩ := hk y (Array.mem_toList_iff.mp hy)
      simp [DictEntry.refKey, hkey]
    have a' : ¬ es.toList.any (·.refKey) = true := by rw [a]; exact Bool.false_ne_true
    rw [if_neg a']
    exact congrArg some e
theorem ObjM.look {h : Heap} {x dx C : Addr} {mA : Str → Option Value} (I : ObjM h x dx C mA) : ∃ od, PySem.W.InstAt h x (PySem.W.instObj C dx) C (some od) ∧ ∀ name, PySem.W.lookIn name od = some (mA name) :=
  let ⟨od, ho, hl⟩ := lookIn_ns I.ns
  ⟨od, ⟨I.obj, rfl, rfl, ho⟩, hl⟩
section
variable {prog : Program} {w : World} {A : Around} {E : Value → Shared → Prop} {s : Shared} {K : PySem.W.Frag} {x dx C f : Addr} {mA : Str → Option Value} {name : Str} {v : Value}
theorem get_map {expr : Bool} {Q : Value → Shared → Prop} (X : K.In s.heap) (I : ObjM s.heap x dx C mA) (hg : PySem.W.plainGet K C name = true) (hh : PySem.W.hasDictIn K C = true)
    (ha : PySem.W.findIn K (.ref C) name = some none) (hv : mA name = some v) (hv' : PySem.W.handedIn v = true) (h : Q v { s with toks := s.toks + 1 }) :
    wpAny (model prog w) A (getAttr (.ref x) name expr) Q E s := by
  obtain ⟨od, J, hl⟩ := I.look
  exact PySem.W.get_value X J (PySem.W.plainGet_of hg).1 (PySem.W.findObj_own hh ha rfl (by rw [hl, hv])) hv' h
theorem get_meth {pl : Sem Bool} {Q : Value × List Value → Shared → Prop} (X : K.In s.heap) (I : ObjM s.heap x dx C mA) (hg : PySem.W.plainGet K C name = true)
    (hf : PySem.W.findIn K (.ref C) name = some (some (.ref f))) (ht : PySem.W.isFn K (.ref f) = true) (hv : mA name = none) (h : Q (.ref f, [.ref x]) s) :
    wpAny (model prog w) A (getMethod (.ref x) name pl) Q E s := by
  obtain ⟨od, J, hl⟩ := I.look
  exact PySem.W.method_fn X J (PySem.W.plainGet_of hg).1 (PySem.W.plainGet_of hg).2 hf (beq_iff_eq.mp ht) (by show (PySem.W.lookIn name od).map (·.isSome) = some false; rw [hl, hv]; rfl) h
theorem set_map {ns : List Str} {Q : Unit → Shared → Prop} (X : K.In s.heap) (I : ObjM s.heap x dx C mA)
    (hs : PySem.W.findIn K (.ref C) "__setattr__" = some (some (.builtin "object.__setattr__"))) (hp : PySem.W.plainOver K C = true) (ht : PySem.W.takerIn K C name = some none) (hh : PySem.W.hasDictIn K C = true)
    (hw : PySem.Within mA ns) (hsz : ns.length ≤ sizeLine)
    (h : ∀ h', ObjM h' x dx C (fun y => if y = name then some v else mA y) → Heap.SameBut dx s.heap h' → Q () { s with heap := h', toks := s.toks + 2 }) :
    wpAny (model prog w) A (setAttr (.ref x) name v) Q E s := by
  obtain ⟨od, J, hl⟩ := I.look
  refine PySem.W.set_plain X J hs (PySem.W.osa_open (s := { s with toks := s.toks + 1 }) (r := none) X J hp ht fun b => ?_)
  obtain ⟨cd, hc, hd'⟩ := PySem.W.any_some hh
  have hx : s.heap.get? x = some ⟨.ref C, some dx, .plain, #[]⟩ := I.obj
  refine wpAny_bind (wpAny_pure (wpAny_bind (wpAny_bind (wpAny_loadPart hx (wpAny_bind (PySem.W.Looks.here (s := { s with toks := s.toks + 1 }) (PySem.W.looks_clsIn X hc) ?_))))))
  rw [hd']
  refine wpAny_pure (a := some dx) (wpAny_bind (wpAny_pure (wpAny_bind ?_)))
  refine wpAny_nsSet1 (s := { s with toks := s.toks + 1 }) I.ns fun h' hn2 hs2 => ?_
  obtain ⟨oD, esD, epD, hoD, hdD, hcD⟩ := hn2.count (PySem.Within.cons name v hw)
  refine wpAny_bind (wpAny_lookBehind hoD (by rw [hdD]; exact pastItsLine_dict (Nat.le_trans hcD (by rw [List.length_cons]; omega))) ?_)
  exact wpAny_pure (h _ ⟨(hs2.2 _ (Ne.symm I.ne)).trans I.obj, hn2, I.ne⟩ hs2)
theorem make_map {R : Result → Shared → Prop} {vs : List Value} {kw : List (Str × Value)} (X : K.In s.heap) (hm : PySem.W.makesIn K C = true)
    (hi : PySem.W.findIn K (.ref C) "__init__" = some (some (.ref f))) (hf : PySem.W.typeIn K (.ref f) = some (.type "function"))
    (h : codeAny (model prog w) (A.under (.builtin "type.__call__" ⟨.ref C :: vs, kw⟩)) (.call (.ref f) ⟨.ref (s.heap.objs.size + 1) :: vs, kw⟩) (PySem.W.InitBack (s.heap.objs.size + 1) R)
      { s with heap := (s.heap.push PySem.W.emptyDict).push (PySem.W.instObj C s.heap.objs.size) }) :
    codeAny (model prog w) A (.call (.ref C) ⟨vs, kw⟩) R s := by
  obtain ⟨hh, g, d, t, os⟩ := s
  exact PySem.W.make_core (PySem.W.makes_of X hm) (PySem.W.looks_findIn X hi) (fun self => PySem.W.bind_fn X self hf) (.inl rfl) h
theorem make_map0 {R : Result → Shared → Prop} (X : K.In s.heap) (hm : PySem.W.makesIn K C = true)
    (hi : PySem.W.findIn K (.ref C) "__init__" = some (some (.builtin "object.__init__")))
    (hb : ∀ self, PySem.W.Looks (model prog w) s.heap (bindSpecial (.builtin "object.__init__") self) (.builtin "object.__init__", [self]))
    (h : codeAny (model prog w) (A.under (.builtin "type.__call__" ⟨[.ref C], []⟩)) (.call (.builtin "object.__init__") ⟨[.ref (s.heap.objs.size + 1)], []⟩) (PySem.W.InitBack (s.heap.objs.size + 1) R)
      { s with heap := (s.heap.push PySem.W.emptyDict).push (PySem.W.instObj C s.heap.objs.size) }) :
    codeAny (model prog w) A (.call (.ref C) ⟨[], []⟩) R s := by
  obtain ⟨hh, g, d, t, os⟩ := s
  exact PySem.W.make_core (PySem.W.makes_of X hm) (PySem.W.looks_findIn X hi) hb (.inr ⟨rfl, rfl⟩) h
end
def putF (f : Str) (v : V) : List (Str × V) → List (Str × V)
  | [] => [(f, v)]
  | (g, x) :: r => if g = f then (g, v) :: r else (g, x) :: putF f v r
theorem lookup_putF (f g : Str) (v : V) : ∀ fs : List (Str × V), (putF f v fs).lookup g = if g = f then some v else fs.lookup g
  | [] => by
    show List.lookup g [(f, v)] = _
    by_cases h : g = f
    · have hb : (g == f) = true := beq_iff_eq.mpr h
      simp only [List.lookup, hb, if_pos h]
    · have hb : (g == f) = false := beq_eq_false_iff_ne.mpr h
      simp only [List.lookup, hb, if_neg h]
  | (k, x) :: r => by
    have ih := lookup_putF f g v r
    rw [show putF f v ((k, x) :: r) = (if k = f then (k, v) :: r else (k, x) :: putF f v r) from rfl]
    by_cases hk : k = f
    · rw [if_pos hk]
      by_cases h : g = k
      · have hb : (g == k) = true := beq_iff_eq.mpr h
        simp only [List.lookup, hb, if_pos (h.trans hk)]
      · have hb : (g == k) = false := beq_eq_false_iff_ne.mpr h
        simp only [List.lookup, hb, if_neg (fun e : g = f => h (e.trans hk.symm))]
    · rw [if_neg hk]
      by_cases h : g = k
      · have hb : (g == k) = true := beq_iff_eq.mpr h
        simp only [List.lookup, hb, if_neg (fun e : g = f => hk (h.symm.trans e))]
      · have hb : (g == k) = false := beq_eq_false_iff_ne.mpr h
        simp only [List.lookup, hb]
        exact ih
theorem keys_putF (f : Str) (v : V) : ∀ fs : List (Str × V), f ∈ (putF f v fs).map (·.1) ∧ ∀ g, g ∈ fs.map (·.1) → g ∈ (putF f v fs).map (·.1)
  | [] => ⟨by simp [putF], fun g h => by simp at h⟩
  | (k, x) :: r => by
    obtain ⟨i1, i2⟩ := keys_putF f v r
    rw [show putF f v ((k, x) :: r) = (if k = f then (k, v) :: r else (k, x) :: putF f v r) from rfl]
    by_cases hk : k = f
    · rw [if_pos hk]
      subst hk
      exact ⟨by simp, fun g h => by simpa using h⟩
    · rw [if_neg hk]
      refine ⟨?_, fun g h => ?_⟩
      · rw [List.map_cons]
        exact List.mem_cons_of_mem _ i1
      · rw [List.map_cons] at h ⊢
        rcases List.mem_cons.mp h with e | e
        · exact List.mem_cons.mpr (.inl e)
        · exact List.mem_cons_of_mem _ (i2 g e)
theorem length_putF (f : Str) (v : V) : ∀ fs : List (Str × V), (putF f v fs).length ≤ fs.length + 1
  | [] => by simp [putF]
  | (k, x) :: r => by
    have ih := length_putF f v r
    rw [show putF f v ((k, x) :: r) = (if k = f then (k, v) :: r else (k, x) :: putF f v r) from rfl]
    by_cases hk : k = f
    · rw [if_pos hk, List.length_cons, List.length_cons]; omega
    · rw [if_neg hk, List.length_cons, List.length_cons]; omega
theorem RelO.some_of {v : V} {o : Option Value} (r : RelO (some v) o) : ∃ u, o = some u ∧ RelV v u := by
  cases o with
  | none => exact (show False from r).elim
  | some u => exact ⟨u, rfl, r⟩
theorem RelO.none_of {o : Option Value} (r : RelO none o) : o = none := by
  cases o with
  | none => rfl
  | some u => exact (show False from r).elim
theorem handed_of {v : V} {u : Value} (r : RelV v u) : PySem.W.handedIn u = true := by
  cases v with
  | non => cases (show u = Value.none from r); rfl
  | bl b => cases (show u = Value.bool b from r); rfl
  | int i => obtain ⟨t, e⟩ := (show ∃ t, u = Value.int i t from r); cases e; rfl
  | str x => obtain ⟨t, e⟩ := (show ∃ t, u = Value.str x t from r); cases e; rfl
  | byt b => obtain ⟨t, e⟩ := (show ∃ t, u = Value.bytes b t from r); cases e; rfl
  | flt b => obtain ⟨t, e⟩ := (show ∃ t, u = Value.float b t from r); cases e; rfl
  | ref a => cases (show u = Value.ref a from r); rfl
  | ty n => cases (show u = Value.type n from r); rfl
section
variable {P : Program} {w : World} {H H' : Hp} {h h' : Heap} {a C dx : Addr} {fs fs' : List (Str × V)}
theorem ins_get (hok : HOk P w H h) (e : H a = some (.ins C dx fs)) : ∃ mA, ObjM h a dx C mA ∧ (∀ f, RelO (fs.lookup f) (mA f)) ∧ PySem.Within mA (fs.map (·.1)) ∧ fs.length ≤ 1000 ∧ H dx = some (.own a) := by
  obtain ⟨d, z, ne, ob, mA, n, r, q⟩ := (show ObjOk P w H h a (.ins C dx fs) from hok a _ e)
  exact ⟨mA, ⟨ob, n, ne⟩, r, q, z, d⟩
end
structure Cls (K : PySem.W.Frag) (C : Addr) : Prop where
  pg : PySem.W.plainGet K C Str.empty = true
  hd : PySem.W.hasDictIn K C = true
  po : PySem.W.plainOver K C = true
  sa : PySem.W.findIn K (.ref C) "__setattr__" = some (some (.builtin "object.__setattr__"))
theorem Cls.get {K : PySem.W.Frag} {C : Addr} (c : Cls K C) (f : Str) : PySem.W.plainGet K C f = true := c.pg
def NoAttr (K : PySem.W.Frag) (C : Addr) (f : Str) : Prop := PySem.W.findIn K (.ref C) f = some none
theorem NoAttr.taker {K : PySem.W.Frag} {C : Addr} {f : Str} (n : NoAttr K C f) : PySem.W.takerIn K C f = some none := by
  unfold PySem.W.takerIn
  rw [show PySem.W.findIn K (.ref C) f = some none from n]
  rfl
structure Con (K : PySem.W.Frag) (C : Addr) (f : Str) (v : V) (u : Value) : Prop where
  at_ : PySem.W.findIn K (.ref C) f = some (some u)
  rel : RelV v u
  get : PySem.W.specialIn K u "__get__" = some none
  cp : PySem.W.copiedNames.contains f = false
structure Meth (K : PySem.W.Frag) (C : Addr) (m : Str) (f : Addr) : Prop where
  at_ : PySem.W.findIn K (.ref C) m = some (some (.ref f))
  fn : PySem.W.isFn K (.ref f) = true
  kp : PySem.W.keepIn K (.ref f) = true
section
variable {X : Cx} {pins : List (Addr × Obj)} {σ : St} {H : Hp} {s : Shared} {a C dx : Addr} {fs : List (Str × V)} {f : Str} {v : V} {A : Around} {E : Value → Shared → Prop}
theorem getattr_ok {b : Bool} {Q : Value → Shared → Prop} (I : Inv X pins σ H s) (e : H a = some (.ins C dx fs)) (c : Cls X.K C) (n : NoAttr X.K C f) (l : fs.lookup f = some v)
    (h : ∀ u s', Inv X pins σ H s' → RelV v u → Q u s') : wpAny (model X.prog X.w) A (getAttr (.ref a) f b) Q E s := by
  obtain ⟨mA, O, r, _, _, _⟩ := ins_get I.hok e
  obtain ⟨u, hu, ru⟩ := RelO.some_of (v := v) (o := mA f) (by rw [← l]; exact r f)
  exact get_map I.kIn O (c.get f) c.hd n hu (handed_of ru) (h u _ (I.tok _) ru)
theorem getmeth_ok {m : Str} {g : Addr} {pl : Sem Bool} {Q : Value × List Value → Shared → Prop} (I : Inv X pins σ H s) (e : H a = some (.ins C dx fs)) (c : Cls X.K C) (k : Meth X.K C m g) (l : fs.lookup m = none)
    (h : Q (.ref g, [.ref a]) s) : wpAny (model X.prog X.w) A (getMethod (.ref a) m pl) Q E s := by
  obtain ⟨mA, O, r, _, _, _⟩ := ins_get I.hok e
  have hn : mA m = none := RelO.none_of (by rw [← l]; exact r m)
  exact get_meth I.kIn O (c.get m) k.at_ k.fn hn h
theorem setattr_ok {y : V} {u : Value} {Q : Unit → Shared → Prop} (I : Inv X pins σ H s) (e : H a = some (.ins C dx fs)) (c : Cls X.K C) (n : NoAttr X.K C f) (hl : fs.length < 1000) (ry : RelV y u)
    (h : ∀ s', Inv X pins σ (upd H a (.ins C dx (putF f y fs))) s' → Q () s') : wpAny (model X.prog X.w) A (setAttr (.ref a) f u) Q E s := by
  obtain ⟨mA, O, r, wi, _, ho⟩ := ins_get I.hok e
  have hz : (fs.map (·.1)).length ≤ sizeLine := by rw [List.length_map, sizeLine_eq]; omega
  refine set_map I.kIn O c.sa c.po n.taker c.hd wi hz fun h' O' sb => h _ ?_
  have hd : ∃ o, h'.get? dx = some o := let ⟨o, _, _, e', _⟩ := O'.ns; ⟨o, e'⟩
  refine I.write (x := a) (e := dx) (by rw [e]; exact True.intro) (.inr ho) (fun b q hb z => (sb.2 b hb).trans z) hd ?_
  refine ⟨by rw [upd_ne O.ne]; exact ho, ?_, O.ne, O'.obj, _, O'.ns, fun g => ?_, fun g hg => ?_⟩
  · have := length_putF f y fs; omega
  · show RelO ((putF f y fs).lookup g) (if g = f then some u else mA g)
    rw [lookup_putF]
    by_cases q : g = f
    · rw [if_pos q, if_pos q]; exact ry
    · rw [if_neg q, if_neg q]; exact r g
  · by_cases q : g = f
    · rw [q]; exact (keys_putF f y fs).1
    · refine (keys_putF f y fs).2 g (wi g fun z => hg ?_)
      show (if g = f then some u else mA g) = none
      rw [if_neg q]; exact z
theorem Inv.made (I : Inv X pins σ H s) : Inv X pins σ (upd (upd H s.heap.objs.size (.own (s.heap.objs.size + 1))) (s.heap.objs.size + 1) (.ins C s.heap.objs.size []))
    { s with heap := (s.heap.push PySem.W.emptyDict).push (PySem.W.instObj C s.heap.objs.size) } := by
  have e1 : (s.heap.push PySem.W.emptyDict).get? s.heap.objs.size = some PySem.W.emptyDict := Heap.get?_push_size s.heap rfl
  have e2 : ((s.heap.push PySem.W.emptyDict).push (PySem.W.instObj C s.heap.objs.size)).get? (s.heap.objs.size + 1) = some (PySem.W.instObj C s.heap.objs.size) := by
    have := Heap.get?_push_size (s.heap.push PySem.W.emptyDict) (o := PySem.W.instObj C s.heap.objs.size) rfl
    rwa [Heap.size_push] at this
  have e3 : (s.heap.push PySem.W.emptyDict).Ns s.heap.objs.size (fun _ => none) := ⟨PySem.W.emptyDict, #[], _, e1, rfl, (fun e he => absurd he (by simp)), fun _ => rfl⟩
  have I1 := I.laid (a := s.heap.objs.size) (o := .own (s.heap.objs.size + 1)) (h' := s.heap.push PySem.W.emptyDict) (t' := s.toks) (fun b u q => Heap.get?_push_of_some _ q) (Nat.le_refl _) ⟨_, e1⟩
  refine I1.laid (a := s.heap.objs.size + 1) (o := .ins C s.heap.objs.size []) (t' := s.toks) (fun b u q => Heap.get?_push_of_some _ q) (Nat.le_of_eq (Heap.size_push _ _)) ?_
  have ne : s.heap.objs.size ≠ s.heap.objs.size + 1 := Nat.ne_of_lt (Nat.lt_succ_self _)
  refine ⟨by rw [upd_ne ne, upd_same], Nat.zero_le _, ne, e2, fun _ => none, (Heap.Ns1.of_empty e3).at fun o q => Heap.get?_push_of_some _ q, fun _ => True.intro, fun y hy => absurd rfl hy⟩
theorem attr_of {prog : Program} {w : World} {env : Env} {e : Expr} {f : Str} {pos : Pos} {s : Shared} {Q : Value → Shared → Prop} (hb : attributeBase e f env (eval e env) = eval e env)
    (h : wpAny (model prog w) A (eval e env) (fun o s₁ => wpAny (model prog w) A (getAttr o f true) Q E s₁) E s) : wpAny (model prog w) A (eval (.Attribute e f pos) env) Q E s :=
  Attribute_any_ h (by rw [arm_eval_Attribute, hb])
end
def tFld (K : PySem.W.Frag) (ta : TE) (f : Str) : TE := fun σ H Q => ta σ H fun x H1 => ∃ a C dx fs v, x = .ref a ∧ H1 a = some (.ins C dx fs) ∧ Cls K C ∧ NoAttr K C f ∧ fs.lookup f = some v ∧ Q v H1
def sFld (K : PySem.W.Frag) (ta tv : TE) (f : Str) : TS := fun D σ H => tv σ H fun y H1 => ta σ H1 fun x H2 => ∃ a C dx fs, x = .ref a ∧ H2 a = some (.ins C dx fs) ∧ Cls K C ∧ NoAttr K C f ∧ fs.length < 1000 ∧
  D.nx σ (upd H2 a (.ins C dx (putF f y fs)))
section
variable {X : Cx} {o e value : Expr} {f : Str} {pos pos' tpos : Pos} {ta tv : TE}
theorem pe_fld (he : PE X e ta) (hb : attributeBase e f X.env (eval e X.env) = eval e X.env) : PE X (.Attribute e f pos) (tFld X.K ta f) := by
  intro pins s σ H Q I h
  refine attr_of hb (thn (he pins s σ H _ I h) fun u s1 ⟨x, H1, I1, rx, a, C, dx, fs, v, ex, ea, c, n, l, q⟩ => ?_)
  subst ex
  obtain rfl : u = Value.ref a := rx
  exact getattr_ok I1 ea c n l fun u' s2 I2 ru => ⟨v, H1, I2, ru, q⟩
theorem ps_fld (ha : PE X o ta) (hv : PE X value tv) (hs : swapsWith value (some (.Attribute o f pos')) pos.line X.env = pure false) : PS X (.Assign [.Attribute o f pos'] value pos) (sFld X.K ta tv f) := by
  intro pins s σ H D I h
  refine plainObj_wpAny_Assign_Attribute (thn (hv pins s σ H _ I h) fun u s1 ⟨y, H1, I1, ry, q⟩ => thn (ha pins s1 σ H1 _ I1 q) fun ov s2 ⟨x, H2, I2, rx, a, C, dx, fs, ex, ea, c, n, l, q2⟩ => ?_) hs
  subst ex
  obtain rfl : ov = Value.ref a := rx
  exact setattr_ok I2 ea c n l ry fun s3 I3 => ⟨σ, _, I3, q2⟩
end
section
variable {X : Cx} {pins : List (Addr × Obj)} {σ : St} {H : Hp} {s : Shared} {A : Around} {E : Value → Shared → Prop} {Q : Value → Shared → Prop} {c : Value} {b : Bool}
inductive TyOf (K : PySem.W.Frag) (H : Hp) : V → Value → Prop where
  | non : TyOf K H .non (.type "NoneType")
  | bl (x : Bool) : TyOf K H (.bl x) (.type "bool")
  | int (i : Int) : TyOf K H (.int i) (.type "int")
  | str (x : Str) : TyOf K H (.str x) (.type "str")
  | flt (x : UInt64) : TyOf K H (.flt x) (.type "float")
  | lst {a : Addr} {xs : List V} (e : H a = some (.lst xs)) : TyOf K H (.ref a) (.type "list")
  | frz {a : Addr} {o : Obj} {xs : List V} (e : H a = some (.frz o (.lst xs))) : TyOf K H (.ref a) (.type "list")
  | tup {a : Addr} {xs : List V} (e : H a = some (.tup xs)) : TyOf K H (.ref a) (.type "tuple")
  | dK {a : Addr} {kvs : List (Key × V)} (e : H a = some (.dK kvs)) : TyOf K H (.ref a) (.type "dict")
  | dT {a : Addr} {kvs : List (List Key × V)} (e : H a = some (.dT kvs)) : TyOf K H (.ref a) (.type "dict")
  | ins {a C dx : Addr} {fs : List (Str × V)} (e : H a = some (.ins C dx fs)) (cl : Cls K C) (ha : PySem.W.findIn K (.ref C) "__class__" = some (some (.builtin "object.__class__")))
      (hn : PySem.W.specialIn K (.builtin "object.__class__") "__get__" = some (some (.builtin "getset_descriptor.__get__"))) (htk : PySem.W.takesIn K (.builtin "object.__class__") = some true)
      (hm : PySem.W.mroIn K C (.type "object") = some true) : TyOf K H (.ref a) (.ref C)
theorem isinst_ok {x : V} {u t : Value} (I : Inv X pins σ H s) (rx : RelV x u) (ty : TyOf X.K H x t) (e : PySem.W.kitOne X.K t c = some b) (h : ∀ tk, Q (.bool b) { s with toks := tk }) :
    wpAny (model X.prog X.w) A (call (.builtin "isinstance") [u, c]) Q E s := by
  cases ty with
  | non => cases (show u = Value.none from rx); exact PySem.W.kia_one PySem.W.kitx_none I.kIn True.intro e (fun z => nomatch z) h
  | bl y => cases (show u = Value.bool y from rx); exact PySem.W.kia_one PySem.W.kitx_bool I.kIn True.intro e (fun z => nomatch z) h
  | int i => obtain ⟨t, q⟩ := (show ∃ t, u = Value.int i t from rx); cases q; exact PySem.W.kia_one PySem.W.kitx_int I.kIn True.intro e (fun z => nomatch z) h
  | str y => obtain ⟨t, q⟩ := (show ∃ t, u = Value.str y t from rx); cases q; exact PySem.W.kia_one PySem.W.kitx_str I.kIn True.intro e (fun z => nomatch z) h
  | flt y => obtain ⟨t, q⟩ := (show ∃ t, u = Value.float y t from rx); cases q; exact PySem.W.kia_one PySem.W.kitx_float I.kIn True.intro e (fun z => nomatch z) h
  | @lst a xs ea =>
    cases (show u = Value.ref a from rx)
    obtain ⟨_, _, n, _, h1⟩ := (show ObjOk X.prog X.w H s.heap a (.lst xs) from I.hok a _ ea)
    exact PySem.W.kia_one PySem.W.kitx_list I.kIn ⟨_, h1, rfl⟩ e (fun z => nomatch z) h
  | @frz a ob xs ea =>
    cases (show u = Value.ref a from rx)
    obtain ⟨_, _, _, n, _, h1⟩ := (show ObjOk X.prog X.w H s.heap a (.frz ob (.lst xs)) from I.hok a _ ea)
    exact PySem.W.kia_one PySem.W.kitx_list I.kIn ⟨_, h1, rfl⟩ e (fun z => nomatch z) h
  | @tup a xs ea =>
    cases (show u = Value.ref a from rx)
    obtain ⟨_, _, _, p⟩ := (show ObjOk X.prog X.w H s.heap a (.tup xs) from I.hok a _ ea)
    obtain ⟨o, h1, h2, _⟩ := p
    exact PySem.W.kia_one PySem.W.kitx_tuple I.kIn ⟨o, h1, h2⟩ e (fun z => nomatch z) h
  | @dK a kvs ea =>
    cases (show u = Value.ref a from rx)
    obtain ⟨_, _, vs, _, p⟩ := (show ObjOk X.prog X.w H s.heap a (.dK kvs) from I.hok a _ ea)
    obtain ⟨o, es, ep, h1, h2, _⟩ := p
    exact PySem.W.kia_one PySem.W.kitx_dict I.kIn ⟨o, h1, h2.1⟩ e (fun z => nomatch z) h
  | @dT a kvs ea =>
    cases (show u = Value.ref a from rx)
    obtain ⟨_, _, xs, _, o, es, ep, h1, h2, _⟩ := (show ObjOk X.prog X.w H s.heap a (.dT kvs) from I.hok a _ ea)
    exact PySem.W.kia_one PySem.W.kitx_dict I.kIn ⟨o, h1, h2.1⟩ e (fun z => nomatch z) h
  | @ins a C dx fs ea cl ha hn htk hm =>
    cases (show u = Value.ref a from rx)
    obtain ⟨mA, O, _⟩ := ins_get I.hok ea
    obtain ⟨od, J, _⟩ := O.look
    exact PySem.W.kia_one (PySem.W.kitx_own (cl.get _) cl.hd ha hn htk hm) I.kIn J e (fun z => nomatch z) h
end
end L2
namespace L2
open PySem PySem.Spec PyProof.Rows
structure Room (k : Nat) (A : Around) : Prop where
  hd : A.handled = none
  dp : A.depth + 3 * k + 5 < recursionLimit
  un : A.units + 16 * k + 200 < cLine
theorem Room.mono {j k : Nat} {A : Around} (r : Room k A) (h : j ≤ k) : Room j A := ⟨r.hd, by have := r.dp; omega, by have := r.un; omega⟩
theorem Room.deeper {k : Nat} {A : Around} (r : Room (k + 1) A) (env : Env) : Room k (A.deeper env) :=
  ⟨r.hd, by have := r.dp; show A.depth + 1 + 3 * k + 5 < _; omega, by have := r.un; show A.units + 3 + 16 * k + 200 < _; omega⟩
theorem Room.in1 {k : Nat} {A : Around} (r : Room (k + 1) A) : Room k A.in1 :=
  ⟨r.hd, by have := r.dp; show A.depth + 3 * k + 5 < _; omega, by have := r.un; show A.units + 1 + 16 * k + 200 < _; omega⟩
theorem make_depth {A : Around} {C : Addr} {us : List Value} {kw : List (Str × Value)} : (A.under (.builtin "type.__call__" ⟨.ref C :: us, kw⟩)).depth = A.depth + 1 := by
  first | rfl | simp [Around.under, Code.weight, Code.isCreation, Code.isGuard, Code.isCaller, Code.frames, Code.isFrame, guardIds]
theorem make_units {A : Around} {C : Addr} {us : List Value} {kw : List (Str × Value)} : (A.under (.builtin "type.__call__" ⟨.ref C :: us, kw⟩)).units = A.units + 1 := by
  first | rfl | simp [Around.under, Code.cUnits, Code.frames, Code.isFrame]
theorem Room.make {k : Nat} {A : Around} (r : Room (k + 1) A) (C : Addr) (us : List Value) (kw : List (Str × Value)) : Room k (A.under (.builtin "type.__call__" ⟨.ref C :: us, kw⟩)) :=
  ⟨r.hd, by have := r.dp; rw [make_depth]; omega, by have := r.un; rw [make_units]; omega⟩
theorem Room.depth {k : Nat} {A : Around} (r : Room k A) : A.depth < recursionLimit := by have := r.dp; omega
theorem Room.units {k : Nat} {A : Around} (r : Room k A) : A.units + 64 < cLine := by have := r.un; omega
def tNil : TA := fun _ H Q => Q [] H
def tCons (ta : TE) (tr : TA) : TA := fun σ H Q => ta σ H fun x H1 => tr σ H1 fun xs H2 => Q (x :: xs) H2
section
variable {X : Cx} {e : Expr} {es : List Expr} {te : TE} {t : TA} {pos : Pos}
theorem pa_nil : PA X [] tNil := fun _ _ _ _ H Q I h => Calls.spliced_nil ⟨[], H, I, .nil, h⟩
theorem pa_cons (ha : PE X e te) (hr : PA X es t) (hs : starEach (e :: es) X.env = (false, eval e X.env) :: starEach es X.env := by rfl) : PA X (e :: es) (tCons te t) := by
  intro pos pins s σ H Q I h
  rw [hs]
  show wpAny _ _ (spliced ((false, eval e X.env) :: backTo pos (starEach es X.env))) _ _ s
  refine Calls.spliced_cons (thn (ha pins s σ H _ I h) fun u s1 ⟨x, H1, I1, r1, q1⟩ => ?_)
  exact thn (hr pos pins s1 σ H1 _ I1 q1) fun us s2 ⟨xs, H2, I2, r2, q2⟩ => ⟨x :: xs, H2, I2, .cons r1 r2, q2⟩
def tTup (t : TA) : TE := fun σ H Q => t σ H fun xs H1 => xs.length ≤ sizeLine ∧ ∀ p, H1 p = none → Q (.ref p) (upd H1 p (.tup xs))
def tLst (t : TA) : TE := fun σ H Q => t σ H fun xs H1 => xs.length ≤ sizeLine ∧ ∀ p, H1 p = none → Q (.ref p) (upd H1 p (.lst xs))
theorem pe_tup {x1} (h : PA X es t) : PE X (.Tuple es x1 pos) (tTup t) := by
  intro pins s σ H Q I hq
  refine wpAny_Tuple_spliced (thn (h pos pins s σ H _ I hq) fun us s1 ⟨xs, H1, I1, r, z, q⟩ => ⟨by rw [← r.length]; exact z, ?_⟩)
  have hf : H1 s1.heap.objs.size = none := I1.hok.fresh (Nat.le_refl _)
  refine ⟨.ref s1.heap.objs.size, upd H1 s1.heap.objs.size (.tup xs), I1.laid (t' := s1.toks) (fun b u e => Heap.get?_push_of_some _ e) (Nat.le_refl _) ?_, rfl, q _ hf⟩
  exact ⟨z, us, r, ⟨_, Heap.get?_push_size _ rfl, rfl, _, rfl⟩⟩
theorem pe_lst (h : PA X es t) : PE X (.List es pos) (tLst t) := by
  intro pins s σ H Q I hq
  refine wpAny_List_spliced (thn (h pos pins s σ H _ I hq) fun us s1 ⟨xs, H1, I1, r, z, q⟩ => ⟨by rw [← r.length]; exact z, ?_⟩)
  have hf : H1 s1.heap.objs.size = none := I1.hok.fresh (Nat.le_refl _)
  refine ⟨.ref s1.heap.objs.size, upd H1 s1.heap.objs.size (.lst xs), I1.laid (t' := s1.toks) (fun b u e => Heap.get?_push_of_some _ e) (Nat.le_refl _) ?_, rfl, q _ hf⟩
  exact ⟨z, us, 0, r, Heap.get?_push_size _ rfl⟩
end
abbrev Sp := List V → Hp → VK → XK → Prop
abbrev CXT := List Env → Hp → Shared → XK → Value → Shared → Prop
structure Env0 (P : Program) (w : World) (K : PySem.W.Frag) (mg : Str → Option Value) (base : Heap) (A : Around) (outer : List Env) (s : Shared) (H : Hp) : Prop where
  frames : A.frames = some outer
  mod : Mod K mg base
  bs : ∀ b o, base.get? b = some o → s.heap.get? b = some o ∧ H b = none
  bsz : base.objs.size ≤ s.heap.objs.size
  funs : s.heap.FunFrames base outer
  frf : ∀ b ∈ frs outer, H b = none
  hok : HOk P w H s.heap
  bare : AllBare s.gens
def CE (outer : List Env) (P : Program) (w : World) (H : Hp) (s : Shared) (Q : VK) (u : Value) (s' : Shared) : Prop :=
  ∃ v H', s'.os = s.os ∧ AllBare s'.gens ∧ Un (frs outer) [] H H' s.heap s'.heap ∧ HOk P w H' s'.heap ∧ RelV v u ∧ Q v H'
def CR (CX : CXT) (outer : List Env) (P : Program) (w : World) (H : Hp) (s : Shared) (Q : VK) (E : XK) (r : Result) (s' : Shared) : Prop :=
  match r with
  | .ok (.ret u) => CE outer P w H s Q u s'
  | .ok _ => False
  | .error e => CX outer H s E e s'
structure FnOk (P : Program) (w : World) (K : PySem.W.Frag) (mg : Str → Option Value) (base : Heap) (CX : CXT) (k : Nat) (f : Addr) (fd : FuncData) (ps : List Str) (sp : Sp) : Prop where
  len : ∀ vs H Q E, sp vs H Q E → vs.length = ps.length
  run : ∀ (A : Around) (outer : List Env) (s : Shared) (H : Hp) (args : Args) (us : List Value) (vs : List V) (Q : VK) (E : XK), Room k A → Env0 P w K mg base A outer s H → BindsTo s fd args (ps.zip us) → Vals vs us → sp vs H Q E →
    codeAny (model P w) A (.call (.ref f) args) (CR CX outer P w H s Q E) s
theorem FnOk.mono {P : Program} {w : World} {K : PySem.W.Frag} {mg : Str → Option Value} {base : Heap} {CX : CXT} {j k : Nat} {f : Addr} {fd : FuncData} {ps : List Str} {sp : Sp} (F : FnOk P w K mg base CX j f fd ps sp) (h : j ≤ k) :
    FnOk P w K mg base CX k f fd ps sp := ⟨F.len, fun A outer s H args us vs Q E hr => F.run A outer s H args us vs Q E (hr.mono h)⟩
theorem FnOk.imp {P : Program} {w : World} {K : PySem.W.Frag} {mg : Str → Option Value} {base : Heap} {CX : CXT} {k : Nat} {f : Addr} {fd : FuncData} {ps : List Str} {sp sp' : Sp} (F : FnOk P w K mg base CX k f fd ps sp)
    (h : ∀ vs H Q E, sp' vs H Q E → sp vs H Q E) : FnOk P w K mg base CX k f fd ps sp' :=
  ⟨fun vs H Q E q => F.len vs H Q E (h _ _ _ _ q), fun A outer s H args us vs Q E hr he hb hv hs => F.run A outer s H args us vs Q E hr he hb hv (h _ _ _ _ hs)⟩
theorem Env0.make {P : Program} {w : World} {K : PySem.W.Frag} {mg : Str → Option Value} {base : Heap} {A : Around} {outer : List Env} {s : Shared} {H : Hp} (e : Env0 P w K mg base A outer s H) (C : Addr) (us : List Value) (kw : List (Str × Value)) :
    Env0 P w K mg base (A.under (.builtin "type.__call__" ⟨.ref C :: us, kw⟩)) outer s H := ⟨by first | exact e.frames | (simpa [Around.under, Code.envs, Code.isFrame, pushEnvs] using e.frames), e.mod, e.bs, e.bsz, e.funs, e.frf, e.hok, e.bare⟩
theorem Env0.in1 {P : Program} {w : World} {K : PySem.W.Frag} {mg : Str → Option Value} {base : Heap} {A : Around} {outer : List Env} {s : Shared} {H : Hp} (e : Env0 P w K mg base A outer s H) :
    Env0 P w K mg base A.in1 outer s H := ⟨e.frames, e.mod, e.bs, e.bsz, e.funs, e.frf, e.hok, e.bare⟩
section
variable {X : Cx} {pins : List (Addr × Obj)} {σ : St} {H : Hp} {s s' : Shared}
theorem Inv.env0 (I : Inv X pins σ H s) : Env0 X.prog X.w X.K X.mg X.base X.A X.stack s H :=
  ⟨I.ok.frames, I.ok.mod, I.bs, Nat.le_trans I.ok.bsz I.sz, I.stack, I.stkFree, I.hok, I.bare⟩
theorem Inv.after {Q : VK} {u : Value} (I : Inv X pins σ H s) (h : CE X.stack X.prog X.w H s Q u s') : EP X pins σ Q u s' := by
  obtain ⟨v, H', os, bare, un, hok, r, q⟩ := h
  obtain ⟨hh, g, d, t, os'⟩ := s'
  obtain rfl : os' = s.os := os
  exact ⟨v, H', I.call (h' := hh) (g' := g) (d' := d) (t' := t) (ch := []) un hok bare (fun b z => absurd z (by simp)), r, q⟩
end
def tCall (sp : Sp) (dvs : List V) (E : XK) (t : TA) : TE := fun σ H Q => t σ H fun vs H1 => sp (vs ++ dvs) H1 Q E
def tMake (C : Addr) (sp : Sp) (dvs : List V) (E : XK) (t : TA) : TE := fun σ H Q => t σ H fun vs H1 => ∀ x dx, H1 x = none → H1 dx = none → dx ≠ x →
  sp (.ref x :: (vs ++ dvs)) (upd (upd H1 dx (.own x)) x (.ins C dx [])) (fun v H2 => v = .non ∧ Q (.ref x) H2) E
def Binds (K : PySem.W.Frag) (fd : FuncData) (ps : List Str) (ds : List Value) : Prop :=
  ∀ (s : Shared) (us : List Value), K.In s.heap → (us ++ ds).length = ps.length → BindsTo s fd ⟨us, []⟩ (ps.zip (us ++ ds))
theorem Binds.all {K : PySem.W.Frag} {fd : FuncData} {ps : List Str} (h : ∀ us : List Value, us.length = ps.length → bindArgs fd ⟨us, []⟩ = pure (ps.zip us)) : Binds K fd ps [] := fun s us _ hl => by
  rw [List.append_nil] at hl ⊢
  exact .of_eq (h us hl)
def Passes (CX : CXT) (X : Cx) (E : XK) : Prop := ∀ (pins : List (Addr × Obj)) (σ : St) (H : Hp) (s : Shared) (e : Value) (s' : Shared), Inv X pins σ H s → CX X.stack H s E e s' → X.xe e s'
section
variable {X : Cx} {CX : CXT} {k : Nat} {f C : Addr} {fd : FuncData} {ps : List Str} {sp : Sp} {dvs : List V} {ds : List Value} {E : XK} {x m : Str} {p pos apos : Pos} {e o : Expr} {es : List Expr} {ta : TE} {t : TA}
theorem run_fn {pins : List (Addr × Obj)} {σ : St} {H : Hp} {s : Shared} {Q : VK} {us : List Value} {vs : List V} (F : FnOk X.prog X.w X.K X.mg X.base CX k f fd ps sp) (hr : Room k X.A) (hb : Binds X.K fd ps ds) (hd : Vals dvs ds) (hx : Passes CX X E)
    (I : Inv X pins σ H s) (r : Vals vs us) (h : sp (vs ++ dvs) H Q E) : wpAny (model X.prog X.w) X.A (call (.ref f) us) (EP X pins σ Q) X.xe s := by
  have r2 : Vals (vs ++ dvs) (us ++ ds) := r.append hd
  have hl : (us ++ ds).length = ps.length := by rw [← r2.length]; exact F.len _ _ _ _ h
  refine wpAny_call (codeAny_mono (F.run X.A X.stack s H ⟨us, []⟩ (us ++ ds) (vs ++ dvs) Q E hr I.env0 (hb s us I.kIn hl) r2 h) fun r s' hq => ?_)
  cases r with
  | error e => exact hx pins σ H s e s' I hq
  | ok fl =>
    cases fl with
    | ret u => exact I.after hq
    | next => exact False.elim hq
    | brk => exact False.elim hq
    | cont => exact False.elim hq
theorem pe_call (F : FnOk X.prog X.w X.K X.mg X.base CX k f fd ps sp) (hr : Room k X.A) (hg : Gl X x) (hm : X.mg x = some (.ref f)) (hk : PySem.W.keepIn X.K (.ref f) = true) (hb : Binds X.K fd ps ds) (hd : Vals dvs ds) (hx : Passes CX X E)
    (ha : PA X (e :: es) t) (hdb : (x == ("__debug__" : Str)) = false := by decide) (he : starEach (e :: es) X.env = (false, eval e X.env) :: starEach es X.env := by rfl) (hpl : (backTo pos (starEach es X.env)).any (·.1) = false := by rfl) :
    PE X (.Call (.Name x p) (e :: es) [] pos) (tCall sp dvs E t) := by
  intro pins s σ H Q I h
  refine wpAny_Call_Name_kw (ld_glob I hg hm ?_ hdb)
  refine PySem.W.callWith_K (h₀ := X.base) I.ok.mod.kin hk (thn (ha pos pins s σ H _ I h) fun us s1 ⟨vs, H1, I1, r, q⟩ => ⟨I1.kIn, ?_⟩) he hpl
  exact run_fn F hr hb hd hx I1 r q
structure Mk (K : PySem.W.Frag) (C f : Addr) : Prop where
  makes : PySem.W.makesIn K C = true
  init : PySem.W.findIn K (.ref C) "__init__" = some (some (.ref f))
  fn : PySem.W.isFn K (.ref f) = true
  kp : PySem.W.keepIn K (.ref C) = true
theorem run_make {pins : List (Addr × Obj)} {σ : St} {H : Hp} {s : Shared} {Q : VK} {us : List Value} {vs : List V} (M : Mk X.K C f) (F : FnOk X.prog X.w X.K X.mg X.base CX k f fd ps sp) (hr : Room (k + 1) X.A) (hb : Binds X.K fd ps ds) (hd : Vals dvs ds)
    (hx : Passes CX X E) (I : Inv X pins σ H s) (r : Vals vs us)
    (h : ∀ x dx, H x = none → H dx = none → dx ≠ x → sp (.ref x :: (vs ++ dvs)) (upd (upd H dx (.own x)) x (.ins C dx [])) (fun v H2 => v = .non ∧ Q (.ref x) H2) E) :
    wpAny (model X.prog X.w) X.A (call (.ref C) us) (EP X pins σ Q) X.xe s := by
  have hq := h (s.heap.objs.size + 1) s.heap.objs.size (I.hok.fresh (Nat.le_succ _)) (I.hok.fresh (Nat.le_refl _)) (Nat.ne_of_lt (Nat.lt_succ_self _))
  have I2 := Inv.made (C := C) I
  have r2 : Vals (V.ref (s.heap.objs.size + 1) :: (vs ++ dvs)) (Value.ref (s.heap.objs.size + 1) :: (us ++ ds)) := .cons rfl (r.append hd)
  have hl : (Value.ref (s.heap.objs.size + 1) :: us ++ ds).length = ps.length := by
    have e := r2.length
    rw [F.len _ _ _ _ hq] at e
    exact e.symm
  refine wpAny_call (make_map (f := f) I.kIn M.makes M.init (beq_iff_eq.mp M.fn) (codeAny_mono (F.run _ X.stack _ _ ⟨Value.ref (s.heap.objs.size + 1) :: us, []⟩ (Value.ref (s.heap.objs.size + 1) :: (us ++ ds)) _ _ E (hr.make C us [])
    (I2.env0.make C us []) (hb _ (Value.ref (s.heap.objs.size + 1) :: us) I2.kIn hl) r2 hq) fun r s' hq' => ?_))
  cases r with
  | error e => exact hx pins σ _ _ e s' I2 hq'
  | ok fl =>
    cases fl with
    | ret u =>
      obtain ⟨v, H', I3, rv, ev, q3⟩ := I2.after hq'
      subst ev
      exact ⟨rv, ⟨V.ref (s.heap.objs.size + 1), H', I3, rfl, q3⟩⟩
    | next => exact False.elim hq'
    | brk => exact False.elim hq'
    | cont => exact False.elim hq'
theorem pe_make (M : Mk X.K C f) (F : FnOk X.prog X.w X.K X.mg X.base CX k f fd ps sp) (hr : Room (k + 1) X.A) (hg : Gl X x) (hm : X.mg x = some (.ref C)) (hb : Binds X.K fd ps ds) (hd : Vals dvs ds) (hx : Passes CX X E)
    (ha : PA X (e :: es) t) (hdb : (x == ("__debug__" : Str)) = false := by decide) (he : starEach (e :: es) X.env = (false, eval e X.env) :: starEach es X.env := by rfl) (hpl : (backTo pos (starEach es X.env)).any (·.1) = false := by rfl) :
    PE X (.Call (.Name x p) (e :: es) [] pos) (tMake C sp dvs E t) := by
  intro pins s σ H Q I h
  refine wpAny_Call_Name_kw (ld_glob I hg hm ?_ hdb)
  refine PySem.W.callWith_K (h₀ := X.base) I.ok.mod.kin M.kp (thn (ha pos pins s σ H _ I h) fun us s1 ⟨vs, H1, I1, r, q⟩ => ⟨I1.kIn, ?_⟩) he hpl
  exact run_make M F hr hb hd hx I1 r q
end
section
variable {X : Cx} {CX : CXT} {k : Nat} {f C : Addr} {fd : FuncData} {ps ks : List Str} {sp : Sp} {E : XK} {x m : Str} {p pos apos kpos : Pos} {e o : Expr} {es : List Expr} {kws : List Keyword} {te ta : TE} {t tk : TA} {nm : Option Str}
structure KBinds (K : PySem.W.Frag) (fd : FuncData) (ps ks : List Str) (g : List Value → List Value → List Value) (gV : List V → List V → List V) : Prop where
  to : ∀ (s : Shared) (us ws : List Value), K.In s.heap → (g us ws).length = ps.length → BindsTo s fd ⟨us, ks.zip ws⟩ (ps.zip (g us ws))
  rel : ∀ {vs : List V} {us : List Value} {zs : List V} {ws : List Value}, Vals vs us → Vals zs ws → Vals (gV vs zs) (g us ws)
variable {g : List Value → List Value → List Value} {gV : List V → List V → List V}
end
structure FnScope (N P : List Str) (sc : Scope) : Prop where
  kind : sc.kind = .function
  co : sc.isCoroutine = false
  gen : sc.isGenerator = false
  nd : N.Nodup
  pre : N.take P.length = P
  par : ∀ x ∈ P, sc.names.lookup x = some .local ∨ sc.names.lookup x = some .cell
  nofree : ∀ y ∈ sc.names, y.2 ≠ .free
theorem bindL_out {kindOf : Str → Option NameKind} {x : Str} : ∀ {binds : List (Str × Value)} {m : Str → Option Value}, (∀ v, (x, v) ∉ binds) → bindL kindOf binds m x = m x
  | [], _, _ => rfl
  | (n, v) :: r, m, h => by
    unfold bindL
    rw [bindL_out fun w hw => h w (List.mem_cons_of_mem _ hw)]
    split
    · have : x ≠ n := by rintro rfl; exact h v List.mem_cons_self
      simp [this]
    · rfl
theorem bindC_out {kindOf : Str → Option NameKind} {x : Str} : ∀ {binds : List (Str × Value)} {m : Str → Option Value}, (∀ v, (x, v) ∉ binds) → bindC kindOf binds m x = m x
  | [], _, _ => rfl
  | (n, v) :: r, m, h => by
    unfold bindC
    rw [bindC_out fun w hw => h w (List.mem_cons_of_mem _ hw)]
    split
    · rfl
    · have : x ≠ n := by rintro rfl; exact h v List.mem_cons_self
      simp [this]
theorem bindL_get {kindOf : Str → Option NameKind} {x : Str} {v : Value} : ∀ {P : List Str} {vs : List Value} {i : Nat} {m : Str → Option Value}, P.Nodup → P[i]? = some x → vs[i]? = some v → kindOf x = some .local →
    bindL kindOf (P.zip vs) m x = some v
  | [], _, _, _, _, h, _, _ => by simp at h
  | _ :: _, [], _, _, _, _, h, _ => by simp at h
  | p :: P, w :: vs, 0, m, nd, h1, h2, hk => by
    simp at h1 h2; subst h1; subst h2
    show bindL kindOf ((p, w) :: P.zip vs) m p = _
    unfold bindL
    rw [bindL_out fun v hv => (List.nodup_cons.mp nd).1 (List.of_mem_zip hv).1, if_pos hk]
    simp
  | p :: P, w :: vs, i + 1, m, nd, h1, h2, hk => by
    show bindL kindOf ((p, w) :: P.zip vs) m x = _
    unfold bindL
    exact bindL_get (i := i) (List.nodup_cons.mp nd).2 (by simpa using h1) (by simpa using h2) hk
theorem bindC_get {kindOf : Str → Option NameKind} {x : Str} {v : Value} : ∀ {P : List Str} {vs : List Value} {i : Nat} {m : Str → Option Value}, P.Nodup → P[i]? = some x → vs[i]? = some v → kindOf x ≠ some .local →
    bindC kindOf (P.zip vs) m x = some v
  | [], _, _, _, _, h, _, _ => by simp at h
  | _ :: _, [], _, _, _, _, h, _ => by simp at h
  | p :: P, w :: vs, 0, m, nd, h1, h2, hk => by
    simp at h1 h2; subst h1; subst h2
    show bindC kindOf ((p, w) :: P.zip vs) m p = _
    unfold bindC
    rw [bindC_out fun v hv => (List.nodup_cons.mp nd).1 (List.of_mem_zip hv).1, if_neg hk]
    simp
  | p :: P, w :: vs, i + 1, m, nd, h1, h2, hk => by
    show bindC kindOf ((p, w) :: P.zip vs) m x = _
    unfold bindC
    exact bindC_get (i := i) (List.nodup_cons.mp nd).2 (by simpa using h1) (by simpa using h2) hk
def start (N : List Str) (vs : List V) : St := vs.map some ++ List.replicate (N.length - vs.length) none
def cxOf (CX : CXT) (P : Program) (w : World) (K : PySem.W.Frag) (mg : Str → Option Value) (base : Heap) (N : List Str) (qual : Str) (scope : Scope) (f : Addr) (cd : Value) (A : Around) (outer : List Env) (s : Shared) (H : Hp) (E : XK) : Cx where
  prog := P
  w := w
  K := K
  mg := mg
  base := base
  A := A.deeper (envOfC qual scope s.heap.objs.size f cd)
  N := N
  s₀ := s
  H₀ := H
  env := envOfC qual scope s.heap.objs.size f cd
  outer := outer
  stack := envOfC qual scope s.heap.objs.size f cd :: outer
  ex := []
  calm := true
  fn := fun _ => true
  pn := []
  xe := fun e s' => wpAny (model P w) (A.deeper (envOfC qual scope s.heap.objs.size f cd)) (leaving (envOfC qual scope s.heap.objs.size f cd) e) (fun _ s'' => CX outer H s E e s'') (fun e' s'' => CX outer H s E e' s'') s'
theorem cell_has {sc : Scope} {n : Nat} {x : Str} (h : sc.names.lookup x = some .cell) : ∃ c, (cellsFrom n sc.names []).lookup x = some c := by
  have q := PySem.W.cellsFrom_some sc.names n [] (.inl h)
  exact Option.isSome_iff_exists.mp q
theorem inv_start {CX : CXT} {P : Program} {w : World} {K : PySem.W.Frag} {mg : Str → Option Value} {base : Heap} {N ps : List Str} {qual : Str} {scope : Scope} {f : Addr} {cd : Value} {A : Around} {outer : List Env} {s s1 : Shared} {H : Hp} {E : XK} {us : List Value} {vs : List V}
    (S : FnScope N ps scope) (hd : A.handled = none) (e0 : Env0 P w K mg base A outer s H) (hl : vs.length = ps.length) (r : Vals vs us)
    (x : InCallC s s.heap.objs.size (bindL (envOfC qual scope s.heap.objs.size f cd).kindOf (ps.zip us) fun _ => none) (cellsFrom (s.heap.objs.size + 1) scope.names []) (bindC (envOfC qual scope s.heap.objs.size f cd).kindOf (ps.zip us) fun _ => none) s1) :
    Inv (cxOf CX P w K mg base N qual scope f cd A outer s H E) [] (start N vs) H s1 := by
  have hpl : ps.length ≤ N.length := by have := congrArg List.length S.pre; rw [List.length_take] at this; omega
  obtain ⟨h1, tk, rfl, hk⟩ := x.done
  have noA : ∀ b : Addr, b ∉ (cxOf CX P w K mg base N qual scope f cd A outer s H E).ex := fun b z => absurd (show b ∈ ([] : List Addr) from z) (by simp)
  refine ⟨⟨e0.mod, S.kind, rfl, rfl, Nat.le_refl _, fun y z c h1 h2 => ?_, fun y hy => ?_, fun y c _ h => ?_, fun _ => hd, Around.frames_deeper e0.frames, .inr ⟨rfl, rfl⟩, fun b z => absurd z (noA b), e0.bs, e0.bsz, fun b _ _ => noA b, fun b z => absurd z (noA b), e0.funs, e0.frf⟩,
    rfl, e0.bare, Un.kept hk, ⟨_, x.toInCall.ns, fun i y v h1 h2 h3 => ?_⟩, fun y c h => ⟨_, x.cell y c h⟩, e0.hok.fresh (Nat.le_refl _), fun y c h => ?_, fun p hp => absurd (show p ∈ ([] : List (Addr × Obj)) from hp) (by simp), e0.hok.kept hk, ?_⟩
  · exact name_of_addr x.apart (PySem.mem_of_lookup h1) (PySem.mem_of_lookup h2)
  · have hy : scope.names.lookup y = some .cell ∨ scope.names.lookup y = some .free := hy
    rcases hy with hy | hy
    · exact cell_has hy
    · exact absurd rfl (S.nofree _ (PySem.mem_of_lookup hy))
  · exact Nat.le_of_lt (x.above y c (PySem.mem_of_lookup h))
  · have hi : i < vs.length := by
      unfold start at h2
      by_cases hi : i < vs.length
      · exact hi
      · rw [List.getElem?_append_right (by simpa using hi)] at h2
        rw [List.getElem?_replicate] at h2
        split at h2 <;> cases h2
    have ha : vs[i]? = some v := by
      unfold start at h2
      rw [List.getElem?_append_left (by simpa using hi), List.getElem?_map] at h2
      cases e : vs[i]? with
      | none => rw [e] at h2; cases h2
      | some a => rw [e] at h2; cases h2; rfl
    obtain ⟨u, hu, rv⟩ := r.get ha
    have hp : ps[i]? = some y := by
      rw [← S.pre, List.getElem?_take_of_lt (by omega)]; exact h1
    have ndP : ps.Nodup := by rw [← S.pre]; exact S.nd.sublist (List.take_sublist _ _)
    refine ⟨u, rv, ?_⟩
    rcases S.par y (List.mem_of_getElem? hp) with k | k
    · exact .inl ⟨k, bindL_get ndP hp hu k⟩
    · obtain ⟨c, e⟩ := cell_has (n := s.heap.objs.size + 1) k
      refine .inr ⟨.inl k, c, e, ?_⟩
      have q := x.cell y c e
      rw [bindC_get ndP hp hu (by show scope.names.lookup y ≠ _; rw [k]; decide)] at q
      exact q
  · exact e0.hok.fresh (Nat.le_of_lt (x.above y c (PySem.mem_of_lookup h)))
  · unfold start
    show _ = N.length
    rw [List.length_append, List.length_map, List.length_replicate]
    omega
theorem fn_of {CX : CXT} {P : Program} {w : World} {K : PySem.W.Frag} {mg : Str → Option Value} {base : Heap} {k : Nat} {f : Addr} {name qual : Str} {params : Arguments} {body : List Stmt} {scope : Scope} {dV kV doc pm cdv ct oc : Value} {an od : Option Addr}
    {osl : Array (Option Value)} {N ps : List Str} {sp : Sp} (lk : K.lookup f = some ⟨oc, od, .func (PySem.W.fnOf name qual params body scope dV kV doc pm an cdv ct), osl⟩) (hcd : PySem.W.codeIn K cdv qual = true) (S : FnScope N ps scope)
    (len : ∀ vs H Q E, sp vs H Q E → vs.length = ps.length)
    (hbody : ∀ (A : Around) (outer : List Env) (s : Shared) (H : Hp) (vs : List V) (Q : VK) (E : XK), Room k (A.deeper (envOfC qual scope s.heap.objs.size f cdv)) → sp vs H Q E →
      ∃ t, PSs (cxOf CX P w K mg base N qual scope f cdv A outer s H E) body t ∧ t { nx := fun _ H' => Q .non H', rt := Q } (start N vs) H) :
    FnOk P w K mg base CX (k + 1) f (PySem.W.fnOf name qual params body scope dV kV doc pm an cdv ct) ps sp := by
  refine ⟨len, fun A outer s H args us vs Q E hr e0 hb r hsp => ?_⟩
  have hl := len _ _ _ _ hsp
  have KX : K.In s.heap := e0.mod.kin.keeps fun b o e => (e0.bs b o e).1
  have lim : s.heap.NoLimit := e0.mod.nolimit.keeps fun b o e => (e0.bs b o e).1
  have hkind : ∀ y ∈ ps.zip us, scope.names.lookup y.1 = some .local ∨ (scope.names.lookup y.1 = some .cell ∧ ((cellsFrom (s.heap.objs.size + 1) scope.names []).lookup y.1).isSome = true) := fun ⟨n, v⟩ hy => by
    rcases S.par n (List.of_mem_zip hy).1 with q | q
    · exact .inl q
    · exact .inr ⟨q, PySem.W.cellsFrom_some _ _ _ (.inl q)⟩
  refine codeAny_call_function hr.depth (KX _ _ lk) rfl S.co S.gen rfl (PySem.W.codeRec_of KX hcd) (hb _ _ _ _ ?_)
  refine wpAny_newFunctionEnv_cells S.kind hkind fun env he s1 x => ?_
  subst he
  refine ⟨lim.keeps x.toInCall.keep, codeAny_func ?_⟩
  obtain ⟨t, ht, hq⟩ := hbody A outer s H vs Q E (hr.deeper _) hsp
  have I : Inv (cxOf CX P w K mg base N qual scope f cdv A outer s H E) [] (start N vs) H s1 := inv_start S hr.hd e0 hl r x
  refine wpAny_mono (ht [] s1 (start N vs) H _ I hq) (fun fl s' hs => ?_) fun e s' hs => hs
  have fin : ∀ {σ' : St} {H' : Hp} {v : V} {u : Value}, Inv (cxOf CX P w K mg base N qual scope f cdv A outer s H E) [] σ' H' s' → RelV v u → Q v H' → CE outer P w H s Q u s' :=
    fun {σ' H' v u} J rv q => ⟨v, H', J.os, J.bare, J.base, J.hok, rv, q⟩
  cases fl with
  | ret u =>
    obtain ⟨v, σ', H', J, rv, q⟩ := hs
    exact fin J rv q
  | next =>
    obtain ⟨σ', H', J, q⟩ := hs
    exact fin (v := V.non) (u := Value.none) J rfl q
  | brk =>
    obtain ⟨_, _, _, q⟩ := hs
    exact False.elim q
  | cont =>
    obtain ⟨_, _, _, q⟩ := hs
    exact False.elim q
end L2
namespace L2
open PySem PySem.Spec PyProof.Rows
section
variable {X : Cx} {x : Str} {p pos : Pos} {e : Expr} {es : List Expr} {t : TA} {id T : String} {r : List V → Hp → VK → Prop}
def tCB (r : List V → Hp → VK → Prop) (t : TA) : TE := fun σ H Q => t σ H fun vs H1 => r vs H1 Q
theorem pe_callB (hc : CallR X (.builtin id) r) (hg : Gl X x) (hm : X.mg x = none) (hv : bootBuiltins x = some (.builtin id)) (ha : PA X (e :: es) t) (hn : x ≠ "__name__" := by decide) (hdb : (x == ("__debug__" : Str)) = false := by decide)
    (he : starEach (e :: es) X.env = (false, eval e X.env) :: starEach es X.env := by rfl) (hpl : (backTo pos (starEach es X.env)).any (·.1) = false := by rfl) : PE X (.Call (.Name x p) (e :: es) [] pos) (tCB r t) := by
  intro pins s σ H Q I h
  refine wpAny_Call_Name_kw (ld_blt I hg hm hv ?_ hn hdb)
  exact PyProof.Rows.callWith_builtin1 (thn (ha pos pins s σ H _ I h) fun us s1 ⟨vs, H1, I1, r1, q1⟩ => hc pins s1 σ H1 vs us Q I1 r1 q1) he hpl
theorem pe_callTy (hc : CallR X (.type T) r) (hg : Gl X x) (hm : X.mg x = none) (hv : bootBuiltins x = some (.type T)) (ha : PA X (e :: es) t) (hn : x ≠ "__name__" := by decide) (hdb : (x == ("__debug__" : Str)) = false := by decide)
    (he : starEach (e :: es) X.env = (false, eval e X.env) :: starEach es X.env := by rfl) (hpl : (backTo pos (starEach es X.env)).any (·.1) = false := by rfl) : PE X (.Call (.Name x p) (e :: es) [] pos) (tCB r t) := by
  intro pins s σ H Q I h
  refine wpAny_Call_Name_kw (ld_blt I hg hm hv ?_ hn hdb)
  exact PyProof.Rows.callWith_type1 (thn (ha pos pins s σ H _ I h) fun us s1 ⟨vs, H1, I1, r1, q1⟩ => hc pins s1 σ H1 vs us Q I1 r1 q1) he hpl
end
end L2
namespace HT
open PySem PyProof.Rows
section
open PySem.SeqAt
open PySem.AutoSeq1 (wpAny_loadPart')
open PySem.MeetsSeq PySem.MeetsSeq2 PySem.MeetsSeq3
end
section
variable {prog : Program} {w : World} {A : Around} {E : Value → Shared → Prop} {s : Shared}
def sIx (n d : Nat) : Option Int → Nat
  | none => d
  | some v => if v < 0 then (v + (n : Int)).toNat else min v.toNat n
end
end HT
namespace L2
open PySem PySem.Spec PyProof.Rows
abbrev TO := St → Hp → (Option Int → Hp → Prop) → Prop
def PO (X : Cx) (e : Option Expr) (t : TO) : Prop :=
  ∀ (pins : List (Addr × Obj)) (s : Shared) (σ : St) (H : Hp) (Q : Option Int → Hp → Prop), Inv X pins σ H s → t σ H Q →
    wpAny (model X.prog X.w) X.A (evalPart e X.env) (fun u s' => ∃ o H', Inv X pins σ H' s' ∧ IsPart u o ∧ Q o H') X.xe s
def tNoPart : TO := fun _ H Q => Q none H
def tPart (t : TE) : TO := fun σ H Q => t σ H fun x H1 => ∃ i, x = .int i ∧ Q (some i) H1
section
variable {X : Cx} {e : Expr} {te : TE} {lo hi : Option Expr} {tl th : TO} {pos p2 : Pos}
theorem po_none : PO X none tNoPart := by
  intro pins s σ H Q I h
  rw [evalPart_none]
  exact wpAny_pure ⟨none, H, I, .none, h⟩
theorem po_some (h : PE X e te) : PO X (some e) (tPart te) := by
  intro pins s σ H Q I hw
  rw [evalPart_some]
  refine thn (h pins s σ H _ I hw) fun u s1 ⟨x, H1, I1, r1, q1⟩ => ?_
  obtain ⟨i, rfl, q⟩ := q1
  obtain ⟨t, rfl⟩ := r1
  exact ⟨some i, H1, I1, .int i t, q⟩
def SlR (X : Cx) (r : V → Option Int → Option Int → Hp → VK → Prop) : Prop :=
  ∀ (pins : List (Addr × Obj)) (s : Shared) (σ : St) (H : Hp) (x : V) (v vl vu : Value) (lo hi : Option Int) (sl : Addr) (Q : VK), Inv X pins σ H s → RelV x v → s.heap.IsSliceOf sl vl vu .none → IsPart vl lo → IsPart vu hi → r x lo hi H Q →
    ∃ T id, typeLookup (.type T) "__getitem__" = pure (some (.builtin id)) ∧ s.TypeIs v T ∧ wpAny (model X.prog X.w) X.A (getItem v (.ref sl)) (EP X pins σ Q) X.xe s
theorem SlR.or {r r' : V → Option Int → Option Int → Hp → VK → Prop} (h : SlR X r) (h' : SlR X r') : SlR X (fun x lo hi H Q => r x lo hi H Q ∨ r' x lo hi H Q) := by
  intro pins s σ H x v vl vu lo hi sl Q I rx hs pl pu q
  rcases q with q | q
  · exact h pins s σ H x v vl vu lo hi sl Q I rx hs pl pu q
  · exact h' pins s σ H x v vl vu lo hi sl Q I rx hs pl pu q
def tSl (r : V → Option Int → Option Int → Hp → VK → Prop) (te : TE) (tl th : TO) : TE := fun σ H Q => te σ H fun x H1 => tl σ H1 fun l H2 => th σ H2 fun u H3 => r x l u H3 Q
theorem pe_slice {r : V → Option Int → Option Int → Hp → VK → Prop} (hr : SlR X r) (he : PE X e te) (hl : PO X lo tl) (hu : PO X hi th) : PE X (.Subscript e (.Slice lo hi none p2) pos) (tSl r te tl th) := by
  intro pins s σ H Q I h
  refine Subscript_ (thn (he pins s σ H _ I h) fun v s1 ⟨x, H1, I1, r1, q1⟩ => ?_)
  refine wpAny_Slice (thn (hl pins s1 σ H1 _ I1 q1) fun vl s2 ⟨l, H2, I2, pl, q2⟩ => thn (hu pins s2 σ H2 _ I2 q2) fun vu s3 ⟨u, H3, I3, pu, q3⟩ => ?_)
  rw [evalPart_none]
  refine wpAny_pure ?_
  have I4 : Inv X pins σ H3 { s3 with heap := s3.heap.push { cls := .type "slice", data := .fields #[vl, vu, .none] } } := I3.kept (t' := s3.toks) fun b ob q => Heap.get?_push_of_some _ q
  obtain ⟨T, id, hT, ht, hg⟩ := hr pins { s3 with heap := s3.heap.push { cls := .type "slice", data := .fields #[vl, vu, .none] } } σ H3 x v vl vu l u s3.heap.objs.size Q I4 r1 (Heap.IsSliceOf.new ..) pl pu q3
  show wpAny (model X.prog X.w) X.A (subscriptTail e (.Slice lo hi none p2) v (.ref s3.heap.objs.size)) (EP X pins σ Q) X.xe { s3 with heap := s3.heap.push { cls := .type "slice", data := .fields #[vl, vu, .none] } }
  exact tail_any (ops := [.ref s3.heap.objs.size, v]) ht hT hg (by with_unfolding_all rfl)
def cutV (xs : List V) (lo hi : Option Int) : List V := (xs.drop (HT.sIx xs.length 0 lo)).take (HT.sIx xs.length xs.length hi - HT.sIx xs.length 0 lo)
theorem cutV_length (xs : List V) (lo hi : Option Int) : (cutV xs lo hi).length ≤ xs.length := by
  unfold cutV
  rw [List.length_take, List.length_drop]
  omega
end
end L2
namespace L2
open PySem PySem.Spec PyProof.Rows
def ixN (n : Nat) (i : Int) : Option Nat := if 0 ≤ i then (if i < n then some i.toNat else none) else if -(n : Int) ≤ i then some (i + n).toNat else none
def atI {α : Type} (xs : List α) (i : Int) : Option α := (ixN xs.length i).bind fun j => xs[j]?
theorem ixN_seq {n : Nat} {i : Int} {j : Nat} (h : ixN n i = some j) : seqIndex? i n = some j ∧ j < n ∧ -(n : Int) ≤ i ∧ i < n := by
  unfold ixN at h
  by_cases h0 : 0 ≤ i
  · rw [if_pos h0] at h
    by_cases h1 : i < n
    · rw [if_pos h1] at h
      have e : i.toNat = j := Option.some.inj h
      exact ⟨by rw [seqIndex_of h0 h1, e], by omega, by omega, h1⟩
    · rw [if_neg h1] at h; cases h
  · rw [if_neg h0] at h
    by_cases h1 : -(n : Int) ≤ i
    · rw [if_pos h1] at h
      have e : (i + n).toNat = j := Option.some.inj h
      exact ⟨by rw [seqIndex_neg (by omega) h1, e], by omega, h1, by omega⟩
    · rw [if_neg h1] at h; cases h
theorem atI_get {α : Type} {xs : List α} {i : Int} {v : α} (h : atI xs i = some v) : ∃ j, seqIndex? i xs.length = some j ∧ xs[j]? = some v ∧ j < xs.length ∧ -(xs.length : Int) ≤ i ∧ i < xs.length := by
  unfold atI at h
  cases e : ixN xs.length i with
  | none => rw [e] at h; cases h
  | some j =>
    rw [e] at h
    obtain ⟨h1, h2, h3, h4⟩ := ixN_seq e
    exact ⟨j, h1, h, h2, h3, h4⟩
theorem atI_nat {α : Type} {xs : List α} {j : Nat} {v : α} (h : xs[j]? = some v) : atI xs (j : Int) = some v := by
  have hj : j < xs.length := (List.getElem?_eq_some_iff.mp h).1
  have e : ixN xs.length (j : Int) = some j := by
    unfold ixN
    rw [if_pos (by omega), if_pos (by omega)]; simp
  unfold atI; rw [e]; exact h
def PlainIx (b : Expr) : Prop := ∀ o i, subscripted b false o i = operate [o, i] (getItem o i)
def IxR (X : Cx) (r : R2) : Prop :=
  ∀ (value slice : Expr) (pins : List (Addr × Obj)) (s : Shared) (σ : St) (H : Hp) (x y : V) (v u : Value) (Q : VK), Inv X pins σ H s → RelV x v → RelV y u → r x y H Q →
    subscripted slice false v u = operate [v, u] (getItem v u) → wpAny (model X.prog X.w) X.A (subscriptTail value slice v u) (EP X pins σ Q) X.xe s
def MtR (X : Cx) (id : String) (r : V → List V → Hp → VK → Prop) : Prop :=
  ∀ (pins : List (Addr × Obj)) (s : Shared) (σ : St) (H : Hp) (x : V) (xs : List V) (v : Value) (us : List Value) (Q : VK), Inv X pins σ H s → RelV x v → Vals xs us → r x xs H Q →
    wpAny (model X.prog X.w) X.A (call (.builtin id) (v :: us)) (EP X pins σ Q) X.xe s
section
variable {X : Cx} {a b : Expr} {ta tb : TE} {pos : Pos}
theorem IxR.or {r r' : R2} (h : IxR X r) (h' : IxR X r') : IxR X (fun x y H Q => r x y H Q ∨ r' x y H Q) := by
  intro value slice pins s σ H x y v u Q I rx ry q hs
  rcases q with q | q
  · exact h value slice pins s σ H x y v u Q I rx ry q hs
  · exact h' value slice pins s σ H x y v u Q I rx ry q hs
theorem MtR.or {id : String} {r r' : V → List V → Hp → VK → Prop} (h : MtR X id r) (h' : MtR X id r') : MtR X id (fun x xs H Q => r x xs H Q ∨ r' x xs H Q) := by
  intro pins s σ H x xs v us Q I rx rs q
  rcases q with q | q
  · exact h pins s σ H x xs v us Q I rx rs q
  · exact h' pins s σ H x xs v us Q I rx rs q
theorem pe_ix {r : R2} (hr : IxR X r) (ha : PE X a ta) (hb : PE X b tb) (hs : PlainIx b) : PE X (.Subscript a b pos) (tOp r ta tb) := by
  intro pins s σ H Q I h
  exact Subscript_ (binT ha hb I h fun v u s2 x y H2 I2 rx ry q => hr a b pins s2 σ H2 x y v u Q I2 rx ry q (hs _ _))
def rIxL (K : PySem.W.Frag) : R2 := fun x y H Q => ∃ p xs i v, x = .ref p ∧ y = .int i ∧ SqL K H p xs ∧ atI xs i = some v ∧ Q v H
def rIxT (K : PySem.W.Frag) : R2 := fun x y H Q => ∃ p xs i v, x = .ref p ∧ y = .int i ∧ SqT K H p xs ∧ atI xs i = some v ∧ Q v H
def rIxS : R2 := fun x y H Q => ∃ z i c, x = .str z ∧ y = .int i ∧ z.length ≤ sizeLine ∧ atI z.cps.toList i = some c ∧ Q (.str ⟨#[c]⟩) H
theorem ix_list : IxR X (rIxL X.K) := by
  intro value slice pins s σ H x y v u Q I rx ry h hs
  obtain ⟨p, xs, i, z, rfl, rfl, hq, he, q⟩ := h
  cases rx
  obtain ⟨t, rfl⟩ := ry
  obtain ⟨its, r, pl, hz⟩ := I.list hq
  obtain ⟨j, h1, h2, h3, h4, h5⟩ := atI_get he
  obtain ⟨w, ew, rw'⟩ := r.get h2
  have hl := r.length
  have hn := line63
  have fin : EP X pins σ Q w s := ⟨z, H, I, rw', q⟩
  by_cases h0 : 0 ≤ i
  · have hj : i.toNat = j := by
      rw [seqIndex_of h0 h5] at h1
      exact Option.some.inj h1
    exact item_listR pl.isList h0 (by omega) (by rw [hj]; simpa using ew) fin hs
  · have hj : (i + (its.toArray.size : Int)).toNat = j := by
      rw [seqIndex_neg (by omega) h4] at h1
      rw [List.size_toArray, ← hl]
      exact Option.some.inj h1
    exact subscriptTail_builtinR (x := w) pl.isList.typeIs slot_list_getitem.lookup
      (wpAny_getItem_list_neg (Q := fun r s' => r = w ∧ EP X pins σ Q r s') pl.isList (by omega) (by rw [List.size_toArray] <;> omega) (by omega) (by rw [hj]; simpa using ew) ⟨rfl, fin⟩) hs
theorem ix_tup : IxR X (rIxT X.K) := by
  intro value slice pins s σ H x y v u Q I rx ry h hs
  obtain ⟨p, xs, i, z, rfl, rfl, hq, he, q⟩ := h
  cases rx
  obtain ⟨t, rfl⟩ := ry
  obtain ⟨its, r, pl, hz⟩ := I.tuple hq
  obtain ⟨j, h1, h2, h3, h4, h5⟩ := atI_get he
  obtain ⟨w, ew, rw'⟩ := r.get h2
  have hl := r.length
  have hn := line63
  have fin : EP X pins σ Q w s := ⟨z, H, I, rw', q⟩
  exact subscriptTail_builtinR (x := w) pl.typeIs slot_tuple_getitem.lookup
    (getItem_tuple (j := j) (Q := fun r s' => r = w ∧ EP X pins σ Q r s') pl (by omega) (by omega) (by rw [List.size_toArray, ← hl]; exact h1) (by simpa using ew) ⟨rfl, fin⟩) hs
theorem ix_str : IxR X rIxS := by
  intro value slice pins s σ H x y v u Q I rx ry h hs
  obtain ⟨z, i, c, rfl, rfl, hz, he, q⟩ := h
  obtain ⟨t, rfl⟩ := rx
  obtain ⟨t', rfl⟩ := ry
  obtain ⟨j, h1, h2, h3, h4, h5⟩ := atI_get he
  have hl : z.cps.toList.length = z.length := by simp [Str.length]
  rw [hl] at h1 h4 h5
  have hn := line63
  exact tail_any (typeIs_str s z t) slot_str_getitem.lookup (getItem_str (c := c) (by
    have e1 : decide (i < -(2 ^ 63 : Int)) = false := decide_eq_false (by omega)
    have e2 : decide (i ≥ 2 ^ 63) = false := decide_eq_false (by omega)
    rw [e1, e2, Bool.or_false]) (by rw [h1]; simpa using h2) ⟨.str ⟨#[c]⟩, H, I.tok _, ⟨_, rfl⟩, q⟩) hs
theorem mapSeq_set (its : List Value) (n j : Nat) (u : Value) : Obj.mapSeq (·.setIfInBounds j u) { cls := .type "list", data := .seq its.toArray n } = { cls := .type "list", data := .seq (its.set j u).toArray n } := by
  simp [Obj.mapSeq]
theorem Inv.lst {pins : List (Addr × Obj)} {σ : St} {H : Hp} {s : Shared} {p : Addr} {xs : List V} (I : Inv X pins σ H s) (h : H p = some (.lst xs)) :
    ∃ (its : List Value) (n : Nat), Vals xs its ∧ s.heap.get? p = some { cls := .type "list", data := .seq its.toArray n } ∧ xs.length ≤ sizeLine := by
  obtain ⟨z, its, n, r, e⟩ := I.hok p _ h
  exact ⟨its, n, r, e, z⟩
theorem Inv.lstUpd {pins : List (Addr × Obj)} {σ : St} {H : Hp} {s : Shared} {p : Addr} {xs ys : List V} {its its' : List Value} {n n' : Nat} {f : Obj → Obj} (I : Inv X pins σ H s) (h : H p = some (.lst xs))
    (ho : s.heap.get? p = some { cls := .type "list", data := .seq its.toArray n }) (hf : f { cls := .type "list", data := .seq its.toArray n } = { cls := .type "list", data := .seq its'.toArray n' }) (r : Vals ys its') (hz : ys.length ≤ sizeLine) (t : Nat) :
    Inv X pins σ (upd H p (.lst ys)) { s with heap := s.heap.update p f, toks := t } := by
  have e : (s.heap.update p f).get? p = some { cls := .type "list", data := .seq its'.toArray n' } := by
    rw [Heap.get?_update_self f ho (by rw [hf] <;> rfl), hf]
  refine I.write (x := p) (e := p) (by rw [h]; trivial) (.inl rfl) (fun b u hb q => (Heap.get?_update_other _ _ (Ne.symm hb)).trans q) ⟨_, e⟩ ?_
  exact ⟨hz, its', n', r, e⟩
def rSetL : V → V → V → Hp → (Hp → Prop) → Prop := fun o i v H Q => ∃ p xs k j, o = .ref p ∧ i = .int k ∧ H p = some (.lst xs) ∧ ixN xs.length k = some j ∧ Q (upd H p (.lst (xs.set j v)))
theorem set_list : PSet X rSetL := by
  intro pins s σ H o i v ov iv u Q I ro ri rv h
  obtain ⟨p, xs, k, j, rfl, rfl, hp, hj, q⟩ := h
  cases ro
  obtain ⟨t, rfl⟩ := ri
  obtain ⟨its, n, r, ho, hz⟩ := I.lst hp
  obtain ⟨h1, h2, h3, h4⟩ := ixN_seq hj
  have hl := r.length
  have hn := line63
  have I' : Inv X pins σ (upd H p (.lst (xs.set j v))) { s with heap := s.heap.update p (Obj.mapSeq (·.setIfInBounds j u)) } :=
    I.lstUpd hp ho (mapSeq_set its n j u) (r.set rv j) (by rw [List.length_set]; exact hz) s.toks
  by_cases h0 : 0 ≤ k
  · have hk : k.toNat = j := by
      rw [seqIndex_of h0 h4] at h1
      exact Option.some.inj h1
    exact PySem.W.ki_setAt ho h0 (by omega) (by rw [List.size_toArray, ← hl]; exact h4) (by rw [hk]; exact ⟨_, I', q⟩)
  · have hk : (k + (its.toArray.size : Int)).toNat = j := by
      rw [seqIndex_neg (by omega) h3] at h1
      rw [List.size_toArray, ← hl]
      exact Option.some.inj h1
    exact PySem.W.ki_setBack ho (by omega) (by rw [List.size_toArray, ← hl]; exact h3) (by omega) (by rw [hk]; exact ⟨_, I', q⟩)
theorem slice_bounds (lo hi : Option Int) (n : Nat) : (sliceBounds lo hi none n).1 = ((HT.sIx n 0 lo : Nat) : Int) ∧ (sliceBounds lo hi none n).2.1 = ((HT.sIx n n hi : Nat) : Int) ∧ (sliceBounds lo hi none n).2.2 = 1 := by
  refine ⟨?_, ?_, rfl⟩
  · cases lo with
    | none => simp [sliceBounds, HT.sIx]
    | some i =>
      simp only [sliceBounds, HT.sIx, Option.getD_none, show (1 : Int) > 0 by decide, if_true]
      by_cases h : i < 0
      · simp only [h, if_true] <;> omega
      · simp only [h, if_false] <;> omega
  · cases hi with
    | none => simp [sliceBounds, HT.sIx]
    | some i =>
      simp only [sliceBounds, HT.sIx, Option.getD_none, show (1 : Int) > 0 by decide, if_true]
      by_cases h : i < 0
      · simp only [h, if_true] <;> omega
      · simp only [h, if_false] <;> omega
theorem slicePick_cut (its : List Value) (lo hi : Option Int) : slicePick its.toArray lo hi none = ((its.drop (HT.sIx its.length 0 lo)).take (HT.sIx its.length its.length hi - HT.sIx its.length 0 lo)).toArray := by
  obtain ⟨h1, h2, h3⟩ := slice_bounds lo hi its.toArray.size
  unfold slicePick
  rw [h1, h2, h3]
  simp only [sliceRange_one, pick_run, List.size_toArray] <;> rfl
def rSlL (K : PySem.W.Frag) : V → Option Int → Option Int → Hp → VK → Prop := fun x lo hi H Q => ∃ a xs, x = .ref a ∧ SqL K H a xs ∧ ∀ p, H p = none → Q (.ref p) (upd H p (.lst (cutV xs lo hi)))
theorem sl_list : SlR X (rSlL X.K) := by
  intro pins s σ H x v vl vu lo hi sl Q I rx hs pl pu h
  obtain ⟨a, xs, rfl, hx, q⟩ := h
  cases rx
  obtain ⟨its, r, ht, hz⟩ := I.list hx
  have hlen := r.length
  refine ⟨"list", _, slot_list_getitem.lookup, ht.isList.typeIs, ?_⟩
  refine wpAny_getItem_list_slice ht.isList hs pl pu .none (by simp) ?_ (by rw [List.size_toArray] <;> omega)
  rw [slicePick_cut, ← hlen]
  refine ⟨.ref s.heap.objs.size, _, I.laid (t' := s.toks) (o := .lst (cutV xs lo hi)) (fun b ob q => Heap.get?_push_of_some _ q) (Nat.le_refl _) ?_, rfl, q _ (I.hok.fresh (Nat.le_refl _))⟩
  exact ⟨Nat.le_trans (cutV_length xs lo hi) hz, _, 0, (r.drop (HT.sIx xs.length 0 lo)).take (HT.sIx xs.length xs.length hi - HT.sIx xs.length 0 lo), Heap.get?_push_size _ rfl⟩
def flatV : V → Bool
  | .non => true
  | .bl _ => true
  | .int _ => true
  | .str _ => true
  | _ => false
def eqV : V → V → Bool
  | .non, .non => true
  | .bl a, .bl b => a == b
  | .bl a, .int b => (if a then 1 else 0) == b
  | .int a, .bl b => a == (if b then 1 else 0)
  | .int a, .int b => a == b
  | .str a, .str b => a == b
  | _, _ => false
theorem eqAt_V {A : Around} {s : Shared} {y x : V} {u v : Value} (ry : RelV y u) (rx : RelV x v) (fy : flatV y = true) (fx : flatV x = true) : SeqAt.EqAt A s u v (eqV y x) := by
  cases y with
  | non =>
    cases ry
    cases x with
    | non => cases rx; exact SeqAt.EqAt.same _
    | bl b => cases rx; exact SeqAt.EqAt.none_bool b
    | int b => obtain ⟨t, rfl⟩ := rx; exact SeqAt.EqAt.none_int b t
    | str b => obtain ⟨t, rfl⟩ := rx; exact SeqAt.EqAt.none_str b t
    | _ => exact absurd (show false = true from fx) Bool.false_ne_true
  | bl a =>
    cases ry
    cases x with
    | non => cases rx; exact SeqAt.EqAt.bool_none a
    | bl b => cases rx; exact SeqAt.EqAt.bool_bool a b
    | int b => obtain ⟨t, rfl⟩ := rx; exact SeqAt.EqAt.bool_int a b t
    | str b => obtain ⟨t, rfl⟩ := rx; exact SeqAt.EqAt.bool_str a b t
    | _ => exact absurd (show false = true from fx) Bool.false_ne_true
  | int a =>
    obtain ⟨t', rfl⟩ := ry
    cases x with
    | non => cases rx; exact SeqAt.EqAt.int_none a t'
    | bl b => cases rx; exact SeqAt.EqAt.int_bool a t' b
    | int b => obtain ⟨t, rfl⟩ := rx; exact SeqAt.EqAt.int_int a t' b t
    | str b => obtain ⟨t, rfl⟩ := rx; exact SeqAt.EqAt.int_str a t' b t
    | _ => exact absurd (show false = true from fx) Bool.false_ne_true
  | str a =>
    obtain ⟨t', rfl⟩ := ry
    cases x with
    | non => cases rx; exact SeqAt.EqAt.str_none a t'
    | bl b => cases rx; exact SeqAt.EqAt.str_bool a t' b
    | int b => obtain ⟨t, rfl⟩ := rx; exact SeqAt.EqAt.str_int a t' b t
    | str b => obtain ⟨t, rfl⟩ := rx; exact SeqAt.EqAt.str_str a t' b t
    | _ => exact absurd (show false = true from fx) Bool.false_ne_true
  | _ => exact absurd (show false = true from fy) Bool.false_ne_true
def eqU (x : V) (u : Value) : Bool := match u with
  | .none => eqV .non x
  | .bool b => eqV (.bl b) x
  | .int i _ => eqV (.int i) x
  | .str z _ => eqV (.str z) x
  | _ => false
theorem eqU_of {x y : V} {u : Value} (r : RelV y u) (f : flatV y = true) : eqU x u = eqV y x := by
  cases y with
  | non => cases r; rfl
  | bl b => cases r; rfl
  | int i => obtain ⟨t, rfl⟩ := r; rfl
  | str z => obtain ⟨t, rfl⟩ := r; rfl
  | _ => exact absurd (show false = true from f) Bool.false_ne_true
theorem any_eqU {x : V} : ∀ {xs : List V} {us : List Value}, Vals xs us → xs.all flatV = true → us.any (eqU x) = xs.any fun y => eqV y x
  | _, _, .nil, _ => rfl
  | y :: xs, u :: us, .cons r t, f => by
    rw [List.all_cons, Bool.and_eq_true] at f
    rw [List.any_cons, List.any_cons, eqU_of r f.1, any_eqU t f.2]
theorem mem_eqAt {A : Around} {s : Shared} {x : V} {v : Value} (rx : RelV x v) (fx : flatV x = true) : ∀ {xs : List V} {us : List Value}, Vals xs us → xs.all flatV = true → ∀ u ∈ us, SeqAt.EqAt A s u v (eqU x u)
  | _, _, .nil, _ => fun u hu => by cases hu
  | y :: xs, u :: us, .cons r t, f => fun u' hu => by
    rw [List.all_cons, Bool.and_eq_true] at f
    rcases List.mem_cons.mp hu with rfl | hu
    · rw [eqU_of r f.1]; exact eqAt_V r rx f.1 fx
    · exact mem_eqAt rx fx t f.2 u' hu
def inV (x : V) (xs : List V) : Bool := xs.any fun y => eqV y x
def rIn (K : PySem.W.Frag) (neg : Bool) : R2 := fun x y H Q => ∃ p xs, y = .ref p ∧ (SqL K H p xs ∨ SqT K H p xs) ∧ flatV x = true ∧ xs.all flatV = true ∧ Q (.bl (if neg then !inV x xs else inV x xs)) H
theorem op_in_seq : OpR X (compareOp .In) (rIn X.K false) := by
  intro pins s σ H x y v u Q I rx ry h
  obtain ⟨p, xs, rfl, hq, fx, fs, q⟩ := h
  cases ry
  rcases hq with hq | hq
  · obtain ⟨its, r, pl, hz⟩ := I.list hq
    refine SeqAt.in_listAt (eqU x) pl.isList (fun w hw => mem_eqAt rx fx r fs w (by simpa using hw)) ⟨.bl _, H, I, rfl, ?_⟩
    rw [show its.toArray.any (eqU x) = its.any (eqU x) by simp, any_eqU r fs]
    exact q
  · obtain ⟨its, r, pl, hz⟩ := I.tuple hq
    refine SeqAt.in_tupleAt (eqU x) pl (fun w hw => mem_eqAt rx fx r fs w (by simpa using hw)) ⟨.bl _, H, I, rfl, ?_⟩
    rw [show its.toArray.any (eqU x) = its.any (eqU x) by simp, any_eqU r fs]
    exact q
theorem op_notIn_seq : OpR X (compareOp .NotIn) (rIn X.K true) := by
  intro pins s σ H x y v u Q I rx ry h
  obtain ⟨p, xs, rfl, hq, fx, fs, q⟩ := h
  cases ry
  rcases hq with hq | hq
  · obtain ⟨its, r, pl, hz⟩ := I.list hq
    refine SeqAt.notIn_listAt (eqU x) pl.isList (fun w hw => mem_eqAt rx fx r fs w (by simpa using hw)) ⟨.bl _, H, I, rfl, ?_⟩
    rw [show its.toArray.any (eqU x) = its.any (eqU x) by simp, any_eqU r fs]
    exact q
  · obtain ⟨its, r, pl, hz⟩ := I.tuple hq
    refine SeqAt.notIn_tupleAt (eqU x) pl (fun w hw => mem_eqAt rx fx r fs w (by simpa using hw)) ⟨.bl _, H, I, rfl, ?_⟩
    rw [show its.toArray.any (eqU x) = its.any (eqU x) by simp, any_eqU r fs]
    exact q
theorem call_len_seq : CallR X (.builtin "len") (fun xs H Q => ∃ p ys, xs = [.ref p] ∧ (SqL X.K H p ys ∨ SqT X.K H p ys) ∧ Q (.int ys.length) H) := by
  intro pins s σ H xs us Q I r h
  obtain ⟨p, ys, rfl, hq, q⟩ := h
  obtain ⟨u, rfl, rx⟩ := vals1 r
  cases rx
  have hn := line63
  rcases hq with hq | hq
  · obtain ⟨its, r', pl, hz⟩ := I.list hq
    have hlen := r'.length
    exact Calls.call_len_list pl.isList (by simp only [List.size_toArray] <;> omega) ⟨.int ys.length, H, I.tok _, ⟨s.toks + 1, by rw [List.size_toArray, hlen]⟩, q⟩
  · obtain ⟨its, r', pl, hz⟩ := I.tuple hq
    have hlen := r'.length
    exact len_tuple pl (by simp only [List.size_toArray] <;> omega) ⟨.int ys.length, H, I.tok _, ⟨s.toks + 1, by rw [List.size_toArray, hlen]⟩, q⟩
theorem call_len_str : CallR X (.builtin "len") (fun xs H Q => ∃ z, xs = [.str z] ∧ z.length ≤ sizeLine ∧ Q (.int z.length) H) := by
  intro pins s σ H xs us Q I r h
  obtain ⟨z, rfl, hz, q⟩ := h
  obtain ⟨u, rfl, t, rfl⟩ := vals1 r
  have hn := line63
  exact len_str (by omega) ⟨.int z.length, H, I.tok _, ⟨_, rfl⟩, q⟩
theorem CallR.or {f : Value} {r r' : List V → Hp → VK → Prop} (h : CallR X f r) (h' : CallR X f r') : CallR X f (fun xs H Q => r xs H Q ∨ r' xs H Q) := by
  intro pins s σ H xs us Q I rs q
  rcases q with q | q
  · exact h pins s σ H xs us Q I rs q
  · exact h' pins s σ H xs us Q I rs q
theorem call_list_of : CallR X (.type "list") (fun xs H Q => ∃ p ys, xs = [.ref p] ∧ (SqL X.K H p ys ∨ SqT X.K H p ys) ∧ ∀ l, H l = none → Q (.ref l) (upd H l (.lst ys))) := by
  intro pins s σ H xs us Q I r h
  obtain ⟨p, ys, rfl, hq, q⟩ := h
  obtain ⟨u, rfl, rx⟩ := vals1 r
  cases rx
  have fin : ∀ (its : List Value), Vals ys its → ys.length ≤ sizeLine → ∀ (h' : Heap) (c' : Nat), (∀ b o', s.heap.get? b = some o' → h'.get? b = some o') →
      h'.get? s.heap.objs.size = some { cls := .type "list", dict := none, data := .seq its.toArray c', slots := #[] } → EP X pins σ Q (.ref s.heap.objs.size) { s with heap := h' } := fun its r' hz h' c' kp e =>
    ⟨.ref s.heap.objs.size, _, I.laid (t' := s.toks) kp (Nat.le_refl _) (show ObjOk X.prog X.w _ h' _ (.lst ys) from ⟨hz, its, c', r', e⟩), rfl, q _ (I.hok.fresh (Nat.le_refl _))⟩
  rcases hq with hq | hq
  · obtain ⟨its, r', pl, hz⟩ := I.list hq
    have hlen := r'.length
    obtain ⟨o, ho, hc, n, hd⟩ := pl.isList
    exact call_list_seq p (.inl rfl) ho hc hd (fun h' c' kp e => fin its r' hz h' c' kp e) (by simp only [List.size_toArray] <;> omega)
  · obtain ⟨its, r', pl, hz⟩ := I.tuple hq
    have hlen := r'.length
    obtain ⟨o, ho, hc, n, hd⟩ := pl
    exact call_list_seq p (.inr rfl) ho hc hd (fun h' c' kp e => fin its r' hz h' c' kp e) (by simp only [List.size_toArray] <;> omega)
theorem call_tuple_of : CallR X (.type "tuple") (fun xs H Q => ∃ p ys, xs = [.ref p] ∧ ((SqL X.K H p ys ∧ ∀ l, H l = none → Q (.ref l) (upd H l (.tup ys))) ∨ (SqT X.K H p ys ∧ Q (.ref p) H))) := by
  intro pins s σ H xs us Q I r h
  obtain ⟨p, ys, rfl, h⟩ := h
  obtain ⟨u, rfl, rx⟩ := vals1 r
  cases rx
  rcases h with ⟨hq, q⟩ | ⟨hq, q⟩
  · obtain ⟨its, r', pl, hz⟩ := I.list hq
    have hlen := r'.length
    refine call_tuple_list pl.isList (fun h' kp => ?_) (by simp only [List.size_toArray] <;> omega)
    have I1 : Inv X pins σ H { s with heap := h' } := I.kept (t' := s.toks) kp
    have I2 : Inv X pins σ (upd H h'.objs.size (.tup ys)) { s with heap := h'.push { cls := .type "tuple", data := .seq its.toArray } } :=
      I1.laid (t' := s.toks) (fun b o e => Heap.get?_push_of_some _ e) (Nat.le_refl _) (show ObjOk X.prog X.w _ _ _ (.tup ys) from ⟨hz, its, r', IsTup.new _ _⟩)
    exact ⟨.ref h'.objs.size, _, I2, rfl, q _ (I1.hok.fresh (Nat.le_refl _))⟩
  · obtain ⟨its, r', pl, hz⟩ := I.tuple hq
    exact call_tuple_same pl ⟨.ref p, H, I, rfl, q⟩
def tyV (K : PySem.W.Frag) (T : String) (x : V) (H : Hp) : Prop := match x with
  | .str _ => T = "str"
  | .int _ => T = "int"
  | .ref p => (T = "list" ∧ ∃ xs, SqL K H p xs) ∨ (T = "tuple" ∧ ∃ o, K.lookup p = some o ∧ o.cls = .type "tuple" ∧ o.dict = none) ∨
      (T = "dict" ∧ ((∃ kvs, H p = some (.dK kvs)) ∨ ∃ kvs, H p = some (.dT kvs))) ∨ (T = "set" ∧ ∃ S n, H p = some (.set S n))
  | _ => False
theorem tyV_is {pins : List (Addr × Obj)} {σ : St} {H : Hp} {s : Shared} {T : String} {x : V} {v : Value} (I : Inv X pins σ H s) (r : RelV x v) (ty : tyV X.K T x H) :
    s.TypeIs v T ∧ ∀ a, v = .ref a → ∃ ob, s.heap.get? a = some ob ∧ ob.dict = none := by
  cases x with
  | str z =>
    obtain ⟨t, rfl⟩ := r
    cases (show T = "str" from ty)
    exact ⟨typeIs_str s z t, fun _ e => nomatch e⟩
  | int i =>
    obtain ⟨t, rfl⟩ := r
    cases (show T = "int" from ty)
    exact ⟨typeIs_int s i t, fun _ e => nomatch e⟩
  | ref p =>
    cases r
    rcases ty with ⟨rfl, xs, hq⟩ | ⟨rfl, o, hk, hc, hd⟩ | ⟨rfl, hk⟩ | ⟨rfl, S, n, hk⟩
    · obtain ⟨its, _, pl, _⟩ := I.list hq
      refine ⟨pl.isList.typeIs, fun a e => ?_⟩
      cases e
      obtain ⟨o, n, e, c, hd, _⟩ := pl
      exact ⟨o, e, hd⟩
    · refine ⟨⟨o, I.kIn p o hk, hc⟩, fun a e => ?_⟩
      cases e
      exact ⟨o, I.kIn _ o hk, hd⟩
    · have z : ∃ o, s.heap.get? p = some o ∧ o.ExactDict := by
        rcases hk with ⟨kvs, hk⟩ | ⟨kvs, hk⟩
        · obtain ⟨_, _, _, _, o, _, _, e, ex, _⟩ := I.hok p _ hk
          exact ⟨o, e, ex⟩
        · obtain ⟨_, _, _, _, o, _, _, e, ex, _⟩ := I.hok p _ hk
          exact ⟨o, e, ex⟩
      obtain ⟨o, e, ex⟩ := z
      refine ⟨⟨o, e, ex.1⟩, fun a e2 => ?_⟩
      cases e2
      exact ⟨o, e, ex.2.1⟩
    · obtain ⟨o, _, _, _, e, ex, _⟩ := I.hok p _ hk
      refine ⟨⟨o, e, ex.1⟩, fun a e2 => ?_⟩
      cases e2
      exact ⟨o, e, ex.2.1⟩
  | _ => exact False.elim ty
def tBM0 (K : PySem.W.Frag) (T : String) (r : V → List V → Hp → VK → Prop) (to : TE) : TE := fun σ H Q => to σ H fun x H1 => tyV K T x H1 ∧ r x [] H1 Q
def tBM (K : PySem.W.Frag) (T : String) (r : V → List V → Hp → VK → Prop) (to : TE) (t : TA) : TE := fun σ H Q => to σ H fun x H1 => tyV K T x H1 ∧ t σ H1 fun xs H2 => r x xs H2 Q
variable {o e : Expr} {es : List Expr} {to : TE} {t : TA} {name : Str} {apos cpos : Pos} {T id : String} {r : V → List V → Hp → VK → Prop}
theorem pe_bm (pa : PlainAttrs T) (slot : Slot T name id) (hty : typeOf (.builtin id) = pure (.type "method_descriptor")) (hm : MtR X id r) (ho : PE X o to) (ha : PA X (e :: es) t)
    (hbase : attributeBase o name X.env (eval o X.env) = eval o X.env := by rfl)
    (hfew : ((backTo cpos (starEach (e :: es) X.env)).all (fun x => !x.1) && (backToKw cpos (keywordEach [] X.env)).all (fun x => x.1.isSome)
      && decide ((e :: es).length + ([] : List Keyword).length + (if ([] : List Keyword).isEmpty then 0 else 1) < 30)) = true := by rfl)
    (hline : (apos.endLine == cpos.line) = true := by rfl) (hs : starEach (e :: es) X.env = (false, eval e X.env) :: starEach es X.env := by rfl) (hplain : (backTo cpos (starEach es X.env)).any (·.1) = false := by rfl) :
    PE X (.Call (.Attribute o name apos) (e :: es) [] cpos) (tBM X.K T r to t) := by
  intro pins s σ H Q I h
  refine wpAny_Call_method_late hbase hfew hline rfl (thn (ho pins s σ H _ I h) fun v s1 ⟨x, H1, I1, r1, ty, q1⟩ => ?_)
  obtain ⟨h1, h2⟩ := tyV_is I1 r1 ty
  refine ⟨T, id, pa, slot, hty, h1, h2, ?_⟩
  have hA := ha cpos pins s1 σ H1 _ I1 q1
  rw [hs] at hA ⊢
  refine Calls.callWith_builtin (by show (false || (backTo cpos (starEach es X.env)).any (·.1)) = false; rw [hplain] <;> rfl) (Calls.evalArgs_plain ?_)
  exact thn hA fun us s2 ⟨vs, H2, I2, r2, q2⟩ => hm pins s2 σ H2 x vs v us Q I2 r1 r2 q2
/- xs.append(e), list.index on a module's tuple .. are MtR facts of 06m -/
end
end L2
namespace L2
open PySem PySem.Spec PyProof.Rows
def MtM (X : Cx) (id : String) (r : V → List V → Hp → VK → Prop) : Prop :=
  ∀ (pins : List (Addr × Obj)) (s : Shared) (σ : St) (H : Hp) (x : V) (xs : List V) (v : Value) (us : List Value) (Q : VK), Inv X pins σ H s → RelV x v → Vals xs us → r x xs H Q →
    wpAny (model X.prog X.w) X.A (call (.builtin id) (v :: us)) (EP X pins σ Q) X.xe s
theorem Vals.one : ∀ {x : V} {us : List Value}, Vals [x] us → ∃ u, us = [u] ∧ RelV x u
  | _, _, .cons r .nil => ⟨_, rfl, r⟩
theorem Vals.two : ∀ {x y : V} {us : List Value}, Vals [x, y] us → ∃ u v, us = [u, v] ∧ RelV x u ∧ RelV y v
  | _, _, _, .cons r (.cons q .nil) => ⟨_, _, rfl, r, q⟩
theorem Vals.zero : ∀ {us : List Value}, Vals [] us → us = []
  | _, .nil => rfl
theorem Vals.reverse {xs : List V} {us : List Value} (h : Vals xs us) : Vals xs.reverse us.reverse := by
  induction h with
  | nil => exact .nil
  | cons r t ih => rw [List.reverse_cons, List.reverse_cons]; exact Vals.append ih (.cons r .nil)
section
variable {X : Cx} {pins : List (Addr × Obj)} {σ : St} {H : Hp} {s : Shared} {l b : Addr} {xs ys zs : List V}
theorem Inv.lset {its its' : List Value} {n : Nat} {f : Array Value → Array Value} {t' : Nat} (I : Inv X pins σ H s) (hH : H l = some (.lst xs))
    (e : s.heap.get? l = some { cls := .type "list", data := .seq its.toArray n }) (hf : f its.toArray = its'.toArray) (hv : Vals ys its') (hz : ys.length ≤ sizeLine) :
    Inv X pins σ (upd H l (.lst ys)) { s with heap := s.heap.update l (Obj.mapSeq f), toks := t' } := by
  have q := PySem.IsL.update e f
  rw [hf] at q
  refine I.write (x := l) (e := l) (by rw [hH]; exact trivial) (.inl rfl) (fun b' u hb hu => (Heap.get?_update_other s.heap (Obj.mapSeq f) (Ne.symm hb)).trans hu) ⟨_, q⟩ ?_
  exact ⟨hz, its', _, hv, q⟩
theorem Inv.lnew {its : List Value} {t' : Nat} (I : Inv X pins σ H s) (hv : Vals ys its) (hz : ys.length ≤ sizeLine) :
    Inv X pins σ (upd H s.heap.objs.size (.lst ys)) { s with heap := s.heap.push { cls := .type "list", data := .seq its.toArray }, toks := t' } :=
  I.laid (fun _ _ q => Heap.get?_push_of_some _ q) (Nat.le_refl _) ⟨hz, its, 0, hv, Heap.get?_push_size _ rfl⟩
theorem Inv.fresh (I : Inv X pins σ H s) : H s.heap.objs.size = none := I.hok.fresh (Nat.le_refl _)
theorem Inv.lstM (I : Inv X pins σ H s) (hH : H l = some (.lst xs)) : xs.length ≤ sizeLine ∧ ∃ (its : List Value) (n : Nat), Vals xs its ∧ xs.length = its.length ∧ s.heap.get? l = some { cls := .type "list", data := .seq its.toArray n } := by
  obtain ⟨z, its, n, r, e⟩ := I.hok l _ hH
  exact ⟨z, its, n, r, r.length, e⟩
end
section
variable {X : Cx}
def rAppend : V → List V → Hp → VK → Prop := fun x vs H Q => ∃ l xs y, x = .ref l ∧ vs = [y] ∧ H l = some (.lst xs) ∧ xs.length < sizeLine ∧ Q .non (upd H l (.lst (xs ++ [y])))
theorem mt_append : MtM X "list.append" rAppend := by
  intro pins s σ H x vs v us Q I rx rv h
  obtain ⟨l, xs, y, rfl, rfl, hH, hz, q⟩ := h
  cases rx
  obtain ⟨u, rfl, ru⟩ := rv.one
  obtain ⟨z, its, n, r, hl, e⟩ := I.lstM hH
  refine call_meets F.slot_list_append ⟨_, e, rfl⟩ F.entry_list_append (F.args_list_append_2 _ _) (PySem.list_append l its.toArray n u (by rw [List.size_toArray]; omega)) ⟨e, ?_⟩
  refine ⟨.non, _, I.lset (its' := its ++ [u]) hH e (by simp) (r.append (.cons ru .nil)) ?_, rfl, q⟩
  rw [List.length_append, List.length_singleton]
  omega
def rCat : R2 := fun x y H Q => ∃ l b xs zs, x = .ref l ∧ y = .ref b ∧ H l = some (.lst xs) ∧ H b = some (.lst zs) ∧ xs.length + zs.length ≤ sizeLine ∧ ∀ p, H p = none → Q (.ref p) (upd H p (.lst (xs ++ zs)))
theorem op_cat : OpR X (binaryOp .Add) rCat := by
  intro pins s σ H x y v u Q I rx ry h
  obtain ⟨l, b, xs, zs, rfl, rfl, hH, hB, hz, q⟩ := h
  cases rx
  cases ry
  obtain ⟨z, its, n, r, hl, e⟩ := I.lstM hH
  obtain ⟨z2, its2, n2, r2, hl2, e2⟩ := I.lstM hB
  refine PySem.P.add_list e e2 ?_ (by rw [List.size_toArray, List.size_toArray]; omega)
  have ea : its.toArray ++ its2.toArray = (its ++ its2).toArray := by simp
  rw [ea]
  exact ⟨.ref _, _, I.lnew (t' := s.toks) (r.append r2) (by rw [List.length_append]; omega), rfl, q _ I.fresh⟩
end
section
variable {prog : Program} {w : World} {A : Around} {E : Value → Shared → Prop} {s : Shared}
end
section
variable {X : Cx}
end
end L2
namespace Att
open PySem PySem.W PySem.Calls PyProof.Rows
theorem ints_of_wellAll {P : Params} {h : Heap} : ∀ (ns : List Int) (vs : List Value), WellAll P h vs (ns.map WData.int) → IntsAre vs ns := by
  intro ns
  induction ns with
  | nil =>
    intro vs w
    rw [List.map_nil] at w
    cases w
    exact .nil
  | cons n ns ih =>
    intro vs w
    rw [List.map_cons] at w
    cases w with
    | cons a b =>
      cases a
      exact .cons _ _ (ih _ b)
theorem script_of {l : OpenLaw} {n : Nat} (hn : l.most = some n) {P : Params} {h : Heap} {args : List WData} {vals : List Value}
    (hpre : l.row.toRowW.claim.pre args = true) (hwl : WellAll P h vals args) :
    ∃ a vs ns, vals = [Value.ref a] ∧ args = [WData.list (ns.map WData.int)] ∧ h.get? a = some { cls := .type "list", data := .seq vs.toArray } ∧ IntsAre vs ns ∧ ns.length ≤ n := by
  have hsh : WShape.hasAll [] args [.list .int] = true := (pre_splitW hpre).1
  have hc : l.pre.holds [] { args := args } = true := (pre_splitW hpre).2
  obtain ⟨d, r, rfl, h1, h2⟩ := hasAllW_cons hsh
  obtain rfl := hasAllW_nil h2
  obtain ⟨xs, rfl, h3⟩ := hasW_list h1
  obtain ⟨ns, rfl⟩ := items_int h3
  have hlen : ns.length ≤ n := by
    unfold OpenLaw.pre at hc
    have h4 : (WTm.not (.lt (.lit (.int (n : Int))) (.len (.arg 0)))).holds [] { args := [.list (ns.map .int)] } = true := by
      have h4 := (holds_andW hc).1
      rw [hn] at h4
      exact h4
    have h5 := condW_of h4 (w_not (w_lt w_lit (w_len_list (w_arg rfl))))
    rw [List.length_map] at h5
    refine Nat.le_of_not_lt fun q => ?_
    have q' : (n : Int) < ((ns.length : Nat) : Int) := by omega
    first
      | (rw [decide_eq_true q'] at h5; exact absurd h5 (by decide))
      | (simp at h5; omega)
  cases hwl with
  | cons w1 w2 =>
    cases w2
    cases w1 with
    | list ho hall => exact ⟨_, _, ns, rfl, rfl, ho, ints_of_wellAll ns _ hall, hlen⟩
theorem post_true (l : OpenLaw) (args : List WData) : l.row.toRowW.claim.post args (.bool true) args = true :=
  postW_of (r := l.row.toRowW) (X := (true == true))
    (show WShape.has [] (.bool true) .bool = true by first | rfl | decide | simp [WShape.has, WShape.arms, WShape.armsAll])
    (show (WTm.eq .res (.lit (.bool true))).value [] { args := args, res := some (.bool true), after := args } = some (.bool (true == true)) from w_eq_bool (w_res rfl) w_lit) rfl
theorem attach_call {l : OpenLaw} {n : Nat} {q : Program} {loose : List Str} {XP : (Str → Option Value) → Heap → Prop} {YP : World → Heap → Prop} {d : DefRec}
    (hn : l.most = some n) (hdf : d.params.defaults = [])
    (call : ∀ (w : World) (s₀ s₁ : Shared) (mg mb : Str → Option Value) (fa : Addr) (o : Obj) (pm cd doc : Value) (a : Addr) (vs : List Value) (ns : List Int),
      Ground q loose [] XP w s₀ mg mb s₁.heap → YP w s₁.heap →
      s₁.heap.get? fa = some o → o.data = .func (docDef d.name d.params d.body d.scope pm cd doc) → s₁.heap.CodeRec cd d.name → mg d.name = some (.ref fa) →
      s₁.heap.get? a = some { cls := .type "list", data := .seq vs.toArray } → IntsAre vs ns → ns.length ≤ n → s₁.gens = #[] →
      codeAny (model l.prog w) callerA (.call (.ref fa) ⟨[.ref a], []⟩) (fun r s' => r = .ok (.ret (.bool true)) ∧ OldK s₁.heap s'.heap ∧ s'.os = s₁.os ∧ AllBare s'.gens) s₁) :
    WalkO q loose XP YP l.row.toRowW d [] (fun f vs => PySem.call f vs) := by
  intro w s₀ s₁ mg mb G Y fa o pm cd doc dV kV ho hd hcd hD hmg hg args vals as hpre hlay hrd hwl hlo
  obtain rfl : dV = .none := Dflts.none hD hdf
  obtain rfl : kV = .none := Dflts.noKw hD
  obtain ⟨a, vs, ns, rfl, rfl, hobj, hints, hlen⟩ := script_of hn hpre hwl
  refine enter_call (codeAny_mono (call w s₀ s₁ mg mb fa o pm cd doc a vs ns G Y ho (fd_plain hd) hcd hmg hobj hints hlen hg) fun r s' hq => ?_)
  obtain ⟨rfl, h2, h3, h4⟩ := hq
  exact ⟨.inl ⟨.bool true, .bool true, [], rfl, fun _ => rfl, .bool true, post_true l _, fun _ => ⟨List.Pairwise.nil, fun _ hm => (nomatch hm)⟩⟩, h2, h3, h4⟩
section
variable {prog : Program} {w : World} {A : Around} {E : Value → Shared → Prop} {s : Shared} {K : Frag}
def ledger (h : Heap) (L d : Addr) : List (Addr × Obj) := (List.range h.objs.size).filterMap fun a => if a = L ∨ a = d then none else (h.get? a).map fun o => (a, o)
end
end Att
namespace L2
open PySem PySem.Spec PyProof.Rows
theorem vals_ints : ∀ {vs : List Value} {ns : List Int}, IntsAre vs ns → Vals (ns.map V.int) vs
  | _, _, .nil => .nil
  | _, _, .cons n t h => .cons ⟨t, rfl⟩ (vals_ints h)
def Only (H : Hp) : Prop := ∀ b, H b = none ∨ ∃ o xs, H b = some (.frz o (.lst xs))
theorem law_call {P : Program} {w : World} {K : PySem.W.Frag} {mg mb : Str → Option Value} {CX : CXT} {k : Nat} {fa a : Addr} {fd : FuncData} {x : Str} {sp : Sp} {s₁ : Shared} {vs : List Value} {ns : List Int}
    (KX : K.In s₁.heap) (hns : s₁.heap.Ns mainGlobals mg) (hb : s₁.heap.Ns builtinsNs mb) (hbb : ∀ x : Str, x ≠ "__name__" → mb x = bootBuiltins x) (hlim : s₁.heap.NoLimit) (hg : s₁.gens = #[])
    (ha : s₁.heap.get? a = some { cls := .type "list", data := .seq vs.toArray }) (hi : IntsAre vs ns) (hl : ns.length ≤ sizeLine) (hr : Room k callerA)
    (F : ∀ base : Heap, K.In base → base.Ns mainGlobals mg → FnOk P w K mg base CX k fa fd [x] sp) (hbind : ∀ (s : Shared) (u : Value), BindsTo s fd ⟨[u], []⟩ [(x, u)])
    (hsp : ∀ H : Hp, Only H → SqL K H a (ns.map V.int) → sp [.ref a] H (fun v _ => v = .bl true) fun _ _ _ => False)
    (hCX : ∀ H e s', CX [] H s₁ (fun _ _ _ => False) e s' → False) :
    codeAny (model P w) callerA (.call (.ref fa) ⟨[.ref a], []⟩) (fun r s' => r = .ok (.ret (.bool true)) ∧ OldK s₁.heap s'.heap ∧ s'.os = s₁.os ∧ AllBare s'.gens) s₁ := by
  have rv := vals_ints hi
  have lenV := hi.length
  -- from an abstract heap in which nothing but the script may be tracked
  have core : ∀ H : Hp, Only H → SqL K H a (ns.map V.int) → HOk P w H s₁.heap → (∀ b, H b ≠ none → b = a) → (H a ≠ none → K.lookup a = none) →
      codeAny (model P w) callerA (.call (.ref fa) ⟨[.ref a], []⟩) (fun r s' => r = .ok (.ret (.bool true)) ∧ OldK s₁.heap s'.heap ∧ s'.os = s₁.os ∧ AllBare s'.gens) s₁ := by
    intro H hO hS hok hA hK
    have base_of : ∀ {b : Addr} {o : Obj}, s₁.heap.get? b = some o → H b = none → (hidT s₁.heap H).get? b = some o := fun e n => hidT_get e n
    have noA : ∀ {b : Addr} {o : Obj} {es : Array DictEntry} {ep : Nat}, s₁.heap.get? b = some o → o.data = .dict es ep → H b = none := fun {b o es ep} e d => by
      cases q : H b with
      | none => rfl
      | some u =>
        have e' : b = a := hA b (by rw [q]; simp)
        subst e'
        rw [ha] at e; cases e
        have d' : Data.seq vs.toArray _ = Data.dict es ep := d
        cases d'
    have nsK : ∀ {b : Addr} {m : Str → Option Value}, s₁.heap.Ns b m → (hidT s₁.heap H).Ns b m := fun {b m} ⟨o, es, ep, e, d, r⟩ => ⟨o, es, ep, base_of e (noA e d), d, r⟩
    have hKb : K.In (hidT s₁.heap H) := fun b o e => base_of (KX b o e) (by
      cases q : H b with
      | none => rfl
      | some u =>
        have e' : b = a := hA b (by rw [q]; simp)
        subst e'
        rw [hK (by rw [q]; simp)] at e; cases e)
    have hM : Mod K mg (hidT s₁.heap H) := ⟨hKb, nsK hns, ⟨mb, nsK hb, hbb⟩, let ⟨mc, h1, h2⟩ := hlim; ⟨mc, nsK h1, h2⟩⟩
    have e0 : Env0 P w K mg (hidT s₁.heap H) callerA [] s₁ H := ⟨rfl, hM, fun b o e => of_hidT e, Nat.le_of_eq (hidT_size _ _), trivial, fun b hb => absurd (show b ∈ ([] : List Addr) from hb) (by simp), hok, .of_eq hg⟩
    refine codeAny_mono ((F _ hKb (nsK hns)).run callerA [] s₁ H ⟨[.ref a], []⟩ [.ref a] [.ref a] _ _ hr e0 (hbind s₁ (.ref a)) (.cons rfl .nil) (hsp H hO hS)) fun r s' h => ?_
    cases r with
    | error e => exact (hCX H e s' h).elim
    | ok fl =>
      cases fl with
      | next => exact False.elim h
      | brk => exact False.elim h
      | cont => exact False.elim h
      | ret u =>
        obtain ⟨v, H', os, bare, un, hok', r', q⟩ := h
        have q' : v = .bl true := q
        subst q'
        obtain rfl : u = Value.bool true := r'
        refine ⟨rfl, OldK.of_keep fun b o e => ?_, os, bare⟩
        cases q : H b with
        | none => exact un.keep b o e q (by intro z; exact absurd (show b ∈ ([] : List Addr) from z) (by simp)) (by simp)
        | some u =>
          rcases hO b with z | ⟨ob, xs, z⟩
          · rw [q] at z; cases z
          · have z2 := un.frzs b ob _ z
            obtain ⟨e1, _⟩ := hok b _ z
            obtain ⟨e2, _⟩ := hok' b _ z2
            rw [e] at e1; cases e1
            exact e2
  cases hk : K.lookup a with
  | some o =>
    -- the script is one of the module's own objects
    have e := KX a o hk
    rw [ha] at e
    cases e
    refine core (fun _ => none) (fun _ => .inl rfl) (.inr ⟨_, vs.toArray, _, hk, rfl, rfl, rfl, by rw [List.size_toArray, lenV]; exact hl, by simpa using rv⟩) (fun b u z => by have z' : (none : Option HO) = some u := z; cases z') (fun b z => absurd rfl z) fun z => absurd rfl z
  | none =>
    refine core (fun b => if b = a then some (.frz { cls := .type "list", data := .seq vs.toArray } (.lst (ns.map V.int))) else none) (fun b => ?_) (.inl (.inr ⟨{ cls := .type "list", data := .seq vs.toArray }, if_pos rfl⟩)) (fun b u z => ?_) (fun b z => ?_) fun _ => hk
    · by_cases hb : b = a
      · exact .inr ⟨_, _, if_pos hb⟩
      · exact .inl (if_neg hb)
    · by_cases hb : b = a
      · have z' := (if_pos hb).symm.trans z
        cases z'
        subst hb
        exact ⟨ha, by rw [List.length_map]; exact hl, vs, _, rv, ha⟩
      · have z' := (if_neg hb).symm.trans z
        cases z'
    · by_cases hb : b = a
      · exact hb
      · exact absurd (if_neg hb) z
end L2
namespace L2
open PySem PySem.Spec PyProof.Rows
theorem walk_of {l : PySem.W.OpenLaw} {n k : Nat} {q : Program} {loose : List Str} {XP : (Str → Option Value) → Heap → Prop} {YP : World → Heap → Prop} {d : DefRec} {K : Params → PySem.W.Frag} {CX : World → CXT} {sp : World → Sp} {x : Str}
    (hn : l.most = some n) (hn2 : n ≤ sizeLine) (hdf : d.params.defaults = []) (hr : Room k callerA)
    (hY : ∀ (w : World) (h : Heap), YP w h → (K w.params).In h)
    (F : ∀ (w : World) (mg : Str → Option Value) (fa : Addr) (h : Heap), (K w.params).In h → h.Ns mainGlobals mg → mg d.name = some (.ref fa) →
      ∃ fd : FuncData, (∀ (s : Shared) (u : Value), BindsTo s fd ⟨[u], []⟩ [(x, u)]) ∧
        ∀ base : Heap, (K w.params).In base → base.Ns mainGlobals mg → FnOk l.prog w (K w.params) mg base (CX w) k fa fd [x] (sp w))
    (hsp : ∀ (w : World) (H : Hp) (a : Addr) (ns : List Int), ns.length ≤ n → Only H → SqL (K w.params) H a (ns.map V.int) → sp w [.ref a] H (fun v _ => v = .bl true) fun _ _ _ => False)
    (hCX : ∀ (w : World) (H : Hp) (s : Shared) (e : Value) (s' : Shared), CX w [] H s (fun _ _ _ => False) e s' → False) :
    PySem.W.WalkO q loose XP YP l.row.toRowW d [] (fun f vs => PySem.call f vs) := by
  refine Att.attach_call hn hdf fun w s₀ s₁ mg mb fa o pm cd doc a vs ns G Y ho hd hcd hmg hobj hints hlen hg => ?_
  have KX := hY w _ Y
  obtain ⟨fd, hb, hF⟩ := F w mg fa _ KX G.T.g hmg
  exact law_call KX G.T.g G.T.b G.T.builtins G.T.nolimit hg hobj hints (Nat.le_trans hlen hn2) hr hF hb (fun H hO hS => hsp w H a ns hlen hO hS) fun H e s' => hCX w H s₁ e s'
end L2
namespace L2
open PySem PySem.Spec PyProof.Rows
def inClass (s : Stmt) (j : Nat) : Stmt := match s with
  | .ClassDef _ _ _ body _ _ _ _ _ _ _ => body.getD j (.Pass ⟨0, 0, 0, 0⟩)
  | _ => .Pass ⟨0, 0, 0, 0⟩
def defArgs (s : Stmt) : Arguments := match s with
  | .FunctionDef _ a _ _ _ _ _ _ _ _ => a
  | _ => { posonlyargs := [], args := [], vararg := none, kwonlyargs := [], kw_defaults := [], kwarg := none, defaults := [] }
def defBody (s : Stmt) : List Stmt := match s with
  | .FunctionDef _ _ b _ _ _ _ _ _ _ => b
  | _ => []
def defScope (s : Stmt) : Scope := match s with
  | .FunctionDef _ _ _ _ _ _ sc _ _ _ => sc
  | _ => { kind := .function, names := [], isGenerator := false, isCoroutine := false }
abbrev CX0 : CXT := fun _ _ _ _ _ _ => False
abbrev E0 : XK := fun _ _ _ => False
structure Fun (K : PySem.W.Frag) (x qual : Str) (st : Stmt) (f : Addr) (fd : FuncData) : Prop where
  ex : ∃ (oc : Value) (od : Option Addr) (kV doc pm : Value) (an : Option Addr) (cdv ct : Value) (osl : Array (Option Value)),
    fd = PySem.W.fnOf x qual (defArgs st) (defBody st) (defScope st) .none kV doc pm an cdv ct ∧ K.lookup f = some ⟨oc, od, .func fd, osl⟩ ∧ PySem.W.codeIn K cdv qual = true
  kp : PySem.W.keepIn K (.ref f) = true
section
variable {P : Program} {w : World} {K : PySem.W.Frag} {mg : Str → Option Value} {base : Heap}
theorem Fun.ok {x qual : Str} {st : Stmt} {f : Addr} {fd : FuncData} {N ps : List Str} {k : Nat} {sp : Sp} (F : Fun K x qual st f fd) (S : FnScope N ps (defScope st)) (len : ∀ vs H Q E, sp vs H Q E → vs.length = ps.length)
    (hbody : ∀ (cdv : Value) (A : Around) (outer : List Env) (s : Shared) (H : Hp) (vs : List V) (Q : VK) (E : XK), Room k (A.deeper (envOfC qual (defScope st) s.heap.objs.size f cdv)) → sp vs H Q E →
      ∃ t, PSs (cxOf CX0 P w K mg base N qual (defScope st) f cdv A outer s H E).nox (defBody st) t ∧ t { nx := fun _ H' => Q .non H', rt := Q } (start N vs) H) : FnOk P w K mg base CX0 (k + 1) f fd ps sp := by
  obtain ⟨oc, od, kV, doc, pm, an, cdv, ct, osl, rfl, lk, hcd⟩ := F.ex
  refine fn_of lk hcd S len fun A outer s H vs Q E hr hsp => ?_
  obtain ⟨t, h, q⟩ := hbody cdv A outer s H vs Q E hr hsp
  exact ⟨t, h.nox, q⟩
theorem Fun.binds {x qual : Str} {st : Stmt} {f : Addr} {fd : FuncData} {ps : List Str} (F : Fun K x qual st f fd)
    (h : ∀ (kV doc pm : Value) (an : Option Addr) (cdv ct : Value) (us : List Value), us.length = ps.length → bindArgs (PySem.W.fnOf x qual (defArgs st) (defBody st) (defScope st) .none kV doc pm an cdv ct) ⟨us, []⟩ = pure (ps.zip us)) : Binds K fd ps [] := by
  obtain ⟨oc, od, kV, doc, pm, an, cdv, ct, osl, rfl, lk, hcd⟩ := F.ex
  exact .all (h kV doc pm an cdv ct)
theorem fun_mk {x qual : Str} {st : Stmt} {f : Addr} {oc : Value} {od an : Option Addr} {osl : Array (Option Value)} {kV doc pm cdv ct : Value} (l : K.lookup f = some ⟨oc, od, .func (PySem.W.fnOf x qual (defArgs st) (defBody st) (defScope st) .none kV doc pm an cdv ct), osl⟩)
    (c : PySem.W.codeIn K cdv qual = true) (k : PySem.W.keepIn K (.ref f) = true) : Fun K x qual st f (PySem.W.fnOf x qual (defArgs st) (defBody st) (defScope st) .none kV doc pm an cdv ct) := ⟨⟨oc, od, kV, doc, pm, an, cdv, ct, osl, rfl, l, c⟩, k⟩
end
theorem small1000 {n : Nat} (h : n ≤ 1000) : n < sizeLine := Nat.lt_of_le_of_lt h (by decide)
section
variable {X : Cx}
theorem pv (i : Nat) {x : Str} {pos : Pos} (hN : X.N[i]? = some x := by rfl) (hv : Vis X.env.scope x := by first | exact Or.inl rfl | exact Or.inr (Or.inl rfl) | exact Or.inr (Or.inr rfl)) (hd : (x == ("__debug__" : Str)) = false := by decide)
    (hcd : (x == ("__classdict__" : Str)) = false := by decide) : PE X (.Name x pos) (tVar i) := pe_var hN hv hd hcd
end
def Same (H H' : Hp) : Prop := ∀ b o, H b = some o → H' b = some o
theorem Same.refl (H : Hp) : Same H H := fun _ _ h => h
theorem Same.trans {H H1 H2 : Hp} (a : Same H H1) (b : Same H1 H2) : Same H H2 := fun c o h => b c o (a c o h)
theorem Same.free {H H' : Hp} (e : Same H H') {l : Addr} (h : H' l = Option.none) : H l = Option.none := by
  cases q : H l with
  | none => rfl
  | some o =>
    rw [e l o q] at h
    cases h
theorem Same.seq {K : PySem.W.Frag} {H H' : Hp} {a : Addr} {xs : List V} (e : Same H H') (h : SqL K H a xs) : SqL K H' a xs := by
  rcases h with (h | ⟨o, h⟩) | h
  · exact .inl (.inl (e _ _ h))
  · exact .inl (.inr ⟨o, e _ _ h⟩)
  · exact .inr h
end L2
set_option Elab.async false
set_option linter.all false
set_option maxRecDepth 100000
namespace Bw
open PySem PySem.Spec PyProof.Rows L2
section
variable {X : Cx}
def CDivL (i j : Int) : Prop := 0 < j ∧ j < 2 ^ 62
theorem op_fdivL : OpR X (binaryOp .FloorDiv) (rI CDivL fun i j => .int (i / j)) := opI fun i j _ _ _ _ _ hc q => by
  have h1 : (0 : Int) < j := hc.1
  have h2 : j < 2 ^ 62 := hc.2
  refine floordiv_int (by omega) (by rw [Int.fdiv_eq_ediv_of_nonneg i (by omega)]; exact q) (.inl (PyProof.noPylong_of_log2 ?_))
  have h0 : j.natAbs ≠ 0 := by omega
  have : j.natAbs.log2 < 62 := (Nat.log2_lt h0).mpr (by omega)
  omega
def okV (H : Hp) : V → Prop
  | .non => True
  | .bl _ => True
  | .int _ => True
  | .str _ => True
  | .ref a => (∃ xs, H a = some (.lst xs)) ∨ ∃ xs, H a = some (.tup xs)
  | _ => False
def isIntV : V → Bool
  | .int _ => true
  | .bl _ => true
  | _ => false
def isBoolV : V → Bool
  | .bl _ => true
  | _ => false
def isTupV (H : Hp) : V → Bool
  | .ref a => match H a with
    | some (.tup _) => true
    | _ => false
  | _ => false
theorem okV.ty {K : PySem.W.Frag} {H : Hp} {x : V} (h : okV H x) : ∃ T, TyOf K H x (.type T) ∧ PySem.W.kitOne K (.type T) (.type "int") = some (isIntV x) ∧ PySem.W.kitOne K (.type T) (.type "bool") = some (isBoolV x) ∧ PySem.W.kitOne K (.type T) (.type "tuple") = some (isTupV H x) := by
  cases x with
  | non => exact ⟨_, .non, by kernel_rfl, by kernel_rfl, by kernel_rfl⟩
  | bl b => exact ⟨_, .bl b, by kernel_rfl, by kernel_rfl, by kernel_rfl⟩
  | int i => exact ⟨_, .int i, by kernel_rfl, by kernel_rfl, by kernel_rfl⟩
  | str i => exact ⟨_, .str i, by kernel_rfl, by kernel_rfl, by kernel_rfl⟩
  | ref a =>
    rcases h with ⟨xs, e⟩ | ⟨xs, e⟩
    · have q : isTupV H (.ref a) = false := by simp [isTupV, e]
      rw [q]
      exact ⟨_, .lst e, by kernel_rfl, by kernel_rfl, by kernel_rfl⟩
    · have q : isTupV H (.ref a) = true := by simp [isTupV, e]
      rw [q]
      exact ⟨_, .tup e, by kernel_rfl, by kernel_rfl, by kernel_rfl⟩
  | _ => exact h.elim
theorem isi_gen {pins : List (Addr × Obj)} {σ : L2.St} {H : Hp} {s : Shared} {x : V} {c T : String} {b : Bool} {us : List Value} {Q : VK} (I : Inv X pins σ H s) (r : Vals [x, .ty c] us) (ty : TyOf X.K H x (.type T)) (e : PySem.W.kitOne X.K (.type T) (.type c) = some b) (q : Q (.bl b) H) :
    wpAny (model X.prog X.w) X.A (call (.builtin "isinstance") us) (EP X pins σ Q) X.xe s := by
  obtain ⟨u, w', rfl, rx, rc⟩ := vals2 r
  cases (show w' = Value.type c from rc)
  exact isinst_ok I rx ty e fun tk => ⟨.bl b, H, I.tok _, rfl, q⟩
end
structure Cal (P : Program) (w : World) (K : PySem.W.Frag) (mg : Str → Option Value) (base : Heap) (x : Str) (ps : List Str) (k : Nat) (sp : Sp) : Prop where
  ex : ∃ f fd, FnOk P w K mg base CX0 k f fd ps sp ∧ Binds K fd ps [] ∧ PySem.W.keepIn K (.ref f) = true ∧ mg x = some (.ref f)
theorem same_new {H : Hp} {p : Addr} (h : H p = none) (o : HO) : Same H (upd H p o) := fun b u q => by rw [upd_ne (ne_of_none q h)]; exact q
def But (w : Addr) (H H' : Hp) : Prop := ∀ b o, b ≠ w → H b = some o → H' b = some o
theorem But.refl (w : Addr) (H : Hp) : But w H H := fun _ _ _ h => h
theorem But.trans {w : Addr} {H H1 H2 : Hp} (a : But w H H1) (b : But w H1 H2) : But w H H2 := fun c o n h => b c o n (a c o n h)
theorem But.upd {w : Addr} {H : Hp} (o : HO) : But w H (upd H w o) := fun b u n h => by rw [upd_ne n]; exact h
theorem Same.but {w : Addr} {H H' : Hp} (h : Same H H') : But w H H' := fun b o _ e => h b o e
def Well (H : Hp) (w : Addr) : Prop := ∃ a b c d : Int, H w = some (.lst [.int a, .int b, .int c, .int d])
theorem Well.same {H H' : Hp} {w : Addr} (W : Well H w) (s : Same H H') : Well H' w := by
  obtain ⟨a, b, c, d, h⟩ := W
  exact ⟨a, b, c, d, s _ _ h⟩
theorem Well.ne {H : Hp} {w p : Addr} (W : Well H w) (h : H p = none) : p ≠ w := by
  obtain ⟨a, b, c, d, e⟩ := W
  exact (ne_of_none e h).symm
theorem Well.neL {H : Hp} {w p : Addr} {xs : List V} (W : Well H w) (h : H p = some (.tup xs)) : p ≠ w := by
  obtain ⟨a, b, c, d, e⟩ := W
  exact (ne_of e h (by intro z; cases z)).symm
theorem at_mem {ns : List Int} {i : Int} (h0 : 0 ≤ i) (h : i < ns.length) : ∃ z ∈ ns, atI (ns.map V.int) i = some (.int z) := by
  have hk : i.toNat < ns.length := by omega
  have ek : i = ((i.toNat : Nat) : Int) := by omega
  refine ⟨ns[i.toNat], List.getElem_mem hk, ?_⟩
  have q : atI (ns.map V.int) ((i.toNat : Nat) : Int) = some (.int ns[i.toNat]) := atI_nat (by rw [List.getElem?_map, List.getElem?_eq_getElem hk] <;> rfl)
  rwa [← ek] at q
theorem int_at {ns : List Int} {i : Nat} {x : V} (h : (ns.map V.int)[i]? = some x) : ∃ c, x = .int c := by
  rw [List.getElem?_map] at h
  cases e : ns[i]? with
  | none => rw [e] at h; cases h
  | some c => rw [e] at h; exact ⟨c, (Option.some.inj h).symm⟩
theorem sz8 {n : Nat} (h : n ≤ 1000) : n ≤ sizeLine := Nat.le_of_lt (small1000 h)
section
variable {K : PySem.W.Frag} {ta tb tc te : TE} {tA tB' : TT} {t u : TS} {tr : TA} {D : Ends} {σ : L2.St} {H : Hp} {Q : VK} {QB : Bool → Hp → Prop} {QA : List V → Hp → Prop} {v x y z : V} {i j : Nat} {g : TG} {QS : L2.St → Hp → Prop}
theorem w_seq : tSeq t u D σ H = t { D with nx := u D } σ H := rfl
theorem w_next : tNext D σ H = D.nx σ H := rfl
theorem w_ifS : tIfS tA t u D σ H = tA σ H (fun b H1 => if b = true then t D σ H1 else u D σ H1) := rfl
theorem w_ret : tRet te D σ H = te σ H D.rt := rfl
theorem w_retN : tRetN D σ H = D.rt .non H := rfl
theorem w_drop : tDrop te D σ H = te σ H (fun _ H1 => D.nx σ H1) := rfl
theorem w_asg : tAsg te g D σ H = te σ H (fun x H1 => g x σ H1 D.nx) := rfl
theorem w_gName : gName i v σ H QS = QS (σ.set i (some v)) H := rfl
theorem w_gSub {ts : TSet} : gSub ta tb ts v σ H QS = ta σ H (fun o H1 => tb σ H1 (fun i H2 => ts o i v H2 (fun H3 => QS σ H3))) := rfl
theorem w_var : tVar i σ H Q = ∃ v, σ[i]? = some (some v) ∧ Q v H := rfl
theorem w_c : tC v σ H Q = Q v H := rfl
theorem w_op {r : R2} : tOp r ta tb σ H Q = ta σ H (fun x H1 => tb σ H1 (fun y H2 => r x y H2 Q)) := rfl
theorem w_un {r : V → Hp → VK → Prop} : tUn r ta σ H Q = ta σ H (fun x H1 => r x H1 Q) := rfl
theorem w_rU {f : Int → V} : rU f x H Q = ∃ i, x = .int i ∧ Q (f i) H := rfl
theorem w_rI0 {f : Int → Int → V} : rI0 f x y H Q = ∃ i j, x = .int i ∧ y = .int j ∧ Q (f i j) H := rfl
theorem w_rI {C : Int → Int → Prop} {f : Int → Int → V} : rI C f x y H Q = ∃ i j, x = .int i ∧ y = .int j ∧ C i j ∧ Q (f i j) H := rfl
theorem w_test : tTest te σ H QB = te σ H (fun x H' => ∃ k, x = .bl k ∧ QB k H') := rfl
theorem w_b : L2.tB te σ H QB = te σ H (fun x H1 => ∃ c, x = .bl c ∧ QB c H1) := rfl
theorem w_and : tAnd tA tB' σ H QB = tA σ H (fun c H1 => if c = true then tB' σ H1 QB else QB false H1) := rfl
theorem w_or : tOr tA tB' σ H QB = tA σ H (fun c H1 => if c = true then QB true H1 else tB' σ H1 QB) := rfl
theorem w_not : tNot tA σ H QB = tA σ H (fun c H1 => QB (!c) H1) := rfl
theorem w_andV : tAndV ta tb σ H Q = ta σ H (fun x H1 => ∃ c, x = .bl c ∧ if c = true then tb σ H1 Q else Q (.bl false) H1) := rfl
theorem w_orV : tOrV ta tb σ H Q = ta σ H (fun x H1 => ∃ c, x = .bl c ∧ if c = true then Q (.bl true) H1 else tb σ H1 Q) := rfl
theorem w_notV : tNotV ta σ H Q = ta σ H (fun x H1 => ∃ c, x = .bl c ∧ Q (.bl (!c)) H1) := rfl
theorem w_if : tIf tA ta tb σ H Q = tA σ H (fun c H1 => if c = true then ta σ H1 Q else tb σ H1 Q) := rfl
theorem w_cons : tCons ta tr σ H QA = ta σ H (fun x H1 => tr σ H1 (fun xs H2 => QA (x :: xs) H2)) := rfl
theorem w_nil : tNil σ H QA = QA [] H := rfl
theorem w_tup : tTup tr σ H Q = tr σ H (fun xs H1 => xs.length ≤ sizeLine ∧ ∀ p, H1 p = none → Q (.ref p) (L2.upd H1 p (.tup xs))) := rfl
theorem w_lst : tLst tr σ H Q = tr σ H (fun xs H1 => xs.length ≤ sizeLine ∧ ∀ p, H1 p = none → Q (.ref p) (L2.upd H1 p (.lst xs))) := rfl
theorem w_call {sp : Sp} {dvs : List V} {E : XK} : tCall sp dvs E tr σ H Q = tr σ H (fun vs H1 => sp (vs ++ dvs) H1 Q E) := rfl
theorem w_cB {r : List V → Hp → VK → Prop} : tCB r tr σ H Q = tr σ H (fun vs H1 => r vs H1 Q) := rfl
theorem w_eq : rEq x y H Q = (scal x y = true ∧ Q (.bl (decide (x = y))) H) := rfl
theorem w_ne : rNe x y H Q = (scal x y = true ∧ Q (.bl (!decide (x = y))) H) := rfl
theorem w_s1 {a b : Int} : scal (.int a) (.int b) = true := rfl
theorem w_s2 {a b : Bool} : scal (.bl a) (.bl b) = true := rfl
theorem w_s3 {a b : Str} : scal (.str a) (.str b) = true := rfl
theorem w_s4 {a : Int} : scal (.int a) .non = true := rfl
theorem w_s5 {a : Bool} : scal (.bl a) .non = true := rfl
theorem w_isN : tIsN ta σ H Q = ta σ H (fun x H1 => Q (.bl (decide (x = .non))) H1) := rfl
theorem w_notN : tNotN ta σ H Q = ta σ H (fun x H1 => Q (.bl (!decide (x = .non))) H1) := rfl
theorem w_chain {r r' : R2} : tChain r r' ta tb tc σ H Q = ta σ H (fun x H1 => tb σ H1 (fun y H2 => r x y H2 (fun z H3 => ∃ k, z = .bl k ∧ (if k = true then tc σ H3 (fun w' H4 => r' y w' H4 Q) else Q (.bl false) H3)))) := rfl
theorem w_sl {r : V → Option Int → Option Int → Hp → VK → Prop} {tl th : TO} : tSl r te tl th σ H Q = te σ H (fun x H1 => tl σ H1 (fun l H2 => th σ H2 (fun u H3 => r x l u H3 Q))) := rfl
theorem w_part {QO : Option Int → Hp → Prop} : tPart te σ H QO = te σ H (fun x H1 => ∃ i, x = .int i ∧ QO (some i) H1) := rfl
theorem w_noPart {QO : Option Int → Hp → Prop} : tNoPart σ H QO = QO none H := rfl
theorem w_K {CX : CXT} {P : Program} {w : World} {mg : Str → Option Value} {base : Heap} {N : List Str} {qual : Str} {sc : Scope} {f : Addr} {cd : Value} {A : Around} {outer : List Env} {s : Shared} {H : Hp} {E : XK} : (cxOf CX P w K mg base N qual sc f cd A outer s H E).K = K := rfl
def ForL (K : PySem.W.Frag) (a : Addr) (g : TG) (tb : TS) (D : Ends) (σ : L2.St) (H : Hp) : Prop := ∃ W : Nat → Nat → L2.St → Hp → Prop, (∃ m, W 0 m σ H) ∧ ∀ i m σ H, W i m σ H →
  ((Itl K a).stop i H ∧ D.nx σ H) ∨ ((Itl K a).go i H ∧ ∃ N : L2.St → Hp → Prop, (∀ σ' H', N σ' H' → ∃ m', m' < m ∧ W (i + 1) m' σ' H') ∧ ∀ x H', (Itl K a).yld i H x H' → g x σ H' fun σ2 H2 => tb { D with nx := N, ct := N, bk := D.nx } σ2 H2)
def ForR (lo : Int) (n : Nat) (g : TG) (tb : TS) (D : Ends) (σ : L2.St) (H : Hp) : Prop := ∃ W : Nat → Nat → L2.St → Hp → Prop, (∃ m, W 0 m σ H) ∧ ∀ i m σ H, W i m σ H →
  ((Itr lo n).stop i H ∧ D.nx σ H) ∨ ((Itr lo n).go i H ∧ ∃ N : L2.St → Hp → Prop, (∀ σ' H', N σ' H' → ∃ m', m' < m ∧ W (i + 1) m' σ' H') ∧ ∀ x H', (Itr lo n).yld i H x H' → g x σ H' fun σ2 H2 => tb { D with nx := N, ct := N, bk := D.nx } σ2 H2)
theorem w_forL : tFor (iList K ta) g t D σ H = ta σ H (fun x H1 => ∃ a, x = .ref a ∧ (∃ xs, SqL K H1 a xs) ∧ ForL K a g t D σ H1) := rfl
theorem w_for1 : tFor (iRng1 tr) g t D σ H = tr σ H (fun vs H1 => ∃ j : Int, vs = [.int j] ∧ -(2 ^ 62) ≤ j ∧ j < 2 ^ 62 ∧ ForR 0 j.toNat g t D σ H1) := rfl
theorem w_for2 : tFor (iRng2 tr) g t D σ H = tr σ H (fun vs H1 => ∃ i j : Int, vs = [.int i, .int j] ∧ (-(2 ^ 62) ≤ i ∧ i < 2 ^ 62 ∧ -(2 ^ 62) ≤ j ∧ j < 2 ^ 62) ∧ ForR i (j - i).toNat g t D σ H1) := rfl
theorem ForL.by {a : Addr} {xs : List V} (Pv : Nat → L2.St → Hp → Prop) (h0 : Pv 0 σ H) (hl : ∀ i σ H, i ≤ xs.length → Pv i σ H → SqL K H a xs)
    (hs : ∀ i x σ H, xs[i]? = some x → Pv i σ H → g x σ H fun σ2 H2 => t { D with nx := Pv (i + 1), ct := Pv (i + 1), bk := D.nx } σ2 H2) (hd : ∀ σ H, Pv xs.length σ H → D.nx σ H) : ForL K a g t D σ H := for_list Pv h0 hl hs hd
theorem ForR.by {lo : Int} {n : Nat} (Pv : Nat → L2.St → Hp → Prop) (h0 : Pv 0 σ H)
    (hs : ∀ i σ H, i < n → Pv i σ H → g (.int (lo + i)) σ H fun σ2 H2 => t { D with nx := Pv (i + 1), ct := Pv (i + 1), bk := D.nx } σ2 H2) (hd : ∀ σ H, Pv n σ H → D.nx σ H) : ForR lo n g t D σ H := for_range Pv h0 hs hd
theorem ixl {p : Addr} {xs : List V} {k : Int} (hS : SqL K H p xs) (hv : atI xs k = some v) (q : Q v H) : rIxL K (.ref p) (.int k) H Q := ⟨p, xs, k, v, rfl, rfl, hS, hv, q⟩
theorem ixt {p : Addr} {xs : List V} {k : Int} (hS : SqT K H p xs) (hv : atI xs k = some v) (q : Q v H) : rIxT K (.ref p) (.int k) H Q := ⟨p, xs, k, v, rfl, rfl, hS, hv, q⟩
theorem setl {p : Addr} {xs : List V} {k : Int} {QH : Hp → Prop} (h : H p = some (.lst xs)) (hj : ixN xs.length k = some j) (q : QH (L2.upd H p (.lst (xs.set j v)))) : rSetL (.ref p) (.int k) v H QH := ⟨p, xs, k, j, rfl, rfl, h, hj, q⟩
end
end Bw
set_option Elab.async false
set_option linter.all false
set_option maxRecDepth 100000
namespace Bw
open PySem PySem.Spec PyProof.Rows L2
def rIsNotB : R2 := fun x y H Q => ∃ c d : Bool, x = .bl c ∧ y = .bl d ∧ Q (.bl (c != d)) H
theorem op_isnotB {X : Cx} : OpR X (compareOp .IsNot) rIsNotB := by
  intro pins s σ H x y v u Q I rx ry h
  obtain ⟨c, d, rfl, rfl, q⟩ := h
  cases rx
  cases ry
  exact isnot_bool ⟨.bl _, H, I, rfl, q⟩
theorem w_isnotB {x y : V} {H : Hp} {Q : VK} : rIsNotB x y H Q = ∃ c d : Bool, x = .bl c ∧ y = .bl d ∧ Q (.bl (c != d)) H := rfl
def Itr3 (lo c : Int) (n : Nat) : It := ⟨fun i _ => i < n, fun i H x H' => H' = H ∧ x = .int (lo + i * c), fun i _ => n ≤ i⟩
def rngN (i j c : Int) : Nat := if i < j then ((j - i - 1) / c + 1).toNat else 0
def iRng3 (ta : TA) : TI := fun σ H R => ta σ H fun vs H1 => ∃ i j c : Int, vs = [.int i, .int j, .int c] ∧ (-(2 ^ 60) ≤ i ∧ i < 2 ^ 60 ∧ -(2 ^ 60) ≤ j ∧ j < 2 ^ 60 ∧ 0 < c ∧ c < 2 ^ 30) ∧ R (Itr3 i c (rngN i j c)) H1
def ForR3 (lo c : Int) (n : Nat) (g : TG) (tb : TS) (D : Ends) (σ : L2.St) (H : Hp) : Prop := ∃ W : Nat → Nat → L2.St → Hp → Prop, (∃ m, W 0 m σ H) ∧ ∀ i m σ H, W i m σ H →
  ((Itr3 lo c n).stop i H ∧ D.nx σ H) ∨ ((Itr3 lo c n).go i H ∧ ∃ N : L2.St → Hp → Prop, (∀ σ' H', N σ' H' → ∃ m', m' < m ∧ W (i + 1) m' σ' H') ∧ ∀ x H', (Itr3 lo c n).yld i H x H' → g x σ H' fun σ2 H2 => tb { D with nx := N, ct := N, bk := D.nx } σ2 H2)
theorem w_for3 {tr : TA} {g : TG} {t : TS} {D : Ends} {σ : L2.St} {H : Hp} : tFor (iRng3 tr) g t D σ H = tr σ H (fun vs H1 => ∃ i j c : Int, vs = [.int i, .int j, .int c] ∧ (-(2 ^ 60) ≤ i ∧ i < 2 ^ 60 ∧ -(2 ^ 60) ≤ j ∧ j < 2 ^ 60 ∧ 0 < c ∧ c < 2 ^ 30) ∧ ForR3 i c (rngN i j c) g t D σ H1) := rfl
theorem ForR3.by {lo c : Int} {n : Nat} {g : TG} {t : TS} {D : Ends} {σ : L2.St} {H : Hp} (Pv : Nat → L2.St → Hp → Prop) (h0 : Pv 0 σ H)
    (hs : ∀ i σ H, i < n → Pv i σ H → g (.int (lo + i * c)) σ H fun σ2 H2 => t { D with nx := Pv (i + 1), ct := Pv (i + 1), bk := D.nx } σ2 H2) (hd : ∀ σ H, Pv n σ H → D.nx σ H) : ForR3 lo c n g t D σ H := by
  refine ⟨fun i m σ H => m = n - i ∧ i ≤ n ∧ Pv i σ H, ⟨n, by simp, Nat.zero_le _, h0⟩, ?_⟩
  rintro i m σ H ⟨rfl, hi, p⟩
  by_cases hlt : i < n
  · refine .inr ⟨hlt, Pv (i + 1), fun σ' H' p' => ⟨n - (i + 1), by omega, rfl, hlt, p'⟩, fun x H' y => ?_⟩
    obtain ⟨e, y⟩ := y
    subst e y
    exact hs i σ _ hlt p
  · have e : i = n := by omega
    subst e
    exact .inl ⟨Nat.le_refl _, hd σ H p⟩
structure QOk (H : Hp) (p : Addr) (s e : Int) : Prop where
  at_ : H p = some (.tup [.int s, .int e])
  s0 : 0 ≤ s
  s1 : s ≤ 1439
  e0 : 0 ≤ e
  e1 : e ≤ 1439
  ne : s ≠ e
theorem QOk.same {H H' : Hp} {p : Addr} {s e : Int} (q : QOk H p s e) (h : Same H H') : QOk H' p s e := ⟨h _ _ q.at_, q.s0, q.s1, q.e0, q.e1, q.ne⟩
theorem QOk.but {H H' : Hp} {w p : Addr} {s e : Int} (q : QOk H p s e) (W : Well H w) (h : But w H H') : QOk H' p s e := ⟨h _ _ (W.neL q.at_) q.at_, q.s0, q.s1, q.e0, q.e1, q.ne⟩
end Bw
set_option Elab.async false
set_option linter.all false
set_option maxRecDepth 100000
namespace Bw
open PySem PySem.Spec PyProof.Rows L2
def CXF (P : Program) (w : World) : CXT := fun outer H s E e s' =>
  ∃ (x : Addr) (cls a0 : Value) (H' : Hp) (B : Heap), e = .ref x ∧ s'.os = s.os ∧ AllBare s'.gens ∧ Un (frs outer) [] H H' s.heap s'.heap ∧ HOk P w H' s'.heap ∧ Heap.FlyingW B outer x cls a0 s'.heap ∧
    (∀ b u, H' b = some u → ∃ o, B.get? b = some o) ∧ (∀ b o, s.heap.get? b = some o → H b = none → b ∉ frs outer → B.get? b = some o) ∧ (∀ b o, s.heap.get? b = some o → b ∉ frs outer → ∃ o', B.get? b = some o') ∧ E cls none H'
section
variable {X : Cx} {pins : List (Addr × Obj)} {σ : L2.St} {H H' : Hp} {s : Shared} {h2 B : Heap}
end
abbrev cxX (P : Program) (w : World) (K : PySem.W.Frag) (mg : Str → Option Value) (base : Heap) (N : List Str) (qual : Str) (sc : Scope) (f : Addr) (cdv : Value) (A : Around) (outer : List Env) (s : Shared) (H : Hp) (E : XK) : Cx :=
  cxOf (CXF P w) P w K mg base N qual sc f cdv A outer s H E
section
variable {P : Program} {w : World} {K : PySem.W.Frag} {mg : Str → Option Value} {base : Heap} {N : List Str} {qual : Str} {sc : Scope} {f : Addr} {cdv : Value} {A : Around} {outer : List Env} {s : Shared} {H : Hp} {E : XK}
theorem pass00 {X : Cx} : Passes (CXF P w) X E0 := fun pins σ H1 s1 e s' I hx => by
  obtain ⟨_, _, _, _, _, _, _, _, _, _, _, _, _, _, hE⟩ := hx
  exact hE.elim
theorem FnOk.up {k : Nat} {fd : FuncData} {ps : List Str} {sp : Sp} {CX : CXT} (F : FnOk P w K mg base CX0 k f fd ps sp) : FnOk P w K mg base CX k f fd ps sp :=
  ⟨F.len, fun A outer s H args us vs Q E hr he hb hv hs => codeAny_mono (F.run A outer s H args us vs Q E hr he hb hv hs) fun r s' q => by
    cases r with
    | ok fl => cases fl <;> exact q
    | error e => exact (show False from q).elim⟩
end
def tRaise (R : Hp → Prop) : TS := fun _ _ H => R H
section
variable {X : Cx} {pins : List (Addr × Obj)} {σ : L2.St} {H H' : Hp} {s : Shared}
def excAt (x : Addr) (cls : Value) (h : Heap) : Prop := ∃ ob, h.get? x = some ob ∧ ob.cls = cls
def hoExc (x : Addr) (cls : Value) : HO := .ext (excAt x cls)
def tTry (K : PySem.W.Frag) (CB : Addr) (i : Nat) (sp : Sp) (t : TA) (ts : TS) : TS := fun D σ H => t σ H fun vs H1 => sp vs H1 (fun _ H2 => D.nx σ H2) fun cls _ H2 => PySem.W.exmOne K cls (.ref CB) = some true ∧
  ∀ x, H2 x = none → ts { nx := fun σ' H3 => D.nx (σ'.set i none) H3, rt := D.rt, bk := fun σ' H3 => D.bk (σ'.set i none) H3, ct := fun σ' H3 => D.ct (σ'.set i none) H3 } (σ.set i (some (.ref x))) (L2.upd H2 x (hoExc x cls))
end
end Bw
set_option Elab.async false
set_option linter.all false
set_option maxRecDepth 100000
set_option maxHeartbeats 400000
namespace Bw
open PySem PySem.Spec PyProof.Rows L2
section
variable {prog : Program} {w : World} {A : Around} {E : Value → Shared → Prop} {K : PySem.W.Frag} {h : Heap} {g : Array GenState} {d : Drawn} {t : Nat} {os : OsState} {x C : Addr}
structure ExcK (K : PySem.W.Frag) (C : Addr) : Prop where
  ga : PySem.W.findIn K (.ref C) "__getattribute__" = some (some (.builtin "BaseException.__getattribute__"))
  gt : PySem.W.findIn K (.ref C) "__getattr__" = some none
  cl : PySem.W.findIn K (.ref C) "__class__" = some (some (.builtin "object.__class__"))
  mB : PySem.W.mroIn K C (.type "BaseException") = some true
  mO : PySem.W.mroIn K C (.type "object") = some true
  cls : (PySem.W.clsIn K C).isSome = true
end
section
variable {X : Cx}
end
structure CalX (P : Program) (w : World) (K : PySem.W.Frag) (mg : Str → Option Value) (base : Heap) (x : Str) (ps : List Str) (k : Nat) (sp : Sp) : Prop where
  ex : ∃ f fd, FnOk P w K mg base (CXF P w) k f fd ps sp ∧ Binds K fd ps [] ∧ PySem.W.keepIn K (.ref f) = true ∧ mg x = some (.ref f)
theorem pe_calN {X : Cx} {x : Str} {ps : List Str} {k : Nat} {sp : Sp} {e : Expr} {es : List Expr} {t : TA} {p pos : Pos} (C : CalX X.prog X.w X.K X.mg X.base x ps k sp) (hr : Room k X.A) (hg : Gl X x) (ha : PA X (e :: es) t)
    (hdb : (x == ("__debug__" : Str)) = false := by decide) (he : starEach (e :: es) X.env = (false, eval e X.env) :: starEach es X.env := by rfl) (hpl : (backTo pos (starEach es X.env)).any (·.1) = false := by rfl) :
    PE X (.Call (.Name x p) (e :: es) [] pos) (tCall sp [] E0 t) := by
  obtain ⟨f, fd, F, b, kp, m⟩ := C.ex
  exact pe_call F hr hg m kp b .nil pass00 ha hdb he hpl
theorem w_raise {R : Hp → Prop} {D : Ends} {σ : L2.St} {H : Hp} : tRaise R D σ H = R H := rfl
theorem w_try {K : PySem.W.Frag} {CB : Addr} {i : Nat} {sp : Sp} {t : TA} {ts : TS} {D : Ends} {σ : L2.St} {H : Hp} : tTry K CB i sp t ts D σ H = t σ H (fun vs H1 => sp vs H1 (fun _ H2 => D.nx σ H2) fun cls _ H2 => PySem.W.exmOne K cls (.ref CB) = some true ∧
  ∀ x, H2 x = none → ts { nx := fun σ' H3 => D.nx (σ'.set i none) H3, rt := D.rt, bk := fun σ' H3 => D.bk (σ'.set i none) H3, ct := fun σ' H3 => D.ct (σ'.set i none) H3 } (σ.set i (some (.ref x))) (L2.upd H2 x (hoExc x cls))) := rfl
theorem w_KX {K : PySem.W.Frag} {P : Program} {w : World} {mg : Str → Option Value} {base : Heap} {N : List Str} {qual : Str} {sc : Scope} {f : Addr} {cd : Value} {A : Around} {outer : List Env} {s : Shared} {H : Hp} {E : XK} : (cxX P w K mg base N qual sc f cd A outer s H E).K = K := rfl
theorem at_memV {xs : List V} {i : Int} (h0 : 0 ≤ i) (h : i < xs.length) : ∃ z ∈ xs, atI xs i = some z := by
  have hk : i.toNat < xs.length := by omega
  have ek : i = ((i.toNat : Nat) : Int) := by omega
  refine ⟨xs[i.toNat], List.getElem_mem hk, ?_⟩
  have q : atI xs ((i.toNat : Nat) : Int) = some xs[i.toNat] := atI_nat (List.getElem?_eq_getElem hk)
  rwa [← ek] at q
end Bw
set_option Elab.async false
set_option linter.all false
set_option maxRecDepth 100000
set_option maxHeartbeats 1000000
namespace Bw
open PySem PySem.Spec PyProof.Rows L2
section
variable {X : Cx}
def tBMake (C : Addr) (sp : Sp) (dvs : List V) (t : TA) : XK → TE := fun E σ H Q => t σ H fun vs H1 => ∀ x dx, H1 x = none → H1 dx = none → dx ≠ x →
  sp (.ref x :: (vs ++ dvs)) (upd (upd H1 dx (.own x)) x (.ins C dx [])) (fun v H2 => v = .non ∧ Q (.ref x) H2) E
def tTryB (K : PySem.W.Frag) (CB : Addr) (i : Nat) (tb : XK → TS) (ts : TS) : TS := fun D σ H => tb (fun cls _ H2 => PySem.W.exmOne K cls (.ref CB) = some true ∧
  ∀ x, H2 x = none → ts { nx := fun σ' H3 => D.nx (σ'.set i none) H3, rt := D.rt, bk := fun σ' H3 => D.bk (σ'.set i none) H3, ct := fun σ' H3 => D.ct (σ'.set i none) H3 } (σ.set i (some (.ref x))) (L2.upd H2 x (hoExc x cls))) D σ H
end
end Bw
set_option Elab.async false
set_option linter.all false
set_option maxRecDepth 100000
set_option maxHeartbeats 1000000
namespace Bw
open PySem PySem.Spec PyProof.Rows L2
theorem lookup_mem {α : Type} {x : Str} {c : α} : ∀ {l : List (Str × α)}, l.lookup x = some c → (x, c) ∈ l
  | [], h => by simp at h
  | (n, k) :: r, h => by
    rw [List.lookup_cons] at h
    cases hx : x == n with
    | true =>
      rw [hx] at h
      have e : x = n := by simpa using hx
      have e2 : k = c := by simpa using h
      subst e e2
      exact List.mem_cons_self
    | false =>
      rw [hx] at h
      exact List.mem_cons_of_mem _ (lookup_mem h)
theorem mem_lookup {α : Type} {x : Str} {c : α} : ∀ {l : List (Str × α)}, (x, c) ∈ l → ∃ c', l.lookup x = some c'
  | [], h => by cases h
  | (n, k) :: r, h => by
    rw [List.lookup_cons]
    cases hx : x == n with
    | true => exact ⟨k, rfl⟩
    | false =>
      rcases List.mem_cons.mp h with e | e
      · cases e
        simp at hx
      · exact mem_lookup e
theorem closure_run {env : Env} : ∀ (names : List (Str × NameKind)) (acc : List (Str × Addr)), (∀ y ∈ names, y.2 = .free → ∃ c, env.cells.lookup y.1 = some c) →
    ∃ cl : List (Str × Addr), (forIn (m := Sem) names acc fun (x : Str × NameKind) r =>
        if (x.2 == NameKind.free) = true then do let a ← cellOf env x.1; pure (ForInStep.yield ((x.1, a) :: r)) else pure (ForInStep.yield r)) = pure cl ∧
      (∀ p ∈ cl, p ∈ acc ∨ env.cells.lookup p.1 = some p.2) ∧ (∀ p ∈ acc, p ∈ cl) ∧ ∀ x, (x, NameKind.free) ∈ names → ∃ c, (x, c) ∈ cl
  | [], acc, _ => ⟨acc, rfl, fun p hp => .inl hp, fun p hp => hp, fun x hx => by cases hx⟩
  | (n, k) :: r, acc, h => by
    by_cases hk : k = .free
    · subst hk
      obtain ⟨c, hc⟩ := h (n, .free) List.mem_cons_self rfl
      obtain ⟨cl, e, h1, h2, h3⟩ := closure_run r ((n, c) :: acc) fun y hy => h y (List.mem_cons_of_mem _ hy)
      have hc' : cellOf env n = pure c := by unfold cellOf; rw [hc]
      refine ⟨cl, ?_, fun p hp => ?_, fun p hp => h2 p (List.mem_cons_of_mem _ hp), fun x hx => ?_⟩
      · rw [List.forIn_cons]
        simp only [beq_self_eq_true, if_true, hc', pure_bind]
        exact e
      · rcases h1 p hp with z | z
        · rcases List.mem_cons.mp z with rfl | z
          · exact .inr hc
          · exact .inl z
        · exact .inr z
      · rcases List.mem_cons.mp hx with z | z
        · cases z
          exact ⟨c, h2 _ List.mem_cons_self⟩
        · exact h3 x z
    · obtain ⟨cl, e, h1, h2, h3⟩ := closure_run r acc fun y hy => h y (List.mem_cons_of_mem _ hy)
      have hb : (k == NameKind.free) = false := by simpa using hk
      refine ⟨cl, ?_, h1, h2, fun x hx => ?_⟩
      · rw [List.forIn_cons]
        simp only [hb, Bool.false_eq_true, if_false, pure_bind]
        exact e
      · rcases List.mem_cons.mp hx with z | z
        · cases z
          exact absurd rfl hk
        · exact h3 x z
theorem closure_of {env : Env} {scope : Scope} (h : ∀ y ∈ scope.names, y.2 = .free → ∃ c, env.cells.lookup y.1 = some c) :
    ∃ cl, closureFor scope env = pure cl ∧ (∀ x c, cl.lookup x = some c → env.cells.lookup x = some c) ∧ ∀ x, (x, NameKind.free) ∈ scope.names → ∃ c, cl.lookup x = some c := by
  obtain ⟨cl, e, h1, h2, h3⟩ := closure_run (env := env) scope.names [] h
  refine ⟨cl, ?_, fun x c hx => ?_, fun x hx => ?_⟩
  · unfold closureFor
    simp only [bind_pure]
    exact e
  · rcases h1 _ (lookup_mem hx) with z | z
    · cases z
    · exact z
  · obtain ⟨c, hc⟩ := h3 x hx
    exact mem_lookup hc
theorem relabel_mem {scope : Scope} {env : Env} {x : Str} {k : NameKind} (h : (relabel scope env).names.lookup x = some k) : (x, k) ∈ scope.names ∨ (k = .cell ∧ (x, NameKind.free) ∈ scope.names) := by
  obtain ⟨⟨n, k'⟩, hm, e⟩ := List.mem_map.mp (lookup_mem h)
  dsimp only at e
  split at e
  · rename_i hc
    simp only [Bool.and_eq_true, beq_iff_eq] at hc
    obtain ⟨⟨rfl, _⟩, _⟩ := hc
    cases e
    exact .inr ⟨rfl, hm⟩
  · cases e
    exact .inl hm
abbrev blk (X : Cx) (N : List Str) (scope : Scope) (cl : List (Str × Addr)) (C : Addr) (s : Shared) (H : Hp) (fp : List Addr) : Cx :=
  { prog := X.prog, w := X.w, K := X.K, mg := X.mg, base := X.base, A := X.A, N := N, s₀ := s, H₀ := H, env := compEnvC scope cl C X.env, outer := X.stack, stack := X.stack, ex := fp, fn := fun _ => false, calm := X.calm, pn := [], xe := fun _ _ => False }
def pick (ix : List (Option Nat)) (σ : L2.St) : L2.St := ix.map fun o => o.bind fun j => (σ[j]?).getD none
def PTs (X : Cx) (ifs : List Expr) (t : TT) : Prop :=
  ∀ (pins : List (Addr × Obj)) (s : Shared) (σ : L2.St) (H : Hp) (Q : Bool → Hp → Prop), Inv X pins σ H s → t σ H Q →
    wpAny (model X.prog X.w) X.A (forIn ifs true fun c r => if r = true then do let ok ← isTrue c X.env (eval c X.env); pure (ForInStep.yield ok) else pure (ForInStep.yield r)) (TP X pins σ Q) X.xe s
def tYes : TT := fun _ H Q => Q true H
theorem pts_nil {X : Cx} : PTs X [] tYes := fun pins s σ H Q I h => wpAny_tests_nil ⟨H, I, h⟩
def tComp (wi : TI) (ix : List (Option Nat)) (g : TG) (tt : TT) (te : TE) : TE := fun σ H Q => wi σ H fun J H1 => ∃ W : Nat → Nat → List V → L2.St → Hp → Prop, (∃ m, W 0 m [] (pick ix σ) H1) ∧ ∀ i m acc σ H, W i m acc σ H →
  (J.stop i H ∧ ∀ D, H D = none → Q (.ref D) (upd H D (.lst acc))) ∨
  (J.go i H ∧ acc.length < sizeLine ∧ ∃ N : List V → L2.St → Hp → Prop, (∀ acc' σ' H', N acc' σ' H' → ∃ m', m' < m ∧ W (i + 1) m' acc' σ' H') ∧
    ∀ x H', J.yld i H x H' → g x σ H' fun σ2 H2 => tt σ2 H2 fun b H3 => if b = true then te σ2 H3 fun y H4 => N (acc ++ [y]) σ2 H4 else N acc σ2 H3)
section
variable {prog : Program} {w : World} {A : Around} {R : Result → Shared → Prop} {s : Shared}
theorem codeAny_compLoopT {elt target iter : Expr} {ifs : List Expr} {scope : Scope} {pos : Pos} {it acc : Value} {env : Env} (I : Nat → Shared → Prop)
    (turn : ∀ n s, I n s → wpAny (model prog w) A (pyNext it) (fun r s₁ => match r with
      | none => R (.ok .next) s₁
      | some v => wpAny (model prog w) A (letOwnedTupleGo target it v) (fun _ s₁ => wpAny (model prog w) A (assign target env v) (fun _ s₂ =>
          wpAny (model prog w) A (forIn ifs true fun c r => if r = true then do let ok ← isTrue c env (eval c env); pure (ForInStep.yield ok) else pure (ForInStep.yield r)) (fun ok s₃ =>
            if ok = true then wpAny (model prog w) A (eval elt env) (fun x s₄ =>
              wpAny (model prog w) A (call (.builtin "list.append") [acc, x]) (fun _ s₅ => ∃ m, m < n ∧ I m s₅) (fun _ _ => False) s₄) (fun _ _ => False) s₃
            else ∃ m, m < n ∧ I m s₃) (fun _ _ => False) s₂) (fun _ _ => False) s₁) (fun _ _ => False) s₁) (fun _ _ => False) s)
    (n : Nat) (h : I n s) :
    codeAny (model prog w) A (.compLoop (.ListComp elt [⟨target, iter, ifs, 0⟩] scope pos) 0 it acc env) R s := by
  refine codeAny_loop rfl I (fun n s hI => ?_) n h
  show wpAny _ A ((compTurn (.ListComp elt [⟨target, iter, ifs, 0⟩] scope pos) 0 it acc env).onRaise (fun x => do noteFrame x env; theTreesLotGoes x)) _ _ s
  refine wpAny_noted ?_
  rw [compTurn_list]
  refine wpAny_bind (wpAny_standAt (wpAny_bind (wpAny_mono (turn n s hI) (fun r s₁ h₁ => ?_) fun _ _ h' => h'.elim)))
  cases r with
  | none => exact wpAny_pure h₁
  | some v =>
    refine wpAny_bind (wpAny_mono h₁ (fun _ s₁ h₁ => ?_) fun _ _ h' => h'.elim)
    refine wpAny_bind (wpAny_mono h₁ (fun _ s₂ h₂ => wpAny_bind (wpAny_mono h₂ (fun ok s₃ h₃ => ?_) fun _ _ h' => h'.elim)) fun _ _ h' => h'.elim)
    cases ok with
    | false => exact wpAny_pure ⟨rfl, h₃⟩
    | true =>
      exact wpAny_bind (wpAny_bind (wpAny_mono h₃ (fun x s₄ h₄ => wpAny_bind (wpAny_mono h₄ (fun _ s₅ h₅ => wpAny_pure (wpAny_pure ⟨rfl, h₅⟩)) fun _ _ h' => h'.elim)) fun _ _ h' => h'.elim))
end
section
variable {X : Cx} {pins : List (Addr × Obj)} {σ : L2.St} {H : Hp} {s : Shared} {N : List Str} {scope : Scope} {cl : List (Str × Addr)} {C : Addr} {fp : List Addr}
theorem blk_ok (I : Inv X pins σ H s) (hkind : scope.kind = .function) (hcell : ∀ y ∈ scope.names, y.2 ≠ .cell) (h1 : ∀ x c, cl.lookup x = some c → X.env.cells.lookup x = some c)
    (h2 : ∀ x, (x, NameKind.free) ∈ scope.names → ∃ c, cl.lookup x = some c) (hC : s.heap.objs.size ≤ C) (hf : ∀ b ∈ fp, FpOk X pins H b) (hb : ∀ b ∈ fp, b < s.heap.objs.size) : (blk X N scope cl C s H fp).Ok where
  mod := I.ok.mod
  kind := hkind
  glob := I.ok.glob
  blt := I.ok.blt
  above := hC
  inj := fun x y c a b => I.ok.inj x y c (h1 x c a) (h1 y c b)
  has := fun x hx => by
    have : (x, NameKind.free) ∈ scope.names := by
      rcases hx with z | z
      · rcases relabel_mem z with q | ⟨_, q⟩
        · exact absurd rfl (hcell _ q)
        · exact q
      · rcases relabel_mem z with q | ⟨e, q⟩
        · exact q
        · cases e
    exact h2 x this
  cab := fun x c hx => by cases hx
  hd := I.ok.hd
  frames := I.ok.frames
  stk := .inl rfl
  exf := fun b hm => ⟨Nat.ne_of_lt (Nat.lt_of_lt_of_le (hb b hm) hC), fun x c e => (hf b hm).2.2.2.2.1 x c (h1 x c e)⟩
  bs := I.bs
  bsz := Nat.le_trans I.ok.bsz I.sz
  noex := fun b o e hm => by
    rcases (hf b hm).2.2.2.1 with z | z
    · exact I.ok.noex b o e z
    · exact absurd (Nat.lt_of_lt_of_le (Heap.lt_size e) (Nat.le_trans I.ok.bsz z)) (Nat.lt_irrefl _)
  exfs := fun b hm hs => (List.mem_cons.mp (I.stkSub b hs)).elim (hf b hm).2.1 (hf b hm).2.2.1
  funs := I.stack
  frf := I.stkFree
end
theorem lookup_relabel_free {env : Env} : ∀ {names : List (Str × NameKind)} {x : Str}, names.lookup x = some .free →
    (names.map fun (n, k) => if (k == NameKind.free && env.scope.kind == .function && env.kindOf n == some .cell) then (n, NameKind.cell) else (n, k)).lookup x = some .cell ∨
    (names.map fun (n, k) => if (k == NameKind.free && env.scope.kind == .function && env.kindOf n == some .cell) then (n, NameKind.cell) else (n, k)).lookup x = some .free
  | [], _, h => by simp at h
  | (n, k) :: r, x, h => by
    have ih := @lookup_relabel_free env r x
    rw [List.map_cons]
    cases hx : x == n with
    | true =>
      simp only [List.lookup_cons, hx] at h
      cases h
      by_cases hc : (NameKind.free == NameKind.free && env.scope.kind == .function && env.kindOf n == some .cell) = true
      · left; simp only [hc, if_true, List.lookup_cons, hx]
      · right; simp only [Bool.not_eq_true] at hc; simp only [hc, Bool.false_eq_true, if_false, List.lookup_cons, hx]
    | false =>
      simp only [List.lookup_cons, hx] at h
      by_cases hc : (k == NameKind.free && env.scope.kind == .function && env.kindOf n == some .cell) = true
      · simp only [hc, if_true, List.lookup_cons, hx]; exact ih h
      · simp only [Bool.not_eq_true] at hc; simp only [hc, Bool.false_eq_true, if_false, List.lookup_cons, hx]; exact ih h
section
variable {X : Cx}
structure Gone (X : Cx) (pins : List (Addr × Obj)) (H : Hp) (C : Addr) : Prop where
  n : H C = none
  l : C ≠ X.env.locals
  y : X.s₀.heap.objs.size ≤ C
  c : ∀ x c, X.env.cells.lookup x = some c → c ≠ C
  p : ∀ p ∈ X.pn ++ pins, p.1 ≠ C
theorem Gone.inv {pins : List (Addr × Obj)} {σ : L2.St} {H : Hp} {s : Shared} {C : Addr} {h' : Heap} (G : Gone X pins H C) (I : Inv X pins σ H s) (hs : Heap.SameBut C s.heap h') : Inv X pins σ H { s with heap := h' } :=
  I.turned (t' := s.toks) (fun b o hb e => (hs.2 b hb).trans e) G.n G.l (.inr G.y) G.c G.p
theorem comp_run {elt iter tg : Expr} {ifs : List Expr} {scope : Scope} {pos ppos : Pos} {wi : TI} {g : TG} {tt : TT} {te : TE} {use : Option (Value → Sem Unit)} {Q' : Value → Shared → Prop} {pins : List (Addr × Obj)} {s : Shared} {σ : L2.St} {H : Hp} {Q : VK} (N : List Str) (ix : List (Option Nat)) (hc : X.calm = true) (hkind : scope.kind = .function) (hcell : ∀ y ∈ scope.names, y.2 ≠ .cell)
    (hnames : ∀ y ∈ scope.names, y.2 = .local → scope.names.lookup y.1 = some .local) (hfree : ∀ y ∈ scope.names, y.2 = .free → X.env.kindOf y.1 = some .cell ∨ X.env.kindOf y.1 = some .free)
    (hlen : ix.length = N.length) (hcap : ∀ (i j : Nat) (x : Str), ix[i]? = some (some j) → N[i]? = some x → X.N[j]? = some x ∧ scope.names.lookup x = some .free) (hi : PI X tg iter wi)
    (hb : ∀ cl C s H fp, PG (blk X N scope cl C s H fp) tg g ∧ PTs (blk X N scope cl C s H fp) ifs tt ∧ PE (blk X N scope cl C s H fp) elt te)
    (hs : ∀ x, foldedSetIterable iter X.env x = pure x) (I : Inv X pins σ H s) (h : tComp wi ix g tt te σ H Q)
    (hend : ∀ (D C : Addr) (H' : Hp) (s4 : Shared) (mC : Str → Option Value), Inv X pins σ H' s4 → s4.heap.Ns C mC → Gone X pins H' C → Q (.ref D) H' → compPost (model X.prog X.w) X.A X.xe use Q' (.ref D) C (.ok .next) s4) :
    wpAny (model X.prog X.w) X.A (comprehension (.ListComp elt [⟨tg, iter, ifs, 0⟩] scope pos) scope X.env ppos (newList []) false (eval iter X.env) use) Q' X.xe s := by
  obtain ⟨cl, hclos, hcl1, hcl2⟩ := closure_of (env := X.env) (scope := scope) fun y hy e => I.ok.has _ (hfree y hy e)
  refine wpAny_comprehension_free rfl hs hclos hkind hnames (thn (hi pins s σ H _ I h) fun v s1 h1 => thn h1 fun itv s2 h2 => ?_)
  obtain ⟨it, fp, tn, J, H2, e, I2, T, st2, f2, W, ⟨m0, w0⟩, turn⟩ := h2
  subst e
  refine wpAny_newObj_type (wpAny_newFunctionEnv hcell (by intro y hy; simp at hy) (fun h₁ hns₁ hsb₁ => ?_) hkind)
  dsimp only at hns₁ hsb₁ ⊢
  generalize hH2 : s2.heap.push { cls := .type "list", dict := none, data := .seq ([] : List Value).toArray } = HH at hns₁ hsb₁ ⊢
  have hC : HH.objs.size = s2.heap.objs.size + 1 := by rw [← hH2, Heap.size_push]
  have hDC : s2.heap.objs.size ≠ HH.objs.size := by rw [hC]; exact Nat.ne_of_lt (Nat.lt_succ_self _)
  have hCle : s2.heap.objs.size ≤ HH.objs.size := by rw [hC]; exact Nat.le_succ _
  have below : ∀ b, b < s2.heap.objs.size → b ≠ HH.objs.size ∧ b ≠ s2.heap.objs.size := fun b hb => ⟨by rw [hC]; exact Nat.ne_of_lt (Nat.lt_succ_of_lt hb), Nat.ne_of_lt hb⟩
  have hfp : ∀ b ∈ fp, b < s2.heap.objs.size := fun b hm => by
    obtain ⟨o, e, _⟩ := T.obj _ _ st2 b hm
    exact Heap.lt_size e
  have old : ∀ b o, s2.heap.get? b = some o → h₁.get? b = some o := fun b o e => hsb₁.extBut b o (below b (Heap.lt_size e)).1 (Heap.get?_push_of_some _ (hH2 ▸ Heap.get?_push_of_some _ e))
  have hacc : h₁.get? s2.heap.objs.size = some { cls := .type "list", data := .seq ([] : List Value).toArray } := hsb₁.extBut _ _ hDC (Heap.get?_push_of_some _ (hH2 ▸ Heap.get?_push_size _ rfl))
  generalize hD : s2.heap.objs.size = D at hDC hCle hacc ⊢
  generalize hCC : HH.objs.size = C at hns₁ hsb₁ hDC hCle ⊢
  have hDle : s2.heap.objs.size ≤ D := by rw [hD]; exact Nat.le_refl _
  have hCle' : s2.heap.objs.size ≤ C := by rw [hD]; exact hCle
  obtain ⟨bg, bt, be⟩ := hb cl C s2 H2 fp
  have ok := blk_ok (N := N) I2 hkind hcell hcl1 hcl2 hCle' f2 hfp
  have notY : ∀ b, s2.heap.objs.size ≤ b → b ∉ frs X.stack := fun b hle hm => by
    rcases List.mem_cons.mp (I2.stkSub b hm) with z | z
    · exact absurd (Nat.lt_of_lt_of_le I2.lt (z ▸ hle)) (Nat.lt_irrefl _)
    · exact I2.nofs hle z
  -- the block's invariant at its entry
  have I4 : Inv (blk X N scope cl C s2 H2 fp) [(D, { cls := .type "list", data := .seq ([] : List Value).toArray })] (pick ix σ) H2 { s2 with heap := h₁, toks := s2.toks + ([] : List (Str × Value)).length } := by
    refine ⟨ok, rfl, I2.bare, Un.kept old, ⟨_, hns₁, fun i x v e1 e2 e3 => ?_⟩, fun x c e => ?_, I2.hok.fresh hCle', fun x c e => I2.freeC x c (hcl1 x c e), fun p hp => ?_, I2.hok.kept old, ?_⟩
    · have q : ∃ j, ix[i]? = some (some j) ∧ σ[j]? = some (some v) := by
        unfold pick at e2
        rw [List.getElem?_map] at e2
        cases z : ix[i]? with
        | none => rw [z] at e2; cases e2
        | some o =>
          rw [z] at e2
          cases o with
          | none => cases e2
          | some j =>
            refine ⟨j, rfl, ?_⟩
            have e2' : (σ[j]?).getD none = some v := Option.some.inj e2
            cases z2 : σ[j]? with
            | none => rw [z2] at e2'; cases e2'
            | some w' => rw [z2] at e2'; exact congrArg some e2'
      obtain ⟨j, q1, q2⟩ := q
      obtain ⟨n1, n2⟩ := hcap i j x q1 e1
      obtain ⟨m, hn, hl⟩ := I2.loc
      have hmem := lookup_mem n2
      have hkx := hfree _ hmem rfl
      have hvis : Vis X.env.scope x := by
        rcases hkx with z | z
        · exact .inr (.inl z)
        · exact .inr (.inr z)
      obtain ⟨u, ru, lk⟩ := hl j x v n1 q2 hvis
      refine ⟨u, ru, .inr ⟨lookup_relabel_free n2, ?_⟩⟩
      obtain ⟨c, hcc⟩ := hcl2 x hmem
      rcases lk with ⟨k, _⟩ | ⟨_, c', e', z⟩
      · rcases hkx with z | z <;> · rw [k] at z; cases z
      · rw [hcl1 x c hcc] at e'
        cases e'
        obtain ⟨o, ho, hd⟩ := z
        exact ⟨c, hcc, o, old _ _ ho, hd⟩
    · obtain ⟨v, o, ho, hd⟩ := I2.cell x c (hcl1 x c e)
      exact ⟨v, o, old _ _ ho, hd⟩
    · have e : p = (D, { cls := .type "list", data := .seq ([] : List Value).toArray }) := by simpa using hp
      subst e
      exact ⟨hacc, I2.hok.fresh hDle, hDC, notY D hDle, fun v z => by cases z⟩
    · unfold pick
      rw [List.length_map]
      exact hlen
  have stat : ∀ {pl : List (Addr × Obj)} {H' : Hp}, (∀ p ∈ pl, p.1 ∉ fp) → (∀ b ∈ fp, H' b = none) → ∀ b ∈ fp, FpOk (blk X N scope cl C s2 H2 fp) pl H' b := fun {pl H'} hpl hn b hm =>
    ⟨hn b hm, (ok.exf b hm).1, ok.exfs b hm, .inl hm, (ok.exf b hm).2, fun p hp e => hpl p (by simpa using hp) (e ▸ hm)⟩
  have nfp : D ∉ fp := fun hm => absurd (Nat.lt_of_lt_of_le (hfp D hm) hDle) (Nat.lt_irrefl _)
  have nfpP : ∀ (o : Obj), ∀ p ∈ [(D, o)], p.1 ∉ fp := fun o p hp => by
    have e : p = (D, o) := by simpa using hp
    subst e
    exact nfp
  have loop : ∀ s3 : Shared, s3 = { s2 with heap := h₁, toks := s2.toks + ([] : List (Str × Value)).length } →
      codeAny (model X.prog X.w) X.A (.compLoop (.ListComp elt [⟨tg, iter, ifs, 0⟩] scope pos) 0 (.ref it) (.ref D) (compEnvC scope cl C X.env)) (compPost (model X.prog X.w) X.A X.xe use Q' (.ref D) C) s3 := by
    rintro s3 rfl
    refine codeAny_compLoopT (fun n s' => ∃ i σ' H' acc its nn, Inv (blk X N scope cl C s2 H2 fp) [(D, { cls := .type "list", data := .seq its nn })] σ' H' s' ∧ Vals acc its.toList ∧ tn i s'.heap ∧ (∀ b ∈ fp, H' b = none) ∧ acc.length ≤ sizeLine ∧ W i n acc σ' H') ?_ m0
      ⟨0, pick ix σ, H2, [], #[], 0, I4, .nil, T.keep _ _ _ st2 fun b _ o e => old b o e, fun b hm => (f2 b hm).1, Nat.zero_le _, w0⟩
    rintro n s3 ⟨i, σ3, H3, acc, its, nn, I3, rv, st3, fr3, hz, w3⟩
    rcases turn i n acc σ3 H3 w3 with ⟨stop, qn⟩ | ⟨go, hlt, NN, hN, step⟩
    · refine thn (T.done (blk X N scope cl C s2 H2 fp) rfl rfl rfl hc i _ s3 σ3 H3 (fun _ _ => False) I3 (stat (nfpP _) fr3) st3 stop) fun r s4 ⟨hr, I5⟩ => ?_
      subst hr
      obtain ⟨eD, nD, _⟩ := I5.pin (D, { cls := .type "list", data := .seq its nn }) (by simp)
      obtain ⟨mC, hnC, _⟩ := I5.loc
      -- back in the def's own frame
      have hne : ∀ b u, H3 b = some u → b ≠ D := fun b u q z => by rw [z, nD] at q; cases q
      have un : Un (frs X.stack) fp H2 (upd H3 D (.lst acc)) s2.heap s4.heap := by
        have b := I5.base
        have neD : ∀ b o, s2.heap.get? b = some o → b ≠ D := fun b o e => Nat.ne_of_lt (Nat.lt_of_lt_of_le (Heap.lt_size e) hDle)
        refine ⟨b.keep, b.slot, fun b' o q n' hx => ?_, b.there, fun b' xs q => ?_, fun b' o u q => ?_, fun b' ps q => ?_⟩
        · rw [upd_ne (neD b' o q)]
          exact b.free b' o q n' hx
        · have q' := b.tups b' xs q
          rw [upd_ne (hne _ _ q')]
          exact q'
        · have q' := b.frzs b' o u q
          rw [upd_ne (hne _ _ q')]
          exact q'
        · obtain ⟨more, q'⟩ := b.tbls b' ps q
          exact ⟨more, by rw [upd_ne (hne _ _ q')]; exact q'⟩
      have hokD : HOk X.prog X.w (upd H3 D (.lst acc)) s4.heap := fun b u e => by
        by_cases hbD : b = D
        · subst hbD
          rw [upd_same] at e
          cases e
          exact ⟨hz, its.toList, nn, rv, by simpa using eD⟩
        · rw [upd_ne hbD] at e
          refine (I5.hok b u e).stay (fun _ _ _ q => q) (fun c r => ?_) fun c xs r => ?_
          · rw [upd_ne (fun z => by rw [z, nD] at r; cases r)]; exact r
          · rw [upd_ne (fun z => by rw [z, nD] at r; cases r)]; exact r
      have IX : Inv X pins σ (upd H3 D (.lst acc)) s4 := I2.call' I5.os un hokD I5.bare fun b hm => ⟨(f2 b hm).2.2.2.1, (f2 b hm).2.1, (f2 b hm).2.2.2.2.1, (f2 b hm).2.2.2.2.2⟩
      refine hend D C _ s4 mC IX hnC ⟨?_, Nat.ne_of_gt (Nat.lt_of_lt_of_le I2.lt hCle'), Nat.le_trans I2.sz hCle', fun x c e z => ?_, fun p hp z => ?_⟩ (qn D nD)
      · rw [upd_ne (Ne.symm hDC)]
        exact I5.free
      · obtain ⟨v, o, ho, _⟩ := I2.cell x c e
        exact absurd (Nat.lt_of_lt_of_le (Heap.lt_size ho) (z ▸ hCle')) (Nat.lt_irrefl _)
      · exact absurd (Nat.lt_of_lt_of_le (Heap.lt_size (I2.pin p hp).1) (z ▸ hCle')) (Nat.lt_irrefl _)
    · refine thn (T.item (blk X N scope cl C s2 H2 fp) rfl rfl rfl hc i _ s3 σ3 H3 (fun _ _ => False) I3 (stat (nfpP _) fr3) st3 go) fun r s4 ⟨u, hr, h4⟩ => ?_
      subst hr
      refine thn h4 fun _ s5 ⟨x, H5, I5, r5, y5, st5, fr5⟩ => ?_
      have I5' := I5.pinned (stat (nfpP _) fr5) (T.obj _ _ st5)
      refine thn (bg _ s5 σ3 H5 x u _ I5' r5 (step x H5 y5)) fun _ s6 ⟨σ6, H6, I6, q6⟩ => ?_
      refine thn (bt _ s6 σ6 H6 _ I6 q6) fun b s7 ⟨H7, I7, q7⟩ => ?_
      have after : ∀ {o : Obj} {σ8 : L2.St} {H8 : Hp} {s8 : Shared}, Inv (blk X N scope cl C s2 H2 fp) ([(D, o)] ++ pinsAt fp s5.heap) σ8 H8 s8 → tn (i + 1) s8.heap ∧ ∀ b ∈ fp, H8 b = none := fun {o σ8 H8 s8} I8 => by
        refine ⟨T.keep _ _ _ st5 fun b hb o e => (I8.pin (b, o) (List.mem_append_right _ (List.mem_append_right _ (mem_pinsAt hb e)))).1, fun b hb => ?_⟩
        obtain ⟨o, e, d⟩ := T.obj _ _ st5 b hb
        exact (I8.pin (b, o) (List.mem_append_right _ (List.mem_append_right _ (mem_pinsAt hb e)))).2.1
      cases b with
      | false =>
        simp only [Bool.false_eq_true, if_false] at q7 ⊢
        obtain ⟨m', hm, w7⟩ := hN acc σ6 H7 q7
        exact ⟨m', hm, i + 1, σ6, H7, acc, its, nn, I7.unpinned, rv, (after I7).1, (after I7).2, hz, w7⟩
      | true =>
        simp only [if_true] at q7 ⊢
        refine thn (be _ s7 σ6 H7 _ I7 q7) fun yv s8 ⟨y, H8, I8, r8, q8⟩ => ?_
        obtain ⟨eD, nD, _⟩ := I8.pin (D, { cls := .type "list", data := .seq its nn }) (by simp)
        have hl : acc.length = its.size := by have := rv.length; simpa using this
        refine wpAny_list_append_plain (hsz := by omega) ⟨nn, eD⟩ fun h9 ⟨n9, e9⟩ hs9 => ?_
        obtain ⟨m', hm, w9⟩ := hN _ _ _ q8
        have J1 : Inv (blk X N scope cl C s2 H2 fp) (pinsAt fp s5.heap) σ6 H8 s8 := I8.pins_of fun p hp => I8.pin p (List.mem_append_right _ (List.mem_append_right _ hp))
        have nc : ∀ x c, cl.lookup x = some c → c ≠ D := fun x c e z => by
          obtain ⟨v, o, ho, _⟩ := I2.cell x c (hcl1 x c e)
          exact absurd (Nat.lt_of_lt_of_le (Heap.lt_size ho) (z ▸ hDle)) (Nat.lt_irrefl _)
        have J2 : Inv (blk X N scope cl C s2 H2 fp) (pinsAt fp s5.heap) σ6 H8 { s8 with heap := h9 } := J1.turned (t' := s8.toks) (fun b o hb e => hs9.extBut b o hb e) nD hDC (.inr hDle) nc fun p hp z => by
          have hp' : p ∈ pinsAt fp s5.heap := by simpa using hp
          exact nfp (z ▸ (of_pinsAt hp').1)
        have J3 : Inv (blk X N scope cl C s2 H2 fp) ([(D, { cls := .type "list", data := .seq (its.push yv) n9 })] ++ pinsAt fp s5.heap) σ6 H8 { s8 with heap := h9 } := J2.pins_of fun p hp => by
          rcases List.mem_append.mp hp with hp | hp
          · have e : p = (D, { cls := .type "list", data := .seq (its.push yv) n9 }) := by simpa using hp
            subst e
            exact ⟨e9, nD, hDC, notY D hDle, fun v z => by cases z⟩
          · exact J2.pin p (List.mem_append_right _ hp)
        refine ⟨m', hm, i + 1, σ6, H8, acc ++ [y], its.push yv, n9, J3.unpinned, ?_, (after J3).1, (after J3).2, by rw [List.length_append, List.length_singleton]; omega, w9⟩
        rw [Array.toList_push]
        exact rv.append (.cons r8 .nil)
  exact codeAny_compStart_list (loop _ rfl) (T.self _ 0 _ _ _ (T.keep _ _ _ st2 fun b _ o e => old b o e) (loop _ rfl))
theorem pe_comp {elt iter tg : Expr} {ifs : List Expr} {scope : Scope} {pos : Pos} {wi : TI} {g : TG} {tt : TT} {te : TE} (N : List Str) (ix : List (Option Nat)) (hc : X.calm = true) (hkind : scope.kind = .function) (hcell : ∀ y ∈ scope.names, y.2 ≠ .cell)
    (hnames : ∀ y ∈ scope.names, y.2 = .local → scope.names.lookup y.1 = some .local) (hfree : ∀ y ∈ scope.names, y.2 = .free → X.env.kindOf y.1 = some .cell ∨ X.env.kindOf y.1 = some .free)
    (hlen : ix.length = N.length) (hcap : ∀ (i j : Nat) (x : Str), ix[i]? = some (some j) → N[i]? = some x → X.N[j]? = some x ∧ scope.names.lookup x = some .free) (hi : PI X tg iter wi)
    (hb : ∀ cl C s H fp, PG (blk X N scope cl C s H fp) tg g ∧ PTs (blk X N scope cl C s H fp) ifs tt ∧ PE (blk X N scope cl C s H fp) elt te)
    (hs : ∀ x, foldedSetIterable iter X.env x = pure x := by intro _; rfl) : PE X (.ListComp elt [⟨tg, iter, ifs, 0⟩] scope pos) (tComp wi ix g tt te) := by
  intro pins s σ H Q I h
  rw [eval_ListComp]
  exact comp_run (use := none) N ix hc hkind hcell hnames hfree hlen hcap hi hb hs I h fun D C H' s4 mC I4 hn G q => ⟨mC, hn, fun h' hs' => ⟨.ref D, H', G.inv I4 hs', rfl, q⟩⟩
theorem ps_comp {i : Nat} {y : Str} {elt iter tg : Expr} {ifs : List Expr} {scope : Scope} {pos py spos : Pos} {wi : TI} {g : TG} {tt : TT} {te : TE} (N : List Str) (ix : List (Option Nat)) (hc : X.calm = true) (hkind : scope.kind = .function) (hcell : ∀ y ∈ scope.names, y.2 ≠ .cell)
    (hnames : ∀ y ∈ scope.names, y.2 = .local → scope.names.lookup y.1 = some .local) (hfree : ∀ y ∈ scope.names, y.2 = .free → X.env.kindOf y.1 = some .cell ∨ X.env.kindOf y.1 = some .free)
    (hlen : ix.length = N.length) (hcap : ∀ (i j : Nat) (x : Str), ix[i]? = some (some j) → N[i]? = some x → X.N[j]? = some x ∧ scope.names.lookup x = some .free) (hN : X.N.Nodup) (hin : X.N[i]? = some y) (hy : X.env.scope.names.lookup y = some .local) (hi : PI X tg iter wi)
    (hb : ∀ cl C s H fp, PG (blk X N scope cl C s H fp) tg g ∧ PTs (blk X N scope cl C s H fp) ifs tt ∧ PE (blk X N scope cl C s H fp) elt te)
    (hsw : swapsWith (.ListComp elt [⟨tg, iter, ifs, 0⟩] scope pos) (some (.Name y py)) spos.line X.env = pure true := by rfl)
    (hs : ∀ x, foldedSetIterable iter X.env x = pure x := by intro _; rfl) : PS X (.Assign [.Name y py] (.ListComp elt [⟨tg, iter, ifs, 0⟩] scope pos) spos) (tAsg (tComp wi ix g tt te) (gName i)) := by
  intro pins s σ H D I h
  rw [exec_Assign_Name_used _ _ _ _ hsw]
  refine wpAny_bind (wpAny_standAt (wpAny_bind ?_))
  show wpAny _ X.A (do let _ ← comprehension (.ListComp elt [⟨tg, iter, ifs, 0⟩] scope pos) scope X.env _ (newList []) false (eval iter X.env) (some (assign (.Name y py) X.env))) _ _ s
  refine wpAny_bind (thn (comp_run (use := some (assign (.Name y py) X.env)) (Q' := fun _ s' => SP X pins D .next s') (Q := fun v H' => D.nx (σ.set i (some v)) H') N ix hc hkind hcell hnames hfree hlen hcap hi hb hs I h fun Dd C H' s4 mC I4 hn G q => ?_) fun _ s' hq => wpAny_pure (wpAny_pure hq))
  show wpAny _ X.A (assign (.Name y py) X.env (.ref Dd)) _ _ _
  refine wpAny_assign_Name (store_ok2 (v := .ref Dd) I4 hN hin (.inl hy) rfl (fun s5 I5 ⟨a, sb, ha⟩ => ?_) (.inr hy))
  have hCa : C ≠ a := by
    rcases ha with z | z
    · rw [z]; exact G.l
    · exact fun e => G.c _ _ z e.symm
  exact ⟨mC, hn.sameBut sb hCa, fun h' hs' => ⟨_, H', G.inv I5 hs', q⟩⟩
end
theorem comp_list {K : PySem.W.Frag} {a : Addr} {xs : List V} {g : TG} {tt : TT} {te : TE} {σ : L2.St} {H : Hp} {Q : VK} (Pv : Nat → List V → L2.St → Hp → Prop) (hz : xs.length ≤ sizeLine) (h0 : Pv 0 [] σ H) (hl : ∀ i acc σ H, i ≤ xs.length → Pv i acc σ H → SqL K H a xs)
    (hs : ∀ i x acc σ H, xs[i]? = some x → Pv i acc σ H → g x σ H fun σ2 H2 => tt σ2 H2 fun b H3 => if b = true then te σ2 H3 fun y H4 => Pv (i + 1) (acc ++ [y]) σ2 H4 else Pv (i + 1) acc σ2 H3)
    (hacc : ∀ i acc σ H, Pv i acc σ H → acc.length ≤ i) (hd : ∀ acc σ H, Pv xs.length acc σ H → ∀ D, H D = none → Q (.ref D) (upd H D (.lst acc))) :
    ∃ W : Nat → Nat → List V → L2.St → Hp → Prop, (∃ m, W 0 m [] σ H) ∧ ∀ i m acc σ H, W i m acc σ H →
      ((Itl K a).stop i H ∧ ∀ D, H D = none → Q (.ref D) (upd H D (.lst acc))) ∨
      ((Itl K a).go i H ∧ acc.length < sizeLine ∧ ∃ N : List V → L2.St → Hp → Prop, (∀ acc' σ' H', N acc' σ' H' → ∃ m', m' < m ∧ W (i + 1) m' acc' σ' H') ∧
        ∀ x H', (Itl K a).yld i H x H' → g x σ H' fun σ2 H2 => tt σ2 H2 fun b H3 => if b = true then te σ2 H3 fun y H4 => N (acc ++ [y]) σ2 H4 else N acc σ2 H3) := by
  refine ⟨fun i m acc σ H => m = xs.length - i ∧ i ≤ xs.length ∧ Pv i acc σ H, ⟨xs.length, by simp, Nat.zero_le _, h0⟩, ?_⟩
  rintro i m acc σ H ⟨rfl, hi, p⟩
  have q := hl i acc σ H hi p
  have ha := hacc i acc σ H p
  by_cases hlt : i < xs.length
  · refine .inr ⟨⟨xs, xs[i], q, by simp [hlt]⟩, by omega, Pv (i + 1), fun acc' σ' H' p' => ⟨xs.length - (i + 1), by omega, rfl, hlt, p'⟩, fun x H' y => ?_⟩
    obtain ⟨e, y⟩ := y
    subst e
    exact hs i x acc σ _ (y xs q) p
  · have e : i = xs.length := by omega
    subst e
    exact .inl ⟨⟨xs, q, Nat.le_refl _⟩, hd acc σ H p⟩
theorem comp_range {lo : Int} {n : Nat} {g : TG} {tt : TT} {te : TE} {σ : L2.St} {H : Hp} {Q : VK} (Pv : Nat → List V → L2.St → Hp → Prop) (hz : n ≤ sizeLine) (h0 : Pv 0 [] σ H)
    (hs : ∀ i acc σ H, i < n → Pv i acc σ H → g (.int (lo + i)) σ H fun σ2 H2 => tt σ2 H2 fun b H3 => if b = true then te σ2 H3 fun y H4 => Pv (i + 1) (acc ++ [y]) σ2 H4 else Pv (i + 1) acc σ2 H3)
    (hacc : ∀ i acc σ H, Pv i acc σ H → acc.length ≤ i) (hd : ∀ acc σ H, Pv n acc σ H → ∀ D, H D = none → Q (.ref D) (upd H D (.lst acc))) :
    ∃ W : Nat → Nat → List V → L2.St → Hp → Prop, (∃ m, W 0 m [] σ H) ∧ ∀ i m acc σ H, W i m acc σ H →
      ((Itr lo n).stop i H ∧ ∀ D, H D = none → Q (.ref D) (upd H D (.lst acc))) ∨
      ((Itr lo n).go i H ∧ acc.length < sizeLine ∧ ∃ N : List V → L2.St → Hp → Prop, (∀ acc' σ' H', N acc' σ' H' → ∃ m', m' < m ∧ W (i + 1) m' acc' σ' H') ∧
        ∀ x H', (Itr lo n).yld i H x H' → g x σ H' fun σ2 H2 => tt σ2 H2 fun b H3 => if b = true then te σ2 H3 fun y H4 => N (acc ++ [y]) σ2 H4 else N acc σ2 H3) := by
  refine ⟨fun i m acc σ H => m = n - i ∧ i ≤ n ∧ Pv i acc σ H, ⟨n, by simp, Nat.zero_le _, h0⟩, ?_⟩
  rintro i m acc σ H ⟨rfl, hi, p⟩
  have ha := hacc i acc σ H p
  by_cases hlt : i < n
  · refine .inr ⟨hlt, by omega, Pv (i + 1), fun acc' σ' H' p' => ⟨n - (i + 1), by omega, rfl, hlt, p'⟩, fun x H' y => ?_⟩
    obtain ⟨e, y⟩ := y
    subst e y
    exact hs i acc σ _ hlt p
  · have e : i = n := by omega
    subst e
    exact .inl ⟨Nat.le_refl _, hd acc σ H p⟩
def capB (XN : List Str) (scope : Scope) : List Str → List (Option Nat) → Bool
  | _, [] => true
  | [], _ => true
  | _ :: r, none :: s => capB XN scope r s
  | x :: r, some j :: s => decide (XN[j]? = some x) && decide (scope.names.lookup x = some .free) && capB XN scope r s
theorem capB_ok {XN : List Str} {scope : Scope} : ∀ {N : List Str} {ix : List (Option Nat)}, capB XN scope N ix = true → ∀ (i j : Nat) (x : Str), ix[i]? = some (some j) → N[i]? = some x → XN[j]? = some x ∧ scope.names.lookup x = some .free
  | [], [], _, i, j, x, h1, _ => by simp at h1
  | _ :: _, [], _, i, j, x, h1, _ => by simp at h1
  | [], _ :: _, _, i, j, x, _, h2 => by simp at h2
  | y :: r, none :: s, h, i, j, x, h1, h2 => by
    cases i with
    | zero => simp at h1
    | succ i => exact capB_ok (N := r) (ix := s) h i j x (by simpa using h1) (by simpa using h2)
  | y :: r, some k :: s, h, i, j, x, h1, h2 => by
    have h' : (decide (XN[k]? = some y) && decide (scope.names.lookup y = some .free) && capB XN scope r s) = true := h
    rw [Bool.and_eq_true, Bool.and_eq_true, decide_eq_true_eq, decide_eq_true_eq] at h'
    cases i with
    | zero =>
      simp at h1 h2
      subst h1 h2
      exact h'.1
    | succ i => exact capB_ok h'.2 i j x (by simpa using h1) (by simpa using h2)
def compOk (XN : List Str) (sc scope : Scope) (N : List Str) (ix : List (Option Nat)) : Bool :=
  decide (scope.kind = .function) && decide (∀ y ∈ scope.names, y.2 ≠ .cell) && decide (∀ y ∈ scope.names, y.2 = .local → scope.names.lookup y.1 = some .local) &&
    decide (∀ y ∈ scope.names, y.2 = .free → sc.names.lookup y.1 = some .cell ∨ sc.names.lookup y.1 = some .free) && decide (ix.length = N.length) && capB XN scope N ix
section
variable {X : Cx}
theorem pe_compB {elt iter tg : Expr} {ifs : List Expr} {scope : Scope} {pos : Pos} {wi : TI} {g : TG} {tt : TT} {te : TE} (N : List Str) (ix : List (Option Nat)) (hc : X.calm = true) (hk : compOk X.N X.env.scope scope N ix = true) (hi : PI X tg iter wi)
    (hb : ∀ cl C s H fp, PG (blk X N scope cl C s H fp) tg g ∧ PTs (blk X N scope cl C s H fp) ifs tt ∧ PE (blk X N scope cl C s H fp) elt te)
    (hs : ∀ x, foldedSetIterable iter X.env x = pure x := by intro _; rfl) : PE X (.ListComp elt [⟨tg, iter, ifs, 0⟩] scope pos) (tComp wi ix g tt te) := by
  unfold compOk at hk
  simp only [Bool.and_eq_true, decide_eq_true_eq] at hk
  obtain ⟨⟨⟨⟨⟨h1, h2⟩, h3⟩, h4⟩, h5⟩, h6⟩ := hk
  exact pe_comp N ix hc h1 h2 h3 h4 h5 (capB_ok h6) hi hb hs
theorem ps_compB {i : Nat} {y : Str} {elt iter tg : Expr} {ifs : List Expr} {scope : Scope} {pos py spos : Pos} {wi : TI} {g : TG} {tt : TT} {te : TE} (N : List Str) (ix : List (Option Nat)) (hc : X.calm = true) (hk : compOk X.N X.env.scope scope N ix = true)
    (hN : X.N.Nodup) (hin : X.N[i]? = some y) (hy : X.env.scope.names.lookup y = some .local) (hi : PI X tg iter wi)
    (hb : ∀ cl C s H fp, PG (blk X N scope cl C s H fp) tg g ∧ PTs (blk X N scope cl C s H fp) ifs tt ∧ PE (blk X N scope cl C s H fp) elt te)
    (hsw : swapsWith (.ListComp elt [⟨tg, iter, ifs, 0⟩] scope pos) (some (.Name y py)) spos.line X.env = pure true := by rfl)
    (hs : ∀ x, foldedSetIterable iter X.env x = pure x := by intro _; rfl) : PS X (.Assign [.Name y py] (.ListComp elt [⟨tg, iter, ifs, 0⟩] scope pos) spos) (tAsg (tComp wi ix g tt te) (gName i)) := by
  unfold compOk at hk
  simp only [Bool.and_eq_true, decide_eq_true_eq] at hk
  obtain ⟨⟨⟨⟨⟨h1, h2⟩, h3⟩, h4⟩, h5⟩, h6⟩ := hk
  exact ps_comp N ix hc h1 h2 h3 h4 h5 (capB_ok h6) hN hin hy hi hb hsw hs
end
end Bw
set_option Elab.async false
set_option linter.all false
set_option maxRecDepth 100000
set_option maxHeartbeats 1000000
namespace Bw
open PySem PySem.Spec PyProof.Rows L2
section
variable {X : Cx}
theorem ep_str {pins : List (Addr × Obj)} {σ : L2.St} {H : Hp} {s : Shared} {Q : VK} {u : Str} {t : Tok} {k : Nat} (I : Inv X pins σ H s) (q : Q (.str u) H) : EP X pins σ Q (.str u t) { s with toks := k } := ⟨.str u, H, I.tok k, ⟨t, rfl⟩, q⟩
def rSlS : V → Option Int → Option Int → Hp → VK → Prop := fun x lo hi H Q => ∃ u, x = .str u ∧ u.length ≤ sizeLine ∧ Q (.str (Txt.slice u lo hi)) H
theorem sl_str : SlR X rSlS := by
  intro pins s σ H x v vl vu lo hi sl Q I rx hs pl pu h
  obtain ⟨u, rfl, hz, q⟩ := h
  obtain ⟨t, rfl⟩ := rx
  refine ⟨"str", _, PySem.F.slot_str_getitem.lookup, typeIs_str _ _ _, ?_⟩
  obtain ⟨os, hos, hcs, hds⟩ := hs
  cases pl with
  | none =>
    cases pu with
    | none => exact wpAny_getItem_str_slice (l := none) (u := none) (st := none) ⟨os, hos, hcs, hds⟩ rfl (post_val_or_str ⟨Nat.le_trans (Txt.slice_le u _ _) hz, fun t' k => ep_str I q⟩)
    | int j tj => exact wpAny_getItem_str_slice (l := none) (u := some (j, tj)) (st := none) ⟨os, hos, hcs, hds⟩ rfl (post_val_or_str ⟨Nat.le_trans (Txt.slice_le u _ _) hz, fun t' k => ep_str I q⟩)
  | int i ti =>
    cases pu with
    | none => exact wpAny_getItem_str_slice (l := some (i, ti)) (u := none) (st := none) ⟨os, hos, hcs, hds⟩ rfl (post_val_or_str ⟨Nat.le_trans (Txt.slice_le u _ _) hz, fun t' k => ep_str I q⟩)
    | int j tj => exact wpAny_getItem_str_slice (l := some (i, ti)) (u := some (j, tj)) (st := none) ⟨os, hos, hcs, hds⟩ rfl (post_val_or_str ⟨Nat.le_trans (Txt.slice_le u _ _) hz, fun t' k => ep_str I q⟩)
def rJoin : V → List V → Hp → VK → Prop := fun x xs H Q => ∃ u l ts, x = .str u ∧ xs = [.ref l] ∧ H l = some (.lst (ts.map V.str)) ∧ JoinOk u ts = true ∧ Q (.str (Txt.join u ts)) H
theorem vals_str : ∀ {ts : List Str} {us : List Value}, Vals (ts.map V.str) us → ∃ l : List (Str × Tok), us = strValues l ∧ l.map (·.1) = ts
  | [], _, r => by
    rw [List.map_nil] at r
    cases r
    exact ⟨[], rfl, rfl⟩
  | a :: ts, _, r => by
    rw [List.map_cons] at r
    cases r with
    | cons r1 r2 =>
      obtain ⟨t, rfl⟩ := r1
      obtain ⟨l, rfl, e⟩ := vals_str r2
      exact ⟨(a, t) :: l, rfl, by rw [List.map_cons, e]⟩
theorem mt_join : MtR X "str.join" rJoin := by
  intro pins s σ H x xs v us Q I rx rv h
  obtain ⟨u, l, ts, rfl, rfl, hl, hz, q⟩ := h
  obtain ⟨t, rfl⟩ := rx
  cases rv with
  | cons r1 r2 =>
    cases r2
    cases r1
    obtain ⟨_, its, n, r, e⟩ := I.hok l _ hl
    obtain ⟨ll, rfl, e2⟩ := vals_str r
    exact SC.join (D := l) (l := ll) ⟨_, e, rfl, n, rfl⟩ e2 hz fun t' k => ep_str I q
end
end Bw
set_option Elab.async false
set_option linter.all false
set_option maxRecDepth 100000
set_option maxHeartbeats 1000000
namespace Bw
open PySem PySem.Spec PyProof.Rows L2
section
variable {K : PySem.W.Frag} {ta te : TE} {tr : TA} {wi : TI} {ix : List (Option Nat)} {g : TG} {tt : TT} {σ : L2.St} {H : Hp} {Q : VK} {QB : Bool → Hp → Prop}
def CompL (K : PySem.W.Frag) (a : Addr) (g : TG) (tt : TT) (te : TE) (Q : VK) (σ : L2.St) (H : Hp) : Prop := ∃ W : Nat → Nat → List V → L2.St → Hp → Prop, (∃ m, W 0 m [] σ H) ∧ ∀ i m acc σ H, W i m acc σ H →
  ((Itl K a).stop i H ∧ ∀ D, H D = none → Q (.ref D) (L2.upd H D (.lst acc))) ∨
  ((Itl K a).go i H ∧ acc.length < sizeLine ∧ ∃ N : List V → L2.St → Hp → Prop, (∀ acc' σ' H', N acc' σ' H' → ∃ m', m' < m ∧ W (i + 1) m' acc' σ' H') ∧
    ∀ x H', (Itl K a).yld i H x H' → g x σ H' fun σ2 H2 => tt σ2 H2 fun b H3 => if b = true then te σ2 H3 fun y H4 => N (acc ++ [y]) σ2 H4 else N acc σ2 H3)
def CompR (lo : Int) (n : Nat) (g : TG) (tt : TT) (te : TE) (Q : VK) (σ : L2.St) (H : Hp) : Prop := ∃ W : Nat → Nat → List V → L2.St → Hp → Prop, (∃ m, W 0 m [] σ H) ∧ ∀ i m acc σ H, W i m acc σ H →
  ((Itr lo n).stop i H ∧ ∀ D, H D = none → Q (.ref D) (L2.upd H D (.lst acc))) ∨
  ((Itr lo n).go i H ∧ acc.length < sizeLine ∧ ∃ N : List V → L2.St → Hp → Prop, (∀ acc' σ' H', N acc' σ' H' → ∃ m', m' < m ∧ W (i + 1) m' acc' σ' H') ∧
    ∀ x H', (Itr lo n).yld i H x H' → g x σ H' fun σ2 H2 => tt σ2 H2 fun b H3 => if b = true then te σ2 H3 fun y H4 => N (acc ++ [y]) σ2 H4 else N acc σ2 H3)
theorem w_compL : tComp (iList K ta) ix g tt te σ H Q = ta σ H (fun x H1 => ∃ a, x = .ref a ∧ (∃ xs, SqL K H1 a xs) ∧ CompL K a g tt te Q (pick ix σ) H1) := rfl
theorem w_comp1 : tComp (iRng1 tr) ix g tt te σ H Q = tr σ H (fun vs H1 => ∃ j : Int, vs = [.int j] ∧ -(2 ^ 62) ≤ j ∧ j < 2 ^ 62 ∧ CompR 0 j.toNat g tt te Q (pick ix σ) H1) := rfl
theorem w_comp2 : tComp (iRng2 tr) ix g tt te σ H Q = tr σ H (fun vs H1 => ∃ i j : Int, vs = [.int i, .int j] ∧ (-(2 ^ 62) ≤ i ∧ i < 2 ^ 62 ∧ -(2 ^ 62) ≤ j ∧ j < 2 ^ 62) ∧ CompR i (j - i).toNat g tt te Q (pick ix σ) H1) := rfl
theorem w_yes : tYes σ H QB = QB true H := rfl
theorem w_pick0 : pick [] σ = [] := rfl
theorem w_pickN : pick (none :: ix) σ = none :: pick ix σ := rfl
theorem w_pickS {j : Nat} : pick (some j :: ix) σ = ((σ[j]?).getD none) :: pick ix σ := rfl
theorem w_bm {T : String} {r : V → List V → Hp → VK → Prop} : tBM K T r ta tr σ H Q = ta σ H (fun x H1 => tyV K T x H1 ∧ tr σ H1 (fun xs H2 => r x xs H2 Q)) := rfl
theorem w_bm0 {T : String} {r : V → List V → Hp → VK → Prop} : tBM0 K T r ta σ H Q = ta σ H (fun x H1 => tyV K T x H1 ∧ r x [] H1 Q) := rfl
theorem w_tyS {u : Str} : tyV K "str" (.str u) H = True := by simp [tyV]
theorem w_addS {u v : Str} : (∃ i j, V.str u = .str i ∧ V.str v = .str j ∧ i.length + j.length ≤ sizeLine ∧ Q (.str (i ++ j)) H) = (u.length + v.length ≤ sizeLine ∧ Q (.str (u ++ v)) H) := by simp
theorem w_slS {u : Str} {lo hi : Option Int} : rSlS (.str u) lo hi H Q = (u.length ≤ sizeLine ∧ Q (.str (Txt.slice u lo hi)) H) := by simp [rSlS]
theorem w_blkK {X : Cx} {N : List Str} {scope : Scope} {cl : List (Str × Addr)} {C : Addr} {s : Shared} {fp : List Addr} : (blk X N scope cl C s H fp).K = X.K := rfl
theorem CompL.by {a : Addr} {xs : List V} (Pv : Nat → List V → L2.St → Hp → Prop) (hz : xs.length ≤ sizeLine) (h0 : Pv 0 [] σ H) (hl : ∀ i acc σ H, i ≤ xs.length → Pv i acc σ H → SqL K H a xs)
    (hs : ∀ i x acc σ H, xs[i]? = some x → Pv i acc σ H → g x σ H fun σ2 H2 => tt σ2 H2 fun b H3 => if b = true then te σ2 H3 fun y H4 => Pv (i + 1) (acc ++ [y]) σ2 H4 else Pv (i + 1) acc σ2 H3)
    (hacc : ∀ i acc σ H, Pv i acc σ H → acc.length ≤ i) (hd : ∀ acc σ H, Pv xs.length acc σ H → ∀ D, H D = none → Q (.ref D) (L2.upd H D (.lst acc))) : CompL K a g tt te Q σ H := comp_list Pv hz h0 hl hs hacc hd
theorem CompR.by {lo : Int} {n : Nat} (Pv : Nat → List V → L2.St → Hp → Prop) (hz : n ≤ sizeLine) (h0 : Pv 0 [] σ H)
    (hs : ∀ i acc σ H, i < n → Pv i acc σ H → g (.int (lo + i)) σ H fun σ2 H2 => tt σ2 H2 fun b H3 => if b = true then te σ2 H3 fun y H4 => Pv (i + 1) (acc ++ [y]) σ2 H4 else Pv (i + 1) acc σ2 H3)
    (hacc : ∀ i acc σ H, Pv i acc σ H → acc.length ≤ i) (hd : ∀ acc σ H, Pv n acc σ H → ∀ D, H D = none → Q (.ref D) (L2.upd H D (.lst acc))) : CompR lo n g tt te Q σ H := comp_range Pv hz h0 hs hacc hd
theorem ixs {u : Str} {k : Int} {c : Nat} (hz : u.length ≤ sizeLine) (hv : atI u.cps.toList k = some c) (q : Q (.str ⟨#[c]⟩) H) : rIxS (.str u) (.int k) H Q := ⟨u, k, c, rfl, rfl, hz, hv, q⟩
end
theorem gl_of {X : Cx} {x : Str} (h : X.env.kindOf x = some .globalImplicit) : Gl X x := h
def tStrs (xs : List Str) : TA := fun _ H Q => Q (xs.map V.str) H
theorem w_strs {xs : List Str} {σ : L2.St} {H : Hp} {Q : List V → Hp → Prop} : tStrs xs σ H Q = Q (xs.map V.str) H := rfl
def Well3 (H : Hp) (w : Addr) : Prop := ∃ a b c : Int, H w = some (.lst [.int a, .int b, .int c])
theorem Well3.same {H H' : Hp} {w : Addr} (W : Well3 H w) (s : Same H H') : Well3 H' w := by
  obtain ⟨a, b, c, h⟩ := W
  exact ⟨a, b, c, s _ _ h⟩
theorem Well3.ne {H : Hp} {w p : Addr} (W : Well3 H w) (h : H p = none) : p ≠ w := by
  obtain ⟨a, b, c, e⟩ := W
  exact (ne_of_none e h).symm
def goodN (u : Str) : Prop := 1 ≤ u.length ∧ u.length ≤ 8 ∧ ∀ c ∈ u.cps.toList, 97 ≤ c ∧ c ≤ 122
instance (u : Str) : Decidable (goodN u) := by unfold goodN; infer_instance
def letters : Str := "abcdefghijklmnopqrstuvwxyz"
theorem letter_at {i : Int} (h0 : 0 ≤ i) (h1 : i < 26) : ∃ c, atI letters.cps.toList i = some c ∧ 97 ≤ c ∧ c ≤ 122 := by
  have h : ∀ k : Fin 26, ∃ c, c < 123 ∧ atI letters.cps.toList ((k.val : Nat) : Int) = some c ∧ 97 ≤ c ∧ c ≤ 122 := by
    intro k
    refine ⟨97 + k.val, ?_⟩
    revert k
    decide +kernel
  obtain ⟨c, _, e, q⟩ := h ⟨i.toNat, by omega⟩
  have e2 : ((i.toNat : Nat) : Int) = i := by omega
  rw [e2] at e
  exact ⟨c, e, q⟩
def w8 : Str := "bcdefghi"
def axz : Str := "axz"
theorem way_len {r : Int} (h0 : 0 ≤ r) (h1 : r < 8) : (Txt.slice w8 none (some (1 + r))).length = (r + 1).toNat := by
  have h : ∀ k : Fin 8, (Txt.slice w8 none (some (1 + ((k.val : Nat) : Int)))).length = k.val + 1 := by decide +kernel
  have q := h ⟨r.toNat, by omega⟩
  have e2 : ((r.toNat : Nat) : Int) = r := by omega
  rw [e2] at q
  rw [q]
  show r.toNat + 1 = (r + 1).toNat
  omega
theorem way_good {r a k : Int} (h0 : 0 ≤ r) (h1 : r < 8) (a0 : 0 ≤ a) (a1 : a < r + 1) (k0 : 0 ≤ k) (k1 : k < 3) : ∃ c, atI axz.cps.toList k = some c ∧
    goodN (Txt.slice (Txt.slice w8 none (some (1 + r))) none (some a) ++ ⟨#[c]⟩ ++ Txt.slice (Txt.slice w8 none (some (1 + r))) (some (a + 1)) none) := by
  have h : ∀ (r a : Fin 8) (k : Fin 3), a.val < r.val + 1 → ∃ c ∈ [97, 120, 122], atI axz.cps.toList ((k.val : Nat) : Int) = some c ∧
    goodN (Txt.slice (Txt.slice w8 none (some (1 + ((r.val : Nat) : Int)))) none (some ((a.val : Nat) : Int)) ++ ⟨#[c]⟩ ++ Txt.slice (Txt.slice w8 none (some (1 + ((r.val : Nat) : Int)))) (some (((a.val : Nat) : Int) + 1)) none) := by decide +kernel
  obtain ⟨c, _, q⟩ := h ⟨r.toNat, by omega⟩ ⟨a.toNat, by omega⟩ ⟨k.toNat, by omega⟩ (by show a.toNat < r.toNat + 1; omega)
  have e1 : ((r.toNat : Nat) : Int) = r := by omega
  have e2 : ((a.toNat : Nat) : Int) = a := by omega
  have e3 : ((k.toNat : Nat) : Int) = k := by omega
  rw [e1, e2, e3] at q
  exact ⟨c, q⟩
theorem slice_le8 (u : Str) (h : u.length ≤ 8) (l r : Option Int) : (Txt.slice u l r).length ≤ 8 := Nat.le_trans (Txt.slice_le u l r) h
theorem join_one : ∀ ts : List Str, (∀ t ∈ ts, ∃ c, t = ⟨#[c]⟩ ∧ 97 ≤ c ∧ c ≤ 122) → (Str.join Str.empty ts).length = ts.length ∧ ∀ c ∈ (Str.join Str.empty ts).cps.toList, 97 ≤ c ∧ c ≤ 122
  | [], _ => ⟨rfl, fun c hc => by cases hc⟩
  | [x], h => by
    obtain ⟨c, rfl, q⟩ := h x List.mem_cons_self
    refine ⟨rfl, fun c' hc => ?_⟩
    have e : c' = c := by simpa [Str.join] using hc
    subst e
    exact q
  | x :: y :: r, h => by
    obtain ⟨i1, i2⟩ := join_one (y :: r) fun t ht => h t (List.mem_cons_of_mem _ ht)
    obtain ⟨c, rfl, q⟩ := h x List.mem_cons_self
    show ((⟨#[c]⟩ : Str) ++ Str.empty ++ Str.join Str.empty (y :: r)).length = _ ∧ ∀ c' ∈ ((⟨#[c]⟩ : Str) ++ Str.empty ++ Str.join Str.empty (y :: r)).cps.toList, _
    refine ⟨?_, fun c' hc => ?_⟩
    · rw [Str.length_append, Str.length_append, i1]
      show 1 + 0 + (y :: r).length = (y :: r).length + 1
      omega
    · have hc' : c' ∈ ((#[c] ++ #[]) ++ (Str.join Str.empty (y :: r)).cps).toList := hc
      rw [Array.toList_append] at hc'
      rcases List.mem_append.mp hc' with z | z
      · have e : c' = c := by simpa using z
        subst e
        exact q
      · exact i2 c' z
theorem join_good {ts : List Str} (h : ∀ t ∈ ts, ∃ c, t = ⟨#[c]⟩ ∧ 97 ≤ c ∧ c ≤ 122) (h1 : 1 ≤ ts.length) (h8 : ts.length ≤ 8) : JoinOk Str.empty ts = true ∧ goodN (Txt.join Str.empty ts) := by
  obtain ⟨i1, i2⟩ := join_one ts h
  have hj : Txt.join Str.empty ts = Str.join Str.empty ts := StrLaws.glued_eq_join _ _
  refine ⟨?_, ?_⟩
  · unfold JoinOk Builtin.Str.tooLong
    rw [StrLaws.joinTotal]
    have hs : ∀ l : List Str, (∀ t ∈ l, ∃ c, t = ⟨#[c]⟩ ∧ 97 ≤ c ∧ c ≤ 122) → (l.map (·.length)).sum = l.length := by
      intro l
      induction l with
      | nil => intro _; rfl
      | cons x r ih =>
        intro hl
        obtain ⟨c, rfl, _⟩ := hl x List.mem_cons_self
        rw [List.map_cons, List.sum_cons, ih fun t ht => hl t (List.mem_cons_of_mem _ ht), List.length_cons]
        show 1 + r.length = r.length + 1
        omega
    rw [hs ts h]
    have e : Str.empty.length = 0 := rfl
    rw [e]
    have z : (1000 : Nat) < sizeLine := by decide
    rw [Bool.not_eq_true', decide_eq_false_iff_not]
    omega
  · rw [hj]
    exact ⟨by omega, by omega, i2⟩
end Bw
set_option Elab.async false
set_option linter.all false
set_option maxRecDepth 100000
set_option maxHeartbeats 1000000
namespace Bw
open PySem PySem.Spec PyProof.Rows L2
structure CalC (P : Program) (w : World) (K : PySem.W.Frag) (mg : Str → Option Value) (base : Heap) (x : Str) (C : Addr) (ps : List Str) (k : Nat) (sp : Sp) : Prop where
  ex : ∃ f fd, FnOk P w K mg base (CXF P w) k f fd ps sp ∧ Binds K fd ps [] ∧ Mk K C f ∧ mg x = some (.ref C)
structure CalM (P : Program) (w : World) (K : PySem.W.Frag) (mg : Str → Option Value) (base : Heap) (C : Addr) (m : Str) (ps : List Str) (k : Nat) (sp : Sp) : Prop where
  ex : ∃ f fd, FnOk P w K mg base (CXF P w) k f fd ps sp ∧ Binds K fd ps [] ∧ Meth K C m f ∧ Cls K C
section
variable {X : Cx} {x m : Str} {C : Addr} {ps : List Str} {k : Nat} {sp : Sp} {e o : Expr} {es : List Expr} {ta : TE} {t : TA} {p pos apos : Pos} {E : XK}
theorem pe_mak (c : CalC X.prog X.w X.K X.mg X.base x C ps k sp) (hx : Passes (CXF X.prog X.w) X E) (hr : Room (k + 1) X.A) (hg : Gl X x) (ha : PA X (e :: es) t)
    (hdb : (x == ("__debug__" : Str)) = false := by decide) (he : starEach (e :: es) X.env = (false, eval e X.env) :: starEach es X.env := by rfl) (hpl : (backTo pos (starEach es X.env)).any (·.1) = false := by rfl) :
    PE X (.Call (.Name x p) (e :: es) [] pos) (tMake C sp [] E t) := by
  obtain ⟨f, fd, F, b, M, hm⟩ := c.ex
  exact pe_make M F hr hg hm b .nil hx ha hdb he hpl
def tMethD (Mm : Addr → Sp → Prop) (m : Str) (E : XK) (ta : TE) (t : TA) : TE := fun σ H Q => ta σ H fun x H1 => ∃ a C dx fs sp, x = .ref a ∧ H1 a = some (.ins C dx fs) ∧ fs.lookup m = none ∧ Mm C sp ∧
  t σ H1 fun vs H2 => sp (x :: vs) H2 Q E
theorem w_methD {Mm : Addr → Sp → Prop} {σ : L2.St} {H : Hp} {Q : VK} : tMethD Mm m E ta t σ H Q = ta σ H (fun x H1 => ∃ a C dx fs sp, x = .ref a ∧ H1 a = some (.ins C dx fs) ∧ fs.lookup m = none ∧ Mm C sp ∧
  t σ H1 fun vs H2 => sp (x :: vs) H2 Q E) := rfl
theorem pe_methD {pl : Sem Bool} {Mm : Addr → Sp → Prop} (he : PE X o ta) (hM : ∀ C sp, Mm C sp → CalM X.prog X.w X.K X.mg X.base C m ps k sp) (hx : Passes (CXF X.prog X.w) X E) (hr : Room k X.A) (ha : PA X (e :: es) t)
    (hst : starEach (e :: es) X.env = (false, eval e X.env) :: starEach es X.env := by rfl) (hpl : (backTo pos (starEach es X.env)).any (·.1) = false := by rfl)
    (ht : eval (.Call (.Attribute o m apos) (e :: es) [] pos) X.env = (do
      let ov ← eval o X.env
      standAt apos.atName
      let (f, first) ← holding [ov] (getMethod ov m pl)
      callWith pos f first (backTo pos (starEach (e :: es) X.env)) (backToKw pos (keywordEach [] X.env))) := by rfl) :
    PE X (.Call (.Attribute o m apos) (e :: es) [] pos) (tMethD Mm m E ta t) := by
  intro pins s σ H Q I h
  refine PySem.W.methodCall_KW (pl := pl) (thn (he pins s σ H _ I h) fun u s1 ⟨x, H1, I1, rx, a, C, dx, fs, sp, ex, ea, l, hC, q⟩ => ?_) ht
  subst ex
  obtain rfl : u = Value.ref a := rx
  obtain ⟨f, fd, F, b, hm, c⟩ := (hM C sp hC).ex
  refine getmeth_ok I1 ea c hm l ?_
  refine PySem.W.callWith_K (first := [.ref a]) (h₀ := X.base) I.ok.mod.kin hm.kp (thn (ha pos pins s1 σ H1 _ I1 q) fun us s2 ⟨vs, H2, I2, r, q2⟩ => ⟨I2.kIn, ?_⟩) hst hpl
  refine run_fn (us := .ref a :: us) (vs := .ref a :: vs) F hr b .nil hx I2 (.cons rfl r) ?_
  rw [List.append_nil]
  exact q2
structure MkN (K : PySem.W.Frag) (C : Addr) : Prop where
  makes : PySem.W.makesIn K C = true
  init : PySem.W.findIn K (.ref C) "__init__" = some (some (.builtin "object.__init__"))
  kp : PySem.W.keepIn K (.ref C) = true
def tMakeN (C : Addr) : TE := fun _ H Q => ∀ x dx, H x = none → H dx = none → dx ≠ x → Q (.ref x) (L2.upd (L2.upd H dx (.own x)) x (.ins C dx []))
theorem w_makeN {σ : L2.St} {H : Hp} {Q : VK} : tMakeN C σ H Q = ∀ x dx, H x = none → H dx = none → dx ≠ x → Q (.ref x) (L2.upd (L2.upd H dx (.own x)) x (.ins C dx [])) := rfl
theorem pe_makN (M : MkN X.K C) (hg : Gl X x) (hm : X.mg x = some (.ref C)) (hdb : (x == ("__debug__" : Str)) = false := by decide) : PE X (.Call (.Name x p) [] [] pos) (tMakeN C) := by
  intro pins s σ H Q I h
  refine wpAny_Call_Name_kw (ld_glob I hg hm ?_ hdb)
  refine PySem.W.callWith_K0 I.kIn M.kp ?_
  have hq := h (s.heap.objs.size + 1) s.heap.objs.size (I.hok.fresh (Nat.le_succ _)) (I.hok.fresh (Nat.le_refl _)) (Nat.ne_of_lt (Nat.lt_succ_self _))
  have I2 := Inv.made (C := C) I
  have Y := PySem.W.makes_of (M := model X.prog X.w) I.kIn M.makes
  refine wpAny_call (make_map0 I.kIn M.makes M.init (fun self => PySem.W.Looks.of_pure (PySem.W.oi_bind self)) ?_)
  obtain ⟨hh, g, d, tt, os⟩ := s
  have t1 : PySem.W.Looks (model X.prog X.w) ((hh.push PySem.W.emptyDict).push (PySem.W.instObj C hh.objs.size)) (typeOf (.ref (hh.objs.size + 1))) (.ref C) := by
    obtain ⟨mA, O, _⟩ := ins_get (a := hh.objs.size + 1) (C := C) (dx := hh.objs.size) (fs := []) I2.hok upd_same
    obtain ⟨od, J, _⟩ := O.look
    exact J.type
  have t2 : PySem.W.Looks (model X.prog X.w) ((hh.push PySem.W.emptyDict).push (PySem.W.instObj C hh.objs.size)) (isInstance (.ref (hh.objs.size + 1)) (.type "object")) true :=
    t1.andThen (Y.top.keeps fun b o e => Heap.get?_push_of_some _ (Heap.get?_push_of_some _ e))
  refine codeAny_call_builtin PySem.W.oi_plain PySem.W.entry_oi (@PySem.W.check_slot (model X.prog X.w) _ _ _ "object.__init__" "object" "__init__" (.ref (hh.objs.size + 1)) [] [] _ PySem.W.oi_kind PySem.W.oi_split t2 (PySem.W.oi_args (.ref (hh.objs.size + 1))) ?_)
  rw [PySem.W.oi_run]
  exact wpAny_pure (And.intro rfl ⟨V.ref (hh.objs.size + 1), _, I2, rfl, hq⟩)
end
def rIsiV (K : PySem.W.Frag) : List V → Hp → VK → Prop := fun xs H Q => ∃ (x : V) (c : Addr) (t : Value) (b : Bool), xs = [x, .ref c] ∧ TyOf K H x t ∧ PySem.W.kitOne K t (.ref c) = some b ∧ Q (.bl b) H
theorem call_isiV {X : Cx} : CallR X (.builtin "isinstance") (rIsiV X.K) := by
  intro pins s σ H xs us Q I r h
  obtain ⟨x, c, t, b, rfl, ty, e, q⟩ := h
  obtain ⟨u, w', rfl, rx, rc⟩ := vals2 r
  cases (show w' = Value.ref c from rc)
  exact isinst_ok I rx ty e fun tk => ⟨.bl b, H, I.tok _, rfl, q⟩
section
variable {X : Cx}
end
section
variable {K : PySem.W.Frag} {C : Addr} {sp : Sp} {dvs : List V} {E : XK} {ta tv : TE} {t : TA} {f : Str} {σ : L2.St} {H : Hp} {Q : VK} {D : Ends} {n : Nat} {ts : TGs} {v : V} {QS : L2.St → Hp → Prop} {g : TG}
theorem w_make : tMake C sp dvs E t σ H Q = t σ H (fun vs H1 => ∀ x dx, H1 x = none → H1 dx = none → dx ≠ x →
  sp (.ref x :: (vs ++ dvs)) (L2.upd (L2.upd H1 dx (.own x)) x (.ins C dx [])) (fun v H2 => v = .non ∧ Q (.ref x) H2) E) := rfl
theorem w_fld : tFld K ta f σ H Q = ta σ H (fun x H1 => ∃ a C dx fs v, x = .ref a ∧ H1 a = some (.ins C dx fs) ∧ Cls K C ∧ NoAttr K C f ∧ fs.lookup f = some v ∧ Q v H1) := rfl
theorem w_gTup : gTup K n ts v σ H QS = ∃ a xs, v = .ref a ∧ SqT K H a xs ∧ xs.length = n ∧ ts xs σ H QS := rfl
theorem w_gCons {vs : List V} : gCons g ts vs σ H QS = ∃ v r, vs = v :: r ∧ g v σ H (fun σ' H' => ts r σ' H' QS) := rfl
theorem w_sFld : sFld K ta tv f D σ H = tv σ H (fun y H1 => ta σ H1 (fun x H2 => ∃ a C dx fs, x = .ref a ∧ H2 a = some (.ins C dx fs) ∧ Cls K C ∧ NoAttr K C f ∧ fs.length < 1000 ∧
  D.nx σ (L2.upd H2 a (.ins C dx (putF f y fs))))) := rfl
theorem w_gNil {vs : List V} : gNil vs σ H QS = (vs = [] ∧ QS σ H) := rfl
end
end Bw
namespace Bw
open PySem PySem.Spec PyProof.Rows L2
section
variable {X : Cx} {x : Str} {ps : List Str} {k : Nat} {sp : Sp} {p pos : Pos}
end
theorem FnOk.lift {P : Program} {w : World} {K : PySem.W.Frag} {mg : Str → Option Value} {base : Heap} {CX : CXT} {j k : Nat} {f : Addr} {fd : FuncData} {ps : List Str} {sp : Sp} (F : FnOk P w K mg base CX j f fd ps sp) (h : j ≤ k) : FnOk P w K mg base CX k f fd ps sp :=
  ⟨F.len, fun A outer s H args us vs Q E hr he hb hv hs => F.run A outer s H args us vs Q E (hr.mono h) he hb hv hs⟩
theorem made_same {H : Hp} {x dx : Addr} {o o' : HO} (hx : H x = none) (hd : H dx = none) : Same H (L2.upd (L2.upd H dx o) x o') := fun b u q => by
  rw [upd_ne (ne_of_none q hx), upd_ne (ne_of_none q hd)]
  exact q
structure ClsK (K : PySem.W.Frag) (C : Addr) : Prop where
  cl : Cls K C
  ha : PySem.W.findIn K (.ref C) "__class__" = some (some (.builtin "object.__class__"))
  hn : PySem.W.specialIn K (.builtin "object.__class__") "__get__" = some (some (.builtin "getset_descriptor.__get__"))
  ht : PySem.W.takesIn K (.builtin "object.__class__") = some true
  hm : PySem.W.mroIn K C (.type "object") = some true
theorem ClsK.ty {K : PySem.W.Frag} {C : Addr} (c : ClsK K C) {H : Hp} {a dx : Addr} {fs : List (Str × V)} (e : H a = some (.ins C dx fs)) : TyOf K H (.ref a) (.ref C) := .ins e c.cl c.ha c.hn c.ht c.hm
theorem isiV_at {X : Cx} {K : PySem.W.Frag} (hK : X.K = K) : CallR X (.builtin "isinstance") (rIsiV K) := by
  subst hK
  exact call_isiV
end Bw
set_option Elab.async false
set_option linter.all false
set_option maxRecDepth 100000
set_option maxHeartbeats 1000000
namespace Bw
open PySem PySem.Spec PyProof.Rows L2
def isStar : Expr → Bool
  | .Starred _ _ => true
  | _ => false
theorem star_plain : ∀ (e : Expr) (es : List Expr) (env : Env), isStar e = false → starEach (e :: es) env = (false, eval e env) :: starEach es env := by
  intro e es env h
  cases e <;> first | rfl | (cases h)
def noStar : List Expr → Bool
  | [] => true
  | e :: r => !isStar e && noStar r
theorem plain_any {pos : Pos} {env : Env} : ∀ {es : List Expr}, noStar es = true → (backTo pos (starEach es env)).any (·.1) = false
  | [], _ => rfl
  | e :: r, h => by
    have h' : (!isStar e) = true ∧ noStar r = true := by simpa [noStar] using h
    rw [star_plain e r env (by simpa using h'.1)]
    have ih := plain_any (pos := pos) (env := env) h'.2
    have e1 : backTo pos ((false, eval e env) :: starEach r env) = (false, eval e env) :: backTo pos (starEach r env) := rfl
    rw [e1, List.any_cons, ih]
    rfl
theorem pa_c {X : Cx} {e : Expr} {es : List Expr} {te : TE} {t : TA} (ha : PE X e te) (hr : PA X es t) (hs : isStar e = false := by rfl) : PA X (e :: es) (tCons te t) := pa_cons ha hr (star_plain e es X.env hs)
structure QA (X : Cx) (es : List Expr) (t : TA) : Prop where
  h : PA X es t
theorem qa_nil {X : Cx} : QA X [] tNil := ⟨pa_nil⟩
theorem qa_c {X : Cx} {e : Expr} {es : List Expr} {te : TE} {t : TA} (ha : PE X e te) (hr : QA X es t) (hs : isStar e = false := by rfl) : QA X (e :: es) (tCons te t) := ⟨pa_c ha hr.h hs⟩
theorem pa_of {X : Cx} {es : List Expr} {t : TA} (h : QA X es t) : PA X es t := h.h
end Bw
set_option Elab.async false
set_option linter.all false
set_option maxRecDepth 100000
set_option maxHeartbeats 1000000
namespace Bw
open PySem PySem.Spec PyProof.Rows L2
def wholeV : V → Bool
  | .int _ => true
  | _ => false
def fromV (x : V) (lo : Int) : Bool := match x with
  | .int i => decide (lo ≤ i)
  | _ => false
theorem okV.same {H H' : Hp} {x : V} (h : okV H x) (s : Same H H') : okV H' x := by
  cases x with
  | ref a =>
    rcases h with ⟨xs, e⟩ | ⟨xs, e⟩
    · exact .inl ⟨xs, s _ _ e⟩
    · exact .inr ⟨xs, s _ _ e⟩
  | non => trivial
  | bl _ => trivial
  | int _ => trivial
  | str _ => trivial
  | _ => exact h.elim
theorem okV.but3 {H H' : Hp} {x : V} {w : Addr} (h : okV H x) (W : Well3 H' w) (s : But w H H') : okV H' x := by
  cases x with
  | ref a =>
    by_cases ha : a = w
    · obtain ⟨b, c, d, q⟩ := W
      exact .inl ⟨_, by rw [ha]; exact q⟩
    · rcases h with ⟨xs, e⟩ | ⟨xs, e⟩
      · exact .inl ⟨xs, s _ _ ha e⟩
      · exact .inr ⟨xs, s _ _ ha e⟩
  | non => trivial
  | bl _ => trivial
  | int _ => trivial
  | str _ => trivial
  | _ => exact h.elim
theorem okV.lst {H : Hp} {p : Addr} {xs : List V} (h : H p = some (.lst xs)) : okV H (.ref p) := .inl ⟨_, h⟩
theorem okV.tup {H : Hp} {p : Addr} {xs : List V} (h : H p = some (.tup xs)) : okV H (.ref p) := .inr ⟨_, h⟩
def tCut (t u : TS) : TS := fun D σ H => ∃ M : L2.St → Hp → Prop, t { D with nx := M } σ H ∧ ∀ σ' H', M σ' H' → u D σ' H'
theorem w_cut {t u : TS} {D : Ends} {σ : L2.St} {H : Hp} : tCut t u D σ H = ∃ M : L2.St → Hp → Prop, t { D with nx := M } σ H ∧ ∀ σ' H', M σ' H' → u D σ' H' := rfl
end Bw
set_option Elab.async false
set_option linter.all false
set_option maxRecDepth 100000
set_option maxHeartbeats 1000000
namespace Bw
open PySem PySem.Spec PyProof.Rows L2
def plainS (u : Str) : Bool := u.cps.all (· < 128)
def Its (u : Str) : It := ⟨fun i _ => i < u.cps.size, fun i H x H' => H' = H ∧ ∃ c, u.cps[i]? = some c ∧ x = .str ⟨#[c]⟩, fun i _ => u.cps.size ≤ i⟩
theorem turn_str {P : Program} {w : World} {K : PySem.W.Frag} {tg : Expr} (u : Str) (t : Tok) (it : Addr) : Turn P w K tg (Its u) [it] it (fun i h => h.IsStrIter it "str_ascii_iterator" u t i) where
  mem := by simp
  obj := fun i h st b hb => by
    have e : b = it := by simpa using hb
    subst e
    obtain ⟨o, e, c, d⟩ := st
    exact ⟨o, e, fun v z => by rw [d] at z; cases z⟩
  keep := fun i h h' st k => by
    obtain ⟨o, e, c, d⟩ := st
    exact ⟨o, k it (by simp) o e, c, d⟩
  item := by
    intro X hP hw hK hc i pins s σ H E I hf st hg
    subst hP hw hK
    have hx : u.cps[i]? = some u.cps[i] := Array.getElem?_eq_getElem hg
    obtain ⟨f0, f1, f2, f3, f4, f5⟩ := hf it (by simp)
    refine wpAny_pyNext_ascii_item st hx fun h' st' sb => ?_
    have I1 : Inv X pins σ H { s with heap := h', toks := s.toks + 1 } := I.turned (t' := s.toks + 1) (fun b o hb e => (sb.2 b hb).trans e) f0 f1 f3 f4 f5
    obtain ⟨o, e, c, d⟩ := id st'
    exact ⟨_, rfl, go_of (s := { s with heap := h', toks := s.toks + 1 }) e c d (by decide) ⟨.str ⟨#[u.cps[i]]⟩, H, I1, ⟨_, rfl⟩, ⟨rfl, _, hx, rfl⟩, st', fun b hb => (hf b hb).1⟩⟩
  done := by
    intro X hP hw hK hc i pins s σ H E I hf st hg
    subst hP hw hK
    obtain ⟨f0, f1, f2, f3, f4, f5⟩ := hf it (by simp)
    exact wpAny_pyNext_ascii_end (I.ok.hd hc) st (Array.getElem?_eq_none hg) fun h' eb => ⟨rfl, I.turned (t' := s.toks) (fun b o hb e => eb b o hb e) f0 f1 f3 f4 f5⟩
  self := fun _ _ _ _ _ st h => wpAny_pyIter_striter_ascii st h
def iStr (tl : TE) : TI := fun σ H R => tl σ H fun x H1 => ∃ u, x = .str u ∧ plainS u = true ∧ R (Its u) H1
theorem pi_str {X : Cx} {tg l : Expr} {tl : TE} (hl : PE X l tl) : PI X tg l (iStr tl) := by
  intro pins s σ H R I h
  refine thn (hl pins s σ H _ I h) fun v s1 ⟨x, H1, I1, r1, q1⟩ => ?_
  obtain ⟨u, e, hp, q⟩ := q1
  subst e
  obtain ⟨t, rfl⟩ := r1
  refine wpAny_pyIter_ascii hp ?_
  refine ⟨s1.heap.objs.size, [s1.heap.objs.size], _, _, H1, rfl, I1.kept (t' := s1.toks) fun b o e => Heap.get?_push_of_some _ e, turn_str u t _, ⟨_, Heap.get?_push_size _ rfl, rfl, rfl⟩, fun b hb => ?_, q⟩
  have e : b = s1.heap.objs.size := by simpa using hb
  subst e
  exact I1.fpOk (Nat.le_refl _) (I1.hok.fresh (Nat.le_refl _))
section
variable {K : PySem.W.Frag} {ta te : TE} {ix : List (Option Nat)} {g : TG} {tt : TT} {σ : L2.St} {H : Hp} {Q : VK}
def CompS (u : Str) (g : TG) (tt : TT) (te : TE) (Q : VK) (σ : L2.St) (H : Hp) : Prop := ∃ W : Nat → Nat → List V → L2.St → Hp → Prop, (∃ m, W 0 m [] σ H) ∧ ∀ i m acc σ H, W i m acc σ H →
  ((Its u).stop i H ∧ ∀ D, H D = none → Q (.ref D) (L2.upd H D (.lst acc))) ∨
  ((Its u).go i H ∧ acc.length < sizeLine ∧ ∃ N : List V → L2.St → Hp → Prop, (∀ acc' σ' H', N acc' σ' H' → ∃ m', m' < m ∧ W (i + 1) m' acc' σ' H') ∧
    ∀ x H', (Its u).yld i H x H' → g x σ H' fun σ2 H2 => tt σ2 H2 fun b H3 => if b = true then te σ2 H3 fun y H4 => N (acc ++ [y]) σ2 H4 else N acc σ2 H3)
theorem w_compS : tComp (iStr ta) ix g tt te σ H Q = ta σ H (fun x H1 => ∃ u, x = .str u ∧ plainS u = true ∧ CompS u g tt te Q (pick ix σ) H1) := rfl
theorem CompS.by {u : Str} (Pv : Nat → List V → L2.St → Hp → Prop) (hz : u.cps.size ≤ sizeLine) (h0 : Pv 0 [] σ H)
    (hs : ∀ i c acc σ H, u.cps[i]? = some c → Pv i acc σ H → g (.str ⟨#[c]⟩) σ H fun σ2 H2 => tt σ2 H2 fun b H3 => if b = true then te σ2 H3 fun y H4 => Pv (i + 1) (acc ++ [y]) σ2 H4 else Pv (i + 1) acc σ2 H3)
    (hacc : ∀ i acc σ H, Pv i acc σ H → acc.length ≤ i) (hd : ∀ acc σ H, Pv u.cps.size acc σ H → ∀ D, H D = none → Q (.ref D) (L2.upd H D (.lst acc))) : CompS u g tt te Q σ H := by
  refine ⟨fun i m acc σ H => m = u.cps.size - i ∧ i ≤ u.cps.size ∧ Pv i acc σ H, ⟨u.cps.size, by simp, Nat.zero_le _, h0⟩, ?_⟩
  rintro i m acc σ H ⟨rfl, hi, p⟩
  have ha := hacc i acc σ H p
  by_cases hlt : i < u.cps.size
  · refine .inr ⟨hlt, by omega, Pv (i + 1), fun acc' σ' H' p' => ⟨u.cps.size - (i + 1), by omega, rfl, hlt, p'⟩, fun x H' y => ?_⟩
    obtain ⟨e, c, hc, y⟩ := y
    subst e y
    exact hs i c acc σ _ hc p
  · have e : i = u.cps.size := by omega
    subst e
    exact .inl ⟨Nat.le_refl _, hd acc σ H p⟩
end
theorem bools_at : ∀ {bs : List Bool} {its : List Value}, Vals (bs.map V.bl) its → ∀ (i : Nat) (v : Value), its[i]? = some v → ∃ b : Bool, bs[i]? = some b ∧ v = Value.bool b
  | [], _, r, i, v, h => by
    rw [List.map_nil] at r
    cases r
    simp at h
  | b :: bs, _, r, i, v, h => by
    rw [List.map_cons] at r
    cases r with
    | cons r1 r2 =>
      cases i with
      | zero =>
        simp at h
        subst h
        exact ⟨b, rfl, r1⟩
      | succ i => exact bools_at r2 i v (by simpa using h)
theorem call_all {X : Cx} (hc : X.calm = true) : CallR X (.builtin "all") (fun xs H Q => ∃ (a : Addr) (bs : List Bool), xs = [.ref a] ∧ SqL X.K H a (bs.map V.bl) ∧ Q (.bl (bs.all id)) H) := by
  intro pins s σ H xs us Q I r h
  obtain ⟨a, bs, rfl, hS, q⟩ := h
  obtain ⟨u, rfl, ru⟩ := vals1 r
  cases ru
  obtain ⟨its, rv, pl, hz⟩ := I.list hS
  have hl : s.heap.IsList a its.toArray := pl.isList
  have hlt : a < s.heap.objs.size := by obtain ⟨_, e, _⟩ := hl; exact Heap.lt_size e
  refine call_all_walk (wpAny_pyIter_list hl ?_)
  refine ⟨s.heap.objs.size, [s.heap.objs.size, a], [s.heap.objs.size], its.toArray.size, _, _, fun i => (bs[i]?).getD true, rfl, Walks.list (A := X.A.in1) (I.ok.hd hc) _ a (Nat.ne_of_lt hlt) its.toArray,
    ⟨⟨_, Heap.get?_push_size _ rfl, rfl, rfl⟩, hl.push _⟩, fun i v s' Q' E' hP hQ => ?_, fun h' tk hk => ?_⟩
  · obtain ⟨b, e, rfl⟩ := bools_at rv i v (by simpa using hP)
    simp only [e, Option.getD_some] at hQ
    exact wpAny_truthy_bool hQ
  · have hn : its.toArray.size = bs.length := by
      have := rv.length
      rw [List.length_map] at this
      simpa using this.symm
    have e : ((List.range its.toArray.size).all fun i => (bs[i]?).getD true) = bs.all id := by
      rw [hn, Bool.eq_iff_iff, List.all_eq_true, List.all_eq_true]
      constructor
      · intro z b hb
        obtain ⟨i, hi, rfl⟩ := List.getElem_of_mem hb
        have := z i (List.mem_range.mpr hi)
        simpa [List.getElem?_eq_getElem hi] using this
      · intro z i hi
        have hi' := List.mem_range.mp hi
        simp only [List.getElem?_eq_getElem hi', Option.getD_some]
        exact z _ (List.getElem_mem hi')
    rw [e]
    refine ⟨.bl _, H, I.kept (t' := tk) fun b o eb => hk b o (fun hm => by rw [List.mem_singleton.mp hm] at eb; exact Nat.lt_irrefl _ (Heap.lt_size eb)) (Heap.get?_push_of_some _ eb), rfl, q⟩
def okN (H : Hp) : V → Prop
  | .non => True
  | .bl _ => True
  | .int _ => True
  | .str u => plainS u = true ∧ u.length ≤ 1000
  | .ref a => (∃ xs, H a = some (.lst xs)) ∨ (∃ xs, H a = some (.tup xs)) ∨ ∃ kvs, H a = some (.dK kvs)
  | _ => False
def isStrV : V → Bool
  | .str _ => true
  | _ => false
theorem okN.ty {K : PySem.W.Frag} {H : Hp} {x : V} (h : okN H x) : ∃ T, TyOf K H x (.type T) ∧ PySem.W.kitOne K (.type T) (.type "str") = some (isStrV x) := by
  cases x with
  | non => exact ⟨_, .non, by kernel_rfl⟩
  | bl b => exact ⟨_, .bl b, by kernel_rfl⟩
  | int i => exact ⟨_, .int i, by kernel_rfl⟩
  | str i => exact ⟨_, .str i, by kernel_rfl⟩
  | ref a =>
    rcases h with ⟨xs, e⟩ | ⟨xs, e⟩ | ⟨xs, e⟩
    · exact ⟨_, .lst e, by kernel_rfl⟩
    · exact ⟨_, .tup e, by kernel_rfl⟩
    · exact ⟨_, .dK e, by kernel_rfl⟩
  | _ => exact h.elim
theorem call_isi_str {X : Cx} : CallR X (.builtin "isinstance") (fun xs H Q => ∃ x, xs = [x, .ty "str"] ∧ okN H x ∧ Q (.bl (isStrV x)) H) := by
  intro pins s σ H xs us Q I r h
  obtain ⟨x, rfl, ok, q⟩ := h
  obtain ⟨T, ty, e⟩ := ok.ty (K := X.K)
  exact isi_gen I r ty e q
theorem okN.same {H H' : Hp} {x : V} (h : okN H x) (s : Same H H') : okN H' x := by
  cases x with
  | ref a =>
    rcases h with ⟨xs, e⟩ | ⟨xs, e⟩ | ⟨xs, e⟩
    · exact .inl ⟨xs, s _ _ e⟩
    · exact .inr (.inl ⟨xs, s _ _ e⟩)
    · exact .inr (.inr ⟨xs, s _ _ e⟩)
  | non => trivial
  | bl _ => trivial
  | int _ => trivial
  | str _ => exact h
  | _ => exact h.elim
theorem okN.but {H H' : Hp} {x : V} {w : Addr} (h : okN H x) (W : Well3 H' w) (s : But w H H') : okN H' x := by
  cases x with
  | ref a =>
    by_cases ha : a = w
    · obtain ⟨b, c, d, q⟩ := W
      exact .inl ⟨_, by rw [ha]; exact q⟩
    · rcases h with ⟨xs, e⟩ | ⟨xs, e⟩ | ⟨xs, e⟩
      · exact .inl ⟨xs, s _ _ ha e⟩
      · exact .inr (.inl ⟨xs, s _ _ ha e⟩)
      · exact .inr (.inr ⟨xs, s _ _ ha e⟩)
  | non => trivial
  | bl _ => trivial
  | int _ => trivial
  | str _ => exact h
  | _ => exact h.elim
def nameB : V → Bool
  | .str u => decide (goodN u)
  | _ => false
theorem in_letters {c : Nat} (h : c < 128) : (!(Builtin.Str.occurrences letters ⟨#[c]⟩ 0 letters.length 1).isEmpty) = decide (97 ≤ c ∧ c ≤ 122) := by
  have q : ∀ k : Fin 128, (!(Builtin.Str.occurrences letters ⟨#[k.val]⟩ 0 letters.length 1).isEmpty) = decide (97 ≤ k.val ∧ k.val ≤ 122) := by decide +kernel
  exact q ⟨c, h⟩
def LetS (u : Str) : Prop := ∀ c ∈ u.cps.toList, 97 ≤ c ∧ c ≤ 122
def Sm (u : Str) : Prop := plainS u = true ∧ u.length ≤ 100
theorem plain_iff {u : Str} : plainS u = true ↔ ∀ c ∈ u.cps.toList, c < 128 := by
  unfold plainS
  rw [Array.all_eq_true']
  constructor
  · intro h c hc
    have := h c (by simpa using hc)
    simpa using this
  · intro h c hc
    have := h c (by simpa using hc)
    simpa using this
theorem LetS.plain {u : Str} (h : LetS u) : plainS u = true := plain_iff.mpr fun c hc => by have := h c hc; omega
theorem good_let {u : Str} (h : goodN u) : LetS u := h.2.2
theorem good_sm {u : Str} (h : goodN u) : Sm u := ⟨(good_let h).plain, by have := h.2.1; omega⟩
theorem app_toList (u v : Str) : (u ++ v).cps.toList = u.cps.toList ++ v.cps.toList := by
  show (u.cps ++ v.cps).toList = _
  rw [Array.toList_append]
def badC (u : Str) : Prop := ∃ c ∈ u.cps.toList, ¬ (97 ≤ c ∧ c ≤ 122)
instance (u : Str) : Decidable (badC u) := by unfold badC; infer_instance
theorem badC.no {u : Str} (h : badC u) : ¬ goodN u := fun g => by
  obtain ⟨c, hc, n⟩ := h
  exact n (g.2.2 c hc)
theorem badC.l {u : Str} (h : badC u) (v : Str) : badC (u ++ v) := by
  obtain ⟨c, hc, n⟩ := h
  exact ⟨c, by rw [app_toList]; exact List.mem_append.mpr (.inl hc), n⟩
theorem badC.r {v : Str} (h : badC v) (u : Str) : badC (u ++ v) := by
  obtain ⟨c, hc, n⟩ := h
  exact ⟨c, by rw [app_toList]; exact List.mem_append.mpr (.inr hc), n⟩
theorem name_all {u : Str} (h : plainS u = true) : (u.cps.toList.map fun c => !(Builtin.Str.occurrences letters ⟨#[c]⟩ 0 letters.length 1).isEmpty).all id = decide (∀ c ∈ u.cps.toList, 97 ≤ c ∧ c ≤ 122) := by
  rw [Bool.eq_iff_iff, List.all_eq_true, decide_eq_true_eq]
  constructor
  · intro z c hc
    have q := z _ (List.mem_map.mpr ⟨c, hc, rfl⟩)
    rw [in_letters (plain_iff.mp h c hc)] at q
    simpa using q
  · intro z b hb
    obtain ⟨c, hc, rfl⟩ := List.mem_map.mp hb
    rw [in_letters (plain_iff.mp h c hc)]
    simpa using z c hc
theorem good_str {u : Str} (g : goodN u) : PyData.strOk u = true := by
  unfold PyData.strOk
  rw [Array.all_eq_true']
  intro c hc
  have := g.2.2 c (by simpa using hc)
  simp only [decide_eq_true_eq]
  omega
section
variable {X : Cx} {x : Str} {C : Addr} {ps : List Str} {k : Nat} {sp : Sp} {e : Expr} {es : List Expr} {t : TA} {p pos : Pos}
variable {K : PySem.W.Frag} {σ : L2.St} {H : Hp} {Q : VK} {D : Ends} {CB : Addr} {i : Nat} {tb : XK → TS} {ts : TS} {E : XK} {dvs : List V}
theorem w_tryB : tTryB K CB i tb ts D σ H = tb (fun cls _ H2 => PySem.W.exmOne K cls (.ref CB) = some true ∧
  ∀ x, H2 x = none → ts { nx := fun σ' H3 => D.nx (σ'.set i none) H3, rt := D.rt, bk := fun σ' H3 => D.bk (σ'.set i none) H3, ct := fun σ' H3 => D.ct (σ'.set i none) H3 } (σ.set i (some (.ref x))) (L2.upd H2 x (hoExc x cls))) D σ H := rfl
theorem w_bmake : tBMake C sp dvs t E σ H Q = t σ H (fun vs H1 => ∀ x dx, H1 x = none → H1 dx = none → dx ≠ x →
  sp (.ref x :: (vs ++ dvs)) (L2.upd (L2.upd H1 dx (.own x)) x (.ins C dx [])) (fun v H2 => v = .non ∧ Q (.ref x) H2) E) := rfl
def tNoKeys : TE := fun _ H0 Q0 => ∀ d, H0 d = none → Q0 (.ref d) (L2.upd H0 d (.dK []))
theorem w_noKeys : tNoKeys σ H Q = ∀ d, H d = none → Q (.ref d) (L2.upd H d (.dK [])) := rfl
end
end Bw
set_option Elab.async false
set_option linter.all false
set_option maxRecDepth 100000
set_option maxHeartbeats 1000000
namespace Bw
open PySem PySem.Spec PyProof.Rows L2
structure QE (X : Cx) (e : Expr) (t : TE) : Prop where
  h : PE X e t
structure QS (X : Cx) (st : Stmt) (t : TS) : Prop where
  h : PS X st t
structure QSs (X : Cx) (sts : List Stmt) (t : TS) : Prop where
  h : PSs X sts t
section
variable {X : Cx} {e a b c : Expr} {es : List Expr} {st : Stmt} {rest sa sb : List Stmt} {te ta tb : TE} {tl : TA} {tc : TT} {t u : TS} {pos pos' : Pos} {x : Str} {i : Nat}
theorem qe_of (h : PE X e te) : QE X e te := ⟨h⟩
theorem qs_of (h : PS X st t) : QS X st t := ⟨h⟩
theorem pss_of (h : QSs X rest t) : PSs X rest t := h.h
theorem qe_lst (h : QA X es tl) : QE X (.List es pos) (tLst tl) := ⟨pe_lst h.h⟩
theorem qe_op {op : Operator} {r : R2} (ho : OpR X (binaryOp op) r) (ha : QE X a ta) (hb : QE X b tb) : QE X (.BinOp a op b pos) (tOp r ta tb) := ⟨pe_op ho ha.h hb.h⟩
theorem qe_ix {r : R2} (hr : IxR X r) (ha : QE X a ta) (hb : QE X b tb) (hs : PlainIx b) : QE X (.Subscript a b pos) (tOp r ta tb) := ⟨pe_ix hr ha.h hb.h hs⟩
theorem qs_ret (he : QE X e te) : QS X (.Return (some e) pos) (tRet te) := ⟨ps_ret he.h⟩
theorem qs_set (hN : X.N.Nodup) (hi : X.N[i]? = some x) (hx : Loc X.env.scope x) (he : QE X e te) (hs : swapsWith e (some (.Name x pos')) pos.line X.env = pure false) (hf : X.fn x = true ∨ X.env.scope.names.lookup x = some .local := by first | exact .inl rfl | exact .inr rfl | assumption) :
    QS X (.Assign [.Name x pos'] e pos) (tAsg te (gName i)) := ⟨ps_set hN hi hx he.h hs hf⟩
theorem qs_if (hc : PT X c tc) (ha : QSs X sa t) (hb : QSs X sb u) : QS X (.If c sa sb pos) (tIfS tc t u) := ⟨ps_if hc ha.h hb.h⟩
theorem qss_nil : QSs X [] tNext := ⟨pss_nil⟩
theorem qss_one (h : QS X st t) : QSs X [st] t := ⟨pss_one h.h⟩
theorem qss_cons (h1 : QS X st t) (h2 : QSs X rest u) : QSs X (st :: rest) (tSeq t u) := ⟨pss_cons h1.h h2.h⟩
theorem qss_of (h : PSs X rest t) : QSs X rest t := ⟨h⟩
end
end Bw
set_option Elab.async false
set_option linter.all false
set_option maxRecDepth 100000
set_option maxHeartbeats 1000000
namespace Bw
open PySem PySem.Spec PyProof.Rows L2
end Bw
set_option Elab.async false
set_option linter.all false
set_option maxRecDepth 100000
set_option maxHeartbeats 1000000
namespace Bw
open PySem PySem.Spec PyProof.Rows L2
mutual
inductive RD (H : Hp) : V → PyData → Prop
  | non : RD H .non .none
  | bl (b : Bool) : RD H (.bl b) (.bool b)
  | int (i : Int) : RD H (.int i) (.int i)
  | str (x : Str) : RD H (.str x) (.str x)
  | lst {p : Addr} {xs : List V} {ds : List PyData} : H p = some (.lst xs) → RDs H xs ds → RD H (.ref p) (.list ds)
  | tup {p : Addr} {xs : List V} {ds : List PyData} : H p = some (.tup xs) → RDs H xs ds → RD H (.ref p) (.tuple ds)
inductive RDs (H : Hp) : List V → List PyData → Prop
  | nil : RDs H [] []
  | cons {v : V} {d : PyData} {vs : List V} {ds : List PyData} : RD H v d → RDs H vs ds → RDs H (v :: vs) (d :: ds)
end
section
variable {X : Cx} {pins : List (Addr × Obj)} {σ : L2.St} {H : Hp} {s : Shared}
mutual
theorem RD.reads (I : Inv X pins σ H s) : ∀ {v : V} {d : PyData}, RD H v d → ∀ {u : Value}, RelV v u → ∃ as, Reads s.heap u d as
  | _, _, .non, u, r => by cases (show u = Value.none from r); exact ⟨_, .none⟩
  | _, _, .bl b, u, r => by cases (show u = Value.bool b from r); exact ⟨_, .bool b⟩
  | _, _, .int i, u, r => by obtain ⟨t, rfl⟩ := (show ∃ t, u = Value.int i t from r); exact ⟨_, .int i t⟩
  | _, _, .str i, u, r => by obtain ⟨t, rfl⟩ := (show ∃ t, u = Value.str i t from r); exact ⟨_, .str i t⟩
  | _, _, .lst h hs, u, r => by
    cases (show u = Value.ref _ from r)
    obtain ⟨its, r1, ⟨o1, n1, p1, c1, _, d1⟩, _⟩ := I.list (SqL.of h)
    obtain ⟨as, ra⟩ := RDs.reads I hs r1
    exact ⟨_, Reads.list p1 c1 d1 (by simpa using ra)⟩
  | _, _, .tup h hs, u, r => by
    cases (show u = Value.ref _ from r)
    obtain ⟨its, r1, ⟨o1, p1, c1, n1, d1⟩, _⟩ := I.tuple (SqT.of h)
    obtain ⟨as, ra⟩ := RDs.reads I hs r1
    exact ⟨_, Reads.tuple p1 c1 d1 (by simpa using ra)⟩
theorem RDs.reads (I : Inv X pins σ H s) : ∀ {vs : List V} {ds : List PyData}, RDs H vs ds → ∀ {us : List Value}, Vals vs us → ∃ as, ReadsAll s.heap us ds as
  | _, _, .nil, _, .nil => ⟨_, .nil⟩
  | _, _, .cons h hs, _, .cons r rs => by
    obtain ⟨as, ra⟩ := RD.reads I h r
    obtain ⟨bs, rb⟩ := RDs.reads I hs rs
    exact ⟨_, .cons ra rb⟩
end
end
mutual
theorem mix_self : ∀ d : PyData, PyData.canLay0 d = true → SeqAt.noMix d d = true
  | .none, _ => by simp [SeqAt.noMix]
  | .bool _, _ => by simp [SeqAt.noMix]
  | .int _, _ => by simp [SeqAt.noMix]
  | .str _, _ => by simp [SeqAt.noMix]
  | .list xs, h => by
    simp only [SeqAt.noMix]
    exact mixs_self xs (by simpa [PyData.canLay0] using h)
  | .tuple xs, h => by
    simp only [SeqAt.noMix]
    exact mixs_self xs (by simpa [PyData.canLay0] using h)
  | .dict _, h => by simp [PyData.canLay0] at h
theorem mixs_self : ∀ ds : List PyData, PyData.canLayAll0 ds = true → SeqAt.noMixAll ds ds = true
  | [], _ => by simp [SeqAt.noMixAll]
  | d :: r, h => by
    have h' : PyData.canLay0 d = true ∧ PyData.canLayAll0 r = true := by simpa [PyData.canLayAll0] using h
    simp only [SeqAt.noMixAll, mix_self d h'.1, mixs_self r h'.2, Bool.and_self]
end
section
variable {X : Cx}
def rEqD (b : Bool) : R2 := fun x y H Q => ∃ (d d' : PyData), RD H x d ∧ RD H y d' ∧ SeqAt.shaped d = true ∧ SeqAt.shaped d' = true ∧ Q (.bl (PyData.eqv d d' == b)) H
theorem op_eqD (hu : X.A.units + 64 < cLine) : OpR X (compareOp .Eq) (rEqD true) := by
  intro pins s σ H x y v u Q I rx ry h
  obtain ⟨d, d', h1, h2, s1, s2, q⟩ := h
  obtain ⟨as, r1⟩ := h1.reads I rx
  obtain ⟨bs, r2⟩ := h2.reads I ry
  refine eq_dataH r1 r2 s1 s2 hu ⟨.bl _, H, I, rfl, ?_⟩
  have e : (PyData.eqv d d' == true) = PyData.eqv d d' := by cases PyData.eqv d d' <;> rfl
  rw [e] at q
  exact q
end
def tNev : TE := fun _ _ _ => False
theorem w_nev {σ : L2.St} {H : Hp} {Q : VK} : tNev σ H Q = False := rfl
theorem w_never {D : Ends} {σ : L2.St} {H : Hp} : tNever D σ H = False := rfl
structure CalD (P : Program) (w : World) (K : PySem.W.Frag) (mg : Str → Option Value) (base : Heap) (x : Str) (C : Addr) (ps : List Str) (k : Nat) (dvs : List V) (sp : Sp) : Prop where
  ex : ∃ f fd ds, FnOk P w K mg base (CXF P w) k f fd ps sp ∧ Binds K fd ps ds ∧ Vals dvs ds ∧ Mk K C f ∧ mg x = some (.ref C)
section
variable {X : Cx} {x m : Str} {C : Addr} {ps : List Str} {k : Nat} {sp : Sp} {e o : Expr} {es : List Expr} {ta : TE} {t : TA} {p pos apos : Pos} {E : XK} {dvs : List V}
end
structure FunA (K : PySem.W.Frag) (x qual : Str) (st : Stmt) (f : Addr) (fd : FuncData) : Prop where
  ex : ∃ (oc : Value) (od : Option Addr) (dV kV doc pm : Value) (an : Option Addr) (cdv ct : Value) (osl : Array (Option Value)),
    fd = PySem.W.fnOf x qual (defArgs st) (defBody st) (defScope st) dV kV doc pm an cdv ct ∧ K.lookup f = some ⟨oc, od, .func fd, osl⟩ ∧ PySem.W.codeIn K cdv qual = true
section
variable {P : Program} {w : World} {K : PySem.W.Frag} {mg : Str → Option Value} {base : Heap} {N : List Str} {f : Addr}
theorem FunA.ok {x qual : Str} {st : Stmt} {fd : FuncData} {ps : List Str} {k : Nat} {sp : Sp} (F : FunA K x qual st f fd) (S : FnScope N ps (defScope st)) (len : ∀ vs H Q E, sp vs H Q E → vs.length = ps.length)
    (hbody : ∀ (cdv : Value) (A : Around) (outer : List Env) (s : Shared) (H : Hp) (vs : List V) (Q : VK) (E : XK), Room k (A.deeper (envOfC qual (defScope st) s.heap.objs.size f cdv)) → sp vs H Q E →
      ∃ t, PSs (cxOf CX0 P w K mg base N qual (defScope st) f cdv A outer s H E).nox (defBody st) t ∧ t { nx := fun _ H' => Q .non H', rt := Q } (L2.start N vs) H) : FnOk P w K mg base CX0 (k + 1) f fd ps sp := by
  obtain ⟨oc, od, dV, kV, doc, pm, an, cdv, ct, osl, rfl, lk, hcd⟩ := F.ex
  refine fn_of lk hcd S len fun A outer s H vs Q E hr hsp => ?_
  obtain ⟨t, h, q⟩ := hbody cdv A outer s H vs Q E hr hsp
  exact ⟨t, h.nox, q⟩
end
end Bw
set_option Elab.async false
set_option linter.all false
set_option maxRecDepth 100000
namespace Bw
open PySem PySem.Spec PyProof.Rows L2
def below (s e t : Int) : Int := (t - s) / 1440 * ((e - s) % 1440) + (if (e - s) % 1440 < (t - s) % 1440 then (e - s) % 1440 else (t - s) % 1440)
end Bw
set_option Elab.async false
set_option linter.all false
set_option maxRecDepth 100000
set_option maxHeartbeats 1000000
namespace Bw
open PySem PySem.Spec PyProof.Rows L2
theorem shaped_of {ds : List PyData} {n : Nat} (hn : n ≤ 60) (h : PyData.canLayAll0 ds = true ∧ PyData.depthAll ds = n) : SeqAt.shaped (.list ds) = true ∧ SeqAt.shaped (.tuple ds) = true := by
  have h1 := h.1
  have h2 := h.2
  constructor
  · show (PyData.canLay0 (.list ds) && decide (PyData.depth (.list ds) ≤ 64)) = true
    rw [Bool.and_eq_true]
    exact ⟨by simp only [PyData.canLay0]; exact h1, decide_eq_true (by simp only [PyData.depth]; omega)⟩
  · show (PyData.canLay0 (.tuple ds) && decide (PyData.depth (.tuple ds) ≤ 64)) = true
    rw [Bool.and_eq_true]
    exact ⟨by simp only [PyData.canLay0]; exact h1, decide_eq_true (by simp only [PyData.depth]; omega)⟩
theorem eqv_nil (xs : List PyData) : PyData.eqv (.list xs) (.list []) = xs.isEmpty := by cases xs <;> simp [PyData.eqv, PyData.eqvAll]
end Bw
set_option Elab.async false
set_option linter.all false
set_option maxRecDepth 100000
set_option maxHeartbeats 1000000
namespace Bw
open PySem PySem.Spec PyProof.Rows L2
theorem vals_rev : ∀ {xs : List V} {us : List Value}, Vals xs us → Vals xs.reverse us.reverse
  | _, _, .nil => .nil
  | _, _, .cons r t => by
    rw [List.reverse_cons, List.reverse_cons]
    exact (vals_rev t).append (.cons r .nil)
def tRevL (K : PySem.W.Frag) (te : TE) : TE := fun σ H Q => te σ H fun x H1 => ∃ a xs, x = .ref a ∧ SqL K H1 a xs ∧ ∀ p, H1 p = none → Q (.ref p) (L2.upd H1 p (.lst xs.reverse))
theorem w_revL {K : PySem.W.Frag} {te : TE} {σ : L2.St} {H : Hp} {Q : VK} : tRevL K te σ H Q = te σ H (fun x H1 => ∃ a xs, x = .ref a ∧ SqL K H1 a xs ∧ ∀ p, H1 p = none → Q (.ref p) (L2.upd H1 p (.lst xs.reverse))) := rfl
theorem pe_rev {X : Cx} {e st : Expr} {te : TE} {p3 pos : Pos} (he : PE X e te) (hst : PE X st (tUn (rU fun i => .int (-i)) (tC (.int 1)))) : PE X (.Subscript e (.Slice none none (some st) p3) pos) (tRevL X.K te) := by
  intro pins s σ H Q I h
  refine Subscript_ (thn (he pins s σ H _ I h) fun v s1 ⟨x, H1, I1, r1, a, xs, ex, hx, q1⟩ => ?_)
  subst ex
  cases r1
  refine wpAny_Slice ?_
  rw [evalPart_none]
  refine wpAny_pure (wpAny_pure ?_)
  rw [evalPart_some]
  refine thn (hst pins s1 σ H1 (fun y H2 => y = .int (-1) ∧ H2 = H1) I1 ⟨1, rfl, rfl, rfl⟩) fun vs s2 ⟨y, H2, I2, r2, ey, eH⟩ => ?_
  subst ey eH
  obtain ⟨t, rfl⟩ := r2
  have I4 : Inv X pins σ H2 { s2 with heap := s2.heap.push { cls := .type "slice", data := .fields #[.none, .none, .int (-1) t] } } := I2.kept (t' := s2.toks) fun b ob q => Heap.get?_push_of_some _ q
  obtain ⟨its, r, ht, hz⟩ := I4.list hx
  have hlen := r.length
  show wpAny (model X.prog X.w) X.A (subscriptTail e (.Slice none none (some st) p3) (.ref a) (.ref s2.heap.objs.size)) (EP X pins σ Q) X.xe { s2 with heap := s2.heap.push { cls := .type "slice", data := .fields #[.none, .none, .int (-1) t] } }
  refine tail_any (ops := [.ref a, .ref s2.heap.objs.size]) ht.isList.typeIs slot_list_getitem.lookup (wpAny_getItem_list_slice ht.isList (Heap.IsSliceOf.new ..) .none .none (.int (-1) t) (by decide) ?_ (by rw [List.size_toArray] <;> omega)) (by with_unfolding_all rfl)
  rw [PySem.W.krv_pick]
  refine ⟨.ref _, _, I4.laid (t' := s2.toks) (o := .lst xs.reverse) (fun b ob q => Heap.get?_push_of_some _ q) (Nat.le_refl _) ?_, rfl, q1 _ (I4.hok.fresh (Nat.le_refl _))⟩
  exact ⟨by rw [List.length_reverse]; exact hz, _, 0, vals_rev r, Heap.get?_push_size _ rfl⟩
end Bw
set_option Elab.async false
set_option linter.all false
set_option maxRecDepth 100000
set_option maxHeartbeats 1000000
namespace Bw
open PySem PySem.Spec PyProof.Rows L2
def metS (l : List Str) : List Str := l.foldl (fun a x => if x ∈ a then a else a ++ [x]) []
theorem metS_snoc (l : List Str) (x : Str) : metS (l ++ [x]) = if x ∈ metS l then metS l else metS l ++ [x] := by
  unfold metS; rw [List.foldl_append]; rfl
theorem metS_take {l : List Str} {i : Nat} (h : i < l.length) : metS (l.take (i + 1)) = if l.getD i Str.empty ∈ metS (l.take i) then metS (l.take i) else metS (l.take i) ++ [l.getD i Str.empty] := by
  rw [← metS_snoc, List.take_succ, List.getElem?_eq_getElem h]
  simp [List.getD, List.getElem?_eq_getElem h]
theorem snoc_ind {p : List Str → Prop} (h0 : p []) (h1 : ∀ l x, p l → p (l ++ [x])) (l : List Str) : p l := by
  have q : ∀ m : List Str, p m.reverse := fun m => by
    induction m with
    | nil => exact h0
    | cons a m ih => rw [List.reverse_cons]; exact h1 _ _ ih
  have := q l.reverse
  rwa [List.reverse_reverse] at this
theorem mem_metS (x : Str) (l : List Str) : x ∈ metS l ↔ x ∈ l := by
  refine snoc_ind (p := fun l => x ∈ metS l ↔ x ∈ l) (by simp [metS]) (fun l y ih => ?_) l
  · show x ∈ metS (l ++ [y]) ↔ x ∈ l ++ [y]
    rw [metS_snoc]
    split
    · rename_i h
      rw [ih]
      constructor
      · intro z; exact List.mem_append_left _ z
      · intro z
        rcases List.mem_append.mp z with z | z
        · exact z
        · have e : x = y := by simpa using z
          subst e
          exact ih.mp h
    · simp [ih]
theorem metS_le (l : List Str) : (metS l).length ≤ l.length := by
  refine snoc_ind (p := fun l => (metS l).length ≤ l.length) (by simp [metS]) (fun l y ih => ?_) l
  · show (metS (l ++ [y])).length ≤ (l ++ [y]).length
    rw [metS_snoc]
    split <;> simp <;> omega
theorem metS_all (l : List Str) : (metS l).length = l.length ↔ l.Nodup := by
  refine snoc_ind (p := fun l => (metS l).length = l.length ↔ l.Nodup) (by simp [metS]) (fun l y ih => ?_) l
  · show (metS (l ++ [y])).length = (l ++ [y]).length ↔ (l ++ [y]).Nodup
    have h := metS_le l
    rw [metS_snoc]
    by_cases m : y ∈ metS l
    · rw [if_pos m, List.length_append, List.length_singleton]
      constructor
      · intro z; omega
      · intro z
        have := (mem_metS y l).mp m
        rw [List.nodup_append] at z
        exact absurd rfl (z.2.2 y this y (List.mem_singleton.mpr rfl))
    · rw [if_neg m, List.length_append, List.length_append, List.length_singleton]
      have n : y ∉ l := fun z => m ((mem_metS y l).mpr z)
      constructor
      · intro z
        rw [List.nodup_append]
        refine ⟨ih.mp (by omega), by simp, fun a ha b hb e => ?_⟩
        have : b = y := by simpa using hb
        subst this; subst e; exact n ha
      · intro z
        rw [List.nodup_append] at z
        have := ih.mpr z.1
        omega
abbrev memS (l : List Str) : Str → Bool := fun k => decide (k ∈ metS l)
section
variable {prog : Program} {w : World} {A : Around} {R : Result → Shared → Prop} {I : Addr} {fp wr : List Addr} {G : Array GenState → Array GenState → Prop} {P : Nat → Value → Prop} {St : Nat → Shared → Prop}
theorem setLoopS {l : List Str} (W : WalksS prog w A.in1 I fp wr G l.length P St) (S : Addr) (hS0 : S ∉ fp) (hv : ∀ i v, P i v → ∃ t, v = .str (l.getD i Str.empty) t) (hb : l.length + 1 < scanBound) : ∀ (k i : Nat) (s : Shared) (q : ∀ s', Moved (S :: wr) G s s' → s'.heap.SetOf (strKind prog w) S (memS l) (metS l).length → R (.ok (.ret .none)) s'),
      l.length - i = k → i ≤ l.length → St i s → s.heap.SetOf (strKind prog w) S (memS (l.take i)) (metS (l.take i)).length →
      codeAny (model prog w) A (.builtin "set.update.loop" ⟨[.ref S, .ref I], []⟩) R s := by
  have nw : S ∉ wr := fun h => hS0 (W.sub _ h)
  have up : ∀ b ∈ wr, b ∈ S :: wr := fun b hb => List.mem_cons_of_mem _ hb
  have move : ∀ {s s' : Shared} {T : Str → Bool} {n : Nat}, Moved wr G s s' → s.heap.SetOf (strKind prog w) S T n → s'.heap.SetOf (strKind prog w) S T n := fun hm z => by
    obtain ⟨o, es, ep, t, ho, z⟩ := z
    exact ⟨o, es, ep, t, hm.heap S _ nw ho, z⟩
  intro k
  induction k with
  | zero =>
    intro i s q hk hi hst z
    have e : i = l.length := by omega
    subst e
    rw [List.take_length] at z
    refine codeAny_builtin PyProof.Rows.F.entry_set_update_loop ?_
    rw [Around.under_plainId PyProof.Rows.F.plain_set_update_loop _]; show wpAny _ A.in1 (pyNext (.ref I) >>= _) _ _ s
    refine wpAny_bind (W.done s _ _ hst fun s' hm => ?_)
    show wpAny _ A.in1 (ret Value.none) _ _ s'; exact wpAny_pure (q s' (hm.mono up) (move hm z))
  | succ k ih =>
    intro i s q hk hi hst z
    have lt : i < l.length := by omega
    refine codeAny_builtin PyProof.Rows.F.entry_set_update_loop ?_
    rw [Around.under_plainId PyProof.Rows.F.plain_set_update_loop _]; show wpAny _ A.in1 (pyNext (.ref I) >>= _) _ _ s
    refine wpAny_bind (W.item i s _ _ lt hst fun v s' hP hst' hm => ?_)
    obtain ⟨t, rfl⟩ := hv i v hP
    have z' := move hm z
    show wpAny _ A.in1 (holding [Value.str (l.getD i Str.empty) t] (setAdd S (.str (l.getD i Str.empty) t)) >>= _) _ _ s'
    refine wpAny_bind (wpAny_holding ?_); unfold setAdd
    refine wpAny_holding (wpAny_bind ((strKind prog w).pyHash (k := l.getD i Str.empty) (strKind_is _ _ _ _) ?_))
    have room : (metS (l.take i)).length + 1 < scanBound := by
      have h1 := metS_le (l.take i)
      have h2 : (l.take i).length ≤ l.length := by rw [List.length_take]; omega
      omega
    refine wpAny_setAddHashed_of (knd := strKind prog w) (s := { s' with toks := s'.toks + 1 }) (strKind_is _ _ _ _) rfl z' room fun h' sb z2 => ?_
    have z3 : h'.SetOf (strKind prog w) S (memS (l.take (i + 1))) (metS (l.take (i + 1))).length := by
      refine SetOf_congr z2 (fun k' => ?_) ?_
      · show (decide (k' ∈ metS (l.take i)) || decide (k' = l.getD i Str.empty)) = decide (k' ∈ metS (l.take (i + 1)))
        rw [metS_take lt]
        generalize l.getD i Str.empty = y
        split
        · rename_i m
          by_cases e : k' = y
          · subst e; simp [m]
          · simp [e]
        · by_cases e : k' = y
          · subst e; simp
          · simp [e]
      · rw [metS_take lt]
        generalize l.getD i Str.empty = y
        by_cases m : y ∈ metS (l.take i)
        · rw [if_pos m, if_pos (by simpa using m)]
        · rw [if_neg m, if_neg (by simpa using m), List.length_append]; rfl
    refine wpAny_pure ⟨plainId_quiet PyProof.Rows.F.plain_set_update_loop _, ih (i + 1) _ (fun s'' hm'' z4 => ?_) (by omega) lt (W.frame _ s' _ _ hst' (Nat.le_succ _) fun b hb o e => ?_) z3⟩
    · refine q s'' (Moved.trans W.gtrans ((hm.mono up).then_heap (Nat.le_succ _) fun b o hb e => ?_) hm'') z4
      rw [sb.2 b (fun h : b = S => hb (by rw [h]; exact List.mem_cons_self))]; exact e
    · rw [sb.2 b (fun h : b = S => hS0 (by rw [← h]; exact hb))]; exact e
end
abbrev freshSet (led : Bool) : Obj := { cls := .type "set", dict := none, data := .set #[] 0 (.fresh 0 0 led) }
theorem hasS {its : List Value} {l : List Str} (h : Vals (l.map V.str) its) (i : Nat) (v : Value) (e : its[i]? = some v) : ∃ t, v = .str (l.getD i Str.empty) t := by
  induction l generalizing its i with
  | nil => cases h; simp at e
  | cons x l ih =>
    cases h with
    | cons r1 r2 =>
      cases i with
      | zero =>
        obtain ⟨t, rfl⟩ := r1
        have : v = .str x t := by simpa using e.symm
        exact ⟨t, by rw [this]; rfl⟩
      | succ i => exact ih r2 i (by simpa using e)
section
variable {prog : Program} {w : World} {A : Around} {E : Value → Shared → Prop} {s : Shared}
set_option maxHeartbeats 4000000 in
theorem callSetS {a : Addr} {its : List Value} {l : List Str} {Q : Value → Shared → Prop} (hh : A.handled = none) (hl : s.heap.IsList a its.toArray) (hv : Vals (l.map V.str) its) (hb : l.length + 1 < scanBound)
    (q : ∀ (h' : Heap) (tk : Nat), h'.SetOf (strKind prog w) s.heap.objs.size (memS l) (metS l).length → (∀ b o, s.heap.get? b = some o → h'.get? b = some o) → Q (.ref s.heap.objs.size) { s with heap := h', toks := tk }) :
    wpAny (model prog w) A (call (.type "set") [.ref a]) Q E s := by
  have hn : its.toArray.size = l.length := by have := hv.length; rw [List.length_map] at this; simpa using this.symm
  obtain ⟨c, tl, hmro⟩ := PySem.F.called_set.mro
  have hmade := PySem.F.called_set.made; have hsub := PySem.F.called_set.sub
  refine wpAny_call (codeAny_of_tree ?_); show wpAny _ _ (callAny (.type "set") _) _ _ _
  refine wpAny_pure ⟨Code.quiet_builtin _ (by decide +kernel), codeAny_builtin PySem.F.entry_type_call ?_⟩
  rw [Around.under_plain (weight_type_call_type "set" [.ref a] []) rfl]
  have h1 := PySem.F.called_set.notType; have h2 := PySem.F.called_set.canCreate
  have hct := PySem.F.typeCall_set_1 (.ref a)
  repeat (any_goals (first | assumption | wp_step))
  refine codeAny_mono (PySem.code_set_new_1 (.ref a) (E := E) (Q₁ := fun obj s₁ => ∃ led : Bool, obj = .ref s.heap.objs.size ∧ s₁ = { s with heap := s.heap.push (freshSet led) }) fun led => ⟨led, rfl, rfl⟩) fun r s₁ hr => ?_
  match r, hr with
  | .error e, hr => exact hr
  | .ok (.ret obj), hr =>
    obtain ⟨led, rfl, rfl⟩ := hr
    have hS : (s.heap.push (freshSet led)).get? s.heap.objs.size = some (freshSet led) := Heap.get?_push_size _ rfl
    have hT : Shared.TypeIs { s with heap := s.heap.push (freshSet led) } (.ref s.heap.objs.size) "set" := ⟨_, hS, rfl⟩
    have hli := PySem.F.called_set.init.lookup; have hbi := PySem.F.called_set.init.bind (.ref s.heap.objs.size)
    repeat (any_goals (first | assumption | wp_step))
    refine codeAny_mono (codeAny_call_builtin (R := wants (fun r s₂ => r = .none ∧ ∃ h' tk, s₂ = { s with heap := h', toks := tk } ∧ h'.SetOf (strKind prog w) s.heap.objs.size (memS l) (metS l).length ∧
        (∀ b o, s.heap.get? b = some o → h'.get? b = some o)) E) PySem.F.called_set.init.plain PySem.F.entry_set_init (PySem.check_set_init_1 hT ?_)) fun r₂ s₂ hr₂ => ?_
    · obtain ⟨⟨oc, od, odt, osl⟩, hol, hcl, nl, hdl⟩ := hl
      simp only at hcl hdl; subst hcl; subst hdl
      have hol' : (s.heap.push (freshSet led)).get? a = some { cls := .type "list", dict := od, data := .seq its.toArray nl, slots := osl } := Heap.get?_push_of_some _ hol
      have n1 := PySem.F.sub_list_set; have n2 := PySem.F.sub_list_frozenset
      have n3 : (Value.type "list" == Value.type "dict") = false := by decide
      have hl1 : (s.heap.push (freshSet led)).IsList a its.toArray := ⟨_, hol', rfl, nl, rfl⟩
      unfold Builtin.«set.__init__» noKeywords Builtin.Frozenset.updateFrom
      generalize hPI : pyIter = PI
      wp_walk
      subst hPI
      refine wpAny_pyIter_list hl1 (wpAny_bind (wpAny_runValue ?_))
      have lt : a < s.heap.objs.size := Heap.lt_size hol
      have hh3 : A.in1.in1.in1.handled = none := by simp [hh]
      have ne1 : a ≠ (s.heap.push (freshSet led)).objs.size := by rw [Heap.size_push]; exact Nat.ne_of_lt (Nat.lt_succ_of_lt lt)
      have ne2 : s.heap.objs.size ∉ [(s.heap.push (freshSet led)).objs.size, a] := by
        rw [Heap.size_push]; intro z
        rcases List.mem_cons.mp z with z | z
        · exact absurd z (Nat.ne_of_lt (Nat.lt_succ_self _))
        · exact absurd (List.mem_singleton.mp z) (Nat.ne_of_gt lt)
      have W := (Walks.list (prog := prog) (w := w) hh3 _ a ne1 its.toArray).toS
      rw [hn] at W
      refine setLoopS W s.heap.objs.size ne2 (fun i v hv' => hasS hv i v (by simpa using hv')) hb (l.length - 0) 0 _ (fun s' hm z => ?_) (by omega) (Nat.zero_le _) ⟨⟨_, Heap.get?_push_size _ rfl, rfl, rfl⟩, hl1.push _⟩ ?_
      · obtain ⟨h', g', d', tk', os'⟩ := s'
        have eg : g' = s.gens := hm.gens
        have ed : d' = s.drawn := hm.drawn
        have eo : os' = s.os := hm.os
        subst eg; subst ed; subst eo
        show wpAny _ _ _ _ _ _
        refine wpAny_pure ?_
        show wpAny _ _ (ret Value.none) _ _ _
        refine wpAny_pure ⟨rfl, h', tk', rfl, z, fun b o e => ?_⟩
        have bl := Heap.lt_size e
        refine hm.heap b o (fun y => ?_) (Heap.get?_push_of_some _ (Heap.get?_push_of_some _ e))
        rcases List.mem_cons.mp y with y | y
        · exact absurd y (Nat.ne_of_lt bl)
        · have := List.mem_singleton.mp y; rw [Heap.size_push] at this; exact absurd this (Nat.ne_of_lt (Nat.lt_succ_of_lt bl))
      · have hg : ((s.heap.push (freshSet led)).push { cls := .type "list_iterator", data := .fields #[.ref a, .int 0 0] }).get? s.heap.objs.size = some (freshSet led) := Heap.get?_push_of_some _ hS
        exact SetOf_congr ((setObjOf_fresh (knd := strKind prog w) led).setOf hg (by unfold scanBound; omega)) (fun k => by simp [memS, metS]) rfl
    · match r₂, hr₂ with
      | .error e, hr₂ => exact hr₂
      | .ok (.ret r), hr₂ =>
        obtain ⟨rfl, h', tk, rfl, z, kp⟩ := hr₂
        repeat (any_goals (first | assumption | wp_step))
        exact q _ _ z kp
end
def hoSet (P : Program) (w : World) (a : Addr) (l : List Str) : HO := .ext fun h => h.SetOf (strKind P w) a (memS l) (metS l).length
theorem set_ext {P : Program} {w : World} {H : Hp} {h : Heap} {a : Addr} {l : List Str} (z : h.SetOf (strKind P w) a (memS l) (metS l).length) : ObjOk P w H h a (hoSet P w a l) := by
  refine ⟨z, ?_, fun h1 h2 z1 k => ?_⟩
  · obtain ⟨o, _, _, _, e, _⟩ := z; exact ⟨o, e⟩
  · obtain ⟨o, es, ep, t, e, z1⟩ := z1; exact ⟨o, es, ep, t, k o e, z1⟩
theorem call_setS {X : Cx} (hc : X.calm = true) : CallR X (.type "set") (fun xs H Q => ∃ (a : Addr) (l : List Str), xs = [.ref a] ∧ SqL X.K H a (l.map V.str) ∧ l.length ≤ 1000 ∧ ∀ p, H p = none → Q (.ref p) (upd H p (hoSet X.prog X.w p l))) := by
  intro pins s σ H xs us Q I r h
  obtain ⟨a, l, rfl, hS, hz, q⟩ := h
  obtain ⟨u, rfl, ru⟩ := vals1 r
  cases ru
  obtain ⟨its, rv, pl, _⟩ := I.list hS
  refine callSetS (I.ok.hd hc) pl.isList rv (by unfold scanBound; omega) fun h' tk z kp => ?_
  exact ⟨.ref s.heap.objs.size, _, I.laid (t' := tk) kp (Nat.le_refl _) (set_ext z), rfl, q _ (I.hok.fresh (Nat.le_refl _))⟩
theorem call_lenS {X : Cx} : CallR X (.builtin "len") (fun xs H Q => ∃ (a : Addr) (l : List Str), xs = [.ref a] ∧ H a = some (hoSet X.prog X.w a l) ∧ Q (.int (metS l).length) H) := by
  intro pins s σ H xs us Q I r h
  obtain ⟨a, l, rfl, e, q⟩ := h
  obtain ⟨u, rfl, ru⟩ := vals1 r
  cases ru
  obtain ⟨⟨o, es, ep, t, ho, hex, hd, _, _, hb, hf, hn⟩, _⟩ := I.hok a _ e
  rw [← hn] at q
  exact call_len_set ho hex hd hf (by unfold scanBound at hb; omega) ⟨.int es.size, H, I.tok _, ⟨_, rfl⟩, q⟩
end Bw
set_option Elab.async false
set_option linter.all false
set_option maxRecDepth 100000
set_option maxHeartbeats 1000000
namespace Bw
open PySem PySem.Spec PyProof.Rows L2
theorem TyOf.same {K : PySem.W.Frag} {H H' : Hp} {x : V} {t : Value} (h : TyOf K H x t) (s : Same H H') : TyOf K H' x t := by
  cases h with
  | non => exact .non
  | bl x => exact .bl x
  | int i => exact .int i
  | str x => exact .str x
  | flt x => exact .flt x
  | lst e => exact .lst (s _ _ e)
  | frz e => exact .frz (s _ _ e)
  | tup e => exact .tup (s _ _ e)
  | dK e => exact .dK (s _ _ e)
  | dT e => exact .dT (s _ _ e)
  | ins e cl ha hn ht hm => exact .ins (s _ _ e) cl ha hn ht hm
theorem TyOf.but3 {K : PySem.W.Frag} {H H' : Hp} {w : Addr} {x : V} {t : Value} (h : TyOf K H x t) (W0 : Well3 H w) (W : Well3 H' w) (s : But w H H') : TyOf K H' x t := by
  have ne : ∀ {b : Addr} {o : HO}, H b = some o → (∀ xs, o ≠ .lst xs) → b ≠ w := fun e n z => by
    obtain ⟨a, b, c, q⟩ := W0
    rw [z, q] at e
    exact n _ (Option.some.inj e).symm
  cases h with
  | non => exact .non
  | bl x => exact .bl x
  | int i => exact .int i
  | str x => exact .str x
  | flt x => exact .flt x
  | @lst p xs e =>
    by_cases z : p = w
    · obtain ⟨a, b, c, q⟩ := W
      rw [z]
      exact .lst q
    · exact .lst (s _ _ z e)
  | frz e => exact .frz (s _ _ (ne e (by intro xs z; cases z)) e)
  | tup e => exact .tup (s _ _ (ne e (by intro xs z; cases z)) e)
  | dK e => exact .dK (s _ _ (ne e (by intro xs z; cases z)) e)
  | dT e => exact .dT (s _ _ (ne e (by intro xs z; cases z)) e)
  | ins e cl ha hn ht hm => exact .ins (s _ _ (ne e (by intro xs z; cases z)) e) cl ha hn ht hm
def rIsiG (K : PySem.W.Frag) (T : String) : List V → Hp → VK → Prop := fun xs H Q => ∃ (x : V) (t : Value) (b : Bool), xs = [x, .ty T] ∧ TyOf K H x t ∧ PySem.W.kitOne K t (.type T) = some b ∧ Q (.bl b) H
theorem isiG_at {X : Cx} {K : PySem.W.Frag} {T : String} (hK : X.K = K) : CallR X (.builtin "isinstance") (rIsiG K T) := by
  subst hK
  intro pins s σ H xs us Q I r h
  obtain ⟨x, t, b, rfl, ty, e, q⟩ := h
  obtain ⟨u, w', rfl, rx, rc⟩ := vals2 r
  cases (show w' = Value.type T from rc)
  exact isinst_ok I rx ty e fun tk => ⟨.bl b, H, I.tok _, rfl, q⟩
end Bw
set_option Elab.async false
set_option linter.all false
set_option maxRecDepth 100000
set_option maxHeartbeats 1000000
namespace Bw
open PySem PySem.Spec PyProof.Rows L2
section
variable {X : Cx}
def tBIf (c : TT) (t u : XK → TS) : XK → TS := fun E D σ H => c σ H fun b H1 => if b = true then t E D σ H1 else u E D σ H1
theorem w_bIf {c : TT} {t u : XK → TS} {E : XK} {D : Ends} {σ : L2.St} {H : Hp} : tBIf c t u E D σ H = c σ H (fun b H1 => if b = true then t E D σ H1 else u E D σ H1) := rfl
end
end Bw
set_option Elab.async false
set_option linter.all false
set_option maxRecDepth 100000
set_option maxHeartbeats 1000000
namespace Bw
open PySem PySem.Spec PyProof.Rows L2
section
variable {X : Cx} {CX : CXT} {k : Nat} {f C : Addr} {fd : FuncData} {ps ks : List Str} {sp : Sp} {E : XK} {x : Str} {p pos : Pos} {e : Expr} {es : List Expr} {kws : List Keyword} {t tk : TA}
  {g : List Value → List Value → List Value} {gV : List V → List V → List V}
def tMakeK (C : Addr) (sp : Sp) (gV : List V → List V → List V) (E : XK) (t tk : TA) : TE := fun σ H Q => t σ H fun vs H1 => tk σ H1 fun zs H2 => ∀ x dx, H2 x = none → H2 dx = none → dx ≠ x →
  sp (gV (.ref x :: vs) zs) (L2.upd (L2.upd H2 dx (.own x)) x (.ins C dx [])) (fun v H3 => v = .non ∧ Q (.ref x) H3) E
theorem w_makeK {σ : L2.St} {H : Hp} {Q : VK} : tMakeK C sp gV E t tk σ H Q = t σ H (fun vs H1 => tk σ H1 fun zs H2 => ∀ x dx, H2 x = none → H2 dx = none → dx ≠ x →
  sp (gV (.ref x :: vs) zs) (L2.upd (L2.upd H2 dx (.own x)) x (.ins C dx [])) (fun v H3 => v = .non ∧ Q (.ref x) H3) E) := rfl
end
structure CalK (P : Program) (w : World) (K : PySem.W.Frag) (mg : Str → Option Value) (base : Heap) (x : Str) (C : Addr) (ps ks : List Str) (k : Nat) (gV : List V → List V → List V) (sp : Sp) : Prop where
  ex : ∃ f fd g, FnOk P w K mg base (CXF P w) k f fd ps sp ∧ KBinds K fd ps ks g gV ∧ Mk K C f ∧ mg x = some (.ref C)
section
variable {X : Cx} {x : Str} {C : Addr} {ps ks : List Str} {k : Nat} {sp : Sp} {e : Expr} {es : List Expr} {t tk : TA} {p pos : Pos} {E : XK} {kws : List Keyword} {gV : List V → List V → List V}
end
end Bw
set_option Elab.async false
set_option linter.all false
set_option maxRecDepth 100000
set_option maxHeartbeats 1000000
namespace Bw
open PySem PySem.Spec PyProof.Rows L2
theorem call_any {X : Cx} (hc : X.calm = true) : CallR X (.builtin "any") (fun xs H Q => ∃ (a : Addr) (bs : List Bool), xs = [.ref a] ∧ SqL X.K H a (bs.map V.bl) ∧ Q (.bl (bs.any id)) H) := by
  intro pins s σ H xs us Q I r h
  obtain ⟨a, bs, rfl, hS, q⟩ := h
  obtain ⟨u, rfl, ru⟩ := vals1 r
  cases ru
  obtain ⟨its, rv, pl, hz⟩ := I.list hS
  have hl : s.heap.IsList a its.toArray := pl.isList
  have hlt : a < s.heap.objs.size := by obtain ⟨_, e, _⟩ := hl; exact Heap.lt_size e
  refine call_any_walk (wpAny_pyIter_list hl ?_)
  refine ⟨s.heap.objs.size, [s.heap.objs.size, a], [s.heap.objs.size], its.toArray.size, _, _, fun i => (bs[i]?).getD true, rfl, Walks.list (A := X.A.in1) (I.ok.hd hc) _ a (Nat.ne_of_lt hlt) its.toArray,
    ⟨⟨_, Heap.get?_push_size _ rfl, rfl, rfl⟩, hl.push _⟩, fun i v s' Q' E' hP hQ => ?_, fun h' tk hk => ?_⟩
  · obtain ⟨b, e, rfl⟩ := bools_at rv i v (by simpa using hP)
    simp only [e, Option.getD_some] at hQ
    exact wpAny_truthy_bool hQ
  · have hn : its.toArray.size = bs.length := by
      have := rv.length
      rw [List.length_map] at this
      simpa using this.symm
    have e : ((List.range its.toArray.size).any fun i => (bs[i]?).getD true) = bs.any id := by
      rw [hn, Bool.eq_iff_iff, List.any_eq_true, List.any_eq_true]
      constructor
      · rintro ⟨i, hi, z⟩
        have hi' := List.mem_range.mp hi
        simp only [List.getElem?_eq_getElem hi', Option.getD_some] at z
        exact ⟨_, List.getElem_mem hi', z⟩
      · rintro ⟨b, hb, z⟩
        obtain ⟨i, hi, rfl⟩ := List.getElem_of_mem hb
        refine ⟨i, List.mem_range.mpr hi, ?_⟩
        simpa [List.getElem?_eq_getElem hi] using z
    rw [e]
    refine ⟨.bl _, H, I.kept (t' := tk) fun b o eb => hk b o (fun hm => by rw [List.mem_singleton.mp hm] at eb; exact Nat.lt_irrefl _ (Heap.lt_size eb)) (Heap.get?_push_of_some _ eb), rfl, q⟩
section
variable {P : Program} {w : World} {K : PySem.W.Frag} {mg : Str → Option Value} {base : Heap} {f : Addr} {fd : FuncData} {ps : List Str} {x : Str} {CX : CXT} {k : Nat}
theorem FnOk.nev {sp : Sp} (h : ∀ vs H Q E, ¬ sp vs H Q E) : FnOk P w K mg base CX k f fd ps sp := ⟨fun _ _ _ _ z => (h _ _ _ _ z).elim, fun _ _ _ _ _ _ _ _ _ _ _ _ _ z => (h _ _ _ _ z).elim⟩
theorem rec_fn {spf : Nat → Sp} {n0 : Nat} (h0 : ∀ vs H Q E, ¬ spf 0 vs H Q E) (b : Binds K fd ps []) (kp : PySem.W.keepIn K (.ref f) = true) (hm : mg x = some (.ref f))
    (step : ∀ d n, n0 ≤ n → CalX P w K mg base x ps n (spf d) → FnOk P w K mg base (CXF P w) (n + 1) f fd ps (spf (d + 1))) : ∀ d, FnOk P w K mg base (CXF P w) (n0 + d) f fd ps (spf d)
  | 0 => FnOk.nev h0
  | d + 1 => step d (n0 + d) (Nat.le_add_right _ _) ⟨f, fd, rec_fn h0 b kp hm step d, b, kp, hm⟩
theorem rec_cal {spf : Nat → Sp} {n0 : Nat} (h0 : ∀ vs H Q E, ¬ spf 0 vs H Q E) (b : Binds K fd ps []) (kp : PySem.W.keepIn K (.ref f) = true) (hm : mg x = some (.ref f))
    (step : ∀ d n, n0 ≤ n → CalX P w K mg base x ps n (spf d) → FnOk P w K mg base (CXF P w) (n + 1) f fd ps (spf (d + 1))) (d : Nat) {n : Nat} (hn : n0 + d ≤ n) : CalX P w K mg base x ps n (spf d) :=
  ⟨f, fd, FnOk.lift (rec_fn h0 b kp hm step d) hn, b, kp, hm⟩
end
section
variable {K : PySem.W.Frag} {σ : L2.St} {H : Hp} {Q : VK} {g : TG} {tt : TT} {te ta : TE} {ix : List (Option Nat)} {t : TS} {D : Ends}
theorem comp_tup {K : PySem.W.Frag} {a : Addr} {xs : List V} {g : TG} {tt : TT} {te : TE} {σ : L2.St} {H : Hp} {Q : VK} (Pv : Nat → List V → L2.St → Hp → Prop) (hz : xs.length ≤ sizeLine) (h0 : Pv 0 [] σ H) (hl : ∀ i acc σ H, i ≤ xs.length → Pv i acc σ H → SqT K H a xs)
    (hs : ∀ i x acc σ H, xs[i]? = some x → Pv i acc σ H → g x σ H fun σ2 H2 => tt σ2 H2 fun b H3 => if b = true then te σ2 H3 fun y H4 => Pv (i + 1) (acc ++ [y]) σ2 H4 else Pv (i + 1) acc σ2 H3)
    (hacc : ∀ i acc σ H, Pv i acc σ H → acc.length ≤ i) (hd : ∀ acc σ H, Pv xs.length acc σ H → ∀ D, H D = none → Q (.ref D) (L2.upd H D (.lst acc))) :
    ∃ W : Nat → Nat → List V → L2.St → Hp → Prop, (∃ m, W 0 m [] σ H) ∧ ∀ i m acc σ H, W i m acc σ H →
      ((Itt K a).stop i H ∧ ∀ D, H D = none → Q (.ref D) (L2.upd H D (.lst acc))) ∨
      ((Itt K a).go i H ∧ acc.length < sizeLine ∧ ∃ N : List V → L2.St → Hp → Prop, (∀ acc' σ' H', N acc' σ' H' → ∃ m', m' < m ∧ W (i + 1) m' acc' σ' H') ∧
        ∀ x H', (Itt K a).yld i H x H' → g x σ H' fun σ2 H2 => tt σ2 H2 fun b H3 => if b = true then te σ2 H3 fun y H4 => N (acc ++ [y]) σ2 H4 else N acc σ2 H3) := by
  refine ⟨fun i m acc σ H => m = xs.length - i ∧ i ≤ xs.length ∧ Pv i acc σ H, ⟨xs.length, by simp, Nat.zero_le _, h0⟩, ?_⟩
  rintro i m acc σ H ⟨rfl, hi, p⟩
  have q := hl i acc σ H hi p
  have ha := hacc i acc σ H p
  by_cases hlt : i < xs.length
  · refine .inr ⟨⟨xs, xs[i], q, by simp [hlt]⟩, by omega, Pv (i + 1), fun acc' σ' H' p' => ⟨xs.length - (i + 1), by omega, rfl, hlt, p'⟩, fun x H' y => ?_⟩
    obtain ⟨e, y⟩ := y
    subst e
    exact hs i x acc σ _ (y xs q) p
  · have e : i = xs.length := by omega
    subst e
    exact .inl ⟨⟨xs, q, Nat.le_refl _⟩, hd acc σ H p⟩
def CompT (K : PySem.W.Frag) (a : Addr) (g : TG) (tt : TT) (te : TE) (Q : VK) (σ : L2.St) (H : Hp) : Prop := ∃ W : Nat → Nat → List V → L2.St → Hp → Prop, (∃ m, W 0 m [] σ H) ∧ ∀ i m acc σ H, W i m acc σ H →
  ((Itt K a).stop i H ∧ ∀ D, H D = none → Q (.ref D) (L2.upd H D (.lst acc))) ∨
  ((Itt K a).go i H ∧ acc.length < sizeLine ∧ ∃ N : List V → L2.St → Hp → Prop, (∀ acc' σ' H', N acc' σ' H' → ∃ m', m' < m ∧ W (i + 1) m' acc' σ' H') ∧
    ∀ x H', (Itt K a).yld i H x H' → g x σ H' fun σ2 H2 => tt σ2 H2 fun b H3 => if b = true then te σ2 H3 fun y H4 => N (acc ++ [y]) σ2 H4 else N acc σ2 H3)
theorem w_compT : tComp (iTup K ta) ix g tt te σ H Q = ta σ H (fun x H1 => ∃ a, x = .ref a ∧ (∃ xs, SqT K H1 a xs) ∧ CompT K a g tt te Q (pick ix σ) H1) := rfl
theorem CompT.by {a : Addr} {xs : List V} (Pv : Nat → List V → L2.St → Hp → Prop) (hz : xs.length ≤ sizeLine) (h0 : Pv 0 [] σ H) (hl : ∀ i acc σ H, i ≤ xs.length → Pv i acc σ H → SqT K H a xs)
    (hs : ∀ i x acc σ H, xs[i]? = some x → Pv i acc σ H → g x σ H fun σ2 H2 => tt σ2 H2 fun b H3 => if b = true then te σ2 H3 fun y H4 => Pv (i + 1) (acc ++ [y]) σ2 H4 else Pv (i + 1) acc σ2 H3)
    (hacc : ∀ i acc σ H, Pv i acc σ H → acc.length ≤ i) (hd : ∀ acc σ H, Pv xs.length acc σ H → ∀ D, H D = none → Q (.ref D) (L2.upd H D (.lst acc))) : CompT K a g tt te Q σ H := comp_tup Pv hz h0 hl hs hacc hd
def ForT (K : PySem.W.Frag) (a : Addr) (g : TG) (tb : TS) (D : Ends) (σ : L2.St) (H : Hp) : Prop := ∃ W : Nat → Nat → L2.St → Hp → Prop, (∃ m, W 0 m σ H) ∧ ∀ i m σ H, W i m σ H →
      ((Itt K a).stop i H ∧ D.nx σ H) ∨ ((Itt K a).go i H ∧ ∃ N : L2.St → Hp → Prop, (∀ σ' H', N σ' H' → ∃ m', m' < m ∧ W (i + 1) m' σ' H') ∧ ∀ x H', (Itt K a).yld i H x H' → g x σ H' fun σ2 H2 => tb { D with nx := N, ct := N, bk := D.nx } σ2 H2)
theorem w_forT : tFor (iTup K ta) g t D σ H = ta σ H (fun x H1 => ∃ a, x = .ref a ∧ (∃ xs, SqT K H1 a xs) ∧ ForT K a g t D σ H1) := rfl
theorem ForT.by {a : Addr} {xs : List V} (Pv : Nat → L2.St → Hp → Prop) (h0 : Pv 0 σ H) (hl : ∀ i σ H, i ≤ xs.length → Pv i σ H → SqT K H a xs)
    (hs : ∀ i x σ H, xs[i]? = some x → Pv i σ H → g x σ H fun σ2 H2 => t { D with nx := Pv (i + 1), ct := Pv (i + 1), bk := D.nx } σ2 H2) (hd : ∀ σ H, Pv xs.length σ H → D.nx σ H) : ForT K a g t D σ H := for_tup Pv h0 hl hs hd
end
inductive All2 {α β : Type} (R : α → β → Prop) : List α → List β → Prop
  | nil : All2 R [] []
  | cons {a : α} {b : β} {as : List α} {bs : List β} (h : R a b) (r : All2 R as bs) : All2 R (a :: as) (b :: bs)
section
variable {α β : Type} {R S : α → β → Prop} {as : List α} {bs : List β}
theorem All2.len (h : All2 R as bs) : as.length = bs.length := by
  induction h with
  | nil => rfl
  | cons _ _ ih => rw [List.length_cons, List.length_cons, ih]
theorem All2.imp (h : All2 R as bs) (k : ∀ a b, a ∈ as → R a b → S a b) : All2 S as bs := by
  induction h with
  | nil => exact .nil
  | cons h _ ih => exact .cons (k _ _ List.mem_cons_self h) (ih fun a b m => k a b (List.mem_cons_of_mem _ m))
theorem All2.snoc {a : α} {b : β} (h : All2 R as bs) (k : R a b) : All2 R (as ++ [a]) (bs ++ [b]) := by
  induction h with
  | nil => exact .cons k .nil
  | cons h _ ih => exact .cons h ih
theorem All2.get (h : All2 R as bs) : ∀ {i : Nat} {b : β}, bs[i]? = some b → ∃ a, as[i]? = some a ∧ R a b := by
  induction h with
  | nil => intro i b e; simp at e
  | cons h _ ih =>
    intro i b e
    cases i with
    | zero => cases e; exact ⟨_, rfl, h⟩
    | succ i => exact ih e
end
mutual
inductive Tr where
  | any
  | kind (us : List Str)
  | place (us : List Str)
  | weight (n : Int)
  | not (t : Tr)
  | both (ts : Trs)
  | either (ts : Trs)
inductive Trs where
  | nil
  | cons (t : Tr) (ts : Trs)
end
def Trs.ofL : List Tr → Trs
  | [] => .nil
  | t :: ts => .cons t (Trs.ofL ts)
mutual
def Tr.ev (k p : Str) (w : Int) : Tr → Bool
  | .any => true
  | .kind us => decide (k ∈ us)
  | .place us => decide (p ∈ us)
  | .weight n => decide (n ≤ w)
  | .not t => !Tr.ev k p w t
  | .both ts => (Trs.ev k p w ts).all id
  | .either ts => (Trs.ev k p w ts).any id
def Trs.ev (k p : Str) (w : Int) : Trs → List Bool
  | .nil => []
  | .cons t ts => Tr.ev k p w t :: Trs.ev k p w ts
end
mutual
def Tr.dp : Tr → Nat
  | .any => 0
  | .kind _ => 0
  | .place _ => 0
  | .weight _ => 0
  | .not t => Tr.dp t + 1
  | .both ts => Trs.dp ts + 1
  | .either ts => Trs.dp ts + 1
def Trs.dp : Trs → Nat
  | .nil => 0
  | .cons t ts => max (Tr.dp t) (Trs.dp ts)
end
mutual
def Tr.cnt : Tr → Nat
  | .any => 1
  | .kind us => us.length
  | .place us => us.length
  | .weight _ => 1
  | .not t => Tr.cnt t
  | .both ts => Trs.cnt ts
  | .either ts => Trs.cnt ts
def Trs.cnt : Trs → Nat
  | .nil => 0
  | .cons t ts => Tr.cnt t + Trs.cnt ts
end
def okNs (us : List Str) : Prop := us ≠ [] ∧ us.length ≤ 6 ∧ (∀ u ∈ us, goodN u) ∧ us.Nodup
def Trs.toL : Trs → List Tr
  | .nil => []
  | .cons t ts => t :: ts.toL
mutual
def Tr.ok : Tr → Prop
  | .any => True
  | .kind us => okNs us
  | .place us => okNs us
  | .weight n => 0 ≤ n ∧ n < 1000000
  | .not t => Tr.ok t
  | .both ts => 2 ≤ ts.toL.length ∧ ts.toL.length ≤ 6 ∧ Trs.ok ts
  | .either ts => 2 ≤ ts.toL.length ∧ ts.toL.length ≤ 6 ∧ Trs.ok ts
def Trs.ok : Trs → Prop
  | .nil => True
  | .cons t ts => Tr.ok t ∧ Trs.ok ts
end
theorem toL_ofL : ∀ ts : List Tr, (Trs.ofL ts).toL = ts
  | [] => rfl
  | t :: ts => by rw [Trs.ofL, Trs.toL, toL_ofL ts]
theorem trs_ev {k p : Str} {w : Int} : ∀ ts : Trs, Trs.ev k p w ts = ts.toL.map (Tr.ev k p w)
  | .nil => rfl
  | .cons t ts => by rw [Trs.ev, Trs.toL, List.map_cons, trs_ev ts]
theorem trs_dp : ∀ {ts : Trs} {t : Tr}, t ∈ ts.toL → t.dp ≤ ts.dp
  | .nil, t, h => by cases h
  | .cons s ts, t, h => by
    rw [Trs.toL] at h
    rw [Trs.dp]
    rcases List.mem_cons.mp h with rfl | h
    · exact Nat.le_max_left _ _
    · exact Nat.le_trans (trs_dp h) (Nat.le_max_right _ _)
theorem trs_dp_le {n : Nat} : ∀ {ts : Trs}, (∀ t ∈ ts.toL, t.dp ≤ n) → ts.dp ≤ n
  | .nil, _ => Nat.zero_le _
  | .cons s ts, h => by
    rw [Trs.toL] at h
    rw [Trs.dp]
    exact Nat.max_le.mpr ⟨h s List.mem_cons_self, trs_dp_le fun t m => h t (List.mem_cons_of_mem _ m)⟩
theorem trs_ok : ∀ {ts : Trs}, ts.ok ↔ ∀ t ∈ ts.toL, t.ok
  | .nil => ⟨fun _ t h => (by cases h), fun _ => trivial⟩
  | .cons s ts => by
    rw [Trs.toL, Trs.ok, trs_ok]
    exact ⟨fun h t m => by
      rcases List.mem_cons.mp m with rfl | m
      · exact h.1
      · exact h.2 t m, fun h => ⟨h s List.mem_cons_self, fun t m => h t (List.mem_cons_of_mem _ m)⟩⟩
theorem trs_cnt {n : Nat} : ∀ {ts : Trs}, (∀ t ∈ ts.toL, t.cnt ≤ n) → ts.cnt ≤ n * ts.toL.length
  | .nil, _ => Nat.zero_le _
  | .cons s ts, h => by
    rw [Trs.toL] at h
    rw [Trs.toL, Trs.cnt, List.length_cons, Nat.mul_succ]
    have h1 := h s List.mem_cons_self
    have h2 := trs_cnt (ts := ts) fun t m => h t (List.mem_cons_of_mem _ m)
    omega
def Tr.tag : Tr → Nat
  | .any => 0
  | .kind _ => 1
  | .place _ => 2
  | .weight _ => 3
  | .not _ => 4
  | .both _ => 5
  | .either _ => 6
mutual
def Tr.At (H : Hp) : Tr → V → Prop
  | .any, v => ∃ p, v = .ref p ∧ H p = some (.tup [.str "any"])
  | .kind us, v => ∃ p l, v = .ref p ∧ H p = some (.tup [.str "kind", .ref l]) ∧ H l = some (.tup (us.map V.str))
  | .place us, v => ∃ p l, v = .ref p ∧ H p = some (.tup [.str "place", .ref l]) ∧ H l = some (.tup (us.map V.str))
  | .weight n, v => ∃ p, v = .ref p ∧ H p = some (.tup [.str "weight", .int n])
  | .not t, v => ∃ p y, v = .ref p ∧ H p = some (.tup [.str "not", y]) ∧ Tr.At H t y
  | .both ts, v => ∃ p l xs, v = .ref p ∧ H p = some (.tup [.str "both", .ref l]) ∧ H l = some (.tup xs) ∧ Trs.At H ts xs
  | .either ts, v => ∃ p l xs, v = .ref p ∧ H p = some (.tup [.str "either", .ref l]) ∧ H l = some (.tup xs) ∧ Trs.At H ts xs
def Trs.At (H : Hp) : Trs → List V → Prop
  | .nil, xs => xs = []
  | .cons t ts, xs => ∃ y ys, xs = y :: ys ∧ Tr.At H t y ∧ Trs.At H ts ys
end
theorem trs_at {H : Hp} : ∀ {ts : Trs} {xs : List V}, Trs.At H ts xs ↔ All2 (Tr.At H) ts.toL xs
  | .nil, xs => by
    rw [Trs.At, Trs.toL]
    exact ⟨fun h => h ▸ .nil, fun h => by cases h; rfl⟩
  | .cons t ts, xs => by
    rw [Trs.At, Trs.toL]
    constructor
    · rintro ⟨y, ys, rfl, h1, h2⟩
      exact .cons h1 (trs_at.mp h2)
    · intro h
      cases h with
      | cons h1 h2 => exact ⟨_, _, rfl, h1, trs_at.mpr h2⟩
def TupK (H H' : Hp) : Prop := ∀ b xs, H b = some (.tup xs) → H' b = some (.tup xs)
theorem same_tupK {H H' : Hp} (s : Same H H') : TupK H H' := fun b _ e => s b _ e
mutual
theorem Tr.At.keep {H H' : Hp} (s : TupK H H') : ∀ {t : Tr} {v : V}, Tr.At H t v → Tr.At H' t v
  | .any, v, h => by rw [Tr.At] at h ⊢; obtain ⟨p, e, h⟩ := h; exact ⟨p, e, s _ _ h⟩
  | .kind us, v, h => by rw [Tr.At] at h ⊢; obtain ⟨p, l, e, h, k⟩ := h; exact ⟨p, l, e, s _ _ h, s _ _ k⟩
  | .place us, v, h => by rw [Tr.At] at h ⊢; obtain ⟨p, l, e, h, k⟩ := h; exact ⟨p, l, e, s _ _ h, s _ _ k⟩
  | .weight n, v, h => by rw [Tr.At] at h ⊢; obtain ⟨p, e, h⟩ := h; exact ⟨p, e, s _ _ h⟩
  | .not t, v, h => by rw [Tr.At] at h ⊢; obtain ⟨p, y, e, h, k⟩ := h; exact ⟨p, y, e, s _ _ h, Tr.At.keep s k⟩
  | .both ts, v, h => by rw [Tr.At] at h ⊢; obtain ⟨p, l, xs, e, h, k, m⟩ := h; exact ⟨p, l, xs, e, s _ _ h, s _ _ k, Trs.At.keep s m⟩
  | .either ts, v, h => by rw [Tr.At] at h ⊢; obtain ⟨p, l, xs, e, h, k, m⟩ := h; exact ⟨p, l, xs, e, s _ _ h, s _ _ k, Trs.At.keep s m⟩
theorem Trs.At.keep {H H' : Hp} (s : TupK H H') : ∀ {ts : Trs} {xs : List V}, Trs.At H ts xs → Trs.At H' ts xs
  | .nil, xs, h => by rw [Trs.At] at h ⊢; exact h
  | .cons t ts, xs, h => by rw [Trs.At] at h ⊢; obtain ⟨y, ys, e, h1, h2⟩ := h; exact ⟨y, ys, e, Tr.At.keep s h1, Trs.At.keep s h2⟩
end
theorem Tr.At.same {H H' : Hp} {t : Tr} {v : V} (h : Tr.At H t v) (s : Same H H') : Tr.At H' t v := h.keep (same_tupK s)
theorem but_tupK {H H' : Hp} {w : Addr} (W : Well3 H w) (s : But w H H') : TupK H H' := fun b xs e => s b _ (fun z => by
  obtain ⟨x, y, u, q⟩ := W
  rw [z, q] at e
  cases e) e
theorem Tr.At.but3 {H H' : Hp} {w : Addr} {t : Tr} {v : V} (h : Tr.At H t v) (W : Well3 H w) (s : But w H H') : Tr.At H' t v := h.keep (but_tupK W s)
structure FC where
  Any : Addr
  Kind : Addr
  Place : Addr
  Least : Addr
  Not : Addr
  Both : Addr
  Either : Addr
def Tr.cls (c : FC) : Tr → Addr
  | .any => c.Any
  | .kind _ => c.Kind
  | .place _ => c.Place
  | .weight _ => c.Least
  | .not _ => c.Not
  | .both _ => c.Both
  | .either _ => c.Either
mutual
def Tr.Fit (c : FC) (H : Hp) : Tr → V → Prop
  | .any, v => ∃ p dx, v = .ref p ∧ H p = some (.ins c.Any dx [])
  | .kind us, v => ∃ p dx l, v = .ref p ∧ H p = some (.ins c.Kind dx [("names", .ref l)]) ∧ H l = some (.lst (us.map V.str))
  | .place us, v => ∃ p dx l, v = .ref p ∧ H p = some (.ins c.Place dx [("names", .ref l)]) ∧ H l = some (.lst (us.map V.str))
  | .weight n, v => ∃ p dx, v = .ref p ∧ H p = some (.ins c.Least dx [("weight", .int n)])
  | .not t, v => ∃ p dx y, v = .ref p ∧ H p = some (.ins c.Not dx [("fit", y)]) ∧ Tr.Fit c H t y
  | .both ts, v => ∃ p dx l xs, v = .ref p ∧ H p = some (.ins c.Both dx [("fits", .ref l)]) ∧ H l = some (.lst xs) ∧ Trs.Fit c H ts xs
  | .either ts, v => ∃ p dx l xs, v = .ref p ∧ H p = some (.ins c.Either dx [("fits", .ref l)]) ∧ H l = some (.lst xs) ∧ Trs.Fit c H ts xs
def Trs.Fit (c : FC) (H : Hp) : Trs → List V → Prop
  | .nil, xs => xs = []
  | .cons t ts, xs => ∃ y ys, xs = y :: ys ∧ Tr.Fit c H t y ∧ Trs.Fit c H ts ys
end
theorem trs_fit {c : FC} {H : Hp} : ∀ {ts : Trs} {xs : List V}, Trs.Fit c H ts xs ↔ All2 (Tr.Fit c H) ts.toL xs
  | .nil, xs => by
    rw [Trs.Fit, Trs.toL]
    exact ⟨fun h => h ▸ .nil, fun h => by cases h; rfl⟩
  | .cons t ts, xs => by
    rw [Trs.Fit, Trs.toL]
    constructor
    · rintro ⟨y, ys, rfl, h1, h2⟩
      exact .cons h1 (trs_fit.mp h2)
    · intro h
      cases h with
      | cons h1 h2 => exact ⟨_, _, rfl, h1, trs_fit.mpr h2⟩
mutual
theorem Tr.Fit.same {c : FC} {H H' : Hp} (s : Same H H') : ∀ {t : Tr} {v : V}, Tr.Fit c H t v → Tr.Fit c H' t v
  | .any, v, h => by rw [Tr.Fit] at h ⊢; obtain ⟨p, d, e, h⟩ := h; exact ⟨p, d, e, s _ _ h⟩
  | .kind us, v, h => by rw [Tr.Fit] at h ⊢; obtain ⟨p, d, l, e, h, k⟩ := h; exact ⟨p, d, l, e, s _ _ h, s _ _ k⟩
  | .place us, v, h => by rw [Tr.Fit] at h ⊢; obtain ⟨p, d, l, e, h, k⟩ := h; exact ⟨p, d, l, e, s _ _ h, s _ _ k⟩
  | .weight n, v, h => by rw [Tr.Fit] at h ⊢; obtain ⟨p, d, e, h⟩ := h; exact ⟨p, d, e, s _ _ h⟩
  | .not t, v, h => by rw [Tr.Fit] at h ⊢; obtain ⟨p, d, y, e, h, k⟩ := h; exact ⟨p, d, y, e, s _ _ h, Tr.Fit.same s k⟩
  | .both ts, v, h => by rw [Tr.Fit] at h ⊢; obtain ⟨p, d, l, xs, e, h, k, m⟩ := h; exact ⟨p, d, l, xs, e, s _ _ h, s _ _ k, Trs.Fit.same s m⟩
  | .either ts, v, h => by rw [Tr.Fit] at h ⊢; obtain ⟨p, d, l, xs, e, h, k, m⟩ := h; exact ⟨p, d, l, xs, e, s _ _ h, s _ _ k, Trs.Fit.same s m⟩
theorem Trs.Fit.same {c : FC} {H H' : Hp} (s : Same H H') : ∀ {ts : Trs} {xs : List V}, Trs.Fit c H ts xs → Trs.Fit c H' ts xs
  | .nil, xs, h => by rw [Trs.Fit] at h ⊢; exact h
  | .cons t ts, xs, h => by rw [Trs.Fit] at h ⊢; obtain ⟨y, ys, e, h1, h2⟩ := h; exact ⟨y, ys, e, Tr.Fit.same s h1, Trs.Fit.same s h2⟩
end
theorem Tr.Fit.ins {c : FC} {H : Hp} {t : Tr} {v : V} (h : Tr.Fit c H t v) : ∃ p dx fs, v = .ref p ∧ H p = some (.ins (t.cls c) dx fs) ∧ fs.lookup ("fits_it" : Str) = none := by
  cases t with
  | any => rw [Tr.Fit] at h; obtain ⟨p, d, e, h⟩ := h; exact ⟨p, d, _, e, h, rfl⟩
  | kind us => rw [Tr.Fit] at h; obtain ⟨p, d, l, e, h, _⟩ := h; exact ⟨p, d, _, e, h, rfl⟩
  | place us => rw [Tr.Fit] at h; obtain ⟨p, d, l, e, h, _⟩ := h; exact ⟨p, d, _, e, h, rfl⟩
  | weight n => rw [Tr.Fit] at h; obtain ⟨p, d, e, h⟩ := h; exact ⟨p, d, _, e, h, rfl⟩
  | not t => rw [Tr.Fit] at h; obtain ⟨p, d, y, e, h, _⟩ := h; exact ⟨p, d, _, e, h, rfl⟩
  | both ts => rw [Tr.Fit] at h; obtain ⟨p, d, l, xs, e, h, _⟩ := h; exact ⟨p, d, _, e, h, rfl⟩
  | either ts => rw [Tr.Fit] at h; obtain ⟨p, d, l, xs, e, h, _⟩ := h; exact ⟨p, d, _, e, h, rfl⟩
def DtAt (H : Hp) (n : Nat) (x : V) : Prop := ∃ d, RD H x d ∧ PyData.canLay0 d = true ∧ PyData.depth d ≤ n
theorem DtAt.mono {H : Hp} {n m : Nat} {x : V} (h : DtAt H n x) (k : n ≤ m) : DtAt H m x := let ⟨d, r, c, e⟩ := h; ⟨d, r, c, Nat.le_trans e k⟩
theorem dts {H : Hp} {n : Nat} : ∀ {xs : List V}, (∀ x ∈ xs, DtAt H n x) → ∃ ds, RDs H xs ds ∧ PyData.canLayAll0 ds = true ∧ PyData.depthAll ds ≤ n ∧ ds.length = xs.length
  | [], _ => ⟨[], .nil, by simp [PyData.canLayAll0], by simp [PyData.depthAll], rfl⟩
  | x :: xs, h => by
    obtain ⟨d, r, c, e⟩ := h x List.mem_cons_self
    obtain ⟨ds, rs, cs, es, ls⟩ := dts (xs := xs) fun y m => h y (List.mem_cons_of_mem _ m)
    exact ⟨d :: ds, .cons r rs, by simp only [PyData.canLayAll0, c, cs, Bool.and_self], by simp only [PyData.depthAll]; exact Nat.max_le.mpr ⟨e, es⟩, by rw [List.length_cons, List.length_cons, ls]⟩
theorem dt_tup {H : Hp} {n : Nat} {p : Addr} {xs : List V} (h : H p = some (.tup xs)) (hx : ∀ x ∈ xs, DtAt H n x) : DtAt H (n + 1) (.ref p) := by
  obtain ⟨ds, rs, cs, es, _⟩ := dts hx
  exact ⟨.tuple ds, .tup h rs, by simp only [PyData.canLay0]; exact cs, by simp only [PyData.depth]; omega⟩
theorem dt_str {H : Hp} {n : Nat} {u : Str} (h : PyData.strOk u = true) : DtAt H n (.str u) := ⟨.str u, .str u, by simp only [PyData.canLay0]; exact h, by simp only [PyData.depth]; omega⟩
theorem dt_int {H : Hp} {n : Nat} {i : Int} : DtAt H n (.int i) := ⟨.int i, .int i, by simp only [PyData.canLay0], by simp only [PyData.depth]; omega⟩
theorem dt_strs {H : Hp} {n : Nat} {us : List Str} (h : ∀ u ∈ us, goodN u) : ∀ x ∈ us.map V.str, DtAt H n x := fun x hx => by
  obtain ⟨u, hu, rfl⟩ := List.mem_map.mp hx
  exact dt_str (good_str (h u hu))
theorem dt_two {H : Hp} {n : Nat} {x y : V} (h1 : DtAt H n x) (h2 : DtAt H n y) : ∀ z ∈ [x, y], DtAt H n z := fun z hz => by
  simp only [List.mem_cons, List.not_mem_nil, or_false] at hz
  rcases hz with rfl | rfl
  · exact h1
  · exact h2
mutual
theorem Tr.At.dt {H : Hp} : ∀ {t : Tr} {v : V}, t.ok → t.At H v → DtAt H (2 * t.dp + 2) v
  | .any, v, ho, h => by
    rw [Tr.At] at h
    rw [Tr.dp]
    obtain ⟨p, rfl, h⟩ := h
    exact dt_tup h fun x hx => by rw [List.mem_singleton.mp hx]; exact dt_str (by decide +kernel)
  | .kind us, v, ho, h => by
    rw [Tr.At] at h
    rw [Tr.ok] at ho
    rw [Tr.dp]
    obtain ⟨p, l, rfl, h, k⟩ := h
    exact dt_tup h (dt_two (dt_str (by decide +kernel)) (dt_tup k (dt_strs ho.2.2.1)))
  | .place us, v, ho, h => by
    rw [Tr.At] at h
    rw [Tr.ok] at ho
    rw [Tr.dp]
    obtain ⟨p, l, rfl, h, k⟩ := h
    exact dt_tup h (dt_two (dt_str (by decide +kernel)) (dt_tup k (dt_strs ho.2.2.1)))
  | .weight n, v, ho, h => by
    rw [Tr.At] at h
    rw [Tr.dp]
    obtain ⟨p, rfl, h⟩ := h
    exact dt_tup h (dt_two (dt_str (by decide +kernel)) dt_int)
  | .not t, v, ho, h => by
    rw [Tr.At] at h
    rw [Tr.ok] at ho
    rw [Tr.dp]
    obtain ⟨p, y, rfl, h, k⟩ := h
    exact (dt_tup h (dt_two (dt_str (by decide +kernel)) (Tr.At.dt ho k))).mono (by omega)
  | .both ts, v, ho, h => by
    rw [Tr.At] at h
    rw [Tr.ok] at ho
    rw [Tr.dp]
    obtain ⟨p, l, xs, rfl, h, k, m⟩ := h
    exact (dt_tup h (dt_two (dt_str (by decide +kernel)) (dt_tup k (Trs.At.dt ho.2.2 m)))).mono (by omega)
  | .either ts, v, ho, h => by
    rw [Tr.At] at h
    rw [Tr.ok] at ho
    rw [Tr.dp]
    obtain ⟨p, l, xs, rfl, h, k, m⟩ := h
    exact (dt_tup h (dt_two (dt_str (by decide +kernel)) (dt_tup k (Trs.At.dt ho.2.2 m)))).mono (by omega)
theorem Trs.At.dt {H : Hp} : ∀ {ts : Trs} {xs : List V}, ts.ok → ts.At H xs → ∀ x ∈ xs, DtAt H (2 * ts.dp + 2) x
  | .nil, xs, _, h => by
    rw [Trs.At] at h
    rw [h]
    intro x hx
    cases hx
  | .cons t ts, xs, ho, h => by
    rw [Trs.At] at h
    rw [Trs.ok] at ho
    rw [Trs.dp]
    obtain ⟨y, ys, rfl, h1, h2⟩ := h
    intro x hx
    rcases List.mem_cons.mp hx with rfl | hx
    · exact (Tr.At.dt ho.1 h1).mono (by omega)
    · exact (Trs.At.dt ho.2 h2 x hx).mono (by omega)
end
theorem eqd_nil {H : Hp} {p q : Addr} {xs : List V} {n : Nat} {b : Bool} {Q : VK} (h1 : H p = some (.lst xs)) (h2 : H q = some (.lst [])) (hn : n ≤ 60) (hx : ∀ x ∈ xs, DtAt H n x) (k : Q (.bl (xs.isEmpty == b)) H) : rEqD b (.ref p) (.ref q) H Q := by
  obtain ⟨ds, rs, cs, es, ls⟩ := dts hx
  refine ⟨_, _, .lst h1 rs, .lst h2 .nil, (shaped_of (Nat.le_trans es hn) ⟨cs, rfl⟩).1, (shaped_of (Nat.zero_le _) ⟨by simp [PyData.canLayAll0], by simp [PyData.depthAll]⟩).1, ?_⟩
  rw [eqv_nil]
  have : ds.isEmpty = xs.isEmpty := by
    cases ds <;> cases xs <;> first | rfl | cases ls
  rw [this]
  exact k
def ThAt (H : Hp) (x : V) (k p : Str) (w : Int) : Prop := ∃ tp, x = .ref tp ∧ H tp = some (.tup [.str k, .str p, .int w]) ∧ goodN k ∧ goodN p ∧ 0 ≤ w ∧ w < 1000000
theorem ThAt.same {H H' : Hp} {x : V} {k p : Str} {w : Int} (h : ThAt H x k p w) (s : Same H H') : ThAt H' x k p w := by
  obtain ⟨tp, e, h, r⟩ := h
  exact ⟨tp, e, s _ _ h, r⟩
end Bw
set_option Elab.async false
set_option linter.all false
set_option maxRecDepth 100000
set_option maxHeartbeats 1000000
namespace Bw
open PySem PySem.Spec PyProof.Rows L2
section
variable {prog : Program} {w : World} {A : Around} {E : Value → Shared → Prop}
theorem draw_lst {j l : Addr} {zs : Array Value} (hj : l ≠ j) (m : Nat) : ∀ (k : Nat) (s : Shared) (R : List Value → Shared → Prop), s.heap.IsListIter j l k → s.heap.IsList l zs → k + m ≤ zs.size →
    (∀ g, g.IsListIter j l (k + m) → Heap.SameBut j s.heap g → R ((zs.toList.drop k).take m) { s with heap := g }) → wpAny (model prog w) A (draw (.ref j) m) R E s := by
  induction m with
  | zero =>
    intro k s R a _ _ r
    exact wpAny_pure (by simpa using r s.heap a (Heap.SameBut.refl ..))
  | succ m ih =>
    intro k s R a b c r
    have hk : k < zs.size := by omega
    refine wpAny_bind (m := pyNext (.ref j)) (wpAny_pyNext_list_item a b (x := zs[k]) (by simp [hk]) fun g1 a1 s1 => wpAny_bind (wpAny_holding (ih (k + 1) _ _ a1 ?_ (by omega) fun g2 a2 s2 => wpAny_pure ?_)))
    · obtain ⟨o, e, q⟩ := b
      exact ⟨o, s1.extBut l o hj e, q⟩
    · have q := r g2 (by rw [show k + (m + 1) = k + 1 + m by omega]; exact a2) (s1.trans s2)
      have e : zs.toList.drop k = zs[k] :: zs.toList.drop (k + 1) := by simp [List.drop_eq_getElem_cons, hk]
      rw [e, List.take_succ_cons] at q
      exact q
theorem unpk_lst {s : Shared} {l : Addr} {zs : Array Value} {R : List Value → Shared → Prop} (hd : A.handled = none) (b : s.heap.IsList l zs) (r : ∀ g, Heap.ExtBut s.heap.objs.size s.heap g → R zs.toList { s with heap := g }) :
    wpAny (model prog w) A (unpackItems (.ref l) zs.size none) R E s := by
  have hl : l ≠ s.heap.objs.size := by obtain ⟨o, e, _⟩ := b; exact Nat.ne_of_lt (Heap.lt_size e)
  unfold unpackItems notIterableAtAll
  refine wpAny_bind (wpAny_bind (wpAny_specialOf b.typeIs F.slot_list_iter.lookup (wpAny_pure ?_)))
  simp only [Bool.false_eq_true, if_false]
  refine wpAny_bind (wpAny_holding (wpAny_pyIter_list b (wpAny_bind (wpAny_holding (draw_lst hl zs.size 0 _ _ ⟨_, Heap.get?_push_size _ rfl, rfl, rfl⟩ (b.push _) (by omega) fun g1 a1 s1 => ?_)))))
  rw [show List.take zs.size (List.drop 0 zs.toList) = zs.toList by rw [List.drop_zero]; exact List.take_of_length_le (by simp), if_neg (by simp)]
  have b1 : g1.IsList l zs := by
    obtain ⟨o, e, q⟩ := id b
    exact ⟨o, s1.extBut l o hl (Heap.get?_push_of_some _ e), q⟩
  refine wpAny_bind (wpAny_holding (wpAny_pyNext_list_end hd a1 b1 (by simp) fun g2 e2 => ?_))
  simp only [Option.isSome_none, Bool.false_eq_true, if_false]
  exact wpAny_pure (r g2 fun c o hc e => e2 c o hc (s1.extBut c o hc (Heap.get?_push_of_some _ e)))
end
section
variable {X : Cx} {pos : Pos}
def gLst (K : PySem.W.Frag) (n : Nat) (t : TGs) : TG := fun v σ H Q => ∃ a xs, v = .ref a ∧ SqL K H a xs ∧ xs.length = n ∧ t xs σ H Q
theorem w_gLst {K : PySem.W.Frag} {n : Nat} {t : TGs} {v : V} {σ : L2.St} {H : Hp} {QS : L2.St → Hp → Prop} : gLst K n t v σ H QS = ∃ a xs, v = .ref a ∧ SqL K H a xs ∧ xs.length = n ∧ t xs σ H QS := rfl
theorem pg_unl {es : List Expr} {k : Nat} {t : TGs} {n : Nat} (hc : X.calm = true) (h : PGs X es t)
    (hn : (assignEach es X.env).length = n := by rfl) (hst : (assignEach es X.env).findIdx? (·.1) = none := by rfl) : PG X (.Tuple es k pos) (gLst X.K n t) := by
  intro pins s σ H v u Q I r hw
  obtain ⟨a, xs, rfl, hq, hl, hw⟩ := hw
  cases r
  obtain ⟨its, rv, pl, hz⟩ := I.list hq
  rw [arm_assign_Tuple]
  refine wpAny_bind (wpAny_standAt ?_)
  unfold unpack
  rw [show (assignEach es X.env).length = its.toArray.size by simp [hn, ← hl, rv.length], hst]
  refine wpAny_bind (wpAny_holding (unpk_lst (I.ok.hd hc) pl.isList fun g hx => ?_))
  have I1 : Inv X pins σ H { s with heap := g } := I.kept (t' := s.toks) fun b o e => hx b o (Nat.ne_of_lt (Heap.lt_size e)) e
  exact h pins _ σ H xs _ Q I1 (by simpa using rv) hw
end
end Bw
set_option Elab.async false
set_option linter.all false
set_option maxRecDepth 100000
set_option maxHeartbeats 8000000
namespace Bw
open PySem L2
local macro_rules | `(tactic| walk_at "w0") => `(tactic| try simp only [w_seq, w_next, w_ifS, w_ret, w_retN, w_drop, w_asg, w_gName, w_gSub, w_var, w_c, w_op, w_un, w_rU, w_rI0, w_rI, w_test, w_b, w_and, w_or, w_not, w_andV, w_orV, w_notV, w_if, w_cons, w_nil, w_tup, w_lst, w_call, w_cB, w_eq, w_ne, w_isN, w_notN, w_chain, w_sl, w_part, w_noPart, w_forL, w_for1, w_for2, w_K, w_for3, w_isnotB, w_raise, w_try, w_KX, w_cut, w_compL, w_comp1, w_comp2, w_yes, w_pick0, w_pickN, w_pickS, w_bm, w_bm0, w_tyS, w_addS, w_slS, w_blkK, w_strs, w_methD, w_makeN, w_make, w_fld, w_gTup, w_gCons, w_gNil, w_sFld, w_compS, w_tryB, w_bmake, w_noKeys, w_compT, w_forT, w_revL, w_gLst, w_bIf, w_makeK, w_nev, w_never, Option.getD_some,  exists_const, false_or, or_false, exists_false, w_s1, w_s2, w_s3, w_s4, w_s5, L2.start, List.map_cons, List.map_nil, List.length_cons, List.length_nil, List.replicate, List.replicate_zero, List.replicate_succ, Nat.reduceAdd, Nat.reduceSub, Nat.reduceLeDiff, List.cons_append, List.nil_append, List.append_nil, List.set_cons_zero, List.set_cons_succ, List.getElem?_cons_zero, List.getElem?_cons_succ, Option.some.injEq, V.int.injEq, V.bl.injEq, V.ref.injEq, V.str.injEq, V.ty.injEq, List.cons.injEq, and_true, true_and, exists_eq_left, exists_eq_left', exists_and_left, exists_eq, exists_eq', and_self, decide_eq_true_eq, Bool.not_eq_true', decide_eq_false_iff_not, Bool.true_eq_false, Bool.false_eq_true, if_true, if_false, ite_true, ite_false, false_and, and_false, and_assoc, reduceCtorEq])
local macro_rules | `(tactic| exists $[$es:term],*) => `(tactic| try simp only [$[$es:term],*, w_seq, w_next, w_ifS, w_ret, w_retN, w_drop, w_asg, w_gName, w_gSub, w_var, w_c, w_op, w_un, w_rU, w_rI0, w_rI, w_test, w_b, w_and, w_or, w_not, w_andV, w_orV, w_notV, w_if, w_cons, w_nil, w_tup, w_lst, w_call, w_cB, w_eq, w_ne, w_isN, w_notN, w_chain, w_sl, w_part, w_noPart, w_forL, w_for1, w_for2, w_K, w_for3, w_isnotB, w_raise, w_try, w_KX, w_cut, w_compL, w_comp1, w_comp2, w_yes, w_pick0, w_pickN, w_pickS, w_bm, w_bm0, w_tyS, w_addS, w_slS, w_blkK, w_strs, w_methD, w_makeN, w_make, w_fld, w_gTup, w_gCons, w_gNil, w_sFld, w_compS, w_tryB, w_bmake, w_noKeys, w_compT, w_forT, w_revL, w_gLst, w_bIf, w_makeK, w_nev, w_never, Option.getD_some,  exists_const, false_or, or_false, exists_false, w_s1, w_s2, w_s3, w_s4, w_s5, L2.start, List.map_cons, List.map_nil, List.length_cons, List.length_nil, List.replicate, List.replicate_zero, List.replicate_succ, Nat.reduceAdd, Nat.reduceSub, Nat.reduceLeDiff, List.cons_append, List.nil_append, List.append_nil, List.set_cons_zero, List.set_cons_succ, List.getElem?_cons_zero, List.getElem?_cons_succ, Option.some.injEq, V.int.injEq, V.bl.injEq, V.ref.injEq, V.str.injEq, V.ty.injEq, List.cons.injEq, and_true, true_and, exists_eq_left, exists_eq_left', exists_and_left, exists_eq, exists_eq', and_self, decide_eq_true_eq, Bool.not_eq_true', decide_eq_false_iff_not, Bool.true_eq_false, Bool.false_eq_true, if_true, if_false, ite_true, ite_false, false_and, and_false, and_assoc, reduceCtorEq])
def top (i : Nat) : Stmt := PySem.Challenge.pw_bellsaway_k09_whole_fits_turned.main.body.getD i (.Pass ⟨0, 0, 0, 0⟩)
abbrev s_is_whole : Stmt := top 6
theorem sc_is_whole : FnScope ["thing"] ["thing"] (defScope s_is_whole) := ⟨rfl, rfl, rfl, by decide +kernel, rfl, by decide +kernel, by decide +kernel⟩
abbrev s_is_whole_from : Stmt := top 7
theorem sc_is_whole_from : FnScope ["thing", "least"] ["thing", "least"] (defScope s_is_whole_from) := ⟨rfl, rfl, rfl, by decide +kernel, rfl, by decide +kernel, by decide +kernel⟩
abbrev s_is_name : Stmt := top 11
theorem sc_is_name : FnScope ["thing"] ["thing"] (defScope s_is_name) := ⟨rfl, rfl, rfl, by decide +kernel, rfl, by decide +kernel, by decide +kernel⟩
abbrev s_Happening___init__ : Stmt := inClass (top 12) 0
theorem sc_Happening___init__ : FnScope ["self", "kind", "place", "weight"] ["self", "kind", "place", "weight"] (defScope s_Happening___init__) := ⟨rfl, rfl, rfl, by decide +kernel, rfl, by decide +kernel, by decide +kernel⟩
abbrev s_are_unlike_names : Stmt := top 14
theorem sc_are_unlike_names : FnScope ["thing"] ["thing"] (defScope s_are_unlike_names) := ⟨rfl, rfl, rfl, by decide +kernel, rfl, by decide +kernel, by decide +kernel⟩
abbrev s_Any_fits_it : Stmt := inClass (top 17) 0
theorem sc_Any_fits_it : FnScope ["self", "happening"] ["self", "happening"] (defScope s_Any_fits_it) := ⟨rfl, rfl, rfl, by decide +kernel, rfl, by decide +kernel, by decide +kernel⟩
abbrev s_Kind___init__ : Stmt := inClass (top 18) 0
theorem sc_Kind___init__ : FnScope ["self", "names"] ["self", "names"] (defScope s_Kind___init__) := ⟨rfl, rfl, rfl, by decide +kernel, rfl, by decide +kernel, by decide +kernel⟩
abbrev s_Kind_fits_it : Stmt := inClass (top 18) 1
theorem sc_Kind_fits_it : FnScope ["self", "happening"] ["self", "happening"] (defScope s_Kind_fits_it) := ⟨rfl, rfl, rfl, by decide +kernel, rfl, by decide +kernel, by decide +kernel⟩
abbrev s_Place___init__ : Stmt := inClass (top 19) 0
theorem sc_Place___init__ : FnScope ["self", "names"] ["self", "names"] (defScope s_Place___init__) := ⟨rfl, rfl, rfl, by decide +kernel, rfl, by decide +kernel, by decide +kernel⟩
abbrev s_Place_fits_it : Stmt := inClass (top 19) 1
theorem sc_Place_fits_it : FnScope ["self", "happening"] ["self", "happening"] (defScope s_Place_fits_it) := ⟨rfl, rfl, rfl, by decide +kernel, rfl, by decide +kernel, by decide +kernel⟩
abbrev s_Least___init__ : Stmt := inClass (top 20) 0
theorem sc_Least___init__ : FnScope ["self", "weight"] ["self", "weight"] (defScope s_Least___init__) := ⟨rfl, rfl, rfl, by decide +kernel, rfl, by decide +kernel, by decide +kernel⟩
abbrev s_Least_fits_it : Stmt := inClass (top 20) 1
theorem sc_Least_fits_it : FnScope ["self", "happening"] ["self", "happening"] (defScope s_Least_fits_it) := ⟨rfl, rfl, rfl, by decide +kernel, rfl, by decide +kernel, by decide +kernel⟩
abbrev s_Not___init__ : Stmt := inClass (top 21) 0
theorem sc_Not___init__ : FnScope ["self", "fit"] ["self", "fit"] (defScope s_Not___init__) := ⟨rfl, rfl, rfl, by decide +kernel, rfl, by decide +kernel, by decide +kernel⟩
abbrev s_Not_fits_it : Stmt := inClass (top 21) 1
theorem sc_Not_fits_it : FnScope ["self", "happening"] ["self", "happening"] (defScope s_Not_fits_it) := ⟨rfl, rfl, rfl, by decide +kernel, rfl, by decide +kernel, by decide +kernel⟩
abbrev s_Both___init__ : Stmt := inClass (top 22) 0
theorem sc_Both___init__ : FnScope ["self", "fits"] ["self", "fits"] (defScope s_Both___init__) := ⟨rfl, rfl, rfl, by decide +kernel, rfl, by decide +kernel, by decide +kernel⟩
abbrev s_Both_fits_it : Stmt := inClass (top 22) 1
theorem sc_Both_fits_it : FnScope ["self", "happening"] ["self", "happening"] (defScope s_Both_fits_it) := ⟨rfl, rfl, rfl, by decide +kernel, rfl, by decide +kernel, by decide +kernel⟩
abbrev s_Either___init__ : Stmt := inClass (top 23) 0
theorem sc_Either___init__ : FnScope ["self", "fits"] ["self", "fits"] (defScope s_Either___init__) := ⟨rfl, rfl, rfl, by decide +kernel, rfl, by decide +kernel, by decide +kernel⟩
abbrev s_Either_fits_it : Stmt := inClass (top 23) 1
theorem sc_Either_fits_it : FnScope ["self", "happening"] ["self", "happening"] (defScope s_Either_fits_it) := ⟨rfl, rfl, rfl, by decide +kernel, rfl, by decide +kernel, by decide +kernel⟩
abbrev s_check_names : Stmt := top 24
theorem sc_check_names : FnScope ["names"] ["names"] (defScope s_check_names) := ⟨rfl, rfl, rfl, by decide +kernel, rfl, by decide +kernel, by decide +kernel⟩
abbrev s_check_fit : Stmt := top 25
theorem sc_check_fit : FnScope ["fit"] ["fit"] (defScope s_check_fit) := ⟨rfl, rfl, rfl, by decide +kernel, rfl, by decide +kernel, by decide +kernel⟩
abbrev s_check_fits : Stmt := top 26
theorem sc_check_fits : FnScope ["fits", "fit"] ["fits"] (defScope s_check_fits) := ⟨rfl, rfl, rfl, by decide +kernel, rfl, by decide +kernel, by decide +kernel⟩
abbrev s_law_cell_at : Stmt := top 28
theorem sc_law_cell_at : FnScope ["_law_script", "_law_k"] ["_law_script", "_law_k"] (defScope s_law_cell_at) := ⟨rfl, rfl, rfl, by decide +kernel, rfl, by decide +kernel, by decide +kernel⟩
abbrev s_law_begin : Stmt := top 29
theorem sc_law_begin : FnScope ["_law_cell"] ["_law_cell"] (defScope s_law_begin) := ⟨rfl, rfl, rfl, by decide +kernel, rfl, by decide +kernel, by decide +kernel⟩
abbrev s_law_next : Stmt := top 30
theorem sc_law_next : FnScope ["_law_state", "_law_base", "_law_found", "_law_number"] ["_law_state", "_law_base"] (defScope s_law_next) := ⟨rfl, rfl, rfl, by decide +kernel, rfl, by decide +kernel, by decide +kernel⟩
abbrev s_law_name : Stmt := top 31
theorem sc_law_name : FnScope ["_law_state", "_law_letters", "_law_way", "_law_some", "_law_word", "_law_at"] ["_law_state"] (defScope s_law_name) := ⟨rfl, rfl, rfl, by decide +kernel, rfl, by decide +kernel, by decide +kernel⟩
abbrev s_law_leaf : Stmt := top 32
theorem sc_law_leaf : FnScope ["_law_state", "_law_more", "_law_kind", "_law_names", "_law_k", "_law_name_here"] ["_law_state", "_law_more"] (defScope s_law_leaf) := ⟨rfl, rfl, rfl, by decide +kernel, rfl, by decide +kernel, by decide +kernel⟩
abbrev s_law_tree : Stmt := top 33
theorem sc_law_tree : FnScope ["_law_state", "_law_deep", "_law_more", "_law_kind", "_law_parts"] ["_law_state", "_law_deep", "_law_more"] (defScope s_law_tree) := ⟨rfl, rfl, rfl, by decide +kernel, rfl, by decide +kernel, by decide +kernel⟩
abbrev s_law_made : Stmt := top 34
theorem sc_law_made : FnScope ["_law_tree_here"] ["_law_tree_here"] (defScope s_law_made) := ⟨rfl, rfl, rfl, by decide +kernel, rfl, by decide +kernel, by decide +kernel⟩
abbrev s_law_gathered : Stmt := top 35
theorem sc_law_gathered : FnScope ["_law_tree_here", "_law_word", "_law_found", "_law_part"] ["_law_tree_here", "_law_word"] (defScope s_law_gathered) := ⟨rfl, rfl, rfl, by decide +kernel, rfl, by decide +kernel, by decide +kernel⟩
abbrev s_law_pick : Stmt := top 36
theorem sc_law_pick : FnScope ["_law_state", "_law_some"] ["_law_state", "_law_some"] (defScope s_law_pick) := ⟨rfl, rfl, rfl, by decide +kernel, rfl, by decide +kernel, by decide +kernel⟩
abbrev s_law_things : Stmt := top 37
theorem sc_law_things : FnScope ["_law_script", "_law_trees", "_law_whole", "_law_kinds", "_law_places", "_law_weights", "_law_found", "_law_cell", "_law_state", "_law_weight"] ["_law_script", "_law_trees"] (defScope s_law_things) := ⟨rfl, rfl, rfl, by decide +kernel, rfl, by decide +kernel, by decide +kernel⟩
abbrev s_law_pairs : Stmt := top 38
theorem sc_law_pairs : FnScope ["_law_a", "_law_b", "_law_c", "_law_found"] ["_law_a", "_law_b", "_law_c"] (defScope s_law_pairs) := ⟨rfl, rfl, rfl, by decide +kernel, rfl, by decide +kernel, by decide +kernel⟩
abbrev s_law : Stmt := top 39
theorem sc_law : FnScope ["_law_script", "_law_state", "_law_trees", "_law_a", "_law_b", "_law_c", "_law_pairs_here", "_law_things_here", "_law_thing", "_law_one", "_law_other", "_law_found", "_law_fit"] ["_law_script"] (defScope s_law) := ⟨rfl, rfl, rfl, by decide +kernel, rfl, by decide +kernel, by decide +kernel⟩
structure Ad where
  Happening : Addr
  Fit : Addr
  Any : Addr
  Kind : Addr
  Place : Addr
  Least : Addr
  Not : Addr
  Both : Addr
  Either : Addr
  t0 : Tok
  t1 : Tok
structure Bt (K : PySem.W.Frag) (mg : Str → Option Value) (a : Ad) : Prop where
  len : mg "len" = none
  int : mg "int" = none
  bool : mg "bool" = none
  str : mg "str" = none
  tuple : mg "tuple" = none
  list : mg "list" = none
  all : mg "all" = none
  any : mg "any" = none
  isinstance : mg "isinstance" = none
  range : mg "range" = none
  set : mg "set" = none
  max : mg "max" = none
  min : mg "min" = none
  LETTERS : mg "LETTERS" = some (.str "abcdefghijklmnopqrstuvwxyz" a.t0)
  MOST_LETTERS : mg "MOST_LETTERS" = some (.int 8 a.t1)
  Happening : mg "Happening" = some (.ref a.Happening)
  Fit : mg "Fit" = some (.ref a.Fit)
  Any : mg "Any" = some (.ref a.Any)
  Kind : mg "Kind" = some (.ref a.Kind)
  Place : mg "Place" = some (.ref a.Place)
  Least : mg "Least" = some (.ref a.Least)
  Not : mg "Not" = some (.ref a.Not)
  Both : mg "Both" = some (.ref a.Both)
  Either : mg "Either" = some (.ref a.Either)
  ck_Any : ClsK K a.Any
  ck_Kind : ClsK K a.Kind
  na_Kind_names : NoAttr K a.Kind "names"
  ck_Place : ClsK K a.Place
  na_Place_names : NoAttr K a.Place "names"
  ck_Least : ClsK K a.Least
  na_Least_weight : NoAttr K a.Least "weight"
  ck_Not : ClsK K a.Not
  na_Not_fit : NoAttr K a.Not "fit"
  ck_Both : ClsK K a.Both
  na_Both_fits : NoAttr K a.Both "fits"
  ck_Either : ClsK K a.Either
  na_Either_fits : NoAttr K a.Either "fits"
  ck_Happening : ClsK K a.Happening
  na_Happening_kind : NoAttr K a.Happening "kind"
  na_Happening_place : NoAttr K a.Happening "place"
  na_Happening_weight : NoAttr K a.Happening "weight"
  is_Any_Fit : PySem.W.kitOne K (.ref a.Any) (.ref a.Fit) = some true
  is_Kind_Fit : PySem.W.kitOne K (.ref a.Kind) (.ref a.Fit) = some true
  is_Place_Fit : PySem.W.kitOne K (.ref a.Place) (.ref a.Fit) = some true
  is_Least_Fit : PySem.W.kitOne K (.ref a.Least) (.ref a.Fit) = some true
  is_Not_Fit : PySem.W.kitOne K (.ref a.Not) (.ref a.Fit) = some true
  is_Both_Fit : PySem.W.kitOne K (.ref a.Both) (.ref a.Fit) = some true
  is_Either_Fit : PySem.W.kitOne K (.ref a.Either) (.ref a.Fit) = some true
  mk_Any : MkN K a.Any
def okI (K : PySem.W.Frag) (H : Hp) (x : V) : Prop := ∃ t, TyOf K H x t ∧ PySem.W.kitOne K t (.type "int") = some (isIntV x) ∧ PySem.W.kitOne K t (.type "bool") = some (isBoolV x)
def okK (K : PySem.W.Frag) (c : Value) (H : Hp) (x : V) (b : Bool) : Prop := ∃ t, TyOf K H x t ∧ PySem.W.kitOne K t c = some b
abbrev noL (K : PySem.W.Frag) (H : Hp) (x : V) : Prop := ∃ t, TyOf K H x t ∧ PySem.W.kitOne K t (.type "list") = some false
theorem okI.same {K : PySem.W.Frag} {H H' : Hp} {x : V} (h : okI K H x) (s : Same H H') : okI K H' x := let ⟨t, y, r⟩ := h; ⟨t, TyOf.same y s, r⟩
theorem okK.same {K : PySem.W.Frag} {c : Value} {H H' : Hp} {x : V} {b : Bool} (h : okK K c H x b) (s : Same H H') : okK K c H' x b := let ⟨t, y, r⟩ := h; ⟨t, TyOf.same y s, r⟩
theorem okI.but3 {K : PySem.W.Frag} {H H' : Hp} {w : Addr} {x : V} (h : okI K H x) (W0 : Well3 H w) (W : Well3 H' w) (s : But w H H') : okI K H' x := let ⟨t, y, r⟩ := h; ⟨t, TyOf.but3 y W0 W s, r⟩
theorem okK.but3 {K : PySem.W.Frag} {c : Value} {H H' : Hp} {w : Addr} {x : V} {b : Bool} (h : okK K c H x b) (W0 : Well3 H w) (W : Well3 H' w) (s : But w H H') : okK K c H' x b := let ⟨t, y, r⟩ := h; ⟨t, TyOf.but3 y W0 W s, r⟩
def strV : V → Str
  | .str u => u
  | _ => Str.empty
def namesB (xs : List V) : Bool := xs.all nameB && decide ((xs.map strV).Nodup)
theorem nameB_str {x : V} (h : nameB x = true) : x = .str (strV x) := by cases x <;> first | rfl | cases h
theorem all_str : ∀ {xs : List V}, xs.all nameB = true → xs = (xs.map strV).map V.str
  | [], _ => rfl
  | x :: xs, h => by
    simp only [List.all_cons, Bool.and_eq_true] at h
    rw [List.map_cons, List.map_cons, ← nameB_str h.1, ← all_str h.2]
def NmIs (K : PySem.W.Frag) (H : Hp) (x : V) (b : Bool) : Prop := (∃ p xs, x = .ref p ∧ H p = some (.lst xs) ∧ xs.length ≤ 100 ∧ (∀ y ∈ xs, okN H y) ∧ b = namesB xs) ∨ (b = false ∧ noL K H x)
theorem putF_new {k : Str} {v : V} : ∀ {fs : List (Str × V)}, (∀ q ∈ fs, q.1 ≠ k) → putF k v fs = fs ++ [(k, v)]
  | [], _ => rfl
  | (k0, v0) :: fs, h => by
    show (if k0 = k then _ else _ : List (Str × V)) = _
    rw [if_neg (h (k0, v0) List.mem_cons_self), putF_new fun q hq => h q (List.mem_cons_of_mem _ hq)]
    rfl
theorem same_id (H : Hp) : Same H H := fun _ _ z => z
def tHold (t : TS) : TS := t
theorem w_hold {t : TS} {D : Ends} {σ : L2.St} {H : Hp} : tHold t D σ H = t D σ H := rfl
theorem hold_ret {t : TE} {nx : L2.St → Hp → Prop} {rt : VK} {bk ct : L2.St → Hp → Prop} {σ : L2.St} {H : Hp} (h : t σ H rt) : tHold (tRet t) { nx := nx, rt := rt, bk := bk, ct := ct } σ H := h
theorem qss_hold {X : Cx} {b : List Stmt} {t : TS} (h : QSs X b t) : QSs X b (tHold t) := h
theorem made_but {H H' : Hp} {x dx : Addr} {o o' : HO} (hx : H x = none) (hd : H dx = none) (b : But x (upd (upd H dx o) x o') H') : Same H H' := fun c u e => b c u (ne_of_none e hx) (made_same hx hd c u e)
abbrev fc (a : Ad) : FC := ⟨a.Any, a.Kind, a.Place, a.Least, a.Not, a.Both, a.Either⟩
def hFs (k p : Str) (w : Int) : List (Str × V) := [("kind", .str k), ("place", .str p), ("weight", .int w)]
def sp_fits (a : Ad) (i d : Nat) : Sp := fun vs H Q E => ∃ (v : V) (t : Tr) (hp dh : Addr) (k l : Str) (w : Int), vs = [v, .ref hp] ∧ t.tag = i ∧ t.dp < d ∧ t.ok ∧ t.Fit (fc a) H v ∧ H hp = some (.ins a.Happening dh (hFs k l w)) ∧ ∀ H', Same H H' → Q (.bl (t.ev k l w)) H'
theorem sp0_fits_it {a : Ad} {i : Nat} : ∀ vs H Q E, ¬ sp_fits a i 0 vs H Q E := by
  rintro vs H Q E ⟨v, t, hp, dh, k, l, w, _, _, h, _⟩
  exact absurd h (Nat.not_lt_zero _)
def Mm_fits_it (_ : PySem.W.Frag) (a : Ad) (d : Nat) (C : Addr) (sp : Sp) : Prop := ∃ t : Tr, C = t.cls (fc a) ∧ sp = sp_fits a t.tag d
theorem ft_at {K : PySem.W.Frag} {a : Ad} {H : Hp} {t : Tr} {p hp dh : Addr} {k l : Str} {w : Int} {d : Nat} {Q : VK} (h : t.Fit (fc a) H (.ref p)) (hd : t.dp < d) (ho : t.ok) (hh : H hp = some (.ins a.Happening dh (hFs k l w))) (q : ∀ H', Same H H' → Q (.bl (t.ev k l w)) H') :
    ∃ C dx fs, H p = some (.ins C dx fs) ∧ fs.lookup ("fits_it" : Str) = none ∧ ∃ sp, Mm_fits_it K a d C sp ∧ sp [.ref p, .ref hp] H Q E0 := by
  obtain ⟨p', dx, fs, e, hp', lk⟩ := h.ins
  cases e
  exact ⟨_, dx, fs, hp', lk, _, ⟨t, rfl, rfl⟩, .ref p, t, hp, dh, k, l, w, rfl, rfl, hd, ho, h, hh, q⟩
def gdV (wd : Str) (x : V) : Prop := (wd = "weight" ∧ ∃ n : Int, x = .int n ∧ 0 ≤ n ∧ n < 1000000) ∨ (wd ≠ "weight" ∧ ∃ u, x = .str u ∧ goodN u)
def HapAt (a : Ad) (H : Hp) (x : V) (k p : Str) (w : Int) : Prop := ∃ hp dh, x = .ref hp ∧ H hp = some (.ins a.Happening dh (hFs k p w))
theorem HapAt.same {a : Ad} {H H' : Hp} {x : V} {k p : Str} {w : Int} (h : HapAt a H x k p w) (s : Same H H') : HapAt a H' x k p w := by
  obtain ⟨hp, dh, e, h⟩ := h
  exact ⟨hp, dh, e, s _ _ h⟩
def PrAt (a : Ad) (H : Hp) (z : V) : Prop := ∃ (tp : Addr) (x y : V) (s t : Tr), z = .ref tp ∧ H tp = some (.tup [x, y]) ∧ s.Fit (fc a) H x ∧ t.Fit (fc a) H y ∧ s.ok ∧ t.ok ∧ s.dp < 10 ∧ t.dp < 10 ∧ ∀ k p w, s.ev k p w = t.ev k p w
theorem PrAt.same {a : Ad} {H H' : Hp} {z : V} (h : PrAt a H z) (S : Same H H') : PrAt a H' z := by
  obtain ⟨tp, x, y, s, t, e, h1, h2, h3, r⟩ := h
  exact ⟨tp, x, y, s, t, e, S _ _ h1, h2.same S, h3.same S, r⟩
def sp_is_whole (K : PySem.W.Frag) (a : Ad) : Sp := fun vs H Q E => ∃ x, vs = [x] ∧ okI K H x ∧ Q (.bl (wholeV x)) H
def sp_is_whole_from (K : PySem.W.Frag) (a : Ad) : Sp := fun vs H Q E => ∃ x lo, vs = [x, .int lo] ∧ okI K H x ∧ Q (.bl (fromV x lo)) H
def sp_is_name (K : PySem.W.Frag) (a : Ad) : Sp := fun vs H Q E => ∃ x, vs = [x] ∧ okN H x ∧ ∀ H', Same H H' → Q (.bl (nameB x)) H'
def sp_Happening___init__ (K : PySem.W.Frag) (a : Ad) : Sp := fun vs H Q E => ∃ (p dx : Addr) (k l : Str) (w : Int), vs = [.ref p, .str k, .str l, .int w] ∧ H p = some (.ins a.Happening dx []) ∧ goodN k ∧ goodN l ∧ 0 ≤ w ∧ ∀ H', But p H H' → H' p = some (.ins a.Happening dx (hFs k l w)) → Q .non H'
def sp_are_unlike_names (K : PySem.W.Frag) (a : Ad) : Sp := fun vs H Q E => ∃ (x : V) (b : Bool), vs = [x] ∧ NmIs K H x b ∧ ∀ H', Same H H' → Q (.bl b) H'
abbrev sp_Any_fits_it (_ : PySem.W.Frag) (a : Ad) (d : Nat) : Sp := sp_fits a 0 d
def sp_Kind___init__ (K : PySem.W.Frag) (a : Ad) : Sp := fun vs H Q E => ∃ (p dx l : Addr) (us : List Str), vs = [.ref p, .ref l] ∧ H p = some (.ins a.Kind dx []) ∧ H l = some (.lst (us.map V.str)) ∧ okNs us ∧ ∀ l' H', But p H H' → H' l' = some (.lst (us.map V.str)) → H' p = some (.ins a.Kind dx [("names", .ref l')]) → Q .non H'
abbrev sp_Kind_fits_it (_ : PySem.W.Frag) (a : Ad) (d : Nat) : Sp := sp_fits a 1 d
def sp_Place___init__ (K : PySem.W.Frag) (a : Ad) : Sp := fun vs H Q E => ∃ (p dx l : Addr) (us : List Str), vs = [.ref p, .ref l] ∧ H p = some (.ins a.Place dx []) ∧ H l = some (.lst (us.map V.str)) ∧ okNs us ∧ ∀ l' H', But p H H' → H' l' = some (.lst (us.map V.str)) → H' p = some (.ins a.Place dx [("names", .ref l')]) → Q .non H'
abbrev sp_Place_fits_it (_ : PySem.W.Frag) (a : Ad) (d : Nat) : Sp := sp_fits a 2 d
def sp_Least___init__ (K : PySem.W.Frag) (a : Ad) : Sp := fun vs H Q E => ∃ (p dx : Addr) (n : Int), vs = [.ref p, .int n] ∧ H p = some (.ins a.Least dx []) ∧ 0 ≤ n ∧ Q .non (upd H p (.ins a.Least dx [("weight", .int n)]))
abbrev sp_Least_fits_it (_ : PySem.W.Frag) (a : Ad) (d : Nat) : Sp := sp_fits a 3 d
def sp_Not___init__ (K : PySem.W.Frag) (a : Ad) : Sp := fun vs H Q E => ∃ (p dx : Addr) (v : V) (t : Tr), vs = [.ref p, v] ∧ H p = some (.ins a.Not dx []) ∧ t.Fit (fc a) H v ∧ Q .non (upd H p (.ins a.Not dx [("fit", v)]))
abbrev sp_Not_fits_it (_ : PySem.W.Frag) (a : Ad) (d : Nat) : Sp := sp_fits a 4 d
def sp_Both___init__ (K : PySem.W.Frag) (a : Ad) : Sp := fun vs H Q E => ∃ (p dx l : Addr) (xs : List V) (ts : List Tr), vs = [.ref p, .ref l] ∧ H p = some (.ins a.Both dx []) ∧ H l = some (.lst xs) ∧ All2 (Tr.Fit (fc a) H) ts xs ∧ 2 ≤ xs.length ∧ xs.length ≤ 100 ∧ ∀ l' H', But p H H' → H' l' = some (.lst xs) → H' p = some (.ins a.Both dx [("fits", .ref l')]) → Q .non H'
abbrev sp_Both_fits_it (_ : PySem.W.Frag) (a : Ad) (d : Nat) : Sp := sp_fits a 5 d
def sp_Either___init__ (K : PySem.W.Frag) (a : Ad) : Sp := fun vs H Q E => ∃ (p dx l : Addr) (xs : List V) (ts : List Tr), vs = [.ref p, .ref l] ∧ H p = some (.ins a.Either dx []) ∧ H l = some (.lst xs) ∧ All2 (Tr.Fit (fc a) H) ts xs ∧ 2 ≤ xs.length ∧ xs.length ≤ 100 ∧ ∀ l' H', But p H H' → H' l' = some (.lst xs) → H' p = some (.ins a.Either dx [("fits", .ref l')]) → Q .non H'
abbrev sp_Either_fits_it (_ : PySem.W.Frag) (a : Ad) (d : Nat) : Sp := sp_fits a 6 d
def sp_check_names (K : PySem.W.Frag) (a : Ad) : Sp := fun vs H Q E => ∃ (l : Addr) (us : List Str), vs = [.ref l] ∧ H l = some (.lst (us.map V.str)) ∧ okNs us ∧ ∀ H', Same H H' → Q .non H'
def sp_check_fit (K : PySem.W.Frag) (a : Ad) : Sp := fun vs H Q E => ∃ (v : V) (t : Tr), vs = [v] ∧ t.Fit (fc a) H v ∧ Q .non H
def sp_check_fits (K : PySem.W.Frag) (a : Ad) : Sp := fun vs H Q E => ∃ (l : Addr) (xs : List V) (ts : List Tr), vs = [.ref l] ∧ H l = some (.lst xs) ∧ All2 (Tr.Fit (fc a) H) ts xs ∧ 2 ≤ xs.length ∧ xs.length ≤ 100 ∧ Q .non H
def sp_law_cell_at (K : PySem.W.Frag) (a : Ad) : Sp := fun vs H Q E => ∃ (b : Addr) (ns : List Int) (k : Int), vs = [.ref b, .int k] ∧ SqL K H b (ns.map V.int) ∧ 0 ≤ k ∧ ∀ c, Q (.int c) H
def sp_law_begin (K : PySem.W.Frag) (a : Ad) : Sp := fun vs H Q E => ∃ c : Int, vs = [.int c] ∧ ∀ p a b c, H p = none → Q (.ref p) (upd H p (.lst [.int a, .int b, .int c]))
def sp_law_next (K : PySem.W.Frag) (a : Ad) : Sp := fun vs H Q E => ∃ (w : Addr) (m : Int), vs = [.ref w, .int m] ∧ Well3 H w ∧ 0 < m ∧ m < 2 ^ 62 ∧ ∀ (r : Int) (H' : Hp), 0 ≤ r → r < m → Well3 H' w → But w H H' → Q (.int r) H'
def sp_law_name (K : PySem.W.Frag) (a : Ad) : Sp := fun vs H Q E => ∃ w : Addr, vs = [.ref w] ∧ Well3 H w ∧ ∀ (u : Str) (H' : Hp), goodN u → Well3 H' w → But w H H' → Q (.str u) H'
def sp_law_leaf (K : PySem.W.Frag) (a : Ad) : Sp := fun vs H Q E => ∃ (w : Addr) (m : Int), vs = [.ref w, .int m] ∧ Well3 H w ∧ 0 ≤ m ∧ m ≤ 5 ∧ ∀ (v : V) (t : Tr) (H' : Hp), t.At H' v → t.ok → t.dp = 0 → t.cnt ≤ 6 → Well3 H' w → But w H H' → Q v H'
def sp_law_tree (K : PySem.W.Frag) (a : Ad) (d : Nat) : Sp := fun vs H Q E => ∃ (w : Addr) (i : Nat) (m : Int), i < d ∧ vs = [.ref w, .int i, .int m] ∧ Well3 H w ∧ i ≤ 3 ∧ 0 ≤ m ∧ m ≤ 5 ∧ ∀ (v : V) (t : Tr) (H' : Hp), t.At H' v → t.ok → t.dp ≤ i → t.cnt ≤ 6 * 3 ^ i → Well3 H' w → But w H H' → Q v H'
def sp_law_made (K : PySem.W.Frag) (a : Ad) (d : Nat) : Sp := fun vs H Q E => ∃ (v : V) (t : Tr), t.dp < d ∧ vs = [v] ∧ t.At H v ∧ t.ok ∧ ∀ v' H', Same H H' → t.Fit (fc a) H' v' → Q v' H'
def sp_law_gathered (K : PySem.W.Frag) (a : Ad) (d : Nat) : Sp := fun vs H Q E => ∃ (v : V) (t : Tr) (wd : Str), t.dp < d ∧ vs = [v, .str wd] ∧ t.At H v ∧ t.ok ∧ t.cnt ≤ 200 ∧ (wd = "kind" ∨ wd = "place" ∨ wd = "weight") ∧ ∀ (l : Addr) (xs : List V) (H' : Hp), Same H H' → H l = none → H' l = some (.lst xs) → xs.length ≤ t.cnt → (∀ x ∈ xs, gdV wd x) → Q (.ref l) H'
def sp_law_pick (K : PySem.W.Frag) (a : Ad) : Sp := fun vs H Q E => ∃ (w l : Addr) (xs : List V), vs = [.ref w, .ref l] ∧ Well3 H w ∧ l ≠ w ∧ H l = some (.lst xs) ∧ xs.length ≤ 1000 ∧ (∀ x ∈ xs, ∃ u, x = .str u ∧ goodN u) ∧ ∀ (u : Str) (H' : Hp), goodN u → Well3 H' w → But w H H' → Q (.str u) H'
def sp_law_things (K : PySem.W.Frag) (a : Ad) : Sp := fun vs H Q E => ∃ (sc l : Addr) (ns : List Int) (vs0 : List V) (ts : List Tr), vs = [.ref sc, .ref l] ∧ SqL K H sc (ns.map V.int) ∧ ns.length ≤ 63 ∧ H l = some (.lst vs0) ∧ All2 (Tr.At H) ts vs0 ∧ ts.length = 3 ∧ (∀ t ∈ ts, t.ok ∧ t.dp ≤ 2 ∧ t.cnt ≤ 54) ∧ ∀ (r : Addr) (xs : List V) (H' : Hp), Same H H' → H' r = some (.lst xs) → xs.length ≤ 64 → (∀ x ∈ xs, ∃ k p w, HapAt a H' x k p w) → Q (.ref r) H'
def sp_law_pairs (K : PySem.W.Frag) (a : Ad) : Sp := fun vs H Q E => ∃ (va vb vc : V) (ta tb tc : Tr), vs = [va, vb, vc] ∧ ta.Fit (fc a) H va ∧ tb.Fit (fc a) H vb ∧ tc.Fit (fc a) H vc ∧ ta.ok ∧ tb.ok ∧ tc.ok ∧ ta.dp ≤ 2 ∧ tb.dp ≤ 2 ∧ tc.dp ≤ 2 ∧ ∀ (r : Addr) (xs : List V) (H' : Hp), Same H H' → H' r = some (.lst xs) → xs.length ≤ 64 → (∀ x ∈ xs, PrAt a H' x) → Q (.ref r) H'
def spL (K : PySem.W.Frag) : Sp := fun vs H Q _ => ∃ (a : Addr) (ns : List Int), vs = [.ref a] ∧ SqL K H a (ns.map V.int) ∧ ns.length ≤ 63 ∧ ∀ H', Q (.bl true) H'
abbrev sp_law (K : PySem.W.Frag) (_ : Ad) : Sp := spL K
theorem sp0_law_tree {K : PySem.W.Frag} {a : Ad} : ∀ vs H Q E, ¬ sp_law_tree K a 0 vs H Q E := by
  rintro vs H Q E ⟨w, i, m, h, _⟩
  exact absurd h (Nat.not_lt_zero _)
theorem sp0_law_made {K : PySem.W.Frag} {a : Ad} : ∀ vs H Q E, ¬ sp_law_made K a 0 vs H Q E := by
  rintro vs H Q E ⟨v, t, h, _⟩
  exact absurd h (Nat.not_lt_zero _)
theorem sp0_law_gathered {K : PySem.W.Frag} {a : Ad} : ∀ vs H Q E, ¬ sp_law_gathered K a 0 vs H Q E := by
  rintro vs H Q E ⟨v, t, wd, h, _⟩
  exact absurd h (Nat.not_lt_zero _)
section
variable {P : Program} {w : World} {K : PySem.W.Frag} {mg : Str → Option Value} {base : Heap} {f : Addr} {fd : FuncData} {a : Ad}
theorem drw3 {H : Hp} {w : Addr} {m : Int} {Q : VK} {E : XK} (W : Well3 H w) (h0 : 0 < m) (h1 : m < 2 ^ 62) (q : ∀ (r : Int) (H' : Hp), 0 ≤ r → r < m → Well3 H' w → But w H H' → Q (.int r) H') : sp_law_next K a [.ref w, .int m] H Q E := ⟨w, m, rfl, W, h0, h1, q⟩
theorem ok_is_whole (B : Bt K mg a)  (F : Fun K "is_whole" "is_whole" s_is_whole f fd) : FnOk P w K mg base CX0 1 f fd ["thing"] (sp_is_whole K a) := by
  refine F.ok sc_is_whole (fun vs H Q E h => ?_) (fun cdv A outer s H vs Q E hr h => ?_)
  · obtain ⟨x, rfl, _⟩ := h
    rfl
  obtain ⟨x, rfl, ⟨t, ty, ki, kb⟩, q⟩ := h
  refine ⟨_, (pss_of (qss_one (qs_ret (qe_of (pe_and (pe_callB (isiG_at (K := K) (T := "int") rfl) rfl B.isinstance PyProof.Rows.boot_isinstance (pa_of (qa_c (pv 0) (qa_c (pe_bltn (v := .ty "int") rfl B.int PyProof.Rows.boot_int rfl) qa_nil))) (he := star_plain _ _ _ rfl) (hpl := plain_any rfl)) (pe_one (pe_not (pe_callB (isiG_at (K := K) (T := "bool") rfl) rfl B.isinstance PyProof.Rows.boot_isinstance (pa_of (qa_c (pv 0) (qa_c (pe_bltn (v := .ty "bool") rfl B.bool PyProof.Rows.boot_bool rfl) qa_nil))) (he := star_plain _ _ _ rfl) (hpl := plain_any rfl))))))))), ?_⟩
  walk_at "w0"
  refine ⟨x, t, _, rfl, ty, ki, ?_⟩
  walk_at "w0"
  cases x <;> try simp only [isIntV, wholeV, w_seq, w_next, w_ifS, w_ret, w_retN, w_drop, w_asg, w_gName, w_gSub, w_var, w_c, w_op, w_un, w_rU, w_rI0, w_rI, w_test, w_b, w_and, w_or, w_not, w_andV, w_orV, w_notV, w_if, w_cons, w_nil, w_tup, w_lst, w_call, w_cB, w_eq, w_ne, w_isN, w_notN, w_chain, w_sl, w_part, w_noPart, w_forL, w_for1, w_for2, w_K, w_for3, w_isnotB, w_raise, w_try, w_KX, w_cut, w_compL, w_comp1, w_comp2, w_yes, w_pick0, w_pickN, w_pickS, w_bm, w_bm0, w_tyS, w_addS, w_slS, w_blkK, w_strs, w_methD, w_makeN, w_make, w_fld, w_gTup, w_gCons, w_gNil, w_sFld, w_compS, w_tryB, w_bmake, w_noKeys, w_compT, w_forT, w_revL, w_gLst, w_bIf, w_makeK, w_nev, w_never, Option.getD_some,  exists_const, false_or, or_false, exists_false, w_s1, w_s2, w_s3, w_s4, w_s5, L2.start, List.map_cons, List.map_nil, List.length_cons, List.length_nil, List.replicate, List.replicate_zero, List.replicate_succ, Nat.reduceAdd, Nat.reduceSub, Nat.reduceLeDiff, List.cons_append, List.nil_append, List.append_nil, List.set_cons_zero, List.set_cons_succ, List.getElem?_cons_zero, List.getElem?_cons_succ, Option.some.injEq, V.int.injEq, V.bl.injEq, V.ref.injEq, V.str.injEq, V.ty.injEq, List.cons.injEq, and_true, true_and, exists_eq_left, exists_eq_left', exists_and_left, exists_eq, exists_eq', and_self, decide_eq_true_eq, Bool.not_eq_true', decide_eq_false_iff_not, Bool.true_eq_false, Bool.false_eq_true, if_true, if_false, ite_true, ite_false, false_and, and_false, and_assoc, reduceCtorEq] at * <;> first | exact q | exact ⟨_, t, _, rfl, ty, kb, q⟩ | (refine ⟨_, t, _, rfl, ty, kb, ?_⟩; simpa [isBoolV] using q)
theorem ok_is_whole_from (B : Bt K mg a) (C_is_whole : CalX P w K mg base "is_whole" ["thing"] 1 (sp_is_whole K a)) (F : Fun K "is_whole_from" "is_whole_from" s_is_whole_from f fd) : FnOk P w K mg base CX0 2 f fd ["thing", "least"] (sp_is_whole_from K a) := by
  refine F.ok sc_is_whole_from (fun vs H Q E h => ?_) (fun cdv A outer s H vs Q E hr h => ?_)
  · obtain ⟨x, lo, rfl, _⟩ := h
    rfl
  obtain ⟨x, lo, rfl, ox, q⟩ := h
  refine ⟨_, (pss_of (qss_one (qs_ret (qe_of (pe_and (pe_calN C_is_whole (hr.mono (by decide)) rfl (pa_of (qa_c (pv 0) qa_nil)) (he := star_plain _ _ _ rfl) (hpl := plain_any rfl)) (pe_one (pe_cmpR op_le (pv 1) (pv 0) (nomark _)))))))), ?_⟩
  walk_at "w0"
  refine ⟨x, rfl, ox, ?_⟩
  cases x <;> simp_all [wholeV, fromV]
theorem ok_is_name (B : Bt K mg a)  (F : Fun K "is_name" "is_name" s_is_name f fd) : FnOk P w K mg base CX0 1 f fd ["thing"] (sp_is_name K a) := by
  refine F.ok sc_is_name (fun vs H Q E h => ?_) (fun cdv A outer s H vs Q E hr h => ?_)
  · obtain ⟨x, rfl, _⟩ := h
    rfl
  obtain ⟨x, rfl, ox, q⟩ := h
  refine ⟨_, (pss_of (qss_cons (qs_if (L2.PW.pt (pw_or (pt_not (pt_val (pe_callB call_isi_str rfl B.isinstance PyProof.Rows.boot_isinstance (pa_of (qa_c (pv 0) (qa_c (pe_bltn (v := .ty "str") rfl B.str PyProof.Rows.boot_str rfl) qa_nil))) (he := star_plain _ _ _ rfl) (hpl := plain_any rfl)))) (pw_or (pt_cmpR op_lt (pe_callB call_len_str rfl B.len PySem.boot_len (pa_of (qa_c (pv 0) qa_nil))) pe_int (nomark _)) (pw_or1 (pt_cmpR op_gt (pe_callB call_len_str rfl B.len PySem.boot_len (pa_of (qa_c (pv 0) qa_nil))) (pe_glob (v := .int 8) rfl B.MOST_LETTERS ⟨_, rfl⟩) (nomark _)))))) (qss_one (qs_ret (qe_of pe_bl))) qss_nil) (qss_one (qs_ret (qe_of (pe_callB (call_all rfl) rfl B.all PyProof.Rows.boot_all (pa_of (qa_c (pe_compB ["sign"] [none] rfl (by kernel_rfl) (pi_str (pv 0)) (fun cl C s H fp => ⟨(pg_name (i := 0) (by decide : List.Nodup (["sign"] : List Str)) rfl (Or.inl (by kernel_rfl)) (Or.inr (by kernel_rfl))), pts_nil, (pe_cmpR op_in_str (pv 0 (hv := Or.inl (by kernel_rfl))) (pe_glob (v := .str "abcdefghijklmnopqrstuvwxyz") (gl_of (by kernel_rfl)) B.LETTERS ⟨_, rfl⟩) (by with_unfolding_all rfl))⟩)) qa_nil)) (he := star_plain _ _ _ rfl) (hpl := plain_any rfl))))))), ?_⟩
  cases x with
  | str u =>
    obtain ⟨hp, hl⟩ := id ox
    exists isStrV
    refine ⟨ox, sz8 hl, ?_⟩
    by_cases h1 : ((u.length : Nat) : Int) < 1
    · rw [if_pos h1]
      have e : nameB (.str u) = false := decide_eq_false fun g => by have := g.1; omega
      rw [e] at q
      exact q _ fun _ _ z => z
    rw [if_neg h1]
    refine ⟨sz8 hl, ?_⟩
    by_cases h2 : (8 : Int) < ((u.length : Nat) : Int)
    · rw [if_pos h2]
      have e : nameB (.str u) = false := decide_eq_false fun g => by have := g.2.1; omega
      rw [e] at q
      exact q _ fun _ _ z => z
    rw [if_neg h2]
    refine ⟨hp, ?_⟩
    refine CompS.by (fun i acc σ H' => acc = (u.cps.toList.take i).map (fun c => V.bl (!(Builtin.Str.occurrences letters ⟨#[c]⟩ 0 letters.length 1).isEmpty)) ∧ (∃ v, σ = [v]) ∧ H' = H) (sz8 hl) ⟨rfl, ⟨_, rfl⟩, rfl⟩ ?_ ?_ ?_
    · rintro i c acc σ H' hc ⟨rfl, ⟨v, rfl⟩, rfl⟩
      have hc' : u.cps.toList[i]? = some c := by simpa using hc
      have ea : (u.cps.toList.take i).map (fun c => V.bl (!(Builtin.Str.occurrences letters ⟨#[c]⟩ 0 letters.length 1).isEmpty)) ++ [V.bl (!(Builtin.Str.occurrences letters ⟨#[c]⟩ 0 letters.length 1).isEmpty)] = (u.cps.toList.take (i + 1)).map (fun c => V.bl (!(Builtin.Str.occurrences letters ⟨#[c]⟩ 0 letters.length 1).isEmpty)) := by
        rw [List.take_succ, hc', List.map_append]
        rfl
      walk_at "w0"
      first | exact ea | exact ⟨ea, ⟨_, rfl⟩, rfl⟩
    · rintro i acc σ H' ⟨rfl, _, _⟩
      rw [List.length_map, List.length_take]
      omega
    · rintro acc σ H' ⟨rfl, ⟨v, rfl⟩, rfl⟩ D hD
      have e : (u.cps.toList.take u.cps.size).map (fun c => V.bl (!(Builtin.Str.occurrences letters ⟨#[c]⟩ 0 letters.length 1).isEmpty)) = (u.cps.toList.map fun c => !(Builtin.Str.occurrences letters ⟨#[c]⟩ 0 letters.length 1).isEmpty).map V.bl := by
        rw [List.take_of_length_le (by simp), List.map_map]
        rfl
      rw [e]
      refine ⟨D, rfl, _, SqL.of upd_same, ?_⟩
      have e2 : nameB (.str u) = decide (∀ c ∈ u.cps.toList, 97 ≤ c ∧ c ≤ 122) := by
        rw [Bool.eq_iff_iff]
        refine ⟨fun g => ?_, fun g => ?_⟩
        · have g' : goodN u := of_decide_eq_true g
          exact decide_eq_true g'.2.2
        · exact decide_eq_true (p := goodN u) ⟨by omega, by omega, of_decide_eq_true g⟩
      rw [name_all hp, ← e2]
      exact q _ (same_new hD _)
  | non =>
    exists isStrV
    exact ⟨ox, q _ fun _ _ z => z⟩
  | bl b =>
    exists isStrV
    exact ⟨ox, q _ fun _ _ z => z⟩
  | int b =>
    exists isStrV
    exact ⟨ox, q _ fun _ _ z => z⟩
  | ref b =>
    exists isStrV
    exact ⟨ox, q _ fun _ _ z => z⟩
  | _ => exact ox.elim
theorem ok_law_begin (B : Bt K mg a)  (F : Fun K "_law_begin" "_law_begin" s_law_begin f fd) : FnOk P w K mg base CX0 1 f fd ["_law_cell"] (sp_law_begin K a) := by
  refine F.ok sc_law_begin (fun vs H Q E h => ?_) (fun cdv A outer s H vs Q E hr h => ?_)
  · obtain ⟨c, rfl, _⟩ := h
    rfl
  obtain ⟨c, rfl, q⟩ := h
  refine ⟨_, (pss_of (qss_one (qs_ret (qe_lst (qa_c (pe_op op_mul (pe_op op_fdivL (pv 0) pe_int) (pe_op op_sub pe_int (pe_op op_mod (pv 0) pe_int))) (qa_c (pe_op op_mod (pv 0) pe_int) (qa_c pe_int qa_nil))))))), ?_⟩
  walk_at "w0"
  exact ⟨⟨by decide, by decide⟩, by decide, .inr ⟨by omega, by omega⟩, by decide, by decide, fun p hp => q p _ _ _ hp⟩
theorem ok_law_next (B : Bt K mg a)  (F : Fun K "_law_next" "_law_next" s_law_next f fd) : FnOk P w K mg base CX0 1 f fd ["_law_state", "_law_base"] (sp_law_next K a) := by
  refine F.ok sc_law_next (fun vs H Q E h => ?_) (fun cdv A outer s H vs Q E hr h => ?_)
  · obtain ⟨wl, m, rfl, _⟩ := h
    rfl
  obtain ⟨wl, m, rfl, ⟨a, b, c, hw⟩, m0, m1, q⟩ := h
  refine ⟨_, (pss_of (qss_cons (qs_if (pt_cmpR op_gt (pe_ix ix_list (pv 0) pe_int (fun _ _ => rfl)) pe_int (nomark _)) (qss_cons (qs_set (i := 2) sc_law_next.nd rfl (Or.inl rfl) (qe_of (pe_op op_mod (pe_ix ix_list (pv 0) pe_int (fun _ _ => rfl)) (pv 1))) (by kernel_rfl)) (qss_cons (qs_of (ps_asg (pe_op op_fdivL (pe_ix ix_list (pv 0) pe_int (fun _ _ => rfl)) (pv 1)) (pg_sub (pv 0) pe_int set_list))) (qss_one (qs_ret (qe_of (pv 2)))))) qss_nil) (qss_cons (qs_of (ps_asg (pe_op op_add (pe_ix ix_list (pv 0) pe_int (fun _ _ => rfl)) pe_int) (pg_sub (pv 0) pe_int set_list))) (qss_cons (qs_set (i := 3) sc_law_next.nd rfl (Or.inl rfl) (qe_of (pe_op op_mod (pe_op op_mul (pe_op op_add (pe_op op_add (pe_ix ix_list (pv 0) pe_int (fun _ _ => rfl)) (pe_op op_mul pe_int (pe_ix ix_list (pv 0) pe_int (fun _ _ => rfl)))) pe_int) pe_int) pe_int)) (by kernel_rfl)) (qss_cons (qs_set (i := 3) sc_law_next.nd rfl (Or.inl rfl) (qe_of (pe_op op_mod (pe_op op_mul (pv 3) (pe_op op_add (pe_op op_fdivL (pv 3) pe_int) pe_int)) pe_int)) (by kernel_rfl)) (qss_cons (qs_set (i := 3) sc_law_next.nd rfl (Or.inl rfl) (qe_of (pe_op op_mod (pe_op op_mul (pv 3) (pe_op op_add (pe_op op_fdivL (pv 3) pe_int) pe_int)) pe_int)) (by kernel_rfl)) (qss_one (qs_ret (qe_of (pe_op op_mod (pe_op op_fdivL (pv 3) pe_int) (pv 1))))))))))), ?_⟩
  have em : ∀ x k : Int, 0 < k → 0 ≤ x % k ∧ x % k < k := fun x k h => ⟨Int.emod_nonneg _ (by omega), Int.emod_lt_of_pos _ h⟩
  walk_at "w0"
  refine ixl (SqL.of hw) (v := .int a) rfl ?_
  walk_at "w0"
  split
  · refine ixl (SqL.of hw) (v := .int a) rfl ?_
    walk_at "w0"
    refine ⟨m0, ?_⟩
    refine ixl (SqL.of hw) (v := .int a) rfl ?_
    walk_at "w0"
    refine ⟨⟨m0, m1⟩, ?_⟩
    refine setl hw (j := 0) rfl ?_
    exact q _ _ (em a m m0).1 (em a m m0).2 ⟨_, _, _, upd_same⟩ (But.upd _)
  · refine ixl (SqL.of hw) (v := .int c) rfl ?_
    walk_at "w0"
    refine setl hw (j := 2) rfl ?_
    refine ixl (SqL.of upd_same) (v := .int b) rfl ?_
    refine ixl (SqL.of upd_same) (v := .int (c + 1)) rfl ?_
    walk_at "w0"
    generalize hn1 : (b + 7919 * (c + 1) + 1) * 48271 % 2147483647 = n1
    have b1 : 0 ≤ n1 ∧ n1 < 2147483647 := hn1 ▸ em _ _ (by decide)
    generalize hn2 : n1 * (n1 / 1009 + 69621) % 2147483647 = n2
    have b2 : 0 ≤ n2 ∧ n2 < 2147483647 := hn2 ▸ em _ _ (by decide)
    refine ⟨.inl ⟨by decide, by decide⟩, .inr ⟨by decide, by decide⟩, by decide, ⟨by decide, by decide⟩, .inl ⟨by omega, by omega⟩, by decide, ⟨by decide, by decide⟩, .inl ⟨by omega, by omega⟩, by decide, ⟨by decide, by decide⟩, m0, ?_⟩
    exact q _ _ (em _ m m0).1 (em _ m m0).2 ⟨_, _, _, upd_same⟩ (But.upd _)
theorem ok_law_cell_at (B : Bt K mg a)  (F : Fun K "_law_cell_at" "_law_cell_at" s_law_cell_at f fd) : FnOk P w K mg base CX0 1 f fd ["_law_script", "_law_k"] (sp_law_cell_at K a) := by
  refine F.ok sc_law_cell_at (fun vs H Q E h => ?_) (fun cdv A outer s H vs Q E hr h => ?_)
  · obtain ⟨b, ns, k, rfl, _⟩ := h
    rfl
  obtain ⟨b, ns, k, rfl, hS, k0, q⟩ := h
  refine ⟨_, (pss_of (qss_cons (qs_if (pt_cmpR op_lt (pv 1) (pe_callB call_len rfl B.len PySem.boot_len (pa_of (qa_c (pv 0) qa_nil))) (nomark _)) (qss_one (qs_ret (qe_of (pe_ix ix_list (pv 0) (pv 1) (fun _ _ => rfl))))) qss_nil) (qss_one (qs_ret (qe_of pe_int))))), ?_⟩
  walk_at "w0"
  refine ⟨_, .inl ⟨_, hS, rfl⟩, ?_⟩
  walk_at "w0"
  split
  · rename_i hk
    rw [List.length_map] at hk
    obtain ⟨z, _, ez⟩ := at_mem k0 hk
    exact ixl hS ez (q z)
  · exact q 0
theorem ok_are_unlike_names (B : Bt K mg a) (C_is_name : CalX P w K mg base "is_name" ["thing"] 1 (sp_is_name K a)) (F : Fun K "are_unlike_names" "are_unlike_names" s_are_unlike_names f fd) : FnOk P w K mg base CX0 2 f fd ["thing"] (sp_are_unlike_names K a) := by
  refine F.ok sc_are_unlike_names (fun vs H Q E h => ?_) (fun cdv A outer s H vs Q E hr h => ?_)
  · obtain ⟨x, b, rfl, _⟩ := h
    rfl
  obtain ⟨x, b, rfl, hx, q⟩ := h
  refine ⟨_, (pss_of (qss_cons (qs_if (L2.PW.pt (pw_or (pt_not (pt_val (pe_callB (isiG_at (K := K) (T := "list") rfl) rfl B.isinstance PyProof.Rows.boot_isinstance (pa_of (qa_c (pv 0) (qa_c (pe_bltn (v := .ty "list") rfl B.list PyProof.Rows.boot_list rfl) qa_nil))) (he := star_plain _ _ _ rfl) (hpl := plain_any rfl)))) (pw_or1 (pt_not (pt_val (pe_callB (call_all rfl) rfl B.all PyProof.Rows.boot_all (pa_of (qa_c (pe_compB ["name"] [none] rfl (by kernel_rfl) (pi_list (pv 0)) (fun cl C s H fp => ⟨(pg_name (i := 0) (by decide : List.Nodup (["name"] : List Str)) rfl (Or.inl (by kernel_rfl)) (Or.inr (by kernel_rfl))), pts_nil, (pe_calN C_is_name (hr.mono (by decide)) (gl_of (by kernel_rfl)) (pa_of (qa_c (pv 0 (hv := Or.inl (by kernel_rfl))) qa_nil)) (he := star_plain _ _ _ rfl) (hpl := plain_any rfl))⟩)) qa_nil)) (he := star_plain _ _ _ rfl) (hpl := plain_any rfl))))))) (qss_one (qs_ret (qe_of pe_bl))) qss_nil) (qss_one (qs_ret (qe_of (pe_cmpR op_eq (pe_callB call_lenS rfl B.len PySem.boot_len (pa_of (qa_c (pe_callTy (call_setS rfl) rfl B.set PyProof.Rows.boot_set (pa_of (qa_c (pv 0) qa_nil))) qa_nil))) (pe_callB call_len_seq rfl B.len PySem.boot_len (pa_of (qa_c (pv 0) qa_nil))) (nomark _))))))), ?_⟩
  walk_at "w0"
  rcases hx with ⟨p, xs, rfl, hp, hl, hn, rfl⟩ | ⟨rfl, t, ty, e⟩
  · refine ⟨_, _, true, rfl, .lst hp, by kernel_rfl, ?_⟩
    exists Bool.not_true
    refine ⟨⟨xs, SqL.of hp⟩, ?_⟩
    refine CompL.by (xs := xs) (fun i acc σ H' => acc = ((xs.take i).map nameB).map V.bl ∧ (∃ v, σ = [v]) ∧ Same H H') (sz8 (by omega)) ⟨rfl, ⟨_, rfl⟩, fun _ _ z => z⟩ (fun i acc σ H' _ h => SqL.of (h.2.2 _ _ hp)) ?_ ?_ ?_
    · rintro i y acc σ H' hy ⟨rfl, ⟨v, rfl⟩, S1⟩
      have ea : ((xs.take i).map nameB).map V.bl ++ [V.bl (nameB y)] = ((xs.take (i + 1)).map nameB).map V.bl := by
        rw [List.take_succ, hy, List.map_append, List.map_append]
        rfl
      walk_at "w0"
      refine ⟨y, rfl, (hn y (List.mem_of_getElem? hy)).same S1, fun H2 S2 => ?_⟩
      first | exact ⟨ea, ⟨_, rfl⟩, S1.trans S2⟩ | exact ⟨ea, S1.trans S2⟩
    · rintro i acc σ H' ⟨rfl, _, _⟩
      rw [List.length_map, List.length_map, List.length_take]
      omega
    · rintro acc σ H' ⟨rfl, ⟨v, rfl⟩, S1⟩ D hD
      rw [List.take_length]
      have S2 := S1.trans (same_new hD (.lst ((xs.map nameB).map V.bl)))
      refine ⟨D, rfl, _, SqL.of upd_same, ?_⟩
      have eall : (xs.map nameB).all id = xs.all nameB := by rw [List.all_map]; rfl
      rw [eall]
      generalize upd H' D (.lst ((xs.map nameB).map V.bl)) = H2 at *
      by_cases ha : xs.all nameB = true
      · exists ha, Bool.not_true
        have es := all_str ha
        have hz : (xs.map strV).length = xs.length := List.length_map ..
        refine ⟨xs.map strV, by rw [← es]; exact SqL.of (S2 _ _ hp), by omega, fun p3 h3 => ?_⟩
        have S3 := same_new h3 (hoSet P w p3 (xs.map strV))
        refine ⟨xs.map strV, upd_same, ?_⟩
        walk_at "w0"
        refine ⟨xs, .inl (SqL.of (S3 _ _ (S2 _ _ hp))), ?_⟩
        walk_at "w0"
        have hq := q _ (S2.trans S3)
        have ed : namesB xs = decide ((((metS (xs.map strV)).length : Nat) : Int) = ((xs.length : Nat) : Int)) := by
          unfold namesB
          rw [ha, Bool.true_and]
          have := metS_all (xs.map strV)
          rw [hz] at this
          by_cases c : (xs.map strV).Nodup
          · rw [decide_eq_true c, decide_eq_true (by have := this.mpr c; omega)]
          · rw [decide_eq_false c, decide_eq_false (fun z => c (this.mp (by omega)))]
        rw [ed] at hq
        exact hq
      · have ha' := Bool.eq_false_iff.mpr ha
        exists ha', Bool.not_false
        have hq := q _ S2
        unfold namesB at hq
        rw [ha', Bool.false_and] at hq
        exact hq
  · refine ⟨x, t, false, rfl, ty, e, ?_⟩
    exists Bool.not_false
    exact q _ fun _ _ z => z
theorem ok_law_name (B : Bt K mg a) (C_law_next : CalX P w K mg base "_law_next" ["_law_state", "_law_base"] 1 (sp_law_next K a)) (F : Fun K "_law_name" "_law_name" s_law_name f fd) : FnOk P w K mg base CX0 2 f fd ["_law_state"] (sp_law_name K a) := by
  refine F.ok sc_law_name (fun vs H Q E h => ?_) (fun cdv A outer s H vs Q E hr h => ?_)
  · obtain ⟨wl, rfl, _⟩ := h
    rfl
  obtain ⟨wl, rfl, W, q⟩ := h
  refine ⟨_, (pss_of (qss_cons (qs_set (i := 1) sc_law_name.nd rfl (Or.inr rfl) (qe_of pe_str) (by kernel_rfl)) (qss_cons (qs_set (i := 2) sc_law_name.nd rfl (Or.inl rfl) (qe_of (pe_calN C_law_next (hr.mono (by decide)) rfl (pa_of (qa_c (pv 0) (qa_c pe_int qa_nil))) (he := star_plain _ _ _ rfl) (hpl := plain_any rfl))) (by kernel_rfl)) (qss_cons (qs_if (pt_cmpR op_eq (pv 2) pe_int (nomark _)) (qss_cons (qs_set (i := 3) sc_law_name.nd rfl (Or.inl rfl) (qe_lst (qa_c pe_str (qa_c pe_str (qa_c pe_str (qa_c pe_str (qa_c pe_str (qa_c pe_str (qa_c pe_str (qa_c pe_str (qa_c pe_str (qa_c pe_str (qa_c pe_str (qa_c pe_str (qa_c pe_str qa_nil)))))))))))))) (by kernel_rfl)) (qss_one (qs_ret (qe_ix ix_list (qe_op op_cat (qe_of (pv 3)) (qe_lst (qa_c pe_str (qa_c pe_str (qa_c pe_str qa_nil))))) (qe_of (pe_calN C_law_next (hr.mono (by decide)) rfl (pa_of (qa_c (pv 0) (qa_c pe_int qa_nil))) (he := star_plain _ _ _ rfl) (hpl := plain_any rfl))) (fun _ _ => rfl))))) qss_nil) (qss_cons (qs_if (pt_cmpR op_eq (pv 2) pe_int (nomark _)) (qss_cons (qs_set (i := 4) sc_law_name.nd rfl (Or.inl rfl) (qe_of (pe_slice sl_str pe_str po_none (po_some (pe_op op_add pe_int (pe_calN C_law_next (hr.mono (by decide)) rfl (pa_of (qa_c (pv 0) (qa_c pe_int qa_nil))) (he := star_plain _ _ _ rfl) (hpl := plain_any rfl)))))) (by kernel_rfl)) (qss_cons (qs_set (i := 5) sc_law_name.nd rfl (Or.inl rfl) (qe_of (pe_calN C_law_next (hr.mono (by decide)) rfl (pa_of (qa_c (pv 0) (qa_c (pe_callB call_len_str rfl B.len PySem.boot_len (pa_of (qa_c (pv 4) qa_nil))) qa_nil))) (he := star_plain _ _ _ rfl) (hpl := plain_any rfl))) (by kernel_rfl)) (qss_one (qs_ret (qe_of (pe_op op_add_str (pe_op op_add_str (pe_slice sl_str (pv 4) po_none (po_some (pv 5))) (pe_ix ix_str pe_str (pe_calN C_law_next (hr.mono (by decide)) rfl (pa_of (qa_c (pv 0) (qa_c pe_int qa_nil))) (he := star_plain _ _ _ rfl) (hpl := plain_any rfl)) (fun _ _ => rfl))) (pe_slice sl_str (pv 4) (po_some (pe_op op_add (pv 5) pe_int)) po_none))))))) qss_nil) (qss_one (qs_ret (qe_of (pe_bm PySem.F.plainAttrs_str PySem.F.slot_str_join PySem.F.type_str_join mt_join pe_str (pa_of (qa_c (pe_compB ["_law_k", "_law_letters", "_law_state"] [none, some 1, some 0] rfl (by kernel_rfl) (pi_range1 rfl B.range (pa_of (qa_c (pe_op op_add pe_int (pe_calN C_law_next (hr.mono (by decide)) rfl (pa_of (qa_c (pv 0) (qa_c pe_int qa_nil))) (he := star_plain _ _ _ rfl) (hpl := plain_any rfl))) qa_nil))) (fun cl C s H fp => ⟨(pg_name (i := 0) (by decide : List.Nodup (["_law_k", "_law_letters", "_law_state"] : List Str)) rfl (Or.inl (by kernel_rfl)) (Or.inr (by kernel_rfl))), pts_nil, (pe_ix ix_str (pv 1 (hv := Or.inr (Or.inl (by kernel_rfl)))) (pe_calN C_law_next (hr.mono (by decide)) (gl_of (by kernel_rfl)) (pa_of (qa_c (pv 2 (hv := Or.inr (Or.inl (by kernel_rfl)))) (qa_c pe_int qa_nil))) (he := star_plain _ _ _ rfl) (hpl := plain_any rfl)) (fun _ _ => rfl))⟩)) qa_nil))))))))))), ?_⟩
  walk_at "w0"
  refine drw3 W (by decide) (by decide) fun r1 H1 a1 b1 W1 B1 => ?_
  walk_at "w0"
  by_cases h0 : r1 = 0
  · rw [if_pos h0]
    refine ⟨sz8 (by decide), fun p hp => ?_⟩
    have S1 := same_new hp (.lst [.str "any", .str "kind", .str "place", .str "weight", .str "not", .str "by", .str "now", .str "hour", .str "day", .str "never", .str "sure", .str "raise", .str "zone"])
    have e1 : upd H1 p (.lst [.str "any", .str "kind", .str "place", .str "weight", .str "not", .str "by", .str "now", .str "hour", .str "day", .str "never", .str "sure", .str "raise", .str "zone"]) p = some (.lst [.str "any", .str "kind", .str "place", .str "weight", .str "not", .str "by", .str "now", .str "hour", .str "day", .str "never", .str "sure", .str "raise", .str "zone"]) := upd_same
    generalize upd H1 p (.lst [.str "any", .str "kind", .str "place", .str "weight", .str "not", .str "by", .str "now", .str "hour", .str "day", .str "never", .str "sure", .str "raise", .str "zone"]) = H2 at *
    refine ⟨sz8 (by decide), fun p2 hp2 => ?_⟩
    have S2 := same_new hp2 (.lst [.str "quiet", .str "a", .str "to"])
    have e2 : upd H2 p2 (.lst [.str "quiet", .str "a", .str "to"]) p2 = some (.lst [.str "quiet", .str "a", .str "to"]) := upd_same
    have e1' := S2 _ _ e1
    generalize upd H2 p2 (.lst [.str "quiet", .str "a", .str "to"]) = H3 at *
    refine ⟨p, p2, [.str "any", .str "kind", .str "place", .str "weight", .str "not", .str "by", .str "now", .str "hour", .str "day", .str "never", .str "sure", .str "raise", .str "zone"], [.str "quiet", .str "a", .str "to"], rfl, rfl, e1', e2, sz8 (by decide), fun p3 hp3 => ?_⟩
    have S3 := same_new hp3 (.lst ([.str "any", .str "kind", .str "place", .str "weight", .str "not", .str "by", .str "now", .str "hour", .str "day", .str "never", .str "sure", .str "raise", .str "zone"] ++ [.str "quiet", .str "a", .str "to"]))
    have e3 : upd H3 p3 (.lst ([.str "any", .str "kind", .str "place", .str "weight", .str "not", .str "by", .str "now", .str "hour", .str "day", .str "never", .str "sure", .str "raise", .str "zone"] ++ [.str "quiet", .str "a", .str "to"])) p3 = some (.lst ([.str "any", .str "kind", .str "place", .str "weight", .str "not", .str "by", .str "now", .str "hour", .str "day", .str "never", .str "sure", .str "raise", .str "zone"] ++ [.str "quiet", .str "a", .str "to"])) := upd_same
    have n3 := (W1.same (S1.trans S2)).ne hp3
    generalize upd H3 p3 (.lst ([.str "any", .str "kind", .str "place", .str "weight", .str "not", .str "by", .str "now", .str "hour", .str "day", .str "never", .str "sure", .str "raise", .str "zone"] ++ [.str "quiet", .str "a", .str "to"])) = H4 at *
    have SS := S1.trans (S2.trans S3)
    refine drw3 (W1.same SS) (by decide) (by decide) fun r4 H5 a4 b4 W5 B5 => ?_
    have e5 := B5 p3 _ n3 e3
    obtain ⟨v, hv, ev⟩ := at_memV (xs := ([.str "any", .str "kind", .str "place", .str "weight", .str "not", .str "by", .str "now", .str "hour", .str "day", .str "never", .str "sure", .str "raise", .str "zone"] : List V) ++ [.str "quiet", .str "a", .str "to"]) a4 (by simp only [List.length_append, List.length_cons, List.length_nil]; omega)
    refine ixl (SqL.of e5) ev ?_
    obtain ⟨u, rfl, g⟩ : ∃ u, v = .str u ∧ goodN u := by
      simp only [List.cons_append, List.nil_append, List.mem_cons, List.not_mem_nil, or_false] at hv
      rcases hv with rfl | rfl | rfl | rfl | rfl | rfl | rfl | rfl | rfl | rfl | rfl | rfl | rfl | rfl | rfl | rfl <;> exact ⟨_, rfl, by decide +kernel⟩
    exact q u H5 g W5 (B1.trans ((Same.but SS).trans B5))
  rw [if_neg h0]
  by_cases h1 : r1 = 1
  · rw [if_pos h1]
    refine drw3 W1 (by decide) (by decide) fun r2 H2 a2 b2 W2 B2 => ?_
    walk_at "w0"
    have e8 : Str.ofString "bcdefghi" = w8 := rfl
    have e3 : Str.ofString "axz" = axz := rfl
    rw [e8]
    have hw := way_len a2 b2
    have hl : (Txt.slice w8 none (some (1 + r2))).length ≤ 8 := slice_le8 w8 (by decide) _ _
    refine ⟨sz8 (by decide), sz8 (by omega), ?_⟩
    refine drw3 W2 (by rw [hw]; omega) (by rw [hw]; omega) fun r3 H3 a3 b3 W3 B3 => ?_
    have b3' : r3 < r2 + 1 := by rw [hw] at b3; omega
    walk_at "w0"
    refine ⟨sz8 (by omega), ?_⟩
    refine drw3 W3 (by decide) (by decide) fun r4 H4 a4 b4 W4 B4 => ?_
    obtain ⟨c, ec, gd⟩ := way_good a2 b2 a3 b3' a4 b4
    refine ixs (u := axz) (sz8 (by decide)) ec ?_
    walk_at "w0"
    have l1 := slice_le8 (Txt.slice w8 none (some (1 + r2))) hl none (some r3)
    have l2 := slice_le8 (Txt.slice w8 none (some (1 + r2))) hl (some (r3 + 1)) none
    have l3 : (⟨#[c]⟩ : Str).length = 1 := rfl
    refine ⟨sz8 (by rw [l3]; omega), sz8 (by omega), sz8 (by rw [Str.length_append, l3]; omega), ?_⟩
    exact q _ H4 gd W4 (B1.trans (B2.trans (B3.trans B4)))
  · rw [if_neg h1]
    refine drw3 W1 (by decide) (by decide) fun r2 H2 a2 b2 W2 B2 => ?_
    walk_at "w0"
    refine ⟨by omega, by omega, ?_⟩
    refine CompR.by (fun i acc σ H' => (∃ ts : List Str, acc = ts.map V.str ∧ ts.length = i ∧ ∀ t ∈ ts, ∃ c, t = ⟨#[c]⟩ ∧ 97 ≤ c ∧ c ≤ 122) ∧ (∃ v, σ = [v, some (.str letters), some (.ref wl)]) ∧ Well3 H' wl ∧ But wl H2 H') (sz8 (by omega)) ⟨⟨[], rfl, rfl, fun t ht => by cases ht⟩, ⟨_, rfl⟩, W2, But.refl _ _⟩ ?_ ?_ ?_
    · rintro i acc σ H' hi ⟨⟨ts, rfl, hl, ht⟩, ⟨v, rfl⟩, W3, B3⟩
      walk_at "w0"
      refine drw3 W3 (by decide) (by decide) fun r3 H3 a3 b3 W4 B4 => ?_
      obtain ⟨c, ec, c0, c1⟩ := letter_at a3 b3
      refine ixs (u := letters) (sz8 (by decide)) ec ?_
      have new : ∃ us : List Str, ts.map V.str ++ [V.str ⟨#[c]⟩] = us.map V.str ∧ us.length = i + 1 ∧ ∀ t ∈ us, ∃ c, t = ⟨#[c]⟩ ∧ 97 ≤ c ∧ c ≤ 122 := by
        refine ⟨ts ++ [⟨#[c]⟩], by rw [List.map_append]; rfl, by rw [List.length_append, hl]; rfl, fun t h => ?_⟩
        rcases List.mem_append.mp h with z | z
        · exact ht t z
        · rw [List.mem_singleton.mp z]
          exact ⟨c, rfl, c0, c1⟩
      first | exact ⟨new, ⟨_, rfl⟩, W4, B3.trans B4⟩ | exact ⟨new, W4, B3.trans B4⟩
    · rintro i acc σ H' ⟨⟨ts, rfl, hl, _⟩, _⟩
      rw [List.length_map, hl]
      exact Nat.le_refl _
    · rintro acc σ H' ⟨⟨ts, rfl, hl, ht⟩, ⟨v, rfl⟩, W3, B3⟩ D hD
      have hn : ts.length = (1 + r2).toNat := hl
      obtain ⟨j1, j2⟩ := join_good ht (by omega) (by omega)
      have n0 := W3.ne hD
      have S9 := same_new hD (.lst (ts.map V.str))
      refine ⟨Str.empty, D, ts, rfl, rfl, upd_same, j1, ?_⟩
      exact q _ _ j2 (W3.same S9) (B1.trans (B2.trans (B3.trans (Same.but S9))))
theorem hfs (k p n : V) : putF ("kind" : Str) k [] = ([("kind", k)] : List (Str × V)) ∧ putF ("place" : Str) p ([("kind", k)] : List (Str × V)) = ([("kind", k), ("place", p)] : List (Str × V)) ∧ putF ("weight" : Str) n ([("kind", k), ("place", p)] : List (Str × V)) = ([("kind", k), ("place", p), ("weight", n)] : List (Str × V)) := by
  refine ⟨rfl, putF_new fun q hq => ?_, putF_new fun q hq => ?_⟩
  · simp only [List.mem_cons, List.not_mem_nil, or_false] at hq
    rcases hq with rfl <;> (dsimp only; decide)
  · simp only [List.mem_cons, List.not_mem_nil, or_false] at hq
    rcases hq with rfl | rfl <;> (dsimp only; decide)
theorem ok_Happening___init__ (B : Bt K mg a) (C_is_whole_from : CalX P w K mg base "is_whole_from" ["thing", "least"] 2 (sp_is_whole_from K a)) (C_is_name : CalX P w K mg base "is_name" ["thing"] 1 (sp_is_name K a)) (F : Fun K "__init__" "Happening.__init__" s_Happening___init__ f fd) : FnOk P w K mg base CX0 3 f fd ["self", "kind", "place", "weight"] (sp_Happening___init__ K a) := by
  refine F.ok sc_Happening___init__ (fun vs H Q E h => ?_) (fun cdv A outer s H vs Q E hr h => ?_)
  · obtain ⟨p, dx, k, l, n, rfl, _⟩ := h
    rfl
  obtain ⟨p, dx, k, l, n, rfl, hp, gk, gl, n0, q⟩ := h
  refine ⟨_, (pss_of (qss_cons (qs_if (L2.PW.pt (pw_or (pt_not (pt_val (pe_calN C_is_name (hr.mono (by decide)) rfl (pa_of (qa_c (pv 1) qa_nil)) (he := star_plain _ _ _ rfl) (hpl := plain_any rfl)))) (pw_or1 (pt_not (pt_val (pe_calN C_is_name (hr.mono (by decide)) rfl (pa_of (qa_c (pv 2) qa_nil)) (he := star_plain _ _ _ rfl) (hpl := plain_any rfl))))))) (qss_of pss_never) qss_nil) (qss_cons (qs_if (pt_not (pt_val (pe_calN C_is_whole_from (hr.mono (by decide)) rfl (pa_of (qa_c (pv 3) (qa_c pe_int qa_nil))) (he := star_plain _ _ _ rfl) (hpl := plain_any rfl)))) (qss_of pss_never) qss_nil) (qss_cons (qs_of (ps_fld (pv 0) (pv 1) rfl)) (qss_cons (qs_of (ps_fld (pv 0) (pv 2) rfl)) (qss_one (qs_of (ps_fld (pv 0) (pv 3) rfl)))))))), ?_⟩
  have okn : ∀ {G : Hp} {u : Str}, goodN u → okN G (.str u) := fun {G u} g => ⟨(good_sm g).1, by have := (good_sm g).2; omega⟩
  have nb : ∀ {u : Str}, goodN u → nameB (.str u) = true := fun {u} g => decide_eq_true g
  have fb : fromV (.int n) 0 = true := decide_eq_true n0
  obtain ⟨e1, e2, e3⟩ := hfs (.str k) (.str l) (.int n)
  walk_at "w0"
  refine ⟨_, rfl, okn gk, fun H1 S1 => ?_⟩
  exists nb gk
  refine ⟨_, rfl, okn gl, fun H2 S2 => ?_⟩
  exists nb gl
  refine ⟨_, _, rfl, ⟨_, .int n, by kernel_rfl, by kernel_rfl⟩, ?_⟩
  exists fb
  refine ⟨_, _, _, (S1.trans S2) _ _ hp, B.ck_Happening.cl, B.na_Happening_kind, by decide, _, _, _, upd_same, B.ck_Happening.cl, B.na_Happening_place, by rw [e1]; simp only [List.length_cons, List.length_nil]; decide, _, _, _, upd_same, B.ck_Happening.cl, B.na_Happening_weight, by rw [e1, e2]; simp only [List.length_cons, List.length_nil]; decide, ?_⟩
  refine q _ (fun b o n e => ?_) ?_
  · rw [upd_ne n, upd_ne n, upd_ne n]
    exact (S1.trans S2) b o e
  · rw [upd_same, e1, e2, e3]
    rfl
theorem ok_check_names (B : Bt K mg a) (C_are_unlike_names : CalX P w K mg base "are_unlike_names" ["thing"] 2 (sp_are_unlike_names K a)) (F : Fun K "check_names" "check_names" s_check_names f fd) : FnOk P w K mg base CX0 3 f fd ["names"] (sp_check_names K a) := by
  refine F.ok sc_check_names (fun vs H Q E h => ?_) (fun cdv A outer s H vs Q E hr h => ?_)
  · obtain ⟨l, us, rfl, _⟩ := h
    rfl
  obtain ⟨l, us, rfl, hl, ⟨ne, l6, hg, nd⟩, q⟩ := h
  refine ⟨_, (pss_of (qss_one (qs_if (L2.PW.pt (pw_or (pt_not (pt_val (pe_calN C_are_unlike_names (hr.mono (by decide)) rfl (pa_of (qa_c (pv 0) qa_nil)) (he := star_plain _ _ _ rfl) (hpl := plain_any rfl)))) (pw_or1 (pt_cmpR op_eq (pe_callB call_len_seq rfl B.len PySem.boot_len (pa_of (qa_c (pv 0) qa_nil))) pe_int (nomark _))))) (qss_of pss_never) qss_nil))), ?_⟩
  walk_at "w0"
  have hB : namesB (us.map V.str) = true := by
    unfold namesB
    have e1 : (us.map V.str).all nameB = true := by
      rw [List.all_map, List.all_eq_true]
      intro u hu
      exact decide_eq_true (hg u hu)
    have e2 : (us.map V.str).map strV = us := by rw [List.map_map]; exact List.map_id us
    rw [e1, e2, decide_eq_true nd]
    rfl
  have hN : ∀ y ∈ us.map V.str, okN H y := fun y hy => by
    obtain ⟨u, hu, rfl⟩ := List.mem_map.mp hy
    exact ⟨(good_sm (hg u hu)).1, by have := (good_sm (hg u hu)).2; omega⟩
  refine ⟨_, true, rfl, .inl ⟨l, _, rfl, hl, by rw [List.length_map]; omega, hN, hB.symm⟩, fun H1 S1 => ?_⟩
  exists Bool.not_true
  refine ⟨_, .inl (SqL.of (S1 _ _ hl)), ?_⟩
  have l0 : us.length ≠ 0 := fun z => ne (List.eq_nil_of_length_eq_zero z)
  exists List.length_map
  rw [if_neg (by omega)]
  exact q _ S1
theorem ok_check_fit (B : Bt K mg a)  (F : Fun K "check_fit" "check_fit" s_check_fit f fd) : FnOk P w K mg base CX0 1 f fd ["fit"] (sp_check_fit K a) := by
  refine F.ok sc_check_fit (fun vs H Q E h => ?_) (fun cdv A outer s H vs Q E hr h => ?_)
  · obtain ⟨v, t, rfl, _⟩ := h
    rfl
  obtain ⟨v, t, rfl, h, q⟩ := h
  refine ⟨_, (pss_of (qss_one (qs_if (pt_not (pt_val (pe_callB (isiV_at (K := K) rfl) rfl B.isinstance PyProof.Rows.boot_isinstance (pa_of (qa_c (pv 0) (qa_c (pe_glob (v := .ref _) rfl B.Fit rfl) qa_nil))) (he := star_plain _ _ _ rfl) (hpl := plain_any rfl)))) (qss_of pss_never) qss_nil))), ?_⟩
  walk_at "w0"
  obtain ⟨p, dx, fs, rfl, hp, _⟩ := h.ins
  have hk : ClsK K (t.cls (fc a)) ∧ PySem.W.kitOne K (.ref (t.cls (fc a))) (.ref a.Fit) = some true := by
    cases t with
    | any => exact ⟨B.ck_Any, B.is_Any_Fit⟩
    | kind us => exact ⟨B.ck_Kind, B.is_Kind_Fit⟩
    | place us => exact ⟨B.ck_Place, B.is_Place_Fit⟩
    | weight n => exact ⟨B.ck_Least, B.is_Least_Fit⟩
    | not t => exact ⟨B.ck_Not, B.is_Not_Fit⟩
    | both ts => exact ⟨B.ck_Both, B.is_Both_Fit⟩
    | either ts => exact ⟨B.ck_Either, B.is_Either_Fit⟩
  refine ⟨_, _, _, true, rfl, hk.1.ty hp, hk.2, ?_⟩
  exists Bool.not_true
  exact q
theorem ok_check_fits (B : Bt K mg a) (C_check_fit : CalX P w K mg base "check_fit" ["fit"] 1 (sp_check_fit K a)) (F : Fun K "check_fits" "check_fits" s_check_fits f fd) : FnOk P w K mg base CX0 2 f fd ["fits"] (sp_check_fits K a) := by
  refine F.ok sc_check_fits (fun vs H Q E h => ?_) (fun cdv A outer s H vs Q E hr h => ?_)
  · obtain ⟨l, xs, ts, rfl, _⟩ := h
    rfl
  obtain ⟨l, xs, ts, rfl, hl, hf, l2, l100, q⟩ := h
  refine ⟨_, (pss_of (qss_cons (qs_if (L2.PW.pt (pw_or (pt_not (pt_val (pe_callB (isiG_at (K := K) (T := "list") rfl) rfl B.isinstance PyProof.Rows.boot_isinstance (pa_of (qa_c (pv 0) (qa_c (pe_bltn (v := .ty "list") rfl B.list PyProof.Rows.boot_list rfl) qa_nil))) (he := star_plain _ _ _ rfl) (hpl := plain_any rfl)))) (pw_or1 (pt_cmpR op_lt (pe_callB call_len_seq rfl B.len PySem.boot_len (pa_of (qa_c (pv 0) qa_nil))) pe_int (nomark _))))) (qss_of pss_never) qss_nil) (qss_one (qs_of (ps_for PassesOwn.never rfl (pi_list (pv 0)) (pg_name (i := 1) sc_check_fits.nd rfl (Or.inl rfl)) (pss_of (qss_one (qs_of (ps_expr (pe_calN C_check_fit (hr.mono (by decide)) rfl (pa_of (qa_c (pv 1) qa_nil)) (he := star_plain _ _ _ rfl) (hpl := plain_any rfl))))))))))), ?_⟩
  walk_at "w0"
  refine ⟨_, _, true, rfl, .lst hl, by kernel_rfl, ?_⟩
  exists Bool.not_true
  refine ⟨_, .inl (SqL.of hl), ?_⟩
  rw [if_neg (by omega)]
  refine ⟨⟨_, SqL.of hl⟩, ?_⟩
  refine ForL.by (xs := xs) (fun _ σ H1 => (∃ v, σ = [some (.ref l), v]) ∧ H1 = H) ⟨⟨_, rfl⟩, rfl⟩ (fun i σ H1 _ h => by rw [h.2]; exact SqL.of hl) ?_ ?_
  · rintro i y σ H1 hy ⟨⟨v, rfl⟩, rfl⟩
    obtain ⟨t, _, ht⟩ := hf.get hy
    walk_at "w0"
    refine ⟨y, t, rfl, ht, ?_⟩
    first | exact ⟨⟨_, rfl⟩, rfl⟩ | trivial
  · rintro σ H1 ⟨⟨v, rfl⟩, rfl⟩
    first | exact q | (walk_at "w0"; exact q)
theorem ok_Kind___init__ (B : Bt K mg a) (C_check_names : CalX P w K mg base "check_names" ["names"] 3 (sp_check_names K a)) (F : Fun K "__init__" "Kind.__init__" s_Kind___init__ f fd) : FnOk P w K mg base CX0 4 f fd ["self", "names"] (sp_Kind___init__ K a) := by
  refine F.ok sc_Kind___init__ (fun vs H Q E h => ?_) (fun cdv A outer s H vs Q E hr h => ?_)
  · obtain ⟨p, dx, l, us, rfl, _⟩ := h
    rfl
  obtain ⟨p, dx, l, us, rfl, hp, hl, hok, q⟩ := h
  refine ⟨_, (pss_of (qss_cons (qs_of (ps_expr (pe_calN C_check_names (hr.mono (by decide)) rfl (pa_of (qa_c (pv 1) qa_nil)) (he := star_plain _ _ _ rfl) (hpl := plain_any rfl)))) (qss_one (qs_of (ps_fld (pv 0) (pe_callTy call_list_of rfl B.list PyProof.Rows.boot_list (pa_of (qa_c (pv 1) qa_nil))) rfl))))), ?_⟩
  walk_at "w0"
  refine ⟨l, us, rfl, hl, hok, fun H1 S1 => ?_⟩
  walk_at "w0"
  refine ⟨_, .inl (SqL.of (S1 _ _ hl)), fun p2 h2 => ?_⟩
  have S2 := same_new h2 (.lst (us.map V.str))
  refine ⟨_, _, _, S2 _ _ (S1 _ _ hp), B.ck_Kind.cl, B.na_Kind_names, by decide, ?_⟩
  refine q p2 _ (fun b o n e => ?_) ?_ upd_same
  · rw [upd_ne n]
    exact S2 _ _ (S1 _ _ e)
  · rw [upd_ne (ne_of_none (S1 _ _ hp) h2).symm]
    exact upd_same
theorem ok_Place___init__ (B : Bt K mg a) (C_check_names : CalX P w K mg base "check_names" ["names"] 3 (sp_check_names K a)) (F : Fun K "__init__" "Place.__init__" s_Place___init__ f fd) : FnOk P w K mg base CX0 4 f fd ["self", "names"] (sp_Place___init__ K a) := by
  refine F.ok sc_Place___init__ (fun vs H Q E h => ?_) (fun cdv A outer s H vs Q E hr h => ?_)
  · obtain ⟨p, dx, l, us, rfl, _⟩ := h
    rfl
  obtain ⟨p, dx, l, us, rfl, hp, hl, hok, q⟩ := h
  refine ⟨_, (pss_of (qss_cons (qs_of (ps_expr (pe_calN C_check_names (hr.mono (by decide)) rfl (pa_of (qa_c (pv 1) qa_nil)) (he := star_plain _ _ _ rfl) (hpl := plain_any rfl)))) (qss_one (qs_of (ps_fld (pv 0) (pe_callTy call_list_of rfl B.list PyProof.Rows.boot_list (pa_of (qa_c (pv 1) qa_nil))) rfl))))), ?_⟩
  walk_at "w0"
  refine ⟨l, us, rfl, hl, hok, fun H1 S1 => ?_⟩
  walk_at "w0"
  refine ⟨_, .inl (SqL.of (S1 _ _ hl)), fun p2 h2 => ?_⟩
  have S2 := same_new h2 (.lst (us.map V.str))
  refine ⟨_, _, _, S2 _ _ (S1 _ _ hp), B.ck_Place.cl, B.na_Place_names, by decide, ?_⟩
  refine q p2 _ (fun b o n e => ?_) ?_ upd_same
  · rw [upd_ne n]
    exact S2 _ _ (S1 _ _ e)
  · rw [upd_ne (ne_of_none (S1 _ _ hp) h2).symm]
    exact upd_same
theorem ok_Least___init__ (B : Bt K mg a) (C_is_whole_from : CalX P w K mg base "is_whole_from" ["thing", "least"] 2 (sp_is_whole_from K a)) (F : Fun K "__init__" "Least.__init__" s_Least___init__ f fd) : FnOk P w K mg base CX0 3 f fd ["self", "weight"] (sp_Least___init__ K a) := by
  refine F.ok sc_Least___init__ (fun vs H Q E h => ?_) (fun cdv A outer s H vs Q E hr h => ?_)
  · obtain ⟨p, dx, n, rfl, _⟩ := h
    rfl
  obtain ⟨p, dx, n, rfl, hp, n0, q⟩ := h
  refine ⟨_, (pss_of (qss_cons (qs_if (pt_not (pt_val (pe_calN C_is_whole_from (hr.mono (by decide)) rfl (pa_of (qa_c (pv 1) (qa_c pe_int qa_nil))) (he := star_plain _ _ _ rfl) (hpl := plain_any rfl)))) (qss_of pss_never) qss_nil) (qss_one (qs_of (ps_fld (pv 0) (pv 1) rfl))))), ?_⟩
  walk_at "w0"
  have e : fromV (.int n) 0 = true := decide_eq_true n0
  refine ⟨_, _, rfl, ⟨_, .int n, by kernel_rfl, by kernel_rfl⟩, ?_⟩
  exists e
  exact ⟨_, _, _, hp, B.ck_Least.cl, B.na_Least_weight, by decide, q⟩
theorem ok_Not___init__ (B : Bt K mg a) (C_check_fit : CalX P w K mg base "check_fit" ["fit"] 1 (sp_check_fit K a)) (F : Fun K "__init__" "Not.__init__" s_Not___init__ f fd) : FnOk P w K mg base CX0 2 f fd ["self", "fit"] (sp_Not___init__ K a) := by
  refine F.ok sc_Not___init__ (fun vs H Q E h => ?_) (fun cdv A outer s H vs Q E hr h => ?_)
  · obtain ⟨p, dx, v, t, rfl, _⟩ := h
    rfl
  obtain ⟨p, dx, v, t, rfl, hp, hf, q⟩ := h
  refine ⟨_, (pss_of (qss_cons (qs_of (ps_expr (pe_calN C_check_fit (hr.mono (by decide)) rfl (pa_of (qa_c (pv 1) qa_nil)) (he := star_plain _ _ _ rfl) (hpl := plain_any rfl)))) (qss_one (qs_of (ps_fld (pv 0) (pv 1) rfl))))), ?_⟩
  walk_at "w0"
  refine ⟨v, t, rfl, hf, ?_⟩
  walk_at "w0"
  exact ⟨_, _, _, hp, B.ck_Not.cl, B.na_Not_fit, by decide, q⟩
theorem ok_Both___init__ (B : Bt K mg a) (C_check_fits : CalX P w K mg base "check_fits" ["fits"] 2 (sp_check_fits K a)) (F : Fun K "__init__" "Both.__init__" s_Both___init__ f fd) : FnOk P w K mg base CX0 3 f fd ["self", "fits"] (sp_Both___init__ K a) := by
  refine F.ok sc_Both___init__ (fun vs H Q E h => ?_) (fun cdv A outer s H vs Q E hr h => ?_)
  · obtain ⟨p, dx, l, xs, ts, rfl, _⟩ := h
    rfl
  obtain ⟨p, dx, l, xs, ts, rfl, hp, hl, hf, l2, l100, q⟩ := h
  refine ⟨_, (pss_of (qss_cons (qs_of (ps_expr (pe_calN C_check_fits (hr.mono (by decide)) rfl (pa_of (qa_c (pv 1) qa_nil)) (he := star_plain _ _ _ rfl) (hpl := plain_any rfl)))) (qss_one (qs_of (ps_fld (pv 0) (pe_callTy call_list_of rfl B.list PyProof.Rows.boot_list (pa_of (qa_c (pv 1) qa_nil))) rfl))))), ?_⟩
  walk_at "w0"
  refine ⟨l, xs, ts, rfl, hl, hf, l2, l100, ?_⟩
  walk_at "w0"
  refine ⟨_, .inl (SqL.of hl), fun p2 h2 => ?_⟩
  have S2 := same_new h2 (.lst xs)
  refine ⟨_, _, _, S2 _ _ hp, B.ck_Both.cl, B.na_Both_fits, by decide, ?_⟩
  refine q p2 _ (fun b o n e => ?_) ?_ upd_same
  · rw [upd_ne n]
    exact S2 _ _ e
  · rw [upd_ne (ne_of_none hp h2).symm]
    exact upd_same
theorem ok_Either___init__ (B : Bt K mg a) (C_check_fits : CalX P w K mg base "check_fits" ["fits"] 2 (sp_check_fits K a)) (F : Fun K "__init__" "Either.__init__" s_Either___init__ f fd) : FnOk P w K mg base CX0 3 f fd ["self", "fits"] (sp_Either___init__ K a) := by
  refine F.ok sc_Either___init__ (fun vs H Q E h => ?_) (fun cdv A outer s H vs Q E hr h => ?_)
  · obtain ⟨p, dx, l, xs, ts, rfl, _⟩ := h
    rfl
  obtain ⟨p, dx, l, xs, ts, rfl, hp, hl, hf, l2, l100, q⟩ := h
  refine ⟨_, (pss_of (qss_cons (qs_of (ps_expr (pe_calN C_check_fits (hr.mono (by decide)) rfl (pa_of (qa_c (pv 1) qa_nil)) (he := star_plain _ _ _ rfl) (hpl := plain_any rfl)))) (qss_one (qs_of (ps_fld (pv 0) (pe_callTy call_list_of rfl B.list PyProof.Rows.boot_list (pa_of (qa_c (pv 1) qa_nil))) rfl))))), ?_⟩
  walk_at "w0"
  refine ⟨l, xs, ts, rfl, hl, hf, l2, l100, ?_⟩
  walk_at "w0"
  refine ⟨_, .inl (SqL.of hl), fun p2 h2 => ?_⟩
  have S2 := same_new h2 (.lst xs)
  refine ⟨_, _, _, S2 _ _ hp, B.ck_Either.cl, B.na_Either_fits, by decide, ?_⟩
  refine q p2 _ (fun b o n e => ?_) ?_ upd_same
  · rw [upd_ne n]
    exact S2 _ _ e
  · rw [upd_ne (ne_of_none hp h2).symm]
    exact upd_same
theorem inV_str (u : Str) : ∀ us : List Str, inV (.str u) (us.map V.str) = decide (u ∈ us)
  | [] => rfl
  | v :: us => by
    have e : inV (.str u) ((v :: us).map V.str) = (eqV (.str v) (.str u) || inV (.str u) (us.map V.str)) := rfl
    rw [e, inV_str u us]
    have e2 : eqV (.str v) (.str u) = decide (v = u) := by
      first | rfl | (unfold eqV; by_cases c : v = u <;> simp [c])
    rw [e2]
    by_cases c : v = u
    · simp [c]
    · have c' : ¬ u = v := fun z => c z.symm
      simp [c, c']
theorem flat_strs : ∀ us : List Str, (us.map V.str).all flatV = true
  | [] => rfl
  | v :: us => by rw [List.map_cons, List.all_cons, flat_strs us]; rfl
theorem ok_Any_fits_it {d n : Nat} (hn : 0 ≤ n) (B : Bt K mg a)  (F : Fun K "fits_it" "Any.fits_it" s_Any_fits_it f fd) : FnOk P w K mg base CX0 (n + 1) f fd ["self", "happening"] (sp_Any_fits_it K a (d + 1)) := by
  refine F.ok sc_Any_fits_it (fun vs H Q E h => ?_) (fun cdv A outer s H vs Q E hr h => ?_)
  · obtain ⟨v, t, hp, dh, k, l, n2, rfl, _⟩ := h
    rfl
  obtain ⟨v, t, hp, dh, k, l, n2, rfl, ht, hd, ho, hf, hh, q⟩ := h
  refine ⟨_, (pss_of (qss_one (qs_ret (qe_of pe_bl)))), ?_⟩
  cases t with
  | kind us => cases ht
  | place us => cases ht
  | weight n => cases ht
  | not t => cases ht
  | both ts => cases ht
  | either ts => cases ht
  | any =>
  rw [Tr.Fit] at hf
  simp only [Tr.ev] at q
  walk_at "w0"
  exact q _ fun _ _ z => z
theorem ok_Kind_fits_it {d n : Nat} (hn : 0 ≤ n) (B : Bt K mg a)  (F : Fun K "fits_it" "Kind.fits_it" s_Kind_fits_it f fd) : FnOk P w K mg base CX0 (n + 1) f fd ["self", "happening"] (sp_Kind_fits_it K a (d + 1)) := by
  refine F.ok sc_Kind_fits_it (fun vs H Q E h => ?_) (fun cdv A outer s H vs Q E hr h => ?_)
  · obtain ⟨v, t, hp, dh, k, l, n2, rfl, _⟩ := h
    rfl
  obtain ⟨v, t, hp, dh, k, l, n2, rfl, ht, hd, ho, hf, hh, q⟩ := h
  refine ⟨_, (pss_of (qss_one (qs_ret (qe_of (pe_cmpR op_in_seq (pe_fld (pv 1) rfl) (pe_fld (pv 0) rfl) (by with_unfolding_all rfl)))))), ?_⟩
  cases t with
  | any => cases ht
  | place us => cases ht
  | weight n => cases ht
  | not t => cases ht
  | both ts => cases ht
  | either ts => cases ht
  | kind us =>
  rw [Tr.Fit] at hf
  simp only [Tr.ev] at q
  obtain ⟨p, dx, ln, rfl, h1, h2⟩ := hf
  walk_at "w0"
  refine ⟨_, _, _, hh, B.ck_Happening.cl, B.na_Happening_kind, .str k, rfl, ?_⟩
  walk_at "w0"
  refine ⟨_, _, _, h1, B.ck_Kind.cl, B.na_Kind_names, .ref ln, rfl, ?_⟩
  refine ⟨ln, _, rfl, .inl (SqL.of h2), rfl, flat_strs us, ?_⟩
  rw [inV_str]
  exact q _ fun _ _ z => z
theorem ok_Place_fits_it {d n : Nat} (hn : 0 ≤ n) (B : Bt K mg a)  (F : Fun K "fits_it" "Place.fits_it" s_Place_fits_it f fd) : FnOk P w K mg base CX0 (n + 1) f fd ["self", "happening"] (sp_Place_fits_it K a (d + 1)) := by
  refine F.ok sc_Place_fits_it (fun vs H Q E h => ?_) (fun cdv A outer s H vs Q E hr h => ?_)
  · obtain ⟨v, t, hp, dh, k, l, n2, rfl, _⟩ := h
    rfl
  obtain ⟨v, t, hp, dh, k, l, n2, rfl, ht, hd, ho, hf, hh, q⟩ := h
  refine ⟨_, (pss_of (qss_one (qs_ret (qe_of (pe_cmpR op_in_seq (pe_fld (pv 1) rfl) (pe_fld (pv 0) rfl) (by with_unfolding_all rfl)))))), ?_⟩
  cases t with
  | any => cases ht
  | kind us => cases ht
  | weight n => cases ht
  | not t => cases ht
  | both ts => cases ht
  | either ts => cases ht
  | place us =>
  rw [Tr.Fit] at hf
  simp only [Tr.ev] at q
  obtain ⟨p, dx, ln, rfl, h1, h2⟩ := hf
  walk_at "w0"
  refine ⟨_, _, _, hh, B.ck_Happening.cl, B.na_Happening_place, .str l, rfl, ?_⟩
  walk_at "w0"
  refine ⟨_, _, _, h1, B.ck_Place.cl, B.na_Place_names, .ref ln, rfl, ?_⟩
  refine ⟨ln, _, rfl, .inl (SqL.of h2), rfl, flat_strs us, ?_⟩
  rw [inV_str]
  exact q _ fun _ _ z => z
theorem ok_Least_fits_it {d n : Nat} (hn : 0 ≤ n) (B : Bt K mg a)  (F : Fun K "fits_it" "Least.fits_it" s_Least_fits_it f fd) : FnOk P w K mg base CX0 (n + 1) f fd ["self", "happening"] (sp_Least_fits_it K a (d + 1)) := by
  refine F.ok sc_Least_fits_it (fun vs H Q E h => ?_) (fun cdv A outer s H vs Q E hr h => ?_)
  · obtain ⟨v, t, hp, dh, k, l, n2, rfl, _⟩ := h
    rfl
  obtain ⟨v, t, hp, dh, k, l, n2, rfl, ht, hd, ho, hf, hh, q⟩ := h
  refine ⟨_, (pss_of (qss_one (qs_ret (qe_of (pe_cmpR op_ge (pe_fld (pv 1) rfl) (pe_fld (pv 0) rfl) (nomark _)))))), ?_⟩
  cases t with
  | any => cases ht
  | kind us => cases ht
  | place us => cases ht
  | not t => cases ht
  | both ts => cases ht
  | either ts => cases ht
  | weight n =>
  rw [Tr.Fit] at hf
  simp only [Tr.ev] at q
  obtain ⟨p, dx, rfl, h1⟩ := hf
  walk_at "w0"
  refine ⟨_, _, _, hh, B.ck_Happening.cl, B.na_Happening_weight, .int n2, rfl, ?_⟩
  walk_at "w0"
  refine ⟨_, _, _, h1, B.ck_Least.cl, B.na_Least_weight, .int n, rfl, ?_⟩
  walk_at "w0"
  exact q _ fun _ _ z => z
theorem ok_Not_fits_it {d n : Nat} (hn : 0 ≤ n) (B : Bt K mg a) (CM_fits_it : ∀ C sp, Mm_fits_it K a d C sp → CalM P w K mg base C "fits_it" ["self", "happening"] n sp) (F : Fun K "fits_it" "Not.fits_it" s_Not_fits_it f fd) : FnOk P w K mg base CX0 (n + 1) f fd ["self", "happening"] (sp_Not_fits_it K a (d + 1)) := by
  refine F.ok sc_Not_fits_it (fun vs H Q E h => ?_) (fun cdv A outer s H vs Q E hr h => ?_)
  · obtain ⟨v, t, hp, dh, k, l, n2, rfl, _⟩ := h
    rfl
  obtain ⟨v, t, hp, dh, k, l, n2, rfl, ht, hd, ho, hf, hh, q⟩ := h
  refine ⟨_, (pss_of (qss_one (qs_ret (qe_of (pe_not (pe_methD (pe_fld (pv 0) rfl) CM_fits_it pass00 (hr.mono (by omega)) (pa_of (qa_c (pv 1) qa_nil)) (hst := star_plain _ _ _ rfl) (hpl := plain_any rfl))))))), ?_⟩
  cases t with
  | any => cases ht
  | kind us => cases ht
  | place us => cases ht
  | weight n => cases ht
  | both ts => cases ht
  | either ts => cases ht
  | not t =>
  rw [Tr.Fit] at hf
  simp only [Tr.ev] at q
  obtain ⟨p, dx, y, rfl, h1, h2⟩ := hf
  rw [Tr.dp] at hd
  rw [Tr.ok] at ho
  obtain ⟨p2, _, _, rfl, _⟩ := id h2.ins
  walk_at "w0"
  refine ⟨_, _, _, h1, B.ck_Not.cl, B.na_Not_fit, .ref p2, rfl, ?_⟩
  walk_at "w0"
  refine ft_at (K := K) h2 (by omega) ho hh fun H1 S1 => ?_
  walk_at "w0"
  exact q _ S1
theorem ok_Both_fits_it {d n : Nat} (hn : 0 ≤ n) (B : Bt K mg a) (CM_fits_it : ∀ C sp, Mm_fits_it K a d C sp → CalM P w K mg base C "fits_it" ["self", "happening"] n sp) (F : Fun K "fits_it" "Both.fits_it" s_Both_fits_it f fd) : FnOk P w K mg base CX0 (n + 1) f fd ["self", "happening"] (sp_Both_fits_it K a (d + 1)) := by
  refine F.ok sc_Both_fits_it (fun vs H Q E h => ?_) (fun cdv A outer s H vs Q E hr h => ?_)
  · obtain ⟨v, t, hp, dh, k, l, n2, rfl, _⟩ := h
    rfl
  obtain ⟨v, t, hp, dh, k, l, n2, rfl, ht, hd, ho, hf, hh, q⟩ := h
  refine ⟨_, (pss_of (qss_one (qs_ret (qe_of (pe_callB (call_all rfl) rfl B.all PyProof.Rows.boot_all (pa_of (qa_c (pe_compB ["fit", "happening"] [none, some 1] rfl (by kernel_rfl) (pi_list (pe_fld (pv 0) rfl)) (fun cl C s H fp => ⟨(pg_name (i := 0) (by decide : List.Nodup (["fit", "happening"] : List Str)) rfl (Or.inl (by kernel_rfl)) (Or.inr (by kernel_rfl))), pts_nil, (pe_methD (pv 0 (hv := Or.inl (by kernel_rfl))) CM_fits_it pass00 (hr.mono (by omega)) (pa_of (qa_c (pv 1 (hv := Or.inr (Or.inl (by kernel_rfl)))) qa_nil)) (hst := star_plain _ _ _ rfl) (hpl := plain_any rfl))⟩)) qa_nil)) (he := star_plain _ _ _ rfl) (hpl := plain_any rfl)))))), ?_⟩
  cases t with
  | any => cases ht
  | kind us => cases ht
  | place us => cases ht
  | weight n => cases ht
  | not t => cases ht
  | either ts => cases ht
  | both ts =>
  rw [Tr.Fit] at hf
  simp only [Tr.ev] at q
  obtain ⟨p, dx, ln, xs, rfl, h1, h2, h3⟩ := hf
  rw [Tr.dp] at hd
  rw [Tr.ok] at ho
  obtain ⟨l2, l6, ho⟩ := ho
  have hA := trs_fit.mp h3
  have ln6 := hA.len
  walk_at "w0"
  refine ⟨_, _, _, h1, B.ck_Both.cl, B.na_Both_fits, .ref ln, rfl, ?_⟩
  walk_at "w0"
  refine ⟨⟨xs, SqL.of h2⟩, ?_⟩
  refine CompL.by (xs := xs) (fun i acc σ H' => acc = ((ts.toL.take i).map (Tr.ev k l n2)).map V.bl ∧ (∃ v, σ = [v, some (.ref hp)]) ∧ Same H H') (sz8 (by omega)) ⟨rfl, ⟨_, rfl⟩, fun _ _ z => z⟩ (fun i acc σ H' _ h => SqL.of (h.2.2 _ _ h2)) ?_ ?_ ?_
  · rintro i y acc σ H' hy ⟨rfl, ⟨v, rfl⟩, S1⟩
    obtain ⟨t, e, ht⟩ := hA.get hy
    have mt := List.mem_of_getElem? e
    have ea : ((ts.toL.take i).map (Tr.ev k l n2)).map V.bl ++ [V.bl (t.ev k l n2)] = ((ts.toL.take (i + 1)).map (Tr.ev k l n2)).map V.bl := by
      rw [List.take_succ, e, List.map_append, List.map_append]
      rfl
    have ht1 := ht.same S1
    obtain ⟨p2, _, _, rfl, _⟩ := id ht1.ins
    have dt := trs_dp mt
    walk_at "w0"
    refine ft_at (K := K) ht1 (by omega) (trs_ok.mp ho t mt) (S1 _ _ hh) fun H2 S2 => ?_
    first | exact ⟨ea, ⟨_, rfl⟩, S1.trans S2⟩ | exact ⟨ea, S1.trans S2⟩
  · rintro i acc σ H' ⟨rfl, _, _⟩
    rw [List.length_map, List.length_map, List.length_take]
    omega
  · rintro acc σ H' ⟨rfl, ⟨v, rfl⟩, S1⟩ D hD
    rw [← ln6, List.take_length, ← trs_ev]
    exact ⟨D, rfl, _, SqL.of upd_same, q _ (S1.trans (same_new hD _))⟩
theorem ok_Either_fits_it {d n : Nat} (hn : 0 ≤ n) (B : Bt K mg a) (CM_fits_it : ∀ C sp, Mm_fits_it K a d C sp → CalM P w K mg base C "fits_it" ["self", "happening"] n sp) (F : Fun K "fits_it" "Either.fits_it" s_Either_fits_it f fd) : FnOk P w K mg base CX0 (n + 1) f fd ["self", "happening"] (sp_Either_fits_it K a (d + 1)) := by
  refine F.ok sc_Either_fits_it (fun vs H Q E h => ?_) (fun cdv A outer s H vs Q E hr h => ?_)
  · obtain ⟨v, t, hp, dh, k, l, n2, rfl, _⟩ := h
    rfl
  obtain ⟨v, t, hp, dh, k, l, n2, rfl, ht, hd, ho, hf, hh, q⟩ := h
  refine ⟨_, (pss_of (qss_one (qs_ret (qe_of (pe_callB (call_any rfl) rfl B.any PyProof.Rows.boot_any (pa_of (qa_c (pe_compB ["fit", "happening"] [none, some 1] rfl (by kernel_rfl) (pi_list (pe_fld (pv 0) rfl)) (fun cl C s H fp => ⟨(pg_name (i := 0) (by decide : List.Nodup (["fit", "happening"] : List Str)) rfl (Or.inl (by kernel_rfl)) (Or.inr (by kernel_rfl))), pts_nil, (pe_methD (pv 0 (hv := Or.inl (by kernel_rfl))) CM_fits_it pass00 (hr.mono (by omega)) (pa_of (qa_c (pv 1 (hv := Or.inr (Or.inl (by kernel_rfl)))) qa_nil)) (hst := star_plain _ _ _ rfl) (hpl := plain_any rfl))⟩)) qa_nil)) (he := star_plain _ _ _ rfl) (hpl := plain_any rfl)))))), ?_⟩
  cases t with
  | any => cases ht
  | kind us => cases ht
  | place us => cases ht
  | weight n => cases ht
  | not t => cases ht
  | both ts => cases ht
  | either ts =>
  rw [Tr.Fit] at hf
  simp only [Tr.ev] at q
  obtain ⟨p, dx, ln, xs, rfl, h1, h2, h3⟩ := hf
  rw [Tr.dp] at hd
  rw [Tr.ok] at ho
  obtain ⟨l2, l6, ho⟩ := ho
  have hA := trs_fit.mp h3
  have ln6 := hA.len
  walk_at "w0"
  refine ⟨_, _, _, h1, B.ck_Either.cl, B.na_Either_fits, .ref ln, rfl, ?_⟩
  walk_at "w0"
  refine ⟨⟨xs, SqL.of h2⟩, ?_⟩
  refine CompL.by (xs := xs) (fun i acc σ H' => acc = ((ts.toL.take i).map (Tr.ev k l n2)).map V.bl ∧ (∃ v, σ = [v, some (.ref hp)]) ∧ Same H H') (sz8 (by omega)) ⟨rfl, ⟨_, rfl⟩, fun _ _ z => z⟩ (fun i acc σ H' _ h => SqL.of (h.2.2 _ _ h2)) ?_ ?_ ?_
  · rintro i y acc σ H' hy ⟨rfl, ⟨v, rfl⟩, S1⟩
    obtain ⟨t, e, ht⟩ := hA.get hy
    have mt := List.mem_of_getElem? e
    have ea : ((ts.toL.take i).map (Tr.ev k l n2)).map V.bl ++ [V.bl (t.ev k l n2)] = ((ts.toL.take (i + 1)).map (Tr.ev k l n2)).map V.bl := by
      rw [List.take_succ, e, List.map_append, List.map_append]
      rfl
    have ht1 := ht.same S1
    obtain ⟨p2, _, _, rfl, _⟩ := id ht1.ins
    have dt := trs_dp mt
    walk_at "w0"
    refine ft_at (K := K) ht1 (by omega) (trs_ok.mp ho t mt) (S1 _ _ hh) fun H2 S2 => ?_
    first | exact ⟨ea, ⟨_, rfl⟩, S1.trans S2⟩ | exact ⟨ea, S1.trans S2⟩
  · rintro i acc σ H' ⟨rfl, _, _⟩
    rw [List.length_map, List.length_map, List.length_take]
    omega
  · rintro acc σ H' ⟨rfl, ⟨v, rfl⟩, S1⟩ D hD
    rw [← ln6, List.take_length, ← trs_ev]
    exact ⟨D, rfl, _, SqL.of upd_same, q _ (S1.trans (same_new hD _))⟩
theorem ok_law_leaf (B : Bt K mg a) (C_law_next : CalX P w K mg base "_law_next" ["_law_state", "_law_base"] 1 (sp_law_next K a)) (C_law_name : CalX P w K mg base "_law_name" ["_law_state"] 2 (sp_law_name K a)) (F : Fun K "_law_leaf" "_law_leaf" s_law_leaf f fd) : FnOk P w K mg base CX0 3 f fd ["_law_state", "_law_more"] (sp_law_leaf K a) := by
  refine F.ok sc_law_leaf (fun vs H Q E h => ?_) (fun cdv A outer s H vs Q E hr h => ?_)
  · obtain ⟨wl, m, rfl, _⟩ := h
    rfl
  obtain ⟨wl, m, rfl, W, m0, m5, q⟩ := h
  refine ⟨_, (pss_of (qss_cons (qs_set (i := 2) sc_law_leaf.nd rfl (Or.inl rfl) (qe_of (pe_calN C_law_next (hr.mono (by decide)) rfl (pa_of (qa_c (pv 0) (qa_c pe_int qa_nil))) (he := star_plain _ _ _ rfl) (hpl := plain_any rfl))) (by kernel_rfl)) (qss_cons (qs_if (pt_cmpR op_eq (pv 2) pe_int (nomark _)) (qss_one (qs_ret (qe_of (pe_tup (pa_of (qa_c pe_str qa_nil)))))) qss_nil) (qss_cons (qs_if (pt_cmpR op_lt (pv 2) pe_int (nomark _)) (qss_one (qs_ret (qe_of (pe_tup (pa_of (qa_c pe_str (qa_c (pe_ix ix_list (pe_lst (pa_of (qa_c (pe_calN C_law_next (hr.mono (by decide)) rfl (pa_of (qa_c (pv 0) (qa_c pe_int qa_nil))) (he := star_plain _ _ _ rfl) (hpl := plain_any rfl)) (qa_c (pe_calN C_law_next (hr.mono (by decide)) rfl (pa_of (qa_c (pv 0) (qa_c (pe_op op_pow pe_int pe_int) qa_nil))) (he := star_plain _ _ _ rfl) (hpl := plain_any rfl)) qa_nil)))) (pe_op op_fdivL (pe_calN C_law_next (hr.mono (by decide)) rfl (pa_of (qa_c (pv 0) (qa_c pe_int qa_nil))) (he := star_plain _ _ _ rfl) (hpl := plain_any rfl)) pe_int) (fun _ _ => rfl)) qa_nil))))))) qss_nil) (qss_cons (qs_set (i := 3) sc_law_leaf.nd rfl (Or.inl rfl) (qe_lst (qa_c (pe_calN C_law_name (hr.mono (by decide)) rfl (pa_of (qa_c (pv 0) qa_nil)) (he := star_plain _ _ _ rfl) (hpl := plain_any rfl)) qa_nil)) (by kernel_rfl)) (qss_cons (qs_of (ps_for PassesOwn.never rfl (pi_range1 rfl B.range (pa_of (qa_c (pe_calN C_law_next (hr.mono (by decide)) rfl (pa_of (qa_c (pv 0) (qa_c (pe_op op_add pe_int (pv 1)) qa_nil))) (he := star_plain _ _ _ rfl) (hpl := plain_any rfl)) qa_nil))) (pg_name (i := 4) sc_law_leaf.nd rfl (Or.inl rfl)) (pss_of (qss_cons (qs_set (i := 5) sc_law_leaf.nd rfl (Or.inl rfl) (qe_of (pe_calN C_law_name (hr.mono (by decide)) rfl (pa_of (qa_c (pv 0) qa_nil)) (he := star_plain _ _ _ rfl) (hpl := plain_any rfl))) (by kernel_rfl)) (qss_one (qs_if (pt_cmpR op_notIn_seq (pv 5) (pv 3) (by with_unfolding_all rfl)) (qss_one (qs_of (ps_expr (pe_bm PySem.F.plainAttrs_list PySem.F.slot_list_append PySem.F.type_list_append mt_append (pv 3) (pa_of (qa_c (pv 5) qa_nil)))))) qss_nil)))))) (qss_one (qs_ret (qe_of (pe_tup (pa_of (qa_c (pe_ix ix_list (pe_lst (pa_of (qa_c pe_str (qa_c pe_str qa_nil)))) (pe_op op_mod (pv 2) pe_int) (fun _ _ => rfl)) (qa_c (pe_callTy call_tuple_of rfl B.tuple PyProof.Rows.boot_tuple (pa_of (qa_c (pv 3) qa_nil))) qa_nil))))))))))))), ?_⟩
  walk_at "w0"
  refine drw3 W (by decide) (by decide) fun kd H1 k0 k1 W1 B1 => ?_
  walk_at "w0"
  by_cases c0 : kd = 0
  · rw [if_pos c0]
    refine ⟨sz8 (by decide), fun p hp => ?_⟩
    exact q (.ref p) .any _ (by rw [Tr.At]; exact ⟨p, rfl, upd_same⟩) (by rw [Tr.ok]; trivial) (by rw [Tr.dp]) (by rw [Tr.cnt]; decide) (W1.same (same_new hp _)) (B1.trans (Same.but (same_new hp _)))
  rw [if_neg c0]
  by_cases c3 : kd < 3
  · rw [if_pos c3]
    refine drw3 W1 (by decide) (by decide) fun r1 H2 a1 b1 W2 B2 => ?_
    walk_at "w0"
    refine ⟨⟨by decide, by decide, by decide⟩, ?_⟩
    refine drw3 W2 (by decide) (by decide) fun r2 H3 a2 b2 W3 B3 => ?_
    have b2' : r2 < 1000000 := by first | exact b2 | simpa using b2
    refine ⟨sz8 (by decide), fun p hp => ?_⟩
    have S4 := same_new hp (.lst [.int r1, .int r2])
    have np := W3.ne hp
    refine drw3 (W3.same S4) (by decide) (by decide) fun r3 H5 a3 b3 W5 B5 => ?_
    have e5 := B5 p _ np upd_same
    walk_at "w0"
    obtain ⟨v, hv, ev⟩ := at_memV (xs := [.int r1, .int r2]) (i := r3 / 2) (by omega) (by simp only [List.length_cons, List.length_nil]; omega)
    obtain ⟨nn, rfl, n0, n1⟩ : ∃ nn : Int, v = .int nn ∧ 0 ≤ nn ∧ nn < 1000000 := by
      simp only [List.mem_cons, List.not_mem_nil, or_false] at hv
      rcases hv with rfl | rfl
      · exact ⟨r1, rfl, a1, by omega⟩
      · exact ⟨r2, rfl, a2, b2'⟩
    refine ⟨⟨by decide, by decide⟩, ixl (SqL.of e5) ev ?_⟩
    refine ⟨sz8 (by decide), fun p6 h6 => ?_⟩
    exact q (.ref p6) (.weight nn) _ (by rw [Tr.At]; exact ⟨p6, rfl, upd_same⟩) (by rw [Tr.ok]; exact ⟨n0, n1⟩) (by rw [Tr.dp]) (by rw [Tr.cnt]; decide) (W5.same (same_new h6 _)) (B1.trans (B2.trans (B3.trans ((Same.but S4).trans (B5.trans (Same.but (same_new h6 _)))))))
  rw [if_neg c3]
  refine ⟨wl, rfl, W1, fun u0 H2 g0 W2 B2 => ?_⟩
  walk_at "w0"
  refine ⟨sz8 (by decide), fun pf hf => ?_⟩
  have nw := W2.ne hf
  have S1 := same_new hf (.lst [.str u0])
  have W3 := W2.same S1
  have e1 : upd H2 pf (.lst [.str u0]) pf = some (.lst ([u0].map V.str)) := upd_same
  generalize upd H2 pf (.lst [.str u0]) = H3 at *
  refine drw3 W3 (by omega) (by omega) fun r H4 a2 b2 W4 B4 => ?_
  have e2 := B4 pf _ nw e1
  walk_at "w0"
  refine ⟨by omega, by omega, ?_⟩
  refine ForR.by (fun i σ H' => (∃ us : List Str, us.length ≤ i + 1 ∧ us ≠ [] ∧ (∀ u ∈ us, goodN u) ∧ us.Nodup ∧ H' pf = some (.lst (us.map V.str))) ∧ (∃ v8 v9, σ = [some (.ref wl), some (.int m), some (.int kd), some (.ref pf), v8, v9]) ∧ Well3 H' wl ∧ But wl H2 H') ⟨⟨[u0], Nat.le_refl _, (by intro z; cases z), (fun u hu => by rw [List.mem_singleton.mp hu]; exact g0), (by simp), e2⟩, ⟨_, _, rfl⟩, W4, (Same.but S1).trans B4⟩ ?_ ?_
  · rintro i σ H9 hi ⟨⟨us, ul, une, ug, un, ue⟩, ⟨v8, v9, rfl⟩, W9, B9⟩
    walk_at "w0"
    refine ⟨wl, rfl, W9, fun u H3 g W3 B3 => ?_⟩
    have ue3 := B3 pf _ nw ue
    walk_at "w0"
    refine ⟨pf, _, rfl, .inl (SqL.of ue3), rfl, flat_strs us, ?_⟩
    rw [inV_str]
    by_cases c : u ∈ us
    · exists decide_eq_true c, Bool.not_true
      exact ⟨⟨us, by omega, une, ug, un, ue3⟩, W3, B9.trans B3⟩
    · exists decide_eq_false c, Bool.not_false
      refine ⟨.inl ⟨rfl, _, SqL.of ue3⟩, pf, _, _, rfl, rfl, ue3, ?_, ?_⟩
      · rw [List.length_map]
        exact Nat.lt_of_le_of_lt (by omega : us.length ≤ 1000) (by decide)
      · have W12 : Well3 (upd H3 pf (.lst (us.map V.str ++ [.str u]))) wl := by
          obtain ⟨x1, x2, x3, e⟩ := W3
          exact ⟨x1, x2, x3, by rw [upd_ne (fun z => nw z.symm)]; exact e⟩
        refine ⟨⟨us ++ [u], by rw [List.length_append, List.length_singleton]; omega, (by simp), fun y hy => ?_, ?_, by rw [upd_same, List.map_append]; rfl⟩, W12, fun b o nb e => ?_⟩
        · rcases List.mem_append.mp hy with z | z
          · exact ug y z
          · rw [List.mem_singleton.mp z]; exact g
        · rw [List.nodup_append]
          exact ⟨un, by simp, fun x hx y hy e => c (by rw [List.mem_singleton.mp hy] at e; rw [← e]; exact hx)⟩
        · rw [upd_ne (ne_of_none e hf)]
          exact B3 b o nb (B9 b o nb e)
  · rintro σ H9 ⟨⟨us, ul, une, ug, un, ue⟩, ⟨v8, v9, rfl⟩, W9, B9⟩
    walk_at "w0"
    refine ⟨sz8 (by decide), fun p1 h1 => ?_⟩
    have T1 := same_new h1 (.lst [.str "kind", .str "place"])
    have f1 : upd H9 p1 (.lst [.str "kind", .str "place"]) p1 = some (.lst [.str "kind", .str "place"]) := upd_same
    have ue1 := T1 _ _ ue
    generalize upd H9 p1 (.lst [.str "kind", .str "place"]) = G1 at *
    refine ⟨by decide, ?_⟩
    rcases (by omega : kd % 2 = 0 ∨ kd % 2 = 1) with hk | hk
    · rw [hk]
      refine ixl (SqL.of f1) (v := .str "kind") rfl ?_
      walk_at "w0"
      refine ⟨_, .inl ⟨SqL.of ue1, fun p3 h3 => ?_⟩⟩
      have T3 := same_new h3 (.tup (us.map V.str))
      refine ⟨sz8 (by decide), fun p4 h4 => ?_⟩
      have SS := T1.trans (T3.trans (same_new h4 (.tup [.str "kind", .ref p3])))
      refine q (.ref p4) (.kind us) _ (by rw [Tr.At]; exact ⟨p4, p3, rfl, upd_same, same_new h4 _ _ _ upd_same⟩) (by rw [Tr.ok]; exact ⟨une, by omega, ug, un⟩) (by rw [Tr.dp]) (by rw [Tr.cnt]; omega) (W9.same SS) (B1.trans (B2.trans (B9.trans (Same.but SS))))
    · rw [hk]
      refine ixl (SqL.of f1) (v := .str "place") rfl ?_
      walk_at "w0"
      refine ⟨_, .inl ⟨SqL.of ue1, fun p3 h3 => ?_⟩⟩
      have T3 := same_new h3 (.tup (us.map V.str))
      refine ⟨sz8 (by decide), fun p4 h4 => ?_⟩
      have SS := T1.trans (T3.trans (same_new h4 (.tup [.str "place", .ref p3])))
      refine q (.ref p4) (.place us) _ (by rw [Tr.At]; exact ⟨p4, p3, rfl, upd_same, same_new h4 _ _ _ upd_same⟩) (by rw [Tr.ok]; exact ⟨une, by omega, ug, un⟩) (by rw [Tr.dp]) (by rw [Tr.cnt]; omega) (W9.same SS) (B1.trans (B2.trans (B9.trans (Same.but SS))))
theorem ok_law_tree {d n : Nat} (hn : 3 ≤ n) (B : Bt K mg a) (C_law_next : CalX P w K mg base "_law_next" ["_law_state", "_law_base"] 1 (sp_law_next K a)) (C_law_leaf : CalX P w K mg base "_law_leaf" ["_law_state", "_law_more"] 3 (sp_law_leaf K a)) (C_law_tree : CalX P w K mg base "_law_tree" ["_law_state", "_law_deep", "_law_more"] n (sp_law_tree K a d)) (F : Fun K "_law_tree" "_law_tree" s_law_tree f fd) : FnOk P w K mg base CX0 (n + 1) f fd ["_law_state", "_law_deep", "_law_more"] (sp_law_tree K a (d + 1)) := by
  refine F.ok sc_law_tree (fun vs H Q E h => ?_) (fun cdv A outer s H vs Q E hr h => ?_)
  · obtain ⟨wl, i, m, hi, rfl, _⟩ := h
    rfl
  obtain ⟨wl, i, m, hi, rfl, W, i3, m0, m5, q⟩ := h
  refine ⟨_, (pss_of (qss_cons (qs_set (i := 3) sc_law_tree.nd rfl (Or.inl rfl) (qe_of (pe_calN C_law_next (hr.mono (by omega)) rfl (pa_of (qa_c (pv 0) (qa_c pe_int qa_nil))) (he := star_plain _ _ _ rfl) (hpl := plain_any rfl))) (by kernel_rfl)) (qss_cons (qs_if (L2.PW.pt (pw_or (pt_cmpR op_eq (pv 1) pe_int (nomark _)) (pw_or1 (pt_cmpR op_lt (pv 3) pe_int (nomark _))))) (qss_one (qs_ret (qe_of (pe_calN C_law_leaf (hr.mono (by omega)) rfl (pa_of (qa_c (pv 0) (qa_c (pe_op op_mul (pv 2) (pe_callTy call_int1 rfl B.int PyProof.Rows.boot_int (pa_of (qa_c (pe_cmpR op_gt (pv 1) pe_int (nomark _)) qa_nil)))) qa_nil))) (he := star_plain _ _ _ rfl) (hpl := plain_any rfl))))) qss_nil) (qss_cons (qs_if (pt_cmpR op_eq (pv 3) pe_int (nomark _)) (qss_one (qs_ret (qe_of (pe_tup (pa_of (qa_c pe_str (qa_c (pe_calN C_law_tree (hr.mono (by omega)) rfl (pa_of (qa_c (pv 0) (qa_c (pe_op op_sub (pv 1) pe_int) (qa_c (pv 2) qa_nil)))) (he := star_plain _ _ _ rfl) (hpl := plain_any rfl)) qa_nil))))))) qss_nil) (qss_cons (qs_of (ps_compB (i := 4) ["_law_k", "_law_state", "_law_more", "_law_deep"] [none, some 0, some 2, some 1] rfl (by kernel_rfl) sc_law_tree.nd rfl rfl (pi_range1 rfl B.range (pa_of (qa_c (pe_op op_add pe_int (pe_callTy call_int1 rfl B.int PyProof.Rows.boot_int (pa_of (qa_c (pe_and (pe_cmpR op_gt (pv 1) pe_int (nomark _)) (pe_one (pe_cmpR op_gt (pv 3) pe_int (nomark _)))) qa_nil)))) qa_nil))) (fun cl C s H fp => ⟨(pg_name (i := 0) (by decide : List.Nodup (["_law_k", "_law_state", "_law_more", "_law_deep"] : List Str)) rfl (Or.inl (by kernel_rfl)) (Or.inr (by kernel_rfl))), pts_nil, (pe_calN C_law_tree (hr.mono (by omega)) (gl_of (by kernel_rfl)) (pa_of (qa_c (pv 1 (hv := Or.inr (Or.inl (by kernel_rfl)))) (qa_c (pe_op op_sub (pv 3 (hv := Or.inr (Or.inl (by kernel_rfl)))) pe_int) (qa_c (pv 2 (hv := Or.inr (Or.inl (by kernel_rfl)))) qa_nil)))) (he := star_plain _ _ _ rfl) (hpl := plain_any rfl))⟩))) (qss_one (qs_ret (qe_of (pe_tup (pa_of (qa_c (pe_ix ix_list (pe_lst (pa_of (qa_c pe_str (qa_c pe_str qa_nil)))) (pe_op op_mod (pv 3) pe_int) (fun _ _ => rfl)) (qa_c (pe_callTy call_tuple_of rfl B.tuple PyProof.Rows.boot_tuple (pa_of (qa_c (pv 4) qa_nil))) qa_nil)))))))))))), ?_⟩
  walk_at "w0"
  refine drw3 W (by decide) (by decide) fun kd H1 k0 k1 W1 B1 => ?_
  walk_at "w0"
  by_cases c0 : (i : Int) = 0
  · rw [if_pos c0]
    refine ⟨.inl ⟨by omega, by omega⟩, wl, _, rfl, W1, ?_, ?_, fun v t H' hA ho hd hc W' B' => ?_⟩
    · split <;> omega
    · split <;> omega
    have p3 : 1 ≤ 3 ^ i := Nat.one_le_pow _ _ (by decide)
    exact q v t H' hA ho (by omega) (by omega) W' (B1.trans B')
  rw [if_neg c0]
  by_cases c3 : kd < 3
  · rw [if_pos c3]
    refine ⟨.inl ⟨by omega, by omega⟩, wl, _, rfl, W1, ?_, ?_, fun v t H' hA ho hd hc W' B' => ?_⟩
    · split <;> omega
    · split <;> omega
    have p3 : 1 ≤ 3 ^ i := Nat.one_le_pow _ _ (by decide)
    exact q v t H' hA ho (by omega) (by omega) W' (B1.trans B')
  rw [if_neg c3]
  obtain ⟨j, rfl⟩ : ∃ j, i = j + 1 := ⟨i - 1, by omega⟩
  by_cases c4 : kd = 3
  · rw [if_pos c4]
    refine ⟨wl, j, m, by omega, by rw [show ((j + 1 : Nat) : Int) - 1 = (j : Int) by omega], W1, by omega, m0, m5, fun v t H' hA ho hd hc W' B' => ?_⟩
    refine ⟨sz8 (by decide), fun p hp => ?_⟩
    have S' := same_new hp (.tup [.str "not", v])
    exact q (.ref p) (.not t) _ (by rw [Tr.At]; exact ⟨p, v, rfl, upd_same, hA.same S'⟩) (by rw [Tr.ok]; exact ho) (by rw [Tr.dp]; omega) (by rw [Tr.cnt, Nat.pow_succ]; omega) (W'.same S') (B1.trans (B'.trans (Same.but S')))
  rw [if_neg c4]
  by_cases c5 : (2 : Int) < ((j + 1 : Nat) : Int)
  · rw [if_pos c5]
    by_cases c6 : 5 < kd
    · rw [if_pos c6]
      refine ⟨by decide, by decide, ?_⟩
      refine CompR.by (n := 3) (fun i' acc σ H' => ∃ ts : List Tr, All2 (Tr.At H') ts acc ∧ ts.length = i' ∧ (∀ t ∈ ts, t.ok ∧ t.dp ≤ j ∧ t.cnt ≤ 6 * 3 ^ j) ∧ (∃ v, σ = [v, some (.ref wl), some (.int m), some (.int ((j + 1 : Nat) : Int))]) ∧ Well3 H' wl ∧ But wl H1 H') (sz8 (by decide)) ⟨[], .nil, rfl, (fun t ht => absurd ht List.not_mem_nil), ⟨_, rfl⟩, W1, But.refl _ _⟩ ?_ ?_ ?_
      · rintro i' acc σ H' hi' ⟨ts, hA, hl, ht, ⟨v, rfl⟩, W', B'⟩
        walk_at "w0"
        refine ⟨wl, j, m, by omega, by rw [show ((j + 1 : Nat) : Int) - 1 = (j : Int) by omega], W', by omega, m0, m5, fun v2 t2 H2 hA2 ho2 hd2 hc2 W2 B2 => ?_⟩
        have new : ∃ ts : List Tr, All2 (Tr.At H2) ts (acc ++ [v2]) ∧ ts.length = i' + 1 ∧ (∀ t ∈ ts, t.ok ∧ t.dp ≤ j ∧ t.cnt ≤ 6 * 3 ^ j) := ⟨ts ++ [t2], (hA.imp fun t y _ h => h.but3 W' B2).snoc hA2, by rw [List.length_append, hl]; rfl, fun t m2 => by
          rcases List.mem_append.mp m2 with m2 | m2
          · exact ht t m2
          · rw [List.mem_singleton.mp m2]; exact ⟨ho2, hd2, hc2⟩⟩
        obtain ⟨ts2, n1, n2, n3⟩ := new
        first | exact ⟨ts2, n1, n2, n3, ⟨_, rfl⟩, W2, B'.trans B2⟩ | exact ⟨ts2, n1, n2, n3, W2, B'.trans B2⟩
      · rintro i' acc σ H' ⟨ts, hA, hl, _⟩
        rw [← hA.len]
        omega
      rintro acc σ H2 ⟨ts, hA, hl, ht, ⟨v, rfl⟩, W2, B2⟩ pl hpl
      have T0 := same_new hpl (.lst acc)
      have e0 : upd H2 pl (.lst acc) pl = some (.lst acc) := upd_same
      generalize upd H2 pl (.lst acc) = G0 at *
      walk_at "w0"
      refine ⟨sz8 (by decide), fun p1 h1 => ?_⟩
      have T1 := same_new h1 (.lst [.str "both", .str "either"])
      have f1 : upd G0 p1 (.lst [.str "both", .str "either"]) p1 = some (.lst [.str "both", .str "either"]) := upd_same
      have e1 := T1 _ _ e0
      generalize upd G0 p1 (.lst [.str "both", .str "either"]) = G1 at *
      refine ⟨by decide, ?_⟩
      have okT : 2 ≤ (Trs.ofL ts).toL.length ∧ (Trs.ofL ts).toL.length ≤ 6 ∧ (Trs.ofL ts).ok := by
        rw [toL_ofL]
        exact ⟨by omega, by omega, trs_ok.mpr (by rw [toL_ofL]; exact fun t h => (ht t h).1)⟩
      have dpT : (Trs.ofL ts).dp ≤ j := trs_dp_le (by rw [toL_ofL]; exact fun t h => (ht t h).2.1)
      have cnT : (Trs.ofL ts).cnt ≤ 6 * 3 ^ (j + 1) := by
        have h := trs_cnt (n := 6 * 3 ^ j) (ts := Trs.ofL ts) (by rw [toL_ofL]; exact fun t h => (ht t h).2.2)
        rw [toL_ofL, hl] at h
        refine Nat.le_trans h ?_
        rw [Nat.pow_succ, ← Nat.mul_assoc]
        exact Nat.mul_le_mul_left _ (by decide)
      rcases (by omega : kd % 2 = 0 ∨ kd % 2 = 1) with hk | hk
      · rw [hk]
        refine ixl (SqL.of f1) (v := .str "both") rfl ?_
        walk_at "w0"
        refine ⟨_, .inl ⟨SqL.of e1, fun p3 h3 => ?_⟩⟩
        have T3 := same_new h3 (.tup acc)
        refine ⟨sz8 (by decide), fun p4 h4 => ?_⟩
        have SS := T0.trans (T1.trans (T3.trans (same_new h4 (.tup [.str "both", .ref p3]))))
        exact q (.ref p4) (.both (Trs.ofL ts)) _ (by rw [Tr.At]; exact ⟨p4, p3, acc, rfl, upd_same, same_new h4 _ _ _ upd_same, trs_at.mpr (by rw [toL_ofL]; exact hA.imp fun t y _ h => h.same SS)⟩) (by rw [Tr.ok]; exact okT) (by rw [Tr.dp]; omega) (by rw [Tr.cnt]; exact cnT) (W2.same SS) (B1.trans (B2.trans (Same.but SS)))
      · rw [hk]
        refine ixl (SqL.of f1) (v := .str "either") rfl ?_
        walk_at "w0"
        refine ⟨_, .inl ⟨SqL.of e1, fun p3 h3 => ?_⟩⟩
        have T3 := same_new h3 (.tup acc)
        refine ⟨sz8 (by decide), fun p4 h4 => ?_⟩
        have SS := T0.trans (T1.trans (T3.trans (same_new h4 (.tup [.str "either", .ref p3]))))
        exact q (.ref p4) (.either (Trs.ofL ts)) _ (by rw [Tr.At]; exact ⟨p4, p3, acc, rfl, upd_same, same_new h4 _ _ _ upd_same, trs_at.mpr (by rw [toL_ofL]; exact hA.imp fun t y _ h => h.same SS)⟩) (by rw [Tr.ok]; exact okT) (by rw [Tr.dp]; omega) (by rw [Tr.cnt]; exact cnT) (W2.same SS) (B1.trans (B2.trans (Same.but SS)))
    · rw [if_neg c6]
      refine ⟨by decide, by decide, ?_⟩
      refine CompR.by (n := 2) (fun i' acc σ H' => ∃ ts : List Tr, All2 (Tr.At H') ts acc ∧ ts.length = i' ∧ (∀ t ∈ ts, t.ok ∧ t.dp ≤ j ∧ t.cnt ≤ 6 * 3 ^ j) ∧ (∃ v, σ = [v, some (.ref wl), some (.int m), some (.int ((j + 1 : Nat) : Int))]) ∧ Well3 H' wl ∧ But wl H1 H') (sz8 (by decide)) ⟨[], .nil, rfl, (fun t ht => absurd ht List.not_mem_nil), ⟨_, rfl⟩, W1, But.refl _ _⟩ ?_ ?_ ?_
      · rintro i' acc σ H' hi' ⟨ts, hA, hl, ht, ⟨v, rfl⟩, W', B'⟩
        walk_at "w0"
        refine ⟨wl, j, m, by omega, by rw [show ((j + 1 : Nat) : Int) - 1 = (j : Int) by omega], W', by omega, m0, m5, fun v2 t2 H2 hA2 ho2 hd2 hc2 W2 B2 => ?_⟩
        have new : ∃ ts : List Tr, All2 (Tr.At H2) ts (acc ++ [v2]) ∧ ts.length = i' + 1 ∧ (∀ t ∈ ts, t.ok ∧ t.dp ≤ j ∧ t.cnt ≤ 6 * 3 ^ j) := ⟨ts ++ [t2], (hA.imp fun t y _ h => h.but3 W' B2).snoc hA2, by rw [List.length_append, hl]; rfl, fun t m2 => by
          rcases List.mem_append.mp m2 with m2 | m2
          · exact ht t m2
          · rw [List.mem_singleton.mp m2]; exact ⟨ho2, hd2, hc2⟩⟩
        obtain ⟨ts2, n1, n2, n3⟩ := new
        first | exact ⟨ts2, n1, n2, n3, ⟨_, rfl⟩, W2, B'.trans B2⟩ | exact ⟨ts2, n1, n2, n3, W2, B'.trans B2⟩
      · rintro i' acc σ H' ⟨ts, hA, hl, _⟩
        rw [← hA.len]
        omega
      rintro acc σ H2 ⟨ts, hA, hl, ht, ⟨v, rfl⟩, W2, B2⟩ pl hpl
      have T0 := same_new hpl (.lst acc)
      have e0 : upd H2 pl (.lst acc) pl = some (.lst acc) := upd_same
      generalize upd H2 pl (.lst acc) = G0 at *
      walk_at "w0"
      refine ⟨sz8 (by decide), fun p1 h1 => ?_⟩
      have T1 := same_new h1 (.lst [.str "both", .str "either"])
      have f1 : upd G0 p1 (.lst [.str "both", .str "either"]) p1 = some (.lst [.str "both", .str "either"]) := upd_same
      have e1 := T1 _ _ e0
      generalize upd G0 p1 (.lst [.str "both", .str "either"]) = G1 at *
      refine ⟨by decide, ?_⟩
      have okT : 2 ≤ (Trs.ofL ts).toL.length ∧ (Trs.ofL ts).toL.length ≤ 6 ∧ (Trs.ofL ts).ok := by
        rw [toL_ofL]
        exact ⟨by omega, by omega, trs_ok.mpr (by rw [toL_ofL]; exact fun t h => (ht t h).1)⟩
      have dpT : (Trs.ofL ts).dp ≤ j := trs_dp_le (by rw [toL_ofL]; exact fun t h => (ht t h).2.1)
      have cnT : (Trs.ofL ts).cnt ≤ 6 * 3 ^ (j + 1) := by
        have h := trs_cnt (n := 6 * 3 ^ j) (ts := Trs.ofL ts) (by rw [toL_ofL]; exact fun t h => (ht t h).2.2)
        rw [toL_ofL, hl] at h
        refine Nat.le_trans h ?_
        rw [Nat.pow_succ, ← Nat.mul_assoc]
        exact Nat.mul_le_mul_left _ (by decide)
      rcases (by omega : kd % 2 = 0 ∨ kd % 2 = 1) with hk | hk
      · rw [hk]
        refine ixl (SqL.of f1) (v := .str "both") rfl ?_
        walk_at "w0"
        refine ⟨_, .inl ⟨SqL.of e1, fun p3 h3 => ?_⟩⟩
        have T3 := same_new h3 (.tup acc)
        refine ⟨sz8 (by decide), fun p4 h4 => ?_⟩
        have SS := T0.trans (T1.trans (T3.trans (same_new h4 (.tup [.str "both", .ref p3]))))
        exact q (.ref p4) (.both (Trs.ofL ts)) _ (by rw [Tr.At]; exact ⟨p4, p3, acc, rfl, upd_same, same_new h4 _ _ _ upd_same, trs_at.mpr (by rw [toL_ofL]; exact hA.imp fun t y _ h => h.same SS)⟩) (by rw [Tr.ok]; exact okT) (by rw [Tr.dp]; omega) (by rw [Tr.cnt]; exact cnT) (W2.same SS) (B1.trans (B2.trans (Same.but SS)))
      · rw [hk]
        refine ixl (SqL.of f1) (v := .str "either") rfl ?_
        walk_at "w0"
        refine ⟨_, .inl ⟨SqL.of e1, fun p3 h3 => ?_⟩⟩
        have T3 := same_new h3 (.tup acc)
        refine ⟨sz8 (by decide), fun p4 h4 => ?_⟩
        have SS := T0.trans (T1.trans (T3.trans (same_new h4 (.tup [.str "either", .ref p3]))))
        exact q (.ref p4) (.either (Trs.ofL ts)) _ (by rw [Tr.At]; exact ⟨p4, p3, acc, rfl, upd_same, same_new h4 _ _ _ upd_same, trs_at.mpr (by rw [toL_ofL]; exact hA.imp fun t y _ h => h.same SS)⟩) (by rw [Tr.ok]; exact okT) (by rw [Tr.dp]; omega) (by rw [Tr.cnt]; exact cnT) (W2.same SS) (B1.trans (B2.trans (Same.but SS)))
  · rw [if_neg c5]
    first | refine ⟨by decide, by decide, ?_⟩ | (walk_at "w0"; refine ⟨by decide, by decide, ?_⟩)
    refine CompR.by (n := 2) (fun i' acc σ H' => ∃ ts : List Tr, All2 (Tr.At H') ts acc ∧ ts.length = i' ∧ (∀ t ∈ ts, t.ok ∧ t.dp ≤ j ∧ t.cnt ≤ 6 * 3 ^ j) ∧ (∃ v, σ = [v, some (.ref wl), some (.int m), some (.int ((j + 1 : Nat) : Int))]) ∧ Well3 H' wl ∧ But wl H1 H') (sz8 (by decide)) ⟨[], .nil, rfl, (fun t ht => absurd ht List.not_mem_nil), ⟨_, rfl⟩, W1, But.refl _ _⟩ ?_ ?_ ?_
    · rintro i' acc σ H' hi' ⟨ts, hA, hl, ht, ⟨v, rfl⟩, W', B'⟩
      walk_at "w0"
      refine ⟨wl, j, m, by omega, by rw [show ((j + 1 : Nat) : Int) - 1 = (j : Int) by omega], W', by omega, m0, m5, fun v2 t2 H2 hA2 ho2 hd2 hc2 W2 B2 => ?_⟩
      have new : ∃ ts : List Tr, All2 (Tr.At H2) ts (acc ++ [v2]) ∧ ts.length = i' + 1 ∧ (∀ t ∈ ts, t.ok ∧ t.dp ≤ j ∧ t.cnt ≤ 6 * 3 ^ j) := ⟨ts ++ [t2], (hA.imp fun t y _ h => h.but3 W' B2).snoc hA2, by rw [List.length_append, hl]; rfl, fun t m2 => by
        rcases List.mem_append.mp m2 with m2 | m2
        · exact ht t m2
        · rw [List.mem_singleton.mp m2]; exact ⟨ho2, hd2, hc2⟩⟩
      obtain ⟨ts2, n1, n2, n3⟩ := new
      first | exact ⟨ts2, n1, n2, n3, ⟨_, rfl⟩, W2, B'.trans B2⟩ | exact ⟨ts2, n1, n2, n3, W2, B'.trans B2⟩
    · rintro i' acc σ H' ⟨ts, hA, hl, _⟩
      rw [← hA.len]
      omega
    rintro acc σ H2 ⟨ts, hA, hl, ht, ⟨v, rfl⟩, W2, B2⟩ pl hpl
    have T0 := same_new hpl (.lst acc)
    have e0 : upd H2 pl (.lst acc) pl = some (.lst acc) := upd_same
    generalize upd H2 pl (.lst acc) = G0 at *
    walk_at "w0"
    refine ⟨sz8 (by decide), fun p1 h1 => ?_⟩
    have T1 := same_new h1 (.lst [.str "both", .str "either"])
    have f1 : upd G0 p1 (.lst [.str "both", .str "either"]) p1 = some (.lst [.str "both", .str "either"]) := upd_same
    have e1 := T1 _ _ e0
    generalize upd G0 p1 (.lst [.str "both", .str "either"]) = G1 at *
    refine ⟨by decide, ?_⟩
    have okT : 2 ≤ (Trs.ofL ts).toL.length ∧ (Trs.ofL ts).toL.length ≤ 6 ∧ (Trs.ofL ts).ok := by
      rw [toL_ofL]
      exact ⟨by omega, by omega, trs_ok.mpr (by rw [toL_ofL]; exact fun t h => (ht t h).1)⟩
    have dpT : (Trs.ofL ts).dp ≤ j := trs_dp_le (by rw [toL_ofL]; exact fun t h => (ht t h).2.1)
    have cnT : (Trs.ofL ts).cnt ≤ 6 * 3 ^ (j + 1) := by
      have h := trs_cnt (n := 6 * 3 ^ j) (ts := Trs.ofL ts) (by rw [toL_ofL]; exact fun t h => (ht t h).2.2)
      rw [toL_ofL, hl] at h
      refine Nat.le_trans h ?_
      rw [Nat.pow_succ, ← Nat.mul_assoc]
      exact Nat.mul_le_mul_left _ (by decide)
    rcases (by omega : kd % 2 = 0 ∨ kd % 2 = 1) with hk | hk
    · rw [hk]
      refine ixl (SqL.of f1) (v := .str "both") rfl ?_
      walk_at "w0"
      refine ⟨_, .inl ⟨SqL.of e1, fun p3 h3 => ?_⟩⟩
      have T3 := same_new h3 (.tup acc)
      refine ⟨sz8 (by decide), fun p4 h4 => ?_⟩
      have SS := T0.trans (T1.trans (T3.trans (same_new h4 (.tup [.str "both", .ref p3]))))
      exact q (.ref p4) (.both (Trs.ofL ts)) _ (by rw [Tr.At]; exact ⟨p4, p3, acc, rfl, upd_same, same_new h4 _ _ _ upd_same, trs_at.mpr (by rw [toL_ofL]; exact hA.imp fun t y _ h => h.same SS)⟩) (by rw [Tr.ok]; exact okT) (by rw [Tr.dp]; omega) (by rw [Tr.cnt]; exact cnT) (W2.same SS) (B1.trans (B2.trans (Same.but SS)))
    · rw [hk]
      refine ixl (SqL.of f1) (v := .str "either") rfl ?_
      walk_at "w0"
      refine ⟨_, .inl ⟨SqL.of e1, fun p3 h3 => ?_⟩⟩
      have T3 := same_new h3 (.tup acc)
      refine ⟨sz8 (by decide), fun p4 h4 => ?_⟩
      have SS := T0.trans (T1.trans (T3.trans (same_new h4 (.tup [.str "either", .ref p3]))))
      exact q (.ref p4) (.either (Trs.ofL ts)) _ (by rw [Tr.At]; exact ⟨p4, p3, acc, rfl, upd_same, same_new h4 _ _ _ upd_same, trs_at.mpr (by rw [toL_ofL]; exact hA.imp fun t y _ h => h.same SS)⟩) (by rw [Tr.ok]; exact okT) (by rw [Tr.dp]; omega) (by rw [Tr.cnt]; exact cnT) (W2.same SS) (B1.trans (B2.trans (Same.but SS)))
theorem ok_law_made {d n : Nat} (hn : 5 ≤ n) (B : Bt K mg a) (CC_Either : CalC P w K mg base "Either" a.Either ["self", "fits"] 3 (sp_Either___init__ K a)) (CC_Kind : CalC P w K mg base "Kind" a.Kind ["self", "names"] 4 (sp_Kind___init__ K a)) (CC_Place : CalC P w K mg base "Place" a.Place ["self", "names"] 4 (sp_Place___init__ K a)) (CC_Least : CalC P w K mg base "Least" a.Least ["self", "weight"] 3 (sp_Least___init__ K a)) (CC_Not : CalC P w K mg base "Not" a.Not ["self", "fit"] 2 (sp_Not___init__ K a)) (CC_Both : CalC P w K mg base "Both" a.Both ["self", "fits"] 3 (sp_Both___init__ K a)) (C_law_made : CalX P w K mg base "_law_made" ["_law_tree_here"] n (sp_law_made K a d)) (F : Fun K "_law_made" "_law_made" s_law_made f fd) : FnOk P w K mg base CX0 (n + 1) f fd ["_law_tree_here"] (sp_law_made K a (d + 1)) := by
  refine F.ok sc_law_made (fun vs H Q E h => ?_) (fun cdv A outer s H vs Q E hr h => ?_)
  · obtain ⟨v, t, hd0, rfl, _⟩ := h
    rfl
  obtain ⟨v, t, hd0, rfl, hA, ho, q⟩ := h
  refine ⟨_, (pss_of (qss_cons (qs_if (pt_cmpR op_eq (pe_ix ix_tup (pv 0) pe_int (fun _ _ => rfl)) pe_str (nomark _)) (qss_one (qs_ret (qe_of (pe_makN B.mk_Any rfl B.Any)))) qss_nil) (qss_cons (qs_if (pt_cmpR op_eq (pe_ix ix_tup (pv 0) pe_int (fun _ _ => rfl)) pe_str (nomark _)) (qss_one (qs_ret (qe_of (pe_mak CC_Kind pass00 (hr.mono (by omega)) rfl (pa_of (qa_c (pe_callTy call_list_of rfl B.list PyProof.Rows.boot_list (pa_of (qa_c (pe_ix ix_tup (pv 0) pe_int (fun _ _ => rfl)) qa_nil))) qa_nil)) (he := star_plain _ _ _ rfl) (hpl := plain_any rfl))))) qss_nil) (qss_cons (qs_if (pt_cmpR op_eq (pe_ix ix_tup (pv 0) pe_int (fun _ _ => rfl)) pe_str (nomark _)) (qss_one (qs_ret (qe_of (pe_mak CC_Place pass00 (hr.mono (by omega)) rfl (pa_of (qa_c (pe_callTy call_list_of rfl B.list PyProof.Rows.boot_list (pa_of (qa_c (pe_ix ix_tup (pv 0) pe_int (fun _ _ => rfl)) qa_nil))) qa_nil)) (he := star_plain _ _ _ rfl) (hpl := plain_any rfl))))) qss_nil) (qss_cons (qs_if (pt_cmpR op_eq (pe_ix ix_tup (pv 0) pe_int (fun _ _ => rfl)) pe_str (nomark _)) (qss_one (qs_ret (qe_of (pe_mak CC_Least pass00 (hr.mono (by omega)) rfl (pa_of (qa_c (pe_ix ix_tup (pv 0) pe_int (fun _ _ => rfl)) qa_nil)) (he := star_plain _ _ _ rfl) (hpl := plain_any rfl))))) qss_nil) (qss_cons (qs_if (pt_cmpR op_eq (pe_ix ix_tup (pv 0) pe_int (fun _ _ => rfl)) pe_str (nomark _)) (qss_one (qs_ret (qe_of (pe_mak CC_Not pass00 (hr.mono (by omega)) rfl (pa_of (qa_c (pe_calN C_law_made (hr.mono (by omega)) rfl (pa_of (qa_c (pe_ix ix_tup (pv 0) pe_int (fun _ _ => rfl)) qa_nil)) (he := star_plain _ _ _ rfl) (hpl := plain_any rfl)) qa_nil)) (he := star_plain _ _ _ rfl) (hpl := plain_any rfl))))) qss_nil) (qss_cons (qs_if (pt_cmpR op_eq (pe_ix ix_tup (pv 0) pe_int (fun _ _ => rfl)) pe_str (nomark _)) (qss_one (qs_ret (qe_of (pe_mak CC_Both pass00 (hr.mono (by omega)) rfl (pa_of (qa_c (pe_compB ["_law_part"] [none] rfl (by kernel_rfl) (pi_tup (pe_ix ix_tup (pv 0) pe_int (fun _ _ => rfl))) (fun cl C s H fp => ⟨(pg_name (i := 0) (by decide : List.Nodup (["_law_part"] : List Str)) rfl (Or.inl (by kernel_rfl)) (Or.inr (by kernel_rfl))), pts_nil, (pe_calN C_law_made (hr.mono (by omega)) (gl_of (by kernel_rfl)) (pa_of (qa_c (pv 0 (hv := Or.inl (by kernel_rfl))) qa_nil)) (he := star_plain _ _ _ rfl) (hpl := plain_any rfl))⟩)) qa_nil)) (he := star_plain _ _ _ rfl) (hpl := plain_any rfl))))) qss_nil) (qss_one (qs_ret (qe_of (pe_mak CC_Either pass00 (hr.mono (by omega)) rfl (pa_of (qa_c (pe_compB ["_law_part"] [none] rfl (by kernel_rfl) (pi_tup (pe_ix ix_tup (pv 0) pe_int (fun _ _ => rfl))) (fun cl C s H fp => ⟨(pg_name (i := 0) (by decide : List.Nodup (["_law_part"] : List Str)) rfl (Or.inl (by kernel_rfl)) (Or.inr (by kernel_rfl))), pts_nil, (pe_calN C_law_made (hr.mono (by omega)) (gl_of (by kernel_rfl)) (pa_of (qa_c (pv 0 (hv := Or.inl (by kernel_rfl))) qa_nil)) (he := star_plain _ _ _ rfl) (hpl := plain_any rfl))⟩)) qa_nil)) (he := star_plain _ _ _ rfl) (hpl := plain_any rfl)))))))))))), ?_⟩
  cases t with
  | any =>
    rw [Tr.At] at hA
    obtain ⟨p, rfl, hp⟩ := hA
    walk_at "w0"
    refine ixt (SqT.of hp) (v := .str "any") rfl ?_
    walk_at "w0"
    intro x dx hx hd ne
    exact q (.ref x) _ (made_same hx hd) (by rw [Tr.Fit]; exact ⟨x, dx, rfl, upd_same⟩)
  | kind us =>
    rw [Tr.At] at hA
    obtain ⟨p, l0, rfl, hp, hl⟩ := hA
    walk_at "w0"
    refine ixt (SqT.of hp) (v := .str "kind") rfl ?_
    walk_at "w0"
    rw [if_neg (by decide)]
    refine ixt (SqT.of hp) (v := .str "kind") rfl ?_
    walk_at "w0"
    rw [Tr.ok] at ho
    refine ixt (SqT.of hp) (v := .ref l0) rfl ?_
    walk_at "w0"
    refine ⟨_, .inr (SqT.of hl), fun l2 h2 => ?_⟩
    have S2 := same_new h2 (.lst (us.map V.str))
    intro x dx hx hd ne
    have M := made_same (o := .own x) (o' := .ins a.Kind dx []) hx hd
    refine ⟨x, dx, l2, us, rfl, upd_same, M _ _ upd_same, ho, fun l3 H' Bx e1 e2 => ?_⟩
    walk_at "w0"
    exact q (.ref x) _ (S2.trans (made_but hx hd Bx)) (by rw [Tr.Fit]; exact ⟨x, dx, l3, rfl, e2, e1⟩)
  | place us =>
    rw [Tr.At] at hA
    obtain ⟨p, l0, rfl, hp, hl⟩ := hA
    walk_at "w0"
    refine ixt (SqT.of hp) (v := .str "place") rfl ?_
    walk_at "w0"
    rw [if_neg (by decide)]
    refine ixt (SqT.of hp) (v := .str "place") rfl ?_
    walk_at "w0"
    rw [if_neg (by decide)]
    refine ixt (SqT.of hp) (v := .str "place") rfl ?_
    walk_at "w0"
    rw [Tr.ok] at ho
    refine ixt (SqT.of hp) (v := .ref l0) rfl ?_
    walk_at "w0"
    refine ⟨_, .inr (SqT.of hl), fun l2 h2 => ?_⟩
    have S2 := same_new h2 (.lst (us.map V.str))
    intro x dx hx hd ne
    have M := made_same (o := .own x) (o' := .ins a.Place dx []) hx hd
    refine ⟨x, dx, l2, us, rfl, upd_same, M _ _ upd_same, ho, fun l3 H' Bx e1 e2 => ?_⟩
    walk_at "w0"
    exact q (.ref x) _ (S2.trans (made_but hx hd Bx)) (by rw [Tr.Fit]; exact ⟨x, dx, l3, rfl, e2, e1⟩)
  | weight n =>
    rw [Tr.At] at hA
    obtain ⟨p, rfl, hp⟩ := hA
    walk_at "w0"
    refine ixt (SqT.of hp) (v := .str "weight") rfl ?_
    walk_at "w0"
    rw [if_neg (by decide)]
    refine ixt (SqT.of hp) (v := .str "weight") rfl ?_
    walk_at "w0"
    rw [if_neg (by decide)]
    refine ixt (SqT.of hp) (v := .str "weight") rfl ?_
    walk_at "w0"
    rw [if_neg (by decide)]
    refine ixt (SqT.of hp) (v := .str "weight") rfl ?_
    walk_at "w0"
    rw [Tr.ok] at ho
    refine ixt (SqT.of hp) (v := .int n) rfl ?_
    walk_at "w0"
    intro x dx hx hd ne
    refine ⟨x, dx, n, rfl, upd_same, ho.1, ?_⟩
    walk_at "w0"
    exact q (.ref x) _ (fun b o e => by rw [upd_ne (ne_of_none e hx)]; exact made_same hx hd b o e) (by rw [Tr.Fit]; exact ⟨x, dx, rfl, upd_same⟩)
  | not t =>
    rw [Tr.At] at hA
    obtain ⟨p, y, rfl, hp, hy⟩ := hA
    walk_at "w0"
    refine ixt (SqT.of hp) (v := .str "not") rfl ?_
    walk_at "w0"
    rw [if_neg (by decide)]
    refine ixt (SqT.of hp) (v := .str "not") rfl ?_
    walk_at "w0"
    rw [if_neg (by decide)]
    refine ixt (SqT.of hp) (v := .str "not") rfl ?_
    walk_at "w0"
    rw [if_neg (by decide)]
    refine ixt (SqT.of hp) (v := .str "not") rfl ?_
    walk_at "w0"
    rw [if_neg (by decide)]
    refine ixt (SqT.of hp) (v := .str "not") rfl ?_
    walk_at "w0"
    rw [Tr.ok] at ho
    rw [Tr.dp] at hd0
    refine ixt (SqT.of hp) (v := y) rfl ?_
    walk_at "w0"
    refine ⟨y, t, by omega, rfl, hy, ho, fun v' H' S' hf => ?_⟩
    walk_at "w0"
    intro x dx hx hd ne
    have M := made_same (o := .own x) (o' := .ins a.Not dx []) hx hd
    refine ⟨x, dx, v', t, rfl, upd_same, hf.same M, ?_⟩
    walk_at "w0"
    have SS : Same H' (upd (upd (upd H' dx (.own x)) x (.ins a.Not dx [])) x (.ins a.Not dx [("fit", v')])) := fun b o e => by rw [upd_ne (ne_of_none e hx)]; exact M b o e
    exact q (.ref x) _ (S'.trans SS) (by rw [Tr.Fit]; exact ⟨x, dx, v', rfl, upd_same, hf.same SS⟩)
  | both ts =>
    rw [Tr.At] at hA
    obtain ⟨p, l0, xs, rfl, hp, hl, hs⟩ := hA
    walk_at "w0"
    refine ixt (SqT.of hp) (v := .str "both") rfl ?_
    walk_at "w0"
    rw [if_neg (by decide)]
    refine ixt (SqT.of hp) (v := .str "both") rfl ?_
    walk_at "w0"
    rw [if_neg (by decide)]
    refine ixt (SqT.of hp) (v := .str "both") rfl ?_
    walk_at "w0"
    rw [if_neg (by decide)]
    refine ixt (SqT.of hp) (v := .str "both") rfl ?_
    walk_at "w0"
    rw [if_neg (by decide)]
    refine ixt (SqT.of hp) (v := .str "both") rfl ?_
    walk_at "w0"
    rw [if_neg (by decide)]
    refine ixt (SqT.of hp) (v := .str "both") rfl ?_
    walk_at "w0"
    rw [Tr.ok] at ho
    rw [Tr.dp] at hd0
    obtain ⟨l2, l6, ho⟩ := ho
    have hA := trs_at.mp hs
    have ln6 := hA.len
    refine ixt (SqT.of hp) (v := .ref l0) rfl ?_
    walk_at "w0"
    refine ⟨⟨xs, SqT.of hl⟩, ?_⟩
    refine CompT.by (xs := xs) (fun i acc σ H' => All2 (Tr.Fit (fc a) H') (ts.toL.take i) acc ∧ (∃ v, σ = [v]) ∧ Same H H') (sz8 (by omega)) ⟨.nil, ⟨_, rfl⟩, fun _ _ z => z⟩ (fun i acc σ H' _ h => SqT.of (h.2.2 _ _ hl)) ?_ ?_ ?_
    · rintro i y acc σ H' hy ⟨hF, ⟨v, rfl⟩, S1⟩
      obtain ⟨t, e, ht⟩ := hA.get hy
      have mt := List.mem_of_getElem? e
      have dt := trs_dp mt
      walk_at "w0"
      refine ⟨y, t, by omega, rfl, ht.same S1, trs_ok.mp ho t mt, fun v' H2 S2 hf => ?_⟩
      have new : All2 (Tr.Fit (fc a) H2) (ts.toL.take (i + 1)) (acc ++ [v']) := by
        rw [List.take_succ, e]
        exact (hF.imp fun t y _ h => h.same S2).snoc hf
      first | exact ⟨new, ⟨_, rfl⟩, S1.trans S2⟩ | exact ⟨new, S1.trans S2⟩
    · rintro i acc σ H' ⟨hF, _, _⟩
      rw [← hF.len, List.length_take]
      omega
    rintro acc σ H' ⟨hF, ⟨v, rfl⟩, S1⟩ D hD
    rw [← ln6, List.take_length] at hF
    have la := hF.len
    have S2 := same_new hD (.lst acc)
    intro x dx hx hd ne
    have M := made_same (o := .own x) (o' := .ins a.Both dx []) hx hd
    refine ⟨x, dx, D, acc, ts.toL, rfl, upd_same, M _ _ upd_same, hF.imp (fun t y _ h => (h.same S2).same M), by omega, by omega, fun l3 H3 Bx e1 e2 => ?_⟩
    walk_at "w0"
    have SS := S2.trans (made_but hx hd Bx)
    exact q (.ref x) _ (S1.trans SS) (by rw [Tr.Fit]; exact ⟨x, dx, l3, acc, rfl, e2, e1, trs_fit.mpr (hF.imp fun t y _ h => h.same SS)⟩)
  | either ts =>
    rw [Tr.At] at hA
    obtain ⟨p, l0, xs, rfl, hp, hl, hs⟩ := hA
    walk_at "w0"
    refine ixt (SqT.of hp) (v := .str "either") rfl ?_
    walk_at "w0"
    rw [if_neg (by decide)]
    refine ixt (SqT.of hp) (v := .str "either") rfl ?_
    walk_at "w0"
    rw [if_neg (by decide)]
    refine ixt (SqT.of hp) (v := .str "either") rfl ?_
    walk_at "w0"
    rw [if_neg (by decide)]
    refine ixt (SqT.of hp) (v := .str "either") rfl ?_
    walk_at "w0"
    rw [if_neg (by decide)]
    refine ixt (SqT.of hp) (v := .str "either") rfl ?_
    walk_at "w0"
    rw [if_neg (by decide)]
    refine ixt (SqT.of hp) (v := .str "either") rfl ?_
    walk_at "w0"
    rw [if_neg (by decide)]
    rw [Tr.ok] at ho
    rw [Tr.dp] at hd0
    obtain ⟨l2, l6, ho⟩ := ho
    have hA := trs_at.mp hs
    have ln6 := hA.len
    refine ixt (SqT.of hp) (v := .ref l0) rfl ?_
    walk_at "w0"
    refine ⟨⟨xs, SqT.of hl⟩, ?_⟩
    refine CompT.by (xs := xs) (fun i acc σ H' => All2 (Tr.Fit (fc a) H') (ts.toL.take i) acc ∧ (∃ v, σ = [v]) ∧ Same H H') (sz8 (by omega)) ⟨.nil, ⟨_, rfl⟩, fun _ _ z => z⟩ (fun i acc σ H' _ h => SqT.of (h.2.2 _ _ hl)) ?_ ?_ ?_
    · rintro i y acc σ H' hy ⟨hF, ⟨v, rfl⟩, S1⟩
      obtain ⟨t, e, ht⟩ := hA.get hy
      have mt := List.mem_of_getElem? e
      have dt := trs_dp mt
      walk_at "w0"
      refine ⟨y, t, by omega, rfl, ht.same S1, trs_ok.mp ho t mt, fun v' H2 S2 hf => ?_⟩
      have new : All2 (Tr.Fit (fc a) H2) (ts.toL.take (i + 1)) (acc ++ [v']) := by
        rw [List.take_succ, e]
        exact (hF.imp fun t y _ h => h.same S2).snoc hf
      first | exact ⟨new, ⟨_, rfl⟩, S1.trans S2⟩ | exact ⟨new, S1.trans S2⟩
    · rintro i acc σ H' ⟨hF, _, _⟩
      rw [← hF.len, List.length_take]
      omega
    rintro acc σ H' ⟨hF, ⟨v, rfl⟩, S1⟩ D hD
    rw [← ln6, List.take_length] at hF
    have la := hF.len
    have S2 := same_new hD (.lst acc)
    intro x dx hx hd ne
    have M := made_same (o := .own x) (o' := .ins a.Either dx []) hx hd
    refine ⟨x, dx, D, acc, ts.toL, rfl, upd_same, M _ _ upd_same, hF.imp (fun t y _ h => (h.same S2).same M), by omega, by omega, fun l3 H3 Bx e1 e2 => ?_⟩
    walk_at "w0"
    have SS := S2.trans (made_but hx hd Bx)
    exact q (.ref x) _ (S1.trans SS) (by rw [Tr.Fit]; exact ⟨x, dx, l3, acc, rfl, e2, e1, trs_fit.mpr (hF.imp fun t y _ h => h.same SS)⟩)
theorem trs_cntL : ∀ ts : Trs, ts.cnt = (ts.toL.map Tr.cnt).sum
  | .nil => rfl
  | .cons t ts => by rw [Trs.cnt, Trs.toL, List.map_cons, List.sum_cons, trs_cntL ts]
theorem sum_take {L : List Tr} {i : Nat} {t : Tr} (h : L[i]? = some t) : ((L.take (i + 1)).map Tr.cnt).sum = ((L.take i).map Tr.cnt).sum + t.cnt := by
  rw [List.take_succ, h, List.map_append, List.sum_append]
  simp
theorem sum_take_le : ∀ (L : List Tr) (i : Nat), ((L.take i).map Tr.cnt).sum ≤ (L.map Tr.cnt).sum
  | [], i => by rw [List.take_nil]; exact Nat.le_refl _
  | t :: L, 0 => Nat.zero_le _
  | t :: L, i + 1 => by
    rw [List.take_succ_cons, List.map_cons, List.map_cons, List.sum_cons, List.sum_cons]
    exact Nat.add_le_add_left (sum_take_le L i) _
theorem cnt_mem {ts : Trs} {t : Tr} (h : t ∈ ts.toL) : t.cnt ≤ ts.cnt := by
  rw [trs_cntL]
  generalize ts.toL = L at h
  induction L with
  | nil => cases h
  | cons s r ih =>
    rw [List.map_cons, List.sum_cons]
    rcases List.mem_cons.mp h with rfl | h
    · omega
    · have := ih h; omega
theorem ThAt.keep {H H' : Hp} {x : V} {k p : Str} {w : Int} (h : ThAt H x k p w) (s : TupK H H') : ThAt H' x k p w := by
  obtain ⟨tp, e, h, r⟩ := h
  exact ⟨tp, e, s _ _ h, r⟩
theorem ok_law_gathered {d n : Nat} (hn : 0 ≤ n) (B : Bt K mg a) (C_law_gathered : CalX P w K mg base "_law_gathered" ["_law_tree_here", "_law_word"] n (sp_law_gathered K a d)) (F : Fun K "_law_gathered" "_law_gathered" s_law_gathered f fd) : FnOk P w K mg base CX0 (n + 1) f fd ["_law_tree_here", "_law_word"] (sp_law_gathered K a (d + 1)) := by
  refine F.ok sc_law_gathered (fun vs H Q E h => ?_) (fun cdv A outer s H vs Q E hr h => ?_)
  · obtain ⟨v, t, wd, hd0, rfl, _⟩ := h
    rfl
  obtain ⟨v, t, wd, hd0, rfl, hA, ho, hc, hw, q⟩ := h
  refine ⟨_, (pss_of (qss_cons (qs_if (L2.PW.pt (pw_and (pt_cmpR op_eq (pe_ix ix_tup (pv 0) pe_int (fun _ _ => rfl)) (pv 1) (nomark _)) (pw_and1 (pt_cmpR op_eq (pv 1) pe_str (nomark _))))) (qss_one (qs_ret (qe_lst (qa_c (pe_ix ix_tup (pv 0) pe_int (fun _ _ => rfl)) qa_nil)))) qss_nil) (qss_cons (qs_if (pt_cmpR op_eq (pe_ix ix_tup (pv 0) pe_int (fun _ _ => rfl)) (pv 1) (nomark _)) (qss_one (qs_ret (qe_of (pe_callTy call_list_of rfl B.list PyProof.Rows.boot_list (pa_of (qa_c (pe_ix ix_tup (pv 0) pe_int (fun _ _ => rfl)) qa_nil)))))) qss_nil) (qss_cons (qs_if (pt_cmpR op_eq (pe_ix ix_tup (pv 0) pe_int (fun _ _ => rfl)) pe_str (nomark _)) (qss_one (qs_ret (qe_of (pe_calN C_law_gathered (hr.mono (by omega)) rfl (pa_of (qa_c (pe_ix ix_tup (pv 0) pe_int (fun _ _ => rfl)) (qa_c (pv 1) qa_nil))) (he := star_plain _ _ _ rfl) (hpl := plain_any rfl))))) qss_nil) (qss_cons (qs_set (i := 2) sc_law_gathered.nd rfl (Or.inl rfl) (qe_lst qa_nil) (by kernel_rfl)) (qss_cons (qs_if (L2.PW.pt (pw_or (pt_cmpR op_eq (pe_ix ix_tup (pv 0) pe_int (fun _ _ => rfl)) pe_str (nomark _)) (pw_or1 (pt_cmpR op_eq (pe_ix ix_tup (pv 0) pe_int (fun _ _ => rfl)) pe_str (nomark _))))) (qss_one (qs_of (ps_for PassesOwn.never rfl (pi_tup (pe_ix ix_tup (pv 0) pe_int (fun _ _ => rfl))) (pg_name (i := 3) sc_law_gathered.nd rfl (Or.inl rfl)) (pss_of (qss_one (qs_set (i := 2) sc_law_gathered.nd rfl (Or.inl rfl) (qe_of (pe_op op_cat (pv 2) (pe_calN C_law_gathered (hr.mono (by omega)) rfl (pa_of (qa_c (pv 3) (qa_c (pv 1) qa_nil))) (he := star_plain _ _ _ rfl) (hpl := plain_any rfl)))) (by kernel_rfl))))))) qss_nil) (qss_one (qs_ret (qe_of (pv 2)))))))))), ?_⟩
  cases t with
  | any =>
    rw [Tr.At] at hA
    obtain ⟨p, rfl, hp⟩ := hA
    walk_at "w0"
    have nT : ("any" : Str) ≠ wd := by rcases hw with rfl | rfl | rfl <;> decide
    refine ixt (SqT.of hp) (v := .str "any") rfl ?_
    walk_at "w0"
    rw [if_neg nT]
    refine ixt (SqT.of hp) (v := .str "any") rfl ?_
    walk_at "w0"
    rw [if_neg nT]
    refine ixt (SqT.of hp) (v := .str "any") rfl ?_
    walk_at "w0"
    rw [if_neg (by decide)]
    refine ⟨Nat.zero_le _, fun l1 h1 => ?_⟩
    have S1 := same_new h1 (.lst [])
    have hp := S1 _ _ hp
    have e1 : upd H l1 (.lst []) l1 = some (.lst []) := upd_same
    generalize upd H l1 (.lst []) = H1 at *
    walk_at "w0"
    refine ixt (SqT.of hp) (v := .str "any") rfl ?_
    walk_at "w0"
    rw [if_neg (by decide)]
    refine ixt (SqT.of hp) (v := .str "any") rfl ?_
    walk_at "w0"
    rw [if_neg (by decide)]
    exact q l1 [] _ S1 h1 e1 (Nat.zero_le _) fun x hx => absurd hx List.not_mem_nil
  | kind us =>
    rw [Tr.At] at hA
    rw [Tr.ok] at ho
    obtain ⟨p, l0, rfl, hp, hl⟩ := hA
    walk_at "w0"
    rcases hw with rfl | rfl | rfl
    · skip
      refine ixt (SqT.of hp) (v := .str "kind") rfl ?_
      walk_at "w0"
      rw [if_neg (by decide)]
      refine ixt (SqT.of hp) (v := .str "kind") rfl ?_
      walk_at "w0"
      refine ixt (SqT.of hp) (v := .ref l0) rfl ?_
      walk_at "w0"
      refine ⟨_, .inr (SqT.of hl), fun l1 h1 => ?_⟩
      refine q l1 (us.map V.str) _ (same_new h1 _) h1 upd_same (by rw [Tr.cnt, List.length_map]; exact Nat.le_refl _) fun x hx => ?_
      obtain ⟨u, hu, rfl⟩ := List.mem_map.mp hx
      exact .inr ⟨by decide, u, rfl, ho.2.2.1 u hu⟩
    · skip
      refine ixt (SqT.of hp) (v := .str "kind") rfl ?_
      walk_at "w0"
      rw [if_neg (by decide)]
      refine ixt (SqT.of hp) (v := .str "kind") rfl ?_
      walk_at "w0"
      rw [if_neg (by decide)]
      refine ixt (SqT.of hp) (v := .str "kind") rfl ?_
      walk_at "w0"
      rw [if_neg (by decide)]
      refine ⟨Nat.zero_le _, fun l1 h1 => ?_⟩
      have S1 := same_new h1 (.lst [])
      have hp := S1 _ _ hp
      have e1 : upd H l1 (.lst []) l1 = some (.lst []) := upd_same
      generalize upd H l1 (.lst []) = H1 at *
      walk_at "w0"
      refine ixt (SqT.of hp) (v := .str "kind") rfl ?_
      walk_at "w0"
      rw [if_neg (by decide)]
      refine ixt (SqT.of hp) (v := .str "kind") rfl ?_
      walk_at "w0"
      rw [if_neg (by decide)]
      exact q l1 [] _ S1 h1 e1 (Nat.zero_le _) fun x hx => absurd hx List.not_mem_nil
    · skip
      refine ixt (SqT.of hp) (v := .str "kind") rfl ?_
      walk_at "w0"
      rw [if_neg (by decide)]
      refine ixt (SqT.of hp) (v := .str "kind") rfl ?_
      walk_at "w0"
      rw [if_neg (by decide)]
      refine ixt (SqT.of hp) (v := .str "kind") rfl ?_
      walk_at "w0"
      rw [if_neg (by decide)]
      refine ⟨Nat.zero_le _, fun l1 h1 => ?_⟩
      have S1 := same_new h1 (.lst [])
      have hp := S1 _ _ hp
      have e1 : upd H l1 (.lst []) l1 = some (.lst []) := upd_same
      generalize upd H l1 (.lst []) = H1 at *
      walk_at "w0"
      refine ixt (SqT.of hp) (v := .str "kind") rfl ?_
      walk_at "w0"
      rw [if_neg (by decide)]
      refine ixt (SqT.of hp) (v := .str "kind") rfl ?_
      walk_at "w0"
      rw [if_neg (by decide)]
      exact q l1 [] _ S1 h1 e1 (Nat.zero_le _) fun x hx => absurd hx List.not_mem_nil
  | place us =>
    rw [Tr.At] at hA
    rw [Tr.ok] at ho
    obtain ⟨p, l0, rfl, hp, hl⟩ := hA
    walk_at "w0"
    rcases hw with rfl | rfl | rfl
    · skip
      refine ixt (SqT.of hp) (v := .str "place") rfl ?_
      walk_at "w0"
      rw [if_neg (by decide)]
      refine ixt (SqT.of hp) (v := .str "place") rfl ?_
      walk_at "w0"
      rw [if_neg (by decide)]
      refine ixt (SqT.of hp) (v := .str "place") rfl ?_
      walk_at "w0"
      rw [if_neg (by decide)]
      refine ⟨Nat.zero_le _, fun l1 h1 => ?_⟩
      have S1 := same_new h1 (.lst [])
      have hp := S1 _ _ hp
      have e1 : upd H l1 (.lst []) l1 = some (.lst []) := upd_same
      generalize upd H l1 (.lst []) = H1 at *
      walk_at "w0"
      refine ixt (SqT.of hp) (v := .str "place") rfl ?_
      walk_at "w0"
      rw [if_neg (by decide)]
      refine ixt (SqT.of hp) (v := .str "place") rfl ?_
      walk_at "w0"
      rw [if_neg (by decide)]
      exact q l1 [] _ S1 h1 e1 (Nat.zero_le _) fun x hx => absurd hx List.not_mem_nil
    · skip
      refine ixt (SqT.of hp) (v := .str "place") rfl ?_
      walk_at "w0"
      rw [if_neg (by decide)]
      refine ixt (SqT.of hp) (v := .str "place") rfl ?_
      walk_at "w0"
      refine ixt (SqT.of hp) (v := .ref l0) rfl ?_
      walk_at "w0"
      refine ⟨_, .inr (SqT.of hl), fun l1 h1 => ?_⟩
      refine q l1 (us.map V.str) _ (same_new h1 _) h1 upd_same (by rw [Tr.cnt, List.length_map]; exact Nat.le_refl _) fun x hx => ?_
      obtain ⟨u, hu, rfl⟩ := List.mem_map.mp hx
      exact .inr ⟨by decide, u, rfl, ho.2.2.1 u hu⟩
    · skip
      refine ixt (SqT.of hp) (v := .str "place") rfl ?_
      walk_at "w0"
      rw [if_neg (by decide)]
      refine ixt (SqT.of hp) (v := .str "place") rfl ?_
      walk_at "w0"
      rw [if_neg (by decide)]
      refine ixt (SqT.of hp) (v := .str "place") rfl ?_
      walk_at "w0"
      rw [if_neg (by decide)]
      refine ⟨Nat.zero_le _, fun l1 h1 => ?_⟩
      have S1 := same_new h1 (.lst [])
      have hp := S1 _ _ hp
      have e1 : upd H l1 (.lst []) l1 = some (.lst []) := upd_same
      generalize upd H l1 (.lst []) = H1 at *
      walk_at "w0"
      refine ixt (SqT.of hp) (v := .str "place") rfl ?_
      walk_at "w0"
      rw [if_neg (by decide)]
      refine ixt (SqT.of hp) (v := .str "place") rfl ?_
      walk_at "w0"
      rw [if_neg (by decide)]
      exact q l1 [] _ S1 h1 e1 (Nat.zero_le _) fun x hx => absurd hx List.not_mem_nil
  | weight n =>
    rw [Tr.At] at hA
    rw [Tr.ok] at ho
    obtain ⟨p, rfl, hp⟩ := hA
    walk_at "w0"
    rcases hw with rfl | rfl | rfl
    · skip
      refine ixt (SqT.of hp) (v := .str "weight") rfl ?_
      walk_at "w0"
      rw [if_neg (by decide)]
      refine ixt (SqT.of hp) (v := .str "weight") rfl ?_
      walk_at "w0"
      rw [if_neg (by decide)]
      refine ixt (SqT.of hp) (v := .str "weight") rfl ?_
      walk_at "w0"
      rw [if_neg (by decide)]
      refine ⟨Nat.zero_le _, fun l1 h1 => ?_⟩
      have S1 := same_new h1 (.lst [])
      have hp := S1 _ _ hp
      have e1 : upd H l1 (.lst []) l1 = some (.lst []) := upd_same
      generalize upd H l1 (.lst []) = H1 at *
      walk_at "w0"
      refine ixt (SqT.of hp) (v := .str "weight") rfl ?_
      walk_at "w0"
      rw [if_neg (by decide)]
      refine ixt (SqT.of hp) (v := .str "weight") rfl ?_
      walk_at "w0"
      rw [if_neg (by decide)]
      exact q l1 [] _ S1 h1 e1 (Nat.zero_le _) fun x hx => absurd hx List.not_mem_nil
    · skip
      refine ixt (SqT.of hp) (v := .str "weight") rfl ?_
      walk_at "w0"
      rw [if_neg (by decide)]
      refine ixt (SqT.of hp) (v := .str "weight") rfl ?_
      walk_at "w0"
      rw [if_neg (by decide)]
      refine ixt (SqT.of hp) (v := .str "weight") rfl ?_
      walk_at "w0"
      rw [if_neg (by decide)]
      refine ⟨Nat.zero_le _, fun l1 h1 => ?_⟩
      have S1 := same_new h1 (.lst [])
      have hp := S1 _ _ hp
      have e1 : upd H l1 (.lst []) l1 = some (.lst []) := upd_same
      generalize upd H l1 (.lst []) = H1 at *
      walk_at "w0"
      refine ixt (SqT.of hp) (v := .str "weight") rfl ?_
      walk_at "w0"
      rw [if_neg (by decide)]
      refine ixt (SqT.of hp) (v := .str "weight") rfl ?_
      walk_at "w0"
      rw [if_neg (by decide)]
      exact q l1 [] _ S1 h1 e1 (Nat.zero_le _) fun x hx => absurd hx List.not_mem_nil
    · skip
      refine ixt (SqT.of hp) (v := .str "weight") rfl ?_
      walk_at "w0"
      refine ixt (SqT.of hp) (v := .int n) rfl ?_
      refine ⟨sz8 (by decide), fun l1 h1 => ?_⟩
      refine q l1 [.int n] _ (same_new h1 _) h1 upd_same (by rw [Tr.cnt]; exact Nat.le_refl _) fun x hx => ?_
      rw [List.mem_singleton.mp hx]
      exact .inl ⟨rfl, n, rfl, ho.1, ho.2⟩
  | not t =>
    rw [Tr.At] at hA
    rw [Tr.ok] at ho
    obtain ⟨p, y, rfl, hp, hy⟩ := hA
    walk_at "w0"
    have nT : ("not" : Str) ≠ wd := by rcases hw with rfl | rfl | rfl <;> decide
    refine ixt (SqT.of hp) (v := .str "not") rfl ?_
    walk_at "w0"
    rw [if_neg nT]
    refine ixt (SqT.of hp) (v := .str "not") rfl ?_
    walk_at "w0"
    rw [if_neg nT]
    refine ixt (SqT.of hp) (v := .str "not") rfl ?_
    walk_at "w0"
    rw [Tr.dp] at hd0
    rw [Tr.cnt] at hc q
    refine ixt (SqT.of hp) (v := y) rfl ?_
    walk_at "w0"
    exact ⟨y, t, wd, by omega, rfl, hy, ho, hc, hw, q⟩
  | both ts =>
    rw [Tr.At] at hA
    rw [Tr.ok] at ho
    obtain ⟨p, l0, xs, rfl, hp, hl, hs⟩ := hA
    walk_at "w0"
    have nT : ("both" : Str) ≠ wd := by rcases hw with rfl | rfl | rfl <;> decide
    refine ixt (SqT.of hp) (v := .str "both") rfl ?_
    walk_at "w0"
    rw [if_neg nT]
    refine ixt (SqT.of hp) (v := .str "both") rfl ?_
    walk_at "w0"
    rw [if_neg nT]
    refine ixt (SqT.of hp) (v := .str "both") rfl ?_
    walk_at "w0"
    rw [if_neg (by decide)]
    refine ⟨Nat.zero_le _, fun l1 h1 => ?_⟩
    have S1 := same_new h1 (.lst [])
    have hp := S1 _ _ hp
    have e1 : upd H l1 (.lst []) l1 = some (.lst []) := upd_same
    generalize upd H l1 (.lst []) = H1 at *
    walk_at "w0"
    refine ixt (SqT.of hp) (v := .str "both") rfl ?_
    walk_at "w0"
    rw [Tr.dp] at hd0
    rw [Tr.cnt] at hc q
    obtain ⟨l2, l6, ho⟩ := ho
    have hA := trs_at.mp hs
    refine ixt (SqT.of hp) (v := .ref l0) rfl ?_
    walk_at "w0"
    have hl1 := S1 _ _ hl
    refine ⟨⟨xs, SqT.of hl1⟩, ?_⟩
    refine ForT.by (xs := xs) (fun i σ H' => (∃ pf acc pv, σ = [some (.ref p), some (.str wd), some (.ref pf), pv] ∧ H' pf = some (.lst acc) ∧ H pf = none ∧ acc.length ≤ ((ts.toL.take i).map Tr.cnt).sum ∧ ∀ x ∈ acc, gdV wd x) ∧ Same H H') ⟨⟨l1, [], _, rfl, e1, h1, Nat.zero_le _, fun x hx => absurd hx List.not_mem_nil⟩, S1⟩ (fun i σ H' _ h => SqT.of (h.2 _ _ hl)) ?_ ?_
    · rintro i y σ H' hy ⟨⟨pf, acc, pv, rfl, ef, hf, la, ga⟩, S2⟩
      obtain ⟨t, e, ht⟩ := hA.get hy
      have mt := List.mem_of_getElem? e
      have dt := trs_dp mt
      have ct := cnt_mem mt
      have stk := sum_take e
      have sle := sum_take_le ts.toL (i + 1)
      rw [← trs_cntL] at sle
      walk_at "w0"
      refine ⟨y, t, wd, by omega, rfl, ht.same S2, trs_ok.mp ho t mt, by omega, hw, fun l3 zs H3 S3 f3 e3 n3 g3 => ?_⟩
      refine ⟨pf, l3, _, _, rfl, rfl, S3 _ _ ef, e3, sz8 (by omega), fun p4 h4 => ?_⟩
      have S4 := same_new h4 (.lst (acc ++ zs))
      have SS := S2.trans (S3.trans S4)
      walk_at "w0"
      have gz : ∀ x ∈ acc ++ zs, gdV wd x := fun x hx => by
        rcases List.mem_append.mp hx with hx | hx
        · exact ga x hx
        · exact g3 x hx
      have lz : (acc ++ zs).length ≤ ((ts.toL.take (i + 1)).map Tr.cnt).sum := by rw [List.length_append]; omega
      first | exact ⟨⟨acc ++ zs, upd_same, (S2.trans S3).free h4, lz, gz⟩, SS⟩ | exact ⟨⟨p4, acc ++ zs, _, rfl, upd_same, (S2.trans S3).free h4, lz, gz⟩, SS⟩
    · rintro σ H' ⟨⟨pf, acc, pv, rfl, ef, hf, la, ga⟩, S2⟩
      walk_at "w0"
      rw [← hA.len, List.take_length, ← trs_cntL] at la
      exact q pf acc _ S2 hf ef la ga
  | either ts =>
    rw [Tr.At] at hA
    rw [Tr.ok] at ho
    obtain ⟨p, l0, xs, rfl, hp, hl, hs⟩ := hA
    walk_at "w0"
    have nT : ("either" : Str) ≠ wd := by rcases hw with rfl | rfl | rfl <;> decide
    refine ixt (SqT.of hp) (v := .str "either") rfl ?_
    walk_at "w0"
    rw [if_neg nT]
    refine ixt (SqT.of hp) (v := .str "either") rfl ?_
    walk_at "w0"
    rw [if_neg nT]
    refine ixt (SqT.of hp) (v := .str "either") rfl ?_
    walk_at "w0"
    rw [if_neg (by decide)]
    refine ⟨Nat.zero_le _, fun l1 h1 => ?_⟩
    have S1 := same_new h1 (.lst [])
    have hp := S1 _ _ hp
    have e1 : upd H l1 (.lst []) l1 = some (.lst []) := upd_same
    generalize upd H l1 (.lst []) = H1 at *
    walk_at "w0"
    refine ixt (SqT.of hp) (v := .str "either") rfl ?_
    walk_at "w0"
    rw [if_neg (by decide)]
    refine ixt (SqT.of hp) (v := .str "either") rfl ?_
    walk_at "w0"
    rw [Tr.dp] at hd0
    rw [Tr.cnt] at hc q
    obtain ⟨l2, l6, ho⟩ := ho
    have hA := trs_at.mp hs
    refine ixt (SqT.of hp) (v := .ref l0) rfl ?_
    walk_at "w0"
    have hl1 := S1 _ _ hl
    refine ⟨⟨xs, SqT.of hl1⟩, ?_⟩
    refine ForT.by (xs := xs) (fun i σ H' => (∃ pf acc pv, σ = [some (.ref p), some (.str wd), some (.ref pf), pv] ∧ H' pf = some (.lst acc) ∧ H pf = none ∧ acc.length ≤ ((ts.toL.take i).map Tr.cnt).sum ∧ ∀ x ∈ acc, gdV wd x) ∧ Same H H') ⟨⟨l1, [], _, rfl, e1, h1, Nat.zero_le _, fun x hx => absurd hx List.not_mem_nil⟩, S1⟩ (fun i σ H' _ h => SqT.of (h.2 _ _ hl)) ?_ ?_
    · rintro i y σ H' hy ⟨⟨pf, acc, pv, rfl, ef, hf, la, ga⟩, S2⟩
      obtain ⟨t, e, ht⟩ := hA.get hy
      have mt := List.mem_of_getElem? e
      have dt := trs_dp mt
      have ct := cnt_mem mt
      have stk := sum_take e
      have sle := sum_take_le ts.toL (i + 1)
      rw [← trs_cntL] at sle
      walk_at "w0"
      refine ⟨y, t, wd, by omega, rfl, ht.same S2, trs_ok.mp ho t mt, by omega, hw, fun l3 zs H3 S3 f3 e3 n3 g3 => ?_⟩
      refine ⟨pf, l3, _, _, rfl, rfl, S3 _ _ ef, e3, sz8 (by omega), fun p4 h4 => ?_⟩
      have S4 := same_new h4 (.lst (acc ++ zs))
      have SS := S2.trans (S3.trans S4)
      walk_at "w0"
      have gz : ∀ x ∈ acc ++ zs, gdV wd x := fun x hx => by
        rcases List.mem_append.mp hx with hx | hx
        · exact ga x hx
        · exact g3 x hx
      have lz : (acc ++ zs).length ≤ ((ts.toL.take (i + 1)).map Tr.cnt).sum := by rw [List.length_append]; omega
      first | exact ⟨⟨acc ++ zs, upd_same, (S2.trans S3).free h4, lz, gz⟩, SS⟩ | exact ⟨⟨p4, acc ++ zs, _, rfl, upd_same, (S2.trans S3).free h4, lz, gz⟩, SS⟩
    · rintro σ H' ⟨⟨pf, acc, pv, rfl, ef, hf, la, ga⟩, S2⟩
      walk_at "w0"
      rw [← hA.len, List.take_length, ← trs_cntL] at la
      exact q pf acc _ S2 hf ef la ga
theorem ok_law_pick (B : Bt K mg a) (C_law_name : CalX P w K mg base "_law_name" ["_law_state"] 2 (sp_law_name K a)) (C_law_next : CalX P w K mg base "_law_next" ["_law_state", "_law_base"] 1 (sp_law_next K a)) (F : Fun K "_law_pick" "_law_pick" s_law_pick f fd) : FnOk P w K mg base CX0 3 f fd ["_law_state", "_law_some"] (sp_law_pick K a) := by
  refine F.ok sc_law_pick (fun vs H Q E h => ?_) (fun cdv A outer s H vs Q E hr h => ?_)
  · obtain ⟨wl, l, xs, rfl, _⟩ := h
    rfl
  obtain ⟨wl, l, xs, rfl, W, nl, hl, l1, hx, q⟩ := h
  refine ⟨_, (pss_of (qss_cons (qs_if (L2.PW.pt (pw_or (pt_cmpR (op_eqD hr.units) (pv 1) (pe_lst (pa_of qa_nil)) (nomark _)) (pw_or1 (pt_cmpR op_eq (pe_calN C_law_next (hr.mono (by decide)) rfl (pa_of (qa_c (pv 0) (qa_c pe_int qa_nil))) (he := star_plain _ _ _ rfl) (hpl := plain_any rfl)) pe_int (nomark _))))) (qss_one (qs_ret (qe_of (pe_calN C_law_name (hr.mono (by decide)) rfl (pa_of (qa_c (pv 0) qa_nil)) (he := star_plain _ _ _ rfl) (hpl := plain_any rfl))))) qss_nil) (qss_one (qs_ret (qe_of (pe_ix ix_list (pv 1) (pe_calN C_law_next (hr.mono (by decide)) rfl (pa_of (qa_c (pv 0) (qa_c (pe_callB call_len_seq rfl B.len PySem.boot_len (pa_of (qa_c (pv 1) qa_nil))) qa_nil))) (he := star_plain _ _ _ rfl) (hpl := plain_any rfl)) (fun _ _ => rfl))))))), ?_⟩
  walk_at "w0"
  refine ⟨Nat.zero_le _, fun p hp => ?_⟩
  have S1 := same_new hp (.lst [])
  have W1 := W.same S1
  refine eqd_nil (S1 _ _ hl) upd_same (n := 0) (by decide) (fun x m => by obtain ⟨u, rfl, g⟩ := hx x m; exact dt_str (good_str g)) ?_
  generalize upd H p (.lst []) = H1 at *
  have hl1 := S1 _ _ hl
  cases xs with
  | nil =>
    rw [show (([] : List V).isEmpty == true) = true from rfl]
    walk_at "w0"
    exact ⟨wl, rfl, W1, fun u H' g W' B' => q u H' g W' ((Same.but S1).trans B')⟩
  | cons x0 xs =>
  rw [show ((x0 :: xs).isEmpty == true) = false from rfl]
  walk_at "w0"
  refine drw3 W1 (by decide) (by decide) fun r H2 a2 b2 W2 B2 => ?_
  walk_at "w0"
  have hl2 := B2 l _ nl hl1
  by_cases c : r = 0
  · rw [if_pos c]
    exact ⟨wl, rfl, W2, fun u H' g W' B' => q u H' g W' ((Same.but S1).trans (B2.trans B'))⟩
  rw [if_neg c]
  refine ⟨_, .inl (SqL.of hl2), ?_⟩
  refine drw3 W2 (by simp only [List.length_cons]; omega) (by omega) fun r3 H3 a3 b3 W3 B3 => ?_
  obtain ⟨z, mz, ez⟩ := at_memV (xs := x0 :: xs) a3 (by first | exact b3 | (simp only [List.length_cons] at b3 ⊢; omega))
  obtain ⟨u, rfl, g⟩ := hx z mz
  refine ixl (SqL.of (B3 l _ nl hl2)) ez ?_
  exact q u H3 g W3 ((Same.but S1).trans (B2.trans B3))
theorem cut_map (ns : List Int) (lo hi : Option Int) : ∃ ms : List Int, cutV (ns.map V.int) lo hi = ms.map V.int ∧ ms.length ≤ ns.length := by
  unfold cutV
  rw [List.length_map, ← List.map_drop, ← List.map_take]
  exact ⟨_, rfl, by rw [List.length_take, List.length_drop]; omega⟩
theorem gd_str {wd : Str} {xs : List V} (n : wd ≠ "weight") (h : ∀ x ∈ xs, gdV wd x) : ∀ x ∈ xs, ∃ u, x = .str u ∧ goodN u := fun x hx => by
  rcases h x hx with ⟨e, _⟩ | ⟨_, h⟩
  · exact absurd e n
  · exact h
theorem gd_int {xs : List V} (h : ∀ x ∈ xs, gdV "weight" x) : ∀ x ∈ xs, ∃ n : Int, x = .int n ∧ 0 ≤ n ∧ n < 1000000 := fun x hx => by
  rcases h x hx with ⟨_, h⟩ | ⟨e, _⟩
  · exact h
  · exact absurd rfl e
theorem ok_law_things (B : Bt K mg a) (C_law_gathered : CalX P w K mg base "_law_gathered" ["_law_tree_here", "_law_word"] 4 (sp_law_gathered K a 4)) (CC_Happening : CalC P w K mg base "Happening" a.Happening ["self", "kind", "place", "weight"] 3 (sp_Happening___init__ K a)) (C_law_begin : CalX P w K mg base "_law_begin" ["_law_cell"] 1 (sp_law_begin K a)) (C_law_pick : CalX P w K mg base "_law_pick" ["_law_state", "_law_some"] 3 (sp_law_pick K a)) (C_law_next : CalX P w K mg base "_law_next" ["_law_state", "_law_base"] 1 (sp_law_next K a)) (F : Fun K "_law_things" "_law_things" s_law_things f fd) : FnOk P w K mg base CX0 5 f fd ["_law_script", "_law_trees"] (sp_law_things K a) := by
  refine F.ok sc_law_things (fun vs H Q E h => ?_) (fun cdv A outer s H vs Q E hr h => ?_)
  · obtain ⟨sc, l, ns, vs0, ts, rfl, _⟩ := h
    rfl
  obtain ⟨sc, l, ns, vs0, ts, rfl, hS, h63, hl, hA, l3, ht, q⟩ := h
  refine ⟨_, (pss_of (qss_hold (qss_cons (qs_set (i := 2) sc_law_things.nd rfl (Or.inl rfl) (qe_of (pe_tup (pa_of (qa_c pe_str (qa_c (pe_callTy call_tuple_of rfl B.tuple PyProof.Rows.boot_tuple (pa_of (qa_c (pv 1) qa_nil))) qa_nil))))) (by kernel_rfl)) (qss_hold (qss_cons (qs_set (i := 3) sc_law_things.nd rfl (Or.inl rfl) (qe_of (pe_calN C_law_gathered (hr.mono (by decide)) rfl (pa_of (qa_c (pv 2) (qa_c pe_str qa_nil))) (he := star_plain _ _ _ rfl) (hpl := plain_any rfl))) (by kernel_rfl)) (qss_hold (qss_cons (qs_set (i := 4) sc_law_things.nd rfl (Or.inl rfl) (qe_of (pe_calN C_law_gathered (hr.mono (by decide)) rfl (pa_of (qa_c (pv 2) (qa_c pe_str qa_nil))) (he := star_plain _ _ _ rfl) (hpl := plain_any rfl))) (by kernel_rfl)) (qss_hold (qss_cons (qs_set (i := 5) sc_law_things.nd rfl (Or.inl rfl) (qe_op op_cat (qe_lst (qa_c pe_int qa_nil)) (qe_of (pe_calN C_law_gathered (hr.mono (by decide)) rfl (pa_of (qa_c (pv 2) (qa_c pe_str qa_nil))) (he := star_plain _ _ _ rfl) (hpl := plain_any rfl)))) (by kernel_rfl)) (qss_hold (qss_cons (qs_set (i := 6) sc_law_things.nd rfl (Or.inl rfl) (qe_lst (qa_c (pe_mak CC_Happening pass00 (hr.mono (by decide)) rfl (pa_of (qa_c pe_str (qa_c pe_str (qa_c pe_int qa_nil)))) (he := star_plain _ _ _ rfl) (hpl := plain_any rfl)) qa_nil)) (by kernel_rfl)) (qss_hold (qss_cons (qs_of (ps_for PassesOwn.never rfl (pi_list (pe_slice sl_list (pv 0) (po_some pe_int) (po_some pe_int))) (pg_name (i := 7) sc_law_things.nd rfl (Or.inl rfl)) (pss_of (qss_cons (qs_set (i := 8) sc_law_things.nd rfl (Or.inl rfl) (qe_of (pe_calN C_law_begin (hr.mono (by decide)) rfl (pa_of (qa_c (pv 7) qa_nil)) (he := star_plain _ _ _ rfl) (hpl := plain_any rfl))) (by kernel_rfl)) (qss_cons (qs_set (i := 9) sc_law_things.nd rfl (Or.inl rfl) (qe_of (pe_callB (call_max2 rfl) rfl B.max PyProof.Rows.boot_max (pa_of (qa_c pe_int (qa_c (pe_callB (call_min2 rfl) rfl B.min PyProof.Rows.boot_min (pa_of (qa_c pe_int (qa_c (pe_op op_add (pe_op op_sub (pe_ix ix_list (pv 5) (pe_calN C_law_next (hr.mono (by decide)) rfl (pa_of (qa_c (pv 8) (qa_c (pe_callB call_len_seq rfl B.len PySem.boot_len (pa_of (qa_c (pv 5) qa_nil))) qa_nil))) (he := star_plain _ _ _ rfl) (hpl := plain_any rfl)) (fun _ _ => rfl)) pe_int) (pe_calN C_law_next (hr.mono (by decide)) rfl (pa_of (qa_c (pv 8) (qa_c pe_int qa_nil))) (he := star_plain _ _ _ rfl) (hpl := plain_any rfl))) qa_nil))) (he := star_plain _ _ _ rfl) (hpl := plain_any rfl)) qa_nil))) (he := star_plain _ _ _ rfl) (hpl := plain_any rfl))) (by kernel_rfl)) (qss_one (qs_of (ps_expr (pe_bm PySem.F.plainAttrs_list PySem.F.slot_list_append PySem.F.type_list_append mt_append (pv 6) (pa_of (qa_c (pe_mak CC_Happening pass00 (hr.mono (by decide)) rfl (pa_of (qa_c (pe_calN C_law_pick (hr.mono (by decide)) rfl (pa_of (qa_c (pv 8) (qa_c (pv 3) qa_nil))) (he := star_plain _ _ _ rfl) (hpl := plain_any rfl)) (qa_c (pe_calN C_law_pick (hr.mono (by decide)) rfl (pa_of (qa_c (pv 8) (qa_c (pv 4) qa_nil))) (he := star_plain _ _ _ rfl) (hpl := plain_any rfl)) (qa_c (pv 9) qa_nil)))) (he := star_plain _ _ _ rfl) (hpl := plain_any rfl)) qa_nil))))))))))) (qss_hold (qss_one (qs_ret (qe_of (pv 6)))))))))))))))))), ?_⟩
  first | rw [w_hold] | (dsimp only; rw [w_hold])
  walk_at "w0"
  refine ⟨_, .inl ⟨SqL.of hl, fun q1 hq1 => ?_⟩⟩
  have Sq1 := same_new hq1 (.tup vs0)
  have eq1 : upd H q1 (.tup vs0) q1 = some (.tup vs0) := upd_same
  generalize upd H q1 (.tup vs0) = J1 at *
  refine ⟨sz8 (by first | decide | (simp only [List.length_cons, List.length_nil]; decide)), fun q2 hq2 => ?_⟩
  have Sq2 := same_new hq2 (.tup [.str "both", .ref q1])
  have eq2 : upd J1 q2 (.tup [.str "both", .ref q1]) q2 = some (.tup [.str "both", .ref q1]) := upd_same
  generalize upd J1 q2 (.tup [.str "both", .ref q1]) = J2 at *
  have hW : (Tr.both (Trs.ofL ts)).At J2 (.ref q2) := by
    rw [Tr.At]
    exact ⟨q2, q1, vs0, rfl, eq2, (Sq2 _ _ eq1), trs_at.mpr (by rw [toL_ofL]; exact hA.imp fun t y _ h => h.same (Sq1.trans Sq2))⟩
  have okW : (Tr.both (Trs.ofL ts)).ok := by
    rw [Tr.ok, toL_ofL]
    exact ⟨by omega, by omega, trs_ok.mpr (by rw [toL_ofL]; exact fun t m => (ht t m).1)⟩
  have dpW : (Tr.both (Trs.ofL ts)).dp < 4 := by
    rw [Tr.dp]
    have := trs_dp_le (n := 2) (ts := Trs.ofL ts) (by rw [toL_ofL]; exact fun t m => (ht t m).2.1)
    omega
  have cnW : (Tr.both (Trs.ofL ts)).cnt ≤ 162 := by
    rw [Tr.cnt]
    have h := trs_cnt (n := 54) (ts := Trs.ofL ts) (by rw [toL_ofL]; exact fun t m => (ht t m).2.2)
    rw [toL_ofL, l3] at h
    exact h
  walk_at "w0"
  first | rw [w_hold] | (dsimp only; rw [w_hold])
  walk_at "w0"
  refine ⟨.ref q2, .both (Trs.ofL ts), "kind", dpW, rfl, hW.same (same_id _), okW, by omega, .inl rfl, fun pk xk J3 Sk fk ek nk gk => ?_⟩
  walk_at "w0"
  first | rw [w_hold] | (dsimp only; rw [w_hold])
  walk_at "w0"
  refine ⟨.ref q2, .both (Trs.ofL ts), "place", dpW, rfl, hW.same Sk, okW, by omega, .inr (.inl rfl), fun pp xp J4 Sp fp ep np gp => ?_⟩
  walk_at "w0"
  first | rw [w_hold] | (dsimp only; rw [w_hold])
  walk_at "w0"
  refine ⟨sz8 (by first | decide | (simp only [List.length_cons, List.length_nil]; decide)), fun z0 hz0 => ?_⟩
  have Sz0 := same_new hz0 (.lst [.int 0])
  have ez0 : upd J4 z0 (.lst [.int 0]) z0 = some (.lst [.int 0]) := upd_same
  generalize upd J4 z0 (.lst [.int 0]) = J5 at *
  walk_at "w0"
  refine ⟨.ref q2, .both (Trs.ofL ts), "weight", dpW, rfl, hW.same (Sk.trans (Sp.trans Sz0)), okW, by omega, .inr (.inr rfl), fun pw xw J6 Sw fw ew nw gw => ?_⟩
  refine ⟨z0, pw, _, _, rfl, rfl, (Sw _ _ ez0), ew, sz8 (by first | omega | (simp only [List.length_append, List.length_cons, List.length_nil]; omega)), fun wp hwp => ?_⟩
  have Swp := same_new hwp (.lst ([.int 0] ++ xw))
  have ewp : upd J6 wp (.lst ([.int 0] ++ xw)) wp = some (.lst ([.int 0] ++ xw)) := upd_same
  generalize upd J6 wp (.lst ([.int 0] ++ xw)) = J7 at *
  walk_at "w0"
  first | rw [w_hold] | (dsimp only; rw [w_hold])
  walk_at "w0"
  intro x0 dx0 hx0 hdx0 nex0
  have Mx0 := made_same (o := .own x0) (o' := .ins a.Happening dx0 []) hx0 hdx0
  refine ⟨x0, dx0, "not", "any", 0, rfl, upd_same, by decide +kernel, by decide +kernel, by decide, fun J8 Bx0 ex0 => ?_⟩
  have Sx0 := made_but hx0 hdx0 Bx0
  walk_at "w0"
  have pk_9 := ((Sp.trans (Sz0.trans (Sw.trans (Swp.trans Sx0)))) _ _ ek)
  have pp_10 := ((Sz0.trans (Sw.trans (Swp.trans Sx0))) _ _ ep)
  have wp_11 := (Sx0 _ _ ewp)
  refine ⟨sz8 (by first | decide | (simp only [List.length_cons, List.length_nil]; decide)), fun pf hpf => ?_⟩
  have Spf := same_new hpf (.lst [.ref x0])
  have epf : upd J8 pf (.lst [.ref x0]) pf = some (.lst [.ref x0]) := upd_same
  generalize upd J8 pf (.lst [.ref x0]) = J12 at *
  have gpf : H pf = none := (Sq1.trans (Sq2.trans (Sk.trans (Sp.trans (Sz0.trans (Sw.trans (Swp.trans Sx0))))))).free hpf
  have npk2 : pk ≠ pf := ne_of_none pk_9 hpf
  have npp2 : pp ≠ pf := ne_of_none pp_10 hpf
  have nwp2 : wp ≠ pf := ne_of_none wp_11 hpf
  walk_at "w0"
  first | rw [w_hold] | (dsimp only; rw [w_hold])
  walk_at "w0"
  have pk_13 := (Spf _ _ pk_9)
  have pp_14 := (Spf _ _ pp_10)
  have wp_15 := (Spf _ _ wp_11)
  have x0_16 := (Spf _ _ ex0)
  refine ⟨sc, _, rfl, (Sq1.trans (Sq2.trans (Sk.trans (Sp.trans (Sz0.trans (Sw.trans (Swp.trans (Sx0.trans Spf)))))))).seq hS, fun ls hls => ?_⟩
  obtain ⟨ms, em, lm⟩ := cut_map ns (some 1) (some 11)
  rw [em]
  have nls : pf ≠ ls := ne_of_none epf hls
  have Sls := same_new hls (.lst (ms.map V.int))
  have els : upd J12 ls (.lst (ms.map V.int)) ls = some (.lst (ms.map V.int)) := upd_same
  have SA := (Sq1.trans (Sq2.trans (Sk.trans (Sp.trans (Sz0.trans (Sw.trans (Swp.trans (Sx0.trans Spf)))))))).trans Sls
  have ek0 := Sls _ _ pk_13
  have ep0 := Sls _ _ pp_14
  have ew0 := Sls _ _ wp_15
  have ef0 := Sls _ _ epf
  have ex00 := Sls _ _ x0_16
  generalize upd J12 ls (.lst (ms.map V.int)) = JA at *
  have gk' := gd_str (by decide) gk
  have gp' := gd_str (by decide) gp
  have gw' : ∀ x ∈ [V.int 0] ++ xw, ∃ n : Int, x = .int n ∧ 0 ≤ n ∧ n < 1000000 := fun x hx => by
    rcases List.mem_append.mp hx with hx | hx
    · rw [List.mem_singleton.mp hx]; exact ⟨0, rfl, by decide, by decide⟩
    · exact gd_int gw x hx
  have lw : ([V.int 0] ++ xw).length ≤ 162 + 1 ∧ 0 < ([V.int 0] ++ xw).length := by simp only [List.length_append, List.length_cons, List.length_nil]; omega
  generalize [V.int 0] ++ xw = ws at *
  first | refine ⟨⟨_, SqL.of els⟩, ?_⟩ | refine ⟨ls, rfl, ⟨_, SqL.of els⟩, ?_⟩
  refine ForL.by (xs := ms.map V.int) (fun i σ H1 => (∃ c1 c2 c3, σ = [some (.ref sc), some (.ref l), some (.ref q2), some (.ref pk), some (.ref pp), some (.ref wp), some (.ref pf), c1, c2, c3]) ∧ (∃ xs, H1 pf = some (.lst xs) ∧ xs.length ≤ i + 1 ∧ ∀ x ∈ xs, ∃ k p w, HapAt a H1 x k p w) ∧ H1 pk = some (.lst xk) ∧ H1 pp = some (.lst xp) ∧ H1 wp = some (.lst ws) ∧ H1 ls = some (.lst (ms.map V.int)) ∧ Same H H1) ⟨⟨_, _, _, rfl⟩, ⟨[.ref x0], ef0, Nat.le_refl _, fun x hx => by rw [List.mem_singleton.mp hx]; exact ⟨"not", "any", 0, x0, dx0, rfl, ex00⟩⟩, ek0, ep0, ew0, els, SA⟩ (fun i σ H1 _ h => SqL.of h.2.2.2.2.2.1) ?_ ?_
  rotate_left
  · rintro σ H1 ⟨⟨c1, c2, c3, rfl⟩, ⟨xs, ex, lx, gx⟩, _, _, _, _, SS⟩
    walk_at "w0"
    first | rw [w_hold] | (dsimp only; rw [w_hold]) | skip
    walk_at "w0"
    rw [List.length_map] at lx
    exact q pf xs _ SS ex (by omega) gx
  · rintro i x σ H1 hx ⟨⟨c1, c2, c3, rfl⟩, ⟨xs, ex, lx, gx⟩, k1, p1, w1, s1, SS⟩
    have hil : i < (ms.map V.int).length := (List.getElem?_eq_some_iff.mp hx).1
    rw [List.length_map] at hil
    obtain ⟨c, rfl⟩ := int_at hx
    walk_at "w0"
    refine ⟨c, rfl, fun ow wa wb wc how => ?_⟩
    have W0 : Well3 (upd H1 ow (.lst [.int wa, .int wb, .int wc])) ow := ⟨_, _, _, upd_same⟩
    have T0 := same_new how (.lst [.int wa, .int wb, .int wc])
    have ok_ : pk ≠ ow := ne_of_none k1 how
    have op_ : pp ≠ ow := ne_of_none p1 how
    have ow_ : wp ≠ ow := ne_of_none w1 how
    have of_ : pf ≠ ow := ne_of_none ex how
    have os_ : ls ≠ ow := ne_of_none s1 how
    generalize upd H1 ow (.lst [.int wa, .int wb, .int wc]) = G0 at *
    walk_at "w0"
    refine ⟨_, .inl (SqL.of (T0 _ _ w1)), ?_⟩
    refine drw3 W0 (by omega) (by omega) fun r1 G1 a1 b1 W1 B1 => ?_
    obtain ⟨z, mz, ez⟩ := at_memV (xs := ws) a1 b1
    obtain ⟨wn, rfl, wn0, wn1⟩ := gw' z mz
    have BB1 := (Same.but T0).trans B1
    refine ixl (SqL.of (BB1 _ _ ow_ w1)) ez ?_
    walk_at "w0"
    refine drw3 W1 (by decide) (by decide) fun r2 G2 a2 b2 W2 B2 => ?_
    have BB2 := BB1.trans B2
    walk_at "w0"
    obtain ⟨wv, ewv, wv0, wv1⟩ : ∃ wv : Int, wv = (if (if wn - 1 + r2 < 999999 then wn - 1 + r2 else 999999) > 0 then (if wn - 1 + r2 < 999999 then wn - 1 + r2 else 999999) else 0) ∧ 0 ≤ wv ∧ wv < 1000000 := ⟨_, rfl, by split <;> omega, by split <;> (try split) <;> omega⟩
    first | rw [← ewv] | skip
    refine ⟨.inl ⟨rfl, _, SqL.of (BB2 _ _ of_ ex)⟩, ?_⟩
    refine ⟨ow, pk, xk, rfl, W2, ok_, BB2 _ _ ok_ k1, by omega, gk', fun u1 G3 g1 W3 B3 => ?_⟩
    have BB3 := BB2.trans B3
    walk_at "w0"
    refine ⟨ow, pp, xp, rfl, W3, op_, BB3 _ _ op_ p1, by omega, gp', fun u2 G4 g2 W4 B4 => ?_⟩
    have BB4 := BB3.trans B4
    walk_at "w0"
  
    intro tp dtp htp hdtp ntp
    refine ⟨tp, dtp, u1, u2, wv, rfl, upd_same, g1, g2, wv0, fun G5 B5 e5 => ?_⟩
    have BB5 := BB4.trans (Same.but (made_but htp hdtp B5))
    walk_at "w0"
    have ex5 := BB5 _ _ of_ ex
    refine ⟨pf, _, _, rfl, rfl, ex5, Nat.lt_of_le_of_lt (by omega : xs.length ≤ 1000) (by decide), ?_⟩
    have U : ∀ {b : Addr} {o o' : HO}, b ≠ pf → G5 b = some o → upd G5 pf o' b = some o := fun n e => by rw [upd_ne n]; exact e
    have new : ∃ ys, upd G5 pf (.lst (xs ++ [.ref tp])) pf = some (.lst ys) ∧ ys.length ≤ i + 1 + 1 ∧ ∀ x ∈ ys, ∃ k p w, HapAt a (upd G5 pf (.lst (xs ++ [.ref tp]))) x k p w := ⟨_, upd_same, by rw [List.length_append, List.length_singleton]; omega, fun x hx => by
      rcases List.mem_append.mp hx with hx | hx
      · obtain ⟨k, p, w, hp', dh', rfl, h⟩ := gx x hx
        have h' := BB5 _ _ (ne_of_none h how) h
        exact ⟨k, p, w, hp', dh', rfl, U (fun z => by rw [z, ex5] at h'; cases h') h'⟩
      · rw [List.mem_singleton.mp hx]
        exact ⟨u1, u2, wv, tp, dtp, rfl, U (fun z => by rw [z, ex5] at e5; cases e5) e5⟩⟩
    have SF : Same H (upd G5 pf (.lst (xs ++ [.ref tp]))) := fun b o e => U (ne_of_none e gpf) (BB5 b o (ne_of_none (SS b o e) how) (SS b o e))
    have rest := And.intro new (And.intro (U (o' := .lst (xs ++ [.ref tp])) npk2 (BB5 _ _ ok_ k1)) (And.intro (U (o' := .lst (xs ++ [.ref tp])) npp2 (BB5 _ _ op_ p1)) (And.intro (U (o' := .lst (xs ++ [.ref tp])) nwp2 (BB5 _ _ ow_ w1)) (And.intro (U (o' := .lst (xs ++ [.ref tp])) nls.symm (BB5 _ _ os_ s1)) SF))))
    first | exact ⟨⟨_, _, _, rfl⟩, rest⟩ | exact rest
theorem ok_law_pairs (B : Bt K mg a) (CC_Not : CalC P w K mg base "Not" a.Not ["self", "fit"] 2 (sp_Not___init__ K a)) (CC_Both : CalC P w K mg base "Both" a.Both ["self", "fits"] 3 (sp_Both___init__ K a)) (CC_Either : CalC P w K mg base "Either" a.Either ["self", "fits"] 3 (sp_Either___init__ K a)) (F : Fun K "_law_pairs" "_law_pairs" s_law_pairs f fd) : FnOk P w K mg base CX0 5 f fd ["_law_a", "_law_b", "_law_c"] (sp_law_pairs K a) := by
  refine F.ok sc_law_pairs (fun vs H Q E h => ?_) (fun cdv A outer s H vs Q E hr h => ?_)
  · obtain ⟨va, vb, vc, ta, tb, tc, rfl, _⟩ := h
    rfl
  obtain ⟨va, vb, vc, ta, tb, tc, rfl, hfa, hfb, hfc, oa, ob, oc, da, db, dc, q⟩ := h
  refine ⟨_, (pss_of (qss_hold (qss_cons (qs_set (i := 3) sc_law_pairs.nd rfl (Or.inl rfl) (qe_lst (qa_c (pe_tup (pa_of (qa_c (pe_mak CC_Not pass00 (hr.mono (by decide)) rfl (pa_of (qa_c (pe_mak CC_Not pass00 (hr.mono (by decide)) rfl (pa_of (qa_c (pv 0) qa_nil)) (he := star_plain _ _ _ rfl) (hpl := plain_any rfl)) qa_nil)) (he := star_plain _ _ _ rfl) (hpl := plain_any rfl)) (qa_c (pv 0) qa_nil)))) (qa_c (pe_tup (pa_of (qa_c (pe_mak CC_Both pass00 (hr.mono (by decide)) rfl (pa_of (qa_c (pe_lst (pa_of (qa_c (pv 0) (qa_c (pv 0) qa_nil)))) qa_nil)) (he := star_plain _ _ _ rfl) (hpl := plain_any rfl)) (qa_c (pv 0) qa_nil)))) (qa_c (pe_tup (pa_of (qa_c (pe_mak CC_Either pass00 (hr.mono (by decide)) rfl (pa_of (qa_c (pe_lst (pa_of (qa_c (pv 0) (qa_c (pv 0) (qa_c (pv 0) qa_nil))))) qa_nil)) (he := star_plain _ _ _ rfl) (hpl := plain_any rfl)) (qa_c (pv 0) qa_nil)))) (qa_c (pe_tup (pa_of (qa_c (pe_mak CC_Both pass00 (hr.mono (by decide)) rfl (pa_of (qa_c (pe_lst (pa_of (qa_c (pv 0) (qa_c (pv 1) qa_nil)))) qa_nil)) (he := star_plain _ _ _ rfl) (hpl := plain_any rfl)) (qa_c (pe_mak CC_Both pass00 (hr.mono (by decide)) rfl (pa_of (qa_c (pe_lst (pa_of (qa_c (pv 1) (qa_c (pv 0) qa_nil)))) qa_nil)) (he := star_plain _ _ _ rfl) (hpl := plain_any rfl)) qa_nil)))) qa_nil))))) (by kernel_rfl)) (qss_hold (qss_cons (qs_set (i := 3) sc_law_pairs.nd rfl (Or.inl rfl) (qe_op op_cat (qe_of (pv 3)) (qe_lst (qa_c (pe_tup (pa_of (qa_c (pe_mak CC_Either pass00 (hr.mono (by decide)) rfl (pa_of (qa_c (pe_lst (pa_of (qa_c (pv 0) (qa_c (pv 1) (qa_c (pv 2) qa_nil))))) qa_nil)) (he := star_plain _ _ _ rfl) (hpl := plain_any rfl)) (qa_c (pe_mak CC_Either pass00 (hr.mono (by decide)) rfl (pa_of (qa_c (pe_lst (pa_of (qa_c (pv 2) (qa_c (pv 0) (qa_c (pv 1) qa_nil))))) qa_nil)) (he := star_plain _ _ _ rfl) (hpl := plain_any rfl)) qa_nil)))) (qa_c (pe_tup (pa_of (qa_c (pe_mak CC_Not pass00 (hr.mono (by decide)) rfl (pa_of (qa_c (pe_mak CC_Both pass00 (hr.mono (by decide)) rfl (pa_of (qa_c (pe_lst (pa_of (qa_c (pv 0) (qa_c (pv 1) qa_nil)))) qa_nil)) (he := star_plain _ _ _ rfl) (hpl := plain_any rfl)) qa_nil)) (he := star_plain _ _ _ rfl) (hpl := plain_any rfl)) (qa_c (pe_mak CC_Either pass00 (hr.mono (by decide)) rfl (pa_of (qa_c (pe_lst (pa_of (qa_c (pe_mak CC_Not pass00 (hr.mono (by decide)) rfl (pa_of (qa_c (pv 0) qa_nil)) (he := star_plain _ _ _ rfl) (hpl := plain_any rfl)) (qa_c (pe_mak CC_Not pass00 (hr.mono (by decide)) rfl (pa_of (qa_c (pv 1) qa_nil)) (he := star_plain _ _ _ rfl) (hpl := plain_any rfl)) qa_nil)))) qa_nil)) (he := star_plain _ _ _ rfl) (hpl := plain_any rfl)) qa_nil)))) qa_nil)))) (by kernel_rfl)) (qss_hold (qss_cons (qs_set (i := 3) sc_law_pairs.nd rfl (Or.inl rfl) (qe_op op_cat (qe_of (pv 3)) (qe_lst (qa_c (pe_tup (pa_of (qa_c (pe_mak CC_Not pass00 (hr.mono (by decide)) rfl (pa_of (qa_c (pe_mak CC_Either pass00 (hr.mono (by decide)) rfl (pa_of (qa_c (pe_lst (pa_of (qa_c (pv 0) (qa_c (pv 1) (qa_c (pv 2) qa_nil))))) qa_nil)) (he := star_plain _ _ _ rfl) (hpl := plain_any rfl)) qa_nil)) (he := star_plain _ _ _ rfl) (hpl := plain_any rfl)) (qa_c (pe_mak CC_Both pass00 (hr.mono (by decide)) rfl (pa_of (qa_c (pe_lst (pa_of (qa_c (pe_mak CC_Not pass00 (hr.mono (by decide)) rfl (pa_of (qa_c (pv 0) qa_nil)) (he := star_plain _ _ _ rfl) (hpl := plain_any rfl)) (qa_c (pe_mak CC_Not pass00 (hr.mono (by decide)) rfl (pa_of (qa_c (pv 1) qa_nil)) (he := star_plain _ _ _ rfl) (hpl := plain_any rfl)) (qa_c (pe_mak CC_Not pass00 (hr.mono (by decide)) rfl (pa_of (qa_c (pv 2) qa_nil)) (he := star_plain _ _ _ rfl) (hpl := plain_any rfl)) qa_nil))))) qa_nil)) (he := star_plain _ _ _ rfl) (hpl := plain_any rfl)) qa_nil)))) (qa_c (pe_tup (pa_of (qa_c (pe_mak CC_Either pass00 (hr.mono (by decide)) rfl (pa_of (qa_c (pe_lst (pa_of (qa_c (pv 0) (qa_c (pe_mak CC_Not pass00 (hr.mono (by decide)) rfl (pa_of (qa_c (pv 0) qa_nil)) (he := star_plain _ _ _ rfl) (hpl := plain_any rfl)) qa_nil)))) qa_nil)) (he := star_plain _ _ _ rfl) (hpl := plain_any rfl)) (qa_c (pe_makN B.mk_Any rfl B.Any) qa_nil)))) qa_nil)))) (by kernel_rfl)) (qss_hold (qss_cons (qs_set (i := 3) sc_law_pairs.nd rfl (Or.inl rfl) (qe_op op_cat (qe_of (pv 3)) (qe_lst (qa_c (pe_tup (pa_of (qa_c (pe_mak CC_Both pass00 (hr.mono (by decide)) rfl (pa_of (qa_c (pe_lst (pa_of (qa_c (pe_mak CC_Not pass00 (hr.mono (by decide)) rfl (pa_of (qa_c (pv 1) qa_nil)) (he := star_plain _ _ _ rfl) (hpl := plain_any rfl)) (qa_c (pv 1) qa_nil)))) qa_nil)) (he := star_plain _ _ _ rfl) (hpl := plain_any rfl)) (qa_c (pe_mak CC_Not pass00 (hr.mono (by decide)) rfl (pa_of (qa_c (pe_makN B.mk_Any rfl B.Any) qa_nil)) (he := star_plain _ _ _ rfl) (hpl := plain_any rfl)) qa_nil)))) (qa_c (pe_tup (pa_of (qa_c (pe_mak CC_Both pass00 (hr.mono (by decide)) rfl (pa_of (qa_c (pe_lst (pa_of (qa_c (pv 0) (qa_c (pe_mak CC_Either pass00 (hr.mono (by decide)) rfl (pa_of (qa_c (pe_lst (pa_of (qa_c (pv 1) (qa_c (pv 2) qa_nil)))) qa_nil)) (he := star_plain _ _ _ rfl) (hpl := plain_any rfl)) qa_nil)))) qa_nil)) (he := star_plain _ _ _ rfl) (hpl := plain_any rfl)) (qa_c (pe_mak CC_Either pass00 (hr.mono (by decide)) rfl (pa_of (qa_c (pe_lst (pa_of (qa_c (pe_mak CC_Both pass00 (hr.mono (by decide)) rfl (pa_of (qa_c (pe_lst (pa_of (qa_c (pv 0) (qa_c (pv 1) qa_nil)))) qa_nil)) (he := star_plain _ _ _ rfl) (hpl := plain_any rfl)) (qa_c (pe_mak CC_Both pass00 (hr.mono (by decide)) rfl (pa_of (qa_c (pe_lst (pa_of (qa_c (pv 0) (qa_c (pv 2) qa_nil)))) qa_nil)) (he := star_plain _ _ _ rfl) (hpl := plain_any rfl)) qa_nil)))) qa_nil)) (he := star_plain _ _ _ rfl) (hpl := plain_any rfl)) qa_nil)))) qa_nil)))) (by kernel_rfl)) (qss_hold (qss_one (qs_ret (qe_op op_cat (qe_of (pv 3)) (qe_lst (qa_c (pe_tup (pa_of (qa_c (pe_mak CC_Both pass00 (hr.mono (by decide)) rfl (pa_of (qa_c (pe_lst (pa_of (qa_c (pe_makN B.mk_Any rfl B.Any) (qa_c (pv 2) qa_nil)))) qa_nil)) (he := star_plain _ _ _ rfl) (hpl := plain_any rfl)) (qa_c (pv 2) qa_nil)))) (qa_c (pe_tup (pa_of (qa_c (pe_mak CC_Either pass00 (hr.mono (by decide)) rfl (pa_of (qa_c (pe_lst (pa_of (qa_c (pv 2) (qa_c (pe_mak CC_Not pass00 (hr.mono (by decide)) rfl (pa_of (qa_c (pe_makN B.mk_Any rfl B.Any) qa_nil)) (he := star_plain _ _ _ rfl) (hpl := plain_any rfl)) qa_nil)))) qa_nil)) (he := star_plain _ _ _ rfl) (hpl := plain_any rfl)) (qa_c (pv 2) qa_nil)))) (qa_c (pe_tup (pa_of (qa_c (pe_mak CC_Either pass00 (hr.mono (by decide)) rfl (pa_of (qa_c (pe_lst (pa_of (qa_c (pv 0) (qa_c (pe_mak CC_Both pass00 (hr.mono (by decide)) rfl (pa_of (qa_c (pe_lst (pa_of (qa_c (pv 0) (qa_c (pv 1) qa_nil)))) qa_nil)) (he := star_plain _ _ _ rfl) (hpl := plain_any rfl)) qa_nil)))) qa_nil)) (he := star_plain _ _ _ rfl) (hpl := plain_any rfl)) (qa_c (pv 0) qa_nil)))) qa_nil))))))))))))))))), ?_⟩
  have fA := hfa
  have fB := hfb
  have fC := hfc
  first | rw [w_hold] | (dsimp only; rw [w_hold])
  walk_at "w0"
  intro n1 dn1 hn1 hdn1 nen1
  have Mn1 := made_same (o := .own n1) (o' := .ins a.Not dn1 []) hn1 hdn1
  refine ⟨n1, dn1, va, ta, rfl, upd_same, fA.same Mn1, ?_⟩
  have Sn1 : Same H (upd (upd (upd H dn1 (.own n1)) n1 (.ins a.Not dn1 [])) n1 (.ins a.Not dn1 [("fit", va)])) := fun b o e => by rw [upd_ne (ne_of_none e hn1)]; exact Mn1 b o e
  have en1 : upd (upd (upd H dn1 (.own n1)) n1 (.ins a.Not dn1 [])) n1 (.ins a.Not dn1 [("fit", va)]) n1 = some (.ins a.Not dn1 [("fit", va)]) := upd_same
  generalize upd (upd (upd H dn1 (.own n1)) n1 (.ins a.Not dn1 [])) n1 (.ins a.Not dn1 [("fit", va)]) = J1 at *
  have Fn1 : ((.not ta) : Tr).Fit (fc a) J1 (.ref n1) := by rw [Tr.Fit]; exact ⟨n1, dn1, va, rfl, en1, (fA.same Sn1)⟩
  walk_at "w0"
  intro n2 dn2 hn2 hdn2 nen2
  have Mn2 := made_same (o := .own n2) (o' := .ins a.Not dn2 []) hn2 hdn2
  refine ⟨n2, dn2, (.ref n1), (.not ta), rfl, upd_same, Fn1.same Mn2, ?_⟩
  have Sn2 : Same J1 (upd (upd (upd J1 dn2 (.own n2)) n2 (.ins a.Not dn2 [])) n2 (.ins a.Not dn2 [("fit", (.ref n1))])) := fun b o e => by rw [upd_ne (ne_of_none e hn2)]; exact Mn2 b o e
  have en2 : upd (upd (upd J1 dn2 (.own n2)) n2 (.ins a.Not dn2 [])) n2 (.ins a.Not dn2 [("fit", (.ref n1))]) n2 = some (.ins a.Not dn2 [("fit", (.ref n1))]) := upd_same
  generalize upd (upd (upd J1 dn2 (.own n2)) n2 (.ins a.Not dn2 [])) n2 (.ins a.Not dn2 [("fit", (.ref n1))]) = J2 at *
  have Fn2 : ((.not (.not ta)) : Tr).Fit (fc a) J2 (.ref n2) := by rw [Tr.Fit]; exact ⟨n2, dn2, (.ref n1), rfl, en2, (Fn1.same Sn2)⟩
  walk_at "w0"
  refine ⟨sz8 (by first | decide | (simp only [List.length_cons, List.length_nil]; decide)), fun t3 ht3 => ?_⟩
  have St3 := same_new ht3 (.tup [(.ref n2), va])
  have et3 : upd J2 t3 (.tup [(.ref n2), va]) t3 = some (.tup [(.ref n2), va]) := upd_same
  generalize upd J2 t3 (.tup [(.ref n2), va]) = J3 at *
  walk_at "w0"
  refine ⟨sz8 (by first | decide | (simp only [List.length_cons, List.length_nil]; decide)), fun l4 hl4 => ?_⟩
  have Sl4 := same_new hl4 (.lst [va, va])
  have el4 : upd J3 l4 (.lst [va, va]) l4 = some (.lst [va, va]) := upd_same
  generalize upd J3 l4 (.lst [va, va]) = J4 at *
  walk_at "w0"
  intro m5 dm5 hm5 hdm5 nem5
  have Mm5 := made_same (o := .own m5) (o' := .ins a.Both dm5 []) hm5 hdm5
  refine ⟨m5, dm5, l4, [va, va], [ta, ta], rfl, upd_same, Mm5 _ _ el4, (.cons ((fA.same (Sn1.trans (Sn2.trans (St3.trans Sl4)))).same Mm5) (.cons ((fA.same (Sn1.trans (Sn2.trans (St3.trans Sl4)))).same Mm5) .nil)), (by simp only [List.length_cons, List.length_nil]; decide), (by simp only [List.length_cons, List.length_nil]; decide), fun lm5 J5 Bm5 elm5 em5 => ?_⟩
  have Sm5 := made_but hm5 hdm5 Bm5
  have Fm5 : ((.both (.cons ta (.cons ta .nil))) : Tr).Fit (fc a) J5 (.ref m5) := by rw [Tr.Fit]; exact ⟨m5, dm5, lm5, [va, va], rfl, em5, elm5, trs_fit.mpr (.cons ((fA.same (Sn1.trans (Sn2.trans (St3.trans (Sl4.trans Sm5)))))) (.cons ((fA.same (Sn1.trans (Sn2.trans (St3.trans (Sl4.trans Sm5)))))) .nil))⟩
  walk_at "w0"
  refine ⟨sz8 (by first | decide | (simp only [List.length_cons, List.length_nil]; decide)), fun t6 ht6 => ?_⟩
  have St6 := same_new ht6 (.tup [(.ref m5), va])
  have et6 : upd J5 t6 (.tup [(.ref m5), va]) t6 = some (.tup [(.ref m5), va]) := upd_same
  generalize upd J5 t6 (.tup [(.ref m5), va]) = J6 at *
  walk_at "w0"
  refine ⟨sz8 (by first | decide | (simp only [List.length_cons, List.length_nil]; decide)), fun l7 hl7 => ?_⟩
  have Sl7 := same_new hl7 (.lst [va, va, va])
  have el7 : upd J6 l7 (.lst [va, va, va]) l7 = some (.lst [va, va, va]) := upd_same
  generalize upd J6 l7 (.lst [va, va, va]) = J7 at *
  walk_at "w0"
  intro m8 dm8 hm8 hdm8 nem8
  have Mm8 := made_same (o := .own m8) (o' := .ins a.Either dm8 []) hm8 hdm8
  refine ⟨m8, dm8, l7, [va, va, va], [ta, ta, ta], rfl, upd_same, Mm8 _ _ el7, (.cons ((fA.same (Sn1.trans (Sn2.trans (St3.trans (Sl4.trans (Sm5.trans (St6.trans Sl7))))))).same Mm8) (.cons ((fA.same (Sn1.trans (Sn2.trans (St3.trans (Sl4.trans (Sm5.trans (St6.trans Sl7))))))).same Mm8) (.cons ((fA.same (Sn1.trans (Sn2.trans (St3.trans (Sl4.trans (Sm5.trans (St6.trans Sl7))))))).same Mm8) .nil))), (by simp only [List.length_cons, List.length_nil]; decide), (by simp only [List.length_cons, List.length_nil]; decide), fun lm8 J8 Bm8 elm8 em8 => ?_⟩
  have Sm8 := made_but hm8 hdm8 Bm8
  have Fm8 : ((.either (.cons ta (.cons ta (.cons ta .nil)))) : Tr).Fit (fc a) J8 (.ref m8) := by rw [Tr.Fit]; exact ⟨m8, dm8, lm8, [va, va, va], rfl, em8, elm8, trs_fit.mpr (.cons ((fA.same (Sn1.trans (Sn2.trans (St3.trans (Sl4.trans (Sm5.trans (St6.trans (Sl7.trans Sm8))))))))) (.cons ((fA.same (Sn1.trans (Sn2.trans (St3.trans (Sl4.trans (Sm5.trans (St6.trans (Sl7.trans Sm8))))))))) (.cons ((fA.same (Sn1.trans (Sn2.trans (St3.trans (Sl4.trans (Sm5.trans (St6.trans (Sl7.trans Sm8))))))))) .nil)))⟩
  walk_at "w0"
  refine ⟨sz8 (by first | decide | (simp only [List.length_cons, List.length_nil]; decide)), fun t9 ht9 => ?_⟩
  have St9 := same_new ht9 (.tup [(.ref m8), va])
  have et9 : upd J8 t9 (.tup [(.ref m8), va]) t9 = some (.tup [(.ref m8), va]) := upd_same
  generalize upd J8 t9 (.tup [(.ref m8), va]) = J9 at *
  walk_at "w0"
  refine ⟨sz8 (by first | decide | (simp only [List.length_cons, List.length_nil]; decide)), fun l10 hl10 => ?_⟩
  have Sl10 := same_new hl10 (.lst [va, vb])
  have el10 : upd J9 l10 (.lst [va, vb]) l10 = some (.lst [va, vb]) := upd_same
  generalize upd J9 l10 (.lst [va, vb]) = J10 at *
  walk_at "w0"
  intro m11 dm11 hm11 hdm11 nem11
  have Mm11 := made_same (o := .own m11) (o' := .ins a.Both dm11 []) hm11 hdm11
  refine ⟨m11, dm11, l10, [va, vb], [ta, tb], rfl, upd_same, Mm11 _ _ el10, (.cons ((fA.same (Sn1.trans (Sn2.trans (St3.trans (Sl4.trans (Sm5.trans (St6.trans (Sl7.trans (Sm8.trans (St9.trans Sl10)))))))))).same Mm11) (.cons ((fB.same (Sn1.trans (Sn2.trans (St3.trans (Sl4.trans (Sm5.trans (St6.trans (Sl7.trans (Sm8.trans (St9.trans Sl10)))))))))).same Mm11) .nil)), (by simp only [List.length_cons, List.length_nil]; decide), (by simp only [List.length_cons, List.length_nil]; decide), fun lm11 J11 Bm11 elm11 em11 => ?_⟩
  have Sm11 := made_but hm11 hdm11 Bm11
  have Fm11 : ((.both (.cons ta (.cons tb .nil))) : Tr).Fit (fc a) J11 (.ref m11) := by rw [Tr.Fit]; exact ⟨m11, dm11, lm11, [va, vb], rfl, em11, elm11, trs_fit.mpr (.cons ((fA.same (Sn1.trans (Sn2.trans (St3.trans (Sl4.trans (Sm5.trans (St6.trans (Sl7.trans (Sm8.trans (St9.trans (Sl10.trans Sm11)))))))))))) (.cons ((fB.same (Sn1.trans (Sn2.trans (St3.trans (Sl4.trans (Sm5.trans (St6.trans (Sl7.trans (Sm8.trans (St9.trans (Sl10.trans Sm11)))))))))))) .nil))⟩
  walk_at "w0"
  refine ⟨sz8 (by first | decide | (simp only [List.length_cons, List.length_nil]; decide)), fun l12 hl12 => ?_⟩
  have Sl12 := same_new hl12 (.lst [vb, va])
  have el12 : upd J11 l12 (.lst [vb, va]) l12 = some (.lst [vb, va]) := upd_same
  generalize upd J11 l12 (.lst [vb, va]) = J12 at *
  walk_at "w0"
  intro m13 dm13 hm13 hdm13 nem13
  have Mm13 := made_same (o := .own m13) (o' := .ins a.Both dm13 []) hm13 hdm13
  refine ⟨m13, dm13, l12, [vb, va], [tb, ta], rfl, upd_same, Mm13 _ _ el12, (.cons ((fB.same (Sn1.trans (Sn2.trans (St3.trans (Sl4.trans (Sm5.trans (St6.trans (Sl7.trans (Sm8.trans (St9.trans (Sl10.trans (Sm11.trans Sl12)))))))))))).same Mm13) (.cons ((fA.same (Sn1.trans (Sn2.trans (St3.trans (Sl4.trans (Sm5.trans (St6.trans (Sl7.trans (Sm8.trans (St9.trans (Sl10.trans (Sm11.trans Sl12)))))))))))).same Mm13) .nil)), (by simp only [List.length_cons, List.length_nil]; decide), (by simp only [List.length_cons, List.length_nil]; decide), fun lm13 J13 Bm13 elm13 em13 => ?_⟩
  have Sm13 := made_but hm13 hdm13 Bm13
  have Fm13 : ((.both (.cons tb (.cons ta .nil))) : Tr).Fit (fc a) J13 (.ref m13) := by rw [Tr.Fit]; exact ⟨m13, dm13, lm13, [vb, va], rfl, em13, elm13, trs_fit.mpr (.cons ((fB.same (Sn1.trans (Sn2.trans (St3.trans (Sl4.trans (Sm5.trans (St6.trans (Sl7.trans (Sm8.trans (St9.trans (Sl10.trans (Sm11.trans (Sl12.trans Sm13)))))))))))))) (.cons ((fA.same (Sn1.trans (Sn2.trans (St3.trans (Sl4.trans (Sm5.trans (St6.trans (Sl7.trans (Sm8.trans (St9.trans (Sl10.trans (Sm11.trans (Sl12.trans Sm13)))))))))))))) .nil))⟩
  walk_at "w0"
  refine ⟨sz8 (by first | decide | (simp only [List.length_cons, List.length_nil]; decide)), fun t14 ht14 => ?_⟩
  have St14 := same_new ht14 (.tup [(.ref m11), (.ref m13)])
  have et14 : upd J13 t14 (.tup [(.ref m11), (.ref m13)]) t14 = some (.tup [(.ref m11), (.ref m13)]) := upd_same
  generalize upd J13 t14 (.tup [(.ref m11), (.ref m13)]) = J14 at *
  walk_at "w0"
  refine ⟨sz8 (by first | decide | (simp only [List.length_cons, List.length_nil]; decide)), fun c0 hc0 => ?_⟩
  have Sc0 := same_new hc0 (.lst [.ref t3, .ref t6, .ref t9, .ref t14])
  have ec0 : upd J14 c0 (.lst [.ref t3, .ref t6, .ref t9, .ref t14]) c0 = some (.lst [.ref t3, .ref t6, .ref t9, .ref t14]) := upd_same
  generalize upd J14 c0 (.lst [.ref t3, .ref t6, .ref t9, .ref t14]) = J15 at *
  have Pt3 : PrAt a J15 (.ref t3) := ⟨t3, _, _, (.not (.not ta)), ta, rfl, ((Sl4.trans (Sm5.trans (St6.trans (Sl7.trans (Sm8.trans (St9.trans (Sl10.trans (Sm11.trans (Sl12.trans (Sm13.trans (St14.trans Sc0))))))))))) _ _ et3), (Fn2.same (St3.trans (Sl4.trans (Sm5.trans (St6.trans (Sl7.trans (Sm8.trans (St9.trans (Sl10.trans (Sm11.trans (Sl12.trans (Sm13.trans (St14.trans Sc0))))))))))))), (fA.same (Sn1.trans (Sn2.trans (St3.trans (Sl4.trans (Sm5.trans (St6.trans (Sl7.trans (Sm8.trans (St9.trans (Sl10.trans (Sm11.trans (Sl12.trans (Sm13.trans (St14.trans Sc0))))))))))))))), (by simp [Tr.ok, Trs.ok, Trs.toL, oa, ob, oc]), (by simp [Tr.ok, Trs.ok, Trs.toL, oa, ob, oc]), (by simp only [Tr.dp, Trs.dp]; omega), (by omega), (fun k p w => by simp only [Tr.ev, Trs.ev, List.all_cons, List.all_nil, List.any_cons, List.any_nil, id]; cases ta.ev k p w <;> cases tb.ev k p w <;> cases tc.ev k p w <;> rfl)⟩
  have Pt6 : PrAt a J15 (.ref t6) := ⟨t6, _, _, (.both (.cons ta (.cons ta .nil))), ta, rfl, ((Sl7.trans (Sm8.trans (St9.trans (Sl10.trans (Sm11.trans (Sl12.trans (Sm13.trans (St14.trans Sc0)))))))) _ _ et6), (Fm5.same (St6.trans (Sl7.trans (Sm8.trans (St9.trans (Sl10.trans (Sm11.trans (Sl12.trans (Sm13.trans (St14.trans Sc0)))))))))), (fA.same (Sn1.trans (Sn2.trans (St3.trans (Sl4.trans (Sm5.trans (St6.trans (Sl7.trans (Sm8.trans (St9.trans (Sl10.trans (Sm11.trans (Sl12.trans (Sm13.trans (St14.trans Sc0))))))))))))))), (by simp [Tr.ok, Trs.ok, Trs.toL, oa, ob, oc]), (by simp [Tr.ok, Trs.ok, Trs.toL, oa, ob, oc]), (by simp only [Tr.dp, Trs.dp]; omega), (by omega), (fun k p w => by simp only [Tr.ev, Trs.ev, List.all_cons, List.all_nil, List.any_cons, List.any_nil, id]; cases ta.ev k p w <;> cases tb.ev k p w <;> cases tc.ev k p w <;> rfl)⟩
  have Pt9 : PrAt a J15 (.ref t9) := ⟨t9, _, _, (.either (.cons ta (.cons ta (.cons ta .nil)))), ta, rfl, ((Sl10.trans (Sm11.trans (Sl12.trans (Sm13.trans (St14.trans Sc0))))) _ _ et9), (Fm8.same (St9.trans (Sl10.trans (Sm11.trans (Sl12.trans (Sm13.trans (St14.trans Sc0))))))), (fA.same (Sn1.trans (Sn2.trans (St3.trans (Sl4.trans (Sm5.trans (St6.trans (Sl7.trans (Sm8.trans (St9.trans (Sl10.trans (Sm11.trans (Sl12.trans (Sm13.trans (St14.trans Sc0))))))))))))))), (by simp [Tr.ok, Trs.ok, Trs.toL, oa, ob, oc]), (by simp [Tr.ok, Trs.ok, Trs.toL, oa, ob, oc]), (by simp only [Tr.dp, Trs.dp]; omega), (by omega), (fun k p w => by simp only [Tr.ev, Trs.ev, List.all_cons, List.all_nil, List.any_cons, List.any_nil, id]; cases ta.ev k p w <;> cases tb.ev k p w <;> cases tc.ev k p w <;> rfl)⟩
  have Pt14 : PrAt a J15 (.ref t14) := ⟨t14, _, _, (.both (.cons ta (.cons tb .nil))), (.both (.cons tb (.cons ta .nil))), rfl, (Sc0 _ _ et14), (Fm11.same (Sl12.trans (Sm13.trans (St14.trans Sc0)))), (Fm13.same (St14.trans Sc0)), (by simp [Tr.ok, Trs.ok, Trs.toL, oa, ob, oc]), (by simp [Tr.ok, Trs.ok, Trs.toL, oa, ob, oc]), (by simp only [Tr.dp, Trs.dp]; omega), (by simp only [Tr.dp, Trs.dp]; omega), (fun k p w => by simp only [Tr.ev, Trs.ev, List.all_cons, List.all_nil, List.any_cons, List.any_nil, id]; cases ta.ev k p w <;> cases tb.ev k p w <;> cases tc.ev k p w <;> rfl)⟩
  have Z16 := (Sn1.trans (Sn2.trans (St3.trans (Sl4.trans (Sm5.trans (St6.trans (Sl7.trans (Sm8.trans (St9.trans (Sl10.trans (Sm11.trans (Sl12.trans (Sm13.trans (St14.trans Sc0))))))))))))))
  have G17 := (fA.same (Sn1.trans (Sn2.trans (St3.trans (Sl4.trans (Sm5.trans (St6.trans (Sl7.trans (Sm8.trans (St9.trans (Sl10.trans (Sm11.trans (Sl12.trans (Sm13.trans (St14.trans Sc0)))))))))))))))
  have G18 := (fB.same (Sn1.trans (Sn2.trans (St3.trans (Sl4.trans (Sm5.trans (St6.trans (Sl7.trans (Sm8.trans (St9.trans (Sl10.trans (Sm11.trans (Sl12.trans (Sm13.trans (St14.trans Sc0)))))))))))))))
  have G19 := (fC.same (Sn1.trans (Sn2.trans (St3.trans (Sl4.trans (Sm5.trans (St6.trans (Sl7.trans (Sm8.trans (St9.trans (Sl10.trans (Sm11.trans (Sl12.trans (Sm13.trans (St14.trans Sc0)))))))))))))))
  have G20 := Pt3
  have G21 := Pt6
  have G22 := Pt9
  have G23 := Pt14
  have c0_24 := ec0
  clear Sn1 Sn2 St3 Sl4 Sm5 St6 Sl7 Sm8 St9 Sl10 Sm11 Sl12 Sm13 St14 Sc0
  walk_at "w0"
  first | rw [w_hold] | (dsimp only; rw [w_hold])
  walk_at "w0"
  refine ⟨sz8 (by first | decide | (simp only [List.length_cons, List.length_nil]; decide)), fun l15 hl15 => ?_⟩
  have Sl15 := same_new hl15 (.lst [va, vb, vc])
  have el15 : upd J15 l15 (.lst [va, vb, vc]) l15 = some (.lst [va, vb, vc]) := upd_same
  generalize upd J15 l15 (.lst [va, vb, vc]) = J25 at *
  walk_at "w0"
  intro m16 dm16 hm16 hdm16 nem16
  have Mm16 := made_same (o := .own m16) (o' := .ins a.Either dm16 []) hm16 hdm16
  refine ⟨m16, dm16, l15, [va, vb, vc], [ta, tb, tc], rfl, upd_same, Mm16 _ _ el15, (.cons ((G17.same Sl15).same Mm16) (.cons ((G18.same Sl15).same Mm16) (.cons ((G19.same Sl15).same Mm16) .nil))), (by simp only [List.length_cons, List.length_nil]; decide), (by simp only [List.length_cons, List.length_nil]; decide), fun lm16 J26 Bm16 elm16 em16 => ?_⟩
  have Sm16 := made_but hm16 hdm16 Bm16
  have Fm16 : ((.either (.cons ta (.cons tb (.cons tc .nil)))) : Tr).Fit (fc a) J26 (.ref m16) := by rw [Tr.Fit]; exact ⟨m16, dm16, lm16, [va, vb, vc], rfl, em16, elm16, trs_fit.mpr (.cons ((G17.same (Sl15.trans Sm16))) (.cons ((G18.same (Sl15.trans Sm16))) (.cons ((G19.same (Sl15.trans Sm16))) .nil)))⟩
  walk_at "w0"
  refine ⟨sz8 (by first | decide | (simp only [List.length_cons, List.length_nil]; decide)), fun l17 hl17 => ?_⟩
  have Sl17 := same_new hl17 (.lst [vc, va, vb])
  have el17 : upd J26 l17 (.lst [vc, va, vb]) l17 = some (.lst [vc, va, vb]) := upd_same
  generalize upd J26 l17 (.lst [vc, va, vb]) = J27 at *
  walk_at "w0"
  intro m18 dm18 hm18 hdm18 nem18
  have Mm18 := made_same (o := .own m18) (o' := .ins a.Either dm18 []) hm18 hdm18
  refine ⟨m18, dm18, l17, [vc, va, vb], [tc, ta, tb], rfl, upd_same, Mm18 _ _ el17, (.cons ((G19.same (Sl15.trans (Sm16.trans Sl17))).same Mm18) (.cons ((G17.same (Sl15.trans (Sm16.trans Sl17))).same Mm18) (.cons ((G18.same (Sl15.trans (Sm16.trans Sl17))).same Mm18) .nil))), (by simp only [List.length_cons, List.length_nil]; decide), (by simp only [List.length_cons, List.length_nil]; decide), fun lm18 J28 Bm18 elm18 em18 => ?_⟩
  have Sm18 := made_but hm18 hdm18 Bm18
  have Fm18 : ((.either (.cons tc (.cons ta (.cons tb .nil)))) : Tr).Fit (fc a) J28 (.ref m18) := by rw [Tr.Fit]; exact ⟨m18, dm18, lm18, [vc, va, vb], rfl, em18, elm18, trs_fit.mpr (.cons ((G19.same (Sl15.trans (Sm16.trans (Sl17.trans Sm18))))) (.cons ((G17.same (Sl15.trans (Sm16.trans (Sl17.trans Sm18))))) (.cons ((G18.same (Sl15.trans (Sm16.trans (Sl17.trans Sm18))))) .nil)))⟩
  walk_at "w0"
  refine ⟨sz8 (by first | decide | (simp only [List.length_cons, List.length_nil]; decide)), fun t19 ht19 => ?_⟩
  have St19 := same_new ht19 (.tup [(.ref m16), (.ref m18)])
  have et19 : upd J28 t19 (.tup [(.ref m16), (.ref m18)]) t19 = some (.tup [(.ref m16), (.ref m18)]) := upd_same
  generalize upd J28 t19 (.tup [(.ref m16), (.ref m18)]) = J29 at *
  walk_at "w0"
  refine ⟨sz8 (by first | decide | (simp only [List.length_cons, List.length_nil]; decide)), fun l20 hl20 => ?_⟩
  have Sl20 := same_new hl20 (.lst [va, vb])
  have el20 : upd J29 l20 (.lst [va, vb]) l20 = some (.lst [va, vb]) := upd_same
  generalize upd J29 l20 (.lst [va, vb]) = J30 at *
  walk_at "w0"
  intro m21 dm21 hm21 hdm21 nem21
  have Mm21 := made_same (o := .own m21) (o' := .ins a.Both dm21 []) hm21 hdm21
  refine ⟨m21, dm21, l20, [va, vb], [ta, tb], rfl, upd_same, Mm21 _ _ el20, (.cons ((G17.same (Sl15.trans (Sm16.trans (Sl17.trans (Sm18.trans (St19.trans Sl20)))))).same Mm21) (.cons ((G18.same (Sl15.trans (Sm16.trans (Sl17.trans (Sm18.trans (St19.trans Sl20)))))).same Mm21) .nil)), (by simp only [List.length_cons, List.length_nil]; decide), (by simp only [List.length_cons, List.length_nil]; decide), fun lm21 J31 Bm21 elm21 em21 => ?_⟩
  have Sm21 := made_but hm21 hdm21 Bm21
  have Fm21 : ((.both (.cons ta (.cons tb .nil))) : Tr).Fit (fc a) J31 (.ref m21) := by rw [Tr.Fit]; exact ⟨m21, dm21, lm21, [va, vb], rfl, em21, elm21, trs_fit.mpr (.cons ((G17.same (Sl15.trans (Sm16.trans (Sl17.trans (Sm18.trans (St19.trans (Sl20.trans Sm21)))))))) (.cons ((G18.same (Sl15.trans (Sm16.trans (Sl17.trans (Sm18.trans (St19.trans (Sl20.trans Sm21)))))))) .nil))⟩
  walk_at "w0"
  intro n22 dn22 hn22 hdn22 nen22
  have Mn22 := made_same (o := .own n22) (o' := .ins a.Not dn22 []) hn22 hdn22
  refine ⟨n22, dn22, (.ref m21), (.both (.cons ta (.cons tb .nil))), rfl, upd_same, Fm21.same Mn22, ?_⟩
  have Sn22 : Same J31 (upd (upd (upd J31 dn22 (.own n22)) n22 (.ins a.Not dn22 [])) n22 (.ins a.Not dn22 [("fit", (.ref m21))])) := fun b o e => by rw [upd_ne (ne_of_none e hn22)]; exact Mn22 b o e
  have en22 : upd (upd (upd J31 dn22 (.own n22)) n22 (.ins a.Not dn22 [])) n22 (.ins a.Not dn22 [("fit", (.ref m21))]) n22 = some (.ins a.Not dn22 [("fit", (.ref m21))]) := upd_same
  generalize upd (upd (upd J31 dn22 (.own n22)) n22 (.ins a.Not dn22 [])) n22 (.ins a.Not dn22 [("fit", (.ref m21))]) = J32 at *
  have Fn22 : ((.not (.both (.cons ta (.cons tb .nil)))) : Tr).Fit (fc a) J32 (.ref n22) := by rw [Tr.Fit]; exact ⟨n22, dn22, (.ref m21), rfl, en22, (Fm21.same Sn22)⟩
  walk_at "w0"
  intro n23 dn23 hn23 hdn23 nen23
  have Mn23 := made_same (o := .own n23) (o' := .ins a.Not dn23 []) hn23 hdn23
  refine ⟨n23, dn23, va, ta, rfl, upd_same, (G17.same (Sl15.trans (Sm16.trans (Sl17.trans (Sm18.trans (St19.trans (Sl20.trans (Sm21.trans Sn22)))))))).same Mn23, ?_⟩
  have Sn23 : Same J32 (upd (upd (upd J32 dn23 (.own n23)) n23 (.ins a.Not dn23 [])) n23 (.ins a.Not dn23 [("fit", va)])) := fun b o e => by rw [upd_ne (ne_of_none e hn23)]; exact Mn23 b o e
  have en23 : upd (upd (upd J32 dn23 (.own n23)) n23 (.ins a.Not dn23 [])) n23 (.ins a.Not dn23 [("fit", va)]) n23 = some (.ins a.Not dn23 [("fit", va)]) := upd_same
  generalize upd (upd (upd J32 dn23 (.own n23)) n23 (.ins a.Not dn23 [])) n23 (.ins a.Not dn23 [("fit", va)]) = J33 at *
  have Fn23 : ((.not ta) : Tr).Fit (fc a) J33 (.ref n23) := by rw [Tr.Fit]; exact ⟨n23, dn23, va, rfl, en23, (G17.same (Sl15.trans (Sm16.trans (Sl17.trans (Sm18.trans (St19.trans (Sl20.trans (Sm21.trans (Sn22.trans Sn23)))))))))⟩
  walk_at "w0"
  intro n24 dn24 hn24 hdn24 nen24
  have Mn24 := made_same (o := .own n24) (o' := .ins a.Not dn24 []) hn24 hdn24
  refine ⟨n24, dn24, vb, tb, rfl, upd_same, (G18.same (Sl15.trans (Sm16.trans (Sl17.trans (Sm18.trans (St19.trans (Sl20.trans (Sm21.trans (Sn22.trans Sn23))))))))).same Mn24, ?_⟩
  have Sn24 : Same J33 (upd (upd (upd J33 dn24 (.own n24)) n24 (.ins a.Not dn24 [])) n24 (.ins a.Not dn24 [("fit", vb)])) := fun b o e => by rw [upd_ne (ne_of_none e hn24)]; exact Mn24 b o e
  have en24 : upd (upd (upd J33 dn24 (.own n24)) n24 (.ins a.Not dn24 [])) n24 (.ins a.Not dn24 [("fit", vb)]) n24 = some (.ins a.Not dn24 [("fit", vb)]) := upd_same
  generalize upd (upd (upd J33 dn24 (.own n24)) n24 (.ins a.Not dn24 [])) n24 (.ins a.Not dn24 [("fit", vb)]) = J34 at *
  have Fn24 : ((.not tb) : Tr).Fit (fc a) J34 (.ref n24) := by rw [Tr.Fit]; exact ⟨n24, dn24, vb, rfl, en24, (G18.same (Sl15.trans (Sm16.trans (Sl17.trans (Sm18.trans (St19.trans (Sl20.trans (Sm21.trans (Sn22.trans (Sn23.trans Sn24))))))))))⟩
  walk_at "w0"
  refine ⟨sz8 (by first | decide | (simp only [List.length_cons, List.length_nil]; decide)), fun l25 hl25 => ?_⟩
  have Sl25 := same_new hl25 (.lst [(.ref n23), (.ref n24)])
  have el25 : upd J34 l25 (.lst [(.ref n23), (.ref n24)]) l25 = some (.lst [(.ref n23), (.ref n24)]) := upd_same
  generalize upd J34 l25 (.lst [(.ref n23), (.ref n24)]) = J35 at *
  walk_at "w0"
  intro m26 dm26 hm26 hdm26 nem26
  have Mm26 := made_same (o := .own m26) (o' := .ins a.Either dm26 []) hm26 hdm26
  refine ⟨m26, dm26, l25, [(.ref n23), (.ref n24)], [(.not ta), (.not tb)], rfl, upd_same, Mm26 _ _ el25, (.cons ((Fn23.same (Sn24.trans Sl25)).same Mm26) (.cons ((Fn24.same Sl25).same Mm26) .nil)), (by simp only [List.length_cons, List.length_nil]; decide), (by simp only [List.length_cons, List.length_nil]; decide), fun lm26 J36 Bm26 elm26 em26 => ?_⟩
  have Sm26 := made_but hm26 hdm26 Bm26
  have Fm26 : ((.either (.cons (.not ta) (.cons (.not tb) .nil))) : Tr).Fit (fc a) J36 (.ref m26) := by rw [Tr.Fit]; exact ⟨m26, dm26, lm26, [(.ref n23), (.ref n24)], rfl, em26, elm26, trs_fit.mpr (.cons ((Fn23.same (Sn24.trans (Sl25.trans Sm26)))) (.cons ((Fn24.same (Sl25.trans Sm26))) .nil))⟩
  walk_at "w0"
  refine ⟨sz8 (by first | decide | (simp only [List.length_cons, List.length_nil]; decide)), fun t27 ht27 => ?_⟩
  have St27 := same_new ht27 (.tup [(.ref n22), (.ref m26)])
  have et27 : upd J36 t27 (.tup [(.ref n22), (.ref m26)]) t27 = some (.tup [(.ref n22), (.ref m26)]) := upd_same
  generalize upd J36 t27 (.tup [(.ref n22), (.ref m26)]) = J37 at *
  walk_at "w0"
  refine ⟨sz8 (by first | decide | (simp only [List.length_cons, List.length_nil]; decide)), fun l28 hl28 => ?_⟩
  have Sl28 := same_new hl28 (.lst [.ref t19, .ref t27])
  have el28 : upd J37 l28 (.lst [.ref t19, .ref t27]) l28 = some (.lst [.ref t19, .ref t27]) := upd_same
  generalize upd J37 l28 (.lst [.ref t19, .ref t27]) = J38 at *
  walk_at "w0"
  refine ⟨c0, l28, _, _, rfl, rfl, ((Sl15.trans (Sm16.trans (Sl17.trans (Sm18.trans (St19.trans (Sl20.trans (Sm21.trans (Sn22.trans (Sn23.trans (Sn24.trans (Sl25.trans (Sm26.trans (St27.trans Sl28))))))))))))) _ _ c0_24), el28, sz8 (by first | decide | (simp only [List.length_cons, List.length_nil]; decide)), fun c29 hc29 => ?_⟩
  have Sc29 := same_new hc29 (.lst ([.ref t3, .ref t6, .ref t9, .ref t14] ++ [.ref t19, .ref t27]))
  have ec29 : upd J38 c29 (.lst ([.ref t3, .ref t6, .ref t9, .ref t14] ++ [.ref t19, .ref t27])) c29 = some (.lst ([.ref t3, .ref t6, .ref t9, .ref t14] ++ [.ref t19, .ref t27])) := upd_same
  generalize upd J38 c29 (.lst ([.ref t3, .ref t6, .ref t9, .ref t14] ++ [.ref t19, .ref t27])) = J39 at *
  have Pt19 : PrAt a J39 (.ref t19) := ⟨t19, _, _, (.either (.cons ta (.cons tb (.cons tc .nil)))), (.either (.cons tc (.cons ta (.cons tb .nil)))), rfl, ((Sl20.trans (Sm21.trans (Sn22.trans (Sn23.trans (Sn24.trans (Sl25.trans (Sm26.trans (St27.trans (Sl28.trans Sc29))))))))) _ _ et19), (Fm16.same (Sl17.trans (Sm18.trans (St19.trans (Sl20.trans (Sm21.trans (Sn22.trans (Sn23.trans (Sn24.trans (Sl25.trans (Sm26.trans (St27.trans (Sl28.trans Sc29))))))))))))), (Fm18.same (St19.trans (Sl20.trans (Sm21.trans (Sn22.trans (Sn23.trans (Sn24.trans (Sl25.trans (Sm26.trans (St27.trans (Sl28.trans Sc29))))))))))), (by simp [Tr.ok, Trs.ok, Trs.toL, oa, ob, oc]), (by simp [Tr.ok, Trs.ok, Trs.toL, oa, ob, oc]), (by simp only [Tr.dp, Trs.dp]; omega), (by simp only [Tr.dp, Trs.dp]; omega), (fun k p w => by simp only [Tr.ev, Trs.ev, List.all_cons, List.all_nil, List.any_cons, List.any_nil, id]; cases ta.ev k p w <;> cases tb.ev k p w <;> cases tc.ev k p w <;> rfl)⟩
  have Pt27 : PrAt a J39 (.ref t27) := ⟨t27, _, _, (.not (.both (.cons ta (.cons tb .nil)))), (.either (.cons (.not ta) (.cons (.not tb) .nil))), rfl, ((Sl28.trans Sc29) _ _ et27), (Fn22.same (Sn23.trans (Sn24.trans (Sl25.trans (Sm26.trans (St27.trans (Sl28.trans Sc29))))))), (Fm26.same (St27.trans (Sl28.trans Sc29))), (by simp [Tr.ok, Trs.ok, Trs.toL, oa, ob, oc]), (by simp [Tr.ok, Trs.ok, Trs.toL, oa, ob, oc]), (by simp only [Tr.dp, Trs.dp]; omega), (by simp only [Tr.dp, Trs.dp]; omega), (fun k p w => by simp only [Tr.ev, Trs.ev, List.all_cons, List.all_nil, List.any_cons, List.any_nil, id]; cases ta.ev k p w <;> cases tb.ev k p w <;> cases tc.ev k p w <;> rfl)⟩
  have ee : ([.ref t3, .ref t6, .ref t9, .ref t14] ++ [.ref t19, .ref t27] : List V) = [.ref t3, .ref t6, .ref t9, .ref t14, .ref t19, .ref t27] := rfl
  rw [ee] at ec29
  clear ee
  have Z40 := (Z16.trans (Sl15.trans (Sm16.trans (Sl17.trans (Sm18.trans (St19.trans (Sl20.trans (Sm21.trans (Sn22.trans (Sn23.trans (Sn24.trans (Sl25.trans (Sm26.trans (St27.trans (Sl28.trans Sc29)))))))))))))))
  have G41 := (G17.same (Sl15.trans (Sm16.trans (Sl17.trans (Sm18.trans (St19.trans (Sl20.trans (Sm21.trans (Sn22.trans (Sn23.trans (Sn24.trans (Sl25.trans (Sm26.trans (St27.trans (Sl28.trans Sc29)))))))))))))))
  have G42 := (G18.same (Sl15.trans (Sm16.trans (Sl17.trans (Sm18.trans (St19.trans (Sl20.trans (Sm21.trans (Sn22.trans (Sn23.trans (Sn24.trans (Sl25.trans (Sm26.trans (St27.trans (Sl28.trans Sc29)))))))))))))))
  have G43 := (G19.same (Sl15.trans (Sm16.trans (Sl17.trans (Sm18.trans (St19.trans (Sl20.trans (Sm21.trans (Sn22.trans (Sn23.trans (Sn24.trans (Sl25.trans (Sm26.trans (St27.trans (Sl28.trans Sc29)))))))))))))))
  have G44 := (G20.same (Sl15.trans (Sm16.trans (Sl17.trans (Sm18.trans (St19.trans (Sl20.trans (Sm21.trans (Sn22.trans (Sn23.trans (Sn24.trans (Sl25.trans (Sm26.trans (St27.trans (Sl28.trans Sc29)))))))))))))))
  have G45 := (G21.same (Sl15.trans (Sm16.trans (Sl17.trans (Sm18.trans (St19.trans (Sl20.trans (Sm21.trans (Sn22.trans (Sn23.trans (Sn24.trans (Sl25.trans (Sm26.trans (St27.trans (Sl28.trans Sc29)))))))))))))))
  have G46 := (G22.same (Sl15.trans (Sm16.trans (Sl17.trans (Sm18.trans (St19.trans (Sl20.trans (Sm21.trans (Sn22.trans (Sn23.trans (Sn24.trans (Sl25.trans (Sm26.trans (St27.trans (Sl28.trans Sc29)))))))))))))))
  have G47 := (G23.same (Sl15.trans (Sm16.trans (Sl17.trans (Sm18.trans (St19.trans (Sl20.trans (Sm21.trans (Sn22.trans (Sn23.trans (Sn24.trans (Sl25.trans (Sm26.trans (St27.trans (Sl28.trans Sc29)))))))))))))))
  have G48 := Pt19
  have G49 := Pt27
  have c29_50 := ec29
  clear Z16 Sl15 Sm16 Sl17 Sm18 St19 Sl20 Sm21 Sn22 Sn23 Sn24 Sl25 Sm26 St27 Sl28 Sc29
  walk_at "w0"
  first | rw [w_hold] | (dsimp only; rw [w_hold])
  walk_at "w0"
  refine ⟨sz8 (by first | decide | (simp only [List.length_cons, List.length_nil]; decide)), fun l30 hl30 => ?_⟩
  have Sl30 := same_new hl30 (.lst [va, vb, vc])
  have el30 : upd J39 l30 (.lst [va, vb, vc]) l30 = some (.lst [va, vb, vc]) := upd_same
  generalize upd J39 l30 (.lst [va, vb, vc]) = J51 at *
  walk_at "w0"
  intro m31 dm31 hm31 hdm31 nem31
  have Mm31 := made_same (o := .own m31) (o' := .ins a.Either dm31 []) hm31 hdm31
  refine ⟨m31, dm31, l30, [va, vb, vc], [ta, tb, tc], rfl, upd_same, Mm31 _ _ el30, (.cons ((G41.same Sl30).same Mm31) (.cons ((G42.same Sl30).same Mm31) (.cons ((G43.same Sl30).same Mm31) .nil))), (by simp only [List.length_cons, List.length_nil]; decide), (by simp only [List.length_cons, List.length_nil]; decide), fun lm31 J52 Bm31 elm31 em31 => ?_⟩
  have Sm31 := made_but hm31 hdm31 Bm31
  have Fm31 : ((.either (.cons ta (.cons tb (.cons tc .nil)))) : Tr).Fit (fc a) J52 (.ref m31) := by rw [Tr.Fit]; exact ⟨m31, dm31, lm31, [va, vb, vc], rfl, em31, elm31, trs_fit.mpr (.cons ((G41.same (Sl30.trans Sm31))) (.cons ((G42.same (Sl30.trans Sm31))) (.cons ((G43.same (Sl30.trans Sm31))) .nil)))⟩
  walk_at "w0"
  intro n32 dn32 hn32 hdn32 nen32
  have Mn32 := made_same (o := .own n32) (o' := .ins a.Not dn32 []) hn32 hdn32
  refine ⟨n32, dn32, (.ref m31), (.either (.cons ta (.cons tb (.cons tc .nil)))), rfl, upd_same, Fm31.same Mn32, ?_⟩
  have Sn32 : Same J52 (upd (upd (upd J52 dn32 (.own n32)) n32 (.ins a.Not dn32 [])) n32 (.ins a.Not dn32 [("fit", (.ref m31))])) := fun b o e => by rw [upd_ne (ne_of_none e hn32)]; exact Mn32 b o e
  have en32 : upd (upd (upd J52 dn32 (.own n32)) n32 (.ins a.Not dn32 [])) n32 (.ins a.Not dn32 [("fit", (.ref m31))]) n32 = some (.ins a.Not dn32 [("fit", (.ref m31))]) := upd_same
  generalize upd (upd (upd J52 dn32 (.own n32)) n32 (.ins a.Not dn32 [])) n32 (.ins a.Not dn32 [("fit", (.ref m31))]) = J53 at *
  have Fn32 : ((.not (.either (.cons ta (.cons tb (.cons tc .nil))))) : Tr).Fit (fc a) J53 (.ref n32) := by rw [Tr.Fit]; exact ⟨n32, dn32, (.ref m31), rfl, en32, (Fm31.same Sn32)⟩
  walk_at "w0"
  intro n33 dn33 hn33 hdn33 nen33
  have Mn33 := made_same (o := .own n33) (o' := .ins a.Not dn33 []) hn33 hdn33
  refine ⟨n33, dn33, va, ta, rfl, upd_same, (G41.same (Sl30.trans (Sm31.trans Sn32))).same Mn33, ?_⟩
  have Sn33 : Same J53 (upd (upd (upd J53 dn33 (.own n33)) n33 (.ins a.Not dn33 [])) n33 (.ins a.Not dn33 [("fit", va)])) := fun b o e => by rw [upd_ne (ne_of_none e hn33)]; exact Mn33 b o e
  have en33 : upd (upd (upd J53 dn33 (.own n33)) n33 (.ins a.Not dn33 [])) n33 (.ins a.Not dn33 [("fit", va)]) n33 = some (.ins a.Not dn33 [("fit", va)]) := upd_same
  generalize upd (upd (upd J53 dn33 (.own n33)) n33 (.ins a.Not dn33 [])) n33 (.ins a.Not dn33 [("fit", va)]) = J54 at *
  have Fn33 : ((.not ta) : Tr).Fit (fc a) J54 (.ref n33) := by rw [Tr.Fit]; exact ⟨n33, dn33, va, rfl, en33, (G41.same (Sl30.trans (Sm31.trans (Sn32.trans Sn33))))⟩
  walk_at "w0"
  intro n34 dn34 hn34 hdn34 nen34
  have Mn34 := made_same (o := .own n34) (o' := .ins a.Not dn34 []) hn34 hdn34
  refine ⟨n34, dn34, vb, tb, rfl, upd_same, (G42.same (Sl30.trans (Sm31.trans (Sn32.trans Sn33)))).same Mn34, ?_⟩
  have Sn34 : Same J54 (upd (upd (upd J54 dn34 (.own n34)) n34 (.ins a.Not dn34 [])) n34 (.ins a.Not dn34 [("fit", vb)])) := fun b o e => by rw [upd_ne (ne_of_none e hn34)]; exact Mn34 b o e
  have en34 : upd (upd (upd J54 dn34 (.own n34)) n34 (.ins a.Not dn34 [])) n34 (.ins a.Not dn34 [("fit", vb)]) n34 = some (.ins a.Not dn34 [("fit", vb)]) := upd_same
  generalize upd (upd (upd J54 dn34 (.own n34)) n34 (.ins a.Not dn34 [])) n34 (.ins a.Not dn34 [("fit", vb)]) = J55 at *
  have Fn34 : ((.not tb) : Tr).Fit (fc a) J55 (.ref n34) := by rw [Tr.Fit]; exact ⟨n34, dn34, vb, rfl, en34, (G42.same (Sl30.trans (Sm31.trans (Sn32.trans (Sn33.trans Sn34)))))⟩
  walk_at "w0"
  intro n35 dn35 hn35 hdn35 nen35
  have Mn35 := made_same (o := .own n35) (o' := .ins a.Not dn35 []) hn35 hdn35
  refine ⟨n35, dn35, vc, tc, rfl, upd_same, (G43.same (Sl30.trans (Sm31.trans (Sn32.trans (Sn33.trans Sn34))))).same Mn35, ?_⟩
  have Sn35 : Same J55 (upd (upd (upd J55 dn35 (.own n35)) n35 (.ins a.Not dn35 [])) n35 (.ins a.Not dn35 [("fit", vc)])) := fun b o e => by rw [upd_ne (ne_of_none e hn35)]; exact Mn35 b o e
  have en35 : upd (upd (upd J55 dn35 (.own n35)) n35 (.ins a.Not dn35 [])) n35 (.ins a.Not dn35 [("fit", vc)]) n35 = some (.ins a.Not dn35 [("fit", vc)]) := upd_same
  generalize upd (upd (upd J55 dn35 (.own n35)) n35 (.ins a.Not dn35 [])) n35 (.ins a.Not dn35 [("fit", vc)]) = J56 at *
  have Fn35 : ((.not tc) : Tr).Fit (fc a) J56 (.ref n35) := by rw [Tr.Fit]; exact ⟨n35, dn35, vc, rfl, en35, (G43.same (Sl30.trans (Sm31.trans (Sn32.trans (Sn33.trans (Sn34.trans Sn35))))))⟩
  walk_at "w0"
  refine ⟨sz8 (by first | decide | (simp only [List.length_cons, List.length_nil]; decide)), fun l36 hl36 => ?_⟩
  have Sl36 := same_new hl36 (.lst [(.ref n33), (.ref n34), (.ref n35)])
  have el36 : upd J56 l36 (.lst [(.ref n33), (.ref n34), (.ref n35)]) l36 = some (.lst [(.ref n33), (.ref n34), (.ref n35)]) := upd_same
  generalize upd J56 l36 (.lst [(.ref n33), (.ref n34), (.ref n35)]) = J57 at *
  walk_at "w0"
  intro m37 dm37 hm37 hdm37 nem37
  have Mm37 := made_same (o := .own m37) (o' := .ins a.Both dm37 []) hm37 hdm37
  refine ⟨m37, dm37, l36, [(.ref n33), (.ref n34), (.ref n35)], [(.not ta), (.not tb), (.not tc)], rfl, upd_same, Mm37 _ _ el36, (.cons ((Fn33.same (Sn34.trans (Sn35.trans Sl36))).same Mm37) (.cons ((Fn34.same (Sn35.trans Sl36)).same Mm37) (.cons ((Fn35.same Sl36).same Mm37) .nil))), (by simp only [List.length_cons, List.length_nil]; decide), (by simp only [List.length_cons, List.length_nil]; decide), fun lm37 J58 Bm37 elm37 em37 => ?_⟩
  have Sm37 := made_but hm37 hdm37 Bm37
  have Fm37 : ((.both (.cons (.not ta) (.cons (.not tb) (.cons (.not tc) .nil)))) : Tr).Fit (fc a) J58 (.ref m37) := by rw [Tr.Fit]; exact ⟨m37, dm37, lm37, [(.ref n33), (.ref n34), (.ref n35)], rfl, em37, elm37, trs_fit.mpr (.cons ((Fn33.same (Sn34.trans (Sn35.trans (Sl36.trans Sm37))))) (.cons ((Fn34.same (Sn35.trans (Sl36.trans Sm37)))) (.cons ((Fn35.same (Sl36.trans Sm37))) .nil)))⟩
  walk_at "w0"
  refine ⟨sz8 (by first | decide | (simp only [List.length_cons, List.length_nil]; decide)), fun t38 ht38 => ?_⟩
  have St38 := same_new ht38 (.tup [(.ref n32), (.ref m37)])
  have et38 : upd J58 t38 (.tup [(.ref n32), (.ref m37)]) t38 = some (.tup [(.ref n32), (.ref m37)]) := upd_same
  generalize upd J58 t38 (.tup [(.ref n32), (.ref m37)]) = J59 at *
  walk_at "w0"
  intro n39 dn39 hn39 hdn39 nen39
  have Mn39 := made_same (o := .own n39) (o' := .ins a.Not dn39 []) hn39 hdn39
  refine ⟨n39, dn39, va, ta, rfl, upd_same, (G41.same (Sl30.trans (Sm31.trans (Sn32.trans (Sn33.trans (Sn34.trans (Sn35.trans (Sl36.trans (Sm37.trans St38))))))))).same Mn39, ?_⟩
  have Sn39 : Same J59 (upd (upd (upd J59 dn39 (.own n39)) n39 (.ins a.Not dn39 [])) n39 (.ins a.Not dn39 [("fit", va)])) := fun b o e => by rw [upd_ne (ne_of_none e hn39)]; exact Mn39 b o e
  have en39 : upd (upd (upd J59 dn39 (.own n39)) n39 (.ins a.Not dn39 [])) n39 (.ins a.Not dn39 [("fit", va)]) n39 = some (.ins a.Not dn39 [("fit", va)]) := upd_same
  generalize upd (upd (upd J59 dn39 (.own n39)) n39 (.ins a.Not dn39 [])) n39 (.ins a.Not dn39 [("fit", va)]) = J60 at *
  have Fn39 : ((.not ta) : Tr).Fit (fc a) J60 (.ref n39) := by rw [Tr.Fit]; exact ⟨n39, dn39, va, rfl, en39, (G41.same (Sl30.trans (Sm31.trans (Sn32.trans (Sn33.trans (Sn34.trans (Sn35.trans (Sl36.trans (Sm37.trans (St38.trans Sn39))))))))))⟩
  walk_at "w0"
  refine ⟨sz8 (by first | decide | (simp only [List.length_cons, List.length_nil]; decide)), fun l40 hl40 => ?_⟩
  have Sl40 := same_new hl40 (.lst [va, (.ref n39)])
  have el40 : upd J60 l40 (.lst [va, (.ref n39)]) l40 = some (.lst [va, (.ref n39)]) := upd_same
  generalize upd J60 l40 (.lst [va, (.ref n39)]) = J61 at *
  walk_at "w0"
  intro m41 dm41 hm41 hdm41 nem41
  have Mm41 := made_same (o := .own m41) (o' := .ins a.Either dm41 []) hm41 hdm41
  refine ⟨m41, dm41, l40, [va, (.ref n39)], [ta, (.not ta)], rfl, upd_same, Mm41 _ _ el40, (.cons ((G41.same (Sl30.trans (Sm31.trans (Sn32.trans (Sn33.trans (Sn34.trans (Sn35.trans (Sl36.trans (Sm37.trans (St38.trans (Sn39.trans Sl40))))))))))).same Mm41) (.cons ((Fn39.same Sl40).same Mm41) .nil)), (by simp only [List.length_cons, List.length_nil]; decide), (by simp only [List.length_cons, List.length_nil]; decide), fun lm41 J62 Bm41 elm41 em41 => ?_⟩
  have Sm41 := made_but hm41 hdm41 Bm41
  have Fm41 : ((.either (.cons ta (.cons (.not ta) .nil))) : Tr).Fit (fc a) J62 (.ref m41) := by rw [Tr.Fit]; exact ⟨m41, dm41, lm41, [va, (.ref n39)], rfl, em41, elm41, trs_fit.mpr (.cons ((G41.same (Sl30.trans (Sm31.trans (Sn32.trans (Sn33.trans (Sn34.trans (Sn35.trans (Sl36.trans (Sm37.trans (St38.trans (Sn39.trans (Sl40.trans Sm41))))))))))))) (.cons ((Fn39.same (Sl40.trans Sm41))) .nil))⟩
  walk_at "w0"
  intro y42 dy42 hy42 hdy42 ney42
  have Sy42 := made_same (o := .own y42) (o' := .ins a.Any dy42 []) hy42 hdy42
  have ey42 : upd (upd J62 dy42 (.own y42)) y42 (.ins a.Any dy42 []) y42 = some (.ins a.Any dy42 []) := upd_same
  generalize upd (upd J62 dy42 (.own y42)) y42 (.ins a.Any dy42 []) = J63 at *
  have Fy42 : (.any : Tr).Fit (fc a) J63 (.ref y42) := by rw [Tr.Fit]; exact ⟨y42, dy42, rfl, ey42⟩
  walk_at "w0"
  refine ⟨sz8 (by first | decide | (simp only [List.length_cons, List.length_nil]; decide)), fun t43 ht43 => ?_⟩
  have St43 := same_new ht43 (.tup [(.ref m41), (.ref y42)])
  have et43 : upd J63 t43 (.tup [(.ref m41), (.ref y42)]) t43 = some (.tup [(.ref m41), (.ref y42)]) := upd_same
  generalize upd J63 t43 (.tup [(.ref m41), (.ref y42)]) = J64 at *
  walk_at "w0"
  refine ⟨sz8 (by first | decide | (simp only [List.length_cons, List.length_nil]; decide)), fun l44 hl44 => ?_⟩
  have Sl44 := same_new hl44 (.lst [.ref t38, .ref t43])
  have el44 : upd J64 l44 (.lst [.ref t38, .ref t43]) l44 = some (.lst [.ref t38, .ref t43]) := upd_same
  generalize upd J64 l44 (.lst [.ref t38, .ref t43]) = J65 at *
  walk_at "w0"
  refine ⟨c29, l44, _, _, rfl, rfl, ((Sl30.trans (Sm31.trans (Sn32.trans (Sn33.trans (Sn34.trans (Sn35.trans (Sl36.trans (Sm37.trans (St38.trans (Sn39.trans (Sl40.trans (Sm41.trans (Sy42.trans (St43.trans Sl44)))))))))))))) _ _ c29_50), el44, sz8 (by first | decide | (simp only [List.length_cons, List.length_nil]; decide)), fun c45 hc45 => ?_⟩
  have Sc45 := same_new hc45 (.lst ([.ref t3, .ref t6, .ref t9, .ref t14, .ref t19, .ref t27] ++ [.ref t38, .ref t43]))
  have ec45 : upd J65 c45 (.lst ([.ref t3, .ref t6, .ref t9, .ref t14, .ref t19, .ref t27] ++ [.ref t38, .ref t43])) c45 = some (.lst ([.ref t3, .ref t6, .ref t9, .ref t14, .ref t19, .ref t27] ++ [.ref t38, .ref t43])) := upd_same
  generalize upd J65 c45 (.lst ([.ref t3, .ref t6, .ref t9, .ref t14, .ref t19, .ref t27] ++ [.ref t38, .ref t43])) = J66 at *
  have Pt38 : PrAt a J66 (.ref t38) := ⟨t38, _, _, (.not (.either (.cons ta (.cons tb (.cons tc .nil))))), (.both (.cons (.not ta) (.cons (.not tb) (.cons (.not tc) .nil)))), rfl, ((Sn39.trans (Sl40.trans (Sm41.trans (Sy42.trans (St43.trans (Sl44.trans Sc45)))))) _ _ et38), (Fn32.same (Sn33.trans (Sn34.trans (Sn35.trans (Sl36.trans (Sm37.trans (St38.trans (Sn39.trans (Sl40.trans (Sm41.trans (Sy42.trans (St43.trans (Sl44.trans Sc45))))))))))))), (Fm37.same (St38.trans (Sn39.trans (Sl40.trans (Sm41.trans (Sy42.trans (St43.trans (Sl44.trans Sc45)))))))), (by simp [Tr.ok, Trs.ok, Trs.toL, oa, ob, oc]), (by simp [Tr.ok, Trs.ok, Trs.toL, oa, ob, oc]), (by simp only [Tr.dp, Trs.dp]; omega), (by simp only [Tr.dp, Trs.dp]; omega), (fun k p w => by simp only [Tr.ev, Trs.ev, List.all_cons, List.all_nil, List.any_cons, List.any_nil, id]; cases ta.ev k p w <;> cases tb.ev k p w <;> cases tc.ev k p w <;> rfl)⟩
  have Pt43 : PrAt a J66 (.ref t43) := ⟨t43, _, _, (.either (.cons ta (.cons (.not ta) .nil))), .any, rfl, ((Sl44.trans Sc45) _ _ et43), (Fm41.same (Sy42.trans (St43.trans (Sl44.trans Sc45)))), (Fy42.same (St43.trans (Sl44.trans Sc45))), (by simp [Tr.ok, Trs.ok, Trs.toL, oa, ob, oc]), (by simp [Tr.ok, Trs.ok, Trs.toL, oa, ob, oc]), (by simp only [Tr.dp, Trs.dp]; omega), (by simp only [Tr.dp, Trs.dp]; omega), (fun k p w => by simp only [Tr.ev, Trs.ev, List.all_cons, List.all_nil, List.any_cons, List.any_nil, id]; cases ta.ev k p w <;> cases tb.ev k p w <;> cases tc.ev k p w <;> rfl)⟩
  have ee : ([.ref t3, .ref t6, .ref t9, .ref t14, .ref t19, .ref t27] ++ [.ref t38, .ref t43] : List V) = [.ref t3, .ref t6, .ref t9, .ref t14, .ref t19, .ref t27, .ref t38, .ref t43] := rfl
  rw [ee] at ec45
  clear ee
  have Z67 := (Z40.trans (Sl30.trans (Sm31.trans (Sn32.trans (Sn33.trans (Sn34.trans (Sn35.trans (Sl36.trans (Sm37.trans (St38.trans (Sn39.trans (Sl40.trans (Sm41.trans (Sy42.trans (St43.trans (Sl44.trans Sc45))))))))))))))))
  have G68 := (G41.same (Sl30.trans (Sm31.trans (Sn32.trans (Sn33.trans (Sn34.trans (Sn35.trans (Sl36.trans (Sm37.trans (St38.trans (Sn39.trans (Sl40.trans (Sm41.trans (Sy42.trans (St43.trans (Sl44.trans Sc45))))))))))))))))
  have G69 := (G42.same (Sl30.trans (Sm31.trans (Sn32.trans (Sn33.trans (Sn34.trans (Sn35.trans (Sl36.trans (Sm37.trans (St38.trans (Sn39.trans (Sl40.trans (Sm41.trans (Sy42.trans (St43.trans (Sl44.trans Sc45))))))))))))))))
  have G70 := (G43.same (Sl30.trans (Sm31.trans (Sn32.trans (Sn33.trans (Sn34.trans (Sn35.trans (Sl36.trans (Sm37.trans (St38.trans (Sn39.trans (Sl40.trans (Sm41.trans (Sy42.trans (St43.trans (Sl44.trans Sc45))))))))))))))))
  have G71 := (G44.same (Sl30.trans (Sm31.trans (Sn32.trans (Sn33.trans (Sn34.trans (Sn35.trans (Sl36.trans (Sm37.trans (St38.trans (Sn39.trans (Sl40.trans (Sm41.trans (Sy42.trans (St43.trans (Sl44.trans Sc45))))))))))))))))
  have G72 := (G45.same (Sl30.trans (Sm31.trans (Sn32.trans (Sn33.trans (Sn34.trans (Sn35.trans (Sl36.trans (Sm37.trans (St38.trans (Sn39.trans (Sl40.trans (Sm41.trans (Sy42.trans (St43.trans (Sl44.trans Sc45))))))))))))))))
  have G73 := (G46.same (Sl30.trans (Sm31.trans (Sn32.trans (Sn33.trans (Sn34.trans (Sn35.trans (Sl36.trans (Sm37.trans (St38.trans (Sn39.trans (Sl40.trans (Sm41.trans (Sy42.trans (St43.trans (Sl44.trans Sc45))))))))))))))))
  have G74 := (G47.same (Sl30.trans (Sm31.trans (Sn32.trans (Sn33.trans (Sn34.trans (Sn35.trans (Sl36.trans (Sm37.trans (St38.trans (Sn39.trans (Sl40.trans (Sm41.trans (Sy42.trans (St43.trans (Sl44.trans Sc45))))))))))))))))
  have G75 := (G48.same (Sl30.trans (Sm31.trans (Sn32.trans (Sn33.trans (Sn34.trans (Sn35.trans (Sl36.trans (Sm37.trans (St38.trans (Sn39.trans (Sl40.trans (Sm41.trans (Sy42.trans (St43.trans (Sl44.trans Sc45))))))))))))))))
  have G76 := (G49.same (Sl30.trans (Sm31.trans (Sn32.trans (Sn33.trans (Sn34.trans (Sn35.trans (Sl36.trans (Sm37.trans (St38.trans (Sn39.trans (Sl40.trans (Sm41.trans (Sy42.trans (St43.trans (Sl44.trans Sc45))))))))))))))))
  have G77 := Pt38
  have G78 := Pt43
  have c45_79 := ec45
  clear Z40 Sl30 Sm31 Sn32 Sn33 Sn34 Sn35 Sl36 Sm37 St38 Sn39 Sl40 Sm41 Sy42 St43 Sl44 Sc45
  walk_at "w0"
  first | rw [w_hold] | (dsimp only; rw [w_hold])
  walk_at "w0"
  intro n46 dn46 hn46 hdn46 nen46
  have Mn46 := made_same (o := .own n46) (o' := .ins a.Not dn46 []) hn46 hdn46
  refine ⟨n46, dn46, vb, tb, rfl, upd_same, G69.same Mn46, ?_⟩
  have Sn46 : Same J66 (upd (upd (upd J66 dn46 (.own n46)) n46 (.ins a.Not dn46 [])) n46 (.ins a.Not dn46 [("fit", vb)])) := fun b o e => by rw [upd_ne (ne_of_none e hn46)]; exact Mn46 b o e
  have en46 : upd (upd (upd J66 dn46 (.own n46)) n46 (.ins a.Not dn46 [])) n46 (.ins a.Not dn46 [("fit", vb)]) n46 = some (.ins a.Not dn46 [("fit", vb)]) := upd_same
  generalize upd (upd (upd J66 dn46 (.own n46)) n46 (.ins a.Not dn46 [])) n46 (.ins a.Not dn46 [("fit", vb)]) = J80 at *
  have Fn46 : ((.not tb) : Tr).Fit (fc a) J80 (.ref n46) := by rw [Tr.Fit]; exact ⟨n46, dn46, vb, rfl, en46, (G69.same Sn46)⟩
  walk_at "w0"
  refine ⟨sz8 (by first | decide | (simp only [List.length_cons, List.length_nil]; decide)), fun l47 hl47 => ?_⟩
  have Sl47 := same_new hl47 (.lst [(.ref n46), vb])
  have el47 : upd J80 l47 (.lst [(.ref n46), vb]) l47 = some (.lst [(.ref n46), vb]) := upd_same
  generalize upd J80 l47 (.lst [(.ref n46), vb]) = J81 at *
  walk_at "w0"
  intro m48 dm48 hm48 hdm48 nem48
  have Mm48 := made_same (o := .own m48) (o' := .ins a.Both dm48 []) hm48 hdm48
  refine ⟨m48, dm48, l47, [(.ref n46), vb], [(.not tb), tb], rfl, upd_same, Mm48 _ _ el47, (.cons ((Fn46.same Sl47).same Mm48) (.cons ((G69.same (Sn46.trans Sl47)).same Mm48) .nil)), (by simp only [List.length_cons, List.length_nil]; decide), (by simp only [List.length_cons, List.length_nil]; decide), fun lm48 J82 Bm48 elm48 em48 => ?_⟩
  have Sm48 := made_but hm48 hdm48 Bm48
  have Fm48 : ((.both (.cons (.not tb) (.cons tb .nil))) : Tr).Fit (fc a) J82 (.ref m48) := by rw [Tr.Fit]; exact ⟨m48, dm48, lm48, [(.ref n46), vb], rfl, em48, elm48, trs_fit.mpr (.cons ((Fn46.same (Sl47.trans Sm48))) (.cons ((G69.same (Sn46.trans (Sl47.trans Sm48)))) .nil))⟩
  walk_at "w0"
  intro y49 dy49 hy49 hdy49 ney49
  have Sy49 := made_same (o := .own y49) (o' := .ins a.Any dy49 []) hy49 hdy49
  have ey49 : upd (upd J82 dy49 (.own y49)) y49 (.ins a.Any dy49 []) y49 = some (.ins a.Any dy49 []) := upd_same
  generalize upd (upd J82 dy49 (.own y49)) y49 (.ins a.Any dy49 []) = J83 at *
  have Fy49 : (.any : Tr).Fit (fc a) J83 (.ref y49) := by rw [Tr.Fit]; exact ⟨y49, dy49, rfl, ey49⟩
  walk_at "w0"
  intro n50 dn50 hn50 hdn50 nen50
  have Mn50 := made_same (o := .own n50) (o' := .ins a.Not dn50 []) hn50 hdn50
  refine ⟨n50, dn50, (.ref y49), .any, rfl, upd_same, Fy49.same Mn50, ?_⟩
  have Sn50 : Same J83 (upd (upd (upd J83 dn50 (.own n50)) n50 (.ins a.Not dn50 [])) n50 (.ins a.Not dn50 [("fit", (.ref y49))])) := fun b o e => by rw [upd_ne (ne_of_none e hn50)]; exact Mn50 b o e
  have en50 : upd (upd (upd J83 dn50 (.own n50)) n50 (.ins a.Not dn50 [])) n50 (.ins a.Not dn50 [("fit", (.ref y49))]) n50 = some (.ins a.Not dn50 [("fit", (.ref y49))]) := upd_same
  generalize upd (upd (upd J83 dn50 (.own n50)) n50 (.ins a.Not dn50 [])) n50 (.ins a.Not dn50 [("fit", (.ref y49))]) = J84 at *
  have Fn50 : ((.not .any) : Tr).Fit (fc a) J84 (.ref n50) := by rw [Tr.Fit]; exact ⟨n50, dn50, (.ref y49), rfl, en50, (Fy49.same Sn50)⟩
  walk_at "w0"
  refine ⟨sz8 (by first | decide | (simp only [List.length_cons, List.length_nil]; decide)), fun t51 ht51 => ?_⟩
  have St51 := same_new ht51 (.tup [(.ref m48), (.ref n50)])
  have et51 : upd J84 t51 (.tup [(.ref m48), (.ref n50)]) t51 = some (.tup [(.ref m48), (.ref n50)]) := upd_same
  generalize upd J84 t51 (.tup [(.ref m48), (.ref n50)]) = J85 at *
  walk_at "w0"
  refine ⟨sz8 (by first | decide | (simp only [List.length_cons, List.length_nil]; decide)), fun l52 hl52 => ?_⟩
  have Sl52 := same_new hl52 (.lst [vb, vc])
  have el52 : upd J85 l52 (.lst [vb, vc]) l52 = some (.lst [vb, vc]) := upd_same
  generalize upd J85 l52 (.lst [vb, vc]) = J86 at *
  walk_at "w0"
  intro m53 dm53 hm53 hdm53 nem53
  have Mm53 := made_same (o := .own m53) (o' := .ins a.Either dm53 []) hm53 hdm53
  refine ⟨m53, dm53, l52, [vb, vc], [tb, tc], rfl, upd_same, Mm53 _ _ el52, (.cons ((G69.same (Sn46.trans (Sl47.trans (Sm48.trans (Sy49.trans (Sn50.trans (St51.trans Sl52))))))).same Mm53) (.cons ((G70.same (Sn46.trans (Sl47.trans (Sm48.trans (Sy49.trans (Sn50.trans (St51.trans Sl52))))))).same Mm53) .nil)), (by simp only [List.length_cons, List.length_nil]; decide), (by simp only [List.length_cons, List.length_nil]; decide), fun lm53 J87 Bm53 elm53 em53 => ?_⟩
  have Sm53 := made_but hm53 hdm53 Bm53
  have Fm53 : ((.either (.cons tb (.cons tc .nil))) : Tr).Fit (fc a) J87 (.ref m53) := by rw [Tr.Fit]; exact ⟨m53, dm53, lm53, [vb, vc], rfl, em53, elm53, trs_fit.mpr (.cons ((G69.same (Sn46.trans (Sl47.trans (Sm48.trans (Sy49.trans (Sn50.trans (St51.trans (Sl52.trans Sm53))))))))) (.cons ((G70.same (Sn46.trans (Sl47.trans (Sm48.trans (Sy49.trans (Sn50.trans (St51.trans (Sl52.trans Sm53))))))))) .nil))⟩
  walk_at "w0"
  refine ⟨sz8 (by first | decide | (simp only [List.length_cons, List.length_nil]; decide)), fun l54 hl54 => ?_⟩
  have Sl54 := same_new hl54 (.lst [va, (.ref m53)])
  have el54 : upd J87 l54 (.lst [va, (.ref m53)]) l54 = some (.lst [va, (.ref m53)]) := upd_same
  generalize upd J87 l54 (.lst [va, (.ref m53)]) = J88 at *
  walk_at "w0"
  intro m55 dm55 hm55 hdm55 nem55
  have Mm55 := made_same (o := .own m55) (o' := .ins a.Both dm55 []) hm55 hdm55
  refine ⟨m55, dm55, l54, [va, (.ref m53)], [ta, (.either (.cons tb (.cons tc .nil)))], rfl, upd_same, Mm55 _ _ el54, (.cons ((G68.same (Sn46.trans (Sl47.trans (Sm48.trans (Sy49.trans (Sn50.trans (St51.trans (Sl52.trans (Sm53.trans Sl54))))))))).same Mm55) (.cons ((Fm53.same Sl54).same Mm55) .nil)), (by simp only [List.length_cons, List.length_nil]; decide), (by simp only [List.length_cons, List.length_nil]; decide), fun lm55 J89 Bm55 elm55 em55 => ?_⟩
  have Sm55 := made_but hm55 hdm55 Bm55
  have Fm55 : ((.both (.cons ta (.cons (.either (.cons tb (.cons tc .nil))) .nil))) : Tr).Fit (fc a) J89 (.ref m55) := by rw [Tr.Fit]; exact ⟨m55, dm55, lm55, [va, (.ref m53)], rfl, em55, elm55, trs_fit.mpr (.cons ((G68.same (Sn46.trans (Sl47.trans (Sm48.trans (Sy49.trans (Sn50.trans (St51.trans (Sl52.trans (Sm53.trans (Sl54.trans Sm55))))))))))) (.cons ((Fm53.same (Sl54.trans Sm55))) .nil))⟩
  walk_at "w0"
  refine ⟨sz8 (by first | decide | (simp only [List.length_cons, List.length_nil]; decide)), fun l56 hl56 => ?_⟩
  have Sl56 := same_new hl56 (.lst [va, vb])
  have el56 : upd J89 l56 (.lst [va, vb]) l56 = some (.lst [va, vb]) := upd_same
  generalize upd J89 l56 (.lst [va, vb]) = J90 at *
  walk_at "w0"
  intro m57 dm57 hm57 hdm57 nem57
  have Mm57 := made_same (o := .own m57) (o' := .ins a.Both dm57 []) hm57 hdm57
  refine ⟨m57, dm57, l56, [va, vb], [ta, tb], rfl, upd_same, Mm57 _ _ el56, (.cons ((G68.same (Sn46.trans (Sl47.trans (Sm48.trans (Sy49.trans (Sn50.trans (St51.trans (Sl52.trans (Sm53.trans (Sl54.trans (Sm55.trans Sl56))))))))))).same Mm57) (.cons ((G69.same (Sn46.trans (Sl47.trans (Sm48.trans (Sy49.trans (Sn50.trans (St51.trans (Sl52.trans (Sm53.trans (Sl54.trans (Sm55.trans Sl56))))))))))).same Mm57) .nil)), (by simp only [List.length_cons, List.length_nil]; decide), (by simp only [List.length_cons, List.length_nil]; decide), fun lm57 J91 Bm57 elm57 em57 => ?_⟩
  have Sm57 := made_but hm57 hdm57 Bm57
  have Fm57 : ((.both (.cons ta (.cons tb .nil))) : Tr).Fit (fc a) J91 (.ref m57) := by rw [Tr.Fit]; exact ⟨m57, dm57, lm57, [va, vb], rfl, em57, elm57, trs_fit.mpr (.cons ((G68.same (Sn46.trans (Sl47.trans (Sm48.trans (Sy49.trans (Sn50.trans (St51.trans (Sl52.trans (Sm53.trans (Sl54.trans (Sm55.trans (Sl56.trans Sm57))))))))))))) (.cons ((G69.same (Sn46.trans (Sl47.trans (Sm48.trans (Sy49.trans (Sn50.trans (St51.trans (Sl52.trans (Sm53.trans (Sl54.trans (Sm55.trans (Sl56.trans Sm57))))))))))))) .nil))⟩
  walk_at "w0"
  refine ⟨sz8 (by first | decide | (simp only [List.length_cons, List.length_nil]; decide)), fun l58 hl58 => ?_⟩
  have Sl58 := same_new hl58 (.lst [va, vc])
  have el58 : upd J91 l58 (.lst [va, vc]) l58 = some (.lst [va, vc]) := upd_same
  generalize upd J91 l58 (.lst [va, vc]) = J92 at *
  walk_at "w0"
  intro m59 dm59 hm59 hdm59 nem59
  have Mm59 := made_same (o := .own m59) (o' := .ins a.Both dm59 []) hm59 hdm59
  refine ⟨m59, dm59, l58, [va, vc], [ta, tc], rfl, upd_same, Mm59 _ _ el58, (.cons ((G68.same (Sn46.trans (Sl47.trans (Sm48.trans (Sy49.trans (Sn50.trans (St51.trans (Sl52.trans (Sm53.trans (Sl54.trans (Sm55.trans (Sl56.trans (Sm57.trans Sl58))))))))))))).same Mm59) (.cons ((G70.same (Sn46.trans (Sl47.trans (Sm48.trans (Sy49.trans (Sn50.trans (St51.trans (Sl52.trans (Sm53.trans (Sl54.trans (Sm55.trans (Sl56.trans (Sm57.trans Sl58))))))))))))).same Mm59) .nil)), (by simp only [List.length_cons, List.length_nil]; decide), (by simp only [List.length_cons, List.length_nil]; decide), fun lm59 J93 Bm59 elm59 em59 => ?_⟩
  have Sm59 := made_but hm59 hdm59 Bm59
  have Fm59 : ((.both (.cons ta (.cons tc .nil))) : Tr).Fit (fc a) J93 (.ref m59) := by rw [Tr.Fit]; exact ⟨m59, dm59, lm59, [va, vc], rfl, em59, elm59, trs_fit.mpr (.cons ((G68.same (Sn46.trans (Sl47.trans (Sm48.trans (Sy49.trans (Sn50.trans (St51.trans (Sl52.trans (Sm53.trans (Sl54.trans (Sm55.trans (Sl56.trans (Sm57.trans (Sl58.trans Sm59))))))))))))))) (.cons ((G70.same (Sn46.trans (Sl47.trans (Sm48.trans (Sy49.trans (Sn50.trans (St51.trans (Sl52.trans (Sm53.trans (Sl54.trans (Sm55.trans (Sl56.trans (Sm57.trans (Sl58.trans Sm59))))))))))))))) .nil))⟩
  walk_at "w0"
  refine ⟨sz8 (by first | decide | (simp only [List.length_cons, List.length_nil]; decide)), fun l60 hl60 => ?_⟩
  have Sl60 := same_new hl60 (.lst [(.ref m57), (.ref m59)])
  have el60 : upd J93 l60 (.lst [(.ref m57), (.ref m59)]) l60 = some (.lst [(.ref m57), (.ref m59)]) := upd_same
  generalize upd J93 l60 (.lst [(.ref m57), (.ref m59)]) = J94 at *
  walk_at "w0"
  intro m61 dm61 hm61 hdm61 nem61
  have Mm61 := made_same (o := .own m61) (o' := .ins a.Either dm61 []) hm61 hdm61
  refine ⟨m61, dm61, l60, [(.ref m57), (.ref m59)], [(.both (.cons ta (.cons tb .nil))), (.both (.cons ta (.cons tc .nil)))], rfl, upd_same, Mm61 _ _ el60, (.cons ((Fm57.same (Sl58.trans (Sm59.trans Sl60))).same Mm61) (.cons ((Fm59.same Sl60).same Mm61) .nil)), (by simp only [List.length_cons, List.length_nil]; decide), (by simp only [List.length_cons, List.length_nil]; decide), fun lm61 J95 Bm61 elm61 em61 => ?_⟩
  have Sm61 := made_but hm61 hdm61 Bm61
  have Fm61 : ((.either (.cons (.both (.cons ta (.cons tb .nil))) (.cons (.both (.cons ta (.cons tc .nil))) .nil))) : Tr).Fit (fc a) J95 (.ref m61) := by rw [Tr.Fit]; exact ⟨m61, dm61, lm61, [(.ref m57), (.ref m59)], rfl, em61, elm61, trs_fit.mpr (.cons ((Fm57.same (Sl58.trans (Sm59.trans (Sl60.trans Sm61))))) (.cons ((Fm59.same (Sl60.trans Sm61))) .nil))⟩
  walk_at "w0"
  refine ⟨sz8 (by first | decide | (simp only [List.length_cons, List.length_nil]; decide)), fun t62 ht62 => ?_⟩
  have St62 := same_new ht62 (.tup [(.ref m55), (.ref m61)])
  have et62 : upd J95 t62 (.tup [(.ref m55), (.ref m61)]) t62 = some (.tup [(.ref m55), (.ref m61)]) := upd_same
  generalize upd J95 t62 (.tup [(.ref m55), (.ref m61)]) = J96 at *
  walk_at "w0"
  refine ⟨sz8 (by first | decide | (simp only [List.length_cons, List.length_nil]; decide)), fun l63 hl63 => ?_⟩
  have Sl63 := same_new hl63 (.lst [.ref t51, .ref t62])
  have el63 : upd J96 l63 (.lst [.ref t51, .ref t62]) l63 = some (.lst [.ref t51, .ref t62]) := upd_same
  generalize upd J96 l63 (.lst [.ref t51, .ref t62]) = J97 at *
  walk_at "w0"
  refine ⟨c45, l63, _, _, rfl, rfl, ((Sn46.trans (Sl47.trans (Sm48.trans (Sy49.trans (Sn50.trans (St51.trans (Sl52.trans (Sm53.trans (Sl54.trans (Sm55.trans (Sl56.trans (Sm57.trans (Sl58.trans (Sm59.trans (Sl60.trans (Sm61.trans (St62.trans Sl63))))))))))))))))) _ _ c45_79), el63, sz8 (by first | decide | (simp only [List.length_cons, List.length_nil]; decide)), fun c64 hc64 => ?_⟩
  have Sc64 := same_new hc64 (.lst ([.ref t3, .ref t6, .ref t9, .ref t14, .ref t19, .ref t27, .ref t38, .ref t43] ++ [.ref t51, .ref t62]))
  have ec64 : upd J97 c64 (.lst ([.ref t3, .ref t6, .ref t9, .ref t14, .ref t19, .ref t27, .ref t38, .ref t43] ++ [.ref t51, .ref t62])) c64 = some (.lst ([.ref t3, .ref t6, .ref t9, .ref t14, .ref t19, .ref t27, .ref t38, .ref t43] ++ [.ref t51, .ref t62])) := upd_same
  generalize upd J97 c64 (.lst ([.ref t3, .ref t6, .ref t9, .ref t14, .ref t19, .ref t27, .ref t38, .ref t43] ++ [.ref t51, .ref t62])) = J98 at *
  have Pt51 : PrAt a J98 (.ref t51) := ⟨t51, _, _, (.both (.cons (.not tb) (.cons tb .nil))), (.not .any), rfl, ((Sl52.trans (Sm53.trans (Sl54.trans (Sm55.trans (Sl56.trans (Sm57.trans (Sl58.trans (Sm59.trans (Sl60.trans (Sm61.trans (St62.trans (Sl63.trans Sc64)))))))))))) _ _ et51), (Fm48.same (Sy49.trans (Sn50.trans (St51.trans (Sl52.trans (Sm53.trans (Sl54.trans (Sm55.trans (Sl56.trans (Sm57.trans (Sl58.trans (Sm59.trans (Sl60.trans (Sm61.trans (St62.trans (Sl63.trans Sc64)))))))))))))))), (Fn50.same (St51.trans (Sl52.trans (Sm53.trans (Sl54.trans (Sm55.trans (Sl56.trans (Sm57.trans (Sl58.trans (Sm59.trans (Sl60.trans (Sm61.trans (St62.trans (Sl63.trans Sc64)))))))))))))), (by simp [Tr.ok, Trs.ok, Trs.toL, oa, ob, oc]), (by simp [Tr.ok, Trs.ok, Trs.toL, oa, ob, oc]), (by simp only [Tr.dp, Trs.dp]; omega), (by simp only [Tr.dp, Trs.dp]; omega), (fun k p w => by simp only [Tr.ev, Trs.ev, List.all_cons, List.all_nil, List.any_cons, List.any_nil, id]; cases ta.ev k p w <;> cases tb.ev k p w <;> cases tc.ev k p w <;> rfl)⟩
  have Pt62 : PrAt a J98 (.ref t62) := ⟨t62, _, _, (.both (.cons ta (.cons (.either (.cons tb (.cons tc .nil))) .nil))), (.either (.cons (.both (.cons ta (.cons tb .nil))) (.cons (.both (.cons ta (.cons tc .nil))) .nil))), rfl, ((Sl63.trans Sc64) _ _ et62), (Fm55.same (Sl56.trans (Sm57.trans (Sl58.trans (Sm59.trans (Sl60.trans (Sm61.trans (St62.trans (Sl63.trans Sc64))))))))), (Fm61.same (St62.trans (Sl63.trans Sc64))), (by simp [Tr.ok, Trs.ok, Trs.toL, oa, ob, oc]), (by simp [Tr.ok, Trs.ok, Trs.toL, oa, ob, oc]), (by simp only [Tr.dp, Trs.dp]; omega), (by simp only [Tr.dp, Trs.dp]; omega), (fun k p w => by simp only [Tr.ev, Trs.ev, List.all_cons, List.all_nil, List.any_cons, List.any_nil, id]; cases ta.ev k p w <;> cases tb.ev k p w <;> cases tc.ev k p w <;> rfl)⟩
  have ee : ([.ref t3, .ref t6, .ref t9, .ref t14, .ref t19, .ref t27, .ref t38, .ref t43] ++ [.ref t51, .ref t62] : List V) = [.ref t3, .ref t6, .ref t9, .ref t14, .ref t19, .ref t27, .ref t38, .ref t43, .ref t51, .ref t62] := rfl
  rw [ee] at ec64
  clear ee
  have Z99 := (Z67.trans (Sn46.trans (Sl47.trans (Sm48.trans (Sy49.trans (Sn50.trans (St51.trans (Sl52.trans (Sm53.trans (Sl54.trans (Sm55.trans (Sl56.trans (Sm57.trans (Sl58.trans (Sm59.trans (Sl60.trans (Sm61.trans (St62.trans (Sl63.trans Sc64)))))))))))))))))))
  have G100 := (G68.same (Sn46.trans (Sl47.trans (Sm48.trans (Sy49.trans (Sn50.trans (St51.trans (Sl52.trans (Sm53.trans (Sl54.trans (Sm55.trans (Sl56.trans (Sm57.trans (Sl58.trans (Sm59.trans (Sl60.trans (Sm61.trans (St62.trans (Sl63.trans Sc64)))))))))))))))))))
  have G101 := (G69.same (Sn46.trans (Sl47.trans (Sm48.trans (Sy49.trans (Sn50.trans (St51.trans (Sl52.trans (Sm53.trans (Sl54.trans (Sm55.trans (Sl56.trans (Sm57.trans (Sl58.trans (Sm59.trans (Sl60.trans (Sm61.trans (St62.trans (Sl63.trans Sc64)))))))))))))))))))
  have G102 := (G70.same (Sn46.trans (Sl47.trans (Sm48.trans (Sy49.trans (Sn50.trans (St51.trans (Sl52.trans (Sm53.trans (Sl54.trans (Sm55.trans (Sl56.trans (Sm57.trans (Sl58.trans (Sm59.trans (Sl60.trans (Sm61.trans (St62.trans (Sl63.trans Sc64)))))))))))))))))))
  have G103 := (G71.same (Sn46.trans (Sl47.trans (Sm48.trans (Sy49.trans (Sn50.trans (St51.trans (Sl52.trans (Sm53.trans (Sl54.trans (Sm55.trans (Sl56.trans (Sm57.trans (Sl58.trans (Sm59.trans (Sl60.trans (Sm61.trans (St62.trans (Sl63.trans Sc64)))))))))))))))))))
  have G104 := (G72.same (Sn46.trans (Sl47.trans (Sm48.trans (Sy49.trans (Sn50.trans (St51.trans (Sl52.trans (Sm53.trans (Sl54.trans (Sm55.trans (Sl56.trans (Sm57.trans (Sl58.trans (Sm59.trans (Sl60.trans (Sm61.trans (St62.trans (Sl63.trans Sc64)))))))))))))))))))
  have G105 := (G73.same (Sn46.trans (Sl47.trans (Sm48.trans (Sy49.trans (Sn50.trans (St51.trans (Sl52.trans (Sm53.trans (Sl54.trans (Sm55.trans (Sl56.trans (Sm57.trans (Sl58.trans (Sm59.trans (Sl60.trans (Sm61.trans (St62.trans (Sl63.trans Sc64)))))))))))))))))))
  have G106 := (G74.same (Sn46.trans (Sl47.trans (Sm48.trans (Sy49.trans (Sn50.trans (St51.trans (Sl52.trans (Sm53.trans (Sl54.trans (Sm55.trans (Sl56.trans (Sm57.trans (Sl58.trans (Sm59.trans (Sl60.trans (Sm61.trans (St62.trans (Sl63.trans Sc64)))))))))))))))))))
  have G107 := (G75.same (Sn46.trans (Sl47.trans (Sm48.trans (Sy49.trans (Sn50.trans (St51.trans (Sl52.trans (Sm53.trans (Sl54.trans (Sm55.trans (Sl56.trans (Sm57.trans (Sl58.trans (Sm59.trans (Sl60.trans (Sm61.trans (St62.trans (Sl63.trans Sc64)))))))))))))))))))
  have G108 := (G76.same (Sn46.trans (Sl47.trans (Sm48.trans (Sy49.trans (Sn50.trans (St51.trans (Sl52.trans (Sm53.trans (Sl54.trans (Sm55.trans (Sl56.trans (Sm57.trans (Sl58.trans (Sm59.trans (Sl60.trans (Sm61.trans (St62.trans (Sl63.trans Sc64)))))))))))))))))))
  have G109 := (G77.same (Sn46.trans (Sl47.trans (Sm48.trans (Sy49.trans (Sn50.trans (St51.trans (Sl52.trans (Sm53.trans (Sl54.trans (Sm55.trans (Sl56.trans (Sm57.trans (Sl58.trans (Sm59.trans (Sl60.trans (Sm61.trans (St62.trans (Sl63.trans Sc64)))))))))))))))))))
  have G110 := (G78.same (Sn46.trans (Sl47.trans (Sm48.trans (Sy49.trans (Sn50.trans (St51.trans (Sl52.trans (Sm53.trans (Sl54.trans (Sm55.trans (Sl56.trans (Sm57.trans (Sl58.trans (Sm59.trans (Sl60.trans (Sm61.trans (St62.trans (Sl63.trans Sc64)))))))))))))))))))
  have G111 := Pt51
  have G112 := Pt62
  have c64_113 := ec64
  clear Z67 Sn46 Sl47 Sm48 Sy49 Sn50 St51 Sl52 Sm53 Sl54 Sm55 Sl56 Sm57 Sl58 Sm59 Sl60 Sm61 St62 Sl63 Sc64
  walk_at "w0"
  first | refine hold_ret ?_ | (dsimp only; refine hold_ret ?_)
  walk_at "w0"
  intro y65 dy65 hy65 hdy65 ney65
  have Sy65 := made_same (o := .own y65) (o' := .ins a.Any dy65 []) hy65 hdy65
  have ey65 : upd (upd J98 dy65 (.own y65)) y65 (.ins a.Any dy65 []) y65 = some (.ins a.Any dy65 []) := upd_same
  generalize upd (upd J98 dy65 (.own y65)) y65 (.ins a.Any dy65 []) = J114 at *
  have Fy65 : (.any : Tr).Fit (fc a) J114 (.ref y65) := by rw [Tr.Fit]; exact ⟨y65, dy65, rfl, ey65⟩
  walk_at "w0"
  refine ⟨sz8 (by first | decide | (simp only [List.length_cons, List.length_nil]; decide)), fun l66 hl66 => ?_⟩
  have Sl66 := same_new hl66 (.lst [(.ref y65), vc])
  have el66 : upd J114 l66 (.lst [(.ref y65), vc]) l66 = some (.lst [(.ref y65), vc]) := upd_same
  generalize upd J114 l66 (.lst [(.ref y65), vc]) = J115 at *
  walk_at "w0"
  intro m67 dm67 hm67 hdm67 nem67
  have Mm67 := made_same (o := .own m67) (o' := .ins a.Both dm67 []) hm67 hdm67
  refine ⟨m67, dm67, l66, [(.ref y65), vc], [.any, tc], rfl, upd_same, Mm67 _ _ el66, (.cons ((Fy65.same Sl66).same Mm67) (.cons ((G102.same (Sy65.trans Sl66)).same Mm67) .nil)), (by simp only [List.length_cons, List.length_nil]; decide), (by simp only [List.length_cons, List.length_nil]; decide), fun lm67 J116 Bm67 elm67 em67 => ?_⟩
  have Sm67 := made_but hm67 hdm67 Bm67
  have Fm67 : ((.both (.cons .any (.cons tc .nil))) : Tr).Fit (fc a) J116 (.ref m67) := by rw [Tr.Fit]; exact ⟨m67, dm67, lm67, [(.ref y65), vc], rfl, em67, elm67, trs_fit.mpr (.cons ((Fy65.same (Sl66.trans Sm67))) (.cons ((G102.same (Sy65.trans (Sl66.trans Sm67)))) .nil))⟩
  walk_at "w0"
  refine ⟨sz8 (by first | decide | (simp only [List.length_cons, List.length_nil]; decide)), fun t68 ht68 => ?_⟩
  have St68 := same_new ht68 (.tup [(.ref m67), vc])
  have et68 : upd J116 t68 (.tup [(.ref m67), vc]) t68 = some (.tup [(.ref m67), vc]) := upd_same
  generalize upd J116 t68 (.tup [(.ref m67), vc]) = J117 at *
  walk_at "w0"
  intro y69 dy69 hy69 hdy69 ney69
  have Sy69 := made_same (o := .own y69) (o' := .ins a.Any dy69 []) hy69 hdy69
  have ey69 : upd (upd J117 dy69 (.own y69)) y69 (.ins a.Any dy69 []) y69 = some (.ins a.Any dy69 []) := upd_same
  generalize upd (upd J117 dy69 (.own y69)) y69 (.ins a.Any dy69 []) = J118 at *
  have Fy69 : (.any : Tr).Fit (fc a) J118 (.ref y69) := by rw [Tr.Fit]; exact ⟨y69, dy69, rfl, ey69⟩
  walk_at "w0"
  intro n70 dn70 hn70 hdn70 nen70
  have Mn70 := made_same (o := .own n70) (o' := .ins a.Not dn70 []) hn70 hdn70
  refine ⟨n70, dn70, (.ref y69), .any, rfl, upd_same, Fy69.same Mn70, ?_⟩
  have Sn70 : Same J118 (upd (upd (upd J118 dn70 (.own n70)) n70 (.ins a.Not dn70 [])) n70 (.ins a.Not dn70 [("fit", (.ref y69))])) := fun b o e => by rw [upd_ne (ne_of_none e hn70)]; exact Mn70 b o e
  have en70 : upd (upd (upd J118 dn70 (.own n70)) n70 (.ins a.Not dn70 [])) n70 (.ins a.Not dn70 [("fit", (.ref y69))]) n70 = some (.ins a.Not dn70 [("fit", (.ref y69))]) := upd_same
  generalize upd (upd (upd J118 dn70 (.own n70)) n70 (.ins a.Not dn70 [])) n70 (.ins a.Not dn70 [("fit", (.ref y69))]) = J119 at *
  have Fn70 : ((.not .any) : Tr).Fit (fc a) J119 (.ref n70) := by rw [Tr.Fit]; exact ⟨n70, dn70, (.ref y69), rfl, en70, (Fy69.same Sn70)⟩
  walk_at "w0"
  refine ⟨sz8 (by first | decide | (simp only [List.length_cons, List.length_nil]; decide)), fun l71 hl71 => ?_⟩
  have Sl71 := same_new hl71 (.lst [vc, (.ref n70)])
  have el71 : upd J119 l71 (.lst [vc, (.ref n70)]) l71 = some (.lst [vc, (.ref n70)]) := upd_same
  generalize upd J119 l71 (.lst [vc, (.ref n70)]) = J120 at *
  walk_at "w0"
  intro m72 dm72 hm72 hdm72 nem72
  have Mm72 := made_same (o := .own m72) (o' := .ins a.Either dm72 []) hm72 hdm72
  refine ⟨m72, dm72, l71, [vc, (.ref n70)], [tc, (.not .any)], rfl, upd_same, Mm72 _ _ el71, (.cons ((G102.same (Sy65.trans (Sl66.trans (Sm67.trans (St68.trans (Sy69.trans (Sn70.trans Sl71))))))).same Mm72) (.cons ((Fn70.same Sl71).same Mm72) .nil)), (by simp only [List.length_cons, List.length_nil]; decide), (by simp only [List.length_cons, List.length_nil]; decide), fun lm72 J121 Bm72 elm72 em72 => ?_⟩
  have Sm72 := made_but hm72 hdm72 Bm72
  have Fm72 : ((.either (.cons tc (.cons (.not .any) .nil))) : Tr).Fit (fc a) J121 (.ref m72) := by rw [Tr.Fit]; exact ⟨m72, dm72, lm72, [vc, (.ref n70)], rfl, em72, elm72, trs_fit.mpr (.cons ((G102.same (Sy65.trans (Sl66.trans (Sm67.trans (St68.trans (Sy69.trans (Sn70.trans (Sl71.trans Sm72))))))))) (.cons ((Fn70.same (Sl71.trans Sm72))) .nil))⟩
  walk_at "w0"
  refine ⟨sz8 (by first | decide | (simp only [List.length_cons, List.length_nil]; decide)), fun t73 ht73 => ?_⟩
  have St73 := same_new ht73 (.tup [(.ref m72), vc])
  have et73 : upd J121 t73 (.tup [(.ref m72), vc]) t73 = some (.tup [(.ref m72), vc]) := upd_same
  generalize upd J121 t73 (.tup [(.ref m72), vc]) = J122 at *
  walk_at "w0"
  refine ⟨sz8 (by first | decide | (simp only [List.length_cons, List.length_nil]; decide)), fun l74 hl74 => ?_⟩
  have Sl74 := same_new hl74 (.lst [va, vb])
  have el74 : upd J122 l74 (.lst [va, vb]) l74 = some (.lst [va, vb]) := upd_same
  generalize upd J122 l74 (.lst [va, vb]) = J123 at *
  walk_at "w0"
  intro m75 dm75 hm75 hdm75 nem75
  have Mm75 := made_same (o := .own m75) (o' := .ins a.Both dm75 []) hm75 hdm75
  refine ⟨m75, dm75, l74, [va, vb], [ta, tb], rfl, upd_same, Mm75 _ _ el74, (.cons ((G100.same (Sy65.trans (Sl66.trans (Sm67.trans (St68.trans (Sy69.trans (Sn70.trans (Sl71.trans (Sm72.trans (St73.trans Sl74)))))))))).same Mm75) (.cons ((G101.same (Sy65.trans (Sl66.trans (Sm67.trans (St68.trans (Sy69.trans (Sn70.trans (Sl71.trans (Sm72.trans (St73.trans Sl74)))))))))).same Mm75) .nil)), (by simp only [List.length_cons, List.length_nil]; decide), (by simp only [List.length_cons, List.length_nil]; decide), fun lm75 J124 Bm75 elm75 em75 => ?_⟩
  have Sm75 := made_but hm75 hdm75 Bm75
  have Fm75 : ((.both (.cons ta (.cons tb .nil))) : Tr).Fit (fc a) J124 (.ref m75) := by rw [Tr.Fit]; exact ⟨m75, dm75, lm75, [va, vb], rfl, em75, elm75, trs_fit.mpr (.cons ((G100.same (Sy65.trans (Sl66.trans (Sm67.trans (St68.trans (Sy69.trans (Sn70.trans (Sl71.trans (Sm72.trans (St73.trans (Sl74.trans Sm75)))))))))))) (.cons ((G101.same (Sy65.trans (Sl66.trans (Sm67.trans (St68.trans (Sy69.trans (Sn70.trans (Sl71.trans (Sm72.trans (St73.trans (Sl74.trans Sm75)))))))))))) .nil))⟩
  walk_at "w0"
  refine ⟨sz8 (by first | decide | (simp only [List.length_cons, List.length_nil]; decide)), fun l76 hl76 => ?_⟩
  have Sl76 := same_new hl76 (.lst [va, (.ref m75)])
  have el76 : upd J124 l76 (.lst [va, (.ref m75)]) l76 = some (.lst [va, (.ref m75)]) := upd_same
  generalize upd J124 l76 (.lst [va, (.ref m75)]) = J125 at *
  walk_at "w0"
  intro m77 dm77 hm77 hdm77 nem77
  have Mm77 := made_same (o := .own m77) (o' := .ins a.Either dm77 []) hm77 hdm77
  refine ⟨m77, dm77, l76, [va, (.ref m75)], [ta, (.both (.cons ta (.cons tb .nil)))], rfl, upd_same, Mm77 _ _ el76, (.cons ((G100.same (Sy65.trans (Sl66.trans (Sm67.trans (St68.trans (Sy69.trans (Sn70.trans (Sl71.trans (Sm72.trans (St73.trans (Sl74.trans (Sm75.trans Sl76)))))))))))).same Mm77) (.cons ((Fm75.same Sl76).same Mm77) .nil)), (by simp only [List.length_cons, List.length_nil]; decide), (by simp only [List.length_cons, List.length_nil]; decide), fun lm77 J126 Bm77 elm77 em77 => ?_⟩
  have Sm77 := made_but hm77 hdm77 Bm77
  have Fm77 : ((.either (.cons ta (.cons (.both (.cons ta (.cons tb .nil))) .nil))) : Tr).Fit (fc a) J126 (.ref m77) := by rw [Tr.Fit]; exact ⟨m77, dm77, lm77, [va, (.ref m75)], rfl, em77, elm77, trs_fit.mpr (.cons ((G100.same (Sy65.trans (Sl66.trans (Sm67.trans (St68.trans (Sy69.trans (Sn70.trans (Sl71.trans (Sm72.trans (St73.trans (Sl74.trans (Sm75.trans (Sl76.trans Sm77)))))))))))))) (.cons ((Fm75.same (Sl76.trans Sm77))) .nil))⟩
  walk_at "w0"
  refine ⟨sz8 (by first | decide | (simp only [List.length_cons, List.length_nil]; decide)), fun t78 ht78 => ?_⟩
  have St78 := same_new ht78 (.tup [(.ref m77), va])
  have et78 : upd J126 t78 (.tup [(.ref m77), va]) t78 = some (.tup [(.ref m77), va]) := upd_same
  generalize upd J126 t78 (.tup [(.ref m77), va]) = J127 at *
  walk_at "w0"
  refine ⟨sz8 (by first | decide | (simp only [List.length_cons, List.length_nil]; decide)), fun l79 hl79 => ?_⟩
  have Sl79 := same_new hl79 (.lst [.ref t68, .ref t73, .ref t78])
  have el79 : upd J127 l79 (.lst [.ref t68, .ref t73, .ref t78]) l79 = some (.lst [.ref t68, .ref t73, .ref t78]) := upd_same
  generalize upd J127 l79 (.lst [.ref t68, .ref t73, .ref t78]) = J128 at *
  walk_at "w0"
  refine ⟨c64, l79, _, _, rfl, rfl, ((Sy65.trans (Sl66.trans (Sm67.trans (St68.trans (Sy69.trans (Sn70.trans (Sl71.trans (Sm72.trans (St73.trans (Sl74.trans (Sm75.trans (Sl76.trans (Sm77.trans (St78.trans Sl79)))))))))))))) _ _ c64_113), el79, sz8 (by first | decide | (simp only [List.length_cons, List.length_nil]; decide)), fun c80 hc80 => ?_⟩
  have Sc80 := same_new hc80 (.lst ([.ref t3, .ref t6, .ref t9, .ref t14, .ref t19, .ref t27, .ref t38, .ref t43, .ref t51, .ref t62] ++ [.ref t68, .ref t73, .ref t78]))
  have ec80 : upd J128 c80 (.lst ([.ref t3, .ref t6, .ref t9, .ref t14, .ref t19, .ref t27, .ref t38, .ref t43, .ref t51, .ref t62] ++ [.ref t68, .ref t73, .ref t78])) c80 = some (.lst ([.ref t3, .ref t6, .ref t9, .ref t14, .ref t19, .ref t27, .ref t38, .ref t43, .ref t51, .ref t62] ++ [.ref t68, .ref t73, .ref t78])) := upd_same
  generalize upd J128 c80 (.lst ([.ref t3, .ref t6, .ref t9, .ref t14, .ref t19, .ref t27, .ref t38, .ref t43, .ref t51, .ref t62] ++ [.ref t68, .ref t73, .ref t78])) = J129 at *
  have Pt68 : PrAt a J129 (.ref t68) := ⟨t68, _, _, (.both (.cons .any (.cons tc .nil))), tc, rfl, ((Sy69.trans (Sn70.trans (Sl71.trans (Sm72.trans (St73.trans (Sl74.trans (Sm75.trans (Sl76.trans (Sm77.trans (St78.trans (Sl79.trans Sc80))))))))))) _ _ et68), (Fm67.same (St68.trans (Sy69.trans (Sn70.trans (Sl71.trans (Sm72.trans (St73.trans (Sl74.trans (Sm75.trans (Sl76.trans (Sm77.trans (St78.trans (Sl79.trans Sc80))))))))))))), (G102.same (Sy65.trans (Sl66.trans (Sm67.trans (St68.trans (Sy69.trans (Sn70.trans (Sl71.trans (Sm72.trans (St73.trans (Sl74.trans (Sm75.trans (Sl76.trans (Sm77.trans (St78.trans (Sl79.trans Sc80)))))))))))))))), (by simp [Tr.ok, Trs.ok, Trs.toL, oa, ob, oc]), (by simp [Tr.ok, Trs.ok, Trs.toL, oa, ob, oc]), (by simp only [Tr.dp, Trs.dp]; omega), (by omega), (fun k p w => by simp only [Tr.ev, Trs.ev, List.all_cons, List.all_nil, List.any_cons, List.any_nil, id]; cases ta.ev k p w <;> cases tb.ev k p w <;> cases tc.ev k p w <;> rfl)⟩
  have Pt73 : PrAt a J129 (.ref t73) := ⟨t73, _, _, (.either (.cons tc (.cons (.not .any) .nil))), tc, rfl, ((Sl74.trans (Sm75.trans (Sl76.trans (Sm77.trans (St78.trans (Sl79.trans Sc80)))))) _ _ et73), (Fm72.same (St73.trans (Sl74.trans (Sm75.trans (Sl76.trans (Sm77.trans (St78.trans (Sl79.trans Sc80)))))))), (G102.same (Sy65.trans (Sl66.trans (Sm67.trans (St68.trans (Sy69.trans (Sn70.trans (Sl71.trans (Sm72.trans (St73.trans (Sl74.trans (Sm75.trans (Sl76.trans (Sm77.trans (St78.trans (Sl79.trans Sc80)))))))))))))))), (by simp [Tr.ok, Trs.ok, Trs.toL, oa, ob, oc]), (by simp [Tr.ok, Trs.ok, Trs.toL, oa, ob, oc]), (by simp only [Tr.dp, Trs.dp]; omega), (by omega), (fun k p w => by simp only [Tr.ev, Trs.ev, List.all_cons, List.all_nil, List.any_cons, List.any_nil, id]; cases ta.ev k p w <;> cases tb.ev k p w <;> cases tc.ev k p w <;> rfl)⟩
  have Pt78 : PrAt a J129 (.ref t78) := ⟨t78, _, _, (.either (.cons ta (.cons (.both (.cons ta (.cons tb .nil))) .nil))), ta, rfl, ((Sl79.trans Sc80) _ _ et78), (Fm77.same (St78.trans (Sl79.trans Sc80))), (G100.same (Sy65.trans (Sl66.trans (Sm67.trans (St68.trans (Sy69.trans (Sn70.trans (Sl71.trans (Sm72.trans (St73.trans (Sl74.trans (Sm75.trans (Sl76.trans (Sm77.trans (St78.trans (Sl79.trans Sc80)))))))))))))))), (by simp [Tr.ok, Trs.ok, Trs.toL, oa, ob, oc]), (by simp [Tr.ok, Trs.ok, Trs.toL, oa, ob, oc]), (by simp only [Tr.dp, Trs.dp]; omega), (by omega), (fun k p w => by simp only [Tr.ev, Trs.ev, List.all_cons, List.all_nil, List.any_cons, List.any_nil, id]; cases ta.ev k p w <;> cases tb.ev k p w <;> cases tc.ev k p w <;> rfl)⟩
  have ee : ([.ref t3, .ref t6, .ref t9, .ref t14, .ref t19, .ref t27, .ref t38, .ref t43, .ref t51, .ref t62] ++ [.ref t68, .ref t73, .ref t78] : List V) = [.ref t3, .ref t6, .ref t9, .ref t14, .ref t19, .ref t27, .ref t38, .ref t43, .ref t51, .ref t62, .ref t68, .ref t73, .ref t78] := rfl
  rw [ee] at ec80
  clear ee
  refine q c80 _ _ (Z99.trans (Sy65.trans (Sl66.trans (Sm67.trans (St68.trans (Sy69.trans (Sn70.trans (Sl71.trans (Sm72.trans (St73.trans (Sl74.trans (Sm75.trans (Sl76.trans (Sm77.trans (St78.trans (Sl79.trans Sc80)))))))))))))))) ec80 (by simp only [List.length_cons, List.length_nil]; decide) fun x hx => ?_
  simp only [List.mem_cons, List.not_mem_nil, or_false] at hx
  rcases hx with rfl | rfl | rfl | rfl | rfl | rfl | rfl | rfl | rfl | rfl | rfl | rfl | rfl
  · exact (G103.same (Sy65.trans (Sl66.trans (Sm67.trans (St68.trans (Sy69.trans (Sn70.trans (Sl71.trans (Sm72.trans (St73.trans (Sl74.trans (Sm75.trans (Sl76.trans (Sm77.trans (St78.trans (Sl79.trans Sc80))))))))))))))))
  · exact (G104.same (Sy65.trans (Sl66.trans (Sm67.trans (St68.trans (Sy69.trans (Sn70.trans (Sl71.trans (Sm72.trans (St73.trans (Sl74.trans (Sm75.trans (Sl76.trans (Sm77.trans (St78.trans (Sl79.trans Sc80))))))))))))))))
  · exact (G105.same (Sy65.trans (Sl66.trans (Sm67.trans (St68.trans (Sy69.trans (Sn70.trans (Sl71.trans (Sm72.trans (St73.trans (Sl74.trans (Sm75.trans (Sl76.trans (Sm77.trans (St78.trans (Sl79.trans Sc80))))))))))))))))
  · exact (G106.same (Sy65.trans (Sl66.trans (Sm67.trans (St68.trans (Sy69.trans (Sn70.trans (Sl71.trans (Sm72.trans (St73.trans (Sl74.trans (Sm75.trans (Sl76.trans (Sm77.trans (St78.trans (Sl79.trans Sc80))))))))))))))))
  · exact (G107.same (Sy65.trans (Sl66.trans (Sm67.trans (St68.trans (Sy69.trans (Sn70.trans (Sl71.trans (Sm72.trans (St73.trans (Sl74.trans (Sm75.trans (Sl76.trans (Sm77.trans (St78.trans (Sl79.trans Sc80))))))))))))))))
  · exact (G108.same (Sy65.trans (Sl66.trans (Sm67.trans (St68.trans (Sy69.trans (Sn70.trans (Sl71.trans (Sm72.trans (St73.trans (Sl74.trans (Sm75.trans (Sl76.trans (Sm77.trans (St78.trans (Sl79.trans Sc80))))))))))))))))
  · exact (G109.same (Sy65.trans (Sl66.trans (Sm67.trans (St68.trans (Sy69.trans (Sn70.trans (Sl71.trans (Sm72.trans (St73.trans (Sl74.trans (Sm75.trans (Sl76.trans (Sm77.trans (St78.trans (Sl79.trans Sc80))))))))))))))))
  · exact (G110.same (Sy65.trans (Sl66.trans (Sm67.trans (St68.trans (Sy69.trans (Sn70.trans (Sl71.trans (Sm72.trans (St73.trans (Sl74.trans (Sm75.trans (Sl76.trans (Sm77.trans (St78.trans (Sl79.trans Sc80))))))))))))))))
  · exact (G111.same (Sy65.trans (Sl66.trans (Sm67.trans (St68.trans (Sy69.trans (Sn70.trans (Sl71.trans (Sm72.trans (St73.trans (Sl74.trans (Sm75.trans (Sl76.trans (Sm77.trans (St78.trans (Sl79.trans Sc80))))))))))))))))
  · exact (G112.same (Sy65.trans (Sl66.trans (Sm67.trans (St68.trans (Sy69.trans (Sn70.trans (Sl71.trans (Sm72.trans (St73.trans (Sl74.trans (Sm75.trans (Sl76.trans (Sm77.trans (St78.trans (Sl79.trans Sc80))))))))))))))))
  · exact Pt68
  · exact Pt73
  · exact Pt78
theorem fresh_same {H H2 H' : Hp} {pw : Addr} (hpw : H pw = none) (S : Same H H2) (B : But pw H2 H') : Same H H' := fun b o e => B b o (ne_of_none e hpw) (S b o e)
theorem ok_law (B : Bt K mg a) (C_law_begin : CalX P w K mg base "_law_begin" ["_law_cell"] 1 (sp_law_begin K a)) (C_law_pairs : CalX P w K mg base "_law_pairs" ["_law_a", "_law_b", "_law_c"] 5 (sp_law_pairs K a)) (C_law_things : CalX P w K mg base "_law_things" ["_law_script", "_law_trees"] 5 (sp_law_things K a)) (C_law_cell_at : CalX P w K mg base "_law_cell_at" ["_law_script", "_law_k"] 1 (sp_law_cell_at K a)) (C_law_tree : CalX P w K mg base "_law_tree" ["_law_state", "_law_deep", "_law_more"] 6 (sp_law_tree K a 3)) (C_law_made : CalX P w K mg base "_law_made" ["_law_tree_here"] 8 (sp_law_made K a 3)) (CM_fits_it : ∀ C sp, Mm_fits_it K a 10 C sp → CalM P w K mg base C "fits_it" ["self", "happening"] 10 sp) (CC_Not : CalC P w K mg base "Not" a.Not ["self", "fit"] 2 (sp_Not___init__ K a)) (F : Fun K "law" "law" s_law f fd) : FnOk P w K mg base CX0 11 f fd ["_law_script"] (sp_law K a) := by
  refine F.ok sc_law (fun vs H Q E h => ?_) (fun cdv A outer s H vs Q E hr h => ?_)
  · obtain ⟨sc, ns, rfl, _⟩ := h
    rfl
  obtain ⟨sc, ns, rfl, hS, h63, q⟩ := h
  refine ⟨_, (pss_of (qss_hold (qss_cons (qs_set (i := 1) sc_law.nd rfl (Or.inl rfl) (qe_of (pe_calN C_law_begin (hr.mono (by decide)) rfl (pa_of (qa_c (pe_calN C_law_cell_at (hr.mono (by decide)) rfl (pa_of (qa_c (pv 0) (qa_c pe_int qa_nil))) (he := star_plain _ _ _ rfl) (hpl := plain_any rfl)) qa_nil)) (he := star_plain _ _ _ rfl) (hpl := plain_any rfl))) (by kernel_rfl)) (qss_hold (qss_cons (qs_set (i := 2) sc_law.nd rfl (Or.inl rfl) (qe_lst (qa_c (pe_calN C_law_tree (hr.mono (by decide)) rfl (pa_of (qa_c (pv 1) (qa_c pe_int (qa_c pe_int qa_nil)))) (he := star_plain _ _ _ rfl) (hpl := plain_any rfl)) (qa_c (pe_calN C_law_tree (hr.mono (by decide)) rfl (pa_of (qa_c (pv 1) (qa_c pe_int (qa_c pe_int qa_nil)))) (he := star_plain _ _ _ rfl) (hpl := plain_any rfl)) (qa_c (pe_calN C_law_tree (hr.mono (by decide)) rfl (pa_of (qa_c (pv 1) (qa_c pe_int (qa_c pe_int qa_nil)))) (he := star_plain _ _ _ rfl) (hpl := plain_any rfl)) qa_nil)))) (by kernel_rfl)) (qss_hold (qss_cons (qs_of (ps_asg (pe_compB ["_law_tree_here"] [none] rfl (by kernel_rfl) (pi_list (pv 2)) (fun cl C s H fp => ⟨(pg_name (i := 0) (by decide : List.Nodup (["_law_tree_here"] : List Str)) rfl (Or.inl (by kernel_rfl)) (Or.inr (by kernel_rfl))), pts_nil, (pe_calN C_law_made (hr.mono (by decide)) (gl_of (by kernel_rfl)) (pa_of (qa_c (pv 0 (hv := Or.inl (by kernel_rfl))) qa_nil)) (he := star_plain _ _ _ rfl) (hpl := plain_any rfl))⟩)) (pg_unl (n := 3) rfl (pgs_cons (pg_name (i := 3) sc_law.nd rfl (Or.inl rfl)) (pgs_cons (pg_name (i := 4) sc_law.nd rfl (Or.inl rfl)) (pgs_cons (pg_name (i := 5) sc_law.nd rfl (Or.inl rfl)) pgs_nil)))))) (qss_hold (qss_cons (qs_set (i := 6) sc_law.nd rfl (Or.inl rfl) (qe_of (pe_calN C_law_pairs (hr.mono (by decide)) rfl (pa_of (qa_c (pv 3) (qa_c (pv 4) (qa_c (pv 5) qa_nil)))) (he := star_plain _ _ _ rfl) (hpl := plain_any rfl))) (by kernel_rfl)) (qss_hold (qss_cons (qs_set (i := 7) sc_law.nd rfl (Or.inl rfl) (qe_of (pe_calN C_law_things (hr.mono (by decide)) rfl (pa_of (qa_c (pv 0) (qa_c (pv 2) qa_nil))) (he := star_plain _ _ _ rfl) (hpl := plain_any rfl))) (by kernel_rfl)) (qss_hold (qss_cons (qs_of (ps_for PassesOwn.never rfl (pi_list (pe_op op_cat (pv 7) (pe_rev (pv 7) (pe_un un_neg pe_int)))) (pg_name (i := 8) sc_law.nd rfl (Or.inl rfl)) (pss_of (qss_cons (qs_of (ps_for PassesOwn.never rfl (pi_list (pv 6)) (pg_tup (n := 2) rfl (pgs_cons (pg_name (i := 9) sc_law.nd rfl (Or.inl rfl)) (pgs_cons (pg_name (i := 10) sc_law.nd rfl (Or.inl rfl)) pgs_nil))) (pss_of (qss_cons (qs_set (i := 11) sc_law.nd rfl (Or.inl rfl) (qe_of (pe_methD (pv 9) CM_fits_it pass00 (hr.mono (by decide)) (pa_of (qa_c (pv 8) qa_nil)) (hst := star_plain _ _ _ rfl) (hpl := plain_any rfl))) (by kernel_rfl)) (qss_one (qs_if (L2.PW.pt (pw_or (pt_not (pt_val (pe_callB (isiG_at (K := K) (T := "bool") rfl) rfl B.isinstance PyProof.Rows.boot_isinstance (pa_of (qa_c (pv 11) (qa_c (pe_bltn (v := .ty "bool") rfl B.bool PyProof.Rows.boot_bool rfl) qa_nil))) (he := star_plain _ _ _ rfl) (hpl := plain_any rfl)))) (pw_or1 (pt_cmpR op_ne (pv 11) (pe_methD (pv 10) CM_fits_it pass00 (hr.mono (by decide)) (pa_of (qa_c (pv 8) qa_nil)) (hst := star_plain _ _ _ rfl) (hpl := plain_any rfl)) (nomark _))))) (qss_one (qs_ret (qe_of pe_bl))) qss_nil)))))) (qss_cons (qs_of (ps_for PassesOwn.never rfl (pi_list (pe_lst (pa_of (qa_c (pv 3) (qa_c (pv 4) (qa_c (pv 5) qa_nil)))))) (pg_name (i := 12) sc_law.nd rfl (Or.inl rfl)) (pss_of (qss_one (qs_if (pt_cmpR op_eq (pe_methD (pv 12) CM_fits_it pass00 (hr.mono (by decide)) (pa_of (qa_c (pv 8) qa_nil)) (hst := star_plain _ _ _ rfl) (hpl := plain_any rfl)) (pe_methD (pe_mak CC_Not pass00 (hr.mono (by decide)) rfl (pa_of (qa_c (pv 12) qa_nil)) (he := star_plain _ _ _ rfl) (hpl := plain_any rfl)) CM_fits_it pass00 (hr.mono (by decide)) (pa_of (qa_c (pv 8) qa_nil)) (hst := star_plain _ _ _ rfl) (hpl := plain_any rfl)) (nomark _)) (qss_one (qs_ret (qe_of pe_bl))) qss_nil))))) (qss_one (qs_if (pt_cmpR op_isnotB (pe_methD (pe_makN B.mk_Any rfl B.Any) CM_fits_it pass00 (hr.mono (by decide)) (pa_of (qa_c (pv 8) qa_nil)) (hst := star_plain _ _ _ rfl) (hpl := plain_any rfl)) pe_bl (nomark _)) (qss_one (qs_ret (qe_of pe_bl))) qss_nil))))))) (qss_hold (qss_one (qs_ret (qe_of pe_bl))))))))))))))))), ?_⟩
  walk_at "w0"
  first | rw [w_hold] | (dsimp only; rw [w_hold]) | skip
  walk_at "w0"
  refine ⟨sc, ns, 0, rfl, hS, by decide, fun c => ?_⟩
  walk_at "w0"
  refine ⟨c, rfl, fun pw wa wb wc hpw => ?_⟩
  have W0 : Well3 (upd H pw (.lst [.int wa, .int wb, .int wc])) pw := ⟨_, _, _, upd_same⟩
  have T0 := same_new hpw (.lst [.int wa, .int wb, .int wc])
  generalize upd H pw (.lst [.int wa, .int wb, .int wc]) = H0 at *
  walk_at "w0"
  first | rw [w_hold] | (dsimp only; rw [w_hold])
  walk_at "w0"
  refine ⟨pw, 2, 2, by decide, rfl, W0, by decide, by decide, by decide, fun v1 t1 H1 hA1 ho1 hd1 hc1 W1 B1 => ?_⟩
  walk_at "w0"
  refine ⟨pw, 2, 2, by decide, rfl, W1, by decide, by decide, by decide, fun v2 t2 H2 hA2 ho2 hd2 hc2 W2 B2 => ?_⟩
  walk_at "w0"
  refine ⟨pw, 2, 2, by decide, rfl, W2, by decide, by decide, by decide, fun v3 t3 H3 hA3 ho3 hd3 hc3 W3 B3 => ?_⟩
  walk_at "w0"
  refine ⟨sz8 (by decide), fun tl htl => ?_⟩
  have S3 := same_new htl (.lst [v1, v2, v3])
  have SS := (fresh_same hpw T0 (B1.trans (B2.trans B3))).trans S3
  have hA : All2 (Tr.At (upd H3 tl (.lst [v1, v2, v3]))) [t1, t2, t3] [v1, v2, v3] := .cons (((hA1.but3 W1 B2).but3 W2 B3).same S3) (.cons ((hA2.but3 W2 B3).same S3) (.cons (hA3.same S3) .nil))
  have etl : upd H3 tl (.lst [v1, v2, v3]) tl = some (.lst [v1, v2, v3]) := upd_same
  have hall : ∀ t ∈ [t1, t2, t3], t.ok ∧ t.dp ≤ 2 ∧ t.cnt ≤ 54 := fun t m => by
    simp only [List.mem_cons, List.not_mem_nil, or_false] at m
    rcases m with rfl | rfl | rfl
    · exact ⟨ho1, hd1, by omega⟩
    · exact ⟨ho2, hd2, by omega⟩
    · exact ⟨ho3, hd3, by omega⟩
  generalize upd H3 tl (.lst [v1, v2, v3]) = Hn at *
  clear hA1 hA2 hA3 W0 W1 W2 W3 B1 B2 B3 T0 S3 htl hc1 hc2 hc3
  walk_at "w0"
  first | rw [w_hold] | (dsimp only; rw [w_hold])
  walk_at "w0"
  refine ⟨⟨_, SqL.of etl⟩, ?_⟩
  refine CompL.by (xs := [v1, v2, v3]) (fun i acc σ H' => All2 (Tr.Fit (fc a) H') ([t1, t2, t3].take i) acc ∧ (∃ v, σ = [v]) ∧ Same Hn H') (sz8 (by simp only [List.length_cons, List.length_nil]; decide)) ⟨.nil, ⟨_, rfl⟩, fun _ _ z => z⟩ (fun i acc σ H' _ h => SqL.of (h.2.2 _ _ etl)) ?_ ?_ ?_
  · rintro i y acc σ H' hy ⟨hF, ⟨v, rfl⟩, S1⟩
    obtain ⟨t, e, ht⟩ := (hA.imp fun t y _ h => h.same S1).get hy
    have hm := hall t (List.mem_of_getElem? e)
    walk_at "w0"
    refine ⟨y, t, by omega, rfl, ht, hm.1, fun v' H2 S2 hf => ?_⟩
    have new : All2 (Tr.Fit (fc a) H2) ([t1, t2, t3].take (i + 1)) (acc ++ [v']) := by
      rw [List.take_succ, e]
      exact (hF.imp fun t y _ h => h.same S2).snoc hf
    first | exact ⟨new, ⟨_, rfl⟩, S1.trans S2⟩ | exact ⟨new, S1.trans S2⟩
  · rintro i acc σ H' ⟨hF, _, _⟩
    rw [← hF.len, List.length_take]
    simp only [List.length_cons, List.length_nil]
    omega
  rintro acc σ Hf ⟨hF, ⟨v, rfl⟩, Sf⟩ fl hfl
  obtain ⟨f1, f2, f3, rfl, hF1, hF2, hF3⟩ : ∃ f1 f2 f3, acc = [f1, f2, f3] ∧ t1.Fit (fc a) Hf f1 ∧ t2.Fit (fc a) Hf f2 ∧ t3.Fit (fc a) Hf f3 := by
    cases hF with
    | cons h1 r =>
      cases r with
      | cons h2 r =>
        cases r with
        | cons h3 r =>
          cases r
          exact ⟨_, _, _, rfl, h1, h2, h3⟩
  have S6 := same_new hfl (.lst [f1, f2, f3])
  have efl : upd Hf fl (.lst [f1, f2, f3]) fl = some (.lst [f1, f2, f3]) := upd_same
  generalize upd Hf fl (.lst [f1, f2, f3]) = H6 at *
  have SA := Sf.trans S6
  walk_at "w0"
  refine ⟨_, SqL.of efl, rfl, ?_⟩
  walk_at "w0"
  first | rw [w_hold] | (dsimp only; rw [w_hold])
  walk_at "w0"
  refine ⟨f1, f2, f3, t1, t2, t3, rfl, hF1.same S6, hF2.same S6, hF3.same S6, ho1, ho2, ho3, hd1, hd2, hd3, fun pr xs H7 S7 epr lx gx => ?_⟩
  walk_at "w0"
  have SB := SA.trans S7
  first | rw [w_hold] | (dsimp only; rw [w_hold])
  walk_at "w0"
  refine ⟨sc, tl, ns, [v1, v2, v3], [t1, t2, t3], rfl, (SS.trans SB).seq hS, h63, SB _ _ etl, hA.imp (fun t y _ h => h.same SB), rfl, hall, fun th ys Hb S8 eth ly gy => ?_⟩
  have hFb1 := hF1.same (S6.trans (S7.trans S8))
  have hFb2 := hF2.same (S6.trans (S7.trans S8))
  have hFb3 := hF3.same (S6.trans (S7.trans S8))
  have eprb := S8 _ _ epr
  have gxb : ∀ x ∈ xs, PrAt a Hb x := fun x m => (gx x m).same S8
  have hFA : All2 (Tr.Fit (fc a) Hb) [t1, t2, t3] [f1, f2, f3] := .cons hFb1 (.cons hFb2 (.cons hFb3 .nil))
  clear S8 SB S7 SA S6 Sf hF1 hF2 hF3 epr gx hA SS efl hfl etl
  walk_at "w0"
  first | rw [w_hold] | (dsimp only; rw [w_hold])
  walk_at "w0"
  refine ⟨_, SqL.of eth, fun rl hrl => ?_⟩
  have S9 := same_new hrl (.lst ys.reverse)
  have erl : upd Hb rl (.lst ys.reverse) rl = some (.lst ys.reverse) := upd_same
  generalize upd Hb rl (.lst ys.reverse) = Hr at *
  refine ⟨th, rl, _, _, rfl, rfl, S9 _ _ eth, erl, sz8 (by rw [List.length_reverse]; omega), fun cl hcl => ?_⟩
  have Sc := S9.trans (same_new hcl (.lst (ys ++ ys.reverse)))
  have ecl : upd Hr cl (.lst (ys ++ ys.reverse)) cl = some (.lst (ys ++ ys.reverse)) := upd_same
  generalize upd Hr cl (.lst (ys ++ ys.reverse)) = Hc at *
  have gth : ∀ x ∈ ys ++ ys.reverse, ∃ k p w, HapAt a Hb x k p w := fun x hx => by
    rcases List.mem_append.mp hx with hx | hx
    · exact gy x hx
    · exact gy x (List.mem_reverse.mp hx)
  generalize ys ++ ys.reverse = ths at *
  first | refine ⟨⟨_, SqL.of ecl⟩, ?_⟩ | refine ⟨cl, rfl, ⟨_, SqL.of ecl⟩, ?_⟩
  refine ForL.by (xs := ths) (fun _ σ G => (∃ c1 c2 c3 c4 c5, σ = [some (.ref sc), some (.ref pw), some (.ref tl), some f1, some f2, some f3, some (.ref pr), some (.ref th), c1, c2, c3, c4, c5]) ∧ Same Hc G) ⟨⟨_, _, _, _, _, rfl⟩, fun _ _ z => z⟩ (fun i σ G _ h => SqL.of (h.2 _ _ ecl)) ?_ ?_
  rotate_left
  · rintro σ G ⟨⟨c1, c2, c3, c4, c5, rfl⟩, SG⟩
    walk_at "w0"
    first | exact q _ | (first | refine hold_ret ?_ | (dsimp only; refine hold_ret ?_)) <;> (walk_at "w0"; exact q _)
  · rintro i x σ G hx ⟨⟨c1, c2, c3, c4, c5, rfl⟩, SG⟩
    obtain ⟨k, p, n, hp, dh, rfl, hhp⟩ := gth x (List.mem_of_getElem? hx)
    have SbG := Sc.trans SG
    walk_at "w0"
    refine ⟨⟨_, SqL.of (SbG _ _ eprb)⟩, ?_⟩
    refine ForL.by (xs := xs) (fun _ σ G' => (∃ c2 c3 c4 c5, σ = [some (.ref sc), some (.ref pw), some (.ref tl), some f1, some f2, some f3, some (.ref pr), some (.ref th), some (.ref hp), c2, c3, c4, c5]) ∧ Same G G') ⟨⟨_, _, _, _, rfl⟩, fun _ _ z => z⟩ (fun i σ G' _ h => SqL.of ((SbG.trans h.2) _ _ eprb)) ?_ ?_
    · rintro j z σ G' hz ⟨⟨c2, c3, c4, c5, rfl⟩, SG'⟩
      have S' := SbG.trans SG'
      obtain ⟨tp, x, y, s, t, rfl, htp, hs, ht, os, ot, ds, dt, ev⟩ := (gxb z (List.mem_of_getElem? hz)).same S'
      obtain ⟨px, _, _, rfl, _⟩ := id hs.ins
      obtain ⟨py, _, _, rfl, _⟩ := id ht.ins
      walk_at "w0"
      refine ⟨_, SqT.of htp, rfl, ?_⟩
      walk_at "w0"
      first | refine ⟨_, _, ⟨rfl, rfl⟩, ?_⟩ | skip
      walk_at "w0"
      refine ft_at (K := K) hs ds os (S' _ _ hhp) fun G2 S2 => ?_
      rw [ev k p n]
      walk_at "w0"
      refine ⟨_, _, true, rfl, .bl _, by kernel_rfl, ?_⟩
      exists Bool.not_true
      refine ft_at (K := K) (ht.same S2) dt ot ((S'.trans S2) _ _ hhp) fun G3 S3 => ?_
      exists decide_true, Bool.not_true, not_true_eq_false
      first | exact ⟨⟨_, _, _, _, rfl⟩, SG'.trans (S2.trans S3)⟩ | exact SG'.trans (S2.trans S3)
    rintro σ G1 ⟨⟨c2, c3, c4, c5, rfl⟩, SG1⟩
    walk_at "w0"
    refine ⟨sz8 (by decide), fun al hal => ?_⟩
    have Sal := same_new hal (.lst [f1, f2, f3])
    have eal : upd G1 al (.lst [f1, f2, f3]) al = some (.lst [f1, f2, f3]) := upd_same
    generalize upd G1 al (.lst [f1, f2, f3]) = Ga at *
    have SbA := SbG.trans (SG1.trans Sal)
    first | refine ⟨⟨_, SqL.of eal⟩, ?_⟩ | refine ⟨al, rfl, ⟨_, SqL.of eal⟩, ?_⟩
    refine ForL.by (xs := [f1, f2, f3]) (fun _ σ G' => (∃ c2 c3 c4 c5, σ = [some (.ref sc), some (.ref pw), some (.ref tl), some f1, some f2, some f3, some (.ref pr), some (.ref th), some (.ref hp), c2, c3, c4, c5]) ∧ Same Ga G') ⟨⟨_, _, _, _, rfl⟩, fun _ _ z => z⟩ (fun i σ G' _ h => SqL.of (h.2 _ _ eal)) ?_ ?_
    · rintro j y σ G' hy ⟨⟨c2, c3, c4, c5, rfl⟩, SG'⟩
      have S' := SbA.trans SG'
      obtain ⟨t, e, ht0⟩ := hFA.get hy
      have hm := hall t (List.mem_of_getElem? e)
      have ht := ht0.same S'
      obtain ⟨py, _, _, rfl, _⟩ := id ht.ins
      walk_at "w0"
      refine ft_at (K := K) ht (by omega) hm.1 (S' _ _ hhp) fun G2 S2 => ?_
      walk_at "w0"
      intro nx dnx hnx hdnx nenx
      have M := made_same (o := .own nx) (o' := .ins a.Not dnx []) hnx hdnx
      refine ⟨nx, dnx, .ref py, t, rfl, upd_same, (ht.same S2).same M, ?_⟩
      have SN : Same G2 (upd (upd (upd G2 dnx (.own nx)) nx (.ins a.Not dnx [])) nx (.ins a.Not dnx [("fit", .ref py)])) := fun b o e => by rw [upd_ne (ne_of_none e hnx)]; exact M b o e
      have hN : (Tr.not t).Fit (fc a) (upd (upd (upd G2 dnx (.own nx)) nx (.ins a.Not dnx [])) nx (.ins a.Not dnx [("fit", .ref py)])) (.ref nx) := by
        rw [Tr.Fit]
        exact ⟨nx, dnx, .ref py, rfl, upd_same, (ht.same S2).same SN⟩
      generalize upd (upd (upd G2 dnx (.own nx)) nx (.ins a.Not dnx [])) nx (.ins a.Not dnx [("fit", .ref py)]) = G3 at *
      walk_at "w0"
      refine ft_at (K := K) hN (by rw [Tr.dp]; omega) (by rw [Tr.ok]; exact hm.1) ((S'.trans (S2.trans SN)) _ _ hhp) fun G4 S4 => ?_
      rw [Tr.ev]
      have ne_ : ¬ (t.ev k p n = !t.ev k p n) := by cases t.ev k p n <;> decide
      exists ne_, decide_false
      first | exact ⟨⟨_, _, _, _, rfl⟩, SG'.trans (S2.trans (SN.trans S4))⟩ | exact SG'.trans (S2.trans (SN.trans S4))
    rintro σ G5 ⟨⟨c2, c3, c4, c5, rfl⟩, SG5⟩
    walk_at "w0"
    intro yx dyx hyx hdyx neyx
    have SY := made_same (o := .own yx) (o' := .ins a.Any dyx []) hyx hdyx
    have hY : Tr.any.Fit (fc a) (upd (upd G5 dyx (.own yx)) yx (.ins a.Any dyx [])) (.ref yx) := by
      rw [Tr.Fit]
      exact ⟨yx, dyx, rfl, upd_same⟩
    generalize upd (upd G5 dyx (.own yx)) yx (.ins a.Any dyx []) = G6 at *
    refine ft_at (K := K) hY (by rw [Tr.dp]; decide) (by rw [Tr.ok]; trivial) ((SbA.trans (SG5.trans SY)) _ _ hhp) fun G7 S7 => ?_
    rw [Tr.ev]
    exists bne_self_eq_false
    have SE' := SG1.trans (Sal.trans (SG5.trans (SY.trans S7)))
    first | exact ⟨⟨_, _, _, _, _, rfl⟩, SG.trans SE'⟩ | exact SG.trans SE'
end
end Bw
set_option Elab.async false
set_option linter.all false
namespace Hd
open PySem PySem.W L2
set_option maxRecDepth 100000
set_option maxHeartbeats 0
structure AT where
  p : Program
  a : List Str
  t : List String
def s (A : AT) (i : Nat) : Str := A.a.getD i Str.empty
def t (A : AT) (i : Nat) : String := A.t.getD i ""
def stm (A : AT) (i : Nat) : Stmt := A.p.main.body.getD i (.Pass ⟨0, 0, 0, 0⟩)
abbrev N : Obj → BT → BT → BT := BT.node
abbrev L : BT := BT.nil
open PyData
noncomputable section
def o_43 (A : AT) (P : Params) : Obj := (Obj.mk (.type (t A 6)) none (.seq #[] 0) #[])
def o_44 (A : AT) (P : Params) : Obj := (Obj.mk .none none (.fields #[]) #[])
def o_45 (A : AT) (P : Params) : Obj := (Obj.mk (.type (t A 7)) none (.fields #[(.str (s A 126) 182), (.str (s A 126) 183), (.str (s A 10) 184), (.int 1 0), (.int 0 0), (.int 0 0), (.int 0 0), (.int 0 0), (.ref 11), (.bool false), (.int 181 0), (.ref 12), .none, .none, .none, .none, (.int 185 0), (.int 1 0), (.str (s A 10) 186)]) #[])
def o_46 (A : AT) (P : Params) : Obj := (Obj.mk (.type (t A 12)) none .plain #[(some (.ref 13)), (some (.ref 3)), (some (.ref 3)), none, (some (.str (s A 91) 164)), none, (some (.ref 0))])
def o_49 (A : AT) (P : Params) : Obj := (Obj.mk (.type (t A 8)) none (.dict #[(DictEntry.mk (keyHash P (s A 13)) (.str (s A 13) 165) (.str (s A 63) 194)), (DictEntry.mk (keyHash P (s A 14)) (.str (s A 14) 166) .none), (DictEntry.mk (keyHash P (s A 15)) (.str (s A 15) 167) .none), (DictEntry.mk (keyHash P (s A 16)) (.str (s A 16) 168) (.builtin (t A 9))), (DictEntry.mk (keyHash P (s A 17)) (.str (s A 17) 169) .none), (DictEntry.mk (keyHash P (s A 18)) (.str (s A 18) 170) (.ref 6)), (DictEntry.mk (keyHash P (s A 19)) (.str (s A 19) 171) (.ref 4)), (DictEntry.mk (keyHash P (s A 20)) (.str (s A 20) 173) (.str (s A 10) 172)), (DictEntry.mk (keyHash P (s A 21)) (.str (s A 21) 174) .none), (DictEntry.mk (keyHash P (s A 22)) (.str (s A 22) 193) (.ref 21)), (DictEntry.mk (keyHash P (s A 23)) (.str (s A 23) 213) (.ref 31))] 11) #[])
def o_50 (A : AT) (P : Params) : Obj := (Obj.mk .none none (.fields #[(.int 1 0), (.int 0 0), (.ref 20), (.int 5 0), (.int 0 0), (.ref 27)]) #[])
def o_51 (A : AT) (P : Params) : Obj := (Obj.mk (.type (t A 6)) none (.seq #[] 0) #[])
def o_52 (A : AT) (P : Params) : Obj := (Obj.mk .none none (.fields #[]) #[])
def o_53 (A : AT) (P : Params) : Obj := (Obj.mk (.type (t A 6)) none (.seq #[(.str (s A 125) 190)] 0) #[])
def o_54 (A : AT) (P : Params) : Obj := (Obj.mk (.type (t A 6)) none (.seq #[] 0) #[])
def o_55 (A : AT) (P : Params) : Obj := (Obj.mk .none none (.func (FuncData.mk (s A 22) (s A 22) (defArgs (stm A 0)) (FuncBody.stmts (defBody (stm A 0))) (defScope (stm A 0)) 0 [] .none .none .none .none none .none .none 0)) #[])
def o_56 (A : AT) (P : Params) : Obj := (Obj.mk (.type (t A 7)) none (.fields #[(.str (s A 22) 187), (.str (s A 22) 188), (.str (s A 10) 189), (.int 1 0), (.int 1 0), (.int 0 0), (.int 0 0), (.int 3 0), (.ref 15), (.bool true), (.int 181 0), (.ref 16), .none, (.ref 17), (.ref 18), (.ref 19), (.int 191 0), (.int 1 0), (.str (s A 10) 192)]) #[])
def o_57 (A : AT) (P : Params) : Obj := (Obj.mk (.type (t A 5)) none (.func (FuncData.mk (s A 22) (s A 22) (defArgs (stm A 0)) (FuncBody.stmts (defBody (stm A 0))) (defScope (stm A 0)) 3 [] .none .none .none (.str (s A 91) 164) none (.ref 20) .none 0)) #[])
def o_58 (A : AT) (P : Params) : Obj := (Obj.mk (.type (t A 6)) none (.seq #[(.type (t A 15))] 0) #[])
def o_59 (A : AT) (P : Params) : Obj := (Obj.mk (.type (t A 0)) none (.fields #[(.builtin (t A 10)), (.type (t A 2))]) #[])
def o_60 (A : AT) (P : Params) : Obj := (Obj.mk (.type (t A 8)) none (.dict #[(DictEntry.mk (keyHash P (s A 41)) (.str (s A 41) 203) (.str (s A 63) 194)), (DictEntry.mk (keyHash P (s A 47)) (.str (s A 47) 205) (.str (s A 23) 204)), (DictEntry.mk (keyHash P (s A 42)) (.str (s A 42) 207) (.int 5 206)), (DictEntry.mk (keyHash P (s A 44)) (.str (s A 44) 208) (.ref 29))] 4) #[])
def o_61 (A : AT) (P : Params) : Obj := (Obj.mk (.type (t A 6)) none (.seq #[] 0) #[])
def o_62 (A : AT) (P : Params) : Obj := (Obj.mk .none none (.fields #[]) #[])
def o_63 (A : AT) (P : Params) : Obj := (Obj.mk (.type (t A 7)) none (.fields #[(.str (s A 23) 198), (.str (s A 23) 199), (.str (s A 10) 200), (.int 5 0), (.int 0 0), (.int 0 0), (.int 0 0), (.int 0 0), (.ref 25), (.bool false), (.int 181 0), (.ref 26), .none, .none, .none, .none, (.int 201 0), (.int 5 0), (.str (s A 10) 202)]) #[])
def o_64 (A : AT) (P : Params) : Obj := (Obj.mk (.type (t A 12)) none .plain #[(some (.ref 27)), (some (.ref 3)), (some (.ref 24)), none, (some (.str (s A 63) 194)), none, (some (.ref 0))])
def o_65 (A : AT) (P : Params) : Obj := (Obj.mk (.type (t A 6)) none (.seq #[] 0) #[])
def o_66 (A : AT) (P : Params) : Obj := (Obj.mk (.type (t A 8)) none (.dict #[(DictEntry.mk (keyHash P (s A 41)) (.str (s A 41) 203) (.str (s A 63) 194)), (DictEntry.mk (keyHash P (s A 42)) (.str (s A 42) 207) (.int 5 206)), (DictEntry.mk (keyHash P (s A 44)) (.str (s A 44) 208) (.ref 29)), (DictEntry.mk (keyHash P (s A 64)) (.str (s A 64) 210) (.ref 32)), (DictEntry.mk (keyHash P (s A 14)) (.str (s A 14) 211) .none)] 3) #[])
def o_67 (A : AT) (P : Params) : Obj := (Obj.mk (.type (t A 2)) none (.cls (ClassData.mk (s A 23) [(.type (t A 15))] [(.ref 31), (.type (t A 15)), (.type (t A 16)), (.type (t A 17)), (.type (t A 3))] 30 (s A 23) true [] [] false none false)) #[(some (.ref 22)), none, (some (.str (s A 23) 196)), (some (.str (s A 23) 204)), (some (.builtin (t A 18))), (some (.bool true))])
def o_68 (A : AT) (P : Params) : Obj := (Obj.mk (.type (t A 13)) none (.fields #[(.str (s A 64) 209), (.ref 31), (.builtin (t A 14)), .none]) #[])
def o_69 (A : AT) (P : Params) : Obj := (Obj.mk (.type (t A 11)) none (.fields #[(.ref 31), (.ref 31), (.ref 31)]) #[])
def o_70 (A : AT) (P : Params) : Obj := (Obj.mk (.type (t A 0)) none (.fields #[(.builtin (t A 1)), (.ref 31)]) #[])
def o_71 (A : AT) (P : Params) : Obj := (Obj.mk (.type (t A 8)) none (.dict #[(DictEntry.mk (keyHash P (s A 13)) (.str (s A 13) 165) (.str (s A 63) 194)), (DictEntry.mk (keyHash P (s A 14)) (.str (s A 14) 166) .none), (DictEntry.mk (keyHash P (s A 15)) (.str (s A 15) 167) .none), (DictEntry.mk (keyHash P (s A 16)) (.str (s A 16) 168) (.builtin (t A 9))), (DictEntry.mk (keyHash P (s A 17)) (.str (s A 17) 169) .none), (DictEntry.mk (keyHash P (s A 18)) (.str (s A 18) 170) (.ref 6)), (DictEntry.mk (keyHash P (s A 19)) (.str (s A 19) 171) (.ref 4)), (DictEntry.mk (keyHash P (s A 20)) (.str (s A 20) 173) (.str (s A 10) 172)), (DictEntry.mk (keyHash P (s A 21)) (.str (s A 21) 174) .none), (DictEntry.mk (keyHash P (s A 22)) (.str (s A 22) 193) (.ref 21)), (DictEntry.mk (keyHash P (s A 23)) (.str (s A 23) 213) (.ref 31)), (DictEntry.mk (keyHash P (s A 24)) (.str (s A 24) 229) (.ref 44))] 12) #[])
def o_72 (A : AT) (P : Params) : Obj := (Obj.mk .none none (.fields #[(.int 1 0), (.int 0 0), (.ref 20), (.int 5 0), (.int 0 0), (.ref 27), (.int 7 0), (.int 0 0), (.ref 40)]) #[])
def o_73 (A : AT) (P : Params) : Obj := (Obj.mk (.type (t A 2)) none (.cls (ClassData.mk (s A 23) [(.type (t A 15))] [(.ref 31), (.type (t A 15)), (.type (t A 16)), (.type (t A 17)), (.type (t A 3))] 30 (s A 23) true [] [(.ref 44)] false none false)) #[(some (.ref 22)), none, (some (.str (s A 23) 196)), (some (.str (s A 23) 204)), (some (.builtin (t A 18))), (some (.bool true))])
def o_74 (A : AT) (P : Params) : Obj := (Obj.mk (.type (t A 6)) none (.seq #[(.ref 31)] 0) #[])
def o_75 (A : AT) (P : Params) : Obj := (Obj.mk (.type (t A 0)) none (.fields #[(.builtin (t A 10)), (.type (t A 2))]) #[])
def o_76 (A : AT) (P : Params) : Obj := (Obj.mk (.type (t A 8)) none (.dict #[(DictEntry.mk (keyHash P (s A 41)) (.str (s A 41) 221) (.str (s A 63) 194)), (DictEntry.mk (keyHash P (s A 47)) (.str (s A 47) 223) (.str (s A 24) 222)), (DictEntry.mk (keyHash P (s A 42)) (.str (s A 42) 225) (.int 7 224)), (DictEntry.mk (keyHash P (s A 44)) (.str (s A 44) 226) (.ref 42))] 4) #[])
def o_77 (A : AT) (P : Params) : Obj := (Obj.mk (.type (t A 6)) none (.seq #[] 0) #[])
def o_78 (A : AT) (P : Params) : Obj := (Obj.mk .none none (.fields #[]) #[])
def o_79 (A : AT) (P : Params) : Obj := (Obj.mk (.type (t A 7)) none (.fields #[(.str (s A 24) 216), (.str (s A 24) 217), (.str (s A 10) 218), (.int 7 0), (.int 0 0), (.int 0 0), (.int 0 0), (.int 0 0), (.ref 38), (.bool false), (.int 181 0), (.ref 39), .none, .none, .none, .none, (.int 219 0), (.int 7 0), (.str (s A 10) 220)]) #[])
def o_80 (A : AT) (P : Params) : Obj := (Obj.mk (.type (t A 12)) none .plain #[(some (.ref 40)), (some (.ref 3)), (some (.ref 37)), none, (some (.str (s A 63) 194)), none, (some (.ref 0))])
def o_81 (A : AT) (P : Params) : Obj := (Obj.mk (.type (t A 6)) none (.seq #[] 0) #[])
def o_82 (A : AT) (P : Params) : Obj := (Obj.mk (.type (t A 8)) none (.dict #[(DictEntry.mk (keyHash P (s A 41)) (.str (s A 41) 221) (.str (s A 63) 194)), (DictEntry.mk (keyHash P (s A 42)) (.str (s A 42) 225) (.int 7 224)), (DictEntry.mk (keyHash P (s A 44)) (.str (s A 44) 226) (.ref 42)), (DictEntry.mk (keyHash P (s A 14)) (.str (s A 14) 227) .none)] 2) #[])
def o_83 (A : AT) (P : Params) : Obj := (Obj.mk (.type (t A 2)) none (.cls (ClassData.mk (s A 24) [(.ref 31)] [(.ref 44), (.ref 31), (.type (t A 15)), (.type (t A 16)), (.type (t A 17)), (.type (t A 3))] 43 (s A 24) true [] [] false none false)) #[(some (.ref 35)), none, (some (.str (s A 24) 214)), (some (.str (s A 24) 222)), (some (.builtin (t A 18))), (some (.bool true))])
def o_84 (A : AT) (P : Params) : Obj := (Obj.mk (.type (t A 11)) none (.fields #[(.ref 44), (.ref 44), (.ref 44)]) #[])
def o_85 (A : AT) (P : Params) : Obj := (Obj.mk (.type (t A 0)) none (.fields #[(.builtin (t A 1)), (.ref 44)]) #[])
def o_86 (A : AT) (P : Params) : Obj := (Obj.mk (.type (t A 8)) none (.dict #[(DictEntry.mk (keyHash P (s A 13)) (.str (s A 13) 165) (.str (s A 105) 263)), (DictEntry.mk (keyHash P (s A 14)) (.str (s A 14) 166) .none), (DictEntry.mk (keyHash P (s A 15)) (.str (s A 15) 167) .none), (DictEntry.mk (keyHash P (s A 16)) (.str (s A 16) 168) (.builtin (t A 9))), (DictEntry.mk (keyHash P (s A 17)) (.str (s A 17) 169) .none), (DictEntry.mk (keyHash P (s A 18)) (.str (s A 18) 170) (.ref 6)), (DictEntry.mk (keyHash P (s A 19)) (.str (s A 19) 171) (.ref 4)), (DictEntry.mk (keyHash P (s A 20)) (.str (s A 20) 173) (.str (s A 10) 172)), (DictEntry.mk (keyHash P (s A 21)) (.str (s A 21) 174) .none), (DictEntry.mk (keyHash P (s A 22)) (.str (s A 22) 193) (.ref 21)), (DictEntry.mk (keyHash P (s A 23)) (.str (s A 23) 213) (.ref 31)), (DictEntry.mk (keyHash P (s A 24)) (.str (s A 24) 229) (.ref 44)), (DictEntry.mk (keyHash P (s A 25)) (.str (s A 25) 245) (.ref 56)), (DictEntry.mk (keyHash P (s A 26)) (.str (s A 26) 254) (.ref 65)), (DictEntry.mk (keyHash P (s A 27)) (.str (s A 27) 262) (.ref 72)), (DictEntry.mk (keyHash P (s A 28)) (.str (s A 28) 266) (.str (s A 29) 265)), (DictEntry.mk (keyHash P (s A 30)) (.str (s A 30) 268) (.int 8 267)), (DictEntry.mk (keyHash P (s A 31)) (.str (s A 31) 274) (.ref 77))] 18) #[])
def o_87 (A : AT) (P : Params) : Obj := (Obj.mk .none none (.fields #[(.int 1 0), (.int 0 0), (.ref 20), (.int 5 0), (.int 0 0), (.ref 27), (.int 7 0), (.int 0 0), (.ref 40), (.int 9 0), (.int 0 0), (.ref 52), (.int 12 0), (.int 0 0), (.ref 64), (.int 14 0), (.int 0 0), (.ref 71), (.int 19 0), (.int 0 0), (.ref 76)]) #[])
def o_88 (A : AT) (P : Params) : Obj := (Obj.mk (.type (t A 2)) none (.cls (ClassData.mk (s A 23) [(.type (t A 15))] [(.ref 31), (.type (t A 15)), (.type (t A 16)), (.type (t A 17)), (.type (t A 3))] 30 (s A 23) true [] [(.ref 44), (.ref 56)] false none false)) #[(some (.ref 22)), none, (some (.str (s A 23) 196)), (some (.str (s A 23) 204)), (some (.builtin (t A 18))), (some (.bool true))])
def o_89 (A : AT) (P : Params) : Obj := (Obj.mk (.type (t A 6)) none (.seq #[(.ref 31)] 0) #[])
def o_90 (A : AT) (P : Params) : Obj := (Obj.mk (.type (t A 0)) none (.fields #[(.builtin (t A 10)), (.type (t A 2))]) #[])
def o_91 (A : AT) (P : Params) : Obj := (Obj.mk (.type (t A 8)) none (.dict #[(DictEntry.mk (keyHash P (s A 41)) (.str (s A 41) 237) (.str (s A 63) 194)), (DictEntry.mk (keyHash P (s A 47)) (.str (s A 47) 239) (.str (s A 25) 238)), (DictEntry.mk (keyHash P (s A 42)) (.str (s A 42) 241) (.int 9 240)), (DictEntry.mk (keyHash P (s A 44)) (.str (s A 44) 242) (.ref 54))] 4) #[])
def o_92 (A : AT) (P : Params) : Obj := (Obj.mk (.type (t A 6)) none (.seq #[] 0) #[])
def o_93 (A : AT) (P : Params) : Obj := (Obj.mk .none none (.fields #[]) #[])
def o_94 (A : AT) (P : Params) : Obj := (Obj.mk (.type (t A 7)) none (.fields #[(.str (s A 25) 232), (.str (s A 25) 233), (.str (s A 10) 234), (.int 9 0), (.int 0 0), (.int 0 0), (.int 0 0), (.int 0 0), (.ref 50), (.bool false), (.int 181 0), (.ref 51), .none, .none, .none, .none, (.int 235 0), (.int 9 0), (.str (s A 10) 236)]) #[])
def o_95 (A : AT) (P : Params) : Obj := (Obj.mk (.type (t A 12)) none .plain #[(some (.ref 52)), (some (.ref 3)), (some (.ref 49)), none, (some (.str (s A 63) 194)), none, (some (.ref 0))])
def o_96 (A : AT) (P : Params) : Obj := (Obj.mk (.type (t A 6)) none (.seq #[] 0) #[])
def o_97 (A : AT) (P : Params) : Obj := (Obj.mk (.type (t A 8)) none (.dict #[(DictEntry.mk (keyHash P (s A 41)) (.str (s A 41) 237) (.str (s A 63) 194)), (DictEntry.mk (keyHash P (s A 42)) (.str (s A 42) 241) (.int 9 240)), (DictEntry.mk (keyHash P (s A 44)) (.str (s A 44) 242) (.ref 54)), (DictEntry.mk (keyHash P (s A 14)) (.str (s A 14) 243) .none)] 2) #[])
def o_98 (A : AT) (P : Params) : Obj := (Obj.mk (.type (t A 2)) none (.cls (ClassData.mk (s A 25) [(.ref 31)] [(.ref 56), (.ref 31), (.type (t A 15)), (.type (t A 16)), (.type (t A 17)), (.type (t A 3))] 55 (s A 25) true [] [] false none false)) #[(some (.ref 47)), none, (some (.str (s A 25) 230)), (some (.str (s A 25) 238)), (some (.builtin (t A 18))), (some (.bool true))])
def o_99 (A : AT) (P : Params) : Obj := (Obj.mk (.type (t A 11)) none (.fields #[(.ref 56), (.ref 56), (.ref 56)]) #[])
def o_100 (A : AT) (P : Params) : Obj := (Obj.mk (.type (t A 0)) none (.fields #[(.builtin (t A 1)), (.ref 56)]) #[])
def o_101 (A : AT) (P : Params) : Obj := (Obj.mk (.type (t A 6)) none (.seq #[] 0) #[])
def o_102 (A : AT) (P : Params) : Obj := (Obj.mk .none none (.fields #[]) #[])
def o_103 (A : AT) (P : Params) : Obj := (Obj.mk (.type (t A 6)) none (.seq #[(.str (s A 51) 251)] 0) #[])
def o_104 (A : AT) (P : Params) : Obj := (Obj.mk (.type (t A 6)) none (.seq #[] 0) #[])
def o_105 (A : AT) (P : Params) : Obj := (Obj.mk .none none (.func (FuncData.mk (s A 26) (s A 26) (defArgs (stm A 6)) (FuncBody.stmts (defBody (stm A 6))) (defScope (stm A 6)) 0 [] .none .none .none .none none .none .none 0)) #[])
def o_106 (A : AT) (P : Params) : Obj := (Obj.mk (.type (t A 7)) none (.fields #[(.str (s A 26) 248), (.str (s A 26) 249), (.str (s A 10) 250), (.int 12 0), (.int 1 0), (.int 0 0), (.int 0 0), (.int 3 0), (.ref 59), (.bool true), (.int 181 0), (.ref 60), .none, (.ref 61), (.ref 62), (.ref 63), (.int 252 0), (.int 12 0), (.str (s A 10) 253)]) #[])
def o_107 (A : AT) (P : Params) : Obj := (Obj.mk (.type (t A 5)) none (.func (FuncData.mk (s A 26) (s A 26) (defArgs (stm A 6)) (FuncBody.stmts (defBody (stm A 6))) (defScope (stm A 6)) 3 [] .none .none .none (.str (s A 77) 246) none (.ref 64) .none 0)) #[])
def o_108 (A : AT) (P : Params) : Obj := (Obj.mk (.type (t A 6)) none (.seq #[] 0) #[])
def o_109 (A : AT) (P : Params) : Obj := (Obj.mk .none none (.fields #[]) #[])
def o_110 (A : AT) (P : Params) : Obj := (Obj.mk (.type (t A 6)) none (.seq #[(.str (s A 51) 258), (.str (s A 114) 259)] 0) #[])
def o_111 (A : AT) (P : Params) : Obj := (Obj.mk (.type (t A 6)) none (.seq #[] 0) #[])
def o_112 (A : AT) (P : Params) : Obj := (Obj.mk .none none (.func (FuncData.mk (s A 27) (s A 27) (defArgs (stm A 7)) (FuncBody.stmts (defBody (stm A 7))) (defScope (stm A 7)) 0 [] .none .none .none .none none .none .none 0)) #[])
def o_113 (A : AT) (P : Params) : Obj := (Obj.mk (.type (t A 7)) none (.fields #[(.str (s A 27) 255), (.str (s A 27) 256), (.str (s A 10) 257), (.int 14 0), (.int 2 0), (.int 0 0), (.int 0 0), (.int 3 0), (.ref 66), (.bool true), (.int 181 0), (.ref 67), .none, (.ref 68), (.ref 69), (.ref 70), (.int 260 0), (.int 14 0), (.str (s A 10) 261)]) #[])
def o_114 (A : AT) (P : Params) : Obj := (Obj.mk (.type (t A 5)) none (.func (FuncData.mk (s A 27) (s A 27) (defArgs (stm A 7)) (FuncBody.stmts (defBody (stm A 7))) (defScope (stm A 7)) 3 [] .none .none .none (.str (s A 77) 246) none (.ref 71) .none 0)) #[])
def o_115 (A : AT) (P : Params) : Obj := (Obj.mk (.type (t A 6)) none (.seq #[] 0) #[])
def o_116 (A : AT) (P : Params) : Obj := (Obj.mk .none none (.fields #[]) #[])
def o_117 (A : AT) (P : Params) : Obj := (Obj.mk .none none (.func (FuncData.mk (s A 31) (s A 31) (defArgs (stm A 11)) (FuncBody.stmts (defBody (stm A 11))) (defScope (stm A 11)) 0 [] .none .none .none .none none .none .none 0)) #[])
def o_118 (A : AT) (P : Params) : Obj := (Obj.mk (.type (t A 7)) none (.fields #[(.str (s A 31) 269), (.str (s A 31) 270), (.str (s A 10) 271), (.int 19 0), (.int 1 0), (.int 0 0), (.int 0 0), (.int 3 0), (.ref 73), (.bool true), (.int 181 0), (.ref 74), .none, .none, .none, (.ref 75), (.int 272 0), (.int 19 0), (.str (s A 10) 273)]) #[])
def o_119 (A : AT) (P : Params) : Obj := (Obj.mk (.type (t A 5)) none (.func (FuncData.mk (s A 31) (s A 31) (defArgs (stm A 11)) (FuncBody.stmts (defBody (stm A 11))) (defScope (stm A 11)) 3 [] .none .none .none (.str (s A 105) 263) none (.ref 76) .none 0)) #[])
def o_120 (A : AT) (P : Params) : Obj := (Obj.mk (.type (t A 8)) none (.dict #[(DictEntry.mk (keyHash P (s A 13)) (.str (s A 13) 165) (.str (s A 3) 316)), (DictEntry.mk (keyHash P (s A 14)) (.str (s A 14) 166) .none), (DictEntry.mk (keyHash P (s A 15)) (.str (s A 15) 167) .none), (DictEntry.mk (keyHash P (s A 16)) (.str (s A 16) 168) (.builtin (t A 9))), (DictEntry.mk (keyHash P (s A 17)) (.str (s A 17) 169) .none), (DictEntry.mk (keyHash P (s A 18)) (.str (s A 18) 170) (.ref 6)), (DictEntry.mk (keyHash P (s A 19)) (.str (s A 19) 171) (.ref 4)), (DictEntry.mk (keyHash P (s A 20)) (.str (s A 20) 173) (.str (s A 10) 172)), (DictEntry.mk (keyHash P (s A 21)) (.str (s A 21) 174) .none), (DictEntry.mk (keyHash P (s A 22)) (.str (s A 22) 193) (.ref 21)), (DictEntry.mk (keyHash P (s A 23)) (.str (s A 23) 213) (.ref 31)), (DictEntry.mk (keyHash P (s A 24)) (.str (s A 24) 229) (.ref 44)), (DictEntry.mk (keyHash P (s A 25)) (.str (s A 25) 245) (.ref 56)), (DictEntry.mk (keyHash P (s A 26)) (.str (s A 26) 254) (.ref 65)), (DictEntry.mk (keyHash P (s A 27)) (.str (s A 27) 262) (.ref 72)), (DictEntry.mk (keyHash P (s A 28)) (.str (s A 28) 266) (.str (s A 29) 265)), (DictEntry.mk (keyHash P (s A 30)) (.str (s A 30) 268) (.int 8 267)), (DictEntry.mk (keyHash P (s A 31)) (.str (s A 31) 274) (.ref 77)), (DictEntry.mk (keyHash P (s A 32)) (.str (s A 32) 307) (.ref 94)), (DictEntry.mk (keyHash P (s A 33)) (.str (s A 33) 315) (.ref 103))] 20) #[])
def o_121 (A : AT) (P : Params) : Obj := (Obj.mk .none none (.fields #[(.int 1 0), (.int 0 0), (.ref 20), (.int 5 0), (.int 0 0), (.ref 27), (.int 7 0), (.int 0 0), (.ref 40), (.int 9 0), (.int 0 0), (.ref 52), (.int 12 0), (.int 0 0), (.ref 64), (.int 14 0), (.int 0 0), (.ref 71), (.int 19 0), (.int 0 0), (.ref 76), (.int 23 0), (.int 0 0), (.ref 83), (.int 34 0), (.int 0 0), (.ref 102)]) #[])
def o_122 (A : AT) (P : Params) : Obj := (Obj.mk (.type (t A 6)) none (.seq #[] 0) #[])
def o_123 (A : AT) (P : Params) : Obj := (Obj.mk (.type (t A 0)) none (.fields #[(.builtin (t A 10)), (.type (t A 2))]) #[])
def o_124 (A : AT) (P : Params) : Obj := (Obj.mk (.type (t A 8)) none (.dict #[(DictEntry.mk (keyHash P (s A 41)) (.str (s A 41) 282) (.str (s A 105) 263)), (DictEntry.mk (keyHash P (s A 47)) (.str (s A 47) 284) (.str (s A 32) 283)), (DictEntry.mk (keyHash P (s A 42)) (.str (s A 42) 286) (.int 23 285)), (DictEntry.mk (keyHash P (s A 43)) (.str (s A 43) 296) (.ref 91)), (DictEntry.mk (keyHash P (s A 44)) (.str (s A 44) 300) (.ref 92))] 5) #[])
def o_125 (A : AT) (P : Params) : Obj := (Obj.mk (.type (t A 6)) none (.seq #[] 0) #[])
def o_126 (A : AT) (P : Params) : Obj := (Obj.mk .none none (.fields #[(.int 25 0), (.int 4 0), (.ref 90)]) #[])
def o_127 (A : AT) (P : Params) : Obj := (Obj.mk (.type (t A 7)) none (.fields #[(.str (s A 32) 277), (.str (s A 32) 278), (.str (s A 10) 279), (.int 23 0), (.int 0 0), (.int 0 0), (.int 0 0), (.int 0 0), (.ref 81), (.bool false), (.int 181 0), (.ref 82), .none, .none, .none, .none, (.int 280 0), (.int 23 0), (.str (s A 10) 281)]) #[])
def o_128 (A : AT) (P : Params) : Obj := (Obj.mk (.type (t A 12)) none .plain #[(some (.ref 83)), (some (.ref 3)), (some (.ref 80)), none, (some (.str (s A 105) 263)), none, (some (.ref 0))])
def o_129 (A : AT) (P : Params) : Obj := (Obj.mk (.type (t A 6)) none (.seq #[] 0) #[])
def o_130 (A : AT) (P : Params) : Obj := (Obj.mk .none none (.fields #[]) #[])
def o_131 (A : AT) (P : Params) : Obj := (Obj.mk (.type (t A 6)) none (.seq #[(.str (s A 4) 290), (.str (s A 52) 291), (.str (s A 53) 292), (.str (s A 80) 293)] 0) #[])
def o_132 (A : AT) (P : Params) : Obj := (Obj.mk (.type (t A 6)) none (.seq #[] 0) #[])
def o_133 (A : AT) (P : Params) : Obj := (Obj.mk .none none (.func (FuncData.mk (s A 43) (s A 85) (defArgs (inClass (stm A 12) 0)) (FuncBody.stmts (defBody (inClass (stm A 12) 0))) (defScope (inClass (stm A 12) 0)) 0 [] .none .none .none .none none .none .none 0)) #[])
def o_134 (A : AT) (P : Params) : Obj := (Obj.mk (.type (t A 7)) none (.fields #[(.str (s A 43) 287), (.str (s A 85) 288), (.str (s A 10) 289), (.int 25 0), (.int 4 0), (.int 0 0), (.int 0 0), (.int 3 0), (.ref 85), (.bool true), (.int 181 0), (.ref 86), .none, (.ref 87), (.ref 88), (.ref 89), (.int 294 0), (.int 25 0), (.str (s A 10) 295)]) #[])
def o_135 (A : AT) (P : Params) : Obj := (Obj.mk (.type (t A 5)) none (.func (FuncData.mk (s A 43) (s A 85) (defArgs (inClass (stm A 12) 0)) (FuncBody.stmts (defBody (inClass (stm A 12) 0))) (defScope (inClass (stm A 12) 0)) 3 [] .none .none .none (.str (s A 105) 263) none (.ref 90) .none 0)) #[])
def o_136 (A : AT) (P : Params) : Obj := (Obj.mk (.type (t A 6)) none (.seq #[(.str (s A 52) 297), (.str (s A 53) 298), (.str (s A 80) 299)] 0) #[])
def o_137 (A : AT) (P : Params) : Obj := (Obj.mk (.type (t A 8)) none (.dict #[(DictEntry.mk (keyHash P (s A 41)) (.str (s A 41) 282) (.str (s A 105) 263)), (DictEntry.mk (keyHash P (s A 42)) (.str (s A 42) 286) (.int 23 285)), (DictEntry.mk (keyHash P (s A 43)) (.str (s A 43) 296) (.ref 91)), (DictEntry.mk (keyHash P (s A 44)) (.str (s A 44) 300) (.ref 92)), (DictEntry.mk (keyHash P (s A 118)) (.str (s A 118) 302) (.ref 95)), (DictEntry.mk (keyHash P (s A 64)) (.str (s A 64) 304) (.ref 96)), (DictEntry.mk (keyHash P (s A 14)) (.str (s A 14) 305) .none)] 4) #[])
def o_138 (A : AT) (P : Params) : Obj := (Obj.mk (.type (t A 2)) none (.cls (ClassData.mk (s A 32) [(.type (t A 3))] [(.ref 94), (.type (t A 3))] 93 (s A 32) true [] [] false none false)) #[none, none, (some (.str (s A 32) 275)), (some (.str (s A 32) 283)), (some (.builtin (t A 4))), (some (.bool true))])
def o_139 (A : AT) (P : Params) : Obj := (Obj.mk (.type (t A 13)) none (.fields #[(.str (s A 118) 301), (.ref 94), (.builtin (t A 19)), (.builtin (t A 20))]) #[])
def o_140 (A : AT) (P : Params) : Obj := (Obj.mk (.type (t A 13)) none (.fields #[(.str (s A 64) 303), (.ref 94), (.builtin (t A 14)), .none]) #[])
def o_141 (A : AT) (P : Params) : Obj := (Obj.mk (.type (t A 11)) none (.fields #[(.ref 94), (.ref 94), (.ref 94)]) #[])
def o_142 (A : AT) (P : Params) : Obj := (Obj.mk (.type (t A 0)) none (.fields #[(.builtin (t A 1)), (.ref 94)]) #[])
def o_143 (A : AT) (P : Params) : Obj := (Obj.mk (.type (t A 6)) none (.seq #[] 0) #[])
def o_144 (A : AT) (P : Params) : Obj := (Obj.mk .none none (.fields #[]) #[])
def o_145 (A : AT) (P : Params) : Obj := (Obj.mk .none none (.func (FuncData.mk (s A 33) (s A 33) (defArgs (stm A 14)) (FuncBody.stmts (defBody (stm A 14))) (defScope (stm A 14)) 0 [] .none .none .none .none none .none .none 0)) #[])
def o_146 (A : AT) (P : Params) : Obj := (Obj.mk (.type (t A 7)) none (.fields #[(.str (s A 33) 310), (.str (s A 33) 311), (.str (s A 10) 312), (.int 34 0), (.int 1 0), (.int 0 0), (.int 0 0), (.int 3 0), (.ref 99), (.bool true), (.int 181 0), (.ref 100), .none, .none, .none, (.ref 101), (.int 313 0), (.int 34 0), (.str (s A 10) 314)]) #[])
def o_147 (A : AT) (P : Params) : Obj := (Obj.mk (.type (t A 5)) none (.func (FuncData.mk (s A 33) (s A 33) (defArgs (stm A 14)) (FuncBody.stmts (defBody (stm A 14))) (defScope (stm A 14)) 3 [] .none .none .none (.str (s A 46) 308) none (.ref 102) .none 0)) #[])
def o_148 (A : AT) (P : Params) : Obj := (Obj.mk (.type (t A 8)) none (.dict #[(DictEntry.mk (keyHash P (s A 13)) (.str (s A 13) 165) (.str (s A 3) 316)), (DictEntry.mk (keyHash P (s A 14)) (.str (s A 14) 166) .none), (DictEntry.mk (keyHash P (s A 15)) (.str (s A 15) 167) .none), (DictEntry.mk (keyHash P (s A 16)) (.str (s A 16) 168) (.builtin (t A 9))), (DictEntry.mk (keyHash P (s A 17)) (.str (s A 17) 169) .none), (DictEntry.mk (keyHash P (s A 18)) (.str (s A 18) 170) (.ref 6)), (DictEntry.mk (keyHash P (s A 19)) (.str (s A 19) 171) (.ref 4)), (DictEntry.mk (keyHash P (s A 20)) (.str (s A 20) 173) (.str (s A 10) 172)), (DictEntry.mk (keyHash P (s A 21)) (.str (s A 21) 174) .none), (DictEntry.mk (keyHash P (s A 22)) (.str (s A 22) 193) (.ref 21)), (DictEntry.mk (keyHash P (s A 23)) (.str (s A 23) 213) (.ref 31)), (DictEntry.mk (keyHash P (s A 24)) (.str (s A 24) 229) (.ref 44)), (DictEntry.mk (keyHash P (s A 25)) (.str (s A 25) 245) (.ref 56)), (DictEntry.mk (keyHash P (s A 26)) (.str (s A 26) 254) (.ref 65)), (DictEntry.mk (keyHash P (s A 27)) (.str (s A 27) 262) (.ref 72)), (DictEntry.mk (keyHash P (s A 28)) (.str (s A 28) 266) (.str (s A 29) 265)), (DictEntry.mk (keyHash P (s A 30)) (.str (s A 30) 268) (.int 8 267)), (DictEntry.mk (keyHash P (s A 31)) (.str (s A 31) 274) (.ref 77)), (DictEntry.mk (keyHash P (s A 32)) (.str (s A 32) 307) (.ref 94)), (DictEntry.mk (keyHash P (s A 33)) (.str (s A 33) 315) (.ref 103)), (DictEntry.mk (keyHash P (s A 0)) (.str (s A 0) 337) (.ref 113))] 21) #[])
def o_149 (A : AT) (P : Params) : Obj := (Obj.mk .none none (.fields #[(.int 1 0), (.int 0 0), (.ref 20), (.int 5 0), (.int 0 0), (.ref 27), (.int 7 0), (.int 0 0), (.ref 40), (.int 9 0), (.int 0 0), (.ref 52), (.int 12 0), (.int 0 0), (.ref 64), (.int 14 0), (.int 0 0), (.ref 71), (.int 19 0), (.int 0 0), (.ref 76), (.int 23 0), (.int 0 0), (.ref 83), (.int 34 0), (.int 0 0), (.ref 102), (.int 39 0), (.int 0 0), (.ref 109)]) #[])
def o_150 (A : AT) (P : Params) : Obj := (Obj.mk (.type (t A 6)) none (.seq #[] 0) #[])
def o_151 (A : AT) (P : Params) : Obj := (Obj.mk (.type (t A 0)) none (.fields #[(.builtin (t A 10)), (.type (t A 2))]) #[])
def o_152 (A : AT) (P : Params) : Obj := (Obj.mk (.type (t A 8)) none (.dict #[(DictEntry.mk (keyHash P (s A 41)) (.str (s A 41) 325) (.str (s A 3) 316)), (DictEntry.mk (keyHash P (s A 47)) (.str (s A 47) 327) (.str (s A 0) 326)), (DictEntry.mk (keyHash P (s A 42)) (.str (s A 42) 329) (.int 39 328)), (DictEntry.mk (keyHash P (s A 44)) (.str (s A 44) 330) (.ref 111))] 4) #[])
def o_153 (A : AT) (P : Params) : Obj := (Obj.mk (.type (t A 6)) none (.seq #[] 0) #[])
def o_154 (A : AT) (P : Params) : Obj := (Obj.mk .none none (.fields #[]) #[])
def o_155 (A : AT) (P : Params) : Obj := (Obj.mk (.type (t A 7)) none (.fields #[(.str (s A 0) 320), (.str (s A 0) 321), (.str (s A 10) 322), (.int 39 0), (.int 0 0), (.int 0 0), (.int 0 0), (.int 0 0), (.ref 107), (.bool false), (.int 181 0), (.ref 108), .none, .none, .none, .none, (.int 323 0), (.int 39 0), (.str (s A 10) 324)]) #[])
def o_156 (A : AT) (P : Params) : Obj := (Obj.mk (.type (t A 12)) none .plain #[(some (.ref 109)), (some (.ref 3)), (some (.ref 106)), none, (some (.str (s A 3) 316)), none, (some (.ref 0))])
def o_157 (A : AT) (P : Params) : Obj := (Obj.mk (.type (t A 6)) none (.seq #[] 0) #[])
def o_158 (A : AT) (P : Params) : Obj := (Obj.mk (.type (t A 8)) none (.dict #[(DictEntry.mk (keyHash P (s A 41)) (.str (s A 41) 325) (.str (s A 3) 316)), (DictEntry.mk (keyHash P (s A 42)) (.str (s A 42) 329) (.int 39 328)), (DictEntry.mk (keyHash P (s A 44)) (.str (s A 44) 330) (.ref 111)), (DictEntry.mk (keyHash P (s A 118)) (.str (s A 118) 332) (.ref 114)), (DictEntry.mk (keyHash P (s A 64)) (.str (s A 64) 334) (.ref 115)), (DictEntry.mk (keyHash P (s A 14)) (.str (s A 14) 335) .none)] 4) #[])
def o_159 (A : AT) (P : Params) : Obj := (Obj.mk (.type (t A 2)) none (.cls (ClassData.mk (s A 0) [(.type (t A 3))] [(.ref 113), (.type (t A 3))] 112 (s A 0) true [] [] false none false)) #[none, none, (some (.str (s A 0) 318)), (some (.str (s A 0) 326)), (some (.builtin (t A 4))), (some (.bool true))])
def o_160 (A : AT) (P : Params) : Obj := (Obj.mk (.type (t A 13)) none (.fields #[(.str (s A 118) 331), (.ref 113), (.builtin (t A 19)), (.builtin (t A 20))]) #[])
def o_161 (A : AT) (P : Params) : Obj := (Obj.mk (.type (t A 13)) none (.fields #[(.str (s A 64) 333), (.ref 113), (.builtin (t A 14)), .none]) #[])
def o_162 (A : AT) (P : Params) : Obj := (Obj.mk (.type (t A 11)) none (.fields #[(.ref 113), (.ref 113), (.ref 113)]) #[])
def o_163 (A : AT) (P : Params) : Obj := (Obj.mk (.type (t A 0)) none (.fields #[(.builtin (t A 1)), (.ref 113)]) #[])
def o_164 (A : AT) (P : Params) : Obj := (Obj.mk (.type (t A 8)) none (.dict #[(DictEntry.mk (keyHash P (s A 13)) (.str (s A 13) 165) (.str (s A 3) 316)), (DictEntry.mk (keyHash P (s A 14)) (.str (s A 14) 166) .none), (DictEntry.mk (keyHash P (s A 15)) (.str (s A 15) 167) .none), (DictEntry.mk (keyHash P (s A 16)) (.str (s A 16) 168) (.builtin (t A 9))), (DictEntry.mk (keyHash P (s A 17)) (.str (s A 17) 169) .none), (DictEntry.mk (keyHash P (s A 18)) (.str (s A 18) 170) (.ref 6)), (DictEntry.mk (keyHash P (s A 19)) (.str (s A 19) 171) (.ref 4)), (DictEntry.mk (keyHash P (s A 20)) (.str (s A 20) 173) (.str (s A 10) 172)), (DictEntry.mk (keyHash P (s A 21)) (.str (s A 21) 174) .none), (DictEntry.mk (keyHash P (s A 22)) (.str (s A 22) 193) (.ref 21)), (DictEntry.mk (keyHash P (s A 23)) (.str (s A 23) 213) (.ref 31)), (DictEntry.mk (keyHash P (s A 24)) (.str (s A 24) 229) (.ref 44)), (DictEntry.mk (keyHash P (s A 25)) (.str (s A 25) 245) (.ref 56)), (DictEntry.mk (keyHash P (s A 26)) (.str (s A 26) 254) (.ref 65)), (DictEntry.mk (keyHash P (s A 27)) (.str (s A 27) 262) (.ref 72)), (DictEntry.mk (keyHash P (s A 28)) (.str (s A 28) 266) (.str (s A 29) 265)), (DictEntry.mk (keyHash P (s A 30)) (.str (s A 30) 268) (.int 8 267)), (DictEntry.mk (keyHash P (s A 31)) (.str (s A 31) 274) (.ref 77)), (DictEntry.mk (keyHash P (s A 32)) (.str (s A 32) 307) (.ref 94)), (DictEntry.mk (keyHash P (s A 33)) (.str (s A 33) 315) (.ref 103)), (DictEntry.mk (keyHash P (s A 0)) (.str (s A 0) 337) (.ref 113)), (DictEntry.mk (keyHash P (s A 34)) (.str (s A 34) 381) (.ref 148))] 22) #[])
def o_165 (A : AT) (P : Params) : Obj := (Obj.mk .none none (.fields #[(.int 1 0), (.int 0 0), (.ref 20), (.int 5 0), (.int 0 0), (.ref 27), (.int 7 0), (.int 0 0), (.ref 40), (.int 9 0), (.int 0 0), (.ref 52), (.int 12 0), (.int 0 0), (.ref 64), (.int 14 0), (.int 0 0), (.ref 71), (.int 19 0), (.int 0 0), (.ref 76), (.int 23 0), (.int 0 0), (.ref 83), (.int 34 0), (.int 0 0), (.ref 102), (.int 39 0), (.int 0 0), (.ref 109), (.int 41 0), (.int 0 0), (.ref 123)]) #[])
def o_166 (A : AT) (P : Params) : Obj := (Obj.mk (.type (t A 2)) none (.cls (ClassData.mk (s A 0) [(.type (t A 3))] [(.ref 113), (.type (t A 3))] 112 (s A 0) true [] [(.ref 148)] false none false)) #[none, none, (some (.str (s A 0) 318)), (some (.str (s A 0) 326)), (some (.builtin (t A 4))), (some (.bool true))])
def o_167 (A : AT) (P : Params) : Obj := (Obj.mk (.type (t A 6)) none (.seq #[(.ref 113)] 0) #[])
def o_168 (A : AT) (P : Params) : Obj := (Obj.mk (.type (t A 0)) none (.fields #[(.builtin (t A 10)), (.type (t A 2))]) #[])
def o_169 (A : AT) (P : Params) : Obj := (Obj.mk (.type (t A 8)) none (.dict #[(DictEntry.mk (keyHash P (s A 41)) (.str (s A 41) 345) (.str (s A 3) 316)), (DictEntry.mk (keyHash P (s A 47)) (.str (s A 47) 347) (.str (s A 34) 346)), (DictEntry.mk (keyHash P (s A 42)) (.str (s A 42) 349) (.int 41 348)), (DictEntry.mk (keyHash P (s A 11)) (.str (s A 11) 357) (.ref 131)), (DictEntry.mk (keyHash P (s A 1)) (.str (s A 1) 367) (.ref 138)), (DictEntry.mk (keyHash P (s A 8)) (.str (s A 8) 377) (.ref 145)), (DictEntry.mk (keyHash P (s A 44)) (.str (s A 44) 378) (.ref 146))] 7) #[])
def o_170 (A : AT) (P : Params) : Obj := (Obj.mk (.type (t A 6)) none (.seq #[] 0) #[])
def o_171 (A : AT) (P : Params) : Obj := (Obj.mk .none none (.fields #[(.int 43 0), (.int 4 0), (.ref 130), (.int 46 0), (.int 4 0), (.ref 137), (.int 49 0), (.int 4 0), (.ref 144)]) #[])
def o_172 (A : AT) (P : Params) : Obj := (Obj.mk (.type (t A 7)) none (.fields #[(.str (s A 34) 340), (.str (s A 34) 341), (.str (s A 10) 342), (.int 41 0), (.int 0 0), (.int 0 0), (.int 0 0), (.int 0 0), (.ref 121), (.bool false), (.int 181 0), (.ref 122), .none, .none, .none, .none, (.int 343 0), (.int 41 0), (.str (s A 10) 344)]) #[])
def o_173 (A : AT) (P : Params) : Obj := (Obj.mk (.type (t A 12)) none .plain #[(some (.ref 123)), (some (.ref 3)), (some (.ref 120)), none, (some (.str (s A 3) 316)), none, (some (.ref 0))])
def o_174 (A : AT) (P : Params) : Obj := (Obj.mk (.type (t A 6)) none (.seq #[] 0) #[])
def o_175 (A : AT) (P : Params) : Obj := (Obj.mk .none none (.fields #[]) #[])
def o_176 (A : AT) (P : Params) : Obj := (Obj.mk (.type (t A 6)) none (.seq #[(.str (s A 4) 353), (.str (s A 101) 354)] 0) #[])
def o_177 (A : AT) (P : Params) : Obj := (Obj.mk (.type (t A 6)) none (.seq #[] 0) #[])
def o_178 (A : AT) (P : Params) : Obj := (Obj.mk .none none (.func (FuncData.mk (s A 11) (s A 12) (defArgs (inClass (stm A 17) 0)) (FuncBody.stmts (defBody (inClass (stm A 17) 0))) (defScope (inClass (stm A 17) 0)) 0 [] .none .none .none .none none .none .none 0)) #[])
def o_179 (A : AT) (P : Params) : Obj := (Obj.mk (.type (t A 7)) none (.fields #[(.str (s A 11) 350), (.str (s A 12) 351), (.str (s A 10) 352), (.int 43 0), (.int 2 0), (.int 0 0), (.int 0 0), (.int 3 0), (.ref 125), (.bool true), (.int 181 0), (.ref 126), .none, (.ref 127), (.ref 128), (.ref 129), (.int 355 0), (.int 43 0), (.str (s A 10) 356)]) #[])
def o_180 (A : AT) (P : Params) : Obj := (Obj.mk (.type (t A 5)) none (.func (FuncData.mk (s A 11) (s A 12) (defArgs (inClass (stm A 17) 0)) (FuncBody.stmts (defBody (inClass (stm A 17) 0))) (defScope (inClass (stm A 17) 0)) 3 [] .none .none .none (.str (s A 3) 316) none (.ref 130) .none 0)) #[])
def o_181 (A : AT) (P : Params) : Obj := (Obj.mk (.type (t A 6)) none (.seq #[] 0) #[])
def o_182 (A : AT) (P : Params) : Obj := (Obj.mk .none none (.fields #[]) #[])
def o_183 (A : AT) (P : Params) : Obj := (Obj.mk (.type (t A 6)) none (.seq #[(.str (s A 4) 361), (.str (s A 5) 362), (.str (s A 6) 363), (.str (s A 7) 364)] 0) #[])
def o_184 (A : AT) (P : Params) : Obj := (Obj.mk (.type (t A 6)) none (.seq #[] 0) #[])
def o_185 (A : AT) (P : Params) : Obj := (Obj.mk .none none (.func (FuncData.mk (s A 1) (s A 2) (defArgs (inClass (stm A 17) 1)) (FuncBody.stmts (defBody (inClass (stm A 17) 1))) (defScope (inClass (stm A 17) 1)) 0 [] .none .none .none .none none .none .none 0)) #[])
def o_186 (A : AT) (P : Params) : Obj := (Obj.mk (.type (t A 7)) none (.fields #[(.str (s A 1) 358), (.str (s A 2) 359), (.str (s A 10) 360), (.int 46 0), (.int 4 0), (.int 0 0), (.int 0 0), (.int 3 0), (.ref 132), (.bool true), (.int 181 0), (.ref 133), .none, (.ref 134), (.ref 135), (.ref 136), (.int 365 0), (.int 46 0), (.str (s A 10) 366)]) #[])
def o_187 (A : AT) (P : Params) : Obj := (Obj.mk (.type (t A 5)) none (.func (FuncData.mk (s A 1) (s A 2) (defArgs (inClass (stm A 17) 1)) (FuncBody.stmts (defBody (inClass (stm A 17) 1))) (defScope (inClass (stm A 17) 1)) 3 [] .none .none .none (.str (s A 3) 316) none (.ref 137) .none 0)) #[])
def o_188 (A : AT) (P : Params) : Obj := (Obj.mk (.type (t A 6)) none (.seq #[] 0) #[])
def o_189 (A : AT) (P : Params) : Obj := (Obj.mk .none none (.fields #[]) #[])
def o_190 (A : AT) (P : Params) : Obj := (Obj.mk (.type (t A 6)) none (.seq #[(.str (s A 4) 371), (.str (s A 52) 372), (.str (s A 53) 373), (.str (s A 54) 374)] 0) #[])
def o_191 (A : AT) (P : Params) : Obj := (Obj.mk (.type (t A 6)) none (.seq #[] 0) #[])
def o_192 (A : AT) (P : Params) : Obj := (Obj.mk .none none (.func (FuncData.mk (s A 8) (s A 95) (defArgs (inClass (stm A 17) 2)) (FuncBody.stmts (defBody (inClass (stm A 17) 2))) (defScope (inClass (stm A 17) 2)) 0 [] .none .none .none .none none .none .none 0)) #[])
def o_193 (A : AT) (P : Params) : Obj := (Obj.mk (.type (t A 7)) none (.fields #[(.str (s A 8) 368), (.str (s A 95) 369), (.str (s A 10) 370), (.int 49 0), (.int 4 0), (.int 0 0), (.int 0 0), (.int 3 0), (.ref 139), (.bool true), (.int 181 0), (.ref 140), .none, (.ref 141), (.ref 142), (.ref 143), (.int 375 0), (.int 49 0), (.str (s A 10) 376)]) #[])
def o_194 (A : AT) (P : Params) : Obj := (Obj.mk (.type (t A 5)) none (.func (FuncData.mk (s A 8) (s A 95) (defArgs (inClass (stm A 17) 2)) (FuncBody.stmts (defBody (inClass (stm A 17) 2))) (defScope (inClass (stm A 17) 2)) 3 [] .none .none .none (.str (s A 3) 316) none (.ref 144) .none 0)) #[])
def o_195 (A : AT) (P : Params) : Obj := (Obj.mk (.type (t A 6)) none (.seq #[] 0) #[])
def o_196 (A : AT) (P : Params) : Obj := (Obj.mk (.type (t A 8)) none (.dict #[(DictEntry.mk (keyHash P (s A 41)) (.str (s A 41) 345) (.str (s A 3) 316)), (DictEntry.mk (keyHash P (s A 42)) (.str (s A 42) 349) (.int 41 348)), (DictEntry.mk (keyHash P (s A 11)) (.str (s A 11) 357) (.ref 131)), (DictEntry.mk (keyHash P (s A 1)) (.str (s A 1) 367) (.ref 138)), (DictEntry.mk (keyHash P (s A 8)) (.str (s A 8) 377) (.ref 145)), (DictEntry.mk (keyHash P (s A 44)) (.str (s A 44) 378) (.ref 146)), (DictEntry.mk (keyHash P (s A 14)) (.str (s A 14) 379) .none)] 2) #[])
def o_197 (A : AT) (P : Params) : Obj := (Obj.mk (.type (t A 2)) none (.cls (ClassData.mk (s A 34) [(.ref 113)] [(.ref 148), (.ref 113), (.type (t A 3))] 147 (s A 34) true [] [] false none false)) #[(some (.ref 118)), none, (some (.str (s A 34) 338)), (some (.str (s A 34) 346)), (some (.builtin (t A 4))), (some (.bool true))])
def o_198 (A : AT) (P : Params) : Obj := (Obj.mk (.type (t A 11)) none (.fields #[(.ref 148), (.ref 148), (.ref 148)]) #[])
def o_199 (A : AT) (P : Params) : Obj := (Obj.mk (.type (t A 0)) none (.fields #[(.builtin (t A 1)), (.ref 148)]) #[])
def o_200 (A : AT) (P : Params) : Obj := (Obj.mk (.type (t A 8)) none (.dict #[(DictEntry.mk (keyHash P (s A 13)) (.str (s A 13) 165) (.str (s A 3) 316)), (DictEntry.mk (keyHash P (s A 14)) (.str (s A 14) 166) .none), (DictEntry.mk (keyHash P (s A 15)) (.str (s A 15) 167) .none), (DictEntry.mk (keyHash P (s A 16)) (.str (s A 16) 168) (.builtin (t A 9))), (DictEntry.mk (keyHash P (s A 17)) (.str (s A 17) 169) .none), (DictEntry.mk (keyHash P (s A 18)) (.str (s A 18) 170) (.ref 6)), (DictEntry.mk (keyHash P (s A 19)) (.str (s A 19) 171) (.ref 4)), (DictEntry.mk (keyHash P (s A 20)) (.str (s A 20) 173) (.str (s A 10) 172)), (DictEntry.mk (keyHash P (s A 21)) (.str (s A 21) 174) .none), (DictEntry.mk (keyHash P (s A 22)) (.str (s A 22) 193) (.ref 21)), (DictEntry.mk (keyHash P (s A 23)) (.str (s A 23) 213) (.ref 31)), (DictEntry.mk (keyHash P (s A 24)) (.str (s A 24) 229) (.ref 44)), (DictEntry.mk (keyHash P (s A 25)) (.str (s A 25) 245) (.ref 56)), (DictEntry.mk (keyHash P (s A 26)) (.str (s A 26) 254) (.ref 65)), (DictEntry.mk (keyHash P (s A 27)) (.str (s A 27) 262) (.ref 72)), (DictEntry.mk (keyHash P (s A 28)) (.str (s A 28) 266) (.str (s A 29) 265)), (DictEntry.mk (keyHash P (s A 30)) (.str (s A 30) 268) (.int 8 267)), (DictEntry.mk (keyHash P (s A 31)) (.str (s A 31) 274) (.ref 77)), (DictEntry.mk (keyHash P (s A 32)) (.str (s A 32) 307) (.ref 94)), (DictEntry.mk (keyHash P (s A 33)) (.str (s A 33) 315) (.ref 103)), (DictEntry.mk (keyHash P (s A 0)) (.str (s A 0) 337) (.ref 113)), (DictEntry.mk (keyHash P (s A 34)) (.str (s A 34) 381) (.ref 148)), (DictEntry.mk (keyHash P (s A 35)) (.str (s A 35) 434) (.ref 188))] 23) #[])
def o_201 (A : AT) (P : Params) : Obj := (Obj.mk .none none (.fields #[(.int 1 0), (.int 0 0), (.ref 20), (.int 5 0), (.int 0 0), (.ref 27), (.int 7 0), (.int 0 0), (.ref 40), (.int 9 0), (.int 0 0), (.ref 52), (.int 12 0), (.int 0 0), (.ref 64), (.int 14 0), (.int 0 0), (.ref 71), (.int 19 0), (.int 0 0), (.ref 76), (.int 23 0), (.int 0 0), (.ref 83), (.int 34 0), (.int 0 0), (.ref 102), (.int 39 0), (.int 0 0), (.ref 109), (.int 41 0), (.int 0 0), (.ref 123), (.int 51 0), (.int 0 0), (.ref 156)]) #[])
def o_202 (A : AT) (P : Params) : Obj := (Obj.mk (.type (t A 2)) none (.cls (ClassData.mk (s A 0) [(.type (t A 3))] [(.ref 113), (.type (t A 3))] 112 (s A 0) true [] [(.ref 148), (.ref 188)] false none false)) #[none, none, (some (.str (s A 0) 318)), (some (.str (s A 0) 326)), (some (.builtin (t A 4))), (some (.bool true))])
def o_203 (A : AT) (P : Params) : Obj := (Obj.mk (.type (t A 6)) none (.seq #[(.ref 113)] 0) #[])
def o_204 (A : AT) (P : Params) : Obj := (Obj.mk (.type (t A 0)) none (.fields #[(.builtin (t A 10)), (.type (t A 2))]) #[])
def o_205 (A : AT) (P : Params) : Obj := (Obj.mk (.type (t A 8)) none (.dict #[(DictEntry.mk (keyHash P (s A 41)) (.str (s A 41) 389) (.str (s A 3) 316)), (DictEntry.mk (keyHash P (s A 47)) (.str (s A 47) 391) (.str (s A 35) 390)), (DictEntry.mk (keyHash P (s A 42)) (.str (s A 42) 393) (.int 51 392)), (DictEntry.mk (keyHash P (s A 43)) (.str (s A 43) 401) (.ref 164)), (DictEntry.mk (keyHash P (s A 11)) (.str (s A 11) 409) (.ref 171)), (DictEntry.mk (keyHash P (s A 1)) (.str (s A 1) 419) (.ref 178)), (DictEntry.mk (keyHash P (s A 8)) (.str (s A 8) 429) (.ref 185)), (DictEntry.mk (keyHash P (s A 44)) (.str (s A 44) 431) (.ref 186))] 8) #[])
def o_206 (A : AT) (P : Params) : Obj := (Obj.mk (.type (t A 6)) none (.seq #[] 0) #[])
def o_207 (A : AT) (P : Params) : Obj := (Obj.mk .none none (.fields #[(.int 53 0), (.int 4 0), (.ref 163), (.int 57 0), (.int 4 0), (.ref 170), (.int 60 0), (.int 4 0), (.ref 177), (.int 63 0), (.int 4 0), (.ref 184)]) #[])
def o_208 (A : AT) (P : Params) : Obj := (Obj.mk (.type (t A 7)) none (.fields #[(.str (s A 35) 384), (.str (s A 35) 385), (.str (s A 10) 386), (.int 51 0), (.int 0 0), (.int 0 0), (.int 0 0), (.int 0 0), (.ref 154), (.bool false), (.int 181 0), (.ref 155), .none, .none, .none, .none, (.int 387 0), (.int 51 0), (.str (s A 10) 388)]) #[])
def o_209 (A : AT) (P : Params) : Obj := (Obj.mk (.type (t A 12)) none .plain #[(some (.ref 156)), (some (.ref 3)), (some (.ref 153)), none, (some (.str (s A 3) 316)), none, (some (.ref 0))])
def o_210 (A : AT) (P : Params) : Obj := (Obj.mk (.type (t A 6)) none (.seq #[] 0) #[])
def o_211 (A : AT) (P : Params) : Obj := (Obj.mk .none none (.fields #[]) #[])
def o_212 (A : AT) (P : Params) : Obj := (Obj.mk (.type (t A 6)) none (.seq #[(.str (s A 4) 397), (.str (s A 88) 398)] 0) #[])
def o_213 (A : AT) (P : Params) : Obj := (Obj.mk (.type (t A 6)) none (.seq #[] 0) #[])
def o_214 (A : AT) (P : Params) : Obj := (Obj.mk .none none (.func (FuncData.mk (s A 43) (s A 99) (defArgs (inClass (stm A 18) 0)) (FuncBody.stmts (defBody (inClass (stm A 18) 0))) (defScope (inClass (stm A 18) 0)) 0 [] .none .none .none .none none .none .none 0)) #[])
def o_215 (A : AT) (P : Params) : Obj := (Obj.mk (.type (t A 7)) none (.fields #[(.str (s A 43) 394), (.str (s A 99) 395), (.str (s A 10) 396), (.int 53 0), (.int 2 0), (.int 0 0), (.int 0 0), (.int 3 0), (.ref 158), (.bool true), (.int 181 0), (.ref 159), .none, (.ref 160), (.ref 161), (.ref 162), (.int 399 0), (.int 53 0), (.str (s A 10) 400)]) #[])
def o_216 (A : AT) (P : Params) : Obj := (Obj.mk (.type (t A 5)) none (.func (FuncData.mk (s A 43) (s A 99) (defArgs (inClass (stm A 18) 0)) (FuncBody.stmts (defBody (inClass (stm A 18) 0))) (defScope (inClass (stm A 18) 0)) 3 [] .none .none .none (.str (s A 3) 316) none (.ref 163) .none 0)) #[])
def o_217 (A : AT) (P : Params) : Obj := (Obj.mk (.type (t A 6)) none (.seq #[] 0) #[])
def o_218 (A : AT) (P : Params) : Obj := (Obj.mk .none none (.fields #[]) #[])
def o_219 (A : AT) (P : Params) : Obj := (Obj.mk (.type (t A 6)) none (.seq #[(.str (s A 4) 405), (.str (s A 101) 406)] 0) #[])
def o_220 (A : AT) (P : Params) : Obj := (Obj.mk (.type (t A 6)) none (.seq #[] 0) #[])
def o_221 (A : AT) (P : Params) : Obj := (Obj.mk .none none (.func (FuncData.mk (s A 11) (s A 59) (defArgs (inClass (stm A 18) 1)) (FuncBody.stmts (defBody (inClass (stm A 18) 1))) (defScope (inClass (stm A 18) 1)) 0 [] .none .none .none .none none .none .none 0)) #[])
def o_222 (A : AT) (P : Params) : Obj := (Obj.mk (.type (t A 7)) none (.fields #[(.str (s A 11) 402), (.str (s A 59) 403), (.str (s A 10) 404), (.int 57 0), (.int 2 0), (.int 0 0), (.int 0 0), (.int 3 0), (.ref 165), (.bool true), (.int 181 0), (.ref 166), .none, (.ref 167), (.ref 168), (.ref 169), (.int 407 0), (.int 57 0), (.str (s A 10) 408)]) #[])
def o_223 (A : AT) (P : Params) : Obj := (Obj.mk (.type (t A 5)) none (.func (FuncData.mk (s A 11) (s A 59) (defArgs (inClass (stm A 18) 1)) (FuncBody.stmts (defBody (inClass (stm A 18) 1))) (defScope (inClass (stm A 18) 1)) 3 [] .none .none .none (.str (s A 3) 316) none (.ref 170) .none 0)) #[])
def o_224 (A : AT) (P : Params) : Obj := (Obj.mk (.type (t A 6)) none (.seq #[] 0) #[])
def o_225 (A : AT) (P : Params) : Obj := (Obj.mk .none none (.fields #[]) #[])
def o_226 (A : AT) (P : Params) : Obj := (Obj.mk (.type (t A 6)) none (.seq #[(.str (s A 4) 413), (.str (s A 5) 414), (.str (s A 6) 415), (.str (s A 7) 416)] 0) #[])
def o_227 (A : AT) (P : Params) : Obj := (Obj.mk (.type (t A 6)) none (.seq #[] 0) #[])
def o_228 (A : AT) (P : Params) : Obj := (Obj.mk .none none (.func (FuncData.mk (s A 1) (s A 127) (defArgs (inClass (stm A 18) 2)) (FuncBody.stmts (defBody (inClass (stm A 18) 2))) (defScope (inClass (stm A 18) 2)) 0 [] .none .none .none .none none .none .none 0)) #[])
def o_229 (A : AT) (P : Params) : Obj := (Obj.mk (.type (t A 7)) none (.fields #[(.str (s A 1) 410), (.str (s A 127) 411), (.str (s A 10) 412), (.int 60 0), (.int 4 0), (.int 0 0), (.int 0 0), (.int 3 0), (.ref 172), (.bool true), (.int 181 0), (.ref 173), .none, (.ref 174), (.ref 175), (.ref 176), (.int 417 0), (.int 60 0), (.str (s A 10) 418)]) #[])
def o_230 (A : AT) (P : Params) : Obj := (Obj.mk (.type (t A 5)) none (.func (FuncData.mk (s A 1) (s A 127) (defArgs (inClass (stm A 18) 2)) (FuncBody.stmts (defBody (inClass (stm A 18) 2))) (defScope (inClass (stm A 18) 2)) 3 [] .none .none .none (.str (s A 3) 316) none (.ref 177) .none 0)) #[])
def o_231 (A : AT) (P : Params) : Obj := (Obj.mk (.type (t A 6)) none (.seq #[] 0) #[])
def o_232 (A : AT) (P : Params) : Obj := (Obj.mk .none none (.fields #[]) #[])
def o_233 (A : AT) (P : Params) : Obj := (Obj.mk (.type (t A 6)) none (.seq #[(.str (s A 4) 423), (.str (s A 52) 424), (.str (s A 53) 425), (.str (s A 54) 426)] 0) #[])
def o_234 (A : AT) (P : Params) : Obj := (Obj.mk (.type (t A 6)) none (.seq #[] 0) #[])
def o_235 (A : AT) (P : Params) : Obj := (Obj.mk .none none (.func (FuncData.mk (s A 8) (s A 116) (defArgs (inClass (stm A 18) 3)) (FuncBody.stmts (defBody (inClass (stm A 18) 3))) (defScope (inClass (stm A 18) 3)) 0 [] .none .none .none .none none .none .none 0)) #[])
def o_236 (A : AT) (P : Params) : Obj := (Obj.mk (.type (t A 7)) none (.fields #[(.str (s A 8) 420), (.str (s A 116) 421), (.str (s A 10) 422), (.int 63 0), (.int 4 0), (.int 0 0), (.int 0 0), (.int 3 0), (.ref 179), (.bool true), (.int 181 0), (.ref 180), .none, (.ref 181), (.ref 182), (.ref 183), (.int 427 0), (.int 63 0), (.str (s A 10) 428)]) #[])
def o_237 (A : AT) (P : Params) : Obj := (Obj.mk (.type (t A 5)) none (.func (FuncData.mk (s A 8) (s A 116) (defArgs (inClass (stm A 18) 3)) (FuncBody.stmts (defBody (inClass (stm A 18) 3))) (defScope (inClass (stm A 18) 3)) 3 [] .none .none .none (.str (s A 3) 316) none (.ref 184) .none 0)) #[])
def o_238 (A : AT) (P : Params) : Obj := (Obj.mk (.type (t A 6)) none (.seq #[(.str (s A 88) 430)] 0) #[])
def o_239 (A : AT) (P : Params) : Obj := (Obj.mk (.type (t A 8)) none (.dict #[(DictEntry.mk (keyHash P (s A 41)) (.str (s A 41) 389) (.str (s A 3) 316)), (DictEntry.mk (keyHash P (s A 42)) (.str (s A 42) 393) (.int 51 392)), (DictEntry.mk (keyHash P (s A 43)) (.str (s A 43) 401) (.ref 164)), (DictEntry.mk (keyHash P (s A 11)) (.str (s A 11) 409) (.ref 171)), (DictEntry.mk (keyHash P (s A 1)) (.str (s A 1) 419) (.ref 178)), (DictEntry.mk (keyHash P (s A 8)) (.str (s A 8) 429) (.ref 185)), (DictEntry.mk (keyHash P (s A 44)) (.str (s A 44) 431) (.ref 186)), (DictEntry.mk (keyHash P (s A 14)) (.str (s A 14) 432) .none)] 2) #[])
def o_240 (A : AT) (P : Params) : Obj := (Obj.mk (.type (t A 2)) none (.cls (ClassData.mk (s A 35) [(.ref 113)] [(.ref 188), (.ref 113), (.type (t A 3))] 187 (s A 35) true [] [] false none false)) #[(some (.ref 151)), none, (some (.str (s A 35) 382)), (some (.str (s A 35) 390)), (some (.builtin (t A 4))), (some (.bool true))])
def o_241 (A : AT) (P : Params) : Obj := (Obj.mk (.type (t A 11)) none (.fields #[(.ref 188), (.ref 188), (.ref 188)]) #[])
def o_242 (A : AT) (P : Params) : Obj := (Obj.mk (.type (t A 0)) none (.fields #[(.builtin (t A 1)), (.ref 188)]) #[])
def o_243 (A : AT) (P : Params) : Obj := (Obj.mk (.type (t A 8)) none (.dict #[(DictEntry.mk (keyHash P (s A 13)) (.str (s A 13) 165) (.str (s A 3) 316)), (DictEntry.mk (keyHash P (s A 14)) (.str (s A 14) 166) .none), (DictEntry.mk (keyHash P (s A 15)) (.str (s A 15) 167) .none), (DictEntry.mk (keyHash P (s A 16)) (.str (s A 16) 168) (.builtin (t A 9))), (DictEntry.mk (keyHash P (s A 17)) (.str (s A 17) 169) .none), (DictEntry.mk (keyHash P (s A 18)) (.str (s A 18) 170) (.ref 6)), (DictEntry.mk (keyHash P (s A 19)) (.str (s A 19) 171) (.ref 4)), (DictEntry.mk (keyHash P (s A 20)) (.str (s A 20) 173) (.str (s A 10) 172)), (DictEntry.mk (keyHash P (s A 21)) (.str (s A 21) 174) .none), (DictEntry.mk (keyHash P (s A 22)) (.str (s A 22) 193) (.ref 21)), (DictEntry.mk (keyHash P (s A 23)) (.str (s A 23) 213) (.ref 31)), (DictEntry.mk (keyHash P (s A 24)) (.str (s A 24) 229) (.ref 44)), (DictEntry.mk (keyHash P (s A 25)) (.str (s A 25) 245) (.ref 56)), (DictEntry.mk (keyHash P (s A 26)) (.str (s A 26) 254) (.ref 65)), (DictEntry.mk (keyHash P (s A 27)) (.str (s A 27) 262) (.ref 72)), (DictEntry.mk (keyHash P (s A 28)) (.str (s A 28) 266) (.str (s A 29) 265)), (DictEntry.mk (keyHash P (s A 30)) (.str (s A 30) 268) (.int 8 267)), (DictEntry.mk (keyHash P (s A 31)) (.str (s A 31) 274) (.ref 77)), (DictEntry.mk (keyHash P (s A 32)) (.str (s A 32) 307) (.ref 94)), (DictEntry.mk (keyHash P (s A 33)) (.str (s A 33) 315) (.ref 103)), (DictEntry.mk (keyHash P (s A 0)) (.str (s A 0) 337) (.ref 113)), (DictEntry.mk (keyHash P (s A 34)) (.str (s A 34) 381) (.ref 148)), (DictEntry.mk (keyHash P (s A 35)) (.str (s A 35) 434) (.ref 188)), (DictEntry.mk (keyHash P (s A 81)) (.str (s A 81) 487) (.ref 228))] 24) #[])
def o_244 (A : AT) (P : Params) : Obj := (Obj.mk .none none (.fields #[(.int 1 0), (.int 0 0), (.ref 20), (.int 5 0), (.int 0 0), (.ref 27), (.int 7 0), (.int 0 0), (.ref 40), (.int 9 0), (.int 0 0), (.ref 52), (.int 12 0), (.int 0 0), (.ref 64), (.int 14 0), (.int 0 0), (.ref 71), (.int 19 0), (.int 0 0), (.ref 76), (.int 23 0), (.int 0 0), (.ref 83), (.int 34 0), (.int 0 0), (.ref 102), (.int 39 0), (.int 0 0), (.ref 109), (.int 41 0), (.int 0 0), (.ref 123), (.int 51 0), (.int 0 0), (.ref 156), (.int 65 0), (.int 0 0), (.ref 196)]) #[])
def o_245 (A : AT) (P : Params) : Obj := (Obj.mk (.type (t A 2)) none (.cls (ClassData.mk (s A 0) [(.type (t A 3))] [(.ref 113), (.type (t A 3))] 112 (s A 0) true [] [(.ref 148), (.ref 188), (.ref 228)] false none false)) #[none, none, (some (.str (s A 0) 318)), (some (.str (s A 0) 326)), (some (.builtin (t A 4))), (some (.bool true))])
def o_246 (A : AT) (P : Params) : Obj := (Obj.mk (.type (t A 6)) none (.seq #[(.ref 113)] 0) #[])
def o_247 (A : AT) (P : Params) : Obj := (Obj.mk (.type (t A 0)) none (.fields #[(.builtin (t A 10)), (.type (t A 2))]) #[])
def o_248 (A : AT) (P : Params) : Obj := (Obj.mk (.type (t A 8)) none (.dict #[(DictEntry.mk (keyHash P (s A 41)) (.str (s A 41) 442) (.str (s A 3) 316)), (DictEntry.mk (keyHash P (s A 47)) (.str (s A 47) 444) (.str (s A 81) 443)), (DictEntry.mk (keyHash P (s A 42)) (.str (s A 42) 446) (.int 65 445)), (DictEntry.mk (keyHash P (s A 43)) (.str (s A 43) 454) (.ref 204)), (DictEntry.mk (keyHash P (s A 11)) (.str (s A 11) 462) (.ref 211)), (DictEntry.mk (keyHash P (s A 1)) (.str (s A 1) 472) (.ref 218)), (DictEntry.mk (keyHash P (s A 8)) (.str (s A 8) 482) (.ref 225)), (DictEntry.mk (keyHash P (s A 44)) (.str (s A 44) 484) (.ref 226))] 8) #[])
def o_249 (A : AT) (P : Params) : Obj := (Obj.mk (.type (t A 6)) none (.seq #[] 0) #[])
def o_250 (A : AT) (P : Params) : Obj := (Obj.mk .none none (.fields #[(.int 67 0), (.int 4 0), (.ref 203), (.int 71 0), (.int 4 0), (.ref 210), (.int 74 0), (.int 4 0), (.ref 217), (.int 77 0), (.int 4 0), (.ref 224)]) #[])
def o_251 (A : AT) (P : Params) : Obj := (Obj.mk (.type (t A 7)) none (.fields #[(.str (s A 81) 437), (.str (s A 81) 438), (.str (s A 10) 439), (.int 65 0), (.int 0 0), (.int 0 0), (.int 0 0), (.int 0 0), (.ref 194), (.bool false), (.int 181 0), (.ref 195), .none, .none, .none, .none, (.int 440 0), (.int 65 0), (.str (s A 10) 441)]) #[])
def o_252 (A : AT) (P : Params) : Obj := (Obj.mk (.type (t A 12)) none .plain #[(some (.ref 196)), (some (.ref 3)), (some (.ref 193)), none, (some (.str (s A 3) 316)), none, (some (.ref 0))])
def o_253 (A : AT) (P : Params) : Obj := (Obj.mk (.type (t A 6)) none (.seq #[] 0) #[])
def o_254 (A : AT) (P : Params) : Obj := (Obj.mk .none none (.fields #[]) #[])
def o_255 (A : AT) (P : Params) : Obj := (Obj.mk (.type (t A 6)) none (.seq #[(.str (s A 4) 450), (.str (s A 88) 451)] 0) #[])
def o_256 (A : AT) (P : Params) : Obj := (Obj.mk (.type (t A 6)) none (.seq #[] 0) #[])
def o_257 (A : AT) (P : Params) : Obj := (Obj.mk .none none (.func (FuncData.mk (s A 43) (s A 45) (defArgs (inClass (stm A 19) 0)) (FuncBody.stmts (defBody (inClass (stm A 19) 0))) (defScope (inClass (stm A 19) 0)) 0 [] .none .none .none .none none .none .none 0)) #[])
def o_258 (A : AT) (P : Params) : Obj := (Obj.mk (.type (t A 7)) none (.fields #[(.str (s A 43) 447), (.str (s A 45) 448), (.str (s A 10) 449), (.int 67 0), (.int 2 0), (.int 0 0), (.int 0 0), (.int 3 0), (.ref 198), (.bool true), (.int 181 0), (.ref 199), .none, (.ref 200), (.ref 201), (.ref 202), (.int 452 0), (.int 67 0), (.str (s A 10) 453)]) #[])
def o_259 (A : AT) (P : Params) : Obj := (Obj.mk (.type (t A 5)) none (.func (FuncData.mk (s A 43) (s A 45) (defArgs (inClass (stm A 19) 0)) (FuncBody.stmts (defBody (inClass (stm A 19) 0))) (defScope (inClass (stm A 19) 0)) 3 [] .none .none .none (.str (s A 3) 316) none (.ref 203) .none 0)) #[])
def o_260 (A : AT) (P : Params) : Obj := (Obj.mk (.type (t A 6)) none (.seq #[] 0) #[])
def o_261 (A : AT) (P : Params) : Obj := (Obj.mk .none none (.fields #[]) #[])
def o_262 (A : AT) (P : Params) : Obj := (Obj.mk (.type (t A 6)) none (.seq #[(.str (s A 4) 458), (.str (s A 101) 459)] 0) #[])
def o_263 (A : AT) (P : Params) : Obj := (Obj.mk (.type (t A 6)) none (.seq #[] 0) #[])
def o_264 (A : AT) (P : Params) : Obj := (Obj.mk .none none (.func (FuncData.mk (s A 11) (s A 57) (defArgs (inClass (stm A 19) 1)) (FuncBody.stmts (defBody (inClass (stm A 19) 1))) (defScope (inClass (stm A 19) 1)) 0 [] .none .none .none .none none .none .none 0)) #[])
def o_265 (A : AT) (P : Params) : Obj := (Obj.mk (.type (t A 7)) none (.fields #[(.str (s A 11) 455), (.str (s A 57) 456), (.str (s A 10) 457), (.int 71 0), (.int 2 0), (.int 0 0), (.int 0 0), (.int 3 0), (.ref 205), (.bool true), (.int 181 0), (.ref 206), .none, (.ref 207), (.ref 208), (.ref 209), (.int 460 0), (.int 71 0), (.str (s A 10) 461)]) #[])
def o_266 (A : AT) (P : Params) : Obj := (Obj.mk (.type (t A 5)) none (.func (FuncData.mk (s A 11) (s A 57) (defArgs (inClass (stm A 19) 1)) (FuncBody.stmts (defBody (inClass (stm A 19) 1))) (defScope (inClass (stm A 19) 1)) 3 [] .none .none .none (.str (s A 3) 316) none (.ref 210) .none 0)) #[])
def o_267 (A : AT) (P : Params) : Obj := (Obj.mk (.type (t A 6)) none (.seq #[] 0) #[])
def o_268 (A : AT) (P : Params) : Obj := (Obj.mk .none none (.fields #[]) #[])
def o_269 (A : AT) (P : Params) : Obj := (Obj.mk (.type (t A 6)) none (.seq #[(.str (s A 4) 466), (.str (s A 5) 467), (.str (s A 6) 468), (.str (s A 7) 469)] 0) #[])
def o_270 (A : AT) (P : Params) : Obj := (Obj.mk (.type (t A 6)) none (.seq #[] 0) #[])
def o_271 (A : AT) (P : Params) : Obj := (Obj.mk .none none (.func (FuncData.mk (s A 1) (s A 89) (defArgs (inClass (stm A 19) 2)) (FuncBody.stmts (defBody (inClass (stm A 19) 2))) (defScope (inClass (stm A 19) 2)) 0 [] .none .none .none .none none .none .none 0)) #[])
def o_272 (A : AT) (P : Params) : Obj := (Obj.mk (.type (t A 7)) none (.fields #[(.str (s A 1) 463), (.str (s A 89) 464), (.str (s A 10) 465), (.int 74 0), (.int 4 0), (.int 0 0), (.int 0 0), (.int 3 0), (.ref 212), (.bool true), (.int 181 0), (.ref 213), .none, (.ref 214), (.ref 215), (.ref 216), (.int 470 0), (.int 74 0), (.str (s A 10) 471)]) #[])
def o_273 (A : AT) (P : Params) : Obj := (Obj.mk (.type (t A 5)) none (.func (FuncData.mk (s A 1) (s A 89) (defArgs (inClass (stm A 19) 2)) (FuncBody.stmts (defBody (inClass (stm A 19) 2))) (defScope (inClass (stm A 19) 2)) 3 [] .none .none .none (.str (s A 3) 316) none (.ref 217) .none 0)) #[])
def o_274 (A : AT) (P : Params) : Obj := (Obj.mk (.type (t A 6)) none (.seq #[] 0) #[])
def o_275 (A : AT) (P : Params) : Obj := (Obj.mk .none none (.fields #[]) #[])
def o_276 (A : AT) (P : Params) : Obj := (Obj.mk (.type (t A 6)) none (.seq #[(.str (s A 4) 476), (.str (s A 52) 477), (.str (s A 53) 478), (.str (s A 54) 479)] 0) #[])
def o_277 (A : AT) (P : Params) : Obj := (Obj.mk (.type (t A 6)) none (.seq #[] 0) #[])
def o_278 (A : AT) (P : Params) : Obj := (Obj.mk .none none (.func (FuncData.mk (s A 8) (s A 128) (defArgs (inClass (stm A 19) 3)) (FuncBody.stmts (defBody (inClass (stm A 19) 3))) (defScope (inClass (stm A 19) 3)) 0 [] .none .none .none .none none .none .none 0)) #[])
def o_279 (A : AT) (P : Params) : Obj := (Obj.mk (.type (t A 7)) none (.fields #[(.str (s A 8) 473), (.str (s A 128) 474), (.str (s A 10) 475), (.int 77 0), (.int 4 0), (.int 0 0), (.int 0 0), (.int 3 0), (.ref 219), (.bool true), (.int 181 0), (.ref 220), .none, (.ref 221), (.ref 222), (.ref 223), (.int 480 0), (.int 77 0), (.str (s A 10) 481)]) #[])
def o_280 (A : AT) (P : Params) : Obj := (Obj.mk (.type (t A 5)) none (.func (FuncData.mk (s A 8) (s A 128) (defArgs (inClass (stm A 19) 3)) (FuncBody.stmts (defBody (inClass (stm A 19) 3))) (defScope (inClass (stm A 19) 3)) 3 [] .none .none .none (.str (s A 3) 316) none (.ref 224) .none 0)) #[])
def o_281 (A : AT) (P : Params) : Obj := (Obj.mk (.type (t A 6)) none (.seq #[(.str (s A 88) 483)] 0) #[])
def o_282 (A : AT) (P : Params) : Obj := (Obj.mk (.type (t A 8)) none (.dict #[(DictEntry.mk (keyHash P (s A 41)) (.str (s A 41) 442) (.str (s A 3) 316)), (DictEntry.mk (keyHash P (s A 42)) (.str (s A 42) 446) (.int 65 445)), (DictEntry.mk (keyHash P (s A 43)) (.str (s A 43) 454) (.ref 204)), (DictEntry.mk (keyHash P (s A 11)) (.str (s A 11) 462) (.ref 211)), (DictEntry.mk (keyHash P (s A 1)) (.str (s A 1) 472) (.ref 218)), (DictEntry.mk (keyHash P (s A 8)) (.str (s A 8) 482) (.ref 225)), (DictEntry.mk (keyHash P (s A 44)) (.str (s A 44) 484) (.ref 226)), (DictEntry.mk (keyHash P (s A 14)) (.str (s A 14) 485) .none)] 2) #[])
def o_283 (A : AT) (P : Params) : Obj := (Obj.mk (.type (t A 2)) none (.cls (ClassData.mk (s A 81) [(.ref 113)] [(.ref 228), (.ref 113), (.type (t A 3))] 227 (s A 81) true [] [] false none false)) #[(some (.ref 191)), none, (some (.str (s A 81) 435)), (some (.str (s A 81) 443)), (some (.builtin (t A 4))), (some (.bool true))])
def o_284 (A : AT) (P : Params) : Obj := (Obj.mk (.type (t A 11)) none (.fields #[(.ref 228), (.ref 228), (.ref 228)]) #[])
def o_285 (A : AT) (P : Params) : Obj := (Obj.mk (.type (t A 0)) none (.fields #[(.builtin (t A 1)), (.ref 228)]) #[])
def o_286 (A : AT) (P : Params) : Obj := (Obj.mk (.type (t A 8)) none (.dict #[(DictEntry.mk (keyHash P (s A 13)) (.str (s A 13) 165) (.str (s A 3) 316)), (DictEntry.mk (keyHash P (s A 14)) (.str (s A 14) 166) .none), (DictEntry.mk (keyHash P (s A 15)) (.str (s A 15) 167) .none), (DictEntry.mk (keyHash P (s A 16)) (.str (s A 16) 168) (.builtin (t A 9))), (DictEntry.mk (keyHash P (s A 17)) (.str (s A 17) 169) .none), (DictEntry.mk (keyHash P (s A 18)) (.str (s A 18) 170) (.ref 6)), (DictEntry.mk (keyHash P (s A 19)) (.str (s A 19) 171) (.ref 4)), (DictEntry.mk (keyHash P (s A 20)) (.str (s A 20) 173) (.str (s A 10) 172)), (DictEntry.mk (keyHash P (s A 21)) (.str (s A 21) 174) .none), (DictEntry.mk (keyHash P (s A 22)) (.str (s A 22) 193) (.ref 21)), (DictEntry.mk (keyHash P (s A 23)) (.str (s A 23) 213) (.ref 31)), (DictEntry.mk (keyHash P (s A 24)) (.str (s A 24) 229) (.ref 44)), (DictEntry.mk (keyHash P (s A 25)) (.str (s A 25) 245) (.ref 56)), (DictEntry.mk (keyHash P (s A 26)) (.str (s A 26) 254) (.ref 65)), (DictEntry.mk (keyHash P (s A 27)) (.str (s A 27) 262) (.ref 72)), (DictEntry.mk (keyHash P (s A 28)) (.str (s A 28) 266) (.str (s A 29) 265)), (DictEntry.mk (keyHash P (s A 30)) (.str (s A 30) 268) (.int 8 267)), (DictEntry.mk (keyHash P (s A 31)) (.str (s A 31) 274) (.ref 77)), (DictEntry.mk (keyHash P (s A 32)) (.str (s A 32) 307) (.ref 94)), (DictEntry.mk (keyHash P (s A 33)) (.str (s A 33) 315) (.ref 103)), (DictEntry.mk (keyHash P (s A 0)) (.str (s A 0) 337) (.ref 113)), (DictEntry.mk (keyHash P (s A 34)) (.str (s A 34) 381) (.ref 148)), (DictEntry.mk (keyHash P (s A 35)) (.str (s A 35) 434) (.ref 188)), (DictEntry.mk (keyHash P (s A 81)) (.str (s A 81) 487) (.ref 228)), (DictEntry.mk (keyHash P (s A 76)) (.str (s A 76) 540) (.ref 268))] 25) #[])
def o_287 (A : AT) (P : Params) : Obj := (Obj.mk .none none (.fields #[(.int 1 0), (.int 0 0), (.ref 20), (.int 5 0), (.int 0 0), (.ref 27), (.int 7 0), (.int 0 0), (.ref 40), (.int 9 0), (.int 0 0), (.ref 52), (.int 12 0), (.int 0 0), (.ref 64), (.int 14 0), (.int 0 0), (.ref 71), (.int 19 0), (.int 0 0), (.ref 76), (.int 23 0), (.int 0 0), (.ref 83), (.int 34 0), (.int 0 0), (.ref 102), (.int 39 0), (.int 0 0), (.ref 109), (.int 41 0), (.int 0 0), (.ref 123), (.int 51 0), (.int 0 0), (.ref 156), (.int 65 0), (.int 0 0), (.ref 196), (.int 79 0), (.int 0 0), (.ref 236)]) #[])
def o_288 (A : AT) (P : Params) : Obj := (Obj.mk (.type (t A 2)) none (.cls (ClassData.mk (s A 0) [(.type (t A 3))] [(.ref 113), (.type (t A 3))] 112 (s A 0) true [] [(.ref 148), (.ref 188), (.ref 228), (.ref 268)] false none false)) #[none, none, (some (.str (s A 0) 318)), (some (.str (s A 0) 326)), (some (.builtin (t A 4))), (some (.bool true))])
def o_289 (A : AT) (P : Params) : Obj := (Obj.mk (.type (t A 6)) none (.seq #[(.ref 113)] 0) #[])
def o_290 (A : AT) (P : Params) : Obj := (Obj.mk (.type (t A 0)) none (.fields #[(.builtin (t A 10)), (.type (t A 2))]) #[])
def o_291 (A : AT) (P : Params) : Obj := (Obj.mk (.type (t A 8)) none (.dict #[(DictEntry.mk (keyHash P (s A 41)) (.str (s A 41) 495) (.str (s A 3) 316)), (DictEntry.mk (keyHash P (s A 47)) (.str (s A 47) 497) (.str (s A 76) 496)), (DictEntry.mk (keyHash P (s A 42)) (.str (s A 42) 499) (.int 79 498)), (DictEntry.mk (keyHash P (s A 43)) (.str (s A 43) 507) (.ref 244)), (DictEntry.mk (keyHash P (s A 11)) (.str (s A 11) 515) (.ref 251)), (DictEntry.mk (keyHash P (s A 1)) (.str (s A 1) 525) (.ref 258)), (DictEntry.mk (keyHash P (s A 8)) (.str (s A 8) 535) (.ref 265)), (DictEntry.mk (keyHash P (s A 44)) (.str (s A 44) 537) (.ref 266))] 8) #[])
def o_292 (A : AT) (P : Params) : Obj := (Obj.mk (.type (t A 6)) none (.seq #[] 0) #[])
def o_293 (A : AT) (P : Params) : Obj := (Obj.mk .none none (.fields #[(.int 81 0), (.int 4 0), (.ref 243), (.int 86 0), (.int 4 0), (.ref 250), (.int 89 0), (.int 4 0), (.ref 257), (.int 92 0), (.int 4 0), (.ref 264)]) #[])
def o_294 (A : AT) (P : Params) : Obj := (Obj.mk (.type (t A 7)) none (.fields #[(.str (s A 76) 490), (.str (s A 76) 491), (.str (s A 10) 492), (.int 79 0), (.int 0 0), (.int 0 0), (.int 0 0), (.int 0 0), (.ref 234), (.bool false), (.int 181 0), (.ref 235), .none, .none, .none, .none, (.int 493 0), (.int 79 0), (.str (s A 10) 494)]) #[])
def o_295 (A : AT) (P : Params) : Obj := (Obj.mk (.type (t A 12)) none .plain #[(some (.ref 236)), (some (.ref 3)), (some (.ref 233)), none, (some (.str (s A 3) 316)), none, (some (.ref 0))])
def o_296 (A : AT) (P : Params) : Obj := (Obj.mk (.type (t A 6)) none (.seq #[] 0) #[])
def o_297 (A : AT) (P : Params) : Obj := (Obj.mk .none none (.fields #[]) #[])
def o_298 (A : AT) (P : Params) : Obj := (Obj.mk (.type (t A 6)) none (.seq #[(.str (s A 4) 503), (.str (s A 80) 504)] 0) #[])
def o_299 (A : AT) (P : Params) : Obj := (Obj.mk (.type (t A 6)) none (.seq #[] 0) #[])
def o_300 (A : AT) (P : Params) : Obj := (Obj.mk .none none (.func (FuncData.mk (s A 43) (s A 61) (defArgs (inClass (stm A 20) 0)) (FuncBody.stmts (defBody (inClass (stm A 20) 0))) (defScope (inClass (stm A 20) 0)) 0 [] .none .none .none .none none .none .none 0)) #[])
def o_301 (A : AT) (P : Params) : Obj := (Obj.mk (.type (t A 7)) none (.fields #[(.str (s A 43) 500), (.str (s A 61) 501), (.str (s A 10) 502), (.int 81 0), (.int 2 0), (.int 0 0), (.int 0 0), (.int 3 0), (.ref 238), (.bool true), (.int 181 0), (.ref 239), .none, (.ref 240), (.ref 241), (.ref 242), (.int 505 0), (.int 81 0), (.str (s A 10) 506)]) #[])
def o_302 (A : AT) (P : Params) : Obj := (Obj.mk (.type (t A 5)) none (.func (FuncData.mk (s A 43) (s A 61) (defArgs (inClass (stm A 20) 0)) (FuncBody.stmts (defBody (inClass (stm A 20) 0))) (defScope (inClass (stm A 20) 0)) 3 [] .none .none .none (.str (s A 3) 316) none (.ref 243) .none 0)) #[])
def o_303 (A : AT) (P : Params) : Obj := (Obj.mk (.type (t A 6)) none (.seq #[] 0) #[])
def o_304 (A : AT) (P : Params) : Obj := (Obj.mk .none none (.fields #[]) #[])
def o_305 (A : AT) (P : Params) : Obj := (Obj.mk (.type (t A 6)) none (.seq #[(.str (s A 4) 511), (.str (s A 101) 512)] 0) #[])
def o_306 (A : AT) (P : Params) : Obj := (Obj.mk (.type (t A 6)) none (.seq #[] 0) #[])
def o_307 (A : AT) (P : Params) : Obj := (Obj.mk .none none (.func (FuncData.mk (s A 11) (s A 115) (defArgs (inClass (stm A 20) 1)) (FuncBody.stmts (defBody (inClass (stm A 20) 1))) (defScope (inClass (stm A 20) 1)) 0 [] .none .none .none .none none .none .none 0)) #[])
def o_308 (A : AT) (P : Params) : Obj := (Obj.mk (.type (t A 7)) none (.fields #[(.str (s A 11) 508), (.str (s A 115) 509), (.str (s A 10) 510), (.int 86 0), (.int 2 0), (.int 0 0), (.int 0 0), (.int 3 0), (.ref 245), (.bool true), (.int 181 0), (.ref 246), .none, (.ref 247), (.ref 248), (.ref 249), (.int 513 0), (.int 86 0), (.str (s A 10) 514)]) #[])
def o_309 (A : AT) (P : Params) : Obj := (Obj.mk (.type (t A 5)) none (.func (FuncData.mk (s A 11) (s A 115) (defArgs (inClass (stm A 20) 1)) (FuncBody.stmts (defBody (inClass (stm A 20) 1))) (defScope (inClass (stm A 20) 1)) 3 [] .none .none .none (.str (s A 3) 316) none (.ref 250) .none 0)) #[])
def o_310 (A : AT) (P : Params) : Obj := (Obj.mk (.type (t A 6)) none (.seq #[] 0) #[])
def o_311 (A : AT) (P : Params) : Obj := (Obj.mk .none none (.fields #[]) #[])
def o_312 (A : AT) (P : Params) : Obj := (Obj.mk (.type (t A 6)) none (.seq #[(.str (s A 4) 519), (.str (s A 5) 520), (.str (s A 6) 521), (.str (s A 7) 522)] 0) #[])
def o_313 (A : AT) (P : Params) : Obj := (Obj.mk (.type (t A 6)) none (.seq #[] 0) #[])
def o_314 (A : AT) (P : Params) : Obj := (Obj.mk .none none (.func (FuncData.mk (s A 1) (s A 120) (defArgs (inClass (stm A 20) 2)) (FuncBody.stmts (defBody (inClass (stm A 20) 2))) (defScope (inClass (stm A 20) 2)) 0 [] .none .none .none .none none .none .none 0)) #[])
def o_315 (A : AT) (P : Params) : Obj := (Obj.mk (.type (t A 7)) none (.fields #[(.str (s A 1) 516), (.str (s A 120) 517), (.str (s A 10) 518), (.int 89 0), (.int 4 0), (.int 0 0), (.int 0 0), (.int 3 0), (.ref 252), (.bool true), (.int 181 0), (.ref 253), .none, (.ref 254), (.ref 255), (.ref 256), (.int 523 0), (.int 89 0), (.str (s A 10) 524)]) #[])
def o_316 (A : AT) (P : Params) : Obj := (Obj.mk (.type (t A 5)) none (.func (FuncData.mk (s A 1) (s A 120) (defArgs (inClass (stm A 20) 2)) (FuncBody.stmts (defBody (inClass (stm A 20) 2))) (defScope (inClass (stm A 20) 2)) 3 [] .none .none .none (.str (s A 3) 316) none (.ref 257) .none 0)) #[])
def o_317 (A : AT) (P : Params) : Obj := (Obj.mk (.type (t A 6)) none (.seq #[] 0) #[])
def o_318 (A : AT) (P : Params) : Obj := (Obj.mk .none none (.fields #[]) #[])
def o_319 (A : AT) (P : Params) : Obj := (Obj.mk (.type (t A 6)) none (.seq #[(.str (s A 4) 529), (.str (s A 52) 530), (.str (s A 53) 531), (.str (s A 54) 532)] 0) #[])
def o_320 (A : AT) (P : Params) : Obj := (Obj.mk (.type (t A 6)) none (.seq #[] 0) #[])
def o_321 (A : AT) (P : Params) : Obj := (Obj.mk .none none (.func (FuncData.mk (s A 8) (s A 78) (defArgs (inClass (stm A 20) 3)) (FuncBody.stmts (defBody (inClass (stm A 20) 3))) (defScope (inClass (stm A 20) 3)) 0 [] .none .none .none .none none .none .none 0)) #[])
def o_322 (A : AT) (P : Params) : Obj := (Obj.mk (.type (t A 7)) none (.fields #[(.str (s A 8) 526), (.str (s A 78) 527), (.str (s A 10) 528), (.int 92 0), (.int 4 0), (.int 0 0), (.int 0 0), (.int 3 0), (.ref 259), (.bool true), (.int 181 0), (.ref 260), .none, (.ref 261), (.ref 262), (.ref 263), (.int 533 0), (.int 92 0), (.str (s A 10) 534)]) #[])
def o_323 (A : AT) (P : Params) : Obj := (Obj.mk (.type (t A 5)) none (.func (FuncData.mk (s A 8) (s A 78) (defArgs (inClass (stm A 20) 3)) (FuncBody.stmts (defBody (inClass (stm A 20) 3))) (defScope (inClass (stm A 20) 3)) 3 [] .none .none .none (.str (s A 3) 316) none (.ref 264) .none 0)) #[])
def o_324 (A : AT) (P : Params) : Obj := (Obj.mk (.type (t A 6)) none (.seq #[(.str (s A 80) 536)] 0) #[])
def o_325 (A : AT) (P : Params) : Obj := (Obj.mk (.type (t A 8)) none (.dict #[(DictEntry.mk (keyHash P (s A 41)) (.str (s A 41) 495) (.str (s A 3) 316)), (DictEntry.mk (keyHash P (s A 42)) (.str (s A 42) 499) (.int 79 498)), (DictEntry.mk (keyHash P (s A 43)) (.str (s A 43) 507) (.ref 244)), (DictEntry.mk (keyHash P (s A 11)) (.str (s A 11) 515) (.ref 251)), (DictEntry.mk (keyHash P (s A 1)) (.str (s A 1) 525) (.ref 258)), (DictEntry.mk (keyHash P (s A 8)) (.str (s A 8) 535) (.ref 265)), (DictEntry.mk (keyHash P (s A 44)) (.str (s A 44) 537) (.ref 266)), (DictEntry.mk (keyHash P (s A 14)) (.str (s A 14) 538) .none)] 2) #[])
def o_326 (A : AT) (P : Params) : Obj := (Obj.mk (.type (t A 2)) none (.cls (ClassData.mk (s A 76) [(.ref 113)] [(.ref 268), (.ref 113), (.type (t A 3))] 267 (s A 76) true [] [] false none false)) #[(some (.ref 231)), none, (some (.str (s A 76) 488)), (some (.str (s A 76) 496)), (some (.builtin (t A 4))), (some (.bool true))])
def o_327 (A : AT) (P : Params) : Obj := (Obj.mk (.type (t A 11)) none (.fields #[(.ref 268), (.ref 268), (.ref 268)]) #[])
def o_328 (A : AT) (P : Params) : Obj := (Obj.mk (.type (t A 0)) none (.fields #[(.builtin (t A 1)), (.ref 268)]) #[])
def o_329 (A : AT) (P : Params) : Obj := (Obj.mk (.type (t A 8)) none (.dict #[(DictEntry.mk (keyHash P (s A 13)) (.str (s A 13) 165) (.str (s A 3) 316)), (DictEntry.mk (keyHash P (s A 14)) (.str (s A 14) 166) .none), (DictEntry.mk (keyHash P (s A 15)) (.str (s A 15) 167) .none), (DictEntry.mk (keyHash P (s A 16)) (.str (s A 16) 168) (.builtin (t A 9))), (DictEntry.mk (keyHash P (s A 17)) (.str (s A 17) 169) .none), (DictEntry.mk (keyHash P (s A 18)) (.str (s A 18) 170) (.ref 6)), (DictEntry.mk (keyHash P (s A 19)) (.str (s A 19) 171) (.ref 4)), (DictEntry.mk (keyHash P (s A 20)) (.str (s A 20) 173) (.str (s A 10) 172)), (DictEntry.mk (keyHash P (s A 21)) (.str (s A 21) 174) .none), (DictEntry.mk (keyHash P (s A 22)) (.str (s A 22) 193) (.ref 21)), (DictEntry.mk (keyHash P (s A 23)) (.str (s A 23) 213) (.ref 31)), (DictEntry.mk (keyHash P (s A 24)) (.str (s A 24) 229) (.ref 44)), (DictEntry.mk (keyHash P (s A 25)) (.str (s A 25) 245) (.ref 56)), (DictEntry.mk (keyHash P (s A 26)) (.str (s A 26) 254) (.ref 65)), (DictEntry.mk (keyHash P (s A 27)) (.str (s A 27) 262) (.ref 72)), (DictEntry.mk (keyHash P (s A 28)) (.str (s A 28) 266) (.str (s A 29) 265)), (DictEntry.mk (keyHash P (s A 30)) (.str (s A 30) 268) (.int 8 267)), (DictEntry.mk (keyHash P (s A 31)) (.str (s A 31) 274) (.ref 77)), (DictEntry.mk (keyHash P (s A 32)) (.str (s A 32) 307) (.ref 94)), (DictEntry.mk (keyHash P (s A 33)) (.str (s A 33) 315) (.ref 103)), (DictEntry.mk (keyHash P (s A 0)) (.str (s A 0) 337) (.ref 113)), (DictEntry.mk (keyHash P (s A 34)) (.str (s A 34) 381) (.ref 148)), (DictEntry.mk (keyHash P (s A 35)) (.str (s A 35) 434) (.ref 188)), (DictEntry.mk (keyHash P (s A 81)) (.str (s A 81) 487) (.ref 228)), (DictEntry.mk (keyHash P (s A 76)) (.str (s A 76) 540) (.ref 268)), (DictEntry.mk (keyHash P (s A 104)) (.str (s A 104) 593) (.ref 308))] 26) #[])
def o_330 (A : AT) (P : Params) : Obj := (Obj.mk .none none (.fields #[(.int 1 0), (.int 0 0), (.ref 20), (.int 5 0), (.int 0 0), (.ref 27), (.int 7 0), (.int 0 0), (.ref 40), (.int 9 0), (.int 0 0), (.ref 52), (.int 12 0), (.int 0 0), (.ref 64), (.int 14 0), (.int 0 0), (.ref 71), (.int 19 0), (.int 0 0), (.ref 76), (.int 23 0), (.int 0 0), (.ref 83), (.int 34 0), (.int 0 0), (.ref 102), (.int 39 0), (.int 0 0), (.ref 109), (.int 41 0), (.int 0 0), (.ref 123), (.int 51 0), (.int 0 0), (.ref 156), (.int 65 0), (.int 0 0), (.ref 196), (.int 79 0), (.int 0 0), (.ref 236), (.int 94 0), (.int 0 0), (.ref 276)]) #[])
def o_331 (A : AT) (P : Params) : Obj := (Obj.mk (.type (t A 2)) none (.cls (ClassData.mk (s A 0) [(.type (t A 3))] [(.ref 113), (.type (t A 3))] 112 (s A 0) true [] [(.ref 148), (.ref 188), (.ref 228), (.ref 268), (.ref 308)] false none false)) #[none, none, (some (.str (s A 0) 318)), (some (.str (s A 0) 326)), (some (.builtin (t A 4))), (some (.bool true))])
def o_332 (A : AT) (P : Params) : Obj := (Obj.mk (.type (t A 6)) none (.seq #[(.ref 113)] 0) #[])
def o_333 (A : AT) (P : Params) : Obj := (Obj.mk (.type (t A 0)) none (.fields #[(.builtin (t A 10)), (.type (t A 2))]) #[])
def o_334 (A : AT) (P : Params) : Obj := (Obj.mk (.type (t A 8)) none (.dict #[(DictEntry.mk (keyHash P (s A 41)) (.str (s A 41) 548) (.str (s A 3) 316)), (DictEntry.mk (keyHash P (s A 47)) (.str (s A 47) 550) (.str (s A 104) 549)), (DictEntry.mk (keyHash P (s A 42)) (.str (s A 42) 552) (.int 94 551)), (DictEntry.mk (keyHash P (s A 43)) (.str (s A 43) 560) (.ref 284)), (DictEntry.mk (keyHash P (s A 11)) (.str (s A 11) 568) (.ref 291)), (DictEntry.mk (keyHash P (s A 1)) (.str (s A 1) 578) (.ref 298)), (DictEntry.mk (keyHash P (s A 8)) (.str (s A 8) 588) (.ref 305)), (DictEntry.mk (keyHash P (s A 44)) (.str (s A 44) 590) (.ref 306))] 8) #[])
def o_335 (A : AT) (P : Params) : Obj := (Obj.mk (.type (t A 6)) none (.seq #[] 0) #[])
def o_336 (A : AT) (P : Params) : Obj := (Obj.mk .none none (.fields #[(.int 96 0), (.int 4 0), (.ref 283), (.int 100 0), (.int 4 0), (.ref 290), (.int 103 0), (.int 4 0), (.ref 297), (.int 106 0), (.int 4 0), (.ref 304)]) #[])
def o_337 (A : AT) (P : Params) : Obj := (Obj.mk (.type (t A 7)) none (.fields #[(.str (s A 104) 543), (.str (s A 104) 544), (.str (s A 10) 545), (.int 94 0), (.int 0 0), (.int 0 0), (.int 0 0), (.int 0 0), (.ref 274), (.bool false), (.int 181 0), (.ref 275), .none, .none, .none, .none, (.int 546 0), (.int 94 0), (.str (s A 10) 547)]) #[])
def o_338 (A : AT) (P : Params) : Obj := (Obj.mk (.type (t A 12)) none .plain #[(some (.ref 276)), (some (.ref 3)), (some (.ref 273)), none, (some (.str (s A 3) 316)), none, (some (.ref 0))])
def o_339 (A : AT) (P : Params) : Obj := (Obj.mk (.type (t A 6)) none (.seq #[] 0) #[])
def o_340 (A : AT) (P : Params) : Obj := (Obj.mk .none none (.fields #[]) #[])
def o_341 (A : AT) (P : Params) : Obj := (Obj.mk (.type (t A 6)) none (.seq #[(.str (s A 4) 556), (.str (s A 50) 557)] 0) #[])
def o_342 (A : AT) (P : Params) : Obj := (Obj.mk (.type (t A 6)) none (.seq #[] 0) #[])
def o_343 (A : AT) (P : Params) : Obj := (Obj.mk .none none (.func (FuncData.mk (s A 43) (s A 119) (defArgs (inClass (stm A 21) 0)) (FuncBody.stmts (defBody (inClass (stm A 21) 0))) (defScope (inClass (stm A 21) 0)) 0 [] .none .none .none .none none .none .none 0)) #[])
def o_344 (A : AT) (P : Params) : Obj := (Obj.mk (.type (t A 7)) none (.fields #[(.str (s A 43) 553), (.str (s A 119) 554), (.str (s A 10) 555), (.int 96 0), (.int 2 0), (.int 0 0), (.int 0 0), (.int 3 0), (.ref 278), (.bool true), (.int 181 0), (.ref 279), .none, (.ref 280), (.ref 281), (.ref 282), (.int 558 0), (.int 96 0), (.str (s A 10) 559)]) #[])
def o_345 (A : AT) (P : Params) : Obj := (Obj.mk (.type (t A 5)) none (.func (FuncData.mk (s A 43) (s A 119) (defArgs (inClass (stm A 21) 0)) (FuncBody.stmts (defBody (inClass (stm A 21) 0))) (defScope (inClass (stm A 21) 0)) 3 [] .none .none .none (.str (s A 3) 316) none (.ref 283) .none 0)) #[])
def o_346 (A : AT) (P : Params) : Obj := (Obj.mk (.type (t A 6)) none (.seq #[] 0) #[])
def o_347 (A : AT) (P : Params) : Obj := (Obj.mk .none none (.fields #[]) #[])
def o_348 (A : AT) (P : Params) : Obj := (Obj.mk (.type (t A 6)) none (.seq #[(.str (s A 4) 564), (.str (s A 101) 565)] 0) #[])
def o_349 (A : AT) (P : Params) : Obj := (Obj.mk (.type (t A 6)) none (.seq #[] 0) #[])
def o_350 (A : AT) (P : Params) : Obj := (Obj.mk .none none (.func (FuncData.mk (s A 11) (s A 73) (defArgs (inClass (stm A 21) 1)) (FuncBody.stmts (defBody (inClass (stm A 21) 1))) (defScope (inClass (stm A 21) 1)) 0 [] .none .none .none .none none .none .none 0)) #[])
def o_351 (A : AT) (P : Params) : Obj := (Obj.mk (.type (t A 7)) none (.fields #[(.str (s A 11) 561), (.str (s A 73) 562), (.str (s A 10) 563), (.int 100 0), (.int 2 0), (.int 0 0), (.int 0 0), (.int 3 0), (.ref 285), (.bool true), (.int 181 0), (.ref 286), .none, (.ref 287), (.ref 288), (.ref 289), (.int 566 0), (.int 100 0), (.str (s A 10) 567)]) #[])
def o_352 (A : AT) (P : Params) : Obj := (Obj.mk (.type (t A 5)) none (.func (FuncData.mk (s A 11) (s A 73) (defArgs (inClass (stm A 21) 1)) (FuncBody.stmts (defBody (inClass (stm A 21) 1))) (defScope (inClass (stm A 21) 1)) 3 [] .none .none .none (.str (s A 3) 316) none (.ref 290) .none 0)) #[])
def o_353 (A : AT) (P : Params) : Obj := (Obj.mk (.type (t A 6)) none (.seq #[] 0) #[])
def o_354 (A : AT) (P : Params) : Obj := (Obj.mk .none none (.fields #[]) #[])
def o_355 (A : AT) (P : Params) : Obj := (Obj.mk (.type (t A 6)) none (.seq #[(.str (s A 4) 572), (.str (s A 5) 573), (.str (s A 6) 574), (.str (s A 7) 575)] 0) #[])
def o_356 (A : AT) (P : Params) : Obj := (Obj.mk (.type (t A 6)) none (.seq #[] 0) #[])
def o_357 (A : AT) (P : Params) : Obj := (Obj.mk .none none (.func (FuncData.mk (s A 1) (s A 124) (defArgs (inClass (stm A 21) 2)) (FuncBody.stmts (defBody (inClass (stm A 21) 2))) (defScope (inClass (stm A 21) 2)) 0 [] .none .none .none .none none .none .none 0)) #[])
def o_358 (A : AT) (P : Params) : Obj := (Obj.mk (.type (t A 7)) none (.fields #[(.str (s A 1) 569), (.str (s A 124) 570), (.str (s A 10) 571), (.int 103 0), (.int 4 0), (.int 0 0), (.int 0 0), (.int 3 0), (.ref 292), (.bool true), (.int 181 0), (.ref 293), .none, (.ref 294), (.ref 295), (.ref 296), (.int 576 0), (.int 103 0), (.str (s A 10) 577)]) #[])
def o_359 (A : AT) (P : Params) : Obj := (Obj.mk (.type (t A 5)) none (.func (FuncData.mk (s A 1) (s A 124) (defArgs (inClass (stm A 21) 2)) (FuncBody.stmts (defBody (inClass (stm A 21) 2))) (defScope (inClass (stm A 21) 2)) 3 [] .none .none .none (.str (s A 3) 316) none (.ref 297) .none 0)) #[])
def o_360 (A : AT) (P : Params) : Obj := (Obj.mk (.type (t A 6)) none (.seq #[] 0) #[])
def o_361 (A : AT) (P : Params) : Obj := (Obj.mk .none none (.fields #[]) #[])
def o_362 (A : AT) (P : Params) : Obj := (Obj.mk (.type (t A 6)) none (.seq #[(.str (s A 4) 582), (.str (s A 52) 583), (.str (s A 53) 584), (.str (s A 54) 585)] 0) #[])
def o_363 (A : AT) (P : Params) : Obj := (Obj.mk (.type (t A 6)) none (.seq #[] 0) #[])
def o_364 (A : AT) (P : Params) : Obj := (Obj.mk .none none (.func (FuncData.mk (s A 8) (s A 97) (defArgs (inClass (stm A 21) 3)) (FuncBody.stmts (defBody (inClass (stm A 21) 3))) (defScope (inClass (stm A 21) 3)) 0 [] .none .none .none .none none .none .none 0)) #[])
def o_365 (A : AT) (P : Params) : Obj := (Obj.mk (.type (t A 7)) none (.fields #[(.str (s A 8) 579), (.str (s A 97) 580), (.str (s A 10) 581), (.int 106 0), (.int 4 0), (.int 0 0), (.int 0 0), (.int 3 0), (.ref 299), (.bool true), (.int 181 0), (.ref 300), .none, (.ref 301), (.ref 302), (.ref 303), (.int 586 0), (.int 106 0), (.str (s A 10) 587)]) #[])
def o_366 (A : AT) (P : Params) : Obj := (Obj.mk (.type (t A 5)) none (.func (FuncData.mk (s A 8) (s A 97) (defArgs (inClass (stm A 21) 3)) (FuncBody.stmts (defBody (inClass (stm A 21) 3))) (defScope (inClass (stm A 21) 3)) 3 [] .none .none .none (.str (s A 3) 316) none (.ref 304) .none 0)) #[])
def o_367 (A : AT) (P : Params) : Obj := (Obj.mk (.type (t A 6)) none (.seq #[(.str (s A 50) 589)] 0) #[])
def o_368 (A : AT) (P : Params) : Obj := (Obj.mk (.type (t A 8)) none (.dict #[(DictEntry.mk (keyHash P (s A 41)) (.str (s A 41) 548) (.str (s A 3) 316)), (DictEntry.mk (keyHash P (s A 42)) (.str (s A 42) 552) (.int 94 551)), (DictEntry.mk (keyHash P (s A 43)) (.str (s A 43) 560) (.ref 284)), (DictEntry.mk (keyHash P (s A 11)) (.str (s A 11) 568) (.ref 291)), (DictEntry.mk (keyHash P (s A 1)) (.str (s A 1) 578) (.ref 298)), (DictEntry.mk (keyHash P (s A 8)) (.str (s A 8) 588) (.ref 305)), (DictEntry.mk (keyHash P (s A 44)) (.str (s A 44) 590) (.ref 306)), (DictEntry.mk (keyHash P (s A 14)) (.str (s A 14) 591) .none)] 2) #[])
def o_369 (A : AT) (P : Params) : Obj := (Obj.mk (.type (t A 2)) none (.cls (ClassData.mk (s A 104) [(.ref 113)] [(.ref 308), (.ref 113), (.type (t A 3))] 307 (s A 104) true [] [] false none false)) #[(some (.ref 271)), none, (some (.str (s A 104) 541)), (some (.str (s A 104) 549)), (some (.builtin (t A 4))), (some (.bool true))])
def o_370 (A : AT) (P : Params) : Obj := (Obj.mk (.type (t A 11)) none (.fields #[(.ref 308), (.ref 308), (.ref 308)]) #[])
def o_371 (A : AT) (P : Params) : Obj := (Obj.mk (.type (t A 0)) none (.fields #[(.builtin (t A 1)), (.ref 308)]) #[])
def o_372 (A : AT) (P : Params) : Obj := (Obj.mk (.type (t A 8)) none (.dict #[(DictEntry.mk (keyHash P (s A 13)) (.str (s A 13) 165) (.str (s A 3) 316)), (DictEntry.mk (keyHash P (s A 14)) (.str (s A 14) 166) .none), (DictEntry.mk (keyHash P (s A 15)) (.str (s A 15) 167) .none), (DictEntry.mk (keyHash P (s A 16)) (.str (s A 16) 168) (.builtin (t A 9))), (DictEntry.mk (keyHash P (s A 17)) (.str (s A 17) 169) .none), (DictEntry.mk (keyHash P (s A 18)) (.str (s A 18) 170) (.ref 6)), (DictEntry.mk (keyHash P (s A 19)) (.str (s A 19) 171) (.ref 4)), (DictEntry.mk (keyHash P (s A 20)) (.str (s A 20) 173) (.str (s A 10) 172)), (DictEntry.mk (keyHash P (s A 21)) (.str (s A 21) 174) .none), (DictEntry.mk (keyHash P (s A 22)) (.str (s A 22) 193) (.ref 21)), (DictEntry.mk (keyHash P (s A 23)) (.str (s A 23) 213) (.ref 31)), (DictEntry.mk (keyHash P (s A 24)) (.str (s A 24) 229) (.ref 44)), (DictEntry.mk (keyHash P (s A 25)) (.str (s A 25) 245) (.ref 56)), (DictEntry.mk (keyHash P (s A 26)) (.str (s A 26) 254) (.ref 65)), (DictEntry.mk (keyHash P (s A 27)) (.str (s A 27) 262) (.ref 72)), (DictEntry.mk (keyHash P (s A 28)) (.str (s A 28) 266) (.str (s A 29) 265)), (DictEntry.mk (keyHash P (s A 30)) (.str (s A 30) 268) (.int 8 267)), (DictEntry.mk (keyHash P (s A 31)) (.str (s A 31) 274) (.ref 77)), (DictEntry.mk (keyHash P (s A 32)) (.str (s A 32) 307) (.ref 94)), (DictEntry.mk (keyHash P (s A 33)) (.str (s A 33) 315) (.ref 103)), (DictEntry.mk (keyHash P (s A 0)) (.str (s A 0) 337) (.ref 113)), (DictEntry.mk (keyHash P (s A 34)) (.str (s A 34) 381) (.ref 148)), (DictEntry.mk (keyHash P (s A 35)) (.str (s A 35) 434) (.ref 188)), (DictEntry.mk (keyHash P (s A 81)) (.str (s A 81) 487) (.ref 228)), (DictEntry.mk (keyHash P (s A 76)) (.str (s A 76) 540) (.ref 268)), (DictEntry.mk (keyHash P (s A 104)) (.str (s A 104) 593) (.ref 308)), (DictEntry.mk (keyHash P (s A 60)) (.str (s A 60) 644) (.ref 346))] 27) #[])
def o_373 (A : AT) (P : Params) : Obj := (Obj.mk .none none (.fields #[(.int 1 0), (.int 0 0), (.ref 20), (.int 5 0), (.int 0 0), (.ref 27), (.int 7 0), (.int 0 0), (.ref 40), (.int 9 0), (.int 0 0), (.ref 52), (.int 12 0), (.int 0 0), (.ref 64), (.int 14 0), (.int 0 0), (.ref 71), (.int 19 0), (.int 0 0), (.ref 76), (.int 23 0), (.int 0 0), (.ref 83), (.int 34 0), (.int 0 0), (.ref 102), (.int 39 0), (.int 0 0), (.ref 109), (.int 41 0), (.int 0 0), (.ref 123), (.int 51 0), (.int 0 0), (.ref 156), (.int 65 0), (.int 0 0), (.ref 196), (.int 79 0), (.int 0 0), (.ref 236), (.int 94 0), (.int 0 0), (.ref 276), (.int 108 0), (.int 0 0), (.ref 316)]) #[])
def o_374 (A : AT) (P : Params) : Obj := (Obj.mk (.type (t A 2)) none (.cls (ClassData.mk (s A 0) [(.type (t A 3))] [(.ref 113), (.type (t A 3))] 112 (s A 0) true [] [(.ref 148), (.ref 188), (.ref 228), (.ref 268), (.ref 308), (.ref 346)] false none false)) #[none, none, (some (.str (s A 0) 318)), (some (.str (s A 0) 326)), (some (.builtin (t A 4))), (some (.bool true))])
def o_375 (A : AT) (P : Params) : Obj := (Obj.mk (.type (t A 6)) none (.seq #[(.ref 113)] 0) #[])
def o_376 (A : AT) (P : Params) : Obj := (Obj.mk (.type (t A 0)) none (.fields #[(.builtin (t A 10)), (.type (t A 2))]) #[])
def o_377 (A : AT) (P : Params) : Obj := (Obj.mk (.type (t A 8)) none (.dict #[(DictEntry.mk (keyHash P (s A 41)) (.str (s A 41) 601) (.str (s A 3) 316)), (DictEntry.mk (keyHash P (s A 47)) (.str (s A 47) 603) (.str (s A 60) 602)), (DictEntry.mk (keyHash P (s A 42)) (.str (s A 42) 605) (.int 108 604)), (DictEntry.mk (keyHash P (s A 43)) (.str (s A 43) 613) (.ref 324)), (DictEntry.mk (keyHash P (s A 11)) (.str (s A 11) 619) (.ref 329)), (DictEntry.mk (keyHash P (s A 1)) (.str (s A 1) 629) (.ref 336)), (DictEntry.mk (keyHash P (s A 8)) (.str (s A 8) 639) (.ref 343)), (DictEntry.mk (keyHash P (s A 44)) (.str (s A 44) 641) (.ref 344))] 8) #[])
def o_378 (A : AT) (P : Params) : Obj := (Obj.mk (.type (t A 6)) none (.seq #[] 0) #[])
def o_379 (A : AT) (P : Params) : Obj := (Obj.mk .none none (.fields #[(.int 110 0), (.int 4 0), (.ref 323), (.int 114 0), (.int 4 0), (.ref 328), (.int 117 0), (.int 4 0), (.ref 335), (.int 120 0), (.int 4 0), (.ref 342)]) #[])
def o_380 (A : AT) (P : Params) : Obj := (Obj.mk (.type (t A 7)) none (.fields #[(.str (s A 60) 596), (.str (s A 60) 597), (.str (s A 10) 598), (.int 108 0), (.int 0 0), (.int 0 0), (.int 0 0), (.int 0 0), (.ref 314), (.bool false), (.int 181 0), (.ref 315), .none, .none, .none, .none, (.int 599 0), (.int 108 0), (.str (s A 10) 600)]) #[])
def o_381 (A : AT) (P : Params) : Obj := (Obj.mk (.type (t A 12)) none .plain #[(some (.ref 316)), (some (.ref 3)), (some (.ref 313)), none, (some (.str (s A 3) 316)), none, (some (.ref 0))])
def o_382 (A : AT) (P : Params) : Obj := (Obj.mk (.type (t A 6)) none (.seq #[] 0) #[])
def o_383 (A : AT) (P : Params) : Obj := (Obj.mk .none none (.fields #[]) #[])
def o_384 (A : AT) (P : Params) : Obj := (Obj.mk (.type (t A 6)) none (.seq #[(.str (s A 4) 609), (.str (s A 49) 610)] 0) #[])
def o_385 (A : AT) (P : Params) : Obj := (Obj.mk (.type (t A 6)) none (.seq #[] 0) #[])
def o_386 (A : AT) (P : Params) : Obj := (Obj.mk .none none (.func (FuncData.mk (s A 43) (s A 100) (defArgs (inClass (stm A 22) 0)) (FuncBody.stmts (defBody (inClass (stm A 22) 0))) (defScope (inClass (stm A 22) 0)) 0 [] .none .none .none .none none .none .none 0)) #[])
def o_387 (A : AT) (P : Params) : Obj := (Obj.mk (.type (t A 7)) none (.fields #[(.str (s A 43) 606), (.str (s A 100) 607), (.str (s A 10) 608), (.int 110 0), (.int 2 0), (.int 0 0), (.int 0 0), (.int 3 0), (.ref 318), (.bool true), (.int 181 0), (.ref 319), .none, (.ref 320), (.ref 321), (.ref 322), (.int 611 0), (.int 110 0), (.str (s A 10) 612)]) #[])
def o_388 (A : AT) (P : Params) : Obj := (Obj.mk (.type (t A 5)) none (.func (FuncData.mk (s A 43) (s A 100) (defArgs (inClass (stm A 22) 0)) (FuncBody.stmts (defBody (inClass (stm A 22) 0))) (defScope (inClass (stm A 22) 0)) 3 [] .none .none .none (.str (s A 3) 316) none (.ref 323) .none 0)) #[])
def o_389 (A : AT) (P : Params) : Obj := (Obj.mk (.type (t A 6)) none (.seq #[] 0) #[])
def o_390 (A : AT) (P : Params) : Obj := (Obj.mk .none none (.fields #[]) #[])
def o_391 (A : AT) (P : Params) : Obj := (Obj.mk .none none (.func (FuncData.mk (s A 11) (s A 48) (defArgs (inClass (stm A 22) 1)) (FuncBody.stmts (defBody (inClass (stm A 22) 1))) (defScope (inClass (stm A 22) 1)) 0 [] .none .none .none .none none .none .none 0)) #[])
def o_392 (A : AT) (P : Params) : Obj := (Obj.mk (.type (t A 7)) none (.fields #[(.str (s A 11) 614), (.str (s A 48) 615), (.str (s A 10) 616), (.int 114 0), (.int 2 0), (.int 0 0), (.int 0 0), (.int 3 0), (.ref 325), (.bool true), (.int 181 0), (.ref 326), .none, .none, .none, (.ref 327), (.int 617 0), (.int 114 0), (.str (s A 10) 618)]) #[])
def o_393 (A : AT) (P : Params) : Obj := (Obj.mk (.type (t A 5)) none (.func (FuncData.mk (s A 11) (s A 48) (defArgs (inClass (stm A 22) 1)) (FuncBody.stmts (defBody (inClass (stm A 22) 1))) (defScope (inClass (stm A 22) 1)) 3 [] .none .none .none (.str (s A 3) 316) none (.ref 328) .none 0)) #[])
def o_394 (A : AT) (P : Params) : Obj := (Obj.mk (.type (t A 6)) none (.seq #[] 0) #[])
def o_395 (A : AT) (P : Params) : Obj := (Obj.mk .none none (.fields #[]) #[])
def o_396 (A : AT) (P : Params) : Obj := (Obj.mk (.type (t A 6)) none (.seq #[(.str (s A 4) 623), (.str (s A 5) 624), (.str (s A 6) 625), (.str (s A 7) 626)] 0) #[])
def o_397 (A : AT) (P : Params) : Obj := (Obj.mk (.type (t A 6)) none (.seq #[] 0) #[])
def o_398 (A : AT) (P : Params) : Obj := (Obj.mk .none none (.func (FuncData.mk (s A 1) (s A 74) (defArgs (inClass (stm A 22) 2)) (FuncBody.stmts (defBody (inClass (stm A 22) 2))) (defScope (inClass (stm A 22) 2)) 0 [] .none .none .none .none none .none .none 0)) #[])
def o_399 (A : AT) (P : Params) : Obj := (Obj.mk (.type (t A 7)) none (.fields #[(.str (s A 1) 620), (.str (s A 74) 621), (.str (s A 10) 622), (.int 117 0), (.int 4 0), (.int 0 0), (.int 0 0), (.int 3 0), (.ref 330), (.bool true), (.int 181 0), (.ref 331), .none, (.ref 332), (.ref 333), (.ref 334), (.int 627 0), (.int 117 0), (.str (s A 10) 628)]) #[])
def o_400 (A : AT) (P : Params) : Obj := (Obj.mk (.type (t A 5)) none (.func (FuncData.mk (s A 1) (s A 74) (defArgs (inClass (stm A 22) 2)) (FuncBody.stmts (defBody (inClass (stm A 22) 2))) (defScope (inClass (stm A 22) 2)) 3 [] .none .none .none (.str (s A 3) 316) none (.ref 335) .none 0)) #[])
def o_401 (A : AT) (P : Params) : Obj := (Obj.mk (.type (t A 6)) none (.seq #[] 0) #[])
def o_402 (A : AT) (P : Params) : Obj := (Obj.mk .none none (.fields #[]) #[])
def o_403 (A : AT) (P : Params) : Obj := (Obj.mk (.type (t A 6)) none (.seq #[(.str (s A 4) 633), (.str (s A 52) 634), (.str (s A 53) 635), (.str (s A 54) 636)] 0) #[])
def o_404 (A : AT) (P : Params) : Obj := (Obj.mk (.type (t A 6)) none (.seq #[] 0) #[])
def o_405 (A : AT) (P : Params) : Obj := (Obj.mk .none none (.func (FuncData.mk (s A 8) (s A 9) (defArgs (inClass (stm A 22) 3)) (FuncBody.stmts (defBody (inClass (stm A 22) 3))) (defScope (inClass (stm A 22) 3)) 0 [] .none .none .none .none none .none .none 0)) #[])
def o_406 (A : AT) (P : Params) : Obj := (Obj.mk (.type (t A 7)) none (.fields #[(.str (s A 8) 630), (.str (s A 9) 631), (.str (s A 10) 632), (.int 120 0), (.int 4 0), (.int 0 0), (.int 0 0), (.int 3 0), (.ref 337), (.bool true), (.int 181 0), (.ref 338), .none, (.ref 339), (.ref 340), (.ref 341), (.int 637 0), (.int 120 0), (.str (s A 10) 638)]) #[])
def o_407 (A : AT) (P : Params) : Obj := (Obj.mk (.type (t A 5)) none (.func (FuncData.mk (s A 8) (s A 9) (defArgs (inClass (stm A 22) 3)) (FuncBody.stmts (defBody (inClass (stm A 22) 3))) (defScope (inClass (stm A 22) 3)) 3 [] .none .none .none (.str (s A 3) 316) none (.ref 342) .none 0)) #[])
def o_408 (A : AT) (P : Params) : Obj := (Obj.mk (.type (t A 6)) none (.seq #[(.str (s A 49) 640)] 0) #[])
def o_409 (A : AT) (P : Params) : Obj := (Obj.mk (.type (t A 8)) none (.dict #[(DictEntry.mk (keyHash P (s A 41)) (.str (s A 41) 601) (.str (s A 3) 316)), (DictEntry.mk (keyHash P (s A 42)) (.str (s A 42) 605) (.int 108 604)), (DictEntry.mk (keyHash P (s A 43)) (.str (s A 43) 613) (.ref 324)), (DictEntry.mk (keyHash P (s A 11)) (.str (s A 11) 619) (.ref 329)), (DictEntry.mk (keyHash P (s A 1)) (.str (s A 1) 629) (.ref 336)), (DictEntry.mk (keyHash P (s A 8)) (.str (s A 8) 639) (.ref 343)), (DictEntry.mk (keyHash P (s A 44)) (.str (s A 44) 641) (.ref 344)), (DictEntry.mk (keyHash P (s A 14)) (.str (s A 14) 642) .none)] 2) #[])
def o_410 (A : AT) (P : Params) : Obj := (Obj.mk (.type (t A 2)) none (.cls (ClassData.mk (s A 60) [(.ref 113)] [(.ref 346), (.ref 113), (.type (t A 3))] 345 (s A 60) true [] [] false none false)) #[(some (.ref 311)), none, (some (.str (s A 60) 594)), (some (.str (s A 60) 602)), (some (.builtin (t A 4))), (some (.bool true))])
def o_411 (A : AT) (P : Params) : Obj := (Obj.mk (.type (t A 11)) none (.fields #[(.ref 346), (.ref 346), (.ref 346)]) #[])
def o_412 (A : AT) (P : Params) : Obj := (Obj.mk (.type (t A 0)) none (.fields #[(.builtin (t A 1)), (.ref 346)]) #[])
def o_413 (A : AT) (P : Params) : Obj := (Obj.mk (.type (t A 8)) none (.dict #[(DictEntry.mk (keyHash P (s A 13)) (.str (s A 13) 165) (.str (s A 3) 316)), (DictEntry.mk (keyHash P (s A 14)) (.str (s A 14) 166) .none), (DictEntry.mk (keyHash P (s A 15)) (.str (s A 15) 167) .none), (DictEntry.mk (keyHash P (s A 16)) (.str (s A 16) 168) (.builtin (t A 9))), (DictEntry.mk (keyHash P (s A 17)) (.str (s A 17) 169) .none), (DictEntry.mk (keyHash P (s A 18)) (.str (s A 18) 170) (.ref 6)), (DictEntry.mk (keyHash P (s A 19)) (.str (s A 19) 171) (.ref 4)), (DictEntry.mk (keyHash P (s A 20)) (.str (s A 20) 173) (.str (s A 10) 172)), (DictEntry.mk (keyHash P (s A 21)) (.str (s A 21) 174) .none), (DictEntry.mk (keyHash P (s A 22)) (.str (s A 22) 193) (.ref 21)), (DictEntry.mk (keyHash P (s A 23)) (.str (s A 23) 213) (.ref 31)), (DictEntry.mk (keyHash P (s A 24)) (.str (s A 24) 229) (.ref 44)), (DictEntry.mk (keyHash P (s A 25)) (.str (s A 25) 245) (.ref 56)), (DictEntry.mk (keyHash P (s A 26)) (.str (s A 26) 254) (.ref 65)), (DictEntry.mk (keyHash P (s A 27)) (.str (s A 27) 262) (.ref 72)), (DictEntry.mk (keyHash P (s A 28)) (.str (s A 28) 266) (.str (s A 29) 265)), (DictEntry.mk (keyHash P (s A 30)) (.str (s A 30) 268) (.int 8 267)), (DictEntry.mk (keyHash P (s A 31)) (.str (s A 31) 274) (.ref 77)), (DictEntry.mk (keyHash P (s A 32)) (.str (s A 32) 307) (.ref 94)), (DictEntry.mk (keyHash P (s A 33)) (.str (s A 33) 315) (.ref 103)), (DictEntry.mk (keyHash P (s A 0)) (.str (s A 0) 337) (.ref 113)), (DictEntry.mk (keyHash P (s A 34)) (.str (s A 34) 381) (.ref 148)), (DictEntry.mk (keyHash P (s A 35)) (.str (s A 35) 434) (.ref 188)), (DictEntry.mk (keyHash P (s A 81)) (.str (s A 81) 487) (.ref 228)), (DictEntry.mk (keyHash P (s A 76)) (.str (s A 76) 540) (.ref 268)), (DictEntry.mk (keyHash P (s A 104)) (.str (s A 104) 593) (.ref 308)), (DictEntry.mk (keyHash P (s A 60)) (.str (s A 60) 644) (.ref 346)), (DictEntry.mk (keyHash P (s A 90)) (.str (s A 90) 695) (.ref 384)), (DictEntry.mk (keyHash P (s A 65)) (.str (s A 65) 702) (.ref 393)), (DictEntry.mk (keyHash P (s A 84)) (.str (s A 84) 709) (.ref 400))] 30) #[])
def o_414 (A : AT) (P : Params) : Obj := (Obj.mk .none none (.fields #[(.int 1 0), (.int 0 0), (.ref 20), (.int 5 0), (.int 0 0), (.ref 27), (.int 7 0), (.int 0 0), (.ref 40), (.int 9 0), (.int 0 0), (.ref 52), (.int 12 0), (.int 0 0), (.ref 64), (.int 14 0), (.int 0 0), (.ref 71), (.int 19 0), (.int 0 0), (.ref 76), (.int 23 0), (.int 0 0), (.ref 83), (.int 34 0), (.int 0 0), (.ref 102), (.int 39 0), (.int 0 0), (.ref 109), (.int 41 0), (.int 0 0), (.ref 123), (.int 51 0), (.int 0 0), (.ref 156), (.int 65 0), (.int 0 0), (.ref 196), (.int 79 0), (.int 0 0), (.ref 236), (.int 94 0), (.int 0 0), (.ref 276), (.int 108 0), (.int 0 0), (.ref 316), (.int 122 0), (.int 0 0), (.ref 354), (.int 136 0), (.int 0 0), (.ref 392), (.int 139 0), (.int 0 0), (.ref 399)]) #[])
def o_415 (A : AT) (P : Params) : Obj := (Obj.mk (.type (t A 2)) none (.cls (ClassData.mk (s A 0) [(.type (t A 3))] [(.ref 113), (.type (t A 3))] 112 (s A 0) true [] [(.ref 148), (.ref 188), (.ref 228), (.ref 268), (.ref 308), (.ref 346), (.ref 384)] false none false)) #[none, none, (some (.str (s A 0) 318)), (some (.str (s A 0) 326)), (some (.builtin (t A 4))), (some (.bool true))])
def o_416 (A : AT) (P : Params) : Obj := (Obj.mk (.type (t A 6)) none (.seq #[(.ref 113)] 0) #[])
def o_417 (A : AT) (P : Params) : Obj := (Obj.mk (.type (t A 0)) none (.fields #[(.builtin (t A 10)), (.type (t A 2))]) #[])
def o_418 (A : AT) (P : Params) : Obj := (Obj.mk (.type (t A 8)) none (.dict #[(DictEntry.mk (keyHash P (s A 41)) (.str (s A 41) 652) (.str (s A 3) 316)), (DictEntry.mk (keyHash P (s A 47)) (.str (s A 47) 654) (.str (s A 90) 653)), (DictEntry.mk (keyHash P (s A 42)) (.str (s A 42) 656) (.int 122 655)), (DictEntry.mk (keyHash P (s A 43)) (.str (s A 43) 664) (.ref 362)), (DictEntry.mk (keyHash P (s A 11)) (.str (s A 11) 670) (.ref 367)), (DictEntry.mk (keyHash P (s A 1)) (.str (s A 1) 680) (.ref 374)), (DictEntry.mk (keyHash P (s A 8)) (.str (s A 8) 690) (.ref 381)), (DictEntry.mk (keyHash P (s A 44)) (.str (s A 44) 692) (.ref 382))] 8) #[])
def o_419 (A : AT) (P : Params) : Obj := (Obj.mk (.type (t A 6)) none (.seq #[] 0) #[])
def o_420 (A : AT) (P : Params) : Obj := (Obj.mk .none none (.fields #[(.int 124 0), (.int 4 0), (.ref 361), (.int 128 0), (.int 4 0), (.ref 366), (.int 131 0), (.int 4 0), (.ref 373), (.int 134 0), (.int 4 0), (.ref 380)]) #[])
def o_421 (A : AT) (P : Params) : Obj := (Obj.mk (.type (t A 7)) none (.fields #[(.str (s A 90) 647), (.str (s A 90) 648), (.str (s A 10) 649), (.int 122 0), (.int 0 0), (.int 0 0), (.int 0 0), (.int 0 0), (.ref 352), (.bool false), (.int 181 0), (.ref 353), .none, .none, .none, .none, (.int 650 0), (.int 122 0), (.str (s A 10) 651)]) #[])
def o_422 (A : AT) (P : Params) : Obj := (Obj.mk (.type (t A 12)) none .plain #[(some (.ref 354)), (some (.ref 3)), (some (.ref 351)), none, (some (.str (s A 3) 316)), none, (some (.ref 0))])
def o_423 (A : AT) (P : Params) : Obj := (Obj.mk (.type (t A 6)) none (.seq #[] 0) #[])
def o_424 (A : AT) (P : Params) : Obj := (Obj.mk .none none (.fields #[]) #[])
def o_425 (A : AT) (P : Params) : Obj := (Obj.mk (.type (t A 6)) none (.seq #[(.str (s A 4) 660), (.str (s A 49) 661)] 0) #[])
def o_426 (A : AT) (P : Params) : Obj := (Obj.mk (.type (t A 6)) none (.seq #[] 0) #[])
def o_427 (A : AT) (P : Params) : Obj := (Obj.mk .none none (.func (FuncData.mk (s A 43) (s A 83) (defArgs (inClass (stm A 23) 0)) (FuncBody.stmts (defBody (inClass (stm A 23) 0))) (defScope (inClass (stm A 23) 0)) 0 [] .none .none .none .none none .none .none 0)) #[])
def o_428 (A : AT) (P : Params) : Obj := (Obj.mk (.type (t A 7)) none (.fields #[(.str (s A 43) 657), (.str (s A 83) 658), (.str (s A 10) 659), (.int 124 0), (.int 2 0), (.int 0 0), (.int 0 0), (.int 3 0), (.ref 356), (.bool true), (.int 181 0), (.ref 357), .none, (.ref 358), (.ref 359), (.ref 360), (.int 662 0), (.int 124 0), (.str (s A 10) 663)]) #[])
def o_429 (A : AT) (P : Params) : Obj := (Obj.mk (.type (t A 5)) none (.func (FuncData.mk (s A 43) (s A 83) (defArgs (inClass (stm A 23) 0)) (FuncBody.stmts (defBody (inClass (stm A 23) 0))) (defScope (inClass (stm A 23) 0)) 3 [] .none .none .none (.str (s A 3) 316) none (.ref 361) .none 0)) #[])
def o_430 (A : AT) (P : Params) : Obj := (Obj.mk (.type (t A 6)) none (.seq #[] 0) #[])
def o_431 (A : AT) (P : Params) : Obj := (Obj.mk .none none (.fields #[]) #[])
def o_432 (A : AT) (P : Params) : Obj := (Obj.mk .none none (.func (FuncData.mk (s A 11) (s A 129) (defArgs (inClass (stm A 23) 1)) (FuncBody.stmts (defBody (inClass (stm A 23) 1))) (defScope (inClass (stm A 23) 1)) 0 [] .none .none .none .none none .none .none 0)) #[])
def o_433 (A : AT) (P : Params) : Obj := (Obj.mk (.type (t A 7)) none (.fields #[(.str (s A 11) 665), (.str (s A 129) 666), (.str (s A 10) 667), (.int 128 0), (.int 2 0), (.int 0 0), (.int 0 0), (.int 3 0), (.ref 363), (.bool true), (.int 181 0), (.ref 364), .none, .none, .none, (.ref 365), (.int 668 0), (.int 128 0), (.str (s A 10) 669)]) #[])
def o_434 (A : AT) (P : Params) : Obj := (Obj.mk (.type (t A 5)) none (.func (FuncData.mk (s A 11) (s A 129) (defArgs (inClass (stm A 23) 1)) (FuncBody.stmts (defBody (inClass (stm A 23) 1))) (defScope (inClass (stm A 23) 1)) 3 [] .none .none .none (.str (s A 3) 316) none (.ref 366) .none 0)) #[])
def o_435 (A : AT) (P : Params) : Obj := (Obj.mk (.type (t A 6)) none (.seq #[] 0) #[])
def o_436 (A : AT) (P : Params) : Obj := (Obj.mk .none none (.fields #[]) #[])
def o_437 (A : AT) (P : Params) : Obj := (Obj.mk (.type (t A 6)) none (.seq #[(.str (s A 4) 674), (.str (s A 5) 675), (.str (s A 6) 676), (.str (s A 7) 677)] 0) #[])
def o_438 (A : AT) (P : Params) : Obj := (Obj.mk (.type (t A 6)) none (.seq #[] 0) #[])
def o_439 (A : AT) (P : Params) : Obj := (Obj.mk .none none (.func (FuncData.mk (s A 1) (s A 86) (defArgs (inClass (stm A 23) 2)) (FuncBody.stmts (defBody (inClass (stm A 23) 2))) (defScope (inClass (stm A 23) 2)) 0 [] .none .none .none .none none .none .none 0)) #[])
def o_440 (A : AT) (P : Params) : Obj := (Obj.mk (.type (t A 7)) none (.fields #[(.str (s A 1) 671), (.str (s A 86) 672), (.str (s A 10) 673), (.int 131 0), (.int 4 0), (.int 0 0), (.int 0 0), (.int 3 0), (.ref 368), (.bool true), (.int 181 0), (.ref 369), .none, (.ref 370), (.ref 371), (.ref 372), (.int 678 0), (.int 131 0), (.str (s A 10) 679)]) #[])
def o_441 (A : AT) (P : Params) : Obj := (Obj.mk (.type (t A 5)) none (.func (FuncData.mk (s A 1) (s A 86) (defArgs (inClass (stm A 23) 2)) (FuncBody.stmts (defBody (inClass (stm A 23) 2))) (defScope (inClass (stm A 23) 2)) 3 [] .none .none .none (.str (s A 3) 316) none (.ref 373) .none 0)) #[])
def o_442 (A : AT) (P : Params) : Obj := (Obj.mk (.type (t A 6)) none (.seq #[] 0) #[])
def o_443 (A : AT) (P : Params) : Obj := (Obj.mk .none none (.fields #[]) #[])
def o_444 (A : AT) (P : Params) : Obj := (Obj.mk (.type (t A 6)) none (.seq #[(.str (s A 4) 684), (.str (s A 52) 685), (.str (s A 53) 686), (.str (s A 54) 687)] 0) #[])
def o_445 (A : AT) (P : Params) : Obj := (Obj.mk (.type (t A 6)) none (.seq #[] 0) #[])
def o_446 (A : AT) (P : Params) : Obj := (Obj.mk .none none (.func (FuncData.mk (s A 8) (s A 75) (defArgs (inClass (stm A 23) 3)) (FuncBody.stmts (defBody (inClass (stm A 23) 3))) (defScope (inClass (stm A 23) 3)) 0 [] .none .none .none .none none .none .none 0)) #[])
def o_447 (A : AT) (P : Params) : Obj := (Obj.mk (.type (t A 7)) none (.fields #[(.str (s A 8) 681), (.str (s A 75) 682), (.str (s A 10) 683), (.int 134 0), (.int 4 0), (.int 0 0), (.int 0 0), (.int 3 0), (.ref 375), (.bool true), (.int 181 0), (.ref 376), .none, (.ref 377), (.ref 378), (.ref 379), (.int 688 0), (.int 134 0), (.str (s A 10) 689)]) #[])
def o_448 (A : AT) (P : Params) : Obj := (Obj.mk (.type (t A 5)) none (.func (FuncData.mk (s A 8) (s A 75) (defArgs (inClass (stm A 23) 3)) (FuncBody.stmts (defBody (inClass (stm A 23) 3))) (defScope (inClass (stm A 23) 3)) 3 [] .none .none .none (.str (s A 3) 316) none (.ref 380) .none 0)) #[])
def o_449 (A : AT) (P : Params) : Obj := (Obj.mk (.type (t A 6)) none (.seq #[(.str (s A 49) 691)] 0) #[])
def o_450 (A : AT) (P : Params) : Obj := (Obj.mk (.type (t A 8)) none (.dict #[(DictEntry.mk (keyHash P (s A 41)) (.str (s A 41) 652) (.str (s A 3) 316)), (DictEntry.mk (keyHash P (s A 42)) (.str (s A 42) 656) (.int 122 655)), (DictEntry.mk (keyHash P (s A 43)) (.str (s A 43) 664) (.ref 362)), (DictEntry.mk (keyHash P (s A 11)) (.str (s A 11) 670) (.ref 367)), (DictEntry.mk (keyHash P (s A 1)) (.str (s A 1) 680) (.ref 374)), (DictEntry.mk (keyHash P (s A 8)) (.str (s A 8) 690) (.ref 381)), (DictEntry.mk (keyHash P (s A 44)) (.str (s A 44) 692) (.ref 382)), (DictEntry.mk (keyHash P (s A 14)) (.str (s A 14) 693) .none)] 2) #[])
def o_451 (A : AT) (P : Params) : Obj := (Obj.mk (.type (t A 2)) none (.cls (ClassData.mk (s A 90) [(.ref 113)] [(.ref 384), (.ref 113), (.type (t A 3))] 383 (s A 90) true [] [] false none false)) #[(some (.ref 349)), none, (some (.str (s A 90) 645)), (some (.str (s A 90) 653)), (some (.builtin (t A 4))), (some (.bool true))])
def o_452 (A : AT) (P : Params) : Obj := (Obj.mk (.type (t A 11)) none (.fields #[(.ref 384), (.ref 384), (.ref 384)]) #[])
def o_453 (A : AT) (P : Params) : Obj := (Obj.mk (.type (t A 0)) none (.fields #[(.builtin (t A 1)), (.ref 384)]) #[])
def o_454 (A : AT) (P : Params) : Obj := (Obj.mk (.type (t A 6)) none (.seq #[] 0) #[])
def o_455 (A : AT) (P : Params) : Obj := (Obj.mk .none none (.fields #[]) #[])
def o_456 (A : AT) (P : Params) : Obj := (Obj.mk (.type (t A 6)) none (.seq #[(.str (s A 88) 699)] 0) #[])
def o_457 (A : AT) (P : Params) : Obj := (Obj.mk (.type (t A 6)) none (.seq #[] 0) #[])
def o_458 (A : AT) (P : Params) : Obj := (Obj.mk .none none (.func (FuncData.mk (s A 65) (s A 65) (defArgs (stm A 24)) (FuncBody.stmts (defBody (stm A 24))) (defScope (stm A 24)) 0 [] .none .none .none .none none .none .none 0)) #[])
def o_459 (A : AT) (P : Params) : Obj := (Obj.mk (.type (t A 7)) none (.fields #[(.str (s A 65) 696), (.str (s A 65) 697), (.str (s A 10) 698), (.int 136 0), (.int 1 0), (.int 0 0), (.int 0 0), (.int 3 0), (.ref 387), (.bool true), (.int 181 0), (.ref 388), .none, (.ref 389), (.ref 390), (.ref 391), (.int 700 0), (.int 136 0), (.str (s A 10) 701)]) #[])
def o_460 (A : AT) (P : Params) : Obj := (Obj.mk (.type (t A 5)) none (.func (FuncData.mk (s A 65) (s A 65) (defArgs (stm A 24)) (FuncBody.stmts (defBody (stm A 24))) (defScope (stm A 24)) 3 [] .none .none .none (.str (s A 3) 316) none (.ref 392) .none 0)) #[])
def o_461 (A : AT) (P : Params) : Obj := (Obj.mk (.type (t A 6)) none (.seq #[] 0) #[])
def o_462 (A : AT) (P : Params) : Obj := (Obj.mk .none none (.fields #[]) #[])
def o_463 (A : AT) (P : Params) : Obj := (Obj.mk (.type (t A 6)) none (.seq #[(.str (s A 50) 706)] 0) #[])
def o_464 (A : AT) (P : Params) : Obj := (Obj.mk (.type (t A 6)) none (.seq #[] 0) #[])
def o_465 (A : AT) (P : Params) : Obj := (Obj.mk .none none (.func (FuncData.mk (s A 84) (s A 84) (defArgs (stm A 25)) (FuncBody.stmts (defBody (stm A 25))) (defScope (stm A 25)) 0 [] .none .none .none .none none .none .none 0)) #[])
def o_466 (A : AT) (P : Params) : Obj := (Obj.mk (.type (t A 7)) none (.fields #[(.str (s A 84) 703), (.str (s A 84) 704), (.str (s A 10) 705), (.int 139 0), (.int 1 0), (.int 0 0), (.int 0 0), (.int 3 0), (.ref 394), (.bool true), (.int 181 0), (.ref 395), .none, (.ref 396), (.ref 397), (.ref 398), (.int 707 0), (.int 139 0), (.str (s A 10) 708)]) #[])
def o_467 (A : AT) (P : Params) : Obj := (Obj.mk (.type (t A 5)) none (.func (FuncData.mk (s A 84) (s A 84) (defArgs (stm A 25)) (FuncBody.stmts (defBody (stm A 25))) (defScope (stm A 25)) 3 [] .none .none .none (.str (s A 3) 316) none (.ref 399) .none 0)) #[])
def o_468 (A : AT) (P : Params) : Obj := (Obj.mk (.type (t A 8)) none (.dict #[(DictEntry.mk (keyHash P (s A 13)) (.str (s A 13) 165) (.str (s A 58) 718)), (DictEntry.mk (keyHash P (s A 14)) (.str (s A 14) 166) .none), (DictEntry.mk (keyHash P (s A 15)) (.str (s A 15) 167) .none), (DictEntry.mk (keyHash P (s A 16)) (.str (s A 16) 168) (.builtin (t A 9))), (DictEntry.mk (keyHash P (s A 17)) (.str (s A 17) 169) .none), (DictEntry.mk (keyHash P (s A 18)) (.str (s A 18) 170) (.ref 6)), (DictEntry.mk (keyHash P (s A 19)) (.str (s A 19) 171) (.ref 4)), (DictEntry.mk (keyHash P (s A 20)) (.str (s A 20) 173) (.str (s A 10) 172)), (DictEntry.mk (keyHash P (s A 21)) (.str (s A 21) 174) .none), (DictEntry.mk (keyHash P (s A 22)) (.str (s A 22) 193) (.ref 21)), (DictEntry.mk (keyHash P (s A 23)) (.str (s A 23) 213) (.ref 31)), (DictEntry.mk (keyHash P (s A 24)) (.str (s A 24) 229) (.ref 44)), (DictEntry.mk (keyHash P (s A 25)) (.str (s A 25) 245) (.ref 56)), (DictEntry.mk (keyHash P (s A 26)) (.str (s A 26) 254) (.ref 65)), (DictEntry.mk (keyHash P (s A 27)) (.str (s A 27) 262) (.ref 72)), (DictEntry.mk (keyHash P (s A 28)) (.str (s A 28) 266) (.str (s A 29) 265)), (DictEntry.mk (keyHash P (s A 30)) (.str (s A 30) 268) (.int 8 267)), (DictEntry.mk (keyHash P (s A 31)) (.str (s A 31) 274) (.ref 77)), (DictEntry.mk (keyHash P (s A 32)) (.str (s A 32) 307) (.ref 94)), (DictEntry.mk (keyHash P (s A 33)) (.str (s A 33) 315) (.ref 103)), (DictEntry.mk (keyHash P (s A 0)) (.str (s A 0) 337) (.ref 113)), (DictEntry.mk (keyHash P (s A 34)) (.str (s A 34) 381) (.ref 148)), (DictEntry.mk (keyHash P (s A 35)) (.str (s A 35) 434) (.ref 188)), (DictEntry.mk (keyHash P (s A 81)) (.str (s A 81) 487) (.ref 228)), (DictEntry.mk (keyHash P (s A 76)) (.str (s A 76) 540) (.ref 268)), (DictEntry.mk (keyHash P (s A 104)) (.str (s A 104) 593) (.ref 308)), (DictEntry.mk (keyHash P (s A 60)) (.str (s A 60) 644) (.ref 346)), (DictEntry.mk (keyHash P (s A 90)) (.str (s A 90) 695) (.ref 384)), (DictEntry.mk (keyHash P (s A 65)) (.str (s A 65) 702) (.ref 393)), (DictEntry.mk (keyHash P (s A 84)) (.str (s A 84) 709) (.ref 400)), (DictEntry.mk (keyHash P (s A 72)) (.str (s A 72) 717) (.ref 407)), (DictEntry.mk (keyHash P (s A 62)) (.str (s A 62) 727) (.ref 414)), (DictEntry.mk (keyHash P (s A 82)) (.str (s A 82) 734) (.ref 421)), (DictEntry.mk (keyHash P (s A 102)) (.str (s A 102) 744) (.ref 428)), (DictEntry.mk (keyHash P (s A 94)) (.str (s A 94) 750) (.ref 433)), (DictEntry.mk (keyHash P (s A 79)) (.str (s A 79) 762) (.ref 440)), (DictEntry.mk (keyHash P (s A 96)) (.str (s A 96) 768) (.ref 445)), (DictEntry.mk (keyHash P (s A 40)) (.str (s A 40) 774) (.ref 450)), (DictEntry.mk (keyHash P (s A 55)) (.str (s A 55) 784) (.ref 457)), (DictEntry.mk (keyHash P (s A 87)) (.str (s A 87) 792) (.ref 464)), (DictEntry.mk (keyHash P (s A 98)) (.str (s A 98) 808) (.ref 471)), (DictEntry.mk (keyHash P (s A 56)) (.str (s A 56) 818) (.ref 478)), (DictEntry.mk (keyHash P (s A 117)) (.str (s A 117) 824) (.ref 483))] 43) #[])
def o_469 (A : AT) (P : Params) : Obj := (Obj.mk .none none (.fields #[(.int 1 0), (.int 0 0), (.ref 20), (.int 5 0), (.int 0 0), (.ref 27), (.int 7 0), (.int 0 0), (.ref 40), (.int 9 0), (.int 0 0), (.ref 52), (.int 12 0), (.int 0 0), (.ref 64), (.int 14 0), (.int 0 0), (.ref 71), (.int 19 0), (.int 0 0), (.ref 76), (.int 23 0), (.int 0 0), (.ref 83), (.int 34 0), (.int 0 0), (.ref 102), (.int 39 0), (.int 0 0), (.ref 109), (.int 41 0), (.int 0 0), (.ref 123), (.int 51 0), (.int 0 0), (.ref 156), (.int 65 0), (.int 0 0), (.ref 196), (.int 79 0), (.int 0 0), (.ref 236), (.int 94 0), (.int 0 0), (.ref 276), (.int 108 0), (.int 0 0), (.ref 316), (.int 122 0), (.int 0 0), (.ref 354), (.int 136 0), (.int 0 0), (.ref 392), (.int 139 0), (.int 0 0), (.ref 399), (.int 142 0), (.int 0 0), (.ref 406), (.int 148 0), (.int 0 0), (.ref 413), (.int 152 0), (.int 0 0), (.ref 420), (.int 154 0), (.int 0 0), (.ref 427), (.int 164 0), (.int 0 0), (.ref 432), (.int 175 0), (.int 0 0), (.ref 439), (.int 187 0), (.int 0 0), (.ref 444), (.int 195 0), (.int 0 0), (.ref 449), (.int 209 0), (.int 0 0), (.ref 456), (.int 221 0), (.int 0 0), (.ref 463), (.int 225 0), (.int 0 0), (.ref 470), (.int 236 0), (.int 0 0), (.ref 477), (.int 242 0), (.int 0 0), (.ref 482)]) #[])
def o_470 (A : AT) (P : Params) : Obj := (Obj.mk (.type (t A 6)) none (.seq #[] 0) #[])
def o_471 (A : AT) (P : Params) : Obj := (Obj.mk .none none (.fields #[]) #[])
def o_472 (A : AT) (P : Params) : Obj := (Obj.mk (.type (t A 6)) none (.seq #[(.str (s A 49) 713), (.str (s A 50) 714)] 0) #[])
def o_473 (A : AT) (P : Params) : Obj := (Obj.mk (.type (t A 6)) none (.seq #[] 0) #[])
def o_474 (A : AT) (P : Params) : Obj := (Obj.mk .none none (.func (FuncData.mk (s A 72) (s A 72) (defArgs (stm A 26)) (FuncBody.stmts (defBody (stm A 26))) (defScope (stm A 26)) 0 [] .none .none .none .none none .none .none 0)) #[])
def o_475 (A : AT) (P : Params) : Obj := (Obj.mk (.type (t A 7)) none (.fields #[(.str (s A 72) 710), (.str (s A 72) 711), (.str (s A 10) 712), (.int 142 0), (.int 1 0), (.int 0 0), (.int 0 0), (.int 3 0), (.ref 401), (.bool true), (.int 181 0), (.ref 402), .none, (.ref 403), (.ref 404), (.ref 405), (.int 715 0), (.int 142 0), (.str (s A 10) 716)]) #[])
def o_476 (A : AT) (P : Params) : Obj := (Obj.mk (.type (t A 5)) none (.func (FuncData.mk (s A 72) (s A 72) (defArgs (stm A 26)) (FuncBody.stmts (defBody (stm A 26))) (defScope (stm A 26)) 3 [] .none .none .none (.str (s A 3) 316) none (.ref 406) .none 0)) #[])
def o_477 (A : AT) (P : Params) : Obj := (Obj.mk (.type (t A 6)) none (.seq #[] 0) #[])
def o_478 (A : AT) (P : Params) : Obj := (Obj.mk .none none (.fields #[]) #[])
def o_479 (A : AT) (P : Params) : Obj := (Obj.mk (.type (t A 6)) none (.seq #[(.str (s A 106) 723), (.str (s A 70) 724)] 0) #[])
def o_480 (A : AT) (P : Params) : Obj := (Obj.mk (.type (t A 6)) none (.seq #[] 0) #[])
def o_481 (A : AT) (P : Params) : Obj := (Obj.mk .none none (.func (FuncData.mk (s A 62) (s A 62) (defArgs (stm A 28)) (FuncBody.stmts (defBody (stm A 28))) (defScope (stm A 28)) 0 [] .none .none .none .none none .none .none 0)) #[])
def o_482 (A : AT) (P : Params) : Obj := (Obj.mk (.type (t A 7)) none (.fields #[(.str (s A 62) 720), (.str (s A 62) 721), (.str (s A 10) 722), (.int 148 0), (.int 2 0), (.int 0 0), (.int 0 0), (.int 3 0), (.ref 408), (.bool true), (.int 181 0), (.ref 409), .none, (.ref 410), (.ref 411), (.ref 412), (.int 725 0), (.int 148 0), (.str (s A 10) 726)]) #[])
def o_483 (A : AT) (P : Params) : Obj := (Obj.mk (.type (t A 5)) none (.func (FuncData.mk (s A 62) (s A 62) (defArgs (stm A 28)) (FuncBody.stmts (defBody (stm A 28))) (defScope (stm A 28)) 3 [] .none .none .none (.str (s A 58) 718) none (.ref 413) .none 0)) #[])
def o_484 (A : AT) (P : Params) : Obj := (Obj.mk (.type (t A 6)) none (.seq #[] 0) #[])
def o_485 (A : AT) (P : Params) : Obj := (Obj.mk .none none (.fields #[]) #[])
def o_486 (A : AT) (P : Params) : Obj := (Obj.mk (.type (t A 6)) none (.seq #[(.str (s A 112) 731)] 0) #[])
def o_487 (A : AT) (P : Params) : Obj := (Obj.mk (.type (t A 6)) none (.seq #[] 0) #[])
def o_488 (A : AT) (P : Params) : Obj := (Obj.mk .none none (.func (FuncData.mk (s A 82) (s A 82) (defArgs (stm A 29)) (FuncBody.stmts (defBody (stm A 29))) (defScope (stm A 29)) 0 [] .none .none .none .none none .none .none 0)) #[])
def o_489 (A : AT) (P : Params) : Obj := (Obj.mk (.type (t A 7)) none (.fields #[(.str (s A 82) 728), (.str (s A 82) 729), (.str (s A 10) 730), (.int 152 0), (.int 1 0), (.int 0 0), (.int 0 0), (.int 3 0), (.ref 415), (.bool true), (.int 181 0), (.ref 416), .none, (.ref 417), (.ref 418), (.ref 419), (.int 732 0), (.int 152 0), (.str (s A 10) 733)]) #[])
def o_490 (A : AT) (P : Params) : Obj := (Obj.mk (.type (t A 5)) none (.func (FuncData.mk (s A 82) (s A 82) (defArgs (stm A 29)) (FuncBody.stmts (defBody (stm A 29))) (defScope (stm A 29)) 3 [] .none .none .none (.str (s A 58) 718) none (.ref 420) .none 0)) #[])
def o_491 (A : AT) (P : Params) : Obj := (Obj.mk (.type (t A 6)) none (.seq #[] 0) #[])
def o_492 (A : AT) (P : Params) : Obj := (Obj.mk .none none (.fields #[]) #[])
def o_493 (A : AT) (P : Params) : Obj := (Obj.mk (.type (t A 6)) none (.seq #[(.str (s A 66) 738), (.str (s A 92) 739), (.str (s A 39) 740), (.str (s A 93) 741)] 0) #[])
def o_494 (A : AT) (P : Params) : Obj := (Obj.mk (.type (t A 6)) none (.seq #[] 0) #[])
def o_495 (A : AT) (P : Params) : Obj := (Obj.mk .none none (.func (FuncData.mk (s A 102) (s A 102) (defArgs (stm A 30)) (FuncBody.stmts (defBody (stm A 30))) (defScope (stm A 30)) 0 [] .none .none .none .none none .none .none 0)) #[])
def o_496 (A : AT) (P : Params) : Obj := (Obj.mk (.type (t A 7)) none (.fields #[(.str (s A 102) 735), (.str (s A 102) 736), (.str (s A 10) 737), (.int 154 0), (.int 2 0), (.int 0 0), (.int 0 0), (.int 3 0), (.ref 422), (.bool true), (.int 181 0), (.ref 423), .none, (.ref 424), (.ref 425), (.ref 426), (.int 742 0), (.int 154 0), (.str (s A 10) 743)]) #[])
def o_497 (A : AT) (P : Params) : Obj := (Obj.mk (.type (t A 5)) none (.func (FuncData.mk (s A 102) (s A 102) (defArgs (stm A 30)) (FuncBody.stmts (defBody (stm A 30))) (defScope (stm A 30)) 3 [] .none .none .none (.str (s A 58) 718) none (.ref 427) .none 0)) #[])
def o_498 (A : AT) (P : Params) : Obj := (Obj.mk (.type (t A 6)) none (.seq #[] 0) #[])
def o_499 (A : AT) (P : Params) : Obj := (Obj.mk .none none (.fields #[]) #[])
def o_500 (A : AT) (P : Params) : Obj := (Obj.mk .none none (.func (FuncData.mk (s A 94) (s A 94) (defArgs (stm A 31)) (FuncBody.stmts (defBody (stm A 31))) (defScope (stm A 31)) 0 [] .none .none .none .none none .none .none 0)) #[])
def o_501 (A : AT) (P : Params) : Obj := (Obj.mk (.type (t A 7)) none (.fields #[(.str (s A 94) 745), (.str (s A 94) 746), (.str (s A 10) 747), (.int 164 0), (.int 1 0), (.int 0 0), (.int 0 0), (.int 3 0), (.ref 429), (.bool true), (.int 181 0), (.ref 430), .none, .none, .none, (.ref 431), (.int 748 0), (.int 164 0), (.str (s A 10) 749)]) #[])
def o_502 (A : AT) (P : Params) : Obj := (Obj.mk (.type (t A 5)) none (.func (FuncData.mk (s A 94) (s A 94) (defArgs (stm A 31)) (FuncBody.stmts (defBody (stm A 31))) (defScope (stm A 31)) 3 [] .none .none .none (.str (s A 58) 718) none (.ref 432) .none 0)) #[])
def o_503 (A : AT) (P : Params) : Obj := (Obj.mk (.type (t A 6)) none (.seq #[] 0) #[])
def o_504 (A : AT) (P : Params) : Obj := (Obj.mk .none none (.fields #[]) #[])
def o_505 (A : AT) (P : Params) : Obj := (Obj.mk (.type (t A 6)) none (.seq #[(.str (s A 66) 754), (.str (s A 67) 755), (.str (s A 68) 756), (.str (s A 69) 757), (.str (s A 70) 758), (.str (s A 71) 759)] 0) #[])
def o_506 (A : AT) (P : Params) : Obj := (Obj.mk (.type (t A 6)) none (.seq #[] 0) #[])
def o_507 (A : AT) (P : Params) : Obj := (Obj.mk .none none (.func (FuncData.mk (s A 79) (s A 79) (defArgs (stm A 32)) (FuncBody.stmts (defBody (stm A 32))) (defScope (stm A 32)) 0 [] .none .none .none .none none .none .none 0)) #[])
def o_508 (A : AT) (P : Params) : Obj := (Obj.mk (.type (t A 7)) none (.fields #[(.str (s A 79) 751), (.str (s A 79) 752), (.str (s A 10) 753), (.int 175 0), (.int 2 0), (.int 0 0), (.int 0 0), (.int 3 0), (.ref 434), (.bool true), (.int 181 0), (.ref 435), .none, (.ref 436), (.ref 437), (.ref 438), (.int 760 0), (.int 175 0), (.str (s A 10) 761)]) #[])
def o_509 (A : AT) (P : Params) : Obj := (Obj.mk (.type (t A 5)) none (.func (FuncData.mk (s A 79) (s A 79) (defArgs (stm A 32)) (FuncBody.stmts (defBody (stm A 32))) (defScope (stm A 32)) 3 [] .none .none .none (.str (s A 58) 718) none (.ref 439) .none 0)) #[])
def o_510 (A : AT) (P : Params) : Obj := (Obj.mk (.type (t A 6)) none (.seq #[] 0) #[])
def o_511 (A : AT) (P : Params) : Obj := (Obj.mk .none none (.fields #[]) #[])
def o_512 (A : AT) (P : Params) : Obj := (Obj.mk .none none (.func (FuncData.mk (s A 96) (s A 96) (defArgs (stm A 33)) (FuncBody.stmts (defBody (stm A 33))) (defScope (stm A 33)) 0 [] .none .none .none .none none .none .none 0)) #[])
def o_513 (A : AT) (P : Params) : Obj := (Obj.mk (.type (t A 7)) none (.fields #[(.str (s A 96) 763), (.str (s A 96) 764), (.str (s A 10) 765), (.int 187 0), (.int 3 0), (.int 0 0), (.int 0 0), (.int 3 0), (.ref 441), (.bool true), (.int 181 0), (.ref 442), .none, .none, .none, (.ref 443), (.int 766 0), (.int 187 0), (.str (s A 10) 767)]) #[])
def o_514 (A : AT) (P : Params) : Obj := (Obj.mk (.type (t A 5)) none (.func (FuncData.mk (s A 96) (s A 96) (defArgs (stm A 33)) (FuncBody.stmts (defBody (stm A 33))) (defScope (stm A 33)) 3 [] .none .none .none (.str (s A 58) 718) none (.ref 444) .none 0)) #[])
def o_515 (A : AT) (P : Params) : Obj := (Obj.mk (.type (t A 6)) none (.seq #[] 0) #[])
def o_516 (A : AT) (P : Params) : Obj := (Obj.mk .none none (.fields #[]) #[])
def o_517 (A : AT) (P : Params) : Obj := (Obj.mk .none none (.func (FuncData.mk (s A 40) (s A 40) (defArgs (stm A 34)) (FuncBody.stmts (defBody (stm A 34))) (defScope (stm A 34)) 0 [] .none .none .none .none none .none .none 0)) #[])
def o_518 (A : AT) (P : Params) : Obj := (Obj.mk (.type (t A 7)) none (.fields #[(.str (s A 40) 769), (.str (s A 40) 770), (.str (s A 10) 771), (.int 195 0), (.int 1 0), (.int 0 0), (.int 0 0), (.int 3 0), (.ref 446), (.bool true), (.int 181 0), (.ref 447), .none, .none, .none, (.ref 448), (.int 772 0), (.int 195 0), (.str (s A 10) 773)]) #[])
def o_519 (A : AT) (P : Params) : Obj := (Obj.mk (.type (t A 5)) none (.func (FuncData.mk (s A 40) (s A 40) (defArgs (stm A 34)) (FuncBody.stmts (defBody (stm A 34))) (defScope (stm A 34)) 3 [] .none .none .none (.str (s A 58) 718) none (.ref 449) .none 0)) #[])
def o_520 (A : AT) (P : Params) : Obj := (Obj.mk (.type (t A 6)) none (.seq #[] 0) #[])
def o_521 (A : AT) (P : Params) : Obj := (Obj.mk .none none (.fields #[]) #[])
def o_522 (A : AT) (P : Params) : Obj := (Obj.mk (.type (t A 6)) none (.seq #[(.str (s A 121) 778), (.str (s A 122) 779), (.str (s A 39) 780), (.str (s A 123) 781)] 0) #[])
def o_523 (A : AT) (P : Params) : Obj := (Obj.mk (.type (t A 6)) none (.seq #[] 0) #[])
def o_524 (A : AT) (P : Params) : Obj := (Obj.mk .none none (.func (FuncData.mk (s A 55) (s A 55) (defArgs (stm A 35)) (FuncBody.stmts (defBody (stm A 35))) (defScope (stm A 35)) 0 [] .none .none .none .none none .none .none 0)) #[])
def o_525 (A : AT) (P : Params) : Obj := (Obj.mk (.type (t A 7)) none (.fields #[(.str (s A 55) 775), (.str (s A 55) 776), (.str (s A 10) 777), (.int 209 0), (.int 2 0), (.int 0 0), (.int 0 0), (.int 3 0), (.ref 451), (.bool true), (.int 181 0), (.ref 452), .none, (.ref 453), (.ref 454), (.ref 455), (.int 782 0), (.int 209 0), (.str (s A 10) 783)]) #[])
def o_526 (A : AT) (P : Params) : Obj := (Obj.mk (.type (t A 5)) none (.func (FuncData.mk (s A 55) (s A 55) (defArgs (stm A 35)) (FuncBody.stmts (defBody (stm A 35))) (defScope (stm A 35)) 3 [] .none .none .none (.str (s A 58) 718) none (.ref 456) .none 0)) #[])
def o_527 (A : AT) (P : Params) : Obj := (Obj.mk (.type (t A 6)) none (.seq #[] 0) #[])
def o_528 (A : AT) (P : Params) : Obj := (Obj.mk .none none (.fields #[]) #[])
def o_529 (A : AT) (P : Params) : Obj := (Obj.mk (.type (t A 6)) none (.seq #[(.str (s A 66) 788), (.str (s A 103) 789)] 0) #[])
def o_530 (A : AT) (P : Params) : Obj := (Obj.mk (.type (t A 6)) none (.seq #[] 0) #[])
def o_531 (A : AT) (P : Params) : Obj := (Obj.mk .none none (.func (FuncData.mk (s A 87) (s A 87) (defArgs (stm A 36)) (FuncBody.stmts (defBody (stm A 36))) (defScope (stm A 36)) 0 [] .none .none .none .none none .none .none 0)) #[])
def o_532 (A : AT) (P : Params) : Obj := (Obj.mk (.type (t A 7)) none (.fields #[(.str (s A 87) 785), (.str (s A 87) 786), (.str (s A 10) 787), (.int 221 0), (.int 2 0), (.int 0 0), (.int 0 0), (.int 3 0), (.ref 458), (.bool true), (.int 181 0), (.ref 459), .none, (.ref 460), (.ref 461), (.ref 462), (.int 790 0), (.int 221 0), (.str (s A 10) 791)]) #[])
def o_533 (A : AT) (P : Params) : Obj := (Obj.mk (.type (t A 5)) none (.func (FuncData.mk (s A 87) (s A 87) (defArgs (stm A 36)) (FuncBody.stmts (defBody (stm A 36))) (defScope (stm A 36)) 3 [] .none .none .none (.str (s A 58) 718) none (.ref 463) .none 0)) #[])
def o_534 (A : AT) (P : Params) : Obj := (Obj.mk (.type (t A 6)) none (.seq #[] 0) #[])
def o_535 (A : AT) (P : Params) : Obj := (Obj.mk .none none (.fields #[]) #[])
def o_536 (A : AT) (P : Params) : Obj := (Obj.mk (.type (t A 6)) none (.seq #[(.str (s A 106) 796), (.str (s A 107) 797), (.str (s A 108) 798), (.str (s A 109) 799), (.str (s A 110) 800), (.str (s A 111) 801), (.str (s A 39) 802), (.str (s A 112) 803), (.str (s A 66) 804), (.str (s A 113) 805)] 0) #[])
def o_537 (A : AT) (P : Params) : Obj := (Obj.mk (.type (t A 6)) none (.seq #[] 0) #[])
def o_538 (A : AT) (P : Params) : Obj := (Obj.mk .none none (.func (FuncData.mk (s A 98) (s A 98) (defArgs (stm A 37)) (FuncBody.stmts (defBody (stm A 37))) (defScope (stm A 37)) 0 [] .none .none .none .none none .none .none 0)) #[])
def o_539 (A : AT) (P : Params) : Obj := (Obj.mk (.type (t A 7)) none (.fields #[(.str (s A 98) 793), (.str (s A 98) 794), (.str (s A 10) 795), (.int 225 0), (.int 2 0), (.int 0 0), (.int 0 0), (.int 3 0), (.ref 465), (.bool true), (.int 181 0), (.ref 466), .none, (.ref 467), (.ref 468), (.ref 469), (.int 806 0), (.int 225 0), (.str (s A 10) 807)]) #[])
def o_540 (A : AT) (P : Params) : Obj := (Obj.mk (.type (t A 5)) none (.func (FuncData.mk (s A 98) (s A 98) (defArgs (stm A 37)) (FuncBody.stmts (defBody (stm A 37))) (defScope (stm A 37)) 3 [] .none .none .none (.str (s A 58) 718) none (.ref 470) .none 0)) #[])
def o_541 (A : AT) (P : Params) : Obj := (Obj.mk (.type (t A 6)) none (.seq #[] 0) #[])
def o_542 (A : AT) (P : Params) : Obj := (Obj.mk .none none (.fields #[]) #[])
def o_543 (A : AT) (P : Params) : Obj := (Obj.mk (.type (t A 6)) none (.seq #[(.str (s A 36) 812), (.str (s A 37) 813), (.str (s A 38) 814), (.str (s A 39) 815)] 0) #[])
def o_544 (A : AT) (P : Params) : Obj := (Obj.mk (.type (t A 6)) none (.seq #[] 0) #[])
def o_545 (A : AT) (P : Params) : Obj := (Obj.mk .none none (.func (FuncData.mk (s A 56) (s A 56) (defArgs (stm A 38)) (FuncBody.stmts (defBody (stm A 38))) (defScope (stm A 38)) 0 [] .none .none .none .none none .none .none 0)) #[])
def o_546 (A : AT) (P : Params) : Obj := (Obj.mk (.type (t A 7)) none (.fields #[(.str (s A 56) 809), (.str (s A 56) 810), (.str (s A 10) 811), (.int 236 0), (.int 3 0), (.int 0 0), (.int 0 0), (.int 3 0), (.ref 472), (.bool true), (.int 181 0), (.ref 473), .none, (.ref 474), (.ref 475), (.ref 476), (.int 816 0), (.int 236 0), (.str (s A 10) 817)]) #[])
def o_547 (A : AT) (P : Params) : Obj := (Obj.mk (.type (t A 5)) none (.func (FuncData.mk (s A 56) (s A 56) (defArgs (stm A 38)) (FuncBody.stmts (defBody (stm A 38))) (defScope (stm A 38)) 3 [] .none .none .none (.str (s A 58) 718) none (.ref 477) .none 0)) #[])
def o_548 (A : AT) (P : Params) : Obj := (Obj.mk (.type (t A 6)) none (.seq #[] 0) #[])
def o_549 (A : AT) (P : Params) : Obj := (Obj.mk .none none (.fields #[]) #[])
def o_550 (A : AT) (P : Params) : Obj := (Obj.mk .none none (.func (FuncData.mk (s A 117) (s A 117) (defArgs (stm A 39)) (FuncBody.stmts (defBody (stm A 39))) (defScope (stm A 39)) 0 [] .none .none .none .none none .none .none 0)) #[])
def o_551 (A : AT) (P : Params) : Obj := (Obj.mk (.type (t A 7)) none (.fields #[(.str (s A 117) 819), (.str (s A 117) 820), (.str (s A 10) 821), (.int 242 0), (.int 1 0), (.int 0 0), (.int 0 0), (.int 3 0), (.ref 479), (.bool true), (.int 181 0), (.ref 480), .none, .none, .none, (.ref 481), (.int 822 0), (.int 242 0), (.str (s A 10) 823)]) #[])
def o_552 (A : AT) (P : Params) : Obj := (Obj.mk (.type (t A 5)) none (.func (FuncData.mk (s A 117) (s A 117) (defArgs (stm A 39)) (FuncBody.stmts (defBody (stm A 39))) (defScope (stm A 39)) 3 [] .none .none .none (.str (s A 58) 718) none (.ref 482) .none 0)) #[])
def tree_85 (A : AT) : Params → PySem.W.BT := (fun P => (N (boot_o_0 P) (N (boot_o_1 P) (N (o_71 A P) (N (boot_o_7 P) (N (o_51 A P) (N (o_73 A P) L L) L) (N (o_59 A P) (N (o_78 A P) L L) L)) (N (o_43 A P) (N (o_55 A P) (N (o_74 A P) L L) L) (N (o_63 A P) (N (o_82 A P) L L) L))) (N (boot_o_5 P) (N (boot_o_9 P) (N (o_53 A P) (N (o_69 A P) L L) L) (N (o_61 A P) (N (o_80 A P) L L) L)) (N (o_45 A P) (N (o_57 A P) (N (o_76 A P) L L) L) (N (o_65 A P) (N (o_84 A P) L L) L)))) (N (boot_o_2 P) (N (boot_o_4 P) (N (boot_o_8 P) (N (o_52 A P) (N (o_68 A P) L L) L) (N (o_60 A P) (N (o_79 A P) L L) L)) (N (o_72 A P) (N (o_56 A P) (N (o_75 A P) L L) L) (N (o_64 A P) (N (o_83 A P) L L) L))) (N (boot_o_6 P) (N (boot_o_10 P) (N (o_54 A P) (N (o_70 A P) L L) L) (N (o_62 A P) (N (o_81 A P) L L) L)) (N (o_46 A P) (N (o_58 A P) (N (o_77 A P) L L) L) (N (o_66 A P) (N (o_85 A P) L L) L))))))
def heap_46 (A : AT) : Params → PySem.Heap := (fun P => (Heap.mk (Array.mk [(boot_o_0 P), (boot_o_1 P), (boot_o_2 P), (boot_o_3 P), (boot_o_4 P), (boot_o_5 P), (boot_o_6 P), (boot_o_7 P), (boot_o_8 P), (boot_o_9 P), (boot_o_10 P), (o_43 A P), (o_44 A P), (o_45 A P), (o_46 A P)]) (Life.mk [] [] [] 0 [] [] false #[] [] 0 false false false 0 [2000, 10, 10] false 0 true [] [] 0 false)))
def tree_552 (A : AT) : Params → PySem.W.BT := (fun P => (N (boot_o_0 P) (N (boot_o_1 P) (N (o_468 A P) (N (boot_o_7 P) (N (o_51 A P) (N (o_88 A P) (N (o_105 A P) (N (o_176 A P) (N (o_313 A P) L L) (N (o_450 A P) L L)) (N (o_246 A P) (N (o_383 A P) L L) (N (o_516 A P) L L))) (N (o_139 A P) (N (o_211 A P) (N (o_348 A P) L L) (N (o_484 A P) L L)) (N (o_278 A P) (N (o_418 A P) L L) (N (o_548 A P) L L)))) (N (o_89 A P) (N (o_123 A P) (N (o_192 A P) (N (o_332 A P) L L) (N (o_466 A P) L L)) (N (o_262 A P) (N (o_399 A P) L L) (N (o_532 A P) L L))) (N (o_157 A P) (N (o_227 A P) (N (o_364 A P) L L) (N (o_500 A P) L L)) (N (o_297 A P) (N (o_434 A P) L L) L)))) (N (o_59 A P) (N (o_78 A P) (N (o_113 A P) (N (o_184 A P) (N (o_321 A P) L L) (N (o_458 A P) L L)) (N (o_254 A P) (N (o_391 A P) L L) (N (o_524 A P) L L))) (N (o_147 A P) (N (o_219 A P) (N (o_356 A P) L L) (N (o_492 A P) L L)) (N (o_289 A P) (N (o_426 A P) L L) L))) (N (o_97 A P) (N (o_131 A P) (N (o_203 A P) (N (o_340 A P) L L) (N (o_476 A P) L L)) (N (o_270 A P) (N (o_407 A P) L L) (N (o_540 A P) L L))) (N (o_168 A P) (N (o_235 A P) (N (o_375 A P) L L) (N (o_508 A P) L L)) (N (o_305 A P) (N (o_442 A P) L L) L))))) (N (o_43 A P) (N (o_55 A P) (N (o_74 A P) (N (o_109 A P) (N (o_180 A P) (N (o_317 A P) L L) (N (o_454 A P) L L)) (N (o_250 A P) (N (o_387 A P) L L) (N (o_520 A P) L L))) (N (o_143 A P) (N (o_215 A P) (N (o_352 A P) L L) (N (o_488 A P) L L)) (N (o_282 A P) (N (o_422 A P) L L) (N (o_552 A P) L L)))) (N (o_93 A P) (N (o_127 A P) (N (o_196 A P) (N (o_336 A P) L L) (N (o_472 A P) L L)) (N (o_266 A P) (N (o_403 A P) L L) (N (o_536 A P) L L))) (N (o_161 A P) (N (o_231 A P) (N (o_368 A P) L L) (N (o_504 A P) L L)) (N (o_301 A P) (N (o_438 A P) L L) L)))) (N (o_63 A P) (N (o_82 A P) (N (o_117 A P) (N (o_188 A P) (N (o_325 A P) L L) (N (o_462 A P) L L)) (N (o_258 A P) (N (o_395 A P) L L) (N (o_528 A P) L L))) (N (o_153 A P) (N (o_223 A P) (N (o_360 A P) L L) (N (o_496 A P) L L)) (N (o_293 A P) (N (o_430 A P) L L) L))) (N (o_101 A P) (N (o_135 A P) (N (o_207 A P) (N (o_344 A P) L L) (N (o_480 A P) L L)) (N (o_274 A P) (N (o_411 A P) L L) (N (o_544 A P) L L))) (N (o_172 A P) (N (o_239 A P) (N (o_379 A P) L L) (N (o_512 A P) L L)) (N (o_309 A P) (N (o_446 A P) L L) L)))))) (N (boot_o_5 P) (N (boot_o_9 P) (N (o_53 A P) (N (o_69 A P) (N (o_107 A P) (N (o_178 A P) (N (o_315 A P) L L) (N (o_452 A P) L L)) (N (o_248 A P) (N (o_385 A P) L L) (N (o_518 A P) L L))) (N (o_141 A P) (N (o_213 A P) (N (o_350 A P) L L) (N (o_486 A P) L L)) (N (o_280 A P) (N (o_420 A P) L L) (N (o_550 A P) L L)))) (N (o_91 A P) (N (o_125 A P) (N (o_194 A P) (N (o_334 A P) L L) (N (o_470 A P) L L)) (N (o_264 A P) (N (o_401 A P) L L) (N (o_534 A P) L L))) (N (o_415 A P) (N (o_229 A P) (N (o_366 A P) L L) (N (o_502 A P) L L)) (N (o_299 A P) (N (o_436 A P) L L) L)))) (N (o_61 A P) (N (o_80 A P) (N (o_115 A P) (N (o_186 A P) (N (o_323 A P) L L) (N (o_460 A P) L L)) (N (o_256 A P) (N (o_393 A P) L L) (N (o_526 A P) L L))) (N (o_151 A P) (N (o_221 A P) (N (o_358 A P) L L) (N (o_494 A P) L L)) (N (o_291 A P) (N (o_428 A P) L L) L))) (N (o_99 A P) (N (o_133 A P) (N (o_205 A P) (N (o_342 A P) L L) (N (o_478 A P) L L)) (N (o_272 A P) (N (o_409 A P) L L) (N (o_542 A P) L L))) (N (o_170 A P) (N (o_237 A P) (N (o_377 A P) L L) (N (o_510 A P) L L)) (N (o_307 A P) (N (o_444 A P) L L) L))))) (N (o_45 A P) (N (o_57 A P) (N (o_76 A P) (N (o_111 A P) (N (o_182 A P) (N (o_319 A P) L L) (N (o_456 A P) L L)) (N (o_252 A P) (N (o_389 A P) L L) (N (o_522 A P) L L))) (N (o_145 A P) (N (o_217 A P) (N (o_354 A P) L L) (N (o_490 A P) L L)) (N (o_284 A P) (N (o_424 A P) L L) L))) (N (o_95 A P) (N (o_129 A P) (N (o_198 A P) (N (o_338 A P) L L) (N (o_474 A P) L L)) (N (o_268 A P) (N (o_405 A P) L L) (N (o_538 A P) L L))) (N (o_163 A P) (N (o_233 A P) (N (o_370 A P) L L) (N (o_506 A P) L L)) (N (o_303 A P) (N (o_440 A P) L L) L)))) (N (o_65 A P) (N (o_84 A P) (N (o_119 A P) (N (o_190 A P) (N (o_327 A P) L L) (N (o_464 A P) L L)) (N (o_260 A P) (N (o_397 A P) L L) (N (o_530 A P) L L))) (N (o_155 A P) (N (o_225 A P) (N (o_362 A P) L L) (N (o_498 A P) L L)) (N (o_295 A P) (N (o_432 A P) L L) L))) (N (o_103 A P) (N (o_137 A P) (N (o_209 A P) (N (o_346 A P) L L) (N (o_482 A P) L L)) (N (o_276 A P) (N (o_416 A P) L L) (N (o_546 A P) L L))) (N (o_174 A P) (N (o_241 A P) (N (o_381 A P) L L) (N (o_514 A P) L L)) (N (o_311 A P) (N (o_448 A P) L L) L))))))) (N (boot_o_2 P) (N (boot_o_4 P) (N (boot_o_8 P) (N (o_52 A P) (N (o_68 A P) (N (o_106 A P) (N (o_177 A P) (N (o_314 A P) L L) (N (o_451 A P) L L)) (N (o_247 A P) (N (o_384 A P) L L) (N (o_517 A P) L L))) (N (o_140 A P) (N (o_212 A P) (N (o_349 A P) L L) (N (o_485 A P) L L)) (N (o_279 A P) (N (o_419 A P) L L) (N (o_549 A P) L L)))) (N (o_90 A P) (N (o_124 A P) (N (o_193 A P) (N (o_333 A P) L L) (N (o_467 A P) L L)) (N (o_263 A P) (N (o_400 A P) L L) (N (o_533 A P) L L))) (N (o_158 A P) (N (o_228 A P) (N (o_365 A P) L L) (N (o_501 A P) L L)) (N (o_298 A P) (N (o_435 A P) L L) L)))) (N (o_60 A P) (N (o_79 A P) (N (o_114 A P) (N (o_185 A P) (N (o_322 A P) L L) (N (o_459 A P) L L)) (N (o_255 A P) (N (o_392 A P) L L) (N (o_525 A P) L L))) (N (o_150 A P) (N (o_220 A P) (N (o_357 A P) L L) (N (o_493 A P) L L)) (N (o_290 A P) (N (o_427 A P) L L) L))) (N (o_98 A P) (N (o_132 A P) (N (o_204 A P) (N (o_341 A P) L L) (N (o_477 A P) L L)) (N (o_271 A P) (N (o_408 A P) L L) (N (o_541 A P) L L))) (N (o_169 A P) (N (o_236 A P) (N (o_376 A P) L L) (N (o_509 A P) L L)) (N (o_306 A P) (N (o_443 A P) L L) L))))) (N (o_469 A P) (N (o_56 A P) (N (o_75 A P) (N (o_110 A P) (N (o_181 A P) (N (o_318 A P) L L) (N (o_455 A P) L L)) (N (o_251 A P) (N (o_388 A P) L L) (N (o_521 A P) L L))) (N (o_144 A P) (N (o_216 A P) (N (o_353 A P) L L) (N (o_489 A P) L L)) (N (o_283 A P) (N (o_423 A P) L L) L))) (N (o_94 A P) (N (o_128 A P) (N (o_197 A P) (N (o_337 A P) L L) (N (o_473 A P) L L)) (N (o_267 A P) (N (o_404 A P) L L) (N (o_537 A P) L L))) (N (o_162 A P) (N (o_232 A P) (N (o_369 A P) L L) (N (o_505 A P) L L)) (N (o_302 A P) (N (o_439 A P) L L) L)))) (N (o_64 A P) (N (o_83 A P) (N (o_118 A P) (N (o_189 A P) (N (o_326 A P) L L) (N (o_463 A P) L L)) (N (o_259 A P) (N (o_396 A P) L L) (N (o_529 A P) L L))) (N (o_154 A P) (N (o_224 A P) (N (o_361 A P) L L) (N (o_497 A P) L L)) (N (o_294 A P) (N (o_431 A P) L L) L))) (N (o_102 A P) (N (o_136 A P) (N (o_208 A P) (N (o_345 A P) L L) (N (o_481 A P) L L)) (N (o_275 A P) (N (o_412 A P) L L) (N (o_545 A P) L L))) (N (o_173 A P) (N (o_240 A P) (N (o_380 A P) L L) (N (o_513 A P) L L)) (N (o_310 A P) (N (o_447 A P) L L) L)))))) (N (boot_o_6 P) (N (boot_o_10 P) (N (o_54 A P) (N (o_70 A P) (N (o_108 A P) (N (o_179 A P) (N (o_316 A P) L L) (N (o_453 A P) L L)) (N (o_249 A P) (N (o_386 A P) L L) (N (o_519 A P) L L))) (N (o_142 A P) (N (o_214 A P) (N (o_351 A P) L L) (N (o_487 A P) L L)) (N (o_281 A P) (N (o_421 A P) L L) (N (o_551 A P) L L)))) (N (o_92 A P) (N (o_126 A P) (N (o_195 A P) (N (o_335 A P) L L) (N (o_471 A P) L L)) (N (o_265 A P) (N (o_402 A P) L L) (N (o_535 A P) L L))) (N (o_160 A P) (N (o_230 A P) (N (o_367 A P) L L) (N (o_503 A P) L L)) (N (o_300 A P) (N (o_437 A P) L L) L)))) (N (o_62 A P) (N (o_81 A P) (N (o_116 A P) (N (o_187 A P) (N (o_324 A P) L L) (N (o_461 A P) L L)) (N (o_257 A P) (N (o_394 A P) L L) (N (o_527 A P) L L))) (N (o_152 A P) (N (o_222 A P) (N (o_359 A P) L L) (N (o_495 A P) L L)) (N (o_292 A P) (N (o_429 A P) L L) L))) (N (o_100 A P) (N (o_134 A P) (N (o_206 A P) (N (o_343 A P) L L) (N (o_479 A P) L L)) (N (o_273 A P) (N (o_410 A P) L L) (N (o_543 A P) L L))) (N (o_171 A P) (N (o_238 A P) (N (o_378 A P) L L) (N (o_511 A P) L L)) (N (o_308 A P) (N (o_445 A P) L L) L))))) (N (o_46 A P) (N (o_58 A P) (N (o_77 A P) (N (o_112 A P) (N (o_183 A P) (N (o_320 A P) L L) (N (o_457 A P) L L)) (N (o_253 A P) (N (o_390 A P) L L) (N (o_523 A P) L L))) (N (o_146 A P) (N (o_218 A P) (N (o_355 A P) L L) (N (o_491 A P) L L)) (N (o_285 A P) (N (o_425 A P) L L) L))) (N (o_96 A P) (N (o_130 A P) (N (o_199 A P) (N (o_339 A P) L L) (N (o_475 A P) L L)) (N (o_269 A P) (N (o_406 A P) L L) (N (o_539 A P) L L))) (N (o_167 A P) (N (o_234 A P) (N (o_371 A P) L L) (N (o_507 A P) L L)) (N (o_304 A P) (N (o_441 A P) L L) L)))) (N (o_66 A P) (N (o_85 A P) (N (o_122 A P) (N (o_191 A P) (N (o_328 A P) L L) (N (o_465 A P) L L)) (N (o_261 A P) (N (o_398 A P) L L) (N (o_531 A P) L L))) (N (o_156 A P) (N (o_226 A P) (N (o_363 A P) L L) (N (o_499 A P) L L)) (N (o_296 A P) (N (o_433 A P) L L) L))) (N (o_104 A P) (N (o_138 A P) (N (o_210 A P) (N (o_347 A P) L L) (N (o_483 A P) L L)) (N (o_277 A P) (N (o_417 A P) L L) (N (o_547 A P) L L))) (N (o_175 A P) (N (o_242 A P) (N (o_382 A P) L L) (N (o_515 A P) L L)) (N (o_312 A P) (N (o_449 A P) L L) L)))))))))
def tree_328 (A : AT) : Params → PySem.W.BT := (fun P => (N (boot_o_0 P) (N (boot_o_1 P) (N (o_286 A P) (N (boot_o_7 P) (N (o_51 A P) (N (o_88 A P) (N (o_105 A P) (N (o_176 A P) (N (o_313 A P) L L) L) (N (o_246 A P) L L)) (N (o_139 A P) (N (o_211 A P) L L) (N (o_278 A P) L L))) (N (o_89 A P) (N (o_123 A P) (N (o_192 A P) L L) (N (o_262 A P) L L)) (N (o_157 A P) (N (o_227 A P) L L) (N (o_297 A P) L L)))) (N (o_59 A P) (N (o_78 A P) (N (o_113 A P) (N (o_184 A P) (N (o_321 A P) L L) L) (N (o_254 A P) L L)) (N (o_147 A P) (N (o_219 A P) L L) (N (o_289 A P) L L))) (N (o_97 A P) (N (o_131 A P) (N (o_203 A P) L L) (N (o_270 A P) L L)) (N (o_168 A P) (N (o_235 A P) L L) (N (o_305 A P) L L))))) (N (o_43 A P) (N (o_55 A P) (N (o_74 A P) (N (o_109 A P) (N (o_180 A P) (N (o_317 A P) L L) L) (N (o_250 A P) L L)) (N (o_143 A P) (N (o_215 A P) L L) (N (o_282 A P) L L))) (N (o_93 A P) (N (o_127 A P) (N (o_196 A P) L L) (N (o_266 A P) L L)) (N (o_161 A P) (N (o_231 A P) L L) (N (o_301 A P) L L)))) (N (o_63 A P) (N (o_82 A P) (N (o_117 A P) (N (o_188 A P) (N (o_325 A P) L L) L) (N (o_258 A P) L L)) (N (o_153 A P) (N (o_223 A P) L L) (N (o_293 A P) L L))) (N (o_101 A P) (N (o_135 A P) (N (o_207 A P) L L) (N (o_274 A P) L L)) (N (o_172 A P) (N (o_239 A P) L L) (N (o_309 A P) L L)))))) (N (boot_o_5 P) (N (boot_o_9 P) (N (o_53 A P) (N (o_69 A P) (N (o_107 A P) (N (o_178 A P) (N (o_315 A P) L L) L) (N (o_248 A P) L L)) (N (o_141 A P) (N (o_213 A P) L L) (N (o_280 A P) L L))) (N (o_91 A P) (N (o_125 A P) (N (o_194 A P) L L) (N (o_264 A P) L L)) (N (o_288 A P) (N (o_229 A P) L L) (N (o_299 A P) L L)))) (N (o_61 A P) (N (o_80 A P) (N (o_115 A P) (N (o_186 A P) (N (o_323 A P) L L) L) (N (o_256 A P) L L)) (N (o_151 A P) (N (o_221 A P) L L) (N (o_291 A P) L L))) (N (o_99 A P) (N (o_133 A P) (N (o_205 A P) L L) (N (o_272 A P) L L)) (N (o_170 A P) (N (o_237 A P) L L) (N (o_307 A P) L L))))) (N (o_45 A P) (N (o_57 A P) (N (o_76 A P) (N (o_111 A P) (N (o_182 A P) (N (o_319 A P) L L) L) (N (o_252 A P) L L)) (N (o_145 A P) (N (o_217 A P) L L) (N (o_284 A P) L L))) (N (o_95 A P) (N (o_129 A P) (N (o_198 A P) L L) (N (o_268 A P) L L)) (N (o_163 A P) (N (o_233 A P) L L) (N (o_303 A P) L L)))) (N (o_65 A P) (N (o_84 A P) (N (o_119 A P) (N (o_190 A P) (N (o_327 A P) L L) L) (N (o_260 A P) L L)) (N (o_155 A P) (N (o_225 A P) L L) (N (o_295 A P) L L))) (N (o_103 A P) (N (o_137 A P) (N (o_209 A P) L L) (N (o_276 A P) L L)) (N (o_174 A P) (N (o_241 A P) L L) (N (o_311 A P) L L))))))) (N (boot_o_2 P) (N (boot_o_4 P) (N (boot_o_8 P) (N (o_52 A P) (N (o_68 A P) (N (o_106 A P) (N (o_177 A P) (N (o_314 A P) L L) L) (N (o_247 A P) L L)) (N (o_140 A P) (N (o_212 A P) L L) (N (o_279 A P) L L))) (N (o_90 A P) (N (o_124 A P) (N (o_193 A P) L L) (N (o_263 A P) L L)) (N (o_158 A P) (N (o_228 A P) L L) (N (o_298 A P) L L)))) (N (o_60 A P) (N (o_79 A P) (N (o_114 A P) (N (o_185 A P) (N (o_322 A P) L L) L) (N (o_255 A P) L L)) (N (o_150 A P) (N (o_220 A P) L L) (N (o_290 A P) L L))) (N (o_98 A P) (N (o_132 A P) (N (o_204 A P) L L) (N (o_271 A P) L L)) (N (o_169 A P) (N (o_236 A P) L L) (N (o_306 A P) L L))))) (N (o_287 A P) (N (o_56 A P) (N (o_75 A P) (N (o_110 A P) (N (o_181 A P) (N (o_318 A P) L L) L) (N (o_251 A P) L L)) (N (o_144 A P) (N (o_216 A P) L L) (N (o_283 A P) L L))) (N (o_94 A P) (N (o_128 A P) (N (o_197 A P) L L) (N (o_267 A P) L L)) (N (o_162 A P) (N (o_232 A P) L L) (N (o_302 A P) L L)))) (N (o_64 A P) (N (o_83 A P) (N (o_118 A P) (N (o_189 A P) (N (o_326 A P) L L) L) (N (o_259 A P) L L)) (N (o_154 A P) (N (o_224 A P) L L) (N (o_294 A P) L L))) (N (o_102 A P) (N (o_136 A P) (N (o_208 A P) L L) (N (o_275 A P) L L)) (N (o_173 A P) (N (o_240 A P) L L) (N (o_310 A P) L L)))))) (N (boot_o_6 P) (N (boot_o_10 P) (N (o_54 A P) (N (o_70 A P) (N (o_108 A P) (N (o_179 A P) (N (o_316 A P) L L) L) (N (o_249 A P) L L)) (N (o_142 A P) (N (o_214 A P) L L) (N (o_281 A P) L L))) (N (o_92 A P) (N (o_126 A P) (N (o_195 A P) L L) (N (o_265 A P) L L)) (N (o_160 A P) (N (o_230 A P) L L) (N (o_300 A P) L L)))) (N (o_62 A P) (N (o_81 A P) (N (o_116 A P) (N (o_187 A P) (N (o_324 A P) L L) L) (N (o_257 A P) L L)) (N (o_152 A P) (N (o_222 A P) L L) (N (o_292 A P) L L))) (N (o_100 A P) (N (o_134 A P) (N (o_206 A P) L L) (N (o_273 A P) L L)) (N (o_171 A P) (N (o_238 A P) L L) (N (o_308 A P) L L))))) (N (o_46 A P) (N (o_58 A P) (N (o_77 A P) (N (o_112 A P) (N (o_183 A P) (N (o_320 A P) L L) L) (N (o_253 A P) L L)) (N (o_146 A P) (N (o_218 A P) L L) (N (o_285 A P) L L))) (N (o_96 A P) (N (o_130 A P) (N (o_199 A P) L L) (N (o_269 A P) L L)) (N (o_167 A P) (N (o_234 A P) L L) (N (o_304 A P) L L)))) (N (o_66 A P) (N (o_85 A P) (N (o_122 A P) (N (o_191 A P) (N (o_328 A P) L L) L) (N (o_261 A P) L L)) (N (o_156 A P) (N (o_226 A P) L L) (N (o_296 A P) L L))) (N (o_104 A P) (N (o_138 A P) (N (o_210 A P) L L) (N (o_277 A P) L L)) (N (o_175 A P) (N (o_242 A P) L L) (N (o_312 A P) L L)))))))))
def tree_163 (A : AT) : Params → PySem.W.BT := (fun P => (N (boot_o_0 P) (N (boot_o_1 P) (N (o_148 A P) (N (boot_o_7 P) (N (o_51 A P) (N (o_88 A P) (N (o_105 A P) L L) (N (o_139 A P) L L)) (N (o_89 A P) (N (o_123 A P) L L) (N (o_157 A P) L L))) (N (o_59 A P) (N (o_78 A P) (N (o_113 A P) L L) (N (o_147 A P) L L)) (N (o_97 A P) (N (o_131 A P) L L) L))) (N (o_43 A P) (N (o_55 A P) (N (o_74 A P) (N (o_109 A P) L L) (N (o_143 A P) L L)) (N (o_93 A P) (N (o_127 A P) L L) (N (o_161 A P) L L))) (N (o_63 A P) (N (o_82 A P) (N (o_117 A P) L L) (N (o_153 A P) L L)) (N (o_101 A P) (N (o_135 A P) L L) L)))) (N (boot_o_5 P) (N (boot_o_9 P) (N (o_53 A P) (N (o_69 A P) (N (o_107 A P) L L) (N (o_141 A P) L L)) (N (o_91 A P) (N (o_125 A P) L L) (N (o_159 A P) L L))) (N (o_61 A P) (N (o_80 A P) (N (o_115 A P) L L) (N (o_151 A P) L L)) (N (o_99 A P) (N (o_133 A P) L L) L))) (N (o_45 A P) (N (o_57 A P) (N (o_76 A P) (N (o_111 A P) L L) (N (o_145 A P) L L)) (N (o_95 A P) (N (o_129 A P) L L) (N (o_163 A P) L L))) (N (o_65 A P) (N (o_84 A P) (N (o_119 A P) L L) (N (o_155 A P) L L)) (N (o_103 A P) (N (o_137 A P) L L) L))))) (N (boot_o_2 P) (N (boot_o_4 P) (N (boot_o_8 P) (N (o_52 A P) (N (o_68 A P) (N (o_106 A P) L L) (N (o_140 A P) L L)) (N (o_90 A P) (N (o_124 A P) L L) (N (o_158 A P) L L))) (N (o_60 A P) (N (o_79 A P) (N (o_114 A P) L L) (N (o_150 A P) L L)) (N (o_98 A P) (N (o_132 A P) L L) L))) (N (o_149 A P) (N (o_56 A P) (N (o_75 A P) (N (o_110 A P) L L) (N (o_144 A P) L L)) (N (o_94 A P) (N (o_128 A P) L L) (N (o_162 A P) L L))) (N (o_64 A P) (N (o_83 A P) (N (o_118 A P) L L) (N (o_154 A P) L L)) (N (o_102 A P) (N (o_136 A P) L L) L)))) (N (boot_o_6 P) (N (boot_o_10 P) (N (o_54 A P) (N (o_70 A P) (N (o_108 A P) L L) (N (o_142 A P) L L)) (N (o_92 A P) (N (o_126 A P) L L) (N (o_160 A P) L L))) (N (o_62 A P) (N (o_81 A P) (N (o_116 A P) L L) (N (o_152 A P) L L)) (N (o_100 A P) (N (o_134 A P) L L) L))) (N (o_46 A P) (N (o_58 A P) (N (o_77 A P) (N (o_112 A P) L L) (N (o_146 A P) L L)) (N (o_96 A P) (N (o_130 A P) L L) L)) (N (o_66 A P) (N (o_85 A P) (N (o_122 A P) L L) (N (o_156 A P) L L)) (N (o_104 A P) (N (o_138 A P) L L) L)))))))
def tree_242 (A : AT) : Params → PySem.W.BT := (fun P => (N (boot_o_0 P) (N (boot_o_1 P) (N (o_200 A P) (N (boot_o_7 P) (N (o_51 A P) (N (o_88 A P) (N (o_105 A P) (N (o_176 A P) L L) L) (N (o_139 A P) (N (o_211 A P) L L) L)) (N (o_89 A P) (N (o_123 A P) (N (o_192 A P) L L) L) (N (o_157 A P) (N (o_227 A P) L L) L))) (N (o_59 A P) (N (o_78 A P) (N (o_113 A P) (N (o_184 A P) L L) L) (N (o_147 A P) (N (o_219 A P) L L) L)) (N (o_97 A P) (N (o_131 A P) (N (o_203 A P) L L) L) (N (o_168 A P) (N (o_235 A P) L L) L)))) (N (o_43 A P) (N (o_55 A P) (N (o_74 A P) (N (o_109 A P) (N (o_180 A P) L L) L) (N (o_143 A P) (N (o_215 A P) L L) L)) (N (o_93 A P) (N (o_127 A P) (N (o_196 A P) L L) L) (N (o_161 A P) (N (o_231 A P) L L) L))) (N (o_63 A P) (N (o_82 A P) (N (o_117 A P) (N (o_188 A P) L L) L) (N (o_153 A P) (N (o_223 A P) L L) L)) (N (o_101 A P) (N (o_135 A P) (N (o_207 A P) L L) L) (N (o_172 A P) (N (o_239 A P) L L) L))))) (N (boot_o_5 P) (N (boot_o_9 P) (N (o_53 A P) (N (o_69 A P) (N (o_107 A P) (N (o_178 A P) L L) L) (N (o_141 A P) (N (o_213 A P) L L) L)) (N (o_91 A P) (N (o_125 A P) (N (o_194 A P) L L) L) (N (o_202 A P) (N (o_229 A P) L L) L))) (N (o_61 A P) (N (o_80 A P) (N (o_115 A P) (N (o_186 A P) L L) L) (N (o_151 A P) (N (o_221 A P) L L) L)) (N (o_99 A P) (N (o_133 A P) (N (o_205 A P) L L) L) (N (o_170 A P) (N (o_237 A P) L L) L)))) (N (o_45 A P) (N (o_57 A P) (N (o_76 A P) (N (o_111 A P) (N (o_182 A P) L L) L) (N (o_145 A P) (N (o_217 A P) L L) L)) (N (o_95 A P) (N (o_129 A P) (N (o_198 A P) L L) L) (N (o_163 A P) (N (o_233 A P) L L) L))) (N (o_65 A P) (N (o_84 A P) (N (o_119 A P) (N (o_190 A P) L L) L) (N (o_155 A P) (N (o_225 A P) L L) L)) (N (o_103 A P) (N (o_137 A P) (N (o_209 A P) L L) L) (N (o_174 A P) (N (o_241 A P) L L) L)))))) (N (boot_o_2 P) (N (boot_o_4 P) (N (boot_o_8 P) (N (o_52 A P) (N (o_68 A P) (N (o_106 A P) (N (o_177 A P) L L) L) (N (o_140 A P) (N (o_212 A P) L L) L)) (N (o_90 A P) (N (o_124 A P) (N (o_193 A P) L L) L) (N (o_158 A P) (N (o_228 A P) L L) L))) (N (o_60 A P) (N (o_79 A P) (N (o_114 A P) (N (o_185 A P) L L) L) (N (o_150 A P) (N (o_220 A P) L L) L)) (N (o_98 A P) (N (o_132 A P) (N (o_204 A P) L L) L) (N (o_169 A P) (N (o_236 A P) L L) L)))) (N (o_201 A P) (N (o_56 A P) (N (o_75 A P) (N (o_110 A P) (N (o_181 A P) L L) L) (N (o_144 A P) (N (o_216 A P) L L) L)) (N (o_94 A P) (N (o_128 A P) (N (o_197 A P) L L) L) (N (o_162 A P) (N (o_232 A P) L L) L))) (N (o_64 A P) (N (o_83 A P) (N (o_118 A P) (N (o_189 A P) L L) L) (N (o_154 A P) (N (o_224 A P) L L) L)) (N (o_102 A P) (N (o_136 A P) (N (o_208 A P) L L) L) (N (o_173 A P) (N (o_240 A P) L L) L))))) (N (boot_o_6 P) (N (boot_o_10 P) (N (o_54 A P) (N (o_70 A P) (N (o_108 A P) (N (o_179 A P) L L) L) (N (o_142 A P) (N (o_214 A P) L L) L)) (N (o_92 A P) (N (o_126 A P) (N (o_195 A P) L L) L) (N (o_160 A P) (N (o_230 A P) L L) L))) (N (o_62 A P) (N (o_81 A P) (N (o_116 A P) (N (o_187 A P) L L) L) (N (o_152 A P) (N (o_222 A P) L L) L)) (N (o_100 A P) (N (o_134 A P) (N (o_206 A P) L L) L) (N (o_171 A P) (N (o_238 A P) L L) L)))) (N (o_46 A P) (N (o_58 A P) (N (o_77 A P) (N (o_112 A P) (N (o_183 A P) L L) L) (N (o_146 A P) (N (o_218 A P) L L) L)) (N (o_96 A P) (N (o_130 A P) (N (o_199 A P) L L) L) (N (o_167 A P) (N (o_234 A P) L L) L))) (N (o_66 A P) (N (o_85 A P) (N (o_122 A P) (N (o_191 A P) L L) L) (N (o_156 A P) (N (o_226 A P) L L) L)) (N (o_104 A P) (N (o_138 A P) (N (o_210 A P) L L) L) (N (o_175 A P) (N (o_242 A P) L L) L))))))))
def tree_285 (A : AT) : Params → PySem.W.BT := (fun P => (N (boot_o_0 P) (N (boot_o_1 P) (N (o_243 A P) (N (boot_o_7 P) (N (o_51 A P) (N (o_88 A P) (N (o_105 A P) (N (o_176 A P) L L) (N (o_246 A P) L L)) (N (o_139 A P) (N (o_211 A P) L L) (N (o_278 A P) L L))) (N (o_89 A P) (N (o_123 A P) (N (o_192 A P) L L) (N (o_262 A P) L L)) (N (o_157 A P) (N (o_227 A P) L L) L))) (N (o_59 A P) (N (o_78 A P) (N (o_113 A P) (N (o_184 A P) L L) (N (o_254 A P) L L)) (N (o_147 A P) (N (o_219 A P) L L) L)) (N (o_97 A P) (N (o_131 A P) (N (o_203 A P) L L) (N (o_270 A P) L L)) (N (o_168 A P) (N (o_235 A P) L L) L)))) (N (o_43 A P) (N (o_55 A P) (N (o_74 A P) (N (o_109 A P) (N (o_180 A P) L L) (N (o_250 A P) L L)) (N (o_143 A P) (N (o_215 A P) L L) (N (o_282 A P) L L))) (N (o_93 A P) (N (o_127 A P) (N (o_196 A P) L L) (N (o_266 A P) L L)) (N (o_161 A P) (N (o_231 A P) L L) L))) (N (o_63 A P) (N (o_82 A P) (N (o_117 A P) (N (o_188 A P) L L) (N (o_258 A P) L L)) (N (o_153 A P) (N (o_223 A P) L L) L)) (N (o_101 A P) (N (o_135 A P) (N (o_207 A P) L L) (N (o_274 A P) L L)) (N (o_172 A P) (N (o_239 A P) L L) L))))) (N (boot_o_5 P) (N (boot_o_9 P) (N (o_53 A P) (N (o_69 A P) (N (o_107 A P) (N (o_178 A P) L L) (N (o_248 A P) L L)) (N (o_141 A P) (N (o_213 A P) L L) (N (o_280 A P) L L))) (N (o_91 A P) (N (o_125 A P) (N (o_194 A P) L L) (N (o_264 A P) L L)) (N (o_245 A P) (N (o_229 A P) L L) L))) (N (o_61 A P) (N (o_80 A P) (N (o_115 A P) (N (o_186 A P) L L) (N (o_256 A P) L L)) (N (o_151 A P) (N (o_221 A P) L L) L)) (N (o_99 A P) (N (o_133 A P) (N (o_205 A P) L L) (N (o_272 A P) L L)) (N (o_170 A P) (N (o_237 A P) L L) L)))) (N (o_45 A P) (N (o_57 A P) (N (o_76 A P) (N (o_111 A P) (N (o_182 A P) L L) (N (o_252 A P) L L)) (N (o_145 A P) (N (o_217 A P) L L) (N (o_284 A P) L L))) (N (o_95 A P) (N (o_129 A P) (N (o_198 A P) L L) (N (o_268 A P) L L)) (N (o_163 A P) (N (o_233 A P) L L) L))) (N (o_65 A P) (N (o_84 A P) (N (o_119 A P) (N (o_190 A P) L L) (N (o_260 A P) L L)) (N (o_155 A P) (N (o_225 A P) L L) L)) (N (o_103 A P) (N (o_137 A P) (N (o_209 A P) L L) (N (o_276 A P) L L)) (N (o_174 A P) (N (o_241 A P) L L) L)))))) (N (boot_o_2 P) (N (boot_o_4 P) (N (boot_o_8 P) (N (o_52 A P) (N (o_68 A P) (N (o_106 A P) (N (o_177 A P) L L) (N (o_247 A P) L L)) (N (o_140 A P) (N (o_212 A P) L L) (N (o_279 A P) L L))) (N (o_90 A P) (N (o_124 A P) (N (o_193 A P) L L) (N (o_263 A P) L L)) (N (o_158 A P) (N (o_228 A P) L L) L))) (N (o_60 A P) (N (o_79 A P) (N (o_114 A P) (N (o_185 A P) L L) (N (o_255 A P) L L)) (N (o_150 A P) (N (o_220 A P) L L) L)) (N (o_98 A P) (N (o_132 A P) (N (o_204 A P) L L) (N (o_271 A P) L L)) (N (o_169 A P) (N (o_236 A P) L L) L)))) (N (o_244 A P) (N (o_56 A P) (N (o_75 A P) (N (o_110 A P) (N (o_181 A P) L L) (N (o_251 A P) L L)) (N (o_144 A P) (N (o_216 A P) L L) (N (o_283 A P) L L))) (N (o_94 A P) (N (o_128 A P) (N (o_197 A P) L L) (N (o_267 A P) L L)) (N (o_162 A P) (N (o_232 A P) L L) L))) (N (o_64 A P) (N (o_83 A P) (N (o_118 A P) (N (o_189 A P) L L) (N (o_259 A P) L L)) (N (o_154 A P) (N (o_224 A P) L L) L)) (N (o_102 A P) (N (o_136 A P) (N (o_208 A P) L L) (N (o_275 A P) L L)) (N (o_173 A P) (N (o_240 A P) L L) L))))) (N (boot_o_6 P) (N (boot_o_10 P) (N (o_54 A P) (N (o_70 A P) (N (o_108 A P) (N (o_179 A P) L L) (N (o_249 A P) L L)) (N (o_142 A P) (N (o_214 A P) L L) (N (o_281 A P) L L))) (N (o_92 A P) (N (o_126 A P) (N (o_195 A P) L L) (N (o_265 A P) L L)) (N (o_160 A P) (N (o_230 A P) L L) L))) (N (o_62 A P) (N (o_81 A P) (N (o_116 A P) (N (o_187 A P) L L) (N (o_257 A P) L L)) (N (o_152 A P) (N (o_222 A P) L L) L)) (N (o_100 A P) (N (o_134 A P) (N (o_206 A P) L L) (N (o_273 A P) L L)) (N (o_171 A P) (N (o_238 A P) L L) L)))) (N (o_46 A P) (N (o_58 A P) (N (o_77 A P) (N (o_112 A P) (N (o_183 A P) L L) (N (o_253 A P) L L)) (N (o_146 A P) (N (o_218 A P) L L) (N (o_285 A P) L L))) (N (o_96 A P) (N (o_130 A P) (N (o_199 A P) L L) (N (o_269 A P) L L)) (N (o_167 A P) (N (o_234 A P) L L) L))) (N (o_66 A P) (N (o_85 A P) (N (o_122 A P) (N (o_191 A P) L L) (N (o_261 A P) L L)) (N (o_156 A P) (N (o_226 A P) L L) L)) (N (o_104 A P) (N (o_138 A P) (N (o_210 A P) L L) (N (o_277 A P) L L)) (N (o_175 A P) (N (o_242 A P) L L) L))))))))
def heap_553 (A : AT) : Params → PySem.Heap := (fun P => (Heap.mk (Array.mk [(boot_o_0 P), (boot_o_1 P), (boot_o_2 P), (o_468 A P), (boot_o_4 P), (boot_o_5 P), (boot_o_6 P), (boot_o_7 P), (boot_o_8 P), (boot_o_9 P), (boot_o_10 P), (o_43 A P), (o_469 A P), (o_45 A P), (o_46 A P), (o_51 A P), (o_52 A P), (o_53 A P), (o_54 A P), (o_55 A P), (o_56 A P), (o_57 A P), (o_58 A P), (o_59 A P), (o_60 A P), (o_61 A P), (o_62 A P), (o_63 A P), (o_64 A P), (o_65 A P), (o_66 A P), (o_88 A P), (o_68 A P), (o_69 A P), (o_70 A P), (o_74 A P), (o_75 A P), (o_76 A P), (o_77 A P), (o_78 A P), (o_79 A P), (o_80 A P), (o_81 A P), (o_82 A P), (o_83 A P), (o_84 A P), (o_85 A P), (o_89 A P), (o_90 A P), (o_91 A P), (o_92 A P), (o_93 A P), (o_94 A P), (o_95 A P), (o_96 A P), (o_97 A P), (o_98 A P), (o_99 A P), (o_100 A P), (o_101 A P), (o_102 A P), (o_103 A P), (o_104 A P), (o_105 A P), (o_106 A P), (o_107 A P), (o_108 A P), (o_109 A P), (o_110 A P), (o_111 A P), (o_112 A P), (o_113 A P), (o_114 A P), (o_115 A P), (o_116 A P), (o_117 A P), (o_118 A P), (o_119 A P), (o_122 A P), (o_123 A P), (o_124 A P), (o_125 A P), (o_126 A P), (o_127 A P), (o_128 A P), (o_129 A P), (o_130 A P), (o_131 A P), (o_132 A P), (o_133 A P), (o_134 A P), (o_135 A P), (o_136 A P), (o_137 A P), (o_138 A P), (o_139 A P), (o_140 A P), (o_141 A P), (o_142 A P), (o_143 A P), (o_144 A P), (o_145 A P), (o_146 A P), (o_147 A P), (o_150 A P), (o_151 A P), (o_152 A P), (o_153 A P), (o_154 A P), (o_155 A P), (o_156 A P), (o_157 A P), (o_158 A P), (o_415 A P), (o_160 A P), (o_161 A P), (o_162 A P), (o_163 A P), (o_167 A P), (o_168 A P), (o_169 A P), (o_170 A P), (o_171 A P), (o_172 A P), (o_173 A P), (o_174 A P), (o_175 A P), (o_176 A P), (o_177 A P), (o_178 A P), (o_179 A P), (o_180 A P), (o_181 A P), (o_182 A P), (o_183 A P), (o_184 A P), (o_185 A P), (o_186 A P), (o_187 A P), (o_188 A P), (o_189 A P), (o_190 A P), (o_191 A P), (o_192 A P), (o_193 A P), (o_194 A P), (o_195 A P), (o_196 A P), (o_197 A P), (o_198 A P), (o_199 A P), (o_203 A P), (o_204 A P), (o_205 A P), (o_206 A P), (o_207 A P), (o_208 A P), (o_209 A P), (o_210 A P), (o_211 A P), (o_212 A P), (o_213 A P), (o_214 A P), (o_215 A P), (o_216 A P), (o_217 A P), (o_218 A P), (o_219 A P), (o_220 A P), (o_221 A P), (o_222 A P), (o_223 A P), (o_224 A P), (o_225 A P), (o_226 A P), (o_227 A P), (o_228 A P), (o_229 A P), (o_230 A P), (o_231 A P), (o_232 A P), (o_233 A P), (o_234 A P), (o_235 A P), (o_236 A P), (o_237 A P), (o_238 A P), (o_239 A P), (o_240 A P), (o_241 A P), (o_242 A P), (o_246 A P), (o_247 A P), (o_248 A P), (o_249 A P), (o_250 A P), (o_251 A P), (o_252 A P), (o_253 A P), (o_254 A P), (o_255 A P), (o_256 A P), (o_257 A P), (o_258 A P), (o_259 A P), (o_260 A P), (o_261 A P), (o_262 A P), (o_263 A P), (o_264 A P), (o_265 A P), (o_266 A P), (o_267 A P), (o_268 A P), (o_269 A P), (o_270 A P), (o_271 A P), (o_272 A P), (o_273 A P), (o_274 A P), (o_275 A P), (o_276 A P), (o_277 A P), (o_278 A P), (o_279 A P), (o_280 A P), (o_281 A P), (o_282 A P), (o_283 A P), (o_284 A P), (o_285 A P), (o_289 A P), (o_290 A P), (o_291 A P), (o_292 A P), (o_293 A P), (o_294 A P), (o_295 A P), (o_296 A P), (o_297 A P), (o_298 A P), (o_299 A P), (o_300 A P), (o_301 A P), (o_302 A P), (o_303 A P), (o_304 A P), (o_305 A P), (o_306 A P), (o_307 A P), (o_308 A P), (o_309 A P), (o_310 A P), (o_311 A P), (o_312 A P), (o_313 A P), (o_314 A P), (o_315 A P), (o_316 A P), (o_317 A P), (o_318 A P), (o_319 A P), (o_320 A P), (o_321 A P), (o_322 A P), (o_323 A P), (o_324 A P), (o_325 A P), (o_326 A P), (o_327 A P), (o_328 A P), (o_332 A P), (o_333 A P), (o_334 A P), (o_335 A P), (o_336 A P), (o_337 A P), (o_338 A P), (o_339 A P), (o_340 A P), (o_341 A P), (o_342 A P), (o_343 A P), (o_344 A P), (o_345 A P), (o_346 A P), (o_347 A P), (o_348 A P), (o_349 A P), (o_350 A P), (o_351 A P), (o_352 A P), (o_353 A P), (o_354 A P), (o_355 A P), (o_356 A P), (o_357 A P), (o_358 A P), (o_359 A P), (o_360 A P), (o_361 A P), (o_362 A P), (o_363 A P), (o_364 A P), (o_365 A P), (o_366 A P), (o_367 A P), (o_368 A P), (o_369 A P), (o_370 A P), (o_371 A P), (o_375 A P), (o_376 A P), (o_377 A P), (o_378 A P), (o_379 A P), (o_380 A P), (o_381 A P), (o_382 A P), (o_383 A P), (o_384 A P), (o_385 A P), (o_386 A P), (o_387 A P), (o_388 A P), (o_389 A P), (o_390 A P), (o_391 A P), (o_392 A P), (o_393 A P), (o_394 A P), (o_395 A P), (o_396 A P), (o_397 A P), (o_398 A P), (o_399 A P), (o_400 A P), (o_401 A P), (o_402 A P), (o_403 A P), (o_404 A P), (o_405 A P), (o_406 A P), (o_407 A P), (o_408 A P), (o_409 A P), (o_410 A P), (o_411 A P), (o_412 A P), (o_416 A P), (o_417 A P), (o_418 A P), (o_419 A P), (o_420 A P), (o_421 A P), (o_422 A P), (o_423 A P), (o_424 A P), (o_425 A P), (o_426 A P), (o_427 A P), (o_428 A P), (o_429 A P), (o_430 A P), (o_431 A P), (o_432 A P), (o_433 A P), (o_434 A P), (o_435 A P), (o_436 A P), (o_437 A P), (o_438 A P), (o_439 A P), (o_440 A P), (o_441 A P), (o_442 A P), (o_443 A P), (o_444 A P), (o_445 A P), (o_446 A P), (o_447 A P), (o_448 A P), (o_449 A P), (o_450 A P), (o_451 A P), (o_452 A P), (o_453 A P), (o_454 A P), (o_455 A P), (o_456 A P), (o_457 A P), (o_458 A P), (o_459 A P), (o_460 A P), (o_461 A P), (o_462 A P), (o_463 A P), (o_464 A P), (o_465 A P), (o_466 A P), (o_467 A P), (o_470 A P), (o_471 A P), (o_472 A P), (o_473 A P), (o_474 A P), (o_475 A P), (o_476 A P), (o_477 A P), (o_478 A P), (o_479 A P), (o_480 A P), (o_481 A P), (o_482 A P), (o_483 A P), (o_484 A P), (o_485 A P), (o_486 A P), (o_487 A P), (o_488 A P), (o_489 A P), (o_490 A P), (o_491 A P), (o_492 A P), (o_493 A P), (o_494 A P), (o_495 A P), (o_496 A P), (o_497 A P), (o_498 A P), (o_499 A P), (o_500 A P), (o_501 A P), (o_502 A P), (o_503 A P), (o_504 A P), (o_505 A P), (o_506 A P), (o_507 A P), (o_508 A P), (o_509 A P), (o_510 A P), (o_511 A P), (o_512 A P), (o_513 A P), (o_514 A P), (o_515 A P), (o_516 A P), (o_517 A P), (o_518 A P), (o_519 A P), (o_520 A P), (o_521 A P), (o_522 A P), (o_523 A P), (o_524 A P), (o_525 A P), (o_526 A P), (o_527 A P), (o_528 A P), (o_529 A P), (o_530 A P), (o_531 A P), (o_532 A P), (o_533 A P), (o_534 A P), (o_535 A P), (o_536 A P), (o_537 A P), (o_538 A P), (o_539 A P), (o_540 A P), (o_541 A P), (o_542 A P), (o_543 A P), (o_544 A P), (o_545 A P), (o_546 A P), (o_547 A P), (o_548 A P), (o_549 A P), (o_550 A P), (o_551 A P), (o_552 A P)]) (Life.mk [] [] [] 0 [] [] false #[] [] 0 false false false 0 [2000, 10, 10] false 0 true [] [] 0 false)))
def tree_371 (A : AT) : Params → PySem.W.BT := (fun P => (N (boot_o_0 P) (N (boot_o_1 P) (N (o_329 A P) (N (boot_o_7 P) (N (o_51 A P) (N (o_88 A P) (N (o_105 A P) (N (o_176 A P) (N (o_313 A P) L L) L) (N (o_246 A P) L L)) (N (o_139 A P) (N (o_211 A P) (N (o_348 A P) L L) L) (N (o_278 A P) L L))) (N (o_89 A P) (N (o_123 A P) (N (o_192 A P) (N (o_332 A P) L L) L) (N (o_262 A P) L L)) (N (o_157 A P) (N (o_227 A P) (N (o_364 A P) L L) L) (N (o_297 A P) L L)))) (N (o_59 A P) (N (o_78 A P) (N (o_113 A P) (N (o_184 A P) (N (o_321 A P) L L) L) (N (o_254 A P) L L)) (N (o_147 A P) (N (o_219 A P) (N (o_356 A P) L L) L) (N (o_289 A P) L L))) (N (o_97 A P) (N (o_131 A P) (N (o_203 A P) (N (o_340 A P) L L) L) (N (o_270 A P) L L)) (N (o_168 A P) (N (o_235 A P) L L) (N (o_305 A P) L L))))) (N (o_43 A P) (N (o_55 A P) (N (o_74 A P) (N (o_109 A P) (N (o_180 A P) (N (o_317 A P) L L) L) (N (o_250 A P) L L)) (N (o_143 A P) (N (o_215 A P) (N (o_352 A P) L L) L) (N (o_282 A P) L L))) (N (o_93 A P) (N (o_127 A P) (N (o_196 A P) (N (o_336 A P) L L) L) (N (o_266 A P) L L)) (N (o_161 A P) (N (o_231 A P) (N (o_368 A P) L L) L) (N (o_301 A P) L L)))) (N (o_63 A P) (N (o_82 A P) (N (o_117 A P) (N (o_188 A P) (N (o_325 A P) L L) L) (N (o_258 A P) L L)) (N (o_153 A P) (N (o_223 A P) (N (o_360 A P) L L) L) (N (o_293 A P) L L))) (N (o_101 A P) (N (o_135 A P) (N (o_207 A P) (N (o_344 A P) L L) L) (N (o_274 A P) L L)) (N (o_172 A P) (N (o_239 A P) L L) (N (o_309 A P) L L)))))) (N (boot_o_5 P) (N (boot_o_9 P) (N (o_53 A P) (N (o_69 A P) (N (o_107 A P) (N (o_178 A P) (N (o_315 A P) L L) L) (N (o_248 A P) L L)) (N (o_141 A P) (N (o_213 A P) (N (o_350 A P) L L) L) (N (o_280 A P) L L))) (N (o_91 A P) (N (o_125 A P) (N (o_194 A P) (N (o_334 A P) L L) L) (N (o_264 A P) L L)) (N (o_331 A P) (N (o_229 A P) (N (o_366 A P) L L) L) (N (o_299 A P) L L)))) (N (o_61 A P) (N (o_80 A P) (N (o_115 A P) (N (o_186 A P) (N (o_323 A P) L L) L) (N (o_256 A P) L L)) (N (o_151 A P) (N (o_221 A P) (N (o_358 A P) L L) L) (N (o_291 A P) L L))) (N (o_99 A P) (N (o_133 A P) (N (o_205 A P) (N (o_342 A P) L L) L) (N (o_272 A P) L L)) (N (o_170 A P) (N (o_237 A P) L L) (N (o_307 A P) L L))))) (N (o_45 A P) (N (o_57 A P) (N (o_76 A P) (N (o_111 A P) (N (o_182 A P) (N (o_319 A P) L L) L) (N (o_252 A P) L L)) (N (o_145 A P) (N (o_217 A P) (N (o_354 A P) L L) L) (N (o_284 A P) L L))) (N (o_95 A P) (N (o_129 A P) (N (o_198 A P) (N (o_338 A P) L L) L) (N (o_268 A P) L L)) (N (o_163 A P) (N (o_233 A P) (N (o_370 A P) L L) L) (N (o_303 A P) L L)))) (N (o_65 A P) (N (o_84 A P) (N (o_119 A P) (N (o_190 A P) (N (o_327 A P) L L) L) (N (o_260 A P) L L)) (N (o_155 A P) (N (o_225 A P) (N (o_362 A P) L L) L) (N (o_295 A P) L L))) (N (o_103 A P) (N (o_137 A P) (N (o_209 A P) (N (o_346 A P) L L) L) (N (o_276 A P) L L)) (N (o_174 A P) (N (o_241 A P) L L) (N (o_311 A P) L L))))))) (N (boot_o_2 P) (N (boot_o_4 P) (N (boot_o_8 P) (N (o_52 A P) (N (o_68 A P) (N (o_106 A P) (N (o_177 A P) (N (o_314 A P) L L) L) (N (o_247 A P) L L)) (N (o_140 A P) (N (o_212 A P) (N (o_349 A P) L L) L) (N (o_279 A P) L L))) (N (o_90 A P) (N (o_124 A P) (N (o_193 A P) (N (o_333 A P) L L) L) (N (o_263 A P) L L)) (N (o_158 A P) (N (o_228 A P) (N (o_365 A P) L L) L) (N (o_298 A P) L L)))) (N (o_60 A P) (N (o_79 A P) (N (o_114 A P) (N (o_185 A P) (N (o_322 A P) L L) L) (N (o_255 A P) L L)) (N (o_150 A P) (N (o_220 A P) (N (o_357 A P) L L) L) (N (o_290 A P) L L))) (N (o_98 A P) (N (o_132 A P) (N (o_204 A P) (N (o_341 A P) L L) L) (N (o_271 A P) L L)) (N (o_169 A P) (N (o_236 A P) L L) (N (o_306 A P) L L))))) (N (o_330 A P) (N (o_56 A P) (N (o_75 A P) (N (o_110 A P) (N (o_181 A P) (N (o_318 A P) L L) L) (N (o_251 A P) L L)) (N (o_144 A P) (N (o_216 A P) (N (o_353 A P) L L) L) (N (o_283 A P) L L))) (N (o_94 A P) (N (o_128 A P) (N (o_197 A P) (N (o_337 A P) L L) L) (N (o_267 A P) L L)) (N (o_162 A P) (N (o_232 A P) (N (o_369 A P) L L) L) (N (o_302 A P) L L)))) (N (o_64 A P) (N (o_83 A P) (N (o_118 A P) (N (o_189 A P) (N (o_326 A P) L L) L) (N (o_259 A P) L L)) (N (o_154 A P) (N (o_224 A P) (N (o_361 A P) L L) L) (N (o_294 A P) L L))) (N (o_102 A P) (N (o_136 A P) (N (o_208 A P) (N (o_345 A P) L L) L) (N (o_275 A P) L L)) (N (o_173 A P) (N (o_240 A P) L L) (N (o_310 A P) L L)))))) (N (boot_o_6 P) (N (boot_o_10 P) (N (o_54 A P) (N (o_70 A P) (N (o_108 A P) (N (o_179 A P) (N (o_316 A P) L L) L) (N (o_249 A P) L L)) (N (o_142 A P) (N (o_214 A P) (N (o_351 A P) L L) L) (N (o_281 A P) L L))) (N (o_92 A P) (N (o_126 A P) (N (o_195 A P) (N (o_335 A P) L L) L) (N (o_265 A P) L L)) (N (o_160 A P) (N (o_230 A P) (N (o_367 A P) L L) L) (N (o_300 A P) L L)))) (N (o_62 A P) (N (o_81 A P) (N (o_116 A P) (N (o_187 A P) (N (o_324 A P) L L) L) (N (o_257 A P) L L)) (N (o_152 A P) (N (o_222 A P) (N (o_359 A P) L L) L) (N (o_292 A P) L L))) (N (o_100 A P) (N (o_134 A P) (N (o_206 A P) (N (o_343 A P) L L) L) (N (o_273 A P) L L)) (N (o_171 A P) (N (o_238 A P) L L) (N (o_308 A P) L L))))) (N (o_46 A P) (N (o_58 A P) (N (o_77 A P) (N (o_112 A P) (N (o_183 A P) (N (o_320 A P) L L) L) (N (o_253 A P) L L)) (N (o_146 A P) (N (o_218 A P) (N (o_355 A P) L L) L) (N (o_285 A P) L L))) (N (o_96 A P) (N (o_130 A P) (N (o_199 A P) (N (o_339 A P) L L) L) (N (o_269 A P) L L)) (N (o_167 A P) (N (o_234 A P) (N (o_371 A P) L L) L) (N (o_304 A P) L L)))) (N (o_66 A P) (N (o_85 A P) (N (o_122 A P) (N (o_191 A P) (N (o_328 A P) L L) L) (N (o_261 A P) L L)) (N (o_156 A P) (N (o_226 A P) (N (o_363 A P) L L) L) (N (o_296 A P) L L))) (N (o_104 A P) (N (o_138 A P) (N (o_210 A P) (N (o_347 A P) L L) L) (N (o_277 A P) L L)) (N (o_175 A P) (N (o_242 A P) L L) (N (o_312 A P) L L)))))))))
def tree_47 (A : AT) : Params → PySem.W.BT := (fun P => (N (boot_o_0 P) (N (boot_o_1 P) (N (boot_o_3 P) (N (boot_o_7 P) L L) (N (o_43 A P) L L)) (N (boot_o_5 P) (N (boot_o_9 P) L L) (N (o_45 A P) L L))) (N (boot_o_2 P) (N (boot_o_4 P) (N (boot_o_8 P) L L) (N (o_44 A P) L L)) (N (boot_o_6 P) (N (boot_o_10 P) L L) (N (o_46 A P) L L)))))
def tree_70 (A : AT) : Params → PySem.W.BT := (fun P => (N (boot_o_0 P) (N (boot_o_1 P) (N (o_49 A P) (N (boot_o_7 P) (N (o_51 A P) (N (o_67 A P) L L) L) (N (o_59 A P) L L)) (N (o_43 A P) (N (o_55 A P) L L) (N (o_63 A P) L L))) (N (boot_o_5 P) (N (boot_o_9 P) (N (o_53 A P) (N (o_69 A P) L L) L) (N (o_61 A P) L L)) (N (o_45 A P) (N (o_57 A P) L L) (N (o_65 A P) L L)))) (N (boot_o_2 P) (N (boot_o_4 P) (N (boot_o_8 P) (N (o_52 A P) (N (o_68 A P) L L) L) (N (o_60 A P) L L)) (N (o_50 A P) (N (o_56 A P) L L) (N (o_64 A P) L L))) (N (boot_o_6 P) (N (boot_o_10 P) (N (o_54 A P) (N (o_70 A P) L L) L) (N (o_62 A P) L L)) (N (o_46 A P) (N (o_58 A P) L L) (N (o_66 A P) L L))))))
def tree_412 (A : AT) : Params → PySem.W.BT := (fun P => (N (boot_o_0 P) (N (boot_o_1 P) (N (o_372 A P) (N (boot_o_7 P) (N (o_51 A P) (N (o_88 A P) (N (o_105 A P) (N (o_176 A P) (N (o_313 A P) L L) L) (N (o_246 A P) (N (o_383 A P) L L) L)) (N (o_139 A P) (N (o_211 A P) (N (o_348 A P) L L) L) (N (o_278 A P) L L))) (N (o_89 A P) (N (o_123 A P) (N (o_192 A P) (N (o_332 A P) L L) L) (N (o_262 A P) (N (o_399 A P) L L) L)) (N (o_157 A P) (N (o_227 A P) (N (o_364 A P) L L) L) (N (o_297 A P) L L)))) (N (o_59 A P) (N (o_78 A P) (N (o_113 A P) (N (o_184 A P) (N (o_321 A P) L L) L) (N (o_254 A P) (N (o_391 A P) L L) L)) (N (o_147 A P) (N (o_219 A P) (N (o_356 A P) L L) L) (N (o_289 A P) L L))) (N (o_97 A P) (N (o_131 A P) (N (o_203 A P) (N (o_340 A P) L L) L) (N (o_270 A P) (N (o_407 A P) L L) L)) (N (o_168 A P) (N (o_235 A P) (N (o_375 A P) L L) L) (N (o_305 A P) L L))))) (N (o_43 A P) (N (o_55 A P) (N (o_74 A P) (N (o_109 A P) (N (o_180 A P) (N (o_317 A P) L L) L) (N (o_250 A P) (N (o_387 A P) L L) L)) (N (o_143 A P) (N (o_215 A P) (N (o_352 A P) L L) L) (N (o_282 A P) L L))) (N (o_93 A P) (N (o_127 A P) (N (o_196 A P) (N (o_336 A P) L L) L) (N (o_266 A P) (N (o_403 A P) L L) L)) (N (o_161 A P) (N (o_231 A P) (N (o_368 A P) L L) L) (N (o_301 A P) L L)))) (N (o_63 A P) (N (o_82 A P) (N (o_117 A P) (N (o_188 A P) (N (o_325 A P) L L) L) (N (o_258 A P) (N (o_395 A P) L L) L)) (N (o_153 A P) (N (o_223 A P) (N (o_360 A P) L L) L) (N (o_293 A P) L L))) (N (o_101 A P) (N (o_135 A P) (N (o_207 A P) (N (o_344 A P) L L) L) (N (o_274 A P) (N (o_411 A P) L L) L)) (N (o_172 A P) (N (o_239 A P) (N (o_379 A P) L L) L) (N (o_309 A P) L L)))))) (N (boot_o_5 P) (N (boot_o_9 P) (N (o_53 A P) (N (o_69 A P) (N (o_107 A P) (N (o_178 A P) (N (o_315 A P) L L) L) (N (o_248 A P) (N (o_385 A P) L L) L)) (N (o_141 A P) (N (o_213 A P) (N (o_350 A P) L L) L) (N (o_280 A P) L L))) (N (o_91 A P) (N (o_125 A P) (N (o_194 A P) (N (o_334 A P) L L) L) (N (o_264 A P) (N (o_401 A P) L L) L)) (N (o_374 A P) (N (o_229 A P) (N (o_366 A P) L L) L) (N (o_299 A P) L L)))) (N (o_61 A P) (N (o_80 A P) (N (o_115 A P) (N (o_186 A P) (N (o_323 A P) L L) L) (N (o_256 A P) (N (o_393 A P) L L) L)) (N (o_151 A P) (N (o_221 A P) (N (o_358 A P) L L) L) (N (o_291 A P) L L))) (N (o_99 A P) (N (o_133 A P) (N (o_205 A P) (N (o_342 A P) L L) L) (N (o_272 A P) (N (o_409 A P) L L) L)) (N (o_170 A P) (N (o_237 A P) (N (o_377 A P) L L) L) (N (o_307 A P) L L))))) (N (o_45 A P) (N (o_57 A P) (N (o_76 A P) (N (o_111 A P) (N (o_182 A P) (N (o_319 A P) L L) L) (N (o_252 A P) (N (o_389 A P) L L) L)) (N (o_145 A P) (N (o_217 A P) (N (o_354 A P) L L) L) (N (o_284 A P) L L))) (N (o_95 A P) (N (o_129 A P) (N (o_198 A P) (N (o_338 A P) L L) L) (N (o_268 A P) (N (o_405 A P) L L) L)) (N (o_163 A P) (N (o_233 A P) (N (o_370 A P) L L) L) (N (o_303 A P) L L)))) (N (o_65 A P) (N (o_84 A P) (N (o_119 A P) (N (o_190 A P) (N (o_327 A P) L L) L) (N (o_260 A P) (N (o_397 A P) L L) L)) (N (o_155 A P) (N (o_225 A P) (N (o_362 A P) L L) L) (N (o_295 A P) L L))) (N (o_103 A P) (N (o_137 A P) (N (o_209 A P) (N (o_346 A P) L L) L) (N (o_276 A P) L L)) (N (o_174 A P) (N (o_241 A P) (N (o_381 A P) L L) L) (N (o_311 A P) L L))))))) (N (boot_o_2 P) (N (boot_o_4 P) (N (boot_o_8 P) (N (o_52 A P) (N (o_68 A P) (N (o_106 A P) (N (o_177 A P) (N (o_314 A P) L L) L) (N (o_247 A P) (N (o_384 A P) L L) L)) (N (o_140 A P) (N (o_212 A P) (N (o_349 A P) L L) L) (N (o_279 A P) L L))) (N (o_90 A P) (N (o_124 A P) (N (o_193 A P) (N (o_333 A P) L L) L) (N (o_263 A P) (N (o_400 A P) L L) L)) (N (o_158 A P) (N (o_228 A P) (N (o_365 A P) L L) L) (N (o_298 A P) L L)))) (N (o_60 A P) (N (o_79 A P) (N (o_114 A P) (N (o_185 A P) (N (o_322 A P) L L) L) (N (o_255 A P) (N (o_392 A P) L L) L)) (N (o_150 A P) (N (o_220 A P) (N (o_357 A P) L L) L) (N (o_290 A P) L L))) (N (o_98 A P) (N (o_132 A P) (N (o_204 A P) (N (o_341 A P) L L) L) (N (o_271 A P) (N (o_408 A P) L L) L)) (N (o_169 A P) (N (o_236 A P) (N (o_376 A P) L L) L) (N (o_306 A P) L L))))) (N (o_373 A P) (N (o_56 A P) (N (o_75 A P) (N (o_110 A P) (N (o_181 A P) (N (o_318 A P) L L) L) (N (o_251 A P) (N (o_388 A P) L L) L)) (N (o_144 A P) (N (o_216 A P) (N (o_353 A P) L L) L) (N (o_283 A P) L L))) (N (o_94 A P) (N (o_128 A P) (N (o_197 A P) (N (o_337 A P) L L) L) (N (o_267 A P) (N (o_404 A P) L L) L)) (N (o_162 A P) (N (o_232 A P) (N (o_369 A P) L L) L) (N (o_302 A P) L L)))) (N (o_64 A P) (N (o_83 A P) (N (o_118 A P) (N (o_189 A P) (N (o_326 A P) L L) L) (N (o_259 A P) (N (o_396 A P) L L) L)) (N (o_154 A P) (N (o_224 A P) (N (o_361 A P) L L) L) (N (o_294 A P) L L))) (N (o_102 A P) (N (o_136 A P) (N (o_208 A P) (N (o_345 A P) L L) L) (N (o_275 A P) (N (o_412 A P) L L) L)) (N (o_173 A P) (N (o_240 A P) (N (o_380 A P) L L) L) (N (o_310 A P) L L)))))) (N (boot_o_6 P) (N (boot_o_10 P) (N (o_54 A P) (N (o_70 A P) (N (o_108 A P) (N (o_179 A P) (N (o_316 A P) L L) L) (N (o_249 A P) (N (o_386 A P) L L) L)) (N (o_142 A P) (N (o_214 A P) (N (o_351 A P) L L) L) (N (o_281 A P) L L))) (N (o_92 A P) (N (o_126 A P) (N (o_195 A P) (N (o_335 A P) L L) L) (N (o_265 A P) (N (o_402 A P) L L) L)) (N (o_160 A P) (N (o_230 A P) (N (o_367 A P) L L) L) (N (o_300 A P) L L)))) (N (o_62 A P) (N (o_81 A P) (N (o_116 A P) (N (o_187 A P) (N (o_324 A P) L L) L) (N (o_257 A P) (N (o_394 A P) L L) L)) (N (o_152 A P) (N (o_222 A P) (N (o_359 A P) L L) L) (N (o_292 A P) L L))) (N (o_100 A P) (N (o_134 A P) (N (o_206 A P) (N (o_343 A P) L L) L) (N (o_273 A P) (N (o_410 A P) L L) L)) (N (o_171 A P) (N (o_238 A P) (N (o_378 A P) L L) L) (N (o_308 A P) L L))))) (N (o_46 A P) (N (o_58 A P) (N (o_77 A P) (N (o_112 A P) (N (o_183 A P) (N (o_320 A P) L L) L) (N (o_253 A P) (N (o_390 A P) L L) L)) (N (o_146 A P) (N (o_218 A P) (N (o_355 A P) L L) L) (N (o_285 A P) L L))) (N (o_96 A P) (N (o_130 A P) (N (o_199 A P) (N (o_339 A P) L L) L) (N (o_269 A P) (N (o_406 A P) L L) L)) (N (o_167 A P) (N (o_234 A P) (N (o_371 A P) L L) L) (N (o_304 A P) L L)))) (N (o_66 A P) (N (o_85 A P) (N (o_122 A P) (N (o_191 A P) (N (o_328 A P) L L) L) (N (o_261 A P) (N (o_398 A P) L L) L)) (N (o_156 A P) (N (o_226 A P) (N (o_363 A P) L L) L) (N (o_296 A P) L L))) (N (o_104 A P) (N (o_138 A P) (N (o_210 A P) (N (o_347 A P) L L) L) (N (o_277 A P) L L)) (N (o_175 A P) (N (o_242 A P) (N (o_382 A P) L L) L) (N (o_312 A P) L L)))))))))
def tree_147 (A : AT) : Params → PySem.W.BT := (fun P => (N (boot_o_0 P) (N (boot_o_1 P) (N (o_120 A P) (N (boot_o_7 P) (N (o_51 A P) (N (o_88 A P) (N (o_105 A P) L L) (N (o_139 A P) L L)) (N (o_89 A P) (N (o_123 A P) L L) L)) (N (o_59 A P) (N (o_78 A P) (N (o_113 A P) L L) (N (o_147 A P) L L)) (N (o_97 A P) (N (o_131 A P) L L) L))) (N (o_43 A P) (N (o_55 A P) (N (o_74 A P) (N (o_109 A P) L L) (N (o_143 A P) L L)) (N (o_93 A P) (N (o_127 A P) L L) L)) (N (o_63 A P) (N (o_82 A P) (N (o_117 A P) L L) L) (N (o_101 A P) (N (o_135 A P) L L) L)))) (N (boot_o_5 P) (N (boot_o_9 P) (N (o_53 A P) (N (o_69 A P) (N (o_107 A P) L L) (N (o_141 A P) L L)) (N (o_91 A P) (N (o_125 A P) L L) L)) (N (o_61 A P) (N (o_80 A P) (N (o_115 A P) L L) L) (N (o_99 A P) (N (o_133 A P) L L) L))) (N (o_45 A P) (N (o_57 A P) (N (o_76 A P) (N (o_111 A P) L L) (N (o_145 A P) L L)) (N (o_95 A P) (N (o_129 A P) L L) L)) (N (o_65 A P) (N (o_84 A P) (N (o_119 A P) L L) L) (N (o_103 A P) (N (o_137 A P) L L) L))))) (N (boot_o_2 P) (N (boot_o_4 P) (N (boot_o_8 P) (N (o_52 A P) (N (o_68 A P) (N (o_106 A P) L L) (N (o_140 A P) L L)) (N (o_90 A P) (N (o_124 A P) L L) L)) (N (o_60 A P) (N (o_79 A P) (N (o_114 A P) L L) L) (N (o_98 A P) (N (o_132 A P) L L) L))) (N (o_121 A P) (N (o_56 A P) (N (o_75 A P) (N (o_110 A P) L L) (N (o_144 A P) L L)) (N (o_94 A P) (N (o_128 A P) L L) L)) (N (o_64 A P) (N (o_83 A P) (N (o_118 A P) L L) L) (N (o_102 A P) (N (o_136 A P) L L) L)))) (N (boot_o_6 P) (N (boot_o_10 P) (N (o_54 A P) (N (o_70 A P) (N (o_108 A P) L L) (N (o_142 A P) L L)) (N (o_92 A P) (N (o_126 A P) L L) L)) (N (o_62 A P) (N (o_81 A P) (N (o_116 A P) L L) L) (N (o_100 A P) (N (o_134 A P) L L) L))) (N (o_46 A P) (N (o_58 A P) (N (o_77 A P) (N (o_112 A P) L L) (N (o_146 A P) L L)) (N (o_96 A P) (N (o_130 A P) L L) L)) (N (o_66 A P) (N (o_85 A P) (N (o_122 A P) L L) L) (N (o_104 A P) (N (o_138 A P) L L) L)))))))
def tree_467 (A : AT) : Params → PySem.W.BT := (fun P => (N (boot_o_0 P) (N (boot_o_1 P) (N (o_413 A P) (N (boot_o_7 P) (N (o_51 A P) (N (o_88 A P) (N (o_105 A P) (N (o_176 A P) (N (o_313 A P) L L) (N (o_450 A P) L L)) (N (o_246 A P) (N (o_383 A P) L L) L)) (N (o_139 A P) (N (o_211 A P) (N (o_348 A P) L L) L) (N (o_278 A P) (N (o_418 A P) L L) L))) (N (o_89 A P) (N (o_123 A P) (N (o_192 A P) (N (o_332 A P) L L) (N (o_466 A P) L L)) (N (o_262 A P) (N (o_399 A P) L L) L)) (N (o_157 A P) (N (o_227 A P) (N (o_364 A P) L L) L) (N (o_297 A P) (N (o_434 A P) L L) L)))) (N (o_59 A P) (N (o_78 A P) (N (o_113 A P) (N (o_184 A P) (N (o_321 A P) L L) (N (o_458 A P) L L)) (N (o_254 A P) (N (o_391 A P) L L) L)) (N (o_147 A P) (N (o_219 A P) (N (o_356 A P) L L) L) (N (o_289 A P) (N (o_426 A P) L L) L))) (N (o_97 A P) (N (o_131 A P) (N (o_203 A P) (N (o_340 A P) L L) L) (N (o_270 A P) (N (o_407 A P) L L) L)) (N (o_168 A P) (N (o_235 A P) (N (o_375 A P) L L) L) (N (o_305 A P) (N (o_442 A P) L L) L))))) (N (o_43 A P) (N (o_55 A P) (N (o_74 A P) (N (o_109 A P) (N (o_180 A P) (N (o_317 A P) L L) (N (o_454 A P) L L)) (N (o_250 A P) (N (o_387 A P) L L) L)) (N (o_143 A P) (N (o_215 A P) (N (o_352 A P) L L) L) (N (o_282 A P) (N (o_422 A P) L L) L))) (N (o_93 A P) (N (o_127 A P) (N (o_196 A P) (N (o_336 A P) L L) L) (N (o_266 A P) (N (o_403 A P) L L) L)) (N (o_161 A P) (N (o_231 A P) (N (o_368 A P) L L) L) (N (o_301 A P) (N (o_438 A P) L L) L)))) (N (o_63 A P) (N (o_82 A P) (N (o_117 A P) (N (o_188 A P) (N (o_325 A P) L L) (N (o_462 A P) L L)) (N (o_258 A P) (N (o_395 A P) L L) L)) (N (o_153 A P) (N (o_223 A P) (N (o_360 A P) L L) L) (N (o_293 A P) (N (o_430 A P) L L) L))) (N (o_101 A P) (N (o_135 A P) (N (o_207 A P) (N (o_344 A P) L L) L) (N (o_274 A P) (N (o_411 A P) L L) L)) (N (o_172 A P) (N (o_239 A P) (N (o_379 A P) L L) L) (N (o_309 A P) (N (o_446 A P) L L) L)))))) (N (boot_o_5 P) (N (boot_o_9 P) (N (o_53 A P) (N (o_69 A P) (N (o_107 A P) (N (o_178 A P) (N (o_315 A P) L L) (N (o_452 A P) L L)) (N (o_248 A P) (N (o_385 A P) L L) L)) (N (o_141 A P) (N (o_213 A P) (N (o_350 A P) L L) L) (N (o_280 A P) (N (o_420 A P) L L) L))) (N (o_91 A P) (N (o_125 A P) (N (o_194 A P) (N (o_334 A P) L L) L) (N (o_264 A P) (N (o_401 A P) L L) L)) (N (o_415 A P) (N (o_229 A P) (N (o_366 A P) L L) L) (N (o_299 A P) (N (o_436 A P) L L) L)))) (N (o_61 A P) (N (o_80 A P) (N (o_115 A P) (N (o_186 A P) (N (o_323 A P) L L) (N (o_460 A P) L L)) (N (o_256 A P) (N (o_393 A P) L L) L)) (N (o_151 A P) (N (o_221 A P) (N (o_358 A P) L L) L) (N (o_291 A P) (N (o_428 A P) L L) L))) (N (o_99 A P) (N (o_133 A P) (N (o_205 A P) (N (o_342 A P) L L) L) (N (o_272 A P) (N (o_409 A P) L L) L)) (N (o_170 A P) (N (o_237 A P) (N (o_377 A P) L L) L) (N (o_307 A P) (N (o_444 A P) L L) L))))) (N (o_45 A P) (N (o_57 A P) (N (o_76 A P) (N (o_111 A P) (N (o_182 A P) (N (o_319 A P) L L) (N (o_456 A P) L L)) (N (o_252 A P) (N (o_389 A P) L L) L)) (N (o_145 A P) (N (o_217 A P) (N (o_354 A P) L L) L) (N (o_284 A P) (N (o_424 A P) L L) L))) (N (o_95 A P) (N (o_129 A P) (N (o_198 A P) (N (o_338 A P) L L) L) (N (o_268 A P) (N (o_405 A P) L L) L)) (N (o_163 A P) (N (o_233 A P) (N (o_370 A P) L L) L) (N (o_303 A P) (N (o_440 A P) L L) L)))) (N (o_65 A P) (N (o_84 A P) (N (o_119 A P) (N (o_190 A P) (N (o_327 A P) L L) (N (o_464 A P) L L)) (N (o_260 A P) (N (o_397 A P) L L) L)) (N (o_155 A P) (N (o_225 A P) (N (o_362 A P) L L) L) (N (o_295 A P) (N (o_432 A P) L L) L))) (N (o_103 A P) (N (o_137 A P) (N (o_209 A P) (N (o_346 A P) L L) L) (N (o_276 A P) (N (o_416 A P) L L) L)) (N (o_174 A P) (N (o_241 A P) (N (o_381 A P) L L) L) (N (o_311 A P) (N (o_448 A P) L L) L))))))) (N (boot_o_2 P) (N (boot_o_4 P) (N (boot_o_8 P) (N (o_52 A P) (N (o_68 A P) (N (o_106 A P) (N (o_177 A P) (N (o_314 A P) L L) (N (o_451 A P) L L)) (N (o_247 A P) (N (o_384 A P) L L) L)) (N (o_140 A P) (N (o_212 A P) (N (o_349 A P) L L) L) (N (o_279 A P) (N (o_419 A P) L L) L))) (N (o_90 A P) (N (o_124 A P) (N (o_193 A P) (N (o_333 A P) L L) (N (o_467 A P) L L)) (N (o_263 A P) (N (o_400 A P) L L) L)) (N (o_158 A P) (N (o_228 A P) (N (o_365 A P) L L) L) (N (o_298 A P) (N (o_435 A P) L L) L)))) (N (o_60 A P) (N (o_79 A P) (N (o_114 A P) (N (o_185 A P) (N (o_322 A P) L L) (N (o_459 A P) L L)) (N (o_255 A P) (N (o_392 A P) L L) L)) (N (o_150 A P) (N (o_220 A P) (N (o_357 A P) L L) L) (N (o_290 A P) (N (o_427 A P) L L) L))) (N (o_98 A P) (N (o_132 A P) (N (o_204 A P) (N (o_341 A P) L L) L) (N (o_271 A P) (N (o_408 A P) L L) L)) (N (o_169 A P) (N (o_236 A P) (N (o_376 A P) L L) L) (N (o_306 A P) (N (o_443 A P) L L) L))))) (N (o_414 A P) (N (o_56 A P) (N (o_75 A P) (N (o_110 A P) (N (o_181 A P) (N (o_318 A P) L L) (N (o_455 A P) L L)) (N (o_251 A P) (N (o_388 A P) L L) L)) (N (o_144 A P) (N (o_216 A P) (N (o_353 A P) L L) L) (N (o_283 A P) (N (o_423 A P) L L) L))) (N (o_94 A P) (N (o_128 A P) (N (o_197 A P) (N (o_337 A P) L L) L) (N (o_267 A P) (N (o_404 A P) L L) L)) (N (o_162 A P) (N (o_232 A P) (N (o_369 A P) L L) L) (N (o_302 A P) (N (o_439 A P) L L) L)))) (N (o_64 A P) (N (o_83 A P) (N (o_118 A P) (N (o_189 A P) (N (o_326 A P) L L) (N (o_463 A P) L L)) (N (o_259 A P) (N (o_396 A P) L L) L)) (N (o_154 A P) (N (o_224 A P) (N (o_361 A P) L L) L) (N (o_294 A P) (N (o_431 A P) L L) L))) (N (o_102 A P) (N (o_136 A P) (N (o_208 A P) (N (o_345 A P) L L) L) (N (o_275 A P) (N (o_412 A P) L L) L)) (N (o_173 A P) (N (o_240 A P) (N (o_380 A P) L L) L) (N (o_310 A P) (N (o_447 A P) L L) L)))))) (N (boot_o_6 P) (N (boot_o_10 P) (N (o_54 A P) (N (o_70 A P) (N (o_108 A P) (N (o_179 A P) (N (o_316 A P) L L) (N (o_453 A P) L L)) (N (o_249 A P) (N (o_386 A P) L L) L)) (N (o_142 A P) (N (o_214 A P) (N (o_351 A P) L L) L) (N (o_281 A P) (N (o_421 A P) L L) L))) (N (o_92 A P) (N (o_126 A P) (N (o_195 A P) (N (o_335 A P) L L) L) (N (o_265 A P) (N (o_402 A P) L L) L)) (N (o_160 A P) (N (o_230 A P) (N (o_367 A P) L L) L) (N (o_300 A P) (N (o_437 A P) L L) L)))) (N (o_62 A P) (N (o_81 A P) (N (o_116 A P) (N (o_187 A P) (N (o_324 A P) L L) (N (o_461 A P) L L)) (N (o_257 A P) (N (o_394 A P) L L) L)) (N (o_152 A P) (N (o_222 A P) (N (o_359 A P) L L) L) (N (o_292 A P) (N (o_429 A P) L L) L))) (N (o_100 A P) (N (o_134 A P) (N (o_206 A P) (N (o_343 A P) L L) L) (N (o_273 A P) (N (o_410 A P) L L) L)) (N (o_171 A P) (N (o_238 A P) (N (o_378 A P) L L) L) (N (o_308 A P) (N (o_445 A P) L L) L))))) (N (o_46 A P) (N (o_58 A P) (N (o_77 A P) (N (o_112 A P) (N (o_183 A P) (N (o_320 A P) L L) (N (o_457 A P) L L)) (N (o_253 A P) (N (o_390 A P) L L) L)) (N (o_146 A P) (N (o_218 A P) (N (o_355 A P) L L) L) (N (o_285 A P) (N (o_425 A P) L L) L))) (N (o_96 A P) (N (o_130 A P) (N (o_199 A P) (N (o_339 A P) L L) L) (N (o_269 A P) (N (o_406 A P) L L) L)) (N (o_167 A P) (N (o_234 A P) (N (o_371 A P) L L) L) (N (o_304 A P) (N (o_441 A P) L L) L)))) (N (o_66 A P) (N (o_85 A P) (N (o_122 A P) (N (o_191 A P) (N (o_328 A P) L L) (N (o_465 A P) L L)) (N (o_261 A P) (N (o_398 A P) L L) L)) (N (o_156 A P) (N (o_226 A P) (N (o_363 A P) L L) L) (N (o_296 A P) (N (o_433 A P) L L) L))) (N (o_104 A P) (N (o_138 A P) (N (o_210 A P) (N (o_347 A P) L L) L) (N (o_277 A P) (N (o_417 A P) L L) L)) (N (o_175 A P) (N (o_242 A P) (N (o_382 A P) L L) L) (N (o_312 A P) (N (o_449 A P) L L) L)))))))))
def tree_119 (A : AT) : Params → PySem.W.BT := (fun P => (N (boot_o_0 P) (N (boot_o_1 P) (N (o_86 A P) (N (boot_o_7 P) (N (o_51 A P) (N (o_88 A P) (N (o_105 A P) L L) L) (N (o_89 A P) L L)) (N (o_59 A P) (N (o_78 A P) (N (o_113 A P) L L) L) (N (o_97 A P) L L))) (N (o_43 A P) (N (o_55 A P) (N (o_74 A P) (N (o_109 A P) L L) L) (N (o_93 A P) L L)) (N (o_63 A P) (N (o_82 A P) (N (o_117 A P) L L) L) (N (o_101 A P) L L)))) (N (boot_o_5 P) (N (boot_o_9 P) (N (o_53 A P) (N (o_69 A P) (N (o_107 A P) L L) L) (N (o_91 A P) L L)) (N (o_61 A P) (N (o_80 A P) (N (o_115 A P) L L) L) (N (o_99 A P) L L))) (N (o_45 A P) (N (o_57 A P) (N (o_76 A P) (N (o_111 A P) L L) L) (N (o_95 A P) L L)) (N (o_65 A P) (N (o_84 A P) (N (o_119 A P) L L) L) (N (o_103 A P) L L))))) (N (boot_o_2 P) (N (boot_o_4 P) (N (boot_o_8 P) (N (o_52 A P) (N (o_68 A P) (N (o_106 A P) L L) L) (N (o_90 A P) L L)) (N (o_60 A P) (N (o_79 A P) (N (o_114 A P) L L) L) (N (o_98 A P) L L))) (N (o_87 A P) (N (o_56 A P) (N (o_75 A P) (N (o_110 A P) L L) L) (N (o_94 A P) L L)) (N (o_64 A P) (N (o_83 A P) (N (o_118 A P) L L) L) (N (o_102 A P) L L)))) (N (boot_o_6 P) (N (boot_o_10 P) (N (o_54 A P) (N (o_70 A P) (N (o_108 A P) L L) L) (N (o_92 A P) L L)) (N (o_62 A P) (N (o_81 A P) (N (o_116 A P) L L) L) (N (o_100 A P) L L))) (N (o_46 A P) (N (o_58 A P) (N (o_77 A P) (N (o_112 A P) L L) L) (N (o_96 A P) L L)) (N (o_66 A P) (N (o_85 A P) L L) (N (o_104 A P) L L)))))))
def tree_199 (A : AT) : Params → PySem.W.BT := (fun P => (N (boot_o_0 P) (N (boot_o_1 P) (N (o_164 A P) (N (boot_o_7 P) (N (o_51 A P) (N (o_88 A P) (N (o_105 A P) (N (o_176 A P) L L) L) (N (o_139 A P) L L)) (N (o_89 A P) (N (o_123 A P) (N (o_192 A P) L L) L) (N (o_157 A P) L L))) (N (o_59 A P) (N (o_78 A P) (N (o_113 A P) (N (o_184 A P) L L) L) (N (o_147 A P) L L)) (N (o_97 A P) (N (o_131 A P) L L) (N (o_168 A P) L L)))) (N (o_43 A P) (N (o_55 A P) (N (o_74 A P) (N (o_109 A P) (N (o_180 A P) L L) L) (N (o_143 A P) L L)) (N (o_93 A P) (N (o_127 A P) (N (o_196 A P) L L) L) (N (o_161 A P) L L))) (N (o_63 A P) (N (o_82 A P) (N (o_117 A P) (N (o_188 A P) L L) L) (N (o_153 A P) L L)) (N (o_101 A P) (N (o_135 A P) L L) (N (o_172 A P) L L))))) (N (boot_o_5 P) (N (boot_o_9 P) (N (o_53 A P) (N (o_69 A P) (N (o_107 A P) (N (o_178 A P) L L) L) (N (o_141 A P) L L)) (N (o_91 A P) (N (o_125 A P) (N (o_194 A P) L L) L) (N (o_166 A P) L L))) (N (o_61 A P) (N (o_80 A P) (N (o_115 A P) (N (o_186 A P) L L) L) (N (o_151 A P) L L)) (N (o_99 A P) (N (o_133 A P) L L) (N (o_170 A P) L L)))) (N (o_45 A P) (N (o_57 A P) (N (o_76 A P) (N (o_111 A P) (N (o_182 A P) L L) L) (N (o_145 A P) L L)) (N (o_95 A P) (N (o_129 A P) (N (o_198 A P) L L) L) (N (o_163 A P) L L))) (N (o_65 A P) (N (o_84 A P) (N (o_119 A P) (N (o_190 A P) L L) L) (N (o_155 A P) L L)) (N (o_103 A P) (N (o_137 A P) L L) (N (o_174 A P) L L)))))) (N (boot_o_2 P) (N (boot_o_4 P) (N (boot_o_8 P) (N (o_52 A P) (N (o_68 A P) (N (o_106 A P) (N (o_177 A P) L L) L) (N (o_140 A P) L L)) (N (o_90 A P) (N (o_124 A P) (N (o_193 A P) L L) L) (N (o_158 A P) L L))) (N (o_60 A P) (N (o_79 A P) (N (o_114 A P) (N (o_185 A P) L L) L) (N (o_150 A P) L L)) (N (o_98 A P) (N (o_132 A P) L L) (N (o_169 A P) L L)))) (N (o_165 A P) (N (o_56 A P) (N (o_75 A P) (N (o_110 A P) (N (o_181 A P) L L) L) (N (o_144 A P) L L)) (N (o_94 A P) (N (o_128 A P) (N (o_197 A P) L L) L) (N (o_162 A P) L L))) (N (o_64 A P) (N (o_83 A P) (N (o_118 A P) (N (o_189 A P) L L) L) (N (o_154 A P) L L)) (N (o_102 A P) (N (o_136 A P) L L) (N (o_173 A P) L L))))) (N (boot_o_6 P) (N (boot_o_10 P) (N (o_54 A P) (N (o_70 A P) (N (o_108 A P) (N (o_179 A P) L L) L) (N (o_142 A P) L L)) (N (o_92 A P) (N (o_126 A P) (N (o_195 A P) L L) L) (N (o_160 A P) L L))) (N (o_62 A P) (N (o_81 A P) (N (o_116 A P) (N (o_187 A P) L L) L) (N (o_152 A P) L L)) (N (o_100 A P) (N (o_134 A P) L L) (N (o_171 A P) L L)))) (N (o_46 A P) (N (o_58 A P) (N (o_77 A P) (N (o_112 A P) (N (o_183 A P) L L) L) (N (o_146 A P) L L)) (N (o_96 A P) (N (o_130 A P) (N (o_199 A P) L L) L) (N (o_167 A P) L L))) (N (o_66 A P) (N (o_85 A P) (N (o_122 A P) (N (o_191 A P) L L) L) (N (o_156 A P) L L)) (N (o_104 A P) (N (o_138 A P) L L) (N (o_175 A P) L L))))))))
end
theorem trig : (PySem.Challenge.pw_bellsaway_k09_whole_fits_turned.main.body.length == 0) = (PySem.Challenge.pw_bellsaway_k09_whole_fits_turned.main.body.length == 0) := rfl
theorem trig2 : (!(PySem.Challenge.pw_bellsaway_k09_whole_fits_turned.main.body.length == 0)) = true := by k_qdec
def a0 : List Str := [Str.ofString "Fit", Str.ofString "note_turns", Str.ofString "Any.note_turns", Str.ofString "bellsaway.fits", Str.ofString "self", Str.ofString "kinds", Str.ofString "places", Str.ofString "weights", Str.ofString "weight_bits", Str.ofString "Both.weight_bits", Str.ofString "/claim/cut.py", Str.ofString "fits_it", Str.ofString "Any.fits_it", Str.ofString "__name__", Str.ofString "__doc__", Str.ofString "__package__", Str.ofString "__loader__", Str.ofString "__spec__", Str.ofString "__annotations__", Str.ofString "__builtins__", Str.ofString "__file__", Str.ofString "__cached__", Str.ofString "_wall", Str.ofString "BellError", Str.ofString "NoHappening", Str.ofString "NoFit", Str.ofString "is_whole", Str.ofString "is_whole_from", Str.ofString "LETTERS", Str.ofString "abcdefghijklmnopqrstuvwxyz", Str.ofString "MOST_LETTERS", Str.ofString "is_name", Str.ofString "Happening", Str.ofString "are_unlike_names", Str.ofString "Any", Str.ofString "Kind", Str.ofString "_law_a", Str.ofString "_law_b", Str.ofString "_law_c", Str.ofString "_law_found", Str.ofString "_law_made", Str.ofString "__module__", Str.ofString "__firstlineno__", Str.ofString "__init__", Str.ofString "__static_attributes__", Str.ofString "Place.__init__", Str.ofString "bellsaway.words", Str.ofString "__qualname__", Str.ofString "Both.fits_it", Str.ofString "fits", Str.ofString "fit", Str.ofString "thing", Str.ofString "kind", Str.ofString "place", Str.ofString "from_weight", Str.ofString "_law_gathered", Str.ofString "_law_pairs", Str.ofString "Place.fits_it", Str.ofString "law_bellsaway_k09_whole_fits_turned", Str.ofString "Kind.fits_it", Str.ofString "Both", Str.ofString "Least.__init__", Str.ofString "_law_cell_at", Str.ofString "bellsaway.errors", Str.ofString "__weakref__", Str.ofString "check_names", Str.ofString "_law_state", Str.ofString "_law_more", Str.ofString "_law_kind", Str.ofString "_law_names", Str.ofString "_law_k", Str.ofString "_law_name_here", Str.ofString "check_fits", Str.ofString "Not.fits_it", Str.ofString "Both.note_turns", Str.ofString "Either.weight_bits", Str.ofString "Least", Str.ofString "bellsaway.wholes", Str.ofString "Least.weight_bits", Str.ofString "_law_leaf", Str.ofString "weight", Str.ofString "Place", Str.ofString "_law_begin", Str.ofString "Either.__init__", Str.ofString "check_fit", Str.ofString "Happening.__init__", Str.ofString "Either.note_turns", Str.ofString "_law_pick", Str.ofString "names", Str.ofString "Place.note_turns", Str.ofString "Either", Str.ofString "__main__", Str.ofString "_law_base", Str.ofString "_law_number", Str.ofString "_law_name", Str.ofString "Any.weight_bits", Str.ofString "_law_tree", Str.ofString "Not.weight_bits", Str.ofString "_law_things", Str.ofString "Kind.__init__", Str.ofString "Both.__init__", Str.ofString "happening", Str.ofString "_law_next", Str.ofString "_law_some", Str.ofString "Not", Str.ofString "bellsaway.happenings", Str.ofString "_law_script", Str.ofString "_law_trees", Str.ofString "_law_whole", Str.ofString "_law_kinds", Str.ofString "_law_places", Str.ofString "_law_weights", Str.ofString "_law_cell", Str.ofString "_law_weight", Str.ofString "least", Str.ofString "Least.fits_it", Str.ofString "Kind.weight_bits", Str.ofString "law", Str.ofString "__dict__", Str.ofString "Not.__init__", Str.ofString "Least.note_turns", Str.ofString "_law_tree_here", Str.ofString "_law_word", Str.ofString "_law_part", Str.ofString "Not.note_turns", Str.ofString "k", Str.ofString "<module>", Str.ofString "Kind.note_turns", Str.ofString "Place.weight_bits", Str.ofString "Either.fits_it"]
def a1 : List Str := [⟨⟨[70, 105, 116]⟩⟩, ⟨⟨[110, 111, 116, 101, 95, 116, 117, 114, 110, 115]⟩⟩, ⟨⟨[65, 110, 121, 46, 110, 111, 116, 101, 95, 116, 117, 114, 110, 115]⟩⟩, ⟨⟨[98, 101, 108, 108, 115, 97, 119, 97, 121, 46, 102, 105, 116, 115]⟩⟩, ⟨⟨[115, 101, 108, 102]⟩⟩, ⟨⟨[107, 105, 110, 100, 115]⟩⟩, ⟨⟨[112, 108, 97, 99, 101, 115]⟩⟩, ⟨⟨[119, 101, 105, 103, 104, 116, 115]⟩⟩, ⟨⟨[119, 101, 105, 103, 104, 116, 95, 98, 105, 116, 115]⟩⟩, ⟨⟨[66, 111, 116, 104, 46, 119, 101, 105, 103, 104, 116, 95, 98, 105, 116, 115]⟩⟩, ⟨⟨[47, 99, 108, 97, 105, 109, 47, 99, 117, 116, 46, 112, 121]⟩⟩, ⟨⟨[102, 105, 116, 115, 95, 105, 116]⟩⟩, ⟨⟨[65, 110, 121, 46, 102, 105, 116, 115, 95, 105, 116]⟩⟩, ⟨⟨[95, 95, 110, 97, 109, 101, 95, 95]⟩⟩, ⟨⟨[95, 95, 100, 111, 99, 95, 95]⟩⟩, ⟨⟨[95, 95, 112, 97, 99, 107, 97, 103, 101, 95, 95]⟩⟩, ⟨⟨[95, 95, 108, 111, 97, 100, 101, 114, 95, 95]⟩⟩, ⟨⟨[95, 95, 115, 112, 101, 99, 95, 95]⟩⟩, ⟨⟨[95, 95, 97, 110, 110, 111, 116, 97, 116, 105, 111, 110, 115, 95, 95]⟩⟩, ⟨⟨[95, 95, 98, 117, 105, 108, 116, 105, 110, 115, 95, 95]⟩⟩, ⟨⟨[95, 95, 102, 105, 108, 101, 95, 95]⟩⟩, ⟨⟨[95, 95, 99, 97, 99, 104, 101, 100, 95, 95]⟩⟩, ⟨⟨[95, 119, 97, 108, 108]⟩⟩, ⟨⟨[66, 101, 108, 108, 69, 114, 114, 111, 114]⟩⟩, ⟨⟨[78, 111, 72, 97, 112, 112, 101, 110, 105, 110, 103]⟩⟩, ⟨⟨[78, 111, 70, 105, 116]⟩⟩, ⟨⟨[105, 115, 95, 119, 104, 111, 108, 101]⟩⟩, ⟨⟨[105, 115, 95, 119, 104, 111, 108, 101, 95, 102, 114, 111, 109]⟩⟩, ⟨⟨[76, 69, 84, 84, 69, 82, 83]⟩⟩, ⟨⟨[97, 98, 99, 100, 101, 102, 103, 104, 105, 106, 107, 108, 109, 110, 111, 112, 113, 114, 115, 116, 117, 118, 119, 120, 121, 122]⟩⟩, ⟨⟨[77, 79, 83, 84, 95, 76, 69, 84, 84, 69, 82, 83]⟩⟩, ⟨⟨[105, 115, 95, 110, 97, 109, 101]⟩⟩, ⟨⟨[72, 97, 112, 112, 101, 110, 105, 110, 103]⟩⟩, ⟨⟨[97, 114, 101, 95, 117, 110, 108, 105, 107, 101, 95, 110, 97, 109, 101, 115]⟩⟩, ⟨⟨[65, 110, 121]⟩⟩, ⟨⟨[75, 105, 110, 100]⟩⟩, ⟨⟨[95, 108, 97, 119, 95, 97]⟩⟩, ⟨⟨[95, 108, 97, 119, 95, 98]⟩⟩, ⟨⟨[95, 108, 97, 119, 95, 99]⟩⟩, ⟨⟨[95, 108, 97, 119, 95, 102, 111, 117, 110, 100]⟩⟩, ⟨⟨[95, 108, 97, 119, 95, 109, 97, 100, 101]⟩⟩, ⟨⟨[95, 95, 109, 111, 100, 117, 108, 101, 95, 95]⟩⟩, ⟨⟨[95, 95, 102, 105, 114, 115, 116, 108, 105, 110, 101, 110, 111, 95, 95]⟩⟩, ⟨⟨[95, 95, 105, 110, 105, 116, 95, 95]⟩⟩, ⟨⟨[95, 95, 115, 116, 97, 116, 105, 99, 95, 97, 116, 116, 114, 105, 98, 117, 116, 101, 115, 95, 95]⟩⟩, ⟨⟨[80, 108, 97, 99, 101, 46, 95, 95, 105, 110, 105, 116, 95, 95]⟩⟩, ⟨⟨[98, 101, 108, 108, 115, 97, 119, 97, 121, 46, 119, 111, 114, 100, 115]⟩⟩, ⟨⟨[95, 95, 113, 117, 97, 108, 110, 97, 109, 101, 95, 95]⟩⟩, ⟨⟨[66, 111, 116, 104, 46, 102, 105, 116, 115, 95, 105, 116]⟩⟩, ⟨⟨[102, 105, 116, 115]⟩⟩, ⟨⟨[102, 105, 116]⟩⟩, ⟨⟨[116, 104, 105, 110, 103]⟩⟩, ⟨⟨[107, 105, 110, 100]⟩⟩, ⟨⟨[112, 108, 97, 99, 101]⟩⟩, ⟨⟨[102, 114, 111, 109, 95, 119, 101, 105, 103, 104, 116]⟩⟩, ⟨⟨[95, 108, 97, 119, 95, 103, 97, 116, 104, 101, 114, 101, 100]⟩⟩, ⟨⟨[95, 108, 97, 119, 95, 112, 97, 105, 114, 115]⟩⟩, ⟨⟨[80, 108, 97, 99, 101, 46, 102, 105, 116, 115, 95, 105, 116]⟩⟩, ⟨⟨[108, 97, 119, 95, 98, 101, 108, 108, 115, 97, 119, 97, 121, 95, 107, 48, 57, 95, 119, 104, 111, 108, 101, 95, 102, 105, 116, 115, 95, 116, 117, 114, 110, 101, 100]⟩⟩, ⟨⟨[75, 105, 110, 100, 46, 102, 105, 116, 115, 95, 105, 116]⟩⟩, ⟨⟨[66, 111, 116, 104]⟩⟩, ⟨⟨[76, 101, 97, 115, 116, 46, 95, 95, 105, 110, 105, 116, 95, 95]⟩⟩, ⟨⟨[95, 108, 97, 119, 95, 99, 101, 108, 108, 95, 97, 116]⟩⟩, ⟨⟨[98, 101, 108, 108, 115, 97, 119, 97, 121, 46, 101, 114, 114, 111, 114, 115]⟩⟩, ⟨⟨[95, 95, 119, 101, 97, 107, 114, 101, 102, 95, 95]⟩⟩, ⟨⟨[99, 104, 101, 99, 107, 95, 110, 97, 109, 101, 115]⟩⟩, ⟨⟨[95, 108, 97, 119, 95, 115, 116, 97, 116, 101]⟩⟩, ⟨⟨[95, 108, 97, 119, 95, 109, 111, 114, 101]⟩⟩, ⟨⟨[95, 108, 97, 119, 95, 107, 105, 110, 100]⟩⟩, ⟨⟨[95, 108, 97, 119, 95, 110, 97, 109, 101, 115]⟩⟩, ⟨⟨[95, 108, 97, 119, 95, 107]⟩⟩, ⟨⟨[95, 108, 97, 119, 95, 110, 97, 109, 101, 95, 104, 101, 114, 101]⟩⟩, ⟨⟨[99, 104, 101, 99, 107, 95, 102, 105, 116, 115]⟩⟩, ⟨⟨[78, 111, 116, 46, 102, 105, 116, 115, 95, 105, 116]⟩⟩, ⟨⟨[66, 111, 116, 104, 46, 110, 111, 116, 101, 95, 116, 117, 114, 110, 115]⟩⟩, ⟨⟨[69, 105, 116, 104, 101, 114, 46, 119, 101, 105, 103, 104, 116, 95, 98, 105, 116, 115]⟩⟩, ⟨⟨[76, 101, 97, 115, 116]⟩⟩, ⟨⟨[98, 101, 108, 108, 115, 97, 119, 97, 121, 46, 119, 104, 111, 108, 101, 115]⟩⟩, ⟨⟨[76, 101, 97, 115, 116, 46, 119, 101, 105, 103, 104, 116, 95, 98, 105, 116, 115]⟩⟩, ⟨⟨[95, 108, 97, 119, 95, 108, 101, 97, 102]⟩⟩, ⟨⟨[119, 101, 105, 103, 104, 116]⟩⟩, ⟨⟨[80, 108, 97, 99, 101]⟩⟩, ⟨⟨[95, 108, 97, 119, 95, 98, 101, 103, 105, 110]⟩⟩, ⟨⟨[69, 105, 116, 104, 101, 114, 46, 95, 95, 105, 110, 105, 116, 95, 95]⟩⟩, ⟨⟨[99, 104, 101, 99, 107, 95, 102, 105, 116]⟩⟩, ⟨⟨[72, 97, 112, 112, 101, 110, 105, 110, 103, 46, 95, 95, 105, 110, 105, 116, 95, 95]⟩⟩, ⟨⟨[69, 105, 116, 104, 101, 114, 46, 110, 111, 116, 101, 95, 116, 117, 114, 110, 115]⟩⟩, ⟨⟨[95, 108, 97, 119, 95, 112, 105, 99, 107]⟩⟩, ⟨⟨[110, 97, 109, 101, 115]⟩⟩, ⟨⟨[80, 108, 97, 99, 101, 46, 110, 111, 116, 101, 95, 116, 117, 114, 110, 115]⟩⟩, ⟨⟨[69, 105, 116, 104, 101, 114]⟩⟩, ⟨⟨[95, 95, 109, 97, 105, 110, 95, 95]⟩⟩, ⟨⟨[95, 108, 97, 119, 95, 98, 97, 115, 101]⟩⟩, ⟨⟨[95, 108, 97, 119, 95, 110, 117, 109, 98, 101, 114]⟩⟩, ⟨⟨[95, 108, 97, 119, 95, 110, 97, 109, 101]⟩⟩, ⟨⟨[65, 110, 121, 46, 119, 101, 105, 103, 104, 116, 95, 98, 105, 116, 115]⟩⟩, ⟨⟨[95, 108, 97, 119, 95, 116, 114, 101, 101]⟩⟩, ⟨⟨[78, 111, 116, 46, 119, 101, 105, 103, 104, 116, 95, 98, 105, 116, 115]⟩⟩, ⟨⟨[95, 108, 97, 119, 95, 116, 104, 105, 110, 103, 115]⟩⟩, ⟨⟨[75, 105, 110, 100, 46, 95, 95, 105, 110, 105, 116, 95, 95]⟩⟩, ⟨⟨[66, 111, 116, 104, 46, 95, 95, 105, 110, 105, 116, 95, 95]⟩⟩, ⟨⟨[104, 97, 112, 112, 101, 110, 105, 110, 103]⟩⟩, ⟨⟨[95, 108, 97, 119, 95, 110, 101, 120, 116]⟩⟩, ⟨⟨[95, 108, 97, 119, 95, 115, 111, 109, 101]⟩⟩, ⟨⟨[78, 111, 116]⟩⟩, ⟨⟨[98, 101, 108, 108, 115, 97, 119, 97, 121, 46, 104, 97, 112, 112, 101, 110, 105, 110, 103, 115]⟩⟩, ⟨⟨[95, 108, 97, 119, 95, 115, 99, 114, 105, 112, 116]⟩⟩, ⟨⟨[95, 108, 97, 119, 95, 116, 114, 101, 101, 115]⟩⟩, ⟨⟨[95, 108, 97, 119, 95, 119, 104, 111, 108, 101]⟩⟩, ⟨⟨[95, 108, 97, 119, 95, 107, 105, 110, 100, 115]⟩⟩, ⟨⟨[95, 108, 97, 119, 95, 112, 108, 97, 99, 101, 115]⟩⟩, ⟨⟨[95, 108, 97, 119, 95, 119, 101, 105, 103, 104, 116, 115]⟩⟩, ⟨⟨[95, 108, 97, 119, 95, 99, 101, 108, 108]⟩⟩, ⟨⟨[95, 108, 97, 119, 95, 119, 101, 105, 103, 104, 116]⟩⟩, ⟨⟨[108, 101, 97, 115, 116]⟩⟩, ⟨⟨[76, 101, 97, 115, 116, 46, 102, 105, 116, 115, 95, 105, 116]⟩⟩, ⟨⟨[75, 105, 110, 100, 46, 119, 101, 105, 103, 104, 116, 95, 98, 105, 116, 115]⟩⟩, ⟨⟨[108, 97, 119]⟩⟩, ⟨⟨[95, 95, 100, 105, 99, 116, 95, 95]⟩⟩, ⟨⟨[78, 111, 116, 46, 95, 95, 105, 110, 105, 116, 95, 95]⟩⟩, ⟨⟨[76, 101, 97, 115, 116, 46, 110, 111, 116, 101, 95, 116, 117, 114, 110, 115]⟩⟩, ⟨⟨[95, 108, 97, 119, 95, 116, 114, 101, 101, 95, 104, 101, 114, 101]⟩⟩, ⟨⟨[95, 108, 97, 119, 95, 119, 111, 114, 100]⟩⟩, ⟨⟨[95, 108, 97, 119, 95, 112, 97, 114, 116]⟩⟩, ⟨⟨[78, 111, 116, 46, 110, 111, 116, 101, 95, 116, 117, 114, 110, 115]⟩⟩, ⟨⟨[107]⟩⟩, ⟨⟨[60, 109, 111, 100, 117, 108, 101, 62]⟩⟩, ⟨⟨[75, 105, 110, 100, 46, 110, 111, 116, 101, 95, 116, 117, 114, 110, 115]⟩⟩, ⟨⟨[80, 108, 97, 99, 101, 46, 119, 101, 105, 103, 104, 116, 95, 98, 105, 116, 115]⟩⟩, ⟨⟨[69, 105, 116, 104, 101, 114, 46, 102, 105, 116, 115, 95, 105, 116]⟩⟩]
def t0 : List String := ["builtin_function_or_method", "object.__init_subclass__", "type", "object", "object.__new__", "function", "tuple", "code", "dict", "__main__.__loader__#opaque", "type.__prepare__", "super", "frame", "getset_descriptor", "ExceptionGroup.__weakref__", "ValueError", "Exception", "BaseException", "ValueError.__new__", "function.__dict__", "function.__dict__#set"]
noncomputable def t1 : List String := [PySem.W.SL.s11030030927630378310x26, PySem.W.SL.s4860613602091757760x24, PySem.W.SL.s17162191345867700912x4, PySem.W.SL.s2742458400755230247x6, PySem.W.SL.s11443829558043349243x14, PySem.W.SL.s7174869446012820540x8, PySem.W.SL.s2766695959194262286x5, PySem.W.SL.s5856160107412720595x4, PySem.W.SL.s14018661285674007319x4, PySem.W.SL.s7097527257260152453x26, PySem.W.SL.s10062305145149207511x16, PySem.W.SL.s4290257624100764138x5, PySem.W.SL.s658472552662922059x5, PySem.W.SL.s14755015743595814543x17, PySem.W.SL.s10220274742760427390x26, PySem.W.SL.s6070975301684473832x10, PySem.W.SL.s5946037652744460706x9, PySem.W.SL.s4278001404047624695x13, PySem.W.SL.s4209523147560561109x18, PySem.W.SL.s6511155373996960695x17, PySem.W.SL.s12411053484034534018x21]
theorem cc {α : Type} {x y : α} {l m : List α} (h : x = y) (k : l = m) : x :: l = y :: m := by rw [h, k]
theorem ea : a0 = a1 := (cc (by kernel_rfl) (cc (by kernel_rfl) (cc (by kernel_rfl) (cc (by kernel_rfl) (cc (by kernel_rfl) (cc (by kernel_rfl) (cc (by kernel_rfl) (cc (by kernel_rfl) (cc (by kernel_rfl) (cc (by kernel_rfl) (cc (by kernel_rfl) (cc (by kernel_rfl) (cc (by kernel_rfl) (cc (by kernel_rfl) (cc (by kernel_rfl) (cc (by kernel_rfl) (cc (by kernel_rfl) (cc (by kernel_rfl) (cc (by kernel_rfl) (cc (by kernel_rfl) (cc (by kernel_rfl) (cc (by kernel_rfl) (cc (by kernel_rfl) (cc (by kernel_rfl) (cc (by kernel_rfl) (cc (by kernel_rfl) (cc (by kernel_rfl) (cc (by kernel_rfl) (cc (by kernel_rfl) (cc (by kernel_rfl) (cc (by kernel_rfl) (cc (by kernel_rfl) (cc (by kernel_rfl) (cc (by kernel_rfl) (cc (by kernel_rfl) (cc (by kernel_rfl) (cc (by kernel_rfl) (cc (by kernel_rfl) (cc (by kernel_rfl) (cc (by kernel_rfl) (cc (by kernel_rfl) (cc (by kernel_rfl) (cc (by kernel_rfl) (cc (by kernel_rfl) (cc (by kernel_rfl) (cc (by kernel_rfl) (cc (by kernel_rfl) (cc (by kernel_rfl) (cc (by kernel_rfl) (cc (by kernel_rfl) (cc (by kernel_rfl) (cc (by kernel_rfl) (cc (by kernel_rfl) (cc (by kernel_rfl) (cc (by kernel_rfl) (cc (by kernel_rfl) (cc (by kernel_rfl) (cc (by kernel_rfl) (cc (by kernel_rfl) (cc (by kernel_rfl) (cc (by kernel_rfl) (cc (by kernel_rfl) (cc (by kernel_rfl) (cc (by kernel_rfl) (cc (by kernel_rfl) (cc (by kernel_rfl) (cc (by kernel_rfl) (cc (by kernel_rfl) (cc (by kernel_rfl) (cc (by kernel_rfl) (cc (by kernel_rfl) (cc (by kernel_rfl) (cc (by kernel_rfl) (cc (by kernel_rfl) (cc (by kernel_rfl) (cc (by kernel_rfl) (cc (by kernel_rfl) (cc (by kernel_rfl) (cc (by kernel_rfl) (cc (by kernel_rfl) (cc (by kernel_rfl) (cc (by kernel_rfl) (cc (by kernel_rfl) (cc (by kernel_rfl) (cc (by kernel_rfl) (cc (by kernel_rfl) (cc (by kernel_rfl) (cc (by kernel_rfl) (cc (by kernel_rfl) (cc (by kernel_rfl) (cc (by kernel_rfl) (cc (by kernel_rfl) (cc (by kernel_rfl) (cc (by kernel_rfl) (cc (by kernel_rfl) (cc (by kernel_rfl) (cc (by kernel_rfl) (cc (by kernel_rfl) (cc (by kernel_rfl) (cc (by kernel_rfl) (cc (by kernel_rfl) (cc (by kernel_rfl) (cc (by kernel_rfl) (cc (by kernel_rfl) (cc (by kernel_rfl) (cc (by kernel_rfl) (cc (by kernel_rfl) (cc (by kernel_rfl) (cc (by kernel_rfl) (cc (by kernel_rfl) (cc (by kernel_rfl) (cc (by kernel_rfl) (cc (by kernel_rfl) (cc (by kernel_rfl) (cc (by kernel_rfl) (cc (by kernel_rfl) (cc (by kernel_rfl) (cc (by kernel_rfl) (cc (by kernel_rfl) (cc (by kernel_rfl) (cc (by kernel_rfl) (cc (by kernel_rfl) (cc (by kernel_rfl) (cc (by kernel_rfl) (cc (by kernel_rfl) (cc (by kernel_rfl) (cc (by kernel_rfl) (cc (by kernel_rfl) (cc (by kernel_rfl) (cc (by kernel_rfl) rfl))))))))))))))))))))))))))))))))))))))))))))))))))))))))))))))))))))))))))))))))))))))))))))))))))))))))))))))))))))))))))))))))))
theorem et : t0 = t1 := (cc PySem.W.SL.e11030030927630378310x26 (cc PySem.W.SL.e4860613602091757760x24 (cc PySem.W.SL.e17162191345867700912x4 (cc PySem.W.SL.e2742458400755230247x6 (cc PySem.W.SL.e11443829558043349243x14 (cc PySem.W.SL.e7174869446012820540x8 (cc PySem.W.SL.e2766695959194262286x5 (cc PySem.W.SL.e5856160107412720595x4 (cc PySem.W.SL.e14018661285674007319x4 (cc PySem.W.SL.e7097527257260152453x26 (cc PySem.W.SL.e10062305145149207511x16 (cc PySem.W.SL.e4290257624100764138x5 (cc PySem.W.SL.e658472552662922059x5 (cc PySem.W.SL.e14755015743595814543x17 (cc PySem.W.SL.e10220274742760427390x26 (cc PySem.W.SL.e6070975301684473832x10 (cc PySem.W.SL.e5946037652744460706x9 (cc PySem.W.SL.e4278001404047624695x13 (cc PySem.W.SL.e4209523147560561109x18 (cc PySem.W.SL.e6511155373996960695x17 (cc PySem.W.SL.e12411053484034534018x21 rfl)))))))))))))))))))))
noncomputable def A0 : AT := ⟨PySem.Challenge.pw_bellsaway_k09_whole_fits_turned, a0, t0⟩
noncomputable def B0 : AT := ⟨PySem.W.Fast.tw5316266929780419140, a1, t1⟩
theorem ab : A0 = B0 := by
  unfold A0 B0
  rw [ea, et, PySem.W.Fast.te5316266929780419140]
end Hd
noncomputable def PySem.W.Fast.tw17502295444317281440 : PySem.Params → PySem.W.BT := Hd.tree_85 Hd.B0
theorem PySem.W.Fast.te17502295444317281440 : Hd.tree_85 Hd.A0 = PySem.W.Fast.tw17502295444317281440 := congrArg Hd.tree_85 Hd.ab
noncomputable def PySem.W.Fast.tw1201964114795591553 : PySem.Params → PySem.Heap := Hd.heap_46 Hd.B0
theorem PySem.W.Fast.te1201964114795591553 : Hd.heap_46 Hd.A0 = PySem.W.Fast.tw1201964114795591553 := congrArg Hd.heap_46 Hd.ab
noncomputable def PySem.W.Fast.tw8471044646289658242 : PySem.Params → PySem.W.BT := Hd.tree_552 Hd.B0
theorem PySem.W.Fast.te8471044646289658242 : Hd.tree_552 Hd.A0 = PySem.W.Fast.tw8471044646289658242 := congrArg Hd.tree_552 Hd.ab
noncomputable def PySem.W.Fast.tw391774595879278758 : PySem.Params → PySem.W.BT := Hd.tree_328 Hd.B0
theorem PySem.W.Fast.te391774595879278758 : Hd.tree_328 Hd.A0 = PySem.W.Fast.tw391774595879278758 := congrArg Hd.tree_328 Hd.ab
noncomputable def PySem.W.Fast.tw2059425440088767686 : PySem.Params → PySem.W.BT := Hd.tree_163 Hd.B0
theorem PySem.W.Fast.te2059425440088767686 : Hd.tree_163 Hd.A0 = PySem.W.Fast.tw2059425440088767686 := congrArg Hd.tree_163 Hd.ab
noncomputable def PySem.W.Fast.tw11859578487328416073 : PySem.Params → PySem.W.BT := Hd.tree_242 Hd.B0
theorem PySem.W.Fast.te11859578487328416073 : Hd.tree_242 Hd.A0 = PySem.W.Fast.tw11859578487328416073 := congrArg Hd.tree_242 Hd.ab
noncomputable def PySem.W.Fast.tw17375867556415872618 : PySem.Params → PySem.W.BT := Hd.tree_285 Hd.B0
theorem PySem.W.Fast.te17375867556415872618 : Hd.tree_285 Hd.A0 = PySem.W.Fast.tw17375867556415872618 := congrArg Hd.tree_285 Hd.ab
noncomputable def PySem.W.Fast.tw961456879678507946 : PySem.Params → PySem.Heap := Hd.heap_553 Hd.B0
theorem PySem.W.Fast.te961456879678507946 : Hd.heap_553 Hd.A0 = PySem.W.Fast.tw961456879678507946 := congrArg Hd.heap_553 Hd.ab
noncomputable def PySem.W.Fast.tw9001609800716716529 : PySem.Params → PySem.W.BT := Hd.tree_371 Hd.B0
theorem PySem.W.Fast.te9001609800716716529 : Hd.tree_371 Hd.A0 = PySem.W.Fast.tw9001609800716716529 := congrArg Hd.tree_371 Hd.ab
noncomputable def PySem.W.Fast.tw16895744213422295699 : PySem.Params → PySem.W.BT := Hd.tree_47 Hd.B0
theorem PySem.W.Fast.te16895744213422295699 : Hd.tree_47 Hd.A0 = PySem.W.Fast.tw16895744213422295699 := congrArg Hd.tree_47 Hd.ab
noncomputable def PySem.W.Fast.tw2750195421432336085 : PySem.Params → PySem.W.BT := Hd.tree_70 Hd.B0
theorem PySem.W.Fast.te2750195421432336085 : Hd.tree_70 Hd.A0 = PySem.W.Fast.tw2750195421432336085 := congrArg Hd.tree_70 Hd.ab
noncomputable def PySem.W.Fast.tw5491940800305616951 : PySem.Params → PySem.W.BT := Hd.tree_412 Hd.B0
theorem PySem.W.Fast.te5491940800305616951 : Hd.tree_412 Hd.A0 = PySem.W.Fast.tw5491940800305616951 := congrArg Hd.tree_412 Hd.ab
noncomputable def PySem.W.Fast.tw656612058062284858 : PySem.Params → PySem.W.BT := Hd.tree_147 Hd.B0
theorem PySem.W.Fast.te656612058062284858 : Hd.tree_147 Hd.A0 = PySem.W.Fast.tw656612058062284858 := congrArg Hd.tree_147 Hd.ab
noncomputable def PySem.W.Fast.tw16883840778053365883 : PySem.Params → PySem.W.BT := Hd.tree_467 Hd.B0
theorem PySem.W.Fast.te16883840778053365883 : Hd.tree_467 Hd.A0 = PySem.W.Fast.tw16883840778053365883 := congrArg Hd.tree_467 Hd.ab
noncomputable def PySem.W.Fast.tw7871559285677200511 : PySem.Params → PySem.W.BT := Hd.tree_119 Hd.B0
theorem PySem.W.Fast.te7871559285677200511 : Hd.tree_119 Hd.A0 = PySem.W.Fast.tw7871559285677200511 := congrArg Hd.tree_119 Hd.ab
noncomputable def PySem.W.Fast.tw623716965900988607 : PySem.Params → PySem.W.BT := Hd.tree_199 Hd.B0
theorem PySem.W.Fast.te623716965900988607 : Hd.tree_199 Hd.A0 = PySem.W.Fast.tw623716965900988607 := congrArg Hd.tree_199 Hd.ab
set_option Elab.async false
set_option linter.all false
set_option maxRecDepth 100000
set_option maxHeartbeats 8000000
namespace Bw
open PySem L2
theorem all_mk {l : PySem.W.OpenLaw} {w : World} {K : PySem.W.Frag} {h : Heap} {mg : Str → Option Value} {fa f0 f1 f2 f3 f4 f5 f6 f7 f8 f9 f10 f11 f12 f13 f14 f15 f16 f17 f18 f19 f20 f21 f22 f23 f24 f25 f26 f27 f28 f29 f30 f31 f32 cHappening cFit cAny cKind cPlace cLeast cNot cBoth cEither : Addr} {t0 t1 : Tok} (X : K.In h) (G : h.Ns mainGlobals mg) (hfa : mg "law" = some (.ref fa))
    {od0 an0 : Option Addr} {sl0 : Array (Option Value)} {oc0 kV0 dc0 pm0 cd0 ct0 : Value}
    (a0 : PySem.W.nsIn K mainGlobals "is_whole" = some (some (.ref f0)))
    (l0 : K.lookup f0 = some ⟨oc0, od0, .func (PySem.W.fnOf "is_whole" "is_whole" (defArgs s_is_whole) (defBody s_is_whole) (defScope s_is_whole) .none kV0 dc0 pm0 an0 cd0 ct0), sl0⟩)
    (c0 : PySem.W.codeIn K cd0 "is_whole" = true)
    (k0 : PySem.W.keepIn K (.ref f0) = true)
    {od1 an1 : Option Addr} {sl1 : Array (Option Value)} {oc1 kV1 dc1 pm1 cd1 ct1 : Value}
    (a1 : PySem.W.nsIn K mainGlobals "is_whole_from" = some (some (.ref f1)))
    (l1 : K.lookup f1 = some ⟨oc1, od1, .func (PySem.W.fnOf "is_whole_from" "is_whole_from" (defArgs s_is_whole_from) (defBody s_is_whole_from) (defScope s_is_whole_from) .none kV1 dc1 pm1 an1 cd1 ct1), sl1⟩)
    (c1 : PySem.W.codeIn K cd1 "is_whole_from" = true)
    (k1 : PySem.W.keepIn K (.ref f1) = true)
    {od2 an2 : Option Addr} {sl2 : Array (Option Value)} {oc2 kV2 dc2 pm2 cd2 ct2 : Value}
    (a2 : PySem.W.nsIn K mainGlobals "is_name" = some (some (.ref f2)))
    (l2 : K.lookup f2 = some ⟨oc2, od2, .func (PySem.W.fnOf "is_name" "is_name" (defArgs s_is_name) (defBody s_is_name) (defScope s_is_name) .none kV2 dc2 pm2 an2 cd2 ct2), sl2⟩)
    (c2 : PySem.W.codeIn K cd2 "is_name" = true)
    (k2 : PySem.W.keepIn K (.ref f2) = true)
    {od3 an3 : Option Addr} {sl3 : Array (Option Value)} {oc3 kV3 dc3 pm3 cd3 ct3 : Value}
    (a3 : PySem.W.findIn K (.ref cHappening) "__init__" = some (some (.ref f3)))
    (i3 : PySem.W.isFn K (.ref f3) = true)
    (l3 : K.lookup f3 = some ⟨oc3, od3, .func (PySem.W.fnOf "__init__" "Happening.__init__" (defArgs s_Happening___init__) (defBody s_Happening___init__) (defScope s_Happening___init__) .none kV3 dc3 pm3 an3 cd3 ct3), sl3⟩)
    (c3 : PySem.W.codeIn K cd3 "Happening.__init__" = true)
    (k3 : PySem.W.keepIn K (.ref f3) = true)
    {od4 an4 : Option Addr} {sl4 : Array (Option Value)} {oc4 kV4 dc4 pm4 cd4 ct4 : Value}
    (a4 : PySem.W.nsIn K mainGlobals "are_unlike_names" = some (some (.ref f4)))
    (l4 : K.lookup f4 = some ⟨oc4, od4, .func (PySem.W.fnOf "are_unlike_names" "are_unlike_names" (defArgs s_are_unlike_names) (defBody s_are_unlike_names) (defScope s_are_unlike_names) .none kV4 dc4 pm4 an4 cd4 ct4), sl4⟩)
    (c4 : PySem.W.codeIn K cd4 "are_unlike_names" = true)
    (k4 : PySem.W.keepIn K (.ref f4) = true)
    {od5 an5 : Option Addr} {sl5 : Array (Option Value)} {oc5 kV5 dc5 pm5 cd5 ct5 : Value}
    (a5 : PySem.W.findIn K (.ref cAny) "fits_it" = some (some (.ref f5)))
    (i5 : PySem.W.isFn K (.ref f5) = true)
    (l5 : K.lookup f5 = some ⟨oc5, od5, .func (PySem.W.fnOf "fits_it" "Any.fits_it" (defArgs s_Any_fits_it) (defBody s_Any_fits_it) (defScope s_Any_fits_it) .none kV5 dc5 pm5 an5 cd5 ct5), sl5⟩)
    (c5 : PySem.W.codeIn K cd5 "Any.fits_it" = true)
    (k5 : PySem.W.keepIn K (.ref f5) = true)
    {od6 an6 : Option Addr} {sl6 : Array (Option Value)} {oc6 kV6 dc6 pm6 cd6 ct6 : Value}
    (a6 : PySem.W.findIn K (.ref cKind) "__init__" = some (some (.ref f6)))
    (i6 : PySem.W.isFn K (.ref f6) = true)
    (l6 : K.lookup f6 = some ⟨oc6, od6, .func (PySem.W.fnOf "__init__" "Kind.__init__" (defArgs s_Kind___init__) (defBody s_Kind___init__) (defScope s_Kind___init__) .none kV6 dc6 pm6 an6 cd6 ct6), sl6⟩)
    (c6 : PySem.W.codeIn K cd6 "Kind.__init__" = true)
    (k6 : PySem.W.keepIn K (.ref f6) = true)
    {od7 an7 : Option Addr} {sl7 : Array (Option Value)} {oc7 kV7 dc7 pm7 cd7 ct7 : Value}
    (a7 : PySem.W.findIn K (.ref cKind) "fits_it" = some (some (.ref f7)))
    (i7 : PySem.W.isFn K (.ref f7) = true)
    (l7 : K.lookup f7 = some ⟨oc7, od7, .func (PySem.W.fnOf "fits_it" "Kind.fits_it" (defArgs s_Kind_fits_it) (defBody s_Kind_fits_it) (defScope s_Kind_fits_it) .none kV7 dc7 pm7 an7 cd7 ct7), sl7⟩)
    (c7 : PySem.W.codeIn K cd7 "Kind.fits_it" = true)
    (k7 : PySem.W.keepIn K (.ref f7) = true)
    {od8 an8 : Option Addr} {sl8 : Array (Option Value)} {oc8 kV8 dc8 pm8 cd8 ct8 : Value}
    (a8 : PySem.W.findIn K (.ref cPlace) "__init__" = some (some (.ref f8)))
    (i8 : PySem.W.isFn K (.ref f8) = true)
    (l8 : K.lookup f8 = some ⟨oc8, od8, .func (PySem.W.fnOf "__init__" "Place.__init__" (defArgs s_Place___init__) (defBody s_Place___init__) (defScope s_Place___init__) .none kV8 dc8 pm8 an8 cd8 ct8), sl8⟩)
    (c8 : PySem.W.codeIn K cd8 "Place.__init__" = true)
    (k8 : PySem.W.keepIn K (.ref f8) = true)
    {od9 an9 : Option Addr} {sl9 : Array (Option Value)} {oc9 kV9 dc9 pm9 cd9 ct9 : Value}
    (a9 : PySem.W.findIn K (.ref cPlace) "fits_it" = some (some (.ref f9)))
    (i9 : PySem.W.isFn K (.ref f9) = true)
    (l9 : K.lookup f9 = some ⟨oc9, od9, .func (PySem.W.fnOf "fits_it" "Place.fits_it" (defArgs s_Place_fits_it) (defBody s_Place_fits_it) (defScope s_Place_fits_it) .none kV9 dc9 pm9 an9 cd9 ct9), sl9⟩)
    (c9 : PySem.W.codeIn K cd9 "Place.fits_it" = true)
    (k9 : PySem.W.keepIn K (.ref f9) = true)
    {od10 an10 : Option Addr} {sl10 : Array (Option Value)} {oc10 kV10 dc10 pm10 cd10 ct10 : Value}
    (a10 : PySem.W.findIn K (.ref cLeast) "__init__" = some (some (.ref f10)))
    (i10 : PySem.W.isFn K (.ref f10) = true)
    (l10 : K.lookup f10 = some ⟨oc10, od10, .func (PySem.W.fnOf "__init__" "Least.__init__" (defArgs s_Least___init__) (defBody s_Least___init__) (defScope s_Least___init__) .none kV10 dc10 pm10 an10 cd10 ct10), sl10⟩)
    (c10 : PySem.W.codeIn K cd10 "Least.__init__" = true)
    (k10 : PySem.W.keepIn K (.ref f10) = true)
    {od11 an11 : Option Addr} {sl11 : Array (Option Value)} {oc11 kV11 dc11 pm11 cd11 ct11 : Value}
    (a11 : PySem.W.findIn K (.ref cLeast) "fits_it" = some (some (.ref f11)))
    (i11 : PySem.W.isFn K (.ref f11) = true)
    (l11 : K.lookup f11 = some ⟨oc11, od11, .func (PySem.W.fnOf "fits_it" "Least.fits_it" (defArgs s_Least_fits_it) (defBody s_Least_fits_it) (defScope s_Least_fits_it) .none kV11 dc11 pm11 an11 cd11 ct11), sl11⟩)
    (c11 : PySem.W.codeIn K cd11 "Least.fits_it" = true)
    (k11 : PySem.W.keepIn K (.ref f11) = true)
    {od12 an12 : Option Addr} {sl12 : Array (Option Value)} {oc12 kV12 dc12 pm12 cd12 ct12 : Value}
    (a12 : PySem.W.findIn K (.ref cNot) "__init__" = some (some (.ref f12)))
    (i12 : PySem.W.isFn K (.ref f12) = true)
    (l12 : K.lookup f12 = some ⟨oc12, od12, .func (PySem.W.fnOf "__init__" "Not.__init__" (defArgs s_Not___init__) (defBody s_Not___init__) (defScope s_Not___init__) .none kV12 dc12 pm12 an12 cd12 ct12), sl12⟩)
    (c12 : PySem.W.codeIn K cd12 "Not.__init__" = true)
    (k12 : PySem.W.keepIn K (.ref f12) = true)
    {od13 an13 : Option Addr} {sl13 : Array (Option Value)} {oc13 kV13 dc13 pm13 cd13 ct13 : Value}
    (a13 : PySem.W.findIn K (.ref cNot) "fits_it" = some (some (.ref f13)))
    (i13 : PySem.W.isFn K (.ref f13) = true)
    (l13 : K.lookup f13 = some ⟨oc13, od13, .func (PySem.W.fnOf "fits_it" "Not.fits_it" (defArgs s_Not_fits_it) (defBody s_Not_fits_it) (defScope s_Not_fits_it) .none kV13 dc13 pm13 an13 cd13 ct13), sl13⟩)
    (c13 : PySem.W.codeIn K cd13 "Not.fits_it" = true)
    (k13 : PySem.W.keepIn K (.ref f13) = true)
    {od14 an14 : Option Addr} {sl14 : Array (Option Value)} {oc14 kV14 dc14 pm14 cd14 ct14 : Value}
    (a14 : PySem.W.findIn K (.ref cBoth) "__init__" = some (some (.ref f14)))
    (i14 : PySem.W.isFn K (.ref f14) = true)
    (l14 : K.lookup f14 = some ⟨oc14, od14, .func (PySem.W.fnOf "__init__" "Both.__init__" (defArgs s_Both___init__) (defBody s_Both___init__) (defScope s_Both___init__) .none kV14 dc14 pm14 an14 cd14 ct14), sl14⟩)
    (c14 : PySem.W.codeIn K cd14 "Both.__init__" = true)
    (k14 : PySem.W.keepIn K (.ref f14) = true)
    {od15 an15 : Option Addr} {sl15 : Array (Option Value)} {oc15 kV15 dc15 pm15 cd15 ct15 : Value}
    (a15 : PySem.W.findIn K (.ref cBoth) "fits_it" = some (some (.ref f15)))
    (i15 : PySem.W.isFn K (.ref f15) = true)
    (l15 : K.lookup f15 = some ⟨oc15, od15, .func (PySem.W.fnOf "fits_it" "Both.fits_it" (defArgs s_Both_fits_it) (defBody s_Both_fits_it) (defScope s_Both_fits_it) .none kV15 dc15 pm15 an15 cd15 ct15), sl15⟩)
    (c15 : PySem.W.codeIn K cd15 "Both.fits_it" = true)
    (k15 : PySem.W.keepIn K (.ref f15) = true)
    {od16 an16 : Option Addr} {sl16 : Array (Option Value)} {oc16 kV16 dc16 pm16 cd16 ct16 : Value}
    (a16 : PySem.W.findIn K (.ref cEither) "__init__" = some (some (.ref f16)))
    (i16 : PySem.W.isFn K (.ref f16) = true)
    (l16 : K.lookup f16 = some ⟨oc16, od16, .func (PySem.W.fnOf "__init__" "Either.__init__" (defArgs s_Either___init__) (defBody s_Either___init__) (defScope s_Either___init__) .none kV16 dc16 pm16 an16 cd16 ct16), sl16⟩)
    (c16 : PySem.W.codeIn K cd16 "Either.__init__" = true)
    (k16 : PySem.W.keepIn K (.ref f16) = true)
    {od17 an17 : Option Addr} {sl17 : Array (Option Value)} {oc17 kV17 dc17 pm17 cd17 ct17 : Value}
    (a17 : PySem.W.findIn K (.ref cEither) "fits_it" = some (some (.ref f17)))
    (i17 : PySem.W.isFn K (.ref f17) = true)
    (l17 : K.lookup f17 = some ⟨oc17, od17, .func (PySem.W.fnOf "fits_it" "Either.fits_it" (defArgs s_Either_fits_it) (defBody s_Either_fits_it) (defScope s_Either_fits_it) .none kV17 dc17 pm17 an17 cd17 ct17), sl17⟩)
    (c17 : PySem.W.codeIn K cd17 "Either.fits_it" = true)
    (k17 : PySem.W.keepIn K (.ref f17) = true)
    {od18 an18 : Option Addr} {sl18 : Array (Option Value)} {oc18 kV18 dc18 pm18 cd18 ct18 : Value}
    (a18 : PySem.W.nsIn K mainGlobals "check_names" = some (some (.ref f18)))
    (l18 : K.lookup f18 = some ⟨oc18, od18, .func (PySem.W.fnOf "check_names" "check_names" (defArgs s_check_names) (defBody s_check_names) (defScope s_check_names) .none kV18 dc18 pm18 an18 cd18 ct18), sl18⟩)
    (c18 : PySem.W.codeIn K cd18 "check_names" = true)
    (k18 : PySem.W.keepIn K (.ref f18) = true)
    {od19 an19 : Option Addr} {sl19 : Array (Option Value)} {oc19 kV19 dc19 pm19 cd19 ct19 : Value}
    (a19 : PySem.W.nsIn K mainGlobals "check_fit" = some (some (.ref f19)))
    (l19 : K.lookup f19 = some ⟨oc19, od19, .func (PySem.W.fnOf "check_fit" "check_fit" (defArgs s_check_fit) (defBody s_check_fit) (defScope s_check_fit) .none kV19 dc19 pm19 an19 cd19 ct19), sl19⟩)
    (c19 : PySem.W.codeIn K cd19 "check_fit" = true)
    (k19 : PySem.W.keepIn K (.ref f19) = true)
    {od20 an20 : Option Addr} {sl20 : Array (Option Value)} {oc20 kV20 dc20 pm20 cd20 ct20 : Value}
    (a20 : PySem.W.nsIn K mainGlobals "check_fits" = some (some (.ref f20)))
    (l20 : K.lookup f20 = some ⟨oc20, od20, .func (PySem.W.fnOf "check_fits" "check_fits" (defArgs s_check_fits) (defBody s_check_fits) (defScope s_check_fits) .none kV20 dc20 pm20 an20 cd20 ct20), sl20⟩)
    (c20 : PySem.W.codeIn K cd20 "check_fits" = true)
    (k20 : PySem.W.keepIn K (.ref f20) = true)
    {od21 an21 : Option Addr} {sl21 : Array (Option Value)} {oc21 kV21 dc21 pm21 cd21 ct21 : Value}
    (a21 : PySem.W.nsIn K mainGlobals "_law_cell_at" = some (some (.ref f21)))
    (l21 : K.lookup f21 = some ⟨oc21, od21, .func (PySem.W.fnOf "_law_cell_at" "_law_cell_at" (defArgs s_law_cell_at) (defBody s_law_cell_at) (defScope s_law_cell_at) .none kV21 dc21 pm21 an21 cd21 ct21), sl21⟩)
    (c21 : PySem.W.codeIn K cd21 "_law_cell_at" = true)
    (k21 : PySem.W.keepIn K (.ref f21) = true)
    {od22 an22 : Option Addr} {sl22 : Array (Option Value)} {oc22 kV22 dc22 pm22 cd22 ct22 : Value}
    (a22 : PySem.W.nsIn K mainGlobals "_law_begin" = some (some (.ref f22)))
    (l22 : K.lookup f22 = some ⟨oc22, od22, .func (PySem.W.fnOf "_law_begin" "_law_begin" (defArgs s_law_begin) (defBody s_law_begin) (defScope s_law_begin) .none kV22 dc22 pm22 an22 cd22 ct22), sl22⟩)
    (c22 : PySem.W.codeIn K cd22 "_law_begin" = true)
    (k22 : PySem.W.keepIn K (.ref f22) = true)
    {od23 an23 : Option Addr} {sl23 : Array (Option Value)} {oc23 kV23 dc23 pm23 cd23 ct23 : Value}
    (a23 : PySem.W.nsIn K mainGlobals "_law_next" = some (some (.ref f23)))
    (l23 : K.lookup f23 = some ⟨oc23, od23, .func (PySem.W.fnOf "_law_next" "_law_next" (defArgs s_law_next) (defBody s_law_next) (defScope s_law_next) .none kV23 dc23 pm23 an23 cd23 ct23), sl23⟩)
    (c23 : PySem.W.codeIn K cd23 "_law_next" = true)
    (k23 : PySem.W.keepIn K (.ref f23) = true)
    {od24 an24 : Option Addr} {sl24 : Array (Option Value)} {oc24 kV24 dc24 pm24 cd24 ct24 : Value}
    (a24 : PySem.W.nsIn K mainGlobals "_law_name" = some (some (.ref f24)))
    (l24 : K.lookup f24 = some ⟨oc24, od24, .func (PySem.W.fnOf "_law_name" "_law_name" (defArgs s_law_name) (defBody s_law_name) (defScope s_law_name) .none kV24 dc24 pm24 an24 cd24 ct24), sl24⟩)
    (c24 : PySem.W.codeIn K cd24 "_law_name" = true)
    (k24 : PySem.W.keepIn K (.ref f24) = true)
    {od25 an25 : Option Addr} {sl25 : Array (Option Value)} {oc25 kV25 dc25 pm25 cd25 ct25 : Value}
    (a25 : PySem.W.nsIn K mainGlobals "_law_leaf" = some (some (.ref f25)))
    (l25 : K.lookup f25 = some ⟨oc25, od25, .func (PySem.W.fnOf "_law_leaf" "_law_leaf" (defArgs s_law_leaf) (defBody s_law_leaf) (defScope s_law_leaf) .none kV25 dc25 pm25 an25 cd25 ct25), sl25⟩)
    (c25 : PySem.W.codeIn K cd25 "_law_leaf" = true)
    (k25 : PySem.W.keepIn K (.ref f25) = true)
    {od26 an26 : Option Addr} {sl26 : Array (Option Value)} {oc26 kV26 dc26 pm26 cd26 ct26 : Value}
    (a26 : PySem.W.nsIn K mainGlobals "_law_tree" = some (some (.ref f26)))
    (l26 : K.lookup f26 = some ⟨oc26, od26, .func (PySem.W.fnOf "_law_tree" "_law_tree" (defArgs s_law_tree) (defBody s_law_tree) (defScope s_law_tree) .none kV26 dc26 pm26 an26 cd26 ct26), sl26⟩)
    (c26 : PySem.W.codeIn K cd26 "_law_tree" = true)
    (k26 : PySem.W.keepIn K (.ref f26) = true)
    {od27 an27 : Option Addr} {sl27 : Array (Option Value)} {oc27 kV27 dc27 pm27 cd27 ct27 : Value}
    (a27 : PySem.W.nsIn K mainGlobals "_law_made" = some (some (.ref f27)))
    (l27 : K.lookup f27 = some ⟨oc27, od27, .func (PySem.W.fnOf "_law_made" "_law_made" (defArgs s_law_made) (defBody s_law_made) (defScope s_law_made) .none kV27 dc27 pm27 an27 cd27 ct27), sl27⟩)
    (c27 : PySem.W.codeIn K cd27 "_law_made" = true)
    (k27 : PySem.W.keepIn K (.ref f27) = true)
    {od28 an28 : Option Addr} {sl28 : Array (Option Value)} {oc28 kV28 dc28 pm28 cd28 ct28 : Value}
    (a28 : PySem.W.nsIn K mainGlobals "_law_gathered" = some (some (.ref f28)))
    (l28 : K.lookup f28 = some ⟨oc28, od28, .func (PySem.W.fnOf "_law_gathered" "_law_gathered" (defArgs s_law_gathered) (defBody s_law_gathered) (defScope s_law_gathered) .none kV28 dc28 pm28 an28 cd28 ct28), sl28⟩)
    (c28 : PySem.W.codeIn K cd28 "_law_gathered" = true)
    (k28 : PySem.W.keepIn K (.ref f28) = true)
    {od29 an29 : Option Addr} {sl29 : Array (Option Value)} {oc29 kV29 dc29 pm29 cd29 ct29 : Value}
    (a29 : PySem.W.nsIn K mainGlobals "_law_pick" = some (some (.ref f29)))
    (l29 : K.lookup f29 = some ⟨oc29, od29, .func (PySem.W.fnOf "_law_pick" "_law_pick" (defArgs s_law_pick) (defBody s_law_pick) (defScope s_law_pick) .none kV29 dc29 pm29 an29 cd29 ct29), sl29⟩)
    (c29 : PySem.W.codeIn K cd29 "_law_pick" = true)
    (k29 : PySem.W.keepIn K (.ref f29) = true)
    {od30 an30 : Option Addr} {sl30 : Array (Option Value)} {oc30 kV30 dc30 pm30 cd30 ct30 : Value}
    (a30 : PySem.W.nsIn K mainGlobals "_law_things" = some (some (.ref f30)))
    (l30 : K.lookup f30 = some ⟨oc30, od30, .func (PySem.W.fnOf "_law_things" "_law_things" (defArgs s_law_things) (defBody s_law_things) (defScope s_law_things) .none kV30 dc30 pm30 an30 cd30 ct30), sl30⟩)
    (c30 : PySem.W.codeIn K cd30 "_law_things" = true)
    (k30 : PySem.W.keepIn K (.ref f30) = true)
    {od31 an31 : Option Addr} {sl31 : Array (Option Value)} {oc31 kV31 dc31 pm31 cd31 ct31 : Value}
    (a31 : PySem.W.nsIn K mainGlobals "_law_pairs" = some (some (.ref f31)))
    (l31 : K.lookup f31 = some ⟨oc31, od31, .func (PySem.W.fnOf "_law_pairs" "_law_pairs" (defArgs s_law_pairs) (defBody s_law_pairs) (defScope s_law_pairs) .none kV31 dc31 pm31 an31 cd31 ct31), sl31⟩)
    (c31 : PySem.W.codeIn K cd31 "_law_pairs" = true)
    (k31 : PySem.W.keepIn K (.ref f31) = true)
    {od32 an32 : Option Addr} {sl32 : Array (Option Value)} {oc32 kV32 dc32 pm32 cd32 ct32 : Value}
    (a32 : PySem.W.nsIn K mainGlobals "law" = some (some (.ref f32)))
    (l32 : K.lookup f32 = some ⟨oc32, od32, .func (PySem.W.fnOf "law" "law" (defArgs s_law) (defBody s_law) (defScope s_law) .none kV32 dc32 pm32 an32 cd32 ct32), sl32⟩)
    (c32 : PySem.W.codeIn K cd32 "law" = true)
    (k32 : PySem.W.keepIn K (.ref f32) = true)
    (y0 : PySem.W.nsIn K mainGlobals "len" = some none)
    (y1 : PySem.W.nsIn K mainGlobals "int" = some none)
    (y2 : PySem.W.nsIn K mainGlobals "bool" = some none)
    (y3 : PySem.W.nsIn K mainGlobals "str" = some none)
    (y4 : PySem.W.nsIn K mainGlobals "tuple" = some none)
    (y5 : PySem.W.nsIn K mainGlobals "list" = some none)
    (y6 : PySem.W.nsIn K mainGlobals "all" = some none)
    (y7 : PySem.W.nsIn K mainGlobals "any" = some none)
    (y8 : PySem.W.nsIn K mainGlobals "isinstance" = some none)
    (y9 : PySem.W.nsIn K mainGlobals "range" = some none)
    (y10 : PySem.W.nsIn K mainGlobals "set" = some none)
    (y11 : PySem.W.nsIn K mainGlobals "max" = some none)
    (y12 : PySem.W.nsIn K mainGlobals "min" = some none)
    (y13 : PySem.W.nsIn K mainGlobals "LETTERS" = some (some (.str "abcdefghijklmnopqrstuvwxyz" t0)))
    (y14 : PySem.W.nsIn K mainGlobals "MOST_LETTERS" = some (some (.int 8 t1)))
    (y15 : PySem.W.nsIn K mainGlobals "Happening" = some (some (.ref cHappening)))
    (y16 : PySem.W.nsIn K mainGlobals "Fit" = some (some (.ref cFit)))
    (y17 : PySem.W.nsIn K mainGlobals "Any" = some (some (.ref cAny)))
    (y18 : PySem.W.nsIn K mainGlobals "Kind" = some (some (.ref cKind)))
    (y19 : PySem.W.nsIn K mainGlobals "Place" = some (some (.ref cPlace)))
    (y20 : PySem.W.nsIn K mainGlobals "Least" = some (some (.ref cLeast)))
    (y21 : PySem.W.nsIn K mainGlobals "Not" = some (some (.ref cNot)))
    (y22 : PySem.W.nsIn K mainGlobals "Both" = some (some (.ref cBoth)))
    (y23 : PySem.W.nsIn K mainGlobals "Either" = some (some (.ref cEither)))
    (y24_0 : PySem.W.plainGet K cAny Str.empty = true)
    (y24_1 : PySem.W.hasDictIn K cAny = true)
    (y24_2 : PySem.W.plainOver K cAny = true)
    (y24_3 : PySem.W.findIn K (.ref cAny) "__setattr__" = some (some (.builtin "object.__setattr__")))
    (y24_4 : PySem.W.findIn K (.ref cAny) "__class__" = some (some (.builtin "object.__class__")))
    (y24_5 : PySem.W.specialIn K (.builtin "object.__class__") "__get__" = some (some (.builtin "getset_descriptor.__get__")))
    (y24_6 : PySem.W.takesIn K (.builtin "object.__class__") = some true)
    (y24_7 : PySem.W.mroIn K cAny (.type "object") = some true)
    (y25_0 : PySem.W.plainGet K cKind Str.empty = true)
    (y25_1 : PySem.W.hasDictIn K cKind = true)
    (y25_2 : PySem.W.plainOver K cKind = true)
    (y25_3 : PySem.W.findIn K (.ref cKind) "__setattr__" = some (some (.builtin "object.__setattr__")))
    (y25_4 : PySem.W.findIn K (.ref cKind) "__class__" = some (some (.builtin "object.__class__")))
    (y25_5 : PySem.W.specialIn K (.builtin "object.__class__") "__get__" = some (some (.builtin "getset_descriptor.__get__")))
    (y25_6 : PySem.W.takesIn K (.builtin "object.__class__") = some true)
    (y25_7 : PySem.W.mroIn K cKind (.type "object") = some true)
    (y26 : PySem.W.findIn K (.ref cKind) "names" = some none)
    (y27_0 : PySem.W.plainGet K cPlace Str.empty = true)
    (y27_1 : PySem.W.hasDictIn K cPlace = true)
    (y27_2 : PySem.W.plainOver K cPlace = true)
    (y27_3 : PySem.W.findIn K (.ref cPlace) "__setattr__" = some (some (.builtin "object.__setattr__")))
    (y27_4 : PySem.W.findIn K (.ref cPlace) "__class__" = some (some (.builtin "object.__class__")))
    (y27_5 : PySem.W.specialIn K (.builtin "object.__class__") "__get__" = some (some (.builtin "getset_descriptor.__get__")))
    (y27_6 : PySem.W.takesIn K (.builtin "object.__class__") = some true)
    (y27_7 : PySem.W.mroIn K cPlace (.type "object") = some true)
    (y28 : PySem.W.findIn K (.ref cPlace) "names" = some none)
    (y29_0 : PySem.W.plainGet K cLeast Str.empty = true)
    (y29_1 : PySem.W.hasDictIn K cLeast = true)
    (y29_2 : PySem.W.plainOver K cLeast = true)
    (y29_3 : PySem.W.findIn K (.ref cLeast) "__setattr__" = some (some (.builtin "object.__setattr__")))
    (y29_4 : PySem.W.findIn K (.ref cLeast) "__class__" = some (some (.builtin "object.__class__")))
    (y29_5 : PySem.W.specialIn K (.builtin "object.__class__") "__get__" = some (some (.builtin "getset_descriptor.__get__")))
    (y29_6 : PySem.W.takesIn K (.builtin "object.__class__") = some true)
    (y29_7 : PySem.W.mroIn K cLeast (.type "object") = some true)
    (y30 : PySem.W.findIn K (.ref cLeast) "weight" = some none)
    (y31_0 : PySem.W.plainGet K cNot Str.empty = true)
    (y31_1 : PySem.W.hasDictIn K cNot = true)
    (y31_2 : PySem.W.plainOver K cNot = true)
    (y31_3 : PySem.W.findIn K (.ref cNot) "__setattr__" = some (some (.builtin "object.__setattr__")))
    (y31_4 : PySem.W.findIn K (.ref cNot) "__class__" = some (some (.builtin "object.__class__")))
    (y31_5 : PySem.W.specialIn K (.builtin "object.__class__") "__get__" = some (some (.builtin "getset_descriptor.__get__")))
    (y31_6 : PySem.W.takesIn K (.builtin "object.__class__") = some true)
    (y31_7 : PySem.W.mroIn K cNot (.type "object") = some true)
    (y32 : PySem.W.findIn K (.ref cNot) "fit" = some none)
    (y33_0 : PySem.W.plainGet K cBoth Str.empty = true)
    (y33_1 : PySem.W.hasDictIn K cBoth = true)
    (y33_2 : PySem.W.plainOver K cBoth = true)
    (y33_3 : PySem.W.findIn K (.ref cBoth) "__setattr__" = some (some (.builtin "object.__setattr__")))
    (y33_4 : PySem.W.findIn K (.ref cBoth) "__class__" = some (some (.builtin "object.__class__")))
    (y33_5 : PySem.W.specialIn K (.builtin "object.__class__") "__get__" = some (some (.builtin "getset_descriptor.__get__")))
    (y33_6 : PySem.W.takesIn K (.builtin "object.__class__") = some true)
    (y33_7 : PySem.W.mroIn K cBoth (.type "object") = some true)
    (y34 : PySem.W.findIn K (.ref cBoth) "fits" = some none)
    (y35_0 : PySem.W.plainGet K cEither Str.empty = true)
    (y35_1 : PySem.W.hasDictIn K cEither = true)
    (y35_2 : PySem.W.plainOver K cEither = true)
    (y35_3 : PySem.W.findIn K (.ref cEither) "__setattr__" = some (some (.builtin "object.__setattr__")))
    (y35_4 : PySem.W.findIn K (.ref cEither) "__class__" = some (some (.builtin "object.__class__")))
    (y35_5 : PySem.W.specialIn K (.builtin "object.__class__") "__get__" = some (some (.builtin "getset_descriptor.__get__")))
    (y35_6 : PySem.W.takesIn K (.builtin "object.__class__") = some true)
    (y35_7 : PySem.W.mroIn K cEither (.type "object") = some true)
    (y36 : PySem.W.findIn K (.ref cEither) "fits" = some none)
    (y37_0 : PySem.W.plainGet K cHappening Str.empty = true)
    (y37_1 : PySem.W.hasDictIn K cHappening = true)
    (y37_2 : PySem.W.plainOver K cHappening = true)
    (y37_3 : PySem.W.findIn K (.ref cHappening) "__setattr__" = some (some (.builtin "object.__setattr__")))
    (y37_4 : PySem.W.findIn K (.ref cHappening) "__class__" = some (some (.builtin "object.__class__")))
    (y37_5 : PySem.W.specialIn K (.builtin "object.__class__") "__get__" = some (some (.builtin "getset_descriptor.__get__")))
    (y37_6 : PySem.W.takesIn K (.builtin "object.__class__") = some true)
    (y37_7 : PySem.W.mroIn K cHappening (.type "object") = some true)
    (y38 : PySem.W.findIn K (.ref cHappening) "kind" = some none)
    (y39 : PySem.W.findIn K (.ref cHappening) "place" = some none)
    (y40 : PySem.W.findIn K (.ref cHappening) "weight" = some none)
    (y41 : PySem.W.kitOne K (.ref cAny) (.ref cFit) = some true)
    (y42 : PySem.W.kitOne K (.ref cKind) (.ref cFit) = some true)
    (y43 : PySem.W.kitOne K (.ref cPlace) (.ref cFit) = some true)
    (y44 : PySem.W.kitOne K (.ref cLeast) (.ref cFit) = some true)
    (y45 : PySem.W.kitOne K (.ref cNot) (.ref cFit) = some true)
    (y46 : PySem.W.kitOne K (.ref cBoth) (.ref cFit) = some true)
    (y47 : PySem.W.kitOne K (.ref cEither) (.ref cFit) = some true)
    (y48_0 : PySem.W.makesIn K cAny = true)
    (y48_1 : PySem.W.findIn K (.ref cAny) "__init__" = some (some (.builtin "object.__init__")))
    (y48_2 : PySem.W.keepIn K (.ref cAny) = true)
    (mkHappening : PySem.W.makesIn K cHappening = true)
    (kcHappening : PySem.W.keepIn K (.ref cHappening) = true)
    (mkKind : PySem.W.makesIn K cKind = true)
    (kcKind : PySem.W.keepIn K (.ref cKind) = true)
    (mkPlace : PySem.W.makesIn K cPlace = true)
    (kcPlace : PySem.W.keepIn K (.ref cPlace) = true)
    (mkLeast : PySem.W.makesIn K cLeast = true)
    (kcLeast : PySem.W.keepIn K (.ref cLeast) = true)
    (mkNot : PySem.W.makesIn K cNot = true)
    (kcNot : PySem.W.keepIn K (.ref cNot) = true)
    (mkBoth : PySem.W.makesIn K cBoth = true)
    (kcBoth : PySem.W.keepIn K (.ref cBoth) = true)
    (mkEither : PySem.W.makesIn K cEither = true)
    (kcEither : PySem.W.keepIn K (.ref cEither) = true) :
    ∃ (a : Ad) (fd : FuncData), (∀ (s : Shared) (v : Value), BindsTo s fd ⟨[v], []⟩ [("_law_script", v)]) ∧ ∀ base : Heap, K.In base → base.Ns mainGlobals mg → FnOk l.prog w K mg base CX0 11 fa fd ["_law_script"] (sp_law K a) := by
  have e := hfa.symm.trans (PySem.W.mg_of X G a32)
  cases e
  have B : Bt K mg ⟨cHappening, cFit, cAny, cKind, cPlace, cLeast, cNot, cBoth, cEither, t0, t1⟩ := ⟨PySem.W.mg_none_of X G y0, PySem.W.mg_none_of X G y1, PySem.W.mg_none_of X G y2, PySem.W.mg_none_of X G y3, PySem.W.mg_none_of X G y4, PySem.W.mg_none_of X G y5, PySem.W.mg_none_of X G y6, PySem.W.mg_none_of X G y7, PySem.W.mg_none_of X G y8, PySem.W.mg_none_of X G y9, PySem.W.mg_none_of X G y10, PySem.W.mg_none_of X G y11, PySem.W.mg_none_of X G y12, PySem.W.mg_of X G y13, PySem.W.mg_of X G y14, PySem.W.mg_of X G y15, PySem.W.mg_of X G y16, PySem.W.mg_of X G y17, PySem.W.mg_of X G y18, PySem.W.mg_of X G y19, PySem.W.mg_of X G y20, PySem.W.mg_of X G y21, PySem.W.mg_of X G y22, PySem.W.mg_of X G y23, ⟨⟨y24_0, y24_1, y24_2, y24_3⟩, y24_4, y24_5, y24_6, y24_7⟩, ⟨⟨y25_0, y25_1, y25_2, y25_3⟩, y25_4, y25_5, y25_6, y25_7⟩, y26, ⟨⟨y27_0, y27_1, y27_2, y27_3⟩, y27_4, y27_5, y27_6, y27_7⟩, y28, ⟨⟨y29_0, y29_1, y29_2, y29_3⟩, y29_4, y29_5, y29_6, y29_7⟩, y30, ⟨⟨y31_0, y31_1, y31_2, y31_3⟩, y31_4, y31_5, y31_6, y31_7⟩, y32, ⟨⟨y33_0, y33_1, y33_2, y33_3⟩, y33_4, y33_5, y33_6, y33_7⟩, y34, ⟨⟨y35_0, y35_1, y35_2, y35_3⟩, y35_4, y35_5, y35_6, y35_7⟩, y36, ⟨⟨y37_0, y37_1, y37_2, y37_3⟩, y37_4, y37_5, y37_6, y37_7⟩, y38, y39, y40, y41, y42, y43, y44, y45, y46, y47, ⟨y48_0, y48_1, y48_2⟩⟩
  have F0 := fun_mk (st := s_is_whole) l0 c0 k0
  have b0 := F0.binds (ps := ["thing"]) fun _ _ _ _ _ _ us hl => match us, hl with | [_], _ => rfl
  have F1 := fun_mk (st := s_is_whole_from) l1 c1 k1
  have b1 := F1.binds (ps := ["thing", "least"]) fun _ _ _ _ _ _ us hl => match us, hl with | [_, _], _ => rfl
  have F2 := fun_mk (st := s_is_name) l2 c2 k2
  have b2 := F2.binds (ps := ["thing"]) fun _ _ _ _ _ _ us hl => match us, hl with | [_], _ => rfl
  have F3 := fun_mk (st := s_Happening___init__) l3 c3 k3
  have b3 := F3.binds (ps := ["self", "kind", "place", "weight"]) fun _ _ _ _ _ _ us hl => match us, hl with | [_, _, _, _], _ => rfl
  have F4 := fun_mk (st := s_are_unlike_names) l4 c4 k4
  have b4 := F4.binds (ps := ["thing"]) fun _ _ _ _ _ _ us hl => match us, hl with | [_], _ => rfl
  have F5 := fun_mk (st := s_Any_fits_it) l5 c5 k5
  have b5 := F5.binds (ps := ["self", "happening"]) fun _ _ _ _ _ _ us hl => match us, hl with | [_, _], _ => rfl
  have F6 := fun_mk (st := s_Kind___init__) l6 c6 k6
  have b6 := F6.binds (ps := ["self", "names"]) fun _ _ _ _ _ _ us hl => match us, hl with | [_, _], _ => rfl
  have F7 := fun_mk (st := s_Kind_fits_it) l7 c7 k7
  have b7 := F7.binds (ps := ["self", "happening"]) fun _ _ _ _ _ _ us hl => match us, hl with | [_, _], _ => rfl
  have F8 := fun_mk (st := s_Place___init__) l8 c8 k8
  have b8 := F8.binds (ps := ["self", "names"]) fun _ _ _ _ _ _ us hl => match us, hl with | [_, _], _ => rfl
  have F9 := fun_mk (st := s_Place_fits_it) l9 c9 k9
  have b9 := F9.binds (ps := ["self", "happening"]) fun _ _ _ _ _ _ us hl => match us, hl with | [_, _], _ => rfl
  have F10 := fun_mk (st := s_Least___init__) l10 c10 k10
  have b10 := F10.binds (ps := ["self", "weight"]) fun _ _ _ _ _ _ us hl => match us, hl with | [_, _], _ => rfl
  have F11 := fun_mk (st := s_Least_fits_it) l11 c11 k11
  have b11 := F11.binds (ps := ["self", "happening"]) fun _ _ _ _ _ _ us hl => match us, hl with | [_, _], _ => rfl
  have F12 := fun_mk (st := s_Not___init__) l12 c12 k12
  have b12 := F12.binds (ps := ["self", "fit"]) fun _ _ _ _ _ _ us hl => match us, hl with | [_, _], _ => rfl
  have F13 := fun_mk (st := s_Not_fits_it) l13 c13 k13
  have b13 := F13.binds (ps := ["self", "happening"]) fun _ _ _ _ _ _ us hl => match us, hl with | [_, _], _ => rfl
  have F14 := fun_mk (st := s_Both___init__) l14 c14 k14
  have b14 := F14.binds (ps := ["self", "fits"]) fun _ _ _ _ _ _ us hl => match us, hl with | [_, _], _ => rfl
  have F15 := fun_mk (st := s_Both_fits_it) l15 c15 k15
  have b15 := F15.binds (ps := ["self", "happening"]) fun _ _ _ _ _ _ us hl => match us, hl with | [_, _], _ => rfl
  have F16 := fun_mk (st := s_Either___init__) l16 c16 k16
  have b16 := F16.binds (ps := ["self", "fits"]) fun _ _ _ _ _ _ us hl => match us, hl with | [_, _], _ => rfl
  have F17 := fun_mk (st := s_Either_fits_it) l17 c17 k17
  have b17 := F17.binds (ps := ["self", "happening"]) fun _ _ _ _ _ _ us hl => match us, hl with | [_, _], _ => rfl
  have F18 := fun_mk (st := s_check_names) l18 c18 k18
  have b18 := F18.binds (ps := ["names"]) fun _ _ _ _ _ _ us hl => match us, hl with | [_], _ => rfl
  have F19 := fun_mk (st := s_check_fit) l19 c19 k19
  have b19 := F19.binds (ps := ["fit"]) fun _ _ _ _ _ _ us hl => match us, hl with | [_], _ => rfl
  have F20 := fun_mk (st := s_check_fits) l20 c20 k20
  have b20 := F20.binds (ps := ["fits"]) fun _ _ _ _ _ _ us hl => match us, hl with | [_], _ => rfl
  have F21 := fun_mk (st := s_law_cell_at) l21 c21 k21
  have b21 := F21.binds (ps := ["_law_script", "_law_k"]) fun _ _ _ _ _ _ us hl => match us, hl with | [_, _], _ => rfl
  have F22 := fun_mk (st := s_law_begin) l22 c22 k22
  have b22 := F22.binds (ps := ["_law_cell"]) fun _ _ _ _ _ _ us hl => match us, hl with | [_], _ => rfl
  have F23 := fun_mk (st := s_law_next) l23 c23 k23
  have b23 := F23.binds (ps := ["_law_state", "_law_base"]) fun _ _ _ _ _ _ us hl => match us, hl with | [_, _], _ => rfl
  have F24 := fun_mk (st := s_law_name) l24 c24 k24
  have b24 := F24.binds (ps := ["_law_state"]) fun _ _ _ _ _ _ us hl => match us, hl with | [_], _ => rfl
  have F25 := fun_mk (st := s_law_leaf) l25 c25 k25
  have b25 := F25.binds (ps := ["_law_state", "_law_more"]) fun _ _ _ _ _ _ us hl => match us, hl with | [_, _], _ => rfl
  have F26 := fun_mk (st := s_law_tree) l26 c26 k26
  have b26 := F26.binds (ps := ["_law_state", "_law_deep", "_law_more"]) fun _ _ _ _ _ _ us hl => match us, hl with | [_, _, _], _ => rfl
  have F27 := fun_mk (st := s_law_made) l27 c27 k27
  have b27 := F27.binds (ps := ["_law_tree_here"]) fun _ _ _ _ _ _ us hl => match us, hl with | [_], _ => rfl
  have F28 := fun_mk (st := s_law_gathered) l28 c28 k28
  have b28 := F28.binds (ps := ["_law_tree_here", "_law_word"]) fun _ _ _ _ _ _ us hl => match us, hl with | [_, _], _ => rfl
  have F29 := fun_mk (st := s_law_pick) l29 c29 k29
  have b29 := F29.binds (ps := ["_law_state", "_law_some"]) fun _ _ _ _ _ _ us hl => match us, hl with | [_, _], _ => rfl
  have F30 := fun_mk (st := s_law_things) l30 c30 k30
  have b30 := F30.binds (ps := ["_law_script", "_law_trees"]) fun _ _ _ _ _ _ us hl => match us, hl with | [_, _], _ => rfl
  have F31 := fun_mk (st := s_law_pairs) l31 c31 k31
  have b31 := F31.binds (ps := ["_law_a", "_law_b", "_law_c"]) fun _ _ _ _ _ _ us hl => match us, hl with | [_, _, _], _ => rfl
  have F32 := fun_mk (st := s_law) l32 c32 k32
  have b32 := F32.binds (ps := ["_law_script"]) fun _ _ _ _ _ _ us hl => match us, hl with | [_], _ => rfl
  refine ⟨(⟨cHappening, cFit, cAny, cKind, cPlace, cLeast, cNot, cBoth, cEither, t0, t1⟩ : Ad), PySem.W.fnOf "law" "law" (defArgs s_law) (defBody s_law) (defScope s_law) .none kV32 dc32 pm32 an32 cd32 ct32, fun s v => .of_eq rfl, fun base _ _ => ?_⟩
  have G_is_whole : FnOk l.prog w K mg base (CXF l.prog w) 1 f0 _ ["thing"] (sp_is_whole K (⟨cHappening, cFit, cAny, cKind, cPlace, cLeast, cNot, cBoth, cEither, t0, t1⟩ : Ad)) := FnOk.up (ok_is_whole (P := l.prog) (w := w) (base := base) B  F0)
  have C_is_whole : CalX l.prog w K mg base "is_whole" ["thing"] 1 (sp_is_whole K (⟨cHappening, cFit, cAny, cKind, cPlace, cLeast, cNot, cBoth, cEither, t0, t1⟩ : Ad)) := ⟨_, _, G_is_whole, b0, k0, PySem.W.mg_of X G a0⟩
  have G_is_name : FnOk l.prog w K mg base (CXF l.prog w) 1 f2 _ ["thing"] (sp_is_name K (⟨cHappening, cFit, cAny, cKind, cPlace, cLeast, cNot, cBoth, cEither, t0, t1⟩ : Ad)) := FnOk.up (ok_is_name (P := l.prog) (w := w) (base := base) B  F2)
  have C_is_name : CalX l.prog w K mg base "is_name" ["thing"] 1 (sp_is_name K (⟨cHappening, cFit, cAny, cKind, cPlace, cLeast, cNot, cBoth, cEither, t0, t1⟩ : Ad)) := ⟨_, _, G_is_name, b2, k2, PySem.W.mg_of X G a2⟩
  have G_check_fit : FnOk l.prog w K mg base (CXF l.prog w) 1 f19 _ ["fit"] (sp_check_fit K (⟨cHappening, cFit, cAny, cKind, cPlace, cLeast, cNot, cBoth, cEither, t0, t1⟩ : Ad)) := FnOk.up (ok_check_fit (P := l.prog) (w := w) (base := base) B  F19)
  have C_check_fit : CalX l.prog w K mg base "check_fit" ["fit"] 1 (sp_check_fit K (⟨cHappening, cFit, cAny, cKind, cPlace, cLeast, cNot, cBoth, cEither, t0, t1⟩ : Ad)) := ⟨_, _, G_check_fit, b19, k19, PySem.W.mg_of X G a19⟩
  have G_law_cell_at : FnOk l.prog w K mg base (CXF l.prog w) 1 f21 _ ["_law_script", "_law_k"] (sp_law_cell_at K (⟨cHappening, cFit, cAny, cKind, cPlace, cLeast, cNot, cBoth, cEither, t0, t1⟩ : Ad)) := FnOk.up (ok_law_cell_at (P := l.prog) (w := w) (base := base) B  F21)
  have C_law_cell_at : CalX l.prog w K mg base "_law_cell_at" ["_law_script", "_law_k"] 1 (sp_law_cell_at K (⟨cHappening, cFit, cAny, cKind, cPlace, cLeast, cNot, cBoth, cEither, t0, t1⟩ : Ad)) := ⟨_, _, G_law_cell_at, b21, k21, PySem.W.mg_of X G a21⟩
  have G_law_begin : FnOk l.prog w K mg base (CXF l.prog w) 1 f22 _ ["_law_cell"] (sp_law_begin K (⟨cHappening, cFit, cAny, cKind, cPlace, cLeast, cNot, cBoth, cEither, t0, t1⟩ : Ad)) := FnOk.up (ok_law_begin (P := l.prog) (w := w) (base := base) B  F22)
  have C_law_begin : CalX l.prog w K mg base "_law_begin" ["_law_cell"] 1 (sp_law_begin K (⟨cHappening, cFit, cAny, cKind, cPlace, cLeast, cNot, cBoth, cEither, t0, t1⟩ : Ad)) := ⟨_, _, G_law_begin, b22, k22, PySem.W.mg_of X G a22⟩
  have G_law_next : FnOk l.prog w K mg base (CXF l.prog w) 1 f23 _ ["_law_state", "_law_base"] (sp_law_next K (⟨cHappening, cFit, cAny, cKind, cPlace, cLeast, cNot, cBoth, cEither, t0, t1⟩ : Ad)) := FnOk.up (ok_law_next (P := l.prog) (w := w) (base := base) B  F23)
  have C_law_next : CalX l.prog w K mg base "_law_next" ["_law_state", "_law_base"] 1 (sp_law_next K (⟨cHappening, cFit, cAny, cKind, cPlace, cLeast, cNot, cBoth, cEither, t0, t1⟩ : Ad)) := ⟨_, _, G_law_next, b23, k23, PySem.W.mg_of X G a23⟩
  have G_is_whole_from : FnOk l.prog w K mg base (CXF l.prog w) 2 f1 _ ["thing", "least"] (sp_is_whole_from K (⟨cHappening, cFit, cAny, cKind, cPlace, cLeast, cNot, cBoth, cEither, t0, t1⟩ : Ad)) := FnOk.up (ok_is_whole_from (P := l.prog) (w := w) (base := base) B C_is_whole F1)
  have C_is_whole_from : CalX l.prog w K mg base "is_whole_from" ["thing", "least"] 2 (sp_is_whole_from K (⟨cHappening, cFit, cAny, cKind, cPlace, cLeast, cNot, cBoth, cEither, t0, t1⟩ : Ad)) := ⟨_, _, G_is_whole_from, b1, k1, PySem.W.mg_of X G a1⟩
  have G_are_unlike_names : FnOk l.prog w K mg base (CXF l.prog w) 2 f4 _ ["thing"] (sp_are_unlike_names K (⟨cHappening, cFit, cAny, cKind, cPlace, cLeast, cNot, cBoth, cEither, t0, t1⟩ : Ad)) := FnOk.up (ok_are_unlike_names (P := l.prog) (w := w) (base := base) B C_is_name F4)
  have C_are_unlike_names : CalX l.prog w K mg base "are_unlike_names" ["thing"] 2 (sp_are_unlike_names K (⟨cHappening, cFit, cAny, cKind, cPlace, cLeast, cNot, cBoth, cEither, t0, t1⟩ : Ad)) := ⟨_, _, G_are_unlike_names, b4, k4, PySem.W.mg_of X G a4⟩
  have G_Not___init__ : FnOk l.prog w K mg base (CXF l.prog w) 2 f12 _ ["self", "fit"] (sp_Not___init__ K (⟨cHappening, cFit, cAny, cKind, cPlace, cLeast, cNot, cBoth, cEither, t0, t1⟩ : Ad)) := FnOk.up (ok_Not___init__ (P := l.prog) (w := w) (base := base) B C_check_fit F12)
  have CC_Not : CalC l.prog w K mg base "Not" cNot ["self", "fit"] 2 (sp_Not___init__ K (⟨cHappening, cFit, cAny, cKind, cPlace, cLeast, cNot, cBoth, cEither, t0, t1⟩ : Ad)) := ⟨_, _, G_Not___init__, b12, ⟨mkNot, a12, i12, kcNot⟩, B.Not⟩
  have G_check_fits : FnOk l.prog w K mg base (CXF l.prog w) 2 f20 _ ["fits"] (sp_check_fits K (⟨cHappening, cFit, cAny, cKind, cPlace, cLeast, cNot, cBoth, cEither, t0, t1⟩ : Ad)) := FnOk.up (ok_check_fits (P := l.prog) (w := w) (base := base) B C_check_fit F20)
  have C_check_fits : CalX l.prog w K mg base "check_fits" ["fits"] 2 (sp_check_fits K (⟨cHappening, cFit, cAny, cKind, cPlace, cLeast, cNot, cBoth, cEither, t0, t1⟩ : Ad)) := ⟨_, _, G_check_fits, b20, k20, PySem.W.mg_of X G a20⟩
  have G_law_name : FnOk l.prog w K mg base (CXF l.prog w) 2 f24 _ ["_law_state"] (sp_law_name K (⟨cHappening, cFit, cAny, cKind, cPlace, cLeast, cNot, cBoth, cEither, t0, t1⟩ : Ad)) := FnOk.up (ok_law_name (P := l.prog) (w := w) (base := base) B C_law_next F24)
  have C_law_name : CalX l.prog w K mg base "_law_name" ["_law_state"] 2 (sp_law_name K (⟨cHappening, cFit, cAny, cKind, cPlace, cLeast, cNot, cBoth, cEither, t0, t1⟩ : Ad)) := ⟨_, _, G_law_name, b24, k24, PySem.W.mg_of X G a24⟩
  have G_Happening___init__ : FnOk l.prog w K mg base (CXF l.prog w) 3 f3 _ ["self", "kind", "place", "weight"] (sp_Happening___init__ K (⟨cHappening, cFit, cAny, cKind, cPlace, cLeast, cNot, cBoth, cEither, t0, t1⟩ : Ad)) := FnOk.up (ok_Happening___init__ (P := l.prog) (w := w) (base := base) B C_is_whole_from C_is_name F3)
  have CC_Happening : CalC l.prog w K mg base "Happening" cHappening ["self", "kind", "place", "weight"] 3 (sp_Happening___init__ K (⟨cHappening, cFit, cAny, cKind, cPlace, cLeast, cNot, cBoth, cEither, t0, t1⟩ : Ad)) := ⟨_, _, G_Happening___init__, b3, ⟨mkHappening, a3, i3, kcHappening⟩, B.Happening⟩
  have G_Least___init__ : FnOk l.prog w K mg base (CXF l.prog w) 3 f10 _ ["self", "weight"] (sp_Least___init__ K (⟨cHappening, cFit, cAny, cKind, cPlace, cLeast, cNot, cBoth, cEither, t0, t1⟩ : Ad)) := FnOk.up (ok_Least___init__ (P := l.prog) (w := w) (base := base) B C_is_whole_from F10)
  have CC_Least : CalC l.prog w K mg base "Least" cLeast ["self", "weight"] 3 (sp_Least___init__ K (⟨cHappening, cFit, cAny, cKind, cPlace, cLeast, cNot, cBoth, cEither, t0, t1⟩ : Ad)) := ⟨_, _, G_Least___init__, b10, ⟨mkLeast, a10, i10, kcLeast⟩, B.Least⟩
  have G_Both___init__ : FnOk l.prog w K mg base (CXF l.prog w) 3 f14 _ ["self", "fits"] (sp_Both___init__ K (⟨cHappening, cFit, cAny, cKind, cPlace, cLeast, cNot, cBoth, cEither, t0, t1⟩ : Ad)) := FnOk.up (ok_Both___init__ (P := l.prog) (w := w) (base := base) B C_check_fits F14)
  have CC_Both : CalC l.prog w K mg base "Both" cBoth ["self", "fits"] 3 (sp_Both___init__ K (⟨cHappening, cFit, cAny, cKind, cPlace, cLeast, cNot, cBoth, cEither, t0, t1⟩ : Ad)) := ⟨_, _, G_Both___init__, b14, ⟨mkBoth, a14, i14, kcBoth⟩, B.Both⟩
  have G_Either___init__ : FnOk l.prog w K mg base (CXF l.prog w) 3 f16 _ ["self", "fits"] (sp_Either___init__ K (⟨cHappening, cFit, cAny, cKind, cPlace, cLeast, cNot, cBoth, cEither, t0, t1⟩ : Ad)) := FnOk.up (ok_Either___init__ (P := l.prog) (w := w) (base := base) B C_check_fits F16)
  have CC_Either : CalC l.prog w K mg base "Either" cEither ["self", "fits"] 3 (sp_Either___init__ K (⟨cHappening, cFit, cAny, cKind, cPlace, cLeast, cNot, cBoth, cEither, t0, t1⟩ : Ad)) := ⟨_, _, G_Either___init__, b16, ⟨mkEither, a16, i16, kcEither⟩, B.Either⟩
  have G_check_names : FnOk l.prog w K mg base (CXF l.prog w) 3 f18 _ ["names"] (sp_check_names K (⟨cHappening, cFit, cAny, cKind, cPlace, cLeast, cNot, cBoth, cEither, t0, t1⟩ : Ad)) := FnOk.up (ok_check_names (P := l.prog) (w := w) (base := base) B C_are_unlike_names F18)
  have C_check_names : CalX l.prog w K mg base "check_names" ["names"] 3 (sp_check_names K (⟨cHappening, cFit, cAny, cKind, cPlace, cLeast, cNot, cBoth, cEither, t0, t1⟩ : Ad)) := ⟨_, _, G_check_names, b18, k18, PySem.W.mg_of X G a18⟩
  have G_law_leaf : FnOk l.prog w K mg base (CXF l.prog w) 3 f25 _ ["_law_state", "_law_more"] (sp_law_leaf K (⟨cHappening, cFit, cAny, cKind, cPlace, cLeast, cNot, cBoth, cEither, t0, t1⟩ : Ad)) := FnOk.up (ok_law_leaf (P := l.prog) (w := w) (base := base) B C_law_next C_law_name F25)
  have C_law_leaf : CalX l.prog w K mg base "_law_leaf" ["_law_state", "_law_more"] 3 (sp_law_leaf K (⟨cHappening, cFit, cAny, cKind, cPlace, cLeast, cNot, cBoth, cEither, t0, t1⟩ : Ad)) := ⟨_, _, G_law_leaf, b25, k25, PySem.W.mg_of X G a25⟩
  have G_law_pick : FnOk l.prog w K mg base (CXF l.prog w) 3 f29 _ ["_law_state", "_law_some"] (sp_law_pick K (⟨cHappening, cFit, cAny, cKind, cPlace, cLeast, cNot, cBoth, cEither, t0, t1⟩ : Ad)) := FnOk.up (ok_law_pick (P := l.prog) (w := w) (base := base) B C_law_name C_law_next F29)
  have C_law_pick : CalX l.prog w K mg base "_law_pick" ["_law_state", "_law_some"] 3 (sp_law_pick K (⟨cHappening, cFit, cAny, cKind, cPlace, cLeast, cNot, cBoth, cEither, t0, t1⟩ : Ad)) := ⟨_, _, G_law_pick, b29, k29, PySem.W.mg_of X G a29⟩
  have G_Kind___init__ : FnOk l.prog w K mg base (CXF l.prog w) 4 f6 _ ["self", "names"] (sp_Kind___init__ K (⟨cHappening, cFit, cAny, cKind, cPlace, cLeast, cNot, cBoth, cEither, t0, t1⟩ : Ad)) := FnOk.up (ok_Kind___init__ (P := l.prog) (w := w) (base := base) B C_check_names F6)
  have CC_Kind : CalC l.prog w K mg base "Kind" cKind ["self", "names"] 4 (sp_Kind___init__ K (⟨cHappening, cFit, cAny, cKind, cPlace, cLeast, cNot, cBoth, cEither, t0, t1⟩ : Ad)) := ⟨_, _, G_Kind___init__, b6, ⟨mkKind, a6, i6, kcKind⟩, B.Kind⟩
  have G_Place___init__ : FnOk l.prog w K mg base (CXF l.prog w) 4 f8 _ ["self", "names"] (sp_Place___init__ K (⟨cHappening, cFit, cAny, cKind, cPlace, cLeast, cNot, cBoth, cEither, t0, t1⟩ : Ad)) := FnOk.up (ok_Place___init__ (P := l.prog) (w := w) (base := base) B C_check_names F8)
  have CC_Place : CalC l.prog w K mg base "Place" cPlace ["self", "names"] 4 (sp_Place___init__ K (⟨cHappening, cFit, cAny, cKind, cPlace, cLeast, cNot, cBoth, cEither, t0, t1⟩ : Ad)) := ⟨_, _, G_Place___init__, b8, ⟨mkPlace, a8, i8, kcPlace⟩, B.Place⟩
  have C_law_gathered : CalX l.prog w K mg base "_law_gathered" ["_law_tree_here", "_law_word"] 4 (sp_law_gathered K (⟨cHappening, cFit, cAny, cKind, cPlace, cLeast, cNot, cBoth, cEither, t0, t1⟩ : Ad) 4) := rec_cal (spf := sp_law_gathered K (⟨cHappening, cFit, cAny, cKind, cPlace, cLeast, cNot, cBoth, cEither, t0, t1⟩ : Ad)) (n0 := 0) sp0_law_gathered b28 k28 (PySem.W.mg_of X G a28) (fun d n hn C => FnOk.up (ok_law_gathered (P := l.prog) (w := w) (base := base) hn B C F28)) 4 (by decide)
  have G_law_things : FnOk l.prog w K mg base (CXF l.prog w) 5 f30 _ ["_law_script", "_law_trees"] (sp_law_things K (⟨cHappening, cFit, cAny, cKind, cPlace, cLeast, cNot, cBoth, cEither, t0, t1⟩ : Ad)) := FnOk.up (ok_law_things (P := l.prog) (w := w) (base := base) B C_law_gathered CC_Happening C_law_begin C_law_pick C_law_next F30)
  have C_law_things : CalX l.prog w K mg base "_law_things" ["_law_script", "_law_trees"] 5 (sp_law_things K (⟨cHappening, cFit, cAny, cKind, cPlace, cLeast, cNot, cBoth, cEither, t0, t1⟩ : Ad)) := ⟨_, _, G_law_things, b30, k30, PySem.W.mg_of X G a30⟩
  have G_law_pairs : FnOk l.prog w K mg base (CXF l.prog w) 5 f31 _ ["_law_a", "_law_b", "_law_c"] (sp_law_pairs K (⟨cHappening, cFit, cAny, cKind, cPlace, cLeast, cNot, cBoth, cEither, t0, t1⟩ : Ad)) := FnOk.up (ok_law_pairs (P := l.prog) (w := w) (base := base) B CC_Not CC_Both CC_Either F31)
  have C_law_pairs : CalX l.prog w K mg base "_law_pairs" ["_law_a", "_law_b", "_law_c"] 5 (sp_law_pairs K (⟨cHappening, cFit, cAny, cKind, cPlace, cLeast, cNot, cBoth, cEither, t0, t1⟩ : Ad)) := ⟨_, _, G_law_pairs, b31, k31, PySem.W.mg_of X G a31⟩
  have C_law_tree : CalX l.prog w K mg base "_law_tree" ["_law_state", "_law_deep", "_law_more"] 6 (sp_law_tree K (⟨cHappening, cFit, cAny, cKind, cPlace, cLeast, cNot, cBoth, cEither, t0, t1⟩ : Ad) 3) := rec_cal (spf := sp_law_tree K (⟨cHappening, cFit, cAny, cKind, cPlace, cLeast, cNot, cBoth, cEither, t0, t1⟩ : Ad)) (n0 := 3) sp0_law_tree b26 k26 (PySem.W.mg_of X G a26) (fun d n hn C => FnOk.up (ok_law_tree (P := l.prog) (w := w) (base := base) hn B C_law_next C_law_leaf C F26)) 3 (by decide)
  have C_law_made : CalX l.prog w K mg base "_law_made" ["_law_tree_here"] 8 (sp_law_made K (⟨cHappening, cFit, cAny, cKind, cPlace, cLeast, cNot, cBoth, cEither, t0, t1⟩ : Ad) 3) := rec_cal (spf := sp_law_made K (⟨cHappening, cFit, cAny, cKind, cPlace, cLeast, cNot, cBoth, cEither, t0, t1⟩ : Ad)) (n0 := 5) sp0_law_made b27 k27 (PySem.W.mg_of X G a27) (fun d n hn C => FnOk.up (ok_law_made (P := l.prog) (w := w) (base := base) hn B CC_Either CC_Kind CC_Place CC_Least CC_Not CC_Both C F27)) 3 (by decide)
  have CMr_fits_it : ∀ d C sp, Mm_fits_it K (⟨cHappening, cFit, cAny, cKind, cPlace, cLeast, cNot, cBoth, cEither, t0, t1⟩ : Ad) d C sp → CalM l.prog w K mg base C "fits_it" ["self", "happening"] (0 + d) sp := by
    intro d
    induction d with
    | zero =>
      rintro C sp ⟨t, rfl, rfl⟩
      cases t with
      | any => exact ⟨⟨_, _, FnOk.nev sp0_fits_it, b5, ⟨a5, i5, k5⟩, B.ck_Any.cl⟩⟩
      | kind us => exact ⟨⟨_, _, FnOk.nev sp0_fits_it, b7, ⟨a7, i7, k7⟩, B.ck_Kind.cl⟩⟩
      | place us => exact ⟨⟨_, _, FnOk.nev sp0_fits_it, b9, ⟨a9, i9, k9⟩, B.ck_Place.cl⟩⟩
      | weight n => exact ⟨⟨_, _, FnOk.nev sp0_fits_it, b11, ⟨a11, i11, k11⟩, B.ck_Least.cl⟩⟩
      | not t => exact ⟨⟨_, _, FnOk.nev sp0_fits_it, b13, ⟨a13, i13, k13⟩, B.ck_Not.cl⟩⟩
      | both ts => exact ⟨⟨_, _, FnOk.nev sp0_fits_it, b15, ⟨a15, i15, k15⟩, B.ck_Both.cl⟩⟩
      | either ts => exact ⟨⟨_, _, FnOk.nev sp0_fits_it, b17, ⟨a17, i17, k17⟩, B.ck_Either.cl⟩⟩
    | succ d ih =>
      rintro C sp ⟨t, rfl, rfl⟩
      cases t with
      | any => exact ⟨⟨_, _, FnOk.up (ok_Any_fits_it (P := l.prog) (w := w) (base := base) (Nat.le_add_right _ _) B  F5), b5, ⟨a5, i5, k5⟩, B.ck_Any.cl⟩⟩
      | kind us => exact ⟨⟨_, _, FnOk.up (ok_Kind_fits_it (P := l.prog) (w := w) (base := base) (Nat.le_add_right _ _) B  F7), b7, ⟨a7, i7, k7⟩, B.ck_Kind.cl⟩⟩
      | place us => exact ⟨⟨_, _, FnOk.up (ok_Place_fits_it (P := l.prog) (w := w) (base := base) (Nat.le_add_right _ _) B  F9), b9, ⟨a9, i9, k9⟩, B.ck_Place.cl⟩⟩
      | weight n => exact ⟨⟨_, _, FnOk.up (ok_Least_fits_it (P := l.prog) (w := w) (base := base) (Nat.le_add_right _ _) B  F11), b11, ⟨a11, i11, k11⟩, B.ck_Least.cl⟩⟩
      | not t => exact ⟨⟨_, _, FnOk.up (ok_Not_fits_it (P := l.prog) (w := w) (base := base) (Nat.le_add_right _ _) B ih F13), b13, ⟨a13, i13, k13⟩, B.ck_Not.cl⟩⟩
      | both ts => exact ⟨⟨_, _, FnOk.up (ok_Both_fits_it (P := l.prog) (w := w) (base := base) (Nat.le_add_right _ _) B ih F15), b15, ⟨a15, i15, k15⟩, B.ck_Both.cl⟩⟩
      | either ts => exact ⟨⟨_, _, FnOk.up (ok_Either_fits_it (P := l.prog) (w := w) (base := base) (Nat.le_add_right _ _) B ih F17), b17, ⟨a17, i17, k17⟩, B.ck_Either.cl⟩⟩
  have CM_fits_it : ∀ C sp, Mm_fits_it K (⟨cHappening, cFit, cAny, cKind, cPlace, cLeast, cNot, cBoth, cEither, t0, t1⟩ : Ad) 10 C sp → CalM l.prog w K mg base C "fits_it" ["self", "happening"] 10 sp := fun C sp h => CMr_fits_it 10 C sp h
  exact ok_law (P := l.prog) (w := w) (base := base) B C_law_begin C_law_pairs C_law_things C_law_cell_at C_law_tree C_law_made CM_fits_it CC_Not F32
theorem walk {l : PySem.W.OpenLaw} {q : Program} {loose : List Str} {XP : (Str → Option Value) → Heap → Prop} {YP : World → Heap → Prop} {d : DefRec} {K : Params → PySem.W.Frag} (hn : l.most = some 63) (hdf : d.params.defaults = [])
    (hY : ∀ (w : World) (h : Heap), YP w h → (K w.params).In h)
    (F : ∀ (w : World) (mg : Str → Option Value) (fa : Addr) (h : Heap), (K w.params).In h → h.Ns mainGlobals mg → mg d.name = some (.ref fa) →
      ∃ fd : FuncData, (∀ (s : Shared) (u : Value), BindsTo s fd ⟨[u], []⟩ [("_law_script", u)]) ∧ ∀ base : Heap, (K w.params).In base → base.Ns mainGlobals mg → FnOk l.prog w (K w.params) mg base CX0 11 fa fd ["_law_script"] (spL (K w.params))) :
    PySem.W.WalkO q loose XP YP l.row.toRowW d [] (fun f vs => PySem.call f vs) :=
  L2.walk_of (n := 63) (k := 11) (x := "_law_script") (CX := fun _ => CX0) (sp := fun w => spL (K w.params)) hn (by decide) hdf ⟨rfl, by decide, by decide⟩ hY F (fun _ _ a ns hl _ hS => ⟨a, ns, rfl, hS, hl, fun _ => rfl⟩) fun _ _ _ _ _ z => z
theorem all_mk2 {P : Program} {w : World} {K : PySem.W.Frag} {mg : Str → Option Value} {fa : Addr} (h : ∃ (a : Ad) (fd : FuncData), (∀ (s : Shared) (v : Value), BindsTo s fd ⟨[v], []⟩ [("_law_script", v)]) ∧ ∀ base : Heap, K.In base → base.Ns mainGlobals mg → FnOk P w K mg base CX0 11 fa fd ["_law_script"] (sp_law K a)) :
    ∃ fd : FuncData, (∀ (s : Shared) (v : Value), BindsTo s fd ⟨[v], []⟩ [("_law_script", v)]) ∧ ∀ base : Heap, K.In base → base.Ns mainGlobals mg → FnOk P w K mg base CX0 11 fa fd ["_law_script"] (spL K) := by
  obtain ⟨a, fd, b, q⟩ := h
  exact ⟨fd, b, fun base x y => q base x y⟩
end Bw
open PySem PySem.W PyProof.Rows
set_option maxRecDepth 100000 in
set_option maxHeartbeats 0 in
theorem PySem.Challenge.cw_bellsaway_k09_whole_fits_turned_holds : PySem.Challenge.rw_bellsaway_k09_whole_fits_turned.Holds := by
  w_on; o_law; k_head; (case hw => w_witness2)
  k_fill
  refine Bw.walk (l := PySem.Challenge.rw_bellsaway_k09_whole_fits_turned) rfl rfl (fun w h Y => PySem.W.kIn_of Y) ?F
  case F =>
    intro w mg fa h KX G hmg
    refine Bw.all_mk2 ?Z
    refine' Bw.all_mk KX G hmg ?a0 ?l0 ?c0 ?k0 ?a1 ?l1 ?c1 ?k1 ?a2 ?l2 ?c2 ?k2 ?a3 ?i3 ?l3 ?c3 ?k3 ?a4 ?l4 ?c4 ?k4 ?a5 ?i5 ?l5 ?c5 ?k5 ?a6 ?i6 ?l6 ?c6 ?k6 ?a7 ?i7 ?l7 ?c7 ?k7 ?a8 ?i8 ?l8 ?c8 ?k8 ?a9 ?i9 ?l9 ?c9 ?k9 ?a10 ?i10 ?l10 ?c10 ?k10 ?a11 ?i11 ?l11 ?c11 ?k11 ?a12 ?i12 ?l12 ?c12 ?k12 ?a13 ?i13 ?l13 ?c13 ?k13 ?a14 ?i14 ?l14 ?c14 ?k14 ?a15 ?i15 ?l15 ?c15 ?k15 ?a16 ?i16 ?l16 ?c16 ?k16 ?a17 ?i17 ?l17 ?c17 ?k17 ?a18 ?l18 ?c18 ?k18 ?a19 ?l19 ?c19 ?k19 ?a20 ?l20 ?c20 ?k20 ?a21 ?l21 ?c21 ?k21 ?a22 ?l22 ?c22 ?k22 ?a23 ?l23 ?c23 ?k23 ?a24 ?l24 ?c24 ?k24 ?a25 ?l25 ?c25 ?k25 ?a26 ?l26 ?c26 ?k26 ?a27 ?l27 ?c27 ?k27 ?a28 ?l28 ?c28 ?k28 ?a29 ?l29 ?c29 ?k29 ?a30 ?l30 ?c30 ?k30 ?a31 ?l31 ?c31 ?k31 ?a32 ?l32 ?c32 ?k32 ?y0 ?y1 ?y2 ?y3 ?y4 ?y5 ?y6 ?y7 ?y8 ?y9 ?y10 ?y11 ?y12 ?y13 ?y14 ?y15 ?y16 ?y17 ?y18 ?y19 ?y20 ?y21 ?y22 ?y23 ?y24_0 ?y24_1 ?y24_2 ?y24_3 ?y24_4 ?y24_5 ?y24_6 ?y24_7 ?y25_0 ?y25_1 ?y25_2 ?y25_3 ?y25_4 ?y25_5 ?y25_6 ?y25_7 ?y26 ?y27_0 ?y27_1 ?y27_2 ?y27_3 ?y27_4 ?y27_5 ?y27_6 ?y27_7 ?y28 ?y29_0 ?y29_1 ?y29_2 ?y29_3 ?y29_4 ?y29_5 ?y29_6 ?y29_7 ?y30 ?y31_0 ?y31_1 ?y31_2 ?y31_3 ?y31_4 ?y31_5 ?y31_6 ?y31_7 ?y32 ?y33_0 ?y33_1 ?y33_2 ?y33_3 ?y33_4 ?y33_5 ?y33_6 ?y33_7 ?y34 ?y35_0 ?y35_1 ?y35_2 ?y35_3 ?y35_4 ?y35_5 ?y35_6 ?y35_7 ?y36 ?y37_0 ?y37_1 ?y37_2 ?y37_3 ?y37_4 ?y37_5 ?y37_6 ?y37_7 ?y38 ?y39 ?y40 ?y41 ?y42 ?y43 ?y44 ?y45 ?y46 ?y47 ?y48_0 ?y48_1 ?y48_2 ?mkHappening ?kcHappening ?mkKind ?kcKind ?mkPlace ?kcPlace ?mkLeast ?kcLeast ?mkNot ?kcNot ?mkBoth ?kcBoth ?mkEither ?kcEither
    (case y0 => k_is)
    (case y1 => k_is)
    (case y2 => k_is)
    (case y3 => k_is)
    (case y4 => k_is)
    (case y5 => k_is)
    (case y6 => k_is)
    (case y7 => k_is)
    (case y8 => k_is)
    (case y9 => k_is)
    (case y10 => k_is)
    (case y11 => k_is)
    (case y12 => k_is)
    (case y13 => k_is)
    (case y14 => k_is)
    (case y15 => k_is)
    (case y16 => k_is)
    (case y17 => k_is)
    (case y18 => k_is)
    (case y19 => k_is)
    (case y20 => k_is)
    (case y21 => k_is)
    (case y22 => k_is)
    (case y23 => k_is)
    (case a0 => k_is)
    (case l0 => k_is)
    (case c0 => k_is)
    (case k0 => k_is)
    (case a1 => k_is)
    (case l1 => k_is)
    (case c1 => k_is)
    (case k1 => k_is)
    (case a2 => k_is)
    (case l2 => k_is)
    (case c2 => k_is)
    (case k2 => k_is)
    (case a3 => k_is)
    (case i3 => k_is)
    (case l3 => k_is)
    (case c3 => k_is)
    (case k3 => k_is)
    (case a4 => k_is)
    (case l4 => k_is)
    (case c4 => k_is)
    (case k4 => k_is)
    (case a5 => k_is)
    (case i5 => k_is)
    (case l5 => k_is)
    (case c5 => k_is)
    (case k5 => k_is)
    (case a6 => k_is)
    (case i6 => k_is)
    (case l6 => k_is)
    (case c6 => k_is)
    (case k6 => k_is)
    (case a7 => k_is)
    (case i7 => k_is)
    (case l7 => k_is)
    (case c7 => k_is)
    (case k7 => k_is)
    (case a8 => k_is)
    (case i8 => k_is)
    (case l8 => k_is)
    (case c8 => k_is)
    (case k8 => k_is)
    (case a9 => k_is)
    (case i9 => k_is)
    (case l9 => k_is)
    (case c9 => k_is)
    (case k9 => k_is)
    (case a10 => k_is)
    (case i10 => k_is)
    (case l10 => k_is)
    (case c10 => k_is)
    (case k10 => k_is)
    (case a11 => k_is)
    (case i11 => k_is)
    (case l11 => k_is)
    (case c11 => k_is)
    (case k11 => k_is)
    (case a12 => k_is)
    (case i12 => k_is)
    (case l12 => k_is)
    (case c12 => k_is)
    (case k12 => k_is)
    (case a13 => k_is)
    (case i13 => k_is)
    (case l13 => k_is)
    (case c13 => k_is)
    (case k13 => k_is)
    (case a14 => k_is)
    (case i14 => k_is)
    (case l14 => k_is)
    (case c14 => k_is)
    (case k14 => k_is)
    (case a15 => k_is)
    (case i15 => k_is)
    (case l15 => k_is)
    (case c15 => k_is)
    (case k15 => k_is)
    (case a16 => k_is)
    (case i16 => k_is)
    (case l16 => k_is)
    (case c16 => k_is)
    (case k16 => k_is)
    (case a17 => k_is)
    (case i17 => k_is)
    (case l17 => k_is)
    (case c17 => k_is)
    (case k17 => k_is)
    (case a18 => k_is)
    (case l18 => k_is)
    (case c18 => k_is)
    (case k18 => k_is)
    (case a19 => k_is)
    (case l19 => k_is)
    (case c19 => k_is)
    (case k19 => k_is)
    (case a20 => k_is)
    (case l20 => k_is)
    (case c20 => k_is)
    (case k20 => k_is)
    (case a21 => k_is)
    (case l21 => k_is)
    (case c21 => k_is)
    (case k21 => k_is)
    (case a22 => k_is)
    (case l22 => k_is)
    (case c22 => k_is)
    (case k22 => k_is)
    (case a23 => k_is)
    (case l23 => k_is)
    (case c23 => k_is)
    (case k23 => k_is)
    (case a24 => k_is)
    (case l24 => k_is)
    (case c24 => k_is)
    (case k24 => k_is)
    (case a25 => k_is)
    (case l25 => k_is)
    (case c25 => k_is)
    (case k25 => k_is)
    (case a26 => k_is)
    (case l26 => k_is)
    (case c26 => k_is)
    (case k26 => k_is)
    (case a27 => k_is)
    (case l27 => k_is)
    (case c27 => k_is)
    (case k27 => k_is)
    (case a28 => k_is)
    (case l28 => k_is)
    (case c28 => k_is)
    (case k28 => k_is)
    (case a29 => k_is)
    (case l29 => k_is)
    (case c29 => k_is)
    (case k29 => k_is)
    (case a30 => k_is)
    (case l30 => k_is)
    (case c30 => k_is)
    (case k30 => k_is)
    (case a31 => k_is)
    (case l31 => k_is)
    (case c31 => k_is)
    (case k31 => k_is)
    (case a32 => k_is)
    (case l32 => k_is)
    (case c32 => k_is)
    (case k32 => k_is)
    (case y24_0 => k_is)
    (case y24_1 => k_is)
    (case y24_2 => k_is)
    (case y24_3 => k_is)
    (case y24_4 => k_is)
    (case y24_5 => k_is)
    (case y24_6 => k_is)
    (case y24_7 => k_is)
    (case y25_0 => k_is)
    (case y25_1 => k_is)
    (case y25_2 => k_is)
    (case y25_3 => k_is)
    (case y25_4 => k_is)
    (case y25_5 => k_is)
    (case y25_6 => k_is)
    (case y25_7 => k_is)
    (case y26 => k_is)
    (case y27_0 => k_is)
    (case y27_1 => k_is)
    (case y27_2 => k_is)
    (case y27_3 => k_is)
    (case y27_4 => k_is)
    (case y27_5 => k_is)
    (case y27_6 => k_is)
    (case y27_7 => k_is)
    (case y28 => k_is)
    (case y29_0 => k_is)
    (case y29_1 => k_is)
    (case y29_2 => k_is)
    (case y29_3 => k_is)
    (case y29_4 => k_is)
    (case y29_5 => k_is)
    (case y29_6 => k_is)
    (case y29_7 => k_is)
    (case y30 => k_is)
    (case y31_0 => k_is)
    (case y31_1 => k_is)
    (case y31_2 => k_is)
    (case y31_3 => k_is)
    (case y31_4 => k_is)
    (case y31_5 => k_is)
    (case y31_6 => k_is)
    (case y31_7 => k_is)
    (case y32 => k_is)
    (case y33_0 => k_is)
    (case y33_1 => k_is)
    (case y33_2 => k_is)
    (case y33_3 => k_is)
    (case y33_4 => k_is)
    (case y33_5 => k_is)
    (case y33_6 => k_is)
    (case y33_7 => k_is)
    (case y34 => k_is)
    (case y35_0 => k_is)
    (case y35_1 => k_is)
    (case y35_2 => k_is)
    (case y35_3 => k_is)
    (case y35_4 => k_is)
    (case y35_5 => k_is)
    (case y35_6 => k_is)
    (case y35_7 => k_is)
    (case y36 => k_is)
    (case y37_0 => k_is)
    (case y37_1 => k_is)
    (case y37_2 => k_is)
    (case y37_3 => k_is)
    (case y37_4 => k_is)
    (case y37_5 => k_is)
    (case y37_6 => k_is)
    (case y37_7 => k_is)
    (case y38 => k_is)
    (case y39 => k_is)
    (case y40 => k_is)
    (case y41 => kit_is)
    (case y42 => kit_is)
    (case y43 => kit_is)
    (case y44 => kit_is)
    (case y45 => kit_is)
    (case y46 => kit_is)
    (case y47 => kit_is)
    (case y48_0 => k_is)
    (case y48_1 => k_is)
    (case y48_2 => k_is)
    (case mkHappening => k_is)
    (case kcHappening => k_is)
    (case mkKind => k_is)
    (case kcKind => k_is)
    (case mkPlace => k_is)
    (case kcPlace => k_is)
    (case mkLeast => k_is)
    (case kcLeast => k_is)
    (case mkNot => k_is)
    (case kcNot => k_is)
    (case mkBoth => k_is)
    (case kcBoth => k_is)
    (case mkEither => k_is)
    (case kcEither => k_is)
