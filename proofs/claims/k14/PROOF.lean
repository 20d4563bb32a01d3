import PyProof.Rows.All
import Wide.All
import OpenK.AllK
import Wide.FinOn
import Lean
import PyProof.EqAt
import PyProof.EqKinds
import PyProof.TupleCall
import PySem.Challenge.RW_bellsaway_k14_the_line_that_wins
set_option Elab.async false
set_option linter.all false
set_option maxRecDepth 100000
namespace L2
open PySem PySem.Spec PyProof.Rows
abbrev Key:=Sum Int Str
def keyIs:Key→Value→Bool
  | .inl k,v=>Value.isInt k v
  | .inr x,v=>Value.isStrOf x v
def keyH (w:World):Key→Int
  | .inl k=>hashInt k
  | .inr x=>hashStr w x
theorem keyIs_shape:∀ {k:Key}{v:Value},keyIs k v=true→(∃ i t,k=Sum.inl i∧v=Value.int i t)∨(∃ x t,k=Sum.inr x∧v=Value.str x t)
  | .inl i,v,h=>by
    obtain ⟨t,e⟩:=Value.isInt_shape (k:=i) (v:=v) h
    exact .inl ⟨i,t,rfl,e⟩
  | .inr x,v,h=>by
    obtain ⟨t,e⟩:=Value.isStrOf_shape (x:=x) (v:=v) h
    exact .inr ⟨x,t,rfl,e⟩
theorem key_ll (a b:Int):decide ((Sum.inl a:Key)=Sum.inl b)=(a == b):=by
  by_cases e:a=b
  · subst e; simp
  · have h:¬ (Sum.inl a:Key)=Sum.inl b:=fun q=>e (Sum.inl.inj q)
    rw [decide_eq_false h]
    exact (beq_eq_false_iff_ne.mpr e).symm
theorem key_rr (a b:Str):decide ((Sum.inr a:Key)=Sum.inr b)=decide (a=b):=by
  by_cases e:a=b
  · subst e; simp
  · have h:¬ (Sum.inr a:Key)=Sum.inr b:=fun q=>e (Sum.inr.inj q)
    rw [decide_eq_false h,decide_eq_false e]
theorem key_lr (a:Int) (b:Str):decide ((Sum.inl a:Key)=Sum.inr b)=false:=decide_eq_false (fun q=>nomatch q)
theorem key_rl (a:Str) (b:Int):decide ((Sum.inr a:Key)=Sum.inl b)=false:=decide_eq_false (fun q=>nomatch q)
def mixKind (prog:Program) (w:World):PySem.KeyKind prog w Key where
  is:=keyIs
  hash:=keyH w
  inj:=fun v a b ha hb=>by
    rcases keyIs_shape ha with ⟨i,t,rfl,rfl⟩ | ⟨x,t,rfl,rfl⟩
    · rcases keyIs_shape hb with ⟨j,u,rfl,e⟩ | ⟨y,u,rfl,e⟩
      · injection e with e1 _; rw [e1]
      · exact nomatch e
    · rcases keyIs_shape hb with ⟨j,u,rfl,e⟩ | ⟨y,u,rfl,e⟩
      · exact nomatch e
      · injection e with e1 _; rw [e1]
  byValue:=fun k v h=>by
    rcases keyIs_shape h with ⟨i,t,rfl,rfl⟩ | ⟨x,t,rfl,rfl⟩ <;> rfl
  pyHash:=fun hv h=>by
    rcases keyIs_shape hv with ⟨i,t,rfl,rfl⟩ | ⟨x,t,rfl,rfl⟩
    · exact wpAny_pyHash_int h
    · exact wpAny_pyHash_str h
  eqBool:=fun hu hv h=>by
    rcases keyIs_shape hu with ⟨i,t,rfl,rfl⟩ | ⟨x,t,rfl,rfl⟩
    · rcases keyIs_shape hv with ⟨j,u,rfl,rfl⟩ | ⟨y,u,rfl,rfl⟩
      · rw [key_ll] at h; exact wpAny_eqBool_int h
      · rw [key_lr] at h; exact SeqAt.EqAt.int_str i t y u _ _ _ _ h
    · rcases keyIs_shape hv with ⟨j,u,rfl,rfl⟩ | ⟨y,u,rfl,rfl⟩
      · rw [key_rl] at h; exact SeqAt.EqAt.str_int x t j u _ _ _ _ h
      · rw [key_rr] at h; exact wpAny_eqBool_str h
  «strs»:=fun k x t v h=>by
    rcases keyIs_shape h with ⟨i,u,rfl,e⟩ | ⟨y,u,rfl,e⟩
    · exact nomatch e
    · injection e with e1 _
      subst e1
      cases v <;> rfl
end L2
namespace L2
open PySem PySem.Spec PyProof.Rows
inductive V where
  | non | bl (b:Bool) | int (i:Int) | str (x:Str) | byt (b:Array UInt8) | flt (b:UInt64) | ref (a:Addr) | ty (n:String)
  deriving DecidableEq
def RelV:V→Value→Prop
  | .non,u=>u=Value.none
  | .bl b,u=>u=Value.bool b
  | .int i,u=>∃ t,u=Value.int i t
  | .str x,u=>∃ t,u=Value.str x t
  | .byt b,u=>∃ t,u=Value.bytes b t
  | .flt b,u=>∃ t,u=Value.float b t
  | .ref a,u=>u=Value.ref a
  | .ty n,u=>u=Value.type n
abbrev Vals:List V→List Value→Prop:=Paired RelV
theorem Vals.length {xs:List V}{us:List Value}(r:Vals xs us):xs.length=us.length:=Paired.length r
theorem Vals.get:∀ {xs:List V}{us:List Value}{i:Nat}{x:V},Vals xs us→xs[i]?=some x→∃ u,us[i]?=some u∧RelV x u
  | _,_,_,_,.nil,e=>by simp at e
  | _,_,0,_,.cons r _,e=>by simp at e; subst e; exact ⟨_,rfl,r⟩
  | _,_,i+1,x,.cons _ t,e=>by
    obtain ⟨u,h1,h2⟩:=Vals.get (i:=i) (x:=x) t (by simpa using e)
    exact ⟨u,by simpa using h1,h2⟩
theorem Vals.set {x:V}{u:Value}(r:RelV x u):∀ {xs:List V}{us:List Value}(i:Nat),Vals xs us→Vals (xs.set i x) (us.set i u)
  | _,_,_,.nil=>.nil
  | _,_,0,.cons _ t=>.cons r t
  | _,_,i+1,.cons q t=>.cons q (Vals.set r i t)
theorem Vals.append:∀ {xs ys:List V}{us ws:List Value},Vals xs us→Vals ys ws→Vals (xs++ys) (us++ws)
  | _,_,_,_,.nil,s=>s
  | _,_,_,_,.cons r t,s=>.cons r (Vals.append t s)
theorem Vals.take:∀ {xs:List V}{us:List Value}(n:Nat),Vals xs us→Vals (xs.take n) (us.take n)
  | _,_,0,_=>.nil
  | _,_,_+1,.nil=>.nil
  | _,_,n+1,.cons r t=>.cons r (Vals.take n t)
theorem Vals.drop:∀ {xs:List V}{us:List Value}(n:Nat),Vals xs us→Vals (xs.drop n) (us.drop n)
  | _,_,0,r=>r
  | _,_,_+1,.nil=>.nil
  | _,_,n+1,.cons _ t=>Vals.drop n t
theorem Vals.none_of:∀ {xs:List V}{us:List Value}{i:Nat},Vals xs us→xs[i]?=none→us[i]?=none:=fun {xs us i} r e=>by
  have h1:=r.length
  have h2:xs.length≤i:=List.getElem?_eq_none_iff.mp e
  exact List.getElem?_eq_none_iff.mpr (by omega)
def RelO:Option V→Option Value→Prop
  | some v,some u=>RelV v u
  | none,none=>True
  | _,_=>False
def KV {κ:Type}:List (κ × V)→List (κ × Value)→Prop:=Paired fun (p:κ × V) (q:κ × Value)=>p.1=q.1∧RelV p.2 q.2
def kV:Key→V
  | .inl i=>.int i
  | .inr x=>.str x
inductive HO where
    | lst (xs:List V)
    | tup (xs:List V)
    | dK (kvs:List (Key × V)) | dT (kvs:List (List Key × V))
    | set (S:Int→Bool) (n:Nat)
    | ins (C dx:Addr) (fs:List (Str × V))
    | own (x:Addr)
    | xd (fs:List (Str × V))
    | met (f x:Addr)
    | rng (lo hi:Int)
    | frz (o:Obj) (u:HO)
    | tbl (ps:Array Value)
    | ext (φ:Heap→Prop)
abbrev Hp:=Addr→Option HO
def upd (H:Hp) (a:Addr) (o:HO):Hp:=fun b=>if b=a then some o else H b
theorem upd_same {H:Hp}{a:Addr}{o:HO}:upd H a o a=some o:=by unfold upd; rw [if_pos rfl]
theorem upd_ne {H:Hp}{a b:Addr}{o:HO}(h:b≠a):upd H a o b=H b:=by unfold upd; rw [if_neg h]
theorem ne_of {H:Hp}{a b:Addr}{o u:HO}(h:H a=some o) (h':H b=some u) (d:o≠u):a≠b:=by
  intro e; subst e; rw [h] at h'; exact d (Option.some.inj h')
theorem ne_of_none {H:Hp}{a b:Addr}{o:HO}(h:H a=some o) (h':H b=none):a≠b:=by
  intro e; subst e; rw [h] at h'; cases h'
section
variable (P:Program) (w:World)
def ObjOk (H:Hp) (h:Heap) (a:Addr):HO→Prop
  | .lst xs=>xs.length≤sizeLine∧∃ (its:List Value) (n:Nat),Vals xs its∧h.get? a=some { cls:=.type "list",data:=.seq its.toArray n }
  | .tup xs=>xs.length≤sizeLine∧∃ its:List Value,Vals xs its∧IsTup h a its.toArray
  | .dK kvs=>kvs.length≤sizeLine∧(a == sysModules)=false∧∃ vs,KV kvs vs∧h.DictOf (mixKind P w) a vs
  | .dT kvs=>kvs.length≤sizeLine∧(a == sysModules)=false∧∃ xs:List (List Key × Addr × Value),
      Paired (fun (p:List Key × V) (q:List Key × Addr × Value)=>p.1=q.1∧H q.2.1=some (.tup (p.1.map kV))∧RelV p.2 q.2.2) kvs xs ∧
      ∃ o es ep,h.get? a=some o∧o.ExactDict∧o.data=.dict es ep∧es.toList=xs.map (entryOfKey (tupleKind (mixKind P w)))∧(xs.map (·.1)).Nodup
  | .set S n=>h.SetOf (intKind P w) a S n
  | .ins C dx fs=>H dx=some (.own a)∧fs.length≤1000∧dx≠a∧h.get? a=some (PySem.W.instObj C dx) ∧
      ∃ mA,h.Ns1 dx mA∧(∀ f,RelO (fs.lookup f) (mA f))∧PySem.Within mA (fs.map (·.1))
  | .own _=>∃ o,h.get? a=some o
  | .xd fs=>∃ mA,h.Ns1 a mA∧∀ f,RelO (fs.lookup f) (mA f)
  | .rng lo hi=>∃ t u v,h.get? a=some { cls:=.type "range",data:=.fields #[.int lo t,.int hi u,.int 1 v] }
  | .frz o u=>h.get? a=some o∧ObjOk H h a u
  | .tbl ps=>h.get? a=some { cls:=.none,data:=.fields ps }
  | .met f x=>h.get? a=some (PySem.W.methodObj (.ref f) (.ref x))
  | .ext φ=>φ h∧(∃ o,h.get? a=some o)∧∀ h1 h2:Heap,φ h1→(∀ o,h1.get? a=some o→h2.get? a=some o)→φ h2
def HOk (H:Hp) (h:Heap):Prop:=∀ a o,H a=some o→ObjOk P w H h a o
end
section
variable {P:Program}{w:World}{H H':Hp}{h h':Heap}{a:Addr}{o:HO}
theorem ObjOk.lt (x:ObjOk P w H h a o):a < h.objs.size:=by
  cases o with
  | lst xs=>obtain ⟨_,_,_,_,e⟩:=x; exact Heap.lt_size e
  | tup xs=>obtain ⟨_,_,_,p⟩:=x; exact p.lt
  | dK kvs=>obtain ⟨_,_,_,_,o,_,_,e,_⟩:=x; exact Heap.lt_size e
  | dT kvs=>obtain ⟨_,_,_,_,o,_,_,e,_⟩:=x; exact Heap.lt_size e
  | set S n=>obtain ⟨o,_,_,_,e,_⟩:=x; exact Heap.lt_size e
  | ins C dx fs=>obtain ⟨_,_,_,e,_⟩:=x; exact Heap.lt_size e
  | own y=>obtain ⟨_,e⟩:=x; exact Heap.lt_size e
  | xd fs=>obtain ⟨_,⟨_,_,_,e,_⟩,_⟩:=x; exact Heap.lt_size e
  | rng lo hi=>obtain ⟨_,_,_,e⟩:=x; exact Heap.lt_size e
  | frz ob u=>obtain ⟨e,_⟩:=x; exact Heap.lt_size e
  | tbl ps=>exact Heap.lt_size (show h.get? a=some _ from x)
  | met f y=>exact Heap.lt_size (show h.get? a=some _ from x)
  | ext φ=>obtain ⟨_,⟨_,e⟩,_⟩:=x; exact Heap.lt_size e
theorem Paired.mapP {α β:Type}{F G:α→β→Prop}:∀ {l₁:List α}{l₂:List β},Paired F l₁ l₂→(∀ a b,F a b→G a b)→Paired G l₁ l₂
  | _,_,.nil,_=>.nil
  | _,_,.cons r t,f=>.cons (f _ _ r) (Paired.mapP t f)
theorem ObjOk.stay (x:ObjOk P w H h a o) (k:∀ b u,(b=a∨H b=some (.own a))→h.get? b=some u→h'.get? b=some u)
    (ho:∀ b,H b=some (.own a)→H' b=some (.own a)) (ht:∀ b xs,H b=some (.tup xs)→H' b=some (.tup xs)):ObjOk P w H' h' a o:=by
  induction o with
  | lst xs=>obtain ⟨z,its,n,r,e⟩:=x; exact ⟨z,its,n,r,k _ _ (.inl rfl) e⟩
  | tup xs=>obtain ⟨z,its,r,ob,e,c⟩:=x; exact ⟨z,its,r,ob,k _ _ (.inl rfl) e,c⟩
  | dK kvs=>obtain ⟨z,y,vs,r,ob,es,ep,e,c⟩:=x; exact ⟨z,y,vs,r,ob,es,ep,k _ _ (.inl rfl) e,c⟩
  | dT kvs =>
    obtain ⟨z,y,xs,r,ob,es,ep,e,c⟩:=x
    exact ⟨z,y,xs,Paired.mapP r fun p q z=>⟨z.1,ht _ _ z.2.1,z.2.2⟩,ob,es,ep,k _ _ (.inl rfl) e,c⟩
  | set S n=>obtain ⟨ob,es,ep,t,e,c⟩:=x; exact ⟨ob,es,ep,t,k _ _ (.inl rfl) e,c⟩
  | ins C dx fs =>
    obtain ⟨d,z,ne,e,mA,⟨od,es,ep,e2,c⟩,r⟩:=x
    exact ⟨ho _ d,z,ne,k _ _ (.inl rfl) e,mA,⟨od,es,ep,k _ _ (.inr d) e2,c⟩,r⟩
  | own y=>obtain ⟨ob,e⟩:=x; exact ⟨ob,k _ _ (.inl rfl) e⟩
  | xd fs=>obtain ⟨mA,⟨od,es,ep,e,c⟩,r⟩:=x; exact ⟨mA,⟨od,es,ep,k _ _ (.inl rfl) e,c⟩,r⟩
  | rng lo hi=>obtain ⟨t,u,v,e⟩:=x; exact ⟨t,u,v,k _ _ (.inl rfl) e⟩
  | frz ob u ih=>obtain ⟨e,q⟩:=x; exact ⟨k _ _ (.inl rfl) e,ih q⟩
  | tbl ps =>
    have e:h.get? a=some { cls:=.none,data:=.fields ps }:=x
    show h'.get? a=some { cls:=.none,data:=.fields ps }
    exact k a _ (.inl rfl) e
  | met f y =>
    have e:h.get? a=some (PySem.W.methodObj (.ref f) (.ref y)):=x
    show h'.get? a=some (PySem.W.methodObj (.ref f) (.ref y))
    exact k a _ (.inl rfl) e
  | ext φ=>obtain ⟨p,⟨o,e⟩,st⟩:=x; exact ⟨st _ _ p fun o q=>k _ _ (.inl rfl) q,⟨o,k _ _ (.inl rfl) e⟩,st⟩
theorem HOk.lt (x:HOk P w H h) (e:H a=some o):a < h.objs.size:=(x a o e).lt
theorem HOk.fresh (x:HOk P w H h) (e:h.objs.size≤a):H a=none:=by
  cases q:H a with
  | none=>rfl
  | some u=>exact absurd (Nat.lt_of_lt_of_le (x.lt q) e) (Nat.lt_irrefl _)
theorem HOk.kept (x:HOk P w H h) (k:∀ b u,h.get? b=some u→h'.get? b=some u):HOk P w H h':=fun a o e =>
  (x a o e).stay (fun b u _ q=>k b u q) (fun _ q=>q) fun _ _ q=>q
theorem HOk.laid (x:HOk P w H h) (k:∀ b u,h.get? b=some u→h'.get? b=some u) (hp:h.objs.size≤a) (new:ObjOk P w (upd H a o) h' a o):HOk P w (upd H a o) h':=fun b u e=>by
  have hn:=x.fresh hp
  by_cases hb:b=a
  · subst hb; rw [upd_same] at e; cases e; exact new
  · rw [upd_ne hb] at e
    exact (x b u e).stay (fun c v _ q=>k c v q) (fun c q=>by rw [upd_ne (ne_of_none q hn)]; exact q) fun c xs q=>by rw [upd_ne (ne_of_none q hn)]; exact q
end
def Rd (H:Hp) (a:Addr) (u:HO):Prop:=H a=some u∨∃ o,H a=some (.frz o u)
theorem Rd.of {H:Hp}{a:Addr}{u:HO}(h:H a=some u):Rd H a u:=.inl h
theorem Rd.ok {P:Program}{w:World}{H:Hp}{h:Heap}{a:Addr}{u:HO}(r:Rd H a u) (x:HOk P w H h):ObjOk P w H h a u:=by
  rcases r with r | ⟨o,r⟩
  · exact x a u r
  · obtain ⟨_,q⟩:=x a _ r
    exact q
def Mut:Option HO→Prop
  | some (.lst _)=>True
  | some (.dK _)=>True
  | some (.dT _)=>True
  | some (.set _ _)=>True
  | some (.ins _ _ _)=>True
  | some (.ext _)=>True
  | _=>False
section
variable {P:Program}{w:World}{H:Hp}{h h':Heap}{x e:Addr}{o':HO}
theorem HOk.write (ok:HOk P w H h) (mu:Mut (H x)) (he:e=x∨H e=some (.own x)) (k:∀ b u,b≠e→h.get? b=some u→h'.get? b=some u) (heo:∃ u,h'.get? e=some u)
    (new:ObjOk P w (upd H x o') h' x o'):HOk P w (upd H x o') h':=fun b u q=>by
  have nown:∀ c y,H c=some (.own y)→c≠x:=fun c y r z=>by subst z; rw [r] at mu; exact mu
  have ntup:∀ c xs,H c=some (.tup xs)→c≠x:=fun c xs r z=>by subst z; rw [r] at mu; exact mu
  by_cases hb:b=x
  · subst hb; rw [upd_same] at q; cases q; exact new
  · rw [upd_ne hb] at q
    by_cases hbe:b=e
    · have q':H b=some (.own x):=by
        rcases he with z | z
        · exact absurd (hbe.trans z) hb
        · rw [hbe]; exact z
      rw [q] at q'; cases q'
      obtain ⟨v,hv⟩:=heo
      exact ⟨v,by rw [hbe]; exact hv⟩
    · refine (ok b u q).stay (fun c v hc r=>k c v ?_ r) (fun c r=>by rw [upd_ne (nown c b r)]; exact r) fun c xs r=>by rw [upd_ne (ntup c xs r)]; exact r
      rcases hc with rfl | hc
      · exact hbe
      · rintro rfl
        rcases he with z | z
        · exact nown c b hc z
        · rw [hc] at z; cases z; exact hb rfl
end
structure Un (fs ex:List Addr) (H H':Hp) (h h':Heap):Prop where
  keep:∀ b o,h.get? b=some o→H b=none→b ∉ fs→b ∉ ex→h'.get? b=some o
  slot:∀ b o,h.get? b=some o→H b=none→b∈fs→b ∉ ex→∃ sl,h'.get? b=some { o with slots:=sl }
  free:∀ b o,h.get? b=some o→H b=none→b ∉ ex→H' b=none
  there:∀ b o,h.get? b=some o→b ∉ ex→∃ o',h'.get? b=some o'
  tups:∀ b xs,H b=some (.tup xs)→H' b=some (.tup xs)
  frzs:∀ b o u,H b=some (.frz o u)→H' b=some (.frz o u)
  tbls:∀ b ps,H b=some (.tbl ps)→∃ more,H' b=some (.tbl (ps++more))
section
variable {fs fs' ex ex':List Addr}{H H1 H2:Hp}{h h1 h2 h':Heap}{a x e:Addr}{o:HO}
theorem Un.any (u:Un fs ex H H1 h h1) {b:Addr}{ob:Obj}(q:h.get? b=some ob) (n:H b=none) (hx:b ∉ ex):∃ sl,h1.get? b=some { ob with slots:=sl }:=by
  by_cases hb:b∈fs
  · exact u.slot b ob q n hb hx
  · exact ⟨ob.slots,u.keep b ob q n hb hx⟩
theorem Un.trans (a:Un fs ex H H1 h h1) (b:Un fs ex H1 H2 h1 h2):Un fs ex H H2 h h2 where
  keep:=fun c ob q n hc hx=>b.keep c ob (a.keep c ob q n hc hx) (a.free c ob q n hx) hc hx
  slot:=fun c ob q n hc hx=>by
    obtain ⟨sl,e1⟩:=a.slot c ob q n hc hx
    obtain ⟨sl',e2⟩:=b.slot c _ e1 (a.free c ob q n hx) hc hx
    exact ⟨sl',e2⟩
  free:=fun c ob q n hx=>by
    obtain ⟨o',e1⟩:=a.there c ob q hx
    exact b.free c o' e1 (a.free c ob q n hx) hx
  there:=fun c ob q hx=>by
    obtain ⟨o',e1⟩:=a.there c ob q hx
    exact b.there c o' e1 hx
  tups:=fun c xs q=>b.tups c xs (a.tups c xs q)
  frzs:=fun c ob xs q=>b.frzs c ob xs (a.frzs c ob xs q)
  tbls:=fun c ps q=>by
    obtain ⟨m1,e1⟩:=a.tbls c ps q
    obtain ⟨m2,e2⟩:=b.tbls c _ e1
    exact ⟨m1++m2,by rw [e2,Array.append_assoc]⟩
theorem Un.kept (k:∀ b u,h.get? b=some u→h'.get? b=some u):Un fs ex H H h h' :=
  ⟨fun b ob q _ _ _=>k b ob q,fun b ob q _ _ _=>⟨ob.slots,k b ob q⟩,fun _ _ _ n _=>n,fun b ob q _=>⟨ob,k b ob q⟩,fun _ _ q=>q,fun _ _ _ q=>q,fun _ ps q=>⟨#[],by rw [q]; simp⟩⟩
theorem Un.refl:Un fs ex H H h h:=Un.kept fun _ _ q=>q
theorem Un.laid (k:∀ b u,h.get? b=some u→h'.get? b=some u) (hp:h.objs.size≤a) (hn:H a=none):Un fs ex H (upd H a o) h h' where
  keep:=fun b u q _ _ _=>k b u q
  slot:=fun b u q _ _ _=>⟨u.slots,k b u q⟩
  free:=fun b u q n _=>by rw [upd_ne (Nat.ne_of_lt (Nat.lt_of_lt_of_le (Heap.lt_size q) hp))]; exact n
  there:=fun b u q _=>⟨u,k b u q⟩
  tups:=fun b xs q=>by rw [upd_ne (ne_of_none q hn)]; exact q
  frzs:=fun b u xs q=>by rw [upd_ne (ne_of_none q hn)]; exact q
  tbls:=fun b ps q=>⟨#[],by rw [upd_ne (ne_of_none q hn),q]; simp⟩
theorem Un.write (mu:Mut (H x)) (he:e=x∨H e=some (.own x)) (k:∀ b u,b≠e→h.get? b=some u→h'.get? b=some u) (heo:∃ u,h'.get? e=some u):Un fs ex H (upd H x o) h h':=by
  have hx:∀ b,H b=none→b≠x:=fun b n z=>by subst z; rw [n] at mu; exact mu
  have hb:∀ b,H b=none→b≠e:=fun b n z=>by
    subst z
    rcases he with r | r
    · exact hx b n r
    · rw [n] at r; cases r
  have hm:∀ b u,H b=some u→¬ Mut (some u)→b≠x:=fun b u q nm z=>by subst z; rw [q] at mu; exact nm mu
  refine ⟨fun b u q n _ _=>k b u (hb b n) q,fun b u q n _ _=>⟨u.slots,k b u (hb b n) q⟩,fun b u q n _=>by rw [upd_ne (hx b n)]; exact n,fun b u q _=>?_,
    fun b xs q=>by rw [upd_ne (hm b _ q fun z=>z)]; exact q,fun b u xs q=>by rw [upd_ne (hm b _ q fun z=>z)]; exact q,fun b ps q=>⟨#[],by rw [upd_ne (hm b _ q fun z=>z),q]; simp⟩⟩
  by_cases hbe:b=e
  · subst hbe; exact heo
  · exact ⟨u,k b u hbe q⟩
theorem Un.mono (u:Un fs ex H H1 h h1) (hs:∀ b∈fs,b∈fs') (hx:∀ b∈ex,b∈ex'):Un fs' ex' H H1 h h1 :=
  ⟨fun b ob q n hb he=>u.keep b ob q n (fun z=>hb (hs b z)) fun z=>he (hx b z),fun _ _ q n _ he=>u.any q n fun z=>he (hx _ z),fun b ob q n he=>u.free b ob q n fun z=>he (hx b z),fun b ob q he=>u.there b ob q fun z=>he (hx b z),u.tups,u.frzs,u.tbls⟩
end
def trk (h:Heap) (H:Hp):List Addr:=(List.range h.objs.size).filter fun a=>(H a).isSome
def hidT (h:Heap) (H:Hp):Heap:=PySem.W.hideAll h (trk h H)
theorem hidT_size (h:Heap) (H:Hp):(hidT h H).objs.size=h.objs.size:=PySem.W.hideAll_size _ _
theorem hidT_get {h:Heap}{H:Hp}{b:Addr}{o:Obj}(e:h.get? b=some o) (n:H b=none):(hidT h H).get? b=some o :=
  PySem.W.hideAll_get _ e fun hm=>by
    have q:(H b).isSome=true:=(List.mem_filter.mp hm).2
    rw [n] at q; simp at q
theorem of_hidT {h:Heap}{H:Hp}{b:Addr}{o:Obj}(e:(hidT h H).get? b=some o):h.get? b=some o∧H b=none:=by
  have e':h.get? b=some o:=PySem.W.of_hideAll (trk h H) e
  refine ⟨e',?_⟩
  cases q:H b with
  | none=>rfl
  | some x =>
    have hm:b∈trk h H:=List.mem_filter.mpr ⟨List.mem_range.mpr (Heap.lt_size e'),by simp [q]⟩
    have z:(hidT h H).get? b=none:=PySem.W.hideAll_none (trk h H) hm
    rw [z] at e; cases e
def allNews (g h:Heap) (L:Addr):List (Addr × Obj):=(List.range h.objs.size).filterMap fun a=>if a=L∨(g.get? a).isSome=true then none else (h.get? a).map fun o=>(a,o)
def rest (g h:Heap) (L d:Addr):List (Addr × Obj):=(allNews g h L).filter fun p=>decide (p.1≠d)
end L2
namespace L2
open PySem PySem.Spec PyProof.Rows
structure Mod (K:PySem.W.Frag) (mg:Str→Option Value) (base:Heap):Prop where
  kin:K.In base
  glob:base.Ns mainGlobals mg
  blt:∃ mb,base.Ns builtinsNs mb∧∀ x:Str,x≠"__name__"→mb x=bootBuiltins x
  nolimit:base.NoLimit
structure Cx where
  prog:Program
  w:World
  K:PySem.W.Frag
  mg:Str→Option Value
  base:Heap
  A:Around
  N:List Str
  s₀:Shared
  H₀:Hp
  env:Env
  outer:List Env
  stack:List Env
  ex:List Addr
  fn:Str→Bool
  calm:Bool
  pn:List (Addr × Obj)
  xe:Value→Shared→Prop
def frs (l:List Env):List Addr:=l.filterMap (·.frame)
abbrev Cx.fs (X:Cx):List Addr:=frs X.outer
def Vis (sc:Scope) (x:Str):Prop:=sc.names.lookup x=some .local∨sc.names.lookup x=some .cell∨sc.names.lookup x=some .free
def Loc (sc:Scope) (x:Str):Prop:=sc.names.lookup x=some .local∨sc.names.lookup x=some .cell
def Look (env:Env) (h:Heap) (m:Str→Option Value) (x:Str) (u:Value):Prop :=
  (env.kindOf x=some .local∧m x=some u)∨((env.kindOf x=some .cell∨env.kindOf x=some .free)∧∃ c,env.cells.lookup x=some c∧h.IsCell c (some u))
structure Cx.Ok (X:Cx):Prop where
  mod:Mod X.K X.mg X.base
  kind:X.env.scope.kind=.function
  glob:X.env.globals=mainGlobals
  blt:X.env.builtins=builtinsNs
  above:X.s₀.heap.objs.size≤X.env.locals
  inj:∀ x y c,X.env.cells.lookup x=some c→X.env.cells.lookup y=some c→x=y
  has:∀ x,(X.env.kindOf x=some .cell∨X.env.kindOf x=some .free)→∃ c,X.env.cells.lookup x=some c
  cab:∀ x c,X.fn x=true→X.env.cells.lookup x=some c→X.s₀.heap.objs.size≤c
  hd:X.calm=true→X.A.handled=none
  frames:X.A.frames=some X.stack
  stk:X.stack=X.outer∨(X.stack=X.env::X.outer∧X.env.frame=some X.env.locals)
  exf:∀ b∈X.ex,b≠X.env.locals∧∀ x c,X.env.cells.lookup x=some c→c≠b
  bs:∀ b o,X.base.get? b=some o→X.s₀.heap.get? b=some o∧X.H₀ b=none
  bsz:X.base.objs.size≤X.s₀.heap.objs.size
  noex:∀ b o,X.base.get? b=some o→b ∉ X.ex
  exfs:∀ b∈X.ex,b ∉ X.fs
  funs:X.s₀.heap.FunFrames X.base X.outer
  frf:∀ b∈X.fs,X.H₀ b=none
structure Inv (X:Cx) (pins:List (Addr × Obj)) (σ:List (Option V)) (H:Hp) (s:Shared):Prop where
  ok:X.Ok
  os:s.os=X.s₀.os
  bare:AllBare s.gens
  base:Un X.fs X.ex X.H₀ H X.s₀.heap s.heap
  loc:∃ m,s.heap.Ns X.env.locals m∧∀ (i:Nat) (x:Str) (v:V),X.N[i]?=some x→σ[i]?=some (some v)→Vis X.env.scope x→∃ u,RelV v u∧Look X.env s.heap m x u
  cell:∀ x c,X.env.cells.lookup x=some c→∃ v,s.heap.IsCell c v
  free:H X.env.locals=none
  freeC:∀ x c,X.env.cells.lookup x=some c→H c=none
  pin:∀ p∈X.pn++pins,s.heap.get? p.1=some p.2∧H p.1=none∧p.1≠X.env.locals∧p.1 ∉ X.fs∧∀ v,p.2.data≠.cell v
  hok:HOk X.prog X.w H s.heap
  len:σ.length=X.N.length
section
variable {X:Cx}{pins:List (Addr × Obj)}{σ:List (Option V)}{H H':Hp}{s:Shared}{h':Heap}
theorem Cx.Ok.nofr (ok:X.Ok) {b:Addr}{o:Obj}(e:X.base.get? b=some o):b ∉ X.fs:=fun hb=>by
  have:=(ok.funs.mem hb).1
  rw [e] at this; cases this
theorem Inv.bs (I:Inv X pins σ H s):∀ b o,X.base.get? b=some o→s.heap.get? b=some o∧H b=none:=fun b o e =>
  ⟨I.base.keep b o (I.ok.bs b o e).1 (I.ok.bs b o e).2 (I.ok.nofr e) (I.ok.noex b o e),I.base.free b o (I.ok.bs b o e).1 (I.ok.bs b o e).2 (I.ok.noex b o e)⟩
theorem Inv.bk (I:Inv X pins σ H s):∀ b o,X.base.get? b=some o→s.heap.get? b=some o:=fun b o e=>(I.bs b o e).1
theorem Inv.mod (I:Inv X pins σ H s):Mod X.K X.mg X.base:=I.ok.mod
theorem Inv.kIn (I:Inv X pins σ H s):X.K.In s.heap:=I.ok.mod.kin.keeps I.bk
theorem Inv.nolimit (I:Inv X pins σ H s):s.heap.NoLimit:=I.ok.mod.nolimit.keeps I.bk
theorem Inv.lt (I:Inv X pins σ H s):X.env.locals < s.heap.objs.size:=let ⟨_,hn,_⟩:=I.loc; hn.lt
theorem Inv.sz (I:Inv X pins σ H s):X.s₀.heap.objs.size≤s.heap.objs.size:=Nat.le_trans I.ok.above (Nat.le_of_lt I.lt)
theorem Inv.nofs (I:Inv X pins σ H s) {a:Addr}(h:s.heap.objs.size≤a):a ∉ X.fs:=fun hb=>by
  obtain ⟨_,o,ho,_⟩:=I.ok.funs.mem hb
  exact absurd (Nat.lt_of_lt_of_le (Heap.lt_size ho) (Nat.le_trans I.sz h)) (Nat.lt_irrefl _)
theorem Inv.cne (I:Inv X pins σ H s):∀ x c,X.env.cells.lookup x=some c→c≠X.env.locals:=fun x c e z=>by
  obtain ⟨v,o,ho,hd⟩:=I.cell x c e
  obtain ⟨m,⟨o',es,ep,ho',hd',_⟩,_⟩:=I.loc
  rw [z,ho'] at ho; cases ho; rw [hd'] at hd; cases hd
theorem Inv.funs (I:Inv X pins σ H s):s.heap.FunFrames X.base X.outer:=by
  have all:∀ (l:List Env),(∀ b∈frs l,b∈X.fs)→X.s₀.heap.FunFrames X.base l→s.heap.FunFrames X.base l:=by
    intro l
    induction l with
    | nil=>intro _ _; trivial
    | cons env r ih =>
      intro hs hl
      obtain ⟨hk,⟨L,o,hf,hn,ho,hd⟩,hr⟩:=hl
      have hL:L∈X.fs:=hs L (by unfold frs; rw [List.filterMap_cons,hf]; exact List.mem_cons_self)
      obtain ⟨sl,e⟩:=I.base.slot L o ho (I.ok.frf L hL) hL fun z=>I.ok.exfs L z hL
      exact ⟨hk,⟨L,_,hf,hn,e,hd⟩,ih (fun b hb=>hs b (by unfold frs; rw [List.filterMap_cons,hf]; exact List.mem_cons_of_mem _ hb)) hr⟩
  exact all X.outer (fun _ hb=>hb) I.ok.funs
theorem Inv.stack (I:Inv X pins σ H s):s.heap.FunFrames X.base X.stack:=by
  rcases I.ok.stk with e | ⟨e,hf⟩
  · rw [e]; exact I.funs
  · rw [e]
    obtain ⟨m,hn,_⟩:=I.loc
    refine .cons (by rw [I.ok.kind]; decide) hf hn ?_ I.funs
    exact Heap.get?_none_of_le (Nat.le_trans I.ok.bsz I.ok.above)
theorem Inv.stkSub (I:Inv X pins σ H s):∀ b∈frs X.stack,b∈X.env.locals::X.fs:=fun b hb=>by
  rcases I.ok.stk with e | ⟨e,hf⟩
  · rw [e] at hb; exact List.mem_cons_of_mem _ hb
  · rw [e] at hb
    unfold frs at hb
    rw [List.filterMap_cons,hf] at hb
    exact hb
theorem Inv.stkFree (I:Inv X pins σ H s):∀ b∈frs X.stack,H b=none:=fun b hb=>by
  rcases List.mem_cons.mp (I.stkSub b hb) with e | hb
  · rw [e]; exact I.free
  · obtain ⟨_,o,ho,_⟩:=I.ok.funs.mem hb
    exact I.base.free b o ho (I.ok.frf b hb) fun z=>I.ok.exfs b z hb
theorem Inv.step {g':Array GenState}{t':Nat}{d':Drawn}{ch:List Addr}(I:Inv X pins σ H s)
    (hch:∀ b∈ch,(b∈X.ex∨X.s₀.heap.objs.size≤b)∧b≠X.env.locals∧(∀ x c,X.env.cells.lookup x=some c→c≠b)∧∀ p∈X.pn++pins,p.1≠b)
    (keep:∀ b o,b≠X.env.locals→b ∉ X.fs→b ∉ ch→s.heap.get? b=some o→H b=none→h'.get? b=some o)
    (slot:∀ b o,b≠X.env.locals→b∈X.fs→b ∉ ch→s.heap.get? b=some o→H b=none→∃ sl,h'.get? b=some { o with slots:=sl }) (free:∀ b o,b ∉ ch→s.heap.get? b=some o→H b=none→H' b=none)
    (there:∀ b o,b ∉ ch→s.heap.get? b=some o→∃ o',h'.get? b=some o')
    (tups:∀ b xs,H b=some (.tup xs)→H' b=some (.tup xs)) (frzs:∀ b o u,H b=some (.frz o u)→H' b=some (.frz o u)) (tbls:∀ b ps,H b=some (.tbl ps)→∃ more,H' b=some (.tbl (ps++more)))
    (ns:∀ m,s.heap.Ns X.env.locals m→h'.Ns X.env.locals m) (hok:HOk X.prog X.w H' h') (hg:AllBare g') :
    Inv X pins σ H' { s with heap:=h',gens:=g',drawn:=d',toks:=t' }:=by
  have neL:∀ b o,X.s₀.heap.get? b=some o→b≠X.env.locals:=fun b o e=>Nat.ne_of_lt (Nat.lt_of_lt_of_le (Heap.lt_size e) I.ok.above)
  have neC:∀ b o,X.s₀.heap.get? b=some o→b ∉ X.ex→b ∉ ch:=fun b o e hx hb=>by
    rcases (hch b hb).1 with z | z
    · exact hx z
    · exact absurd (Nat.lt_of_lt_of_le (Heap.lt_size e) z) (Nat.lt_irrefl _)
  have cellK:∀ x c,X.env.cells.lookup x=some c→∀ v,s.heap.IsCell c v→h'.IsCell c v:=fun x c e v ⟨o,ho,hd⟩=>by
    have nch:c ∉ ch:=fun z=>(hch c z).2.2.1 x c e rfl
    by_cases hc:c∈X.fs
    · obtain ⟨sl,q⟩:=slot c o (I.cne x c e) hc nch ho (I.freeC x c e)
      exact ⟨_,q,hd⟩
    · exact ⟨o,keep c o (I.cne x c e) hc nch ho (I.freeC x c e),hd⟩
  refine ⟨I.ok,I.os,hg,⟨fun b o e n hb hx=>?_,fun b o e n hb hx=>?_,fun b o e n hx=>?_,fun b o e hx=>?_,fun b xs e=>tups b xs (I.base.tups b xs e),fun b o xs e=>frzs b o xs (I.base.frzs b o xs e),fun b ps e=>?_⟩,?_,fun x c e=>?_,?_,fun x c e=>?_,fun p hp=>?_,hok,I.len⟩
  · exact keep b o (neL b o e) hb (neC b o e hx) (I.base.keep b o e n hb hx) (I.base.free b o e n hx)
  · obtain ⟨sl,e1⟩:=I.base.slot b o e n hb hx
    obtain ⟨sl',e2⟩:=slot b _ (neL b o e) hb (neC b o e hx) e1 (I.base.free b o e n hx)
    exact ⟨sl',e2⟩
  · obtain ⟨o',e1⟩:=I.base.there b o e hx
    exact free b o' (neC b o e hx) e1 (I.base.free b o e n hx)
  · obtain ⟨o',e1⟩:=I.base.there b o e hx
    exact there b o' (neC b o e hx) e1
  · obtain ⟨m1,e1⟩:=I.base.tbls b ps e
    obtain ⟨m2,e2⟩:=tbls b _ e1
    exact ⟨m1++m2,by rw [e2,Array.append_assoc]⟩
  · obtain ⟨m,hn,hl⟩:=I.loc
    refine ⟨m,ns m hn,fun i x v e1 e2 e3=>?_⟩
    obtain ⟨u,r,l⟩:=hl i x v e1 e2 e3
    refine ⟨u,r,?_⟩
    rcases l with l | ⟨k,c,e,z⟩
    · exact .inl l
    · exact .inr ⟨k,c,e,cellK x c e _ z⟩
  · obtain ⟨v,z⟩:=I.cell x c e
    exact ⟨v,cellK x c e v z⟩
  · obtain ⟨m,⟨o,_,_,ho,_⟩,_⟩:=I.loc
    exact free _ o (fun z=>(hch _ z).2.1 rfl) ho I.free
  · obtain ⟨v,o,ho,hd⟩:=I.cell x c e
    exact free c o (fun z=>(hch c z).2.2.1 x c e rfl) ho (I.freeC x c e)
  · obtain ⟨e,n,ne,nf,d⟩:=I.pin p hp
    have nch:p.1 ∉ ch:=fun z=>(hch p.1 z).2.2.2 p hp rfl
    exact ⟨keep p.1 p.2 ne nf nch e n,free p.1 p.2 nch e n,ne,nf,d⟩
theorem Inv.un {t':Nat}(I:Inv X pins σ H s) (u:Un X.fs [] H H' s.heap h') (hok:HOk X.prog X.w H' h'):Inv X pins σ H' { s with heap:=h',toks:=t' }:=by
  obtain ⟨m,⟨o,es,ep,ho,r⟩,_⟩:=id I.loc
  obtain ⟨sl,hL⟩:=u.any ho I.free (by simp)
  exact I.step (g':=s.gens) (d':=s.drawn) (ch:=[]) (fun _ z=>nomatch z) (fun b o _ hb _ e n=>u.keep b o e n hb (by simp)) (fun b o _ hb _ e n=>u.slot b o e n hb (by simp)) (fun b o _ e n=>u.free b o e n (by simp)) (fun b o _ e=>u.there b o e (by simp)) u.tups u.frzs u.tbls (fun m' hm=>by
    obtain ⟨o',es',ep',ho',r'⟩:=hm
    rw [ho] at ho'; cases ho'
    exact ⟨_,es',ep',hL,r'⟩) hok I.bare
theorem Inv.call {g':Array GenState}{t':Nat}{d':Drawn}{ch:List Addr}(I:Inv X pins σ H s) (u:Un (frs X.stack) ch H H' s.heap h') (hok:HOk X.prog X.w H' h') (hg:AllBare g')
    (hch:∀ b∈ch,(b∈X.ex∨X.s₀.heap.objs.size≤b)∧b≠X.env.locals∧(∀ x c,X.env.cells.lookup x=some c→c≠b)∧∀ p∈X.pn++pins,p.1≠b) :
    Inv X pins σ H' { s with heap:=h',gens:=g',drawn:=d',toks:=t' }:=by
  obtain ⟨m,⟨o,es,ep,ho,r⟩,_⟩:=id I.loc
  obtain ⟨sl,hL⟩:=u.any ho I.free fun z=>(hch _ z).2.1 rfl
  exact I.step (ch:=ch) hch (fun b o hL hb hc e n=>u.keep b o e n (fun z=>(List.mem_cons.mp (I.stkSub b z)).elim hL hb) hc) (fun b o _ _ hc e n=>u.any e n hc) (fun b o hc e n=>u.free b o e n hc) (fun b o hc e=>u.there b o e hc) u.tups u.frzs u.tbls (fun m' hm=>by
    obtain ⟨o',es',ep',ho',r'⟩:=hm
    rw [ho] at ho'; cases ho'
    exact ⟨_,es',ep',hL,r'⟩) hok hg
theorem Inv.turned {t':Nat}{it:Addr}(I:Inv X pins σ H s) (k:∀ b o,b≠it→s.heap.get? b=some o→h'.get? b=some o) (hn:H it=none) (hL:it≠X.env.locals)
    (h1:it∈X.ex∨X.s₀.heap.objs.size≤it) (h2:∀ x c,X.env.cells.lookup x=some c→c≠it) (h3:∀ p∈X.pn++pins,p.1≠it):Inv X pins σ H { s with heap:=h',toks:=t' }:=by
  have nit:∀ b u,H b=some u→b≠it:=fun b u e z=>by rw [z,hn] at e; cases e
  refine I.step (g':=s.gens) (d':=s.drawn) (ch:=[it]) (fun b hb=>?_) (fun b o _ _ hc e _=>k b o (fun z=>hc (by simp [z])) e) (fun b o _ _ hc e _=>⟨o.slots,k b o (fun z=>hc (by simp [z])) e⟩) (fun _ _ _ _ n=>n)
    (fun b o hc e=>⟨o,k b o (fun z=>hc (by simp [z])) e⟩) (fun _ _ e=>e) (fun _ _ _ e=>e) (fun b ps e=>⟨#[],by rw [e]; simp⟩) (fun m hm=>?_) (fun b u e=>?_) I.bare
  · have e:b=it:=by simpa using hb
    subst e
    exact ⟨h1,hL,h2,h3⟩
  · obtain ⟨o,es,ep,ho,r⟩:=hm
    exact ⟨o,es,ep,k _ o (Ne.symm hL) ho,r⟩
  · refine (I.hok b u e).stay (fun c v hc q=>k c v ?_ q) (fun _ q=>q) fun _ _ q=>q
    rcases hc with z | z
    · rw [z]; exact nit b u e
    · exact nit c _ z
theorem Inv.tok (I:Inv X pins σ H s) (t:Nat):Inv X pins σ H { s with toks:=t }:=I.un (h':=s.heap) (t':=t) Un.refl I.hok
theorem Inv.kept {t':Nat}(I:Inv X pins σ H s) (k:∀ b u,s.heap.get? b=some u→h'.get? b=some u):Inv X pins σ H { s with heap:=h',toks:=t' }:=I.un (Un.kept k) (I.hok.kept k)
theorem Inv.laid {a:Addr}{o:HO}{t':Nat}(I:Inv X pins σ H s) (k:∀ b u,s.heap.get? b=some u→h'.get? b=some u) (hp:s.heap.objs.size≤a) (new:ObjOk X.prog X.w (upd H a o) h' a o) :
    Inv X pins σ (upd H a o) { s with heap:=h',toks:=t' }:=I.un (Un.laid k hp (I.hok.fresh hp)) (I.hok.laid k hp new)
theorem Inv.write {x e:Addr}{o:HO}{t':Nat}(I:Inv X pins σ H s) (mu:Mut (H x)) (he:e=x∨H e=some (.own x)) (k:∀ b u,b≠e→s.heap.get? b=some u→h'.get? b=some u) (heo:∃ u,h'.get? e=some u)
    (new:ObjOk X.prog X.w (upd H x o) h' x o):Inv X pins σ (upd H x o) { s with heap:=h',toks:=t' }:=I.un (Un.write mu he k heo) (I.hok.write mu he k heo new)
theorem Inv.pins_of {pins':List (Addr × Obj)}(I:Inv X pins σ H s) (h:∀ p∈pins',s.heap.get? p.1=some p.2∧H p.1=none∧p.1≠X.env.locals∧p.1 ∉ X.fs∧∀ v,p.2.data≠.cell v):Inv X pins' σ H s :=
  ⟨I.ok,I.os,I.bare,I.base,I.loc,I.cell,I.free,I.freeC,fun p hp=>(List.mem_append.mp hp).elim (fun z=>I.pin p (List.mem_append_left _ z)) (h p),I.hok,I.len⟩
theorem nodup_ix {N:List Str}(hN:N.Nodup) {i j:Nat}{x:Str}(a:N[i]?=some x) (b:N[j]?=some x):i=j:=by
  obtain ⟨h1,e1⟩:=List.getElem?_eq_some_iff.mp a
  obtain ⟨h2,e2⟩:=List.getElem?_eq_some_iff.mp b
  exact (List.getElem_inj hN).mp (e1.trans e2.symm)
theorem store_ok2 {M:Model}{A:Around}{E:Value→Shared→Prop}{i:Nat}{x:Str}{v:V}{u:Value}{Q:Unit→Shared→Prop}(I:Inv X pins σ H s) (hN:X.N.Nodup) (hi:X.N[i]?=some x) (hx:Loc X.env.scope x) (r:RelV v u)
    (h:∀ s',Inv X pins (σ.set i (some v)) H s'→(∃ a,Heap.SameBut a s.heap s'.heap∧(a=X.env.locals∨X.env.cells.lookup x=some a))→Q () s') (hf:X.fn x=true∨X.env.scope.names.lookup x=some .local:=by first | exact .inl rfl | exact .inr rfl | assumption):wpAny M A (storeName X.env x u) Q E s:=by
  obtain ⟨m,hn,hl⟩:=id I.loc
  have hcls:(X.env.scope.kind == .class || (X.env.scope.kind == .module && X.env.locals != X.env.globals))=false:=by rw [I.ok.kind]; rfl
  have hiσ:i < σ.length:=by rw [I.len]; exact (List.getElem?_eq_some_iff.mp hi).1
  have cne:=I.cne
  have tracked:∀ {a:Addr}{h':Heap},(∃ o,s.heap.get? a=some o∧H a=none)→Heap.SameBut a s.heap h'→HOk X.prog X.w H h':=fun {a h'} ha hs b ob e=>by
    obtain ⟨_,_,hfree⟩:=ha
    refine (I.hok b ob e).stay (fun c w' hc q=>(hs.2 c ?_).trans q) (fun _ q=>q) fun _ _ q=>q
    rintro rfl
    rcases hc with rfl | hc
    · rw [hfree] at e; cases e
    · rw [hfree] at hc; cases hc
  rcases hx with hk | hk
  · refine wpAny_storeName_local hk hn (fun h' hn' hs=>?_) hcls
    obtain ⟨oL,_,_,hoL,_⟩:=id hn
    refine h _ ⟨I.ok,I.os,I.bare,⟨fun b o e n hb hx=>?_,fun b o e n hb hx=>?_,I.base.free,fun b o e hx=>?_,I.base.tups,I.base.frzs,I.base.tbls⟩,⟨_,hn',fun j y v' e1 e2 e3=>?_⟩,fun y c e=>?_,I.free,I.freeC,fun p hp=>?_,tracked ⟨oL,hoL,I.free⟩ hs,by simpa using I.len⟩ ⟨_,hs,.inl rfl⟩
    · exact (hs.2 b (Nat.ne_of_lt (Nat.lt_of_lt_of_le (Heap.lt_size e) I.ok.above))).trans (I.base.keep b o e n hb hx)
    · obtain ⟨sl,e1⟩:=I.base.slot b o e n hb hx
      exact ⟨sl,(hs.2 b (Nat.ne_of_lt (Nat.lt_of_lt_of_le (Heap.lt_size e) I.ok.above))).trans e1⟩
    · obtain ⟨o',e1⟩:=I.base.there b o e hx
      exact ⟨o',(hs.2 b (Nat.ne_of_lt (Nat.lt_of_lt_of_le (Heap.lt_size e) I.ok.above))).trans e1⟩
    · by_cases hj:j=i
      · subst hj
        rw [hi] at e1; cases e1
        rw [List.getElem?_set_self hiσ] at e2
        cases e2
        exact ⟨u,r,.inl ⟨hk,by simp⟩⟩
      · rw [List.getElem?_set_ne (Ne.symm hj)] at e2
        obtain ⟨u',r',q⟩:=hl j y v' e1 e2 e3
        refine ⟨u',r',?_⟩
        rcases q with ⟨k,e⟩ | ⟨k,c,e,z⟩
        · refine .inl ⟨k,?_⟩
          have:y≠x:=fun e=>hj (nodup_ix hN e1 (e ▸ hi))
          simp [this,e]
        · exact .inr ⟨k,c,e,z.sameBut hs (cne y c e)⟩
    · obtain ⟨w',z⟩:=I.cell y c e
      exact ⟨w',z.sameBut hs (cne y c e)⟩
    · obtain ⟨e,n,ne,nf,d⟩:=I.pin p hp
      exact ⟨(hs.2 p.1 ne).trans e,n,ne,nf,d⟩
  · have hfn:X.fn x=true:=by
      rcases hf with z | z
      · exact z
      · rw [z] at hk; cases hk
    obtain ⟨c,hc⟩:=I.ok.has x (.inl hk)
    obtain ⟨w',z⟩:=I.cell x c hc
    refine wpAny_storeName_cell I.ok.kind hk hc z (fun h' hc' hs=>?_)
    obtain ⟨oc,hoc,hocd⟩:=id z
    refine h { s with heap:=h' } ⟨I.ok,I.os,I.bare,⟨fun b o e n hb hx=>?_,fun b o e n hb hx=>?_,I.base.free,fun b o e hx=>?_,I.base.tups,I.base.frzs,I.base.tbls⟩,⟨m,hn.sameBut hs (Ne.symm (cne x c hc)),fun j y v' e1 e2 e3=>?_⟩,fun y c' e=>?_,I.free,I.freeC,fun p hp=>?_,tracked ⟨oc,hoc,I.freeC x c hc⟩ hs,by simpa using I.len⟩ ⟨c,hs,.inr hc⟩
    · exact (hs.2 b (Nat.ne_of_lt (Nat.lt_of_lt_of_le (Heap.lt_size e) (I.ok.cab x c hfn hc)))).trans (I.base.keep b o e n hb hx)
    · obtain ⟨sl,e1⟩:=I.base.slot b o e n hb hx
      exact ⟨sl,(hs.2 b (Nat.ne_of_lt (Nat.lt_of_lt_of_le (Heap.lt_size e) (I.ok.cab x c hfn hc)))).trans e1⟩
    · obtain ⟨o',e1⟩:=I.base.there b o e hx
      exact ⟨o',(hs.2 b (Nat.ne_of_lt (Nat.lt_of_lt_of_le (Heap.lt_size e) (I.ok.cab x c hfn hc)))).trans e1⟩
    · by_cases hj:j=i
      · subst hj
        rw [hi] at e1; cases e1
        rw [List.getElem?_set_self hiσ] at e2
        cases e2
        exact ⟨u,r,.inr ⟨.inl hk,c,hc,hc'⟩⟩
      · rw [List.getElem?_set_ne (Ne.symm hj)] at e2
        obtain ⟨u',r',q⟩:=hl j y v' e1 e2 e3
        refine ⟨u',r',?_⟩
        rcases q with q | ⟨k,c',e,z'⟩
        · exact .inl q
        · refine .inr ⟨k,c',e,z'.sameBut hs ?_⟩
          rintro rfl
          exact hj (nodup_ix hN e1 (I.ok.inj _ _ _ e hc ▸ hi))
    · by_cases hcc:c'=c
      · subst hcc; exact ⟨_,hc'⟩
      · obtain ⟨w2,z2⟩:=I.cell y c' e
        exact ⟨w2,z2.sameBut hs hcc⟩
    · obtain ⟨e,n,ne,nf,d⟩:=I.pin p hp
      refine ⟨(hs.2 p.1 ?_).trans e,n,ne,nf,d⟩
      intro q
      rw [q,hoc] at e
      have q':oc=p.2:=Option.some.inj e
      exact d w' (by rw [← q']; exact hocd)
theorem store_ok {M:Model}{A:Around}{E:Value→Shared→Prop}{i:Nat}{x:Str}{v:V}{u:Value}{Q:Unit→Shared→Prop}(I:Inv X pins σ H s) (hN:X.N.Nodup) (hi:X.N[i]?=some x) (hx:Loc X.env.scope x) (r:RelV v u)
    (h:∀ s',Inv X pins (σ.set i (some v)) H s'→Q () s') (hf:X.fn x=true∨X.env.scope.names.lookup x=some .local:=by first | exact .inl rfl | exact .inr rfl | assumption):wpAny M A (storeName X.env x u) Q E s :=
  store_ok2 I hN hi hx r (fun s' I' _=>h s' I') hf
theorem Inv.call' {s':Shared}{ch:List Addr}(I:Inv X pins σ H s) (ho:s'.os=s.os) (u:Un (frs X.stack) ch H H' s.heap s'.heap) (hok:HOk X.prog X.w H' s'.heap) (hg:AllBare s'.gens)
    (hch:∀ b∈ch,(b∈X.ex∨X.s₀.heap.objs.size≤b)∧b≠X.env.locals∧(∀ x c,X.env.cells.lookup x=some c→c≠b)∧∀ p∈X.pn++pins,p.1≠b):Inv X pins σ H' s':=by
  obtain ⟨h',g',d',t',o'⟩:=s'
  have e:o'=s.os:=ho
  subst e
  exact I.call (g':=g') (t':=t') (d':=d') u hok hg hch
end
abbrev XK:=Value→Option Addr→Hp→Prop
abbrev St:=List (Option V)
abbrev VK:=V→Hp→Prop
abbrev TE:=St→Hp→VK→Prop
abbrev TT:=St→Hp→(Bool→Hp→Prop)→Prop
abbrev TA:=St→Hp→(List V→Hp→Prop)→Prop
structure Ends where
  nx:St→Hp→Prop
  rt:VK
  bk:St→Hp→Prop:=fun _ _=>False
  ct:St→Hp→Prop:=fun _ _=>False
abbrev TS:=Ends→St→Hp→Prop
def EP (X:Cx) (pins:List (Addr × Obj)) (σ:St) (Q:VK) (u:Value) (s':Shared):Prop:=∃ v H',Inv X pins σ H' s'∧RelV v u∧Q v H'
def TP (X:Cx) (pins:List (Addr × Obj)) (σ:St) (Q:Bool→Hp→Prop) (b:Bool) (s':Shared):Prop:=∃ H',Inv X pins σ H' s'∧Q b H'
def AP (X:Cx) (pins:List (Addr × Obj)) (σ:St) (Q:List V→Hp→Prop) (us:List Value) (s':Shared):Prop:=∃ vs H',Inv X pins σ H' s'∧Vals vs us∧Q vs H'
def SP (X:Cx) (pins:List (Addr × Obj)) (D:Ends) (f:Flow) (s':Shared):Prop :=
  match f with
  | .next=>∃ σ' H',Inv X pins σ' H' s'∧D.nx σ' H'
  | .brk=>∃ σ' H',Inv X pins σ' H' s'∧D.bk σ' H'
  | .cont=>∃ σ' H',Inv X pins σ' H' s'∧D.ct σ' H'
  | .ret u=>∃ v σ' H',Inv X pins σ' H' s'∧RelV v u∧D.rt v H'
def PE (X:Cx) (e:Expr) (t:TE):Prop :=
  ∀ (pins:List (Addr × Obj)) (s:Shared) (σ:St) (H:Hp) (Q:VK),Inv X pins σ H s→t σ H Q→wpAny (model X.prog X.w) X.A (eval e X.env) (EP X pins σ Q) X.xe s
def PT (X:Cx) (e:Expr) (t:TT):Prop :=
  ∀ (pins:List (Addr × Obj)) (s:Shared) (σ:St) (H:Hp) (Q:Bool→Hp→Prop),Inv X pins σ H s→t σ H Q→wpAny (model X.prog X.w) X.A (isTrue e X.env (eval e X.env)) (TP X pins σ Q) X.xe s
def PW (X:Cx) (e:Expr) (t:TT):Prop :=
  ∀ (whole:Sem Value) (pins:List (Addr × Obj)) (s:Shared) (σ:St) (H:Hp) (Q:Bool→Hp→Prop),Inv X pins σ H s→t σ H Q→wpAny (model X.prog X.w) X.A (isTrue e X.env whole) (TP X pins σ Q) X.xe s
theorem PW.pt {X:Cx}{e:Expr}{t:TT}(h:PW X e t):PT X e t:=h _
def PA (X:Cx) (es:List Expr) (t:TA):Prop :=
  ∀ (pos:Pos) (pins:List (Addr × Obj)) (s:Shared) (σ:St) (H:Hp) (Q:List V→Hp→Prop),Inv X pins σ H s→t σ H Q→wpAny (model X.prog X.w) X.A (spliced (backTo pos (starEach es X.env))) (AP X pins σ Q) X.xe s
def PS (X:Cx) (st:Stmt) (t:TS):Prop :=
  ∀ (pins:List (Addr × Obj)) (s:Shared) (σ:St) (H:Hp) (D:Ends),Inv X pins σ H s→t D σ H→wpAny (model X.prog X.w) X.A (exec st X.env) (SP X pins D) X.xe s
def PSs (X:Cx) (st:List Stmt) (t:TS):Prop :=
  ∀ (pins:List (Addr × Obj)) (s:Shared) (σ:St) (H:Hp) (D:Ends),Inv X pins σ H s→t D σ H→wpAny (model X.prog X.w) X.A (execs st X.env) (SP X pins D) X.xe s
theorem thn {α:Type}{t:Sem α}{Q Q':α→Shared→Prop}{M:Model}{A:Around}{E:Value→Shared→Prop}{s:Shared}(h:wpAny M A t Q E s) (hQ:∀ a s,Q a s→Q' a s):wpAny M A t Q' E s:=wpAny_mono h hQ fun _ _ x=>x
end L2
namespace L2
open PySem PySem.Spec PyProof.Rows
section
variable {X:Cx}
def tVar (i:Nat):TE:=fun σ H Q=>∃ v,σ[i]?=some (some v)∧Q v H
def tC (v:V):TE:=fun _ H Q=>Q v H
theorem pe_var {i:Nat}{x:Str}{pos:Pos}(hN:X.N[i]?=some x) (hv:Vis X.env.scope x) (hd:(x == ("__debug__":Str))=false:=by decide) (hcd:(x == ("__classdict__":Str))=false:=by decide):PE X (.Name x pos) (tVar i):=by
  intro pins s σ H Q I h
  obtain ⟨v,e,h⟩:=h
  obtain ⟨m,hn,hl⟩:=I.loc
  obtain ⟨u,r,l⟩:=hl i x v hN e hv
  have fin:EP X pins σ Q u s:=⟨v,H,I,r,h⟩
  rcases l with ⟨hk,hm⟩ | ⟨hk,c,hc,hcell⟩
  · exact wpAny_Name (wpAny_loadName_local I.ok.kind hk hn hm fin) hd
  · rcases hk with hk | hk
    · exact wpAny_Name (wpAny_loadName_cell I.ok.kind hk hc hcell fin) hd
    · exact wpAny_Name (wpAny_loadName_free I.ok.kind hk hc hcell fin hcd) hd
theorem pe_int {i j pos}:PE X (.Constant (.int i) j pos) (tC (.int i)):=fun _ _ _ H _ I h=>wpAny_Constant_int ⟨.int i,H,I.tok _,⟨_,rfl⟩,h⟩
theorem pe_bl {b j pos}:PE X (.Constant (.bool b) j pos) (tC (.bl b)):=fun _ _ _ H _ I h=>Constant_bool ⟨.bl b,H,I,rfl,h⟩
theorem pe_non {j pos}:PE X (.Constant .none j pos) (tC .non):=fun _ _ _ H _ I h=>Constant_none ⟨.non,H,I,rfl,h⟩
theorem pe_str {x j pos}:PE X (.Constant (.str x) j pos) (tC (.str x)):=fun _ _ _ H _ I h=>Calls.Constant_str ⟨.str x,H,I.tok _,⟨_,rfl⟩,h⟩
def Gl (X:Cx) (x:Str):Prop:=X.env.kindOf x=some .globalImplicit
theorem ld_glob {E:Value→Shared→Prop}{pins:List (Addr × Obj)}{s:Shared}{σ:St}{H:Hp}{x:Str}{u:Value}{pos:Pos}{Q:Value→Shared→Prop}(I:Inv X pins σ H s) (hg:Gl X x) (hm:X.mg x=some u) (h:Q u s)
    (hd:(x == ("__debug__":Str))=false:=by decide):wpAny (model X.prog X.w) X.A (eval (.Name x pos) X.env) Q E s :=
  Calls.Name_function_global I.ok.kind hg (Calls.loadGlobal_global (by rw [I.ok.glob]; exact I.mod.glob.keeps I.bk) hm h) hd
theorem ld_blt {E:Value→Shared→Prop}{pins:List (Addr × Obj)}{s:Shared}{σ:St}{H:Hp}{x:Str}{u:Value}{pos:Pos}{Q:Value→Shared→Prop}(I:Inv X pins σ H s) (hg:Gl X x) (hm:X.mg x=none) (hv:bootBuiltins x=some u) (h:Q u s)
    (hn:x≠"__name__":=by decide) (hd:(x == ("__debug__":Str))=false:=by decide):wpAny (model X.prog X.w) X.A (eval (.Name x pos) X.env) Q E s:=by
  obtain ⟨mb,h1,h2⟩:=I.mod.blt
  exact Calls.Name_function_global I.ok.kind hg (Calls.loadGlobal_builtin (by rw [I.ok.glob]; exact I.mod.glob.keeps I.bk) hm (by rw [I.ok.blt]; exact h1.keeps I.bk) ((h2 x hn).trans hv) h) hd
theorem pe_glob {x:Str}{v:V}{u:Value}{pos:Pos}(hg:Gl X x) (hm:X.mg x=some u) (r:RelV v u) (hd:(x == ("__debug__":Str))=false:=by decide):PE X (.Name x pos) (tC v) :=
  fun _ _ _ H _ I h=>ld_glob I hg hm ⟨v,H,I,r,h⟩ hd
theorem pe_bltn {x:Str}{v:V}{u:Value}{pos:Pos}(hg:Gl X x) (hm:X.mg x=none) (hv:bootBuiltins x=some u) (r:RelV v u) (hn:x≠"__name__":=by decide) (hd:(x == ("__debug__":Str))=false:=by decide):PE X (.Name x pos) (tC v) :=
  fun _ _ _ H _ I h=>ld_blt I hg hm hv ⟨v,H,I,r,h⟩ hn hd
variable {a b:Expr}{ta tb:TE}{pos:Pos}
def PC (X:Cx) (op:CmpOp) (a b:Expr) (t:TE):Prop :=
  ∀ (pins:List (Addr × Obj)) (s:Shared) (σ:St) (H:Hp) (Q:VK),Inv X pins σ H s→t σ H Q →
    wpAny (model X.prog X.w) X.A (eval a X.env) (fun v s₁=>wpAny (model X.prog X.w) X.A (eval b X.env) (fun u s₂=>wpAny (model X.prog X.w) X.A (compareOp op v u) (EP X pins σ Q) X.xe s₂) X.xe s₁) X.xe s
theorem nobehind (b:Expr) {op:CmpOp}(h:op≠.In) (h2:op≠.NotIn):behindInMarks op b=false:=by
  have e1:(op == CmpOp.In)=false:=by cases op <;> first | rfl | exact absurd rfl h
  have e2:(op == CmpOp.NotIn)=false:=by cases op <;> first | rfl | exact absurd rfl h2
  cases b <;> simp [behindInMarks,e1,e2]
def tIsN (ta:TE):TE:=fun σ H Q=>ta σ H fun x H1=>Q (.bl (decide (x=.non))) H1
def tNotN (ta:TE):TE:=fun σ H Q=>ta σ H fun x H1=>Q (.bl (!decide (x=.non))) H1
theorem RelV.none_iff {x:V}{v:Value}(r:RelV x v):(v == Value.none)=decide (x=.non):=by
  cases x with
  | non=>cases r; rfl
  | bl _=>cases r; rfl
  | int _=>obtain ⟨t,rfl⟩:=r; rfl
  | str _=>obtain ⟨t,rfl⟩:=r; rfl
  | byt _=>obtain ⟨t,rfl⟩:=r; rfl
  | flt _=>obtain ⟨t,rfl⟩:=r; rfl
  | ref _=>cases r; rfl
  | ty _=>cases r; rfl
theorem pc_isN {j pos'}(ha:PE X a ta):PC X .Is a (.Constant .none j pos') (tIsN ta):=by
  intro pins s σ H Q I h
  refine thn (ha pins s σ H _ I h) fun v s1 ⟨x,H1,I1,r1,q1⟩=>?_
  exact Constant_none (is_none_gen ⟨.bl _,H1,I1,by rw [r1.none_iff]; rfl,q1⟩)
theorem pc_notN {j pos'}(ha:PE X a ta):PC X .IsNot a (.Constant .none j pos') (tNotN ta):=by
  intro pins s σ H Q I h
  refine thn (ha pins s σ H _ I h) fun v s1 ⟨x,H1,I1,r1,q1⟩=>?_
  exact Constant_none (isnot_none_gen ⟨.bl _,H1,I1,by rw [r1.none_iff]; rfl,q1⟩)
def tB (t:TE):TT:=fun σ H Q=>t σ H fun x H1=>∃ c,x=.bl c∧Q c H1
theorem pt_cmp {op:CmpOp}{t:TE}(h:PC X op a b t) (h1:behindInMarks op b=false:=by first | exact nobehind _ (by decide) (by decide) | rfl):PT X (.Compare a [op] [b] pos) (tB t):=by
  intro pins s σ H Q I hw
  refine wpAny_isTrue_Compare1 (thn (h pins s σ H _ I hw) fun v s1 h1=>thn h1 fun u s2 h2=>thn h2 fun c s3 ⟨x,H1,I1,r1,q1⟩=>?_) h1
  obtain ⟨d,rfl,q⟩:=q1
  cases r1
  exact wpAny_truthy_bool ⟨H1,I1,q⟩
theorem pt_val {e:Expr}{t:TE}(h:PE X e t) (he:∀ whole,isTrue e X.env whole=(do let v ← whole; standAt e.pos; holding [v] (truthy v)):=by intro _; rfl):PT X e (tB t):=by
  intro pins s σ H Q I hw
  refine isTrue_plain (thn (h pins s σ H _ I hw) fun v s1 ⟨x,H1,I1,r1,q1⟩=>?_) (he _)
  obtain ⟨d,rfl,q⟩:=q1
  cases r1
  exact wpAny_truthy_bool ⟨H1,I1,q⟩
variable {tA tB':TT}{rest:List Expr}
def tAnd (t u:TT):TT:=fun σ H Q=>t σ H fun c H1=>if c=true then u σ H1 Q else Q false H1
def tOr (t u:TT):TT:=fun σ H Q=>t σ H fun c H1=>if c=true then Q true H1 else u σ H1 Q
def tNot (t:TT):TT:=fun σ H Q=>t σ H fun c H1=>Q (!c) H1
theorem pw_and1 (ha:PT X a tA):PW X (.BoolOp .And [a] pos) tA:=by
  intro wh pins s σ H Q I h
  refine isTrue_and (thn (ha pins s σ H Q I h) fun c s1 e=>?_)
  cases c with
  | true=>exact isTrue_and_nil e
  | false=>exact e
theorem pw_or1 (ha:PT X a tA):PW X (.BoolOp .Or [a] pos) tA:=by
  intro wh pins s σ H Q I h
  refine isTrue_or (thn (ha pins s σ H Q I h) fun c s1 e=>?_)
  cases c with
  | false=>exact isTrue_or_nil e
  | true=>exact e
theorem pw_and (ha:PT X a tA) (hb:PW X (.BoolOp .And (b::rest) pos) tB'):PW X (.BoolOp .And (a::b::rest) pos) (tAnd tA tB'):=by
  intro wh pins s σ H Q I h
  refine isTrue_and (thn (ha pins s σ H _ I h) fun c s1 ⟨H1,I1,q1⟩=>?_)
  cases c with
  | true=>exact hb wh pins s1 σ H1 Q I1 q1
  | false=>exact ⟨H1,I1,q1⟩
theorem pw_or (ha:PT X a tA) (hb:PW X (.BoolOp .Or (b::rest) pos) tB'):PW X (.BoolOp .Or (a::b::rest) pos) (tOr tA tB'):=by
  intro wh pins s σ H Q I h
  refine isTrue_or (thn (ha pins s σ H _ I h) fun c s1 ⟨H1,I1,q1⟩=>?_)
  cases c with
  | true=>exact ⟨H1,I1,q1⟩
  | false=>exact hb wh pins s1 σ H1 Q I1 q1
theorem pt_not (ha:PT X a tA):PT X (.UnaryOp .Not a pos) (tNot tA):=by
  intro pins s σ H Q I h
  exact isTrue_not (ha pins s σ H (fun c H1=>Q (!c) H1) I h)
def tAndV (ta tb:TE):TE:=fun σ H Q=>ta σ H fun x H1=>∃ c,x=.bl c∧if c=true then tb σ H1 Q else Q (.bl false) H1
def tOrV (ta tb:TE):TE:=fun σ H Q=>ta σ H fun x H1=>∃ c,x=.bl c∧if c=true then Q (.bl true) H1 else tb σ H1 Q
def tNotV (ta:TE):TE:=fun σ H Q=>ta σ H fun x H1=>∃ c,x=.bl c∧Q (.bl (!c)) H1
theorem pe_one {op}{t:TE}(h:PE X a t):PE X (.BoolOp op [a] pos) t:=fun pins s σ H Q I hw=>BoolOp_one (h pins s σ H Q I hw)
theorem pe_and (ha:PE X a ta) (hb:PE X (.BoolOp .And (b::rest) pos) tb):PE X (.BoolOp .And (a::b::rest) pos) (tAndV ta tb):=by
  intro pins s σ H Q I h
  refine BoolOp_and (thn (ha pins s σ H _ I h) fun v s1 ⟨x,H1,I1,r1,q1⟩=>?_)
  obtain ⟨c,rfl,q1⟩:=q1
  cases r1
  refine wpAny_truthy_bool ?_
  cases c with
  | true=>exact hb pins s1 σ H1 Q I1 q1
  | false=>exact ⟨.bl false,H1,I1,rfl,q1⟩
theorem pe_not (ha:PE X a ta):PE X (.UnaryOp .Not a pos) (tNotV ta):=by
  intro pins s σ H Q I h
  refine UnaryOp_ (thn (ha pins s σ H _ I h) fun v s1 ⟨x,H1,I1,r1,q1⟩=>?_)
  obtain ⟨c,rfl,q1⟩:=q1
  cases r1
  exact not_of (wpAny_truthy_bool ⟨.bl (!c),H1,I1,rfl,q1⟩)
def tIf (t:TT) (ta tb:TE):TE:=fun σ H Q=>t σ H fun c H1=>if c=true then ta σ H1 Q else tb σ H1 Q
theorem pe_ifExp {c:Expr}(hc:PT X c tA) (ha:PE X a ta) (hb:PE X b tb):PE X (.IfExp c a b pos) (tIf tA ta tb):=by
  intro pins s σ H Q I h
  refine wpAny_IfExp (thn (hc pins s σ H _ I h) fun d s1 ⟨H1,I1,q1⟩=>?_)
  cases d with
  | true=>exact ha pins s1 σ H1 Q I1 q1
  | false=>exact hb pins s1 σ H1 Q I1 q1
end
end L2
namespace L2
open PySem PySem.Spec PyProof.Rows
def SqL (K:PySem.W.Frag) (H:Hp) (a:Addr) (xs:List V):Prop :=
  Rd H a (.lst xs) ∨
    ∃ (o:Obj) (its:Array Value) (n:Nat),K.lookup a=some o∧o.cls=.type "list"∧o.dict=none∧o.data=.seq its n∧its.size≤sizeLine∧Vals xs its.toList
def SqT (K:PySem.W.Frag) (H:Hp) (a:Addr) (xs:List V):Prop :=
  Rd H a (.tup xs) ∨
    ∃ (o:Obj) (its:Array Value) (n:Nat),K.lookup a=some o∧o.cls=.type "tuple"∧o.data=.seq its n∧its.size≤sizeLine∧Vals xs its.toList
def absV:Value→Option V
  | .none=>some .non
  | .bool b=>some (.bl b)
  | .int i _=>some (.int i)
  | .str x _=>some (.str x)
  | .bytes b _=>some (.byt b)
  | .float b _=>some (.flt b)
  | .ref a=>some (.ref a)
  | .type n=>some (.ty n)
  | _=>none
theorem RelV.abs {x:V}{u:Value}(r:RelV x u):absV u=some x:=by
  cases x with
  | non=>cases r; rfl
  | bl _=>cases r; rfl
  | int _=>obtain ⟨t,rfl⟩:=r; rfl
  | str _=>obtain ⟨t,rfl⟩:=r; rfl
  | byt _=>obtain ⟨t,rfl⟩:=r; rfl
  | flt _=>obtain ⟨t,rfl⟩:=r; rfl
  | ref _=>cases r; rfl
  | ty _=>cases r; rfl
theorem RelV.inj {x y:V}{u:Value}(r:RelV x u) (q:RelV y u):x=y:=Option.some.inj (r.abs.symm.trans q.abs)
theorem Vals.inj:∀ {xs ys:List V}{us:List Value},Vals xs us→Vals ys us→xs=ys
  | _,_,_,.nil,.nil=>rfl
  | _,_,_,.cons r t,.cons r' t'=>by rw [r.inj r',Vals.inj t t']
section
variable {X:Cx}{pins:List (Addr × Obj)}{σ:St}{H:Hp}{s:Shared}{a:Addr}{xs ys:List V}
theorem SqL.of {K:PySem.W.Frag}(h:H a=some (.lst xs)):SqL K H a xs:=.inl (.inl h)
theorem SqT.of {K:PySem.W.Frag}(h:H a=some (.tup xs)):SqT K H a xs:=.inl (.inl h)
theorem Inv.list (I:Inv X pins σ H s) (h:SqL X.K H a xs):∃ its:List Value,Vals xs its∧PlainL s.heap a its.toArray∧xs.length≤sizeLine:=by
  rcases h with h | ⟨o,its,n,hk,hc,hd,hs,hz,r⟩
  · obtain ⟨z,its,n,r,e⟩:=h.ok I.hok
    exact ⟨its,r,⟨_,n,e,rfl,rfl,rfl⟩,z⟩
  · refine ⟨its.toList,r,⟨o,n,I.kIn a o hk,hc,hd,by simpa using hs⟩,?_⟩
    have e:=r.length
    simp only [Array.length_toList] at e
    omega
theorem Inv.tuple (I:Inv X pins σ H s) (h:SqT X.K H a xs):∃ its:List Value,Vals xs its∧IsTup s.heap a its.toArray∧xs.length≤sizeLine:=by
  rcases h with h | ⟨o,its,n,hk,hc,hs,hz,r⟩
  · obtain ⟨z,its,r,p⟩:=h.ok I.hok
    exact ⟨its,r,p,z⟩
  · refine ⟨its.toList,r,⟨o,I.kIn a o hk,hc,n,by simpa using hs⟩,?_⟩
    have e:=r.length
    simp only [Array.length_toList] at e
    omega
theorem Inv.list_inj (I:Inv X pins σ H s) (h:SqL X.K H a xs) (h':SqL X.K H a ys):xs=ys:=by
  obtain ⟨its,r,⟨o,n,e,_,_,d⟩,_⟩:=I.list h
  obtain ⟨its',r',⟨o',n',e',_,_,d'⟩,_⟩:=I.list h'
  rw [e] at e'; cases e'
  rw [d] at d'
  injection d' with d1 _
  have:its=its':=by simpa using congrArg Array.toList d1
  subst this
  exact r.inj r'
theorem Inv.tuple_inj (I:Inv X pins σ H s) (h:SqT X.K H a xs) (h':SqT X.K H a ys):xs=ys:=by
  obtain ⟨its,r,⟨o,e,_,n,d⟩,_⟩:=I.tuple h
  obtain ⟨its',r',⟨o',e',_,n',d'⟩,_⟩:=I.tuple h'
  rw [e] at e'; cases e'
  rw [d] at d'
  injection d' with d1 _
  have:its=its':=by simpa using congrArg Array.toList d1
  subst this
  exact r.inj r'
end
abbrev Cx.wish (X:Cx) (E:Value→Shared→Prop):Cx:={ X with xe:=E }
abbrev Cx.nox (X:Cx):Cx:=X.wish fun _ _=>False
theorem Cx.Ok.wish {X:Cx}(ok:X.Ok) (E:Value→Shared→Prop):(X.wish E).Ok :=
  ⟨ok.mod,ok.kind,ok.glob,ok.blt,ok.above,ok.inj,ok.has,ok.cab,ok.hd,ok.frames,ok.stk,ok.exf,ok.bs,ok.bsz,ok.noex,ok.exfs,ok.funs,ok.frf⟩
theorem Cx.Ok.unwish {X:Cx}{E:Value→Shared→Prop}(ok:(X.wish E).Ok):X.Ok :=
  ⟨ok.mod,ok.kind,ok.glob,ok.blt,ok.above,ok.inj,ok.has,ok.cab,ok.hd,ok.frames,ok.stk,ok.exf,ok.bs,ok.bsz,ok.noex,ok.exfs,ok.funs,ok.frf⟩
section
variable {X:Cx}{pins:List (Addr × Obj)}{σ:St}{H:Hp}{s:Shared}{E:Value→Shared→Prop}
theorem Inv.wish (I:Inv X pins σ H s) (E:Value→Shared→Prop):Inv (X.wish E) pins σ H s:=⟨I.ok.wish E,I.os,I.bare,I.base,I.loc,I.cell,I.free,I.freeC,I.pin,I.hok,I.len⟩
theorem Inv.unwish (I:Inv (X.wish E) pins σ H s):Inv X pins σ H s:=⟨I.ok.unwish,I.os,I.bare,I.base,I.loc,I.cell,I.free,I.freeC,I.pin,I.hok,I.len⟩
theorem SP.unwish {D:Ends}{f:Flow}{s':Shared}(h:SP (X.wish E) pins D f s'):SP X pins D f s':=by
  cases f with
  | next=>obtain ⟨σ',H',I,q⟩:=h; exact ⟨σ',H',I.unwish,q⟩
  | brk=>obtain ⟨σ',H',I,q⟩:=h; exact ⟨σ',H',I.unwish,q⟩
  | cont=>obtain ⟨σ',H',I,q⟩:=h; exact ⟨σ',H',I.unwish,q⟩
  | ret u=>obtain ⟨v,σ',H',I,r,q⟩:=h; exact ⟨v,σ',H',I.unwish,r,q⟩
theorem PE.nox {e:Expr}{t:TE}(h:PE X.nox e t):PE X e t:=fun pins s σ H Q I hw =>
  wpAny_mono (h pins s σ H Q (I.wish _) hw) (fun _ _ ⟨v,H',I',r,q⟩=>⟨v,H',I'.unwish,r,q⟩) fun _ _ z=>False.elim z
theorem PT.nox {e:Expr}{t:TT}(h:PT X.nox e t):PT X e t:=fun pins s σ H Q I hw =>
  wpAny_mono (h pins s σ H Q (I.wish _) hw) (fun _ _ ⟨H',I',q⟩=>⟨H',I'.unwish,q⟩) fun _ _ z=>False.elim z
theorem PSs.nox {st:List Stmt}{t:TS}(h:PSs X.nox st t):PSs X st t:=fun pins s σ H D I hw =>
  wpAny_mono (h pins s σ H D (I.wish _) hw) (fun _ _ q=>q.unwish) fun _ _ z=>False.elim z
end
section
variable {X:Cx}{st:Stmt}{rest:List Stmt}{t u:TS}{e:Expr}{te:TE}{pos:Pos}
def tNext:TS:=fun D σ H=>D.nx σ H
def tSeq (t u:TS):TS:=fun D σ H=>t { D with nx:=u D } σ H
theorem pss_nil:PSs X [] tNext:=fun _ _ σ H _ I h=>wpAny_execs_nil ⟨σ,H,I,h⟩
theorem pss_cons (h1:PS X st t) (h2:PSs X rest u):PSs X (st::rest) (tSeq t u):=by
  intro pins s σ H D I h
  refine wpAny_execs_cons (thn (h1 pins s σ H { D with nx:=u D } I h) fun f s1 q=>?_)
  cases f with
  | next =>
    obtain ⟨σ',H',I',q⟩:=q
    exact h2 pins s1 σ' H' D I' q
  | ret v=>exact q
  | brk=>exact q
  | cont=>exact q
theorem pss_one (h1:PS X st t):PSs X [st] t:=by
  intro pins s σ H D I h
  refine wpAny_execs_cons (thn (h1 pins s σ H D I h) fun f s1 q=>?_)
  cases f with
  | next=>exact wpAny_execs_nil q
  | ret v=>exact q
  | brk=>exact q
  | cont=>exact q
theorem Inv.quiet {pins:List (Addr × Obj)}{σ:St}{H:Hp}{s:Shared}(I:Inv X pins σ H s):interactive X.env=false:=by simp [interactive,I.ok.kind]
def tDrop (te:TE):TS:=fun D σ H=>te σ H fun _ H1=>D.nx σ H1
theorem ps_expr (he:PE X e te) (hs:swapsWith e none pos.line X.env=pure false:=by rfl):PS X (.Expr e pos) (tDrop te):=by
  intro pins s σ H D I h
  exact wpAny_Expr_any (thn (he pins s σ H _ I h) fun v s1 ⟨x,H1,I1,r1,q1⟩=>⟨σ,H1,I1,q1⟩) I.quiet hs
def tRet (te:TE):TS:=fun D σ H=>te σ H D.rt
theorem ps_ret (he:PE X e te):PS X (.Return (some e) pos) (tRet te):=by
  intro pins s σ H D I h
  exact wpAny_Return_some (thn (he pins s σ H _ I h) fun v s1 ⟨x,H1,I1,r1,q1⟩=>⟨x,σ,H1,I1,r1,q1⟩)
def tRetN:TS:=fun D _ H=>D.rt .non H
theorem ps_retN:PS X (.Return none pos) tRetN:=fun _ _ σ H _ I h=>wpAny_Return_none ⟨.non,σ,H,I,rfl,h⟩
def tIfS (c:TT) (t u:TS):TS:=fun D σ H=>c σ H fun b H1=>if b=true then t D σ H1 else u D σ H1
theorem ps_if {c:Expr}{a b:List Stmt}{tc:TT}(hc:PT X c tc) (ha:PSs X a t) (hb:PSs X b u):PS X (.If c a b pos) (tIfS tc t u):=by
  intro pins s σ H D I h
  refine wpAny_If (thn (hc pins s σ H _ I h) fun d s1 ⟨H1,I1,q1⟩=>?_)
  cases d with
  | true=>exact ha pins s1 σ H1 D I1 q1
  | false=>exact hb pins s1 σ H1 D I1 q1
def tNever:TS:=fun _ _ _=>False
theorem pss_never {sts:List Stmt}:PSs X sts tNever:=fun _ _ _ _ _ _ h=>h.elim
end
abbrev TG:=V→St→Hp→(St→Hp→Prop)→Prop
abbrev TGs:=List V→St→Hp→(St→Hp→Prop)→Prop
def PG (X:Cx) (target:Expr) (t:TG):Prop :=
  ∀ (pins:List (Addr × Obj)) (s:Shared) (σ:St) (H:Hp) (v:V) (u:Value) (Q:St→Hp→Prop),Inv X pins σ H s→RelV v u→t v σ H Q →
    wpAny (model X.prog X.w) X.A (assign target X.env u) (fun _ s'=>∃ σ' H',Inv X pins σ' H' s'∧Q σ' H') X.xe s
abbrev TSet:=V→V→V→Hp→(Hp→Prop)→Prop
def PSet (X:Cx) (t:TSet):Prop :=
  ∀ (pins:List (Addr × Obj)) (s:Shared) (σ:St) (H:Hp) (o i v:V) (ov iv u:Value) (Q:Hp→Prop),Inv X pins σ H s→RelV o ov→RelV i iv→RelV v u→t o i v H Q →
    wpAny (model X.prog X.w) X.A (setItem ov iv u) (fun _ s'=>∃ H',Inv X pins σ H' s'∧Q H') X.xe s
section
variable {X:Cx}{pos:Pos}
def gName (i:Nat):TG:=fun v σ H Q=>Q (σ.set i (some v)) H
theorem pg_name {i:Nat}{x:Str}(hN:X.N.Nodup) (hi:X.N[i]?=some x) (hx:Loc X.env.scope x) (hf:X.fn x=true∨X.env.scope.names.lookup x=some .local:=by first | exact .inl rfl | exact .inr rfl | assumption):PG X (.Name x pos) (gName i):=by
  intro pins s σ H v u Q I r h
  exact wpAny_assign_Name (store_ok I hN hi hx r (fun s' I'=>⟨_,H,I',h⟩) hf)
def gNil:TGs:=fun vs σ H Q=>vs=[]∧Q σ H
def gCons (t:TG) (u:TGs):TGs:=fun vs σ H Q=>∃ v r,vs=v::r∧t v σ H fun σ' H'=>u r σ' H' Q
def gTup (K:PySem.W.Frag) (n:Nat) (t:TGs):TG:=fun v σ H Q=>∃ a xs,v=.ref a∧SqT K H a xs∧xs.length=n∧t xs σ H Q
def gSub (to ti:TE) (t:TSet):TG:=fun v σ H Q=>to σ H fun o H1=>ti σ H1 fun i H2=>t o i v H2 fun H3=>Q σ H3
theorem pg_sub {o i:Expr}{to ti:TE}{t:TSet}(ho:PE X o to) (hi:PE X i ti) (hs:PSet X t)
    (ha:∀ v,assign (.Subscript o i pos) X.env v=(do
      let ov ← holding [v] (eval o X.env)
      let iv ← holding [v,ov] (eval i X.env)
      standAt pos
      holding [v,ov,iv] (setItem ov iv v)
      release [v,ov,iv] []):=by intro _; rfl):PG X (.Subscript o i pos) (gSub to ti t):=by
  intro pins s σ H v u Q I r h
  rw [ha]
  refine wpAny_bind (wpAny_holding (thn (ho pins s σ H _ I h) fun ov s1 ⟨x,H1,I1,r1,q1⟩=>?_))
  refine wpAny_bind (wpAny_holding (thn (hi pins s1 σ H1 _ I1 q1) fun iv s2 ⟨y,H2,I2,r2,q2⟩=>?_))
  refine wpAny_bind (wpAny_standAt (wpAny_bind (wpAny_holding (thn (hs pins s2 σ H2 x y v ov iv u _ I2 r1 r2 r q2) fun _ s3 ⟨H3,I3,q3⟩=>?_))))
  exact wpAny_release ⟨σ,H3,I3,q3⟩
def tAsg (te:TE) (g:TG):TS:=fun D σ H=>te σ H fun x H1=>g x σ H1 D.nx
theorem ps_asg {tg e:Expr}{te:TE}{g:TG}(he:PE X e te) (hg:PG X tg g) (hs:swapsWithSole [tg] e pos.line X.env=pure false:=by rfl) (hw:swappedStores [tg] e X.env=pure none:=by rfl)
    (h1:(assignEach [tg] X.env).map (·.2)=[assign tg X.env]:=by rfl):PS X (.Assign [tg] e pos) (tAsg te g):=by
  intro pins s σ H D I h
  refine wpAny_Assign_stores (thn (he pins s σ H _ I h) fun v s1 ⟨x,H1,I1,r1,q1⟩=>?_) hs hw
  rw [h1]
  exact thn (hg pins s1 σ H1 x v _ I1 r1 q1) fun _ s2 q=>q
theorem ps_set {i:Nat}{x:Str}{e:Expr}{te:TE}{pos':Pos}(hN:X.N.Nodup) (hi:X.N[i]?=some x) (hx:Loc X.env.scope x) (he:PE X e te) (hs:swapsWith e (some (.Name x pos')) pos.line X.env=pure false:=by rfl) (hf:X.fn x=true∨X.env.scope.names.lookup x=some .local:=by first | exact .inl rfl | exact .inr rfl | assumption) :
    PS X (.Assign [.Name x pos'] e pos) (tAsg te (gName i)):=by
  intro pins s σ H D I h
  refine wpAny_Assign_Name (thn (he pins s σ H _ I h) fun v s1 ⟨y,H1,I1,r1,q1⟩=>?_) hs
  exact store_ok I1 hN hi hx r1 (fun s2 I2=>⟨_,H1,I2,q1⟩) hf
end
section
variable {X:Cx}{pos:Pos}
end
structure It where
  go:Nat→Hp→Prop
  yld:Nat→Hp→V→Hp→Prop
  stop:Nat→Hp→Prop
def FpOk (X:Cx) (pins:List (Addr × Obj)) (H:Hp) (b:Addr):Prop :=
  H b=none∧b≠X.env.locals∧b ∉ X.fs∧(b∈X.ex∨X.s₀.heap.objs.size≤b)∧(∀ x c,X.env.cells.lookup x=some c→c≠b)∧∀ p∈X.pn++pins,p.1≠b
theorem Inv.fpOk {X:Cx}{pins:List (Addr × Obj)}{σ:St}{H H':Hp}{s:Shared}{b:Addr}(I:Inv X pins σ H s) (hb:s.heap.objs.size≤b) (hn:H' b=none):FpOk X pins H' b:=by
  refine ⟨hn,Nat.ne_of_gt (Nat.lt_of_lt_of_le I.lt hb),I.nofs hb,.inr (Nat.le_trans I.sz hb),fun x c e z=>?_,fun p hp z=>?_⟩
  · obtain ⟨v,q⟩:=I.cell x c e
    exact absurd (Nat.lt_of_lt_of_le q.lt (by rw [z]; exact hb)) (Nat.lt_irrefl _)
  · exact absurd (Nat.lt_of_lt_of_le (Heap.lt_size (I.pin p hp).1) (by rw [z]; exact hb)) (Nat.lt_irrefl _)
structure Turn (P:Program) (w:World) (K:PySem.W.Frag) (tg:Expr) (J:It) (fp:List Addr) (it:Addr) (tn:Nat→Heap→Prop):Prop where
  mem:it∈fp
  obj:∀ i h,tn i h→∀ b∈fp,∃ o,h.get? b=some o∧∀ v,o.data≠.cell v
  keep:∀ i h h',tn i h→(∀ b∈fp,∀ o,h.get? b=some o→h'.get? b=some o)→tn i h'
  item:∀ (X:Cx),X.prog=P→X.w=w→X.K=K→X.calm=true→∀ (i:Nat) (pins:List (Addr × Obj)) (s:Shared) (σ:St) (H:Hp) (E:Value→Shared→Prop),Inv X pins σ H s→(∀ b∈fp,FpOk X pins H b)→tn i s.heap→J.go i H →
    wpAny (model P w) X.A (pyNext (.ref it)) (fun r s1=>∃ u,r=some u ∧
      wpAny (model P w) X.A (letOwnedTupleGo tg (.ref it) u) (fun _ s2=>∃ x H',Inv X pins σ H' s2∧RelV x u∧J.yld i H x H'∧tn (i+1) s2.heap∧∀ b∈fp,H' b=none) E s1) E s
  done:∀ (X:Cx),X.prog=P→X.w=w→X.K=K→X.calm=true→∀ (i:Nat) (pins:List (Addr × Obj)) (s:Shared) (σ:St) (H:Hp) (E:Value→Shared→Prop),Inv X pins σ H s→(∀ b∈fp,FpOk X pins H b)→tn i s.heap→J.stop i H →
    wpAny (model P w) X.A (pyNext (.ref it)) (fun r s1=>r=none∧Inv X pins σ H s1) E s
  self:∀ (A:Around) (i:Nat) (s:Shared) (Q:Value→Shared→Prop) (E:Value→Shared→Prop),tn i s.heap→Q (.ref it) s→wpAny (model P w) A (pyIter (.ref it)) Q E s
abbrev TI:=St→Hp→(It→Hp→Prop)→Prop
def PIE (X:Cx) (pins:List (Addr × Obj)) (σ:St) (tg:Expr) (R:It→Hp→Prop) (itv:Value) (s2:Shared):Prop :=
  ∃ (it:Addr) (fp:List Addr) (tn:Nat→Heap→Prop) (J:It) (H':Hp),itv=.ref it∧Inv X pins σ H' s2∧Turn X.prog X.w X.K tg J fp it tn∧tn 0 s2.heap∧(∀ b∈fp,FpOk X pins H' b)∧R J H'
def PI (X:Cx) (tg iter:Expr) (wi:TI):Prop :=
  ∀ (pins:List (Addr × Obj)) (s:Shared) (σ:St) (H:Hp) (R:It→Hp→Prop),Inv X pins σ H s→wi σ H R →
    wpAny (model X.prog X.w) X.A (eval iter X.env) (fun v s1=>wpAny (model X.prog X.w) X.A (pyIter v) (PIE X pins σ tg R) X.xe s1) X.xe s
theorem go_of {M:Model}{A:Around}{E:Value→Shared→Prop}{s:Shared}{tg:Expr}{it:Addr}{u:Value}{o:Obj}{n:String}{vs:Array Value}{Q:Unit→Shared→Prop}(ho:s.heap.get? it=some o) (hc:o.cls=.type n) (hd:o.data=.fields vs)
    (hn:["enumerate","zip","dict_itemiterator","dict_reverseitemiterator","odict_iterator","itertools.zip_longest","itertools.pairwise"].contains n=false) (hQ:Q () s):wpAny M A (letOwnedTupleGo tg (.ref it) u) Q E s:=by
  unfold letOwnedTupleGo
  cases tg <;> first
    | exact wpAny_pure hQ
    | (cases u <;> first
        | exact wpAny_pure hQ
        | (refine wpAny_bind (wpAny_load ho ?_)
           rw [hc,hd]
           show wpAny M A (if (["enumerate","zip","dict_itemiterator","dict_reverseitemiterator","odict_iterator","itertools.zip_longest","itertools.pairwise"].contains n && vs[0]? == some (rawInt _))=true then _ else _) Q E s
           rw [if_neg (by intro h; rw [hn,Bool.false_and] at h; cases h)]
           exact wpAny_pure hQ))
def Itl (K:PySem.W.Frag) (a:Addr):It :=
  ⟨fun i H=>∃ xs x,SqL K H a xs∧xs[i]?=some x,fun i H x H'=>H'=H∧∀ xs,SqL K H a xs→xs[i]?=some x,fun i H=>∃ xs,SqL K H a xs∧xs.length≤i⟩
def Itt (K:PySem.W.Frag) (a:Addr):It :=
  ⟨fun i H=>∃ xs x,SqT K H a xs∧xs[i]?=some x,fun i H x H'=>H'=H∧∀ xs,SqT K H a xs→xs[i]?=some x,fun i H=>∃ xs,SqT K H a xs∧xs.length≤i⟩
def Itr (lo:Int) (n:Nat):It:=⟨fun i _=>i < n,fun i H x H'=>H'=H∧x=.int (lo+i),fun i _=>n≤i⟩
theorem turn_list {P:Program}{w:World}{K:PySem.W.Frag}{tg:Expr}(a it:Addr):Turn P w K tg (Itl K a) [it] it (fun i h=>h.IsListIter it a i) where
  mem:=by simp
  obj:=fun i h st b hb=>by
    have e:b=it:=by simpa using hb
    subst e
    obtain ⟨o,e,c,d⟩:=st
    exact ⟨o,e,fun v z=>by rw [d] at z; cases z⟩
  keep:=fun i h h' st k=>st.at fun o e=>k it (by simp) o e
  item:=by
    intro X hP hw hK hc i pins s σ H E I hf st hg
    subst hP hw hK
    obtain ⟨xs,x,hq,hx⟩:=hg
    obtain ⟨its,rv,p,hz⟩:=I.list hq
    obtain ⟨u,hu,ru⟩:=rv.get hx
    obtain ⟨f0,f1,f2,f3,f4,f5⟩:=hf it (by simp)
    refine wpAny_pyNext_list_item st p.isList (x:=u) (by simpa using hu) fun h' st' sb=>?_
    have I1:Inv X pins σ H { s with heap:=h' }:=I.turned (t':=s.toks) (fun b o hb e=>(sb.2 b hb).trans e) f0 f1 f3 f4 f5
    obtain ⟨o,e,c,d⟩:=id st'
    exact ⟨u,rfl,go_of (s:={ s with heap:=h' }) e c d (by decide) ⟨x,H,I1,ru,⟨rfl,fun ys hy=>by rw [I.list_inj hy hq]; exact hx⟩,st',fun b hb=>(hf b hb).1⟩⟩
  done:=by
    intro X hP hw hK hc i pins s σ H E I hf st hg
    subst hP hw hK
    obtain ⟨xs,hq,hx⟩:=hg
    obtain ⟨its,rv,p,hz⟩:=I.list hq
    obtain ⟨f0,f1,f2,f3,f4,f5⟩:=hf it (by simp)
    have hl:=rv.length
    exact wpAny_pyNext_list_end (I.ok.hd hc) st p.isList (by simp; omega) fun h' eb=>⟨rfl,I.turned (t':=s.toks) (fun b o hb e=>eb b o hb e) f0 f1 f3 f4 f5⟩
  self:=fun _ _ _ _ _ st h=>wpAny_pyIter_listiter st h
theorem turn_tuple {P:Program}{w:World}{K:PySem.W.Frag}{tg:Expr}(a it:Addr):Turn P w K tg (Itt K a) [it] it (fun i h=>h.IsTupleIter it a i) where
  mem:=by simp
  obj:=fun i h st b hb=>by
    have e:b=it:=by simpa using hb
    subst e
    obtain ⟨o,e,c,d⟩:=st
    exact ⟨o,e,fun v z=>by rw [d] at z; cases z⟩
  keep:=fun i h h' st k=>st.at fun o e=>k it (by simp) o e
  item:=by
    intro X hP hw hK hc i pins s σ H E I hf st hg
    subst hP hw hK
    obtain ⟨xs,x,hq,hx⟩:=hg
    obtain ⟨its,rv,p,hz⟩:=I.tuple hq
    obtain ⟨u,hu,ru⟩:=rv.get hx
    obtain ⟨f0,f1,f2,f3,f4,f5⟩:=hf it (by simp)
    refine wpAny_pyNext_tuple_item st (show s.heap.IsTuple a its.toArray from p) (x:=u) (by simpa using hu) fun h' st' sb=>?_
    have I1:Inv X pins σ H { s with heap:=h' }:=I.turned (t':=s.toks) (fun b o hb e=>(sb.2 b hb).trans e) f0 f1 f3 f4 f5
    obtain ⟨o,e,c,d⟩:=id st'
    exact ⟨u,rfl,go_of (s:={ s with heap:=h' }) e c d (by decide) ⟨x,H,I1,ru,⟨rfl,fun ys hy=>by rw [I.tuple_inj hy hq]; exact hx⟩,st',fun b hb=>(hf b hb).1⟩⟩
  done:=by
    intro X hP hw hK hc i pins s σ H E I hf st hg
    subst hP hw hK
    obtain ⟨xs,hq,hx⟩:=hg
    obtain ⟨its,rv,p,hz⟩:=I.tuple hq
    obtain ⟨f0,f1,f2,f3,f4,f5⟩:=hf it (by simp)
    have hl:=rv.length
    exact wpAny_pyNext_tuple_end (I.ok.hd hc) st (show s.heap.IsTuple a its.toArray from p) (by simp; omega) fun h' eb=>⟨rfl,I.turned (t':=s.toks) (fun b o hb e=>eb b o hb e) f0 f1 f3 f4 f5⟩
  self:=fun _ _ _ _ _ st h=>wpAny_pyIter_tupleiter st h
theorem turn_range {P:Program}{w:World}{K:PySem.W.Frag}{tg:Expr}(it:Addr) (lo:Int) (n:Nat):Turn P w K tg (Itr lo n) [it] it (fun i h=>IsRangeIter h it (lo+(i:Nat) * 1) ((n:Int) - (i:Nat)) 1) where
  mem:=by simp
  obj:=fun i h st b hb=>by
    have e:b=it:=by simpa using hb
    subst e
    exact ⟨_,st,fun v z=>by
      have z':Data.fields _=Data.cell v:=z
      cases z'⟩
  keep:=fun i h h' st k=>k it (by simp) _ st
  item:=by
    intro X hP hw hK hc i pins s σ H E I hf st hg
    subst hP hw hK
    obtain ⟨f0,f1,f2,f3,f4,f5⟩:=hf it (by simp)
    have W:=Walks.range (prog:=X.prog) (w:=X.w) (I.ok.hd hc) it lo 1 n
    refine W.item i s _ _ hg st fun v h' tk hv st' kk=>?_
    obtain ⟨t,rfl⟩:=hv
    have I1:Inv X pins σ H { s with heap:=h',toks:=tk }:=I.turned (fun b o hb e=>kk b o (by simpa using hb) e) f0 f1 f3 f4 f5
    refine ⟨_,rfl,go_of (s:={ s with heap:=h',toks:=tk }) (n:="range_iterator") st' rfl rfl (by decide) ⟨.int (lo+i),H,I1,⟨t,?_⟩,⟨rfl,rfl⟩,st',fun b hb=>(hf b hb).1⟩⟩
    rw [Int.mul_one]
  done:=by
    intro X hP hw hK hc i pins s σ H E I hf st hg
    subst hP hw hK
    obtain ⟨f0,f1,f2,f3,f4,f5⟩:=hf it (by simp)
    exact wpAny_pyNext_range_end (I.ok.hd hc) st (by have:n≤i:=hg; omega) fun h' eb=>⟨rfl,I.turned (t':=s.toks) (fun b o hb e=>eb b o hb e) f0 f1 f3 f4 f5⟩
  self:=fun _ _ _ _ _ st h=>wpAny_pyIter_rangeiter st h
end L2
namespace L2
open PySem PySem.Spec PyProof.Rows
section
variable {X:Cx}{tg:Expr}
def iList (K:PySem.W.Frag) (tl:TE):TI:=fun σ H R=>tl σ H fun x H1=>∃ a,x=.ref a∧(∃ xs,SqL K H1 a xs)∧R (Itl K a) H1
def iTup (K:PySem.W.Frag) (tl:TE):TI:=fun σ H R=>tl σ H fun x H1=>∃ a,x=.ref a∧(∃ xs,SqT K H1 a xs)∧R (Itt K a) H1
theorem pi_list {l:Expr}{tl:TE}(hl:PE X l tl):PI X tg l (iList X.K tl):=by
  intro pins s σ H R I h
  refine thn (hl pins s σ H _ I h) fun v s1 ⟨x,H1,I1,r1,q1⟩=>?_
  obtain ⟨a,e,⟨xs,hq⟩,q⟩:=q1
  subst e
  cases r1
  obtain ⟨its,rv,p,hz⟩:=I1.list hq
  refine wpAny_pyIter_list p.isList ?_
  refine ⟨s1.heap.objs.size,[s1.heap.objs.size],_,_,H1,rfl,I1.kept (t':=s1.toks) fun b o e=>Heap.get?_push_of_some _ e,turn_list a _,⟨_,Heap.get?_push_size _ rfl,rfl,rfl⟩,fun b hb=>?_,q⟩
  have e:b=s1.heap.objs.size:=by simpa using hb
  subst e
  exact I1.fpOk (Nat.le_refl _) (I1.hok.fresh (Nat.le_refl _))
theorem pi_tup {l:Expr}{tl:TE}(hl:PE X l tl):PI X tg l (iTup X.K tl):=by
  intro pins s σ H R I h
  refine thn (hl pins s σ H _ I h) fun v s1 ⟨x,H1,I1,r1,q1⟩=>?_
  obtain ⟨a,e,⟨xs,hq⟩,q⟩:=q1
  subst e
  cases r1
  obtain ⟨its,rv,p,hz⟩:=I1.tuple hq
  refine wpAny_pyIter_tuple (show s1.heap.IsTuple a its.toArray from p) ?_
  refine ⟨s1.heap.objs.size,[s1.heap.objs.size],_,_,H1,rfl,I1.kept (t':=s1.toks) fun b o e=>Heap.get?_push_of_some _ e,turn_tuple a _,⟨_,Heap.get?_push_size _ rfl,rfl,rfl⟩,fun b hb=>?_,q⟩
  have e:b=s1.heap.objs.size:=by simpa using hb
  subst e
  exact I1.fpOk (Nat.le_refl _) (I1.hok.fresh (Nat.le_refl _))
theorem range_it {pins:List (Addr × Obj)}{σ:St}{H:Hp}{s:Shared}{R:It→Hp→Prop}{E:Value→Shared→Prop}{lo hi:Int}{t u v:Tok}{tk:Nat}(I:Inv X pins σ H s) (h1:-(2 ^ 62)≤lo) (h2:lo < 2 ^ 62) (h3:-(2 ^ 62)≤hi) (h4:hi < 2 ^ 62)
    (q:R (Itr lo (hi - lo).toNat) H):wpAny (model X.prog X.w) X.A (pyIter (.ref s.heap.objs.size)) (PIE X pins σ tg R) E { s with heap:=s.heap.push { cls:=.type "range",data:=.fields #[.int lo t,.int hi u,.int 1 v] },toks:=tk }:=by
  refine wpAny_pyIter_range (IsRange.new ..) (small_one h1 h2 h3 h4) ?_
  have I1:Inv X pins σ H { s with heap:=s.heap.push { cls:=.type "range",data:=.fields #[.int lo t,.int hi u,.int 1 v] },toks:=tk }:=I.kept fun b o e=>Heap.get?_push_of_some _ e
  refine ⟨(s.heap.push { cls:=.type "range",data:=.fields #[.int lo t,.int hi u,.int 1 v] }).objs.size,[(s.heap.push { cls:=.type "range",data:=.fields #[.int lo t,.int hi u,.int 1 v] }).objs.size],_,_,H,rfl,
    I1.kept (t':=tk) fun b o e=>Heap.get?_push_of_some _ e,turn_range _ lo (hi - lo).toNat,?_,fun b hb=>?_,q⟩
  · have e1:lo+((0:Nat):Int) * 1=lo:=by simp
    have e2:(((hi - lo).toNat:Nat):Int) - ((0:Nat):Int)=Builtin.Range.rangeSize lo hi 1:=by rw [rangeSize_one]; split <;> omega
    show IsRangeIter _ _ (lo+((0:Nat):Int) * 1) ((((hi - lo).toNat:Nat):Int) - ((0:Nat):Int)) 1
    rw [e1,e2]
    exact Heap.get?_push_size _ rfl
  · have e:b=(s.heap.push { cls:=.type "range",data:=.fields #[.int lo t,.int hi u,.int 1 v] }).objs.size:=by simpa using hb
    subst e
    exact I1.fpOk (Nat.le_refl _) (I1.hok.fresh (Nat.le_refl _))
def iRng1 (ta:TA):TI:=fun σ H R=>ta σ H fun vs H1=>∃ j:Int,vs=[.int j]∧-(2 ^ 62)≤j∧j < 2 ^ 62∧R (Itr 0 j.toNat) H1
def iRng2 (ta:TA):TI:=fun σ H R=>ta σ H fun vs H1=>∃ i j:Int,vs=[.int i,.int j]∧(-(2 ^ 62)≤i∧i < 2 ^ 62∧-(2 ^ 62)≤j∧j < 2 ^ 62)∧R (Itr i (j - i).toNat) H1
theorem pi_range1 {a:Expr}{ta:TA}{p pos:Pos}(hg:Gl X "range") (hm:X.mg "range"=none) (ha:PA X [a] ta) (hs:starEach [a] X.env=[(false,eval a X.env)]:=by rfl):PI X tg (.Call (.Name "range" p) [a] [] pos) (iRng1 ta):=by
  intro pins s σ H R I h
  refine Call_ (ld_blt I hg hm boot_range (PyProof.Rows.callWith_type1 (thn (ha pos pins s σ H _ I h) fun us s1 ⟨vs,H1,I1,r1,q1⟩=>?_) hs rfl))
  obtain ⟨j,e,q1,q2,q⟩:=q1
  subst e
  cases r1 with
  | cons r rr =>
    cases rr
    obtain ⟨t,rfl⟩:=r
    exact call_range_1 (range_it I1 (by omega) (by omega) q1 q2 (by simpa using q))
def tFor (wi:TI) (g:TG) (tb:TS):TS:=fun D σ H=>wi σ H fun J H1=>∃ W:Nat→Nat→St→Hp→Prop,(∃ m,W 0 m σ H1)∧∀ i m σ H,W i m σ H →
  (J.stop i H∧D.nx σ H)∨(J.go i H∧∃ N:St→Hp→Prop,(∀ σ' H',N σ' H'→∃ m',m' < m∧W (i+1) m' σ' H')∧∀ x H',J.yld i H x H'→g x σ H' fun σ2 H2=>tb { D with nx:=N,ct:=N,bk:=D.nx } σ2 H2)
def pinsAt (fp:List Addr) (h:Heap):List (Addr × Obj):=fp.filterMap fun b=>(h.get? b).map fun o=>(b,o)
theorem mem_pinsAt {fp:List Addr}{h:Heap}{b:Addr}{o:Obj}(hb:b∈fp) (e:h.get? b=some o):(b,o)∈pinsAt fp h:=List.mem_filterMap.mpr ⟨b,hb,by rw [e]; rfl⟩
theorem of_pinsAt {fp:List Addr}{h:Heap}{p:Addr × Obj}(hp:p∈pinsAt fp h):p.1∈fp∧h.get? p.1=some p.2:=by
  obtain ⟨b,hb,e⟩:=List.mem_filterMap.mp hp
  cases q:h.get? b with
  | none=>rw [q] at e; cases e
  | some o =>
    rw [q] at e
    have e':(b,o)=p:=Option.some.inj e
    subst e'
    exact ⟨hb,q⟩
theorem Inv.pinned {pins:List (Addr × Obj)}{σ:St}{H:Hp}{s:Shared}{fp:List Addr}(I:Inv X pins σ H s) (hf:∀ b∈fp,FpOk X pins H b) (ho:∀ b∈fp,∃ o,s.heap.get? b=some o∧∀ v,o.data≠.cell v):Inv X (pins++pinsAt fp s.heap) σ H s :=
  I.pins_of fun p hp=>(List.mem_append.mp hp).elim (fun z=>I.pin p (List.mem_append_right _ z)) fun z=>by
    obtain ⟨hb,e⟩:=of_pinsAt z
    obtain ⟨f0,f1,f2,_⟩:=hf p.1 hb
    obtain ⟨o,e',d⟩:=ho p.1 hb
    rw [e] at e'; cases e'
    exact ⟨e,f0,f1,f2,d⟩
theorem Inv.unpinned {pins pl:List (Addr × Obj)}{σ:St}{H:Hp}{s:Shared}(I:Inv X (pins++pl) σ H s):Inv X pins σ H s:=I.pins_of fun p hp=>I.pin p (List.mem_append_right _ (List.mem_append_left _ hp))
theorem ps_for {iter:Expr}{body:List Stmt}{wi:TI}{g:TG}{tb:TS}{pos:Pos}(hp:PassesOwn (model X.prog X.w) X.A X.env X.xe) (hc:X.calm=true) (hi:PI X tg iter wi) (hg:PG X tg g) (hb:PSs X body tb)
    (hs:∀ x,foldedSetIterable iter X.env x=pure x:=by intro _; rfl):PS X (.For tg iter body [] pos) (tFor wi g tb):=by
  intro pins s σ H D I h
  refine wpAny_For (thn (hi pins s σ H _ I h) fun v s1 h1=>thn h1 fun itv s2 h2=>?_) hs
  obtain ⟨it,fp,tn,J,H2,e,I2,T,st2,f2,W,⟨m0,w0⟩,turn⟩:=h2
  subst e
  -- what stays true of the iterator's objects through the loop
  have stat:∀ {H':Hp},(∀ b∈fp,H' b=none)→∀ b∈fp,FpOk X pins H' b:=fun hn b hb=>⟨hn b hb,(f2 b hb).2⟩
  refine codeAny_forLoop_any (fun n s'=>∃ i σ' H',Inv X pins σ' H' s'∧tn i s'.heap∧(∀ b∈fp,H' b=none)∧W i n σ' H') ?_ m0 ⟨0,σ,H2,I2,st2,fun b hb=>(f2 b hb).1,w0⟩
  rintro n s3 ⟨i,σ3,H3,I3,st3,fr3,w3⟩
  rcases turn i n σ3 H3 w3 with ⟨stop,qn⟩ | ⟨go,N,hN,step⟩
  · refine wpAny_passesOwn hp (thn (T.done X rfl rfl rfl hc i pins s3 σ3 H3 X.xe I3 (stat fr3) st3 stop) fun r s4 ⟨hr,I4⟩=>?_)
    subst hr
    exact wpAny_execs_nil ⟨σ3,H3,I4,qn⟩
  · refine wpAny_passesOwn hp (thn (T.item X rfl rfl rfl hc i pins s3 σ3 H3 X.xe I3 (stat fr3) st3 go) fun r s4 ⟨u,hr,h4⟩=>?_)
    subst hr
    refine wpAny_passesOwn hp (thn h4 fun _ s5 ⟨x,H5,I5,r5,y5,st5,fr5⟩=>?_)
    have I5':=I5.pinned (stat fr5) (T.obj _ _ st5)
    refine wpAny_passesOwn hp (thn (hg _ s5 σ3 H5 x u _ I5' r5 (step x H5 y5)) fun _ s6 ⟨σ6,H6,I6,q6⟩=>?_)
    refine wpAny_passesOwn hp (thn (hb _ s6 σ6 H6 _ I6 q6) fun f s7 q7=>?_)
    have again:∀ {σ7:St}{H7:Hp},Inv X (pins++pinsAt fp s5.heap) σ7 H7 s7→N σ7 H7→∃ m,m < n∧∃ i σ' H',Inv X pins σ' H' s7∧tn i s7.heap∧(∀ b∈fp,H' b=none)∧W i m σ' H':=fun {σ7 H7} I7 n7=>by
      obtain ⟨m',hm,w7⟩:=hN σ7 H7 n7
      refine ⟨m',hm,i+1,σ7,H7,I7.unpinned,T.keep _ _ _ st5 fun b hb o e=>(I7.pin (b,o) (List.mem_append_right _ (List.mem_append_right _ (mem_pinsAt hb e)))).1,fun b hb=>?_,w7⟩
      obtain ⟨o,e,d⟩:=T.obj _ _ st5 b hb
      exact (I7.pin (b,o) (List.mem_append_right _ (List.mem_append_right _ (mem_pinsAt hb e)))).2.1
    cases f with
    | next=>obtain ⟨σ7,H7,I7,n7⟩:=q7; exact again I7 n7
    | cont=>obtain ⟨σ7,H7,I7,n7⟩:=q7; exact again I7 n7
    | brk=>obtain ⟨σ7,H7,I7,q7⟩:=q7; exact ⟨σ7,H7,I7.unpinned,q7⟩
    | ret v=>obtain ⟨x7,σ7,H7,I7,r7,q7⟩:=q7; exact ⟨x7,σ7,H7,I7.unpinned,r7,q7⟩
end
theorem for_list {K:PySem.W.Frag}{a:Addr}{xs:List V}{g:TG}{tb:TS}{D:Ends}{σ:St}{H:Hp}(Pv:Nat→St→Hp→Prop) (h0:Pv 0 σ H) (hl:∀ i σ H,i≤xs.length→Pv i σ H→SqL K H a xs)
    (hs:∀ i x σ H,xs[i]?=some x→Pv i σ H→g x σ H fun σ2 H2=>tb { D with nx:=Pv (i+1),ct:=Pv (i+1),bk:=D.nx } σ2 H2) (hd:∀ σ H,Pv xs.length σ H→D.nx σ H) :
    ∃ W:Nat→Nat→St→Hp→Prop,(∃ m,W 0 m σ H)∧∀ i m σ H,W i m σ H →
      ((Itl K a).stop i H∧D.nx σ H)∨((Itl K a).go i H∧∃ N:St→Hp→Prop,(∀ σ' H',N σ' H'→∃ m',m' < m∧W (i+1) m' σ' H')∧∀ x H',(Itl K a).yld i H x H'→g x σ H' fun σ2 H2=>tb { D with nx:=N,ct:=N,bk:=D.nx } σ2 H2):=by
  refine ⟨fun i m σ H=>m=xs.length - i∧i≤xs.length∧Pv i σ H,⟨xs.length,by simp,Nat.zero_le _,h0⟩,?_⟩
  rintro i m σ H ⟨rfl,hi,p⟩
  have q:=hl i σ H hi p
  by_cases hlt:i < xs.length
  · refine .inr ⟨⟨xs,xs[i],q,by simp [hlt]⟩,Pv (i+1),fun σ' H' p'=>⟨xs.length - (i+1),by omega,rfl,hlt,p'⟩,fun x H' y=>?_⟩
    obtain ⟨e,y⟩:=y
    subst e
    exact hs i x σ _ (y xs q) p
  · have e:i=xs.length:=by omega
    subst e
    exact .inl ⟨⟨xs,q,Nat.le_refl _⟩,hd σ H p⟩
theorem for_tup {K:PySem.W.Frag}{a:Addr}{xs:List V}{g:TG}{tb:TS}{D:Ends}{σ:St}{H:Hp}(Pv:Nat→St→Hp→Prop) (h0:Pv 0 σ H) (hl:∀ i σ H,i≤xs.length→Pv i σ H→SqT K H a xs)
    (hs:∀ i x σ H,xs[i]?=some x→Pv i σ H→g x σ H fun σ2 H2=>tb { D with nx:=Pv (i+1),ct:=Pv (i+1),bk:=D.nx } σ2 H2) (hd:∀ σ H,Pv xs.length σ H→D.nx σ H) :
    ∃ W:Nat→Nat→St→Hp→Prop,(∃ m,W 0 m σ H)∧∀ i m σ H,W i m σ H →
      ((Itt K a).stop i H∧D.nx σ H)∨((Itt K a).go i H∧∃ N:St→Hp→Prop,(∀ σ' H',N σ' H'→∃ m',m' < m∧W (i+1) m' σ' H')∧∀ x H',(Itt K a).yld i H x H'→g x σ H' fun σ2 H2=>tb { D with nx:=N,ct:=N,bk:=D.nx } σ2 H2):=by
  refine ⟨fun i m σ H=>m=xs.length - i∧i≤xs.length∧Pv i σ H,⟨xs.length,by simp,Nat.zero_le _,h0⟩,?_⟩
  rintro i m σ H ⟨rfl,hi,p⟩
  have q:=hl i σ H hi p
  by_cases hlt:i < xs.length
  · refine .inr ⟨⟨xs,xs[i],q,by simp [hlt]⟩,Pv (i+1),fun σ' H' p'=>⟨xs.length - (i+1),by omega,rfl,hlt,p'⟩,fun x H' y=>?_⟩
    obtain ⟨e,y⟩:=y
    subst e
    exact hs i x σ _ (y xs q) p
  · have e:i=xs.length:=by omega
    subst e
    exact .inl ⟨⟨xs,q,Nat.le_refl _⟩,hd σ H p⟩
theorem for_range {lo:Int}{n:Nat}{g:TG}{tb:TS}{D:Ends}{σ:St}{H:Hp}(Pv:Nat→St→Hp→Prop) (h0:Pv 0 σ H)
    (hs:∀ i σ H,i < n→Pv i σ H→g (.int (lo+i)) σ H fun σ2 H2=>tb { D with nx:=Pv (i+1),ct:=Pv (i+1),bk:=D.nx } σ2 H2) (hd:∀ σ H,Pv n σ H→D.nx σ H) :
    ∃ W:Nat→Nat→St→Hp→Prop,(∃ m,W 0 m σ H)∧∀ i m σ H,W i m σ H →
      ((Itr lo n).stop i H∧D.nx σ H)∨((Itr lo n).go i H∧∃ N:St→Hp→Prop,(∀ σ' H',N σ' H'→∃ m',m' < m∧W (i+1) m' σ' H')∧∀ x H',(Itr lo n).yld i H x H'→g x σ H' fun σ2 H2=>tb { D with nx:=N,ct:=N,bk:=D.nx } σ2 H2):=by
  refine ⟨fun i m σ H=>m=n - i∧i≤n∧Pv i σ H,⟨n,by simp,Nat.zero_le _,h0⟩,?_⟩
  rintro i m σ H ⟨rfl,hi,p⟩
  by_cases hlt:i < n
  · refine .inr ⟨hlt,Pv (i+1),fun σ' H' p'=>⟨n - (i+1),by omega,rfl,hlt,p'⟩,fun x H' y=>?_⟩
    obtain ⟨e,y⟩:=y
    subst e y
    exact hs i σ _ hlt p
  · have e:i=n:=by omega
    subst e
    exact .inl ⟨Nat.le_refl _,hd σ H p⟩
end L2
namespace L2
open PySem PySem.Spec PyProof.Rows
abbrev R2:=V→V→Hp→VK→Prop
def OpR (X:Cx) (f:Value→Value→Sem Value) (r:R2):Prop :=
  ∀ (pins:List (Addr × Obj)) (s:Shared) (σ:St) (H:Hp) (x y:V) (v u:Value) (Q:VK),Inv X pins σ H s→RelV x v→RelV y u→r x y H Q →
    wpAny (model X.prog X.w) X.A (f v u) (EP X pins σ Q) X.xe s
def UnR (X:Cx) (f:Value→Sem Value) (r:V→Hp→VK→Prop):Prop :=
  ∀ (pins:List (Addr × Obj)) (s:Shared) (σ:St) (H:Hp) (x:V) (v:Value) (Q:VK),Inv X pins σ H s→RelV x v→r x H Q →
    wpAny (model X.prog X.w) X.A (f v) (EP X pins σ Q) X.xe s
def CallR (X:Cx) (f:Value) (r:List V→Hp→VK→Prop):Prop :=
  ∀ (pins:List (Addr × Obj)) (s:Shared) (σ:St) (H:Hp) (xs:List V) (us:List Value) (Q:VK),Inv X pins σ H s→Vals xs us→r xs H Q →
    wpAny (model X.prog X.w) X.A (call f us) (EP X pins σ Q) X.xe s
def tOp (r:R2) (ta tb:TE):TE:=fun σ H Q=>ta σ H fun x H1=>tb σ H1 fun y H2=>r x y H2 Q
def tUn (r:V→Hp→VK→Prop) (ta:TE):TE:=fun σ H Q=>ta σ H fun x H1=>r x H1 Q
def rI (C:Int→Int→Prop) (g:Int→Int→V):R2:=fun x y H Q=>∃ i j,x=.int i∧y=.int j∧C i j∧Q (g i j) H
def rI0 (g:Int→Int→V):R2:=fun x y H Q=>∃ i j,x=.int i∧y=.int j∧Q (g i j) H
def rU (g:Int→V):V→Hp→VK→Prop:=fun x H Q=>∃ i,x=.int i∧Q (g i) H
section
variable {X:Cx}{a b c:Expr}{ta tb tc:TE}{pos:Pos}
theorem binT (ha:PE X a ta) (hb:PE X b tb) {pins:List (Addr × Obj)}{s:Shared}{σ:St}{H:Hp}{R:V→V→Hp→Prop}(I:Inv X pins σ H s)
    (h:ta σ H fun x H1=>tb σ H1 fun y H2=>R x y H2) {Q:Value→Shared→Prop}{f:Value→Value→Sem Value}
    (hf:∀ v u s2 x y H2,Inv X pins σ H2 s2→RelV x v→RelV y u→R x y H2→wpAny (model X.prog X.w) X.A (f v u) Q X.xe s2) :
    wpAny (model X.prog X.w) X.A (eval a X.env) (fun v s₁=>wpAny (model X.prog X.w) X.A (eval b X.env) (fun u s₂=>wpAny (model X.prog X.w) X.A (f v u) Q X.xe s₂) X.xe s₁) X.xe s:=by
  refine thn (ha pins s σ H _ I h) fun v s1 ⟨x,H1,I1,r1,q1⟩=>?_
  refine thn (hb pins s1 σ H1 _ I1 q1) fun u s2 ⟨y,H2,I2,r2,q2⟩=>?_
  exact hf v u s2 x y H2 I2 r1 r2 q2
theorem pe_op {op:Operator}{r:R2}(ho:OpR X (binaryOp op) r) (ha:PE X a ta) (hb:PE X b tb):PE X (.BinOp a op b pos) (tOp r ta tb):=by
  intro pins s σ H Q I h
  exact wpAny_BinOp (binT ha hb I h fun v u s2 x y H2 I2 rx ry q=>ho pins s2 σ H2 x y v u Q I2 rx ry q)
theorem pe_un {op:UnaryOp}{r:V→Hp→VK→Prop}(ho:UnR X (unaryOp op) r) (ha:PE X a ta):PE X (.UnaryOp op a pos) (tUn r ta):=by
  intro pins s σ H Q I h
  exact UnaryOp_ (thn (ha pins s σ H _ I h) fun v s1 ⟨x,H1,I1,r1,q1⟩=>ho pins s1 σ H1 x v Q I1 r1 q1)
theorem opI {f:Value→Value→Sem Value}{C:Int→Int→Prop}{g:Int→Int→Int}
    (rule:∀ (i j:Int) (t u:Tok) (s:Shared) (Q:Value→Shared→Prop) (E:Value→Shared→Prop),C i j→Q (.int (g i j) s.toks) { s with toks:=s.toks+1 }→wpAny (model X.prog X.w) X.A (f (.int i t) (.int j u)) Q E s) :
    OpR X f (rI C fun i j=>.int (g i j)):=by
  intro pins s σ H x y v u Q I rx ry h
  obtain ⟨i,j,rfl,rfl,hc,q⟩:=h
  obtain ⟨t,rfl⟩:=rx
  obtain ⟨t',rfl⟩:=ry
  exact rule i j t t' s _ _ hc ⟨.int (g i j),H,I.tok _,⟨_,rfl⟩,q⟩
theorem opI0 {f:Value→Value→Sem Value}{g:Int→Int→Int}
    (rule:∀ (i j:Int) (t u:Tok) (s:Shared) (Q:Value→Shared→Prop) (E:Value→Shared→Prop),Q (.int (g i j) s.toks) { s with toks:=s.toks+1 }→wpAny (model X.prog X.w) X.A (f (.int i t) (.int j u)) Q E s) :
    OpR X f (rI0 fun i j=>.int (g i j)):=by
  intro pins s σ H x y v u Q I rx ry h
  obtain ⟨i,j,rfl,rfl,q⟩:=h
  obtain ⟨t,rfl⟩:=rx
  obtain ⟨t',rfl⟩:=ry
  exact rule i j t t' s _ _ ⟨.int (g i j),H,I.tok _,⟨_,rfl⟩,q⟩
theorem opB0 {f:Value→Value→Sem Value}{g:Int→Int→Bool}
    (rule:∀ (i j:Int) (t u:Tok) (s:Shared) (Q:Value→Shared→Prop) (E:Value→Shared→Prop),Q (.bool (g i j)) s→wpAny (model X.prog X.w) X.A (f (.int i t) (.int j u)) Q E s) :
    OpR X f (rI0 fun i j=>.bl (g i j)):=by
  intro pins s σ H x y v u Q I rx ry h
  obtain ⟨i,j,rfl,rfl,q⟩:=h
  obtain ⟨t,rfl⟩:=rx
  obtain ⟨t',rfl⟩:=ry
  exact rule i j t t' s _ _ ⟨.bl (g i j),H,I,rfl,q⟩
def CPow (i j:Int):Prop:=0≤j∧j≤1000000∧i.natAbs < 2 ^ 64
def CMul (i j:Int):Prop:=(-(2 ^ 64) < i∧i < 2 ^ 64)∨(-(2 ^ 64) < j∧j < 2 ^ 64)
theorem CMul.ok {i j:Int}(h:CMul i j):IntMulOk i j:=by
  rcases h with ⟨h1,h2⟩ | ⟨h1,h2⟩
  · exact .of_left (intBits_le_64 h1 h2)
  · exact .of_right (intBits_le_64 h1 h2)
theorem op_add:OpR X (binaryOp .Add) (rI0 fun i j=>.int (i+j)):=opI0 fun _ _ _ _ _ _ _ q=>add_int q
theorem op_sub:OpR X (binaryOp .Sub) (rI0 fun i j=>.int (i - j)):=opI0 fun _ _ _ _ _ _ _ q=>sub_int q
theorem op_mul:OpR X (binaryOp .Mult) (rI CMul fun i j=>.int (i * j)):=opI fun _ _ _ _ _ _ _ hc q=>mul_int q hc.ok
theorem op_mod:OpR X (binaryOp .Mod) (rI (fun _ j=>0 < j) fun i j=>.int (i % j)):=opI fun i j _ _ _ _ _ hc q=>by
  have h1:(0:Int) < j:=hc
  exact mod_int' (by omega) (by rw [Int.fmod_eq_emod_of_nonneg i (by omega)]; exact q)
theorem op_pow:OpR X (binaryOp .Pow) (rI CPow fun i j=>.int (i ^ j.toNat)):=opI fun _ _ _ _ _ _ _ hc q=>pow_int_small hc.1 hc.2.1 hc.2.2 q
theorem unI {f:Value→Sem Value}{g:Int→Int}
    (rule:∀ (i:Int) (t:Tok) (s:Shared) (Q:Value→Shared→Prop) (E:Value→Shared→Prop),Q (.int (g i) s.toks) { s with toks:=s.toks+1 }→wpAny (model X.prog X.w) X.A (f (.int i t)) Q E s) :
    UnR X f (rU fun i=>.int (g i)):=by
  intro pins s σ H x v Q I rx h
  obtain ⟨i,rfl,q⟩:=h
  obtain ⟨t,rfl⟩:=rx
  exact rule i t s _ _ ⟨.int (g i),H,I.tok _,⟨_,rfl⟩,q⟩
theorem un_neg:UnR X (unaryOp .USub) (rU fun i=>.int (-i)):=unI fun _ _ _ _ _ q=>neg_int q
end
def scal:V→V→Bool
  | .non,.non=>true | .non,.int _=>true | .int _,.non=>true | .non,.bl _=>true | .bl _,.non=>true | .non,.str _=>true | .str _,.non=>true
  | .int _,.int _=>true | .bl _,.bl _=>true | .str _,.str _=>true | .byt _,.byt _=>true
  | .int _,.str _=>true | .str _,.int _=>true | .bl _,.str _=>true | .str _,.bl _=>true
  | _,_=>false
def rEq:R2:=fun x y H Q=>scal x y=true∧Q (.bl (decide (x=y))) H
def rNe:R2:=fun x y H Q=>scal x y=true∧Q (.bl (!decide (x=y))) H
theorem dec_int {i j:Int}:decide (V.int i=V.int j)=(i == j):=by
  rw [Bool.eq_iff_iff]
  simp
theorem dec_bl {i j:Bool}:decide (V.bl i=V.bl j)=(i == j):=by
  rw [Bool.eq_iff_iff]
  simp
theorem dec_str {i j:Str}:decide (V.str i=V.str j)=(i == j):=by
  rw [Bool.eq_iff_iff]
  simp
theorem dec_byt {i j:Array UInt8}:decide (V.byt i=V.byt j)=(i.toList == j.toList):=by
  rw [Bool.eq_iff_iff]
  cases i
  cases j
  simp
section
variable {X:Cx}{a b c:Expr}{ta tb tc:TE}{pos:Pos}
theorem fin_bl {pins:List (Addr × Obj)}{σ:St}{H:Hp}{s:Shared}{Q:VK}{k k':Bool}(I:Inv X pins σ H s) (q:Q (.bl k) H) (e:k=k'):EP X pins σ Q (.bool k') s:=by
  subst e
  exact ⟨.bl k,H,I,rfl,q⟩
theorem op_eq:OpR X (compareOp .Eq) rEq:=by
  intro pins s σ H x y v u Q I rx ry h
  obtain ⟨hs,q⟩:=h
  cases x with
  | non =>
    cases rx
    cases y with
    | non=>cases ry; exact PySem.EqNone.eq_none_none (fin_bl I q (by simp))
    | bl j=>cases ry; exact PySem.EqNone.eq_none_bool (fin_bl I q (by simp))
    | int j=>obtain ⟨t',rfl⟩:=ry; exact PySem.EqNone.eq_none_int (fin_bl I q (by simp))
    | str j=>obtain ⟨t',rfl⟩:=ry; exact PySem.EqNone.eq_none_str (fin_bl I q (by simp))
    | _=>exact absurd (show false=true from hs) Bool.false_ne_true
  | bl i =>
    cases rx
    cases y with
    | non=>cases ry; exact PySem.EqNone.eq_bool_none (fin_bl I q (by simp))
    | bl j=>cases ry; exact eq_bool (fin_bl I q dec_bl)
    | str j=>obtain ⟨t',rfl⟩:=ry; exact PySem.EqMixed.eq_bool_str (fin_bl I q (by simp))
    | _=>exact absurd (show false=true from hs) Bool.false_ne_true
  | int i =>
    obtain ⟨t,rfl⟩:=rx
    cases y with
    | non=>cases ry; exact PySem.EqNone.eq_int_none (fin_bl I q (by simp))
    | int j=>obtain ⟨t',rfl⟩:=ry; exact eq_int (fin_bl I q dec_int)
    | str j=>obtain ⟨t',rfl⟩:=ry; exact PySem.EqMixed.eq_int_str (fin_bl I q (by simp))
    | _=>exact absurd (show false=true from hs) Bool.false_ne_true
  | str i =>
    obtain ⟨t,rfl⟩:=rx
    cases y with
    | non=>cases ry; exact PySem.EqNone.eq_str_none (fin_bl I q (by simp))
    | bl j=>cases ry; exact PySem.EqMixed.eq_str_bool (fin_bl I q (by simp))
    | int j=>obtain ⟨t',rfl⟩:=ry; exact PySem.EqMixed.eq_str_int (fin_bl I q (by simp))
    | str j=>obtain ⟨t',rfl⟩:=ry; exact eq_str (fin_bl I q dec_str)
    | _=>exact absurd (show false=true from hs) Bool.false_ne_true
  | byt i =>
    obtain ⟨t,rfl⟩:=rx
    cases y with
    | byt j=>obtain ⟨t',rfl⟩:=ry; exact PySem.W.eq_bytes (fin_bl I q dec_byt)
    | _=>exact absurd (show false=true from hs) Bool.false_ne_true
  | _=>cases y <;> exact absurd (show false=true from hs) Bool.false_ne_true
theorem op_ne:OpR X (compareOp .NotEq) rNe:=by
  intro pins s σ H x y v u Q I rx ry h
  obtain ⟨hs,q⟩:=h
  cases x with
  | non =>
    cases rx
    cases y with
    | non=>cases ry; exact PySem.EqNone.ne_none_none (fin_bl I q (by simp))
    | bl j=>cases ry; exact PySem.EqNone.ne_none_bool (fin_bl I q (by simp))
    | int j=>obtain ⟨t',rfl⟩:=ry; exact PySem.EqNone.ne_none_int (fin_bl I q (by simp))
    | str j=>obtain ⟨t',rfl⟩:=ry; exact PySem.EqNone.ne_none_str (fin_bl I q (by simp))
    | _=>exact absurd (show false=true from hs) Bool.false_ne_true
  | bl i =>
    cases rx
    cases y with
    | non=>cases ry; exact PySem.EqNone.ne_bool_none (fin_bl I q (by simp))
    | bl j=>cases ry; exact ne_bool (fin_bl I q (congrArg not dec_bl))
    | str j=>obtain ⟨t',rfl⟩:=ry; exact PySem.EqMixed.ne_bool_str (fin_bl I q (by simp))
    | _=>exact absurd (show false=true from hs) Bool.false_ne_true
  | int i =>
    obtain ⟨t,rfl⟩:=rx
    cases y with
    | non=>cases ry; exact PySem.EqNone.ne_int_none (fin_bl I q (by simp))
    | int j=>obtain ⟨t',rfl⟩:=ry; exact ne_int (fin_bl I q (congrArg not dec_int))
    | str j=>obtain ⟨t',rfl⟩:=ry; exact PySem.EqMixed.ne_int_str (fin_bl I q (by simp))
    | _=>exact absurd (show false=true from hs) Bool.false_ne_true
  | str i =>
    obtain ⟨t,rfl⟩:=rx
    cases y with
    | non=>cases ry; exact PySem.EqNone.ne_str_none (fin_bl I q (by simp))
    | bl j=>cases ry; exact PySem.EqMixed.ne_str_bool (fin_bl I q (by simp))
    | int j=>obtain ⟨t',rfl⟩:=ry; exact PySem.EqMixed.ne_str_int (fin_bl I q (by simp))
    | str j=>obtain ⟨t',rfl⟩:=ry; exact ne_str (fin_bl I q (congrArg not dec_str))
    | _=>exact absurd (show false=true from hs) Bool.false_ne_true
  | byt i =>
    obtain ⟨t,rfl⟩:=rx
    cases y with
    | byt j=>obtain ⟨t',rfl⟩:=ry; exact PySem.W.ne_bytes (fin_bl I q (congrArg not dec_byt))
    | _=>exact absurd (show false=true from hs) Bool.false_ne_true
  | _=>cases y <;> exact absurd (show false=true from hs) Bool.false_ne_true
theorem op_lt:OpR X (compareOp .Lt) (rI0 fun i j=>.bl (decide (i < j))):=opB0 fun _ _ _ _ _ _ _ q=>lt_int q
theorem op_le:OpR X (compareOp .LtE) (rI0 fun i j=>.bl (decide (i≤j))):=opB0 fun _ _ _ _ _ _ _ q=>le_int q
theorem op_gt:OpR X (compareOp .Gt) (rI0 fun i j=>.bl (decide (j < i))):=opB0 fun _ _ _ _ _ _ _ q=>gt_int q
theorem op_ge:OpR X (compareOp .GtE) (rI0 fun i j=>.bl (decide (j≤i))):=opB0 fun _ _ _ _ _ _ _ q=>ge_int q
theorem op_in_str:OpR X (compareOp .In) (fun x y H Q=>∃ i j,x=.str i∧y=.str j∧Q (.bl (!(Builtin.Str.occurrences j i 0 j.length 1).isEmpty)) H):=by
  intro pins s σ H x y v u Q I rx ry h
  obtain ⟨i,j,rfl,rfl,q⟩:=h
  obtain ⟨t,rfl⟩:=rx
  obtain ⟨t',rfl⟩:=ry
  exact in_str (fin_bl I q rfl)
theorem OpR.or {f:Value→Value→Sem Value}{r r':R2}(h:OpR X f r) (h':OpR X f r'):OpR X f (fun x y H Q=>r x y H Q∨r' x y H Q):=by
  intro pins s σ H x y v u Q I rx ry q
  rcases q with q | q
  · exact h pins s σ H x y v u Q I rx ry q
  · exact h' pins s σ H x y v u Q I rx ry q
theorem nomark (b:Expr) {op:CmpOp}(h:op≠.In:=by decide) (h2:op≠.NotIn:=by decide):behindInMarks op b=false:=by
  have e1:(op == CmpOp.In)=false:=by cases op <;> first | rfl | exact absurd rfl h
  have e2:(op == CmpOp.NotIn)=false:=by cases op <;> first | rfl | exact absurd rfl h2
  cases b <;> simp [behindInMarks,e1,e2]
theorem pe_cmpR {op:CmpOp}{r:R2}(ho:OpR X (compareOp op) r) (ha:PE X a ta) (hb:PE X b tb) (hm:behindInMarks op b=false):PE X (.Compare a [op] [b] pos) (tOp r ta tb):=by
  intro pins s σ H Q I h
  exact wpAny_Compare1 (binT ha hb I h fun v u s2 x y H2 I2 rx ry q=>ho pins s2 σ H2 x y v u Q I2 rx ry q) hm
def tTest (t:TE):TT:=fun σ H Q=>t σ H fun x H'=>∃ k,x=.bl k∧Q k H'
theorem pt_cmpR {op:CmpOp}{r:R2}(ho:OpR X (compareOp op) r) (ha:PE X a ta) (hb:PE X b tb) (hm:behindInMarks op b=false):PT X (.Compare a [op] [b] pos) (tTest (tOp r ta tb)):=by
  intro pins s σ H Q I h
  refine wpAny_isTrue_Compare1 (thn (ha pins s σ H _ I h) fun v s1 ⟨x,H1,I1,r1,q1⟩=>thn (hb pins s1 σ H1 _ I1 q1) fun u s2 ⟨y,H2,I2,r2,q2⟩ =>
    thn (ho pins s2 σ H2 x y v u _ I2 r1 r2 q2) fun c s3 ⟨z,H3,I3,r3,k,e,q3⟩=>?_) hm
  subst e
  cases r3
  exact wpAny_truthy_bool ⟨H3,I3,q3⟩
def tChain (r r':R2) (ta tb tc:TE):TE:=fun σ H Q=>ta σ H fun x H1=>tb σ H1 fun y H2=>r x y H2 fun z H3=>∃ k,z=.bl k ∧
  (if k=true then tc σ H3 fun w' H4=>r' y w' H4 Q else Q (.bl false) H3)
theorem line63:(sizeLine:Nat) < 2 ^ 63:=by rw [sizeLine_eq]; decide
theorem op_add_str:OpR X (binaryOp .Add) (fun x y H Q=>∃ i j,x=.str i∧y=.str j∧i.length+j.length≤sizeLine∧Q (.str (i++j)) H):=by
  intro pins s σ H x y v u Q I rx ry h
  obtain ⟨i,j,rfl,rfl,hz,q⟩:=h
  obtain ⟨t,rfl⟩:=rx
  obtain ⟨t',rfl⟩:=ry
  exact add_str (fun t' tk=>⟨.str (i++j),H,I.tok _,⟨_,rfl⟩,q⟩) hz
theorem vals1 {x:V}{us:List Value}(r:Vals [x] us):∃ u,us=[u]∧RelV x u:=by
  cases r with
  | cons r1 r2=>cases r2; exact ⟨_,rfl,r1⟩
theorem vals2 {x y:V}{us:List Value}(r:Vals [x,y] us):∃ u w',us=[u,w']∧RelV x u∧RelV y w':=by
  cases r with
  | cons r1 r2 =>
    cases r2 with
    | cons r3 r4=>cases r4; exact ⟨_,_,rfl,r1,r3⟩
theorem call_max2 (hc:X.calm=true):CallR X (.builtin "max") (fun xs H Q=>∃ i j,xs=[.int i,.int j]∧Q (.int (if j > i then j else i)) H):=by
  intro pins s σ H xs us Q I r h
  obtain ⟨i,j,rfl,q⟩:=h
  obtain ⟨u,w',rfl,⟨t,rfl⟩,⟨t',rfl⟩⟩:=vals2 r
  refine max_two_ints (I.ok.hd hc) fun h' tk k=>⟨_,H,I.kept k,?_,q⟩
  by_cases hj:j > i
  · rw [if_pos hj,if_pos hj]; exact ⟨_,rfl⟩
  · rw [if_neg hj,if_neg hj]; exact ⟨_,rfl⟩
theorem call_min2 (hc:X.calm=true):CallR X (.builtin "min") (fun xs H Q=>∃ i j,xs=[.int i,.int j]∧Q (.int (if j < i then j else i)) H):=by
  intro pins s σ H xs us Q I r h
  obtain ⟨i,j,rfl,q⟩:=h
  obtain ⟨u,w',rfl,⟨t,rfl⟩,⟨t',rfl⟩⟩:=vals2 r
  refine min_two_ints (I.ok.hd hc) fun h' tk k=>⟨_,H,I.kept k,?_,q⟩
  by_cases hj:j < i
  · rw [if_pos hj,if_pos hj]; exact ⟨_,rfl⟩
  · rw [if_neg hj,if_neg hj]; exact ⟨_,rfl⟩
theorem call_int1:CallR X (.type "int") (fun xs H Q=>(∃ i,xs=[.int i]∧Q (.int i) H)∨∃ k,xs=[.bl k]∧Q (.int (if k then 1 else 0)) H):=by
  intro pins s σ H xs us Q I r h
  rcases h with ⟨i,rfl,q⟩ | ⟨k,rfl,q⟩
  · obtain ⟨u,rfl,t,rfl⟩:=vals1 r
    exact call_int_int ⟨.int i,H,I,⟨_,rfl⟩,q⟩
  · obtain ⟨u,rfl,r1⟩:=vals1 r
    cases r1
    exact call_int_bool ⟨.int (if k then 1 else 0),H,I.tok _,⟨_,rfl⟩,q⟩
def LenV (K:PySem.W.Frag) (x:V) (H:Hp) (n:Nat):Prop :=
  match x with
  | .str y=>y.length≤sizeLine∧n=y.length
  | .byt y=>y.size≤sizeLine∧n=y.size
  | .ref p=>(∃ xs,SqL K H p xs∧n=xs.length)∨∃ xs,SqT K H p xs∧n=xs.length
  | _=>False
theorem call_len:CallR X (.builtin "len") (fun xs H Q=>∃ x n,xs=[x]∧LenV X.K x H n∧Q (.int n) H):=by
  intro pins s σ H xs us Q I r h
  obtain ⟨x,n,rfl,e,q⟩:=h
  obtain ⟨u,rfl,rx⟩:=vals1 r
  have hl:=line63
  have hs:sizeLine=16777216:=sizeLine_eq
  cases x with
  | str y =>
    obtain ⟨t,rfl⟩:=rx
    obtain ⟨hy,e'⟩:y.length≤sizeLine∧n=y.length:=e
    subst e'
    exact len_str (by omega) ⟨.int _,H,I.tok _,⟨_,rfl⟩,q⟩
  | byt y =>
    obtain ⟨t,rfl⟩:=rx
    obtain ⟨hy,e'⟩:y.size≤sizeLine∧n=y.size:=e
    subst e'
    exact PySem.W.len_bytes (by omega) ⟨.int _,H,I.tok _,⟨_,rfl⟩,q⟩
  | ref p =>
    cases rx
    have e':(∃ xs,SqL X.K H p xs∧n=xs.length)∨∃ xs,SqT X.K H p xs∧n=xs.length:=e
    rcases e' with ⟨xs,hx,e'⟩ | ⟨xs,hx,e'⟩
    · subst e'
      obtain ⟨its,r',pl,hz⟩:=I.list hx
      have hlen:=r'.length
      exact Calls.call_len_list pl.isList (by simp only [List.size_toArray]; omega) ⟨.int xs.length,H,I.tok _,⟨_,by simp only [List.size_toArray]; rw [hlen]⟩,q⟩
    · subst e'
      obtain ⟨its,r',pl,hz⟩:=I.tuple hx
      have hlen:=r'.length
      exact len_tuple pl (by simp only [List.size_toArray]; omega) ⟨.int xs.length,H,I.tok _,⟨_,by simp only [List.size_toArray]; rw [hlen]⟩,q⟩
  | _=>exact (show False from e).elim
end
end L2
namespace L2
open PySem PySem.Spec PyProof.Rows
structure ObjM (h:Heap) (x dx C:Addr) (mA:Str→Option Value):Prop where
  obj:h.get? x=some (PySem.W.instObj C dx)
  ns:h.Ns1 dx mA
  ne:dx≠x
theorem lookIn_ns {h:Heap}{dx:Addr}{mA:Str→Option Value}(n:h.Ns1 dx mA):∃ od,h.get? dx=some od∧∀ name,PySem.W.lookIn name od=some (mA name):=by
  obtain ⟨o,es,ep,ho,hd,hk,_,hm⟩:=n
  refine ⟨o,ho,fun name=>?_⟩
  have e:=hm name
  unfold nsFind findBy at e
  rw [← Array.find?_toList] at e
  unfold PySem.W.lookIn
  rw [hd]
  dsimp only
  split
  · rename_i y q
    rw [q] at e
    exact congrArg some e
  · rename_i q
    rw [q] at e
    have a:es.toList.any (·.refKey)=false:=by
      rw [List.any_eq_false]
      intro y hy
      obtain ⟨z,t,hkey⟩:=hk y (Array.mem_toList_iff.mp hy)
      simp [DictEntry.refKey,hkey]
    have a':¬ es.toList.any (·.refKey)=true:=by rw [a]; exact Bool.false_ne_true
    rw [if_neg a']
    exact congrArg some e
theorem ObjM.look {h:Heap}{x dx C:Addr}{mA:Str→Option Value}(I:ObjM h x dx C mA):∃ od,PySem.W.InstAt h x (PySem.W.instObj C dx) C (some od)∧∀ name,PySem.W.lookIn name od=some (mA name) :=
  let ⟨od,ho,hl⟩:=lookIn_ns I.ns
  ⟨od,⟨I.obj,rfl,rfl,ho⟩,hl⟩
section
variable {prog:Program}{w:World}{A:Around}{E:Value→Shared→Prop}{s:Shared}{K:PySem.W.Frag}{x dx C f:Addr}{mA:Str→Option Value}{name:Str}{v:Value}
theorem get_map {expr:Bool}{Q:Value→Shared→Prop}(X:K.In s.heap) (I:ObjM s.heap x dx C mA) (hg:PySem.W.plainGet K C name=true) (hh:PySem.W.hasDictIn K C=true)
    (ha:PySem.W.findIn K (.ref C) name=some none) (hv:mA name=some v) (hv':PySem.W.handedIn v=true) (h:Q v { s with toks:=s.toks+1 }) :
    wpAny (model prog w) A (getAttr (.ref x) name expr) Q E s:=by
  obtain ⟨od,J,hl⟩:=I.look
  exact PySem.W.get_value X J (PySem.W.plainGet_of hg).1 (PySem.W.findObj_own hh ha rfl (by rw [hl,hv])) hv' h
theorem get_meth {pl:Sem Bool}{Q:Value × List Value→Shared→Prop}(X:K.In s.heap) (I:ObjM s.heap x dx C mA) (hg:PySem.W.plainGet K C name=true)
    (hf:PySem.W.findIn K (.ref C) name=some (some (.ref f))) (ht:PySem.W.isFn K (.ref f)=true) (hv:mA name=none) (h:Q (.ref f,[.ref x]) s) :
    wpAny (model prog w) A (getMethod (.ref x) name pl) Q E s:=by
  obtain ⟨od,J,hl⟩:=I.look
  exact PySem.W.method_fn X J (PySem.W.plainGet_of hg).1 (PySem.W.plainGet_of hg).2 hf (beq_iff_eq.mp ht) (by show (PySem.W.lookIn name od).map (·.isSome)=some false; rw [hl,hv]; rfl) h
theorem set_map {ns:List Str}{Q:Unit→Shared→Prop}(X:K.In s.heap) (I:ObjM s.heap x dx C mA)
    (hs:PySem.W.findIn K (.ref C) "__setattr__"=some (some (.builtin "object.__setattr__"))) (hp:PySem.W.plainOver K C=true) (ht:PySem.W.takerIn K C name=some none) (hh:PySem.W.hasDictIn K C=true)
    (hw:PySem.Within mA ns) (hsz:ns.length≤sizeLine)
    (h:∀ h',ObjM h' x dx C (fun y=>if y=name then some v else mA y)→Heap.SameBut dx s.heap h'→Q () { s with heap:=h',toks:=s.toks+2 }) :
    wpAny (model prog w) A (setAttr (.ref x) name v) Q E s:=by
  obtain ⟨od,J,hl⟩:=I.look
  refine PySem.W.set_plain X J hs (PySem.W.osa_open (s:={ s with toks:=s.toks+1 }) (r:=none) X J hp ht fun b=>?_)
  obtain ⟨cd,hc,hd'⟩:=PySem.W.any_some hh
  have hx:s.heap.get? x=some ⟨.ref C,some dx,.plain,#[]⟩:=I.obj
  refine wpAny_bind (wpAny_pure (wpAny_bind (wpAny_bind (wpAny_loadPart hx (wpAny_bind (PySem.W.Looks.here (s:={ s with toks:=s.toks+1 }) (PySem.W.looks_clsIn X hc) ?_))))))
  rw [hd']
  refine wpAny_pure (a:=some dx) (wpAny_bind (wpAny_pure (wpAny_bind ?_)))
  refine wpAny_nsSet1 (s:={ s with toks:=s.toks+1 }) I.ns fun h' hn2 hs2=>?_
  obtain ⟨oD,esD,epD,hoD,hdD,hcD⟩:=hn2.count (PySem.Within.cons name v hw)
  refine wpAny_bind (wpAny_lookBehind hoD (by rw [hdD]; exact pastItsLine_dict (Nat.le_trans hcD (by rw [List.length_cons]; omega))) ?_)
  exact wpAny_pure (h _ ⟨(hs2.2 _ (Ne.symm I.ne)).trans I.obj,hn2,I.ne⟩ hs2)
theorem make_map {R:Result→Shared→Prop}{vs:List Value}{kw:List (Str × Value)}(X:K.In s.heap) (hm:PySem.W.makesIn K C=true)
    (hi:PySem.W.findIn K (.ref C) "__init__"=some (some (.ref f))) (hf:PySem.W.typeIn K (.ref f)=some (.type "function"))
    (h:codeAny (model prog w) (A.under (.builtin "type.__call__" ⟨.ref C::vs,kw⟩)) (.call (.ref f) ⟨.ref (s.heap.objs.size+1)::vs,kw⟩) (PySem.W.InitBack (s.heap.objs.size+1) R)
      { s with heap:=(s.heap.push PySem.W.emptyDict).push (PySem.W.instObj C s.heap.objs.size) }) :
    codeAny (model prog w) A (.call (.ref C) ⟨vs,kw⟩) R s:=by
  obtain ⟨hh,g,d,t,os⟩:=s
  exact PySem.W.make_core (PySem.W.makes_of X hm) (PySem.W.looks_findIn X hi) (fun self=>PySem.W.bind_fn X self hf) (.inl rfl) h
theorem make_map0 {R:Result→Shared→Prop}(X:K.In s.heap) (hm:PySem.W.makesIn K C=true)
    (hi:PySem.W.findIn K (.ref C) "__init__"=some (some (.builtin "object.__init__")))
    (hb:∀ self,PySem.W.Looks (model prog w) s.heap (bindSpecial (.builtin "object.__init__") self) (.builtin "object.__init__",[self]))
    (h:codeAny (model prog w) (A.under (.builtin "type.__call__" ⟨[.ref C],[]⟩)) (.call (.builtin "object.__init__") ⟨[.ref (s.heap.objs.size+1)],[]⟩) (PySem.W.InitBack (s.heap.objs.size+1) R)
      { s with heap:=(s.heap.push PySem.W.emptyDict).push (PySem.W.instObj C s.heap.objs.size) }) :
    codeAny (model prog w) A (.call (.ref C) ⟨[],[]⟩) R s:=by
  obtain ⟨hh,g,d,t,os⟩:=s
  exact PySem.W.make_core (PySem.W.makes_of X hm) (PySem.W.looks_findIn X hi) hb (.inr ⟨rfl,rfl⟩) h
end
def putF (f:Str) (v:V):List (Str × V)→List (Str × V)
  | []=>[(f,v)]
  | (g,x)::r=>if g=f then (g,v)::r else (g,x)::putF f v r
theorem lookup_putF (f g:Str) (v:V):∀ fs:List (Str × V),(putF f v fs).lookup g=if g=f then some v else fs.lookup g
  | []=>by
    show List.lookup g [(f,v)]=_
    by_cases h:g=f
    · have hb:(g == f)=true:=beq_iff_eq.mpr h
      simp only [List.lookup,hb,if_pos h]
    · have hb:(g == f)=false:=beq_eq_false_iff_ne.mpr h
      simp only [List.lookup,hb,if_neg h]
  | (k,x)::r=>by
    have ih:=lookup_putF f g v r
    rw [show putF f v ((k,x)::r)=(if k=f then (k,v)::r else (k,x)::putF f v r) from rfl]
    by_cases hk:k=f
    · rw [if_pos hk]
      by_cases h:g=k
      · have hb:(g == k)=true:=beq_iff_eq.mpr h
        simp only [List.lookup,hb,if_pos (h.trans hk)]
      · have hb:(g == k)=false:=beq_eq_false_iff_ne.mpr h
        simp only [List.lookup,hb,if_neg (fun e:g=f=>h (e.trans hk.symm))]
    · rw [if_neg hk]
      by_cases h:g=k
      · have hb:(g == k)=true:=beq_iff_eq.mpr h
        simp only [List.lookup,hb,if_neg (fun e:g=f=>hk (h.symm.trans e))]
      · have hb:(g == k)=false:=beq_eq_false_iff_ne.mpr h
        simp only [List.lookup,hb]
        exact ih
theorem keys_putF (f:Str) (v:V):∀ fs:List (Str × V),f∈(putF f v fs).map (·.1)∧∀ g,g∈fs.map (·.1)→g∈(putF f v fs).map (·.1)
  | []=>⟨by simp [putF],fun g h=>by simp at h⟩
  | (k,x)::r=>by
    obtain ⟨i1,i2⟩:=keys_putF f v r
    rw [show putF f v ((k,x)::r)=(if k=f then (k,v)::r else (k,x)::putF f v r) from rfl]
    by_cases hk:k=f
    · rw [if_pos hk]
      subst hk
      exact ⟨by simp,fun g h=>by simpa using h⟩
    · rw [if_neg hk]
      refine ⟨?_,fun g h=>?_⟩
      · rw [List.map_cons]
        exact List.mem_cons_of_mem _ i1
      · rw [List.map_cons] at h ⊢
        rcases List.mem_cons.mp h with e | e
        · exact List.mem_cons.mpr (.inl e)
        · exact List.mem_cons_of_mem _ (i2 g e)
theorem length_putF (f:Str) (v:V):∀ fs:List (Str × V),(putF f v fs).length≤fs.length+1
  | []=>by simp [putF]
  | (k,x)::r=>by
    have ih:=length_putF f v r
    rw [show putF f v ((k,x)::r)=(if k=f then (k,v)::r else (k,x)::putF f v r) from rfl]
    by_cases hk:k=f
    · rw [if_pos hk,List.length_cons,List.length_cons]; omega
    · rw [if_neg hk,List.length_cons,List.length_cons]; omega
theorem RelO.some_of {v:V}{o:Option Value}(r:RelO (some v) o):∃ u,o=some u∧RelV v u:=by
  cases o with
  | none=>exact (show False from r).elim
  | some u=>exact ⟨u,rfl,r⟩
theorem RelO.none_of {o:Option Value}(r:RelO none o):o=none:=by
  cases o with
  | none=>rfl
  | some u=>exact (show False from r).elim
theorem handed_of {v:V}{u:Value}(r:RelV v u):PySem.W.handedIn u=true:=by
  cases v with
  | non=>cases (show u=Value.none from r); rfl
  | bl b=>cases (show u=Value.bool b from r); rfl
  | int i=>obtain ⟨t,e⟩:=(show ∃ t,u=Value.int i t from r); cases e; rfl
  | str x=>obtain ⟨t,e⟩:=(show ∃ t,u=Value.str x t from r); cases e; rfl
  | byt b=>obtain ⟨t,e⟩:=(show ∃ t,u=Value.bytes b t from r); cases e; rfl
  | flt b=>obtain ⟨t,e⟩:=(show ∃ t,u=Value.float b t from r); cases e; rfl
  | ref a=>cases (show u=Value.ref a from r); rfl
  | ty n=>cases (show u=Value.type n from r); rfl
section
variable {P:Program}{w:World}{H H':Hp}{h h':Heap}{a C dx:Addr}{fs fs':List (Str × V)}
theorem ins_get (hok:HOk P w H h) (e:H a=some (.ins C dx fs)):∃ mA,ObjM h a dx C mA∧(∀ f,RelO (fs.lookup f) (mA f))∧PySem.Within mA (fs.map (·.1))∧fs.length≤1000∧H dx=some (.own a):=by
  obtain ⟨d,z,ne,ob,mA,n,r,q⟩:=(show ObjOk P w H h a (.ins C dx fs) from hok a _ e)
  exact ⟨mA,⟨ob,n,ne⟩,r,q,z,d⟩
end
structure Cls (K:PySem.W.Frag) (C:Addr):Prop where
  pg:PySem.W.plainGet K C Str.empty=true
  hd:PySem.W.hasDictIn K C=true
  po:PySem.W.plainOver K C=true
  sa:PySem.W.findIn K (.ref C) "__setattr__"=some (some (.builtin "object.__setattr__"))
theorem Cls.get {K:PySem.W.Frag}{C:Addr}(c:Cls K C) (f:Str):PySem.W.plainGet K C f=true:=c.pg
def NoAttr (K:PySem.W.Frag) (C:Addr) (f:Str):Prop:=PySem.W.findIn K (.ref C) f=some none
theorem NoAttr.taker {K:PySem.W.Frag}{C:Addr}{f:Str}(n:NoAttr K C f):PySem.W.takerIn K C f=some none:=by
  unfold PySem.W.takerIn
  rw [show PySem.W.findIn K (.ref C) f=some none from n]
  rfl
structure Con (K:PySem.W.Frag) (C:Addr) (f:Str) (v:V) (u:Value):Prop where
  at_:PySem.W.findIn K (.ref C) f=some (some u)
  rel:RelV v u
  get:PySem.W.specialIn K u "__get__"=some none
  cp:PySem.W.copiedNames.contains f=false
structure Meth (K:PySem.W.Frag) (C:Addr) (m:Str) (f:Addr):Prop where
  at_:PySem.W.findIn K (.ref C) m=some (some (.ref f))
  fn:PySem.W.isFn K (.ref f)=true
  kp:PySem.W.keepIn K (.ref f)=true
section
variable {X:Cx}{pins:List (Addr × Obj)}{σ:St}{H:Hp}{s:Shared}{a C dx:Addr}{fs:List (Str × V)}{f:Str}{v:V}{A:Around}{E:Value→Shared→Prop}
theorem getattr_ok {b:Bool}{Q:Value→Shared→Prop}(I:Inv X pins σ H s) (e:H a=some (.ins C dx fs)) (c:Cls X.K C) (n:NoAttr X.K C f) (l:fs.lookup f=some v)
    (h:∀ u s',Inv X pins σ H s'→RelV v u→Q u s'):wpAny (model X.prog X.w) A (getAttr (.ref a) f b) Q E s:=by
  obtain ⟨mA,O,r,_,_,_⟩:=ins_get I.hok e
  obtain ⟨u,hu,ru⟩:=RelO.some_of (v:=v) (o:=mA f) (by rw [← l]; exact r f)
  exact get_map I.kIn O (c.get f) c.hd n hu (handed_of ru) (h u _ (I.tok _) ru)
theorem getmeth_ok {m:Str}{g:Addr}{pl:Sem Bool}{Q:Value × List Value→Shared→Prop}(I:Inv X pins σ H s) (e:H a=some (.ins C dx fs)) (c:Cls X.K C) (k:Meth X.K C m g) (l:fs.lookup m=none)
    (h:Q (.ref g,[.ref a]) s):wpAny (model X.prog X.w) A (getMethod (.ref a) m pl) Q E s:=by
  obtain ⟨mA,O,r,_,_,_⟩:=ins_get I.hok e
  have hn:mA m=none:=RelO.none_of (by rw [← l]; exact r m)
  exact get_meth I.kIn O (c.get m) k.at_ k.fn hn h
theorem setattr_ok {y:V}{u:Value}{Q:Unit→Shared→Prop}(I:Inv X pins σ H s) (e:H a=some (.ins C dx fs)) (c:Cls X.K C) (n:NoAttr X.K C f) (hl:fs.length < 1000) (ry:RelV y u)
    (h:∀ s',Inv X pins σ (upd H a (.ins C dx (putF f y fs))) s'→Q () s'):wpAny (model X.prog X.w) A (setAttr (.ref a) f u) Q E s:=by
  obtain ⟨mA,O,r,wi,_,ho⟩:=ins_get I.hok e
  have hz:(fs.map (·.1)).length≤sizeLine:=by rw [List.length_map,sizeLine_eq]; omega
  refine set_map I.kIn O c.sa c.po n.taker c.hd wi hz fun h' O' sb=>h _ ?_
  have hd:∃ o,h'.get? dx=some o:=let ⟨o,_,_,e',_⟩:=O'.ns; ⟨o,e'⟩
  refine I.write (x:=a) (e:=dx) (by rw [e]; exact True.intro) (.inr ho) (fun b q hb z=>(sb.2 b hb).trans z) hd ?_
  refine ⟨by rw [upd_ne O.ne]; exact ho,?_,O.ne,O'.obj,_,O'.ns,fun g=>?_,fun g hg=>?_⟩
  · have:=length_putF f y fs; omega
  · show RelO ((putF f y fs).lookup g) (if g=f then some u else mA g)
    rw [lookup_putF]
    by_cases q:g=f
    · rw [if_pos q,if_pos q]; exact ry
    · rw [if_neg q,if_neg q]; exact r g
  · by_cases q:g=f
    · rw [q]; exact (keys_putF f y fs).1
    · refine (keys_putF f y fs).2 g (wi g fun z=>hg ?_)
      show (if g=f then some u else mA g)=none
      rw [if_neg q]; exact z
theorem Inv.made (I:Inv X pins σ H s):Inv X pins σ (upd (upd H s.heap.objs.size (.own (s.heap.objs.size+1))) (s.heap.objs.size+1) (.ins C s.heap.objs.size []))
    { s with heap:=(s.heap.push PySem.W.emptyDict).push (PySem.W.instObj C s.heap.objs.size) }:=by
  have e1:(s.heap.push PySem.W.emptyDict).get? s.heap.objs.size=some PySem.W.emptyDict:=Heap.get?_push_size s.heap rfl
  have e2:((s.heap.push PySem.W.emptyDict).push (PySem.W.instObj C s.heap.objs.size)).get? (s.heap.objs.size+1)=some (PySem.W.instObj C s.heap.objs.size):=by
    have:=Heap.get?_push_size (s.heap.push PySem.W.emptyDict) (o:=PySem.W.instObj C s.heap.objs.size) rfl
    rwa [Heap.size_push] at this
  have e3:(s.heap.push PySem.W.emptyDict).Ns s.heap.objs.size (fun _=>none):=⟨PySem.W.emptyDict,#[],_,e1,rfl,(fun e he=>absurd he (by simp)),fun _=>rfl⟩
  have I1:=I.laid (a:=s.heap.objs.size) (o:=.own (s.heap.objs.size+1)) (h':=s.heap.push PySem.W.emptyDict) (t':=s.toks) (fun b u q=>Heap.get?_push_of_some _ q) (Nat.le_refl _) ⟨_,e1⟩
  refine I1.laid (a:=s.heap.objs.size+1) (o:=.ins C s.heap.objs.size []) (t':=s.toks) (fun b u q=>Heap.get?_push_of_some _ q) (Nat.le_of_eq (Heap.size_push _ _)) ?_
  have ne:s.heap.objs.size≠s.heap.objs.size+1:=Nat.ne_of_lt (Nat.lt_succ_self _)
  refine ⟨by rw [upd_ne ne,upd_same],Nat.zero_le _,ne,e2,fun _=>none,(Heap.Ns1.of_empty e3).at fun o q=>Heap.get?_push_of_some _ q,fun _=>True.intro,fun y hy=>absurd rfl hy⟩
theorem attr_of {prog:Program}{w:World}{env:Env}{e:Expr}{f:Str}{pos:Pos}{s:Shared}{Q:Value→Shared→Prop}(hb:attributeBase e f env (eval e env)=eval e env)
    (h:wpAny (model prog w) A (eval e env) (fun o s₁=>wpAny (model prog w) A (getAttr o f true) Q E s₁) E s):wpAny (model prog w) A (eval (.Attribute e f pos) env) Q E s :=
  Attribute_any_ h (by rw [arm_eval_Attribute,hb])
end
def tFld (K:PySem.W.Frag) (ta:TE) (f:Str):TE:=fun σ H Q=>ta σ H fun x H1=>∃ a C dx fs v,x=.ref a∧H1 a=some (.ins C dx fs)∧Cls K C∧NoAttr K C f∧fs.lookup f=some v∧Q v H1
def sFld (K:PySem.W.Frag) (ta tv:TE) (f:Str):TS:=fun D σ H=>tv σ H fun y H1=>ta σ H1 fun x H2=>∃ a C dx fs,x=.ref a∧H2 a=some (.ins C dx fs)∧Cls K C∧NoAttr K C f∧fs.length < 1000 ∧
  D.nx σ (upd H2 a (.ins C dx (putF f y fs)))
section
variable {X:Cx}{o e value:Expr}{f:Str}{pos pos' tpos:Pos}{ta tv:TE}
theorem pe_fld (he:PE X e ta) (hb:attributeBase e f X.env (eval e X.env)=eval e X.env):PE X (.Attribute e f pos) (tFld X.K ta f):=by
  intro pins s σ H Q I h
  refine attr_of hb (thn (he pins s σ H _ I h) fun u s1 ⟨x,H1,I1,rx,a,C,dx,fs,v,ex,ea,c,n,l,q⟩=>?_)
  subst ex
  obtain rfl:u=Value.ref a:=rx
  exact getattr_ok I1 ea c n l fun u' s2 I2 ru=>⟨v,H1,I2,ru,q⟩
theorem ps_fld (ha:PE X o ta) (hv:PE X value tv) (hs:swapsWith value (some (.Attribute o f pos')) pos.line X.env=pure false):PS X (.Assign [.Attribute o f pos'] value pos) (sFld X.K ta tv f):=by
  intro pins s σ H D I h
  refine plainObj_wpAny_Assign_Attribute (thn (hv pins s σ H _ I h) fun u s1 ⟨y,H1,I1,ry,q⟩=>thn (ha pins s1 σ H1 _ I1 q) fun ov s2 ⟨x,H2,I2,rx,a,C,dx,fs,ex,ea,c,n,l,q2⟩=>?_) hs
  subst ex
  obtain rfl:ov=Value.ref a:=rx
  exact setattr_ok I2 ea c n l ry fun s3 I3=>⟨σ,_,I3,q2⟩
end
section
variable {X:Cx}{pins:List (Addr × Obj)}{σ:St}{H:Hp}{s:Shared}{A:Around}{E:Value→Shared→Prop}{Q:Value→Shared→Prop}{c:Value}{b:Bool}
inductive TyOf (K:PySem.W.Frag) (H:Hp):V→Value→Prop where
  | non:TyOf K H .non (.type "NoneType")
  | bl (x:Bool):TyOf K H (.bl x) (.type "bool")
  | int (i:Int):TyOf K H (.int i) (.type "int")
  | str (x:Str):TyOf K H (.str x) (.type "str")
  | flt (x:UInt64):TyOf K H (.flt x) (.type "float")
  | lst {a:Addr}{xs:List V}(e:H a=some (.lst xs)):TyOf K H (.ref a) (.type "list")
  | frz {a:Addr}{o:Obj}{xs:List V}(e:H a=some (.frz o (.lst xs))):TyOf K H (.ref a) (.type "list")
  | tup {a:Addr}{xs:List V}(e:H a=some (.tup xs)):TyOf K H (.ref a) (.type "tuple")
  | dK {a:Addr}{kvs:List (Key × V)}(e:H a=some (.dK kvs)):TyOf K H (.ref a) (.type "dict")
  | dT {a:Addr}{kvs:List (List Key × V)}(e:H a=some (.dT kvs)):TyOf K H (.ref a) (.type "dict")
  | ins {a C dx:Addr}{fs:List (Str × V)}(e:H a=some (.ins C dx fs)) (cl:Cls K C) (ha:PySem.W.findIn K (.ref C) "__class__"=some (some (.builtin "object.__class__")))
      (hn:PySem.W.specialIn K (.builtin "object.__class__") "__get__"=some (some (.builtin "getset_descriptor.__get__"))) (htk:PySem.W.takesIn K (.builtin "object.__class__")=some true)
      (hm:PySem.W.mroIn K C (.type "object")=some true):TyOf K H (.ref a) (.ref C)
theorem isinst_ok {x:V}{u t:Value}(I:Inv X pins σ H s) (rx:RelV x u) (ty:TyOf X.K H x t) (e:PySem.W.kitOne X.K t c=some b) (h:∀ tk,Q (.bool b) { s with toks:=tk }) :
    wpAny (model X.prog X.w) A (call (.builtin "isinstance") [u,c]) Q E s:=by
  cases ty with
  | non=>cases (show u=Value.none from rx); exact PySem.W.kia_one PySem.W.kitx_none I.kIn True.intro e (fun z=>nomatch z) h
  | bl y=>cases (show u=Value.bool y from rx); exact PySem.W.kia_one PySem.W.kitx_bool I.kIn True.intro e (fun z=>nomatch z) h
  | int i=>obtain ⟨t,q⟩:=(show ∃ t,u=Value.int i t from rx); cases q; exact PySem.W.kia_one PySem.W.kitx_int I.kIn True.intro e (fun z=>nomatch z) h
  | str y=>obtain ⟨t,q⟩:=(show ∃ t,u=Value.str y t from rx); cases q; exact PySem.W.kia_one PySem.W.kitx_str I.kIn True.intro e (fun z=>nomatch z) h
  | flt y=>obtain ⟨t,q⟩:=(show ∃ t,u=Value.float y t from rx); cases q; exact PySem.W.kia_one PySem.W.kitx_float I.kIn True.intro e (fun z=>nomatch z) h
  | @lst a xs ea =>
    cases (show u=Value.ref a from rx)
    obtain ⟨_,_,n,_,h1⟩:=(show ObjOk X.prog X.w H s.heap a (.lst xs) from I.hok a _ ea)
    exact PySem.W.kia_one PySem.W.kitx_list I.kIn ⟨_,h1,rfl⟩ e (fun z=>nomatch z) h
  | @frz a ob xs ea =>
    cases (show u=Value.ref a from rx)
    obtain ⟨_,_,_,n,_,h1⟩:=(show ObjOk X.prog X.w H s.heap a (.frz ob (.lst xs)) from I.hok a _ ea)
    exact PySem.W.kia_one PySem.W.kitx_list I.kIn ⟨_,h1,rfl⟩ e (fun z=>nomatch z) h
  | @tup a xs ea =>
    cases (show u=Value.ref a from rx)
    obtain ⟨_,_,_,p⟩:=(show ObjOk X.prog X.w H s.heap a (.tup xs) from I.hok a _ ea)
    obtain ⟨o,h1,h2,_⟩:=p
    exact PySem.W.kia_one PySem.W.kitx_tuple I.kIn ⟨o,h1,h2⟩ e (fun z=>nomatch z) h
  | @dK a kvs ea =>
    cases (show u=Value.ref a from rx)
    obtain ⟨_,_,vs,_,p⟩:=(show ObjOk X.prog X.w H s.heap a (.dK kvs) from I.hok a _ ea)
    obtain ⟨o,es,ep,h1,h2,_⟩:=p
    exact PySem.W.kia_one PySem.W.kitx_dict I.kIn ⟨o,h1,h2.1⟩ e (fun z=>nomatch z) h
  | @dT a kvs ea =>
    cases (show u=Value.ref a from rx)
    obtain ⟨_,_,xs,_,o,es,ep,h1,h2,_⟩:=(show ObjOk X.prog X.w H s.heap a (.dT kvs) from I.hok a _ ea)
    exact PySem.W.kia_one PySem.W.kitx_dict I.kIn ⟨o,h1,h2.1⟩ e (fun z=>nomatch z) h
  | @ins a C dx fs ea cl ha hn htk hm =>
    cases (show u=Value.ref a from rx)
    obtain ⟨mA,O,_⟩:=ins_get I.hok ea
    obtain ⟨od,J,_⟩:=O.look
    exact PySem.W.kia_one (PySem.W.kitx_own (cl.get _) cl.hd ha hn htk hm) I.kIn J e (fun z=>nomatch z) h
end
end L2
namespace L2
open PySem PySem.Spec PyProof.Rows
structure Room (k:Nat) (A:Around):Prop where
  hd:A.handled=none
  dp:A.depth+3 * k+5 < recursionLimit
  un:A.units+16 * k+200 < cLine
theorem Room.mono {j k:Nat}{A:Around}(r:Room k A) (h:j≤k):Room j A:=⟨r.hd,by have:=r.dp; omega,by have:=r.un; omega⟩
theorem Room.deeper {k:Nat}{A:Around}(r:Room (k+1) A) (env:Env):Room k (A.deeper env) :=
  ⟨r.hd,by have:=r.dp; show A.depth+1+3 * k+5 < _; omega,by have:=r.un; show A.units+3+16 * k+200 < _; omega⟩
theorem Room.in1 {k:Nat}{A:Around}(r:Room (k+1) A):Room k A.in1 :=
  ⟨r.hd,by have:=r.dp; show A.depth+3 * k+5 < _; omega,by have:=r.un; show A.units+1+16 * k+200 < _; omega⟩
theorem make_depth {A:Around}{C:Addr}{us:List Value}{kw:List (Str × Value)}:(A.under (.builtin "type.__call__" ⟨.ref C::us,kw⟩)).depth=A.depth+1:=by
  first | rfl | simp [Around.under,Code.weight,Code.isCreation,Code.isGuard,Code.isCaller,Code.frames,Code.isFrame,guardIds]
theorem make_units {A:Around}{C:Addr}{us:List Value}{kw:List (Str × Value)}:(A.under (.builtin "type.__call__" ⟨.ref C::us,kw⟩)).units=A.units+1:=by
  first | rfl | simp [Around.under,Code.cUnits,Code.frames,Code.isFrame]
theorem Room.make {k:Nat}{A:Around}(r:Room (k+1) A) (C:Addr) (us:List Value) (kw:List (Str × Value)):Room k (A.under (.builtin "type.__call__" ⟨.ref C::us,kw⟩)) :=
  ⟨r.hd,by have:=r.dp; rw [make_depth]; omega,by have:=r.un; rw [make_units]; omega⟩
theorem Room.depth {k:Nat}{A:Around}(r:Room k A):A.depth < recursionLimit:=by have:=r.dp; omega
theorem Room.units {k:Nat}{A:Around}(r:Room k A):A.units+64 < cLine:=by have:=r.un; omega
def tNil:TA:=fun _ H Q=>Q [] H
def tCons (ta:TE) (tr:TA):TA:=fun σ H Q=>ta σ H fun x H1=>tr σ H1 fun xs H2=>Q (x::xs) H2
section
variable {X:Cx}{e:Expr}{es:List Expr}{te:TE}{t:TA}{pos:Pos}
theorem pa_nil:PA X [] tNil:=fun _ _ _ _ H Q I h=>Calls.spliced_nil ⟨[],H,I,.nil,h⟩
theorem pa_cons (ha:PE X e te) (hr:PA X es t) (hs:starEach (e::es) X.env=(false,eval e X.env)::starEach es X.env:=by rfl):PA X (e::es) (tCons te t):=by
  intro pos pins s σ H Q I h
  rw [hs]
  show wpAny _ _ (spliced ((false,eval e X.env)::backTo pos (starEach es X.env))) _ _ s
  refine Calls.spliced_cons (thn (ha pins s σ H _ I h) fun u s1 ⟨x,H1,I1,r1,q1⟩=>?_)
  exact thn (hr pos pins s1 σ H1 _ I1 q1) fun us s2 ⟨xs,H2,I2,r2,q2⟩=>⟨x::xs,H2,I2,.cons r1 r2,q2⟩
def tTup (t:TA):TE:=fun σ H Q=>t σ H fun xs H1=>xs.length≤sizeLine∧∀ p,H1 p=none→Q (.ref p) (upd H1 p (.tup xs))
def tLst (t:TA):TE:=fun σ H Q=>t σ H fun xs H1=>xs.length≤sizeLine∧∀ p,H1 p=none→Q (.ref p) (upd H1 p (.lst xs))
theorem pe_tup {x1}(h:PA X es t):PE X (.Tuple es x1 pos) (tTup t):=by
  intro pins s σ H Q I hq
  refine wpAny_Tuple_spliced (thn (h pos pins s σ H _ I hq) fun us s1 ⟨xs,H1,I1,r,z,q⟩=>⟨by rw [← r.length]; exact z,?_⟩)
  have hf:H1 s1.heap.objs.size=none:=I1.hok.fresh (Nat.le_refl _)
  refine ⟨.ref s1.heap.objs.size,upd H1 s1.heap.objs.size (.tup xs),I1.laid (t':=s1.toks) (fun b u e=>Heap.get?_push_of_some _ e) (Nat.le_refl _) ?_,rfl,q _ hf⟩
  exact ⟨z,us,r,⟨_,Heap.get?_push_size _ rfl,rfl,_,rfl⟩⟩
theorem pe_lst (h:PA X es t):PE X (.List es pos) (tLst t):=by
  intro pins s σ H Q I hq
  refine wpAny_List_spliced (thn (h pos pins s σ H _ I hq) fun us s1 ⟨xs,H1,I1,r,z,q⟩=>⟨by rw [← r.length]; exact z,?_⟩)
  have hf:H1 s1.heap.objs.size=none:=I1.hok.fresh (Nat.le_refl _)
  refine ⟨.ref s1.heap.objs.size,upd H1 s1.heap.objs.size (.lst xs),I1.laid (t':=s1.toks) (fun b u e=>Heap.get?_push_of_some _ e) (Nat.le_refl _) ?_,rfl,q _ hf⟩
  exact ⟨z,us,0,r,Heap.get?_push_size _ rfl⟩
end
abbrev Sp:=List V→Hp→VK→XK→Prop
abbrev CXT:=List Env→Hp→Shared→XK→Value→Shared→Prop
structure Env0 (P:Program) (w:World) (K:PySem.W.Frag) (mg:Str→Option Value) (base:Heap) (A:Around) (outer:List Env) (s:Shared) (H:Hp):Prop where
  frames:A.frames=some outer
  mod:Mod K mg base
  bs:∀ b o,base.get? b=some o→s.heap.get? b=some o∧H b=none
  bsz:base.objs.size≤s.heap.objs.size
  funs:s.heap.FunFrames base outer
  frf:∀ b∈frs outer,H b=none
  hok:HOk P w H s.heap
  bare:AllBare s.gens
def CE (outer:List Env) (P:Program) (w:World) (H:Hp) (s:Shared) (Q:VK) (u:Value) (s':Shared):Prop :=
  ∃ v H',s'.os=s.os∧AllBare s'.gens∧Un (frs outer) [] H H' s.heap s'.heap∧HOk P w H' s'.heap∧RelV v u∧Q v H'
def CR (CX:CXT) (outer:List Env) (P:Program) (w:World) (H:Hp) (s:Shared) (Q:VK) (E:XK) (r:Result) (s':Shared):Prop :=
  match r with
  | .ok (.ret u)=>CE outer P w H s Q u s'
  | .ok _=>False
  | .error e=>CX outer H s E e s'
structure FnOk (P:Program) (w:World) (K:PySem.W.Frag) (mg:Str→Option Value) (base:Heap) (CX:CXT) (k:Nat) (f:Addr) (fd:FuncData) (ps:List Str) (sp:Sp):Prop where
  len:∀ vs H Q E,sp vs H Q E→vs.length=ps.length
  run:∀ (A:Around) (outer:List Env) (s:Shared) (H:Hp) (args:Args) (us:List Value) (vs:List V) (Q:VK) (E:XK),Room k A→Env0 P w K mg base A outer s H→BindsTo s fd args (ps.zip us)→Vals vs us→sp vs H Q E →
    codeAny (model P w) A (.call (.ref f) args) (CR CX outer P w H s Q E) s
theorem FnOk.mono {P:Program}{w:World}{K:PySem.W.Frag}{mg:Str→Option Value}{base:Heap}{CX:CXT}{j k:Nat}{f:Addr}{fd:FuncData}{ps:List Str}{sp:Sp}(F:FnOk P w K mg base CX j f fd ps sp) (h:j≤k) :
    FnOk P w K mg base CX k f fd ps sp:=⟨F.len,fun A outer s H args us vs Q E hr=>F.run A outer s H args us vs Q E (hr.mono h)⟩
theorem FnOk.imp {P:Program}{w:World}{K:PySem.W.Frag}{mg:Str→Option Value}{base:Heap}{CX:CXT}{k:Nat}{f:Addr}{fd:FuncData}{ps:List Str}{sp sp':Sp}(F:FnOk P w K mg base CX k f fd ps sp)
    (h:∀ vs H Q E,sp' vs H Q E→sp vs H Q E):FnOk P w K mg base CX k f fd ps sp' :=
  ⟨fun vs H Q E q=>F.len vs H Q E (h _ _ _ _ q),fun A outer s H args us vs Q E hr he hb hv hs=>F.run A outer s H args us vs Q E hr he hb hv (h _ _ _ _ hs)⟩
theorem Env0.make {P:Program}{w:World}{K:PySem.W.Frag}{mg:Str→Option Value}{base:Heap}{A:Around}{outer:List Env}{s:Shared}{H:Hp}(e:Env0 P w K mg base A outer s H) (C:Addr) (us:List Value) (kw:List (Str × Value)) :
    Env0 P w K mg base (A.under (.builtin "type.__call__" ⟨.ref C::us,kw⟩)) outer s H:=⟨by first | exact e.frames | (simpa [Around.under,Code.envs,Code.isFrame,pushEnvs] using e.frames),e.mod,e.bs,e.bsz,e.funs,e.frf,e.hok,e.bare⟩
theorem Env0.in1 {P:Program}{w:World}{K:PySem.W.Frag}{mg:Str→Option Value}{base:Heap}{A:Around}{outer:List Env}{s:Shared}{H:Hp}(e:Env0 P w K mg base A outer s H) :
    Env0 P w K mg base A.in1 outer s H:=⟨e.frames,e.mod,e.bs,e.bsz,e.funs,e.frf,e.hok,e.bare⟩
section
variable {X:Cx}{pins:List (Addr × Obj)}{σ:St}{H:Hp}{s s':Shared}
theorem Inv.env0 (I:Inv X pins σ H s):Env0 X.prog X.w X.K X.mg X.base X.A X.stack s H :=
  ⟨I.ok.frames,I.ok.mod,I.bs,Nat.le_trans I.ok.bsz I.sz,I.stack,I.stkFree,I.hok,I.bare⟩
theorem Inv.after {Q:VK}{u:Value}(I:Inv X pins σ H s) (h:CE X.stack X.prog X.w H s Q u s'):EP X pins σ Q u s':=by
  obtain ⟨v,H',os,bare,un,hok,r,q⟩:=h
  obtain ⟨hh,g,d,t,os'⟩:=s'
  obtain rfl:os'=s.os:=os
  exact ⟨v,H',I.call (h':=hh) (g':=g) (d':=d) (t':=t) (ch:=[]) un hok bare (fun b z=>absurd z (by simp)),r,q⟩
end
def tCall (sp:Sp) (dvs:List V) (E:XK) (t:TA):TE:=fun σ H Q=>t σ H fun vs H1=>sp (vs++dvs) H1 Q E
def tMake (C:Addr) (sp:Sp) (dvs:List V) (E:XK) (t:TA):TE:=fun σ H Q=>t σ H fun vs H1=>∀ x dx,H1 x=none→H1 dx=none→dx≠x →
  sp (.ref x::(vs++dvs)) (upd (upd H1 dx (.own x)) x (.ins C dx [])) (fun v H2=>v=.non∧Q (.ref x) H2) E
def Binds (K:PySem.W.Frag) (fd:FuncData) (ps:List Str) (ds:List Value):Prop :=
  ∀ (s:Shared) (us:List Value),K.In s.heap→(us++ds).length=ps.length→BindsTo s fd ⟨us,[]⟩ (ps.zip (us++ds))
theorem Binds.all {K:PySem.W.Frag}{fd:FuncData}{ps:List Str}(h:∀ us:List Value,us.length=ps.length→bindArgs fd ⟨us,[]⟩=pure (ps.zip us)):Binds K fd ps []:=fun s us _ hl=>by
  rw [List.append_nil] at hl ⊢
  exact .of_eq (h us hl)
def Passes (CX:CXT) (X:Cx) (E:XK):Prop:=∀ (pins:List (Addr × Obj)) (σ:St) (H:Hp) (s:Shared) (e:Value) (s':Shared),Inv X pins σ H s→CX X.stack H s E e s'→X.xe e s'
section
variable {X:Cx}{CX:CXT}{k:Nat}{f C:Addr}{fd:FuncData}{ps:List Str}{sp:Sp}{dvs:List V}{ds:List Value}{E:XK}{x m:Str}{p pos apos:Pos}{e o:Expr}{es:List Expr}{ta:TE}{t:TA}
theorem run_fn {pins:List (Addr × Obj)}{σ:St}{H:Hp}{s:Shared}{Q:VK}{us:List Value}{vs:List V}(F:FnOk X.prog X.w X.K X.mg X.base CX k f fd ps sp) (hr:Room k X.A) (hb:Binds X.K fd ps ds) (hd:Vals dvs ds) (hx:Passes CX X E)
    (I:Inv X pins σ H s) (r:Vals vs us) (h:sp (vs++dvs) H Q E):wpAny (model X.prog X.w) X.A (call (.ref f) us) (EP X pins σ Q) X.xe s:=by
  have r2:Vals (vs++dvs) (us++ds):=r.append hd
  have hl:(us++ds).length=ps.length:=by rw [← r2.length]; exact F.len _ _ _ _ h
  refine wpAny_call (codeAny_mono (F.run X.A X.stack s H ⟨us,[]⟩ (us++ds) (vs++dvs) Q E hr I.env0 (hb s us I.kIn hl) r2 h) fun r s' hq=>?_)
  cases r with
  | error e=>exact hx pins σ H s e s' I hq
  | ok fl =>
    cases fl with
    | ret u=>exact I.after hq
    | next=>exact False.elim hq
    | brk=>exact False.elim hq
    | cont=>exact False.elim hq
theorem pe_call (F:FnOk X.prog X.w X.K X.mg X.base CX k f fd ps sp) (hr:Room k X.A) (hg:Gl X x) (hm:X.mg x=some (.ref f)) (hk:PySem.W.keepIn X.K (.ref f)=true) (hb:Binds X.K fd ps ds) (hd:Vals dvs ds) (hx:Passes CX X E)
    (ha:PA X (e::es) t) (hdb:(x == ("__debug__":Str))=false:=by decide) (he:starEach (e::es) X.env=(false,eval e X.env)::starEach es X.env:=by rfl) (hpl:(backTo pos (starEach es X.env)).any (·.1)=false:=by rfl) :
    PE X (.Call (.Name x p) (e::es) [] pos) (tCall sp dvs E t):=by
  intro pins s σ H Q I h
  refine wpAny_Call_Name_kw (ld_glob I hg hm ?_ hdb)
  refine PySem.W.callWith_K (h₀:=X.base) I.ok.mod.kin hk (thn (ha pos pins s σ H _ I h) fun us s1 ⟨vs,H1,I1,r,q⟩=>⟨I1.kIn,?_⟩) he hpl
  exact run_fn F hr hb hd hx I1 r q
structure Mk (K:PySem.W.Frag) (C f:Addr):Prop where
  makes:PySem.W.makesIn K C=true
  init:PySem.W.findIn K (.ref C) "__init__"=some (some (.ref f))
  fn:PySem.W.isFn K (.ref f)=true
  kp:PySem.W.keepIn K (.ref C)=true
theorem run_make {pins:List (Addr × Obj)}{σ:St}{H:Hp}{s:Shared}{Q:VK}{us:List Value}{vs:List V}(M:Mk X.K C f) (F:FnOk X.prog X.w X.K X.mg X.base CX k f fd ps sp) (hr:Room (k+1) X.A) (hb:Binds X.K fd ps ds) (hd:Vals dvs ds)
    (hx:Passes CX X E) (I:Inv X pins σ H s) (r:Vals vs us)
    (h:∀ x dx,H x=none→H dx=none→dx≠x→sp (.ref x::(vs++dvs)) (upd (upd H dx (.own x)) x (.ins C dx [])) (fun v H2=>v=.non∧Q (.ref x) H2) E) :
    wpAny (model X.prog X.w) X.A (call (.ref C) us) (EP X pins σ Q) X.xe s:=by
  have hq:=h (s.heap.objs.size+1) s.heap.objs.size (I.hok.fresh (Nat.le_succ _)) (I.hok.fresh (Nat.le_refl _)) (Nat.ne_of_lt (Nat.lt_succ_self _))
  have I2:=Inv.made (C:=C) I
  have r2:Vals (V.ref (s.heap.objs.size+1)::(vs++dvs)) (Value.ref (s.heap.objs.size+1)::(us++ds)):=.cons rfl (r.append hd)
  have hl:(Value.ref (s.heap.objs.size+1)::us++ds).length=ps.length:=by
    have e:=r2.length
    rw [F.len _ _ _ _ hq] at e
    exact e.symm
  refine wpAny_call (make_map (f:=f) I.kIn M.makes M.init (beq_iff_eq.mp M.fn) (codeAny_mono (F.run _ X.stack _ _ ⟨Value.ref (s.heap.objs.size+1)::us,[]⟩ (Value.ref (s.heap.objs.size+1)::(us++ds)) _ _ E (hr.make C us [])
    (I2.env0.make C us []) (hb _ (Value.ref (s.heap.objs.size+1)::us) I2.kIn hl) r2 hq) fun r s' hq'=>?_))
  cases r with
  | error e=>exact hx pins σ _ _ e s' I2 hq'
  | ok fl =>
    cases fl with
    | ret u =>
      obtain ⟨v,H',I3,rv,ev,q3⟩:=I2.after hq'
      subst ev
      exact ⟨rv,⟨V.ref (s.heap.objs.size+1),H',I3,rfl,q3⟩⟩
    | next=>exact False.elim hq'
    | brk=>exact False.elim hq'
    | cont=>exact False.elim hq'
theorem pe_make (M:Mk X.K C f) (F:FnOk X.prog X.w X.K X.mg X.base CX k f fd ps sp) (hr:Room (k+1) X.A) (hg:Gl X x) (hm:X.mg x=some (.ref C)) (hb:Binds X.K fd ps ds) (hd:Vals dvs ds) (hx:Passes CX X E)
    (ha:PA X (e::es) t) (hdb:(x == ("__debug__":Str))=false:=by decide) (he:starEach (e::es) X.env=(false,eval e X.env)::starEach es X.env:=by rfl) (hpl:(backTo pos (starEach es X.env)).any (·.1)=false:=by rfl) :
    PE X (.Call (.Name x p) (e::es) [] pos) (tMake C sp dvs E t):=by
  intro pins s σ H Q I h
  refine wpAny_Call_Name_kw (ld_glob I hg hm ?_ hdb)
  refine PySem.W.callWith_K (h₀:=X.base) I.ok.mod.kin M.kp (thn (ha pos pins s σ H _ I h) fun us s1 ⟨vs,H1,I1,r,q⟩=>⟨I1.kIn,?_⟩) he hpl
  exact run_make M F hr hb hd hx I1 r q
end
section
variable {X:Cx}{CX:CXT}{k:Nat}{f C:Addr}{fd:FuncData}{ps ks:List Str}{sp:Sp}{E:XK}{x m:Str}{p pos apos kpos:Pos}{e o:Expr}{es:List Expr}{kws:List Keyword}{te ta:TE}{t tk:TA}{nm:Option Str}
structure KBinds (K:PySem.W.Frag) (fd:FuncData) (ps ks:List Str) (g:List Value→List Value→List Value) (gV:List V→List V→List V):Prop where
  to:∀ (s:Shared) (us ws:List Value),K.In s.heap→(g us ws).length=ps.length→BindsTo s fd ⟨us,ks.zip ws⟩ (ps.zip (g us ws))
  rel:∀ {vs:List V}{us:List Value}{zs:List V}{ws:List Value},Vals vs us→Vals zs ws→Vals (gV vs zs) (g us ws)
variable {g:List Value→List Value→List Value}{gV:List V→List V→List V}
end
structure FnScope (N P:List Str) (sc:Scope):Prop where
  kind:sc.kind=.function
  co:sc.isCoroutine=false
  gen:sc.isGenerator=false
  nd:N.Nodup
  pre:N.take P.length=P
  par:∀ x∈P,sc.names.lookup x=some .local∨sc.names.lookup x=some .cell
  nofree:∀ y∈sc.names,y.2≠.free
theorem bindL_out {kindOf:Str→Option NameKind}{x:Str}:∀ {binds:List (Str × Value)}{m:Str→Option Value},(∀ v,(x,v) ∉ binds)→bindL kindOf binds m x=m x
  | [],_,_=>rfl
  | (n,v)::r,m,h=>by
    unfold bindL
    rw [bindL_out fun w hw=>h w (List.mem_cons_of_mem _ hw)]
    split
    · have:x≠n:=by rintro rfl; exact h v List.mem_cons_self
      simp [this]
    · rfl
theorem bindC_out {kindOf:Str→Option NameKind}{x:Str}:∀ {binds:List (Str × Value)}{m:Str→Option Value},(∀ v,(x,v) ∉ binds)→bindC kindOf binds m x=m x
  | [],_,_=>rfl
  | (n,v)::r,m,h=>by
    unfold bindC
    rw [bindC_out fun w hw=>h w (List.mem_cons_of_mem _ hw)]
    split
    · rfl
    · have:x≠n:=by rintro rfl; exact h v List.mem_cons_self
      simp [this]
theorem bindL_get {kindOf:Str→Option NameKind}{x:Str}{v:Value}:∀ {P:List Str}{vs:List Value}{i:Nat}{m:Str→Option Value},P.Nodup→P[i]?=some x→vs[i]?=some v→kindOf x=some .local →
    bindL kindOf (P.zip vs) m x=some v
  | [],_,_,_,_,h,_,_=>by simp at h
  | _::_,[],_,_,_,_,h,_=>by simp at h
  | p::P,w::vs,0,m,nd,h1,h2,hk=>by
    simp at h1 h2; subst h1; subst h2
    show bindL kindOf ((p,w)::P.zip vs) m p=_
    unfold bindL
    rw [bindL_out fun v hv=>(List.nodup_cons.mp nd).1 (List.of_mem_zip hv).1,if_pos hk]
    simp
  | p::P,w::vs,i+1,m,nd,h1,h2,hk=>by
    show bindL kindOf ((p,w)::P.zip vs) m x=_
    unfold bindL
    exact bindL_get (i:=i) (List.nodup_cons.mp nd).2 (by simpa using h1) (by simpa using h2) hk
theorem bindC_get {kindOf:Str→Option NameKind}{x:Str}{v:Value}:∀ {P:List Str}{vs:List Value}{i:Nat}{m:Str→Option Value},P.Nodup→P[i]?=some x→vs[i]?=some v→kindOf x≠some .local →
    bindC kindOf (P.zip vs) m x=some v
  | [],_,_,_,_,h,_,_=>by simp at h
  | _::_,[],_,_,_,_,h,_=>by simp at h
  | p::P,w::vs,0,m,nd,h1,h2,hk=>by
    simp at h1 h2; subst h1; subst h2
    show bindC kindOf ((p,w)::P.zip vs) m p=_
    unfold bindC
    rw [bindC_out fun v hv=>(List.nodup_cons.mp nd).1 (List.of_mem_zip hv).1,if_neg hk]
    simp
  | p::P,w::vs,i+1,m,nd,h1,h2,hk=>by
    show bindC kindOf ((p,w)::P.zip vs) m x=_
    unfold bindC
    exact bindC_get (i:=i) (List.nodup_cons.mp nd).2 (by simpa using h1) (by simpa using h2) hk
def start (N:List Str) (vs:List V):St:=vs.map some++List.replicate (N.length - vs.length) none
def cxOf (CX:CXT) (P:Program) (w:World) (K:PySem.W.Frag) (mg:Str→Option Value) (base:Heap) (N:List Str) (qual:Str) (scope:Scope) (f:Addr) (cd:Value) (A:Around) (outer:List Env) (s:Shared) (H:Hp) (E:XK):Cx where
  prog:=P
  w:=w
  K:=K
  mg:=mg
  base:=base
  A:=A.deeper (envOfC qual scope s.heap.objs.size f cd)
  N:=N
  s₀:=s
  H₀:=H
  env:=envOfC qual scope s.heap.objs.size f cd
  outer:=outer
  stack:=envOfC qual scope s.heap.objs.size f cd::outer
  ex:=[]
  calm:=true
  fn:=fun _=>true
  pn:=[]
  xe:=fun e s'=>wpAny (model P w) (A.deeper (envOfC qual scope s.heap.objs.size f cd)) (leaving (envOfC qual scope s.heap.objs.size f cd) e) (fun _ s''=>CX outer H s E e s'') (fun e' s''=>CX outer H s E e' s'') s'
theorem cell_has {sc:Scope}{n:Nat}{x:Str}(h:sc.names.lookup x=some .cell):∃ c,(cellsFrom n sc.names []).lookup x=some c:=by
  have q:=PySem.W.cellsFrom_some sc.names n [] (.inl h)
  exact Option.isSome_iff_exists.mp q
theorem inv_start {CX:CXT}{P:Program}{w:World}{K:PySem.W.Frag}{mg:Str→Option Value}{base:Heap}{N ps:List Str}{qual:Str}{scope:Scope}{f:Addr}{cd:Value}{A:Around}{outer:List Env}{s s1:Shared}{H:Hp}{E:XK}{us:List Value}{vs:List V}
    (S:FnScope N ps scope) (hd:A.handled=none) (e0:Env0 P w K mg base A outer s H) (hl:vs.length=ps.length) (r:Vals vs us)
    (x:InCallC s s.heap.objs.size (bindL (envOfC qual scope s.heap.objs.size f cd).kindOf (ps.zip us) fun _=>none) (cellsFrom (s.heap.objs.size+1) scope.names []) (bindC (envOfC qual scope s.heap.objs.size f cd).kindOf (ps.zip us) fun _=>none) s1) :
    Inv (cxOf CX P w K mg base N qual scope f cd A outer s H E) [] (start N vs) H s1:=by
  have hpl:ps.length≤N.length:=by have:=congrArg List.length S.pre; rw [List.length_take] at this; omega
  obtain ⟨h1,tk,rfl,hk⟩:=x.done
  have noA:∀ b:Addr,b ∉ (cxOf CX P w K mg base N qual scope f cd A outer s H E).ex:=fun b z=>absurd (show b∈([]:List Addr) from z) (by simp)
  refine ⟨⟨e0.mod,S.kind,rfl,rfl,Nat.le_refl _,fun y z c h1 h2=>?_,fun y hy=>?_,fun y c _ h=>?_,fun _=>hd,Around.frames_deeper e0.frames,.inr ⟨rfl,rfl⟩,fun b z=>absurd z (noA b),e0.bs,e0.bsz,fun b _ _=>noA b,fun b z=>absurd z (noA b),e0.funs,e0.frf⟩,
    rfl,e0.bare,Un.kept hk,⟨_,x.toInCall.ns,fun i y v h1 h2 h3=>?_⟩,fun y c h=>⟨_,x.cell y c h⟩,e0.hok.fresh (Nat.le_refl _),fun y c h=>?_,fun p hp=>absurd (show p∈([]:List (Addr × Obj)) from hp) (by simp),e0.hok.kept hk,?_⟩
  · exact name_of_addr x.apart (PySem.mem_of_lookup h1) (PySem.mem_of_lookup h2)
  · have hy:scope.names.lookup y=some .cell∨scope.names.lookup y=some .free:=hy
    rcases hy with hy | hy
    · exact cell_has hy
    · exact absurd rfl (S.nofree _ (PySem.mem_of_lookup hy))
  · exact Nat.le_of_lt (x.above y c (PySem.mem_of_lookup h))
  · have hi:i < vs.length:=by
      unfold start at h2
      by_cases hi:i < vs.length
      · exact hi
      · rw [List.getElem?_append_right (by simpa using hi)] at h2
        rw [List.getElem?_replicate] at h2
        split at h2 <;> cases h2
    have ha:vs[i]?=some v:=by
      unfold start at h2
      rw [List.getElem?_append_left (by simpa using hi),List.getElem?_map] at h2
      cases e:vs[i]? with
      | none=>rw [e] at h2; cases h2
      | some a=>rw [e] at h2; cases h2; rfl
    obtain ⟨u,hu,rv⟩:=r.get ha
    have hp:ps[i]?=some y:=by
      rw [← S.pre,List.getElem?_take_of_lt (by omega)]; exact h1
    have ndP:ps.Nodup:=by rw [← S.pre]; exact S.nd.sublist (List.take_sublist _ _)
    refine ⟨u,rv,?_⟩
    rcases S.par y (List.mem_of_getElem? hp) with k | k
    · exact .inl ⟨k,bindL_get ndP hp hu k⟩
    · obtain ⟨c,e⟩:=cell_has (n:=s.heap.objs.size+1) k
      refine .inr ⟨.inl k,c,e,?_⟩
      have q:=x.cell y c e
      rw [bindC_get ndP hp hu (by show scope.names.lookup y≠_; rw [k]; decide)] at q
      exact q
  · exact e0.hok.fresh (Nat.le_of_lt (x.above y c (PySem.mem_of_lookup h)))
  · unfold start
    show _=N.length
    rw [List.length_append,List.length_map,List.length_replicate]
    omega
theorem fn_of {CX:CXT}{P:Program}{w:World}{K:PySem.W.Frag}{mg:Str→Option Value}{base:Heap}{k:Nat}{f:Addr}{name qual:Str}{params:Arguments}{body:List Stmt}{scope:Scope}{dV kV doc pm cdv ct oc:Value}{an od:Option Addr}
    {osl:Array (Option Value)}{N ps:List Str}{sp:Sp}(lk:K.lookup f=some ⟨oc,od,.func (PySem.W.fnOf name qual params body scope dV kV doc pm an cdv ct),osl⟩) (hcd:PySem.W.codeIn K cdv qual=true) (S:FnScope N ps scope)
    (len:∀ vs H Q E,sp vs H Q E→vs.length=ps.length)
    (hbody:∀ (A:Around) (outer:List Env) (s:Shared) (H:Hp) (vs:List V) (Q:VK) (E:XK),Room k (A.deeper (envOfC qual scope s.heap.objs.size f cdv))→sp vs H Q E →
      ∃ t,PSs (cxOf CX P w K mg base N qual scope f cdv A outer s H E) body t∧t { nx:=fun _ H'=>Q .non H',rt:=Q } (start N vs) H) :
    FnOk P w K mg base CX (k+1) f (PySem.W.fnOf name qual params body scope dV kV doc pm an cdv ct) ps sp:=by
  refine ⟨len,fun A outer s H args us vs Q E hr e0 hb r hsp=>?_⟩
  have hl:=len _ _ _ _ hsp
  have KX:K.In s.heap:=e0.mod.kin.keeps fun b o e=>(e0.bs b o e).1
  have lim:s.heap.NoLimit:=e0.mod.nolimit.keeps fun b o e=>(e0.bs b o e).1
  have hkind:∀ y∈ps.zip us,scope.names.lookup y.1=some .local∨(scope.names.lookup y.1=some .cell∧((cellsFrom (s.heap.objs.size+1) scope.names []).lookup y.1).isSome=true):=fun ⟨n,v⟩ hy=>by
    rcases S.par n (List.of_mem_zip hy).1 with q | q
    · exact .inl q
    · exact .inr ⟨q,PySem.W.cellsFrom_some _ _ _ (.inl q)⟩
  refine codeAny_call_function hr.depth (KX _ _ lk) rfl S.co S.gen rfl (PySem.W.codeRec_of KX hcd) (hb _ _ _ _ ?_)
  refine wpAny_newFunctionEnv_cells S.kind hkind fun env he s1 x=>?_
  subst he
  refine ⟨lim.keeps x.toInCall.keep,codeAny_func ?_⟩
  obtain ⟨t,ht,hq⟩:=hbody A outer s H vs Q E (hr.deeper _) hsp
  have I:Inv (cxOf CX P w K mg base N qual scope f cdv A outer s H E) [] (start N vs) H s1:=inv_start S hr.hd e0 hl r x
  refine wpAny_mono (ht [] s1 (start N vs) H _ I hq) (fun fl s' hs=>?_) fun e s' hs=>hs
  have fin:∀ {σ':St}{H':Hp}{v:V}{u:Value},Inv (cxOf CX P w K mg base N qual scope f cdv A outer s H E) [] σ' H' s'→RelV v u→Q v H'→CE outer P w H s Q u s' :=
    fun {σ' H' v u} J rv q=>⟨v,H',J.os,J.bare,J.base,J.hok,rv,q⟩
  cases fl with
  | ret u =>
    obtain ⟨v,σ',H',J,rv,q⟩:=hs
    exact fin J rv q
  | next =>
    obtain ⟨σ',H',J,q⟩:=hs
    exact fin (v:=V.non) (u:=Value.none) J rfl q
  | brk =>
    obtain ⟨_,_,_,q⟩:=hs
    exact False.elim q
  | cont =>
    obtain ⟨_,_,_,q⟩:=hs
    exact False.elim q
end L2
namespace L2
open PySem PySem.Spec PyProof.Rows
section
variable {X:Cx}{x:Str}{p pos:Pos}{e:Expr}{es:List Expr}{t:TA}{id T:String}{r:List V→Hp→VK→Prop}
def tCB (r:List V→Hp→VK→Prop) (t:TA):TE:=fun σ H Q=>t σ H fun vs H1=>r vs H1 Q
theorem pe_callB (hc:CallR X (.builtin id) r) (hg:Gl X x) (hm:X.mg x=none) (hv:bootBuiltins x=some (.builtin id)) (ha:PA X (e::es) t) (hn:x≠"__name__":=by decide) (hdb:(x == ("__debug__":Str))=false:=by decide)
    (he:starEach (e::es) X.env=(false,eval e X.env)::starEach es X.env:=by rfl) (hpl:(backTo pos (starEach es X.env)).any (·.1)=false:=by rfl):PE X (.Call (.Name x p) (e::es) [] pos) (tCB r t):=by
  intro pins s σ H Q I h
  refine wpAny_Call_Name_kw (ld_blt I hg hm hv ?_ hn hdb)
  exact PyProof.Rows.callWith_builtin1 (thn (ha pos pins s σ H _ I h) fun us s1 ⟨vs,H1,I1,r1,q1⟩=>hc pins s1 σ H1 vs us Q I1 r1 q1) he hpl
theorem pe_callTy (hc:CallR X (.type T) r) (hg:Gl X x) (hm:X.mg x=none) (hv:bootBuiltins x=some (.type T)) (ha:PA X (e::es) t) (hn:x≠"__name__":=by decide) (hdb:(x == ("__debug__":Str))=false:=by decide)
    (he:starEach (e::es) X.env=(false,eval e X.env)::starEach es X.env:=by rfl) (hpl:(backTo pos (starEach es X.env)).any (·.1)=false:=by rfl):PE X (.Call (.Name x p) (e::es) [] pos) (tCB r t):=by
  intro pins s σ H Q I h
  refine wpAny_Call_Name_kw (ld_blt I hg hm hv ?_ hn hdb)
  exact PyProof.Rows.callWith_type1 (thn (ha pos pins s σ H _ I h) fun us s1 ⟨vs,H1,I1,r1,q1⟩=>hc pins s1 σ H1 vs us Q I1 r1 q1) he hpl
end
end L2
namespace HT
open PySem PyProof.Rows
section
open PySem.SeqAt
open PySem.AutoSeq1 (wpAny_loadPart')
open PySem.MeetsSeq PySem.MeetsSeq2 PySem.MeetsSeq3
end
section
variable {prog:Program}{w:World}{A:Around}{E:Value→Shared→Prop}{s:Shared}
def sIx (n d:Nat):Option Int→Nat
  | none=>d
  | some v=>if v < 0 then (v+(n:Int)).toNat else min v.toNat n
end
end HT
namespace L2
open PySem PySem.Spec PyProof.Rows
abbrev TO:=St→Hp→(Option Int→Hp→Prop)→Prop
def PO (X:Cx) (e:Option Expr) (t:TO):Prop :=
  ∀ (pins:List (Addr × Obj)) (s:Shared) (σ:St) (H:Hp) (Q:Option Int→Hp→Prop),Inv X pins σ H s→t σ H Q →
    wpAny (model X.prog X.w) X.A (evalPart e X.env) (fun u s'=>∃ o H',Inv X pins σ H' s'∧IsPart u o∧Q o H') X.xe s
def tNoPart:TO:=fun _ H Q=>Q none H
def tPart (t:TE):TO:=fun σ H Q=>t σ H fun x H1=>∃ i,x=.int i∧Q (some i) H1
section
variable {X:Cx}{e:Expr}{te:TE}{lo hi:Option Expr}{tl th:TO}{pos p2:Pos}
theorem po_none:PO X none tNoPart:=by
  intro pins s σ H Q I h
  rw [evalPart_none]
  exact wpAny_pure ⟨none,H,I,.none,h⟩
theorem po_some (h:PE X e te):PO X (some e) (tPart te):=by
  intro pins s σ H Q I hw
  rw [evalPart_some]
  refine thn (h pins s σ H _ I hw) fun u s1 ⟨x,H1,I1,r1,q1⟩=>?_
  obtain ⟨i,rfl,q⟩:=q1
  obtain ⟨t,rfl⟩:=r1
  exact ⟨some i,H1,I1,.int i t,q⟩
def SlR (X:Cx) (r:V→Option Int→Option Int→Hp→VK→Prop):Prop :=
  ∀ (pins:List (Addr × Obj)) (s:Shared) (σ:St) (H:Hp) (x:V) (v vl vu:Value) (lo hi:Option Int) (sl:Addr) (Q:VK),Inv X pins σ H s→RelV x v→s.heap.IsSliceOf sl vl vu .none→IsPart vl lo→IsPart vu hi→r x lo hi H Q →
    ∃ T id,typeLookup (.type T) "__getitem__"=pure (some (.builtin id))∧s.TypeIs v T∧wpAny (model X.prog X.w) X.A (getItem v (.ref sl)) (EP X pins σ Q) X.xe s
theorem SlR.or {r r':V→Option Int→Option Int→Hp→VK→Prop}(h:SlR X r) (h':SlR X r'):SlR X (fun x lo hi H Q=>r x lo hi H Q∨r' x lo hi H Q):=by
  intro pins s σ H x v vl vu lo hi sl Q I rx hs pl pu q
  rcases q with q | q
  · exact h pins s σ H x v vl vu lo hi sl Q I rx hs pl pu q
  · exact h' pins s σ H x v vl vu lo hi sl Q I rx hs pl pu q
def tSl (r:V→Option Int→Option Int→Hp→VK→Prop) (te:TE) (tl th:TO):TE:=fun σ H Q=>te σ H fun x H1=>tl σ H1 fun l H2=>th σ H2 fun u H3=>r x l u H3 Q
theorem pe_slice {r:V→Option Int→Option Int→Hp→VK→Prop}(hr:SlR X r) (he:PE X e te) (hl:PO X lo tl) (hu:PO X hi th):PE X (.Subscript e (.Slice lo hi none p2) pos) (tSl r te tl th):=by
  intro pins s σ H Q I h
  refine Subscript_ (thn (he pins s σ H _ I h) fun v s1 ⟨x,H1,I1,r1,q1⟩=>?_)
  refine wpAny_Slice (thn (hl pins s1 σ H1 _ I1 q1) fun vl s2 ⟨l,H2,I2,pl,q2⟩=>thn (hu pins s2 σ H2 _ I2 q2) fun vu s3 ⟨u,H3,I3,pu,q3⟩=>?_)
  rw [evalPart_none]
  refine wpAny_pure ?_
  have I4:Inv X pins σ H3 { s3 with heap:=s3.heap.push { cls:=.type "slice",data:=.fields #[vl,vu,.none] } }:=I3.kept (t':=s3.toks) fun b ob q=>Heap.get?_push_of_some _ q
  obtain ⟨T,id,hT,ht,hg⟩:=hr pins { s3 with heap:=s3.heap.push { cls:=.type "slice",data:=.fields #[vl,vu,.none] } } σ H3 x v vl vu l u s3.heap.objs.size Q I4 r1 (Heap.IsSliceOf.new ..) pl pu q3
  show wpAny (model X.prog X.w) X.A (subscriptTail e (.Slice lo hi none p2) v (.ref s3.heap.objs.size)) (EP X pins σ Q) X.xe { s3 with heap:=s3.heap.push { cls:=.type "slice",data:=.fields #[vl,vu,.none] } }
  exact tail_any (ops:=[.ref s3.heap.objs.size,v]) ht hT hg (by with_unfolding_all rfl)
def cutV (xs:List V) (lo hi:Option Int):List V:=(xs.drop (HT.sIx xs.length 0 lo)).take (HT.sIx xs.length xs.length hi - HT.sIx xs.length 0 lo)
theorem cutV_length (xs:List V) (lo hi:Option Int):(cutV xs lo hi).length≤xs.length:=by
  unfold cutV
  rw [List.length_take,List.length_drop]
  omega
end
end L2
namespace L2
open PySem PySem.Spec PyProof.Rows
def ixN (n:Nat) (i:Int):Option Nat:=if 0≤i then (if i < n then some i.toNat else none) else if -(n:Int)≤i then some (i+n).toNat else none
def atI {α:Type}(xs:List α) (i:Int):Option α:=(ixN xs.length i).bind fun j=>xs[j]?
theorem ixN_seq {n:Nat}{i:Int}{j:Nat}(h:ixN n i=some j):seqIndex? i n=some j∧j < n∧-(n:Int)≤i∧i < n:=by
  unfold ixN at h
  by_cases h0:0≤i
  · rw [if_pos h0] at h
    by_cases h1:i < n
    · rw [if_pos h1] at h
      have e:i.toNat=j:=Option.some.inj h
      exact ⟨by rw [seqIndex_of h0 h1,e],by omega,by omega,h1⟩
    · rw [if_neg h1] at h; cases h
  · rw [if_neg h0] at h
    by_cases h1:-(n:Int)≤i
    · rw [if_pos h1] at h
      have e:(i+n).toNat=j:=Option.some.inj h
      exact ⟨by rw [seqIndex_neg (by omega) h1,e],by omega,h1,by omega⟩
    · rw [if_neg h1] at h; cases h
theorem atI_get {α:Type}{xs:List α}{i:Int}{v:α}(h:atI xs i=some v):∃ j,seqIndex? i xs.length=some j∧xs[j]?=some v∧j < xs.length∧-(xs.length:Int)≤i∧i < xs.length:=by
  unfold atI at h
  cases e:ixN xs.length i with
  | none=>rw [e] at h; cases h
  | some j =>
    rw [e] at h
    obtain ⟨h1,h2,h3,h4⟩:=ixN_seq e
    exact ⟨j,h1,h,h2,h3,h4⟩
theorem atI_nat {α:Type}{xs:List α}{j:Nat}{v:α}(h:xs[j]?=some v):atI xs (j:Int)=some v:=by
  have hj:j < xs.length:=(List.getElem?_eq_some_iff.mp h).1
  have e:ixN xs.length (j:Int)=some j:=by
    unfold ixN
    rw [if_pos (by omega),if_pos (by omega)]; simp
  unfold atI; rw [e]; exact h
def PlainIx (b:Expr):Prop:=∀ o i,subscripted b false o i=operate [o,i] (getItem o i)
def IxR (X:Cx) (r:R2):Prop :=
  ∀ (value slice:Expr) (pins:List (Addr × Obj)) (s:Shared) (σ:St) (H:Hp) (x y:V) (v u:Value) (Q:VK),Inv X pins σ H s→RelV x v→RelV y u→r x y H Q →
    subscripted slice false v u=operate [v,u] (getItem v u)→wpAny (model X.prog X.w) X.A (subscriptTail value slice v u) (EP X pins σ Q) X.xe s
def MtR (X:Cx) (id:String) (r:V→List V→Hp→VK→Prop):Prop :=
  ∀ (pins:List (Addr × Obj)) (s:Shared) (σ:St) (H:Hp) (x:V) (xs:List V) (v:Value) (us:List Value) (Q:VK),Inv X pins σ H s→RelV x v→Vals xs us→r x xs H Q →
    wpAny (model X.prog X.w) X.A (call (.builtin id) (v::us)) (EP X pins σ Q) X.xe s
section
variable {X:Cx}{a b:Expr}{ta tb:TE}{pos:Pos}
theorem IxR.or {r r':R2}(h:IxR X r) (h':IxR X r'):IxR X (fun x y H Q=>r x y H Q∨r' x y H Q):=by
  intro value slice pins s σ H x y v u Q I rx ry q hs
  rcases q with q | q
  · exact h value slice pins s σ H x y v u Q I rx ry q hs
  · exact h' value slice pins s σ H x y v u Q I rx ry q hs
theorem MtR.or {id:String}{r r':V→List V→Hp→VK→Prop}(h:MtR X id r) (h':MtR X id r'):MtR X id (fun x xs H Q=>r x xs H Q∨r' x xs H Q):=by
  intro pins s σ H x xs v us Q I rx rs q
  rcases q with q | q
  · exact h pins s σ H x xs v us Q I rx rs q
  · exact h' pins s σ H x xs v us Q I rx rs q
theorem pe_ix {r:R2}(hr:IxR X r) (ha:PE X a ta) (hb:PE X b tb) (hs:PlainIx b):PE X (.Subscript a b pos) (tOp r ta tb):=by
  intro pins s σ H Q I h
  exact Subscript_ (binT ha hb I h fun v u s2 x y H2 I2 rx ry q=>hr a b pins s2 σ H2 x y v u Q I2 rx ry q (hs _ _))
def rIxL (K:PySem.W.Frag):R2:=fun x y H Q=>∃ p xs i v,x=.ref p∧y=.int i∧SqL K H p xs∧atI xs i=some v∧Q v H
def rIxT (K:PySem.W.Frag):R2:=fun x y H Q=>∃ p xs i v,x=.ref p∧y=.int i∧SqT K H p xs∧atI xs i=some v∧Q v H
def rIxS:R2:=fun x y H Q=>∃ z i c,x=.str z∧y=.int i∧z.length≤sizeLine∧atI z.cps.toList i=some c∧Q (.str ⟨#[c]⟩) H
theorem ix_list:IxR X (rIxL X.K):=by
  intro value slice pins s σ H x y v u Q I rx ry h hs
  obtain ⟨p,xs,i,z,rfl,rfl,hq,he,q⟩:=h
  cases rx
  obtain ⟨t,rfl⟩:=ry
  obtain ⟨its,r,pl,hz⟩:=I.list hq
  obtain ⟨j,h1,h2,h3,h4,h5⟩:=atI_get he
  obtain ⟨w,ew,rw'⟩:=r.get h2
  have hl:=r.length
  have hn:=line63
  have fin:EP X pins σ Q w s:=⟨z,H,I,rw',q⟩
  by_cases h0:0≤i
  · have hj:i.toNat=j:=by
      rw [seqIndex_of h0 h5] at h1
      exact Option.some.inj h1
    exact item_listR pl.isList h0 (by omega) (by rw [hj]; simpa using ew) fin hs
  · have hj:(i+(its.toArray.size:Int)).toNat=j:=by
      rw [seqIndex_neg (by omega) h4] at h1
      rw [List.size_toArray,← hl]
      exact Option.some.inj h1
    exact subscriptTail_builtinR (x:=w) pl.isList.typeIs slot_list_getitem.lookup
      (wpAny_getItem_list_neg (Q:=fun r s'=>r=w∧EP X pins σ Q r s') pl.isList (by omega) (by rw [List.size_toArray] <;> omega) (by omega) (by rw [hj]; simpa using ew) ⟨rfl,fin⟩) hs
theorem ix_tup:IxR X (rIxT X.K):=by
  intro value slice pins s σ H x y v u Q I rx ry h hs
  obtain ⟨p,xs,i,z,rfl,rfl,hq,he,q⟩:=h
  cases rx
  obtain ⟨t,rfl⟩:=ry
  obtain ⟨its,r,pl,hz⟩:=I.tuple hq
  obtain ⟨j,h1,h2,h3,h4,h5⟩:=atI_get he
  obtain ⟨w,ew,rw'⟩:=r.get h2
  have hl:=r.length
  have hn:=line63
  have fin:EP X pins σ Q w s:=⟨z,H,I,rw',q⟩
  exact subscriptTail_builtinR (x:=w) pl.typeIs slot_tuple_getitem.lookup
    (getItem_tuple (j:=j) (Q:=fun r s'=>r=w∧EP X pins σ Q r s') pl (by omega) (by omega) (by rw [List.size_toArray,← hl]; exact h1) (by simpa using ew) ⟨rfl,fin⟩) hs
theorem ix_str:IxR X rIxS:=by
  intro value slice pins s σ H x y v u Q I rx ry h hs
  obtain ⟨z,i,c,rfl,rfl,hz,he,q⟩:=h
  obtain ⟨t,rfl⟩:=rx
  obtain ⟨t',rfl⟩:=ry
  obtain ⟨j,h1,h2,h3,h4,h5⟩:=atI_get he
  have hl:z.cps.toList.length=z.length:=by simp [Str.length]
  rw [hl] at h1 h4 h5
  have hn:=line63
  exact tail_any (typeIs_str s z t) slot_str_getitem.lookup (getItem_str (c:=c) (by
    have e1:decide (i < -(2 ^ 63:Int))=false:=decide_eq_false (by omega)
    have e2:decide (i ≥ 2 ^ 63)=false:=decide_eq_false (by omega)
    rw [e1,e2,Bool.or_false]) (by rw [h1]; simpa using h2) ⟨.str ⟨#[c]⟩,H,I.tok _,⟨_,rfl⟩,q⟩) hs
theorem mapSeq_set (its:List Value) (n j:Nat) (u:Value):Obj.mapSeq (·.setIfInBounds j u) { cls:=.type "list",data:=.seq its.toArray n }={ cls:=.type "list",data:=.seq (its.set j u).toArray n }:=by
  simp [Obj.mapSeq]
theorem Inv.lst {pins:List (Addr × Obj)}{σ:St}{H:Hp}{s:Shared}{p:Addr}{xs:List V}(I:Inv X pins σ H s) (h:H p=some (.lst xs)) :
    ∃ (its:List Value) (n:Nat),Vals xs its∧s.heap.get? p=some { cls:=.type "list",data:=.seq its.toArray n }∧xs.length≤sizeLine:=by
  obtain ⟨z,its,n,r,e⟩:=I.hok p _ h
  exact ⟨its,n,r,e,z⟩
theorem Inv.lstUpd {pins:List (Addr × Obj)}{σ:St}{H:Hp}{s:Shared}{p:Addr}{xs ys:List V}{its its':List Value}{n n':Nat}{f:Obj→Obj}(I:Inv X pins σ H s) (h:H p=some (.lst xs))
    (ho:s.heap.get? p=some { cls:=.type "list",data:=.seq its.toArray n }) (hf:f { cls:=.type "list",data:=.seq its.toArray n }={ cls:=.type "list",data:=.seq its'.toArray n' }) (r:Vals ys its') (hz:ys.length≤sizeLine) (t:Nat) :
    Inv X pins σ (upd H p (.lst ys)) { s with heap:=s.heap.update p f,toks:=t }:=by
  have e:(s.heap.update p f).get? p=some { cls:=.type "list",data:=.seq its'.toArray n' }:=by
    rw [Heap.get?_update_self f ho (by rw [hf] <;> rfl),hf]
  refine I.write (x:=p) (e:=p) (by rw [h]; trivial) (.inl rfl) (fun b u hb q=>(Heap.get?_update_other _ _ (Ne.symm hb)).trans q) ⟨_,e⟩ ?_
  exact ⟨hz,its',n',r,e⟩
def rSetL:V→V→V→Hp→(Hp→Prop)→Prop:=fun o i v H Q=>∃ p xs k j,o=.ref p∧i=.int k∧H p=some (.lst xs)∧ixN xs.length k=some j∧Q (upd H p (.lst (xs.set j v)))
theorem set_list:PSet X rSetL:=by
  intro pins s σ H o i v ov iv u Q I ro ri rv h
  obtain ⟨p,xs,k,j,rfl,rfl,hp,hj,q⟩:=h
  cases ro
  obtain ⟨t,rfl⟩:=ri
  obtain ⟨its,n,r,ho,hz⟩:=I.lst hp
  obtain ⟨h1,h2,h3,h4⟩:=ixN_seq hj
  have hl:=r.length
  have hn:=line63
  have I':Inv X pins σ (upd H p (.lst (xs.set j v))) { s with heap:=s.heap.update p (Obj.mapSeq (·.setIfInBounds j u)) } :=
    I.lstUpd hp ho (mapSeq_set its n j u) (r.set rv j) (by rw [List.length_set]; exact hz) s.toks
  by_cases h0:0≤k
  · have hk:k.toNat=j:=by
      rw [seqIndex_of h0 h4] at h1
      exact Option.some.inj h1
    exact PySem.W.ki_setAt ho h0 (by omega) (by rw [List.size_toArray,← hl]; exact h4) (by rw [hk]; exact ⟨_,I',q⟩)
  · have hk:(k+(its.toArray.size:Int)).toNat=j:=by
      rw [seqIndex_neg (by omega) h3] at h1
      rw [List.size_toArray,← hl]
      exact Option.some.inj h1
    exact PySem.W.ki_setBack ho (by omega) (by rw [List.size_toArray,← hl]; exact h3) (by omega) (by rw [hk]; exact ⟨_,I',q⟩)
theorem slice_bounds (lo hi:Option Int) (n:Nat):(sliceBounds lo hi none n).1=((HT.sIx n 0 lo:Nat):Int)∧(sliceBounds lo hi none n).2.1=((HT.sIx n n hi:Nat):Int)∧(sliceBounds lo hi none n).2.2=1:=by
  refine ⟨?_,?_,rfl⟩
  · cases lo with
    | none=>simp [sliceBounds,HT.sIx]
    | some i =>
      simp only [sliceBounds,HT.sIx,Option.getD_none,show (1:Int) > 0 by decide,if_true]
      by_cases h:i < 0
      · simp only [h,if_true] <;> omega
      · simp only [h,if_false] <;> omega
  · cases hi with
    | none=>simp [sliceBounds,HT.sIx]
    | some i =>
      simp only [sliceBounds,HT.sIx,Option.getD_none,show (1:Int) > 0 by decide,if_true]
      by_cases h:i < 0
      · simp only [h,if_true] <;> omega
      · simp only [h,if_false] <;> omega
theorem slicePick_cut (its:List Value) (lo hi:Option Int):slicePick its.toArray lo hi none=((its.drop (HT.sIx its.length 0 lo)).take (HT.sIx its.length its.length hi - HT.sIx its.length 0 lo)).toArray:=by
  obtain ⟨h1,h2,h3⟩:=slice_bounds lo hi its.toArray.size
  unfold slicePick
  rw [h1,h2,h3]
  simp only [sliceRange_one,pick_run,List.size_toArray] <;> rfl
def rSlL (K:PySem.W.Frag):V→Option Int→Option Int→Hp→VK→Prop:=fun x lo hi H Q=>∃ a xs,x=.ref a∧SqL K H a xs∧∀ p,H p=none→Q (.ref p) (upd H p (.lst (cutV xs lo hi)))
theorem sl_list:SlR X (rSlL X.K):=by
  intro pins s σ H x v vl vu lo hi sl Q I rx hs pl pu h
  obtain ⟨a,xs,rfl,hx,q⟩:=h
  cases rx
  obtain ⟨its,r,ht,hz⟩:=I.list hx
  have hlen:=r.length
  refine ⟨"list",_,slot_list_getitem.lookup,ht.isList.typeIs,?_⟩
  refine wpAny_getItem_list_slice ht.isList hs pl pu .none (by simp) ?_ (by rw [List.size_toArray] <;> omega)
  rw [slicePick_cut,← hlen]
  refine ⟨.ref s.heap.objs.size,_,I.laid (t':=s.toks) (o:=.lst (cutV xs lo hi)) (fun b ob q=>Heap.get?_push_of_some _ q) (Nat.le_refl _) ?_,rfl,q _ (I.hok.fresh (Nat.le_refl _))⟩
  exact ⟨Nat.le_trans (cutV_length xs lo hi) hz,_,0,(r.drop (HT.sIx xs.length 0 lo)).take (HT.sIx xs.length xs.length hi - HT.sIx xs.length 0 lo),Heap.get?_push_size _ rfl⟩
def flatV:V→Bool
  | .non=>true
  | .bl _=>true
  | .int _=>true
  | .str _=>true
  | _=>false
def eqV:V→V→Bool
  | .non,.non=>true
  | .bl a,.bl b=>a == b
  | .bl a,.int b=>(if a then 1 else 0) == b
  | .int a,.bl b=>a == (if b then 1 else 0)
  | .int a,.int b=>a == b
  | .str a,.str b=>a == b
  | _,_=>false
theorem eqAt_V {A:Around}{s:Shared}{y x:V}{u v:Value}(ry:RelV y u) (rx:RelV x v) (fy:flatV y=true) (fx:flatV x=true):SeqAt.EqAt A s u v (eqV y x):=by
  cases y with
  | non =>
    cases ry
    cases x with
    | non=>cases rx; exact SeqAt.EqAt.same _
    | bl b=>cases rx; exact SeqAt.EqAt.none_bool b
    | int b=>obtain ⟨t,rfl⟩:=rx; exact SeqAt.EqAt.none_int b t
    | str b=>obtain ⟨t,rfl⟩:=rx; exact SeqAt.EqAt.none_str b t
    | _=>exact absurd (show false=true from fx) Bool.false_ne_true
  | bl a =>
    cases ry
    cases x with
    | non=>cases rx; exact SeqAt.EqAt.bool_none a
    | bl b=>cases rx; exact SeqAt.EqAt.bool_bool a b
    | int b=>obtain ⟨t,rfl⟩:=rx; exact SeqAt.EqAt.bool_int a b t
    | str b=>obtain ⟨t,rfl⟩:=rx; exact SeqAt.EqAt.bool_str a b t
    | _=>exact absurd (show false=true from fx) Bool.false_ne_true
  | int a =>
    obtain ⟨t',rfl⟩:=ry
    cases x with
    | non=>cases rx; exact SeqAt.EqAt.int_none a t'
    | bl b=>cases rx; exact SeqAt.EqAt.int_bool a t' b
    | int b=>obtain ⟨t,rfl⟩:=rx; exact SeqAt.EqAt.int_int a t' b t
    | str b=>obtain ⟨t,rfl⟩:=rx; exact SeqAt.EqAt.int_str a t' b t
    | _=>exact absurd (show false=true from fx) Bool.false_ne_true
  | str a =>
    obtain ⟨t',rfl⟩:=ry
    cases x with
    | non=>cases rx; exact SeqAt.EqAt.str_none a t'
    | bl b=>cases rx; exact SeqAt.EqAt.str_bool a t' b
    | int b=>obtain ⟨t,rfl⟩:=rx; exact SeqAt.EqAt.str_int a t' b t
    | str b=>obtain ⟨t,rfl⟩:=rx; exact SeqAt.EqAt.str_str a t' b t
    | _=>exact absurd (show false=true from fx) Bool.false_ne_true
  | _=>exact absurd (show false=true from fy) Bool.false_ne_true
def eqU (x:V) (u:Value):Bool:=match u with
  | .none=>eqV .non x
  | .bool b=>eqV (.bl b) x
  | .int i _=>eqV (.int i) x
  | .str z _=>eqV (.str z) x
  | _=>false
theorem eqU_of {x y:V}{u:Value}(r:RelV y u) (f:flatV y=true):eqU x u=eqV y x:=by
  cases y with
  | non=>cases r; rfl
  | bl b=>cases r; rfl
  | int i=>obtain ⟨t,rfl⟩:=r; rfl
  | str z=>obtain ⟨t,rfl⟩:=r; rfl
  | _=>exact absurd (show false=true from f) Bool.false_ne_true
theorem any_eqU {x:V}:∀ {xs:List V}{us:List Value},Vals xs us→xs.all flatV=true→us.any (eqU x)=xs.any fun y=>eqV y x
  | _,_,.nil,_=>rfl
  | y::xs,u::us,.cons r t,f=>by
    rw [List.all_cons,Bool.and_eq_true] at f
    rw [List.any_cons,List.any_cons,eqU_of r f.1,any_eqU t f.2]
theorem mem_eqAt {A:Around}{s:Shared}{x:V}{v:Value}(rx:RelV x v) (fx:flatV x=true):∀ {xs:List V}{us:List Value},Vals xs us→xs.all flatV=true→∀ u∈us,SeqAt.EqAt A s u v (eqU x u)
  | _,_,.nil,_=>fun u hu=>by cases hu
  | y::xs,u::us,.cons r t,f=>fun u' hu=>by
    rw [List.all_cons,Bool.and_eq_true] at f
    rcases List.mem_cons.mp hu with rfl | hu
    · rw [eqU_of r f.1]; exact eqAt_V r rx f.1 fx
    · exact mem_eqAt rx fx t f.2 u' hu
def inV (x:V) (xs:List V):Bool:=xs.any fun y=>eqV y x
def rIn (K:PySem.W.Frag) (neg:Bool):R2:=fun x y H Q=>∃ p xs,y=.ref p∧(SqL K H p xs∨SqT K H p xs)∧flatV x=true∧xs.all flatV=true∧Q (.bl (if neg then !inV x xs else inV x xs)) H
theorem op_in_seq:OpR X (compareOp .In) (rIn X.K false):=by
  intro pins s σ H x y v u Q I rx ry h
  obtain ⟨p,xs,rfl,hq,fx,fs,q⟩:=h
  cases ry
  rcases hq with hq | hq
  · obtain ⟨its,r,pl,hz⟩:=I.list hq
    refine SeqAt.in_listAt (eqU x) pl.isList (fun w hw=>mem_eqAt rx fx r fs w (by simpa using hw)) ⟨.bl _,H,I,rfl,?_⟩
    rw [show its.toArray.any (eqU x)=its.any (eqU x) by simp,any_eqU r fs]
    exact q
  · obtain ⟨its,r,pl,hz⟩:=I.tuple hq
    refine SeqAt.in_tupleAt (eqU x) pl (fun w hw=>mem_eqAt rx fx r fs w (by simpa using hw)) ⟨.bl _,H,I,rfl,?_⟩
    rw [show its.toArray.any (eqU x)=its.any (eqU x) by simp,any_eqU r fs]
    exact q
theorem op_notIn_seq:OpR X (compareOp .NotIn) (rIn X.K true):=by
  intro pins s σ H x y v u Q I rx ry h
  obtain ⟨p,xs,rfl,hq,fx,fs,q⟩:=h
  cases ry
  rcases hq with hq | hq
  · obtain ⟨its,r,pl,hz⟩:=I.list hq
    refine SeqAt.notIn_listAt (eqU x) pl.isList (fun w hw=>mem_eqAt rx fx r fs w (by simpa using hw)) ⟨.bl _,H,I,rfl,?_⟩
    rw [show its.toArray.any (eqU x)=its.any (eqU x) by simp,any_eqU r fs]
    exact q
  · obtain ⟨its,r,pl,hz⟩:=I.tuple hq
    refine SeqAt.notIn_tupleAt (eqU x) pl (fun w hw=>mem_eqAt rx fx r fs w (by simpa using hw)) ⟨.bl _,H,I,rfl,?_⟩
    rw [show its.toArray.any (eqU x)=its.any (eqU x) by simp,any_eqU r fs]
    exact q
theorem call_len_seq:CallR X (.builtin "len") (fun xs H Q=>∃ p ys,xs=[.ref p]∧(SqL X.K H p ys∨SqT X.K H p ys)∧Q (.int ys.length) H):=by
  intro pins s σ H xs us Q I r h
  obtain ⟨p,ys,rfl,hq,q⟩:=h
  obtain ⟨u,rfl,rx⟩:=vals1 r
  cases rx
  have hn:=line63
  rcases hq with hq | hq
  · obtain ⟨its,r',pl,hz⟩:=I.list hq
    have hlen:=r'.length
    exact Calls.call_len_list pl.isList (by simp only [List.size_toArray] <;> omega) ⟨.int ys.length,H,I.tok _,⟨s.toks+1,by rw [List.size_toArray,hlen]⟩,q⟩
  · obtain ⟨its,r',pl,hz⟩:=I.tuple hq
    have hlen:=r'.length
    exact len_tuple pl (by simp only [List.size_toArray] <;> omega) ⟨.int ys.length,H,I.tok _,⟨s.toks+1,by rw [List.size_toArray,hlen]⟩,q⟩
theorem call_len_str:CallR X (.builtin "len") (fun xs H Q=>∃ z,xs=[.str z]∧z.length≤sizeLine∧Q (.int z.length) H):=by
  intro pins s σ H xs us Q I r h
  obtain ⟨z,rfl,hz,q⟩:=h
  obtain ⟨u,rfl,t,rfl⟩:=vals1 r
  have hn:=line63
  exact len_str (by omega) ⟨.int z.length,H,I.tok _,⟨_,rfl⟩,q⟩
theorem CallR.or {f:Value}{r r':List V→Hp→VK→Prop}(h:CallR X f r) (h':CallR X f r'):CallR X f (fun xs H Q=>r xs H Q∨r' xs H Q):=by
  intro pins s σ H xs us Q I rs q
  rcases q with q | q
  · exact h pins s σ H xs us Q I rs q
  · exact h' pins s σ H xs us Q I rs q
theorem call_list_of:CallR X (.type "list") (fun xs H Q=>∃ p ys,xs=[.ref p]∧(SqL X.K H p ys∨SqT X.K H p ys)∧∀ l,H l=none→Q (.ref l) (upd H l (.lst ys))):=by
  intro pins s σ H xs us Q I r h
  obtain ⟨p,ys,rfl,hq,q⟩:=h
  obtain ⟨u,rfl,rx⟩:=vals1 r
  cases rx
  have fin:∀ (its:List Value),Vals ys its→ys.length≤sizeLine→∀ (h':Heap) (c':Nat),(∀ b o',s.heap.get? b=some o'→h'.get? b=some o') →
      h'.get? s.heap.objs.size=some { cls:=.type "list",dict:=none,data:=.seq its.toArray c',slots:=#[] }→EP X pins σ Q (.ref s.heap.objs.size) { s with heap:=h' }:=fun its r' hz h' c' kp e =>
    ⟨.ref s.heap.objs.size,_,I.laid (t':=s.toks) kp (Nat.le_refl _) (show ObjOk X.prog X.w _ h' _ (.lst ys) from ⟨hz,its,c',r',e⟩),rfl,q _ (I.hok.fresh (Nat.le_refl _))⟩
  rcases hq with hq | hq
  · obtain ⟨its,r',pl,hz⟩:=I.list hq
    have hlen:=r'.length
    obtain ⟨o,ho,hc,n,hd⟩:=pl.isList
    exact call_list_seq p (.inl rfl) ho hc hd (fun h' c' kp e=>fin its r' hz h' c' kp e) (by simp only [List.size_toArray] <;> omega)
  · obtain ⟨its,r',pl,hz⟩:=I.tuple hq
    have hlen:=r'.length
    obtain ⟨o,ho,hc,n,hd⟩:=pl
    exact call_list_seq p (.inr rfl) ho hc hd (fun h' c' kp e=>fin its r' hz h' c' kp e) (by simp only [List.size_toArray] <;> omega)
theorem call_tuple_of:CallR X (.type "tuple") (fun xs H Q=>∃ p ys,xs=[.ref p]∧((SqL X.K H p ys∧∀ l,H l=none→Q (.ref l) (upd H l (.tup ys)))∨(SqT X.K H p ys∧Q (.ref p) H))):=by
  intro pins s σ H xs us Q I r h
  obtain ⟨p,ys,rfl,h⟩:=h
  obtain ⟨u,rfl,rx⟩:=vals1 r
  cases rx
  rcases h with ⟨hq,q⟩ | ⟨hq,q⟩
  · obtain ⟨its,r',pl,hz⟩:=I.list hq
    have hlen:=r'.length
    refine call_tuple_list pl.isList (fun h' kp=>?_) (by simp only [List.size_toArray] <;> omega)
    have I1:Inv X pins σ H { s with heap:=h' }:=I.kept (t':=s.toks) kp
    have I2:Inv X pins σ (upd H h'.objs.size (.tup ys)) { s with heap:=h'.push { cls:=.type "tuple",data:=.seq its.toArray } } :=
      I1.laid (t':=s.toks) (fun b o e=>Heap.get?_push_of_some _ e) (Nat.le_refl _) (show ObjOk X.prog X.w _ _ _ (.tup ys) from ⟨hz,its,r',IsTup.new _ _⟩)
    exact ⟨.ref h'.objs.size,_,I2,rfl,q _ (I1.hok.fresh (Nat.le_refl _))⟩
  · obtain ⟨its,r',pl,hz⟩:=I.tuple hq
    exact call_tuple_same pl ⟨.ref p,H,I,rfl,q⟩
def tyV (K:PySem.W.Frag) (T:String) (x:V) (H:Hp):Prop:=match x with
  | .str _=>T="str"
  | .int _=>T="int"
  | .ref p=>(T="list"∧∃ xs,SqL K H p xs)∨(T="tuple"∧∃ o,K.lookup p=some o∧o.cls=.type "tuple"∧o.dict=none) ∨
      (T="dict"∧((∃ kvs,H p=some (.dK kvs))∨∃ kvs,H p=some (.dT kvs)))∨(T="set"∧∃ S n,H p=some (.set S n))
  | _=>False
theorem tyV_is {pins:List (Addr × Obj)}{σ:St}{H:Hp}{s:Shared}{T:String}{x:V}{v:Value}(I:Inv X pins σ H s) (r:RelV x v) (ty:tyV X.K T x H) :
    s.TypeIs v T∧∀ a,v=.ref a→∃ ob,s.heap.get? a=some ob∧ob.dict=none:=by
  cases x with
  | str z =>
    obtain ⟨t,rfl⟩:=r
    cases (show T="str" from ty)
    exact ⟨typeIs_str s z t,fun _ e=>nomatch e⟩
  | int i =>
    obtain ⟨t,rfl⟩:=r
    cases (show T="int" from ty)
    exact ⟨typeIs_int s i t,fun _ e=>nomatch e⟩
  | ref p =>
    cases r
    rcases ty with ⟨rfl,xs,hq⟩ | ⟨rfl,o,hk,hc,hd⟩ | ⟨rfl,hk⟩ | ⟨rfl,S,n,hk⟩
    · obtain ⟨its,_,pl,_⟩:=I.list hq
      refine ⟨pl.isList.typeIs,fun a e=>?_⟩
      cases e
      obtain ⟨o,n,e,c,hd,_⟩:=pl
      exact ⟨o,e,hd⟩
    · refine ⟨⟨o,I.kIn p o hk,hc⟩,fun a e=>?_⟩
      cases e
      exact ⟨o,I.kIn _ o hk,hd⟩
    · have z:∃ o,s.heap.get? p=some o∧o.ExactDict:=by
        rcases hk with ⟨kvs,hk⟩ | ⟨kvs,hk⟩
        · obtain ⟨_,_,_,_,o,_,_,e,ex,_⟩:=I.hok p _ hk
          exact ⟨o,e,ex⟩
        · obtain ⟨_,_,_,_,o,_,_,e,ex,_⟩:=I.hok p _ hk
          exact ⟨o,e,ex⟩
      obtain ⟨o,e,ex⟩:=z
      refine ⟨⟨o,e,ex.1⟩,fun a e2=>?_⟩
      cases e2
      exact ⟨o,e,ex.2.1⟩
    · obtain ⟨o,_,_,_,e,ex,_⟩:=I.hok p _ hk
      refine ⟨⟨o,e,ex.1⟩,fun a e2=>?_⟩
      cases e2
      exact ⟨o,e,ex.2.1⟩
  | _=>exact False.elim ty
def tBM0 (K:PySem.W.Frag) (T:String) (r:V→List V→Hp→VK→Prop) (to:TE):TE:=fun σ H Q=>to σ H fun x H1=>tyV K T x H1∧r x [] H1 Q
def tBM (K:PySem.W.Frag) (T:String) (r:V→List V→Hp→VK→Prop) (to:TE) (t:TA):TE:=fun σ H Q=>to σ H fun x H1=>tyV K T x H1∧t σ H1 fun xs H2=>r x xs H2 Q
variable {o e:Expr}{es:List Expr}{to:TE}{t:TA}{name:Str}{apos cpos:Pos}{T id:String}{r:V→List V→Hp→VK→Prop}
theorem pe_bm (pa:PlainAttrs T) (slot:Slot T name id) (hty:typeOf (.builtin id)=pure (.type "method_descriptor")) (hm:MtR X id r) (ho:PE X o to) (ha:PA X (e::es) t)
    (hbase:attributeBase o name X.env (eval o X.env)=eval o X.env:=by rfl)
    (hfew:((backTo cpos (starEach (e::es) X.env)).all (fun x=>!x.1) && (backToKw cpos (keywordEach [] X.env)).all (fun x=>x.1.isSome)
      && decide ((e::es).length+([]:List Keyword).length+(if ([]:List Keyword).isEmpty then 0 else 1) < 30))=true:=by rfl)
    (hline:(apos.endLine == cpos.line)=true:=by rfl) (hs:starEach (e::es) X.env=(false,eval e X.env)::starEach es X.env:=by rfl) (hplain:(backTo cpos (starEach es X.env)).any (·.1)=false:=by rfl) :
    PE X (.Call (.Attribute o name apos) (e::es) [] cpos) (tBM X.K T r to t):=by
  intro pins s σ H Q I h
  refine wpAny_Call_method_late hbase hfew hline rfl (thn (ho pins s σ H _ I h) fun v s1 ⟨x,H1,I1,r1,ty,q1⟩=>?_)
  obtain ⟨h1,h2⟩:=tyV_is I1 r1 ty
  refine ⟨T,id,pa,slot,hty,h1,h2,?_⟩
  have hA:=ha cpos pins s1 σ H1 _ I1 q1
  rw [hs] at hA ⊢
  refine Calls.callWith_builtin (by show (false || (backTo cpos (starEach es X.env)).any (·.1))=false; rw [hplain] <;> rfl) (Calls.evalArgs_plain ?_)
  exact thn hA fun us s2 ⟨vs,H2,I2,r2,q2⟩=>hm pins s2 σ H2 x vs v us Q I2 r1 r2 q2
/- xs.append(e),list.index on a module's tuple .. are MtR facts of 06m -/
end
end L2
namespace L2
open PySem PySem.Spec PyProof.Rows
def MtM (X:Cx) (id:String) (r:V→List V→Hp→VK→Prop):Prop :=
  ∀ (pins:List (Addr × Obj)) (s:Shared) (σ:St) (H:Hp) (x:V) (xs:List V) (v:Value) (us:List Value) (Q:VK),Inv X pins σ H s→RelV x v→Vals xs us→r x xs H Q →
    wpAny (model X.prog X.w) X.A (call (.builtin id) (v::us)) (EP X pins σ Q) X.xe s
theorem Vals.one:∀ {x:V}{us:List Value},Vals [x] us→∃ u,us=[u]∧RelV x u
  | _,_,.cons r .nil=>⟨_,rfl,r⟩
theorem Vals.two:∀ {x y:V}{us:List Value},Vals [x,y] us→∃ u v,us=[u,v]∧RelV x u∧RelV y v
  | _,_,_,.cons r (.cons q .nil)=>⟨_,_,rfl,r,q⟩
theorem Vals.zero:∀ {us:List Value},Vals [] us→us=[]
  | _,.nil=>rfl
theorem Vals.reverse {xs:List V}{us:List Value}(h:Vals xs us):Vals xs.reverse us.reverse:=by
  induction h with
  | nil=>exact .nil
  | cons r t ih=>rw [List.reverse_cons,List.reverse_cons]; exact Vals.append ih (.cons r .nil)
section
variable {X:Cx}{pins:List (Addr × Obj)}{σ:St}{H:Hp}{s:Shared}{l b:Addr}{xs ys zs:List V}
theorem Inv.lset {its its':List Value}{n:Nat}{f:Array Value→Array Value}{t':Nat}(I:Inv X pins σ H s) (hH:H l=some (.lst xs))
    (e:s.heap.get? l=some { cls:=.type "list",data:=.seq its.toArray n }) (hf:f its.toArray=its'.toArray) (hv:Vals ys its') (hz:ys.length≤sizeLine) :
    Inv X pins σ (upd H l (.lst ys)) { s with heap:=s.heap.update l (Obj.mapSeq f),toks:=t' }:=by
  have q:=PySem.IsL.update e f
  rw [hf] at q
  refine I.write (x:=l) (e:=l) (by rw [hH]; exact trivial) (.inl rfl) (fun b' u hb hu=>(Heap.get?_update_other s.heap (Obj.mapSeq f) (Ne.symm hb)).trans hu) ⟨_,q⟩ ?_
  exact ⟨hz,its',_,hv,q⟩
theorem Inv.lnew {its:List Value}{t':Nat}(I:Inv X pins σ H s) (hv:Vals ys its) (hz:ys.length≤sizeLine) :
    Inv X pins σ (upd H s.heap.objs.size (.lst ys)) { s with heap:=s.heap.push { cls:=.type "list",data:=.seq its.toArray },toks:=t' } :=
  I.laid (fun _ _ q=>Heap.get?_push_of_some _ q) (Nat.le_refl _) ⟨hz,its,0,hv,Heap.get?_push_size _ rfl⟩
theorem Inv.fresh (I:Inv X pins σ H s):H s.heap.objs.size=none:=I.hok.fresh (Nat.le_refl _)
theorem Inv.lstM (I:Inv X pins σ H s) (hH:H l=some (.lst xs)):xs.length≤sizeLine∧∃ (its:List Value) (n:Nat),Vals xs its∧xs.length=its.length∧s.heap.get? l=some { cls:=.type "list",data:=.seq its.toArray n }:=by
  obtain ⟨z,its,n,r,e⟩:=I.hok l _ hH
  exact ⟨z,its,n,r,r.length,e⟩
end
section
variable {X:Cx}
def rAppend:V→List V→Hp→VK→Prop:=fun x vs H Q=>∃ l xs y,x=.ref l∧vs=[y]∧H l=some (.lst xs)∧xs.length < sizeLine∧Q .non (upd H l (.lst (xs++[y])))
theorem mt_append:MtM X "list.append" rAppend:=by
  intro pins s σ H x vs v us Q I rx rv h
  obtain ⟨l,xs,y,rfl,rfl,hH,hz,q⟩:=h
  cases rx
  obtain ⟨u,rfl,ru⟩:=rv.one
  obtain ⟨z,its,n,r,hl,e⟩:=I.lstM hH
  refine call_meets F.slot_list_append ⟨_,e,rfl⟩ F.entry_list_append (F.args_list_append_2 _ _) (PySem.list_append l its.toArray n u (by rw [List.size_toArray]; omega)) ⟨e,?_⟩
  refine ⟨.non,_,I.lset (its':=its++[u]) hH e (by simp) (r.append (.cons ru .nil)) ?_,rfl,q⟩
  rw [List.length_append,List.length_singleton]
  omega
def rCat:R2:=fun x y H Q=>∃ l b xs zs,x=.ref l∧y=.ref b∧H l=some (.lst xs)∧H b=some (.lst zs)∧xs.length+zs.length≤sizeLine∧∀ p,H p=none→Q (.ref p) (upd H p (.lst (xs++zs)))
theorem op_cat:OpR X (binaryOp .Add) rCat:=by
  intro pins s σ H x y v u Q I rx ry h
  obtain ⟨l,b,xs,zs,rfl,rfl,hH,hB,hz,q⟩:=h
  cases rx
  cases ry
  obtain ⟨z,its,n,r,hl,e⟩:=I.lstM hH
  obtain ⟨z2,its2,n2,r2,hl2,e2⟩:=I.lstM hB
  refine PySem.P.add_list e e2 ?_ (by rw [List.size_toArray,List.size_toArray]; omega)
  have ea:its.toArray++its2.toArray=(its++its2).toArray:=by simp
  rw [ea]
  exact ⟨.ref _,_,I.lnew (t':=s.toks) (r.append r2) (by rw [List.length_append]; omega),rfl,q _ I.fresh⟩
end
section
variable {prog:Program}{w:World}{A:Around}{E:Value→Shared→Prop}{s:Shared}
end
section
variable {X:Cx}
end
end L2
namespace Att
open PySem PySem.W PySem.Calls PyProof.Rows
theorem ints_of_wellAll {P:Params}{h:Heap}:∀ (ns:List Int) (vs:List Value),WellAll P h vs (ns.map WData.int)→IntsAre vs ns:=by
  intro ns
  induction ns with
  | nil =>
    intro vs w
    rw [List.map_nil] at w
    cases w
    exact .nil
  | cons n ns ih =>
    intro vs w
    rw [List.map_cons] at w
    cases w with
    | cons a b =>
      cases a
      exact .cons _ _ (ih _ b)
theorem script_of {l:OpenLaw}{n:Nat}(hn:l.most=some n) {P:Params}{h:Heap}{args:List WData}{vals:List Value}
    (hpre:l.row.toRowW.claim.pre args=true) (hwl:WellAll P h vals args) :
    ∃ a vs ns,vals=[Value.ref a]∧args=[WData.list (ns.map WData.int)]∧h.get? a=some { cls:=.type "list",data:=.seq vs.toArray }∧IntsAre vs ns∧ns.length≤n:=by
  have hsh:WShape.hasAll [] args [.list .int]=true:=(pre_splitW hpre).1
  have hc:l.pre.holds [] { args:=args }=true:=(pre_splitW hpre).2
  obtain ⟨d,r,rfl,h1,h2⟩:=hasAllW_cons hsh
  obtain rfl:=hasAllW_nil h2
  obtain ⟨xs,rfl,h3⟩:=hasW_list h1
  obtain ⟨ns,rfl⟩:=items_int h3
  have hlen:ns.length≤n:=by
    unfold OpenLaw.pre at hc
    have h4:(WTm.not (.lt (.lit (.int (n:Int))) (.len (.arg 0)))).holds [] { args:=[.list (ns.map .int)] }=true:=by
      have h4:=(holds_andW hc).1
      rw [hn] at h4
      exact h4
    have h5:=condW_of h4 (w_not (w_lt w_lit (w_len_list (w_arg rfl))))
    rw [List.length_map] at h5
    refine Nat.le_of_not_lt fun q=>?_
    have q':(n:Int) < ((ns.length:Nat):Int):=by omega
    first
      | (rw [decide_eq_true q'] at h5; exact absurd h5 (by decide))
      | (simp at h5; omega)
  cases hwl with
  | cons w1 w2 =>
    cases w2
    cases w1 with
    | list ho hall=>exact ⟨_,_,ns,rfl,rfl,ho,ints_of_wellAll ns _ hall,hlen⟩
theorem post_true (l:OpenLaw) (args:List WData):l.row.toRowW.claim.post args (.bool true) args=true :=
  postW_of (r:=l.row.toRowW) (X:=(true == true))
    (show WShape.has [] (.bool true) .bool=true by first | rfl | decide | simp [WShape.has,WShape.arms,WShape.armsAll])
    (show (WTm.eq .res (.lit (.bool true))).value [] { args:=args,res:=some (.bool true),after:=args }=some (.bool (true == true)) from w_eq_bool (w_res rfl) w_lit) rfl
theorem attach_call {l:OpenLaw}{n:Nat}{q:Program}{loose:List Str}{XP:(Str→Option Value)→Heap→Prop}{YP:World→Heap→Prop}{d:DefRec}
    (hn:l.most=some n) (hdf:d.params.defaults=[])
    (call:∀ (w:World) (s₀ s₁:Shared) (mg mb:Str→Option Value) (fa:Addr) (o:Obj) (pm cd doc:Value) (a:Addr) (vs:List Value) (ns:List Int),
      Ground q loose [] XP w s₀ mg mb s₁.heap→YP w s₁.heap →
      s₁.heap.get? fa=some o→o.data=.func (docDef d.name d.params d.body d.scope pm cd doc)→s₁.heap.CodeRec cd d.name→mg d.name=some (.ref fa) →
      s₁.heap.get? a=some { cls:=.type "list",data:=.seq vs.toArray }→IntsAre vs ns→ns.length≤n→s₁.gens=#[] →
      codeAny (model l.prog w) callerA (.call (.ref fa) ⟨[.ref a],[]⟩) (fun r s'=>r=.ok (.ret (.bool true))∧OldK s₁.heap s'.heap∧s'.os=s₁.os∧AllBare s'.gens) s₁) :
    WalkO q loose XP YP l.row.toRowW d [] (fun f vs=>PySem.call f vs):=by
  intro w s₀ s₁ mg mb G Y fa o pm cd doc dV kV ho hd hcd hD hmg hg args vals as hpre hlay hrd hwl hlo
  obtain rfl:dV=.none:=Dflts.none hD hdf
  obtain rfl:kV=.none:=Dflts.noKw hD
  obtain ⟨a,vs,ns,rfl,rfl,hobj,hints,hlen⟩:=script_of hn hpre hwl
  refine enter_call (codeAny_mono (call w s₀ s₁ mg mb fa o pm cd doc a vs ns G Y ho (fd_plain hd) hcd hmg hobj hints hlen hg) fun r s' hq=>?_)
  obtain ⟨rfl,h2,h3,h4⟩:=hq
  exact ⟨.inl ⟨.bool true,.bool true,[],rfl,fun _=>rfl,.bool true,post_true l _,fun _=>⟨List.Pairwise.nil,fun _ hm=>(nomatch hm)⟩⟩,h2,h3,h4⟩
section
variable {prog:Program}{w:World}{A:Around}{E:Value→Shared→Prop}{s:Shared}{K:Frag}
def ledger (h:Heap) (L d:Addr):List (Addr × Obj):=(List.range h.objs.size).filterMap fun a=>if a=L∨a=d then none else (h.get? a).map fun o=>(a,o)
end
end Att
namespace L2
open PySem PySem.Spec PyProof.Rows
theorem vals_ints:∀ {vs:List Value}{ns:List Int},IntsAre vs ns→Vals (ns.map V.int) vs
  | _,_,.nil=>.nil
  | _,_,.cons n t h=>.cons ⟨t,rfl⟩ (vals_ints h)
def Only (H:Hp):Prop:=∀ b,H b=none∨∃ o xs,H b=some (.frz o (.lst xs))
theorem law_call {P:Program}{w:World}{K:PySem.W.Frag}{mg mb:Str→Option Value}{CX:CXT}{k:Nat}{fa a:Addr}{fd:FuncData}{x:Str}{sp:Sp}{s₁:Shared}{vs:List Value}{ns:List Int}
    (KX:K.In s₁.heap) (hns:s₁.heap.Ns mainGlobals mg) (hb:s₁.heap.Ns builtinsNs mb) (hbb:∀ x:Str,x≠"__name__"→mb x=bootBuiltins x) (hlim:s₁.heap.NoLimit) (hg:s₁.gens=#[])
    (ha:s₁.heap.get? a=some { cls:=.type "list",data:=.seq vs.toArray }) (hi:IntsAre vs ns) (hl:ns.length≤sizeLine) (hr:Room k callerA)
    (F:∀ base:Heap,K.In base→base.Ns mainGlobals mg→FnOk P w K mg base CX k fa fd [x] sp) (hbind:∀ (s:Shared) (u:Value),BindsTo s fd ⟨[u],[]⟩ [(x,u)])
    (hsp:∀ H:Hp,Only H→SqL K H a (ns.map V.int)→sp [.ref a] H (fun v _=>v=.bl true) fun _ _ _=>False)
    (hCX:∀ H e s',CX [] H s₁ (fun _ _ _=>False) e s'→False) :
    codeAny (model P w) callerA (.call (.ref fa) ⟨[.ref a],[]⟩) (fun r s'=>r=.ok (.ret (.bool true))∧OldK s₁.heap s'.heap∧s'.os=s₁.os∧AllBare s'.gens) s₁:=by
  have rv:=vals_ints hi
  have lenV:=hi.length
  -- from an abstract heap in which nothing but the script may be tracked
  have core:∀ H:Hp,Only H→SqL K H a (ns.map V.int)→HOk P w H s₁.heap→(∀ b,H b≠none→b=a)→(H a≠none→K.lookup a=none) →
      codeAny (model P w) callerA (.call (.ref fa) ⟨[.ref a],[]⟩) (fun r s'=>r=.ok (.ret (.bool true))∧OldK s₁.heap s'.heap∧s'.os=s₁.os∧AllBare s'.gens) s₁:=by
    intro H hO hS hok hA hK
    have base_of:∀ {b:Addr}{o:Obj},s₁.heap.get? b=some o→H b=none→(hidT s₁.heap H).get? b=some o:=fun e n=>hidT_get e n
    have noA:∀ {b:Addr}{o:Obj}{es:Array DictEntry}{ep:Nat},s₁.heap.get? b=some o→o.data=.dict es ep→H b=none:=fun {b o es ep} e d=>by
      cases q:H b with
      | none=>rfl
      | some u =>
        have e':b=a:=hA b (by rw [q]; simp)
        subst e'
        rw [ha] at e; cases e
        have d':Data.seq vs.toArray _=Data.dict es ep:=d
        cases d'
    have nsK:∀ {b:Addr}{m:Str→Option Value},s₁.heap.Ns b m→(hidT s₁.heap H).Ns b m:=fun {b m} ⟨o,es,ep,e,d,r⟩=>⟨o,es,ep,base_of e (noA e d),d,r⟩
    have hKb:K.In (hidT s₁.heap H):=fun b o e=>base_of (KX b o e) (by
      cases q:H b with
      | none=>rfl
      | some u =>
        have e':b=a:=hA b (by rw [q]; simp)
        subst e'
        rw [hK (by rw [q]; simp)] at e; cases e)
    have hM:Mod K mg (hidT s₁.heap H):=⟨hKb,nsK hns,⟨mb,nsK hb,hbb⟩,let ⟨mc,h1,h2⟩:=hlim; ⟨mc,nsK h1,h2⟩⟩
    have e0:Env0 P w K mg (hidT s₁.heap H) callerA [] s₁ H:=⟨rfl,hM,fun b o e=>of_hidT e,Nat.le_of_eq (hidT_size _ _),trivial,fun b hb=>absurd (show b∈([]:List Addr) from hb) (by simp),hok,.of_eq hg⟩
    refine codeAny_mono ((F _ hKb (nsK hns)).run callerA [] s₁ H ⟨[.ref a],[]⟩ [.ref a] [.ref a] _ _ hr e0 (hbind s₁ (.ref a)) (.cons rfl .nil) (hsp H hO hS)) fun r s' h=>?_
    cases r with
    | error e=>exact (hCX H e s' h).elim
    | ok fl =>
      cases fl with
      | next=>exact False.elim h
      | brk=>exact False.elim h
      | cont=>exact False.elim h
      | ret u =>
        obtain ⟨v,H',os,bare,un,hok',r',q⟩:=h
        have q':v=.bl true:=q
        subst q'
        obtain rfl:u=Value.bool true:=r'
        refine ⟨rfl,OldK.of_keep fun b o e=>?_,os,bare⟩
        cases q:H b with
        | none=>exact un.keep b o e q (by intro z; exact absurd (show b∈([]:List Addr) from z) (by simp)) (by simp)
        | some u =>
          rcases hO b with z | ⟨ob,xs,z⟩
          · rw [q] at z; cases z
          · have z2:=un.frzs b ob _ z
            obtain ⟨e1,_⟩:=hok b _ z
            obtain ⟨e2,_⟩:=hok' b _ z2
            rw [e] at e1; cases e1
            exact e2
  cases hk:K.lookup a with
  | some o =>
    -- the script is one of the module's own objects
    have e:=KX a o hk
    rw [ha] at e
    cases e
    refine core (fun _=>none) (fun _=>.inl rfl) (.inr ⟨_,vs.toArray,_,hk,rfl,rfl,rfl,by rw [List.size_toArray,lenV]; exact hl,by simpa using rv⟩) (fun b u z=>by have z':(none:Option HO)=some u:=z; cases z') (fun b z=>absurd rfl z) fun z=>absurd rfl z
  | none =>
    refine core (fun b=>if b=a then some (.frz { cls:=.type "list",data:=.seq vs.toArray } (.lst (ns.map V.int))) else none) (fun b=>?_) (.inl (.inr ⟨{ cls:=.type "list",data:=.seq vs.toArray },if_pos rfl⟩)) (fun b u z=>?_) (fun b z=>?_) fun _=>hk
    · by_cases hb:b=a
      · exact .inr ⟨_,_,if_pos hb⟩
      · exact .inl (if_neg hb)
    · by_cases hb:b=a
      · have z':=(if_pos hb).symm.trans z
        cases z'
        subst hb
        exact ⟨ha,by rw [List.length_map]; exact hl,vs,_,rv,ha⟩
      · have z':=(if_neg hb).symm.trans z
        cases z'
    · by_cases hb:b=a
      · exact hb
      · exact absurd (if_neg hb) z
end L2
namespace L2
open PySem PySem.Spec PyProof.Rows
theorem walk_of {l:PySem.W.OpenLaw}{n k:Nat}{q:Program}{loose:List Str}{XP:(Str→Option Value)→Heap→Prop}{YP:World→Heap→Prop}{d:DefRec}{K:Params→PySem.W.Frag}{CX:World→CXT}{sp:World→Sp}{x:Str}
    (hn:l.most=some n) (hn2:n≤sizeLine) (hdf:d.params.defaults=[]) (hr:Room k callerA)
    (hY:∀ (w:World) (h:Heap),YP w h→(K w.params).In h)
    (F:∀ (w:World) (mg:Str→Option Value) (fa:Addr) (h:Heap),(K w.params).In h→h.Ns mainGlobals mg→mg d.name=some (.ref fa) →
      ∃ fd:FuncData,(∀ (s:Shared) (u:Value),BindsTo s fd ⟨[u],[]⟩ [(x,u)]) ∧
        ∀ base:Heap,(K w.params).In base→base.Ns mainGlobals mg→FnOk l.prog w (K w.params) mg base (CX w) k fa fd [x] (sp w))
    (hsp:∀ (w:World) (H:Hp) (a:Addr) (ns:List Int),ns.length≤n→Only H→SqL (K w.params) H a (ns.map V.int)→sp w [.ref a] H (fun v _=>v=.bl true) fun _ _ _=>False)
    (hCX:∀ (w:World) (H:Hp) (s:Shared) (e:Value) (s':Shared),CX w [] H s (fun _ _ _=>False) e s'→False) :
    PySem.W.WalkO q loose XP YP l.row.toRowW d [] (fun f vs=>PySem.call f vs):=by
  refine Att.attach_call hn hdf fun w s₀ s₁ mg mb fa o pm cd doc a vs ns G Y ho hd hcd hmg hobj hints hlen hg=>?_
  have KX:=hY w _ Y
  obtain ⟨fd,hb,hF⟩:=F w mg fa _ KX G.T.g hmg
  exact law_call KX G.T.g G.T.b G.T.builtins G.T.nolimit hg hobj hints (Nat.le_trans hlen hn2) hr hF hb (fun H hO hS=>hsp w H a ns hlen hO hS) fun H e s'=>hCX w H s₁ e s'
end L2
namespace L2
open PySem PySem.Spec PyProof.Rows
def inClass (s:Stmt) (j:Nat):Stmt:=match s with
  | .ClassDef _ _ _ body _ _ _ _ _ _ _=>body.getD j (.Pass ⟨0,0,0,0⟩)
  | _=>.Pass ⟨0,0,0,0⟩
def defArgs (s:Stmt):Arguments:=match s with
  | .FunctionDef _ a _ _ _ _ _ _ _ _=>a
  | _=>{ posonlyargs:=[],args:=[],vararg:=none,kwonlyargs:=[],kw_defaults:=[],kwarg:=none,defaults:=[] }
def defBody (s:Stmt):List Stmt:=match s with
  | .FunctionDef _ _ b _ _ _ _ _ _ _=>b
  | _=>[]
def defScope (s:Stmt):Scope:=match s with
  | .FunctionDef _ _ _ _ _ _ sc _ _ _=>sc
  | _=>{ kind:=.function,names:=[],isGenerator:=false,isCoroutine:=false }
abbrev CX0:CXT:=fun _ _ _ _ _ _=>False
abbrev E0:XK:=fun _ _ _=>False
structure Fun (K:PySem.W.Frag) (x qual:Str) (st:Stmt) (f:Addr) (fd:FuncData):Prop where
  ex:∃ (oc:Value) (od:Option Addr) (kV doc pm:Value) (an:Option Addr) (cdv ct:Value) (osl:Array (Option Value)),
    fd=PySem.W.fnOf x qual (defArgs st) (defBody st) (defScope st) .none kV doc pm an cdv ct∧K.lookup f=some ⟨oc,od,.func fd,osl⟩∧PySem.W.codeIn K cdv qual=true
  kp:PySem.W.keepIn K (.ref f)=true
section
variable {P:Program}{w:World}{K:PySem.W.Frag}{mg:Str→Option Value}{base:Heap}
theorem Fun.ok {x qual:Str}{st:Stmt}{f:Addr}{fd:FuncData}{N ps:List Str}{k:Nat}{sp:Sp}(F:Fun K x qual st f fd) (S:FnScope N ps (defScope st)) (len:∀ vs H Q E,sp vs H Q E→vs.length=ps.length)
    (hbody:∀ (cdv:Value) (A:Around) (outer:List Env) (s:Shared) (H:Hp) (vs:List V) (Q:VK) (E:XK),Room k (A.deeper (envOfC qual (defScope st) s.heap.objs.size f cdv))→sp vs H Q E →
      ∃ t,PSs (cxOf CX0 P w K mg base N qual (defScope st) f cdv A outer s H E).nox (defBody st) t∧t { nx:=fun _ H'=>Q .non H',rt:=Q } (start N vs) H):FnOk P w K mg base CX0 (k+1) f fd ps sp:=by
  obtain ⟨oc,od,kV,doc,pm,an,cdv,ct,osl,rfl,lk,hcd⟩:=F.ex
  refine fn_of lk hcd S len fun A outer s H vs Q E hr hsp=>?_
  obtain ⟨t,h,q⟩:=hbody cdv A outer s H vs Q E hr hsp
  exact ⟨t,h.nox,q⟩
theorem Fun.binds {x qual:Str}{st:Stmt}{f:Addr}{fd:FuncData}{ps:List Str}(F:Fun K x qual st f fd)
    (h:∀ (kV doc pm:Value) (an:Option Addr) (cdv ct:Value) (us:List Value),us.length=ps.length→bindArgs (PySem.W.fnOf x qual (defArgs st) (defBody st) (defScope st) .none kV doc pm an cdv ct) ⟨us,[]⟩=pure (ps.zip us)):Binds K fd ps []:=by
  obtain ⟨oc,od,kV,doc,pm,an,cdv,ct,osl,rfl,lk,hcd⟩:=F.ex
  exact .all (h kV doc pm an cdv ct)
theorem fun_mk {x qual:Str}{st:Stmt}{f:Addr}{oc:Value}{od an:Option Addr}{osl:Array (Option Value)}{kV doc pm cdv ct:Value}(l:K.lookup f=some ⟨oc,od,.func (PySem.W.fnOf x qual (defArgs st) (defBody st) (defScope st) .none kV doc pm an cdv ct),osl⟩)
    (c:PySem.W.codeIn K cdv qual=true) (k:PySem.W.keepIn K (.ref f)=true):Fun K x qual st f (PySem.W.fnOf x qual (defArgs st) (defBody st) (defScope st) .none kV doc pm an cdv ct):=⟨⟨oc,od,kV,doc,pm,an,cdv,ct,osl,rfl,l,c⟩,k⟩
end
theorem small1000 {n:Nat}(h:n≤1000):n < sizeLine:=Nat.lt_of_le_of_lt h (by decide)
section
variable {X:Cx}
theorem pv (i:Nat) {x:Str}{pos:Pos}(hN:X.N[i]?=some x:=by rfl) (hv:Vis X.env.scope x:=by first | exact Or.inl rfl | exact Or.inr (Or.inl rfl) | exact Or.inr (Or.inr rfl)) (hd:(x == ("__debug__":Str))=false:=by decide)
    (hcd:(x == ("__classdict__":Str))=false:=by decide):PE X (.Name x pos) (tVar i):=pe_var hN hv hd hcd
end
def Same (H H':Hp):Prop:=∀ b o,H b=some o→H' b=some o
theorem Same.refl (H:Hp):Same H H:=fun _ _ h=>h
theorem Same.trans {H H1 H2:Hp}(a:Same H H1) (b:Same H1 H2):Same H H2:=fun c o h=>b c o (a c o h)
theorem Same.free {H H':Hp}(e:Same H H') {l:Addr}(h:H' l=Option.none):H l=Option.none:=by
  cases q:H l with
  | none=>rfl
  | some o =>
    rw [e l o q] at h
    cases h
theorem Same.seq {K:PySem.W.Frag}{H H':Hp}{a:Addr}{xs:List V}(e:Same H H') (h:SqL K H a xs):SqL K H' a xs:=by
  rcases h with (h | ⟨o,h⟩) | h
  · exact .inl (.inl (e _ _ h))
  · exact .inl (.inr ⟨o,e _ _ h⟩)
  · exact .inr h
end L2
set_option Elab.async false
set_option linter.all false
set_option maxRecDepth 100000
namespace Bw
open PySem PySem.Spec PyProof.Rows L2
section
variable {X:Cx}
def CDivL (i j:Int):Prop:=0 < j∧j < 2 ^ 62
theorem op_fdivL:OpR X (binaryOp .FloorDiv) (rI CDivL fun i j=>.int (i / j)):=opI fun i j _ _ _ _ _ hc q=>by
  have h1:(0:Int) < j:=hc.1
  have h2:j < 2 ^ 62:=hc.2
  refine floordiv_int (by omega) (by rw [Int.fdiv_eq_ediv_of_nonneg i (by omega)]; exact q) (.inl (PyProof.noPylong_of_log2 ?_))
  have h0:j.natAbs≠0:=by omega
  have:j.natAbs.log2 < 62:=(Nat.log2_lt h0).mpr (by omega)
  omega
def okV (H:Hp):V→Prop
  | .non=>True
  | .bl _=>True
  | .int _=>True
  | .str _=>True
  | .ref a=>(∃ xs,H a=some (.lst xs))∨∃ xs,H a=some (.tup xs)
  | _=>False
def isIntV:V→Bool
  | .int _=>true
  | .bl _=>true
  | _=>false
def isBoolV:V→Bool
  | .bl _=>true
  | _=>false
def isTupV (H:Hp):V→Bool
  | .ref a=>match H a with
    | some (.tup _)=>true
    | _=>false
  | _=>false
theorem okV.ty {K:PySem.W.Frag}{H:Hp}{x:V}(h:okV H x):∃ T,TyOf K H x (.type T)∧PySem.W.kitOne K (.type T) (.type "int")=some (isIntV x)∧PySem.W.kitOne K (.type T) (.type "bool")=some (isBoolV x)∧PySem.W.kitOne K (.type T) (.type "tuple")=some (isTupV H x):=by
  cases x with
  | non=>exact ⟨_,.non,by kernel_rfl,by kernel_rfl,by kernel_rfl⟩
  | bl b=>exact ⟨_,.bl b,by kernel_rfl,by kernel_rfl,by kernel_rfl⟩
  | int i=>exact ⟨_,.int i,by kernel_rfl,by kernel_rfl,by kernel_rfl⟩
  | str i=>exact ⟨_,.str i,by kernel_rfl,by kernel_rfl,by kernel_rfl⟩
  | ref a =>
    rcases h with ⟨xs,e⟩ | ⟨xs,e⟩
    · have q:isTupV H (.ref a)=false:=by simp [isTupV,e]
      rw [q]
      exact ⟨_,.lst e,by kernel_rfl,by kernel_rfl,by kernel_rfl⟩
    · have q:isTupV H (.ref a)=true:=by simp [isTupV,e]
      rw [q]
      exact ⟨_,.tup e,by kernel_rfl,by kernel_rfl,by kernel_rfl⟩
  | _=>exact h.elim
theorem isi_gen {pins:List (Addr × Obj)}{σ:L2.St}{H:Hp}{s:Shared}{x:V}{c T:String}{b:Bool}{us:List Value}{Q:VK}(I:Inv X pins σ H s) (r:Vals [x,.ty c] us) (ty:TyOf X.K H x (.type T)) (e:PySem.W.kitOne X.K (.type T) (.type c)=some b) (q:Q (.bl b) H) :
    wpAny (model X.prog X.w) X.A (call (.builtin "isinstance") us) (EP X pins σ Q) X.xe s:=by
  obtain ⟨u,w',rfl,rx,rc⟩:=vals2 r
  cases (show w'=Value.type c from rc)
  exact isinst_ok I rx ty e fun tk=>⟨.bl b,H,I.tok _,rfl,q⟩
end
structure Cal (P:Program) (w:World) (K:PySem.W.Frag) (mg:Str→Option Value) (base:Heap) (x:Str) (ps:List Str) (k:Nat) (sp:Sp):Prop where
  ex:∃ f fd,FnOk P w K mg base CX0 k f fd ps sp∧Binds K fd ps []∧PySem.W.keepIn K (.ref f)=true∧mg x=some (.ref f)
theorem same_new {H:Hp}{p:Addr}(h:H p=none) (o:HO):Same H (upd H p o):=fun b u q=>by rw [upd_ne (ne_of_none q h)]; exact q
def But (w:Addr) (H H':Hp):Prop:=∀ b o,b≠w→H b=some o→H' b=some o
theorem But.refl (w:Addr) (H:Hp):But w H H:=fun _ _ _ h=>h
theorem But.trans {w:Addr}{H H1 H2:Hp}(a:But w H H1) (b:But w H1 H2):But w H H2:=fun c o n h=>b c o n (a c o n h)
theorem But.upd {w:Addr}{H:Hp}(o:HO):But w H (upd H w o):=fun b u n h=>by rw [upd_ne n]; exact h
theorem Same.but {w:Addr}{H H':Hp}(h:Same H H'):But w H H':=fun b o _ e=>h b o e
def Well (H:Hp) (w:Addr):Prop:=∃ a b c d:Int,H w=some (.lst [.int a,.int b,.int c,.int d])
theorem Well.same {H H':Hp}{w:Addr}(W:Well H w) (s:Same H H'):Well H' w:=by
  obtain ⟨a,b,c,d,h⟩:=W
  exact ⟨a,b,c,d,s _ _ h⟩
theorem Well.ne {H:Hp}{w p:Addr}(W:Well H w) (h:H p=none):p≠w:=by
  obtain ⟨a,b,c,d,e⟩:=W
  exact (ne_of_none e h).symm
theorem Well.neL {H:Hp}{w p:Addr}{xs:List V}(W:Well H w) (h:H p=some (.tup xs)):p≠w:=by
  obtain ⟨a,b,c,d,e⟩:=W
  exact (ne_of e h (by intro z; cases z)).symm
theorem at_mem {ns:List Int}{i:Int}(h0:0≤i) (h:i < ns.length):∃ z∈ns,atI (ns.map V.int) i=some (.int z):=by
  have hk:i.toNat < ns.length:=by omega
  have ek:i=((i.toNat:Nat):Int):=by omega
  refine ⟨ns[i.toNat],List.getElem_mem hk,?_⟩
  have q:atI (ns.map V.int) ((i.toNat:Nat):Int)=some (.int ns[i.toNat]):=atI_nat (by rw [List.getElem?_map,List.getElem?_eq_getElem hk] <;> rfl)
  rwa [← ek] at q
theorem int_at {ns:List Int}{i:Nat}{x:V}(h:(ns.map V.int)[i]?=some x):∃ c,x=.int c:=by
  rw [List.getElem?_map] at h
  cases e:ns[i]? with
  | none=>rw [e] at h; cases h
  | some c=>rw [e] at h; exact ⟨c,(Option.some.inj h).symm⟩
theorem sz8 {n:Nat}(h:n≤1000):n≤sizeLine:=Nat.le_of_lt (small1000 h)
section
variable {K:PySem.W.Frag}{ta tb tc te:TE}{tA tB':TT}{t u:TS}{tr:TA}{D:Ends}{σ:L2.St}{H:Hp}{Q:VK}{QB:Bool→Hp→Prop}{QA:List V→Hp→Prop}{v x y z:V}{i j:Nat}{g:TG}{QS:L2.St→Hp→Prop}
theorem w_seq:tSeq t u D σ H=t { D with nx:=u D } σ H:=rfl
theorem w_next:tNext D σ H=D.nx σ H:=rfl
theorem w_ifS:tIfS tA t u D σ H=tA σ H (fun b H1=>if b=true then t D σ H1 else u D σ H1):=rfl
theorem w_ret:tRet te D σ H=te σ H D.rt:=rfl
theorem w_retN:tRetN D σ H=D.rt .non H:=rfl
theorem w_drop:tDrop te D σ H=te σ H (fun _ H1=>D.nx σ H1):=rfl
theorem w_asg:tAsg te g D σ H=te σ H (fun x H1=>g x σ H1 D.nx):=rfl
theorem w_gName:gName i v σ H QS=QS (σ.set i (some v)) H:=rfl
theorem w_gSub {ts:TSet}:gSub ta tb ts v σ H QS=ta σ H (fun o H1=>tb σ H1 (fun i H2=>ts o i v H2 (fun H3=>QS σ H3))):=rfl
theorem w_var:tVar i σ H Q=∃ v,σ[i]?=some (some v)∧Q v H:=rfl
theorem w_c:tC v σ H Q=Q v H:=rfl
theorem w_op {r:R2}:tOp r ta tb σ H Q=ta σ H (fun x H1=>tb σ H1 (fun y H2=>r x y H2 Q)):=rfl
theorem w_un {r:V→Hp→VK→Prop}:tUn r ta σ H Q=ta σ H (fun x H1=>r x H1 Q):=rfl
theorem w_rU {f:Int→V}:rU f x H Q=∃ i,x=.int i∧Q (f i) H:=rfl
theorem w_rI0 {f:Int→Int→V}:rI0 f x y H Q=∃ i j,x=.int i∧y=.int j∧Q (f i j) H:=rfl
theorem w_rI {C:Int→Int→Prop}{f:Int→Int→V}:rI C f x y H Q=∃ i j,x=.int i∧y=.int j∧C i j∧Q (f i j) H:=rfl
theorem w_test:tTest te σ H QB=te σ H (fun x H'=>∃ k,x=.bl k∧QB k H'):=rfl
theorem w_b:L2.tB te σ H QB=te σ H (fun x H1=>∃ c,x=.bl c∧QB c H1):=rfl
theorem w_and:tAnd tA tB' σ H QB=tA σ H (fun c H1=>if c=true then tB' σ H1 QB else QB false H1):=rfl
theorem w_or:tOr tA tB' σ H QB=tA σ H (fun c H1=>if c=true then QB true H1 else tB' σ H1 QB):=rfl
theorem w_not:tNot tA σ H QB=tA σ H (fun c H1=>QB (!c) H1):=rfl
theorem w_andV:tAndV ta tb σ H Q=ta σ H (fun x H1=>∃ c,x=.bl c∧if c=true then tb σ H1 Q else Q (.bl false) H1):=rfl
theorem w_orV:tOrV ta tb σ H Q=ta σ H (fun x H1=>∃ c,x=.bl c∧if c=true then Q (.bl true) H1 else tb σ H1 Q):=rfl
theorem w_notV:tNotV ta σ H Q=ta σ H (fun x H1=>∃ c,x=.bl c∧Q (.bl (!c)) H1):=rfl
theorem w_if:tIf tA ta tb σ H Q=tA σ H (fun c H1=>if c=true then ta σ H1 Q else tb σ H1 Q):=rfl
theorem w_cons:tCons ta tr σ H QA=ta σ H (fun x H1=>tr σ H1 (fun xs H2=>QA (x::xs) H2)):=rfl
theorem w_nil:tNil σ H QA=QA [] H:=rfl
theorem w_tup:tTup tr σ H Q=tr σ H (fun xs H1=>xs.length≤sizeLine∧∀ p,H1 p=none→Q (.ref p) (L2.upd H1 p (.tup xs))):=rfl
theorem w_lst:tLst tr σ H Q=tr σ H (fun xs H1=>xs.length≤sizeLine∧∀ p,H1 p=none→Q (.ref p) (L2.upd H1 p (.lst xs))):=rfl
theorem w_call {sp:Sp}{dvs:List V}{E:XK}:tCall sp dvs E tr σ H Q=tr σ H (fun vs H1=>sp (vs++dvs) H1 Q E):=rfl
theorem w_cB {r:List V→Hp→VK→Prop}:tCB r tr σ H Q=tr σ H (fun vs H1=>r vs H1 Q):=rfl
theorem w_eq:rEq x y H Q=(scal x y=true∧Q (.bl (decide (x=y))) H):=rfl
theorem w_ne:rNe x y H Q=(scal x y=true∧Q (.bl (!decide (x=y))) H):=rfl
theorem w_s1 {a b:Int}:scal (.int a) (.int b)=true:=rfl
theorem w_s2 {a b:Bool}:scal (.bl a) (.bl b)=true:=rfl
theorem w_s3 {a b:Str}:scal (.str a) (.str b)=true:=rfl
theorem w_s4 {a:Int}:scal (.int a) .non=true:=rfl
theorem w_s5 {a:Bool}:scal (.bl a) .non=true:=rfl
theorem w_isN:tIsN ta σ H Q=ta σ H (fun x H1=>Q (.bl (decide (x=.non))) H1):=rfl
theorem w_notN:tNotN ta σ H Q=ta σ H (fun x H1=>Q (.bl (!decide (x=.non))) H1):=rfl
theorem w_chain {r r':R2}:tChain r r' ta tb tc σ H Q=ta σ H (fun x H1=>tb σ H1 (fun y H2=>r x y H2 (fun z H3=>∃ k,z=.bl k∧(if k=true then tc σ H3 (fun w' H4=>r' y w' H4 Q) else Q (.bl false) H3)))):=rfl
theorem w_sl {r:V→Option Int→Option Int→Hp→VK→Prop}{tl th:TO}:tSl r te tl th σ H Q=te σ H (fun x H1=>tl σ H1 (fun l H2=>th σ H2 (fun u H3=>r x l u H3 Q))):=rfl
theorem w_part {QO:Option Int→Hp→Prop}:tPart te σ H QO=te σ H (fun x H1=>∃ i,x=.int i∧QO (some i) H1):=rfl
theorem w_noPart {QO:Option Int→Hp→Prop}:tNoPart σ H QO=QO none H:=rfl
theorem w_K {CX:CXT}{P:Program}{w:World}{mg:Str→Option Value}{base:Heap}{N:List Str}{qual:Str}{sc:Scope}{f:Addr}{cd:Value}{A:Around}{outer:List Env}{s:Shared}{H:Hp}{E:XK}:(cxOf CX P w K mg base N qual sc f cd A outer s H E).K=K:=rfl
def ForL (K:PySem.W.Frag) (a:Addr) (g:TG) (tb:TS) (D:Ends) (σ:L2.St) (H:Hp):Prop:=∃ W:Nat→Nat→L2.St→Hp→Prop,(∃ m,W 0 m σ H)∧∀ i m σ H,W i m σ H →
  ((Itl K a).stop i H∧D.nx σ H)∨((Itl K a).go i H∧∃ N:L2.St→Hp→Prop,(∀ σ' H',N σ' H'→∃ m',m' < m∧W (i+1) m' σ' H')∧∀ x H',(Itl K a).yld i H x H'→g x σ H' fun σ2 H2=>tb { D with nx:=N,ct:=N,bk:=D.nx } σ2 H2)
def ForR (lo:Int) (n:Nat) (g:TG) (tb:TS) (D:Ends) (σ:L2.St) (H:Hp):Prop:=∃ W:Nat→Nat→L2.St→Hp→Prop,(∃ m,W 0 m σ H)∧∀ i m σ H,W i m σ H →
  ((Itr lo n).stop i H∧D.nx σ H)∨((Itr lo n).go i H∧∃ N:L2.St→Hp→Prop,(∀ σ' H',N σ' H'→∃ m',m' < m∧W (i+1) m' σ' H')∧∀ x H',(Itr lo n).yld i H x H'→g x σ H' fun σ2 H2=>tb { D with nx:=N,ct:=N,bk:=D.nx } σ2 H2)
theorem w_forL:tFor (iList K ta) g t D σ H=ta σ H (fun x H1=>∃ a,x=.ref a∧(∃ xs,SqL K H1 a xs)∧ForL K a g t D σ H1):=rfl
theorem w_for1:tFor (iRng1 tr) g t D σ H=tr σ H (fun vs H1=>∃ j:Int,vs=[.int j]∧-(2 ^ 62)≤j∧j < 2 ^ 62∧ForR 0 j.toNat g t D σ H1):=rfl
theorem w_for2:tFor (iRng2 tr) g t D σ H=tr σ H (fun vs H1=>∃ i j:Int,vs=[.int i,.int j]∧(-(2 ^ 62)≤i∧i < 2 ^ 62∧-(2 ^ 62)≤j∧j < 2 ^ 62)∧ForR i (j - i).toNat g t D σ H1):=rfl
theorem ForL.by {a:Addr}{xs:List V}(Pv:Nat→L2.St→Hp→Prop) (h0:Pv 0 σ H) (hl:∀ i σ H,i≤xs.length→Pv i σ H→SqL K H a xs)
    (hs:∀ i x σ H,xs[i]?=some x→Pv i σ H→g x σ H fun σ2 H2=>t { D with nx:=Pv (i+1),ct:=Pv (i+1),bk:=D.nx } σ2 H2) (hd:∀ σ H,Pv xs.length σ H→D.nx σ H):ForL K a g t D σ H:=for_list Pv h0 hl hs hd
theorem ForR.by {lo:Int}{n:Nat}(Pv:Nat→L2.St→Hp→Prop) (h0:Pv 0 σ H)
    (hs:∀ i σ H,i < n→Pv i σ H→g (.int (lo+i)) σ H fun σ2 H2=>t { D with nx:=Pv (i+1),ct:=Pv (i+1),bk:=D.nx } σ2 H2) (hd:∀ σ H,Pv n σ H→D.nx σ H):ForR lo n g t D σ H:=for_range Pv h0 hs hd
theorem ixl {p:Addr}{xs:List V}{k:Int}(hS:SqL K H p xs) (hv:atI xs k=some v) (q:Q v H):rIxL K (.ref p) (.int k) H Q:=⟨p,xs,k,v,rfl,rfl,hS,hv,q⟩
theorem ixt {p:Addr}{xs:List V}{k:Int}(hS:SqT K H p xs) (hv:atI xs k=some v) (q:Q v H):rIxT K (.ref p) (.int k) H Q:=⟨p,xs,k,v,rfl,rfl,hS,hv,q⟩
theorem setl {p:Addr}{xs:List V}{k:Int}{QH:Hp→Prop}(h:H p=some (.lst xs)) (hj:ixN xs.length k=some j) (q:QH (L2.upd H p (.lst (xs.set j v)))):rSetL (.ref p) (.int k) v H QH:=⟨p,xs,k,j,rfl,rfl,h,hj,q⟩
end
end Bw
set_option Elab.async false
set_option linter.all false
set_option maxRecDepth 100000
namespace Bw
open PySem PySem.Spec PyProof.Rows L2
def rIsNotB:R2:=fun x y H Q=>∃ c d:Bool,x=.bl c∧y=.bl d∧Q (.bl (c != d)) H
theorem w_isnotB {x y:V}{H:Hp}{Q:VK}:rIsNotB x y H Q=∃ c d:Bool,x=.bl c∧y=.bl d∧Q (.bl (c != d)) H:=rfl
def Itr3 (lo c:Int) (n:Nat):It:=⟨fun i _=>i < n,fun i H x H'=>H'=H∧x=.int (lo+i * c),fun i _=>n≤i⟩
def rngN (i j c:Int):Nat:=if i < j then ((j - i - 1) / c+1).toNat else 0
def iRng3 (ta:TA):TI:=fun σ H R=>ta σ H fun vs H1=>∃ i j c:Int,vs=[.int i,.int j,.int c]∧(-(2 ^ 60)≤i∧i < 2 ^ 60∧-(2 ^ 60)≤j∧j < 2 ^ 60∧0 < c∧c < 2 ^ 30)∧R (Itr3 i c (rngN i j c)) H1
def ForR3 (lo c:Int) (n:Nat) (g:TG) (tb:TS) (D:Ends) (σ:L2.St) (H:Hp):Prop:=∃ W:Nat→Nat→L2.St→Hp→Prop,(∃ m,W 0 m σ H)∧∀ i m σ H,W i m σ H →
  ((Itr3 lo c n).stop i H∧D.nx σ H)∨((Itr3 lo c n).go i H∧∃ N:L2.St→Hp→Prop,(∀ σ' H',N σ' H'→∃ m',m' < m∧W (i+1) m' σ' H')∧∀ x H',(Itr3 lo c n).yld i H x H'→g x σ H' fun σ2 H2=>tb { D with nx:=N,ct:=N,bk:=D.nx } σ2 H2)
theorem w_for3 {tr:TA}{g:TG}{t:TS}{D:Ends}{σ:L2.St}{H:Hp}:tFor (iRng3 tr) g t D σ H=tr σ H (fun vs H1=>∃ i j c:Int,vs=[.int i,.int j,.int c]∧(-(2 ^ 60)≤i∧i < 2 ^ 60∧-(2 ^ 60)≤j∧j < 2 ^ 60∧0 < c∧c < 2 ^ 30)∧ForR3 i c (rngN i j c) g t D σ H1):=rfl
theorem ForR3.by {lo c:Int}{n:Nat}{g:TG}{t:TS}{D:Ends}{σ:L2.St}{H:Hp}(Pv:Nat→L2.St→Hp→Prop) (h0:Pv 0 σ H)
    (hs:∀ i σ H,i < n→Pv i σ H→g (.int (lo+i * c)) σ H fun σ2 H2=>t { D with nx:=Pv (i+1),ct:=Pv (i+1),bk:=D.nx } σ2 H2) (hd:∀ σ H,Pv n σ H→D.nx σ H):ForR3 lo c n g t D σ H:=by
  refine ⟨fun i m σ H=>m=n - i∧i≤n∧Pv i σ H,⟨n,by simp,Nat.zero_le _,h0⟩,?_⟩
  rintro i m σ H ⟨rfl,hi,p⟩
  by_cases hlt:i < n
  · refine .inr ⟨hlt,Pv (i+1),fun σ' H' p'=>⟨n - (i+1),by omega,rfl,hlt,p'⟩,fun x H' y=>?_⟩
    obtain ⟨e,y⟩:=y
    subst e y
    exact hs i σ _ hlt p
  · have e:i=n:=by omega
    subst e
    exact .inl ⟨Nat.le_refl _,hd σ H p⟩
structure QOk (H:Hp) (p:Addr) (s e:Int):Prop where
  at_:H p=some (.tup [.int s,.int e])
  s0:0≤s
  s1:s≤1439
  e0:0≤e
  e1:e≤1439
  ne:s≠e
theorem QOk.same {H H':Hp}{p:Addr}{s e:Int}(q:QOk H p s e) (h:Same H H'):QOk H' p s e:=⟨h _ _ q.at_,q.s0,q.s1,q.e0,q.e1,q.ne⟩
theorem QOk.but {H H':Hp}{w p:Addr}{s e:Int}(q:QOk H p s e) (W:Well H w) (h:But w H H'):QOk H' p s e:=⟨h _ _ (W.neL q.at_) q.at_,q.s0,q.s1,q.e0,q.e1,q.ne⟩
end Bw
set_option Elab.async false
set_option linter.all false
set_option maxRecDepth 100000
namespace Bw
open PySem PySem.Spec PyProof.Rows L2
def CXF (P:Program) (w:World):CXT:=fun outer H s E e s' =>
  ∃ (x:Addr) (cls a0:Value) (H':Hp) (B:Heap),e=.ref x∧s'.os=s.os∧AllBare s'.gens∧Un (frs outer) [] H H' s.heap s'.heap∧HOk P w H' s'.heap∧Heap.FlyingW B outer x cls a0 s'.heap ∧
    (∀ b u,H' b=some u→∃ o,B.get? b=some o)∧(∀ b o,s.heap.get? b=some o→H b=none→b ∉ frs outer→B.get? b=some o)∧(∀ b o,s.heap.get? b=some o→b ∉ frs outer→∃ o',B.get? b=some o')∧E cls none H'
section
variable {X:Cx}{pins:List (Addr × Obj)}{σ:L2.St}{H H':Hp}{s:Shared}{h2 B:Heap}
end
abbrev cxX (P:Program) (w:World) (K:PySem.W.Frag) (mg:Str→Option Value) (base:Heap) (N:List Str) (qual:Str) (sc:Scope) (f:Addr) (cdv:Value) (A:Around) (outer:List Env) (s:Shared) (H:Hp) (E:XK):Cx :=
  cxOf (CXF P w) P w K mg base N qual sc f cdv A outer s H E
section
variable {P:Program}{w:World}{K:PySem.W.Frag}{mg:Str→Option Value}{base:Heap}{N:List Str}{qual:Str}{sc:Scope}{f:Addr}{cdv:Value}{A:Around}{outer:List Env}{s:Shared}{H:Hp}{E:XK}
theorem pass00 {X:Cx}:Passes (CXF P w) X E0:=fun pins σ H1 s1 e s' I hx=>by
  obtain ⟨_,_,_,_,_,_,_,_,_,_,_,_,_,_,hE⟩:=hx
  exact hE.elim
theorem FnOk.up {k:Nat}{fd:FuncData}{ps:List Str}{sp:Sp}{CX:CXT}(F:FnOk P w K mg base CX0 k f fd ps sp):FnOk P w K mg base CX k f fd ps sp :=
  ⟨F.len,fun A outer s H args us vs Q E hr he hb hv hs=>codeAny_mono (F.run A outer s H args us vs Q E hr he hb hv hs) fun r s' q=>by
    cases r with
    | ok fl=>cases fl <;> exact q
    | error e=>exact (show False from q).elim⟩
end
def tRaise (R:Hp→Prop):TS:=fun _ _ H=>R H
section
variable {X:Cx}{pins:List (Addr × Obj)}{σ:L2.St}{H H':Hp}{s:Shared}
def excAt (x:Addr) (cls:Value) (h:Heap):Prop:=∃ ob,h.get? x=some ob∧ob.cls=cls
def hoExc (x:Addr) (cls:Value):HO:=.ext (excAt x cls)
def tTry (K:PySem.W.Frag) (CB:Addr) (i:Nat) (sp:Sp) (t:TA) (ts:TS):TS:=fun D σ H=>t σ H fun vs H1=>sp vs H1 (fun _ H2=>D.nx σ H2) fun cls _ H2=>PySem.W.exmOne K cls (.ref CB)=some true ∧
  ∀ x,H2 x=none→ts { nx:=fun σ' H3=>D.nx (σ'.set i none) H3,rt:=D.rt,bk:=fun σ' H3=>D.bk (σ'.set i none) H3,ct:=fun σ' H3=>D.ct (σ'.set i none) H3 } (σ.set i (some (.ref x))) (L2.upd H2 x (hoExc x cls))
end
end Bw
set_option Elab.async false
set_option linter.all false
set_option maxRecDepth 100000
set_option maxHeartbeats 400000
namespace Bw
open PySem PySem.Spec PyProof.Rows L2
section
variable {prog:Program}{w:World}{A:Around}{E:Value→Shared→Prop}{K:PySem.W.Frag}{h:Heap}{g:Array GenState}{d:Drawn}{t:Nat}{os:OsState}{x C:Addr}
structure ExcK (K:PySem.W.Frag) (C:Addr):Prop where
  ga:PySem.W.findIn K (.ref C) "__getattribute__"=some (some (.builtin "BaseException.__getattribute__"))
  gt:PySem.W.findIn K (.ref C) "__getattr__"=some none
  cl:PySem.W.findIn K (.ref C) "__class__"=some (some (.builtin "object.__class__"))
  mB:PySem.W.mroIn K C (.type "BaseException")=some true
  mO:PySem.W.mroIn K C (.type "object")=some true
  cls:(PySem.W.clsIn K C).isSome=true
end
section
variable {X:Cx}
end
structure CalX (P:Program) (w:World) (K:PySem.W.Frag) (mg:Str→Option Value) (base:Heap) (x:Str) (ps:List Str) (k:Nat) (sp:Sp):Prop where
  ex:∃ f fd,FnOk P w K mg base (CXF P w) k f fd ps sp∧Binds K fd ps []∧PySem.W.keepIn K (.ref f)=true∧mg x=some (.ref f)
theorem pe_calN {X:Cx}{x:Str}{ps:List Str}{k:Nat}{sp:Sp}{e:Expr}{es:List Expr}{t:TA}{p pos:Pos}(C:CalX X.prog X.w X.K X.mg X.base x ps k sp) (hr:Room k X.A) (hg:Gl X x) (ha:PA X (e::es) t)
    (hdb:(x == ("__debug__":Str))=false:=by decide) (he:starEach (e::es) X.env=(false,eval e X.env)::starEach es X.env:=by rfl) (hpl:(backTo pos (starEach es X.env)).any (·.1)=false:=by rfl) :
    PE X (.Call (.Name x p) (e::es) [] pos) (tCall sp [] E0 t):=by
  obtain ⟨f,fd,F,b,kp,m⟩:=C.ex
  exact pe_call F hr hg m kp b .nil pass00 ha hdb he hpl
theorem w_raise {R:Hp→Prop}{D:Ends}{σ:L2.St}{H:Hp}:tRaise R D σ H=R H:=rfl
theorem w_try {K:PySem.W.Frag}{CB:Addr}{i:Nat}{sp:Sp}{t:TA}{ts:TS}{D:Ends}{σ:L2.St}{H:Hp}:tTry K CB i sp t ts D σ H=t σ H (fun vs H1=>sp vs H1 (fun _ H2=>D.nx σ H2) fun cls _ H2=>PySem.W.exmOne K cls (.ref CB)=some true ∧
  ∀ x,H2 x=none→ts { nx:=fun σ' H3=>D.nx (σ'.set i none) H3,rt:=D.rt,bk:=fun σ' H3=>D.bk (σ'.set i none) H3,ct:=fun σ' H3=>D.ct (σ'.set i none) H3 } (σ.set i (some (.ref x))) (L2.upd H2 x (hoExc x cls))):=rfl
theorem w_KX {K:PySem.W.Frag}{P:Program}{w:World}{mg:Str→Option Value}{base:Heap}{N:List Str}{qual:Str}{sc:Scope}{f:Addr}{cd:Value}{A:Around}{outer:List Env}{s:Shared}{H:Hp}{E:XK}:(cxX P w K mg base N qual sc f cd A outer s H E).K=K:=rfl
theorem at_memV {xs:List V}{i:Int}(h0:0≤i) (h:i < xs.length):∃ z∈xs,atI xs i=some z:=by
  have hk:i.toNat < xs.length:=by omega
  have ek:i=((i.toNat:Nat):Int):=by omega
  refine ⟨xs[i.toNat],List.getElem_mem hk,?_⟩
  have q:atI xs ((i.toNat:Nat):Int)=some xs[i.toNat]:=atI_nat (List.getElem?_eq_getElem hk)
  rwa [← ek] at q
end Bw
set_option Elab.async false
set_option linter.all false
set_option maxRecDepth 100000
set_option maxHeartbeats 1000000
namespace Bw
open PySem PySem.Spec PyProof.Rows L2
section
variable {X:Cx}
def tBMake (C:Addr) (sp:Sp) (dvs:List V) (t:TA):XK→TE:=fun E σ H Q=>t σ H fun vs H1=>∀ x dx,H1 x=none→H1 dx=none→dx≠x →
  sp (.ref x::(vs++dvs)) (upd (upd H1 dx (.own x)) x (.ins C dx [])) (fun v H2=>v=.non∧Q (.ref x) H2) E
def tTryB (K:PySem.W.Frag) (CB:Addr) (i:Nat) (tb:XK→TS) (ts:TS):TS:=fun D σ H=>tb (fun cls _ H2=>PySem.W.exmOne K cls (.ref CB)=some true ∧
  ∀ x,H2 x=none→ts { nx:=fun σ' H3=>D.nx (σ'.set i none) H3,rt:=D.rt,bk:=fun σ' H3=>D.bk (σ'.set i none) H3,ct:=fun σ' H3=>D.ct (σ'.set i none) H3 } (σ.set i (some (.ref x))) (L2.upd H2 x (hoExc x cls))) D σ H
end
end Bw
set_option Elab.async false
set_option linter.all false
set_option maxRecDepth 100000
set_option maxHeartbeats 1000000
namespace Bw
open PySem PySem.Spec PyProof.Rows L2
theorem lookup_mem {α:Type}{x:Str}{c:α}:∀ {l:List (Str × α)},l.lookup x=some c→(x,c)∈l
  | [],h=>by simp at h
  | (n,k)::r,h=>by
    rw [List.lookup_cons] at h
    cases hx:x == n with
    | true =>
      rw [hx] at h
      have e:x=n:=by simpa using hx
      have e2:k=c:=by simpa using h
      subst e e2
      exact List.mem_cons_self
    | false =>
      rw [hx] at h
      exact List.mem_cons_of_mem _ (lookup_mem h)
theorem mem_lookup {α:Type}{x:Str}{c:α}:∀ {l:List (Str × α)},(x,c)∈l→∃ c',l.lookup x=some c'
  | [],h=>by cases h
  | (n,k)::r,h=>by
    rw [List.lookup_cons]
    cases hx:x == n with
    | true=>exact ⟨k,rfl⟩
    | false =>
      rcases List.mem_cons.mp h with e | e
      · cases e
        simp at hx
      · exact mem_lookup e
theorem closure_run {env:Env}:∀ (names:List (Str × NameKind)) (acc:List (Str × Addr)),(∀ y∈names,y.2=.free→∃ c,env.cells.lookup y.1=some c) →
    ∃ cl:List (Str × Addr),(forIn (m:=Sem) names acc fun (x:Str × NameKind) r =>
        if (x.2 == NameKind.free)=true then do let a ← cellOf env x.1; pure (ForInStep.yield ((x.1,a)::r)) else pure (ForInStep.yield r))=pure cl ∧
      (∀ p∈cl,p∈acc∨env.cells.lookup p.1=some p.2)∧(∀ p∈acc,p∈cl)∧∀ x,(x,NameKind.free)∈names→∃ c,(x,c)∈cl
  | [],acc,_=>⟨acc,rfl,fun p hp=>.inl hp,fun p hp=>hp,fun x hx=>by cases hx⟩
  | (n,k)::r,acc,h=>by
    by_cases hk:k=.free
    · subst hk
      obtain ⟨c,hc⟩:=h (n,.free) List.mem_cons_self rfl
      obtain ⟨cl,e,h1,h2,h3⟩:=closure_run r ((n,c)::acc) fun y hy=>h y (List.mem_cons_of_mem _ hy)
      have hc':cellOf env n=pure c:=by unfold cellOf; rw [hc]
      refine ⟨cl,?_,fun p hp=>?_,fun p hp=>h2 p (List.mem_cons_of_mem _ hp),fun x hx=>?_⟩
      · rw [List.forIn_cons]
        simp only [beq_self_eq_true,if_true,hc',pure_bind]
        exact e
      · rcases h1 p hp with z | z
        · rcases List.mem_cons.mp z with rfl | z
          · exact .inr hc
          · exact .inl z
        · exact .inr z
      · rcases List.mem_cons.mp hx with z | z
        · cases z
          exact ⟨c,h2 _ List.mem_cons_self⟩
        · exact h3 x z
    · obtain ⟨cl,e,h1,h2,h3⟩:=closure_run r acc fun y hy=>h y (List.mem_cons_of_mem _ hy)
      have hb:(k == NameKind.free)=false:=by simpa using hk
      refine ⟨cl,?_,h1,h2,fun x hx=>?_⟩
      · rw [List.forIn_cons]
        simp only [hb,Bool.false_eq_true,if_false,pure_bind]
        exact e
      · rcases List.mem_cons.mp hx with z | z
        · cases z
          exact absurd rfl hk
        · exact h3 x z
theorem closure_of {env:Env}{scope:Scope}(h:∀ y∈scope.names,y.2=.free→∃ c,env.cells.lookup y.1=some c) :
    ∃ cl,closureFor scope env=pure cl∧(∀ x c,cl.lookup x=some c→env.cells.lookup x=some c)∧∀ x,(x,NameKind.free)∈scope.names→∃ c,cl.lookup x=some c:=by
  obtain ⟨cl,e,h1,h2,h3⟩:=closure_run (env:=env) scope.names [] h
  refine ⟨cl,?_,fun x c hx=>?_,fun x hx=>?_⟩
  · unfold closureFor
    simp only [bind_pure]
    exact e
  · rcases h1 _ (lookup_mem hx) with z | z
    · cases z
    · exact z
  · obtain ⟨c,hc⟩:=h3 x hx
    exact mem_lookup hc
theorem relabel_mem {scope:Scope}{env:Env}{x:Str}{k:NameKind}(h:(relabel scope env).names.lookup x=some k):(x,k)∈scope.names∨(k=.cell∧(x,NameKind.free)∈scope.names):=by
  obtain ⟨⟨n,k'⟩,hm,e⟩:=List.mem_map.mp (lookup_mem h)
  dsimp only at e
  split at e
  · rename_i hc
    simp only [Bool.and_eq_true,beq_iff_eq] at hc
    obtain ⟨⟨rfl,_⟩,_⟩:=hc
    cases e
    exact .inr ⟨rfl,hm⟩
  · cases e
    exact .inl hm
abbrev blk (X:Cx) (N:List Str) (scope:Scope) (cl:List (Str × Addr)) (C:Addr) (s:Shared) (H:Hp) (fp:List Addr):Cx :=
  { prog:=X.prog,w:=X.w,K:=X.K,mg:=X.mg,base:=X.base,A:=X.A,N:=N,s₀:=s,H₀:=H,env:=compEnvC scope cl C X.env,outer:=X.stack,stack:=X.stack,ex:=fp,fn:=fun _=>false,calm:=X.calm,pn:=[],xe:=fun _ _=>False }
def pick (ix:List (Option Nat)) (σ:L2.St):L2.St:=ix.map fun o=>o.bind fun j=>(σ[j]?).getD none
def PTs (X:Cx) (ifs:List Expr) (t:TT):Prop :=
  ∀ (pins:List (Addr × Obj)) (s:Shared) (σ:L2.St) (H:Hp) (Q:Bool→Hp→Prop),Inv X pins σ H s→t σ H Q →
    wpAny (model X.prog X.w) X.A (forIn ifs true fun c r=>if r=true then do let ok ← isTrue c X.env (eval c X.env); pure (ForInStep.yield ok) else pure (ForInStep.yield r)) (TP X pins σ Q) X.xe s
def tYes:TT:=fun _ H Q=>Q true H
theorem pts_nil {X:Cx}:PTs X [] tYes:=fun pins s σ H Q I h=>wpAny_tests_nil ⟨H,I,h⟩
theorem pts_one {X:Cx}{c:Expr}{t:TT}(h:PT X c t):PTs X [c] t:=fun pins s σ H Q I q=>wpAny_tests_one (h pins s σ H Q I q)
def tComp (wi:TI) (ix:List (Option Nat)) (g:TG) (tt:TT) (te:TE):TE:=fun σ H Q=>wi σ H fun J H1=>∃ W:Nat→Nat→List V→L2.St→Hp→Prop,(∃ m,W 0 m [] (pick ix σ) H1)∧∀ i m acc σ H,W i m acc σ H →
  (J.stop i H∧∀ D,H D=none→Q (.ref D) (upd H D (.lst acc))) ∨
  (J.go i H∧acc.length < sizeLine∧∃ N:List V→L2.St→Hp→Prop,(∀ acc' σ' H',N acc' σ' H'→∃ m',m' < m∧W (i+1) m' acc' σ' H') ∧
    ∀ x H',J.yld i H x H'→g x σ H' fun σ2 H2=>tt σ2 H2 fun b H3=>if b=true then te σ2 H3 fun y H4=>N (acc++[y]) σ2 H4 else N acc σ2 H3)
section
variable {prog:Program}{w:World}{A:Around}{R:Result→Shared→Prop}{s:Shared}
theorem codeAny_compLoopT {elt target iter:Expr}{ifs:List Expr}{scope:Scope}{pos:Pos}{it acc:Value}{env:Env}(I:Nat→Shared→Prop)
    (turn:∀ n s,I n s→wpAny (model prog w) A (pyNext it) (fun r s₁=>match r with
      | none=>R (.ok .next) s₁
      | some v=>wpAny (model prog w) A (letOwnedTupleGo target it v) (fun _ s₁=>wpAny (model prog w) A (assign target env v) (fun _ s₂ =>
          wpAny (model prog w) A (forIn ifs true fun c r=>if r=true then do let ok ← isTrue c env (eval c env); pure (ForInStep.yield ok) else pure (ForInStep.yield r)) (fun ok s₃ =>
            if ok=true then wpAny (model prog w) A (eval elt env) (fun x s₄ =>
              wpAny (model prog w) A (call (.builtin "list.append") [acc,x]) (fun _ s₅=>∃ m,m < n∧I m s₅) (fun _ _=>False) s₄) (fun _ _=>False) s₃
            else ∃ m,m < n∧I m s₃) (fun _ _=>False) s₂) (fun _ _=>False) s₁) (fun _ _=>False) s₁) (fun _ _=>False) s)
    (n:Nat) (h:I n s) :
    codeAny (model prog w) A (.compLoop (.ListComp elt [⟨target,iter,ifs,0⟩] scope pos) 0 it acc env) R s:=by
  refine codeAny_loop rfl I (fun n s hI=>?_) n h
  show wpAny _ A ((compTurn (.ListComp elt [⟨target,iter,ifs,0⟩] scope pos) 0 it acc env).onRaise (fun x=>do noteFrame x env; theTreesLotGoes x)) _ _ s
  refine wpAny_noted ?_
  rw [compTurn_list]
  refine wpAny_bind (wpAny_standAt (wpAny_bind (wpAny_mono (turn n s hI) (fun r s₁ h₁=>?_) fun _ _ h'=>h'.elim)))
  cases r with
  | none=>exact wpAny_pure h₁
  | some v =>
    refine wpAny_bind (wpAny_mono h₁ (fun _ s₁ h₁=>?_) fun _ _ h'=>h'.elim)
    refine wpAny_bind (wpAny_mono h₁ (fun _ s₂ h₂=>wpAny_bind (wpAny_mono h₂ (fun ok s₃ h₃=>?_) fun _ _ h'=>h'.elim)) fun _ _ h'=>h'.elim)
    cases ok with
    | false=>exact wpAny_pure ⟨rfl,h₃⟩
    | true =>
      exact wpAny_bind (wpAny_bind (wpAny_mono h₃ (fun x s₄ h₄=>wpAny_bind (wpAny_mono h₄ (fun _ s₅ h₅=>wpAny_pure (wpAny_pure ⟨rfl,h₅⟩)) fun _ _ h'=>h'.elim)) fun _ _ h'=>h'.elim))
end
section
variable {X:Cx}{pins:List (Addr × Obj)}{σ:L2.St}{H:Hp}{s:Shared}{N:List Str}{scope:Scope}{cl:List (Str × Addr)}{C:Addr}{fp:List Addr}
theorem blk_ok (I:Inv X pins σ H s) (hkind:scope.kind=.function) (hcell:∀ y∈scope.names,y.2≠.cell) (h1:∀ x c,cl.lookup x=some c→X.env.cells.lookup x=some c)
    (h2:∀ x,(x,NameKind.free)∈scope.names→∃ c,cl.lookup x=some c) (hC:s.heap.objs.size≤C) (hf:∀ b∈fp,FpOk X pins H b) (hb:∀ b∈fp,b < s.heap.objs.size):(blk X N scope cl C s H fp).Ok where
  mod:=I.ok.mod
  kind:=hkind
  glob:=I.ok.glob
  blt:=I.ok.blt
  above:=hC
  inj:=fun x y c a b=>I.ok.inj x y c (h1 x c a) (h1 y c b)
  has:=fun x hx=>by
    have:(x,NameKind.free)∈scope.names:=by
      rcases hx with z | z
      · rcases relabel_mem z with q | ⟨_,q⟩
        · exact absurd rfl (hcell _ q)
        · exact q
      · rcases relabel_mem z with q | ⟨e,q⟩
        · exact q
        · cases e
    exact h2 x this
  cab:=fun x c hx=>by cases hx
  hd:=I.ok.hd
  frames:=I.ok.frames
  stk:=.inl rfl
  exf:=fun b hm=>⟨Nat.ne_of_lt (Nat.lt_of_lt_of_le (hb b hm) hC),fun x c e=>(hf b hm).2.2.2.2.1 x c (h1 x c e)⟩
  bs:=I.bs
  bsz:=Nat.le_trans I.ok.bsz I.sz
  noex:=fun b o e hm=>by
    rcases (hf b hm).2.2.2.1 with z | z
    · exact I.ok.noex b o e z
    · exact absurd (Nat.lt_of_lt_of_le (Heap.lt_size e) (Nat.le_trans I.ok.bsz z)) (Nat.lt_irrefl _)
  exfs:=fun b hm hs=>(List.mem_cons.mp (I.stkSub b hs)).elim (hf b hm).2.1 (hf b hm).2.2.1
  funs:=I.stack
  frf:=I.stkFree
end
theorem lookup_relabel_free {env:Env}:∀ {names:List (Str × NameKind)}{x:Str},names.lookup x=some .free →
    (names.map fun (n,k)=>if (k == NameKind.free && env.scope.kind == .function && env.kindOf n == some .cell) then (n,NameKind.cell) else (n,k)).lookup x=some .cell ∨
    (names.map fun (n,k)=>if (k == NameKind.free && env.scope.kind == .function && env.kindOf n == some .cell) then (n,NameKind.cell) else (n,k)).lookup x=some .free
  | [],_,h=>by simp at h
  | (n,k)::r,x,h=>by
    have ih:=@lookup_relabel_free env r x
    rw [List.map_cons]
    cases hx:x == n with
    | true =>
      simp only [List.lookup_cons,hx] at h
      cases h
      by_cases hc:(NameKind.free == NameKind.free && env.scope.kind == .function && env.kindOf n == some .cell)=true
      · left; simp only [hc,if_true,List.lookup_cons,hx]
      · right; simp only [Bool.not_eq_true] at hc; simp only [hc,Bool.false_eq_true,if_false,List.lookup_cons,hx]
    | false =>
      simp only [List.lookup_cons,hx] at h
      by_cases hc:(k == NameKind.free && env.scope.kind == .function && env.kindOf n == some .cell)=true
      · simp only [hc,if_true,List.lookup_cons,hx]; exact ih h
      · simp only [Bool.not_eq_true] at hc; simp only [hc,Bool.false_eq_true,if_false,List.lookup_cons,hx]; exact ih h
section
variable {X:Cx}
structure Gone (X:Cx) (pins:List (Addr × Obj)) (H:Hp) (C:Addr):Prop where
  n:H C=none
  l:C≠X.env.locals
  y:X.s₀.heap.objs.size≤C
  c:∀ x c,X.env.cells.lookup x=some c→c≠C
  p:∀ p∈X.pn++pins,p.1≠C
theorem Gone.inv {pins:List (Addr × Obj)}{σ:L2.St}{H:Hp}{s:Shared}{C:Addr}{h':Heap}(G:Gone X pins H C) (I:Inv X pins σ H s) (hs:Heap.SameBut C s.heap h'):Inv X pins σ H { s with heap:=h' } :=
  I.turned (t':=s.toks) (fun b o hb e=>(hs.2 b hb).trans e) G.n G.l (.inr G.y) G.c G.p
theorem comp_run {elt iter tg:Expr}{ifs:List Expr}{scope:Scope}{pos ppos:Pos}{wi:TI}{g:TG}{tt:TT}{te:TE}{use:Option (Value→Sem Unit)}{Q':Value→Shared→Prop}{pins:List (Addr × Obj)}{s:Shared}{σ:L2.St}{H:Hp}{Q:VK}(N:List Str) (ix:List (Option Nat)) (hc:X.calm=true) (hkind:scope.kind=.function) (hcell:∀ y∈scope.names,y.2≠.cell)
    (hnames:∀ y∈scope.names,y.2=.local→scope.names.lookup y.1=some .local) (hfree:∀ y∈scope.names,y.2=.free→X.env.kindOf y.1=some .cell∨X.env.kindOf y.1=some .free)
    (hlen:ix.length=N.length) (hcap:∀ (i j:Nat) (x:Str),ix[i]?=some (some j)→N[i]?=some x→X.N[j]?=some x∧scope.names.lookup x=some .free) (hi:PI X tg iter wi)
    (hb:∀ cl C s H fp,PG (blk X N scope cl C s H fp) tg g∧PTs (blk X N scope cl C s H fp) ifs tt∧PE (blk X N scope cl C s H fp) elt te)
    (hs:∀ x,foldedSetIterable iter X.env x=pure x) (I:Inv X pins σ H s) (h:tComp wi ix g tt te σ H Q)
    (hend:∀ (D C:Addr) (H':Hp) (s4:Shared) (mC:Str→Option Value),Inv X pins σ H' s4→s4.heap.Ns C mC→Gone X pins H' C→Q (.ref D) H'→compPost (model X.prog X.w) X.A X.xe use Q' (.ref D) C (.ok .next) s4) :
    wpAny (model X.prog X.w) X.A (comprehension (.ListComp elt [⟨tg,iter,ifs,0⟩] scope pos) scope X.env ppos (newList []) false (eval iter X.env) use) Q' X.xe s:=by
  obtain ⟨cl,hclos,hcl1,hcl2⟩:=closure_of (env:=X.env) (scope:=scope) fun y hy e=>I.ok.has _ (hfree y hy e)
  refine wpAny_comprehension_free rfl hs hclos hkind hnames (thn (hi pins s σ H _ I h) fun v s1 h1=>thn h1 fun itv s2 h2=>?_)
  obtain ⟨it,fp,tn,J,H2,e,I2,T,st2,f2,W,⟨m0,w0⟩,turn⟩:=h2
  subst e
  refine wpAny_newObj_type (wpAny_newFunctionEnv hcell (by intro y hy; simp at hy) (fun h₁ hns₁ hsb₁=>?_) hkind)
  dsimp only at hns₁ hsb₁ ⊢
  generalize hH2:s2.heap.push { cls:=.type "list",dict:=none,data:=.seq ([]:List Value).toArray }=HH at hns₁ hsb₁ ⊢
  have hC:HH.objs.size=s2.heap.objs.size+1:=by rw [← hH2,Heap.size_push]
  have hDC:s2.heap.objs.size≠HH.objs.size:=by rw [hC]; exact Nat.ne_of_lt (Nat.lt_succ_self _)
  have hCle:s2.heap.objs.size≤HH.objs.size:=by rw [hC]; exact Nat.le_succ _
  have below:∀ b,b < s2.heap.objs.size→b≠HH.objs.size∧b≠s2.heap.objs.size:=fun b hb=>⟨by rw [hC]; exact Nat.ne_of_lt (Nat.lt_succ_of_lt hb),Nat.ne_of_lt hb⟩
  have hfp:∀ b∈fp,b < s2.heap.objs.size:=fun b hm=>by
    obtain ⟨o,e,_⟩:=T.obj _ _ st2 b hm
    exact Heap.lt_size e
  have old:∀ b o,s2.heap.get? b=some o→h₁.get? b=some o:=fun b o e=>hsb₁.extBut b o (below b (Heap.lt_size e)).1 (Heap.get?_push_of_some _ (hH2 ▸ Heap.get?_push_of_some _ e))
  have hacc:h₁.get? s2.heap.objs.size=some { cls:=.type "list",data:=.seq ([]:List Value).toArray }:=hsb₁.extBut _ _ hDC (Heap.get?_push_of_some _ (hH2 ▸ Heap.get?_push_size _ rfl))
  generalize hD:s2.heap.objs.size=D at hDC hCle hacc ⊢
  generalize hCC:HH.objs.size=C at hns₁ hsb₁ hDC hCle ⊢
  have hDle:s2.heap.objs.size≤D:=by rw [hD]; exact Nat.le_refl _
  have hCle':s2.heap.objs.size≤C:=by rw [hD]; exact hCle
  obtain ⟨bg,bt,be⟩:=hb cl C s2 H2 fp
  have ok:=blk_ok (N:=N) I2 hkind hcell hcl1 hcl2 hCle' f2 hfp
  have notY:∀ b,s2.heap.objs.size≤b→b ∉ frs X.stack:=fun b hle hm=>by
    rcases List.mem_cons.mp (I2.stkSub b hm) with z | z
    · exact absurd (Nat.lt_of_lt_of_le I2.lt (z ▸ hle)) (Nat.lt_irrefl _)
    · exact I2.nofs hle z
  -- the block's invariant at its entry
  have I4:Inv (blk X N scope cl C s2 H2 fp) [(D,{ cls:=.type "list",data:=.seq ([]:List Value).toArray })] (pick ix σ) H2 { s2 with heap:=h₁,toks:=s2.toks+([]:List (Str × Value)).length }:=by
    refine ⟨ok,rfl,I2.bare,Un.kept old,⟨_,hns₁,fun i x v e1 e2 e3=>?_⟩,fun x c e=>?_,I2.hok.fresh hCle',fun x c e=>I2.freeC x c (hcl1 x c e),fun p hp=>?_,I2.hok.kept old,?_⟩
    · have q:∃ j,ix[i]?=some (some j)∧σ[j]?=some (some v):=by
        unfold pick at e2
        rw [List.getElem?_map] at e2
        cases z:ix[i]? with
        | none=>rw [z] at e2; cases e2
        | some o =>
          rw [z] at e2
          cases o with
          | none=>cases e2
          | some j =>
            refine ⟨j,rfl,?_⟩
            have e2':(σ[j]?).getD none=some v:=Option.some.inj e2
            cases z2:σ[j]? with
            | none=>rw [z2] at e2'; cases e2'
            | some w'=>rw [z2] at e2'; exact congrArg some e2'
      obtain ⟨j,q1,q2⟩:=q
      obtain ⟨n1,n2⟩:=hcap i j x q1 e1
      obtain ⟨m,hn,hl⟩:=I2.loc
      have hmem:=lookup_mem n2
      have hkx:=hfree _ hmem rfl
      have hvis:Vis X.env.scope x:=by
        rcases hkx with z | z
        · exact .inr (.inl z)
        · exact .inr (.inr z)
      obtain ⟨u,ru,lk⟩:=hl j x v n1 q2 hvis
      refine ⟨u,ru,.inr ⟨lookup_relabel_free n2,?_⟩⟩
      obtain ⟨c,hcc⟩:=hcl2 x hmem
      rcases lk with ⟨k,_⟩ | ⟨_,c',e',z⟩
      · rcases hkx with z | z <;> · rw [k] at z; cases z
      · rw [hcl1 x c hcc] at e'
        cases e'
        obtain ⟨o,ho,hd⟩:=z
        exact ⟨c,hcc,o,old _ _ ho,hd⟩
    · obtain ⟨v,o,ho,hd⟩:=I2.cell x c (hcl1 x c e)
      exact ⟨v,o,old _ _ ho,hd⟩
    · have e:p=(D,{ cls:=.type "list",data:=.seq ([]:List Value).toArray }):=by simpa using hp
      subst e
      exact ⟨hacc,I2.hok.fresh hDle,hDC,notY D hDle,fun v z=>by cases z⟩
    · unfold pick
      rw [List.length_map]
      exact hlen
  have stat:∀ {pl:List (Addr × Obj)}{H':Hp},(∀ p∈pl,p.1 ∉ fp)→(∀ b∈fp,H' b=none)→∀ b∈fp,FpOk (blk X N scope cl C s2 H2 fp) pl H' b:=fun {pl H'} hpl hn b hm =>
    ⟨hn b hm,(ok.exf b hm).1,ok.exfs b hm,.inl hm,(ok.exf b hm).2,fun p hp e=>hpl p (by simpa using hp) (e ▸ hm)⟩
  have nfp:D ∉ fp:=fun hm=>absurd (Nat.lt_of_lt_of_le (hfp D hm) hDle) (Nat.lt_irrefl _)
  have nfpP:∀ (o:Obj),∀ p∈[(D,o)],p.1 ∉ fp:=fun o p hp=>by
    have e:p=(D,o):=by simpa using hp
    subst e
    exact nfp
  have loop:∀ s3:Shared,s3={ s2 with heap:=h₁,toks:=s2.toks+([]:List (Str × Value)).length } →
      codeAny (model X.prog X.w) X.A (.compLoop (.ListComp elt [⟨tg,iter,ifs,0⟩] scope pos) 0 (.ref it) (.ref D) (compEnvC scope cl C X.env)) (compPost (model X.prog X.w) X.A X.xe use Q' (.ref D) C) s3:=by
    rintro s3 rfl
    refine codeAny_compLoopT (fun n s'=>∃ i σ' H' acc its nn,Inv (blk X N scope cl C s2 H2 fp) [(D,{ cls:=.type "list",data:=.seq its nn })] σ' H' s'∧Vals acc its.toList∧tn i s'.heap∧(∀ b∈fp,H' b=none)∧acc.length≤sizeLine∧W i n acc σ' H') ?_ m0
      ⟨0,pick ix σ,H2,[],#[],0,I4,.nil,T.keep _ _ _ st2 fun b _ o e=>old b o e,fun b hm=>(f2 b hm).1,Nat.zero_le _,w0⟩
    rintro n s3 ⟨i,σ3,H3,acc,its,nn,I3,rv,st3,fr3,hz,w3⟩
    rcases turn i n acc σ3 H3 w3 with ⟨stop,qn⟩ | ⟨go,hlt,NN,hN,step⟩
    · refine thn (T.done (blk X N scope cl C s2 H2 fp) rfl rfl rfl hc i _ s3 σ3 H3 (fun _ _=>False) I3 (stat (nfpP _) fr3) st3 stop) fun r s4 ⟨hr,I5⟩=>?_
      subst hr
      obtain ⟨eD,nD,_⟩:=I5.pin (D,{ cls:=.type "list",data:=.seq its nn }) (by simp)
      obtain ⟨mC,hnC,_⟩:=I5.loc
      -- back in the def's own frame
      have hne:∀ b u,H3 b=some u→b≠D:=fun b u q z=>by rw [z,nD] at q; cases q
      have un:Un (frs X.stack) fp H2 (upd H3 D (.lst acc)) s2.heap s4.heap:=by
        have b:=I5.base
        have neD:∀ b o,s2.heap.get? b=some o→b≠D:=fun b o e=>Nat.ne_of_lt (Nat.lt_of_lt_of_le (Heap.lt_size e) hDle)
        refine ⟨b.keep,b.slot,fun b' o q n' hx=>?_,b.there,fun b' xs q=>?_,fun b' o u q=>?_,fun b' ps q=>?_⟩
        · rw [upd_ne (neD b' o q)]
          exact b.free b' o q n' hx
        · have q':=b.tups b' xs q
          rw [upd_ne (hne _ _ q')]
          exact q'
        · have q':=b.frzs b' o u q
          rw [upd_ne (hne _ _ q')]
          exact q'
        · obtain ⟨more,q'⟩:=b.tbls b' ps q
          exact ⟨more,by rw [upd_ne (hne _ _ q')]; exact q'⟩
      have hokD:HOk X.prog X.w (upd H3 D (.lst acc)) s4.heap:=fun b u e=>by
        by_cases hbD:b=D
        · subst hbD
          rw [upd_same] at e
          cases e
          exact ⟨hz,its.toList,nn,rv,by simpa using eD⟩
        · rw [upd_ne hbD] at e
          refine (I5.hok b u e).stay (fun _ _ _ q=>q) (fun c r=>?_) fun c xs r=>?_
          · rw [upd_ne (fun z=>by rw [z,nD] at r; cases r)]; exact r
          · rw [upd_ne (fun z=>by rw [z,nD] at r; cases r)]; exact r
      have IX:Inv X pins σ (upd H3 D (.lst acc)) s4:=I2.call' I5.os un hokD I5.bare fun b hm=>⟨(f2 b hm).2.2.2.1,(f2 b hm).2.1,(f2 b hm).2.2.2.2.1,(f2 b hm).2.2.2.2.2⟩
      refine hend D C _ s4 mC IX hnC ⟨?_,Nat.ne_of_gt (Nat.lt_of_lt_of_le I2.lt hCle'),Nat.le_trans I2.sz hCle',fun x c e z=>?_,fun p hp z=>?_⟩ (qn D nD)
      · rw [upd_ne (Ne.symm hDC)]
        exact I5.free
      · obtain ⟨v,o,ho,_⟩:=I2.cell x c e
        exact absurd (Nat.lt_of_lt_of_le (Heap.lt_size ho) (z ▸ hCle')) (Nat.lt_irrefl _)
      · exact absurd (Nat.lt_of_lt_of_le (Heap.lt_size (I2.pin p hp).1) (z ▸ hCle')) (Nat.lt_irrefl _)
    · refine thn (T.item (blk X N scope cl C s2 H2 fp) rfl rfl rfl hc i _ s3 σ3 H3 (fun _ _=>False) I3 (stat (nfpP _) fr3) st3 go) fun r s4 ⟨u,hr,h4⟩=>?_
      subst hr
      refine thn h4 fun _ s5 ⟨x,H5,I5,r5,y5,st5,fr5⟩=>?_
      have I5':=I5.pinned (stat (nfpP _) fr5) (T.obj _ _ st5)
      refine thn (bg _ s5 σ3 H5 x u _ I5' r5 (step x H5 y5)) fun _ s6 ⟨σ6,H6,I6,q6⟩=>?_
      refine thn (bt _ s6 σ6 H6 _ I6 q6) fun b s7 ⟨H7,I7,q7⟩=>?_
      have after:∀ {o:Obj}{σ8:L2.St}{H8:Hp}{s8:Shared},Inv (blk X N scope cl C s2 H2 fp) ([(D,o)]++pinsAt fp s5.heap) σ8 H8 s8→tn (i+1) s8.heap∧∀ b∈fp,H8 b=none:=fun {o σ8 H8 s8} I8=>by
        refine ⟨T.keep _ _ _ st5 fun b hb o e=>(I8.pin (b,o) (List.mem_append_right _ (List.mem_append_right _ (mem_pinsAt hb e)))).1,fun b hb=>?_⟩
        obtain ⟨o,e,d⟩:=T.obj _ _ st5 b hb
        exact (I8.pin (b,o) (List.mem_append_right _ (List.mem_append_right _ (mem_pinsAt hb e)))).2.1
      cases b with
      | false =>
        simp only [Bool.false_eq_true,if_false] at q7 ⊢
        obtain ⟨m',hm,w7⟩:=hN acc σ6 H7 q7
        exact ⟨m',hm,i+1,σ6,H7,acc,its,nn,I7.unpinned,rv,(after I7).1,(after I7).2,hz,w7⟩
      | true =>
        simp only [if_true] at q7 ⊢
        refine thn (be _ s7 σ6 H7 _ I7 q7) fun yv s8 ⟨y,H8,I8,r8,q8⟩=>?_
        obtain ⟨eD,nD,_⟩:=I8.pin (D,{ cls:=.type "list",data:=.seq its nn }) (by simp)
        have hl:acc.length=its.size:=by have:=rv.length; simpa using this
        refine wpAny_list_append_plain (hsz:=by omega) ⟨nn,eD⟩ fun h9 ⟨n9,e9⟩ hs9=>?_
        obtain ⟨m',hm,w9⟩:=hN _ _ _ q8
        have J1:Inv (blk X N scope cl C s2 H2 fp) (pinsAt fp s5.heap) σ6 H8 s8:=I8.pins_of fun p hp=>I8.pin p (List.mem_append_right _ (List.mem_append_right _ hp))
        have nc:∀ x c,cl.lookup x=some c→c≠D:=fun x c e z=>by
          obtain ⟨v,o,ho,_⟩:=I2.cell x c (hcl1 x c e)
          exact absurd (Nat.lt_of_lt_of_le (Heap.lt_size ho) (z ▸ hDle)) (Nat.lt_irrefl _)
        have J2:Inv (blk X N scope cl C s2 H2 fp) (pinsAt fp s5.heap) σ6 H8 { s8 with heap:=h9 }:=J1.turned (t':=s8.toks) (fun b o hb e=>hs9.extBut b o hb e) nD hDC (.inr hDle) nc fun p hp z=>by
          have hp':p∈pinsAt fp s5.heap:=by simpa using hp
          exact nfp (z ▸ (of_pinsAt hp').1)
        have J3:Inv (blk X N scope cl C s2 H2 fp) ([(D,{ cls:=.type "list",data:=.seq (its.push yv) n9 })]++pinsAt fp s5.heap) σ6 H8 { s8 with heap:=h9 }:=J2.pins_of fun p hp=>by
          rcases List.mem_append.mp hp with hp | hp
          · have e:p=(D,{ cls:=.type "list",data:=.seq (its.push yv) n9 }):=by simpa using hp
            subst e
            exact ⟨e9,nD,hDC,notY D hDle,fun v z=>by cases z⟩
          · exact J2.pin p (List.mem_append_right _ hp)
        refine ⟨m',hm,i+1,σ6,H8,acc++[y],its.push yv,n9,J3.unpinned,?_,(after J3).1,(after J3).2,by rw [List.length_append,List.length_singleton]; omega,w9⟩
        rw [Array.toList_push]
        exact rv.append (.cons r8 .nil)
  exact codeAny_compStart_list (loop _ rfl) (T.self _ 0 _ _ _ (T.keep _ _ _ st2 fun b _ o e=>old b o e) (loop _ rfl))
theorem pe_comp {elt iter tg:Expr}{ifs:List Expr}{scope:Scope}{pos:Pos}{wi:TI}{g:TG}{tt:TT}{te:TE}(N:List Str) (ix:List (Option Nat)) (hc:X.calm=true) (hkind:scope.kind=.function) (hcell:∀ y∈scope.names,y.2≠.cell)
    (hnames:∀ y∈scope.names,y.2=.local→scope.names.lookup y.1=some .local) (hfree:∀ y∈scope.names,y.2=.free→X.env.kindOf y.1=some .cell∨X.env.kindOf y.1=some .free)
    (hlen:ix.length=N.length) (hcap:∀ (i j:Nat) (x:Str),ix[i]?=some (some j)→N[i]?=some x→X.N[j]?=some x∧scope.names.lookup x=some .free) (hi:PI X tg iter wi)
    (hb:∀ cl C s H fp,PG (blk X N scope cl C s H fp) tg g∧PTs (blk X N scope cl C s H fp) ifs tt∧PE (blk X N scope cl C s H fp) elt te)
    (hs:∀ x,foldedSetIterable iter X.env x=pure x:=by intro _; rfl):PE X (.ListComp elt [⟨tg,iter,ifs,0⟩] scope pos) (tComp wi ix g tt te):=by
  intro pins s σ H Q I h
  rw [eval_ListComp]
  exact comp_run (use:=none) N ix hc hkind hcell hnames hfree hlen hcap hi hb hs I h fun D C H' s4 mC I4 hn G q=>⟨mC,hn,fun h' hs'=>⟨.ref D,H',G.inv I4 hs',rfl,q⟩⟩
theorem ps_comp {i:Nat}{y:Str}{elt iter tg:Expr}{ifs:List Expr}{scope:Scope}{pos py spos:Pos}{wi:TI}{g:TG}{tt:TT}{te:TE}(N:List Str) (ix:List (Option Nat)) (hc:X.calm=true) (hkind:scope.kind=.function) (hcell:∀ y∈scope.names,y.2≠.cell)
    (hnames:∀ y∈scope.names,y.2=.local→scope.names.lookup y.1=some .local) (hfree:∀ y∈scope.names,y.2=.free→X.env.kindOf y.1=some .cell∨X.env.kindOf y.1=some .free)
    (hlen:ix.length=N.length) (hcap:∀ (i j:Nat) (x:Str),ix[i]?=some (some j)→N[i]?=some x→X.N[j]?=some x∧scope.names.lookup x=some .free) (hN:X.N.Nodup) (hin:X.N[i]?=some y) (hy:X.env.scope.names.lookup y=some .local) (hi:PI X tg iter wi)
    (hb:∀ cl C s H fp,PG (blk X N scope cl C s H fp) tg g∧PTs (blk X N scope cl C s H fp) ifs tt∧PE (blk X N scope cl C s H fp) elt te)
    (hsw:swapsWith (.ListComp elt [⟨tg,iter,ifs,0⟩] scope pos) (some (.Name y py)) spos.line X.env=pure true:=by rfl)
    (hs:∀ x,foldedSetIterable iter X.env x=pure x:=by intro _; rfl):PS X (.Assign [.Name y py] (.ListComp elt [⟨tg,iter,ifs,0⟩] scope pos) spos) (tAsg (tComp wi ix g tt te) (gName i)):=by
  intro pins s σ H D I h
  rw [exec_Assign_Name_used _ _ _ _ hsw]
  refine wpAny_bind (wpAny_standAt (wpAny_bind ?_))
  show wpAny _ X.A (do let _ ← comprehension (.ListComp elt [⟨tg,iter,ifs,0⟩] scope pos) scope X.env _ (newList []) false (eval iter X.env) (some (assign (.Name y py) X.env))) _ _ s
  refine wpAny_bind (thn (comp_run (use:=some (assign (.Name y py) X.env)) (Q':=fun _ s'=>SP X pins D .next s') (Q:=fun v H'=>D.nx (σ.set i (some v)) H') N ix hc hkind hcell hnames hfree hlen hcap hi hb hs I h fun Dd C H' s4 mC I4 hn G q=>?_) fun _ s' hq=>wpAny_pure (wpAny_pure hq))
  show wpAny _ X.A (assign (.Name y py) X.env (.ref Dd)) _ _ _
  refine wpAny_assign_Name (store_ok2 (v:=.ref Dd) I4 hN hin (.inl hy) rfl (fun s5 I5 ⟨a,sb,ha⟩=>?_) (.inr hy))
  have hCa:C≠a:=by
    rcases ha with z | z
    · rw [z]; exact G.l
    · exact fun e=>G.c _ _ z e.symm
  exact ⟨mC,hn.sameBut sb hCa,fun h' hs'=>⟨_,H',G.inv I5 hs',q⟩⟩
end
theorem comp_list {K:PySem.W.Frag}{a:Addr}{xs:List V}{g:TG}{tt:TT}{te:TE}{σ:L2.St}{H:Hp}{Q:VK}(Pv:Nat→List V→L2.St→Hp→Prop) (hz:xs.length≤sizeLine) (h0:Pv 0 [] σ H) (hl:∀ i acc σ H,i≤xs.length→Pv i acc σ H→SqL K H a xs)
    (hs:∀ i x acc σ H,xs[i]?=some x→Pv i acc σ H→g x σ H fun σ2 H2=>tt σ2 H2 fun b H3=>if b=true then te σ2 H3 fun y H4=>Pv (i+1) (acc++[y]) σ2 H4 else Pv (i+1) acc σ2 H3)
    (hacc:∀ i acc σ H,Pv i acc σ H→acc.length≤i) (hd:∀ acc σ H,Pv xs.length acc σ H→∀ D,H D=none→Q (.ref D) (upd H D (.lst acc))) :
    ∃ W:Nat→Nat→List V→L2.St→Hp→Prop,(∃ m,W 0 m [] σ H)∧∀ i m acc σ H,W i m acc σ H →
      ((Itl K a).stop i H∧∀ D,H D=none→Q (.ref D) (upd H D (.lst acc))) ∨
      ((Itl K a).go i H∧acc.length < sizeLine∧∃ N:List V→L2.St→Hp→Prop,(∀ acc' σ' H',N acc' σ' H'→∃ m',m' < m∧W (i+1) m' acc' σ' H') ∧
        ∀ x H',(Itl K a).yld i H x H'→g x σ H' fun σ2 H2=>tt σ2 H2 fun b H3=>if b=true then te σ2 H3 fun y H4=>N (acc++[y]) σ2 H4 else N acc σ2 H3):=by
  refine ⟨fun i m acc σ H=>m=xs.length - i∧i≤xs.length∧Pv i acc σ H,⟨xs.length,by simp,Nat.zero_le _,h0⟩,?_⟩
  rintro i m acc σ H ⟨rfl,hi,p⟩
  have q:=hl i acc σ H hi p
  have ha:=hacc i acc σ H p
  by_cases hlt:i < xs.length
  · refine .inr ⟨⟨xs,xs[i],q,by simp [hlt]⟩,by omega,Pv (i+1),fun acc' σ' H' p'=>⟨xs.length - (i+1),by omega,rfl,hlt,p'⟩,fun x H' y=>?_⟩
    obtain ⟨e,y⟩:=y
    subst e
    exact hs i x acc σ _ (y xs q) p
  · have e:i=xs.length:=by omega
    subst e
    exact .inl ⟨⟨xs,q,Nat.le_refl _⟩,hd acc σ H p⟩
theorem comp_range {lo:Int}{n:Nat}{g:TG}{tt:TT}{te:TE}{σ:L2.St}{H:Hp}{Q:VK}(Pv:Nat→List V→L2.St→Hp→Prop) (hz:n≤sizeLine) (h0:Pv 0 [] σ H)
    (hs:∀ i acc σ H,i < n→Pv i acc σ H→g (.int (lo+i)) σ H fun σ2 H2=>tt σ2 H2 fun b H3=>if b=true then te σ2 H3 fun y H4=>Pv (i+1) (acc++[y]) σ2 H4 else Pv (i+1) acc σ2 H3)
    (hacc:∀ i acc σ H,Pv i acc σ H→acc.length≤i) (hd:∀ acc σ H,Pv n acc σ H→∀ D,H D=none→Q (.ref D) (upd H D (.lst acc))) :
    ∃ W:Nat→Nat→List V→L2.St→Hp→Prop,(∃ m,W 0 m [] σ H)∧∀ i m acc σ H,W i m acc σ H →
      ((Itr lo n).stop i H∧∀ D,H D=none→Q (.ref D) (upd H D (.lst acc))) ∨
      ((Itr lo n).go i H∧acc.length < sizeLine∧∃ N:List V→L2.St→Hp→Prop,(∀ acc' σ' H',N acc' σ' H'→∃ m',m' < m∧W (i+1) m' acc' σ' H') ∧
        ∀ x H',(Itr lo n).yld i H x H'→g x σ H' fun σ2 H2=>tt σ2 H2 fun b H3=>if b=true then te σ2 H3 fun y H4=>N (acc++[y]) σ2 H4 else N acc σ2 H3):=by
  refine ⟨fun i m acc σ H=>m=n - i∧i≤n∧Pv i acc σ H,⟨n,by simp,Nat.zero_le _,h0⟩,?_⟩
  rintro i m acc σ H ⟨rfl,hi,p⟩
  have ha:=hacc i acc σ H p
  by_cases hlt:i < n
  · refine .inr ⟨hlt,by omega,Pv (i+1),fun acc' σ' H' p'=>⟨n - (i+1),by omega,rfl,hlt,p'⟩,fun x H' y=>?_⟩
    obtain ⟨e,y⟩:=y
    subst e y
    exact hs i acc σ _ hlt p
  · have e:i=n:=by omega
    subst e
    exact .inl ⟨Nat.le_refl _,hd acc σ H p⟩
def capB (XN:List Str) (scope:Scope):List Str→List (Option Nat)→Bool
  | _,[]=>true
  | [],_=>true
  | _::r,none::s=>capB XN scope r s
  | x::r,some j::s=>decide (XN[j]?=some x) && decide (scope.names.lookup x=some .free) && capB XN scope r s
theorem capB_ok {XN:List Str}{scope:Scope}:∀ {N:List Str}{ix:List (Option Nat)},capB XN scope N ix=true→∀ (i j:Nat) (x:Str),ix[i]?=some (some j)→N[i]?=some x→XN[j]?=some x∧scope.names.lookup x=some .free
  | [],[],_,i,j,x,h1,_=>by simp at h1
  | _::_,[],_,i,j,x,h1,_=>by simp at h1
  | [],_::_,_,i,j,x,_,h2=>by simp at h2
  | y::r,none::s,h,i,j,x,h1,h2=>by
    cases i with
    | zero=>simp at h1
    | succ i=>exact capB_ok (N:=r) (ix:=s) h i j x (by simpa using h1) (by simpa using h2)
  | y::r,some k::s,h,i,j,x,h1,h2=>by
    have h':(decide (XN[k]?=some y) && decide (scope.names.lookup y=some .free) && capB XN scope r s)=true:=h
    rw [Bool.and_eq_true,Bool.and_eq_true,decide_eq_true_eq,decide_eq_true_eq] at h'
    cases i with
    | zero =>
      simp at h1 h2
      subst h1 h2
      exact h'.1
    | succ i=>exact capB_ok h'.2 i j x (by simpa using h1) (by simpa using h2)
def compOk (XN:List Str) (sc scope:Scope) (N:List Str) (ix:List (Option Nat)):Bool :=
  decide (scope.kind=.function) && decide (∀ y∈scope.names,y.2≠.cell) && decide (∀ y∈scope.names,y.2=.local→scope.names.lookup y.1=some .local) &&
    decide (∀ y∈scope.names,y.2=.free→sc.names.lookup y.1=some .cell∨sc.names.lookup y.1=some .free) && decide (ix.length=N.length) && capB XN scope N ix
section
variable {X:Cx}
theorem pe_compB {elt iter tg:Expr}{ifs:List Expr}{scope:Scope}{pos:Pos}{wi:TI}{g:TG}{tt:TT}{te:TE}(N:List Str) (ix:List (Option Nat)) (hc:X.calm=true) (hk:compOk X.N X.env.scope scope N ix=true) (hi:PI X tg iter wi)
    (hb:∀ cl C s H fp,PG (blk X N scope cl C s H fp) tg g∧PTs (blk X N scope cl C s H fp) ifs tt∧PE (blk X N scope cl C s H fp) elt te)
    (hs:∀ x,foldedSetIterable iter X.env x=pure x:=by intro _; rfl):PE X (.ListComp elt [⟨tg,iter,ifs,0⟩] scope pos) (tComp wi ix g tt te):=by
  unfold compOk at hk
  simp only [Bool.and_eq_true,decide_eq_true_eq] at hk
  obtain ⟨⟨⟨⟨⟨h1,h2⟩,h3⟩,h4⟩,h5⟩,h6⟩:=hk
  exact pe_comp N ix hc h1 h2 h3 h4 h5 (capB_ok h6) hi hb hs
theorem ps_compB {i:Nat}{y:Str}{elt iter tg:Expr}{ifs:List Expr}{scope:Scope}{pos py spos:Pos}{wi:TI}{g:TG}{tt:TT}{te:TE}(N:List Str) (ix:List (Option Nat)) (hc:X.calm=true) (hk:compOk X.N X.env.scope scope N ix=true)
    (hN:X.N.Nodup) (hin:X.N[i]?=some y) (hy:X.env.scope.names.lookup y=some .local) (hi:PI X tg iter wi)
    (hb:∀ cl C s H fp,PG (blk X N scope cl C s H fp) tg g∧PTs (blk X N scope cl C s H fp) ifs tt∧PE (blk X N scope cl C s H fp) elt te)
    (hsw:swapsWith (.ListComp elt [⟨tg,iter,ifs,0⟩] scope pos) (some (.Name y py)) spos.line X.env=pure true:=by rfl)
    (hs:∀ x,foldedSetIterable iter X.env x=pure x:=by intro _; rfl):PS X (.Assign [.Name y py] (.ListComp elt [⟨tg,iter,ifs,0⟩] scope pos) spos) (tAsg (tComp wi ix g tt te) (gName i)):=by
  unfold compOk at hk
  simp only [Bool.and_eq_true,decide_eq_true_eq] at hk
  obtain ⟨⟨⟨⟨⟨h1,h2⟩,h3⟩,h4⟩,h5⟩,h6⟩:=hk
  exact ps_comp N ix hc h1 h2 h3 h4 h5 (capB_ok h6) hN hin hy hi hb hsw hs
end
end Bw
set_option Elab.async false
set_option linter.all false
set_option maxRecDepth 100000
set_option maxHeartbeats 1000000
namespace Bw
open PySem PySem.Spec PyProof.Rows L2
section
variable {X:Cx}
theorem ep_str {pins:List (Addr × Obj)}{σ:L2.St}{H:Hp}{s:Shared}{Q:VK}{u:Str}{t:Tok}{k:Nat}(I:Inv X pins σ H s) (q:Q (.str u) H):EP X pins σ Q (.str u t) { s with toks:=k }:=⟨.str u,H,I.tok k,⟨t,rfl⟩,q⟩
def rSlS:V→Option Int→Option Int→Hp→VK→Prop:=fun x lo hi H Q=>∃ u,x=.str u∧u.length≤sizeLine∧Q (.str (Txt.slice u lo hi)) H
theorem sl_str:SlR X rSlS:=by
  intro pins s σ H x v vl vu lo hi sl Q I rx hs pl pu h
  obtain ⟨u,rfl,hz,q⟩:=h
  obtain ⟨t,rfl⟩:=rx
  refine ⟨"str",_,PySem.F.slot_str_getitem.lookup,typeIs_str _ _ _,?_⟩
  obtain ⟨os,hos,hcs,hds⟩:=hs
  cases pl with
  | none =>
    cases pu with
    | none=>exact wpAny_getItem_str_slice (l:=none) (u:=none) (st:=none) ⟨os,hos,hcs,hds⟩ rfl (post_val_or_str ⟨Nat.le_trans (Txt.slice_le u _ _) hz,fun t' k=>ep_str I q⟩)
    | int j tj=>exact wpAny_getItem_str_slice (l:=none) (u:=some (j,tj)) (st:=none) ⟨os,hos,hcs,hds⟩ rfl (post_val_or_str ⟨Nat.le_trans (Txt.slice_le u _ _) hz,fun t' k=>ep_str I q⟩)
  | int i ti =>
    cases pu with
    | none=>exact wpAny_getItem_str_slice (l:=some (i,ti)) (u:=none) (st:=none) ⟨os,hos,hcs,hds⟩ rfl (post_val_or_str ⟨Nat.le_trans (Txt.slice_le u _ _) hz,fun t' k=>ep_str I q⟩)
    | int j tj=>exact wpAny_getItem_str_slice (l:=some (i,ti)) (u:=some (j,tj)) (st:=none) ⟨os,hos,hcs,hds⟩ rfl (post_val_or_str ⟨Nat.le_trans (Txt.slice_le u _ _) hz,fun t' k=>ep_str I q⟩)
def rJoin:V→List V→Hp→VK→Prop:=fun x xs H Q=>∃ u l ts,x=.str u∧xs=[.ref l]∧H l=some (.lst (ts.map V.str))∧JoinOk u ts=true∧Q (.str (Txt.join u ts)) H
theorem vals_str:∀ {ts:List Str}{us:List Value},Vals (ts.map V.str) us→∃ l:List (Str × Tok),us=strValues l∧l.map (·.1)=ts
  | [],_,r=>by
    rw [List.map_nil] at r
    cases r
    exact ⟨[],rfl,rfl⟩
  | a::ts,_,r=>by
    rw [List.map_cons] at r
    cases r with
    | cons r1 r2 =>
      obtain ⟨t,rfl⟩:=r1
      obtain ⟨l,rfl,e⟩:=vals_str r2
      exact ⟨(a,t)::l,rfl,by rw [List.map_cons,e]⟩
theorem mt_join:MtR X "str.join" rJoin:=by
  intro pins s σ H x xs v us Q I rx rv h
  obtain ⟨u,l,ts,rfl,rfl,hl,hz,q⟩:=h
  obtain ⟨t,rfl⟩:=rx
  cases rv with
  | cons r1 r2 =>
    cases r2
    cases r1
    obtain ⟨_,its,n,r,e⟩:=I.hok l _ hl
    obtain ⟨ll,rfl,e2⟩:=vals_str r
    exact SC.join (D:=l) (l:=ll) ⟨_,e,rfl,n,rfl⟩ e2 hz fun t' k=>ep_str I q
end
end Bw
set_option Elab.async false
set_option linter.all false
set_option maxRecDepth 100000
set_option maxHeartbeats 1000000
namespace Bw
open PySem PySem.Spec PyProof.Rows L2
section
variable {K:PySem.W.Frag}{ta te:TE}{tr:TA}{wi:TI}{ix:List (Option Nat)}{g:TG}{tt:TT}{σ:L2.St}{H:Hp}{Q:VK}{QB:Bool→Hp→Prop}
def CompL (K:PySem.W.Frag) (a:Addr) (g:TG) (tt:TT) (te:TE) (Q:VK) (σ:L2.St) (H:Hp):Prop:=∃ W:Nat→Nat→List V→L2.St→Hp→Prop,(∃ m,W 0 m [] σ H)∧∀ i m acc σ H,W i m acc σ H →
  ((Itl K a).stop i H∧∀ D,H D=none→Q (.ref D) (L2.upd H D (.lst acc))) ∨
  ((Itl K a).go i H∧acc.length < sizeLine∧∃ N:List V→L2.St→Hp→Prop,(∀ acc' σ' H',N acc' σ' H'→∃ m',m' < m∧W (i+1) m' acc' σ' H') ∧
    ∀ x H',(Itl K a).yld i H x H'→g x σ H' fun σ2 H2=>tt σ2 H2 fun b H3=>if b=true then te σ2 H3 fun y H4=>N (acc++[y]) σ2 H4 else N acc σ2 H3)
def CompR (lo:Int) (n:Nat) (g:TG) (tt:TT) (te:TE) (Q:VK) (σ:L2.St) (H:Hp):Prop:=∃ W:Nat→Nat→List V→L2.St→Hp→Prop,(∃ m,W 0 m [] σ H)∧∀ i m acc σ H,W i m acc σ H →
  ((Itr lo n).stop i H∧∀ D,H D=none→Q (.ref D) (L2.upd H D (.lst acc))) ∨
  ((Itr lo n).go i H∧acc.length < sizeLine∧∃ N:List V→L2.St→Hp→Prop,(∀ acc' σ' H',N acc' σ' H'→∃ m',m' < m∧W (i+1) m' acc' σ' H') ∧
    ∀ x H',(Itr lo n).yld i H x H'→g x σ H' fun σ2 H2=>tt σ2 H2 fun b H3=>if b=true then te σ2 H3 fun y H4=>N (acc++[y]) σ2 H4 else N acc σ2 H3)
theorem w_compL:tComp (iList K ta) ix g tt te σ H Q=ta σ H (fun x H1=>∃ a,x=.ref a∧(∃ xs,SqL K H1 a xs)∧CompL K a g tt te Q (pick ix σ) H1):=rfl
theorem w_comp1:tComp (iRng1 tr) ix g tt te σ H Q=tr σ H (fun vs H1=>∃ j:Int,vs=[.int j]∧-(2 ^ 62)≤j∧j < 2 ^ 62∧CompR 0 j.toNat g tt te Q (pick ix σ) H1):=rfl
theorem w_comp2:tComp (iRng2 tr) ix g tt te σ H Q=tr σ H (fun vs H1=>∃ i j:Int,vs=[.int i,.int j]∧(-(2 ^ 62)≤i∧i < 2 ^ 62∧-(2 ^ 62)≤j∧j < 2 ^ 62)∧CompR i (j - i).toNat g tt te Q (pick ix σ) H1):=rfl
theorem w_yes:tYes σ H QB=QB true H:=rfl
theorem w_pick0:pick [] σ=[]:=rfl
theorem w_pickN:pick (none::ix) σ=none::pick ix σ:=rfl
theorem w_pickS {j:Nat}:pick (some j::ix) σ=((σ[j]?).getD none)::pick ix σ:=rfl
theorem w_bm {T:String}{r:V→List V→Hp→VK→Prop}:tBM K T r ta tr σ H Q=ta σ H (fun x H1=>tyV K T x H1∧tr σ H1 (fun xs H2=>r x xs H2 Q)):=rfl
theorem w_bm0 {T:String}{r:V→List V→Hp→VK→Prop}:tBM0 K T r ta σ H Q=ta σ H (fun x H1=>tyV K T x H1∧r x [] H1 Q):=rfl
theorem w_tyS {u:Str}:tyV K "str" (.str u) H=True:=by simp [tyV]
theorem w_addS {u v:Str}:(∃ i j,V.str u=.str i∧V.str v=.str j∧i.length+j.length≤sizeLine∧Q (.str (i++j)) H)=(u.length+v.length≤sizeLine∧Q (.str (u++v)) H):=by simp
theorem w_slS {u:Str}{lo hi:Option Int}:rSlS (.str u) lo hi H Q=(u.length≤sizeLine∧Q (.str (Txt.slice u lo hi)) H):=by simp [rSlS]
theorem w_blkK {X:Cx}{N:List Str}{scope:Scope}{cl:List (Str × Addr)}{C:Addr}{s:Shared}{fp:List Addr}:(blk X N scope cl C s H fp).K=X.K:=rfl
theorem CompL.by {a:Addr}{xs:List V}(Pv:Nat→List V→L2.St→Hp→Prop) (hz:xs.length≤sizeLine) (h0:Pv 0 [] σ H) (hl:∀ i acc σ H,i≤xs.length→Pv i acc σ H→SqL K H a xs)
    (hs:∀ i x acc σ H,xs[i]?=some x→Pv i acc σ H→g x σ H fun σ2 H2=>tt σ2 H2 fun b H3=>if b=true then te σ2 H3 fun y H4=>Pv (i+1) (acc++[y]) σ2 H4 else Pv (i+1) acc σ2 H3)
    (hacc:∀ i acc σ H,Pv i acc σ H→acc.length≤i) (hd:∀ acc σ H,Pv xs.length acc σ H→∀ D,H D=none→Q (.ref D) (L2.upd H D (.lst acc))):CompL K a g tt te Q σ H:=comp_list Pv hz h0 hl hs hacc hd
theorem CompR.by {lo:Int}{n:Nat}(Pv:Nat→List V→L2.St→Hp→Prop) (hz:n≤sizeLine) (h0:Pv 0 [] σ H)
    (hs:∀ i acc σ H,i < n→Pv i acc σ H→g (.int (lo+i)) σ H fun σ2 H2=>tt σ2 H2 fun b H3=>if b=true then te σ2 H3 fun y H4=>Pv (i+1) (acc++[y]) σ2 H4 else Pv (i+1) acc σ2 H3)
    (hacc:∀ i acc σ H,Pv i acc σ H→acc.length≤i) (hd:∀ acc σ H,Pv n acc σ H→∀ D,H D=none→Q (.ref D) (L2.upd H D (.lst acc))):CompR lo n g tt te Q σ H:=comp_range Pv hz h0 hs hacc hd
theorem ixs {u:Str}{k:Int}{c:Nat}(hz:u.length≤sizeLine) (hv:atI u.cps.toList k=some c) (q:Q (.str ⟨#[c]⟩) H):rIxS (.str u) (.int k) H Q:=⟨u,k,c,rfl,rfl,hz,hv,q⟩
end
theorem gl_of {X:Cx}{x:Str}(h:X.env.kindOf x=some .globalImplicit):Gl X x:=h
def tStrs (xs:List Str):TA:=fun _ H Q=>Q (xs.map V.str) H
theorem w_strs {xs:List Str}{σ:L2.St}{H:Hp}{Q:List V→Hp→Prop}:tStrs xs σ H Q=Q (xs.map V.str) H:=rfl
def Well3 (H:Hp) (w:Addr):Prop:=∃ a b c:Int,H w=some (.lst [.int a,.int b,.int c])
theorem Well3.same {H H':Hp}{w:Addr}(W:Well3 H w) (s:Same H H'):Well3 H' w:=by
  obtain ⟨a,b,c,h⟩:=W
  exact ⟨a,b,c,s _ _ h⟩
theorem Well3.ne {H:Hp}{w p:Addr}(W:Well3 H w) (h:H p=none):p≠w:=by
  obtain ⟨a,b,c,e⟩:=W
  exact (ne_of_none e h).symm
def goodN (u:Str):Prop:=1≤u.length∧u.length≤8∧∀ c∈u.cps.toList,97≤c∧c≤122
instance (u:Str):Decidable (goodN u):=by unfold goodN; infer_instance
def letters:Str:="abcdefghijklmnopqrstuvwxyz"
theorem letter_at {i:Int}(h0:0≤i) (h1:i < 26):∃ c,atI letters.cps.toList i=some c∧97≤c∧c≤122:=by
  have h:∀ k:Fin 26,∃ c,c < 123∧atI letters.cps.toList ((k.val:Nat):Int)=some c∧97≤c∧c≤122:=by
    intro k
    refine ⟨97+k.val,?_⟩
    revert k
    decide +kernel
  obtain ⟨c,_,e,q⟩:=h ⟨i.toNat,by omega⟩
  have e2:((i.toNat:Nat):Int)=i:=by omega
  rw [e2] at e
  exact ⟨c,e,q⟩
def w8:Str:="bcdefghi"
def axz:Str:="axz"
theorem way_len {r:Int}(h0:0≤r) (h1:r < 8):(Txt.slice w8 none (some (1+r))).length=(r+1).toNat:=by
  have h:∀ k:Fin 8,(Txt.slice w8 none (some (1+((k.val:Nat):Int)))).length=k.val+1:=by decide +kernel
  have q:=h ⟨r.toNat,by omega⟩
  have e2:((r.toNat:Nat):Int)=r:=by omega
  rw [e2] at q
  rw [q]
  show r.toNat+1=(r+1).toNat
  omega
theorem way_good {r a k:Int}(h0:0≤r) (h1:r < 8) (a0:0≤a) (a1:a < r+1) (k0:0≤k) (k1:k < 3):∃ c,atI axz.cps.toList k=some c ∧
    goodN (Txt.slice (Txt.slice w8 none (some (1+r))) none (some a)++⟨#[c]⟩++Txt.slice (Txt.slice w8 none (some (1+r))) (some (a+1)) none):=by
  have h:∀ (r a:Fin 8) (k:Fin 3),a.val < r.val+1→∃ c∈[97,120,122],atI axz.cps.toList ((k.val:Nat):Int)=some c ∧
    goodN (Txt.slice (Txt.slice w8 none (some (1+((r.val:Nat):Int)))) none (some ((a.val:Nat):Int))++⟨#[c]⟩++Txt.slice (Txt.slice w8 none (some (1+((r.val:Nat):Int)))) (some (((a.val:Nat):Int)+1)) none):=by decide +kernel
  obtain ⟨c,_,q⟩:=h ⟨r.toNat,by omega⟩ ⟨a.toNat,by omega⟩ ⟨k.toNat,by omega⟩ (by show a.toNat < r.toNat+1; omega)
  have e1:((r.toNat:Nat):Int)=r:=by omega
  have e2:((a.toNat:Nat):Int)=a:=by omega
  have e3:((k.toNat:Nat):Int)=k:=by omega
  rw [e1,e2,e3] at q
  exact ⟨c,q⟩
theorem slice_le8 (u:Str) (h:u.length≤8) (l r:Option Int):(Txt.slice u l r).length≤8:=Nat.le_trans (Txt.slice_le u l r) h
theorem join_one:∀ ts:List Str,(∀ t∈ts,∃ c,t=⟨#[c]⟩∧97≤c∧c≤122)→(Str.join Str.empty ts).length=ts.length∧∀ c∈(Str.join Str.empty ts).cps.toList,97≤c∧c≤122
  | [],_=>⟨rfl,fun c hc=>by cases hc⟩
  | [x],h=>by
    obtain ⟨c,rfl,q⟩:=h x List.mem_cons_self
    refine ⟨rfl,fun c' hc=>?_⟩
    have e:c'=c:=by simpa [Str.join] using hc
    subst e
    exact q
  | x::y::r,h=>by
    obtain ⟨i1,i2⟩:=join_one (y::r) fun t ht=>h t (List.mem_cons_of_mem _ ht)
    obtain ⟨c,rfl,q⟩:=h x List.mem_cons_self
    show ((⟨#[c]⟩:Str)++Str.empty++Str.join Str.empty (y::r)).length=_∧∀ c'∈((⟨#[c]⟩:Str)++Str.empty++Str.join Str.empty (y::r)).cps.toList,_
    refine ⟨?_,fun c' hc=>?_⟩
    · rw [Str.length_append,Str.length_append,i1]
      show 1+0+(y::r).length=(y::r).length+1
      omega
    · have hc':c'∈((#[c]++#[])++(Str.join Str.empty (y::r)).cps).toList:=hc
      rw [Array.toList_append] at hc'
      rcases List.mem_append.mp hc' with z | z
      · have e:c'=c:=by simpa using z
        subst e
        exact q
      · exact i2 c' z
theorem join_good {ts:List Str}(h:∀ t∈ts,∃ c,t=⟨#[c]⟩∧97≤c∧c≤122) (h1:1≤ts.length) (h8:ts.length≤8):JoinOk Str.empty ts=true∧goodN (Txt.join Str.empty ts):=by
  obtain ⟨i1,i2⟩:=join_one ts h
  have hj:Txt.join Str.empty ts=Str.join Str.empty ts:=StrLaws.glued_eq_join _ _
  refine ⟨?_,?_⟩
  · unfold JoinOk Builtin.Str.tooLong
    rw [StrLaws.joinTotal]
    have hs:∀ l:List Str,(∀ t∈l,∃ c,t=⟨#[c]⟩∧97≤c∧c≤122)→(l.map (·.length)).sum=l.length:=by
      intro l
      induction l with
      | nil=>intro _; rfl
      | cons x r ih =>
        intro hl
        obtain ⟨c,rfl,_⟩:=hl x List.mem_cons_self
        rw [List.map_cons,List.sum_cons,ih fun t ht=>hl t (List.mem_cons_of_mem _ ht),List.length_cons]
        show 1+r.length=r.length+1
        omega
    rw [hs ts h]
    have e:Str.empty.length=0:=rfl
    rw [e]
    have z:(1000:Nat) < sizeLine:=by decide
    rw [Bool.not_eq_true',decide_eq_false_iff_not]
    omega
  · rw [hj]
    exact ⟨by omega,by omega,i2⟩
end Bw
set_option Elab.async false
set_option linter.all false
set_option maxRecDepth 100000
set_option maxHeartbeats 1000000
namespace Bw
open PySem PySem.Spec PyProof.Rows L2
structure CalC (P:Program) (w:World) (K:PySem.W.Frag) (mg:Str→Option Value) (base:Heap) (x:Str) (C:Addr) (ps:List Str) (k:Nat) (sp:Sp):Prop where
  ex:∃ f fd,FnOk P w K mg base (CXF P w) k f fd ps sp∧Binds K fd ps []∧Mk K C f∧mg x=some (.ref C)
structure CalM (P:Program) (w:World) (K:PySem.W.Frag) (mg:Str→Option Value) (base:Heap) (C:Addr) (m:Str) (ps:List Str) (k:Nat) (sp:Sp):Prop where
  ex:∃ f fd,FnOk P w K mg base (CXF P w) k f fd ps sp∧Binds K fd ps []∧Meth K C m f∧Cls K C
section
variable {X:Cx}{x m:Str}{C:Addr}{ps:List Str}{k:Nat}{sp:Sp}{e o:Expr}{es:List Expr}{ta:TE}{t:TA}{p pos apos:Pos}{E:XK}
theorem pe_mak (c:CalC X.prog X.w X.K X.mg X.base x C ps k sp) (hx:Passes (CXF X.prog X.w) X E) (hr:Room (k+1) X.A) (hg:Gl X x) (ha:PA X (e::es) t)
    (hdb:(x == ("__debug__":Str))=false:=by decide) (he:starEach (e::es) X.env=(false,eval e X.env)::starEach es X.env:=by rfl) (hpl:(backTo pos (starEach es X.env)).any (·.1)=false:=by rfl) :
    PE X (.Call (.Name x p) (e::es) [] pos) (tMake C sp [] E t):=by
  obtain ⟨f,fd,F,b,M,hm⟩:=c.ex
  exact pe_make M F hr hg hm b .nil hx ha hdb he hpl
def tMethD (Mm:Addr→Sp→Prop) (m:Str) (E:XK) (ta:TE) (t:TA):TE:=fun σ H Q=>ta σ H fun x H1=>∃ a C dx fs sp,x=.ref a∧H1 a=some (.ins C dx fs)∧fs.lookup m=none∧Mm C sp ∧
  t σ H1 fun vs H2=>sp (x::vs) H2 Q E
theorem w_methD {Mm:Addr→Sp→Prop}{σ:L2.St}{H:Hp}{Q:VK}:tMethD Mm m E ta t σ H Q=ta σ H (fun x H1=>∃ a C dx fs sp,x=.ref a∧H1 a=some (.ins C dx fs)∧fs.lookup m=none∧Mm C sp ∧
  t σ H1 fun vs H2=>sp (x::vs) H2 Q E):=rfl
theorem pe_methD {pl:Sem Bool}{Mm:Addr→Sp→Prop}(he:PE X o ta) (hM:∀ C sp,Mm C sp→CalM X.prog X.w X.K X.mg X.base C m ps k sp) (hx:Passes (CXF X.prog X.w) X E) (hr:Room k X.A) (ha:PA X (e::es) t)
    (hst:starEach (e::es) X.env=(false,eval e X.env)::starEach es X.env:=by rfl) (hpl:(backTo pos (starEach es X.env)).any (·.1)=false:=by rfl)
    (ht:eval (.Call (.Attribute o m apos) (e::es) [] pos) X.env=(do
      let ov ← eval o X.env
      standAt apos.atName
      let (f,first) ← holding [ov] (getMethod ov m pl)
      callWith pos f first (backTo pos (starEach (e::es) X.env)) (backToKw pos (keywordEach [] X.env))):=by rfl) :
    PE X (.Call (.Attribute o m apos) (e::es) [] pos) (tMethD Mm m E ta t):=by
  intro pins s σ H Q I h
  refine PySem.W.methodCall_KW (pl:=pl) (thn (he pins s σ H _ I h) fun u s1 ⟨x,H1,I1,rx,a,C,dx,fs,sp,ex,ea,l,hC,q⟩=>?_) ht
  subst ex
  obtain rfl:u=Value.ref a:=rx
  obtain ⟨f,fd,F,b,hm,c⟩:=(hM C sp hC).ex
  refine getmeth_ok I1 ea c hm l ?_
  refine PySem.W.callWith_K (first:=[.ref a]) (h₀:=X.base) I.ok.mod.kin hm.kp (thn (ha pos pins s1 σ H1 _ I1 q) fun us s2 ⟨vs,H2,I2,r,q2⟩=>⟨I2.kIn,?_⟩) hst hpl
  refine run_fn (us:=.ref a::us) (vs:=.ref a::vs) F hr b .nil hx I2 (.cons rfl r) ?_
  rw [List.append_nil]
  exact q2
structure MkN (K:PySem.W.Frag) (C:Addr):Prop where
  makes:PySem.W.makesIn K C=true
  init:PySem.W.findIn K (.ref C) "__init__"=some (some (.builtin "object.__init__"))
  kp:PySem.W.keepIn K (.ref C)=true
def tMakeN (C:Addr):TE:=fun _ H Q=>∀ x dx,H x=none→H dx=none→dx≠x→Q (.ref x) (L2.upd (L2.upd H dx (.own x)) x (.ins C dx []))
theorem w_makeN {σ:L2.St}{H:Hp}{Q:VK}:tMakeN C σ H Q=∀ x dx,H x=none→H dx=none→dx≠x→Q (.ref x) (L2.upd (L2.upd H dx (.own x)) x (.ins C dx [])):=rfl
theorem pe_makN (M:MkN X.K C) (hg:Gl X x) (hm:X.mg x=some (.ref C)) (hdb:(x == ("__debug__":Str))=false:=by decide):PE X (.Call (.Name x p) [] [] pos) (tMakeN C):=by
  intro pins s σ H Q I h
  refine wpAny_Call_Name_kw (ld_glob I hg hm ?_ hdb)
  refine PySem.W.callWith_K0 I.kIn M.kp ?_
  have hq:=h (s.heap.objs.size+1) s.heap.objs.size (I.hok.fresh (Nat.le_succ _)) (I.hok.fresh (Nat.le_refl _)) (Nat.ne_of_lt (Nat.lt_succ_self _))
  have I2:=Inv.made (C:=C) I
  have Y:=PySem.W.makes_of (M:=model X.prog X.w) I.kIn M.makes
  refine wpAny_call (make_map0 I.kIn M.makes M.init (fun self=>PySem.W.Looks.of_pure (PySem.W.oi_bind self)) ?_)
  obtain ⟨hh,g,d,tt,os⟩:=s
  have t1:PySem.W.Looks (model X.prog X.w) ((hh.push PySem.W.emptyDict).push (PySem.W.instObj C hh.objs.size)) (typeOf (.ref (hh.objs.size+1))) (.ref C):=by
    obtain ⟨mA,O,_⟩:=ins_get (a:=hh.objs.size+1) (C:=C) (dx:=hh.objs.size) (fs:=[]) I2.hok upd_same
    obtain ⟨od,J,_⟩:=O.look
    exact J.type
  have t2:PySem.W.Looks (model X.prog X.w) ((hh.push PySem.W.emptyDict).push (PySem.W.instObj C hh.objs.size)) (isInstance (.ref (hh.objs.size+1)) (.type "object")) true :=
    t1.andThen (Y.top.keeps fun b o e=>Heap.get?_push_of_some _ (Heap.get?_push_of_some _ e))
  refine codeAny_call_builtin PySem.W.oi_plain PySem.W.entry_oi (@PySem.W.check_slot (model X.prog X.w) _ _ _ "object.__init__" "object" "__init__" (.ref (hh.objs.size+1)) [] [] _ PySem.W.oi_kind PySem.W.oi_split t2 (PySem.W.oi_args (.ref (hh.objs.size+1))) ?_)
  rw [PySem.W.oi_run]
  exact wpAny_pure (And.intro rfl ⟨V.ref (hh.objs.size+1),_,I2,rfl,hq⟩)
end
def rIsiV (K:PySem.W.Frag):List V→Hp→VK→Prop:=fun xs H Q=>∃ (x:V) (c:Addr) (t:Value) (b:Bool),xs=[x,.ref c]∧TyOf K H x t∧PySem.W.kitOne K t (.ref c)=some b∧Q (.bl b) H
theorem call_isiV {X:Cx}:CallR X (.builtin "isinstance") (rIsiV X.K):=by
  intro pins s σ H xs us Q I r h
  obtain ⟨x,c,t,b,rfl,ty,e,q⟩:=h
  obtain ⟨u,w',rfl,rx,rc⟩:=vals2 r
  cases (show w'=Value.ref c from rc)
  exact isinst_ok I rx ty e fun tk=>⟨.bl b,H,I.tok _,rfl,q⟩
section
variable {X:Cx}
end
section
variable {K:PySem.W.Frag}{C:Addr}{sp:Sp}{dvs:List V}{E:XK}{ta tv:TE}{t:TA}{f:Str}{σ:L2.St}{H:Hp}{Q:VK}{D:Ends}{n:Nat}{ts:TGs}{v:V}{QS:L2.St→Hp→Prop}{g:TG}
theorem w_make:tMake C sp dvs E t σ H Q=t σ H (fun vs H1=>∀ x dx,H1 x=none→H1 dx=none→dx≠x →
  sp (.ref x::(vs++dvs)) (L2.upd (L2.upd H1 dx (.own x)) x (.ins C dx [])) (fun v H2=>v=.non∧Q (.ref x) H2) E):=rfl
theorem w_fld:tFld K ta f σ H Q=ta σ H (fun x H1=>∃ a C dx fs v,x=.ref a∧H1 a=some (.ins C dx fs)∧Cls K C∧NoAttr K C f∧fs.lookup f=some v∧Q v H1):=rfl
theorem w_gTup:gTup K n ts v σ H QS=∃ a xs,v=.ref a∧SqT K H a xs∧xs.length=n∧ts xs σ H QS:=rfl
theorem w_gCons {vs:List V}:gCons g ts vs σ H QS=∃ v r,vs=v::r∧g v σ H (fun σ' H'=>ts r σ' H' QS):=rfl
theorem w_sFld:sFld K ta tv f D σ H=tv σ H (fun y H1=>ta σ H1 (fun x H2=>∃ a C dx fs,x=.ref a∧H2 a=some (.ins C dx fs)∧Cls K C∧NoAttr K C f∧fs.length < 1000 ∧
  D.nx σ (L2.upd H2 a (.ins C dx (putF f y fs))))):=rfl
theorem w_gNil {vs:List V}:gNil vs σ H QS=(vs=[]∧QS σ H):=rfl
end
end Bw
namespace Bw
open PySem PySem.Spec PyProof.Rows L2
section
variable {X:Cx}{x:Str}{ps:List Str}{k:Nat}{sp:Sp}{p pos:Pos}
end
theorem FnOk.lift {P:Program}{w:World}{K:PySem.W.Frag}{mg:Str→Option Value}{base:Heap}{CX:CXT}{j k:Nat}{f:Addr}{fd:FuncData}{ps:List Str}{sp:Sp}(F:FnOk P w K mg base CX j f fd ps sp) (h:j≤k):FnOk P w K mg base CX k f fd ps sp :=
  ⟨F.len,fun A outer s H args us vs Q E hr he hb hv hs=>F.run A outer s H args us vs Q E (hr.mono h) he hb hv hs⟩
theorem made_same {H:Hp}{x dx:Addr}{o o':HO}(hx:H x=none) (hd:H dx=none):Same H (L2.upd (L2.upd H dx o) x o'):=fun b u q=>by
  rw [upd_ne (ne_of_none q hx),upd_ne (ne_of_none q hd)]
  exact q
structure ClsK (K:PySem.W.Frag) (C:Addr):Prop where
  cl:Cls K C
  ha:PySem.W.findIn K (.ref C) "__class__"=some (some (.builtin "object.__class__"))
  hn:PySem.W.specialIn K (.builtin "object.__class__") "__get__"=some (some (.builtin "getset_descriptor.__get__"))
  ht:PySem.W.takesIn K (.builtin "object.__class__")=some true
  hm:PySem.W.mroIn K C (.type "object")=some true
theorem ClsK.ty {K:PySem.W.Frag}{C:Addr}(c:ClsK K C) {H:Hp}{a dx:Addr}{fs:List (Str × V)}(e:H a=some (.ins C dx fs)):TyOf K H (.ref a) (.ref C):=.ins e c.cl c.ha c.hn c.ht c.hm
theorem isiV_at {X:Cx}{K:PySem.W.Frag}(hK:X.K=K):CallR X (.builtin "isinstance") (rIsiV K):=by
  subst hK
  exact call_isiV
end Bw
set_option Elab.async false
set_option linter.all false
set_option maxRecDepth 100000
set_option maxHeartbeats 1000000
namespace Bw
open PySem PySem.Spec PyProof.Rows L2
def isStar:Expr→Bool
  | .Starred _ _=>true
  | _=>false
theorem star_plain:∀ (e:Expr) (es:List Expr) (env:Env),isStar e=false→starEach (e::es) env=(false,eval e env)::starEach es env:=by
  intro e es env h
  cases e <;> first | rfl | (cases h)
def noStar:List Expr→Bool
  | []=>true
  | e::r=>!isStar e && noStar r
theorem plain_any {pos:Pos}{env:Env}:∀ {es:List Expr},noStar es=true→(backTo pos (starEach es env)).any (·.1)=false
  | [],_=>rfl
  | e::r,h=>by
    have h':(!isStar e)=true∧noStar r=true:=by simpa [noStar] using h
    rw [star_plain e r env (by simpa using h'.1)]
    have ih:=plain_any (pos:=pos) (env:=env) h'.2
    have e1:backTo pos ((false,eval e env)::starEach r env)=(false,eval e env)::backTo pos (starEach r env):=rfl
    rw [e1,List.any_cons,ih]
    rfl
theorem pa_c {X:Cx}{e:Expr}{es:List Expr}{te:TE}{t:TA}(ha:PE X e te) (hr:PA X es t) (hs:isStar e=false:=by rfl):PA X (e::es) (tCons te t):=pa_cons ha hr (star_plain e es X.env hs)
structure QA (X:Cx) (es:List Expr) (t:TA):Prop where
  h:PA X es t
theorem qa_nil {X:Cx}:QA X [] tNil:=⟨pa_nil⟩
theorem qa_c {X:Cx}{e:Expr}{es:List Expr}{te:TE}{t:TA}(ha:PE X e te) (hr:QA X es t) (hs:isStar e=false:=by rfl):QA X (e::es) (tCons te t):=⟨pa_c ha hr.h hs⟩
theorem pa_of {X:Cx}{es:List Expr}{t:TA}(h:QA X es t):PA X es t:=h.h
end Bw
set_option Elab.async false
set_option linter.all false
set_option maxRecDepth 100000
set_option maxHeartbeats 1000000
namespace Bw
open PySem PySem.Spec PyProof.Rows L2
def wholeV:V→Bool
  | .int _=>true
  | _=>false
def betwV (x:V) (lo hi:Int):Bool:=match x with
  | .int i=>decide (lo≤i) && decide (i≤hi)
  | _=>false
def fromV (x:V) (lo:Int):Bool:=match x with
  | .int i=>decide (lo≤i)
  | _=>false
theorem okV.same {H H':Hp}{x:V}(h:okV H x) (s:Same H H'):okV H' x:=by
  cases x with
  | ref a =>
    rcases h with ⟨xs,e⟩ | ⟨xs,e⟩
    · exact .inl ⟨xs,s _ _ e⟩
    · exact .inr ⟨xs,s _ _ e⟩
  | non=>trivial
  | bl _=>trivial
  | int _=>trivial
  | str _=>trivial
  | _=>exact h.elim
theorem okV.but3 {H H':Hp}{x:V}{w:Addr}(h:okV H x) (W:Well3 H' w) (s:But w H H'):okV H' x:=by
  cases x with
  | ref a =>
    by_cases ha:a=w
    · obtain ⟨b,c,d,q⟩:=W
      exact .inl ⟨_,by rw [ha]; exact q⟩
    · rcases h with ⟨xs,e⟩ | ⟨xs,e⟩
      · exact .inl ⟨xs,s _ _ ha e⟩
      · exact .inr ⟨xs,s _ _ ha e⟩
  | non=>trivial
  | bl _=>trivial
  | int _=>trivial
  | str _=>trivial
  | _=>exact h.elim
theorem okV.lst {H:Hp}{p:Addr}{xs:List V}(h:H p=some (.lst xs)):okV H (.ref p):=.inl ⟨_,h⟩
theorem okV.tup {H:Hp}{p:Addr}{xs:List V}(h:H p=some (.tup xs)):okV H (.ref p):=.inr ⟨_,h⟩
def tCut (t u:TS):TS:=fun D σ H=>∃ M:L2.St→Hp→Prop,t { D with nx:=M } σ H∧∀ σ' H',M σ' H'→u D σ' H'
theorem w_cut {t u:TS}{D:Ends}{σ:L2.St}{H:Hp}:tCut t u D σ H=∃ M:L2.St→Hp→Prop,t { D with nx:=M } σ H∧∀ σ' H',M σ' H'→u D σ' H':=rfl
theorem pss_cut {X:Cx}{st:Stmt}{rest:List Stmt}{t u:TS}(h1:PS X st t) (h2:PSs X rest u):PSs X (st::rest) (tCut t u):=by
  intro pins s σ H D I h
  obtain ⟨M,ha,hb⟩:=h
  refine wpAny_execs_cons (thn (h1 pins s σ H { D with nx:=M } I ha) fun f s1 q=>?_)
  cases f with
  | next =>
    obtain ⟨σ',H',I',q⟩:=q
    exact h2 pins s1 σ' H' D I' (hb _ _ q)
  | ret v=>exact q
  | brk=>exact q
  | cont=>exact q
end Bw
set_option Elab.async false
set_option linter.all false
set_option maxRecDepth 100000
set_option maxHeartbeats 1000000
namespace Bw
open PySem PySem.Spec PyProof.Rows L2
def plainS (u:Str):Bool:=u.cps.all (· < 128)
def Its (u:Str):It:=⟨fun i _=>i < u.cps.size,fun i H x H'=>H'=H∧∃ c,u.cps[i]?=some c∧x=.str ⟨#[c]⟩,fun i _=>u.cps.size≤i⟩
theorem turn_str {P:Program}{w:World}{K:PySem.W.Frag}{tg:Expr}(u:Str) (t:Tok) (it:Addr):Turn P w K tg (Its u) [it] it (fun i h=>h.IsStrIter it "str_ascii_iterator" u t i) where
  mem:=by simp
  obj:=fun i h st b hb=>by
    have e:b=it:=by simpa using hb
    subst e
    obtain ⟨o,e,c,d⟩:=st
    exact ⟨o,e,fun v z=>by rw [d] at z; cases z⟩
  keep:=fun i h h' st k=>by
    obtain ⟨o,e,c,d⟩:=st
    exact ⟨o,k it (by simp) o e,c,d⟩
  item:=by
    intro X hP hw hK hc i pins s σ H E I hf st hg
    subst hP hw hK
    have hx:u.cps[i]?=some u.cps[i]:=Array.getElem?_eq_getElem hg
    obtain ⟨f0,f1,f2,f3,f4,f5⟩:=hf it (by simp)
    refine wpAny_pyNext_ascii_item st hx fun h' st' sb=>?_
    have I1:Inv X pins σ H { s with heap:=h',toks:=s.toks+1 }:=I.turned (t':=s.toks+1) (fun b o hb e=>(sb.2 b hb).trans e) f0 f1 f3 f4 f5
    obtain ⟨o,e,c,d⟩:=id st'
    exact ⟨_,rfl,go_of (s:={ s with heap:=h',toks:=s.toks+1 }) e c d (by decide) ⟨.str ⟨#[u.cps[i]]⟩,H,I1,⟨_,rfl⟩,⟨rfl,_,hx,rfl⟩,st',fun b hb=>(hf b hb).1⟩⟩
  done:=by
    intro X hP hw hK hc i pins s σ H E I hf st hg
    subst hP hw hK
    obtain ⟨f0,f1,f2,f3,f4,f5⟩:=hf it (by simp)
    exact wpAny_pyNext_ascii_end (I.ok.hd hc) st (Array.getElem?_eq_none hg) fun h' eb=>⟨rfl,I.turned (t':=s.toks) (fun b o hb e=>eb b o hb e) f0 f1 f3 f4 f5⟩
  self:=fun _ _ _ _ _ st h=>wpAny_pyIter_striter_ascii st h
def iStr (tl:TE):TI:=fun σ H R=>tl σ H fun x H1=>∃ u,x=.str u∧plainS u=true∧R (Its u) H1
theorem pi_str {X:Cx}{tg l:Expr}{tl:TE}(hl:PE X l tl):PI X tg l (iStr tl):=by
  intro pins s σ H R I h
  refine thn (hl pins s σ H _ I h) fun v s1 ⟨x,H1,I1,r1,q1⟩=>?_
  obtain ⟨u,e,hp,q⟩:=q1
  subst e
  obtain ⟨t,rfl⟩:=r1
  refine wpAny_pyIter_ascii hp ?_
  refine ⟨s1.heap.objs.size,[s1.heap.objs.size],_,_,H1,rfl,I1.kept (t':=s1.toks) fun b o e=>Heap.get?_push_of_some _ e,turn_str u t _,⟨_,Heap.get?_push_size _ rfl,rfl,rfl⟩,fun b hb=>?_,q⟩
  have e:b=s1.heap.objs.size:=by simpa using hb
  subst e
  exact I1.fpOk (Nat.le_refl _) (I1.hok.fresh (Nat.le_refl _))
section
variable {K:PySem.W.Frag}{ta te:TE}{ix:List (Option Nat)}{g:TG}{tt:TT}{σ:L2.St}{H:Hp}{Q:VK}
def CompS (u:Str) (g:TG) (tt:TT) (te:TE) (Q:VK) (σ:L2.St) (H:Hp):Prop:=∃ W:Nat→Nat→List V→L2.St→Hp→Prop,(∃ m,W 0 m [] σ H)∧∀ i m acc σ H,W i m acc σ H →
  ((Its u).stop i H∧∀ D,H D=none→Q (.ref D) (L2.upd H D (.lst acc))) ∨
  ((Its u).go i H∧acc.length < sizeLine∧∃ N:List V→L2.St→Hp→Prop,(∀ acc' σ' H',N acc' σ' H'→∃ m',m' < m∧W (i+1) m' acc' σ' H') ∧
    ∀ x H',(Its u).yld i H x H'→g x σ H' fun σ2 H2=>tt σ2 H2 fun b H3=>if b=true then te σ2 H3 fun y H4=>N (acc++[y]) σ2 H4 else N acc σ2 H3)
theorem w_compS:tComp (iStr ta) ix g tt te σ H Q=ta σ H (fun x H1=>∃ u,x=.str u∧plainS u=true∧CompS u g tt te Q (pick ix σ) H1):=rfl
theorem CompS.by {u:Str}(Pv:Nat→List V→L2.St→Hp→Prop) (hz:u.cps.size≤sizeLine) (h0:Pv 0 [] σ H)
    (hs:∀ i c acc σ H,u.cps[i]?=some c→Pv i acc σ H→g (.str ⟨#[c]⟩) σ H fun σ2 H2=>tt σ2 H2 fun b H3=>if b=true then te σ2 H3 fun y H4=>Pv (i+1) (acc++[y]) σ2 H4 else Pv (i+1) acc σ2 H3)
    (hacc:∀ i acc σ H,Pv i acc σ H→acc.length≤i) (hd:∀ acc σ H,Pv u.cps.size acc σ H→∀ D,H D=none→Q (.ref D) (L2.upd H D (.lst acc))):CompS u g tt te Q σ H:=by
  refine ⟨fun i m acc σ H=>m=u.cps.size - i∧i≤u.cps.size∧Pv i acc σ H,⟨u.cps.size,by simp,Nat.zero_le _,h0⟩,?_⟩
  rintro i m acc σ H ⟨rfl,hi,p⟩
  have ha:=hacc i acc σ H p
  by_cases hlt:i < u.cps.size
  · refine .inr ⟨hlt,by omega,Pv (i+1),fun acc' σ' H' p'=>⟨u.cps.size - (i+1),by omega,rfl,hlt,p'⟩,fun x H' y=>?_⟩
    obtain ⟨e,c,hc,y⟩:=y
    subst e y
    exact hs i c acc σ _ hc p
  · have e:i=u.cps.size:=by omega
    subst e
    exact .inl ⟨Nat.le_refl _,hd acc σ H p⟩
end
theorem bools_at:∀ {bs:List Bool}{its:List Value},Vals (bs.map V.bl) its→∀ (i:Nat) (v:Value),its[i]?=some v→∃ b:Bool,bs[i]?=some b∧v=Value.bool b
  | [],_,r,i,v,h=>by
    rw [List.map_nil] at r
    cases r
    simp at h
  | b::bs,_,r,i,v,h=>by
    rw [List.map_cons] at r
    cases r with
    | cons r1 r2 =>
      cases i with
      | zero =>
        simp at h
        subst h
        exact ⟨b,rfl,r1⟩
      | succ i=>exact bools_at r2 i v (by simpa using h)
theorem call_all {X:Cx}(hc:X.calm=true):CallR X (.builtin "all") (fun xs H Q=>∃ (a:Addr) (bs:List Bool),xs=[.ref a]∧SqL X.K H a (bs.map V.bl)∧Q (.bl (bs.all id)) H):=by
  intro pins s σ H xs us Q I r h
  obtain ⟨a,bs,rfl,hS,q⟩:=h
  obtain ⟨u,rfl,ru⟩:=vals1 r
  cases ru
  obtain ⟨its,rv,pl,hz⟩:=I.list hS
  have hl:s.heap.IsList a its.toArray:=pl.isList
  have hlt:a < s.heap.objs.size:=by obtain ⟨_,e,_⟩:=hl; exact Heap.lt_size e
  refine call_all_walk (wpAny_pyIter_list hl ?_)
  refine ⟨s.heap.objs.size,[s.heap.objs.size,a],[s.heap.objs.size],its.toArray.size,_,_,fun i=>(bs[i]?).getD true,rfl,Walks.list (A:=X.A.in1) (I.ok.hd hc) _ a (Nat.ne_of_lt hlt) its.toArray,
    ⟨⟨_,Heap.get?_push_size _ rfl,rfl,rfl⟩,hl.push _⟩,fun i v s' Q' E' hP hQ=>?_,fun h' tk hk=>?_⟩
  · obtain ⟨b,e,rfl⟩:=bools_at rv i v (by simpa using hP)
    simp only [e,Option.getD_some] at hQ
    exact wpAny_truthy_bool hQ
  · have hn:its.toArray.size=bs.length:=by
      have:=rv.length
      rw [List.length_map] at this
      simpa using this.symm
    have e:((List.range its.toArray.size).all fun i=>(bs[i]?).getD true)=bs.all id:=by
      rw [hn,Bool.eq_iff_iff,List.all_eq_true,List.all_eq_true]
      constructor
      · intro z b hb
        obtain ⟨i,hi,rfl⟩:=List.getElem_of_mem hb
        have:=z i (List.mem_range.mpr hi)
        simpa [List.getElem?_eq_getElem hi] using this
      · intro z i hi
        have hi':=List.mem_range.mp hi
        simp only [List.getElem?_eq_getElem hi',Option.getD_some]
        exact z _ (List.getElem_mem hi')
    rw [e]
    refine ⟨.bl _,H,I.kept (t':=tk) fun b o eb=>hk b o (fun hm=>by rw [List.mem_singleton.mp hm] at eb; exact Nat.lt_irrefl _ (Heap.lt_size eb)) (Heap.get?_push_of_some _ eb),rfl,q⟩
def okN (H:Hp):V→Prop
  | .non=>True
  | .bl _=>True
  | .int _=>True
  | .str u=>plainS u=true∧u.length≤1000
  | .ref a=>(∃ xs,H a=some (.lst xs))∨(∃ xs,H a=some (.tup xs))∨∃ kvs,H a=some (.dK kvs)
  | _=>False
def isStrV:V→Bool
  | .str _=>true
  | _=>false
theorem okN.ty {K:PySem.W.Frag}{H:Hp}{x:V}(h:okN H x):∃ T,TyOf K H x (.type T)∧PySem.W.kitOne K (.type T) (.type "str")=some (isStrV x):=by
  cases x with
  | non=>exact ⟨_,.non,by kernel_rfl⟩
  | bl b=>exact ⟨_,.bl b,by kernel_rfl⟩
  | int i=>exact ⟨_,.int i,by kernel_rfl⟩
  | str i=>exact ⟨_,.str i,by kernel_rfl⟩
  | ref a =>
    rcases h with ⟨xs,e⟩ | ⟨xs,e⟩ | ⟨xs,e⟩
    · exact ⟨_,.lst e,by kernel_rfl⟩
    · exact ⟨_,.tup e,by kernel_rfl⟩
    · exact ⟨_,.dK e,by kernel_rfl⟩
  | _=>exact h.elim
theorem call_isi_str {X:Cx}:CallR X (.builtin "isinstance") (fun xs H Q=>∃ x,xs=[x,.ty "str"]∧okN H x∧Q (.bl (isStrV x)) H):=by
  intro pins s σ H xs us Q I r h
  obtain ⟨x,rfl,ok,q⟩:=h
  obtain ⟨T,ty,e⟩:=ok.ty (K:=X.K)
  exact isi_gen I r ty e q
theorem okN.same {H H':Hp}{x:V}(h:okN H x) (s:Same H H'):okN H' x:=by
  cases x with
  | ref a =>
    rcases h with ⟨xs,e⟩ | ⟨xs,e⟩ | ⟨xs,e⟩
    · exact .inl ⟨xs,s _ _ e⟩
    · exact .inr (.inl ⟨xs,s _ _ e⟩)
    · exact .inr (.inr ⟨xs,s _ _ e⟩)
  | non=>trivial
  | bl _=>trivial
  | int _=>trivial
  | str _=>exact h
  | _=>exact h.elim
theorem okN.but {H H':Hp}{x:V}{w:Addr}(h:okN H x) (W:Well3 H' w) (s:But w H H'):okN H' x:=by
  cases x with
  | ref a =>
    by_cases ha:a=w
    · obtain ⟨b,c,d,q⟩:=W
      exact .inl ⟨_,by rw [ha]; exact q⟩
    · rcases h with ⟨xs,e⟩ | ⟨xs,e⟩ | ⟨xs,e⟩
      · exact .inl ⟨xs,s _ _ ha e⟩
      · exact .inr (.inl ⟨xs,s _ _ ha e⟩)
      · exact .inr (.inr ⟨xs,s _ _ ha e⟩)
  | non=>trivial
  | bl _=>trivial
  | int _=>trivial
  | str _=>exact h
  | _=>exact h.elim
def nameB:V→Bool
  | .str u=>decide (goodN u)
  | _=>false
theorem in_letters {c:Nat}(h:c < 128):(!(Builtin.Str.occurrences letters ⟨#[c]⟩ 0 letters.length 1).isEmpty)=decide (97≤c∧c≤122):=by
  have q:∀ k:Fin 128,(!(Builtin.Str.occurrences letters ⟨#[k.val]⟩ 0 letters.length 1).isEmpty)=decide (97≤k.val∧k.val≤122):=by decide +kernel
  exact q ⟨c,h⟩
def LetS (u:Str):Prop:=∀ c∈u.cps.toList,97≤c∧c≤122
def Sm (u:Str):Prop:=plainS u=true∧u.length≤100
theorem plain_iff {u:Str}:plainS u=true ↔ ∀ c∈u.cps.toList,c < 128:=by
  unfold plainS
  rw [Array.all_eq_true']
  constructor
  · intro h c hc
    have:=h c (by simpa using hc)
    simpa using this
  · intro h c hc
    have:=h c (by simpa using hc)
    simpa using this
theorem LetS.plain {u:Str}(h:LetS u):plainS u=true:=plain_iff.mpr fun c hc=>by have:=h c hc; omega
theorem good_let {u:Str}(h:goodN u):LetS u:=h.2.2
theorem good_sm {u:Str}(h:goodN u):Sm u:=⟨(good_let h).plain,by have:=h.2.1; omega⟩
theorem app_toList (u v:Str):(u++v).cps.toList=u.cps.toList++v.cps.toList:=by
  show (u.cps++v.cps).toList=_
  rw [Array.toList_append]
def badC (u:Str):Prop:=∃ c∈u.cps.toList,¬ (97≤c∧c≤122)
instance (u:Str):Decidable (badC u):=by unfold badC; infer_instance
theorem badC.no {u:Str}(h:badC u):¬ goodN u:=fun g=>by
  obtain ⟨c,hc,n⟩:=h
  exact n (g.2.2 c hc)
theorem badC.l {u:Str}(h:badC u) (v:Str):badC (u++v):=by
  obtain ⟨c,hc,n⟩:=h
  exact ⟨c,by rw [app_toList]; exact List.mem_append.mpr (.inl hc),n⟩
theorem badC.r {v:Str}(h:badC v) (u:Str):badC (u++v):=by
  obtain ⟨c,hc,n⟩:=h
  exact ⟨c,by rw [app_toList]; exact List.mem_append.mpr (.inr hc),n⟩
theorem name_all {u:Str}(h:plainS u=true):(u.cps.toList.map fun c=>!(Builtin.Str.occurrences letters ⟨#[c]⟩ 0 letters.length 1).isEmpty).all id=decide (∀ c∈u.cps.toList,97≤c∧c≤122):=by
  rw [Bool.eq_iff_iff,List.all_eq_true,decide_eq_true_eq]
  constructor
  · intro z c hc
    have q:=z _ (List.mem_map.mpr ⟨c,hc,rfl⟩)
    rw [in_letters (plain_iff.mp h c hc)] at q
    simpa using q
  · intro z b hb
    obtain ⟨c,hc,rfl⟩:=List.mem_map.mp hb
    rw [in_letters (plain_iff.mp h c hc)]
    simpa using z c hc
theorem good_str {u:Str}(g:goodN u):PyData.strOk u=true:=by
  unfold PyData.strOk
  rw [Array.all_eq_true']
  intro c hc
  have:=g.2.2 c (by simpa using hc)
  simp only [decide_eq_true_eq]
  omega
section
variable {X:Cx}{x:Str}{C:Addr}{ps:List Str}{k:Nat}{sp:Sp}{e:Expr}{es:List Expr}{t:TA}{p pos:Pos}
variable {K:PySem.W.Frag}{σ:L2.St}{H:Hp}{Q:VK}{D:Ends}{CB:Addr}{i:Nat}{tb:XK→TS}{ts:TS}{E:XK}{dvs:List V}
theorem w_tryB:tTryB K CB i tb ts D σ H=tb (fun cls _ H2=>PySem.W.exmOne K cls (.ref CB)=some true ∧
  ∀ x,H2 x=none→ts { nx:=fun σ' H3=>D.nx (σ'.set i none) H3,rt:=D.rt,bk:=fun σ' H3=>D.bk (σ'.set i none) H3,ct:=fun σ' H3=>D.ct (σ'.set i none) H3 } (σ.set i (some (.ref x))) (L2.upd H2 x (hoExc x cls))) D σ H:=rfl
theorem w_bmake:tBMake C sp dvs t E σ H Q=t σ H (fun vs H1=>∀ x dx,H1 x=none→H1 dx=none→dx≠x →
  sp (.ref x::(vs++dvs)) (L2.upd (L2.upd H1 dx (.own x)) x (.ins C dx [])) (fun v H2=>v=.non∧Q (.ref x) H2) E):=rfl
def tNoKeys:TE:=fun _ H0 Q0=>∀ d,H0 d=none→Q0 (.ref d) (L2.upd H0 d (.dK []))
theorem w_noKeys:tNoKeys σ H Q=∀ d,H d=none→Q (.ref d) (L2.upd H d (.dK [])):=rfl
end
end Bw
set_option Elab.async false
set_option linter.all false
set_option maxRecDepth 100000
set_option maxHeartbeats 1000000
namespace Bw
open PySem PySem.Spec PyProof.Rows L2
structure QE (X:Cx) (e:Expr) (t:TE):Prop where
  h:PE X e t
structure QS (X:Cx) (st:Stmt) (t:TS):Prop where
  h:PS X st t
structure QSs (X:Cx) (sts:List Stmt) (t:TS):Prop where
  h:PSs X sts t
section
variable {X:Cx}{e a b c:Expr}{es:List Expr}{st:Stmt}{rest sa sb:List Stmt}{te ta tb:TE}{tl:TA}{tc:TT}{t u:TS}{pos pos':Pos}{x:Str}{i:Nat}
theorem qe_of (h:PE X e te):QE X e te:=⟨h⟩
theorem qs_of (h:PS X st t):QS X st t:=⟨h⟩
theorem pss_of (h:QSs X rest t):PSs X rest t:=h.h
theorem qe_lst (h:QA X es tl):QE X (.List es pos) (tLst tl):=⟨pe_lst h.h⟩
theorem qe_op {op:Operator}{r:R2}(ho:OpR X (binaryOp op) r) (ha:QE X a ta) (hb:QE X b tb):QE X (.BinOp a op b pos) (tOp r ta tb):=⟨pe_op ho ha.h hb.h⟩
theorem qe_ix {r:R2}(hr:IxR X r) (ha:QE X a ta) (hb:QE X b tb) (hs:PlainIx b):QE X (.Subscript a b pos) (tOp r ta tb):=⟨pe_ix hr ha.h hb.h hs⟩
theorem qs_ret (he:QE X e te):QS X (.Return (some e) pos) (tRet te):=⟨ps_ret he.h⟩
theorem qs_set (hN:X.N.Nodup) (hi:X.N[i]?=some x) (hx:Loc X.env.scope x) (he:QE X e te) (hs:swapsWith e (some (.Name x pos')) pos.line X.env=pure false) (hf:X.fn x=true∨X.env.scope.names.lookup x=some .local:=by first | exact .inl rfl | exact .inr rfl | assumption) :
    QS X (.Assign [.Name x pos'] e pos) (tAsg te (gName i)):=⟨ps_set hN hi hx he.h hs hf⟩
theorem qs_if (hc:PT X c tc) (ha:QSs X sa t) (hb:QSs X sb u):QS X (.If c sa sb pos) (tIfS tc t u):=⟨ps_if hc ha.h hb.h⟩
theorem qss_nil:QSs X [] tNext:=⟨pss_nil⟩
theorem qss_one (h:QS X st t):QSs X [st] t:=⟨pss_one h.h⟩
theorem qss_cons (h1:QS X st t) (h2:QSs X rest u):QSs X (st::rest) (tSeq t u):=⟨pss_cons h1.h h2.h⟩
theorem qss_cut (h1:QS X st t) (h2:QSs X rest u):QSs X (st::rest) (tCut t u):=⟨pss_cut h1.h h2.h⟩
theorem qss_of (h:PSs X rest t):QSs X rest t:=⟨h⟩
end
end Bw
set_option Elab.async false
set_option linter.all false
set_option maxRecDepth 100000
set_option maxHeartbeats 1000000
namespace Bw
open PySem PySem.Spec PyProof.Rows L2
end Bw
set_option Elab.async false
set_option linter.all false
set_option maxRecDepth 100000
set_option maxHeartbeats 1000000
namespace Bw
open PySem PySem.Spec PyProof.Rows L2
mutual
inductive RD (H:Hp):V→PyData→Prop
  | non:RD H .non .none
  | bl (b:Bool):RD H (.bl b) (.bool b)
  | int (i:Int):RD H (.int i) (.int i)
  | str (x:Str):RD H (.str x) (.str x)
  | lst {p:Addr}{xs:List V}{ds:List PyData}:H p=some (.lst xs)→RDs H xs ds→RD H (.ref p) (.list ds)
  | tup {p:Addr}{xs:List V}{ds:List PyData}:H p=some (.tup xs)→RDs H xs ds→RD H (.ref p) (.tuple ds)
inductive RDs (H:Hp):List V→List PyData→Prop
  | nil:RDs H [] []
  | cons {v:V}{d:PyData}{vs:List V}{ds:List PyData}:RD H v d→RDs H vs ds→RDs H (v::vs) (d::ds)
end
section
variable {X:Cx}{pins:List (Addr × Obj)}{σ:L2.St}{H:Hp}{s:Shared}
mutual
theorem RD.reads (I:Inv X pins σ H s):∀ {v:V}{d:PyData},RD H v d→∀ {u:Value},RelV v u→∃ as,Reads s.heap u d as
  | _,_,.non,u,r=>by cases (show u=Value.none from r); exact ⟨_,.none⟩
  | _,_,.bl b,u,r=>by cases (show u=Value.bool b from r); exact ⟨_,.bool b⟩
  | _,_,.int i,u,r=>by obtain ⟨t,rfl⟩:=(show ∃ t,u=Value.int i t from r); exact ⟨_,.int i t⟩
  | _,_,.str i,u,r=>by obtain ⟨t,rfl⟩:=(show ∃ t,u=Value.str i t from r); exact ⟨_,.str i t⟩
  | _,_,.lst h hs,u,r=>by
    cases (show u=Value.ref _ from r)
    obtain ⟨its,r1,⟨o1,n1,p1,c1,_,d1⟩,_⟩:=I.list (SqL.of h)
    obtain ⟨as,ra⟩:=RDs.reads I hs r1
    exact ⟨_,Reads.list p1 c1 d1 (by simpa using ra)⟩
  | _,_,.tup h hs,u,r=>by
    cases (show u=Value.ref _ from r)
    obtain ⟨its,r1,⟨o1,p1,c1,n1,d1⟩,_⟩:=I.tuple (SqT.of h)
    obtain ⟨as,ra⟩:=RDs.reads I hs r1
    exact ⟨_,Reads.tuple p1 c1 d1 (by simpa using ra)⟩
theorem RDs.reads (I:Inv X pins σ H s):∀ {vs:List V}{ds:List PyData},RDs H vs ds→∀ {us:List Value},Vals vs us→∃ as,ReadsAll s.heap us ds as
  | _,_,.nil,_,.nil=>⟨_,.nil⟩
  | _,_,.cons h hs,_,.cons r rs=>by
    obtain ⟨as,ra⟩:=RD.reads I h r
    obtain ⟨bs,rb⟩:=RDs.reads I hs rs
    exact ⟨_,.cons ra rb⟩
end
end
mutual
theorem mix_self:∀ d:PyData,PyData.canLay0 d=true→SeqAt.noMix d d=true
  | .none,_=>by simp [SeqAt.noMix]
  | .bool _,_=>by simp [SeqAt.noMix]
  | .int _,_=>by simp [SeqAt.noMix]
  | .str _,_=>by simp [SeqAt.noMix]
  | .list xs,h=>by
    simp only [SeqAt.noMix]
    exact mixs_self xs (by simpa [PyData.canLay0] using h)
  | .tuple xs,h=>by
    simp only [SeqAt.noMix]
    exact mixs_self xs (by simpa [PyData.canLay0] using h)
  | .dict _,h=>by simp [PyData.canLay0] at h
theorem mixs_self:∀ ds:List PyData,PyData.canLayAll0 ds=true→SeqAt.noMixAll ds ds=true
  | [],_=>by simp [SeqAt.noMixAll]
  | d::r,h=>by
    have h':PyData.canLay0 d=true∧PyData.canLayAll0 r=true:=by simpa [PyData.canLayAll0] using h
    simp only [SeqAt.noMixAll,mix_self d h'.1,mixs_self r h'.2,Bool.and_self]
end
section
variable {X:Cx}
def rEqD (b:Bool):R2:=fun x y H Q=>∃ (d d':PyData),RD H x d∧RD H y d'∧SeqAt.shaped d=true∧SeqAt.shaped d'=true∧Q (.bl (PyData.eqv d d' == b)) H
theorem op_eqD (hu:X.A.units+64 < cLine):OpR X (compareOp .Eq) (rEqD true):=by
  intro pins s σ H x y v u Q I rx ry h
  obtain ⟨d,d',h1,h2,s1,s2,q⟩:=h
  obtain ⟨as,r1⟩:=h1.reads I rx
  obtain ⟨bs,r2⟩:=h2.reads I ry
  refine eq_dataH r1 r2 s1 s2 hu ⟨.bl _,H,I,rfl,?_⟩
  have e:(PyData.eqv d d' == true)=PyData.eqv d d':=by cases PyData.eqv d d' <;> rfl
  rw [e] at q
  exact q
theorem op_neD (hu:X.A.units+64 < cLine):OpR X (compareOp .NotEq) (rEqD false):=by
  intro pins s σ H x y v u Q I rx ry h
  obtain ⟨d,d',h1,h2,s1,s2,q⟩:=h
  obtain ⟨as,r1⟩:=h1.reads I rx
  obtain ⟨bs,r2⟩:=h2.reads I ry
  refine ne_dataH r1 r2 s1 s2 hu ⟨.bl _,H,I,rfl,?_⟩
  have e:(PyData.eqv d d' == false)=!PyData.eqv d d':=by cases PyData.eqv d d' <;> rfl
  rw [e] at q
  exact q
end
def tNev:TE:=fun _ _ _=>False
theorem w_nev {σ:L2.St}{H:Hp}{Q:VK}:tNev σ H Q=False:=rfl
theorem w_never {D:Ends}{σ:L2.St}{H:Hp}:tNever D σ H=False:=rfl
structure CalD (P:Program) (w:World) (K:PySem.W.Frag) (mg:Str→Option Value) (base:Heap) (x:Str) (C:Addr) (ps:List Str) (k:Nat) (dvs:List V) (sp:Sp):Prop where
  ex:∃ f fd ds,FnOk P w K mg base (CXF P w) k f fd ps sp∧Binds K fd ps ds∧Vals dvs ds∧Mk K C f∧mg x=some (.ref C)
section
variable {X:Cx}{x m:Str}{C:Addr}{ps:List Str}{k:Nat}{sp:Sp}{e o:Expr}{es:List Expr}{ta:TE}{t:TA}{p pos apos:Pos}{E:XK}{dvs:List V}
theorem pe_makD (c:CalD X.prog X.w X.K X.mg X.base x C ps k dvs sp) (hx:Passes (CXF X.prog X.w) X E) (hr:Room (k+1) X.A) (hg:Gl X x) (ha:PA X (e::es) t)
    (hdb:(x == ("__debug__":Str))=false:=by decide) (he:starEach (e::es) X.env=(false,eval e X.env)::starEach es X.env:=by rfl) (hpl:(backTo pos (starEach es X.env)).any (·.1)=false:=by rfl) :
    PE X (.Call (.Name x p) (e::es) [] pos) (tMake C sp dvs E t):=by
  obtain ⟨f,fd,ds,F,b,hd,M,hm⟩:=c.ex
  exact pe_make M F hr hg hm b hd hx ha hdb he hpl
end
structure FunA (K:PySem.W.Frag) (x qual:Str) (st:Stmt) (f:Addr) (fd:FuncData):Prop where
  ex:∃ (oc:Value) (od:Option Addr) (dV kV doc pm:Value) (an:Option Addr) (cdv ct:Value) (osl:Array (Option Value)),
    fd=PySem.W.fnOf x qual (defArgs st) (defBody st) (defScope st) dV kV doc pm an cdv ct∧K.lookup f=some ⟨oc,od,.func fd,osl⟩∧PySem.W.codeIn K cdv qual=true
section
variable {P:Program}{w:World}{K:PySem.W.Frag}{mg:Str→Option Value}{base:Heap}{N:List Str}{f:Addr}
theorem FunA.ok {x qual:Str}{st:Stmt}{fd:FuncData}{ps:List Str}{k:Nat}{sp:Sp}(F:FunA K x qual st f fd) (S:FnScope N ps (defScope st)) (len:∀ vs H Q E,sp vs H Q E→vs.length=ps.length)
    (hbody:∀ (cdv:Value) (A:Around) (outer:List Env) (s:Shared) (H:Hp) (vs:List V) (Q:VK) (E:XK),Room k (A.deeper (envOfC qual (defScope st) s.heap.objs.size f cdv))→sp vs H Q E →
      ∃ t,PSs (cxOf CX0 P w K mg base N qual (defScope st) f cdv A outer s H E).nox (defBody st) t∧t { nx:=fun _ H'=>Q .non H',rt:=Q } (L2.start N vs) H):FnOk P w K mg base CX0 (k+1) f fd ps sp:=by
  obtain ⟨oc,od,dV,kV,doc,pm,an,cdv,ct,osl,rfl,lk,hcd⟩:=F.ex
  refine fn_of lk hcd S len fun A outer s H vs Q E hr hsp=>?_
  obtain ⟨t,h,q⟩:=hbody cdv A outer s H vs Q E hr hsp
  exact ⟨t,h.nox,q⟩
theorem funA_mk {x qual:Str}{st:Stmt}{oc:Value}{od an:Option Addr}{osl:Array (Option Value)}{dV kV doc pm cdv ct:Value}(l:K.lookup f=some ⟨oc,od,.func (PySem.W.fnOf x qual (defArgs st) (defBody st) (defScope st) dV kV doc pm an cdv ct),osl⟩)
    (c:PySem.W.codeIn K cdv qual=true):FunA K x qual st f (PySem.W.fnOf x qual (defArgs st) (defBody st) (defScope st) dV kV doc pm an cdv ct):=⟨⟨oc,od,dV,kV,doc,pm,an,cdv,ct,osl,rfl,l,c⟩⟩
theorem bindsD {fd:FuncData}{ps:List Str}{ds:List Value}(n:Nat) (hn:n+ds.length=ps.length) (h:∀ (s:Shared) (us:List Value),K.In s.heap→us.length=n→BindsTo s fd ⟨us,[]⟩ (ps.zip (us++ds))):Binds K fd ps ds:=fun s us X hl=>h s us X (by
  rw [List.length_append] at hl
  omega)
end
end Bw
set_option Elab.async false
set_option linter.all false
set_option maxRecDepth 100000
namespace Bw
open PySem PySem.Spec PyProof.Rows L2
def below (s e t:Int):Int:=(t - s) / 1440 * ((e - s) % 1440)+(if (e - s) % 1440 < (t - s) % 1440 then (e - s) % 1440 else (t - s) % 1440)
end Bw
set_option Elab.async false
set_option linter.all false
set_option maxRecDepth 100000
set_option maxHeartbeats 1000000
namespace Bw
open PySem PySem.Spec PyProof.Rows L2
theorem shaped_of {ds:List PyData}{n:Nat}(hn:n≤60) (h:PyData.canLayAll0 ds=true∧PyData.depthAll ds=n):SeqAt.shaped (.list ds)=true∧SeqAt.shaped (.tuple ds)=true:=by
  have h1:=h.1
  have h2:=h.2
  constructor
  · show (PyData.canLay0 (.list ds) && decide (PyData.depth (.list ds)≤64))=true
    rw [Bool.and_eq_true]
    exact ⟨by simp only [PyData.canLay0]; exact h1,decide_eq_true (by simp only [PyData.depth]; omega)⟩
  · show (PyData.canLay0 (.tuple ds) && decide (PyData.depth (.tuple ds)≤64))=true
    rw [Bool.and_eq_true]
    exact ⟨by simp only [PyData.canLay0]; exact h1,decide_eq_true (by simp only [PyData.depth]; omega)⟩
theorem eqv_nil (xs:List PyData):PyData.eqv (.list xs) (.list [])=xs.isEmpty:=by cases xs <;> simp [PyData.eqv,PyData.eqvAll]
end Bw
set_option Elab.async false
set_option linter.all false
set_option maxRecDepth 100000
set_option maxHeartbeats 1000000
namespace Bw
open PySem PySem.Spec PyProof.Rows L2
theorem vals_rev:∀ {xs:List V}{us:List Value},Vals xs us→Vals xs.reverse us.reverse
  | _,_,.nil=>.nil
  | _,_,.cons r t=>by
    rw [List.reverse_cons,List.reverse_cons]
    exact (vals_rev t).append (.cons r .nil)
def tRevL (K:PySem.W.Frag) (te:TE):TE:=fun σ H Q=>te σ H fun x H1=>∃ a xs,x=.ref a∧SqL K H1 a xs∧∀ p,H1 p=none→Q (.ref p) (L2.upd H1 p (.lst xs.reverse))
theorem w_revL {K:PySem.W.Frag}{te:TE}{σ:L2.St}{H:Hp}{Q:VK}:tRevL K te σ H Q=te σ H (fun x H1=>∃ a xs,x=.ref a∧SqL K H1 a xs∧∀ p,H1 p=none→Q (.ref p) (L2.upd H1 p (.lst xs.reverse))):=rfl
theorem pe_rev {X:Cx}{e st:Expr}{te:TE}{p3 pos:Pos}(he:PE X e te) (hst:PE X st (tUn (rU fun i=>.int (-i)) (tC (.int 1)))):PE X (.Subscript e (.Slice none none (some st) p3) pos) (tRevL X.K te):=by
  intro pins s σ H Q I h
  refine Subscript_ (thn (he pins s σ H _ I h) fun v s1 ⟨x,H1,I1,r1,a,xs,ex,hx,q1⟩=>?_)
  subst ex
  cases r1
  refine wpAny_Slice ?_
  rw [evalPart_none]
  refine wpAny_pure (wpAny_pure ?_)
  rw [evalPart_some]
  refine thn (hst pins s1 σ H1 (fun y H2=>y=.int (-1)∧H2=H1) I1 ⟨1,rfl,rfl,rfl⟩) fun vs s2 ⟨y,H2,I2,r2,ey,eH⟩=>?_
  subst ey eH
  obtain ⟨t,rfl⟩:=r2
  have I4:Inv X pins σ H2 { s2 with heap:=s2.heap.push { cls:=.type "slice",data:=.fields #[.none,.none,.int (-1) t] } }:=I2.kept (t':=s2.toks) fun b ob q=>Heap.get?_push_of_some _ q
  obtain ⟨its,r,ht,hz⟩:=I4.list hx
  have hlen:=r.length
  show wpAny (model X.prog X.w) X.A (subscriptTail e (.Slice none none (some st) p3) (.ref a) (.ref s2.heap.objs.size)) (EP X pins σ Q) X.xe { s2 with heap:=s2.heap.push { cls:=.type "slice",data:=.fields #[.none,.none,.int (-1) t] } }
  refine tail_any (ops:=[.ref a,.ref s2.heap.objs.size]) ht.isList.typeIs slot_list_getitem.lookup (wpAny_getItem_list_slice ht.isList (Heap.IsSliceOf.new ..) .none .none (.int (-1) t) (by decide) ?_ (by rw [List.size_toArray] <;> omega)) (by with_unfolding_all rfl)
  rw [PySem.W.krv_pick]
  refine ⟨.ref _,_,I4.laid (t':=s2.toks) (o:=.lst xs.reverse) (fun b ob q=>Heap.get?_push_of_some _ q) (Nat.le_refl _) ?_,rfl,q1 _ (I4.hok.fresh (Nat.le_refl _))⟩
  exact ⟨by rw [List.length_reverse]; exact hz,_,0,vals_rev r,Heap.get?_push_size _ rfl⟩
end Bw
set_option Elab.async false
set_option linter.all false
set_option maxRecDepth 100000
set_option maxHeartbeats 1000000
namespace Bw
open PySem PySem.Spec PyProof.Rows L2
def metS (l:List Str):List Str:=l.foldl (fun a x=>if x∈a then a else a++[x]) []
theorem metS_snoc (l:List Str) (x:Str):metS (l++[x])=if x∈metS l then metS l else metS l++[x]:=by
  unfold metS; rw [List.foldl_append]; rfl
theorem metS_take {l:List Str}{i:Nat}(h:i < l.length):metS (l.take (i+1))=if l.getD i Str.empty∈metS (l.take i) then metS (l.take i) else metS (l.take i)++[l.getD i Str.empty]:=by
  rw [← metS_snoc,List.take_succ,List.getElem?_eq_getElem h]
  simp [List.getD,List.getElem?_eq_getElem h]
theorem snoc_ind {p:List Str→Prop}(h0:p []) (h1:∀ l x,p l→p (l++[x])) (l:List Str):p l:=by
  have q:∀ m:List Str,p m.reverse:=fun m=>by
    induction m with
    | nil=>exact h0
    | cons a m ih=>rw [List.reverse_cons]; exact h1 _ _ ih
  have:=q l.reverse
  rwa [List.reverse_reverse] at this
theorem mem_metS (x:Str) (l:List Str):x∈metS l ↔ x∈l:=by
  refine snoc_ind (p:=fun l=>x∈metS l ↔ x∈l) (by simp [metS]) (fun l y ih=>?_) l
  · show x∈metS (l++[y]) ↔ x∈l++[y]
    rw [metS_snoc]
    split
    · rename_i h
      rw [ih]
      constructor
      · intro z; exact List.mem_append_left _ z
      · intro z
        rcases List.mem_append.mp z with z | z
        · exact z
        · have e:x=y:=by simpa using z
          subst e
          exact ih.mp h
    · simp [ih]
theorem metS_le (l:List Str):(metS l).length≤l.length:=by
  refine snoc_ind (p:=fun l=>(metS l).length≤l.length) (by simp [metS]) (fun l y ih=>?_) l
  · show (metS (l++[y])).length≤(l++[y]).length
    rw [metS_snoc]
    split <;> simp <;> omega
theorem metS_all (l:List Str):(metS l).length=l.length ↔ l.Nodup:=by
  refine snoc_ind (p:=fun l=>(metS l).length=l.length ↔ l.Nodup) (by simp [metS]) (fun l y ih=>?_) l
  · show (metS (l++[y])).length=(l++[y]).length ↔ (l++[y]).Nodup
    have h:=metS_le l
    rw [metS_snoc]
    by_cases m:y∈metS l
    · rw [if_pos m,List.length_append,List.length_singleton]
      constructor
      · intro z; omega
      · intro z
        have:=(mem_metS y l).mp m
        rw [List.nodup_append] at z
        exact absurd rfl (z.2.2 y this y (List.mem_singleton.mpr rfl))
    · rw [if_neg m,List.length_append,List.length_append,List.length_singleton]
      have n:y ∉ l:=fun z=>m ((mem_metS y l).mpr z)
      constructor
      · intro z
        rw [List.nodup_append]
        refine ⟨ih.mp (by omega),by simp,fun a ha b hb e=>?_⟩
        have:b=y:=by simpa using hb
        subst this; subst e; exact n ha
      · intro z
        rw [List.nodup_append] at z
        have:=ih.mpr z.1
        omega
abbrev memS (l:List Str):Str→Bool:=fun k=>decide (k∈metS l)
section
variable {prog:Program}{w:World}{A:Around}{R:Result→Shared→Prop}{I:Addr}{fp wr:List Addr}{G:Array GenState→Array GenState→Prop}{P:Nat→Value→Prop}{St:Nat→Shared→Prop}
theorem setLoopS {l:List Str}(W:WalksS prog w A.in1 I fp wr G l.length P St) (S:Addr) (hS0:S ∉ fp) (hv:∀ i v,P i v→∃ t,v=.str (l.getD i Str.empty) t) (hb:l.length+1 < scanBound):∀ (k i:Nat) (s:Shared) (q:∀ s',Moved (S::wr) G s s'→s'.heap.SetOf (strKind prog w) S (memS l) (metS l).length→R (.ok (.ret .none)) s'),
      l.length - i=k→i≤l.length→St i s→s.heap.SetOf (strKind prog w) S (memS (l.take i)) (metS (l.take i)).length →
      codeAny (model prog w) A (.builtin "set.update.loop" ⟨[.ref S,.ref I],[]⟩) R s:=by
  have nw:S ∉ wr:=fun h=>hS0 (W.sub _ h)
  have up:∀ b∈wr,b∈S::wr:=fun b hb=>List.mem_cons_of_mem _ hb
  have move:∀ {s s':Shared}{T:Str→Bool}{n:Nat},Moved wr G s s'→s.heap.SetOf (strKind prog w) S T n→s'.heap.SetOf (strKind prog w) S T n:=fun hm z=>by
    obtain ⟨o,es,ep,t,ho,z⟩:=z
    exact ⟨o,es,ep,t,hm.heap S _ nw ho,z⟩
  intro k
  induction k with
  | zero =>
    intro i s q hk hi hst z
    have e:i=l.length:=by omega
    subst e
    rw [List.take_length] at z
    refine codeAny_builtin PyProof.Rows.F.entry_set_update_loop ?_
    rw [Around.under_plainId PyProof.Rows.F.plain_set_update_loop _]; show wpAny _ A.in1 (pyNext (.ref I) >>= _) _ _ s
    refine wpAny_bind (W.done s _ _ hst fun s' hm=>?_)
    show wpAny _ A.in1 (ret Value.none) _ _ s'; exact wpAny_pure (q s' (hm.mono up) (move hm z))
  | succ k ih =>
    intro i s q hk hi hst z
    have lt:i < l.length:=by omega
    refine codeAny_builtin PyProof.Rows.F.entry_set_update_loop ?_
    rw [Around.under_plainId PyProof.Rows.F.plain_set_update_loop _]; show wpAny _ A.in1 (pyNext (.ref I) >>= _) _ _ s
    refine wpAny_bind (W.item i s _ _ lt hst fun v s' hP hst' hm=>?_)
    obtain ⟨t,rfl⟩:=hv i v hP
    have z':=move hm z
    show wpAny _ A.in1 (holding [Value.str (l.getD i Str.empty) t] (setAdd S (.str (l.getD i Str.empty) t)) >>= _) _ _ s'
    refine wpAny_bind (wpAny_holding ?_); unfold setAdd
    refine wpAny_holding (wpAny_bind ((strKind prog w).pyHash (k:=l.getD i Str.empty) (strKind_is _ _ _ _) ?_))
    have room:(metS (l.take i)).length+1 < scanBound:=by
      have h1:=metS_le (l.take i)
      have h2:(l.take i).length≤l.length:=by rw [List.length_take]; omega
      omega
    refine wpAny_setAddHashed_of (knd:=strKind prog w) (s:={ s' with toks:=s'.toks+1 }) (strKind_is _ _ _ _) rfl z' room fun h' sb z2=>?_
    have z3:h'.SetOf (strKind prog w) S (memS (l.take (i+1))) (metS (l.take (i+1))).length:=by
      refine SetOf_congr z2 (fun k'=>?_) ?_
      · show (decide (k'∈metS (l.take i)) || decide (k'=l.getD i Str.empty))=decide (k'∈metS (l.take (i+1)))
        rw [metS_take lt]
        generalize l.getD i Str.empty=y
        split
        · rename_i m
          by_cases e:k'=y
          · subst e; simp [m]
          · simp [e]
        · by_cases e:k'=y
          · subst e; simp
          · simp [e]
      · rw [metS_take lt]
        generalize l.getD i Str.empty=y
        by_cases m:y∈metS (l.take i)
        · rw [if_pos m,if_pos (by simpa using m)]
        · rw [if_neg m,if_neg (by simpa using m),List.length_append]; rfl
    refine wpAny_pure ⟨plainId_quiet PyProof.Rows.F.plain_set_update_loop _,ih (i+1) _ (fun s'' hm'' z4=>?_) (by omega) lt (W.frame _ s' _ _ hst' (Nat.le_succ _) fun b hb o e=>?_) z3⟩
    · refine q s'' (Moved.trans W.gtrans ((hm.mono up).then_heap (Nat.le_succ _) fun b o hb e=>?_) hm'') z4
      rw [sb.2 b (fun h:b=S=>hb (by rw [h]; exact List.mem_cons_self))]; exact e
    · rw [sb.2 b (fun h:b=S=>hS0 (by rw [← h]; exact hb))]; exact e
end
abbrev freshSet (led:Bool):Obj:={ cls:=.type "set",dict:=none,data:=.set #[] 0 (.fresh 0 0 led) }
theorem hasS {its:List Value}{l:List Str}(h:Vals (l.map V.str) its) (i:Nat) (v:Value) (e:its[i]?=some v):∃ t,v=.str (l.getD i Str.empty) t:=by
  induction l generalizing its i with
  | nil=>cases h; simp at e
  | cons x l ih =>
    cases h with
    | cons r1 r2 =>
      cases i with
      | zero =>
        obtain ⟨t,rfl⟩:=r1
        have:v=.str x t:=by simpa using e.symm
        exact ⟨t,by rw [this]; rfl⟩
      | succ i=>exact ih r2 i (by simpa using e)
section
variable {prog:Program}{w:World}{A:Around}{E:Value→Shared→Prop}{s:Shared}
set_option maxHeartbeats 4000000 in
theorem callSetS {a:Addr}{its:List Value}{l:List Str}{Q:Value→Shared→Prop}(hh:A.handled=none) (hl:s.heap.IsList a its.toArray) (hv:Vals (l.map V.str) its) (hb:l.length+1 < scanBound)
    (q:∀ (h':Heap) (tk:Nat),h'.SetOf (strKind prog w) s.heap.objs.size (memS l) (metS l).length→(∀ b o,s.heap.get? b=some o→h'.get? b=some o)→Q (.ref s.heap.objs.size) { s with heap:=h',toks:=tk }) :
    wpAny (model prog w) A (call (.type "set") [.ref a]) Q E s:=by
  have hn:its.toArray.size=l.length:=by have:=hv.length; rw [List.length_map] at this; simpa using this.symm
  obtain ⟨c,tl,hmro⟩:=PySem.F.called_set.mro
  have hmade:=PySem.F.called_set.made; have hsub:=PySem.F.called_set.sub
  refine wpAny_call (codeAny_of_tree ?_); show wpAny _ _ (callAny (.type "set") _) _ _ _
  refine wpAny_pure ⟨Code.quiet_builtin _ (by decide +kernel),codeAny_builtin PySem.F.entry_type_call ?_⟩
  rw [Around.under_plain (weight_type_call_type "set" [.ref a] []) rfl]
  have h1:=PySem.F.called_set.notType; have h2:=PySem.F.called_set.canCreate
  have hct:=PySem.F.typeCall_set_1 (.ref a)
  repeat (any_goals (first | assumption | wp_step))
  refine codeAny_mono (PySem.code_set_new_1 (.ref a) (E:=E) (Q₁:=fun obj s₁=>∃ led:Bool,obj=.ref s.heap.objs.size∧s₁={ s with heap:=s.heap.push (freshSet led) }) fun led=>⟨led,rfl,rfl⟩) fun r s₁ hr=>?_
  match r,hr with
  | .error e,hr=>exact hr
  | .ok (.ret obj),hr =>
    obtain ⟨led,rfl,rfl⟩:=hr
    have hS:(s.heap.push (freshSet led)).get? s.heap.objs.size=some (freshSet led):=Heap.get?_push_size _ rfl
    have hT:Shared.TypeIs { s with heap:=s.heap.push (freshSet led) } (.ref s.heap.objs.size) "set":=⟨_,hS,rfl⟩
    have hli:=PySem.F.called_set.init.lookup; have hbi:=PySem.F.called_set.init.bind (.ref s.heap.objs.size)
    repeat (any_goals (first | assumption | wp_step))
    refine codeAny_mono (codeAny_call_builtin (R:=wants (fun r s₂=>r=.none∧∃ h' tk,s₂={ s with heap:=h',toks:=tk }∧h'.SetOf (strKind prog w) s.heap.objs.size (memS l) (metS l).length ∧
        (∀ b o,s.heap.get? b=some o→h'.get? b=some o)) E) PySem.F.called_set.init.plain PySem.F.entry_set_init (PySem.check_set_init_1 hT ?_)) fun r₂ s₂ hr₂=>?_
    · obtain ⟨⟨oc,od,odt,osl⟩,hol,hcl,nl,hdl⟩:=hl
      simp only at hcl hdl; subst hcl; subst hdl
      have hol':(s.heap.push (freshSet led)).get? a=some { cls:=.type "list",dict:=od,data:=.seq its.toArray nl,slots:=osl }:=Heap.get?_push_of_some _ hol
      have n1:=PySem.F.sub_list_set; have n2:=PySem.F.sub_list_frozenset
      have n3:(Value.type "list" == Value.type "dict")=false:=by decide
      have hl1:(s.heap.push (freshSet led)).IsList a its.toArray:=⟨_,hol',rfl,nl,rfl⟩
      unfold Builtin.«set.__init__» noKeywords Builtin.Frozenset.updateFrom
      generalize hPI:pyIter=PI
      wp_walk
      subst hPI
      refine wpAny_pyIter_list hl1 (wpAny_bind (wpAny_runValue ?_))
      have lt:a < s.heap.objs.size:=Heap.lt_size hol
      have hh3:A.in1.in1.in1.handled=none:=by simp [hh]
      have ne1:a≠(s.heap.push (freshSet led)).objs.size:=by rw [Heap.size_push]; exact Nat.ne_of_lt (Nat.lt_succ_of_lt lt)
      have ne2:s.heap.objs.size ∉ [(s.heap.push (freshSet led)).objs.size,a]:=by
        rw [Heap.size_push]; intro z
        rcases List.mem_cons.mp z with z | z
        · exact absurd z (Nat.ne_of_lt (Nat.lt_succ_self _))
        · exact absurd (List.mem_singleton.mp z) (Nat.ne_of_gt lt)
      have W:=(Walks.list (prog:=prog) (w:=w) hh3 _ a ne1 its.toArray).toS
      rw [hn] at W
      refine setLoopS W s.heap.objs.size ne2 (fun i v hv'=>hasS hv i v (by simpa using hv')) hb (l.length - 0) 0 _ (fun s' hm z=>?_) (by omega) (Nat.zero_le _) ⟨⟨_,Heap.get?_push_size _ rfl,rfl,rfl⟩,hl1.push _⟩ ?_
      · obtain ⟨h',g',d',tk',os'⟩:=s'
        have eg:g'=s.gens:=hm.gens
        have ed:d'=s.drawn:=hm.drawn
        have eo:os'=s.os:=hm.os
        subst eg; subst ed; subst eo
        show wpAny _ _ _ _ _ _
        refine wpAny_pure ?_
        show wpAny _ _ (ret Value.none) _ _ _
        refine wpAny_pure ⟨rfl,h',tk',rfl,z,fun b o e=>?_⟩
        have bl:=Heap.lt_size e
        refine hm.heap b o (fun y=>?_) (Heap.get?_push_of_some _ (Heap.get?_push_of_some _ e))
        rcases List.mem_cons.mp y with y | y
        · exact absurd y (Nat.ne_of_lt bl)
        · have:=List.mem_singleton.mp y; rw [Heap.size_push] at this; exact absurd this (Nat.ne_of_lt (Nat.lt_succ_of_lt bl))
      · have hg:((s.heap.push (freshSet led)).push { cls:=.type "list_iterator",data:=.fields #[.ref a,.int 0 0] }).get? s.heap.objs.size=some (freshSet led):=Heap.get?_push_of_some _ hS
        exact SetOf_congr ((setObjOf_fresh (knd:=strKind prog w) led).setOf hg (by unfold scanBound; omega)) (fun k=>by simp [memS,metS]) rfl
    · match r₂,hr₂ with
      | .error e,hr₂=>exact hr₂
      | .ok (.ret r),hr₂ =>
        obtain ⟨rfl,h',tk,rfl,z,kp⟩:=hr₂
        repeat (any_goals (first | assumption | wp_step))
        exact q _ _ z kp
end
def hoSet (P:Program) (w:World) (a:Addr) (l:List Str):HO:=.ext fun h=>h.SetOf (strKind P w) a (memS l) (metS l).length
theorem set_ext {P:Program}{w:World}{H:Hp}{h:Heap}{a:Addr}{l:List Str}(z:h.SetOf (strKind P w) a (memS l) (metS l).length):ObjOk P w H h a (hoSet P w a l):=by
  refine ⟨z,?_,fun h1 h2 z1 k=>?_⟩
  · obtain ⟨o,_,_,_,e,_⟩:=z; exact ⟨o,e⟩
  · obtain ⟨o,es,ep,t,e,z1⟩:=z1; exact ⟨o,es,ep,t,k o e,z1⟩
theorem call_setS {X:Cx}(hc:X.calm=true):CallR X (.type "set") (fun xs H Q=>∃ (a:Addr) (l:List Str),xs=[.ref a]∧SqL X.K H a (l.map V.str)∧l.length≤1000∧∀ p,H p=none→Q (.ref p) (upd H p (hoSet X.prog X.w p l))):=by
  intro pins s σ H xs us Q I r h
  obtain ⟨a,l,rfl,hS,hz,q⟩:=h
  obtain ⟨u,rfl,ru⟩:=vals1 r
  cases ru
  obtain ⟨its,rv,pl,_⟩:=I.list hS
  refine callSetS (I.ok.hd hc) pl.isList rv (by unfold scanBound; omega) fun h' tk z kp=>?_
  exact ⟨.ref s.heap.objs.size,_,I.laid (t':=tk) kp (Nat.le_refl _) (set_ext z),rfl,q _ (I.hok.fresh (Nat.le_refl _))⟩
theorem call_lenS {X:Cx}:CallR X (.builtin "len") (fun xs H Q=>∃ (a:Addr) (l:List Str),xs=[.ref a]∧H a=some (hoSet X.prog X.w a l)∧Q (.int (metS l).length) H):=by
  intro pins s σ H xs us Q I r h
  obtain ⟨a,l,rfl,e,q⟩:=h
  obtain ⟨u,rfl,ru⟩:=vals1 r
  cases ru
  obtain ⟨⟨o,es,ep,t,ho,hex,hd,_,_,hb,hf,hn⟩,_⟩:=I.hok a _ e
  rw [← hn] at q
  exact call_len_set ho hex hd hf (by unfold scanBound at hb; omega) ⟨.int es.size,H,I.tok _,⟨_,rfl⟩,q⟩
end Bw
set_option Elab.async false
set_option linter.all false
set_option maxRecDepth 100000
set_option maxHeartbeats 1000000
namespace Bw
open PySem PySem.Spec PyProof.Rows L2
theorem TyOf.same {K:PySem.W.Frag}{H H':Hp}{x:V}{t:Value}(h:TyOf K H x t) (s:Same H H'):TyOf K H' x t:=by
  cases h with
  | non=>exact .non
  | bl x=>exact .bl x
  | int i=>exact .int i
  | str x=>exact .str x
  | flt x=>exact .flt x
  | lst e=>exact .lst (s _ _ e)
  | frz e=>exact .frz (s _ _ e)
  | tup e=>exact .tup (s _ _ e)
  | dK e=>exact .dK (s _ _ e)
  | dT e=>exact .dT (s _ _ e)
  | ins e cl ha hn ht hm=>exact .ins (s _ _ e) cl ha hn ht hm
theorem TyOf.but3 {K:PySem.W.Frag}{H H':Hp}{w:Addr}{x:V}{t:Value}(h:TyOf K H x t) (W0:Well3 H w) (W:Well3 H' w) (s:But w H H'):TyOf K H' x t:=by
  have ne:∀ {b:Addr}{o:HO},H b=some o→(∀ xs,o≠.lst xs)→b≠w:=fun e n z=>by
    obtain ⟨a,b,c,q⟩:=W0
    rw [z,q] at e
    exact n _ (Option.some.inj e).symm
  cases h with
  | non=>exact .non
  | bl x=>exact .bl x
  | int i=>exact .int i
  | str x=>exact .str x
  | flt x=>exact .flt x
  | @lst p xs e =>
    by_cases z:p=w
    · obtain ⟨a,b,c,q⟩:=W
      rw [z]
      exact .lst q
    · exact .lst (s _ _ z e)
  | frz e=>exact .frz (s _ _ (ne e (by intro xs z; cases z)) e)
  | tup e=>exact .tup (s _ _ (ne e (by intro xs z; cases z)) e)
  | dK e=>exact .dK (s _ _ (ne e (by intro xs z; cases z)) e)
  | dT e=>exact .dT (s _ _ (ne e (by intro xs z; cases z)) e)
  | ins e cl ha hn ht hm=>exact .ins (s _ _ (ne e (by intro xs z; cases z)) e) cl ha hn ht hm
def rIsiG (K:PySem.W.Frag) (T:String):List V→Hp→VK→Prop:=fun xs H Q=>∃ (x:V) (t:Value) (b:Bool),xs=[x,.ty T]∧TyOf K H x t∧PySem.W.kitOne K t (.type T)=some b∧Q (.bl b) H
theorem isiG_at {X:Cx}{K:PySem.W.Frag}{T:String}(hK:X.K=K):CallR X (.builtin "isinstance") (rIsiG K T):=by
  subst hK
  intro pins s σ H xs us Q I r h
  obtain ⟨x,t,b,rfl,ty,e,q⟩:=h
  obtain ⟨u,w',rfl,rx,rc⟩:=vals2 r
  cases (show w'=Value.type T from rc)
  exact isinst_ok I rx ty e fun tk=>⟨.bl b,H,I.tok _,rfl,q⟩
end Bw
set_option Elab.async false
set_option linter.all false
set_option maxRecDepth 100000
set_option maxHeartbeats 1000000
namespace Bw
open PySem PySem.Spec PyProof.Rows L2
section
variable {X:Cx}
def tBIf (c:TT) (t u:XK→TS):XK→TS:=fun E D σ H=>c σ H fun b H1=>if b=true then t E D σ H1 else u E D σ H1
theorem w_bIf {c:TT}{t u:XK→TS}{E:XK}{D:Ends}{σ:L2.St}{H:Hp}:tBIf c t u E D σ H=c σ H (fun b H1=>if b=true then t E D σ H1 else u E D σ H1):=rfl
end
end Bw
set_option Elab.async false
set_option linter.all false
set_option maxRecDepth 100000
set_option maxHeartbeats 1000000
namespace Bw
open PySem PySem.Spec PyProof.Rows L2
section
variable {X:Cx}{CX:CXT}{k:Nat}{f C:Addr}{fd:FuncData}{ps ks:List Str}{sp:Sp}{E:XK}{x:Str}{p pos:Pos}{e:Expr}{es:List Expr}{kws:List Keyword}{t tk:TA}
  {g:List Value→List Value→List Value}{gV:List V→List V→List V}
def tMakeK (C:Addr) (sp:Sp) (gV:List V→List V→List V) (E:XK) (t tk:TA):TE:=fun σ H Q=>t σ H fun vs H1=>tk σ H1 fun zs H2=>∀ x dx,H2 x=none→H2 dx=none→dx≠x →
  sp (gV (.ref x::vs) zs) (L2.upd (L2.upd H2 dx (.own x)) x (.ins C dx [])) (fun v H3=>v=.non∧Q (.ref x) H3) E
theorem w_makeK {σ:L2.St}{H:Hp}{Q:VK}:tMakeK C sp gV E t tk σ H Q=t σ H (fun vs H1=>tk σ H1 fun zs H2=>∀ x dx,H2 x=none→H2 dx=none→dx≠x →
  sp (gV (.ref x::vs) zs) (L2.upd (L2.upd H2 dx (.own x)) x (.ins C dx [])) (fun v H3=>v=.non∧Q (.ref x) H3) E):=rfl
end
structure CalK (P:Program) (w:World) (K:PySem.W.Frag) (mg:Str→Option Value) (base:Heap) (x:Str) (C:Addr) (ps ks:List Str) (k:Nat) (gV:List V→List V→List V) (sp:Sp):Prop where
  ex:∃ f fd g,FnOk P w K mg base (CXF P w) k f fd ps sp∧KBinds K fd ps ks g gV∧Mk K C f∧mg x=some (.ref C)
section
variable {X:Cx}{x:Str}{C:Addr}{ps ks:List Str}{k:Nat}{sp:Sp}{e:Expr}{es:List Expr}{t tk:TA}{p pos:Pos}{E:XK}{kws:List Keyword}{gV:List V→List V→List V}
end
end Bw
set_option Elab.async false
set_option linter.all false
set_option maxRecDepth 100000
set_option maxHeartbeats 1000000
namespace Bw
open PySem PySem.Spec PyProof.Rows L2
theorem call_any {X:Cx}(hc:X.calm=true):CallR X (.builtin "any") (fun xs H Q=>∃ (a:Addr) (bs:List Bool),xs=[.ref a]∧SqL X.K H a (bs.map V.bl)∧Q (.bl (bs.any id)) H):=by
  intro pins s σ H xs us Q I r h
  obtain ⟨a,bs,rfl,hS,q⟩:=h
  obtain ⟨u,rfl,ru⟩:=vals1 r
  cases ru
  obtain ⟨its,rv,pl,hz⟩:=I.list hS
  have hl:s.heap.IsList a its.toArray:=pl.isList
  have hlt:a < s.heap.objs.size:=by obtain ⟨_,e,_⟩:=hl; exact Heap.lt_size e
  refine call_any_walk (wpAny_pyIter_list hl ?_)
  refine ⟨s.heap.objs.size,[s.heap.objs.size,a],[s.heap.objs.size],its.toArray.size,_,_,fun i=>(bs[i]?).getD true,rfl,Walks.list (A:=X.A.in1) (I.ok.hd hc) _ a (Nat.ne_of_lt hlt) its.toArray,
    ⟨⟨_,Heap.get?_push_size _ rfl,rfl,rfl⟩,hl.push _⟩,fun i v s' Q' E' hP hQ=>?_,fun h' tk hk=>?_⟩
  · obtain ⟨b,e,rfl⟩:=bools_at rv i v (by simpa using hP)
    simp only [e,Option.getD_some] at hQ
    exact wpAny_truthy_bool hQ
  · have hn:its.toArray.size=bs.length:=by
      have:=rv.length
      rw [List.length_map] at this
      simpa using this.symm
    have e:((List.range its.toArray.size).any fun i=>(bs[i]?).getD true)=bs.any id:=by
      rw [hn,Bool.eq_iff_iff,List.any_eq_true,List.any_eq_true]
      constructor
      · rintro ⟨i,hi,z⟩
        have hi':=List.mem_range.mp hi
        simp only [List.getElem?_eq_getElem hi',Option.getD_some] at z
        exact ⟨_,List.getElem_mem hi',z⟩
      · rintro ⟨b,hb,z⟩
        obtain ⟨i,hi,rfl⟩:=List.getElem_of_mem hb
        refine ⟨i,List.mem_range.mpr hi,?_⟩
        simpa [List.getElem?_eq_getElem hi] using z
    rw [e]
    refine ⟨.bl _,H,I.kept (t':=tk) fun b o eb=>hk b o (fun hm=>by rw [List.mem_singleton.mp hm] at eb; exact Nat.lt_irrefl _ (Heap.lt_size eb)) (Heap.get?_push_of_some _ eb),rfl,q⟩
section
variable {P:Program}{w:World}{K:PySem.W.Frag}{mg:Str→Option Value}{base:Heap}{f:Addr}{fd:FuncData}{ps:List Str}{x:Str}{CX:CXT}{k:Nat}
theorem FnOk.nev {sp:Sp}(h:∀ vs H Q E,¬ sp vs H Q E):FnOk P w K mg base CX k f fd ps sp:=⟨fun _ _ _ _ z=>(h _ _ _ _ z).elim,fun _ _ _ _ _ _ _ _ _ _ _ _ _ z=>(h _ _ _ _ z).elim⟩
theorem rec_fn {spf:Nat→Sp}{n0:Nat}(h0:∀ vs H Q E,¬ spf 0 vs H Q E) (b:Binds K fd ps []) (kp:PySem.W.keepIn K (.ref f)=true) (hm:mg x=some (.ref f))
    (step:∀ d n,n0≤n→CalX P w K mg base x ps n (spf d)→FnOk P w K mg base (CXF P w) (n+1) f fd ps (spf (d+1))):∀ d,FnOk P w K mg base (CXF P w) (n0+d) f fd ps (spf d)
  | 0=>FnOk.nev h0
  | d+1=>step d (n0+d) (Nat.le_add_right _ _) ⟨f,fd,rec_fn h0 b kp hm step d,b,kp,hm⟩
theorem rec_cal {spf:Nat→Sp}{n0:Nat}(h0:∀ vs H Q E,¬ spf 0 vs H Q E) (b:Binds K fd ps []) (kp:PySem.W.keepIn K (.ref f)=true) (hm:mg x=some (.ref f))
    (step:∀ d n,n0≤n→CalX P w K mg base x ps n (spf d)→FnOk P w K mg base (CXF P w) (n+1) f fd ps (spf (d+1))) (d:Nat) {n:Nat}(hn:n0+d≤n):CalX P w K mg base x ps n (spf d) :=
  ⟨f,fd,FnOk.lift (rec_fn h0 b kp hm step d) hn,b,kp,hm⟩
end
section
variable {K:PySem.W.Frag}{σ:L2.St}{H:Hp}{Q:VK}{g:TG}{tt:TT}{te ta:TE}{ix:List (Option Nat)}{t:TS}{D:Ends}
theorem comp_tup {K:PySem.W.Frag}{a:Addr}{xs:List V}{g:TG}{tt:TT}{te:TE}{σ:L2.St}{H:Hp}{Q:VK}(Pv:Nat→List V→L2.St→Hp→Prop) (hz:xs.length≤sizeLine) (h0:Pv 0 [] σ H) (hl:∀ i acc σ H,i≤xs.length→Pv i acc σ H→SqT K H a xs)
    (hs:∀ i x acc σ H,xs[i]?=some x→Pv i acc σ H→g x σ H fun σ2 H2=>tt σ2 H2 fun b H3=>if b=true then te σ2 H3 fun y H4=>Pv (i+1) (acc++[y]) σ2 H4 else Pv (i+1) acc σ2 H3)
    (hacc:∀ i acc σ H,Pv i acc σ H→acc.length≤i) (hd:∀ acc σ H,Pv xs.length acc σ H→∀ D,H D=none→Q (.ref D) (L2.upd H D (.lst acc))) :
    ∃ W:Nat→Nat→List V→L2.St→Hp→Prop,(∃ m,W 0 m [] σ H)∧∀ i m acc σ H,W i m acc σ H →
      ((Itt K a).stop i H∧∀ D,H D=none→Q (.ref D) (L2.upd H D (.lst acc))) ∨
      ((Itt K a).go i H∧acc.length < sizeLine∧∃ N:List V→L2.St→Hp→Prop,(∀ acc' σ' H',N acc' σ' H'→∃ m',m' < m∧W (i+1) m' acc' σ' H') ∧
        ∀ x H',(Itt K a).yld i H x H'→g x σ H' fun σ2 H2=>tt σ2 H2 fun b H3=>if b=true then te σ2 H3 fun y H4=>N (acc++[y]) σ2 H4 else N acc σ2 H3):=by
  refine ⟨fun i m acc σ H=>m=xs.length - i∧i≤xs.length∧Pv i acc σ H,⟨xs.length,by simp,Nat.zero_le _,h0⟩,?_⟩
  rintro i m acc σ H ⟨rfl,hi,p⟩
  have q:=hl i acc σ H hi p
  have ha:=hacc i acc σ H p
  by_cases hlt:i < xs.length
  · refine .inr ⟨⟨xs,xs[i],q,by simp [hlt]⟩,by omega,Pv (i+1),fun acc' σ' H' p'=>⟨xs.length - (i+1),by omega,rfl,hlt,p'⟩,fun x H' y=>?_⟩
    obtain ⟨e,y⟩:=y
    subst e
    exact hs i x acc σ _ (y xs q) p
  · have e:i=xs.length:=by omega
    subst e
    exact .inl ⟨⟨xs,q,Nat.le_refl _⟩,hd acc σ H p⟩
def CompT (K:PySem.W.Frag) (a:Addr) (g:TG) (tt:TT) (te:TE) (Q:VK) (σ:L2.St) (H:Hp):Prop:=∃ W:Nat→Nat→List V→L2.St→Hp→Prop,(∃ m,W 0 m [] σ H)∧∀ i m acc σ H,W i m acc σ H →
  ((Itt K a).stop i H∧∀ D,H D=none→Q (.ref D) (L2.upd H D (.lst acc))) ∨
  ((Itt K a).go i H∧acc.length < sizeLine∧∃ N:List V→L2.St→Hp→Prop,(∀ acc' σ' H',N acc' σ' H'→∃ m',m' < m∧W (i+1) m' acc' σ' H') ∧
    ∀ x H',(Itt K a).yld i H x H'→g x σ H' fun σ2 H2=>tt σ2 H2 fun b H3=>if b=true then te σ2 H3 fun y H4=>N (acc++[y]) σ2 H4 else N acc σ2 H3)
theorem w_compT:tComp (iTup K ta) ix g tt te σ H Q=ta σ H (fun x H1=>∃ a,x=.ref a∧(∃ xs,SqT K H1 a xs)∧CompT K a g tt te Q (pick ix σ) H1):=rfl
theorem CompT.by {a:Addr}{xs:List V}(Pv:Nat→List V→L2.St→Hp→Prop) (hz:xs.length≤sizeLine) (h0:Pv 0 [] σ H) (hl:∀ i acc σ H,i≤xs.length→Pv i acc σ H→SqT K H a xs)
    (hs:∀ i x acc σ H,xs[i]?=some x→Pv i acc σ H→g x σ H fun σ2 H2=>tt σ2 H2 fun b H3=>if b=true then te σ2 H3 fun y H4=>Pv (i+1) (acc++[y]) σ2 H4 else Pv (i+1) acc σ2 H3)
    (hacc:∀ i acc σ H,Pv i acc σ H→acc.length≤i) (hd:∀ acc σ H,Pv xs.length acc σ H→∀ D,H D=none→Q (.ref D) (L2.upd H D (.lst acc))):CompT K a g tt te Q σ H:=comp_tup Pv hz h0 hl hs hacc hd
def ForT (K:PySem.W.Frag) (a:Addr) (g:TG) (tb:TS) (D:Ends) (σ:L2.St) (H:Hp):Prop:=∃ W:Nat→Nat→L2.St→Hp→Prop,(∃ m,W 0 m σ H)∧∀ i m σ H,W i m σ H →
      ((Itt K a).stop i H∧D.nx σ H)∨((Itt K a).go i H∧∃ N:L2.St→Hp→Prop,(∀ σ' H',N σ' H'→∃ m',m' < m∧W (i+1) m' σ' H')∧∀ x H',(Itt K a).yld i H x H'→g x σ H' fun σ2 H2=>tb { D with nx:=N,ct:=N,bk:=D.nx } σ2 H2)
theorem w_forT:tFor (iTup K ta) g t D σ H=ta σ H (fun x H1=>∃ a,x=.ref a∧(∃ xs,SqT K H1 a xs)∧ForT K a g t D σ H1):=rfl
theorem ForT.by {a:Addr}{xs:List V}(Pv:Nat→L2.St→Hp→Prop) (h0:Pv 0 σ H) (hl:∀ i σ H,i≤xs.length→Pv i σ H→SqT K H a xs)
    (hs:∀ i x σ H,xs[i]?=some x→Pv i σ H→g x σ H fun σ2 H2=>t { D with nx:=Pv (i+1),ct:=Pv (i+1),bk:=D.nx } σ2 H2) (hd:∀ σ H,Pv xs.length σ H→D.nx σ H):ForT K a g t D σ H:=for_tup Pv h0 hl hs hd
end
inductive All2 {α β:Type}(R:α→β→Prop):List α→List β→Prop
  | nil:All2 R [] []
  | cons {a:α}{b:β}{as:List α}{bs:List β}(h:R a b) (r:All2 R as bs):All2 R (a::as) (b::bs)
section
variable {α β:Type}{R S:α→β→Prop}{as:List α}{bs:List β}
theorem All2.len (h:All2 R as bs):as.length=bs.length:=by
  induction h with
  | nil=>rfl
  | cons _ _ ih=>rw [List.length_cons,List.length_cons,ih]
theorem All2.imp (h:All2 R as bs) (k:∀ a b,a∈as→R a b→S a b):All2 S as bs:=by
  induction h with
  | nil=>exact .nil
  | cons h _ ih=>exact .cons (k _ _ List.mem_cons_self h) (ih fun a b m=>k a b (List.mem_cons_of_mem _ m))
theorem All2.snoc {a:α}{b:β}(h:All2 R as bs) (k:R a b):All2 R (as++[a]) (bs++[b]):=by
  induction h with
  | nil=>exact .cons k .nil
  | cons h _ ih=>exact .cons h ih
theorem All2.get (h:All2 R as bs):∀ {i:Nat}{b:β},bs[i]?=some b→∃ a,as[i]?=some a∧R a b:=by
  induction h with
  | nil=>intro i b e; simp at e
  | cons h _ ih =>
    intro i b e
    cases i with
    | zero=>cases e; exact ⟨_,rfl,h⟩
    | succ i=>exact ih e
end
mutual
inductive Tr where
  | any
  | kind (us:List Str)
  | place (us:List Str)
  | weight (n:Int)
  | not (t:Tr)
  | both (ts:Trs)
  | either (ts:Trs)
inductive Trs where
  | nil
  | cons (t:Tr) (ts:Trs)
end
def Trs.ofL:List Tr→Trs
  | []=>.nil
  | t::ts=>.cons t (Trs.ofL ts)
mutual
def Tr.ev (k p:Str) (w:Int):Tr→Bool
  | .any=>true
  | .kind us=>decide (k∈us)
  | .place us=>decide (p∈us)
  | .weight n=>decide (n≤w)
  | .not t=>!Tr.ev k p w t
  | .both ts=>(Trs.ev k p w ts).all id
  | .either ts=>(Trs.ev k p w ts).any id
def Trs.ev (k p:Str) (w:Int):Trs→List Bool
  | .nil=>[]
  | .cons t ts=>Tr.ev k p w t::Trs.ev k p w ts
end
mutual
def Tr.dp:Tr→Nat
  | .any=>0
  | .kind _=>0
  | .place _=>0
  | .weight _=>0
  | .not t=>Tr.dp t+1
  | .both ts=>Trs.dp ts+1
  | .either ts=>Trs.dp ts+1
def Trs.dp:Trs→Nat
  | .nil=>0
  | .cons t ts=>max (Tr.dp t) (Trs.dp ts)
end
mutual
def Tr.cnt:Tr→Nat
  | .any=>1
  | .kind us=>us.length
  | .place us=>us.length
  | .weight _=>1
  | .not t=>Tr.cnt t
  | .both ts=>Trs.cnt ts
  | .either ts=>Trs.cnt ts
def Trs.cnt:Trs→Nat
  | .nil=>0
  | .cons t ts=>Tr.cnt t+Trs.cnt ts
end
def okNs (us:List Str):Prop:=us≠[]∧us.length≤6∧(∀ u∈us,goodN u)∧us.Nodup
def Trs.toL:Trs→List Tr
  | .nil=>[]
  | .cons t ts=>t::ts.toL
mutual
def Tr.ok:Tr→Prop
  | .any=>True
  | .kind us=>okNs us
  | .place us=>okNs us
  | .weight n=>0≤n∧n < 1000000
  | .not t=>Tr.ok t
  | .both ts=>2≤ts.toL.length∧ts.toL.length≤6∧Trs.ok ts
  | .either ts=>2≤ts.toL.length∧ts.toL.length≤6∧Trs.ok ts
def Trs.ok:Trs→Prop
  | .nil=>True
  | .cons t ts=>Tr.ok t∧Trs.ok ts
end
theorem toL_ofL:∀ ts:List Tr,(Trs.ofL ts).toL=ts
  | []=>rfl
  | t::ts=>by rw [Trs.ofL,Trs.toL,toL_ofL ts]
theorem trs_ev {k p:Str}{w:Int}:∀ ts:Trs,Trs.ev k p w ts=ts.toL.map (Tr.ev k p w)
  | .nil=>rfl
  | .cons t ts=>by rw [Trs.ev,Trs.toL,List.map_cons,trs_ev ts]
theorem trs_dp:∀ {ts:Trs}{t:Tr},t∈ts.toL→t.dp≤ts.dp
  | .nil,t,h=>by cases h
  | .cons s ts,t,h=>by
    rw [Trs.toL] at h
    rw [Trs.dp]
    rcases List.mem_cons.mp h with rfl | h
    · exact Nat.le_max_left _ _
    · exact Nat.le_trans (trs_dp h) (Nat.le_max_right _ _)
theorem trs_dp_le {n:Nat}:∀ {ts:Trs},(∀ t∈ts.toL,t.dp≤n)→ts.dp≤n
  | .nil,_=>Nat.zero_le _
  | .cons s ts,h=>by
    rw [Trs.toL] at h
    rw [Trs.dp]
    exact Nat.max_le.mpr ⟨h s List.mem_cons_self,trs_dp_le fun t m=>h t (List.mem_cons_of_mem _ m)⟩
theorem trs_ok:∀ {ts:Trs},ts.ok ↔ ∀ t∈ts.toL,t.ok
  | .nil=>⟨fun _ t h=>(by cases h),fun _=>trivial⟩
  | .cons s ts=>by
    rw [Trs.toL,Trs.ok,trs_ok]
    exact ⟨fun h t m=>by
      rcases List.mem_cons.mp m with rfl | m
      · exact h.1
      · exact h.2 t m,fun h=>⟨h s List.mem_cons_self,fun t m=>h t (List.mem_cons_of_mem _ m)⟩⟩
theorem trs_cnt {n:Nat}:∀ {ts:Trs},(∀ t∈ts.toL,t.cnt≤n)→ts.cnt≤n * ts.toL.length
  | .nil,_=>Nat.zero_le _
  | .cons s ts,h=>by
    rw [Trs.toL] at h
    rw [Trs.toL,Trs.cnt,List.length_cons,Nat.mul_succ]
    have h1:=h s List.mem_cons_self
    have h2:=trs_cnt (ts:=ts) fun t m=>h t (List.mem_cons_of_mem _ m)
    omega
def Tr.tag:Tr→Nat
  | .any=>0
  | .kind _=>1
  | .place _=>2
  | .weight _=>3
  | .not _=>4
  | .both _=>5
  | .either _=>6
mutual
def Tr.At (H:Hp):Tr→V→Prop
  | .any,v=>∃ p,v=.ref p∧H p=some (.tup [.str "any"])
  | .kind us,v=>∃ p l,v=.ref p∧H p=some (.tup [.str "kind",.ref l])∧H l=some (.tup (us.map V.str))
  | .place us,v=>∃ p l,v=.ref p∧H p=some (.tup [.str "place",.ref l])∧H l=some (.tup (us.map V.str))
  | .weight n,v=>∃ p,v=.ref p∧H p=some (.tup [.str "weight",.int n])
  | .not t,v=>∃ p y,v=.ref p∧H p=some (.tup [.str "not",y])∧Tr.At H t y
  | .both ts,v=>∃ p l xs,v=.ref p∧H p=some (.tup [.str "both",.ref l])∧H l=some (.tup xs)∧Trs.At H ts xs
  | .either ts,v=>∃ p l xs,v=.ref p∧H p=some (.tup [.str "either",.ref l])∧H l=some (.tup xs)∧Trs.At H ts xs
def Trs.At (H:Hp):Trs→List V→Prop
  | .nil,xs=>xs=[]
  | .cons t ts,xs=>∃ y ys,xs=y::ys∧Tr.At H t y∧Trs.At H ts ys
end
theorem trs_at {H:Hp}:∀ {ts:Trs}{xs:List V},Trs.At H ts xs ↔ All2 (Tr.At H) ts.toL xs
  | .nil,xs=>by
    rw [Trs.At,Trs.toL]
    exact ⟨fun h=>h ▸ .nil,fun h=>by cases h; rfl⟩
  | .cons t ts,xs=>by
    rw [Trs.At,Trs.toL]
    constructor
    · rintro ⟨y,ys,rfl,h1,h2⟩
      exact .cons h1 (trs_at.mp h2)
    · intro h
      cases h with
      | cons h1 h2=>exact ⟨_,_,rfl,h1,trs_at.mpr h2⟩
def TupK (H H':Hp):Prop:=∀ b xs,H b=some (.tup xs)→H' b=some (.tup xs)
theorem same_tupK {H H':Hp}(s:Same H H'):TupK H H':=fun b _ e=>s b _ e
mutual
theorem Tr.At.keep {H H':Hp}(s:TupK H H'):∀ {t:Tr}{v:V},Tr.At H t v→Tr.At H' t v
  | .any,v,h=>by rw [Tr.At] at h ⊢; obtain ⟨p,e,h⟩:=h; exact ⟨p,e,s _ _ h⟩
  | .kind us,v,h=>by rw [Tr.At] at h ⊢; obtain ⟨p,l,e,h,k⟩:=h; exact ⟨p,l,e,s _ _ h,s _ _ k⟩
  | .place us,v,h=>by rw [Tr.At] at h ⊢; obtain ⟨p,l,e,h,k⟩:=h; exact ⟨p,l,e,s _ _ h,s _ _ k⟩
  | .weight n,v,h=>by rw [Tr.At] at h ⊢; obtain ⟨p,e,h⟩:=h; exact ⟨p,e,s _ _ h⟩
  | .not t,v,h=>by rw [Tr.At] at h ⊢; obtain ⟨p,y,e,h,k⟩:=h; exact ⟨p,y,e,s _ _ h,Tr.At.keep s k⟩
  | .both ts,v,h=>by rw [Tr.At] at h ⊢; obtain ⟨p,l,xs,e,h,k,m⟩:=h; exact ⟨p,l,xs,e,s _ _ h,s _ _ k,Trs.At.keep s m⟩
  | .either ts,v,h=>by rw [Tr.At] at h ⊢; obtain ⟨p,l,xs,e,h,k,m⟩:=h; exact ⟨p,l,xs,e,s _ _ h,s _ _ k,Trs.At.keep s m⟩
theorem Trs.At.keep {H H':Hp}(s:TupK H H'):∀ {ts:Trs}{xs:List V},Trs.At H ts xs→Trs.At H' ts xs
  | .nil,xs,h=>by rw [Trs.At] at h ⊢; exact h
  | .cons t ts,xs,h=>by rw [Trs.At] at h ⊢; obtain ⟨y,ys,e,h1,h2⟩:=h; exact ⟨y,ys,e,Tr.At.keep s h1,Trs.At.keep s h2⟩
end
theorem Tr.At.same {H H':Hp}{t:Tr}{v:V}(h:Tr.At H t v) (s:Same H H'):Tr.At H' t v:=h.keep (same_tupK s)
theorem but_tupK {H H':Hp}{w:Addr}(W:Well3 H w) (s:But w H H'):TupK H H':=fun b xs e=>s b _ (fun z=>by
  obtain ⟨x,y,u,q⟩:=W
  rw [z,q] at e
  cases e) e
theorem Tr.At.but3 {H H':Hp}{w:Addr}{t:Tr}{v:V}(h:Tr.At H t v) (W:Well3 H w) (s:But w H H'):Tr.At H' t v:=h.keep (but_tupK W s)
structure FC where
  Any:Addr
  Kind:Addr
  Place:Addr
  Least:Addr
  Not:Addr
  Both:Addr
  Either:Addr
  Z:Addr→Prop
def Tr.cls (c:FC):Tr→Addr
  | .any=>c.Any
  | .kind _=>c.Kind
  | .place _=>c.Place
  | .weight _=>c.Least
  | .not _=>c.Not
  | .both _=>c.Both
  | .either _=>c.Either
mutual
def Tr.Fit (c:FC) (H:Hp):Tr→V→Prop
  | .any,v=>∃ p dx,v=.ref p∧H p=some (.ins c.Any dx [])
  | .kind us,v=>∃ p dx l,v=.ref p∧H p=some (.ins c.Kind dx [("names",.ref l)])∧H l=some (.lst (us.map V.str))∧c.Z l
  | .place us,v=>∃ p dx l,v=.ref p∧H p=some (.ins c.Place dx [("names",.ref l)])∧H l=some (.lst (us.map V.str))∧c.Z l
  | .weight n,v=>∃ p dx,v=.ref p∧H p=some (.ins c.Least dx [("weight",.int n)])
  | .not t,v=>∃ p dx y,v=.ref p∧H p=some (.ins c.Not dx [("fit",y)])∧Tr.Fit c H t y
  | .both ts,v=>∃ p dx l xs,v=.ref p∧H p=some (.ins c.Both dx [("fits",.ref l)])∧H l=some (.lst xs)∧c.Z l∧Trs.Fit c H ts xs
  | .either ts,v=>∃ p dx l xs,v=.ref p∧H p=some (.ins c.Either dx [("fits",.ref l)])∧H l=some (.lst xs)∧c.Z l∧Trs.Fit c H ts xs
def Trs.Fit (c:FC) (H:Hp):Trs→List V→Prop
  | .nil,xs=>xs=[]
  | .cons t ts,xs=>∃ y ys,xs=y::ys∧Tr.Fit c H t y∧Trs.Fit c H ts ys
end
theorem trs_fit {c:FC}{H:Hp}:∀ {ts:Trs}{xs:List V},Trs.Fit c H ts xs ↔ All2 (Tr.Fit c H) ts.toL xs
  | .nil,xs=>by
    rw [Trs.Fit,Trs.toL]
    exact ⟨fun h=>h ▸ .nil,fun h=>by cases h; rfl⟩
  | .cons t ts,xs=>by
    rw [Trs.Fit,Trs.toL]
    constructor
    · rintro ⟨y,ys,rfl,h1,h2⟩
      exact .cons h1 (trs_fit.mp h2)
    · intro h
      cases h with
      | cons h1 h2=>exact ⟨_,_,rfl,h1,trs_fit.mpr h2⟩
mutual
theorem Tr.Fit.same {c:FC}{H H':Hp}(s:Same H H'):∀ {t:Tr}{v:V},Tr.Fit c H t v→Tr.Fit c H' t v
  | .any,v,h=>by rw [Tr.Fit] at h ⊢; obtain ⟨p,d,e,h⟩:=h; exact ⟨p,d,e,s _ _ h⟩
  | .kind us,v,h=>by rw [Tr.Fit] at h ⊢; obtain ⟨p,d,l,e,h,k,z⟩:=h; exact ⟨p,d,l,e,s _ _ h,s _ _ k,z⟩
  | .place us,v,h=>by rw [Tr.Fit] at h ⊢; obtain ⟨p,d,l,e,h,k,z⟩:=h; exact ⟨p,d,l,e,s _ _ h,s _ _ k,z⟩
  | .weight n,v,h=>by rw [Tr.Fit] at h ⊢; obtain ⟨p,d,e,h⟩:=h; exact ⟨p,d,e,s _ _ h⟩
  | .not t,v,h=>by rw [Tr.Fit] at h ⊢; obtain ⟨p,d,y,e,h,k⟩:=h; exact ⟨p,d,y,e,s _ _ h,Tr.Fit.same s k⟩
  | .both ts,v,h=>by rw [Tr.Fit] at h ⊢; obtain ⟨p,d,l,xs,e,h,k,z,m⟩:=h; exact ⟨p,d,l,xs,e,s _ _ h,s _ _ k,z,Trs.Fit.same s m⟩
  | .either ts,v,h=>by rw [Tr.Fit] at h ⊢; obtain ⟨p,d,l,xs,e,h,k,z,m⟩:=h; exact ⟨p,d,l,xs,e,s _ _ h,s _ _ k,z,Trs.Fit.same s m⟩
theorem Trs.Fit.same {c:FC}{H H':Hp}(s:Same H H'):∀ {ts:Trs}{xs:List V},Trs.Fit c H ts xs→Trs.Fit c H' ts xs
  | .nil,xs,h=>by rw [Trs.Fit] at h ⊢; exact h
  | .cons t ts,xs,h=>by rw [Trs.Fit] at h ⊢; obtain ⟨y,ys,e,h1,h2⟩:=h; exact ⟨y,ys,e,Tr.Fit.same s h1,Trs.Fit.same s h2⟩
end
mutual
theorem Tr.Fit.mono {c:FC}{Z:Addr→Prop}{H:Hp}(s:∀ l,c.Z l→Z l):∀ {t:Tr}{v:V},Tr.Fit c H t v→Tr.Fit { c with Z:=Z } H t v
  | .any,v,h=>by rw [Tr.Fit] at h ⊢; exact h
  | .kind us,v,h=>by rw [Tr.Fit] at h ⊢; obtain ⟨p,d,l,e,h,k,z⟩:=h; exact ⟨p,d,l,e,h,k,s l z⟩
  | .place us,v,h=>by rw [Tr.Fit] at h ⊢; obtain ⟨p,d,l,e,h,k,z⟩:=h; exact ⟨p,d,l,e,h,k,s l z⟩
  | .weight n,v,h=>by rw [Tr.Fit] at h ⊢; exact h
  | .not t,v,h=>by rw [Tr.Fit] at h ⊢; obtain ⟨p,d,y,e,h,k⟩:=h; exact ⟨p,d,y,e,h,Tr.Fit.mono s k⟩
  | .both ts,v,h=>by rw [Tr.Fit] at h ⊢; obtain ⟨p,d,l,xs,e,h,k,z,m⟩:=h; exact ⟨p,d,l,xs,e,h,k,s l z,Trs.Fit.mono s m⟩
  | .either ts,v,h=>by rw [Tr.Fit] at h ⊢; obtain ⟨p,d,l,xs,e,h,k,z,m⟩:=h; exact ⟨p,d,l,xs,e,h,k,s l z,Trs.Fit.mono s m⟩
theorem Trs.Fit.mono {c:FC}{Z:Addr→Prop}{H:Hp}(s:∀ l,c.Z l→Z l):∀ {ts:Trs}{xs:List V},Trs.Fit c H ts xs→Trs.Fit { c with Z:=Z } H ts xs
  | .nil,xs,h=>by rw [Trs.Fit] at h ⊢; exact h
  | .cons t ts,xs,h=>by rw [Trs.Fit] at h ⊢; obtain ⟨y,ys,e,h1,h2⟩:=h; exact ⟨y,ys,e,Tr.Fit.mono s h1,Trs.Fit.mono s h2⟩
end
mutual
theorem Tr.Fit.but {c:FC}{H H':Hp}{w:Addr}{ws:List V}(hz:∀ l,c.Z l→l≠w) (hw:H w=some (.lst ws)) (s:But w H H'):∀ {t:Tr}{v:V},Tr.Fit c H t v→Tr.Fit c H' t v
  | .any,v,h=>by rw [Tr.Fit] at h ⊢; obtain ⟨p,d,e,h⟩:=h; exact ⟨p,d,e,s _ _ (fun z=>by rw [z,hw] at h; cases h) h⟩
  | .kind us,v,h=>by rw [Tr.Fit] at h ⊢; obtain ⟨p,d,l,e,h,k,z⟩:=h; exact ⟨p,d,l,e,s _ _ (fun z=>by rw [z,hw] at h; cases h) h,s _ _ (hz l z) k,z⟩
  | .place us,v,h=>by rw [Tr.Fit] at h ⊢; obtain ⟨p,d,l,e,h,k,z⟩:=h; exact ⟨p,d,l,e,s _ _ (fun z=>by rw [z,hw] at h; cases h) h,s _ _ (hz l z) k,z⟩
  | .weight n,v,h=>by rw [Tr.Fit] at h ⊢; obtain ⟨p,d,e,h⟩:=h; exact ⟨p,d,e,s _ _ (fun z=>by rw [z,hw] at h; cases h) h⟩
  | .not t,v,h=>by rw [Tr.Fit] at h ⊢; obtain ⟨p,d,y,e,h,k⟩:=h; exact ⟨p,d,y,e,s _ _ (fun z=>by rw [z,hw] at h; cases h) h,Tr.Fit.but hz hw s k⟩
  | .both ts,v,h=>by rw [Tr.Fit] at h ⊢; obtain ⟨p,d,l,xs,e,h,k,z,m⟩:=h; exact ⟨p,d,l,xs,e,s _ _ (fun z=>by rw [z,hw] at h; cases h) h,s _ _ (hz l z) k,z,Trs.Fit.but hz hw s m⟩
  | .either ts,v,h=>by rw [Tr.Fit] at h ⊢; obtain ⟨p,d,l,xs,e,h,k,z,m⟩:=h; exact ⟨p,d,l,xs,e,s _ _ (fun z=>by rw [z,hw] at h; cases h) h,s _ _ (hz l z) k,z,Trs.Fit.but hz hw s m⟩
theorem Trs.Fit.but {c:FC}{H H':Hp}{w:Addr}{ws:List V}(hz:∀ l,c.Z l→l≠w) (hw:H w=some (.lst ws)) (s:But w H H'):∀ {ts:Trs}{xs:List V},Trs.Fit c H ts xs→Trs.Fit c H' ts xs
  | .nil,xs,h=>by rw [Trs.Fit] at h ⊢; exact h
  | .cons t ts,xs,h=>by rw [Trs.Fit] at h ⊢; obtain ⟨y,ys,e,h1,h2⟩:=h; exact ⟨y,ys,e,Tr.Fit.but hz hw s h1,Trs.Fit.but hz hw s h2⟩
end
theorem Tr.Fit.ins {c:FC}{H:Hp}{t:Tr}{v:V}(h:Tr.Fit c H t v):∃ p dx fs,v=.ref p∧H p=some (.ins (t.cls c) dx fs)∧fs.lookup ("fits_it":Str)=none:=by
  cases t with
  | any=>rw [Tr.Fit] at h; obtain ⟨p,d,e,h⟩:=h; exact ⟨p,d,_,e,h,rfl⟩
  | kind us=>rw [Tr.Fit] at h; obtain ⟨p,d,l,e,h,_⟩:=h; exact ⟨p,d,_,e,h,rfl⟩
  | place us=>rw [Tr.Fit] at h; obtain ⟨p,d,l,e,h,_⟩:=h; exact ⟨p,d,_,e,h,rfl⟩
  | weight n=>rw [Tr.Fit] at h; obtain ⟨p,d,e,h⟩:=h; exact ⟨p,d,_,e,h,rfl⟩
  | not t=>rw [Tr.Fit] at h; obtain ⟨p,d,y,e,h,_⟩:=h; exact ⟨p,d,_,e,h,rfl⟩
  | both ts=>rw [Tr.Fit] at h; obtain ⟨p,d,l,xs,e,h,_⟩:=h; exact ⟨p,d,_,e,h,rfl⟩
  | either ts=>rw [Tr.Fit] at h; obtain ⟨p,d,l,xs,e,h,_⟩:=h; exact ⟨p,d,_,e,h,rfl⟩
def DtAt (H:Hp) (n:Nat) (x:V):Prop:=∃ d,RD H x d∧PyData.canLay0 d=true∧PyData.depth d≤n
theorem DtAt.mono {H:Hp}{n m:Nat}{x:V}(h:DtAt H n x) (k:n≤m):DtAt H m x:=let ⟨d,r,c,e⟩:=h; ⟨d,r,c,Nat.le_trans e k⟩
theorem dts {H:Hp}{n:Nat}:∀ {xs:List V},(∀ x∈xs,DtAt H n x)→∃ ds,RDs H xs ds∧PyData.canLayAll0 ds=true∧PyData.depthAll ds≤n∧ds.length=xs.length
  | [],_=>⟨[],.nil,by simp [PyData.canLayAll0],by simp [PyData.depthAll],rfl⟩
  | x::xs,h=>by
    obtain ⟨d,r,c,e⟩:=h x List.mem_cons_self
    obtain ⟨ds,rs,cs,es,ls⟩:=dts (xs:=xs) fun y m=>h y (List.mem_cons_of_mem _ m)
    exact ⟨d::ds,.cons r rs,by simp only [PyData.canLayAll0,c,cs,Bool.and_self],by simp only [PyData.depthAll]; exact Nat.max_le.mpr ⟨e,es⟩,by rw [List.length_cons,List.length_cons,ls]⟩
theorem dt_tup {H:Hp}{n:Nat}{p:Addr}{xs:List V}(h:H p=some (.tup xs)) (hx:∀ x∈xs,DtAt H n x):DtAt H (n+1) (.ref p):=by
  obtain ⟨ds,rs,cs,es,_⟩:=dts hx
  exact ⟨.tuple ds,.tup h rs,by simp only [PyData.canLay0]; exact cs,by simp only [PyData.depth]; omega⟩
theorem dt_str {H:Hp}{n:Nat}{u:Str}(h:PyData.strOk u=true):DtAt H n (.str u):=⟨.str u,.str u,by simp only [PyData.canLay0]; exact h,by simp only [PyData.depth]; omega⟩
theorem dt_int {H:Hp}{n:Nat}{i:Int}:DtAt H n (.int i):=⟨.int i,.int i,by simp only [PyData.canLay0],by simp only [PyData.depth]; omega⟩
theorem dt_strs {H:Hp}{n:Nat}{us:List Str}(h:∀ u∈us,goodN u):∀ x∈us.map V.str,DtAt H n x:=fun x hx=>by
  obtain ⟨u,hu,rfl⟩:=List.mem_map.mp hx
  exact dt_str (good_str (h u hu))
theorem dt_two {H:Hp}{n:Nat}{x y:V}(h1:DtAt H n x) (h2:DtAt H n y):∀ z∈[x,y],DtAt H n z:=fun z hz=>by
  simp only [List.mem_cons,List.not_mem_nil,or_false] at hz
  rcases hz with rfl | rfl
  · exact h1
  · exact h2
mutual
theorem Tr.At.dt {H:Hp}:∀ {t:Tr}{v:V},t.ok→t.At H v→DtAt H (2 * t.dp+2) v
  | .any,v,ho,h=>by
    rw [Tr.At] at h
    rw [Tr.dp]
    obtain ⟨p,rfl,h⟩:=h
    exact dt_tup h fun x hx=>by rw [List.mem_singleton.mp hx]; exact dt_str (by decide +kernel)
  | .kind us,v,ho,h=>by
    rw [Tr.At] at h
    rw [Tr.ok] at ho
    rw [Tr.dp]
    obtain ⟨p,l,rfl,h,k⟩:=h
    exact dt_tup h (dt_two (dt_str (by decide +kernel)) (dt_tup k (dt_strs ho.2.2.1)))
  | .place us,v,ho,h=>by
    rw [Tr.At] at h
    rw [Tr.ok] at ho
    rw [Tr.dp]
    obtain ⟨p,l,rfl,h,k⟩:=h
    exact dt_tup h (dt_two (dt_str (by decide +kernel)) (dt_tup k (dt_strs ho.2.2.1)))
  | .weight n,v,ho,h=>by
    rw [Tr.At] at h
    rw [Tr.dp]
    obtain ⟨p,rfl,h⟩:=h
    exact dt_tup h (dt_two (dt_str (by decide +kernel)) dt_int)
  | .not t,v,ho,h=>by
    rw [Tr.At] at h
    rw [Tr.ok] at ho
    rw [Tr.dp]
    obtain ⟨p,y,rfl,h,k⟩:=h
    exact (dt_tup h (dt_two (dt_str (by decide +kernel)) (Tr.At.dt ho k))).mono (by omega)
  | .both ts,v,ho,h=>by
    rw [Tr.At] at h
    rw [Tr.ok] at ho
    rw [Tr.dp]
    obtain ⟨p,l,xs,rfl,h,k,m⟩:=h
    exact (dt_tup h (dt_two (dt_str (by decide +kernel)) (dt_tup k (Trs.At.dt ho.2.2 m)))).mono (by omega)
  | .either ts,v,ho,h=>by
    rw [Tr.At] at h
    rw [Tr.ok] at ho
    rw [Tr.dp]
    obtain ⟨p,l,xs,rfl,h,k,m⟩:=h
    exact (dt_tup h (dt_two (dt_str (by decide +kernel)) (dt_tup k (Trs.At.dt ho.2.2 m)))).mono (by omega)
theorem Trs.At.dt {H:Hp}:∀ {ts:Trs}{xs:List V},ts.ok→ts.At H xs→∀ x∈xs,DtAt H (2 * ts.dp+2) x
  | .nil,xs,_,h=>by
    rw [Trs.At] at h
    rw [h]
    intro x hx
    cases hx
  | .cons t ts,xs,ho,h=>by
    rw [Trs.At] at h
    rw [Trs.ok] at ho
    rw [Trs.dp]
    obtain ⟨y,ys,rfl,h1,h2⟩:=h
    intro x hx
    rcases List.mem_cons.mp hx with rfl | hx
    · exact (Tr.At.dt ho.1 h1).mono (by omega)
    · exact (Trs.At.dt ho.2 h2 x hx).mono (by omega)
end
theorem eqd_nil {H:Hp}{p q:Addr}{xs:List V}{n:Nat}{b:Bool}{Q:VK}(h1:H p=some (.lst xs)) (h2:H q=some (.lst [])) (hn:n≤60) (hx:∀ x∈xs,DtAt H n x) (k:Q (.bl (xs.isEmpty == b)) H):rEqD b (.ref p) (.ref q) H Q:=by
  obtain ⟨ds,rs,cs,es,ls⟩:=dts hx
  refine ⟨_,_,.lst h1 rs,.lst h2 .nil,(shaped_of (Nat.le_trans es hn) ⟨cs,rfl⟩).1,(shaped_of (Nat.zero_le _) ⟨by simp [PyData.canLayAll0],by simp [PyData.depthAll]⟩).1,?_⟩
  rw [eqv_nil]
  have:ds.isEmpty=xs.isEmpty:=by
    cases ds <;> cases xs <;> first | rfl | cases ls
  rw [this]
  exact k
def ThAt (H:Hp) (x:V) (k p:Str) (w:Int):Prop:=∃ tp,x=.ref tp∧H tp=some (.tup [.str k,.str p,.int w])∧goodN k∧goodN p∧0≤w∧w < 1000000
theorem ThAt.same {H H':Hp}{x:V}{k p:Str}{w:Int}(h:ThAt H x k p w) (s:Same H H'):ThAt H' x k p w:=by
  obtain ⟨tp,e,h,r⟩:=h
  exact ⟨tp,e,s _ _ h,r⟩
end Bw
set_option Elab.async false
set_option linter.all false
set_option maxRecDepth 100000
set_option maxHeartbeats 1000000
namespace Bw
open PySem PySem.Spec PyProof.Rows L2
section
variable {prog:Program}{w:World}{A:Around}{E:Value→Shared→Prop}
end
section
variable {X:Cx}{pos:Pos}
def gLst (K:PySem.W.Frag) (n:Nat) (t:TGs):TG:=fun v σ H Q=>∃ a xs,v=.ref a∧SqL K H a xs∧xs.length=n∧t xs σ H Q
theorem w_gLst {K:PySem.W.Frag}{n:Nat}{t:TGs}{v:V}{σ:L2.St}{H:Hp}{QS:L2.St→Hp→Prop}:gLst K n t v σ H QS=∃ a xs,v=.ref a∧SqL K H a xs∧xs.length=n∧t xs σ H QS:=rfl
end
end Bw
set_option Elab.async false
set_option linter.all false
set_option maxRecDepth 100000
set_option maxHeartbeats 1000000
namespace Bw
open PySem PySem.Spec PyProof.Rows L2
mutual
def Tr.okl:Tr→Prop
  | .any=>True
  | .kind us=>okNs us
  | .place us=>okNs us
  | .weight n=>0≤n∧n < 1000000
  | .not t=>Tr.okl t
  | .both ts=>Trs.okl ts
  | .either ts=>Trs.okl ts
def Trs.okl:Trs→Prop
  | .nil=>True
  | .cons t ts=>Tr.okl t∧Trs.okl ts
end
theorem trs_okl:∀ {ts:Trs},ts.okl ↔ ∀ t∈ts.toL,t.okl
  | .nil=>⟨fun _ t h=>(by cases h),fun _=>trivial⟩
  | .cons s ts=>by
    rw [Trs.toL,Trs.okl,trs_okl]
    exact ⟨fun h t m=>by
      rcases List.mem_cons.mp m with rfl | m
      · exact h.1
      · exact h.2 t m,fun h=>⟨h s List.mem_cons_self,fun t m=>h t (List.mem_cons_of_mem _ m)⟩⟩
mutual
theorem Tr.ok.l:∀ {t:Tr},t.ok→t.okl
  | .any,_=>trivial
  | .kind us,h=>by rw [Tr.ok] at h; rw [Tr.okl]; exact h
  | .place us,h=>by rw [Tr.ok] at h; rw [Tr.okl]; exact h
  | .weight n,h=>by rw [Tr.ok] at h; rw [Tr.okl]; exact h
  | .not t,h=>by rw [Tr.ok] at h; rw [Tr.okl]; exact Tr.ok.l h
  | .both ts,h=>by rw [Tr.ok] at h; rw [Tr.okl]; exact Trs.ok.l h.2.2
  | .either ts,h=>by rw [Tr.ok] at h; rw [Tr.okl]; exact Trs.ok.l h.2.2
theorem Trs.ok.l:∀ {ts:Trs},ts.ok→ts.okl
  | .nil,_=>trivial
  | .cons t ts,h=>by rw [Trs.ok] at h; rw [Trs.okl]; exact ⟨Tr.ok.l h.1,Trs.ok.l h.2⟩
end
end Bw
set_option Elab.async false
set_option linter.all false
set_option maxRecDepth 100000
set_option maxHeartbeats 1000000
namespace Bw
open PySem PySem.Spec PyProof.Rows L2
theorem vals_rng:∀ (us:List Value) (k:Nat),(∀ (j:Nat) (v:Value),us[j]?=some v→∃ t,v=.int ((k+j:Nat):Int) t)→Vals ((List.range' k us.length).map fun i=>V.int (i:Nat)) us
  | [],_,_=>.nil
  | u::us,k,h=>by
    rw [List.length_cons,List.range'_succ,List.map_cons]
    refine .cons (h 0 u rfl) (vals_rng us (k+1) fun j v e=>?_)
    obtain ⟨t,q⟩:=h (j+1) v e
    exact ⟨t,by rw [q]; congr 1; omega⟩
theorem call_rngO {X:Cx}:CallR X (.type "range") (fun xs H Q=>∃ j:Int,xs=[.int j]∧-(2 ^ 62)≤j∧j < 2 ^ 62∧∀ p,H p=none→Q (.ref p) (L2.upd H p (.rng 0 j))):=by
  intro pins s σ H xs us Q I r h
  obtain ⟨j,rfl,j0,j1,q⟩:=h
  obtain ⟨u,rfl,t,rfl⟩:=vals1 r
  refine call_range_1 ?_
  exact ⟨.ref s.heap.objs.size,_,I.laid (t':=s.toks+1+1) (fun b o e=>Heap.get?_push_of_some _ e) (Nat.le_refl _) (show ObjOk X.prog X.w _ _ _ (.rng 0 j) from ⟨_,_,_,Heap.get?_push_size _ rfl⟩),rfl,q _ (I.hok.fresh (Nat.le_refl _))⟩
theorem call_listR {X:Cx}(hc:X.calm=true):CallR X (.type "list") (fun xs H Q=>∃ (p:Addr) (n:Nat),xs=[.ref p]∧H p=some (.rng 0 n)∧n≤1000∧∀ l,H l=none→Q (.ref l) (L2.upd H l (.lst ((List.range n).map fun i=>V.int (i:Nat))))):=by
  intro pins s σ H xs us Q I r h
  obtain ⟨p,n,rfl,hp,hn,q⟩:=h
  obtain ⟨u,rfl,rx⟩:=vals1 r
  cases rx
  obtain ⟨t,u,v,e⟩:=(show ObjOk X.prog X.w H s.heap p (.rng 0 n) from I.hok p _ hp)
  refine call_list_range (I.ok.hd hc) (show IsRange s.heap p 0 n 1 t u v from e) (small_one (by omega) (by omega) (by omega) (by omega)) (n:=n) (by rw [rangeSize_one]; split <;> omega) (by omega) fun h' tk acc c hk hS hI=>?_
  have la:acc.toList.length=n:=by rw [Array.length_toList]; exact hI.1
  have rv:Vals ((List.range n).map fun i=>V.int (i:Nat)) acc.toList:=by
    have:=vals_rng acc.toList 0 fun j v e=>by
      obtain ⟨t,q⟩:=hI.2 j v (by simpa using e)
      exact ⟨t,by rw [q]; congr 1; omega⟩
    rw [la] at this
    rw [List.range_eq_range']
    exact this
  exact ⟨.ref s.heap.objs.size,_,I.laid (t':=tk) hk (Nat.le_refl _) (show ObjOk X.prog X.w _ h' _ (.lst ((List.range n).map fun i=>V.int (i:Nat))) from ⟨by rw [List.length_map,List.length_range]; exact sz8 hn,acc.toList,c,rv,by simpa using hS⟩),rfl,q _ (I.hok.fresh (Nat.le_refl _))⟩
end Bw
set_option Elab.async false
set_option linter.all false
set_option maxRecDepth 100000
set_option maxHeartbeats 8000000
namespace Bw
open PySem L2
local macro_rules | `(tactic| walk_at "w0") => `(tactic| try simp only [w_seq, w_next, w_ifS, w_ret, w_retN, w_drop, w_asg, w_gName, w_gSub, w_var, w_c, w_op, w_un, w_rU, w_rI0, w_rI, w_test, w_b, w_and, w_or, w_not, w_andV, w_orV, w_notV, w_if, w_cons, w_nil, w_tup, w_lst, w_call, w_cB, w_eq, w_ne, w_isN, w_notN, w_chain, w_sl, w_part, w_noPart, w_forL, w_for1, w_for2, w_K, w_for3, w_isnotB, w_raise, w_try, w_KX, w_cut, w_compL, w_comp1, w_comp2, w_yes, w_pick0, w_pickN, w_pickS, w_bm, w_bm0, w_tyS, w_addS, w_slS, w_blkK, w_strs, w_methD, w_makeN, w_make, w_fld, w_gTup, w_gCons, w_gNil, w_sFld, w_compS, w_tryB, w_bmake, w_noKeys, w_compT, w_forT, w_revL, w_gLst, w_bIf, w_makeK, w_nev, w_never, Option.getD_some,  exists_const, false_or, or_false, exists_false, w_s1, w_s2, w_s3, w_s4, w_s5, L2.start, List.map_cons, List.map_nil, List.length_cons, List.length_nil, List.replicate, List.replicate_zero, List.replicate_succ, Nat.reduceAdd, Nat.reduceSub, Nat.reduceLeDiff, List.cons_append, List.nil_append, List.append_nil, List.set_cons_zero, List.set_cons_succ, List.getElem?_cons_zero, List.getElem?_cons_succ, Option.some.injEq, V.int.injEq, V.bl.injEq, V.ref.injEq, V.str.injEq, V.ty.injEq, List.cons.injEq, and_true, true_and, exists_eq_left, exists_eq_left', exists_and_left, exists_eq, exists_eq', and_self, decide_eq_true_eq, Bool.not_eq_true', decide_eq_false_iff_not, Bool.true_eq_false, Bool.false_eq_true, if_true, if_false, ite_true, ite_false, false_and, and_false, and_assoc, reduceCtorEq])
local macro_rules | `(tactic| exists $[$es:term],*) => `(tactic| try simp only [$[$es:term],*, w_seq, w_next, w_ifS, w_ret, w_retN, w_drop, w_asg, w_gName, w_gSub, w_var, w_c, w_op, w_un, w_rU, w_rI0, w_rI, w_test, w_b, w_and, w_or, w_not, w_andV, w_orV, w_notV, w_if, w_cons, w_nil, w_tup, w_lst, w_call, w_cB, w_eq, w_ne, w_isN, w_notN, w_chain, w_sl, w_part, w_noPart, w_forL, w_for1, w_for2, w_K, w_for3, w_isnotB, w_raise, w_try, w_KX, w_cut, w_compL, w_comp1, w_comp2, w_yes, w_pick0, w_pickN, w_pickS, w_bm, w_bm0, w_tyS, w_addS, w_slS, w_blkK, w_strs, w_methD, w_makeN, w_make, w_fld, w_gTup, w_gCons, w_gNil, w_sFld, w_compS, w_tryB, w_bmake, w_noKeys, w_compT, w_forT, w_revL, w_gLst, w_bIf, w_makeK, w_nev, w_never, Option.getD_some,  exists_const, false_or, or_false, exists_false, w_s1, w_s2, w_s3, w_s4, w_s5, L2.start, List.map_cons, List.map_nil, List.length_cons, List.length_nil, List.replicate, List.replicate_zero, List.replicate_succ, Nat.reduceAdd, Nat.reduceSub, Nat.reduceLeDiff, List.cons_append, List.nil_append, List.append_nil, List.set_cons_zero, List.set_cons_succ, List.getElem?_cons_zero, List.getElem?_cons_succ, Option.some.injEq, V.int.injEq, V.bl.injEq, V.ref.injEq, V.str.injEq, V.ty.injEq, List.cons.injEq, and_true, true_and, exists_eq_left, exists_eq_left', exists_and_left, exists_eq, exists_eq', and_self, decide_eq_true_eq, Bool.not_eq_true', decide_eq_false_iff_not, Bool.true_eq_false, Bool.false_eq_true, if_true, if_false, ite_true, ite_false, false_and, and_false, and_assoc, reduceCtorEq])
def top (i:Nat):Stmt:=PySem.Challenge.pw_bellsaway_k14_the_line_that_wins.main.body.getD i (.Pass ⟨0,0,0,0⟩)
abbrev s_is_whole:Stmt:=top 8
theorem sc_is_whole:FnScope ["thing"] ["thing"] (defScope s_is_whole):=⟨rfl,rfl,rfl,by decide +kernel,rfl,by decide +kernel,by decide +kernel⟩
abbrev s_is_whole_between:Stmt:=top 9
theorem sc_is_whole_between:FnScope ["thing","least","most"] ["thing","least","most"] (defScope s_is_whole_between):=⟨rfl,rfl,rfl,by decide +kernel,rfl,by decide +kernel,by decide +kernel⟩
abbrev s_is_whole_from:Stmt:=top 10
theorem sc_is_whole_from:FnScope ["thing","least"] ["thing","least"] (defScope s_is_whole_from):=⟨rfl,rfl,rfl,by decide +kernel,rfl,by decide +kernel,by decide +kernel⟩
abbrev s_is_minute_of_day:Stmt:=top 14
theorem sc_is_minute_of_day:FnScope ["thing"] ["thing"] (defScope s_is_minute_of_day):=⟨rfl,rfl,rfl,by decide +kernel,rfl,by decide +kernel,by decide +kernel⟩
abbrev s_is_quiet_hours:Stmt:=top 15
theorem sc_is_quiet_hours:FnScope ["thing"] ["thing"] (defScope s_is_quiet_hours):=⟨rfl,rfl,rfl,by decide +kernel,rfl,by decide +kernel,by decide +kernel⟩
abbrev s_check_zone:Stmt:=top 16
theorem sc_check_zone:FnScope ["zone"] ["zone"] (defScope s_check_zone):=⟨rfl,rfl,rfl,by decide +kernel,rfl,by decide +kernel,by decide +kernel⟩
abbrev s_check_quiet:Stmt:=top 17
theorem sc_check_quiet:FnScope ["quiet"] ["quiet"] (defScope s_check_quiet):=⟨rfl,rfl,rfl,by decide +kernel,rfl,by decide +kernel,by decide +kernel⟩
abbrev s_check_minute_of_hour:Stmt:=top 18
theorem sc_check_minute_of_hour:FnScope ["minute"] ["minute"] (defScope s_check_minute_of_hour):=⟨rfl,rfl,rfl,by decide +kernel,rfl,by decide +kernel,by decide +kernel⟩
abbrev s_is_name:Stmt:=top 22
theorem sc_is_name:FnScope ["thing"] ["thing"] (defScope s_is_name):=⟨rfl,rfl,rfl,by decide +kernel,rfl,by decide +kernel,by decide +kernel⟩
abbrev s_Happening___init__:Stmt:=inClass (top 23) 0
theorem sc_Happening___init__:FnScope ["self","kind","place","weight"] ["self","kind","place","weight"] (defScope s_Happening___init__):=⟨rfl,rfl,rfl,by decide +kernel,rfl,by decide +kernel,by decide +kernel⟩
abbrev s_are_unlike_names:Stmt:=top 25
theorem sc_are_unlike_names:FnScope ["thing"] ["thing"] (defScope s_are_unlike_names):=⟨rfl,rfl,rfl,by decide +kernel,rfl,by decide +kernel,by decide +kernel⟩
abbrev s_Any_fits_it:Stmt:=inClass (top 28) 0
theorem sc_Any_fits_it:FnScope ["self","happening"] ["self","happening"] (defScope s_Any_fits_it):=⟨rfl,rfl,rfl,by decide +kernel,rfl,by decide +kernel,by decide +kernel⟩
abbrev s_Kind___init__:Stmt:=inClass (top 29) 0
theorem sc_Kind___init__:FnScope ["self","names"] ["self","names"] (defScope s_Kind___init__):=⟨rfl,rfl,rfl,by decide +kernel,rfl,by decide +kernel,by decide +kernel⟩
abbrev s_Kind_fits_it:Stmt:=inClass (top 29) 1
theorem sc_Kind_fits_it:FnScope ["self","happening"] ["self","happening"] (defScope s_Kind_fits_it):=⟨rfl,rfl,rfl,by decide +kernel,rfl,by decide +kernel,by decide +kernel⟩
abbrev s_Place___init__:Stmt:=inClass (top 30) 0
theorem sc_Place___init__:FnScope ["self","names"] ["self","names"] (defScope s_Place___init__):=⟨rfl,rfl,rfl,by decide +kernel,rfl,by decide +kernel,by decide +kernel⟩
abbrev s_Place_fits_it:Stmt:=inClass (top 30) 1
theorem sc_Place_fits_it:FnScope ["self","happening"] ["self","happening"] (defScope s_Place_fits_it):=⟨rfl,rfl,rfl,by decide +kernel,rfl,by decide +kernel,by decide +kernel⟩
abbrev s_Least___init__:Stmt:=inClass (top 31) 0
theorem sc_Least___init__:FnScope ["self","weight"] ["self","weight"] (defScope s_Least___init__):=⟨rfl,rfl,rfl,by decide +kernel,rfl,by decide +kernel,by decide +kernel⟩
abbrev s_Least_fits_it:Stmt:=inClass (top 31) 1
theorem sc_Least_fits_it:FnScope ["self","happening"] ["self","happening"] (defScope s_Least_fits_it):=⟨rfl,rfl,rfl,by decide +kernel,rfl,by decide +kernel,by decide +kernel⟩
abbrev s_Not___init__:Stmt:=inClass (top 32) 0
theorem sc_Not___init__:FnScope ["self","fit"] ["self","fit"] (defScope s_Not___init__):=⟨rfl,rfl,rfl,by decide +kernel,rfl,by decide +kernel,by decide +kernel⟩
abbrev s_Not_fits_it:Stmt:=inClass (top 32) 1
theorem sc_Not_fits_it:FnScope ["self","happening"] ["self","happening"] (defScope s_Not_fits_it):=⟨rfl,rfl,rfl,by decide +kernel,rfl,by decide +kernel,by decide +kernel⟩
abbrev s_Both___init__:Stmt:=inClass (top 33) 0
theorem sc_Both___init__:FnScope ["self","fits"] ["self","fits"] (defScope s_Both___init__):=⟨rfl,rfl,rfl,by decide +kernel,rfl,by decide +kernel,by decide +kernel⟩
abbrev s_Both_fits_it:Stmt:=inClass (top 33) 1
theorem sc_Both_fits_it:FnScope ["self","happening"] ["self","happening"] (defScope s_Both_fits_it):=⟨rfl,rfl,rfl,by decide +kernel,rfl,by decide +kernel,by decide +kernel⟩
abbrev s_Either___init__:Stmt:=inClass (top 34) 0
theorem sc_Either___init__:FnScope ["self","fits"] ["self","fits"] (defScope s_Either___init__):=⟨rfl,rfl,rfl,by decide +kernel,rfl,by decide +kernel,by decide +kernel⟩
abbrev s_Either_fits_it:Stmt:=inClass (top 34) 1
theorem sc_Either_fits_it:FnScope ["self","happening"] ["self","happening"] (defScope s_Either_fits_it):=⟨rfl,rfl,rfl,by decide +kernel,rfl,by decide +kernel,by decide +kernel⟩
abbrev s_check_names:Stmt:=top 35
theorem sc_check_names:FnScope ["names"] ["names"] (defScope s_check_names):=⟨rfl,rfl,rfl,by decide +kernel,rfl,by decide +kernel,by decide +kernel⟩
abbrev s_check_fit:Stmt:=top 36
theorem sc_check_fit:FnScope ["fit"] ["fit"] (defScope s_check_fit):=⟨rfl,rfl,rfl,by decide +kernel,rfl,by decide +kernel,by decide +kernel⟩
abbrev s_check_fits:Stmt:=top 37
theorem sc_check_fits:FnScope ["fits","fit"] ["fits"] (defScope s_check_fits):=⟨rfl,rfl,rfl,by decide +kernel,rfl,by decide +kernel,by decide +kernel⟩
abbrev s_Hour___init__:Stmt:=inClass (top 40) 0
theorem sc_Hour___init__:FnScope ["self","minute"] ["self","minute"] (defScope s_Hour___init__):=⟨rfl,rfl,rfl,by decide +kernel,rfl,by decide +kernel,by decide +kernel⟩
abbrev s_Line___init__:Stmt:=inClass (top 44) 0
theorem sc_Line___init__:FnScope ["self","fit","way","roads","sure","raised"] ["self","fit","way","roads","sure","raised"] (defScope s_Line___init__):=⟨rfl,rfl,rfl,by decide +kernel,rfl,by decide +kernel,by decide +kernel⟩
abbrev s_check_by_way:Stmt:=top 45
theorem sc_check_by_way:FnScope ["way","roads","sure","raised"] ["way","roads","sure","raised"] (defScope s_check_by_way):=⟨rfl,rfl,rfl,by decide +kernel,rfl,by decide +kernel,by decide +kernel⟩
abbrev s_Wishes___init__:Stmt:=inClass (top 46) 0
theorem sc_Wishes___init__:FnScope ["self","zone","quiet","wake","lines"] ["self","zone","quiet","wake","lines"] (defScope s_Wishes___init__):=⟨rfl,rfl,rfl,by decide +kernel,rfl,by decide +kernel,by decide +kernel⟩
abbrev s_Wishes_winning:Stmt:=inClass (top 46) 1
theorem sc_Wishes_winning:FnScope ["self","happening","line"] ["self","happening"] (defScope s_Wishes_winning):=⟨rfl,rfl,rfl,by decide +kernel,rfl,by decide +kernel,by decide +kernel⟩
abbrev s_Wishes_line_for:Stmt:=inClass (top 46) 2
theorem sc_Wishes_line_for:FnScope ["self","happening","line"] ["self","happening"] (defScope s_Wishes_line_for):=⟨rfl,rfl,rfl,by decide +kernel,rfl,by decide +kernel,by decide +kernel⟩
abbrev s_check_wake:Stmt:=top 47
theorem sc_check_wake:FnScope ["wake","quiet"] ["wake","quiet"] (defScope s_check_wake):=⟨rfl,rfl,rfl,by decide +kernel,rfl,by decide +kernel,by decide +kernel⟩
abbrev s_check_lines:Stmt:=top 48
theorem sc_check_lines:FnScope ["lines"] ["lines"] (defScope s_check_lines):=⟨rfl,rfl,rfl,by decide +kernel,rfl,by decide +kernel,by decide +kernel⟩
abbrev s_law_cell_at:Stmt:=top 50
theorem sc_law_cell_at:FnScope ["_law_script","_law_k"] ["_law_script","_law_k"] (defScope s_law_cell_at):=⟨rfl,rfl,rfl,by decide +kernel,rfl,by decide +kernel,by decide +kernel⟩
abbrev s_law_begin:Stmt:=top 51
theorem sc_law_begin:FnScope ["_law_cell"] ["_law_cell"] (defScope s_law_begin):=⟨rfl,rfl,rfl,by decide +kernel,rfl,by decide +kernel,by decide +kernel⟩
abbrev s_law_next:Stmt:=top 52
theorem sc_law_next:FnScope ["_law_state","_law_base","_law_found","_law_number_here"] ["_law_state","_law_base"] (defScope s_law_next):=⟨rfl,rfl,rfl,by decide +kernel,rfl,by decide +kernel,by decide +kernel⟩
abbrev s_law_name:Stmt:=top 53
theorem sc_law_name:FnScope ["_law_state","_law_letters","_law_way","_law_some","_law_word","_law_at"] ["_law_state"] (defScope s_law_name):=⟨rfl,rfl,rfl,by decide +kernel,rfl,by decide +kernel,by decide +kernel⟩
abbrev s_law_leaf:Stmt:=top 54
theorem sc_law_leaf:FnScope ["_law_state","_law_more","_law_kind","_law_names","_law_k","_law_name_here"] ["_law_state","_law_more"] (defScope s_law_leaf):=⟨rfl,rfl,rfl,by decide +kernel,rfl,by decide +kernel,by decide +kernel⟩
abbrev s_law_tree:Stmt:=top 55
theorem sc_law_tree:FnScope ["_law_state","_law_deep","_law_more","_law_kind","_law_parts"] ["_law_state","_law_deep","_law_more"] (defScope s_law_tree):=⟨rfl,rfl,rfl,by decide +kernel,rfl,by decide +kernel,by decide +kernel⟩
abbrev s_law_made:Stmt:=top 56
theorem sc_law_made:FnScope ["_law_tree_here"] ["_law_tree_here"] (defScope s_law_made):=⟨rfl,rfl,rfl,by decide +kernel,rfl,by decide +kernel,by decide +kernel⟩
abbrev s_law_fits:Stmt:=top 57
theorem sc_law_fits:FnScope ["_law_tree_here","_law_thing"] ["_law_tree_here","_law_thing"] (defScope s_law_fits):=⟨rfl,rfl,rfl,by decide +kernel,rfl,by decide +kernel,by decide +kernel⟩
abbrev s_law_gathered:Stmt:=top 58
theorem sc_law_gathered:FnScope ["_law_tree_here","_law_word","_law_found","_law_part"] ["_law_tree_here","_law_word"] (defScope s_law_gathered):=⟨rfl,rfl,rfl,by decide +kernel,rfl,by decide +kernel,by decide +kernel⟩
abbrev s_law_pick:Stmt:=top 59
theorem sc_law_pick:FnScope ["_law_state","_law_some"] ["_law_state","_law_some"] (defScope s_law_pick):=⟨rfl,rfl,rfl,by decide +kernel,rfl,by decide +kernel,by decide +kernel⟩
abbrev s_law_things:Stmt:=top 60
theorem sc_law_things:FnScope ["_law_script","_law_trees","_law_whole","_law_kinds","_law_places","_law_weights","_law_found","_law_cell","_law_state","_law_weight"] ["_law_script","_law_trees"] (defScope s_law_things):=⟨rfl,rfl,rfl,by decide +kernel,rfl,by decide +kernel,by decide +kernel⟩
abbrev s_law_lines:Stmt:=top 61
theorem sc_law_lines:FnScope ["_law_trees","_law_never","_law_found","_law_k"] ["_law_trees","_law_never"] (defScope s_law_lines):=⟨rfl,rfl,rfl,by decide +kernel,rfl,by decide +kernel,by decide +kernel⟩
abbrev s_law_number:Stmt:=top 62
theorem sc_law_number:FnScope ["_law_line","_law_never"] ["_law_line","_law_never"] (defScope s_law_number):=⟨rfl,rfl,rfl,by decide +kernel,rfl,by decide +kernel,by decide +kernel⟩
abbrev s_law_due:Stmt:=top 63
theorem sc_law_due:FnScope ["_law_trees","_law_order","_law_thing","_law_k"] ["_law_trees","_law_order","_law_thing"] (defScope s_law_due):=⟨rfl,rfl,rfl,by decide +kernel,rfl,by decide +kernel,by decide +kernel⟩
abbrev s_law_right:Stmt:=top 64
theorem sc_law_right:FnScope ["_law_wishes","_law_trees","_law_order","_law_never","_law_thing","_law_turned","_law_due_here","_law_happening","_law_told"] ["_law_wishes","_law_trees","_law_order","_law_never","_law_thing","_law_turned"] (defScope s_law_right):=⟨rfl,rfl,rfl,by decide +kernel,rfl,by decide +kernel,by decide +kernel⟩
abbrev s_law:Stmt:=top 65
theorem sc_law:FnScope ["_law_script","_law_state","_law_many","_law_trees","_law_never","_law_lines_here","_law_order","_law_one","_law_other","_law_thing","_law_k"] ["_law_script"] (defScope s_law):=⟨rfl,rfl,rfl,by decide +kernel,rfl,by decide +kernel,by decide +kernel⟩
structure Ad where
  Happening:Addr
  Fit:Addr
  Any:Addr
  Kind:Addr
  Place:Addr
  Least:Addr
  Not:Addr
  Both:Addr
  Either:Addr
  Way:Addr
  Hour:Addr
  Never:Addr
  Raised:Addr
  Line:Addr
  Wishes:Addr
  t0:Tok
  t1:Tok
  t2:Tok
  t3:Tok
structure Bt (K:PySem.W.Frag) (mg:Str→Option Value) (a:Ad):Prop where
  len:mg "len"=none
  int:mg "int"=none
  bool:mg "bool"=none
  str:mg "str"=none
  tuple:mg "tuple"=none
  list:mg "list"=none
  all:mg "all"=none
  any:mg "any"=none
  isinstance:mg "isinstance"=none
  range:mg "range"=none
  set:mg "set"=none
  max:mg "max"=none
  min:mg "min"=none
  MINUTES_OF_HOUR:mg "MINUTES_OF_HOUR"=some (.int 60 a.t0)
  MINUTES_OF_DAY:mg "MINUTES_OF_DAY"=some (.int 1440 a.t1)
  LETTERS:mg "LETTERS"=some (.str "abcdefghijklmnopqrstuvwxyz" a.t2)
  MOST_LETTERS:mg "MOST_LETTERS"=some (.int 8 a.t3)
  Happening:mg "Happening"=some (.ref a.Happening)
  Fit:mg "Fit"=some (.ref a.Fit)
  Any:mg "Any"=some (.ref a.Any)
  Kind:mg "Kind"=some (.ref a.Kind)
  Place:mg "Place"=some (.ref a.Place)
  Least:mg "Least"=some (.ref a.Least)
  Not:mg "Not"=some (.ref a.Not)
  Both:mg "Both"=some (.ref a.Both)
  Either:mg "Either"=some (.ref a.Either)
  Way:mg "Way"=some (.ref a.Way)
  Hour:mg "Hour"=some (.ref a.Hour)
  Never:mg "Never"=some (.ref a.Never)
  Raised:mg "Raised"=some (.ref a.Raised)
  Line:mg "Line"=some (.ref a.Line)
  Wishes:mg "Wishes"=some (.ref a.Wishes)
  ck_Any:ClsK K a.Any
  ck_Kind:ClsK K a.Kind
  na_Kind_names:NoAttr K a.Kind "names"
  ck_Place:ClsK K a.Place
  na_Place_names:NoAttr K a.Place "names"
  ck_Least:ClsK K a.Least
  na_Least_weight:NoAttr K a.Least "weight"
  ck_Not:ClsK K a.Not
  na_Not_fit:NoAttr K a.Not "fit"
  ck_Both:ClsK K a.Both
  na_Both_fits:NoAttr K a.Both "fits"
  ck_Either:ClsK K a.Either
  na_Either_fits:NoAttr K a.Either "fits"
  ck_Happening:ClsK K a.Happening
  na_Happening_kind:NoAttr K a.Happening "kind"
  na_Happening_place:NoAttr K a.Happening "place"
  na_Happening_weight:NoAttr K a.Happening "weight"
  is_Any_Fit:PySem.W.kitOne K (.ref a.Any) (.ref a.Fit)=some true
  is_Kind_Fit:PySem.W.kitOne K (.ref a.Kind) (.ref a.Fit)=some true
  is_Place_Fit:PySem.W.kitOne K (.ref a.Place) (.ref a.Fit)=some true
  is_Least_Fit:PySem.W.kitOne K (.ref a.Least) (.ref a.Fit)=some true
  is_Not_Fit:PySem.W.kitOne K (.ref a.Not) (.ref a.Fit)=some true
  is_Both_Fit:PySem.W.kitOne K (.ref a.Both) (.ref a.Fit)=some true
  is_Either_Fit:PySem.W.kitOne K (.ref a.Either) (.ref a.Fit)=some true
  mk_Any:MkN K a.Any
  ck_Hour:ClsK K a.Hour
  na_Hour_minute:NoAttr K a.Hour "minute"
  ck_Never:ClsK K a.Never
  ck_Line:ClsK K a.Line
  na_Line_fit:NoAttr K a.Line "fit"
  na_Line_way:NoAttr K a.Line "way"
  na_Line_roads:NoAttr K a.Line "roads"
  na_Line_sure:NoAttr K a.Line "sure"
  na_Line_raised:NoAttr K a.Line "raised"
  ck_Wishes:ClsK K a.Wishes
  na_Wishes_zone:NoAttr K a.Wishes "zone"
  na_Wishes_quiet:NoAttr K a.Wishes "quiet"
  na_Wishes_wake:NoAttr K a.Wishes "wake"
  na_Wishes_lines:NoAttr K a.Wishes "lines"
  is_Hour_Way:PySem.W.kitOne K (.ref a.Hour) (.ref a.Way)=some true
  is_Never_Way:PySem.W.kitOne K (.ref a.Never) (.ref a.Way)=some true
  is_Hour_Never:PySem.W.kitOne K (.ref a.Hour) (.ref a.Never)=some false
  is_Never_Never:PySem.W.kitOne K (.ref a.Never) (.ref a.Never)=some true
  is_Line_Line:PySem.W.kitOne K (.ref a.Line) (.ref a.Line)=some true
  mk_Never:MkN K a.Never
def okI (K:PySem.W.Frag) (H:Hp) (x:V):Prop:=∃ t,TyOf K H x t∧PySem.W.kitOne K t (.type "int")=some (isIntV x)∧PySem.W.kitOne K t (.type "bool")=some (isBoolV x)
def okK (K:PySem.W.Frag) (c:Value) (H:Hp) (x:V) (b:Bool):Prop:=∃ t,TyOf K H x t∧PySem.W.kitOne K t c=some b
abbrev noL (K:PySem.W.Frag) (H:Hp) (x:V):Prop:=∃ t,TyOf K H x t∧PySem.W.kitOne K t (.type "list")=some false
theorem okI.same {K:PySem.W.Frag}{H H':Hp}{x:V}(h:okI K H x) (s:Same H H'):okI K H' x:=let ⟨t,y,r⟩:=h; ⟨t,TyOf.same y s,r⟩
theorem okK.same {K:PySem.W.Frag}{c:Value}{H H':Hp}{x:V}{b:Bool}(h:okK K c H x b) (s:Same H H'):okK K c H' x b:=let ⟨t,y,r⟩:=h; ⟨t,TyOf.same y s,r⟩
theorem okI.but3 {K:PySem.W.Frag}{H H':Hp}{w:Addr}{x:V}(h:okI K H x) (W0:Well3 H w) (W:Well3 H' w) (s:But w H H'):okI K H' x:=let ⟨t,y,r⟩:=h; ⟨t,TyOf.but3 y W0 W s,r⟩
theorem okK.but3 {K:PySem.W.Frag}{c:Value}{H H':Hp}{w:Addr}{x:V}{b:Bool}(h:okK K c H x b) (W0:Well3 H w) (W:Well3 H' w) (s:But w H H'):okK K c H' x b:=let ⟨t,y,r⟩:=h; ⟨t,TyOf.but3 y W0 W s,r⟩
def strV:V→Str
  | .str u=>u
  | _=>Str.empty
def namesB (xs:List V):Bool:=xs.all nameB && decide ((xs.map strV).Nodup)
theorem nameB_str {x:V}(h:nameB x=true):x=.str (strV x):=by cases x <;> first | rfl | cases h
theorem all_str:∀ {xs:List V},xs.all nameB=true→xs=(xs.map strV).map V.str
  | [],_=>rfl
  | x::xs,h=>by
    simp only [List.all_cons,Bool.and_eq_true] at h
    rw [List.map_cons,List.map_cons,← nameB_str h.1,← all_str h.2]
def NmIs (K:PySem.W.Frag) (H:Hp) (x:V) (b:Bool):Prop:=(∃ p xs,x=.ref p∧H p=some (.lst xs)∧xs.length≤100∧(∀ y∈xs,okN H y)∧b=namesB xs)∨(b=false∧noL K H x)
theorem putF_new {k:Str}{v:V}:∀ {fs:List (Str × V)},(∀ q∈fs,q.1≠k)→putF k v fs=fs++[(k,v)]
  | [],_=>rfl
  | (k0,v0)::fs,h=>by
    show (if k0=k then _ else _:List (Str × V))=_
    rw [if_neg (h (k0,v0) List.mem_cons_self),putF_new fun q hq=>h q (List.mem_cons_of_mem _ hq)]
    rfl
theorem same_id (H:Hp):Same H H:=fun _ _ z=>z
def tHold (t:TS):TS:=t
theorem w_hold {t:TS}{D:Ends}{σ:L2.St}{H:Hp}:tHold t D σ H=t D σ H:=rfl
theorem hold_ret {t:TE}{nx:L2.St→Hp→Prop}{rt:VK}{bk ct:L2.St→Hp→Prop}{σ:L2.St}{H:Hp}(h:t σ H rt):tHold (tRet t) { nx:=nx,rt:=rt,bk:=bk,ct:=ct } σ H:=h
theorem qss_hold {X:Cx}{b:List Stmt}{t:TS}(h:QSs X b t):QSs X b (tHold t):=h
theorem made_but {H H':Hp}{x dx:Addr}{o o':HO}(hx:H x=none) (hd:H dx=none) (b:But x (upd (upd H dx o) x o') H'):Same H H':=fun c u e=>b c u (ne_of_none e hx) (made_same hx hd c u e)
abbrev fz (a:Ad) (Z:Addr→Prop):FC:=⟨a.Any,a.Kind,a.Place,a.Least,a.Not,a.Both,a.Either,Z⟩
abbrev fc (a:Ad):FC:=fz a fun _=>True
theorem fit_tr {a:Ad}{Z:Addr→Prop}{H:Hp}{t:Tr}{v:V}(h:t.Fit (fz a Z) H v):t.Fit (fc a) H v:=h.mono fun _ _=>trivial
def hFs (k p:Str) (w:Int):List (Str × V):=[("kind",.str k),("place",.str p),("weight",.int w)]
def sp_fits (a:Ad) (i d:Nat):Sp:=fun vs H Q E=>∃ (v:V) (t:Tr) (hp dh:Addr) (k l:Str) (w:Int),vs=[v,.ref hp]∧t.tag=i∧t.dp < d∧t.ok∧t.Fit (fc a) H v∧H hp=some (.ins a.Happening dh (hFs k l w))∧∀ H',Same H H'→Q (.bl (t.ev k l w)) H'
theorem sp0_fits_it {a:Ad}{i:Nat}:∀ vs H Q E,¬ sp_fits a i 0 vs H Q E:=by
  rintro vs H Q E ⟨v,t,hp,dh,k,l,w,_,_,h,_⟩
  exact absurd h (Nat.not_lt_zero _)
def Mm_fits_it (_:PySem.W.Frag) (a:Ad) (d:Nat) (C:Addr) (sp:Sp):Prop:=∃ t:Tr,C=t.cls (fc a)∧sp=sp_fits a t.tag d
theorem ft_at {K:PySem.W.Frag}{a:Ad}{H:Hp}{t:Tr}{p hp dh:Addr}{k l:Str}{w:Int}{d:Nat}{Q:VK}(h:t.Fit (fc a) H (.ref p)) (hd:t.dp < d) (ho:t.ok) (hh:H hp=some (.ins a.Happening dh (hFs k l w))) (q:∀ H',Same H H'→Q (.bl (t.ev k l w)) H') :
    ∃ C dx fs,H p=some (.ins C dx fs)∧fs.lookup ("fits_it":Str)=none∧∃ sp,Mm_fits_it K a d C sp∧sp [.ref p,.ref hp] H Q E0:=by
  obtain ⟨p',dx,fs,e,hp',lk⟩:=h.ins
  cases e
  exact ⟨_,dx,fs,hp',lk,_,⟨t,rfl,rfl⟩,.ref p,t,hp,dh,k,l,w,rfl,rfl,hd,ho,h,hh,q⟩
def gdV (wd:Str) (x:V):Prop:=(wd="weight"∧∃ n:Int,x=.int n∧0≤n∧n < 1000000)∨(wd≠"weight"∧∃ u,x=.str u∧goodN u)
def lFs (f y r s z:V):List (Str × V):=[("fit",f),("way",y),("roads",r),("sure",s),("raised",z)]
def wFs (z q k l:V):List (Str × V):=[("zone",z),("quiet",q),("wake",k),("lines",l)]
structure LI where
  t:Tr
  m:Option Int
def LnT (a:Ad) (Z:Addr→Prop) (H:Hp) (L:LI) (v:V):Prop:=∃ p dl vf yp lr dy,v=.ref p∧H p=some (.ins a.Line dl (lFs vf (.ref yp) (.ref lr) (.bl false) .non))∧L.t.Fit (fz a Z) H vf∧((∃ m,L.m=some m∧H yp=some (.ins a.Hour dy [("minute",.int m)]))∨(L.m=none∧H yp=some (.ins a.Never dy [])))
theorem LnT.same {a:Ad}{Z:Addr→Prop}{H H':Hp}{L:LI}{v:V}(h:LnT a Z H L v) (S:Same H H'):LnT a Z H' L v:=by
  obtain ⟨p,dl,vf,yp,lr,dy,e,h1,h2,h3⟩:=h
  refine ⟨p,dl,vf,yp,lr,dy,e,S _ _ h1,h2.same S,?_⟩
  rcases h3 with ⟨m,e,h⟩ | ⟨e,h⟩
  · exact .inl ⟨m,e,S _ _ h⟩
  · exact .inr ⟨e,S _ _ h⟩
theorem LnT.mono {a:Ad}{Z Z':Addr→Prop}{H:Hp}{L:LI}{v:V}(h:LnT a Z H L v) (z:∀ l,Z l→Z' l):LnT a Z' H L v:=by
  obtain ⟨p,dl,vf,yp,lr,dy,e,h1,h2,h3⟩:=h
  exact ⟨p,dl,vf,yp,lr,dy,e,h1,h2.mono z,h3⟩
theorem LnT.but {a:Ad}{Z:Addr→Prop}{H H':Hp}{w:Addr}{ws:List V}{L:LI}{v:V}(h:LnT a Z H L v) (hz:∀ l,Z l→l≠w) (hw:H w=some (.lst ws)) (S:But w H H'):LnT a Z H' L v:=by
  obtain ⟨p,dl,vf,yp,lr,dy,e,h1,h2,h3⟩:=h
  refine ⟨p,dl,vf,yp,lr,dy,e,S _ _ (fun z=>by rw [z,hw] at h1; cases h1) h1,h2.but hz hw S,?_⟩
  rcases h3 with ⟨m,e,h⟩ | ⟨e,h⟩
  · exact .inl ⟨m,e,S _ _ (fun z=>by rw [z,hw] at h; cases h) h⟩
  · exact .inr ⟨e,S _ _ (fun z=>by rw [z,hw] at h; cases h) h⟩
def Qt (H:Hp) (q:V):Prop:=q=.non∨∃ hp s e,q=.ref hp∧H hp=some (.tup [.int s,.int e])∧0≤s∧s≤1439∧0≤e∧e≤1439∧s≠e
def Wk (k q:V):Prop:=k=.non∨(∃ n:Int,k=.int n∧0≤n∧q≠.non)
def WonR (k p:Str) (w:Int) (Ls:List LI) (xs:List V) (r:V):Prop:=(∃ (i:Nat) (L:LI),Ls[i]?=some L∧xs[i]?=some r∧L.t.ev k p w=true∧∀ j < i,∀ L':LI,Ls[j]?=some L'→L'.t.ev k p w=false)∨(r=.non∧∀ L∈Ls,L.t.ev k p w=false)
def LfR (k p:Str) (w:Int) (Ls:List LI) (xs:List V) (r':V):Prop:=(∃ (i:Nat) (L:LI) (r:V),Ls[i]?=some L∧xs[i]?=some r∧L.t.ev k p w=true∧(∀ j < i,∀ L':LI,Ls[j]?=some L'→L'.t.ev k p w=false)∧r'=(match L.m with | none=>.non | some _=>r))∨(r'=.non∧∀ L∈Ls,L.t.ev k p w=false)
def DueR (k p:Str) (w:Int) (ts:List Tr) (os:List Nat) (r:V):Prop:=(∃ (i o:Nat) (t:Tr),os[i]?=some o∧ts[o]?=some t∧r=.int o∧t.ev k p w=true∧∀ j < i,∀ (o':Nat) (t':Tr),os[j]?=some o'→ts[o']?=some t'→t'.ev k p w=false)∨(r=.non∧∀ o∈os,∀ t:Tr,ts[o]?=some t→t.ev k p w=false)
structure LsR (ts:List Tr) (os:List Nat) (nv:Int) (Ls:List LI):Prop where
  len:Ls.length=os.length
  at_:∀ (i:Nat) (L:LI) (o:Nat),Ls[i]?=some L→os[i]?=some o→ts[o]?=some L.t∧L.m=if (o:Int)=nv then none else some (o:Int)
def WsAt (a:Ad) (H:Hp) (wp lp:Addr) (xs:List V):Prop:=∃ dx z q k,H wp=some (.ins a.Wishes dx (wFs z q k (.ref lp)))∧H lp=some (.lst xs)
theorem WsAt.same {a:Ad}{H H':Hp}{wp lp:Addr}{xs:List V}(h:WsAt a H wp lp xs) (S:Same H H'):WsAt a H' wp lp xs:=by
  obtain ⟨dx,z,q,k,h1,h2⟩:=h
  exact ⟨dx,z,q,k,S _ _ h1,S _ _ h2⟩
def sp_is_whole (K:PySem.W.Frag) (a:Ad):Sp:=fun vs H Q E=>∃ x,vs=[x]∧okI K H x∧Q (.bl (wholeV x)) H
def sp_is_whole_between (K:PySem.W.Frag) (a:Ad):Sp:=fun vs H Q E=>∃ x lo hi,vs=[x,.int lo,.int hi]∧okI K H x∧Q (.bl (betwV x lo hi)) H
def sp_is_whole_from (K:PySem.W.Frag) (a:Ad):Sp:=fun vs H Q E=>∃ x lo,vs=[x,.int lo]∧okI K H x∧Q (.bl (fromV x lo)) H
def sp_is_minute_of_day (K:PySem.W.Frag) (a:Ad):Sp:=fun vs H Q E=>∃ i:Int,vs=[.int i]∧0≤i∧i≤1439∧Q (.bl true) H
def sp_is_quiet_hours (K:PySem.W.Frag) (a:Ad):Sp:=fun vs H Q E=>∃ (x:V),vs=[x]∧Qt H x∧Q (.bl true) H
def sp_check_zone (K:PySem.W.Frag) (a:Ad):Sp:=fun vs H Q E=>∃ z:Int,vs=[.int z]∧-1439≤z∧z≤1439∧Q .non H
def sp_check_quiet (K:PySem.W.Frag) (a:Ad):Sp:=fun vs H Q E=>∃ (x:V),vs=[x]∧Qt H x∧Q .non H
def sp_check_minute_of_hour (K:PySem.W.Frag) (a:Ad):Sp:=fun vs H Q E=>∃ i:Int,vs=[.int i]∧0≤i∧i≤59∧Q .non H
def sp_is_name (K:PySem.W.Frag) (a:Ad):Sp:=fun vs H Q E=>∃ x,vs=[x]∧okN H x∧∀ H',Same H H'→Q (.bl (nameB x)) H'
def sp_Happening___init__ (K:PySem.W.Frag) (a:Ad):Sp:=fun vs H Q E=>∃ (p dx:Addr) (k l:Str) (w:Int),vs=[.ref p,.str k,.str l,.int w]∧H p=some (.ins a.Happening dx [])∧goodN k∧goodN l∧0≤w∧∀ H',But p H H'→H' p=some (.ins a.Happening dx (hFs k l w))→Q .non H'
def sp_are_unlike_names (K:PySem.W.Frag) (a:Ad):Sp:=fun vs H Q E=>∃ (x:V) (b:Bool),vs=[x]∧NmIs K H x b∧∀ H',Same H H'→Q (.bl b) H'
abbrev sp_Any_fits_it (_:PySem.W.Frag) (a:Ad) (d:Nat):Sp:=sp_fits a 0 d
def sp_Kind___init__ (K:PySem.W.Frag) (a:Ad):Sp:=fun vs H Q E=>∃ (p dx l:Addr) (us:List Str),vs=[.ref p,.ref l]∧H p=some (.ins a.Kind dx [])∧H l=some (.lst (us.map V.str))∧okNs us∧∀ l' H',But p H H'→H l'=none→H' l'=some (.lst (us.map V.str))→H' p=some (.ins a.Kind dx [("names",.ref l')])→Q .non H'
abbrev sp_Kind_fits_it (_:PySem.W.Frag) (a:Ad) (d:Nat):Sp:=sp_fits a 1 d
def sp_Place___init__ (K:PySem.W.Frag) (a:Ad):Sp:=fun vs H Q E=>∃ (p dx l:Addr) (us:List Str),vs=[.ref p,.ref l]∧H p=some (.ins a.Place dx [])∧H l=some (.lst (us.map V.str))∧okNs us∧∀ l' H',But p H H'→H l'=none→H' l'=some (.lst (us.map V.str))→H' p=some (.ins a.Place dx [("names",.ref l')])→Q .non H'
abbrev sp_Place_fits_it (_:PySem.W.Frag) (a:Ad) (d:Nat):Sp:=sp_fits a 2 d
def sp_Least___init__ (K:PySem.W.Frag) (a:Ad):Sp:=fun vs H Q E=>∃ (p dx:Addr) (n:Int),vs=[.ref p,.int n]∧H p=some (.ins a.Least dx [])∧0≤n∧Q .non (upd H p (.ins a.Least dx [("weight",.int n)]))
abbrev sp_Least_fits_it (_:PySem.W.Frag) (a:Ad) (d:Nat):Sp:=sp_fits a 3 d
def sp_Not___init__ (K:PySem.W.Frag) (a:Ad):Sp:=fun vs H Q E=>∃ (p dx:Addr) (v:V) (t:Tr),vs=[.ref p,v]∧H p=some (.ins a.Not dx [])∧t.Fit (fc a) H v∧Q .non (upd H p (.ins a.Not dx [("fit",v)]))
abbrev sp_Not_fits_it (_:PySem.W.Frag) (a:Ad) (d:Nat):Sp:=sp_fits a 4 d
def sp_Both___init__ (K:PySem.W.Frag) (a:Ad):Sp:=fun vs H Q E=>∃ (p dx l:Addr) (xs:List V) (ts:List Tr),vs=[.ref p,.ref l]∧H p=some (.ins a.Both dx [])∧H l=some (.lst xs)∧All2 (Tr.Fit (fc a) H) ts xs∧2≤xs.length∧xs.length≤100∧∀ l' H',But p H H'→H l'=none→H' l'=some (.lst xs)→H' p=some (.ins a.Both dx [("fits",.ref l')])→Q .non H'
abbrev sp_Both_fits_it (_:PySem.W.Frag) (a:Ad) (d:Nat):Sp:=sp_fits a 5 d
def sp_Either___init__ (K:PySem.W.Frag) (a:Ad):Sp:=fun vs H Q E=>∃ (p dx l:Addr) (xs:List V) (ts:List Tr),vs=[.ref p,.ref l]∧H p=some (.ins a.Either dx [])∧H l=some (.lst xs)∧All2 (Tr.Fit (fc a) H) ts xs∧2≤xs.length∧xs.length≤100∧∀ l' H',But p H H'→H l'=none→H' l'=some (.lst xs)→H' p=some (.ins a.Either dx [("fits",.ref l')])→Q .non H'
abbrev sp_Either_fits_it (_:PySem.W.Frag) (a:Ad) (d:Nat):Sp:=sp_fits a 6 d
def sp_check_names (K:PySem.W.Frag) (a:Ad):Sp:=fun vs H Q E=>∃ (l:Addr) (us:List Str),vs=[.ref l]∧H l=some (.lst (us.map V.str))∧okNs us∧∀ H',Same H H'→Q .non H'
def sp_check_fit (K:PySem.W.Frag) (a:Ad):Sp:=fun vs H Q E=>∃ (v:V) (t:Tr),vs=[v]∧t.Fit (fc a) H v∧Q .non H
def sp_check_fits (K:PySem.W.Frag) (a:Ad):Sp:=fun vs H Q E=>∃ (l:Addr) (xs:List V) (ts:List Tr),vs=[.ref l]∧H l=some (.lst xs)∧All2 (Tr.Fit (fc a) H) ts xs∧2≤xs.length∧xs.length≤100∧Q .non H
def sp_Hour___init__ (K:PySem.W.Frag) (a:Ad):Sp:=fun vs H Q E=>∃ (p dx:Addr) (i:Int),vs=[.ref p,.int i]∧H p=some (.ins a.Hour dx [])∧0≤i∧i≤59∧Q .non (upd H p (.ins a.Hour dx [("minute",.int i)]))
def sp_Line___init__ (K:PySem.W.Frag) (a:Ad):Sp:=fun vs H Q E=>∃ (p dx yp rp dy:Addr) (vf:V) (t:Tr) (rs:List Str),vs=[.ref p,vf,.ref yp,.ref rp,.bl false,.non]∧H p=some (.ins a.Line dx [])∧t.Fit (fc a) H vf∧((∃ m,H yp=some (.ins a.Hour dy [("minute",.int m)])∧rs≠[])∨(H yp=some (.ins a.Never dy [])∧rs=[]))∧H rp=some (.lst (rs.map V.str))∧(rs=[]∨rs=(["mail"]:List Str)∨rs=(["mail","pager"]:List Str))∧∀ l H',But p H H'→H' p=some (.ins a.Line dx (lFs vf (.ref yp) (.ref l) (.bl false) .non))→Q .non H'
def sp_check_by_way (K:PySem.W.Frag) (a:Ad):Sp:=fun vs H Q E=>∃ (yp rp dy:Addr) (rs:List Str),vs=[.ref yp,.ref rp,.bl false,.non]∧((∃ m,H yp=some (.ins a.Hour dy [("minute",.int m)])∧rs≠[])∨(H yp=some (.ins a.Never dy [])∧rs=[]))∧H rp=some (.lst (rs.map V.str))∧Q .non H
def sp_Wishes___init__ (K:PySem.W.Frag) (a:Ad):Sp:=fun vs H Q E=>∃ (p dx lp:Addr) (z:Int) (q k:V) (xs:List V) (Ls:List LI) (Z:Addr→Prop),vs=[.ref p,.int z,q,k,.ref lp]∧H p=some (.ins a.Wishes dx [])∧-1439≤z∧z≤1439∧Qt H q∧Wk k q∧H lp=some (.lst xs)∧All2 (LnT a Z H) Ls xs∧xs.length≤100∧∀ l' H',But p H H'→H' l'=some (.lst xs)→H' p=some (.ins a.Wishes dx (wFs (.int z) q k (.ref l')))→Q .non H'
def sp_Wishes_winning (K:PySem.W.Frag) (a:Ad):Sp:=fun vs H Q E=>∃ (wp lp hp dh:Addr) (xs:List V) (Ls:List LI) (k p:Str) (w:Int),vs=[.ref wp,.ref hp]∧WsAt a H wp lp xs∧All2 (LnT a (fun _=>True) H) Ls xs∧xs.length≤100∧(∀ L∈Ls,L.t.ok∧L.t.dp < 3)∧H hp=some (.ins a.Happening dh (hFs k p w))∧∀ r H',Same H H'→WonR k p w Ls xs r→Q r H'
def sp_Wishes_line_for (K:PySem.W.Frag) (a:Ad):Sp:=fun vs H Q E=>∃ (wp lp hp dh:Addr) (xs:List V) (Ls:List LI) (k p:Str) (w:Int),vs=[.ref wp,.ref hp]∧WsAt a H wp lp xs∧All2 (LnT a (fun _=>True) H) Ls xs∧xs.length≤100∧(∀ L∈Ls,L.t.ok∧L.t.dp < 3)∧H hp=some (.ins a.Happening dh (hFs k p w))∧∀ r' H',Same H H'→LfR k p w Ls xs r'→Q r' H'
def sp_check_wake (K:PySem.W.Frag) (a:Ad):Sp:=fun vs H Q E=>∃ k q:V,vs=[k,q]∧Wk k q∧Q .non H
def sp_check_lines (K:PySem.W.Frag) (a:Ad):Sp:=fun vs H Q E=>∃ (lp:Addr) (xs:List V) (Ls:List LI) (Z:Addr→Prop),vs=[.ref lp]∧H lp=some (.lst xs)∧All2 (LnT a Z H) Ls xs∧xs.length≤100∧∀ H',Same H H'→Q .non H'
def sp_law_cell_at (K:PySem.W.Frag) (a:Ad):Sp:=fun vs H Q E=>∃ (b:Addr) (ns:List Int) (k:Int),vs=[.ref b,.int k]∧SqL K H b (ns.map V.int)∧0≤k∧∀ c,Q (.int c) H
def sp_law_begin (K:PySem.W.Frag) (a:Ad):Sp:=fun vs H Q E=>∃ c:Int,vs=[.int c]∧∀ p a b c,H p=none→Q (.ref p) (upd H p (.lst [.int a,.int b,.int c]))
def sp_law_next (K:PySem.W.Frag) (a:Ad):Sp:=fun vs H Q E=>∃ (w:Addr) (m:Int),vs=[.ref w,.int m]∧Well3 H w∧0 < m∧m < 2 ^ 62∧∀ (r:Int) (H':Hp),0≤r→r < m→Well3 H' w→But w H H'→Q (.int r) H'
def sp_law_name (K:PySem.W.Frag) (a:Ad):Sp:=fun vs H Q E=>∃ w:Addr,vs=[.ref w]∧Well3 H w∧∀ (u:Str) (H':Hp),goodN u→Well3 H' w→But w H H'→Q (.str u) H'
def sp_law_leaf (K:PySem.W.Frag) (a:Ad):Sp:=fun vs H Q E=>∃ (w:Addr) (m:Int),vs=[.ref w,.int m]∧Well3 H w∧0≤m∧m≤5∧∀ (v:V) (t:Tr) (H':Hp),t.At H' v→t.ok→t.dp=0→t.cnt≤6→Well3 H' w→But w H H'→Q v H'
def sp_law_tree (K:PySem.W.Frag) (a:Ad) (d:Nat):Sp:=fun vs H Q E=>∃ (w:Addr) (i:Nat) (m:Int),i < d∧vs=[.ref w,.int i,.int m]∧Well3 H w∧i≤3∧0≤m∧m≤5∧∀ (v:V) (t:Tr) (H':Hp),t.At H' v→t.ok→t.dp≤i→t.cnt≤6 * 3 ^ i→Well3 H' w→But w H H'→Q v H'
def sp_law_made (K:PySem.W.Frag) (a:Ad) (d:Nat):Sp:=fun vs H Q E=>∃ (v:V) (t:Tr),t.dp < d∧vs=[v]∧t.At H v∧t.ok∧∀ v' H',Same H H'→t.Fit (fz a fun l=>H l=none) H' v'→Q v' H'
def sp_law_fits (K:PySem.W.Frag) (a:Ad) (d:Nat):Sp:=fun vs H Q E=>∃ (v x:V) (t:Tr) (k l:Str) (w:Int),t.dp < d∧t.dp < 20∧vs=[v,x]∧t.At H v∧t.ok∧ThAt H x k l w∧∀ H',Same H H'→Q (.bl (t.ev k l w)) H'
def sp_law_gathered (K:PySem.W.Frag) (a:Ad) (d:Nat):Sp:=fun vs H Q E=>∃ (v:V) (t:Tr) (wd:Str),t.dp < d∧vs=[v,.str wd]∧t.At H v∧t.okl∧t.cnt≤400∧(wd="kind"∨wd="place"∨wd="weight")∧∀ (l:Addr) (xs:List V) (H':Hp),Same H H'→H l=none→H' l=some (.lst xs)→xs.length≤t.cnt→(∀ x∈xs,gdV wd x)→Q (.ref l) H'
def sp_law_pick (K:PySem.W.Frag) (a:Ad):Sp:=fun vs H Q E=>∃ (w l:Addr) (xs:List V),vs=[.ref w,.ref l]∧Well3 H w∧l≠w∧H l=some (.lst xs)∧xs.length≤1000∧(∀ x∈xs,∃ u,x=.str u∧goodN u)∧∀ (u:Str) (H':Hp),goodN u→Well3 H' w→But w H H'→Q (.str u) H'
def sp_law_things (K:PySem.W.Frag) (a:Ad):Sp:=fun vs H Q E=>∃ (sc l:Addr) (ns:List Int) (vs0:List V) (ts:List Tr),vs=[.ref sc,.ref l]∧SqL K H sc (ns.map V.int)∧ns.length≤63∧H l=some (.lst vs0)∧All2 (Tr.At H) ts vs0∧ts.length≤20∧(ts.map Tr.cnt).sum≤270∧(∀ t∈ts,t.okl∧t.dp≤2)∧∀ (r:Addr) (xs:List V) (H':Hp),Same H H'→H' r=some (.lst xs)→xs.length≤64→(∀ x∈xs,∃ k p w,ThAt H' x k p w)→Q (.ref r) H'
def sp_law_lines (K:PySem.W.Frag) (a:Ad):Sp:=fun vs H Q E=>∃ (tl:Addr) (nv:Int) (vs0:List V) (ts:List Tr),vs=[.ref tl,.int nv]∧H tl=some (.lst vs0)∧All2 (Tr.At H) ts vs0∧ts.length≤20∧(∀ t∈ts,t.ok∧t.dp≤2)∧∀ (r:Addr) (xs:List V) (Ls:List LI) (H':Hp),Same H H'→H r=none→H' r=some (.lst xs)→All2 (LnT a (fun l=>H l=none) H') Ls xs→LsR ts (List.range ts.length) nv Ls→Q (.ref r) H'
def sp_law_number (K:PySem.W.Frag) (a:Ad):Sp:=fun vs H Q E=>∃ (r:V) (nv:Int),vs=[r,.int nv]∧((r=.non∧Q .non H)∨∃ L,LnT a (fun _=>True) H L r∧Q (.int (L.m.getD nv)) H)
def sp_law_due (K:PySem.W.Frag) (a:Ad):Sp:=fun vs H Q E=>∃ (tl ol:Addr) (x:V) (vs0:List V) (ts:List Tr) (os:List Nat) (k p:Str) (w:Int),vs=[.ref tl,.ref ol,x]∧H tl=some (.lst vs0)∧All2 (Tr.At H) ts vs0∧ts.length≤20∧(∀ t∈ts,t.ok∧t.dp≤2)∧H ol=some (.lst (os.map fun o=>V.int (o:Nat)))∧(∀ o∈os,o < ts.length)∧os.length≤20∧ThAt H x k p w∧∀ r H',Same H H'→DueR k p w ts os r→Q r H'
def sp_law_right (K:PySem.W.Frag) (a:Ad):Sp:=fun vs H Q E=>∃ (wp lp tl ol:Addr) (nv:Int) (x:V) (b:Bool) (vs0 xs:List V) (ts:List Tr) (os:List Nat) (Ls:List LI) (k p:Str) (w:Int),vs=[.ref wp,.ref tl,.ref ol,.int nv,x,.bl b]∧H tl=some (.lst vs0)∧All2 (Tr.At H) ts vs0∧ts.length≤20∧(∀ t∈ts,t.ok∧t.dp≤2)∧H ol=some (.lst (os.map fun o=>V.int (o:Nat)))∧(∀ o∈os,o < ts.length)∧os.length≤20∧WsAt a H wp lp xs∧All2 (LnT a (fun _=>True) H) Ls xs∧LsR ts os nv Ls∧ThAt H x k p w∧∀ H',Same H H'→Q (.bl true) H'
def spL (K:PySem.W.Frag):Sp:=fun vs H Q _=>∃ (a:Addr) (ns:List Int),vs=[.ref a]∧SqL K H a (ns.map V.int)∧ns.length≤63∧∀ H',Q (.bl true) H'
abbrev sp_law (K:PySem.W.Frag) (_:Ad):Sp:=spL K
theorem sp0_law_tree {K:PySem.W.Frag}{a:Ad}:∀ vs H Q E,¬ sp_law_tree K a 0 vs H Q E:=by
  rintro vs H Q E ⟨w,i,m,h,_⟩
  exact absurd h (Nat.not_lt_zero _)
theorem sp0_law_made {K:PySem.W.Frag}{a:Ad}:∀ vs H Q E,¬ sp_law_made K a 0 vs H Q E:=by
  rintro vs H Q E ⟨v,t,h,_⟩
  exact absurd h (Nat.not_lt_zero _)
theorem sp0_law_fits {K:PySem.W.Frag}{a:Ad}:∀ vs H Q E,¬ sp_law_fits K a 0 vs H Q E:=by
  rintro vs H Q E ⟨v,x,t,k,l,w,h,_⟩
  exact absurd h (Nat.not_lt_zero _)
theorem sp0_law_gathered {K:PySem.W.Frag}{a:Ad}:∀ vs H Q E,¬ sp_law_gathered K a 0 vs H Q E:=by
  rintro vs H Q E ⟨v,t,wd,h,_⟩
  exact absurd h (Nat.not_lt_zero _)
def Mm_winning (K:PySem.W.Frag) (a:Ad) (C:Addr) (sp:Sp):Prop:=C=a.Wishes∧sp=sp_Wishes_winning K a
def Mm_line_for (K:PySem.W.Frag) (a:Ad) (C:Addr) (sp:Sp):Prop:=C=a.Wishes∧sp=sp_Wishes_line_for K a
section
variable {P:Program}{w:World}{K:PySem.W.Frag}{mg:Str→Option Value}{base:Heap}{f:Addr}{fd:FuncData}{a:Ad}
theorem drw3 {H:Hp}{w:Addr}{m:Int}{Q:VK}{E:XK}(W:Well3 H w) (h0:0 < m) (h1:m < 2 ^ 62) (q:∀ (r:Int) (H':Hp),0≤r→r < m→Well3 H' w→But w H H'→Q (.int r) H'):sp_law_next K a [.ref w,.int m] H Q E:=⟨w,m,rfl,W,h0,h1,q⟩
theorem ok_is_whole (B:Bt K mg a)  (F:Fun K "is_whole" "is_whole" s_is_whole f fd):FnOk P w K mg base CX0 1 f fd ["thing"] (sp_is_whole K a):=by
  refine F.ok sc_is_whole (fun vs H Q E h=>?_) (fun cdv A outer s H vs Q E hr h=>?_)
  · obtain ⟨x,rfl,_⟩:=h
    rfl
  obtain ⟨x,rfl,⟨t,ty,ki,kb⟩,q⟩:=h
  refine ⟨_,(pss_of (qss_one (qs_ret (qe_of (pe_and (pe_callB (isiG_at (K:=K) (T:="int") rfl) rfl B.isinstance PyProof.Rows.boot_isinstance (pa_of (qa_c (pv 0) (qa_c (pe_bltn (v:=.ty "int") rfl B.int PyProof.Rows.boot_int rfl) qa_nil))) (he:=star_plain _ _ _ rfl) (hpl:=plain_any rfl)) (pe_one (pe_not (pe_callB (isiG_at (K:=K) (T:="bool") rfl) rfl B.isinstance PyProof.Rows.boot_isinstance (pa_of (qa_c (pv 0) (qa_c (pe_bltn (v:=.ty "bool") rfl B.bool PyProof.Rows.boot_bool rfl) qa_nil))) (he:=star_plain _ _ _ rfl) (hpl:=plain_any rfl))))))))),?_⟩
  walk_at "w0"
  refine ⟨x,t,_,rfl,ty,ki,?_⟩
  walk_at "w0"
  cases x <;> try simp only [isIntV,wholeV,w_seq,w_next,w_ifS,w_ret,w_retN,w_drop,w_asg,w_gName,w_gSub,w_var,w_c,w_op,w_un,w_rU,w_rI0,w_rI,w_test,w_b,w_and,w_or,w_not,w_andV,w_orV,w_notV,w_if,w_cons,w_nil,w_tup,w_lst,w_call,w_cB,w_eq,w_ne,w_isN,w_notN,w_chain,w_sl,w_part,w_noPart,w_forL,w_for1,w_for2,w_K,w_for3,w_isnotB,w_raise,w_try,w_KX,w_cut,w_compL,w_comp1,w_comp2,w_yes,w_pick0,w_pickN,w_pickS,w_bm,w_bm0,w_tyS,w_addS,w_slS,w_blkK,w_strs,w_methD,w_makeN,w_make,w_fld,w_gTup,w_gCons,w_gNil,w_sFld,w_compS,w_tryB,w_bmake,w_noKeys,w_compT,w_forT,w_revL,w_gLst,w_bIf,w_makeK,w_nev,w_never,Option.getD_some, exists_const,false_or,or_false,exists_false,w_s1,w_s2,w_s3,w_s4,w_s5,L2.start,List.map_cons,List.map_nil,List.length_cons,List.length_nil,List.replicate,List.replicate_zero,List.replicate_succ,Nat.reduceAdd,Nat.reduceSub,Nat.reduceLeDiff,List.cons_append,List.nil_append,List.append_nil,List.set_cons_zero,List.set_cons_succ,List.getElem?_cons_zero,List.getElem?_cons_succ,Option.some.injEq,V.int.injEq,V.bl.injEq,V.ref.injEq,V.str.injEq,V.ty.injEq,List.cons.injEq,and_true,true_and,exists_eq_left,exists_eq_left',exists_and_left,exists_eq,exists_eq',and_self,decide_eq_true_eq,Bool.not_eq_true',decide_eq_false_iff_not,Bool.true_eq_false,Bool.false_eq_true,if_true,if_false,ite_true,ite_false,false_and,and_false,and_assoc,reduceCtorEq] at * <;> first | exact q | exact ⟨_,t,_,rfl,ty,kb,q⟩ | (refine ⟨_,t,_,rfl,ty,kb,?_⟩; simpa [isBoolV] using q)
theorem ok_is_whole_from (B:Bt K mg a) (C_is_whole:CalX P w K mg base "is_whole" ["thing"] 1 (sp_is_whole K a)) (F:Fun K "is_whole_from" "is_whole_from" s_is_whole_from f fd):FnOk P w K mg base CX0 2 f fd ["thing","least"] (sp_is_whole_from K a):=by
  refine F.ok sc_is_whole_from (fun vs H Q E h=>?_) (fun cdv A outer s H vs Q E hr h=>?_)
  · obtain ⟨x,lo,rfl,_⟩:=h
    rfl
  obtain ⟨x,lo,rfl,ox,q⟩:=h
  refine ⟨_,(pss_of (qss_one (qs_ret (qe_of (pe_and (pe_calN C_is_whole (hr.mono (by decide)) rfl (pa_of (qa_c (pv 0) qa_nil)) (he:=star_plain _ _ _ rfl) (hpl:=plain_any rfl)) (pe_one (pe_cmpR op_le (pv 1) (pv 0) (nomark _)))))))),?_⟩
  walk_at "w0"
  refine ⟨x,rfl,ox,?_⟩
  cases x <;> simp_all [wholeV,fromV]
theorem ok_is_name (B:Bt K mg a)  (F:Fun K "is_name" "is_name" s_is_name f fd):FnOk P w K mg base CX0 1 f fd ["thing"] (sp_is_name K a):=by
  refine F.ok sc_is_name (fun vs H Q E h=>?_) (fun cdv A outer s H vs Q E hr h=>?_)
  · obtain ⟨x,rfl,_⟩:=h
    rfl
  obtain ⟨x,rfl,ox,q⟩:=h
  refine ⟨_,(pss_of (qss_cons (qs_if (L2.PW.pt (pw_or (pt_not (pt_val (pe_callB call_isi_str rfl B.isinstance PyProof.Rows.boot_isinstance (pa_of (qa_c (pv 0) (qa_c (pe_bltn (v:=.ty "str") rfl B.str PyProof.Rows.boot_str rfl) qa_nil))) (he:=star_plain _ _ _ rfl) (hpl:=plain_any rfl)))) (pw_or (pt_cmpR op_lt (pe_callB call_len_str rfl B.len PySem.boot_len (pa_of (qa_c (pv 0) qa_nil))) pe_int (nomark _)) (pw_or1 (pt_cmpR op_gt (pe_callB call_len_str rfl B.len PySem.boot_len (pa_of (qa_c (pv 0) qa_nil))) (pe_glob (v:=.int 8) rfl B.MOST_LETTERS ⟨_,rfl⟩) (nomark _)))))) (qss_one (qs_ret (qe_of pe_bl))) qss_nil) (qss_one (qs_ret (qe_of (pe_callB (call_all rfl) rfl B.all PyProof.Rows.boot_all (pa_of (qa_c (pe_compB ["sign"] [none] rfl (by kernel_rfl) (pi_str (pv 0)) (fun cl C s H fp=>⟨(pg_name (i:=0) (by decide:List.Nodup (["sign"]:List Str)) rfl (Or.inl (by kernel_rfl)) (Or.inr (by kernel_rfl))),pts_nil,(pe_cmpR op_in_str (pv 0 (hv:=Or.inl (by kernel_rfl))) (pe_glob (v:=.str "abcdefghijklmnopqrstuvwxyz") (gl_of (by kernel_rfl)) B.LETTERS ⟨_,rfl⟩) (by with_unfolding_all rfl))⟩)) qa_nil)) (he:=star_plain _ _ _ rfl) (hpl:=plain_any rfl))))))),?_⟩
  cases x with
  | str u =>
    obtain ⟨hp,hl⟩:=id ox
    exists isStrV
    refine ⟨ox,sz8 hl,?_⟩
    by_cases h1:((u.length:Nat):Int) < 1
    · rw [if_pos h1]
      have e:nameB (.str u)=false:=decide_eq_false fun g=>by have:=g.1; omega
      rw [e] at q
      exact q _ fun _ _ z=>z
    rw [if_neg h1]
    refine ⟨sz8 hl,?_⟩
    by_cases h2:(8:Int) < ((u.length:Nat):Int)
    · rw [if_pos h2]
      have e:nameB (.str u)=false:=decide_eq_false fun g=>by have:=g.2.1; omega
      rw [e] at q
      exact q _ fun _ _ z=>z
    rw [if_neg h2]
    refine ⟨hp,?_⟩
    refine CompS.by (fun i acc σ H'=>acc=(u.cps.toList.take i).map (fun c=>V.bl (!(Builtin.Str.occurrences letters ⟨#[c]⟩ 0 letters.length 1).isEmpty))∧(∃ v,σ=[v])∧H'=H) (sz8 hl) ⟨rfl,⟨_,rfl⟩,rfl⟩ ?_ ?_ ?_
    · rintro i c acc σ H' hc ⟨rfl,⟨v,rfl⟩,rfl⟩
      have hc':u.cps.toList[i]?=some c:=by simpa using hc
      have ea:(u.cps.toList.take i).map (fun c=>V.bl (!(Builtin.Str.occurrences letters ⟨#[c]⟩ 0 letters.length 1).isEmpty))++[V.bl (!(Builtin.Str.occurrences letters ⟨#[c]⟩ 0 letters.length 1).isEmpty)]=(u.cps.toList.take (i+1)).map (fun c=>V.bl (!(Builtin.Str.occurrences letters ⟨#[c]⟩ 0 letters.length 1).isEmpty)):=by
        rw [List.take_succ,hc',List.map_append]
        rfl
      walk_at "w0"
      first | exact ea | exact ⟨ea,⟨_,rfl⟩,rfl⟩
    · rintro i acc σ H' ⟨rfl,_,_⟩
      rw [List.length_map,List.length_take]
      omega
    · rintro acc σ H' ⟨rfl,⟨v,rfl⟩,rfl⟩ D hD
      have e:(u.cps.toList.take u.cps.size).map (fun c=>V.bl (!(Builtin.Str.occurrences letters ⟨#[c]⟩ 0 letters.length 1).isEmpty))=(u.cps.toList.map fun c=>!(Builtin.Str.occurrences letters ⟨#[c]⟩ 0 letters.length 1).isEmpty).map V.bl:=by
        rw [List.take_of_length_le (by simp),List.map_map]
        rfl
      rw [e]
      refine ⟨D,rfl,_,SqL.of upd_same,?_⟩
      have e2:nameB (.str u)=decide (∀ c∈u.cps.toList,97≤c∧c≤122):=by
        rw [Bool.eq_iff_iff]
        refine ⟨fun g=>?_,fun g=>?_⟩
        · have g':goodN u:=of_decide_eq_true g
          exact decide_eq_true g'.2.2
        · exact decide_eq_true (p:=goodN u) ⟨by omega,by omega,of_decide_eq_true g⟩
      rw [name_all hp,← e2]
      exact q _ (same_new hD _)
  | non =>
    exists isStrV
    exact ⟨ox,q _ fun _ _ z=>z⟩
  | bl b =>
    exists isStrV
    exact ⟨ox,q _ fun _ _ z=>z⟩
  | int b =>
    exists isStrV
    exact ⟨ox,q _ fun _ _ z=>z⟩
  | ref b =>
    exists isStrV
    exact ⟨ox,q _ fun _ _ z=>z⟩
  | _=>exact ox.elim
theorem ok_law_begin (B:Bt K mg a)  (F:Fun K "_law_begin" "_law_begin" s_law_begin f fd):FnOk P w K mg base CX0 1 f fd ["_law_cell"] (sp_law_begin K a):=by
  refine F.ok sc_law_begin (fun vs H Q E h=>?_) (fun cdv A outer s H vs Q E hr h=>?_)
  · obtain ⟨c,rfl,_⟩:=h
    rfl
  obtain ⟨c,rfl,q⟩:=h
  refine ⟨_,(pss_of (qss_one (qs_ret (qe_lst (qa_c (pe_op op_mul (pe_op op_fdivL (pv 0) pe_int) (pe_op op_sub pe_int (pe_op op_mod (pv 0) pe_int))) (qa_c (pe_op op_mod (pv 0) pe_int) (qa_c pe_int qa_nil))))))),?_⟩
  walk_at "w0"
  exact ⟨⟨by decide,by decide⟩,by decide,.inr ⟨by omega,by omega⟩,by decide,by decide,fun p hp=>q p _ _ _ hp⟩
theorem ok_law_next (B:Bt K mg a)  (F:Fun K "_law_next" "_law_next" s_law_next f fd):FnOk P w K mg base CX0 1 f fd ["_law_state","_law_base"] (sp_law_next K a):=by
  refine F.ok sc_law_next (fun vs H Q E h=>?_) (fun cdv A outer s H vs Q E hr h=>?_)
  · obtain ⟨wl,m,rfl,_⟩:=h
    rfl
  obtain ⟨wl,m,rfl,⟨a,b,c,hw⟩,m0,m1,q⟩:=h
  refine ⟨_,(pss_of (qss_cons (qs_if (pt_cmpR op_gt (pe_ix ix_list (pv 0) pe_int (fun _ _=>rfl)) pe_int (nomark _)) (qss_cons (qs_set (i:=2) sc_law_next.nd rfl (Or.inl rfl) (qe_of (pe_op op_mod (pe_ix ix_list (pv 0) pe_int (fun _ _=>rfl)) (pv 1))) (by kernel_rfl)) (qss_cons (qs_of (ps_asg (pe_op op_fdivL (pe_ix ix_list (pv 0) pe_int (fun _ _=>rfl)) (pv 1)) (pg_sub (pv 0) pe_int set_list))) (qss_one (qs_ret (qe_of (pv 2)))))) qss_nil) (qss_cons (qs_of (ps_asg (pe_op op_add (pe_ix ix_list (pv 0) pe_int (fun _ _=>rfl)) pe_int) (pg_sub (pv 0) pe_int set_list))) (qss_cons (qs_set (i:=3) sc_law_next.nd rfl (Or.inl rfl) (qe_of (pe_op op_mod (pe_op op_mul (pe_op op_add (pe_op op_add (pe_ix ix_list (pv 0) pe_int (fun _ _=>rfl)) (pe_op op_mul pe_int (pe_ix ix_list (pv 0) pe_int (fun _ _=>rfl)))) pe_int) pe_int) pe_int)) (by kernel_rfl)) (qss_cons (qs_set (i:=3) sc_law_next.nd rfl (Or.inl rfl) (qe_of (pe_op op_mod (pe_op op_mul (pv 3) (pe_op op_add (pe_op op_fdivL (pv 3) pe_int) pe_int)) pe_int)) (by kernel_rfl)) (qss_cons (qs_set (i:=3) sc_law_next.nd rfl (Or.inl rfl) (qe_of (pe_op op_mod (pe_op op_mul (pv 3) (pe_op op_add (pe_op op_fdivL (pv 3) pe_int) pe_int)) pe_int)) (by kernel_rfl)) (qss_one (qs_ret (qe_of (pe_op op_mod (pe_op op_fdivL (pv 3) pe_int) (pv 1))))))))))),?_⟩
  have em:∀ x k:Int,0 < k→0≤x % k∧x % k < k:=fun x k h=>⟨Int.emod_nonneg _ (by omega),Int.emod_lt_of_pos _ h⟩
  walk_at "w0"
  refine ixl (SqL.of hw) (v:=.int a) rfl ?_
  walk_at "w0"
  split
  · refine ixl (SqL.of hw) (v:=.int a) rfl ?_
    walk_at "w0"
    refine ⟨m0,?_⟩
    refine ixl (SqL.of hw) (v:=.int a) rfl ?_
    walk_at "w0"
    refine ⟨⟨m0,m1⟩,?_⟩
    refine setl hw (j:=0) rfl ?_
    exact q _ _ (em a m m0).1 (em a m m0).2 ⟨_,_,_,upd_same⟩ (But.upd _)
  · refine ixl (SqL.of hw) (v:=.int c) rfl ?_
    walk_at "w0"
    refine setl hw (j:=2) rfl ?_
    refine ixl (SqL.of upd_same) (v:=.int b) rfl ?_
    refine ixl (SqL.of upd_same) (v:=.int (c+1)) rfl ?_
    walk_at "w0"
    generalize hn1:(b+7919 * (c+1)+1) * 48271 % 2147483647=n1
    have b1:0≤n1∧n1 < 2147483647:=hn1 ▸ em _ _ (by decide)
    generalize hn2:n1 * (n1 / 1009+69621) % 2147483647=n2
    have b2:0≤n2∧n2 < 2147483647:=hn2 ▸ em _ _ (by decide)
    refine ⟨.inl ⟨by decide,by decide⟩,.inr ⟨by decide,by decide⟩,by decide,⟨by decide,by decide⟩,.inl ⟨by omega,by omega⟩,by decide,⟨by decide,by decide⟩,.inl ⟨by omega,by omega⟩,by decide,⟨by decide,by decide⟩,m0,?_⟩
    exact q _ _ (em _ m m0).1 (em _ m m0).2 ⟨_,_,_,upd_same⟩ (But.upd _)
theorem ok_law_cell_at (B:Bt K mg a)  (F:Fun K "_law_cell_at" "_law_cell_at" s_law_cell_at f fd):FnOk P w K mg base CX0 1 f fd ["_law_script","_law_k"] (sp_law_cell_at K a):=by
  refine F.ok sc_law_cell_at (fun vs H Q E h=>?_) (fun cdv A outer s H vs Q E hr h=>?_)
  · obtain ⟨b,ns,k,rfl,_⟩:=h
    rfl
  obtain ⟨b,ns,k,rfl,hS,k0,q⟩:=h
  refine ⟨_,(pss_of (qss_cons (qs_if (pt_cmpR op_lt (pv 1) (pe_callB call_len rfl B.len PySem.boot_len (pa_of (qa_c (pv 0) qa_nil))) (nomark _)) (qss_one (qs_ret (qe_of (pe_ix ix_list (pv 0) (pv 1) (fun _ _=>rfl))))) qss_nil) (qss_one (qs_ret (qe_of pe_int))))),?_⟩
  walk_at "w0"
  refine ⟨_,.inl ⟨_,hS,rfl⟩,?_⟩
  walk_at "w0"
  split
  · rename_i hk
    rw [List.length_map] at hk
    obtain ⟨z,_,ez⟩:=at_mem k0 hk
    exact ixl hS ez (q z)
  · exact q 0
theorem ok_are_unlike_names (B:Bt K mg a) (C_is_name:CalX P w K mg base "is_name" ["thing"] 1 (sp_is_name K a)) (F:Fun K "are_unlike_names" "are_unlike_names" s_are_unlike_names f fd):FnOk P w K mg base CX0 2 f fd ["thing"] (sp_are_unlike_names K a):=by
  refine F.ok sc_are_unlike_names (fun vs H Q E h=>?_) (fun cdv A outer s H vs Q E hr h=>?_)
  · obtain ⟨x,b,rfl,_⟩:=h
    rfl
  obtain ⟨x,b,rfl,hx,q⟩:=h
  refine ⟨_,(pss_of (qss_cons (qs_if (L2.PW.pt (pw_or (pt_not (pt_val (pe_callB (isiG_at (K:=K) (T:="list") rfl) rfl B.isinstance PyProof.Rows.boot_isinstance (pa_of (qa_c (pv 0) (qa_c (pe_bltn (v:=.ty "list") rfl B.list PyProof.Rows.boot_list rfl) qa_nil))) (he:=star_plain _ _ _ rfl) (hpl:=plain_any rfl)))) (pw_or1 (pt_not (pt_val (pe_callB (call_all rfl) rfl B.all PyProof.Rows.boot_all (pa_of (qa_c (pe_compB ["name"] [none] rfl (by kernel_rfl) (pi_list (pv 0)) (fun cl C s H fp=>⟨(pg_name (i:=0) (by decide:List.Nodup (["name"]:List Str)) rfl (Or.inl (by kernel_rfl)) (Or.inr (by kernel_rfl))),pts_nil,(pe_calN C_is_name (hr.mono (by decide)) (gl_of (by kernel_rfl)) (pa_of (qa_c (pv 0 (hv:=Or.inl (by kernel_rfl))) qa_nil)) (he:=star_plain _ _ _ rfl) (hpl:=plain_any rfl))⟩)) qa_nil)) (he:=star_plain _ _ _ rfl) (hpl:=plain_any rfl))))))) (qss_one (qs_ret (qe_of pe_bl))) qss_nil) (qss_one (qs_ret (qe_of (pe_cmpR op_eq (pe_callB call_lenS rfl B.len PySem.boot_len (pa_of (qa_c (pe_callTy (call_setS rfl) rfl B.set PyProof.Rows.boot_set (pa_of (qa_c (pv 0) qa_nil))) qa_nil))) (pe_callB call_len_seq rfl B.len PySem.boot_len (pa_of (qa_c (pv 0) qa_nil))) (nomark _))))))),?_⟩
  walk_at "w0"
  rcases hx with ⟨p,xs,rfl,hp,hl,hn,rfl⟩ | ⟨rfl,t,ty,e⟩
  · refine ⟨_,_,true,rfl,.lst hp,by kernel_rfl,?_⟩
    exists Bool.not_true
    refine ⟨⟨xs,SqL.of hp⟩,?_⟩
    refine CompL.by (xs:=xs) (fun i acc σ H'=>acc=((xs.take i).map nameB).map V.bl∧(∃ v,σ=[v])∧Same H H') (sz8 (by omega)) ⟨rfl,⟨_,rfl⟩,fun _ _ z=>z⟩ (fun i acc σ H' _ h=>SqL.of (h.2.2 _ _ hp)) ?_ ?_ ?_
    · rintro i y acc σ H' hy ⟨rfl,⟨v,rfl⟩,S1⟩
      have ea:((xs.take i).map nameB).map V.bl++[V.bl (nameB y)]=((xs.take (i+1)).map nameB).map V.bl:=by
        rw [List.take_succ,hy,List.map_append,List.map_append]
        rfl
      walk_at "w0"
      refine ⟨y,rfl,(hn y (List.mem_of_getElem? hy)).same S1,fun H2 S2=>?_⟩
      first | exact ⟨ea,⟨_,rfl⟩,S1.trans S2⟩ | exact ⟨ea,S1.trans S2⟩
    · rintro i acc σ H' ⟨rfl,_,_⟩
      rw [List.length_map,List.length_map,List.length_take]
      omega
    · rintro acc σ H' ⟨rfl,⟨v,rfl⟩,S1⟩ D hD
      rw [List.take_length]
      have S2:=S1.trans (same_new hD (.lst ((xs.map nameB).map V.bl)))
      refine ⟨D,rfl,_,SqL.of upd_same,?_⟩
      have eall:(xs.map nameB).all id=xs.all nameB:=by rw [List.all_map]; rfl
      rw [eall]
      generalize upd H' D (.lst ((xs.map nameB).map V.bl))=H2 at *
      by_cases ha:xs.all nameB=true
      · exists ha,Bool.not_true
        have es:=all_str ha
        have hz:(xs.map strV).length=xs.length:=List.length_map ..
        refine ⟨xs.map strV,by rw [← es]; exact SqL.of (S2 _ _ hp),by omega,fun p3 h3=>?_⟩
        have S3:=same_new h3 (hoSet P w p3 (xs.map strV))
        refine ⟨xs.map strV,upd_same,?_⟩
        walk_at "w0"
        refine ⟨xs,.inl (SqL.of (S3 _ _ (S2 _ _ hp))),?_⟩
        walk_at "w0"
        have hq:=q _ (S2.trans S3)
        have ed:namesB xs=decide ((((metS (xs.map strV)).length:Nat):Int)=((xs.length:Nat):Int)):=by
          unfold namesB
          rw [ha,Bool.true_and]
          have:=metS_all (xs.map strV)
          rw [hz] at this
          by_cases c:(xs.map strV).Nodup
          · rw [decide_eq_true c,decide_eq_true (by have:=this.mpr c; omega)]
          · rw [decide_eq_false c,decide_eq_false (fun z=>c (this.mp (by omega)))]
        rw [ed] at hq
        exact hq
      · have ha':=Bool.eq_false_iff.mpr ha
        exists ha',Bool.not_false
        have hq:=q _ S2
        unfold namesB at hq
        rw [ha',Bool.false_and] at hq
        exact hq
  · refine ⟨x,t,false,rfl,ty,e,?_⟩
    exists Bool.not_false
    exact q _ fun _ _ z=>z
theorem ok_law_name (B:Bt K mg a) (C_law_next:CalX P w K mg base "_law_next" ["_law_state","_law_base"] 1 (sp_law_next K a)) (F:Fun K "_law_name" "_law_name" s_law_name f fd):FnOk P w K mg base CX0 2 f fd ["_law_state"] (sp_law_name K a):=by
  refine F.ok sc_law_name (fun vs H Q E h=>?_) (fun cdv A outer s H vs Q E hr h=>?_)
  · obtain ⟨wl,rfl,_⟩:=h
    rfl
  obtain ⟨wl,rfl,W,q⟩:=h
  refine ⟨_,(pss_of (qss_cons (qs_set (i:=1) sc_law_name.nd rfl (Or.inr rfl) (qe_of pe_str) (by kernel_rfl)) (qss_cons (qs_set (i:=2) sc_law_name.nd rfl (Or.inl rfl) (qe_of (pe_calN C_law_next (hr.mono (by decide)) rfl (pa_of (qa_c (pv 0) (qa_c pe_int qa_nil))) (he:=star_plain _ _ _ rfl) (hpl:=plain_any rfl))) (by kernel_rfl)) (qss_cons (qs_if (pt_cmpR op_eq (pv 2) pe_int (nomark _)) (qss_cons (qs_set (i:=3) sc_law_name.nd rfl (Or.inl rfl) (qe_lst (qa_c pe_str (qa_c pe_str (qa_c pe_str (qa_c pe_str (qa_c pe_str (qa_c pe_str (qa_c pe_str (qa_c pe_str (qa_c pe_str (qa_c pe_str (qa_c pe_str (qa_c pe_str (qa_c pe_str qa_nil)))))))))))))) (by kernel_rfl)) (qss_one (qs_ret (qe_ix ix_list (qe_op op_cat (qe_of (pv 3)) (qe_lst (qa_c pe_str (qa_c pe_str (qa_c pe_str qa_nil))))) (qe_of (pe_calN C_law_next (hr.mono (by decide)) rfl (pa_of (qa_c (pv 0) (qa_c pe_int qa_nil))) (he:=star_plain _ _ _ rfl) (hpl:=plain_any rfl))) (fun _ _=>rfl))))) qss_nil) (qss_cons (qs_if (pt_cmpR op_eq (pv 2) pe_int (nomark _)) (qss_cons (qs_set (i:=4) sc_law_name.nd rfl (Or.inl rfl) (qe_of (pe_slice sl_str pe_str po_none (po_some (pe_op op_add pe_int (pe_calN C_law_next (hr.mono (by decide)) rfl (pa_of (qa_c (pv 0) (qa_c pe_int qa_nil))) (he:=star_plain _ _ _ rfl) (hpl:=plain_any rfl)))))) (by kernel_rfl)) (qss_cons (qs_set (i:=5) sc_law_name.nd rfl (Or.inl rfl) (qe_of (pe_calN C_law_next (hr.mono (by decide)) rfl (pa_of (qa_c (pv 0) (qa_c (pe_callB call_len_str rfl B.len PySem.boot_len (pa_of (qa_c (pv 4) qa_nil))) qa_nil))) (he:=star_plain _ _ _ rfl) (hpl:=plain_any rfl))) (by kernel_rfl)) (qss_one (qs_ret (qe_of (pe_op op_add_str (pe_op op_add_str (pe_slice sl_str (pv 4) po_none (po_some (pv 5))) (pe_ix ix_str pe_str (pe_calN C_law_next (hr.mono (by decide)) rfl (pa_of (qa_c (pv 0) (qa_c pe_int qa_nil))) (he:=star_plain _ _ _ rfl) (hpl:=plain_any rfl)) (fun _ _=>rfl))) (pe_slice sl_str (pv 4) (po_some (pe_op op_add (pv 5) pe_int)) po_none))))))) qss_nil) (qss_one (qs_ret (qe_of (pe_bm PySem.F.plainAttrs_str PySem.F.slot_str_join PySem.F.type_str_join mt_join pe_str (pa_of (qa_c (pe_compB ["_law_k","_law_letters","_law_state"] [none,some 1,some 0] rfl (by kernel_rfl) (pi_range1 rfl B.range (pa_of (qa_c (pe_op op_add pe_int (pe_calN C_law_next (hr.mono (by decide)) rfl (pa_of (qa_c (pv 0) (qa_c pe_int qa_nil))) (he:=star_plain _ _ _ rfl) (hpl:=plain_any rfl))) qa_nil))) (fun cl C s H fp=>⟨(pg_name (i:=0) (by decide:List.Nodup (["_law_k","_law_letters","_law_state"]:List Str)) rfl (Or.inl (by kernel_rfl)) (Or.inr (by kernel_rfl))),pts_nil,(pe_ix ix_str (pv 1 (hv:=Or.inr (Or.inl (by kernel_rfl)))) (pe_calN C_law_next (hr.mono (by decide)) (gl_of (by kernel_rfl)) (pa_of (qa_c (pv 2 (hv:=Or.inr (Or.inl (by kernel_rfl)))) (qa_c pe_int qa_nil))) (he:=star_plain _ _ _ rfl) (hpl:=plain_any rfl)) (fun _ _=>rfl))⟩)) qa_nil))))))))))),?_⟩
  walk_at "w0"
  refine drw3 W (by decide) (by decide) fun r1 H1 a1 b1 W1 B1=>?_
  walk_at "w0"
  by_cases h0:r1=0
  · rw [if_pos h0]
    refine ⟨sz8 (by decide),fun p hp=>?_⟩
    have S1:=same_new hp (.lst [.str "any",.str "kind",.str "place",.str "weight",.str "not",.str "by",.str "now",.str "hour",.str "day",.str "never",.str "sure",.str "raise",.str "zone"])
    have e1:upd H1 p (.lst [.str "any",.str "kind",.str "place",.str "weight",.str "not",.str "by",.str "now",.str "hour",.str "day",.str "never",.str "sure",.str "raise",.str "zone"]) p=some (.lst [.str "any",.str "kind",.str "place",.str "weight",.str "not",.str "by",.str "now",.str "hour",.str "day",.str "never",.str "sure",.str "raise",.str "zone"]):=upd_same
    generalize upd H1 p (.lst [.str "any",.str "kind",.str "place",.str "weight",.str "not",.str "by",.str "now",.str "hour",.str "day",.str "never",.str "sure",.str "raise",.str "zone"])=H2 at *
    refine ⟨sz8 (by decide),fun p2 hp2=>?_⟩
    have S2:=same_new hp2 (.lst [.str "quiet",.str "a",.str "to"])
    have e2:upd H2 p2 (.lst [.str "quiet",.str "a",.str "to"]) p2=some (.lst [.str "quiet",.str "a",.str "to"]):=upd_same
    have e1':=S2 _ _ e1
    generalize upd H2 p2 (.lst [.str "quiet",.str "a",.str "to"])=H3 at *
    refine ⟨p,p2,[.str "any",.str "kind",.str "place",.str "weight",.str "not",.str "by",.str "now",.str "hour",.str "day",.str "never",.str "sure",.str "raise",.str "zone"],[.str "quiet",.str "a",.str "to"],rfl,rfl,e1',e2,sz8 (by decide),fun p3 hp3=>?_⟩
    have S3:=same_new hp3 (.lst ([.str "any",.str "kind",.str "place",.str "weight",.str "not",.str "by",.str "now",.str "hour",.str "day",.str "never",.str "sure",.str "raise",.str "zone"]++[.str "quiet",.str "a",.str "to"]))
    have e3:upd H3 p3 (.lst ([.str "any",.str "kind",.str "place",.str "weight",.str "not",.str "by",.str "now",.str "hour",.str "day",.str "never",.str "sure",.str "raise",.str "zone"]++[.str "quiet",.str "a",.str "to"])) p3=some (.lst ([.str "any",.str "kind",.str "place",.str "weight",.str "not",.str "by",.str "now",.str "hour",.str "day",.str "never",.str "sure",.str "raise",.str "zone"]++[.str "quiet",.str "a",.str "to"])):=upd_same
    have n3:=(W1.same (S1.trans S2)).ne hp3
    generalize upd H3 p3 (.lst ([.str "any",.str "kind",.str "place",.str "weight",.str "not",.str "by",.str "now",.str "hour",.str "day",.str "never",.str "sure",.str "raise",.str "zone"]++[.str "quiet",.str "a",.str "to"]))=H4 at *
    have SS:=S1.trans (S2.trans S3)
    refine drw3 (W1.same SS) (by decide) (by decide) fun r4 H5 a4 b4 W5 B5=>?_
    have e5:=B5 p3 _ n3 e3
    obtain ⟨v,hv,ev⟩:=at_memV (xs:=([.str "any",.str "kind",.str "place",.str "weight",.str "not",.str "by",.str "now",.str "hour",.str "day",.str "never",.str "sure",.str "raise",.str "zone"]:List V)++[.str "quiet",.str "a",.str "to"]) a4 (by simp only [List.length_append,List.length_cons,List.length_nil]; omega)
    refine ixl (SqL.of e5) ev ?_
    obtain ⟨u,rfl,g⟩:∃ u,v=.str u∧goodN u:=by
      simp only [List.cons_append,List.nil_append,List.mem_cons,List.not_mem_nil,or_false] at hv
      rcases hv with rfl | rfl | rfl | rfl | rfl | rfl | rfl | rfl | rfl | rfl | rfl | rfl | rfl | rfl | rfl | rfl <;> exact ⟨_,rfl,by decide +kernel⟩
    exact q u H5 g W5 (B1.trans ((Same.but SS).trans B5))
  rw [if_neg h0]
  by_cases h1:r1=1
  · rw [if_pos h1]
    refine drw3 W1 (by decide) (by decide) fun r2 H2 a2 b2 W2 B2=>?_
    walk_at "w0"
    have e8:Str.ofString "bcdefghi"=w8:=rfl
    have e3:Str.ofString "axz"=axz:=rfl
    rw [e8]
    have hw:=way_len a2 b2
    have hl:(Txt.slice w8 none (some (1+r2))).length≤8:=slice_le8 w8 (by decide) _ _
    refine ⟨sz8 (by decide),sz8 (by omega),?_⟩
    refine drw3 W2 (by rw [hw]; omega) (by rw [hw]; omega) fun r3 H3 a3 b3 W3 B3=>?_
    have b3':r3 < r2+1:=by rw [hw] at b3; omega
    walk_at "w0"
    refine ⟨sz8 (by omega),?_⟩
    refine drw3 W3 (by decide) (by decide) fun r4 H4 a4 b4 W4 B4=>?_
    obtain ⟨c,ec,gd⟩:=way_good a2 b2 a3 b3' a4 b4
    refine ixs (u:=axz) (sz8 (by decide)) ec ?_
    walk_at "w0"
    have l1:=slice_le8 (Txt.slice w8 none (some (1+r2))) hl none (some r3)
    have l2:=slice_le8 (Txt.slice w8 none (some (1+r2))) hl (some (r3+1)) none
    have l3:(⟨#[c]⟩:Str).length=1:=rfl
    refine ⟨sz8 (by rw [l3]; omega),sz8 (by omega),sz8 (by rw [Str.length_append,l3]; omega),?_⟩
    exact q _ H4 gd W4 (B1.trans (B2.trans (B3.trans B4)))
  · rw [if_neg h1]
    refine drw3 W1 (by decide) (by decide) fun r2 H2 a2 b2 W2 B2=>?_
    walk_at "w0"
    refine ⟨by omega,by omega,?_⟩
    refine CompR.by (fun i acc σ H'=>(∃ ts:List Str,acc=ts.map V.str∧ts.length=i∧∀ t∈ts,∃ c,t=⟨#[c]⟩∧97≤c∧c≤122)∧(∃ v,σ=[v,some (.str letters),some (.ref wl)])∧Well3 H' wl∧But wl H2 H') (sz8 (by omega)) ⟨⟨[],rfl,rfl,fun t ht=>by cases ht⟩,⟨_,rfl⟩,W2,But.refl _ _⟩ ?_ ?_ ?_
    · rintro i acc σ H' hi ⟨⟨ts,rfl,hl,ht⟩,⟨v,rfl⟩,W3,B3⟩
      walk_at "w0"
      refine drw3 W3 (by decide) (by decide) fun r3 H3 a3 b3 W4 B4=>?_
      obtain ⟨c,ec,c0,c1⟩:=letter_at a3 b3
      refine ixs (u:=letters) (sz8 (by decide)) ec ?_
      have new:∃ us:List Str,ts.map V.str++[V.str ⟨#[c]⟩]=us.map V.str∧us.length=i+1∧∀ t∈us,∃ c,t=⟨#[c]⟩∧97≤c∧c≤122:=by
        refine ⟨ts++[⟨#[c]⟩],by rw [List.map_append]; rfl,by rw [List.length_append,hl]; rfl,fun t h=>?_⟩
        rcases List.mem_append.mp h with z | z
        · exact ht t z
        · rw [List.mem_singleton.mp z]
          exact ⟨c,rfl,c0,c1⟩
      first | exact ⟨new,⟨_,rfl⟩,W4,B3.trans B4⟩ | exact ⟨new,W4,B3.trans B4⟩
    · rintro i acc σ H' ⟨⟨ts,rfl,hl,_⟩,_⟩
      rw [List.length_map,hl]
      exact Nat.le_refl _
    · rintro acc σ H' ⟨⟨ts,rfl,hl,ht⟩,⟨v,rfl⟩,W3,B3⟩ D hD
      have hn:ts.length=(1+r2).toNat:=hl
      obtain ⟨j1,j2⟩:=join_good ht (by omega) (by omega)
      have n0:=W3.ne hD
      have S9:=same_new hD (.lst (ts.map V.str))
      refine ⟨Str.empty,D,ts,rfl,rfl,upd_same,j1,?_⟩
      exact q _ _ j2 (W3.same S9) (B1.trans (B2.trans (B3.trans (Same.but S9))))
theorem hfs (k p n:V):putF ("kind":Str) k []=([("kind",k)]:List (Str × V))∧putF ("place":Str) p ([("kind",k)]:List (Str × V))=([("kind",k),("place",p)]:List (Str × V))∧putF ("weight":Str) n ([("kind",k),("place",p)]:List (Str × V))=([("kind",k),("place",p),("weight",n)]:List (Str × V)):=by
  refine ⟨rfl,putF_new fun q hq=>?_,putF_new fun q hq=>?_⟩
  · simp only [List.mem_cons,List.not_mem_nil,or_false] at hq
    rcases hq with rfl <;> (dsimp only; decide)
  · simp only [List.mem_cons,List.not_mem_nil,or_false] at hq
    rcases hq with rfl | rfl <;> (dsimp only; decide)
theorem ok_Happening___init__ (B:Bt K mg a) (C_is_whole_from:CalX P w K mg base "is_whole_from" ["thing","least"] 2 (sp_is_whole_from K a)) (C_is_name:CalX P w K mg base "is_name" ["thing"] 1 (sp_is_name K a)) (F:Fun K "__init__" "Happening.__init__" s_Happening___init__ f fd):FnOk P w K mg base CX0 3 f fd ["self","kind","place","weight"] (sp_Happening___init__ K a):=by
  refine F.ok sc_Happening___init__ (fun vs H Q E h=>?_) (fun cdv A outer s H vs Q E hr h=>?_)
  · obtain ⟨p,dx,k,l,n,rfl,_⟩:=h
    rfl
  obtain ⟨p,dx,k,l,n,rfl,hp,gk,gl,n0,q⟩:=h
  refine ⟨_,(pss_of (qss_cons (qs_if (L2.PW.pt (pw_or (pt_not (pt_val (pe_calN C_is_name (hr.mono (by decide)) rfl (pa_of (qa_c (pv 1) qa_nil)) (he:=star_plain _ _ _ rfl) (hpl:=plain_any rfl)))) (pw_or1 (pt_not (pt_val (pe_calN C_is_name (hr.mono (by decide)) rfl (pa_of (qa_c (pv 2) qa_nil)) (he:=star_plain _ _ _ rfl) (hpl:=plain_any rfl))))))) (qss_of pss_never) qss_nil) (qss_cons (qs_if (pt_not (pt_val (pe_calN C_is_whole_from (hr.mono (by decide)) rfl (pa_of (qa_c (pv 3) (qa_c pe_int qa_nil))) (he:=star_plain _ _ _ rfl) (hpl:=plain_any rfl)))) (qss_of pss_never) qss_nil) (qss_cons (qs_of (ps_fld (pv 0) (pv 1) rfl)) (qss_cons (qs_of (ps_fld (pv 0) (pv 2) rfl)) (qss_one (qs_of (ps_fld (pv 0) (pv 3) rfl)))))))),?_⟩
  have okn:∀ {G:Hp}{u:Str},goodN u→okN G (.str u):=fun {G u} g=>⟨(good_sm g).1,by have:=(good_sm g).2; omega⟩
  have nb:∀ {u:Str},goodN u→nameB (.str u)=true:=fun {u} g=>decide_eq_true g
  have fb:fromV (.int n) 0=true:=decide_eq_true n0
  obtain ⟨e1,e2,e3⟩:=hfs (.str k) (.str l) (.int n)
  walk_at "w0"
  refine ⟨_,rfl,okn gk,fun H1 S1=>?_⟩
  exists nb gk
  refine ⟨_,rfl,okn gl,fun H2 S2=>?_⟩
  exists nb gl
  refine ⟨_,_,rfl,⟨_,.int n,by kernel_rfl,by kernel_rfl⟩,?_⟩
  exists fb
  refine ⟨_,_,_,(S1.trans S2) _ _ hp,B.ck_Happening.cl,B.na_Happening_kind,by decide,_,_,_,upd_same,B.ck_Happening.cl,B.na_Happening_place,by rw [e1]; simp only [List.length_cons,List.length_nil]; decide,_,_,_,upd_same,B.ck_Happening.cl,B.na_Happening_weight,by rw [e1,e2]; simp only [List.length_cons,List.length_nil]; decide,?_⟩
  refine q _ (fun b o n e=>?_) ?_
  · rw [upd_ne n,upd_ne n,upd_ne n]
    exact (S1.trans S2) b o e
  · rw [upd_same,e1,e2,e3]
    rfl
theorem ok_check_names (B:Bt K mg a) (C_are_unlike_names:CalX P w K mg base "are_unlike_names" ["thing"] 2 (sp_are_unlike_names K a)) (F:Fun K "check_names" "check_names" s_check_names f fd):FnOk P w K mg base CX0 3 f fd ["names"] (sp_check_names K a):=by
  refine F.ok sc_check_names (fun vs H Q E h=>?_) (fun cdv A outer s H vs Q E hr h=>?_)
  · obtain ⟨l,us,rfl,_⟩:=h
    rfl
  obtain ⟨l,us,rfl,hl,⟨ne,l6,hg,nd⟩,q⟩:=h
  refine ⟨_,(pss_of (qss_one (qs_if (L2.PW.pt (pw_or (pt_not (pt_val (pe_calN C_are_unlike_names (hr.mono (by decide)) rfl (pa_of (qa_c (pv 0) qa_nil)) (he:=star_plain _ _ _ rfl) (hpl:=plain_any rfl)))) (pw_or1 (pt_cmpR op_eq (pe_callB call_len_seq rfl B.len PySem.boot_len (pa_of (qa_c (pv 0) qa_nil))) pe_int (nomark _))))) (qss_of pss_never) qss_nil))),?_⟩
  walk_at "w0"
  have hB:namesB (us.map V.str)=true:=by
    unfold namesB
    have e1:(us.map V.str).all nameB=true:=by
      rw [List.all_map,List.all_eq_true]
      intro u hu
      exact decide_eq_true (hg u hu)
    have e2:(us.map V.str).map strV=us:=by rw [List.map_map]; exact List.map_id us
    rw [e1,e2,decide_eq_true nd]
    rfl
  have hN:∀ y∈us.map V.str,okN H y:=fun y hy=>by
    obtain ⟨u,hu,rfl⟩:=List.mem_map.mp hy
    exact ⟨(good_sm (hg u hu)).1,by have:=(good_sm (hg u hu)).2; omega⟩
  refine ⟨_,true,rfl,.inl ⟨l,_,rfl,hl,by rw [List.length_map]; omega,hN,hB.symm⟩,fun H1 S1=>?_⟩
  exists Bool.not_true
  refine ⟨_,.inl (SqL.of (S1 _ _ hl)),?_⟩
  have l0:us.length≠0:=fun z=>ne (List.eq_nil_of_length_eq_zero z)
  exists List.length_map
  rw [if_neg (by omega)]
  exact q _ S1
theorem ok_check_fit (B:Bt K mg a)  (F:Fun K "check_fit" "check_fit" s_check_fit f fd):FnOk P w K mg base CX0 1 f fd ["fit"] (sp_check_fit K a):=by
  refine F.ok sc_check_fit (fun vs H Q E h=>?_) (fun cdv A outer s H vs Q E hr h=>?_)
  · obtain ⟨v,t,rfl,_⟩:=h
    rfl
  obtain ⟨v,t,rfl,h,q⟩:=h
  refine ⟨_,(pss_of (qss_one (qs_if (pt_not (pt_val (pe_callB (isiV_at (K:=K) rfl) rfl B.isinstance PyProof.Rows.boot_isinstance (pa_of (qa_c (pv 0) (qa_c (pe_glob (v:=.ref _) rfl B.Fit rfl) qa_nil))) (he:=star_plain _ _ _ rfl) (hpl:=plain_any rfl)))) (qss_of pss_never) qss_nil))),?_⟩
  walk_at "w0"
  obtain ⟨p,dx,fs,rfl,hp,_⟩:=h.ins
  have hk:ClsK K (t.cls (fc a))∧PySem.W.kitOne K (.ref (t.cls (fc a))) (.ref a.Fit)=some true:=by
    cases t with
    | any=>exact ⟨B.ck_Any,B.is_Any_Fit⟩
    | kind us=>exact ⟨B.ck_Kind,B.is_Kind_Fit⟩
    | place us=>exact ⟨B.ck_Place,B.is_Place_Fit⟩
    | weight n=>exact ⟨B.ck_Least,B.is_Least_Fit⟩
    | not t=>exact ⟨B.ck_Not,B.is_Not_Fit⟩
    | both ts=>exact ⟨B.ck_Both,B.is_Both_Fit⟩
    | either ts=>exact ⟨B.ck_Either,B.is_Either_Fit⟩
  refine ⟨_,_,_,true,rfl,hk.1.ty hp,hk.2,?_⟩
  exists Bool.not_true
  exact q
theorem ok_check_fits (B:Bt K mg a) (C_check_fit:CalX P w K mg base "check_fit" ["fit"] 1 (sp_check_fit K a)) (F:Fun K "check_fits" "check_fits" s_check_fits f fd):FnOk P w K mg base CX0 2 f fd ["fits"] (sp_check_fits K a):=by
  refine F.ok sc_check_fits (fun vs H Q E h=>?_) (fun cdv A outer s H vs Q E hr h=>?_)
  · obtain ⟨l,xs,ts,rfl,_⟩:=h
    rfl
  obtain ⟨l,xs,ts,rfl,hl,hf,l2,l100,q⟩:=h
  refine ⟨_,(pss_of (qss_cons (qs_if (L2.PW.pt (pw_or (pt_not (pt_val (pe_callB (isiG_at (K:=K) (T:="list") rfl) rfl B.isinstance PyProof.Rows.boot_isinstance (pa_of (qa_c (pv 0) (qa_c (pe_bltn (v:=.ty "list") rfl B.list PyProof.Rows.boot_list rfl) qa_nil))) (he:=star_plain _ _ _ rfl) (hpl:=plain_any rfl)))) (pw_or1 (pt_cmpR op_lt (pe_callB call_len_seq rfl B.len PySem.boot_len (pa_of (qa_c (pv 0) qa_nil))) pe_int (nomark _))))) (qss_of pss_never) qss_nil) (qss_one (qs_of (ps_for PassesOwn.never rfl (pi_list (pv 0)) (pg_name (i:=1) sc_check_fits.nd rfl (Or.inl rfl)) (pss_of (qss_one (qs_of (ps_expr (pe_calN C_check_fit (hr.mono (by decide)) rfl (pa_of (qa_c (pv 1) qa_nil)) (he:=star_plain _ _ _ rfl) (hpl:=plain_any rfl))))))))))),?_⟩
  walk_at "w0"
  refine ⟨_,_,true,rfl,.lst hl,by kernel_rfl,?_⟩
  exists Bool.not_true
  refine ⟨_,.inl (SqL.of hl),?_⟩
  rw [if_neg (by omega)]
  refine ⟨⟨_,SqL.of hl⟩,?_⟩
  refine ForL.by (xs:=xs) (fun _ σ H1=>(∃ v,σ=[some (.ref l),v])∧H1=H) ⟨⟨_,rfl⟩,rfl⟩ (fun i σ H1 _ h=>by rw [h.2]; exact SqL.of hl) ?_ ?_
  · rintro i y σ H1 hy ⟨⟨v,rfl⟩,rfl⟩
    obtain ⟨t,_,ht⟩:=hf.get hy
    walk_at "w0"
    refine ⟨y,t,rfl,ht,?_⟩
    first | exact ⟨⟨_,rfl⟩,rfl⟩ | trivial
  · rintro σ H1 ⟨⟨v,rfl⟩,rfl⟩
    first | exact q | (walk_at "w0"; exact q)
theorem ok_Kind___init__ (B:Bt K mg a) (C_check_names:CalX P w K mg base "check_names" ["names"] 3 (sp_check_names K a)) (F:Fun K "__init__" "Kind.__init__" s_Kind___init__ f fd):FnOk P w K mg base CX0 4 f fd ["self","names"] (sp_Kind___init__ K a):=by
  refine F.ok sc_Kind___init__ (fun vs H Q E h=>?_) (fun cdv A outer s H vs Q E hr h=>?_)
  · obtain ⟨p,dx,l,us,rfl,_⟩:=h
    rfl
  obtain ⟨p,dx,l,us,rfl,hp,hl,hok,q⟩:=h
  refine ⟨_,(pss_of (qss_cons (qs_of (ps_expr (pe_calN C_check_names (hr.mono (by decide)) rfl (pa_of (qa_c (pv 1) qa_nil)) (he:=star_plain _ _ _ rfl) (hpl:=plain_any rfl)))) (qss_one (qs_of (ps_fld (pv 0) (pe_callTy call_list_of rfl B.list PyProof.Rows.boot_list (pa_of (qa_c (pv 1) qa_nil))) rfl))))),?_⟩
  walk_at "w0"
  refine ⟨l,us,rfl,hl,hok,fun H1 S1=>?_⟩
  walk_at "w0"
  refine ⟨_,.inl (SqL.of (S1 _ _ hl)),fun p2 h2=>?_⟩
  have S2:=same_new h2 (.lst (us.map V.str))
  refine ⟨_,_,_,S2 _ _ (S1 _ _ hp),B.ck_Kind.cl,B.na_Kind_names,by decide,?_⟩
  refine q p2 _ (fun b o n e=>?_) (S1.free h2) ?_ upd_same
  · rw [upd_ne n]
    exact S2 _ _ (S1 _ _ e)
  · rw [upd_ne (ne_of_none (S1 _ _ hp) h2).symm]
    exact upd_same
theorem ok_Place___init__ (B:Bt K mg a) (C_check_names:CalX P w K mg base "check_names" ["names"] 3 (sp_check_names K a)) (F:Fun K "__init__" "Place.__init__" s_Place___init__ f fd):FnOk P w K mg base CX0 4 f fd ["self","names"] (sp_Place___init__ K a):=by
  refine F.ok sc_Place___init__ (fun vs H Q E h=>?_) (fun cdv A outer s H vs Q E hr h=>?_)
  · obtain ⟨p,dx,l,us,rfl,_⟩:=h
    rfl
  obtain ⟨p,dx,l,us,rfl,hp,hl,hok,q⟩:=h
  refine ⟨_,(pss_of (qss_cons (qs_of (ps_expr (pe_calN C_check_names (hr.mono (by decide)) rfl (pa_of (qa_c (pv 1) qa_nil)) (he:=star_plain _ _ _ rfl) (hpl:=plain_any rfl)))) (qss_one (qs_of (ps_fld (pv 0) (pe_callTy call_list_of rfl B.list PyProof.Rows.boot_list (pa_of (qa_c (pv 1) qa_nil))) rfl))))),?_⟩
  walk_at "w0"
  refine ⟨l,us,rfl,hl,hok,fun H1 S1=>?_⟩
  walk_at "w0"
  refine ⟨_,.inl (SqL.of (S1 _ _ hl)),fun p2 h2=>?_⟩
  have S2:=same_new h2 (.lst (us.map V.str))
  refine ⟨_,_,_,S2 _ _ (S1 _ _ hp),B.ck_Place.cl,B.na_Place_names,by decide,?_⟩
  refine q p2 _ (fun b o n e=>?_) (S1.free h2) ?_ upd_same
  · rw [upd_ne n]
    exact S2 _ _ (S1 _ _ e)
  · rw [upd_ne (ne_of_none (S1 _ _ hp) h2).symm]
    exact upd_same
theorem ok_Least___init__ (B:Bt K mg a) (C_is_whole_from:CalX P w K mg base "is_whole_from" ["thing","least"] 2 (sp_is_whole_from K a)) (F:Fun K "__init__" "Least.__init__" s_Least___init__ f fd):FnOk P w K mg base CX0 3 f fd ["self","weight"] (sp_Least___init__ K a):=by
  refine F.ok sc_Least___init__ (fun vs H Q E h=>?_) (fun cdv A outer s H vs Q E hr h=>?_)
  · obtain ⟨p,dx,n,rfl,_⟩:=h
    rfl
  obtain ⟨p,dx,n,rfl,hp,n0,q⟩:=h
  refine ⟨_,(pss_of (qss_cons (qs_if (pt_not (pt_val (pe_calN C_is_whole_from (hr.mono (by decide)) rfl (pa_of (qa_c (pv 1) (qa_c pe_int qa_nil))) (he:=star_plain _ _ _ rfl) (hpl:=plain_any rfl)))) (qss_of pss_never) qss_nil) (qss_one (qs_of (ps_fld (pv 0) (pv 1) rfl))))),?_⟩
  walk_at "w0"
  have e:fromV (.int n) 0=true:=decide_eq_true n0
  refine ⟨_,_,rfl,⟨_,.int n,by kernel_rfl,by kernel_rfl⟩,?_⟩
  exists e
  exact ⟨_,_,_,hp,B.ck_Least.cl,B.na_Least_weight,by decide,q⟩
theorem ok_Not___init__ (B:Bt K mg a) (C_check_fit:CalX P w K mg base "check_fit" ["fit"] 1 (sp_check_fit K a)) (F:Fun K "__init__" "Not.__init__" s_Not___init__ f fd):FnOk P w K mg base CX0 2 f fd ["self","fit"] (sp_Not___init__ K a):=by
  refine F.ok sc_Not___init__ (fun vs H Q E h=>?_) (fun cdv A outer s H vs Q E hr h=>?_)
  · obtain ⟨p,dx,v,t,rfl,_⟩:=h
    rfl
  obtain ⟨p,dx,v,t,rfl,hp,hf,q⟩:=h
  refine ⟨_,(pss_of (qss_cons (qs_of (ps_expr (pe_calN C_check_fit (hr.mono (by decide)) rfl (pa_of (qa_c (pv 1) qa_nil)) (he:=star_plain _ _ _ rfl) (hpl:=plain_any rfl)))) (qss_one (qs_of (ps_fld (pv 0) (pv 1) rfl))))),?_⟩
  walk_at "w0"
  refine ⟨v,t,rfl,hf,?_⟩
  walk_at "w0"
  exact ⟨_,_,_,hp,B.ck_Not.cl,B.na_Not_fit,by decide,q⟩
theorem ok_Both___init__ (B:Bt K mg a) (C_check_fits:CalX P w K mg base "check_fits" ["fits"] 2 (sp_check_fits K a)) (F:Fun K "__init__" "Both.__init__" s_Both___init__ f fd):FnOk P w K mg base CX0 3 f fd ["self","fits"] (sp_Both___init__ K a):=by
  refine F.ok sc_Both___init__ (fun vs H Q E h=>?_) (fun cdv A outer s H vs Q E hr h=>?_)
  · obtain ⟨p,dx,l,xs,ts,rfl,_⟩:=h
    rfl
  obtain ⟨p,dx,l,xs,ts,rfl,hp,hl,hf,l2,l100,q⟩:=h
  refine ⟨_,(pss_of (qss_cons (qs_of (ps_expr (pe_calN C_check_fits (hr.mono (by decide)) rfl (pa_of (qa_c (pv 1) qa_nil)) (he:=star_plain _ _ _ rfl) (hpl:=plain_any rfl)))) (qss_one (qs_of (ps_fld (pv 0) (pe_callTy call_list_of rfl B.list PyProof.Rows.boot_list (pa_of (qa_c (pv 1) qa_nil))) rfl))))),?_⟩
  walk_at "w0"
  refine ⟨l,xs,ts,rfl,hl,hf,l2,l100,?_⟩
  walk_at "w0"
  refine ⟨_,.inl (SqL.of hl),fun p2 h2=>?_⟩
  have S2:=same_new h2 (.lst xs)
  refine ⟨_,_,_,S2 _ _ hp,B.ck_Both.cl,B.na_Both_fits,by decide,?_⟩
  refine q p2 _ (fun b o n e=>?_) h2 ?_ upd_same
  · rw [upd_ne n]
    exact S2 _ _ e
  · rw [upd_ne (ne_of_none hp h2).symm]
    exact upd_same
theorem ok_Either___init__ (B:Bt K mg a) (C_check_fits:CalX P w K mg base "check_fits" ["fits"] 2 (sp_check_fits K a)) (F:Fun K "__init__" "Either.__init__" s_Either___init__ f fd):FnOk P w K mg base CX0 3 f fd ["self","fits"] (sp_Either___init__ K a):=by
  refine F.ok sc_Either___init__ (fun vs H Q E h=>?_) (fun cdv A outer s H vs Q E hr h=>?_)
  · obtain ⟨p,dx,l,xs,ts,rfl,_⟩:=h
    rfl
  obtain ⟨p,dx,l,xs,ts,rfl,hp,hl,hf,l2,l100,q⟩:=h
  refine ⟨_,(pss_of (qss_cons (qs_of (ps_expr (pe_calN C_check_fits (hr.mono (by decide)) rfl (pa_of (qa_c (pv 1) qa_nil)) (he:=star_plain _ _ _ rfl) (hpl:=plain_any rfl)))) (qss_one (qs_of (ps_fld (pv 0) (pe_callTy call_list_of rfl B.list PyProof.Rows.boot_list (pa_of (qa_c (pv 1) qa_nil))) rfl))))),?_⟩
  walk_at "w0"
  refine ⟨l,xs,ts,rfl,hl,hf,l2,l100,?_⟩
  walk_at "w0"
  refine ⟨_,.inl (SqL.of hl),fun p2 h2=>?_⟩
  have S2:=same_new h2 (.lst xs)
  refine ⟨_,_,_,S2 _ _ hp,B.ck_Either.cl,B.na_Either_fits,by decide,?_⟩
  refine q p2 _ (fun b o n e=>?_) h2 ?_ upd_same
  · rw [upd_ne n]
    exact S2 _ _ e
  · rw [upd_ne (ne_of_none hp h2).symm]
    exact upd_same
theorem inV_str (u:Str):∀ us:List Str,inV (.str u) (us.map V.str)=decide (u∈us)
  | []=>rfl
  | v::us=>by
    have e:inV (.str u) ((v::us).map V.str)=(eqV (.str v) (.str u) || inV (.str u) (us.map V.str)):=rfl
    rw [e,inV_str u us]
    have e2:eqV (.str v) (.str u)=decide (v=u):=by
      first | rfl | (unfold eqV; by_cases c:v=u <;> simp [c])
    rw [e2]
    by_cases c:v=u
    · simp [c]
    · have c':¬ u=v:=fun z=>c z.symm
      simp [c,c']
theorem flat_strs:∀ us:List Str,(us.map V.str).all flatV=true
  | []=>rfl
  | v::us=>by rw [List.map_cons,List.all_cons,flat_strs us]; rfl
theorem ok_Any_fits_it {d n:Nat}(hn:0≤n) (B:Bt K mg a)  (F:Fun K "fits_it" "Any.fits_it" s_Any_fits_it f fd):FnOk P w K mg base CX0 (n+1) f fd ["self","happening"] (sp_Any_fits_it K a (d+1)):=by
  refine F.ok sc_Any_fits_it (fun vs H Q E h=>?_) (fun cdv A outer s H vs Q E hr h=>?_)
  · obtain ⟨v,t,hp,dh,k,l,n2,rfl,_⟩:=h
    rfl
  obtain ⟨v,t,hp,dh,k,l,n2,rfl,ht,hd,ho,hf,hh,q⟩:=h
  refine ⟨_,(pss_of (qss_one (qs_ret (qe_of pe_bl)))),?_⟩
  cases t with
  | kind us=>cases ht
  | place us=>cases ht
  | weight n=>cases ht
  | not t=>cases ht
  | both ts=>cases ht
  | either ts=>cases ht
  | any =>
  rw [Tr.Fit] at hf
  simp only [Tr.ev] at q
  walk_at "w0"
  exact q _ fun _ _ z=>z
theorem ok_Kind_fits_it {d n:Nat}(hn:0≤n) (B:Bt K mg a)  (F:Fun K "fits_it" "Kind.fits_it" s_Kind_fits_it f fd):FnOk P w K mg base CX0 (n+1) f fd ["self","happening"] (sp_Kind_fits_it K a (d+1)):=by
  refine F.ok sc_Kind_fits_it (fun vs H Q E h=>?_) (fun cdv A outer s H vs Q E hr h=>?_)
  · obtain ⟨v,t,hp,dh,k,l,n2,rfl,_⟩:=h
    rfl
  obtain ⟨v,t,hp,dh,k,l,n2,rfl,ht,hd,ho,hf,hh,q⟩:=h
  refine ⟨_,(pss_of (qss_one (qs_ret (qe_of (pe_cmpR op_in_seq (pe_fld (pv 1) rfl) (pe_fld (pv 0) rfl) (by with_unfolding_all rfl)))))),?_⟩
  cases t with
  | any=>cases ht
  | place us=>cases ht
  | weight n=>cases ht
  | not t=>cases ht
  | both ts=>cases ht
  | either ts=>cases ht
  | kind us =>
  rw [Tr.Fit] at hf
  simp only [Tr.ev] at q
  obtain ⟨p,dx,ln,rfl,h1,h2,_⟩:=hf
  walk_at "w0"
  refine ⟨_,_,_,hh,B.ck_Happening.cl,B.na_Happening_kind,.str k,rfl,?_⟩
  walk_at "w0"
  refine ⟨_,_,_,h1,B.ck_Kind.cl,B.na_Kind_names,.ref ln,rfl,?_⟩
  refine ⟨ln,_,rfl,.inl (SqL.of h2),rfl,flat_strs us,?_⟩
  rw [inV_str]
  exact q _ fun _ _ z=>z
theorem ok_Place_fits_it {d n:Nat}(hn:0≤n) (B:Bt K mg a)  (F:Fun K "fits_it" "Place.fits_it" s_Place_fits_it f fd):FnOk P w K mg base CX0 (n+1) f fd ["self","happening"] (sp_Place_fits_it K a (d+1)):=by
  refine F.ok sc_Place_fits_it (fun vs H Q E h=>?_) (fun cdv A outer s H vs Q E hr h=>?_)
  · obtain ⟨v,t,hp,dh,k,l,n2,rfl,_⟩:=h
    rfl
  obtain ⟨v,t,hp,dh,k,l,n2,rfl,ht,hd,ho,hf,hh,q⟩:=h
  refine ⟨_,(pss_of (qss_one (qs_ret (qe_of (pe_cmpR op_in_seq (pe_fld (pv 1) rfl) (pe_fld (pv 0) rfl) (by with_unfolding_all rfl)))))),?_⟩
  cases t with
  | any=>cases ht
  | kind us=>cases ht
  | weight n=>cases ht
  | not t=>cases ht
  | both ts=>cases ht
  | either ts=>cases ht
  | place us =>
  rw [Tr.Fit] at hf
  simp only [Tr.ev] at q
  obtain ⟨p,dx,ln,rfl,h1,h2,_⟩:=hf
  walk_at "w0"
  refine ⟨_,_,_,hh,B.ck_Happening.cl,B.na_Happening_place,.str l,rfl,?_⟩
  walk_at "w0"
  refine ⟨_,_,_,h1,B.ck_Place.cl,B.na_Place_names,.ref ln,rfl,?_⟩
  refine ⟨ln,_,rfl,.inl (SqL.of h2),rfl,flat_strs us,?_⟩
  rw [inV_str]
  exact q _ fun _ _ z=>z
theorem ok_Least_fits_it {d n:Nat}(hn:0≤n) (B:Bt K mg a)  (F:Fun K "fits_it" "Least.fits_it" s_Least_fits_it f fd):FnOk P w K mg base CX0 (n+1) f fd ["self","happening"] (sp_Least_fits_it K a (d+1)):=by
  refine F.ok sc_Least_fits_it (fun vs H Q E h=>?_) (fun cdv A outer s H vs Q E hr h=>?_)
  · obtain ⟨v,t,hp,dh,k,l,n2,rfl,_⟩:=h
    rfl
  obtain ⟨v,t,hp,dh,k,l,n2,rfl,ht,hd,ho,hf,hh,q⟩:=h
  refine ⟨_,(pss_of (qss_one (qs_ret (qe_of (pe_cmpR op_ge (pe_fld (pv 1) rfl) (pe_fld (pv 0) rfl) (nomark _)))))),?_⟩
  cases t with
  | any=>cases ht
  | kind us=>cases ht
  | place us=>cases ht
  | not t=>cases ht
  | both ts=>cases ht
  | either ts=>cases ht
  | weight n =>
  rw [Tr.Fit] at hf
  simp only [Tr.ev] at q
  obtain ⟨p,dx,rfl,h1⟩:=hf
  walk_at "w0"
  refine ⟨_,_,_,hh,B.ck_Happening.cl,B.na_Happening_weight,.int n2,rfl,?_⟩
  walk_at "w0"
  refine ⟨_,_,_,h1,B.ck_Least.cl,B.na_Least_weight,.int n,rfl,?_⟩
  walk_at "w0"
  exact q _ fun _ _ z=>z
theorem ok_Not_fits_it {d n:Nat}(hn:0≤n) (B:Bt K mg a) (CM_fits_it:∀ C sp,Mm_fits_it K a d C sp→CalM P w K mg base C "fits_it" ["self","happening"] n sp) (F:Fun K "fits_it" "Not.fits_it" s_Not_fits_it f fd):FnOk P w K mg base CX0 (n+1) f fd ["self","happening"] (sp_Not_fits_it K a (d+1)):=by
  refine F.ok sc_Not_fits_it (fun vs H Q E h=>?_) (fun cdv A outer s H vs Q E hr h=>?_)
  · obtain ⟨v,t,hp,dh,k,l,n2,rfl,_⟩:=h
    rfl
  obtain ⟨v,t,hp,dh,k,l,n2,rfl,ht,hd,ho,hf,hh,q⟩:=h
  refine ⟨_,(pss_of (qss_one (qs_ret (qe_of (pe_not (pe_methD (pe_fld (pv 0) rfl) CM_fits_it pass00 (hr.mono (by omega)) (pa_of (qa_c (pv 1) qa_nil)) (hst:=star_plain _ _ _ rfl) (hpl:=plain_any rfl))))))),?_⟩
  cases t with
  | any=>cases ht
  | kind us=>cases ht
  | place us=>cases ht
  | weight n=>cases ht
  | both ts=>cases ht
  | either ts=>cases ht
  | not t =>
  rw [Tr.Fit] at hf
  simp only [Tr.ev] at q
  obtain ⟨p,dx,y,rfl,h1,h2⟩:=hf
  rw [Tr.dp] at hd
  rw [Tr.ok] at ho
  obtain ⟨p2,_,_,rfl,_⟩:=id h2.ins
  walk_at "w0"
  refine ⟨_,_,_,h1,B.ck_Not.cl,B.na_Not_fit,.ref p2,rfl,?_⟩
  walk_at "w0"
  refine ft_at (K:=K) h2 (by omega) ho hh fun H1 S1=>?_
  walk_at "w0"
  exact q _ S1
theorem ok_Both_fits_it {d n:Nat}(hn:0≤n) (B:Bt K mg a) (CM_fits_it:∀ C sp,Mm_fits_it K a d C sp→CalM P w K mg base C "fits_it" ["self","happening"] n sp) (F:Fun K "fits_it" "Both.fits_it" s_Both_fits_it f fd):FnOk P w K mg base CX0 (n+1) f fd ["self","happening"] (sp_Both_fits_it K a (d+1)):=by
  refine F.ok sc_Both_fits_it (fun vs H Q E h=>?_) (fun cdv A outer s H vs Q E hr h=>?_)
  · obtain ⟨v,t,hp,dh,k,l,n2,rfl,_⟩:=h
    rfl
  obtain ⟨v,t,hp,dh,k,l,n2,rfl,ht,hd,ho,hf,hh,q⟩:=h
  refine ⟨_,(pss_of (qss_one (qs_ret (qe_of (pe_callB (call_all rfl) rfl B.all PyProof.Rows.boot_all (pa_of (qa_c (pe_compB ["fit","happening"] [none,some 1] rfl (by kernel_rfl) (pi_list (pe_fld (pv 0) rfl)) (fun cl C s H fp=>⟨(pg_name (i:=0) (by decide:List.Nodup (["fit","happening"]:List Str)) rfl (Or.inl (by kernel_rfl)) (Or.inr (by kernel_rfl))),pts_nil,(pe_methD (pv 0 (hv:=Or.inl (by kernel_rfl))) CM_fits_it pass00 (hr.mono (by omega)) (pa_of (qa_c (pv 1 (hv:=Or.inr (Or.inl (by kernel_rfl)))) qa_nil)) (hst:=star_plain _ _ _ rfl) (hpl:=plain_any rfl))⟩)) qa_nil)) (he:=star_plain _ _ _ rfl) (hpl:=plain_any rfl)))))),?_⟩
  cases t with
  | any=>cases ht
  | kind us=>cases ht
  | place us=>cases ht
  | weight n=>cases ht
  | not t=>cases ht
  | either ts=>cases ht
  | both ts =>
  rw [Tr.Fit] at hf
  simp only [Tr.ev] at q
  obtain ⟨p,dx,ln,xs,rfl,h1,h2,_,h3⟩:=hf
  rw [Tr.dp] at hd
  rw [Tr.ok] at ho
  obtain ⟨l2,l6,ho⟩:=ho
  have hA:=trs_fit.mp h3
  have ln6:=hA.len
  walk_at "w0"
  refine ⟨_,_,_,h1,B.ck_Both.cl,B.na_Both_fits,.ref ln,rfl,?_⟩
  walk_at "w0"
  refine ⟨⟨xs,SqL.of h2⟩,?_⟩
  refine CompL.by (xs:=xs) (fun i acc σ H'=>acc=((ts.toL.take i).map (Tr.ev k l n2)).map V.bl∧(∃ v,σ=[v,some (.ref hp)])∧Same H H') (sz8 (by omega)) ⟨rfl,⟨_,rfl⟩,fun _ _ z=>z⟩ (fun i acc σ H' _ h=>SqL.of (h.2.2 _ _ h2)) ?_ ?_ ?_
  · rintro i y acc σ H' hy ⟨rfl,⟨v,rfl⟩,S1⟩
    obtain ⟨t,e,ht⟩:=hA.get hy
    have mt:=List.mem_of_getElem? e
    have ea:((ts.toL.take i).map (Tr.ev k l n2)).map V.bl++[V.bl (t.ev k l n2)]=((ts.toL.take (i+1)).map (Tr.ev k l n2)).map V.bl:=by
      rw [List.take_succ,e,List.map_append,List.map_append]
      rfl
    have ht1:=ht.same S1
    obtain ⟨p2,_,_,rfl,_⟩:=id ht1.ins
    have dt:=trs_dp mt
    walk_at "w0"
    refine ft_at (K:=K) ht1 (by omega) (trs_ok.mp ho t mt) (S1 _ _ hh) fun H2 S2=>?_
    first | exact ⟨ea,⟨_,rfl⟩,S1.trans S2⟩ | exact ⟨ea,S1.trans S2⟩
  · rintro i acc σ H' ⟨rfl,_,_⟩
    rw [List.length_map,List.length_map,List.length_take]
    omega
  · rintro acc σ H' ⟨rfl,⟨v,rfl⟩,S1⟩ D hD
    rw [← ln6,List.take_length,← trs_ev]
    exact ⟨D,rfl,_,SqL.of upd_same,q _ (S1.trans (same_new hD _))⟩
theorem ok_Either_fits_it {d n:Nat}(hn:0≤n) (B:Bt K mg a) (CM_fits_it:∀ C sp,Mm_fits_it K a d C sp→CalM P w K mg base C "fits_it" ["self","happening"] n sp) (F:Fun K "fits_it" "Either.fits_it" s_Either_fits_it f fd):FnOk P w K mg base CX0 (n+1) f fd ["self","happening"] (sp_Either_fits_it K a (d+1)):=by
  refine F.ok sc_Either_fits_it (fun vs H Q E h=>?_) (fun cdv A outer s H vs Q E hr h=>?_)
  · obtain ⟨v,t,hp,dh,k,l,n2,rfl,_⟩:=h
    rfl
  obtain ⟨v,t,hp,dh,k,l,n2,rfl,ht,hd,ho,hf,hh,q⟩:=h
  refine ⟨_,(pss_of (qss_one (qs_ret (qe_of (pe_callB (call_any rfl) rfl B.any PyProof.Rows.boot_any (pa_of (qa_c (pe_compB ["fit","happening"] [none,some 1] rfl (by kernel_rfl) (pi_list (pe_fld (pv 0) rfl)) (fun cl C s H fp=>⟨(pg_name (i:=0) (by decide:List.Nodup (["fit","happening"]:List Str)) rfl (Or.inl (by kernel_rfl)) (Or.inr (by kernel_rfl))),pts_nil,(pe_methD (pv 0 (hv:=Or.inl (by kernel_rfl))) CM_fits_it pass00 (hr.mono (by omega)) (pa_of (qa_c (pv 1 (hv:=Or.inr (Or.inl (by kernel_rfl)))) qa_nil)) (hst:=star_plain _ _ _ rfl) (hpl:=plain_any rfl))⟩)) qa_nil)) (he:=star_plain _ _ _ rfl) (hpl:=plain_any rfl)))))),?_⟩
  cases t with
  | any=>cases ht
  | kind us=>cases ht
  | place us=>cases ht
  | weight n=>cases ht
  | not t=>cases ht
  | both ts=>cases ht
  | either ts =>
  rw [Tr.Fit] at hf
  simp only [Tr.ev] at q
  obtain ⟨p,dx,ln,xs,rfl,h1,h2,_,h3⟩:=hf
  rw [Tr.dp] at hd
  rw [Tr.ok] at ho
  obtain ⟨l2,l6,ho⟩:=ho
  have hA:=trs_fit.mp h3
  have ln6:=hA.len
  walk_at "w0"
  refine ⟨_,_,_,h1,B.ck_Either.cl,B.na_Either_fits,.ref ln,rfl,?_⟩
  walk_at "w0"
  refine ⟨⟨xs,SqL.of h2⟩,?_⟩
  refine CompL.by (xs:=xs) (fun i acc σ H'=>acc=((ts.toL.take i).map (Tr.ev k l n2)).map V.bl∧(∃ v,σ=[v,some (.ref hp)])∧Same H H') (sz8 (by omega)) ⟨rfl,⟨_,rfl⟩,fun _ _ z=>z⟩ (fun i acc σ H' _ h=>SqL.of (h.2.2 _ _ h2)) ?_ ?_ ?_
  · rintro i y acc σ H' hy ⟨rfl,⟨v,rfl⟩,S1⟩
    obtain ⟨t,e,ht⟩:=hA.get hy
    have mt:=List.mem_of_getElem? e
    have ea:((ts.toL.take i).map (Tr.ev k l n2)).map V.bl++[V.bl (t.ev k l n2)]=((ts.toL.take (i+1)).map (Tr.ev k l n2)).map V.bl:=by
      rw [List.take_succ,e,List.map_append,List.map_append]
      rfl
    have ht1:=ht.same S1
    obtain ⟨p2,_,_,rfl,_⟩:=id ht1.ins
    have dt:=trs_dp mt
    walk_at "w0"
    refine ft_at (K:=K) ht1 (by omega) (trs_ok.mp ho t mt) (S1 _ _ hh) fun H2 S2=>?_
    first | exact ⟨ea,⟨_,rfl⟩,S1.trans S2⟩ | exact ⟨ea,S1.trans S2⟩
  · rintro i acc σ H' ⟨rfl,_,_⟩
    rw [List.length_map,List.length_map,List.length_take]
    omega
  · rintro acc σ H' ⟨rfl,⟨v,rfl⟩,S1⟩ D hD
    rw [← ln6,List.take_length,← trs_ev]
    exact ⟨D,rfl,_,SqL.of upd_same,q _ (S1.trans (same_new hD _))⟩
theorem ok_law_leaf (B:Bt K mg a) (C_law_next:CalX P w K mg base "_law_next" ["_law_state","_law_base"] 1 (sp_law_next K a)) (C_law_name:CalX P w K mg base "_law_name" ["_law_state"] 2 (sp_law_name K a)) (F:Fun K "_law_leaf" "_law_leaf" s_law_leaf f fd):FnOk P w K mg base CX0 3 f fd ["_law_state","_law_more"] (sp_law_leaf K a):=by
  refine F.ok sc_law_leaf (fun vs H Q E h=>?_) (fun cdv A outer s H vs Q E hr h=>?_)
  · obtain ⟨wl,m,rfl,_⟩:=h
    rfl
  obtain ⟨wl,m,rfl,W,m0,m5,q⟩:=h
  refine ⟨_,(pss_of (qss_cons (qs_set (i:=2) sc_law_leaf.nd rfl (Or.inl rfl) (qe_of (pe_calN C_law_next (hr.mono (by decide)) rfl (pa_of (qa_c (pv 0) (qa_c pe_int qa_nil))) (he:=star_plain _ _ _ rfl) (hpl:=plain_any rfl))) (by kernel_rfl)) (qss_cons (qs_if (pt_cmpR op_eq (pv 2) pe_int (nomark _)) (qss_one (qs_ret (qe_of (pe_tup (pa_of (qa_c pe_str qa_nil)))))) qss_nil) (qss_cons (qs_if (pt_cmpR op_lt (pv 2) pe_int (nomark _)) (qss_one (qs_ret (qe_of (pe_tup (pa_of (qa_c pe_str (qa_c (pe_ix ix_list (pe_lst (pa_of (qa_c (pe_calN C_law_next (hr.mono (by decide)) rfl (pa_of (qa_c (pv 0) (qa_c pe_int qa_nil))) (he:=star_plain _ _ _ rfl) (hpl:=plain_any rfl)) (qa_c (pe_calN C_law_next (hr.mono (by decide)) rfl (pa_of (qa_c (pv 0) (qa_c (pe_op op_pow pe_int pe_int) qa_nil))) (he:=star_plain _ _ _ rfl) (hpl:=plain_any rfl)) qa_nil)))) (pe_op op_fdivL (pe_calN C_law_next (hr.mono (by decide)) rfl (pa_of (qa_c (pv 0) (qa_c pe_int qa_nil))) (he:=star_plain _ _ _ rfl) (hpl:=plain_any rfl)) pe_int) (fun _ _=>rfl)) qa_nil))))))) qss_nil) (qss_cons (qs_set (i:=3) sc_law_leaf.nd rfl (Or.inl rfl) (qe_lst (qa_c (pe_calN C_law_name (hr.mono (by decide)) rfl (pa_of (qa_c (pv 0) qa_nil)) (he:=star_plain _ _ _ rfl) (hpl:=plain_any rfl)) qa_nil)) (by kernel_rfl)) (qss_cons (qs_of (ps_for PassesOwn.never rfl (pi_range1 rfl B.range (pa_of (qa_c (pe_calN C_law_next (hr.mono (by decide)) rfl (pa_of (qa_c (pv 0) (qa_c (pe_op op_add pe_int (pv 1)) qa_nil))) (he:=star_plain _ _ _ rfl) (hpl:=plain_any rfl)) qa_nil))) (pg_name (i:=4) sc_law_leaf.nd rfl (Or.inl rfl)) (pss_of (qss_cons (qs_set (i:=5) sc_law_leaf.nd rfl (Or.inl rfl) (qe_of (pe_calN C_law_name (hr.mono (by decide)) rfl (pa_of (qa_c (pv 0) qa_nil)) (he:=star_plain _ _ _ rfl) (hpl:=plain_any rfl))) (by kernel_rfl)) (qss_one (qs_if (pt_cmpR op_notIn_seq (pv 5) (pv 3) (by with_unfolding_all rfl)) (qss_one (qs_of (ps_expr (pe_bm PySem.F.plainAttrs_list PySem.F.slot_list_append PySem.F.type_list_append mt_append (pv 3) (pa_of (qa_c (pv 5) qa_nil)))))) qss_nil)))))) (qss_one (qs_ret (qe_of (pe_tup (pa_of (qa_c (pe_ix ix_list (pe_lst (pa_of (qa_c pe_str (qa_c pe_str qa_nil)))) (pe_op op_mod (pv 2) pe_int) (fun _ _=>rfl)) (qa_c (pe_callTy call_tuple_of rfl B.tuple PyProof.Rows.boot_tuple (pa_of (qa_c (pv 3) qa_nil))) qa_nil))))))))))))),?_⟩
  walk_at "w0"
  refine drw3 W (by decide) (by decide) fun kd H1 k0 k1 W1 B1=>?_
  walk_at "w0"
  by_cases c0:kd=0
  · rw [if_pos c0]
    refine ⟨sz8 (by decide),fun p hp=>?_⟩
    exact q (.ref p) .any _ (by rw [Tr.At]; exact ⟨p,rfl,upd_same⟩) (by rw [Tr.ok]; trivial) (by rw [Tr.dp]) (by rw [Tr.cnt]; decide) (W1.same (same_new hp _)) (B1.trans (Same.but (same_new hp _)))
  rw [if_neg c0]
  by_cases c3:kd < 3
  · rw [if_pos c3]
    refine drw3 W1 (by decide) (by decide) fun r1 H2 a1 b1 W2 B2=>?_
    walk_at "w0"
    refine ⟨⟨by decide,by decide,by decide⟩,?_⟩
    refine drw3 W2 (by decide) (by decide) fun r2 H3 a2 b2 W3 B3=>?_
    have b2':r2 < 1000000:=by first | exact b2 | simpa using b2
    refine ⟨sz8 (by decide),fun p hp=>?_⟩
    have S4:=same_new hp (.lst [.int r1,.int r2])
    have np:=W3.ne hp
    refine drw3 (W3.same S4) (by decide) (by decide) fun r3 H5 a3 b3 W5 B5=>?_
    have e5:=B5 p _ np upd_same
    walk_at "w0"
    obtain ⟨v,hv,ev⟩:=at_memV (xs:=[.int r1,.int r2]) (i:=r3 / 2) (by omega) (by simp only [List.length_cons,List.length_nil]; omega)
    obtain ⟨nn,rfl,n0,n1⟩:∃ nn:Int,v=.int nn∧0≤nn∧nn < 1000000:=by
      simp only [List.mem_cons,List.not_mem_nil,or_false] at hv
      rcases hv with rfl | rfl
      · exact ⟨r1,rfl,a1,by omega⟩
      · exact ⟨r2,rfl,a2,b2'⟩
    refine ⟨⟨by decide,by decide⟩,ixl (SqL.of e5) ev ?_⟩
    refine ⟨sz8 (by decide),fun p6 h6=>?_⟩
    exact q (.ref p6) (.weight nn) _ (by rw [Tr.At]; exact ⟨p6,rfl,upd_same⟩) (by rw [Tr.ok]; exact ⟨n0,n1⟩) (by rw [Tr.dp]) (by rw [Tr.cnt]; decide) (W5.same (same_new h6 _)) (B1.trans (B2.trans (B3.trans ((Same.but S4).trans (B5.trans (Same.but (same_new h6 _)))))))
  rw [if_neg c3]
  refine ⟨wl,rfl,W1,fun u0 H2 g0 W2 B2=>?_⟩
  walk_at "w0"
  refine ⟨sz8 (by decide),fun pf hf=>?_⟩
  have nw:=W2.ne hf
  have S1:=same_new hf (.lst [.str u0])
  have W3:=W2.same S1
  have e1:upd H2 pf (.lst [.str u0]) pf=some (.lst ([u0].map V.str)):=upd_same
  generalize upd H2 pf (.lst [.str u0])=H3 at *
  refine drw3 W3 (by omega) (by omega) fun r H4 a2 b2 W4 B4=>?_
  have e2:=B4 pf _ nw e1
  walk_at "w0"
  refine ⟨by omega,by omega,?_⟩
  refine ForR.by (fun i σ H'=>(∃ us:List Str,us.length≤i+1∧us≠[]∧(∀ u∈us,goodN u)∧us.Nodup∧H' pf=some (.lst (us.map V.str)))∧(∃ v8 v9,σ=[some (.ref wl),some (.int m),some (.int kd),some (.ref pf),v8,v9])∧Well3 H' wl∧But wl H2 H') ⟨⟨[u0],Nat.le_refl _,(by intro z; cases z),(fun u hu=>by rw [List.mem_singleton.mp hu]; exact g0),(by simp),e2⟩,⟨_,_,rfl⟩,W4,(Same.but S1).trans B4⟩ ?_ ?_
  · rintro i σ H9 hi ⟨⟨us,ul,une,ug,un,ue⟩,⟨v8,v9,rfl⟩,W9,B9⟩
    walk_at "w0"
    refine ⟨wl,rfl,W9,fun u H3 g W3 B3=>?_⟩
    have ue3:=B3 pf _ nw ue
    walk_at "w0"
    refine ⟨pf,_,rfl,.inl (SqL.of ue3),rfl,flat_strs us,?_⟩
    rw [inV_str]
    by_cases c:u∈us
    · exists decide_eq_true c,Bool.not_true
      exact ⟨⟨us,by omega,une,ug,un,ue3⟩,W3,B9.trans B3⟩
    · exists decide_eq_false c,Bool.not_false
      refine ⟨.inl ⟨rfl,_,SqL.of ue3⟩,pf,_,_,rfl,rfl,ue3,?_,?_⟩
      · rw [List.length_map]
        exact Nat.lt_of_le_of_lt (by omega:us.length≤1000) (by decide)
      · have W12:Well3 (upd H3 pf (.lst (us.map V.str++[.str u]))) wl:=by
          obtain ⟨x1,x2,x3,e⟩:=W3
          exact ⟨x1,x2,x3,by rw [upd_ne (fun z=>nw z.symm)]; exact e⟩
        refine ⟨⟨us++[u],by rw [List.length_append,List.length_singleton]; omega,(by simp),fun y hy=>?_,?_,by rw [upd_same,List.map_append]; rfl⟩,W12,fun b o nb e=>?_⟩
        · rcases List.mem_append.mp hy with z | z
          · exact ug y z
          · rw [List.mem_singleton.mp z]; exact g
        · rw [List.nodup_append]
          exact ⟨un,by simp,fun x hx y hy e=>c (by rw [List.mem_singleton.mp hy] at e; rw [← e]; exact hx)⟩
        · rw [upd_ne (ne_of_none e hf)]
          exact B3 b o nb (B9 b o nb e)
  · rintro σ H9 ⟨⟨us,ul,une,ug,un,ue⟩,⟨v8,v9,rfl⟩,W9,B9⟩
    walk_at "w0"
    refine ⟨sz8 (by decide),fun p1 h1=>?_⟩
    have T1:=same_new h1 (.lst [.str "kind",.str "place"])
    have f1:upd H9 p1 (.lst [.str "kind",.str "place"]) p1=some (.lst [.str "kind",.str "place"]):=upd_same
    have ue1:=T1 _ _ ue
    generalize upd H9 p1 (.lst [.str "kind",.str "place"])=G1 at *
    refine ⟨by decide,?_⟩
    rcases (by omega:kd % 2=0∨kd % 2=1) with hk | hk
    · rw [hk]
      refine ixl (SqL.of f1) (v:=.str "kind") rfl ?_
      walk_at "w0"
      refine ⟨_,.inl ⟨SqL.of ue1,fun p3 h3=>?_⟩⟩
      have T3:=same_new h3 (.tup (us.map V.str))
      refine ⟨sz8 (by decide),fun p4 h4=>?_⟩
      have SS:=T1.trans (T3.trans (same_new h4 (.tup [.str "kind",.ref p3])))
      refine q (.ref p4) (.kind us) _ (by rw [Tr.At]; exact ⟨p4,p3,rfl,upd_same,same_new h4 _ _ _ upd_same⟩) (by rw [Tr.ok]; exact ⟨une,by omega,ug,un⟩) (by rw [Tr.dp]) (by rw [Tr.cnt]; omega) (W9.same SS) (B1.trans (B2.trans (B9.trans (Same.but SS))))
    · rw [hk]
      refine ixl (SqL.of f1) (v:=.str "place") rfl ?_
      walk_at "w0"
      refine ⟨_,.inl ⟨SqL.of ue1,fun p3 h3=>?_⟩⟩
      have T3:=same_new h3 (.tup (us.map V.str))
      refine ⟨sz8 (by decide),fun p4 h4=>?_⟩
      have SS:=T1.trans (T3.trans (same_new h4 (.tup [.str "place",.ref p3])))
      refine q (.ref p4) (.place us) _ (by rw [Tr.At]; exact ⟨p4,p3,rfl,upd_same,same_new h4 _ _ _ upd_same⟩) (by rw [Tr.ok]; exact ⟨une,by omega,ug,un⟩) (by rw [Tr.dp]) (by rw [Tr.cnt]; omega) (W9.same SS) (B1.trans (B2.trans (B9.trans (Same.but SS))))
theorem ok_law_tree {d n:Nat}(hn:3≤n) (B:Bt K mg a) (C_law_next:CalX P w K mg base "_law_next" ["_law_state","_law_base"] 1 (sp_law_next K a)) (C_law_leaf:CalX P w K mg base "_law_leaf" ["_law_state","_law_more"] 3 (sp_law_leaf K a)) (C_law_tree:CalX P w K mg base "_law_tree" ["_law_state","_law_deep","_law_more"] n (sp_law_tree K a d)) (F:Fun K "_law_tree" "_law_tree" s_law_tree f fd):FnOk P w K mg base CX0 (n+1) f fd ["_law_state","_law_deep","_law_more"] (sp_law_tree K a (d+1)):=by
  refine F.ok sc_law_tree (fun vs H Q E h=>?_) (fun cdv A outer s H vs Q E hr h=>?_)
  · obtain ⟨wl,i,m,hi,rfl,_⟩:=h
    rfl
  obtain ⟨wl,i,m,hi,rfl,W,i3,m0,m5,q⟩:=h
  refine ⟨_,(pss_of (qss_cons (qs_set (i:=3) sc_law_tree.nd rfl (Or.inl rfl) (qe_of (pe_calN C_law_next (hr.mono (by omega)) rfl (pa_of (qa_c (pv 0) (qa_c pe_int qa_nil))) (he:=star_plain _ _ _ rfl) (hpl:=plain_any rfl))) (by kernel_rfl)) (qss_cons (qs_if (L2.PW.pt (pw_or (pt_cmpR op_eq (pv 1) pe_int (nomark _)) (pw_or1 (pt_cmpR op_lt (pv 3) pe_int (nomark _))))) (qss_one (qs_ret (qe_of (pe_calN C_law_leaf (hr.mono (by omega)) rfl (pa_of (qa_c (pv 0) (qa_c (pe_op op_mul (pv 2) (pe_callTy call_int1 rfl B.int PyProof.Rows.boot_int (pa_of (qa_c (pe_cmpR op_gt (pv 1) pe_int (nomark _)) qa_nil)))) qa_nil))) (he:=star_plain _ _ _ rfl) (hpl:=plain_any rfl))))) qss_nil) (qss_cons (qs_if (pt_cmpR op_eq (pv 3) pe_int (nomark _)) (qss_one (qs_ret (qe_of (pe_tup (pa_of (qa_c pe_str (qa_c (pe_calN C_law_tree (hr.mono (by omega)) rfl (pa_of (qa_c (pv 0) (qa_c (pe_op op_sub (pv 1) pe_int) (qa_c (pv 2) qa_nil)))) (he:=star_plain _ _ _ rfl) (hpl:=plain_any rfl)) qa_nil))))))) qss_nil) (qss_cons (qs_of (ps_compB (i:=4) ["_law_k","_law_state","_law_more","_law_deep"] [none,some 0,some 2,some 1] rfl (by kernel_rfl) sc_law_tree.nd rfl rfl (pi_range1 rfl B.range (pa_of (qa_c (pe_op op_add pe_int (pe_callTy call_int1 rfl B.int PyProof.Rows.boot_int (pa_of (qa_c (pe_and (pe_cmpR op_gt (pv 1) pe_int (nomark _)) (pe_one (pe_cmpR op_gt (pv 3) pe_int (nomark _)))) qa_nil)))) qa_nil))) (fun cl C s H fp=>⟨(pg_name (i:=0) (by decide:List.Nodup (["_law_k","_law_state","_law_more","_law_deep"]:List Str)) rfl (Or.inl (by kernel_rfl)) (Or.inr (by kernel_rfl))),pts_nil,(pe_calN C_law_tree (hr.mono (by omega)) (gl_of (by kernel_rfl)) (pa_of (qa_c (pv 1 (hv:=Or.inr (Or.inl (by kernel_rfl)))) (qa_c (pe_op op_sub (pv 3 (hv:=Or.inr (Or.inl (by kernel_rfl)))) pe_int) (qa_c (pv 2 (hv:=Or.inr (Or.inl (by kernel_rfl)))) qa_nil)))) (he:=star_plain _ _ _ rfl) (hpl:=plain_any rfl))⟩))) (qss_one (qs_ret (qe_of (pe_tup (pa_of (qa_c (pe_ix ix_list (pe_lst (pa_of (qa_c pe_str (qa_c pe_str qa_nil)))) (pe_op op_mod (pv 3) pe_int) (fun _ _=>rfl)) (qa_c (pe_callTy call_tuple_of rfl B.tuple PyProof.Rows.boot_tuple (pa_of (qa_c (pv 4) qa_nil))) qa_nil)))))))))))),?_⟩
  walk_at "w0"
  refine drw3 W (by decide) (by decide) fun kd H1 k0 k1 W1 B1=>?_
  walk_at "w0"
  by_cases c0:(i:Int)=0
  · rw [if_pos c0]
    refine ⟨.inl ⟨by omega,by omega⟩,wl,_,rfl,W1,?_,?_,fun v t H' hA ho hd hc W' B'=>?_⟩
    · split <;> omega
    · split <;> omega
    have p3:1≤3 ^ i:=Nat.one_le_pow _ _ (by decide)
    exact q v t H' hA ho (by omega) (by omega) W' (B1.trans B')
  rw [if_neg c0]
  by_cases c3:kd < 3
  · rw [if_pos c3]
    refine ⟨.inl ⟨by omega,by omega⟩,wl,_,rfl,W1,?_,?_,fun v t H' hA ho hd hc W' B'=>?_⟩
    · split <;> omega
    · split <;> omega
    have p3:1≤3 ^ i:=Nat.one_le_pow _ _ (by decide)
    exact q v t H' hA ho (by omega) (by omega) W' (B1.trans B')
  rw [if_neg c3]
  obtain ⟨j,rfl⟩:∃ j,i=j+1:=⟨i - 1,by omega⟩
  by_cases c4:kd=3
  · rw [if_pos c4]
    refine ⟨wl,j,m,by omega,by rw [show ((j+1:Nat):Int) - 1=(j:Int) by omega],W1,by omega,m0,m5,fun v t H' hA ho hd hc W' B'=>?_⟩
    refine ⟨sz8 (by decide),fun p hp=>?_⟩
    have S':=same_new hp (.tup [.str "not",v])
    exact q (.ref p) (.not t) _ (by rw [Tr.At]; exact ⟨p,v,rfl,upd_same,hA.same S'⟩) (by rw [Tr.ok]; exact ho) (by rw [Tr.dp]; omega) (by rw [Tr.cnt,Nat.pow_succ]; omega) (W'.same S') (B1.trans (B'.trans (Same.but S')))
  rw [if_neg c4]
  by_cases c5:(2:Int) < ((j+1:Nat):Int)
  · rw [if_pos c5]
    by_cases c6:5 < kd
    · rw [if_pos c6]
      refine ⟨by decide,by decide,?_⟩
      refine CompR.by (n:=3) (fun i' acc σ H'=>∃ ts:List Tr,All2 (Tr.At H') ts acc∧ts.length=i'∧(∀ t∈ts,t.ok∧t.dp≤j∧t.cnt≤6 * 3 ^ j)∧(∃ v,σ=[v,some (.ref wl),some (.int m),some (.int ((j+1:Nat):Int))])∧Well3 H' wl∧But wl H1 H') (sz8 (by decide)) ⟨[],.nil,rfl,(fun t ht=>absurd ht List.not_mem_nil),⟨_,rfl⟩,W1,But.refl _ _⟩ ?_ ?_ ?_
      · rintro i' acc σ H' hi' ⟨ts,hA,hl,ht,⟨v,rfl⟩,W',B'⟩
        walk_at "w0"
        refine ⟨wl,j,m,by omega,by rw [show ((j+1:Nat):Int) - 1=(j:Int) by omega],W',by omega,m0,m5,fun v2 t2 H2 hA2 ho2 hd2 hc2 W2 B2=>?_⟩
        have new:∃ ts:List Tr,All2 (Tr.At H2) ts (acc++[v2])∧ts.length=i'+1∧(∀ t∈ts,t.ok∧t.dp≤j∧t.cnt≤6 * 3 ^ j):=⟨ts++[t2],(hA.imp fun t y _ h=>h.but3 W' B2).snoc hA2,by rw [List.length_append,hl]; rfl,fun t m2=>by
          rcases List.mem_append.mp m2 with m2 | m2
          · exact ht t m2
          · rw [List.mem_singleton.mp m2]; exact ⟨ho2,hd2,hc2⟩⟩
        obtain ⟨ts2,n1,n2,n3⟩:=new
        first | exact ⟨ts2,n1,n2,n3,⟨_,rfl⟩,W2,B'.trans B2⟩ | exact ⟨ts2,n1,n2,n3,W2,B'.trans B2⟩
      · rintro i' acc σ H' ⟨ts,hA,hl,_⟩
        rw [← hA.len]
        omega
      rintro acc σ H2 ⟨ts,hA,hl,ht,⟨v,rfl⟩,W2,B2⟩ pl hpl
      have T0:=same_new hpl (.lst acc)
      have e0:upd H2 pl (.lst acc) pl=some (.lst acc):=upd_same
      generalize upd H2 pl (.lst acc)=G0 at *
      walk_at "w0"
      refine ⟨sz8 (by decide),fun p1 h1=>?_⟩
      have T1:=same_new h1 (.lst [.str "both",.str "either"])
      have f1:upd G0 p1 (.lst [.str "both",.str "either"]) p1=some (.lst [.str "both",.str "either"]):=upd_same
      have e1:=T1 _ _ e0
      generalize upd G0 p1 (.lst [.str "both",.str "either"])=G1 at *
      refine ⟨by decide,?_⟩
      have okT:2≤(Trs.ofL ts).toL.length∧(Trs.ofL ts).toL.length≤6∧(Trs.ofL ts).ok:=by
        rw [toL_ofL]
        exact ⟨by omega,by omega,trs_ok.mpr (by rw [toL_ofL]; exact fun t h=>(ht t h).1)⟩
      have dpT:(Trs.ofL ts).dp≤j:=trs_dp_le (by rw [toL_ofL]; exact fun t h=>(ht t h).2.1)
      have cnT:(Trs.ofL ts).cnt≤6 * 3 ^ (j+1):=by
        have h:=trs_cnt (n:=6 * 3 ^ j) (ts:=Trs.ofL ts) (by rw [toL_ofL]; exact fun t h=>(ht t h).2.2)
        rw [toL_ofL,hl] at h
        refine Nat.le_trans h ?_
        rw [Nat.pow_succ,← Nat.mul_assoc]
        exact Nat.mul_le_mul_left _ (by decide)
      rcases (by omega:kd % 2=0∨kd % 2=1) with hk | hk
      · rw [hk]
        refine ixl (SqL.of f1) (v:=.str "both") rfl ?_
        walk_at "w0"
        refine ⟨_,.inl ⟨SqL.of e1,fun p3 h3=>?_⟩⟩
        have T3:=same_new h3 (.tup acc)
        refine ⟨sz8 (by decide),fun p4 h4=>?_⟩
        have SS:=T0.trans (T1.trans (T3.trans (same_new h4 (.tup [.str "both",.ref p3]))))
        exact q (.ref p4) (.both (Trs.ofL ts)) _ (by rw [Tr.At]; exact ⟨p4,p3,acc,rfl,upd_same,same_new h4 _ _ _ upd_same,trs_at.mpr (by rw [toL_ofL]; exact hA.imp fun t y _ h=>h.same SS)⟩) (by rw [Tr.ok]; exact okT) (by rw [Tr.dp]; omega) (by rw [Tr.cnt]; exact cnT) (W2.same SS) (B1.trans (B2.trans (Same.but SS)))
      · rw [hk]
        refine ixl (SqL.of f1) (v:=.str "either") rfl ?_
        walk_at "w0"
        refine ⟨_,.inl ⟨SqL.of e1,fun p3 h3=>?_⟩⟩
        have T3:=same_new h3 (.tup acc)
        refine ⟨sz8 (by decide),fun p4 h4=>?_⟩
        have SS:=T0.trans (T1.trans (T3.trans (same_new h4 (.tup [.str "either",.ref p3]))))
        exact q (.ref p4) (.either (Trs.ofL ts)) _ (by rw [Tr.At]; exact ⟨p4,p3,acc,rfl,upd_same,same_new h4 _ _ _ upd_same,trs_at.mpr (by rw [toL_ofL]; exact hA.imp fun t y _ h=>h.same SS)⟩) (by rw [Tr.ok]; exact okT) (by rw [Tr.dp]; omega) (by rw [Tr.cnt]; exact cnT) (W2.same SS) (B1.trans (B2.trans (Same.but SS)))
    · rw [if_neg c6]
      refine ⟨by decide,by decide,?_⟩
      refine CompR.by (n:=2) (fun i' acc σ H'=>∃ ts:List Tr,All2 (Tr.At H') ts acc∧ts.length=i'∧(∀ t∈ts,t.ok∧t.dp≤j∧t.cnt≤6 * 3 ^ j)∧(∃ v,σ=[v,some (.ref wl),some (.int m),some (.int ((j+1:Nat):Int))])∧Well3 H' wl∧But wl H1 H') (sz8 (by decide)) ⟨[],.nil,rfl,(fun t ht=>absurd ht List.not_mem_nil),⟨_,rfl⟩,W1,But.refl _ _⟩ ?_ ?_ ?_
      · rintro i' acc σ H' hi' ⟨ts,hA,hl,ht,⟨v,rfl⟩,W',B'⟩
        walk_at "w0"
        refine ⟨wl,j,m,by omega,by rw [show ((j+1:Nat):Int) - 1=(j:Int) by omega],W',by omega,m0,m5,fun v2 t2 H2 hA2 ho2 hd2 hc2 W2 B2=>?_⟩
        have new:∃ ts:List Tr,All2 (Tr.At H2) ts (acc++[v2])∧ts.length=i'+1∧(∀ t∈ts,t.ok∧t.dp≤j∧t.cnt≤6 * 3 ^ j):=⟨ts++[t2],(hA.imp fun t y _ h=>h.but3 W' B2).snoc hA2,by rw [List.length_append,hl]; rfl,fun t m2=>by
          rcases List.mem_append.mp m2 with m2 | m2
          · exact ht t m2
          · rw [List.mem_singleton.mp m2]; exact ⟨ho2,hd2,hc2⟩⟩
        obtain ⟨ts2,n1,n2,n3⟩:=new
        first | exact ⟨ts2,n1,n2,n3,⟨_,rfl⟩,W2,B'.trans B2⟩ | exact ⟨ts2,n1,n2,n3,W2,B'.trans B2⟩
      · rintro i' acc σ H' ⟨ts,hA,hl,_⟩
        rw [← hA.len]
        omega
      rintro acc σ H2 ⟨ts,hA,hl,ht,⟨v,rfl⟩,W2,B2⟩ pl hpl
      have T0:=same_new hpl (.lst acc)
      have e0:upd H2 pl (.lst acc) pl=some (.lst acc):=upd_same
      generalize upd H2 pl (.lst acc)=G0 at *
      walk_at "w0"
      refine ⟨sz8 (by decide),fun p1 h1=>?_⟩
      have T1:=same_new h1 (.lst [.str "both",.str "either"])
      have f1:upd G0 p1 (.lst [.str "both",.str "either"]) p1=some (.lst [.str "both",.str "either"]):=upd_same
      have e1:=T1 _ _ e0
      generalize upd G0 p1 (.lst [.str "both",.str "either"])=G1 at *
      refine ⟨by decide,?_⟩
      have okT:2≤(Trs.ofL ts).toL.length∧(Trs.ofL ts).toL.length≤6∧(Trs.ofL ts).ok:=by
        rw [toL_ofL]
        exact ⟨by omega,by omega,trs_ok.mpr (by rw [toL_ofL]; exact fun t h=>(ht t h).1)⟩
      have dpT:(Trs.ofL ts).dp≤j:=trs_dp_le (by rw [toL_ofL]; exact fun t h=>(ht t h).2.1)
      have cnT:(Trs.ofL ts).cnt≤6 * 3 ^ (j+1):=by
        have h:=trs_cnt (n:=6 * 3 ^ j) (ts:=Trs.ofL ts) (by rw [toL_ofL]; exact fun t h=>(ht t h).2.2)
        rw [toL_ofL,hl] at h
        refine Nat.le_trans h ?_
        rw [Nat.pow_succ,← Nat.mul_assoc]
        exact Nat.mul_le_mul_left _ (by decide)
      rcases (by omega:kd % 2=0∨kd % 2=1) with hk | hk
      · rw [hk]
        refine ixl (SqL.of f1) (v:=.str "both") rfl ?_
        walk_at "w0"
        refine ⟨_,.inl ⟨SqL.of e1,fun p3 h3=>?_⟩⟩
        have T3:=same_new h3 (.tup acc)
        refine ⟨sz8 (by decide),fun p4 h4=>?_⟩
        have SS:=T0.trans (T1.trans (T3.trans (same_new h4 (.tup [.str "both",.ref p3]))))
        exact q (.ref p4) (.both (Trs.ofL ts)) _ (by rw [Tr.At]; exact ⟨p4,p3,acc,rfl,upd_same,same_new h4 _ _ _ upd_same,trs_at.mpr (by rw [toL_ofL]; exact hA.imp fun t y _ h=>h.same SS)⟩) (by rw [Tr.ok]; exact okT) (by rw [Tr.dp]; omega) (by rw [Tr.cnt]; exact cnT) (W2.same SS) (B1.trans (B2.trans (Same.but SS)))
      · rw [hk]
        refine ixl (SqL.of f1) (v:=.str "either") rfl ?_
        walk_at "w0"
        refine ⟨_,.inl ⟨SqL.of e1,fun p3 h3=>?_⟩⟩
        have T3:=same_new h3 (.tup acc)
        refine ⟨sz8 (by decide),fun p4 h4=>?_⟩
        have SS:=T0.trans (T1.trans (T3.trans (same_new h4 (.tup [.str "either",.ref p3]))))
        exact q (.ref p4) (.either (Trs.ofL ts)) _ (by rw [Tr.At]; exact ⟨p4,p3,acc,rfl,upd_same,same_new h4 _ _ _ upd_same,trs_at.mpr (by rw [toL_ofL]; exact hA.imp fun t y _ h=>h.same SS)⟩) (by rw [Tr.ok]; exact okT) (by rw [Tr.dp]; omega) (by rw [Tr.cnt]; exact cnT) (W2.same SS) (B1.trans (B2.trans (Same.but SS)))
  · rw [if_neg c5]
    first | refine ⟨by decide,by decide,?_⟩ | (walk_at "w0"; refine ⟨by decide,by decide,?_⟩)
    refine CompR.by (n:=2) (fun i' acc σ H'=>∃ ts:List Tr,All2 (Tr.At H') ts acc∧ts.length=i'∧(∀ t∈ts,t.ok∧t.dp≤j∧t.cnt≤6 * 3 ^ j)∧(∃ v,σ=[v,some (.ref wl),some (.int m),some (.int ((j+1:Nat):Int))])∧Well3 H' wl∧But wl H1 H') (sz8 (by decide)) ⟨[],.nil,rfl,(fun t ht=>absurd ht List.not_mem_nil),⟨_,rfl⟩,W1,But.refl _ _⟩ ?_ ?_ ?_
    · rintro i' acc σ H' hi' ⟨ts,hA,hl,ht,⟨v,rfl⟩,W',B'⟩
      walk_at "w0"
      refine ⟨wl,j,m,by omega,by rw [show ((j+1:Nat):Int) - 1=(j:Int) by omega],W',by omega,m0,m5,fun v2 t2 H2 hA2 ho2 hd2 hc2 W2 B2=>?_⟩
      have new:∃ ts:List Tr,All2 (Tr.At H2) ts (acc++[v2])∧ts.length=i'+1∧(∀ t∈ts,t.ok∧t.dp≤j∧t.cnt≤6 * 3 ^ j):=⟨ts++[t2],(hA.imp fun t y _ h=>h.but3 W' B2).snoc hA2,by rw [List.length_append,hl]; rfl,fun t m2=>by
        rcases List.mem_append.mp m2 with m2 | m2
        · exact ht t m2
        · rw [List.mem_singleton.mp m2]; exact ⟨ho2,hd2,hc2⟩⟩
      obtain ⟨ts2,n1,n2,n3⟩:=new
      first | exact ⟨ts2,n1,n2,n3,⟨_,rfl⟩,W2,B'.trans B2⟩ | exact ⟨ts2,n1,n2,n3,W2,B'.trans B2⟩
    · rintro i' acc σ H' ⟨ts,hA,hl,_⟩
      rw [← hA.len]
      omega
    rintro acc σ H2 ⟨ts,hA,hl,ht,⟨v,rfl⟩,W2,B2⟩ pl hpl
    have T0:=same_new hpl (.lst acc)
    have e0:upd H2 pl (.lst acc) pl=some (.lst acc):=upd_same
    generalize upd H2 pl (.lst acc)=G0 at *
    walk_at "w0"
    refine ⟨sz8 (by decide),fun p1 h1=>?_⟩
    have T1:=same_new h1 (.lst [.str "both",.str "either"])
    have f1:upd G0 p1 (.lst [.str "both",.str "either"]) p1=some (.lst [.str "both",.str "either"]):=upd_same
    have e1:=T1 _ _ e0
    generalize upd G0 p1 (.lst [.str "both",.str "either"])=G1 at *
    refine ⟨by decide,?_⟩
    have okT:2≤(Trs.ofL ts).toL.length∧(Trs.ofL ts).toL.length≤6∧(Trs.ofL ts).ok:=by
      rw [toL_ofL]
      exact ⟨by omega,by omega,trs_ok.mpr (by rw [toL_ofL]; exact fun t h=>(ht t h).1)⟩
    have dpT:(Trs.ofL ts).dp≤j:=trs_dp_le (by rw [toL_ofL]; exact fun t h=>(ht t h).2.1)
    have cnT:(Trs.ofL ts).cnt≤6 * 3 ^ (j+1):=by
      have h:=trs_cnt (n:=6 * 3 ^ j) (ts:=Trs.ofL ts) (by rw [toL_ofL]; exact fun t h=>(ht t h).2.2)
      rw [toL_ofL,hl] at h
      refine Nat.le_trans h ?_
      rw [Nat.pow_succ,← Nat.mul_assoc]
      exact Nat.mul_le_mul_left _ (by decide)
    rcases (by omega:kd % 2=0∨kd % 2=1) with hk | hk
    · rw [hk]
      refine ixl (SqL.of f1) (v:=.str "both") rfl ?_
      walk_at "w0"
      refine ⟨_,.inl ⟨SqL.of e1,fun p3 h3=>?_⟩⟩
      have T3:=same_new h3 (.tup acc)
      refine ⟨sz8 (by decide),fun p4 h4=>?_⟩
      have SS:=T0.trans (T1.trans (T3.trans (same_new h4 (.tup [.str "both",.ref p3]))))
      exact q (.ref p4) (.both (Trs.ofL ts)) _ (by rw [Tr.At]; exact ⟨p4,p3,acc,rfl,upd_same,same_new h4 _ _ _ upd_same,trs_at.mpr (by rw [toL_ofL]; exact hA.imp fun t y _ h=>h.same SS)⟩) (by rw [Tr.ok]; exact okT) (by rw [Tr.dp]; omega) (by rw [Tr.cnt]; exact cnT) (W2.same SS) (B1.trans (B2.trans (Same.but SS)))
    · rw [hk]
      refine ixl (SqL.of f1) (v:=.str "either") rfl ?_
      walk_at "w0"
      refine ⟨_,.inl ⟨SqL.of e1,fun p3 h3=>?_⟩⟩
      have T3:=same_new h3 (.tup acc)
      refine ⟨sz8 (by decide),fun p4 h4=>?_⟩
      have SS:=T0.trans (T1.trans (T3.trans (same_new h4 (.tup [.str "either",.ref p3]))))
      exact q (.ref p4) (.either (Trs.ofL ts)) _ (by rw [Tr.At]; exact ⟨p4,p3,acc,rfl,upd_same,same_new h4 _ _ _ upd_same,trs_at.mpr (by rw [toL_ofL]; exact hA.imp fun t y _ h=>h.same SS)⟩) (by rw [Tr.ok]; exact okT) (by rw [Tr.dp]; omega) (by rw [Tr.cnt]; exact cnT) (W2.same SS) (B1.trans (B2.trans (Same.but SS)))
theorem ok_law_made {d n:Nat}(hn:5≤n) (B:Bt K mg a) (CC_Either:CalC P w K mg base "Either" a.Either ["self","fits"] 3 (sp_Either___init__ K a)) (CC_Kind:CalC P w K mg base "Kind" a.Kind ["self","names"] 4 (sp_Kind___init__ K a)) (CC_Place:CalC P w K mg base "Place" a.Place ["self","names"] 4 (sp_Place___init__ K a)) (CC_Least:CalC P w K mg base "Least" a.Least ["self","weight"] 3 (sp_Least___init__ K a)) (CC_Not:CalC P w K mg base "Not" a.Not ["self","fit"] 2 (sp_Not___init__ K a)) (CC_Both:CalC P w K mg base "Both" a.Both ["self","fits"] 3 (sp_Both___init__ K a)) (C_law_made:CalX P w K mg base "_law_made" ["_law_tree_here"] n (sp_law_made K a d)) (F:Fun K "_law_made" "_law_made" s_law_made f fd):FnOk P w K mg base CX0 (n+1) f fd ["_law_tree_here"] (sp_law_made K a (d+1)):=by
  refine F.ok sc_law_made (fun vs H Q E h=>?_) (fun cdv A outer s H vs Q E hr h=>?_)
  · obtain ⟨v,t,hd0,rfl,_⟩:=h
    rfl
  obtain ⟨v,t,hd0,rfl,hA,ho,q⟩:=h
  refine ⟨_,(pss_of (qss_cons (qs_if (pt_cmpR op_eq (pe_ix ix_tup (pv 0) pe_int (fun _ _=>rfl)) pe_str (nomark _)) (qss_one (qs_ret (qe_of (pe_makN B.mk_Any rfl B.Any)))) qss_nil) (qss_cons (qs_if (pt_cmpR op_eq (pe_ix ix_tup (pv 0) pe_int (fun _ _=>rfl)) pe_str (nomark _)) (qss_one (qs_ret (qe_of (pe_mak CC_Kind pass00 (hr.mono (by omega)) rfl (pa_of (qa_c (pe_callTy call_list_of rfl B.list PyProof.Rows.boot_list (pa_of (qa_c (pe_ix ix_tup (pv 0) pe_int (fun _ _=>rfl)) qa_nil))) qa_nil)) (he:=star_plain _ _ _ rfl) (hpl:=plain_any rfl))))) qss_nil) (qss_cons (qs_if (pt_cmpR op_eq (pe_ix ix_tup (pv 0) pe_int (fun _ _=>rfl)) pe_str (nomark _)) (qss_one (qs_ret (qe_of (pe_mak CC_Place pass00 (hr.mono (by omega)) rfl (pa_of (qa_c (pe_callTy call_list_of rfl B.list PyProof.Rows.boot_list (pa_of (qa_c (pe_ix ix_tup (pv 0) pe_int (fun _ _=>rfl)) qa_nil))) qa_nil)) (he:=star_plain _ _ _ rfl) (hpl:=plain_any rfl))))) qss_nil) (qss_cons (qs_if (pt_cmpR op_eq (pe_ix ix_tup (pv 0) pe_int (fun _ _=>rfl)) pe_str (nomark _)) (qss_one (qs_ret (qe_of (pe_mak CC_Least pass00 (hr.mono (by omega)) rfl (pa_of (qa_c (pe_ix ix_tup (pv 0) pe_int (fun _ _=>rfl)) qa_nil)) (he:=star_plain _ _ _ rfl) (hpl:=plain_any rfl))))) qss_nil) (qss_cons (qs_if (pt_cmpR op_eq (pe_ix ix_tup (pv 0) pe_int (fun _ _=>rfl)) pe_str (nomark _)) (qss_one (qs_ret (qe_of (pe_mak CC_Not pass00 (hr.mono (by omega)) rfl (pa_of (qa_c (pe_calN C_law_made (hr.mono (by omega)) rfl (pa_of (qa_c (pe_ix ix_tup (pv 0) pe_int (fun _ _=>rfl)) qa_nil)) (he:=star_plain _ _ _ rfl) (hpl:=plain_any rfl)) qa_nil)) (he:=star_plain _ _ _ rfl) (hpl:=plain_any rfl))))) qss_nil) (qss_cons (qs_if (pt_cmpR op_eq (pe_ix ix_tup (pv 0) pe_int (fun _ _=>rfl)) pe_str (nomark _)) (qss_one (qs_ret (qe_of (pe_mak CC_Both pass00 (hr.mono (by omega)) rfl (pa_of (qa_c (pe_compB ["_law_part"] [none] rfl (by kernel_rfl) (pi_tup (pe_ix ix_tup (pv 0) pe_int (fun _ _=>rfl))) (fun cl C s H fp=>⟨(pg_name (i:=0) (by decide:List.Nodup (["_law_part"]:List Str)) rfl (Or.inl (by kernel_rfl)) (Or.inr (by kernel_rfl))),pts_nil,(pe_calN C_law_made (hr.mono (by omega)) (gl_of (by kernel_rfl)) (pa_of (qa_c (pv 0 (hv:=Or.inl (by kernel_rfl))) qa_nil)) (he:=star_plain _ _ _ rfl) (hpl:=plain_any rfl))⟩)) qa_nil)) (he:=star_plain _ _ _ rfl) (hpl:=plain_any rfl))))) qss_nil) (qss_one (qs_ret (qe_of (pe_mak CC_Either pass00 (hr.mono (by omega)) rfl (pa_of (qa_c (pe_compB ["_law_part"] [none] rfl (by kernel_rfl) (pi_tup (pe_ix ix_tup (pv 0) pe_int (fun _ _=>rfl))) (fun cl C s H fp=>⟨(pg_name (i:=0) (by decide:List.Nodup (["_law_part"]:List Str)) rfl (Or.inl (by kernel_rfl)) (Or.inr (by kernel_rfl))),pts_nil,(pe_calN C_law_made (hr.mono (by omega)) (gl_of (by kernel_rfl)) (pa_of (qa_c (pv 0 (hv:=Or.inl (by kernel_rfl))) qa_nil)) (he:=star_plain _ _ _ rfl) (hpl:=plain_any rfl))⟩)) qa_nil)) (he:=star_plain _ _ _ rfl) (hpl:=plain_any rfl)))))))))))),?_⟩
  cases t with
  | any =>
    rw [Tr.At] at hA
    obtain ⟨p,rfl,hp⟩:=hA
    walk_at "w0"
    refine ixt (SqT.of hp) (v:=.str "any") rfl ?_
    walk_at "w0"
    intro x dx hx hd ne
    exact q (.ref x) _ (made_same hx hd) (by rw [Tr.Fit]; exact ⟨x,dx,rfl,upd_same⟩)
  | kind us =>
    rw [Tr.At] at hA
    obtain ⟨p,l0,rfl,hp,hl⟩:=hA
    walk_at "w0"
    refine ixt (SqT.of hp) (v:=.str "kind") rfl ?_
    walk_at "w0"
    rw [if_neg (by decide)]
    refine ixt (SqT.of hp) (v:=.str "kind") rfl ?_
    walk_at "w0"
    rw [Tr.ok] at ho
    refine ixt (SqT.of hp) (v:=.ref l0) rfl ?_
    walk_at "w0"
    refine ⟨_,.inr (SqT.of hl),fun l2 h2=>?_⟩
    have S2:=same_new h2 (.lst (us.map V.str))
    intro x dx hx hd ne
    have M:=made_same (o:=.own x) (o':=.ins a.Kind dx []) hx hd
    refine ⟨x,dx,l2,us,rfl,upd_same,M _ _ upd_same,ho,fun l3 H' Bx f3 e1 e2=>?_⟩
    walk_at "w0"
    exact q (.ref x) _ (S2.trans (made_but hx hd Bx)) (by rw [Tr.Fit]; exact ⟨x,dx,l3,rfl,e2,e1,(S2.trans M).free f3⟩)
  | place us =>
    rw [Tr.At] at hA
    obtain ⟨p,l0,rfl,hp,hl⟩:=hA
    walk_at "w0"
    refine ixt (SqT.of hp) (v:=.str "place") rfl ?_
    walk_at "w0"
    rw [if_neg (by decide)]
    refine ixt (SqT.of hp) (v:=.str "place") rfl ?_
    walk_at "w0"
    rw [if_neg (by decide)]
    refine ixt (SqT.of hp) (v:=.str "place") rfl ?_
    walk_at "w0"
    rw [Tr.ok] at ho
    refine ixt (SqT.of hp) (v:=.ref l0) rfl ?_
    walk_at "w0"
    refine ⟨_,.inr (SqT.of hl),fun l2 h2=>?_⟩
    have S2:=same_new h2 (.lst (us.map V.str))
    intro x dx hx hd ne
    have M:=made_same (o:=.own x) (o':=.ins a.Place dx []) hx hd
    refine ⟨x,dx,l2,us,rfl,upd_same,M _ _ upd_same,ho,fun l3 H' Bx f3 e1 e2=>?_⟩
    walk_at "w0"
    exact q (.ref x) _ (S2.trans (made_but hx hd Bx)) (by rw [Tr.Fit]; exact ⟨x,dx,l3,rfl,e2,e1,(S2.trans M).free f3⟩)
  | weight n =>
    rw [Tr.At] at hA
    obtain ⟨p,rfl,hp⟩:=hA
    walk_at "w0"
    refine ixt (SqT.of hp) (v:=.str "weight") rfl ?_
    walk_at "w0"
    rw [if_neg (by decide)]
    refine ixt (SqT.of hp) (v:=.str "weight") rfl ?_
    walk_at "w0"
    rw [if_neg (by decide)]
    refine ixt (SqT.of hp) (v:=.str "weight") rfl ?_
    walk_at "w0"
    rw [if_neg (by decide)]
    refine ixt (SqT.of hp) (v:=.str "weight") rfl ?_
    walk_at "w0"
    rw [Tr.ok] at ho
    refine ixt (SqT.of hp) (v:=.int n) rfl ?_
    walk_at "w0"
    intro x dx hx hd ne
    refine ⟨x,dx,n,rfl,upd_same,ho.1,?_⟩
    walk_at "w0"
    exact q (.ref x) _ (fun b o e=>by rw [upd_ne (ne_of_none e hx)]; exact made_same hx hd b o e) (by rw [Tr.Fit]; exact ⟨x,dx,rfl,upd_same⟩)
  | not t =>
    rw [Tr.At] at hA
    obtain ⟨p,y,rfl,hp,hy⟩:=hA
    walk_at "w0"
    refine ixt (SqT.of hp) (v:=.str "not") rfl ?_
    walk_at "w0"
    rw [if_neg (by decide)]
    refine ixt (SqT.of hp) (v:=.str "not") rfl ?_
    walk_at "w0"
    rw [if_neg (by decide)]
    refine ixt (SqT.of hp) (v:=.str "not") rfl ?_
    walk_at "w0"
    rw [if_neg (by decide)]
    refine ixt (SqT.of hp) (v:=.str "not") rfl ?_
    walk_at "w0"
    rw [if_neg (by decide)]
    refine ixt (SqT.of hp) (v:=.str "not") rfl ?_
    walk_at "w0"
    rw [Tr.ok] at ho
    rw [Tr.dp] at hd0
    refine ixt (SqT.of hp) (v:=y) rfl ?_
    walk_at "w0"
    refine ⟨y,t,by omega,rfl,hy,ho,fun v' H' S' hf=>?_⟩
    walk_at "w0"
    intro x dx hx hd ne
    have M:=made_same (o:=.own x) (o':=.ins a.Not dx []) hx hd
    refine ⟨x,dx,v',t,rfl,upd_same,(fit_tr hf).same M,?_⟩
    walk_at "w0"
    have SS:Same H' (upd (upd (upd H' dx (.own x)) x (.ins a.Not dx [])) x (.ins a.Not dx [("fit",v')])):=fun b o e=>by rw [upd_ne (ne_of_none e hx)]; exact M b o e
    exact q (.ref x) _ (S'.trans SS) (by rw [Tr.Fit]; exact ⟨x,dx,v',rfl,upd_same,hf.same SS⟩)
  | both ts =>
    rw [Tr.At] at hA
    obtain ⟨p,l0,xs,rfl,hp,hl,hs⟩:=hA
    walk_at "w0"
    refine ixt (SqT.of hp) (v:=.str "both") rfl ?_
    walk_at "w0"
    rw [if_neg (by decide)]
    refine ixt (SqT.of hp) (v:=.str "both") rfl ?_
    walk_at "w0"
    rw [if_neg (by decide)]
    refine ixt (SqT.of hp) (v:=.str "both") rfl ?_
    walk_at "w0"
    rw [if_neg (by decide)]
    refine ixt (SqT.of hp) (v:=.str "both") rfl ?_
    walk_at "w0"
    rw [if_neg (by decide)]
    refine ixt (SqT.of hp) (v:=.str "both") rfl ?_
    walk_at "w0"
    rw [if_neg (by decide)]
    refine ixt (SqT.of hp) (v:=.str "both") rfl ?_
    walk_at "w0"
    rw [Tr.ok] at ho
    rw [Tr.dp] at hd0
    obtain ⟨l2,l6,ho⟩:=ho
    have hA:=trs_at.mp hs
    have ln6:=hA.len
    refine ixt (SqT.of hp) (v:=.ref l0) rfl ?_
    walk_at "w0"
    refine ⟨⟨xs,SqT.of hl⟩,?_⟩
    refine CompT.by (xs:=xs) (fun i acc σ H'=>All2 (Tr.Fit (fz a fun l=>H l=none) H') (ts.toL.take i) acc∧(∃ v,σ=[v])∧Same H H') (sz8 (by omega)) ⟨.nil,⟨_,rfl⟩,fun _ _ z=>z⟩ (fun i acc σ H' _ h=>SqT.of (h.2.2 _ _ hl)) ?_ ?_ ?_
    · rintro i y acc σ H' hy ⟨hF,⟨v,rfl⟩,S1⟩
      obtain ⟨t,e,ht⟩:=hA.get hy
      have mt:=List.mem_of_getElem? e
      have dt:=trs_dp mt
      walk_at "w0"
      refine ⟨y,t,by omega,rfl,ht.same S1,trs_ok.mp ho t mt,fun v' H2 S2 hf=>?_⟩
      have new:All2 (Tr.Fit (fz a fun l=>H l=none) H2) (ts.toL.take (i+1)) (acc++[v']):=by
        rw [List.take_succ,e]
        exact (hF.imp fun t y _ h=>h.same S2).snoc (hf.mono fun l z=>S1.free z)
      first | exact ⟨new,⟨_,rfl⟩,S1.trans S2⟩ | exact ⟨new,S1.trans S2⟩
    · rintro i acc σ H' ⟨hF,_,_⟩
      rw [← hF.len,List.length_take]
      omega
    rintro acc σ H' ⟨hF,⟨v,rfl⟩,S1⟩ D hD
    rw [← ln6,List.take_length] at hF
    have la:=hF.len
    have S2:=same_new hD (.lst acc)
    intro x dx hx hd ne
    have M:=made_same (o:=.own x) (o':=.ins a.Both dx []) hx hd
    refine ⟨x,dx,D,acc,ts.toL,rfl,upd_same,M _ _ upd_same,hF.imp (fun t y _ h=>fit_tr ((h.same S2).same M)),by omega,by omega,fun l3 H3 Bx f3 e1 e2=>?_⟩
    walk_at "w0"
    have SS:=S2.trans (made_but hx hd Bx)
    exact q (.ref x) _ (S1.trans SS) (by rw [Tr.Fit]; exact ⟨x,dx,l3,acc,rfl,e2,e1,(S1.trans (S2.trans M)).free f3,trs_fit.mpr (hF.imp fun t y _ h=>h.same SS)⟩)
  | either ts =>
    rw [Tr.At] at hA
    obtain ⟨p,l0,xs,rfl,hp,hl,hs⟩:=hA
    walk_at "w0"
    refine ixt (SqT.of hp) (v:=.str "either") rfl ?_
    walk_at "w0"
    rw [if_neg (by decide)]
    refine ixt (SqT.of hp) (v:=.str "either") rfl ?_
    walk_at "w0"
    rw [if_neg (by decide)]
    refine ixt (SqT.of hp) (v:=.str "either") rfl ?_
    walk_at "w0"
    rw [if_neg (by decide)]
    refine ixt (SqT.of hp) (v:=.str "either") rfl ?_
    walk_at "w0"
    rw [if_neg (by decide)]
    refine ixt (SqT.of hp) (v:=.str "either") rfl ?_
    walk_at "w0"
    rw [if_neg (by decide)]
    refine ixt (SqT.of hp) (v:=.str "either") rfl ?_
    walk_at "w0"
    rw [if_neg (by decide)]
    rw [Tr.ok] at ho
    rw [Tr.dp] at hd0
    obtain ⟨l2,l6,ho⟩:=ho
    have hA:=trs_at.mp hs
    have ln6:=hA.len
    refine ixt (SqT.of hp) (v:=.ref l0) rfl ?_
    walk_at "w0"
    refine ⟨⟨xs,SqT.of hl⟩,?_⟩
    refine CompT.by (xs:=xs) (fun i acc σ H'=>All2 (Tr.Fit (fz a fun l=>H l=none) H') (ts.toL.take i) acc∧(∃ v,σ=[v])∧Same H H') (sz8 (by omega)) ⟨.nil,⟨_,rfl⟩,fun _ _ z=>z⟩ (fun i acc σ H' _ h=>SqT.of (h.2.2 _ _ hl)) ?_ ?_ ?_
    · rintro i y acc σ H' hy ⟨hF,⟨v,rfl⟩,S1⟩
      obtain ⟨t,e,ht⟩:=hA.get hy
      have mt:=List.mem_of_getElem? e
      have dt:=trs_dp mt
      walk_at "w0"
      refine ⟨y,t,by omega,rfl,ht.same S1,trs_ok.mp ho t mt,fun v' H2 S2 hf=>?_⟩
      have new:All2 (Tr.Fit (fz a fun l=>H l=none) H2) (ts.toL.take (i+1)) (acc++[v']):=by
        rw [List.take_succ,e]
        exact (hF.imp fun t y _ h=>h.same S2).snoc (hf.mono fun l z=>S1.free z)
      first | exact ⟨new,⟨_,rfl⟩,S1.trans S2⟩ | exact ⟨new,S1.trans S2⟩
    · rintro i acc σ H' ⟨hF,_,_⟩
      rw [← hF.len,List.length_take]
      omega
    rintro acc σ H' ⟨hF,⟨v,rfl⟩,S1⟩ D hD
    rw [← ln6,List.take_length] at hF
    have la:=hF.len
    have S2:=same_new hD (.lst acc)
    intro x dx hx hd ne
    have M:=made_same (o:=.own x) (o':=.ins a.Either dx []) hx hd
    refine ⟨x,dx,D,acc,ts.toL,rfl,upd_same,M _ _ upd_same,hF.imp (fun t y _ h=>fit_tr ((h.same S2).same M)),by omega,by omega,fun l3 H3 Bx f3 e1 e2=>?_⟩
    walk_at "w0"
    have SS:=S2.trans (made_but hx hd Bx)
    exact q (.ref x) _ (S1.trans SS) (by rw [Tr.Fit]; exact ⟨x,dx,l3,acc,rfl,e2,e1,(S1.trans (S2.trans M)).free f3,trs_fit.mpr (hF.imp fun t y _ h=>h.same SS)⟩)
theorem ok_law_fits {d n:Nat}(hn:0≤n) (B:Bt K mg a) (C_law_fits:CalX P w K mg base "_law_fits" ["_law_tree_here","_law_thing"] n (sp_law_fits K a d)) (F:Fun K "_law_fits" "_law_fits" s_law_fits f fd):FnOk P w K mg base CX0 (n+1) f fd ["_law_tree_here","_law_thing"] (sp_law_fits K a (d+1)):=by
  refine F.ok sc_law_fits (fun vs H Q E h=>?_) (fun cdv A outer s H vs Q E hr h=>?_)
  · obtain ⟨v,x,t,k,l,n2,hd0,hd20,rfl,_⟩:=h
    rfl
  obtain ⟨v,x,t,k,l,n2,hd0,hd20,rfl,hA,ho,hx,q⟩:=h
  refine ⟨_,(pss_of (qss_cons (qs_if (pt_cmpR op_eq (pe_ix ix_tup (pv 0) pe_int (fun _ _=>rfl)) pe_str (nomark _)) (qss_one (qs_ret (qe_of pe_bl))) qss_nil) (qss_cons (qs_if (pt_cmpR op_eq (pe_ix ix_tup (pv 0) pe_int (fun _ _=>rfl)) pe_str (nomark _)) (qss_one (qs_ret (qe_of (pe_cmpR op_in_seq (pe_ix ix_tup (pv 1) pe_int (fun _ _=>rfl)) (pe_ix ix_tup (pv 0) pe_int (fun _ _=>rfl)) (by with_unfolding_all rfl))))) qss_nil) (qss_cons (qs_if (pt_cmpR op_eq (pe_ix ix_tup (pv 0) pe_int (fun _ _=>rfl)) pe_str (nomark _)) (qss_one (qs_ret (qe_of (pe_cmpR op_in_seq (pe_ix ix_tup (pv 1) pe_int (fun _ _=>rfl)) (pe_ix ix_tup (pv 0) pe_int (fun _ _=>rfl)) (by with_unfolding_all rfl))))) qss_nil) (qss_cons (qs_if (pt_cmpR op_eq (pe_ix ix_tup (pv 0) pe_int (fun _ _=>rfl)) pe_str (nomark _)) (qss_one (qs_ret (qe_of (pe_cmpR op_ge (pe_ix ix_tup (pv 1) pe_int (fun _ _=>rfl)) (pe_ix ix_tup (pv 0) pe_int (fun _ _=>rfl)) (nomark _))))) qss_nil) (qss_cons (qs_if (pt_cmpR op_eq (pe_ix ix_tup (pv 0) pe_int (fun _ _=>rfl)) pe_str (nomark _)) (qss_one (qs_ret (qe_of (pe_not (pe_calN C_law_fits (hr.mono (by omega)) rfl (pa_of (qa_c (pe_ix ix_tup (pv 0) pe_int (fun _ _=>rfl)) (qa_c (pv 1) qa_nil))) (he:=star_plain _ _ _ rfl) (hpl:=plain_any rfl)))))) qss_nil) (qss_cons (qs_if (pt_cmpR op_eq (pe_ix ix_tup (pv 0) pe_int (fun _ _=>rfl)) pe_str (nomark _)) (qss_one (qs_ret (qe_of (pe_cmpR (op_eqD hr.units) (pe_compB ["_law_part","_law_thing"] [none,some 1] rfl (by kernel_rfl) (pi_tup (pe_ix ix_tup (pv 0) pe_int (fun _ _=>rfl))) (fun cl C s H fp=>⟨(pg_name (i:=0) (by decide:List.Nodup (["_law_part","_law_thing"]:List Str)) rfl (Or.inl (by kernel_rfl)) (Or.inr (by kernel_rfl))),(pts_one (pt_not (pt_val (pe_calN C_law_fits (hr.mono (by omega)) (gl_of (by kernel_rfl)) (pa_of (qa_c (pv 0 (hv:=Or.inl (by kernel_rfl))) (qa_c (pv 1 (hv:=Or.inr (Or.inl (by kernel_rfl)))) qa_nil))) (he:=star_plain _ _ _ rfl) (hpl:=plain_any rfl))))),(pv 0 (hv:=Or.inl (by kernel_rfl)))⟩)) (pe_lst (pa_of qa_nil)) (nomark _))))) qss_nil) (qss_one (qs_ret (qe_of (pe_cmpR (op_neD hr.units) (pe_compB ["_law_part","_law_thing"] [none,some 1] rfl (by kernel_rfl) (pi_tup (pe_ix ix_tup (pv 0) pe_int (fun _ _=>rfl))) (fun cl C s H fp=>⟨(pg_name (i:=0) (by decide:List.Nodup (["_law_part","_law_thing"]:List Str)) rfl (Or.inl (by kernel_rfl)) (Or.inr (by kernel_rfl))),(pts_one (pt_val (pe_calN C_law_fits (hr.mono (by omega)) (gl_of (by kernel_rfl)) (pa_of (qa_c (pv 0 (hv:=Or.inl (by kernel_rfl))) (qa_c (pv 1 (hv:=Or.inr (Or.inl (by kernel_rfl)))) qa_nil))) (he:=star_plain _ _ _ rfl) (hpl:=plain_any rfl)))),(pv 0 (hv:=Or.inl (by kernel_rfl)))⟩)) (pe_lst (pa_of qa_nil)) (nomark _)))))))))))),?_⟩
  obtain ⟨tp,rfl,hth,_⟩:=id hx
  cases t with
  | any =>
    rw [Tr.At] at hA
    obtain ⟨p,rfl,hp⟩:=hA
    walk_at "w0"
    refine ixt (SqT.of hp) (v:=.str "any") rfl ?_
    walk_at "w0"
    simp only [Tr.ev] at q
    exact q _ fun _ _ z=>z
  | kind us =>
    rw [Tr.At] at hA
    obtain ⟨p,l0,rfl,hp,hl⟩:=hA
    walk_at "w0"
    refine ixt (SqT.of hp) (v:=.str "kind") rfl ?_
    walk_at "w0"
    rw [if_neg (by decide)]
    refine ixt (SqT.of hp) (v:=.str "kind") rfl ?_
    walk_at "w0"
    simp only [Tr.ev] at q
    refine ixt (SqT.of hth) (v:=.str k) rfl ?_
    walk_at "w0"
    refine ixt (SqT.of hp) (v:=.ref l0) rfl ?_
    refine ⟨l0,_,rfl,.inr (SqT.of hl),rfl,flat_strs us,?_⟩
    rw [inV_str]
    exact q _ fun _ _ z=>z
  | place us =>
    rw [Tr.At] at hA
    obtain ⟨p,l0,rfl,hp,hl⟩:=hA
    walk_at "w0"
    refine ixt (SqT.of hp) (v:=.str "place") rfl ?_
    walk_at "w0"
    rw [if_neg (by decide)]
    refine ixt (SqT.of hp) (v:=.str "place") rfl ?_
    walk_at "w0"
    rw [if_neg (by decide)]
    refine ixt (SqT.of hp) (v:=.str "place") rfl ?_
    walk_at "w0"
    simp only [Tr.ev] at q
    refine ixt (SqT.of hth) (v:=.str l) rfl ?_
    walk_at "w0"
    refine ixt (SqT.of hp) (v:=.ref l0) rfl ?_
    refine ⟨l0,_,rfl,.inr (SqT.of hl),rfl,flat_strs us,?_⟩
    rw [inV_str]
    exact q _ fun _ _ z=>z
  | weight n =>
    rw [Tr.At] at hA
    obtain ⟨p,rfl,hp⟩:=hA
    walk_at "w0"
    refine ixt (SqT.of hp) (v:=.str "weight") rfl ?_
    walk_at "w0"
    rw [if_neg (by decide)]
    refine ixt (SqT.of hp) (v:=.str "weight") rfl ?_
    walk_at "w0"
    rw [if_neg (by decide)]
    refine ixt (SqT.of hp) (v:=.str "weight") rfl ?_
    walk_at "w0"
    rw [if_neg (by decide)]
    refine ixt (SqT.of hp) (v:=.str "weight") rfl ?_
    walk_at "w0"
    simp only [Tr.ev] at q
    refine ixt (SqT.of hth) (v:=.int n2) rfl ?_
    walk_at "w0"
    refine ixt (SqT.of hp) (v:=.int n) rfl ?_
    walk_at "w0"
    exact q _ fun _ _ z=>z
  | not t =>
    rw [Tr.At] at hA
    obtain ⟨p,y,rfl,hp,hy⟩:=hA
    walk_at "w0"
    refine ixt (SqT.of hp) (v:=.str "not") rfl ?_
    walk_at "w0"
    rw [if_neg (by decide)]
    refine ixt (SqT.of hp) (v:=.str "not") rfl ?_
    walk_at "w0"
    rw [if_neg (by decide)]
    refine ixt (SqT.of hp) (v:=.str "not") rfl ?_
    walk_at "w0"
    rw [if_neg (by decide)]
    refine ixt (SqT.of hp) (v:=.str "not") rfl ?_
    walk_at "w0"
    rw [if_neg (by decide)]
    refine ixt (SqT.of hp) (v:=.str "not") rfl ?_
    walk_at "w0"
    simp only [Tr.ev] at q
    rw [Tr.dp] at hd0 hd20
    rw [Tr.ok] at ho
    refine ixt (SqT.of hp) (v:=y) rfl ?_
    walk_at "w0"
    refine ⟨y,.ref tp,t,k,l,n2,by omega,by omega,rfl,hy,ho,hx,fun H' S'=>?_⟩
    walk_at "w0"
    exact q _ S'
  | both ts =>
    rw [Tr.At] at hA
    obtain ⟨p,l0,xs,rfl,hp,hl,hs⟩:=hA
    walk_at "w0"
    refine ixt (SqT.of hp) (v:=.str "both") rfl ?_
    walk_at "w0"
    rw [if_neg (by decide)]
    refine ixt (SqT.of hp) (v:=.str "both") rfl ?_
    walk_at "w0"
    rw [if_neg (by decide)]
    refine ixt (SqT.of hp) (v:=.str "both") rfl ?_
    walk_at "w0"
    rw [if_neg (by decide)]
    refine ixt (SqT.of hp) (v:=.str "both") rfl ?_
    walk_at "w0"
    rw [if_neg (by decide)]
    refine ixt (SqT.of hp) (v:=.str "both") rfl ?_
    walk_at "w0"
    rw [if_neg (by decide)]
    refine ixt (SqT.of hp) (v:=.str "both") rfl ?_
    walk_at "w0"
    simp only [Tr.ev] at q
    rw [Tr.dp] at hd0 hd20
    rw [Tr.ok] at ho
    obtain ⟨l2,l6,ho⟩:=ho
    have hA:=trs_at.mp hs
    have ln6:=hA.len
    have dA:=Trs.At.dt ho hs
    refine ixt (SqT.of hp) (v:=.ref l0) rfl ?_
    walk_at "w0"
    refine ⟨⟨xs,SqT.of hl⟩,?_⟩
    refine CompT.by (xs:=xs) (fun i acc σ H'=>acc.length=((ts.toL.take i).filter (fun t=>!Tr.ev k l n2 t)).length∧(∀ y∈acc,y∈xs)∧(∃ v,σ=[v,some (.ref tp)])∧Same H H') (sz8 (by omega)) ⟨rfl,(fun y hy=>absurd hy List.not_mem_nil),⟨_,rfl⟩,fun _ _ z=>z⟩ (fun i acc σ H' _ h=>SqT.of (h.2.2.2 _ _ hl)) ?_ ?_ ?_
    · rintro i y acc σ H' hy ⟨hc,hm,⟨v,rfl⟩,S1⟩
      obtain ⟨t,e,ht⟩:=hA.get hy
      have mt:=List.mem_of_getElem? e
      have dt:=trs_dp mt
      have tk:(ts.toL.take (i+1)).filter (fun t=>!Tr.ev k l n2 t)=(ts.toL.take i).filter (fun t=>!Tr.ev k l n2 t)++[t].filter (fun t=>!Tr.ev k l n2 t):=by rw [List.take_succ,e,← List.filter_append]; rfl
      walk_at "w0"
      refine ⟨y,.ref tp,t,k,l,n2,by omega,by omega,rfl,ht.same S1,trs_ok.mp ho t mt,hx.same S1,fun H2 S2=>?_⟩
      walk_at "w0"
      cases hv:t.ev k l n2 with
      | false =>
        have n1:(acc++[y]).length=((ts.toL.take (i+1)).filter (fun t=>!Tr.ev k l n2 t)).length:=by
          rw [tk,List.length_append,List.length_append,hc,List.filter_cons_of_pos (by simp [hv])]
          rfl
        have n2:∀ z∈acc++[y],z∈xs:=fun z hz=>by
          rcases List.mem_append.mp hz with hz | hz
          · exact hm z hz
          · rw [List.mem_singleton.mp hz]; exact List.mem_of_getElem? hy
        exists Bool.not_false
        first | exact ⟨n1,n2,⟨_,rfl⟩,S1.trans S2⟩ | exact ⟨n1,n2,S1.trans S2⟩
      | true =>
        have n1:acc.length=((ts.toL.take (i+1)).filter (fun t=>!Tr.ev k l n2 t)).length:=by
          rw [tk,List.length_append,hc,List.filter_cons_of_neg (by simp [hv])]
          rfl
        exists Bool.not_true
        first | exact ⟨n1,hm,⟨_,rfl⟩,S1.trans S2⟩ | exact ⟨n1,hm,S1.trans S2⟩
    · rintro i acc σ H' ⟨hc,_,_,_⟩
      rw [hc]
      have:=List.length_filter_le (fun t=>!Tr.ev k l n2 t) (ts.toL.take i)
      rw [List.length_take] at this
      omega
    rintro acc σ H' ⟨hc,hm,⟨v,rfl⟩,S1⟩ D hD
    rw [← ln6,List.take_length] at hc
    have S2:=same_new hD (.lst acc)
    have e1:upd H' D (.lst acc) D=some (.lst acc):=upd_same
    generalize upd H' D (.lst acc)=H2 at *
    refine ⟨Nat.zero_le _,fun p2 h2=>?_⟩
    have S3:=same_new h2 (.lst [])
    have SS:=S1.trans (S2.trans S3)
    have dB:=Trs.At.dt ho (Trs.At.keep (same_tupK SS) hs)
    have ev_:(acc.isEmpty == true)=(ts.ev k l n2).all id:=by
      rw [trs_ev]
      have h0:acc.isEmpty=(ts.toL.filter (fun t=>!Tr.ev k l n2 t)).isEmpty:=by
        cases acc <;> cases hf:ts.toL.filter (fun t=>!Tr.ev k l n2 t) <;> first | rfl | (rw [hf] at hc; cases hc)
      rw [h0]
      generalize ts.toL=L
      induction L with
      | nil=>rfl
      | cons t r ih =>
        rw [List.map_cons,List.all_cons,← ih]
        cases hv:t.ev k l n2
        · rw [List.filter_cons_of_pos (by simp [hv])]
          first | rfl | simp
        · rw [List.filter_cons_of_neg (by simp [hv])]
          first | rfl | simp
    refine eqd_nil (S3 _ _ e1) upd_same (n:=2 * ts.dp+2) (by omega) (fun z hz=>dB z (hm z hz)) ?_
    rw [ev_]
    exact q _ SS
  | either ts =>
    rw [Tr.At] at hA
    obtain ⟨p,l0,xs,rfl,hp,hl,hs⟩:=hA
    walk_at "w0"
    refine ixt (SqT.of hp) (v:=.str "either") rfl ?_
    walk_at "w0"
    rw [if_neg (by decide)]
    refine ixt (SqT.of hp) (v:=.str "either") rfl ?_
    walk_at "w0"
    rw [if_neg (by decide)]
    refine ixt (SqT.of hp) (v:=.str "either") rfl ?_
    walk_at "w0"
    rw [if_neg (by decide)]
    refine ixt (SqT.of hp) (v:=.str "either") rfl ?_
    walk_at "w0"
    rw [if_neg (by decide)]
    refine ixt (SqT.of hp) (v:=.str "either") rfl ?_
    walk_at "w0"
    rw [if_neg (by decide)]
    refine ixt (SqT.of hp) (v:=.str "either") rfl ?_
    walk_at "w0"
    rw [if_neg (by decide)]
    simp only [Tr.ev] at q
    rw [Tr.dp] at hd0 hd20
    rw [Tr.ok] at ho
    obtain ⟨l2,l6,ho⟩:=ho
    have hA:=trs_at.mp hs
    have ln6:=hA.len
    have dA:=Trs.At.dt ho hs
    refine ixt (SqT.of hp) (v:=.ref l0) rfl ?_
    walk_at "w0"
    refine ⟨⟨xs,SqT.of hl⟩,?_⟩
    refine CompT.by (xs:=xs) (fun i acc σ H'=>acc.length=((ts.toL.take i).filter (Tr.ev k l n2)).length∧(∀ y∈acc,y∈xs)∧(∃ v,σ=[v,some (.ref tp)])∧Same H H') (sz8 (by omega)) ⟨rfl,(fun y hy=>absurd hy List.not_mem_nil),⟨_,rfl⟩,fun _ _ z=>z⟩ (fun i acc σ H' _ h=>SqT.of (h.2.2.2 _ _ hl)) ?_ ?_ ?_
    · rintro i y acc σ H' hy ⟨hc,hm,⟨v,rfl⟩,S1⟩
      obtain ⟨t,e,ht⟩:=hA.get hy
      have mt:=List.mem_of_getElem? e
      have dt:=trs_dp mt
      have tk:(ts.toL.take (i+1)).filter (Tr.ev k l n2)=(ts.toL.take i).filter (Tr.ev k l n2)++[t].filter (Tr.ev k l n2):=by rw [List.take_succ,e,← List.filter_append]; rfl
      walk_at "w0"
      refine ⟨y,.ref tp,t,k,l,n2,by omega,by omega,rfl,ht.same S1,trs_ok.mp ho t mt,hx.same S1,fun H2 S2=>?_⟩
      walk_at "w0"
      cases hv:t.ev k l n2 with
      | true =>
        have n1:(acc++[y]).length=((ts.toL.take (i+1)).filter (Tr.ev k l n2)).length:=by
          rw [tk,List.length_append,List.length_append,hc,List.filter_cons_of_pos (by simp [hv])]
          rfl
        have n2:∀ z∈acc++[y],z∈xs:=fun z hz=>by
          rcases List.mem_append.mp hz with hz | hz
          · exact hm z hz
          · rw [List.mem_singleton.mp hz]; exact List.mem_of_getElem? hy
        exists Bool.not_false
        first | exact ⟨n1,n2,⟨_,rfl⟩,S1.trans S2⟩ | exact ⟨n1,n2,S1.trans S2⟩
      | false =>
        have n1:acc.length=((ts.toL.take (i+1)).filter (Tr.ev k l n2)).length:=by
          rw [tk,List.length_append,hc,List.filter_cons_of_neg (by simp [hv])]
          rfl
        exists Bool.not_true
        first | exact ⟨n1,hm,⟨_,rfl⟩,S1.trans S2⟩ | exact ⟨n1,hm,S1.trans S2⟩
    · rintro i acc σ H' ⟨hc,_,_,_⟩
      rw [hc]
      have:=List.length_filter_le (Tr.ev k l n2) (ts.toL.take i)
      rw [List.length_take] at this
      omega
    rintro acc σ H' ⟨hc,hm,⟨v,rfl⟩,S1⟩ D hD
    rw [← ln6,List.take_length] at hc
    have S2:=same_new hD (.lst acc)
    have e1:upd H' D (.lst acc) D=some (.lst acc):=upd_same
    generalize upd H' D (.lst acc)=H2 at *
    refine ⟨Nat.zero_le _,fun p2 h2=>?_⟩
    have S3:=same_new h2 (.lst [])
    have SS:=S1.trans (S2.trans S3)
    have dB:=Trs.At.dt ho (Trs.At.keep (same_tupK SS) hs)
    have ev_:(acc.isEmpty == false)=(ts.ev k l n2).any id:=by
      rw [trs_ev]
      have h0:acc.isEmpty=(ts.toL.filter (Tr.ev k l n2)).isEmpty:=by
        cases acc <;> cases hf:ts.toL.filter (Tr.ev k l n2) <;> first | rfl | (rw [hf] at hc; cases hc)
      rw [h0]
      generalize ts.toL=L
      induction L with
      | nil=>rfl
      | cons t r ih =>
        rw [List.map_cons,List.any_cons,← ih]
        cases hv:t.ev k l n2
        · rw [List.filter_cons_of_neg (by simp [hv])]
          first | rfl | simp
        · rw [List.filter_cons_of_pos (by simp [hv])]
          first | rfl | simp
    refine eqd_nil (S3 _ _ e1) upd_same (n:=2 * ts.dp+2) (by omega) (fun z hz=>dB z (hm z hz)) ?_
    rw [ev_]
    exact q _ SS
theorem trs_cntL:∀ ts:Trs,ts.cnt=(ts.toL.map Tr.cnt).sum
  | .nil=>rfl
  | .cons t ts=>by rw [Trs.cnt,Trs.toL,List.map_cons,List.sum_cons,trs_cntL ts]
theorem sum_take {L:List Tr}{i:Nat}{t:Tr}(h:L[i]?=some t):((L.take (i+1)).map Tr.cnt).sum=((L.take i).map Tr.cnt).sum+t.cnt:=by
  rw [List.take_succ,h,List.map_append,List.sum_append]
  simp
theorem sum_take_le:∀ (L:List Tr) (i:Nat),((L.take i).map Tr.cnt).sum≤(L.map Tr.cnt).sum
  | [],i=>by rw [List.take_nil]; exact Nat.le_refl _
  | t::L,0=>Nat.zero_le _
  | t::L,i+1=>by
    rw [List.take_succ_cons,List.map_cons,List.map_cons,List.sum_cons,List.sum_cons]
    exact Nat.add_le_add_left (sum_take_le L i) _
theorem cnt_mem {ts:Trs}{t:Tr}(h:t∈ts.toL):t.cnt≤ts.cnt:=by
  rw [trs_cntL]
  generalize ts.toL=L at h
  induction L with
  | nil=>cases h
  | cons s r ih =>
    rw [List.map_cons,List.sum_cons]
    rcases List.mem_cons.mp h with rfl | h
    · omega
    · have:=ih h; omega
theorem ThAt.keep {H H':Hp}{x:V}{k p:Str}{w:Int}(h:ThAt H x k p w) (s:TupK H H'):ThAt H' x k p w:=by
  obtain ⟨tp,e,h,r⟩:=h
  exact ⟨tp,e,s _ _ h,r⟩
theorem ok_law_gathered {d n:Nat}(hn:0≤n) (B:Bt K mg a) (C_law_gathered:CalX P w K mg base "_law_gathered" ["_law_tree_here","_law_word"] n (sp_law_gathered K a d)) (F:Fun K "_law_gathered" "_law_gathered" s_law_gathered f fd):FnOk P w K mg base CX0 (n+1) f fd ["_law_tree_here","_law_word"] (sp_law_gathered K a (d+1)):=by
  refine F.ok sc_law_gathered (fun vs H Q E h=>?_) (fun cdv A outer s H vs Q E hr h=>?_)
  · obtain ⟨v,t,wd,hd0,rfl,_⟩:=h
    rfl
  obtain ⟨v,t,wd,hd0,rfl,hA,ho,hc,hw,q⟩:=h
  refine ⟨_,(pss_of (qss_cons (qs_if (L2.PW.pt (pw_and (pt_cmpR op_eq (pe_ix ix_tup (pv 0) pe_int (fun _ _=>rfl)) (pv 1) (nomark _)) (pw_and1 (pt_cmpR op_eq (pv 1) pe_str (nomark _))))) (qss_one (qs_ret (qe_lst (qa_c (pe_ix ix_tup (pv 0) pe_int (fun _ _=>rfl)) qa_nil)))) qss_nil) (qss_cons (qs_if (pt_cmpR op_eq (pe_ix ix_tup (pv 0) pe_int (fun _ _=>rfl)) (pv 1) (nomark _)) (qss_one (qs_ret (qe_of (pe_callTy call_list_of rfl B.list PyProof.Rows.boot_list (pa_of (qa_c (pe_ix ix_tup (pv 0) pe_int (fun _ _=>rfl)) qa_nil)))))) qss_nil) (qss_cons (qs_if (pt_cmpR op_eq (pe_ix ix_tup (pv 0) pe_int (fun _ _=>rfl)) pe_str (nomark _)) (qss_one (qs_ret (qe_of (pe_calN C_law_gathered (hr.mono (by omega)) rfl (pa_of (qa_c (pe_ix ix_tup (pv 0) pe_int (fun _ _=>rfl)) (qa_c (pv 1) qa_nil))) (he:=star_plain _ _ _ rfl) (hpl:=plain_any rfl))))) qss_nil) (qss_cons (qs_set (i:=2) sc_law_gathered.nd rfl (Or.inl rfl) (qe_lst qa_nil) (by kernel_rfl)) (qss_cons (qs_if (L2.PW.pt (pw_or (pt_cmpR op_eq (pe_ix ix_tup (pv 0) pe_int (fun _ _=>rfl)) pe_str (nomark _)) (pw_or1 (pt_cmpR op_eq (pe_ix ix_tup (pv 0) pe_int (fun _ _=>rfl)) pe_str (nomark _))))) (qss_one (qs_of (ps_for PassesOwn.never rfl (pi_tup (pe_ix ix_tup (pv 0) pe_int (fun _ _=>rfl))) (pg_name (i:=3) sc_law_gathered.nd rfl (Or.inl rfl)) (pss_of (qss_one (qs_set (i:=2) sc_law_gathered.nd rfl (Or.inl rfl) (qe_of (pe_op op_cat (pv 2) (pe_calN C_law_gathered (hr.mono (by omega)) rfl (pa_of (qa_c (pv 3) (qa_c (pv 1) qa_nil))) (he:=star_plain _ _ _ rfl) (hpl:=plain_any rfl)))) (by kernel_rfl))))))) qss_nil) (qss_one (qs_ret (qe_of (pv 2)))))))))),?_⟩
  cases t with
  | any =>
    rw [Tr.At] at hA
    obtain ⟨p,rfl,hp⟩:=hA
    walk_at "w0"
    have nT:("any":Str)≠wd:=by rcases hw with rfl | rfl | rfl <;> decide
    refine ixt (SqT.of hp) (v:=.str "any") rfl ?_
    walk_at "w0"
    rw [if_neg nT]
    refine ixt (SqT.of hp) (v:=.str "any") rfl ?_
    walk_at "w0"
    rw [if_neg nT]
    refine ixt (SqT.of hp) (v:=.str "any") rfl ?_
    walk_at "w0"
    rw [if_neg (by decide)]
    refine ⟨Nat.zero_le _,fun l1 h1=>?_⟩
    have S1:=same_new h1 (.lst [])
    have hp:=S1 _ _ hp
    have e1:upd H l1 (.lst []) l1=some (.lst []):=upd_same
    generalize upd H l1 (.lst [])=H1 at *
    walk_at "w0"
    refine ixt (SqT.of hp) (v:=.str "any") rfl ?_
    walk_at "w0"
    rw [if_neg (by decide)]
    refine ixt (SqT.of hp) (v:=.str "any") rfl ?_
    walk_at "w0"
    rw [if_neg (by decide)]
    exact q l1 [] _ S1 h1 e1 (Nat.zero_le _) fun x hx=>absurd hx List.not_mem_nil
  | kind us =>
    rw [Tr.At] at hA
    rw [Tr.okl] at ho
    obtain ⟨p,l0,rfl,hp,hl⟩:=hA
    walk_at "w0"
    rcases hw with rfl | rfl | rfl
    · skip
      refine ixt (SqT.of hp) (v:=.str "kind") rfl ?_
      walk_at "w0"
      rw [if_neg (by decide)]
      refine ixt (SqT.of hp) (v:=.str "kind") rfl ?_
      walk_at "w0"
      refine ixt (SqT.of hp) (v:=.ref l0) rfl ?_
      walk_at "w0"
      refine ⟨_,.inr (SqT.of hl),fun l1 h1=>?_⟩
      refine q l1 (us.map V.str) _ (same_new h1 _) h1 upd_same (by rw [Tr.cnt,List.length_map]; exact Nat.le_refl _) fun x hx=>?_
      obtain ⟨u,hu,rfl⟩:=List.mem_map.mp hx
      exact .inr ⟨by decide,u,rfl,ho.2.2.1 u hu⟩
    · skip
      refine ixt (SqT.of hp) (v:=.str "kind") rfl ?_
      walk_at "w0"
      rw [if_neg (by decide)]
      refine ixt (SqT.of hp) (v:=.str "kind") rfl ?_
      walk_at "w0"
      rw [if_neg (by decide)]
      refine ixt (SqT.of hp) (v:=.str "kind") rfl ?_
      walk_at "w0"
      rw [if_neg (by decide)]
      refine ⟨Nat.zero_le _,fun l1 h1=>?_⟩
      have S1:=same_new h1 (.lst [])
      have hp:=S1 _ _ hp
      have e1:upd H l1 (.lst []) l1=some (.lst []):=upd_same
      generalize upd H l1 (.lst [])=H1 at *
      walk_at "w0"
      refine ixt (SqT.of hp) (v:=.str "kind") rfl ?_
      walk_at "w0"
      rw [if_neg (by decide)]
      refine ixt (SqT.of hp) (v:=.str "kind") rfl ?_
      walk_at "w0"
      rw [if_neg (by decide)]
      exact q l1 [] _ S1 h1 e1 (Nat.zero_le _) fun x hx=>absurd hx List.not_mem_nil
    · skip
      refine ixt (SqT.of hp) (v:=.str "kind") rfl ?_
      walk_at "w0"
      rw [if_neg (by decide)]
      refine ixt (SqT.of hp) (v:=.str "kind") rfl ?_
      walk_at "w0"
      rw [if_neg (by decide)]
      refine ixt (SqT.of hp) (v:=.str "kind") rfl ?_
      walk_at "w0"
      rw [if_neg (by decide)]
      refine ⟨Nat.zero_le _,fun l1 h1=>?_⟩
      have S1:=same_new h1 (.lst [])
      have hp:=S1 _ _ hp
      have e1:upd H l1 (.lst []) l1=some (.lst []):=upd_same
      generalize upd H l1 (.lst [])=H1 at *
      walk_at "w0"
      refine ixt (SqT.of hp) (v:=.str "kind") rfl ?_
      walk_at "w0"
      rw [if_neg (by decide)]
      refine ixt (SqT.of hp) (v:=.str "kind") rfl ?_
      walk_at "w0"
      rw [if_neg (by decide)]
      exact q l1 [] _ S1 h1 e1 (Nat.zero_le _) fun x hx=>absurd hx List.not_mem_nil
  | place us =>
    rw [Tr.At] at hA
    rw [Tr.okl] at ho
    obtain ⟨p,l0,rfl,hp,hl⟩:=hA
    walk_at "w0"
    rcases hw with rfl | rfl | rfl
    · skip
      refine ixt (SqT.of hp) (v:=.str "place") rfl ?_
      walk_at "w0"
      rw [if_neg (by decide)]
      refine ixt (SqT.of hp) (v:=.str "place") rfl ?_
      walk_at "w0"
      rw [if_neg (by decide)]
      refine ixt (SqT.of hp) (v:=.str "place") rfl ?_
      walk_at "w0"
      rw [if_neg (by decide)]
      refine ⟨Nat.zero_le _,fun l1 h1=>?_⟩
      have S1:=same_new h1 (.lst [])
      have hp:=S1 _ _ hp
      have e1:upd H l1 (.lst []) l1=some (.lst []):=upd_same
      generalize upd H l1 (.lst [])=H1 at *
      walk_at "w0"
      refine ixt (SqT.of hp) (v:=.str "place") rfl ?_
      walk_at "w0"
      rw [if_neg (by decide)]
      refine ixt (SqT.of hp) (v:=.str "place") rfl ?_
      walk_at "w0"
      rw [if_neg (by decide)]
      exact q l1 [] _ S1 h1 e1 (Nat.zero_le _) fun x hx=>absurd hx List.not_mem_nil
    · skip
      refine ixt (SqT.of hp) (v:=.str "place") rfl ?_
      walk_at "w0"
      rw [if_neg (by decide)]
      refine ixt (SqT.of hp) (v:=.str "place") rfl ?_
      walk_at "w0"
      refine ixt (SqT.of hp) (v:=.ref l0) rfl ?_
      walk_at "w0"
      refine ⟨_,.inr (SqT.of hl),fun l1 h1=>?_⟩
      refine q l1 (us.map V.str) _ (same_new h1 _) h1 upd_same (by rw [Tr.cnt,List.length_map]; exact Nat.le_refl _) fun x hx=>?_
      obtain ⟨u,hu,rfl⟩:=List.mem_map.mp hx
      exact .inr ⟨by decide,u,rfl,ho.2.2.1 u hu⟩
    · skip
      refine ixt (SqT.of hp) (v:=.str "place") rfl ?_
      walk_at "w0"
      rw [if_neg (by decide)]
      refine ixt (SqT.of hp) (v:=.str "place") rfl ?_
      walk_at "w0"
      rw [if_neg (by decide)]
      refine ixt (SqT.of hp) (v:=.str "place") rfl ?_
      walk_at "w0"
      rw [if_neg (by decide)]
      refine ⟨Nat.zero_le _,fun l1 h1=>?_⟩
      have S1:=same_new h1 (.lst [])
      have hp:=S1 _ _ hp
      have e1:upd H l1 (.lst []) l1=some (.lst []):=upd_same
      generalize upd H l1 (.lst [])=H1 at *
      walk_at "w0"
      refine ixt (SqT.of hp) (v:=.str "place") rfl ?_
      walk_at "w0"
      rw [if_neg (by decide)]
      refine ixt (SqT.of hp) (v:=.str "place") rfl ?_
      walk_at "w0"
      rw [if_neg (by decide)]
      exact q l1 [] _ S1 h1 e1 (Nat.zero_le _) fun x hx=>absurd hx List.not_mem_nil
  | weight n =>
    rw [Tr.At] at hA
    rw [Tr.okl] at ho
    obtain ⟨p,rfl,hp⟩:=hA
    walk_at "w0"
    rcases hw with rfl | rfl | rfl
    · skip
      refine ixt (SqT.of hp) (v:=.str "weight") rfl ?_
      walk_at "w0"
      rw [if_neg (by decide)]
      refine ixt (SqT.of hp) (v:=.str "weight") rfl ?_
      walk_at "w0"
      rw [if_neg (by decide)]
      refine ixt (SqT.of hp) (v:=.str "weight") rfl ?_
      walk_at "w0"
      rw [if_neg (by decide)]
      refine ⟨Nat.zero_le _,fun l1 h1=>?_⟩
      have S1:=same_new h1 (.lst [])
      have hp:=S1 _ _ hp
      have e1:upd H l1 (.lst []) l1=some (.lst []):=upd_same
      generalize upd H l1 (.lst [])=H1 at *
      walk_at "w0"
      refine ixt (SqT.of hp) (v:=.str "weight") rfl ?_
      walk_at "w0"
      rw [if_neg (by decide)]
      refine ixt (SqT.of hp) (v:=.str "weight") rfl ?_
      walk_at "w0"
      rw [if_neg (by decide)]
      exact q l1 [] _ S1 h1 e1 (Nat.zero_le _) fun x hx=>absurd hx List.not_mem_nil
    · skip
      refine ixt (SqT.of hp) (v:=.str "weight") rfl ?_
      walk_at "w0"
      rw [if_neg (by decide)]
      refine ixt (SqT.of hp) (v:=.str "weight") rfl ?_
      walk_at "w0"
      rw [if_neg (by decide)]
      refine ixt (SqT.of hp) (v:=.str "weight") rfl ?_
      walk_at "w0"
      rw [if_neg (by decide)]
      refine ⟨Nat.zero_le _,fun l1 h1=>?_⟩
      have S1:=same_new h1 (.lst [])
      have hp:=S1 _ _ hp
      have e1:upd H l1 (.lst []) l1=some (.lst []):=upd_same
      generalize upd H l1 (.lst [])=H1 at *
      walk_at "w0"
      refine ixt (SqT.of hp) (v:=.str "weight") rfl ?_
      walk_at "w0"
      rw [if_neg (by decide)]
      refine ixt (SqT.of hp) (v:=.str "weight") rfl ?_
      walk_at "w0"
      rw [if_neg (by decide)]
      exact q l1 [] _ S1 h1 e1 (Nat.zero_le _) fun x hx=>absurd hx List.not_mem_nil
    · skip
      refine ixt (SqT.of hp) (v:=.str "weight") rfl ?_
      walk_at "w0"
      refine ixt (SqT.of hp) (v:=.int n) rfl ?_
      refine ⟨sz8 (by decide),fun l1 h1=>?_⟩
      refine q l1 [.int n] _ (same_new h1 _) h1 upd_same (by rw [Tr.cnt]; exact Nat.le_refl _) fun x hx=>?_
      rw [List.mem_singleton.mp hx]
      exact .inl ⟨rfl,n,rfl,ho.1,ho.2⟩
  | not t =>
    rw [Tr.At] at hA
    rw [Tr.okl] at ho
    obtain ⟨p,y,rfl,hp,hy⟩:=hA
    walk_at "w0"
    have nT:("not":Str)≠wd:=by rcases hw with rfl | rfl | rfl <;> decide
    refine ixt (SqT.of hp) (v:=.str "not") rfl ?_
    walk_at "w0"
    rw [if_neg nT]
    refine ixt (SqT.of hp) (v:=.str "not") rfl ?_
    walk_at "w0"
    rw [if_neg nT]
    refine ixt (SqT.of hp) (v:=.str "not") rfl ?_
    walk_at "w0"
    rw [Tr.dp] at hd0
    rw [Tr.cnt] at hc q
    refine ixt (SqT.of hp) (v:=y) rfl ?_
    walk_at "w0"
    exact ⟨y,t,wd,by omega,rfl,hy,ho,hc,hw,q⟩
  | both ts =>
    rw [Tr.At] at hA
    rw [Tr.okl] at ho
    obtain ⟨p,l0,xs,rfl,hp,hl,hs⟩:=hA
    walk_at "w0"
    have nT:("both":Str)≠wd:=by rcases hw with rfl | rfl | rfl <;> decide
    refine ixt (SqT.of hp) (v:=.str "both") rfl ?_
    walk_at "w0"
    rw [if_neg nT]
    refine ixt (SqT.of hp) (v:=.str "both") rfl ?_
    walk_at "w0"
    rw [if_neg nT]
    refine ixt (SqT.of hp) (v:=.str "both") rfl ?_
    walk_at "w0"
    rw [if_neg (by decide)]
    refine ⟨Nat.zero_le _,fun l1 h1=>?_⟩
    have S1:=same_new h1 (.lst [])
    have hp:=S1 _ _ hp
    have e1:upd H l1 (.lst []) l1=some (.lst []):=upd_same
    generalize upd H l1 (.lst [])=H1 at *
    walk_at "w0"
    refine ixt (SqT.of hp) (v:=.str "both") rfl ?_
    walk_at "w0"
    rw [Tr.dp] at hd0
    rw [Tr.cnt] at hc q
    have hA:=trs_at.mp hs
    refine ixt (SqT.of hp) (v:=.ref l0) rfl ?_
    walk_at "w0"
    have hl1:=S1 _ _ hl
    refine ⟨⟨xs,SqT.of hl1⟩,?_⟩
    refine ForT.by (xs:=xs) (fun i σ H'=>(∃ pf acc pv,σ=[some (.ref p),some (.str wd),some (.ref pf),pv]∧H' pf=some (.lst acc)∧H pf=none∧acc.length≤((ts.toL.take i).map Tr.cnt).sum∧∀ x∈acc,gdV wd x)∧Same H H') ⟨⟨l1,[],_,rfl,e1,h1,Nat.zero_le _,fun x hx=>absurd hx List.not_mem_nil⟩,S1⟩ (fun i σ H' _ h=>SqT.of (h.2 _ _ hl)) ?_ ?_
    · rintro i y σ H' hy ⟨⟨pf,acc,pv,rfl,ef,hf,la,ga⟩,S2⟩
      obtain ⟨t,e,ht⟩:=hA.get hy
      have mt:=List.mem_of_getElem? e
      have dt:=trs_dp mt
      have ct:=cnt_mem mt
      have stk:=sum_take e
      have sle:=sum_take_le ts.toL (i+1)
      rw [← trs_cntL] at sle
      walk_at "w0"
      refine ⟨y,t,wd,by omega,rfl,ht.same S2,trs_okl.mp ho t mt,by omega,hw,fun l3 zs H3 S3 f3 e3 n3 g3=>?_⟩
      refine ⟨pf,l3,_,_,rfl,rfl,S3 _ _ ef,e3,sz8 (by omega),fun p4 h4=>?_⟩
      have S4:=same_new h4 (.lst (acc++zs))
      have SS:=S2.trans (S3.trans S4)
      walk_at "w0"
      have gz:∀ x∈acc++zs,gdV wd x:=fun x hx=>by
        rcases List.mem_append.mp hx with hx | hx
        · exact ga x hx
        · exact g3 x hx
      have lz:(acc++zs).length≤((ts.toL.take (i+1)).map Tr.cnt).sum:=by rw [List.length_append]; omega
      first | exact ⟨⟨acc++zs,upd_same,(S2.trans S3).free h4,lz,gz⟩,SS⟩ | exact ⟨⟨p4,acc++zs,_,rfl,upd_same,(S2.trans S3).free h4,lz,gz⟩,SS⟩
    · rintro σ H' ⟨⟨pf,acc,pv,rfl,ef,hf,la,ga⟩,S2⟩
      walk_at "w0"
      rw [← hA.len,List.take_length,← trs_cntL] at la
      exact q pf acc _ S2 hf ef la ga
  | either ts =>
    rw [Tr.At] at hA
    rw [Tr.okl] at ho
    obtain ⟨p,l0,xs,rfl,hp,hl,hs⟩:=hA
    walk_at "w0"
    have nT:("either":Str)≠wd:=by rcases hw with rfl | rfl | rfl <;> decide
    refine ixt (SqT.of hp) (v:=.str "either") rfl ?_
    walk_at "w0"
    rw [if_neg nT]
    refine ixt (SqT.of hp) (v:=.str "either") rfl ?_
    walk_at "w0"
    rw [if_neg nT]
    refine ixt (SqT.of hp) (v:=.str "either") rfl ?_
    walk_at "w0"
    rw [if_neg (by decide)]
    refine ⟨Nat.zero_le _,fun l1 h1=>?_⟩
    have S1:=same_new h1 (.lst [])
    have hp:=S1 _ _ hp
    have e1:upd H l1 (.lst []) l1=some (.lst []):=upd_same
    generalize upd H l1 (.lst [])=H1 at *
    walk_at "w0"
    refine ixt (SqT.of hp) (v:=.str "either") rfl ?_
    walk_at "w0"
    rw [if_neg (by decide)]
    refine ixt (SqT.of hp) (v:=.str "either") rfl ?_
    walk_at "w0"
    rw [Tr.dp] at hd0
    rw [Tr.cnt] at hc q
    have hA:=trs_at.mp hs
    refine ixt (SqT.of hp) (v:=.ref l0) rfl ?_
    walk_at "w0"
    have hl1:=S1 _ _ hl
    refine ⟨⟨xs,SqT.of hl1⟩,?_⟩
    refine ForT.by (xs:=xs) (fun i σ H'=>(∃ pf acc pv,σ=[some (.ref p),some (.str wd),some (.ref pf),pv]∧H' pf=some (.lst acc)∧H pf=none∧acc.length≤((ts.toL.take i).map Tr.cnt).sum∧∀ x∈acc,gdV wd x)∧Same H H') ⟨⟨l1,[],_,rfl,e1,h1,Nat.zero_le _,fun x hx=>absurd hx List.not_mem_nil⟩,S1⟩ (fun i σ H' _ h=>SqT.of (h.2 _ _ hl)) ?_ ?_
    · rintro i y σ H' hy ⟨⟨pf,acc,pv,rfl,ef,hf,la,ga⟩,S2⟩
      obtain ⟨t,e,ht⟩:=hA.get hy
      have mt:=List.mem_of_getElem? e
      have dt:=trs_dp mt
      have ct:=cnt_mem mt
      have stk:=sum_take e
      have sle:=sum_take_le ts.toL (i+1)
      rw [← trs_cntL] at sle
      walk_at "w0"
      refine ⟨y,t,wd,by omega,rfl,ht.same S2,trs_okl.mp ho t mt,by omega,hw,fun l3 zs H3 S3 f3 e3 n3 g3=>?_⟩
      refine ⟨pf,l3,_,_,rfl,rfl,S3 _ _ ef,e3,sz8 (by omega),fun p4 h4=>?_⟩
      have S4:=same_new h4 (.lst (acc++zs))
      have SS:=S2.trans (S3.trans S4)
      walk_at "w0"
      have gz:∀ x∈acc++zs,gdV wd x:=fun x hx=>by
        rcases List.mem_append.mp hx with hx | hx
        · exact ga x hx
        · exact g3 x hx
      have lz:(acc++zs).length≤((ts.toL.take (i+1)).map Tr.cnt).sum:=by rw [List.length_append]; omega
      first | exact ⟨⟨acc++zs,upd_same,(S2.trans S3).free h4,lz,gz⟩,SS⟩ | exact ⟨⟨p4,acc++zs,_,rfl,upd_same,(S2.trans S3).free h4,lz,gz⟩,SS⟩
    · rintro σ H' ⟨⟨pf,acc,pv,rfl,ef,hf,la,ga⟩,S2⟩
      walk_at "w0"
      rw [← hA.len,List.take_length,← trs_cntL] at la
      exact q pf acc _ S2 hf ef la ga
theorem ok_law_pick (B:Bt K mg a) (C_law_name:CalX P w K mg base "_law_name" ["_law_state"] 2 (sp_law_name K a)) (C_law_next:CalX P w K mg base "_law_next" ["_law_state","_law_base"] 1 (sp_law_next K a)) (F:Fun K "_law_pick" "_law_pick" s_law_pick f fd):FnOk P w K mg base CX0 3 f fd ["_law_state","_law_some"] (sp_law_pick K a):=by
  refine F.ok sc_law_pick (fun vs H Q E h=>?_) (fun cdv A outer s H vs Q E hr h=>?_)
  · obtain ⟨wl,l,xs,rfl,_⟩:=h
    rfl
  obtain ⟨wl,l,xs,rfl,W,nl,hl,l1,hx,q⟩:=h
  refine ⟨_,(pss_of (qss_cons (qs_if (L2.PW.pt (pw_or (pt_cmpR (op_eqD hr.units) (pv 1) (pe_lst (pa_of qa_nil)) (nomark _)) (pw_or1 (pt_cmpR op_eq (pe_calN C_law_next (hr.mono (by decide)) rfl (pa_of (qa_c (pv 0) (qa_c pe_int qa_nil))) (he:=star_plain _ _ _ rfl) (hpl:=plain_any rfl)) pe_int (nomark _))))) (qss_one (qs_ret (qe_of (pe_calN C_law_name (hr.mono (by decide)) rfl (pa_of (qa_c (pv 0) qa_nil)) (he:=star_plain _ _ _ rfl) (hpl:=plain_any rfl))))) qss_nil) (qss_one (qs_ret (qe_of (pe_ix ix_list (pv 1) (pe_calN C_law_next (hr.mono (by decide)) rfl (pa_of (qa_c (pv 0) (qa_c (pe_callB call_len_seq rfl B.len PySem.boot_len (pa_of (qa_c (pv 1) qa_nil))) qa_nil))) (he:=star_plain _ _ _ rfl) (hpl:=plain_any rfl)) (fun _ _=>rfl))))))),?_⟩
  walk_at "w0"
  refine ⟨Nat.zero_le _,fun p hp=>?_⟩
  have S1:=same_new hp (.lst [])
  have W1:=W.same S1
  refine eqd_nil (S1 _ _ hl) upd_same (n:=0) (by decide) (fun x m=>by obtain ⟨u,rfl,g⟩:=hx x m; exact dt_str (good_str g)) ?_
  generalize upd H p (.lst [])=H1 at *
  have hl1:=S1 _ _ hl
  cases xs with
  | nil =>
    rw [show (([]:List V).isEmpty == true)=true from rfl]
    walk_at "w0"
    exact ⟨wl,rfl,W1,fun u H' g W' B'=>q u H' g W' ((Same.but S1).trans B')⟩
  | cons x0 xs =>
  rw [show ((x0::xs).isEmpty == true)=false from rfl]
  walk_at "w0"
  refine drw3 W1 (by decide) (by decide) fun r H2 a2 b2 W2 B2=>?_
  walk_at "w0"
  have hl2:=B2 l _ nl hl1
  by_cases c:r=0
  · rw [if_pos c]
    exact ⟨wl,rfl,W2,fun u H' g W' B'=>q u H' g W' ((Same.but S1).trans (B2.trans B'))⟩
  rw [if_neg c]
  refine ⟨_,.inl (SqL.of hl2),?_⟩
  refine drw3 W2 (by simp only [List.length_cons]; omega) (by omega) fun r3 H3 a3 b3 W3 B3=>?_
  obtain ⟨z,mz,ez⟩:=at_memV (xs:=x0::xs) a3 (by first | exact b3 | (simp only [List.length_cons] at b3 ⊢; omega))
  obtain ⟨u,rfl,g⟩:=hx z mz
  refine ixl (SqL.of (B3 l _ nl hl2)) ez ?_
  exact q u H3 g W3 ((Same.but S1).trans (B2.trans B3))
theorem ok_is_whole_between (B:Bt K mg a) (C_is_whole:CalX P w K mg base "is_whole" ["thing"] 1 (sp_is_whole K a)) (F:Fun K "is_whole_between" "is_whole_between" s_is_whole_between f fd):FnOk P w K mg base CX0 2 f fd ["thing","least","most"] (sp_is_whole_between K a):=by
  refine F.ok sc_is_whole_between (fun vs H Q E h=>?_) (fun cdv A outer s H vs Q E hr h=>?_)
  · obtain ⟨x,lo,hi,rfl,_⟩:=h
    rfl
  obtain ⟨x,lo,hi,rfl,ox,q⟩:=h
  refine ⟨_,(pss_of (qss_one (qs_ret (qe_of (pe_and (pe_calN C_is_whole (hr.mono (by decide)) rfl (pa_of (qa_c (pv 0) qa_nil)) (he:=star_plain _ _ _ rfl) (hpl:=plain_any rfl)) (pe_and (pe_cmpR op_le (pv 1) (pv 0) (nomark _)) (pe_one (pe_cmpR op_le (pv 0) (pv 2) (nomark _))))))))),?_⟩
  walk_at "w0"
  refine ⟨x,rfl,ox,?_⟩
  cases x <;> simp_all [wholeV,betwV]
  split <;> simp_all
theorem ok_is_minute_of_day (B:Bt K mg a) (C_is_whole_between:CalX P w K mg base "is_whole_between" ["thing","least","most"] 2 (sp_is_whole_between K a)) (F:Fun K "is_minute_of_day" "is_minute_of_day" s_is_minute_of_day f fd):FnOk P w K mg base CX0 3 f fd ["thing"] (sp_is_minute_of_day K a):=by
  refine F.ok sc_is_minute_of_day (fun vs H Q E h=>?_) (fun cdv A outer s H vs Q E hr h=>?_)
  · obtain ⟨i,rfl,_⟩:=h
    rfl
  obtain ⟨i,rfl,i0,i1,q⟩:=h
  refine ⟨_,(pss_of (qss_one (qs_ret (qe_of (pe_calN C_is_whole_between (hr.mono (by decide)) rfl (pa_of (qa_c (pv 0) (qa_c pe_int (qa_c (pe_op op_sub (pe_glob (v:=.int 1440) rfl B.MINUTES_OF_DAY ⟨_,rfl⟩) pe_int) qa_nil)))) (he:=star_plain _ _ _ rfl) (hpl:=plain_any rfl)))))),?_⟩
  have e:betwV (.int i) 0 (1440 - 1)=true:=by simp only [betwV,Bool.and_eq_true,decide_eq_true_eq]; omega
  walk_at "w0"
  refine ⟨_,_,_,rfl,⟨_,.int i,by kernel_rfl,by kernel_rfl⟩,?_⟩
  rw [e]
  exact q
theorem ok_is_quiet_hours (B:Bt K mg a) (C_is_minute_of_day:CalX P w K mg base "is_minute_of_day" ["thing"] 3 (sp_is_minute_of_day K a)) (F:Fun K "is_quiet_hours" "is_quiet_hours" s_is_quiet_hours f fd):FnOk P w K mg base CX0 4 f fd ["thing"] (sp_is_quiet_hours K a):=by
  refine F.ok sc_is_quiet_hours (fun vs H Q E h=>?_) (fun cdv A outer s H vs Q E hr h=>?_)
  · obtain ⟨x,rfl,_⟩:=h
    rfl
  obtain ⟨x,rfl,hx,q⟩:=h
  refine ⟨_,(pss_of (qss_cons (qs_if (pt_cmp (pc_isN (pv 0))) (qss_one (qs_ret (qe_of pe_bl))) qss_nil) (qss_cons (qs_if (L2.PW.pt (pw_or (pt_not (pt_val (pe_callB (isiG_at (K:=K) (T:="tuple") rfl) rfl B.isinstance PyProof.Rows.boot_isinstance (pa_of (qa_c (pv 0) (qa_c (pe_bltn (v:=.ty "tuple") rfl B.tuple PyProof.Rows.boot_tuple rfl) qa_nil))) (he:=star_plain _ _ _ rfl) (hpl:=plain_any rfl)))) (pw_or1 (pt_cmpR op_ne (pe_callB call_len_seq rfl B.len PySem.boot_len (pa_of (qa_c (pv 0) qa_nil))) pe_int (nomark _))))) (qss_one (qs_ret (qe_of pe_bl))) qss_nil) (qss_one (qs_ret (qe_of (pe_and (pe_calN C_is_minute_of_day (hr.mono (by decide)) rfl (pa_of (qa_c (pe_ix ix_tup (pv 0) pe_int (fun _ _=>rfl)) qa_nil)) (he:=star_plain _ _ _ rfl) (hpl:=plain_any rfl)) (pe_and (pe_calN C_is_minute_of_day (hr.mono (by decide)) rfl (pa_of (qa_c (pe_ix ix_tup (pv 0) pe_int (fun _ _=>rfl)) qa_nil)) (he:=star_plain _ _ _ rfl) (hpl:=plain_any rfl)) (pe_one (pe_cmpR op_ne (pe_ix ix_tup (pv 0) pe_int (fun _ _=>rfl)) (pe_ix ix_tup (pv 0) pe_int (fun _ _=>rfl)) (nomark _))))))))))),?_⟩
  rcases hx with rfl | ⟨hp,s,e,rfl,hh,s0,s1,e0,e1,ne⟩
  · exists decide_true
    exact q
  · walk_at "w0"
    refine ⟨_,_,true,rfl,.tup hh,by kernel_rfl,?_⟩
    exists Bool.not_true
    refine ⟨_,.inr (SqT.of hh),?_⟩
    rw [if_neg (by simp)]
    refine ixt (SqT.of hh) (v:=.int s) rfl ?_
    walk_at "w0"
    refine ⟨s,rfl,s0,s1,?_⟩
    walk_at "w0"
    refine ixt (SqT.of hh) (v:=.int e) rfl ?_
    walk_at "w0"
    refine ⟨e,rfl,e0,e1,?_⟩
    walk_at "w0"
    refine ixt (SqT.of hh) (v:=.int s) rfl ?_
    walk_at "w0"
    refine ixt (SqT.of hh) (v:=.int e) rfl ?_
    exists decide_eq_false ne,Bool.not_false
    exact q
theorem ok_check_zone (B:Bt K mg a) (C_is_whole_between:CalX P w K mg base "is_whole_between" ["thing","least","most"] 2 (sp_is_whole_between K a)) (F:Fun K "check_zone" "check_zone" s_check_zone f fd):FnOk P w K mg base CX0 3 f fd ["zone"] (sp_check_zone K a):=by
  refine F.ok sc_check_zone (fun vs H Q E h=>?_) (fun cdv A outer s H vs Q E hr h=>?_)
  · obtain ⟨z,rfl,_⟩:=h
    rfl
  obtain ⟨z,rfl,z0,z1,q⟩:=h
  refine ⟨_,(pss_of (qss_one (qs_if (pt_not (pt_val (pe_calN C_is_whole_between (hr.mono (by decide)) rfl (pa_of (qa_c (pv 0) (qa_c (pe_op op_sub pe_int (pe_glob (v:=.int 1440) rfl B.MINUTES_OF_DAY ⟨_,rfl⟩)) (qa_c (pe_op op_sub (pe_glob (v:=.int 1440) rfl B.MINUTES_OF_DAY ⟨_,rfl⟩) pe_int) qa_nil)))) (he:=star_plain _ _ _ rfl) (hpl:=plain_any rfl)))) (qss_of pss_never) qss_nil))),?_⟩
  have e:betwV (.int z) (1 - 1440) (1440 - 1)=true:=by simp only [betwV,Bool.and_eq_true,decide_eq_true_eq]; omega
  walk_at "w0"
  refine ⟨_,_,_,rfl,⟨_,.int z,by kernel_rfl,by kernel_rfl⟩,?_⟩
  exists e,Bool.not_true
  exact q
theorem ok_check_quiet (B:Bt K mg a) (C_is_quiet_hours:CalX P w K mg base "is_quiet_hours" ["thing"] 4 (sp_is_quiet_hours K a)) (F:Fun K "check_quiet" "check_quiet" s_check_quiet f fd):FnOk P w K mg base CX0 5 f fd ["quiet"] (sp_check_quiet K a):=by
  refine F.ok sc_check_quiet (fun vs H Q E h=>?_) (fun cdv A outer s H vs Q E hr h=>?_)
  · obtain ⟨x,rfl,_⟩:=h
    rfl
  obtain ⟨x,rfl,hx,q⟩:=h
  refine ⟨_,(pss_of (qss_one (qs_if (pt_not (pt_val (pe_calN C_is_quiet_hours (hr.mono (by decide)) rfl (pa_of (qa_c (pv 0) qa_nil)) (he:=star_plain _ _ _ rfl) (hpl:=plain_any rfl)))) (qss_of pss_never) qss_nil))),?_⟩
  walk_at "w0"
  refine ⟨_,rfl,hx,?_⟩
  exists Bool.not_true
  exact q
theorem ok_check_minute_of_hour (B:Bt K mg a) (C_is_whole_between:CalX P w K mg base "is_whole_between" ["thing","least","most"] 2 (sp_is_whole_between K a)) (F:Fun K "check_minute_of_hour" "check_minute_of_hour" s_check_minute_of_hour f fd):FnOk P w K mg base CX0 3 f fd ["minute"] (sp_check_minute_of_hour K a):=by
  refine F.ok sc_check_minute_of_hour (fun vs H Q E h=>?_) (fun cdv A outer s H vs Q E hr h=>?_)
  · obtain ⟨i,rfl,_⟩:=h
    rfl
  obtain ⟨i,rfl,i0,i1,q⟩:=h
  refine ⟨_,(pss_of (qss_one (qs_if (pt_not (pt_val (pe_calN C_is_whole_between (hr.mono (by decide)) rfl (pa_of (qa_c (pv 0) (qa_c pe_int (qa_c (pe_op op_sub (pe_glob (v:=.int 60) rfl B.MINUTES_OF_HOUR ⟨_,rfl⟩) pe_int) qa_nil)))) (he:=star_plain _ _ _ rfl) (hpl:=plain_any rfl)))) (qss_of pss_never) qss_nil))),?_⟩
  have e:betwV (.int i) 0 (60 - 1)=true:=by simp only [betwV,Bool.and_eq_true,decide_eq_true_eq]; omega
  walk_at "w0"
  refine ⟨_,_,_,rfl,⟨_,.int i,by kernel_rfl,by kernel_rfl⟩,?_⟩
  exists e
  exact q
theorem ok_Hour___init__ (B:Bt K mg a) (C_check_minute_of_hour:CalX P w K mg base "check_minute_of_hour" ["minute"] 3 (sp_check_minute_of_hour K a)) (F:Fun K "__init__" "Hour.__init__" s_Hour___init__ f fd):FnOk P w K mg base CX0 4 f fd ["self","minute"] (sp_Hour___init__ K a):=by
  refine F.ok sc_Hour___init__ (fun vs H Q E h=>?_) (fun cdv A outer s H vs Q E hr h=>?_)
  · obtain ⟨p,dx,i,rfl,_⟩:=h
    rfl
  obtain ⟨p,dx,i,rfl,hp,i0,i1,q⟩:=h
  refine ⟨_,(pss_of (qss_cons (qs_of (ps_expr (pe_calN C_check_minute_of_hour (hr.mono (by decide)) rfl (pa_of (qa_c (pv 1) qa_nil)) (he:=star_plain _ _ _ rfl) (hpl:=plain_any rfl)))) (qss_one (qs_of (ps_fld (pv 0) (pv 1) rfl))))),?_⟩
  walk_at "w0"
  refine ⟨i,rfl,i0,i1,?_⟩
  walk_at "w0"
  exact ⟨_,_,_,hp,B.ck_Hour.cl,B.na_Hour_minute,by decide,q⟩
theorem ok_check_wake (B:Bt K mg a) (C_is_whole_from:CalX P w K mg base "is_whole_from" ["thing","least"] 2 (sp_is_whole_from K a)) (F:Fun K "check_wake" "check_wake" s_check_wake f fd):FnOk P w K mg base CX0 3 f fd ["wake","quiet"] (sp_check_wake K a):=by
  refine F.ok sc_check_wake (fun vs H Q E h=>?_) (fun cdv A outer s H vs Q E hr h=>?_)
  · obtain ⟨k,qq,rfl,_⟩:=h
    rfl
  obtain ⟨k,qq,rfl,hw,q⟩:=h
  refine ⟨_,(pss_of (qss_cons (qs_if (pt_cmp (pc_isN (pv 0))) (qss_one (qs_of ps_retN)) qss_nil) (qss_one (qs_if (L2.PW.pt (pw_or (pt_cmp (pc_isN (pv 1))) (pw_or1 (pt_not (pt_val (pe_calN C_is_whole_from (hr.mono (by decide)) rfl (pa_of (qa_c (pv 0) (qa_c pe_int qa_nil))) (he:=star_plain _ _ _ rfl) (hpl:=plain_any rfl))))))) (qss_of pss_never) qss_nil)))),?_⟩
  rcases hw with rfl | ⟨n,rfl,n0,nq⟩
  · exists decide_true
    exact q
  · have fb:fromV (.int n) 0=true:=decide_eq_true n0
    walk_at "w0"
    rw [if_neg nq]
    refine ⟨_,_,rfl,⟨_,.int n,by kernel_rfl,by kernel_rfl⟩,?_⟩
    exists fb,Bool.not_true
    exact q
theorem ok_check_lines (B:Bt K mg a)  (F:Fun K "check_lines" "check_lines" s_check_lines f fd):FnOk P w K mg base CX0 1 f fd ["lines"] (sp_check_lines K a):=by
  refine F.ok sc_check_lines (fun vs H Q E h=>?_) (fun cdv A outer s H vs Q E hr h=>?_)
  · obtain ⟨lp,xs,Ls,Z,rfl,_⟩:=h
    rfl
  obtain ⟨lp,xs,Ls,Z,rfl,hl,hA,l100,q⟩:=h
  refine ⟨_,(pss_of (qss_cons (qs_if (pt_cmp (pc_isN (pv 0))) (qss_one (qs_of ps_retN)) qss_nil) (qss_one (qs_if (L2.PW.pt (pw_or (pt_not (pt_val (pe_callB (isiG_at (K:=K) (T:="list") rfl) rfl B.isinstance PyProof.Rows.boot_isinstance (pa_of (qa_c (pv 0) (qa_c (pe_bltn (v:=.ty "list") rfl B.list PyProof.Rows.boot_list rfl) qa_nil))) (he:=star_plain _ _ _ rfl) (hpl:=plain_any rfl)))) (pw_or1 (pt_not (pt_val (pe_callB (call_all rfl) rfl B.all PyProof.Rows.boot_all (pa_of (qa_c (pe_compB ["line"] [none] rfl (by kernel_rfl) (pi_list (pv 0)) (fun cl C s H fp=>⟨(pg_name (i:=0) (by decide:List.Nodup (["line"]:List Str)) rfl (Or.inl (by kernel_rfl)) (Or.inr (by kernel_rfl))),pts_nil,(pe_callB (isiV_at (K:=K) rfl) (gl_of (by kernel_rfl)) B.isinstance PyProof.Rows.boot_isinstance (pa_of (qa_c (pv 0 (hv:=Or.inl (by kernel_rfl))) (qa_c (pe_glob (v:=.ref _) (gl_of (by kernel_rfl)) B.Line rfl) qa_nil))) (he:=star_plain _ _ _ rfl) (hpl:=plain_any rfl))⟩)) qa_nil)) (he:=star_plain _ _ _ rfl) (hpl:=plain_any rfl))))))) (qss_of pss_never) qss_nil)))),?_⟩
  walk_at "w0"
  refine ⟨_,_,true,rfl,.lst hl,by kernel_rfl,?_⟩
  exists Bool.not_true
  refine ⟨⟨xs,SqL.of hl⟩,?_⟩
  refine CompL.by (xs:=xs) (fun i acc σ H'=>acc=((xs.take i).map fun _=>true).map V.bl∧(∃ v,σ=[v])∧H'=H) (sz8 (by omega)) ⟨rfl,⟨_,rfl⟩,rfl⟩ (fun i acc σ H' _ h=>by rw [h.2.2]; exact SqL.of hl) ?_ ?_ ?_
  · rintro i y acc σ H' hy ⟨rfl,⟨v,rfl⟩,rfl⟩
    have ea:((xs.take i).map fun _=>true).map V.bl++[V.bl true]=((xs.take (i+1)).map fun _=>true).map V.bl:=by
      rw [List.take_succ,hy,List.map_append,List.map_append]
      rfl
    obtain ⟨L,_,p,dl,vf,yp,lr,dy,rfl,h1,_⟩:=hA.get hy
    walk_at "w0"
    refine ⟨_,_,_,true,rfl,B.ck_Line.ty h1,B.is_Line_Line,?_⟩
    first | exact ⟨ea,⟨_,rfl⟩,rfl⟩ | exact ea | exact ⟨ea,rfl⟩
  · rintro i acc σ H' ⟨rfl,_,_⟩
    rw [List.length_map,List.length_map,List.length_take]
    omega
  · rintro acc σ H' ⟨rfl,⟨v,rfl⟩,rfl⟩ D hD
    rw [List.take_length]
    have S2:=same_new hD (.lst ((xs.map fun _=>true).map V.bl))
    refine ⟨D,rfl,_,SqL.of upd_same,?_⟩
    have ha:(xs.map fun _=>true).all id=true:=by rw [List.all_map,List.all_eq_true]; intro _ _; rfl
    generalize upd H' D (.lst ((xs.map fun _=>true).map V.bl))=H2 at *
    exists ha,Bool.not_true
    exact q _ S2
theorem lfs (f y r s z:V):putF ("fit":Str) f []=([("fit",f)]:List (Str × V))∧putF ("way":Str) y ([("fit",f)]:List (Str × V))=([("fit",f),("way",y)]:List (Str × V))∧putF ("roads":Str) r ([("fit",f),("way",y)]:List (Str × V))=([("fit",f),("way",y),("roads",r)]:List (Str × V))∧putF ("sure":Str) s ([("fit",f),("way",y),("roads",r)]:List (Str × V))=([("fit",f),("way",y),("roads",r),("sure",s)]:List (Str × V))∧putF ("raised":Str) z ([("fit",f),("way",y),("roads",r),("sure",s)]:List (Str × V))=lFs f y r s z:=by
  refine ⟨rfl,putF_new fun q hq=>?_,putF_new fun q hq=>?_,putF_new fun q hq=>?_,putF_new fun q hq=>?_⟩
  · simp only [List.mem_cons,List.not_mem_nil,or_false] at hq
    rcases hq with rfl <;> (dsimp only; decide)
  · simp only [List.mem_cons,List.not_mem_nil,or_false] at hq
    rcases hq with rfl | rfl <;> (dsimp only; decide)
  · simp only [List.mem_cons,List.not_mem_nil,or_false] at hq
    rcases hq with rfl | rfl | rfl <;> (dsimp only; decide)
  · simp only [List.mem_cons,List.not_mem_nil,or_false] at hq
    rcases hq with rfl | rfl | rfl | rfl <;> (dsimp only; decide)
theorem wfs (z q k l:V):putF ("zone":Str) z []=([("zone",z)]:List (Str × V))∧putF ("quiet":Str) q ([("zone",z)]:List (Str × V))=([("zone",z),("quiet",q)]:List (Str × V))∧putF ("wake":Str) k ([("zone",z),("quiet",q)]:List (Str × V))=([("zone",z),("quiet",q),("wake",k)]:List (Str × V))∧putF ("lines":Str) l ([("zone",z),("quiet",q),("wake",k)]:List (Str × V))=wFs z q k l:=by
  refine ⟨rfl,putF_new fun q hq=>?_,putF_new fun q hq=>?_,putF_new fun q hq=>?_⟩
  · simp only [List.mem_cons,List.not_mem_nil,or_false] at hq
    rcases hq with rfl <;> (dsimp only; decide)
  · simp only [List.mem_cons,List.not_mem_nil,or_false] at hq
    rcases hq with rfl | rfl <;> (dsimp only; decide)
  · simp only [List.mem_cons,List.not_mem_nil,or_false] at hq
    rcases hq with rfl | rfl | rfl <;> (dsimp only; decide)
theorem ok_check_by_way (B:Bt K mg a)  (F:Fun K "check_by_way" "check_by_way" s_check_by_way f fd):FnOk P w K mg base CX0 1 f fd ["way","roads","sure","raised"] (sp_check_by_way K a):=by
  refine F.ok sc_check_by_way (fun vs H Q E h=>?_) (fun cdv A outer s H vs Q E hr h=>?_)
  · obtain ⟨yp,rp,dy,rs,rfl,_⟩:=h
    rfl
  obtain ⟨yp,rp,dy,rs,rfl,hw,hr1,q⟩:=h
  refine ⟨_,(pss_of (qss_one (qs_if (pt_not (pt_val (pe_callB (isiV_at (K:=K) rfl) rfl B.isinstance PyProof.Rows.boot_isinstance (pa_of (qa_c (pv 0) (qa_c (pe_glob (v:=.ref _) rfl B.Never rfl) qa_nil))) (he:=star_plain _ _ _ rfl) (hpl:=plain_any rfl)))) (qss_one (qs_if (pt_cmpR op_eq (pe_callB call_len_seq rfl B.len PySem.boot_len (pa_of (qa_c (pv 1) qa_nil))) pe_int (nomark _)) (qss_of pss_never) qss_nil)) (qss_one (qs_if (L2.PW.pt (pw_or (pt_cmpR op_gt (pe_callB call_len_seq rfl B.len PySem.boot_len (pa_of (qa_c (pv 1) qa_nil))) pe_int (nomark _)) (pw_or (pt_val (pv 2)) (pw_or1 (pt_cmp (pc_notN (pv 3))))))) (qss_of pss_never) qss_nil))))),?_⟩
  walk_at "w0"
  rcases hw with ⟨m,hy,ne⟩ | ⟨hy,rfl⟩
  · refine ⟨_,_,_,false,rfl,B.ck_Hour.ty hy,B.is_Hour_Never,?_⟩
    exists Bool.not_false
    refine ⟨_,.inl (SqL.of hr1),?_⟩
    have l0:rs.length≠0:=fun z=>ne (List.eq_nil_of_length_eq_zero z)
    exists List.length_map
    rw [if_neg (by omega)]
    exact q
  · refine ⟨_,_,_,true,rfl,B.ck_Never.ty hy,B.is_Never_Never,?_⟩
    exists Bool.not_true
    refine ⟨_,.inl (SqL.of hr1),?_⟩
    exists List.map_nil,List.length_nil,decide_true,not_true_eq_false
    first | exact q | (rw [if_neg (by decide)]; exists decide_true,not_true_eq_false; first | exact q | (rw [if_neg (fun h=>h rfl)]; exact q))
theorem ok_Line___init__ (B:Bt K mg a) (C_check_by_way:CalX P w K mg base "check_by_way" ["way","roads","sure","raised"] 1 (sp_check_by_way K a)) (C_are_unlike_names:CalX P w K mg base "are_unlike_names" ["thing"] 2 (sp_are_unlike_names K a)) (F:FunA K "__init__" "Line.__init__" s_Line___init__ f fd):FnOk P w K mg base CX0 3 f fd ["self","fit","way","roads","sure","raised"] (sp_Line___init__ K a):=by
  refine FunA.ok F sc_Line___init__ (fun vs H Q E h=>?_) (fun cdv A outer s H vs Q E hr h=>?_)
  · obtain ⟨p,dx,yp,rp,dy,vf,t,rs,rfl,_⟩:=h
    rfl
  obtain ⟨p,dx,yp,rp,dy,vf,t,rs,rfl,hp,hf,hw,hr1,hrs,q⟩:=h
  refine ⟨_,(pss_of (qss_cons (qs_if (pt_not (pt_val (pe_callB (isiV_at (K:=K) rfl) rfl B.isinstance PyProof.Rows.boot_isinstance (pa_of (qa_c (pv 1) (qa_c (pe_glob (v:=.ref _) rfl B.Fit rfl) qa_nil))) (he:=star_plain _ _ _ rfl) (hpl:=plain_any rfl)))) (qss_of pss_never) qss_nil) (qss_cons (qs_if (pt_not (pt_val (pe_callB (isiV_at (K:=K) rfl) rfl B.isinstance PyProof.Rows.boot_isinstance (pa_of (qa_c (pv 2) (qa_c (pe_glob (v:=.ref _) rfl B.Way rfl) qa_nil))) (he:=star_plain _ _ _ rfl) (hpl:=plain_any rfl)))) (qss_of pss_never) qss_nil) (qss_cons (qs_if (pt_not (pt_val (pe_calN C_are_unlike_names (hr.mono (by decide)) rfl (pa_of (qa_c (pv 3) qa_nil)) (he:=star_plain _ _ _ rfl) (hpl:=plain_any rfl)))) (qss_of pss_never) qss_nil) (qss_cons (qs_if (pt_not (pt_val (pe_callB (isiG_at (K:=K) (T:="bool") rfl) rfl B.isinstance PyProof.Rows.boot_isinstance (pa_of (qa_c (pv 4) (qa_c (pe_bltn (v:=.ty "bool") rfl B.bool PyProof.Rows.boot_bool rfl) qa_nil))) (he:=star_plain _ _ _ rfl) (hpl:=plain_any rfl)))) (qss_of pss_never) qss_nil) (qss_cons (qs_if (L2.PW.pt (pw_and (pt_cmp (pc_notN (pv 5))) (pw_and1 (pt_not (pt_val (pe_callB (isiV_at (K:=K) rfl) rfl B.isinstance PyProof.Rows.boot_isinstance (pa_of (qa_c (pv 5) (qa_c (pe_glob (v:=.ref _) rfl B.Raised rfl) qa_nil))) (he:=star_plain _ _ _ rfl) (hpl:=plain_any rfl))))))) (qss_of pss_never) qss_nil) (qss_cons (qs_of (ps_expr (pe_calN C_check_by_way (hr.mono (by decide)) rfl (pa_of (qa_c (pv 2) (qa_c (pv 3) (qa_c (pv 4) (qa_c (pv 5) qa_nil))))) (he:=star_plain _ _ _ rfl) (hpl:=plain_any rfl)))) (qss_cons (qs_of (ps_fld (pv 0) (pv 1) rfl)) (qss_cons (qs_of (ps_fld (pv 0) (pv 2) rfl)) (qss_cons (qs_of (ps_fld (pv 0) (pe_callTy call_list_of rfl B.list PyProof.Rows.boot_list (pa_of (qa_c (pv 3) qa_nil))) rfl)) (qss_cons (qs_of (ps_fld (pv 0) (pv 4) rfl)) (qss_one (qs_of (ps_fld (pv 0) (pv 5) rfl)))))))))))))),?_⟩
  obtain ⟨pf,dxf,fs,rfl,hpf,_⟩:=hf.ins
  have hk:ClsK K (t.cls (fc a))∧PySem.W.kitOne K (.ref (t.cls (fc a))) (.ref a.Fit)=some true:=by
    cases t with
    | any=>exact ⟨B.ck_Any,B.is_Any_Fit⟩
    | kind us=>exact ⟨B.ck_Kind,B.is_Kind_Fit⟩
    | place us=>exact ⟨B.ck_Place,B.is_Place_Fit⟩
    | weight n=>exact ⟨B.ck_Least,B.is_Least_Fit⟩
    | not t=>exact ⟨B.ck_Not,B.is_Not_Fit⟩
    | both ts=>exact ⟨B.ck_Both,B.is_Both_Fit⟩
    | either ts=>exact ⟨B.ck_Either,B.is_Either_Fit⟩
  have wy:∃ tw,TyOf K H (.ref yp) tw∧PySem.W.kitOne K tw (.ref a.Way)=some true:=by
    rcases hw with ⟨m,hy,_⟩ | ⟨hy,_⟩
    · exact ⟨_,B.ck_Hour.ty hy,B.is_Hour_Way⟩
    · exact ⟨_,B.ck_Never.ty hy,B.is_Never_Way⟩
  obtain ⟨tw,tyw,ew⟩:=wy
  have nmB:namesB (rs.map V.str)=true∧(∀ z∈rs.map V.str,okN H z)∧(rs.map V.str).length≤100:=by
    rcases hrs with rfl | rfl | rfl
    · exact ⟨by decide +kernel,(fun z hz=>by cases hz),by decide⟩
    · refine ⟨by decide +kernel,fun z hz=>?_,by decide⟩
      simp only [List.map_cons,List.map_nil,List.mem_cons,List.not_mem_nil,or_false] at hz
      subst hz
      exact ⟨by decide +kernel,by decide +kernel⟩
    · refine ⟨by decide +kernel,fun z hz=>?_,by decide⟩
      simp only [List.map_cons,List.map_nil,List.mem_cons,List.not_mem_nil,or_false] at hz
      rcases hz with rfl | rfl
      · exact ⟨by decide +kernel,by decide +kernel⟩
      · exact ⟨by decide +kernel,by decide +kernel⟩
  walk_at "w0"
  refine ⟨_,_,_,true,rfl,hk.1.ty hpf,hk.2,?_⟩
  exists Bool.not_true
  refine ⟨_,_,tw,true,rfl,tyw,ew,?_⟩
  exists Bool.not_true
  refine ⟨_,true,rfl,.inl ⟨rp,_,rfl,hr1,nmB.2.2,nmB.2.1,nmB.1.symm⟩,fun H1 S1=>?_⟩
  exists Bool.not_true
  refine ⟨_,_,true,rfl,.bl false,by kernel_rfl,?_⟩
  exists Bool.not_true
  have hw1:(∃ m,H1 yp=some (.ins a.Hour dy [("minute",.int m)])∧rs≠[])∨(H1 yp=some (.ins a.Never dy [])∧rs=[]):=by
    rcases hw with ⟨m,hy,e⟩ | ⟨hy,e⟩
    · exact .inl ⟨m,S1 _ _ hy,e⟩
    · exact .inr ⟨S1 _ _ hy,e⟩
  refine ⟨yp,rp,dy,rs,rfl,hw1,S1 _ _ hr1,?_⟩
  walk_at "w0"
  have nrp:rp≠p:=fun z=>by rw [z,hp] at hr1; cases hr1
  obtain ⟨e1,_⟩:=lfs (.ref pf) (.ref yp) (.ref rp) (.bl false) .non
  refine ⟨_,_,_,S1 _ _ hp,B.ck_Line.cl,B.na_Line_fit,by decide,_,_,_,upd_same,B.ck_Line.cl,B.na_Line_way,by rw [e1]; simp only [List.length_cons,List.length_nil]; decide,?_⟩
  refine ⟨_,.inl (SqL.of (by rw [upd_ne nrp,upd_ne nrp]; exact S1 _ _ hr1)),fun l hl=>?_⟩
  have nlp:l≠p:=fun z=>by rw [z,upd_same] at hl; cases hl
  have hl1:H1 l=none:=by rw [upd_ne nlp,upd_ne nlp] at hl; exact hl
  obtain ⟨e1,e2,e3,e4,e5⟩:=lfs (.ref pf) (.ref yp) (.ref l) (.bl false) .non
  refine ⟨_,_,_,by rw [upd_ne nlp.symm]; exact upd_same,B.ck_Line.cl,B.na_Line_roads,by rw [e1,e2]; simp only [List.length_cons,List.length_nil]; decide,_,_,_,upd_same,B.ck_Line.cl,B.na_Line_sure,by rw [e1,e2,e3]; simp only [List.length_cons,List.length_nil]; decide,_,_,_,upd_same,B.ck_Line.cl,B.na_Line_raised,by rw [e1,e2,e3,e4]; simp only [List.length_cons,List.length_nil]; decide,?_⟩
  refine q l _ (fun b o n e=>?_) ?_
  · rw [upd_ne n,upd_ne n,upd_ne n,upd_ne (ne_of_none (S1 _ _ e) hl1),upd_ne n,upd_ne n]
    exact S1 b o e
  · rw [upd_same,e1,e2,e3,e4,e5]
theorem ok_Wishes___init__ (B:Bt K mg a) (C_check_zone:CalX P w K mg base "check_zone" ["zone"] 3 (sp_check_zone K a)) (C_check_quiet:CalX P w K mg base "check_quiet" ["quiet"] 5 (sp_check_quiet K a)) (C_check_wake:CalX P w K mg base "check_wake" ["wake","quiet"] 3 (sp_check_wake K a)) (C_check_lines:CalX P w K mg base "check_lines" ["lines"] 1 (sp_check_lines K a)) (F:FunA K "__init__" "Wishes.__init__" s_Wishes___init__ f fd):FnOk P w K mg base CX0 6 f fd ["self","zone","quiet","wake","lines"] (sp_Wishes___init__ K a):=by
  refine FunA.ok F sc_Wishes___init__ (fun vs H Q E h=>?_) (fun cdv A outer s H vs Q E hr h=>?_)
  · obtain ⟨p,dx,lp,z,qq,k,xs,Ls,Z,rfl,_⟩:=h
    rfl
  obtain ⟨p,dx,lp,z,qq,k,xs,Ls,Z,rfl,hp,z0,z1,hq,hk,hl,hA,l100,q⟩:=h
  refine ⟨_,(pss_of (qss_cons (qs_of (ps_expr (pe_calN C_check_zone (hr.mono (by decide)) rfl (pa_of (qa_c (pv 1) qa_nil)) (he:=star_plain _ _ _ rfl) (hpl:=plain_any rfl)))) (qss_cons (qs_of (ps_expr (pe_calN C_check_quiet (hr.mono (by decide)) rfl (pa_of (qa_c (pv 2) qa_nil)) (he:=star_plain _ _ _ rfl) (hpl:=plain_any rfl)))) (qss_cons (qs_of (ps_expr (pe_calN C_check_wake (hr.mono (by decide)) rfl (pa_of (qa_c (pv 3) (qa_c (pv 2) qa_nil))) (he:=star_plain _ _ _ rfl) (hpl:=plain_any rfl)))) (qss_cons (qs_of (ps_expr (pe_calN C_check_lines (hr.mono (by decide)) rfl (pa_of (qa_c (pv 4) qa_nil)) (he:=star_plain _ _ _ rfl) (hpl:=plain_any rfl)))) (qss_cons (qs_of (ps_fld (pv 0) (pv 1) rfl)) (qss_cons (qs_of (ps_fld (pv 0) (pv 2) rfl)) (qss_cons (qs_of (ps_fld (pv 0) (pv 3) rfl)) (qss_one (qs_of (ps_fld (pv 0) (pe_ifExp (pt_cmp (pc_isN (pv 4))) (pe_lst (pa_of qa_nil)) (pe_callTy call_list_of rfl B.list PyProof.Rows.boot_list (pa_of (qa_c (pv 4) qa_nil)))) rfl))))))))))),?_⟩
  walk_at "w0"
  refine ⟨z,rfl,z0,z1,?_⟩
  walk_at "w0"
  refine ⟨qq,rfl,hq,?_⟩
  walk_at "w0"
  refine ⟨k,qq,rfl,hk,?_⟩
  walk_at "w0"
  refine ⟨lp,xs,Ls,Z,rfl,hl,hA,l100,fun H1 S1=>?_⟩
  walk_at "w0"
  obtain ⟨e1,e2,e3,e4⟩:=wfs (.int z) qq k .non
  refine ⟨_,_,_,S1 _ _ hp,B.ck_Wishes.cl,B.na_Wishes_zone,by decide,_,_,_,upd_same,B.ck_Wishes.cl,B.na_Wishes_quiet,by rw [e1]; simp only [List.length_cons,List.length_nil]; decide,_,_,_,upd_same,B.ck_Wishes.cl,B.na_Wishes_wake,by rw [e1,e2]; simp only [List.length_cons,List.length_nil]; decide,?_⟩
  have nlq:lp≠p:=fun z=>by rw [z,hp] at hl; cases hl
  refine ⟨_,.inl (SqL.of (by rw [upd_ne nlq,upd_ne nlq,upd_ne nlq]; exact S1 _ _ hl)),fun l' hl'=>?_⟩
  have nlp:l'≠p:=fun z=>by rw [z,upd_same] at hl'; cases hl'
  have hl1:H1 l'=none:=by rw [upd_ne nlp,upd_ne nlp,upd_ne nlp] at hl'; exact hl'
  obtain ⟨f1,f2,f3,f4⟩:=wfs (.int z) qq k (.ref l')
  refine ⟨_,_,_,by rw [upd_ne nlp.symm]; exact upd_same,B.ck_Wishes.cl,B.na_Wishes_lines,by rw [f1,f2,f3]; simp only [List.length_cons,List.length_nil]; decide,?_⟩
  refine q l' _ (fun b o n e=>?_) ?_ ?_
  · rw [upd_ne n,upd_ne (ne_of_none (S1 _ _ e) hl1),upd_ne n,upd_ne n,upd_ne n]
    exact S1 b o e
  · rw [upd_ne nlp]
    exact upd_same
  · rw [upd_same,f1,f2,f3,f4]
theorem ok_Wishes_winning (B:Bt K mg a) (CM_fits_it:∀ C sp,Mm_fits_it K a 3 C sp→CalM P w K mg base C "fits_it" ["self","happening"] 3 sp) (F:Fun K "winning" "Wishes.winning" s_Wishes_winning f fd):FnOk P w K mg base CX0 4 f fd ["self","happening"] (sp_Wishes_winning K a):=by
  refine F.ok sc_Wishes_winning (fun vs H Q E h=>?_) (fun cdv A outer s H vs Q E hr h=>?_)
  · obtain ⟨wp,lp,hp,dh,xs,Ls,k,p,n,rfl,_⟩:=h
    rfl
  obtain ⟨wp,lp,hp,dh,xs,Ls,k,p,n,rfl,hw,hA,l100,hok,hh,q⟩:=h
  refine ⟨_,(pss_of (qss_cons (qs_of (ps_for PassesOwn.never rfl (pi_list (pe_fld (pv 0) rfl)) (pg_name (i:=2) sc_Wishes_winning.nd rfl (Or.inl rfl)) (pss_of (qss_one (qs_if (pt_val (pe_methD (pe_fld (pv 2) rfl) CM_fits_it pass00 (hr.mono (by decide)) (pa_of (qa_c (pv 1) qa_nil)) (hst:=star_plain _ _ _ rfl) (hpl:=plain_any rfl))) (qss_one (qs_ret (qe_of (pv 2)))) qss_nil))))) (qss_one (qs_ret (qe_of pe_non))))),?_⟩
  obtain ⟨dx,z,q0,k0,h1,h2⟩:=hw
  walk_at "w0"
  refine ⟨_,_,_,h1,B.ck_Wishes.cl,B.na_Wishes_lines,.ref lp,rfl,?_⟩
  walk_at "w0"
  refine ⟨⟨_,SqL.of h2⟩,?_⟩
  refine ForL.by (xs:=xs) (fun i σ G=>(∃ v,σ=[some (.ref wp),some (.ref hp),v])∧Same H G∧∀ j < i,∀ L':LI,Ls[j]?=some L'→L'.t.ev k p n=false) ⟨⟨_,rfl⟩,(fun _ _ z=>z),fun j hj=>absurd hj (Nat.not_lt_zero _)⟩ (fun i σ G _ h=>SqL.of (h.2.1 _ _ h2)) ?_ ?_
  · rintro i x σ G hx ⟨⟨v,rfl⟩,SG,bf⟩
    obtain ⟨L,eL,hL0⟩:=hA.get hx
    have hm:=hok L (List.mem_of_getElem? eL)
    obtain ⟨pl,dl,vf,yp,lr,dy,rfl,hl1,hl2,_⟩:=hL0.same SG
    obtain ⟨pv,_,_,rfl,_⟩:=id hl2.ins
    walk_at "w0"
    refine ⟨_,_,_,hl1,B.ck_Line.cl,B.na_Line_fit,.ref pv,rfl,?_⟩
    walk_at "w0"
    refine ft_at (K:=K) hl2 hm.2 hm.1 (SG _ _ hh) fun G2 S2=>?_
    cases hv:L.t.ev k p n with
    | true =>
      walk_at "w0"
      exact q _ _ (SG.trans S2) (.inl ⟨i,L,eL,hx,hv,bf⟩)
    | false =>
      walk_at "w0"
      have bf':∀ j < i+1,∀ L':LI,Ls[j]?=some L'→L'.t.ev k p n=false:=fun j hj L' e=>by
        by_cases c:j=i
        · rw [c,eL] at e
          cases e
          exact hv
        · exact bf j (by omega) L' e
      first | exact ⟨⟨_,rfl⟩,SG.trans S2,bf'⟩ | exact ⟨SG.trans S2,bf'⟩
  · rintro σ G ⟨⟨v,rfl⟩,SG,bf⟩
    walk_at "w0"
    refine q .non _ SG (.inr ⟨rfl,fun L m=>?_⟩)
    obtain ⟨j,hj,rfl⟩:=List.mem_iff_getElem.mp m
    exact bf j (by rw [← hA.len]; exact hj) _ (List.getElem?_eq_getElem hj)
theorem ok_Wishes_line_for (B:Bt K mg a) (CM_winning:∀ C sp,Mm_winning K a C sp→CalM P w K mg base C "winning" ["self","happening"] 4 sp) (F:Fun K "line_for" "Wishes.line_for" s_Wishes_line_for f fd):FnOk P w K mg base CX0 5 f fd ["self","happening"] (sp_Wishes_line_for K a):=by
  refine F.ok sc_Wishes_line_for (fun vs H Q E h=>?_) (fun cdv A outer s H vs Q E hr h=>?_)
  · obtain ⟨wp,lp,hp,dh,xs,Ls,k,p,n,rfl,_⟩:=h
    rfl
  obtain ⟨wp,lp,hp,dh,xs,Ls,k,p,n,rfl,hw,hA,l100,hok,hh,q⟩:=h
  refine ⟨_,(pss_of (qss_cons (qs_set (i:=2) sc_Wishes_line_for.nd rfl (Or.inl rfl) (qe_of (pe_methD (pv 0) CM_winning pass00 (hr.mono (by decide)) (pa_of (qa_c (pv 1) qa_nil)) (hst:=star_plain _ _ _ rfl) (hpl:=plain_any rfl))) (by kernel_rfl)) (qss_cons (qs_if (L2.PW.pt (pw_or (pt_cmp (pc_isN (pv 2))) (pw_or1 (pt_val (pe_callB (isiV_at (K:=K) rfl) rfl B.isinstance PyProof.Rows.boot_isinstance (pa_of (qa_c (pe_fld (pv 2) rfl) (qa_c (pe_glob (v:=.ref _) rfl B.Never rfl) qa_nil))) (he:=star_plain _ _ _ rfl) (hpl:=plain_any rfl)))))) (qss_one (qs_ret (qe_of pe_non))) qss_nil) (qss_one (qs_ret (qe_of (pv 2))))))),?_⟩
  obtain ⟨dx,z,q0,k0,h1,h2⟩:=id hw
  walk_at "w0"
  refine ⟨_,_,_,h1,rfl,_,⟨rfl,rfl⟩,wp,lp,hp,dh,xs,Ls,k,p,n,rfl,hw,hA,l100,hok,hh,fun r G SG won=>?_⟩
  walk_at "w0"
  rcases id won with ⟨i,L,eL,ex,ev,bf⟩ | ⟨rfl,hf⟩
  · obtain ⟨L',eL',hL0⟩:=hA.get ex
    rw [eL] at eL'
    cases eL'
    obtain ⟨pl,dl,vf,yp,lr,dy,rfl,hl1,hl2,hl3⟩:=hL0.same SG
    walk_at "w0"
    refine ⟨_,_,_,hl1,B.ck_Line.cl,B.na_Line_way,.ref yp,rfl,?_⟩
    rcases hl3 with ⟨m,em,hy⟩ | ⟨em,hy⟩
    · refine ⟨_,_,_,false,rfl,B.ck_Hour.ty hy,B.is_Hour_Never,?_⟩
      walk_at "w0"
      exact q _ _ SG (.inl ⟨i,L,_,eL,ex,ev,bf,by rw [em]⟩)
    · refine ⟨_,_,_,true,rfl,B.ck_Never.ty hy,B.is_Never_Never,?_⟩
      walk_at "w0"
      exact q _ _ SG (.inl ⟨i,L,_,eL,ex,ev,bf,by rw [em]⟩)
  · exists decide_true
    exact q _ _ SG (.inr ⟨rfl,hf⟩)
theorem ok_law_number (B:Bt K mg a)  (F:Fun K "_law_number" "_law_number" s_law_number f fd):FnOk P w K mg base CX0 1 f fd ["_law_line","_law_never"] (sp_law_number K a):=by
  refine F.ok sc_law_number (fun vs H Q E h=>?_) (fun cdv A outer s H vs Q E hr h=>?_)
  · obtain ⟨r,nv,rfl,_⟩:=h
    rfl
  obtain ⟨r,nv,rfl,h⟩:=h
  refine ⟨_,(pss_of (qss_cons (qs_if (pt_cmp (pc_isN (pv 0))) (qss_one (qs_ret (qe_of pe_non))) qss_nil) (qss_cons (qs_if (pt_not (pt_val (pe_callB (isiV_at (K:=K) rfl) rfl B.isinstance PyProof.Rows.boot_isinstance (pa_of (qa_c (pv 0) (qa_c (pe_glob (v:=.ref _) rfl B.Line rfl) qa_nil))) (he:=star_plain _ _ _ rfl) (hpl:=plain_any rfl)))) (qss_one (qs_ret (qe_of (pe_un un_neg pe_int)))) qss_nil) (qss_cons (qs_if (pt_val (pe_callB (isiV_at (K:=K) rfl) rfl B.isinstance PyProof.Rows.boot_isinstance (pa_of (qa_c (pe_fld (pv 0) rfl) (qa_c (pe_glob (v:=.ref _) rfl B.Never rfl) qa_nil))) (he:=star_plain _ _ _ rfl) (hpl:=plain_any rfl))) (qss_one (qs_ret (qe_of (pv 1)))) qss_nil) (qss_one (qs_ret (qe_of (pe_fld (pe_fld (pv 0) rfl) rfl)))))))),?_⟩
  walk_at "w0"
  rcases h with ⟨rfl,q⟩ | ⟨L,⟨pl,dl,vf,yp,lr,dy,rfl,hl1,hl2,hl3⟩,q⟩
  · exists decide_true
    exact q
  · walk_at "w0"
    refine ⟨_,_,_,true,rfl,B.ck_Line.ty hl1,B.is_Line_Line,?_⟩
    exists Bool.not_true
    refine ⟨_,_,_,hl1,B.ck_Line.cl,B.na_Line_way,.ref yp,rfl,?_⟩
    rcases hl3 with ⟨m,em,hy⟩ | ⟨em,hy⟩
    · rw [em] at q
      refine ⟨_,_,_,false,rfl,B.ck_Hour.ty hy,B.is_Hour_Never,?_⟩
      walk_at "w0"
      refine ⟨_,_,_,hl1,B.ck_Line.cl,B.na_Line_way,.ref yp,rfl,?_⟩
      walk_at "w0"
      exact ⟨_,_,_,hy,B.ck_Hour.cl,B.na_Hour_minute,.int m,rfl,q⟩
    · rw [em] at q
      refine ⟨_,_,_,true,rfl,B.ck_Never.ty hy,B.is_Never_Never,?_⟩
      walk_at "w0"
      exact q
theorem ok_law_due (B:Bt K mg a) (C_law_fits:CalX P w K mg base "_law_fits" ["_law_tree_here","_law_thing"] 3 (sp_law_fits K a 3)) (F:Fun K "_law_due" "_law_due" s_law_due f fd):FnOk P w K mg base CX0 4 f fd ["_law_trees","_law_order","_law_thing"] (sp_law_due K a):=by
  refine F.ok sc_law_due (fun vs H Q E h=>?_) (fun cdv A outer s H vs Q E hr h=>?_)
  · obtain ⟨tl,ol,x,vs0,ts,os,k,p,n,rfl,_⟩:=h
    rfl
  obtain ⟨tl,ol,x,vs0,ts,os,k,p,n,rfl,htl,hA,l20,hok,hol,hos,o20,hx,q⟩:=h
  refine ⟨_,(pss_of (qss_cons (qs_of (ps_for PassesOwn.never rfl (pi_list (pv 1)) (pg_name (i:=3) sc_law_due.nd rfl (Or.inl rfl)) (pss_of (qss_one (qs_if (pt_val (pe_calN C_law_fits (hr.mono (by decide)) rfl (pa_of (qa_c (pe_ix ix_list (pv 0) (pv 3) (fun _ _=>rfl)) (qa_c (pv 2) qa_nil))) (he:=star_plain _ _ _ rfl) (hpl:=plain_any rfl))) (qss_one (qs_ret (qe_of (pv 3)))) qss_nil))))) (qss_one (qs_ret (qe_of pe_non))))),?_⟩
  walk_at "w0"
  refine ⟨⟨_,SqL.of hol⟩,?_⟩
  refine ForL.by (xs:=os.map fun o=>V.int (o:Nat)) (fun i σ G=>(∃ v,σ=[some (.ref tl),some (.ref ol),some x,v])∧Same H G∧∀ j < i,∀ (o':Nat) (t':Tr),os[j]?=some o'→ts[o']?=some t'→t'.ev k p n=false) ⟨⟨_,rfl⟩,(fun _ _ z=>z),fun j hj=>absurd hj (Nat.not_lt_zero _)⟩ (fun i σ G _ h=>SqL.of (h.2.1 _ _ hol)) ?_ ?_
  · rintro i y σ G hy ⟨⟨v,rfl⟩,SG,bf⟩
    obtain ⟨o,eo,rfl⟩:∃ o,os[i]?=some o∧y=.int (o:Nat):=by
      rw [List.getElem?_map] at hy
      cases hq:os[i]? with
      | none=>rw [hq] at hy; cases hy
      | some m=>rw [hq] at hy; cases hy; exact ⟨m,rfl,rfl⟩
    have ho:=hos o (List.mem_of_getElem? eo)
    have hv:o < vs0.length:=by rw [← hA.len]; exact ho
    obtain ⟨t,et,ht⟩:=hA.get (List.getElem?_eq_getElem hv)
    have hm:=hok t (List.mem_of_getElem? et)
    walk_at "w0"
    refine ixl (SqL.of (SG _ _ htl)) (v:=vs0[o]) (atI_nat (List.getElem?_eq_getElem hv)) ?_
    walk_at "w0"
    refine ⟨_,x,t,k,p,n,by omega,by omega,rfl,ht.same SG,hm.1,hx.same SG,fun G2 S2=>?_⟩
    cases hv:t.ev k p n with
    | true =>
      walk_at "w0"
      exact q _ _ (SG.trans S2) (.inl ⟨i,o,t,eo,et,rfl,hv,bf⟩)
    | false =>
      walk_at "w0"
      have bf':∀ j < i+1,∀ (o':Nat) (t':Tr),os[j]?=some o'→ts[o']?=some t'→t'.ev k p n=false:=fun j hj o' t' e e2=>by
        by_cases c:j=i
        · rw [c,eo] at e
          cases e
          rw [et] at e2
          cases e2
          exact hv
        · exact bf j (by omega) o' t' e e2
      first | exact ⟨⟨_,rfl⟩,SG.trans S2,bf'⟩ | exact ⟨SG.trans S2,bf'⟩
  · rintro σ G ⟨⟨v,rfl⟩,SG,bf⟩
    walk_at "w0"
    refine q .non _ SG (.inr ⟨rfl,fun o m t e=>?_⟩)
    obtain ⟨j,hj,rfl⟩:=List.mem_iff_getElem.mp m
    exact bf j (by rw [List.length_map]; exact hj) _ _ (List.getElem?_eq_getElem hj) e
theorem LsR.get {ts:List Tr}{os:List Nat}{nv:Int}{Ls:List LI}(h:LsR ts os nv Ls) {i o:Nat}(e:os[i]?=some o):∃ L,Ls[i]?=some L∧ts[o]?=some L.t∧L.m=if (o:Int)=nv then none else some (o:Int):=by
  have hi:i < Ls.length:=by rw [h.len]; exact (List.getElem?_eq_some_iff.mp e).1
  obtain ⟨h1,h2⟩:=h.at_ i _ o (List.getElem?_eq_getElem hi) e
  exact ⟨_,List.getElem?_eq_getElem hi,h1,h2⟩
theorem LsR.ord {ts:List Tr}{os:List Nat}{nv:Int}{Ls:List LI}(h:LsR ts os nv Ls) {i:Nat}{L:LI}(e:Ls[i]?=some L):∃ o,os[i]?=some o∧ts[o]?=some L.t∧L.m=if (o:Int)=nv then none else some (o:Int):=by
  have hi:i < os.length:=by rw [← h.len]; exact (List.getElem?_eq_some_iff.mp e).1
  obtain ⟨h1,h2⟩:=h.at_ i L _ e (List.getElem?_eq_getElem hi)
  exact ⟨_,List.getElem?_eq_getElem hi,h1,h2⟩
theorem fst_due {k p:Str}{w:Int}{ts:List Tr}{os:List Nat}{nv:Int}{Ls:List LI}{dv:V}{i:Nat}{L:LI}(hR:LsR ts os nv Ls) (hd:DueR k p w ts os dv) (eL:Ls[i]?=some L) (ev:L.t.ev k p w=true) (bf:∀ j < i,∀ L':LI,Ls[j]?=some L'→L'.t.ev k p w=false) :
    ∃ o:Nat,dv=.int o∧L.m=if (o:Int)=nv then none else some (o:Int):=by
  obtain ⟨o,eo,et,em⟩:=hR.ord eL
  rcases hd with ⟨i2,o2,t2,eo2,et2,rfl,ev2,bf2⟩ | ⟨rfl,hf⟩
  · rcases Nat.lt_trichotomy i i2 with c | c | c
    · have:=bf2 i c o L.t eo et
      rw [ev] at this
      cases this
    · subst c
      rw [eo] at eo2
      cases eo2
      exact ⟨o,rfl,em⟩
    · obtain ⟨L2,eL2,et3,_⟩:=hR.get eo2
      rw [et2] at et3
      have:=bf i2 c L2 eL2
      rw [← Option.some.inj et3,ev2] at this
      cases this
  · have:=hf o (List.mem_of_getElem? eo) L.t et
    rw [ev] at this
    cases this
theorem none_due {k p:Str}{w:Int}{ts:List Tr}{os:List Nat}{nv:Int}{Ls:List LI}{dv:V}(hR:LsR ts os nv Ls) (hd:DueR k p w ts os dv) (hf:∀ L∈Ls,L.t.ev k p w=false):dv=.non:=by
  rcases hd with ⟨i2,o2,t2,eo2,et2,rfl,ev2,bf2⟩ | ⟨rfl,_⟩
  · obtain ⟨L2,eL2,et3,_⟩:=hR.get eo2
    rw [et2] at et3
    have:=hf L2 (List.mem_of_getElem? eL2)
    rw [← Option.some.inj et3,ev2] at this
    cases this
  · rfl
theorem ok_law_lines (B:Bt K mg a) (CD_Line_3:CalD P w K mg base "Line" a.Line ["self","fit","way","roads","sure","raised"] 3 [.bl false,.non] (sp_Line___init__ K a)) (C_law_made:CalX P w K mg base "_law_made" ["_law_tree_here"] 8 (sp_law_made K a 3)) (CC_Hour:CalC P w K mg base "Hour" a.Hour ["self","minute"] 4 (sp_Hour___init__ K a)) (F:Fun K "_law_lines" "_law_lines" s_law_lines f fd):FnOk P w K mg base CX0 9 f fd ["_law_trees","_law_never"] (sp_law_lines K a):=by
  refine F.ok sc_law_lines (fun vs H Q E h=>?_) (fun cdv A outer s H vs Q E hr h=>?_)
  · obtain ⟨tl,nv,vs0,ts,rfl,_⟩:=h
    rfl
  obtain ⟨tl,nv,vs0,ts,rfl,htl,hA,l20,hok,q⟩:=h
  refine ⟨_,(pss_of (qss_cons (qs_set (i:=2) sc_law_lines.nd rfl (Or.inl rfl) (qe_lst qa_nil) (by kernel_rfl)) (qss_cons (qs_of (ps_for PassesOwn.never rfl (pi_range1 rfl B.range (pa_of (qa_c (pe_callB call_len_seq rfl B.len PySem.boot_len (pa_of (qa_c (pv 0) qa_nil))) qa_nil))) (pg_name (i:=3) sc_law_lines.nd rfl (Or.inl rfl)) (pss_of (qss_one (qs_if (pt_cmpR op_eq (pv 3) (pv 1) (nomark _)) (qss_one (qs_of (ps_expr (pe_bm PySem.F.plainAttrs_list PySem.F.slot_list_append PySem.F.type_list_append mt_append (pv 2) (pa_of (qa_c (pe_makD CD_Line_3 pass00 (hr.mono (by decide)) rfl (pa_of (qa_c (pe_calN C_law_made (hr.mono (by decide)) rfl (pa_of (qa_c (pe_ix ix_list (pv 0) (pv 3) (fun _ _=>rfl)) qa_nil)) (he:=star_plain _ _ _ rfl) (hpl:=plain_any rfl)) (qa_c (pe_makN B.mk_Never rfl B.Never) (qa_c (pe_lst (pa_of qa_nil)) qa_nil)))) (he:=star_plain _ _ _ rfl) (hpl:=plain_any rfl)) qa_nil)))))) (qss_one (qs_of (ps_expr (pe_bm PySem.F.plainAttrs_list PySem.F.slot_list_append PySem.F.type_list_append mt_append (pv 2) (pa_of (qa_c (pe_makD CD_Line_3 pass00 (hr.mono (by decide)) rfl (pa_of (qa_c (pe_calN C_law_made (hr.mono (by decide)) rfl (pa_of (qa_c (pe_ix ix_list (pv 0) (pv 3) (fun _ _=>rfl)) qa_nil)) (he:=star_plain _ _ _ rfl) (hpl:=plain_any rfl)) (qa_c (pe_mak CC_Hour pass00 (hr.mono (by decide)) rfl (pa_of (qa_c (pv 3) qa_nil)) (he:=star_plain _ _ _ rfl) (hpl:=plain_any rfl)) (qa_c (pe_slice sl_list (pe_lst (pa_of (qa_c pe_str (qa_c pe_str qa_nil)))) po_none (po_some (pe_op op_add pe_int (pe_op op_mod (pv 3) pe_int)))) qa_nil)))) (he:=star_plain _ _ _ rfl) (hpl:=plain_any rfl)) qa_nil))))))))))) (qss_one (qs_ret (qe_of (pv 2))))))),?_⟩
  walk_at "w0"
  refine ⟨Nat.zero_le _,fun pf hpf=>?_⟩
  have S0:=same_new hpf (.lst [])
  have e0:upd H pf (.lst []) pf=some (.lst []):=upd_same
  generalize upd H pf (.lst [])=H0 at *
  refine ⟨_,.inl (SqL.of (S0 _ _ htl)),?_⟩
  have lv:=hA.len
  refine ⟨by omega,by omega,?_⟩
  refine ForR.by (n:=vs0.length) (fun i σ G=>(∃ c,σ=[some (.ref tl),some (.int nv),some (.ref pf),c])∧(∃ (xs:List V) (Ls:List LI),G pf=some (.lst xs)∧All2 (LnT a (fun l=>H l=none∧l≠pf) G) Ls xs∧Ls.length=i∧∀ (j:Nat) (L:LI),Ls[j]?=some L→ts[j]?=some L.t∧L.m=if (j:Int)=nv then none else some (j:Int))∧Same H G) ⟨⟨_,rfl⟩,⟨[],[],e0,.nil,rfl,fun j L e=>by simp at e⟩,S0⟩ ?_ ?_
  · rintro i σ G hi ⟨⟨c,rfl⟩,⟨xs,Ls,ex,hA2,ll,hm2⟩,SG⟩
    have hv:i < vs0.length:=hi
    obtain ⟨t,et,ht⟩:=hA.get (List.getElem?_eq_getElem hv)
    have hm:=hok t (List.mem_of_getElem? et)
    have i20:i < 20:=by omega
    walk_at "w0"
    by_cases c0:(i:Int)=nv
    · rw [if_pos (by omega)]
      refine ⟨.inl ⟨rfl,_,SqL.of ex⟩,?_⟩
      refine ixl (SqL.of (SG _ _ htl)) (v:=vs0[i]) (by rw [Int.zero_add]; exact atI_nat (List.getElem?_eq_getElem hv)) ?_
      walk_at "w0"
      refine ⟨_,t,by omega,rfl,ht.same SG,hm.1,fun vf J1 Sf hf=>?_⟩
      have hfz:t.Fit (fz a fun l=>H l=none∧l≠pf) J1 vf:=hf.mono fun l z=>⟨SG.free z,fun e=>by have zz:G l=none:=z; rw [e,ex] at zz; cases zz⟩
      walk_at "w0"
      intro yn dyn hyn hdyn neyn
      have Syn:=made_same (o:=.own yn) (o':=.ins a.Never dyn []) hyn hdyn
      have eyn:upd (upd J1 dyn (.own yn)) yn (.ins a.Never dyn []) yn=some (.ins a.Never dyn []):=upd_same
      generalize upd (upd J1 dyn (.own yn)) yn (.ins a.Never dyn [])=J2 at *
      walk_at "w0"
      refine ⟨Nat.zero_le _,fun rn hrn=>?_⟩
      have Srn:=same_new hrn (.lst [])
      have ern:upd J2 rn (.lst []) rn=some (.lst []):=upd_same
      generalize upd J2 rn (.lst [])=J3 at *
      walk_at "w0"
      intro zl dzl hzl hdzl nezl
      have Mzl:=made_same (o:=.own zl) (o':=.ins a.Line dzl []) hzl hdzl
      refine ⟨zl,dzl,yn,rn,dyn,vf,t,[],rfl,upd_same,(fit_tr (hfz.same (Syn.trans Srn))).same Mzl,.inr ⟨Mzl _ _ (Srn _ _ eyn),rfl⟩,Mzl _ _ ern,.inl rfl,fun lzl J4 Bzl ezl=>?_⟩
      have Szl:=made_but hzl hdzl Bzl
      have SG6:=(Sf.trans (Syn.trans (Srn.trans Szl)))
      have ex6:=SG6 _ _ ex
      walk_at "w0"
      refine ⟨pf,_,_,rfl,rfl,ex6,Nat.lt_of_le_of_lt (by rw [← hA2.len]; omega:xs.length≤1000) (by decide),?_⟩
      have BU:But pf J4 (upd J4 pf (.lst (xs++[.ref zl]))):=But.upd _
      have hL:LnT a (fun l=>H l=none∧l≠pf) J4 ⟨t,none⟩ (.ref zl):=⟨zl,_,_,_,_,_,rfl,ezl,hfz.same (Syn.trans (Srn.trans Szl)),.inr ⟨rfl,((Srn.trans Szl) _ _ eyn)⟩⟩
      have hN:All2 (LnT a (fun l=>H l=none∧l≠pf) (upd J4 pf (.lst (xs++[.ref zl])))) (Ls++[⟨t,none⟩]) (xs++[.ref zl]):=(hA2.imp fun L y _ h=>(h.same SG6).but (fun l z=>z.2) ex6 BU).snoc (hL.but (fun l z=>z.2) ex6 BU)
      have hnew:∀ (j:Nat) (L:LI),(Ls++[⟨t,none⟩])[j]?=some L→ts[j]?=some L.t∧L.m=if (j:Int)=nv then none else some (j:Int):=fun j L e=>by
        by_cases c:j < Ls.length
        · rw [List.getElem?_append_left c] at e
          exact hm2 j L e
        · have ej:j=i:=by
            have:=(List.getElem?_eq_some_iff.mp e).1
            rw [List.length_append,List.length_singleton] at this
            omega
          rw [List.getElem?_append_right (by omega),ej,← ll,Nat.sub_self] at e
          cases e
          rw [ej]
          exact ⟨et,by rw [if_pos c0]⟩
      have SF:Same H (upd J4 pf (.lst (xs++[.ref zl]))):=fun b o e=>by rw [upd_ne (ne_of_none e hpf)]; exact SG6 b o (SG b o e)
      have rest:(∃ (ys:List V) (Ks:List LI),upd J4 pf (.lst (xs++[.ref zl])) pf=some (.lst ys)∧All2 (LnT a (fun l=>H l=none∧l≠pf) (upd J4 pf (.lst (xs++[.ref zl])))) Ks ys∧Ks.length=i+1∧∀ (j:Nat) (L:LI),Ks[j]?=some L→ts[j]?=some L.t∧L.m=if (j:Int)=nv then none else some (j:Int))∧Same H (upd J4 pf (.lst (xs++[.ref zl]))):=⟨⟨_,_,upd_same,hN,by rw [List.length_append,ll]; rfl,hnew⟩,SF⟩
      have hlen:(Ls++[(⟨t,none⟩:LI)]).length=i+1:=by rw [List.length_append,ll]; rfl
      first | exact ⟨⟨_,upd_same,_,hN,hlen,hnew⟩,SF⟩ | exact ⟨⟨_,rfl⟩,rest⟩ | exact rest
    · rw [if_neg (by omega)]
      rcases (by omega:(0+(i:Int)) % 2=0∨(0+(i:Int)) % 2=1) with hpar | hpar
      · refine ⟨.inl ⟨rfl,_,SqL.of ex⟩,?_⟩
        refine ixl (SqL.of (SG _ _ htl)) (v:=vs0[i]) (by rw [Int.zero_add]; exact atI_nat (List.getElem?_eq_getElem hv)) ?_
        walk_at "w0"
        refine ⟨_,t,by omega,rfl,ht.same SG,hm.1,fun vf J51 Sf hf=>?_⟩
        have hfz:t.Fit (fz a fun l=>H l=none∧l≠pf) J51 vf:=hf.mono fun l z=>⟨SG.free z,fun e=>by have zz:G l=none:=z; rw [e,ex] at zz; cases zz⟩
        walk_at "w0"
        intro yn dyn hyn hdyn neyn
        have Myn:=made_same (o:=.own yn) (o':=.ins a.Hour dyn []) hyn hdyn
        refine ⟨yn,dyn,_,rfl,upd_same,by omega,by omega,?_⟩
        have Syn:Same J51 (upd (upd (upd J51 dyn (.own yn)) yn (.ins a.Hour dyn [])) yn (.ins a.Hour dyn [("minute",.int (0+(i:Int)))])):=fun b o e=>by rw [upd_ne (ne_of_none e hyn)]; exact Myn b o e
        have eyn:upd (upd (upd J51 dyn (.own yn)) yn (.ins a.Hour dyn [])) yn (.ins a.Hour dyn [("minute",.int (0+(i:Int)))]) yn=some (.ins a.Hour dyn [("minute",.int (0+(i:Int)))]):=upd_same
        generalize upd (upd (upd J51 dyn (.own yn)) yn (.ins a.Hour dyn [])) yn (.ins a.Hour dyn [("minute",.int (0+(i:Int)))])=J52 at *
        walk_at "w0"
        refine ⟨sz8 (by first | decide | (simp only [List.length_cons,List.length_nil]; decide)),fun r0 hr0=>?_⟩
        have Sr0:=same_new hr0 (.lst [.str "mail",.str "pager"])
        have er0:upd J52 r0 (.lst [.str "mail",.str "pager"]) r0=some (.lst [.str "mail",.str "pager"]):=upd_same
        generalize upd J52 r0 (.lst [.str "mail",.str "pager"])=J53 at *
        refine ⟨by decide,?_⟩
        rw [hpar]
        refine ⟨r0,_,rfl,SqL.of er0,fun rn hrn=>?_⟩
        have ecut:cutV [V.str "mail",V.str "pager"] none (some (1+0))=[.str "mail"]:=by first | rfl | decide
        rw [ecut]
        have Srn:=same_new hrn (.lst [.str "mail"])
        have ern:upd J53 rn (.lst [.str "mail"]) rn=some (.lst ((["mail"]:List Str).map V.str)):=upd_same
        generalize upd J53 rn (.lst [.str "mail"])=J54 at *
        walk_at "w0"
        intro zl dzl hzl hdzl nezl
        have Mzl:=made_same (o:=.own zl) (o':=.ins a.Line dzl []) hzl hdzl
        refine ⟨zl,dzl,yn,rn,dyn,vf,t,["mail"],rfl,upd_same,(fit_tr (hfz.same (Syn.trans (Sr0.trans Srn)))).same Mzl,.inl ⟨_,Mzl _ _ ((Sr0.trans Srn) _ _ eyn),by intro z; cases z⟩,Mzl _ _ ern,.inr (.inl rfl),fun lzl J55 Bzl ezl=>?_⟩
        have Szl:=made_but hzl hdzl Bzl
        have SG6:=(Sf.trans (Syn.trans (Sr0.trans (Srn.trans Szl))))
        have ex6:=SG6 _ _ ex
        walk_at "w0"
        refine ⟨pf,_,_,rfl,rfl,ex6,Nat.lt_of_le_of_lt (by rw [← hA2.len]; omega:xs.length≤1000) (by decide),?_⟩
        have BU:But pf J55 (upd J55 pf (.lst (xs++[.ref zl]))):=But.upd _
        have hL:LnT a (fun l=>H l=none∧l≠pf) J55 ⟨t,some (0+(i:Int))⟩ (.ref zl):=⟨zl,_,_,_,_,_,rfl,ezl,hfz.same (Syn.trans (Sr0.trans (Srn.trans Szl))),.inl ⟨_,rfl,((Sr0.trans (Srn.trans Szl)) _ _ eyn)⟩⟩
        have hN:All2 (LnT a (fun l=>H l=none∧l≠pf) (upd J55 pf (.lst (xs++[.ref zl])))) (Ls++[⟨t,some (0+(i:Int))⟩]) (xs++[.ref zl]):=(hA2.imp fun L y _ h=>(h.same SG6).but (fun l z=>z.2) ex6 BU).snoc (hL.but (fun l z=>z.2) ex6 BU)
        have hnew:∀ (j:Nat) (L:LI),(Ls++[⟨t,some (0+(i:Int))⟩])[j]?=some L→ts[j]?=some L.t∧L.m=if (j:Int)=nv then none else some (j:Int):=fun j L e=>by
          by_cases c:j < Ls.length
          · rw [List.getElem?_append_left c] at e
            exact hm2 j L e
          · have ej:j=i:=by
              have:=(List.getElem?_eq_some_iff.mp e).1
              rw [List.length_append,List.length_singleton] at this
              omega
            rw [List.getElem?_append_right (by omega),ej,← ll,Nat.sub_self] at e
            cases e
            rw [ej]
            exact ⟨et,by rw [if_neg c0]; exact congrArg some (by omega)⟩
        have SF:Same H (upd J55 pf (.lst (xs++[.ref zl]))):=fun b o e=>by rw [upd_ne (ne_of_none e hpf)]; exact SG6 b o (SG b o e)
        have rest:(∃ (ys:List V) (Ks:List LI),upd J55 pf (.lst (xs++[.ref zl])) pf=some (.lst ys)∧All2 (LnT a (fun l=>H l=none∧l≠pf) (upd J55 pf (.lst (xs++[.ref zl])))) Ks ys∧Ks.length=i+1∧∀ (j:Nat) (L:LI),Ks[j]?=some L→ts[j]?=some L.t∧L.m=if (j:Int)=nv then none else some (j:Int))∧Same H (upd J55 pf (.lst (xs++[.ref zl]))):=⟨⟨_,_,upd_same,hN,by rw [List.length_append,ll]; rfl,hnew⟩,SF⟩
        have hlen:(Ls++[(⟨t,some (0+(i:Int))⟩:LI)]).length=i+1:=by rw [List.length_append,ll]; rfl
        first | exact ⟨⟨_,upd_same,_,hN,hlen,hnew⟩,SF⟩ | exact ⟨⟨_,rfl⟩,rest⟩ | exact rest
      · refine ⟨.inl ⟨rfl,_,SqL.of ex⟩,?_⟩
        refine ixl (SqL.of (SG _ _ htl)) (v:=vs0[i]) (by rw [Int.zero_add]; exact atI_nat (List.getElem?_eq_getElem hv)) ?_
        walk_at "w0"
        refine ⟨_,t,by omega,rfl,ht.same SG,hm.1,fun vf J51 Sf hf=>?_⟩
        have hfz:t.Fit (fz a fun l=>H l=none∧l≠pf) J51 vf:=hf.mono fun l z=>⟨SG.free z,fun e=>by have zz:G l=none:=z; rw [e,ex] at zz; cases zz⟩
        walk_at "w0"
        intro yn dyn hyn hdyn neyn
        have Myn:=made_same (o:=.own yn) (o':=.ins a.Hour dyn []) hyn hdyn
        refine ⟨yn,dyn,_,rfl,upd_same,by omega,by omega,?_⟩
        have Syn:Same J51 (upd (upd (upd J51 dyn (.own yn)) yn (.ins a.Hour dyn [])) yn (.ins a.Hour dyn [("minute",.int (0+(i:Int)))])):=fun b o e=>by rw [upd_ne (ne_of_none e hyn)]; exact Myn b o e
        have eyn:upd (upd (upd J51 dyn (.own yn)) yn (.ins a.Hour dyn [])) yn (.ins a.Hour dyn [("minute",.int (0+(i:Int)))]) yn=some (.ins a.Hour dyn [("minute",.int (0+(i:Int)))]):=upd_same
        generalize upd (upd (upd J51 dyn (.own yn)) yn (.ins a.Hour dyn [])) yn (.ins a.Hour dyn [("minute",.int (0+(i:Int)))])=J52 at *
        walk_at "w0"
        refine ⟨sz8 (by first | decide | (simp only [List.length_cons,List.length_nil]; decide)),fun r0 hr0=>?_⟩
        have Sr0:=same_new hr0 (.lst [.str "mail",.str "pager"])
        have er0:upd J52 r0 (.lst [.str "mail",.str "pager"]) r0=some (.lst [.str "mail",.str "pager"]):=upd_same
        generalize upd J52 r0 (.lst [.str "mail",.str "pager"])=J53 at *
        refine ⟨by decide,?_⟩
        rw [hpar]
        refine ⟨r0,_,rfl,SqL.of er0,fun rn hrn=>?_⟩
        have ecut:cutV [V.str "mail",V.str "pager"] none (some (1+1))=[.str "mail",.str "pager"]:=by first | rfl | decide
        rw [ecut]
        have Srn:=same_new hrn (.lst [.str "mail",.str "pager"])
        have ern:upd J53 rn (.lst [.str "mail",.str "pager"]) rn=some (.lst ((["mail","pager"]:List Str).map V.str)):=upd_same
        generalize upd J53 rn (.lst [.str "mail",.str "pager"])=J54 at *
        walk_at "w0"
        intro zl dzl hzl hdzl nezl
        have Mzl:=made_same (o:=.own zl) (o':=.ins a.Line dzl []) hzl hdzl
        refine ⟨zl,dzl,yn,rn,dyn,vf,t,["mail","pager"],rfl,upd_same,(fit_tr (hfz.same (Syn.trans (Sr0.trans Srn)))).same Mzl,.inl ⟨_,Mzl _ _ ((Sr0.trans Srn) _ _ eyn),by intro z; cases z⟩,Mzl _ _ ern,.inr (.inr rfl),fun lzl J55 Bzl ezl=>?_⟩
        have Szl:=made_but hzl hdzl Bzl
        have SG6:=(Sf.trans (Syn.trans (Sr0.trans (Srn.trans Szl))))
        have ex6:=SG6 _ _ ex
        walk_at "w0"
        refine ⟨pf,_,_,rfl,rfl,ex6,Nat.lt_of_le_of_lt (by rw [← hA2.len]; omega:xs.length≤1000) (by decide),?_⟩
        have BU:But pf J55 (upd J55 pf (.lst (xs++[.ref zl]))):=But.upd _
        have hL:LnT a (fun l=>H l=none∧l≠pf) J55 ⟨t,some (0+(i:Int))⟩ (.ref zl):=⟨zl,_,_,_,_,_,rfl,ezl,hfz.same (Syn.trans (Sr0.trans (Srn.trans Szl))),.inl ⟨_,rfl,((Sr0.trans (Srn.trans Szl)) _ _ eyn)⟩⟩
        have hN:All2 (LnT a (fun l=>H l=none∧l≠pf) (upd J55 pf (.lst (xs++[.ref zl])))) (Ls++[⟨t,some (0+(i:Int))⟩]) (xs++[.ref zl]):=(hA2.imp fun L y _ h=>(h.same SG6).but (fun l z=>z.2) ex6 BU).snoc (hL.but (fun l z=>z.2) ex6 BU)
        have hnew:∀ (j:Nat) (L:LI),(Ls++[⟨t,some (0+(i:Int))⟩])[j]?=some L→ts[j]?=some L.t∧L.m=if (j:Int)=nv then none else some (j:Int):=fun j L e=>by
          by_cases c:j < Ls.length
          · rw [List.getElem?_append_left c] at e
            exact hm2 j L e
          · have ej:j=i:=by
              have:=(List.getElem?_eq_some_iff.mp e).1
              rw [List.length_append,List.length_singleton] at this
              omega
            rw [List.getElem?_append_right (by omega),ej,← ll,Nat.sub_self] at e
            cases e
            rw [ej]
            exact ⟨et,by rw [if_neg c0]; exact congrArg some (by omega)⟩
        have SF:Same H (upd J55 pf (.lst (xs++[.ref zl]))):=fun b o e=>by rw [upd_ne (ne_of_none e hpf)]; exact SG6 b o (SG b o e)
        have rest:(∃ (ys:List V) (Ks:List LI),upd J55 pf (.lst (xs++[.ref zl])) pf=some (.lst ys)∧All2 (LnT a (fun l=>H l=none∧l≠pf) (upd J55 pf (.lst (xs++[.ref zl])))) Ks ys∧Ks.length=i+1∧∀ (j:Nat) (L:LI),Ks[j]?=some L→ts[j]?=some L.t∧L.m=if (j:Int)=nv then none else some (j:Int))∧Same H (upd J55 pf (.lst (xs++[.ref zl]))):=⟨⟨_,_,upd_same,hN,by rw [List.length_append,ll]; rfl,hnew⟩,SF⟩
        have hlen:(Ls++[(⟨t,some (0+(i:Int))⟩:LI)]).length=i+1:=by rw [List.length_append,ll]; rfl
        first | exact ⟨⟨_,upd_same,_,hN,hlen,hnew⟩,SF⟩ | exact ⟨⟨_,rfl⟩,rest⟩ | exact rest
  · rintro σ G ⟨⟨c,rfl⟩,⟨xs,Ls,ex,hA2,ll,hm2⟩,SG⟩
    walk_at "w0"
    refine q pf xs Ls _ SG hpf ex (hA2.imp fun L y _ h=>h.mono fun l z=>z.1) ⟨by rw [ll,List.length_range]; omega,fun i L o e1 e2=>?_⟩
    have ho:o=i:=by
      have:=List.getElem?_range (n:=ts.length) (i:=i) (by rw [← List.length_range (n:=ts.length)]; exact (List.getElem?_eq_some_iff.mp e2).1)
      rw [this] at e2
      exact (Option.some.inj e2).symm
    rw [ho]
    exact hm2 i L e1
theorem w_s6:scal .non .non=true:=rfl
theorem w_s7 {i:Int}:scal .non (.int i)=true:=rfl
theorem ok_law_right (B:Bt K mg a) (C_law_due:CalX P w K mg base "_law_due" ["_law_trees","_law_order","_law_thing"] 4 (sp_law_due K a)) (CC_Happening:CalC P w K mg base "Happening" a.Happening ["self","kind","place","weight"] 3 (sp_Happening___init__ K a)) (C_law_number:CalX P w K mg base "_law_number" ["_law_line","_law_never"] 1 (sp_law_number K a)) (CM_winning:∀ C sp,Mm_winning K a C sp→CalM P w K mg base C "winning" ["self","happening"] 4 sp) (CM_line_for:∀ C sp,Mm_line_for K a C sp→CalM P w K mg base C "line_for" ["self","happening"] 5 sp) (F:Fun K "_law_right" "_law_right" s_law_right f fd):FnOk P w K mg base CX0 6 f fd ["_law_wishes","_law_trees","_law_order","_law_never","_law_thing","_law_turned"] (sp_law_right K a):=by
  refine F.ok sc_law_right (fun vs H Q E h=>?_) (fun cdv A outer s H vs Q E hr h=>?_)
  · obtain ⟨wp,lp,tl,ol,nv,x,b,vs0,xs,ts,os,Ls,k,p,n,rfl,_⟩:=h
    rfl
  obtain ⟨wp,lp,tl,ol,nv,x,b,vs0,xs,ts,os,Ls,k,p,n,rfl,htl,hA,l20,hok,hol,hos,o20,hw,hL,hR,hx,q⟩:=h
  refine ⟨_,(pss_of (qss_hold (qss_cons (qs_set (i:=6) sc_law_right.nd rfl (Or.inl rfl) (qe_of (pe_calN C_law_due (hr.mono (by decide)) rfl (pa_of (qa_c (pv 1) (qa_c (pv 2) (qa_c (pv 4) qa_nil)))) (he:=star_plain _ _ _ rfl) (hpl:=plain_any rfl))) (by kernel_rfl)) (qss_hold (qss_cons (qs_set (i:=7) sc_law_right.nd rfl (Or.inl rfl) (qe_of (pe_mak CC_Happening pass00 (hr.mono (by decide)) rfl (pa_of (qa_c (pe_ix ix_tup (pv 4) pe_int (fun _ _=>rfl)) (qa_c (pe_ix ix_tup (pv 4) pe_int (fun _ _=>rfl)) (qa_c (pe_ix ix_tup (pv 4) pe_int (fun _ _=>rfl)) qa_nil)))) (he:=star_plain _ _ _ rfl) (hpl:=plain_any rfl))) (by kernel_rfl)) (qss_hold (qss_cons (qs_set (i:=8) sc_law_right.nd rfl (Or.inl rfl) (qe_ix ix_list (qe_lst (qa_c (pv 6) (qa_c pe_non qa_nil))) (qe_of (pe_callTy call_int1 rfl B.int PyProof.Rows.boot_int (pa_of (qa_c (pe_cmpR op_eq (pv 6) (pv 3) (nomark _)) qa_nil)))) (fun _ _=>rfl)) (by kernel_rfl)) (qss_hold (qss_cons (qs_if (L2.PW.pt (pw_and (pt_val (pv 5)) (pw_and1 (pt_cmpR op_ne (pe_calN C_law_number (hr.mono (by decide)) rfl (pa_of (qa_c (pe_methD (pv 0) CM_line_for pass00 (hr.mono (by decide)) (pa_of (qa_c (pv 7) qa_nil)) (hst:=star_plain _ _ _ rfl) (hpl:=plain_any rfl)) (qa_c (pv 3) qa_nil))) (he:=star_plain _ _ _ rfl) (hpl:=plain_any rfl)) (pv 8) (nomark _))))) (qss_one (qs_ret (qe_of pe_bl))) qss_nil) (qss_hold (qss_cons (qs_if (pt_cmpR op_ne (pe_calN C_law_number (hr.mono (by decide)) rfl (pa_of (qa_c (pe_methD (pv 0) CM_winning pass00 (hr.mono (by decide)) (pa_of (qa_c (pv 7) qa_nil)) (hst:=star_plain _ _ _ rfl) (hpl:=plain_any rfl)) (qa_c (pv 3) qa_nil))) (he:=star_plain _ _ _ rfl) (hpl:=plain_any rfl)) (pv 6) (nomark _)) (qss_one (qs_ret (qe_of pe_bl))) qss_nil) (qss_one (qs_ret (qe_of (pe_cmpR op_eq (pe_calN C_law_number (hr.mono (by decide)) rfl (pa_of (qa_c (pe_methD (pv 0) CM_line_for pass00 (hr.mono (by decide)) (pa_of (qa_c (pv 7) qa_nil)) (hst:=star_plain _ _ _ rfl) (hpl:=plain_any rfl)) (qa_c (pv 3) qa_nil))) (he:=star_plain _ _ _ rfl) (hpl:=plain_any rfl)) (pv 8) (nomark _)))))))))))))))),?_⟩
  obtain ⟨tp,rfl,hth,gk,gl,n0,n1⟩:=id hx
  obtain ⟨dw,z0,q0,k0,h1,h2⟩:=id hw
  have hokL:∀ L∈Ls,L.t.ok∧L.t.dp < 3:=fun L m=>by
    obtain ⟨i,hi,rfl⟩:=List.mem_iff_getElem.mp m
    obtain ⟨o,_,et,_⟩:=hR.ord (List.getElem?_eq_getElem hi)
    have:=hok _ (List.mem_of_getElem? et)
    exact ⟨this.1,by omega⟩
  walk_at "w0"
  first | rw [w_hold] | (dsimp only; rw [w_hold]) | skip
  walk_at "w0"
  refine ⟨tl,ol,_,vs0,ts,os,k,p,n,rfl,htl,hA,l20,hok,hol,hos,o20,hx,fun dv G1 S1 hdue=>?_⟩
  walk_at "w0"
  first | rw [w_hold] | (dsimp only; rw [w_hold]) | skip
  walk_at "w0"
  have hth1:=S1 _ _ hth
  refine ixt (SqT.of hth1) (v:=.str k) rfl ?_
  walk_at "w0"
  refine ixt (SqT.of hth1) (v:=.str p) rfl ?_
  walk_at "w0"
  refine ixt (SqT.of hth1) (v:=.int n) rfl ?_
  walk_at "w0"
  intro hp dhp hhp0 hdhp nhp
  refine ⟨hp,dhp,k,p,n,rfl,upd_same,gk,gl,n0,fun G1' Bhp ehp=>?_⟩
  have Shp:=made_but hhp0 hdhp Bhp
  walk_at "w0"
  first | rw [w_hold] | (dsimp only; rw [w_hold]) | skip
  walk_at "w0"
  rcases id hdue with ⟨i0,o,t0,eo0,et0,rfl,ev0,bf0⟩ | ⟨rfl,hf0⟩
  · refine ⟨sz8 (by decide),fun q1 hq1=>?_⟩
    have Sq:=same_new hq1 (.lst [.int (o:Nat),.non])
    have eq1:upd G1' q1 (.lst [.int (o:Nat),.non]) q1=some (.lst [.int (o:Nat),.non]):=upd_same
    have hhp:=Sq _ _ ehp
    generalize upd G1' q1 (.lst [.int (o:Nat),.non])=G2 at *
    have SH:=S1.trans (Shp.trans Sq)
    by_cases c:(o:Int)=nv
    · exists c,decide_true
      refine ixl (SqL.of eq1) (v:=.non) rfl ?_
      walk_at "w0"
      first | rw [w_hold] | (dsimp only; rw [w_hold]) | skip
      walk_at "w0"
      cases b with
      | true =>
        walk_at "w0"
        refine ⟨_,_,_,SH _ _ h1,rfl,_,⟨rfl,rfl⟩,wp,lp,hp,dhp,xs,Ls,k,p,n,rfl,hw.same SH,hL.imp (fun L y _ h=>h.same SH),by rw [← hL.len,hR.len]; omega,hokL,hhp,fun r' Ga Ta lf=>?_⟩
        have SGa:=SH.trans Ta
        have hhGa:=Ta _ _ hhp
        walk_at "w0"
        rcases lf with ⟨i,L,r,eL,er,ev,bf,rfl⟩ | ⟨rfl,hf⟩
        · obtain ⟨o',eo,em⟩:=fst_due hR hdue eL ev bf
          have eoo:o=o':=by have:=V.int.inj eo; omega
          subst eoo
          rw [if_pos c] at em
          rw [em]
          refine ⟨.non,nv,rfl,.inl ⟨rfl,?_⟩⟩
          exists w_s6,w_s7,decide_true,decide_false,Bool.not_true,Bool.not_false,not_true_eq_false
          first | rw [w_hold] | (dsimp only; rw [w_hold]) | skip
          walk_at "w0"
          refine ⟨_,_,_,SGa _ _ h1,rfl,_,⟨rfl,rfl⟩,wp,lp,hp,dhp,xs,Ls,k,p,n,rfl,hw.same SGa,hL.imp (fun L y _ h=>h.same SGa),by rw [← hL.len,hR.len]; omega,hokL,hhGa,fun r' Gb Tb wn=>?_⟩
          have SGb:=SGa.trans Tb
          have hhGb:=Tb _ _ hhGa
          walk_at "w0"
          rcases wn with ⟨i,L,eL,er,ev,bf⟩ | ⟨rfl,hf⟩
          · obtain ⟨o',eo,em⟩:=fst_due hR hdue eL ev bf
            have eoo:o=o':=by have:=V.int.inj eo; omega
            subst eoo
            rw [if_pos c] at em
            obtain ⟨L',eL',hL'⟩:=hL.get er
            rw [eL] at eL'
            cases eL'
            refine ⟨_,nv,rfl,.inr ⟨L,hL'.same SGb,?_⟩⟩
            rw [em,Option.getD_none]
            exists w_s6,w_s7,decide_true,decide_false,Bool.not_true,Bool.not_false,not_true_eq_false
            refine ⟨_,_,_,SGb _ _ h1,rfl,_,⟨rfl,rfl⟩,wp,lp,hp,dhp,xs,Ls,k,p,n,rfl,hw.same SGb,hL.imp (fun L y _ h=>h.same SGb),by rw [← hL.len,hR.len]; omega,hokL,hhGb,fun r' Gc Tc lf=>?_⟩
            have SGc:=SGb.trans Tc
            have hhGc:=Tc _ _ hhGb
            walk_at "w0"
            rcases lf with ⟨i,L,r,eL,er,ev,bf,rfl⟩ | ⟨rfl,hf⟩
            · obtain ⟨o',eo,em⟩:=fst_due hR hdue eL ev bf
              have eoo:o=o':=by have:=V.int.inj eo; omega
              subst eoo
              rw [if_pos c] at em
              rw [em]
              refine ⟨.non,nv,rfl,.inl ⟨rfl,?_⟩⟩
              exists w_s6,w_s7,decide_true,decide_false,Bool.not_true,Bool.not_false,not_true_eq_false
              exact q _ SGc
            · have:=none_due hR hdue hf
              cases this
          · have:=none_due hR hdue hf
            cases this
        · have:=none_due hR hdue hf
          cases this
      | false =>
        walk_at "w0"
        first | rw [w_hold] | (dsimp only; rw [w_hold]) | skip
        walk_at "w0"
        refine ⟨_,_,_,SH _ _ h1,rfl,_,⟨rfl,rfl⟩,wp,lp,hp,dhp,xs,Ls,k,p,n,rfl,hw.same SH,hL.imp (fun L y _ h=>h.same SH),by rw [← hL.len,hR.len]; omega,hokL,hhp,fun r' Gb Tb wn=>?_⟩
        have SGb:=SH.trans Tb
        have hhGb:=Tb _ _ hhp
        walk_at "w0"
        rcases wn with ⟨i,L,eL,er,ev,bf⟩ | ⟨rfl,hf⟩
        · obtain ⟨o',eo,em⟩:=fst_due hR hdue eL ev bf
          have eoo:o=o':=by have:=V.int.inj eo; omega
          subst eoo
          rw [if_pos c] at em
          obtain ⟨L',eL',hL'⟩:=hL.get er
          rw [eL] at eL'
          cases eL'
          refine ⟨_,nv,rfl,.inr ⟨L,hL'.same SGb,?_⟩⟩
          rw [em,Option.getD_none]
          exists w_s6,w_s7,decide_true,decide_false,Bool.not_true,Bool.not_false,not_true_eq_false
          refine ⟨_,_,_,SGb _ _ h1,rfl,_,⟨rfl,rfl⟩,wp,lp,hp,dhp,xs,Ls,k,p,n,rfl,hw.same SGb,hL.imp (fun L y _ h=>h.same SGb),by rw [← hL.len,hR.len]; omega,hokL,hhGb,fun r' Gc Tc lf=>?_⟩
          have SGc:=SGb.trans Tc
          have hhGc:=Tc _ _ hhGb
          walk_at "w0"
          rcases lf with ⟨i,L,r,eL,er,ev,bf,rfl⟩ | ⟨rfl,hf⟩
          · obtain ⟨o',eo,em⟩:=fst_due hR hdue eL ev bf
            have eoo:o=o':=by have:=V.int.inj eo; omega
            subst eoo
            rw [if_pos c] at em
            rw [em]
            refine ⟨.non,nv,rfl,.inl ⟨rfl,?_⟩⟩
            exists w_s6,w_s7,decide_true,decide_false,Bool.not_true,Bool.not_false,not_true_eq_false
            exact q _ SGc
          · have:=none_due hR hdue hf
            cases this
        · have:=none_due hR hdue hf
          cases this
    · exists c,decide_false
      refine ixl (SqL.of eq1) (v:=.int (o:Nat)) rfl ?_
      walk_at "w0"
      first | rw [w_hold] | (dsimp only; rw [w_hold]) | skip
      walk_at "w0"
      cases b with
      | true =>
        walk_at "w0"
        refine ⟨_,_,_,SH _ _ h1,rfl,_,⟨rfl,rfl⟩,wp,lp,hp,dhp,xs,Ls,k,p,n,rfl,hw.same SH,hL.imp (fun L y _ h=>h.same SH),by rw [← hL.len,hR.len]; omega,hokL,hhp,fun r' Ga Ta lf=>?_⟩
        have SGa:=SH.trans Ta
        have hhGa:=Ta _ _ hhp
        walk_at "w0"
        rcases lf with ⟨i,L,r,eL,er,ev,bf,rfl⟩ | ⟨rfl,hf⟩
        · obtain ⟨o',eo,em⟩:=fst_due hR hdue eL ev bf
          have eoo:o=o':=by have:=V.int.inj eo; omega
          subst eoo
          rw [if_neg c] at em
          obtain ⟨L',eL',hL'⟩:=hL.get er
          rw [eL] at eL'
          cases eL'
          rw [em]
          refine ⟨r,nv,rfl,.inr ⟨L,hL'.same SGa,?_⟩⟩
          rw [em,Option.getD_some]
          exists w_s6,w_s7,decide_true,decide_false,Bool.not_true,Bool.not_false,not_true_eq_false
          first | rw [w_hold] | (dsimp only; rw [w_hold]) | skip
          walk_at "w0"
          refine ⟨_,_,_,SGa _ _ h1,rfl,_,⟨rfl,rfl⟩,wp,lp,hp,dhp,xs,Ls,k,p,n,rfl,hw.same SGa,hL.imp (fun L y _ h=>h.same SGa),by rw [← hL.len,hR.len]; omega,hokL,hhGa,fun r' Gb Tb wn=>?_⟩
          have SGb:=SGa.trans Tb
          have hhGb:=Tb _ _ hhGa
          walk_at "w0"
          rcases wn with ⟨i,L,eL,er,ev,bf⟩ | ⟨rfl,hf⟩
          · obtain ⟨o',eo,em⟩:=fst_due hR hdue eL ev bf
            have eoo:o=o':=by have:=V.int.inj eo; omega
            subst eoo
            rw [if_neg c] at em
            obtain ⟨L',eL',hL'⟩:=hL.get er
            rw [eL] at eL'
            cases eL'
            refine ⟨_,nv,rfl,.inr ⟨L,hL'.same SGb,?_⟩⟩
            rw [em,Option.getD_some]
            exists w_s6,w_s7,decide_true,decide_false,Bool.not_true,Bool.not_false,not_true_eq_false
            refine ⟨_,_,_,SGb _ _ h1,rfl,_,⟨rfl,rfl⟩,wp,lp,hp,dhp,xs,Ls,k,p,n,rfl,hw.same SGb,hL.imp (fun L y _ h=>h.same SGb),by rw [← hL.len,hR.len]; omega,hokL,hhGb,fun r' Gc Tc lf=>?_⟩
            have SGc:=SGb.trans Tc
            have hhGc:=Tc _ _ hhGb
            walk_at "w0"
            rcases lf with ⟨i,L,r,eL,er,ev,bf,rfl⟩ | ⟨rfl,hf⟩
            · obtain ⟨o',eo,em⟩:=fst_due hR hdue eL ev bf
              have eoo:o=o':=by have:=V.int.inj eo; omega
              subst eoo
              rw [if_neg c] at em
              obtain ⟨L',eL',hL'⟩:=hL.get er
              rw [eL] at eL'
              cases eL'
              rw [em]
              refine ⟨r,nv,rfl,.inr ⟨L,hL'.same SGc,?_⟩⟩
              rw [em,Option.getD_some]
              exists w_s6,w_s7,decide_true,decide_false,Bool.not_true,Bool.not_false,not_true_eq_false
              exact q _ SGc
            · have:=none_due hR hdue hf
              cases this
          · have:=none_due hR hdue hf
            cases this
        · have:=none_due hR hdue hf
          cases this
      | false =>
        walk_at "w0"
        first | rw [w_hold] | (dsimp only; rw [w_hold]) | skip
        walk_at "w0"
        refine ⟨_,_,_,SH _ _ h1,rfl,_,⟨rfl,rfl⟩,wp,lp,hp,dhp,xs,Ls,k,p,n,rfl,hw.same SH,hL.imp (fun L y _ h=>h.same SH),by rw [← hL.len,hR.len]; omega,hokL,hhp,fun r' Gb Tb wn=>?_⟩
        have SGb:=SH.trans Tb
        have hhGb:=Tb _ _ hhp
        walk_at "w0"
        rcases wn with ⟨i,L,eL,er,ev,bf⟩ | ⟨rfl,hf⟩
        · obtain ⟨o',eo,em⟩:=fst_due hR hdue eL ev bf
          have eoo:o=o':=by have:=V.int.inj eo; omega
          subst eoo
          rw [if_neg c] at em
          obtain ⟨L',eL',hL'⟩:=hL.get er
          rw [eL] at eL'
          cases eL'
          refine ⟨_,nv,rfl,.inr ⟨L,hL'.same SGb,?_⟩⟩
          rw [em,Option.getD_some]
          exists w_s6,w_s7,decide_true,decide_false,Bool.not_true,Bool.not_false,not_true_eq_false
          refine ⟨_,_,_,SGb _ _ h1,rfl,_,⟨rfl,rfl⟩,wp,lp,hp,dhp,xs,Ls,k,p,n,rfl,hw.same SGb,hL.imp (fun L y _ h=>h.same SGb),by rw [← hL.len,hR.len]; omega,hokL,hhGb,fun r' Gc Tc lf=>?_⟩
          have SGc:=SGb.trans Tc
          have hhGc:=Tc _ _ hhGb
          walk_at "w0"
          rcases lf with ⟨i,L,r,eL,er,ev,bf,rfl⟩ | ⟨rfl,hf⟩
          · obtain ⟨o',eo,em⟩:=fst_due hR hdue eL ev bf
            have eoo:o=o':=by have:=V.int.inj eo; omega
            subst eoo
            rw [if_neg c] at em
            obtain ⟨L',eL',hL'⟩:=hL.get er
            rw [eL] at eL'
            cases eL'
            rw [em]
            refine ⟨r,nv,rfl,.inr ⟨L,hL'.same SGc,?_⟩⟩
            rw [em,Option.getD_some]
            exists w_s6,w_s7,decide_true,decide_false,Bool.not_true,Bool.not_false,not_true_eq_false
            exact q _ SGc
          · have:=none_due hR hdue hf
            cases this
        · have:=none_due hR hdue hf
          cases this
  · refine ⟨sz8 (by decide),fun q1 hq1=>?_⟩
    have Sq:=same_new hq1 (.lst [.non,.non])
    have eq1:upd G1' q1 (.lst [.non,.non]) q1=some (.lst [.non,.non]):=upd_same
    have hhp:=Sq _ _ ehp
    generalize upd G1' q1 (.lst [.non,.non])=G2 at *
    have SH:=S1.trans (Shp.trans Sq)
    exists decide_false
    refine ⟨rfl,ixl (SqL.of eq1) (v:=.non) rfl ?_⟩
    walk_at "w0"
    first | rw [w_hold] | (dsimp only; rw [w_hold]) | skip
    walk_at "w0"
    cases b with
    | true =>
      walk_at "w0"
      refine ⟨_,_,_,SH _ _ h1,rfl,_,⟨rfl,rfl⟩,wp,lp,hp,dhp,xs,Ls,k,p,n,rfl,hw.same SH,hL.imp (fun L y _ h=>h.same SH),by rw [← hL.len,hR.len]; omega,hokL,hhp,fun r' Ga Ta lf=>?_⟩
      have SGa:=SH.trans Ta
      have hhGa:=Ta _ _ hhp
      walk_at "w0"
      rcases lf with ⟨i,L,r,eL,er,ev,bf,rfl⟩ | ⟨rfl,hf⟩
      · obtain ⟨o',eo,_⟩:=fst_due hR hdue eL ev bf
        cases eo
      · refine ⟨_,nv,rfl,.inl ⟨rfl,?_⟩⟩
        exists w_s6,w_s7,decide_true,decide_false,Bool.not_true,Bool.not_false,not_true_eq_false
        first | rw [w_hold] | (dsimp only; rw [w_hold]) | skip
        walk_at "w0"
        refine ⟨_,_,_,SGa _ _ h1,rfl,_,⟨rfl,rfl⟩,wp,lp,hp,dhp,xs,Ls,k,p,n,rfl,hw.same SGa,hL.imp (fun L y _ h=>h.same SGa),by rw [← hL.len,hR.len]; omega,hokL,hhGa,fun r' Gb Tb wn=>?_⟩
        have SGb:=SGa.trans Tb
        have hhGb:=Tb _ _ hhGa
        walk_at "w0"
        rcases wn with ⟨i,L,eL,er,ev,bf⟩ | ⟨rfl,hf⟩
        · obtain ⟨o',eo,_⟩:=fst_due hR hdue eL ev bf
          cases eo
        · refine ⟨_,nv,rfl,.inl ⟨rfl,?_⟩⟩
          exists w_s6,w_s7,decide_true,decide_false,Bool.not_true,Bool.not_false,not_true_eq_false
          refine ⟨_,_,_,SGb _ _ h1,rfl,_,⟨rfl,rfl⟩,wp,lp,hp,dhp,xs,Ls,k,p,n,rfl,hw.same SGb,hL.imp (fun L y _ h=>h.same SGb),by rw [← hL.len,hR.len]; omega,hokL,hhGb,fun r' Gc Tc lf=>?_⟩
          have SGc:=SGb.trans Tc
          have hhGc:=Tc _ _ hhGb
          walk_at "w0"
          rcases lf with ⟨i,L,r,eL,er,ev,bf,rfl⟩ | ⟨rfl,hf⟩
          · obtain ⟨o',eo,_⟩:=fst_due hR hdue eL ev bf
            cases eo
          · refine ⟨_,nv,rfl,.inl ⟨rfl,?_⟩⟩
            exists w_s6,w_s7,decide_true,decide_false,Bool.not_true,Bool.not_false,not_true_eq_false
            exact q _ SGc
    | false =>
      walk_at "w0"
      first | rw [w_hold] | (dsimp only; rw [w_hold]) | skip
      walk_at "w0"
      refine ⟨_,_,_,SH _ _ h1,rfl,_,⟨rfl,rfl⟩,wp,lp,hp,dhp,xs,Ls,k,p,n,rfl,hw.same SH,hL.imp (fun L y _ h=>h.same SH),by rw [← hL.len,hR.len]; omega,hokL,hhp,fun r' Gb Tb wn=>?_⟩
      have SGb:=SH.trans Tb
      have hhGb:=Tb _ _ hhp
      walk_at "w0"
      rcases wn with ⟨i,L,eL,er,ev,bf⟩ | ⟨rfl,hf⟩
      · obtain ⟨o',eo,_⟩:=fst_due hR hdue eL ev bf
        cases eo
      · refine ⟨_,nv,rfl,.inl ⟨rfl,?_⟩⟩
        exists w_s6,w_s7,decide_true,decide_false,Bool.not_true,Bool.not_false,not_true_eq_false
        refine ⟨_,_,_,SGb _ _ h1,rfl,_,⟨rfl,rfl⟩,wp,lp,hp,dhp,xs,Ls,k,p,n,rfl,hw.same SGb,hL.imp (fun L y _ h=>h.same SGb),by rw [← hL.len,hR.len]; omega,hokL,hhGb,fun r' Gc Tc lf=>?_⟩
        have SGc:=SGb.trans Tc
        have hhGc:=Tc _ _ hhGb
        walk_at "w0"
        rcases lf with ⟨i,L,r,eL,er,ev,bf,rfl⟩ | ⟨rfl,hf⟩
        · obtain ⟨o',eo,_⟩:=fst_due hR hdue eL ev bf
          cases eo
        · refine ⟨_,nv,rfl,.inl ⟨rfl,?_⟩⟩
          exists w_s6,w_s7,decide_true,decide_false,Bool.not_true,Bool.not_false,not_true_eq_false
          exact q _ SGc
theorem cut_map (ns:List Int) (lo hi:Option Int):∃ ms:List Int,cutV (ns.map V.int) lo hi=ms.map V.int∧ms.length≤ns.length:=by
  unfold cutV
  rw [List.length_map,← List.map_drop,← List.map_take]
  exact ⟨_,rfl,by rw [List.length_take,List.length_drop]; omega⟩
theorem gd_str {wd:Str}{xs:List V}(n:wd≠"weight") (h:∀ x∈xs,gdV wd x):∀ x∈xs,∃ u,x=.str u∧goodN u:=fun x hx=>by
  rcases h x hx with ⟨e,_⟩ | ⟨_,h⟩
  · exact absurd e n
  · exact h
theorem gd_int {xs:List V}(h:∀ x∈xs,gdV "weight" x):∀ x∈xs,∃ n:Int,x=.int n∧0≤n∧n < 1000000:=fun x hx=>by
  rcases h x hx with ⟨_,h⟩ | ⟨e,_⟩
  · exact h
  · exact absurd rfl e
theorem ok_law_things (B:Bt K mg a) (C_law_gathered:CalX P w K mg base "_law_gathered" ["_law_tree_here","_law_word"] 4 (sp_law_gathered K a 4)) (C_law_begin:CalX P w K mg base "_law_begin" ["_law_cell"] 1 (sp_law_begin K a)) (C_law_pick:CalX P w K mg base "_law_pick" ["_law_state","_law_some"] 3 (sp_law_pick K a)) (C_law_next:CalX P w K mg base "_law_next" ["_law_state","_law_base"] 1 (sp_law_next K a)) (F:Fun K "_law_things" "_law_things" s_law_things f fd):FnOk P w K mg base CX0 5 f fd ["_law_script","_law_trees"] (sp_law_things K a):=by
  refine F.ok sc_law_things (fun vs H Q E h=>?_) (fun cdv A outer s H vs Q E hr h=>?_)
  · obtain ⟨sc,l,ns,vs0,ts,rfl,_⟩:=h
    rfl
  obtain ⟨sc,l,ns,vs0,ts,rfl,hS,h63,hl,hA,l20,hcs,ht,q⟩:=h
  refine ⟨_,(pss_of (qss_hold (qss_cons (qs_set (i:=2) sc_law_things.nd rfl (Or.inl rfl) (qe_of (pe_tup (pa_of (qa_c pe_str (qa_c (pe_callTy call_tuple_of rfl B.tuple PyProof.Rows.boot_tuple (pa_of (qa_c (pv 1) qa_nil))) qa_nil))))) (by kernel_rfl)) (qss_hold (qss_cons (qs_set (i:=3) sc_law_things.nd rfl (Or.inl rfl) (qe_of (pe_calN C_law_gathered (hr.mono (by decide)) rfl (pa_of (qa_c (pv 2) (qa_c pe_str qa_nil))) (he:=star_plain _ _ _ rfl) (hpl:=plain_any rfl))) (by kernel_rfl)) (qss_hold (qss_cons (qs_set (i:=4) sc_law_things.nd rfl (Or.inl rfl) (qe_of (pe_calN C_law_gathered (hr.mono (by decide)) rfl (pa_of (qa_c (pv 2) (qa_c pe_str qa_nil))) (he:=star_plain _ _ _ rfl) (hpl:=plain_any rfl))) (by kernel_rfl)) (qss_hold (qss_cons (qs_set (i:=5) sc_law_things.nd rfl (Or.inl rfl) (qe_op op_cat (qe_lst (qa_c pe_int qa_nil)) (qe_of (pe_calN C_law_gathered (hr.mono (by decide)) rfl (pa_of (qa_c (pv 2) (qa_c pe_str qa_nil))) (he:=star_plain _ _ _ rfl) (hpl:=plain_any rfl)))) (by kernel_rfl)) (qss_hold (qss_cons (qs_set (i:=6) sc_law_things.nd rfl (Or.inl rfl) (qe_lst (qa_c (pe_tup (pa_of (qa_c pe_str (qa_c pe_str (qa_c pe_int qa_nil))))) qa_nil)) (by kernel_rfl)) (qss_hold (qss_cons (qs_of (ps_for PassesOwn.never rfl (pi_list (pe_slice sl_list (pv 0) (po_some pe_int) (po_some pe_int))) (pg_name (i:=7) sc_law_things.nd rfl (Or.inl rfl)) (pss_of (qss_cons (qs_set (i:=8) sc_law_things.nd rfl (Or.inl rfl) (qe_of (pe_calN C_law_begin (hr.mono (by decide)) rfl (pa_of (qa_c (pv 7) qa_nil)) (he:=star_plain _ _ _ rfl) (hpl:=plain_any rfl))) (by kernel_rfl)) (qss_cons (qs_set (i:=9) sc_law_things.nd rfl (Or.inl rfl) (qe_of (pe_callB (call_max2 rfl) rfl B.max PyProof.Rows.boot_max (pa_of (qa_c pe_int (qa_c (pe_callB (call_min2 rfl) rfl B.min PyProof.Rows.boot_min (pa_of (qa_c pe_int (qa_c (pe_op op_add (pe_op op_sub (pe_ix ix_list (pv 5) (pe_calN C_law_next (hr.mono (by decide)) rfl (pa_of (qa_c (pv 8) (qa_c (pe_callB call_len_seq rfl B.len PySem.boot_len (pa_of (qa_c (pv 5) qa_nil))) qa_nil))) (he:=star_plain _ _ _ rfl) (hpl:=plain_any rfl)) (fun _ _=>rfl)) pe_int) (pe_calN C_law_next (hr.mono (by decide)) rfl (pa_of (qa_c (pv 8) (qa_c pe_int qa_nil))) (he:=star_plain _ _ _ rfl) (hpl:=plain_any rfl))) qa_nil))) (he:=star_plain _ _ _ rfl) (hpl:=plain_any rfl)) qa_nil))) (he:=star_plain _ _ _ rfl) (hpl:=plain_any rfl))) (by kernel_rfl)) (qss_one (qs_of (ps_expr (pe_bm PySem.F.plainAttrs_list PySem.F.slot_list_append PySem.F.type_list_append mt_append (pv 6) (pa_of (qa_c (pe_tup (pa_of (qa_c (pe_calN C_law_pick (hr.mono (by decide)) rfl (pa_of (qa_c (pv 8) (qa_c (pv 3) qa_nil))) (he:=star_plain _ _ _ rfl) (hpl:=plain_any rfl)) (qa_c (pe_calN C_law_pick (hr.mono (by decide)) rfl (pa_of (qa_c (pv 8) (qa_c (pv 4) qa_nil))) (he:=star_plain _ _ _ rfl) (hpl:=plain_any rfl)) (qa_c (pv 9) qa_nil))))) qa_nil))))))))))) (qss_hold (qss_one (qs_ret (qe_of (pv 6)))))))))))))))))),?_⟩
  first | rw [w_hold] | (dsimp only; rw [w_hold])
  walk_at "w0"
  refine ⟨_,.inl ⟨SqL.of hl,fun q1 hq1=>?_⟩⟩
  have Sq1:=same_new hq1 (.tup vs0)
  have eq1:upd H q1 (.tup vs0) q1=some (.tup vs0):=upd_same
  generalize upd H q1 (.tup vs0)=J1 at *
  refine ⟨sz8 (by first | decide | (simp only [List.length_cons,List.length_nil]; decide)),fun q2 hq2=>?_⟩
  have Sq2:=same_new hq2 (.tup [.str "both",.ref q1])
  have eq2:upd J1 q2 (.tup [.str "both",.ref q1]) q2=some (.tup [.str "both",.ref q1]):=upd_same
  generalize upd J1 q2 (.tup [.str "both",.ref q1])=J2 at *
  have hW:(Tr.both (Trs.ofL ts)).At J2 (.ref q2):=by
    rw [Tr.At]
    exact ⟨q2,q1,vs0,rfl,eq2,(Sq2 _ _ eq1),trs_at.mpr (by rw [toL_ofL]; exact hA.imp fun t y _ h=>h.same (Sq1.trans Sq2))⟩
  have okW:(Tr.both (Trs.ofL ts)).okl:=by
    rw [Tr.okl]
    exact trs_okl.mpr (by rw [toL_ofL]; exact fun t m=>(ht t m).1)
  have dpW:(Tr.both (Trs.ofL ts)).dp < 4:=by
    rw [Tr.dp]
    have:=trs_dp_le (n:=2) (ts:=Trs.ofL ts) (by rw [toL_ofL]; exact fun t m=>(ht t m).2)
    omega
  have cnW:(Tr.both (Trs.ofL ts)).cnt≤270:=by
    rw [Tr.cnt]
    rw [trs_cntL,toL_ofL]
    exact hcs
  walk_at "w0"
  first | rw [w_hold] | (dsimp only; rw [w_hold])
  walk_at "w0"
  refine ⟨.ref q2,.both (Trs.ofL ts),"kind",dpW,rfl,hW.same (same_id _),okW,by omega,.inl rfl,fun pk xk J3 Sk fk ek nk gk=>?_⟩
  walk_at "w0"
  first | rw [w_hold] | (dsimp only; rw [w_hold])
  walk_at "w0"
  refine ⟨.ref q2,.both (Trs.ofL ts),"place",dpW,rfl,hW.same Sk,okW,by omega,.inr (.inl rfl),fun pp xp J4 Sp fp ep np gp=>?_⟩
  walk_at "w0"
  first | rw [w_hold] | (dsimp only; rw [w_hold])
  walk_at "w0"
  refine ⟨sz8 (by first | decide | (simp only [List.length_cons,List.length_nil]; decide)),fun z0 hz0=>?_⟩
  have Sz0:=same_new hz0 (.lst [.int 0])
  have ez0:upd J4 z0 (.lst [.int 0]) z0=some (.lst [.int 0]):=upd_same
  generalize upd J4 z0 (.lst [.int 0])=J5 at *
  walk_at "w0"
  refine ⟨.ref q2,.both (Trs.ofL ts),"weight",dpW,rfl,hW.same (Sk.trans (Sp.trans Sz0)),okW,by omega,.inr (.inr rfl),fun pw xw J6 Sw fw ew nw gw=>?_⟩
  refine ⟨z0,pw,_,_,rfl,rfl,(Sw _ _ ez0),ew,sz8 (by first | omega | (simp only [List.length_append,List.length_cons,List.length_nil]; omega)),fun wp hwp=>?_⟩
  have Swp:=same_new hwp (.lst ([.int 0]++xw))
  have ewp:upd J6 wp (.lst ([.int 0]++xw)) wp=some (.lst ([.int 0]++xw)):=upd_same
  generalize upd J6 wp (.lst ([.int 0]++xw))=J7 at *
  walk_at "w0"
  first | rw [w_hold] | (dsimp only; rw [w_hold])
  walk_at "w0"
  refine ⟨sz8 (by first | decide | (simp only [List.length_cons,List.length_nil]; decide)),fun x0 hx0=>?_⟩
  have Sx0:=same_new hx0 (.tup [.str "not",.str "any",.int 0])
  have ex0:upd J7 x0 (.tup [.str "not",.str "any",.int 0]) x0=some (.tup [.str "not",.str "any",.int 0]):=upd_same
  generalize upd J7 x0 (.tup [.str "not",.str "any",.int 0])=J8 at *
  walk_at "w0"
  have pk_9:=((Sp.trans (Sz0.trans (Sw.trans (Swp.trans Sx0)))) _ _ ek)
  have pp_10:=((Sz0.trans (Sw.trans (Swp.trans Sx0))) _ _ ep)
  have wp_11:=(Sx0 _ _ ewp)
  refine ⟨sz8 (by first | decide | (simp only [List.length_cons,List.length_nil]; decide)),fun pf hpf=>?_⟩
  have Spf:=same_new hpf (.lst [.ref x0])
  have epf:upd J8 pf (.lst [.ref x0]) pf=some (.lst [.ref x0]):=upd_same
  generalize upd J8 pf (.lst [.ref x0])=J12 at *
  have gpf:H pf=none:=(Sq1.trans (Sq2.trans (Sk.trans (Sp.trans (Sz0.trans (Sw.trans (Swp.trans Sx0))))))).free hpf
  have npk2:pk≠pf:=ne_of_none pk_9 hpf
  have npp2:pp≠pf:=ne_of_none pp_10 hpf
  have nwp2:wp≠pf:=ne_of_none wp_11 hpf
  walk_at "w0"
  first | rw [w_hold] | (dsimp only; rw [w_hold])
  walk_at "w0"
  have pk_13:=(Spf _ _ pk_9)
  have pp_14:=(Spf _ _ pp_10)
  have wp_15:=(Spf _ _ wp_11)
  have x0_16:=(Spf _ _ ex0)
  refine ⟨sc,_,rfl,(Sq1.trans (Sq2.trans (Sk.trans (Sp.trans (Sz0.trans (Sw.trans (Swp.trans (Sx0.trans Spf)))))))).seq hS,fun ls hls=>?_⟩
  obtain ⟨ms,em,lm⟩:=cut_map ns (some 1) (some 13)
  rw [em]
  have nls:pf≠ls:=ne_of_none epf hls
  have Sls:=same_new hls (.lst (ms.map V.int))
  have els:upd J12 ls (.lst (ms.map V.int)) ls=some (.lst (ms.map V.int)):=upd_same
  have SA:=(Sq1.trans (Sq2.trans (Sk.trans (Sp.trans (Sz0.trans (Sw.trans (Swp.trans (Sx0.trans Spf)))))))).trans Sls
  have ek0:=Sls _ _ pk_13
  have ep0:=Sls _ _ pp_14
  have ew0:=Sls _ _ wp_15
  have ef0:=Sls _ _ epf
  have ex00:=Sls _ _ x0_16
  generalize upd J12 ls (.lst (ms.map V.int))=JA at *
  have gk':=gd_str (by decide) gk
  have gp':=gd_str (by decide) gp
  have gw':∀ x∈[V.int 0]++xw,∃ n:Int,x=.int n∧0≤n∧n < 1000000:=fun x hx=>by
    rcases List.mem_append.mp hx with hx | hx
    · rw [List.mem_singleton.mp hx]; exact ⟨0,rfl,by decide,by decide⟩
    · exact gd_int gw x hx
  have lw:([V.int 0]++xw).length≤270+1∧0 < ([V.int 0]++xw).length:=by simp only [List.length_append,List.length_cons,List.length_nil]; omega
  generalize [V.int 0]++xw=ws at *
  first | refine ⟨⟨_,SqL.of els⟩,?_⟩ | refine ⟨ls,rfl,⟨_,SqL.of els⟩,?_⟩
  refine ForL.by (xs:=ms.map V.int) (fun i σ H1=>(∃ c1 c2 c3,σ=[some (.ref sc),some (.ref l),some (.ref q2),some (.ref pk),some (.ref pp),some (.ref wp),some (.ref pf),c1,c2,c3])∧(∃ xs,H1 pf=some (.lst xs)∧xs.length≤i+1∧∀ x∈xs,∃ k p w,ThAt H1 x k p w)∧H1 pk=some (.lst xk)∧H1 pp=some (.lst xp)∧H1 wp=some (.lst ws)∧H1 ls=some (.lst (ms.map V.int))∧Same H H1) ⟨⟨_,_,_,rfl⟩,⟨[.ref x0],ef0,Nat.le_refl _,fun x hx=>by rw [List.mem_singleton.mp hx]; exact ⟨"not","any",0,x0,rfl,ex00,by decide +kernel,by decide +kernel,by decide,by decide⟩⟩,ek0,ep0,ew0,els,SA⟩ (fun i σ H1 _ h=>SqL.of h.2.2.2.2.2.1) ?_ ?_
  rotate_left
  · rintro σ H1 ⟨⟨c1,c2,c3,rfl⟩,⟨xs,ex,lx,gx⟩,_,_,_,_,SS⟩
    walk_at "w0"
    first | rw [w_hold] | (dsimp only; rw [w_hold]) | skip
    walk_at "w0"
    rw [List.length_map] at lx
    exact q pf xs _ SS ex (by omega) gx
  · rintro i x σ H1 hx ⟨⟨c1,c2,c3,rfl⟩,⟨xs,ex,lx,gx⟩,k1,p1,w1,s1,SS⟩
    have hil:i < (ms.map V.int).length:=(List.getElem?_eq_some_iff.mp hx).1
    rw [List.length_map] at hil
    obtain ⟨c,rfl⟩:=int_at hx
    walk_at "w0"
    refine ⟨c,rfl,fun ow wa wb wc how=>?_⟩
    have W0:Well3 (upd H1 ow (.lst [.int wa,.int wb,.int wc])) ow:=⟨_,_,_,upd_same⟩
    have T0:=same_new how (.lst [.int wa,.int wb,.int wc])
    have ok_:pk≠ow:=ne_of_none k1 how
    have op_:pp≠ow:=ne_of_none p1 how
    have ow_:wp≠ow:=ne_of_none w1 how
    have of_:pf≠ow:=ne_of_none ex how
    have os_:ls≠ow:=ne_of_none s1 how
    generalize upd H1 ow (.lst [.int wa,.int wb,.int wc])=G0 at *
    walk_at "w0"
    refine ⟨_,.inl (SqL.of (T0 _ _ w1)),?_⟩
    refine drw3 W0 (by omega) (by omega) fun r1 G1 a1 b1 W1 B1=>?_
    obtain ⟨z,mz,ez⟩:=at_memV (xs:=ws) a1 b1
    obtain ⟨wn,rfl,wn0,wn1⟩:=gw' z mz
    have BB1:=(Same.but T0).trans B1
    refine ixl (SqL.of (BB1 _ _ ow_ w1)) ez ?_
    walk_at "w0"
    refine drw3 W1 (by decide) (by decide) fun r2 G2 a2 b2 W2 B2=>?_
    have BB2:=BB1.trans B2
    walk_at "w0"
    obtain ⟨wv,ewv,wv0,wv1⟩:∃ wv:Int,wv=(if (if wn - 1+r2 < 999999 then wn - 1+r2 else 999999) > 0 then (if wn - 1+r2 < 999999 then wn - 1+r2 else 999999) else 0)∧0≤wv∧wv < 1000000:=⟨_,rfl,by split <;> omega,by split <;> (try split) <;> omega⟩
    first | rw [← ewv] | skip
    refine ⟨.inl ⟨rfl,_,SqL.of (BB2 _ _ of_ ex)⟩,?_⟩
    refine ⟨ow,pk,xk,rfl,W2,ok_,BB2 _ _ ok_ k1,by omega,gk',fun u1 G3 g1 W3 B3=>?_⟩
    have BB3:=BB2.trans B3
    walk_at "w0"
    refine ⟨ow,pp,xp,rfl,W3,op_,BB3 _ _ op_ p1,by omega,gp',fun u2 G4 g2 W4 B4=>?_⟩
    have BB4:=BB3.trans B4
    walk_at "w0"
  
    refine ⟨sz8 (by decide),fun tp htp=>?_⟩
    have T5:=same_new htp (.tup [.str u1,.str u2,.int wv])
    have e5:upd G4 tp (.tup [.str u1,.str u2,.int wv]) tp=some (.tup [.str u1,.str u2,.int wv]):=upd_same
    have BB5:=BB4.trans (Same.but T5)
    generalize upd G4 tp (.tup [.str u1,.str u2,.int wv])=G5 at *
    have ex5:=BB5 _ _ of_ ex
    refine ⟨pf,_,_,rfl,rfl,ex5,Nat.lt_of_le_of_lt (by omega:xs.length≤1000) (by decide),?_⟩
    have U:∀ {b:Addr}{o o':HO},b≠pf→G5 b=some o→upd G5 pf o' b=some o:=fun n e=>by rw [upd_ne n]; exact e
    have tk:TupK G5 (upd G5 pf (.lst (xs++[.ref tp]))):=fun b ys e=>U (fun z=>by rw [z,ex5] at e; cases e) e
    have tk1:TupK H1 G5:=fun b ys e=>BB5 b _ (ne_of_none e how) e
    have new:∃ ys,upd G5 pf (.lst (xs++[.ref tp])) pf=some (.lst ys)∧ys.length≤i+1+1∧∀ x∈ys,∃ k p w,ThAt (upd G5 pf (.lst (xs++[.ref tp]))) x k p w:=⟨_,upd_same,by rw [List.length_append,List.length_singleton]; omega,fun x hx=>by
      rcases List.mem_append.mp hx with hx | hx
      · obtain ⟨k,p,w,h⟩:=gx x hx
        exact ⟨k,p,w,(h.keep tk1).keep tk⟩
      · rw [List.mem_singleton.mp hx]
        exact ⟨u1,u2,wv,tp,rfl,tk _ _ e5,g1,g2,wv0,wv1⟩⟩
    have SF:Same H (upd G5 pf (.lst (xs++[.ref tp]))):=fun b o e=>U (ne_of_none e gpf) (BB5 b o (ne_of_none (SS b o e) how) (SS b o e))
    have rest:=And.intro new (And.intro (U (o':=.lst (xs++[.ref tp])) npk2 (BB5 _ _ ok_ k1)) (And.intro (U (o':=.lst (xs++[.ref tp])) npp2 (BB5 _ _ op_ p1)) (And.intro (U (o':=.lst (xs++[.ref tp])) nwp2 (BB5 _ _ ow_ w1)) (And.intro (U (o':=.lst (xs++[.ref tp])) nls.symm (BB5 _ _ os_ s1)) SF))))
    first | exact ⟨⟨_,_,_,rfl⟩,rest⟩ | exact rest
theorem All2.rev {α β:Type}{R:α→β→Prop}{as:List α}{bs:List β}(h:All2 R as bs):All2 R as.reverse bs.reverse:=by
  induction h with
  | nil=>exact .nil
  | cons h _ ih =>
    rw [List.reverse_cons,List.reverse_cons]
    exact ih.snoc h
theorem LsR.rev {ts:List Tr}{os:List Nat}{nv:Int}{Ls:List LI}(h:LsR ts os nv Ls):LsR ts os.reverse nv Ls.reverse where
  len:=by rw [List.length_reverse,List.length_reverse,h.len]
  at_:=fun i L o e1 e2=>by
    have hi:i < Ls.length:=by rw [← List.length_reverse]; exact (List.getElem?_eq_some_iff.mp e1).1
    rw [List.getElem?_reverse hi] at e1
    rw [List.getElem?_reverse (by rw [← h.len]; exact hi),← h.len] at e2
    exact h.at_ _ L o e1 e2
theorem sum_le {n:Nat}:∀ {ts:List Tr},(∀ t∈ts,t.cnt≤n)→(ts.map Tr.cnt).sum≤n * ts.length
  | [],_=>Nat.zero_le _
  | t::ts,h=>by
    rw [List.map_cons,List.sum_cons,List.length_cons,Nat.mul_succ]
    have h1:=h t List.mem_cons_self
    have h2:=sum_le (ts:=ts) fun s m=>h s (List.mem_cons_of_mem _ m)
    omega
theorem fresh_same {H H2 H':Hp}{pw:Addr}(hpw:H pw=none) (S:Same H H2) (B:But pw H2 H'):Same H H':=fun b o e=>B b o (ne_of_none e hpw) (S b o e)
structure TrsW (H:Hp) (tl:Addr) (vs0:List V) (ts:List Tr):Prop where
  at_:H tl=some (.lst vs0)
  A:All2 (Tr.At H) ts vs0
  l1:1≤ts.length
  l20:ts.length≤20
  ok:∀ t∈ts,t.ok∧t.dp≤2
  cs:(ts.map Tr.cnt).sum≤270
theorem TrsW.same {H H':Hp}{tl:Addr}{vs0:List V}{ts:List Tr}(h:TrsW H tl vs0 ts) (S:Same H H'):TrsW H' tl vs0 ts:=⟨S _ _ h.at_,h.A.imp fun t y _ k=>k.same S,h.l1,h.l20,h.ok,h.cs⟩
theorem TrsW.but3 {H H':Hp}{w tl:Addr}{vs0:List V}{ts:List Tr}(h:TrsW H tl vs0 ts) (n:tl≠w) (W:Well3 H w) (S:But w H H'):TrsW H' tl vs0 ts:=⟨S _ _ n h.at_,h.A.imp fun t y _ k=>k.but3 W S,h.l1,h.l20,h.ok,h.cs⟩
theorem ok_law (B:Bt K mg a) (C_law_begin:CalX P w K mg base "_law_begin" ["_law_cell"] 1 (sp_law_begin K a)) (C_law_next:CalX P w K mg base "_law_next" ["_law_state","_law_base"] 1 (sp_law_next K a)) (C_law_lines:CalX P w K mg base "_law_lines" ["_law_trees","_law_never"] 9 (sp_law_lines K a)) (CD_Wishes_4:CalD P w K mg base "Wishes" a.Wishes ["self","zone","quiet","wake","lines"] 6 [] (sp_Wishes___init__ K a)) (C_law_things:CalX P w K mg base "_law_things" ["_law_script","_law_trees"] 5 (sp_law_things K a)) (C_law_cell_at:CalX P w K mg base "_law_cell_at" ["_law_script","_law_k"] 1 (sp_law_cell_at K a)) (C_law_tree:CalX P w K mg base "_law_tree" ["_law_state","_law_deep","_law_more"] 6 (sp_law_tree K a 3)) (C_law_right:CalX P w K mg base "_law_right" ["_law_wishes","_law_trees","_law_order","_law_never","_law_thing","_law_turned"] 6 (sp_law_right K a)) (F:Fun K "law" "law" s_law f fd):FnOk P w K mg base CX0 10 f fd ["_law_script"] (sp_law K a):=by
  refine F.ok sc_law (fun vs H Q E h=>?_) (fun cdv A outer s H vs Q E hr h=>?_)
  · obtain ⟨sc,ns,rfl,_⟩:=h
    rfl
  obtain ⟨sc,ns,rfl,hS,h63,q⟩:=h
  refine ⟨_,(pss_of (qss_hold (qss_cons (qs_set (i:=1) sc_law.nd rfl (Or.inr rfl) (qe_of (pe_calN C_law_begin (hr.mono (by decide)) rfl (pa_of (qa_c (pe_calN C_law_cell_at (hr.mono (by decide)) rfl (pa_of (qa_c (pv 0) (qa_c pe_int qa_nil))) (he:=star_plain _ _ _ rfl) (hpl:=plain_any rfl)) qa_nil)) (he:=star_plain _ _ _ rfl) (hpl:=plain_any rfl))) (by kernel_rfl)) (qss_hold (qss_cons (qs_set (i:=2) sc_law.nd rfl (Or.inr rfl) (qe_of (pe_op op_add pe_int (pe_calN C_law_next (hr.mono (by decide)) rfl (pa_of (qa_c (pv 1) (qa_c pe_int qa_nil))) (he:=star_plain _ _ _ rfl) (hpl:=plain_any rfl)))) (by kernel_rfl)) (qss_hold (qss_cons (qs_of (ps_compB (i:=3) ["_law_k","_law_state","_law_many"] [none,some 1,some 2] rfl (by kernel_rfl) sc_law.nd rfl rfl (pi_range1 rfl B.range (pa_of (qa_c (pv 2) qa_nil))) (fun cl C s H fp=>⟨(pg_name (i:=0) (by decide:List.Nodup (["_law_k","_law_state","_law_many"]:List Str)) rfl (Or.inl (by kernel_rfl)) (Or.inr (by kernel_rfl))),pts_nil,(pe_calN C_law_tree (hr.mono (by decide)) (gl_of (by kernel_rfl)) (pa_of (qa_c (pv 1 (hv:=Or.inr (Or.inl (by kernel_rfl)))) (qa_c pe_int (qa_c (pe_op op_mul pe_int (pe_callTy call_int1 rfl B.int PyProof.Rows.boot_int (pa_of (qa_c (pe_cmpR op_lt (pv 2 (hv:=Or.inr (Or.inl (by kernel_rfl)))) pe_int (nomark _)) qa_nil)))) qa_nil)))) (he:=star_plain _ _ _ rfl) (hpl:=plain_any rfl))⟩))) (qss_hold (qss_cut (qs_if (pt_cmpR op_eq (pe_calN C_law_next (hr.mono (by decide)) rfl (pa_of (qa_c (pv 1) (qa_c pe_int qa_nil))) (he:=star_plain _ _ _ rfl) (hpl:=plain_any rfl)) pe_int (nomark _)) (qss_one (qs_set (i:=3) sc_law.nd rfl (Or.inl rfl) (qe_op op_cat (qe_of (pe_compB ["_law_k","_law_state"] [none,some 1] rfl (by kernel_rfl) (pi_range1 rfl B.range (pa_of (qa_c (pe_op op_add pe_int (pe_calN C_law_next (hr.mono (by decide)) rfl (pa_of (qa_c (pv 1) (qa_c pe_int qa_nil))) (he:=star_plain _ _ _ rfl) (hpl:=plain_any rfl))) qa_nil))) (fun cl C s H fp=>⟨(pg_name (i:=0) (by decide:List.Nodup (["_law_k","_law_state"]:List Str)) rfl (Or.inl (by kernel_rfl)) (Or.inr (by kernel_rfl))),pts_nil,(pe_tup (pa_of (qa_c pe_str (qa_c (pe_calN C_law_next (hr.mono (by decide)) (gl_of (by kernel_rfl)) (pa_of (qa_c (pv 1 (hv:=Or.inr (Or.inl (by kernel_rfl)))) (qa_c pe_int qa_nil))) (he:=star_plain _ _ _ rfl) (hpl:=plain_any rfl)) qa_nil))))⟩))) (qe_lst (qa_c (pe_tup (pa_of (qa_c pe_str qa_nil))) qa_nil))) (by kernel_rfl))) qss_nil) (qss_hold (qss_cons (qs_set (i:=4) sc_law.nd rfl (Or.inl rfl) (qe_of (pe_calN C_law_next (hr.mono (by decide)) rfl (pa_of (qa_c (pv 1) (qa_c pe_int qa_nil))) (he:=star_plain _ _ _ rfl) (hpl:=plain_any rfl))) (by kernel_rfl)) (qss_hold (qss_cons (qs_set (i:=5) sc_law.nd rfl (Or.inl rfl) (qe_of (pe_calN C_law_lines (hr.mono (by decide)) rfl (pa_of (qa_c (pv 3) (qa_c (pv 4) qa_nil))) (he:=star_plain _ _ _ rfl) (hpl:=plain_any rfl))) (by kernel_rfl)) (qss_hold (qss_cons (qs_set (i:=6) sc_law.nd rfl (Or.inl rfl) (qe_of (pe_callTy (call_listR rfl) rfl B.list PyProof.Rows.boot_list (pa_of (qa_c (pe_callTy call_rngO rfl B.range PyProof.Rows.boot_range (pa_of (qa_c (pe_callB call_len_seq rfl B.len PySem.boot_len (pa_of (qa_c (pv 3) qa_nil))) qa_nil))) qa_nil)))) (by kernel_rfl)) (qss_hold (qss_cons (qs_set (i:=7) sc_law.nd rfl (Or.inl rfl) (qe_of (pe_makD CD_Wishes_4 pass00 (hr.mono (by decide)) rfl (pa_of (qa_c pe_int (qa_c pe_non (qa_c pe_non (qa_c (pv 5) qa_nil))))) (he:=star_plain _ _ _ rfl) (hpl:=plain_any rfl))) (by kernel_rfl)) (qss_hold (qss_cons (qs_set (i:=8) sc_law.nd rfl (Or.inl rfl) (qe_of (pe_makD CD_Wishes_4 pass00 (hr.mono (by decide)) rfl (pa_of (qa_c (pe_calN C_law_next (hr.mono (by decide)) rfl (pa_of (qa_c (pv 1) (qa_c pe_int qa_nil))) (he:=star_plain _ _ _ rfl) (hpl:=plain_any rfl)) (qa_c (pe_tup (pa_of (qa_c pe_int (qa_c pe_int qa_nil)))) (qa_c pe_int (qa_c (pe_rev (pv 5) (pe_un un_neg pe_int)) qa_nil))))) (he:=star_plain _ _ _ rfl) (hpl:=plain_any rfl))) (by kernel_rfl)) (qss_hold (qss_cons (qs_of (ps_for PassesOwn.never rfl (pi_list (pe_calN C_law_things (hr.mono (by decide)) rfl (pa_of (qa_c (pv 0) (qa_c (pv 3) qa_nil))) (he:=star_plain _ _ _ rfl) (hpl:=plain_any rfl))) (pg_name (i:=9) sc_law.nd rfl (Or.inl rfl)) (pss_of (qss_one (qs_of (ps_for PassesOwn.never rfl (pi_range1 rfl B.range (pa_of (qa_c pe_int qa_nil))) (pg_name (i:=10) sc_law.nd rfl (Or.inl rfl)) (pss_of (qss_cons (qs_if (pt_not (pt_val (pe_calN C_law_right (hr.mono (by decide)) rfl (pa_of (qa_c (pv 7) (qa_c (pv 3) (qa_c (pv 6) (qa_c (pv 4) (qa_c (pv 9) (qa_c (pe_cmpR op_eq (pv 10) pe_int (nomark _)) qa_nil))))))) (he:=star_plain _ _ _ rfl) (hpl:=plain_any rfl)))) (qss_one (qs_ret (qe_of pe_bl))) qss_nil) (qss_one (qs_if (pt_not (pt_val (pe_calN C_law_right (hr.mono (by decide)) rfl (pa_of (qa_c (pv 8) (qa_c (pv 3) (qa_c (pe_rev (pv 6) (pe_un un_neg pe_int)) (qa_c (pv 4) (qa_c (pv 9) (qa_c (pe_cmpR op_eq (pv 10) pe_int (nomark _)) qa_nil))))))) (he:=star_plain _ _ _ rfl) (hpl:=plain_any rfl)))) (qss_one (qs_ret (qe_of pe_bl))) qss_nil)))))))))) (qss_hold (qss_one (qs_ret (qe_of pe_bl))))))))))))))))))))))))),?_⟩
  walk_at "w0"
  first | rw [w_hold] | (dsimp only; rw [w_hold]) | skip
  walk_at "w0"
  refine ⟨sc,ns,0,rfl,hS,by decide,fun c=>?_⟩
  walk_at "w0"
  refine ⟨c,rfl,fun pw wa wb wc hpw=>?_⟩
  have W0:Well3 (upd H pw (.lst [.int wa,.int wb,.int wc])) pw:=⟨_,_,_,upd_same⟩
  have T0:=same_new hpw (.lst [.int wa,.int wb,.int wc])
  generalize upd H pw (.lst [.int wa,.int wb,.int wc])=H0 at *
  walk_at "w0"
  first | rw [w_hold] | (dsimp only; rw [w_hold])
  walk_at "w0"
  refine drw3 W0 (by decide) (by decide) fun r H1 ra rb W1 B1=>?_
  walk_at "w0"
  first | rw [w_hold] | (dsimp only; rw [w_hold])
  walk_at "w0"
  refine ⟨by omega,by omega,?_⟩
  refine CompR.by (n:=(1+r).toNat) (fun i' acc σ H'=>∃ ts:List Tr,All2 (Tr.At H') ts acc∧ts.length=i'∧(∀ t∈ts,t.ok∧t.dp≤2∧t.cnt≤54)∧(∃ v,σ=[v,some (.ref pw),some (.int (1+r))])∧Well3 H' pw∧But pw H1 H') (sz8 (by omega)) ⟨[],.nil,rfl,(fun t ht=>absurd ht List.not_mem_nil),⟨_,rfl⟩,W1,But.refl _ _⟩ ?_ ?_ ?_
  · rintro i' acc σ H' hi' ⟨ts,hA,hl,ht,⟨v,rfl⟩,W',B'⟩
    walk_at "w0"
    refine ⟨.inl ⟨by decide,by decide⟩,pw,2,_,by decide,rfl,W',by decide,(by split <;> omega),(by split <;> omega),fun v2 t2 H2 hA2 ho2 hd2 hc2 W2 B2=>?_⟩
    have new:∃ ts:List Tr,All2 (Tr.At H2) ts (acc++[v2])∧ts.length=i'+1∧(∀ t∈ts,t.ok∧t.dp≤2∧t.cnt≤54):=⟨ts++[t2],(hA.imp fun t y _ h=>h.but3 W' B2).snoc hA2,by rw [List.length_append,hl]; rfl,fun t m2=>by
      rcases List.mem_append.mp m2 with m2 | m2
      · exact ht t m2
      · rw [List.mem_singleton.mp m2]; exact ⟨ho2,hd2,by omega⟩⟩
    obtain ⟨ts2,n1,n2,n3⟩:=new
    first | exact ⟨ts2,n1,n2,n3,⟨_,rfl⟩,W2,B'.trans B2⟩ | exact ⟨ts2,n1,n2,n3,W2,B'.trans B2⟩
  · rintro i' acc σ H' ⟨ts,hA,hl,_⟩
    rw [← hA.len]
    omega
  rintro vs0 σ H2 ⟨ts,hA,hl,ht,⟨v,rfl⟩,W2,B2⟩ tl htl
  have ntl:=W2.ne htl
  have S3:=same_new htl (.lst vs0)
  have SS:=(fresh_same hpw T0 (B1.trans B2)).trans S3
  have W3:=W2.same S3
  have cs5:=sum_le (n:=54) fun t m=>(ht t m).2.2
  have TW:TrsW (upd H2 tl (.lst vs0)) tl vs0 ts:=⟨upd_same,hA.imp fun t y _ h=>h.same S3,by omega,by omega,fun t m=>⟨(ht t m).1,(ht t m).2.1⟩,by rw [hl] at cs5; refine Nat.le_trans cs5 ?_; have:(1+r).toNat≤5:=(by omega); omega⟩
  generalize upd H2 tl (.lst vs0)=H3 at *
  clear hA ht cs5 hl W0 W1 W2 B1 B2 T0 S3 htl
  walk_at "w0"
  first | rw [w_hold] | (dsimp only; rw [w_hold])
  walk_at "w0"
  refine ⟨fun σ H'=>∃ tl vs0 ts,σ=[some (.ref sc),some (.ref pw),some (.int (1+r)),some (.ref tl),none,none,none,none,none,none,none]∧TrsW H' tl vs0 ts∧tl≠pw∧Well3 H' pw∧Same H H',?_,?_⟩
  · refine drw3 W3 (by decide) (by decide) fun r2 H4 a4 b4 W4 B4=>?_
    have S4:=fresh_same hpw SS B4
    have T4:=TW.but3 ntl W3 B4
    walk_at "w0"
    by_cases c:r2=5
    · rw [if_pos c]
      refine drw3 W4 (by decide) (by decide) fun r3 H5 a5 b5 W5 B5=>?_
      have S5:=fresh_same hpw S4 B5
      walk_at "w0"
      refine ⟨by omega,by omega,?_⟩
      refine CompR.by (n:=(5+r3).toNat) (fun i' acc σ H'=>∃ ts:List Tr,All2 (Tr.At H') ts acc∧ts.length=i'∧(∀ t∈ts,(t.ok∧t.dp≤2)∧t.cnt≤1)∧(∃ v,σ=[v,some (.ref pw)])∧Well3 H' pw∧But pw H5 H') (sz8 (by omega)) ⟨[],.nil,rfl,(fun t ht=>absurd ht List.not_mem_nil),⟨_,rfl⟩,W5,But.refl _ _⟩ ?_ ?_ ?_
      · rintro i' acc σ H' hi' ⟨ts,hA,hl,ht,⟨v,rfl⟩,W',B'⟩
        walk_at "w0"
        refine drw3 W' (by decide) (by decide) fun wn H6 a6 b6 W6 B6=>?_
        refine ⟨sz8 (by decide),fun p hp=>?_⟩
        have S7:=same_new hp (.tup [.str "weight",.int wn])
        have hN:(Tr.weight wn).At (upd H6 p (.tup [.str "weight",.int wn])) (.ref p):=by rw [Tr.At]; exact ⟨p,rfl,upd_same⟩
        have new:∃ ts:List Tr,All2 (Tr.At (upd H6 p (.tup [.str "weight",.int wn]))) ts (acc++[.ref p])∧ts.length=i'+1∧(∀ t∈ts,(t.ok∧t.dp≤2)∧t.cnt≤1):=⟨ts++[.weight wn],(hA.imp fun t y _ h=>(h.but3 W' B6).same S7).snoc hN,by rw [List.length_append,hl]; rfl,fun t m2=>by
          rcases List.mem_append.mp m2 with m2 | m2
          · exact ht t m2
          · rw [List.mem_singleton.mp m2]
            exact ⟨⟨by rw [Tr.ok]; exact ⟨a6,by omega⟩,by rw [Tr.dp]; decide⟩,by rw [Tr.cnt]; exact Nat.le_refl _⟩⟩
        obtain ⟨ts2,n1,n2,n3⟩:=new
        have W7:=W6.same S7
        have B7:=B'.trans (B6.trans (Same.but S7))
        have n3':∀ t∈ts2,t.ok∧t.dp≤2∧t.cnt≤1:=fun t m=>⟨(n3 t m).1.1,(n3 t m).1.2,(n3 t m).2⟩
        first | exact ⟨ts2,n1,n2,n3',W7,B7⟩ | exact ⟨ts2,n1,n2,n3,⟨_,rfl⟩,W7,B7⟩ | exact ⟨ts2,n1,n2,n3,W7,B7⟩
      · rintro i' acc σ H' ⟨ts,hA,hl,_⟩
        rw [← hA.len]
        omega
      rintro acc σ H6 ⟨ts2,hA,hl,ht,⟨v,rfl⟩,W6,B6⟩ t1 ht1
      have U1:=same_new ht1 (.lst acc)
      have e1:upd H6 t1 (.lst acc) t1=some (.lst acc):=upd_same
      generalize upd H6 t1 (.lst acc)=G1 at *
      walk_at "w0"
      refine ⟨sz8 (by decide),fun t2 ht2=>?_⟩
      have U2:=same_new ht2 (.tup [.str "any"])
      have hN:Tr.any.At (upd G1 t2 (.tup [.str "any"])) (.ref t2):=by rw [Tr.At]; exact ⟨t2,rfl,upd_same⟩
      generalize upd G1 t2 (.tup [.str "any"])=G2 at *
      refine ⟨sz8 (by decide),fun t3 ht3=>?_⟩
      have U3:=same_new ht3 (.lst [.ref t2])
      have e3:upd G2 t3 (.lst [.ref t2]) t3=some (.lst [.ref t2]):=upd_same
      generalize upd G2 t3 (.lst [.ref t2])=G3 at *
      have la:=hA.len
      refine ⟨t1,t3,_,_,rfl,rfl,(U2.trans U3) _ _ e1,e3,sz8 (by simp only [List.length_cons,List.length_nil]; omega),fun t4 ht4=>?_⟩
      have U4:=same_new ht4 (.lst (acc++[.ref t2]))
      have UU:=U1.trans (U2.trans (U3.trans U4))
      have nt4:=(W6.same (U1.trans (U2.trans U3))).ne ht4
      have ht':∀ t∈ts2++[Tr.any],(t.ok∧t.dp≤2)∧t.cnt≤1:=fun t m2=>by
        rcases List.mem_append.mp m2 with m2 | m2
        · exact ht t m2
        · rw [List.mem_singleton.mp m2]
          exact ⟨⟨by rw [Tr.ok]; trivial,by rw [Tr.dp]; decide⟩,by rw [Tr.cnt]; exact Nat.le_refl _⟩
      have lt':(ts2++[Tr.any]).length≤20∧1≤(ts2++[Tr.any]).length:=by rw [List.length_append,List.length_singleton]; omega
      have cs1:=sum_le (n:=1) fun t m=>(ht' t m).2
      have TN:TrsW (upd G3 t4 (.lst (acc++[.ref t2]))) t4 (acc++[.ref t2]) (ts2++[.any]):=⟨upd_same,(hA.imp fun t y _ h=>h.same UU).snoc (hN.same (U3.trans U4)),lt'.2,lt'.1,fun t m=>(ht' t m).1,by omega⟩
      have S9:=(fresh_same hpw S5 B6).trans UU
      walk_at "w0"
      first | exact ⟨_,_,TN,nt4,W6.same UU,S9⟩ | exact ⟨_,_,_,rfl,TN,nt4,W6.same UU,S9⟩
    · rw [if_neg c]
      first | exact ⟨_,_,T4,ntl,W4,S4⟩ | exact ⟨_,_,_,rfl,T4,ntl,W4,S4⟩
  clear TW ntl W3 SS
  rintro σ' Hn ⟨tl,vs0,ts,rfl,TW,ntl,W3,SS⟩
  first | rw [w_hold] | (dsimp only; rw [w_hold])
  walk_at "w0"
  refine drw3 W3 (by decide) (by decide) fun nv J1 nva nvb W2 Bnv=>?_
  have nvb:nv < 12:=nvb
  walk_at "w0"
  have TW2:=TW.but3 ntl W3 Bnv
  have SS2:=fresh_same hpw SS Bnv
  first | rw [w_hold] | (dsimp only; rw [w_hold])
  walk_at "w0"
  refine ⟨tl,nv,vs0,ts,rfl,TW2.at_,TW2.A,TW2.l20,TW2.ok,fun ll xs Ls J3 Sll fll ell hL0 hR=>?_⟩
  have nll:=W2.ne fll
  have hL:All2 (LnT a (fun l=>l≠pw) J3) Ls xs:=hL0.imp fun L y _ h=>h.mono fun l z e=>by
    obtain ⟨x1,x2,x3,q⟩:=W2
    rw [e,q] at z
    cases z
  have lx:Ls.length=ts.length:=by rw [hR.len,List.length_range]
  have lxx:=hL.len
  have l20:=TW2.l20
  walk_at "w0"
  first | rw [w_hold] | (dsimp only; rw [w_hold])
  walk_at "w0"
  refine ⟨_,.inl (SqL.of (Sll _ _ TW2.at_)),?_⟩
  have lvs:=TW2.A.len
  refine ⟨by omega,by omega,?_⟩
  have W5:=W2.same Sll
  intro rp hrp
  have Srp:=same_new hrp (.rng 0 (vs0.length:Nat))
  have nrp:=W5.ne hrp
  have erp:upd J3 rp (.rng 0 (vs0.length:Nat)) rp=some (.rng 0 (vs0.length:Nat)):=upd_same
  generalize upd J3 rp (.rng 0 (vs0.length:Nat))=J4 at *
  refine ⟨vs0.length,erp,by omega,?_⟩
  have W7:=W5.same Srp
  intro ol hol
  have Sol:=same_new hol (.lst ((List.range vs0.length).map fun i=>V.int (i:Nat)))
  have nol:=W7.ne hol
  have eol:upd J4 ol (.lst ((List.range vs0.length).map fun i=>V.int (i:Nat))) ol=some (.lst ((List.range vs0.length).map fun i=>V.int (i:Nat))):=upd_same
  generalize upd J4 ol (.lst ((List.range vs0.length).map fun i=>V.int (i:Nat)))=J6 at *
  walk_at "w0"
  first | rw [w_hold] | (dsimp only; rw [w_hold])
  walk_at "w0"
  have W8:=W7.same Sol
  intro w1 dw1 hw1 hdw1 new1
  have nw1:=W8.ne hw1
  have Mw1:=made_same (o:=.own w1) (o':=.ins a.Wishes dw1 []) hw1 hdw1
  refine ⟨w1,dw1,ll,0,.non,.non,xs,Ls,(fun l=>l≠pw),rfl,upd_same,by omega,by omega,.inl rfl,.inl rfl,Mw1 _ _ ((Srp.trans Sol) _ _ ell),(hL.imp fun L y _ h=>h.same (Srp.trans Sol)).imp (fun L y _ h=>h.same Mw1),(by first | omega | (rw [List.length_reverse]; omega)),fun lw1 J9 Bw1 elw1 ew1=>?_⟩
  have Sw1:=made_but hw1 hdw1 Bw1
  have W10:=W8.same Sw1
  have nlw1:lw1≠pw:=fun z=>by
    obtain ⟨x1,x2,x3,q⟩:=W10
    rw [z,q] at elw1
    rcases xs with _ | ⟨y0,ys⟩
    · cases elw1
    · obtain ⟨L0,_,p0,_,_,_,_,_,e0,_⟩:=hL.get (i:=0) rfl
      rw [e0] at elw1
      cases elw1
  walk_at "w0"
  first | rw [w_hold] | (dsimp only; rw [w_hold])
  walk_at "w0"
  have TW3:=TW2.same (Sll.trans (Srp.trans (Sol.trans Sw1)))
  have hL3:All2 (LnT a (fun l=>l≠pw) J9) Ls xs:=(hL.imp fun L y _ h=>h.same (Srp.trans (Sol.trans Sw1)))
  have SS3:=SS2.trans (Sll.trans (Srp.trans (Sol.trans Sw1)))
  have ll_11:=((Srp.trans (Sol.trans Sw1)) _ _ ell)
  have ol_12:=(Sw1 _ _ eol)
  obtain ⟨y1,y2,y3,ew⟩:=id W10
  refine drw3 W10 (by decide) (by decide) fun z J13 za zb W14 Bz=>?_
  have zb:z < 99:=zb
  walk_at "w0"
  have TW4:=TW3.but3 ntl W10 Bz
  have hL4:All2 (LnT a (fun l=>l≠pw) J13) Ls xs:=hL3.imp fun L y _ h=>h.but (fun l z=>z) ew Bz
  have SS4:=fresh_same hpw SS3 Bz
  have ll_15:=(Bz _ _ nll ll_11)
  have ol_16:=(Bz _ _ nol ol_12)
  have w1_17:=(Bz _ _ nw1 ew1)
  have lw1_18:=(Bz _ _ nlw1 elw1)
  refine ⟨sz8 (by first | decide | (simp only [List.length_cons,List.length_nil]; decide)),fun q1 hq1=>?_⟩
  have Sq1:=same_new hq1 (.tup [.int 5,.int 700])
  have nq1:=W14.ne hq1
  have eq1:upd J13 q1 (.tup [.int 5,.int 700]) q1=some (.tup [.int 5,.int 700]):=upd_same
  generalize upd J13 q1 (.tup [.int 5,.int 700])=J19 at *
  walk_at "w0"
  have W21:=W14.same Sq1
  refine ⟨_,SqL.of (Sq1 _ _ ll_15),fun rl hrl=>?_⟩
  have Srl:=same_new hrl (.lst xs.reverse)
  have nrl:=W21.ne hrl
  have erl:upd J19 rl (.lst xs.reverse) rl=some (.lst xs.reverse):=upd_same
  generalize upd J19 rl (.lst xs.reverse)=J20 at *
  walk_at "w0"
  have W22:=W21.same Srl
  intro w2 dw2 hw2 hdw2 new2
  have nw2:=W22.ne hw2
  have Mw2:=made_same (o:=.own w2) (o':=.ins a.Wishes dw2 []) hw2 hdw2
  refine ⟨w2,dw2,rl,z,.ref q1,.int 9,xs.reverse,Ls.reverse,(fun l=>l≠pw),rfl,upd_same,by omega,by omega,.inr ⟨q1,5,700,rfl,Mw2 _ _ (Srl _ _ eq1),by decide,by decide,by decide,by decide,by decide⟩,.inr ⟨9,rfl,by decide,by intro z; cases z⟩,Mw2 _ _ erl,(hL4.imp fun L y _ h=>h.same (Sq1.trans Srl)).rev.imp (fun L y _ h=>h.same Mw2),(by first | omega | (rw [List.length_reverse]; omega)),fun lw2 J23 Bw2 elw2 ew2=>?_⟩
  have Sw2:=made_but hw2 hdw2 Bw2
  have Sb0:=(Sq1.trans (Srl.trans Sw2))
  have TWb:=TW4.same Sb0
  have hLb:All2 (LnT a (fun _=>True) J23) Ls xs:=hL4.imp fun L y _ h=>(h.same Sb0).mono fun _ _=>trivial
  have SSb:=SS4.trans Sb0
  have ol_24:=((Sq1.trans (Srl.trans Sw2)) _ _ ol_16)
  have w1_25:=((Sq1.trans (Srl.trans Sw2)) _ _ w1_17)
  have lw1_26:=((Sq1.trans (Srl.trans Sw2)) _ _ lw1_18)
  have ws1:WsAt a J23 w1 lw1 xs:=⟨_,_,_,_,w1_25,lw1_26⟩
  have ws2:WsAt a J23 w2 lw2 xs.reverse:=⟨_,_,_,_,ew2,elw2⟩
  walk_at "w0"
  first | rw [w_hold] | (dsimp only; rw [w_hold])
  walk_at "w0"
  refine ⟨sc,tl,ns,vs0,ts,rfl,SSb.seq hS,h63,TWb.at_,TWb.A,TWb.l20,TWb.cs,(fun t m=>⟨(TWb.ok t m).1.l,(TWb.ok t m).2⟩),fun th ths Hb Sth eth lth gth=>?_⟩
  have TWc:=TWb.same Sth
  have hLc:All2 (LnT a (fun _=>True) Hb) Ls xs:=hLb.imp fun L y _ h=>h.same Sth
  have ws1c:=ws1.same Sth
  have ws2c:=ws2.same Sth
  have eol:=Sth _ _ ol_24
  have hos:∀ o∈List.range vs0.length,o < ts.length:=fun o m=>by rw [TWc.A.len]; exact List.mem_range.mp m
  rw [TWc.A.len] at hR
  first | refine ⟨⟨_,SqL.of eth⟩,?_⟩ | refine ⟨th,rfl,⟨_,SqL.of eth⟩,?_⟩
  refine ForL.by (xs:=ths) (fun _ σ G=>(∃ c1 c2,σ=[some (.ref sc),some (.ref pw),some (.int (1+r)),some (.ref tl),some (.int nv),some (.ref ll),some (.ref ol),some (.ref w1),some (.ref w2),c1,c2])∧Same Hb G) ⟨⟨_,_,rfl⟩,fun _ _ z=>z⟩ (fun i σ G _ h=>SqL.of (h.2 _ _ eth)) ?_ ?_
  rotate_left
  · rintro σ G ⟨⟨c1,c2,rfl⟩,SG⟩
    walk_at "w0"
    first | exact q _ | (first | refine hold_ret ?_ | (dsimp only; refine hold_ret ?_)) <;> (walk_at "w0"; exact q _)
  · rintro i x σ G hx ⟨⟨c1,c2,rfl⟩,SG⟩
    obtain ⟨k,p,n,hth⟩:=gth x (List.mem_of_getElem? hx)
    walk_at "w0"
    first | refine ⟨by decide,by decide,?_⟩ | skip
    refine ForR.by (n:=2) (fun _ σ G'=>(∃ c2,σ=[some (.ref sc),some (.ref pw),some (.int (1+r)),some (.ref tl),some (.int nv),some (.ref ll),some (.ref ol),some (.ref w1),some (.ref w2),some x,c2])∧Same Hb G') ⟨⟨_,rfl⟩,SG⟩ ?_ ?_
    · rintro j σ G' hj ⟨⟨c2,rfl⟩,S'⟩
      walk_at "w0"
      have TWd:=TWc.same S'
      refine ⟨w1,lw1,tl,ol,nv,x,_,vs0,xs,ts,List.range vs0.length,Ls,k,p,n,rfl,TWd.at_,TWd.A,TWd.l20,TWd.ok,S' _ _ eol,hos,by rw [List.length_range]; omega,ws1c.same S',hLc.imp (fun L y _ h=>h.same S'),hR,hth.same S',fun G2 S2=>?_⟩
      have S'2:=S'.trans S2
      have TWe:=TWc.same S'2
      exists Bool.not_true
      refine ⟨_,SqL.of (S'2 _ _ eol),fun ro hro=>?_⟩
      have S3:=same_new hro (.lst ((List.range vs0.length).map fun i=>V.int (i:Nat)).reverse)
      have ero:upd G2 ro (.lst ((List.range vs0.length).map fun i=>V.int (i:Nat)).reverse) ro=some (.lst ((List.range vs0.length).reverse.map fun i=>V.int (i:Nat))):=by rw [upd_same,List.map_reverse]
      generalize upd G2 ro (.lst ((List.range vs0.length).map fun i=>V.int (i:Nat)).reverse)=G3 at *
      have S'3:=S'2.trans S3
      have TWf:=TWc.same S'3
      walk_at "w0"
      refine ⟨w2,lw2,tl,ro,nv,x,_,vs0,xs.reverse,ts,(List.range vs0.length).reverse,Ls.reverse,k,p,n,rfl,TWf.at_,TWf.A,TWf.l20,TWf.ok,ero,(fun o m=>hos o (List.mem_reverse.mp m)),by rw [List.length_reverse,List.length_range]; omega,ws2c.same S'3,(hLc.imp (fun L y _ h=>h.same S'3)).rev,hR.rev,hth.same S'3,fun G4 S4=>?_⟩
      exists Bool.not_true
      first | exact ⟨⟨_,rfl⟩,S'3.trans S4⟩ | exact S'3.trans S4
    · rintro σ G' ⟨⟨c2,rfl⟩,S'⟩
      first | exact ⟨⟨_,_,rfl⟩,S'⟩ | (walk_at "w0"; exact S')
end
end Bw
set_option Elab.async false
set_option linter.all false
namespace Hd
open PySem PySem.W L2
set_option maxRecDepth 100000
set_option maxHeartbeats 0
class AT where
  p:Program
  a:List Str
  t:List String
class CP where
  P:Params
section
variable [A:AT]
noncomputable def s (i:Nat):Str:=A.a.getD i Str.empty
noncomputable def t (i:Nat):String:=A.t.getD i ""
noncomputable def stm (i:Nat):Stmt:=A.p.main.body.getD i (.Pass ⟨0,0,0,0⟩)
noncomputable abbrev N:Obj→BT→BT→BT:=BT.node
noncomputable abbrev L:BT:=BT.nil
open PyData
noncomputable section
variable [c:CP]
noncomputable def ob (i:Nat) (x:Array Value):Obj:=Obj.mk (.type (t i)) none (.fields x) #[]
noncomputable def sq (i:Nat) (x:Array Value):Obj:=Obj.mk (.type (t i)) none (.seq x 0) #[]
noncomputable def fo (i n q:Nat) (x:Stmt) (k:Nat) (g:List Addr) (d e y:Value) (v:Nat) (u:Tok) (z:Addr):Obj:=Obj.mk (.type (t i)) none (.func (FuncData.mk (s n) (s q) (defArgs x) (FuncBody.stmts (defBody x)) (defScope x) k [] d e y (.str (s v) u) none (.ref z) .none 0)) #[]
noncomputable abbrev f (n:Nat) (k:Tok):Value:=.str (s n) k
noncomputable abbrev r (n:Addr):Value:=.ref n
noncomputable abbrev j (n:Int) (k:Tok):Value:=.int n k
noncomputable def d (i:Nat) (k:Tok) (v:Value):DictEntry:=DictEntry.mk (keyHash c.P (s i)) (f i k) v
noncomputable def di (x:Array DictEntry) (n:Nat):Obj:=Obj.mk (.type (t 0)) none (.dict x n) #[]
noncomputable def fn (n q:Nat) (x:Stmt):Obj:=Obj.mk .none none (.func (FuncData.mk (s n) (s q) (defArgs x) (FuncBody.stmts (defBody x)) (defScope x) 0 [] .none .none .none .none none .none .none 0)) #[]
noncomputable def fd (x:Array Value):Obj:=Obj.mk .none none (.fields x) #[]
noncomputable abbrev i (n:Int):Value:=.int n 0
noncomputable abbrev u:Value:=.none
noncomputable abbrev T (n:Nat):Value:=.type (t n)
noncomputable abbrev bi (n:Nat):Value:=.builtin (t n)
def o00:Obj:=sq 1 #[]
def o01:Obj:=fd #[]
def o02:Obj:=ob 2 #[(f 159 182),(f 159 183),(f 16 184),(i 1),(i 0),(i 0),(i 0),(i 0),(r 11),(.bool false),(i 181),(r 12),u,u,u,u,(i 185),(i 1),(f 16 186)]
def o03:Obj:=(Obj.mk (.type (t 14)) none .plain #[(some (r 13)),(some (r 3)),(some (r 3)),none,(some (f 56 164)),none,(some (r 0))])
def o04:Obj:=di #[(d 21 165 (f 22 194)),(d 23 166 .none),(d 24 167 .none),(d 25 168 (bi 3)),(d 26 169 .none),(d 27 170 (r 6)),(d 28 171 (r 4)),(d 29 173 (f 16 172)),(d 30 174 .none),(d 31 193 (r 21)),(d 32 213 (r 31))] 11
def o05:Obj:=fd #[(i 1),(i 0),(r 20),(i 5),(i 0),(r 27)]
def o06:Obj:=sq 1 #[(f 45 190)]
def o07:Obj:=fn 31 31 (stm 0)
def o08:Obj:=ob 2 #[(f 31 187),(f 31 188),(f 16 189),(i 1),(i 1),(i 0),(i 0),(i 3),(r 15),(.bool true),(i 181),(r 16),u,(r 17),(r 18),(r 19),(i 191),(i 1),(f 16 192)]
def o09:Obj:=fo 11 31 31 (stm 0) 3 [] .none .none .none 56 164 20
def o0a:Obj:=sq 1 #[(T 6)]
def o0b:Obj:=ob 12 #[(bi 17),(T 5)]
def o0c:Obj:=di #[(d 0 203 (f 22 194)),(d 2 205 (f 32 204)),(d 4 207 (j 5 206)),(d 9 208 (r 29))] 4
def o0d:Obj:=ob 2 #[(f 32 198),(f 32 199),(f 16 200),(i 5),(i 0),(i 0),(i 0),(i 0),(r 25),(.bool false),(i 181),(r 26),u,u,u,u,(i 201),(i 5),(f 16 202)]
def o0e:Obj:=(Obj.mk (.type (t 14)) none .plain #[(some (r 27)),(some (r 3)),(some (r 24)),none,(some (f 22 194)),none,(some (r 0))])
def o0f:Obj:=di #[(d 0 203 (f 22 194)),(d 4 207 (j 5 206)),(d 9 208 (r 29)),(d 55 210 (r 32)),(d 23 211 .none)] 3
def o0g:Obj:=(Obj.mk (.type (t 5)) none (.cls (ClassData.mk (s 32) [(T 6)] [(r 31),(T 6),(T 7),(T 8),(T 9)] 30 (s 32) true [] [] false none false)) #[(some (r 22)),none,(some (f 32 196)),(some (f 32 204)),(some (bi 10)),(some (.bool true))])
def o0h:Obj:=ob 15 #[(f 55 209),(r 31),(bi 16),u]
def o0i:Obj:=ob 4 #[(r 31),(r 31),(r 31)]
def o0j:Obj:=ob 12 #[(bi 13),(r 31)]
def o0k:Obj:=di #[(d 21 165 (f 22 194)),(d 23 166 .none),(d 24 167 .none),(d 25 168 (bi 3)),(d 26 169 .none),(d 27 170 (r 6)),(d 28 171 (r 4)),(d 29 173 (f 16 172)),(d 30 174 .none),(d 31 193 (r 21)),(d 32 213 (r 31)),(d 33 229 (r 44))] 12
def o0l:Obj:=fd #[(i 1),(i 0),(r 20),(i 5),(i 0),(r 27),(i 7),(i 0),(r 40)]
def o0m:Obj:=(Obj.mk (.type (t 5)) none (.cls (ClassData.mk (s 32) [(T 6)] [(r 31),(T 6),(T 7),(T 8),(T 9)] 30 (s 32) true [] [(r 44)] false none false)) #[(some (r 22)),none,(some (f 32 196)),(some (f 32 204)),(some (bi 10)),(some (.bool true))])
def o0n:Obj:=sq 1 #[(r 31)]
def o0o:Obj:=di #[(d 0 221 (f 22 194)),(d 2 223 (f 33 222)),(d 4 225 (j 7 224)),(d 9 226 (r 42))] 4
def o0p:Obj:=ob 2 #[(f 33 216),(f 33 217),(f 16 218),(i 7),(i 0),(i 0),(i 0),(i 0),(r 38),(.bool false),(i 181),(r 39),u,u,u,u,(i 219),(i 7),(f 16 220)]
def o0q:Obj:=(Obj.mk (.type (t 14)) none .plain #[(some (r 40)),(some (r 3)),(some (r 37)),none,(some (f 22 194)),none,(some (r 0))])
def o0r:Obj:=di #[(d 0 221 (f 22 194)),(d 4 225 (j 7 224)),(d 9 226 (r 42)),(d 23 227 .none)] 2
def o0s:Obj:=(Obj.mk (.type (t 5)) none (.cls (ClassData.mk (s 33) [(r 31)] [(r 44),(r 31),(T 6),(T 7),(T 8),(T 9)] 43 (s 33) true [] [] false none false)) #[(some (r 35)),none,(some (f 33 214)),(some (f 33 222)),(some (bi 10)),(some (.bool true))])
def o0t:Obj:=ob 4 #[(r 44),(r 44),(r 44)]
def o0u:Obj:=ob 12 #[(bi 13),(r 44)]
def o0v:Obj:=di #[(d 21 165 (f 22 194)),(d 23 166 .none),(d 24 167 .none),(d 25 168 (bi 3)),(d 26 169 .none),(d 27 170 (r 6)),(d 28 171 (r 4)),(d 29 173 (f 16 172)),(d 30 174 .none),(d 31 193 (r 21)),(d 32 213 (r 31)),(d 33 229 (r 44)),(d 34 245 (r 56))] 13
def o0w:Obj:=fd #[(i 1),(i 0),(r 20),(i 5),(i 0),(r 27),(i 7),(i 0),(r 40),(i 9),(i 0),(r 52)]
def o0x:Obj:=(Obj.mk (.type (t 5)) none (.cls (ClassData.mk (s 32) [(T 6)] [(r 31),(T 6),(T 7),(T 8),(T 9)] 30 (s 32) true [] [(r 44),(r 56)] false none false)) #[(some (r 22)),none,(some (f 32 196)),(some (f 32 204)),(some (bi 10)),(some (.bool true))])
def o0y:Obj:=di #[(d 0 237 (f 22 194)),(d 2 239 (f 34 238)),(d 4 241 (j 9 240)),(d 9 242 (r 54))] 4
def o0z:Obj:=ob 2 #[(f 34 232),(f 34 233),(f 16 234),(i 9),(i 0),(i 0),(i 0),(i 0),(r 50),(.bool false),(i 181),(r 51),u,u,u,u,(i 235),(i 9),(f 16 236)]
def o0A:Obj:=(Obj.mk (.type (t 14)) none .plain #[(some (r 52)),(some (r 3)),(some (r 49)),none,(some (f 22 194)),none,(some (r 0))])
def o0B:Obj:=di #[(d 0 237 (f 22 194)),(d 4 241 (j 9 240)),(d 9 242 (r 54)),(d 23 243 .none)] 2
def o0C:Obj:=(Obj.mk (.type (t 5)) none (.cls (ClassData.mk (s 34) [(r 31)] [(r 56),(r 31),(T 6),(T 7),(T 8),(T 9)] 55 (s 34) true [] [] false none false)) #[(some (r 47)),none,(some (f 34 230)),(some (f 34 238)),(some (bi 10)),(some (.bool true))])
def o0D:Obj:=ob 4 #[(r 56),(r 56),(r 56)]
def o0E:Obj:=ob 12 #[(bi 13),(r 56)]
def o0F:Obj:=di #[(d 21 165 (f 22 194)),(d 23 166 .none),(d 24 167 .none),(d 25 168 (bi 3)),(d 26 169 .none),(d 27 170 (r 6)),(d 28 171 (r 4)),(d 29 173 (f 16 172)),(d 30 174 .none),(d 31 193 (r 21)),(d 32 213 (r 31)),(d 33 229 (r 44)),(d 34 245 (r 56)),(d 35 261 (r 68))] 14
def o0G:Obj:=fd #[(i 1),(i 0),(r 20),(i 5),(i 0),(r 27),(i 7),(i 0),(r 40),(i 9),(i 0),(r 52),(i 11),(i 0),(r 64)]
def o0H:Obj:=(Obj.mk (.type (t 5)) none (.cls (ClassData.mk (s 32) [(T 6)] [(r 31),(T 6),(T 7),(T 8),(T 9)] 30 (s 32) true [] [(r 44),(r 56),(r 68)] false none false)) #[(some (r 22)),none,(some (f 32 196)),(some (f 32 204)),(some (bi 10)),(some (.bool true))])
def o0I:Obj:=di #[(d 0 253 (f 22 194)),(d 2 255 (f 35 254)),(d 4 257 (j 11 256)),(d 9 258 (r 66))] 4
def o0J:Obj:=ob 2 #[(f 35 248),(f 35 249),(f 16 250),(i 11),(i 0),(i 0),(i 0),(i 0),(r 62),(.bool false),(i 181),(r 63),u,u,u,u,(i 251),(i 11),(f 16 252)]
def o0K:Obj:=(Obj.mk (.type (t 14)) none .plain #[(some (r 64)),(some (r 3)),(some (r 61)),none,(some (f 22 194)),none,(some (r 0))])
def o0L:Obj:=di #[(d 0 253 (f 22 194)),(d 4 257 (j 11 256)),(d 9 258 (r 66)),(d 23 259 .none)] 2
def o0M:Obj:=(Obj.mk (.type (t 5)) none (.cls (ClassData.mk (s 35) [(r 31)] [(r 68),(r 31),(T 6),(T 7),(T 8),(T 9)] 67 (s 35) true [] [] false none false)) #[(some (r 59)),none,(some (f 35 246)),(some (f 35 254)),(some (bi 10)),(some (.bool true))])
def o0N:Obj:=ob 4 #[(r 68),(r 68),(r 68)]
def o0O:Obj:=ob 12 #[(bi 13),(r 68)]
def o0P:Obj:=di #[(d 21 165 (f 98 304)),(d 23 166 .none),(d 24 167 .none),(d 25 168 (bi 3)),(d 26 169 .none),(d 27 170 (r 6)),(d 28 171 (r 4)),(d 29 173 (f 16 172)),(d 30 174 .none),(d 31 193 (r 21)),(d 32 213 (r 31)),(d 33 229 (r 44)),(d 34 245 (r 56)),(d 35 261 (r 68)),(d 60 277 (r 80)),(d 73 286 (r 89)),(d 74 295 (r 96)),(d 75 303 (r 103)),(d 76 307 (j 60 306)),(d 77 309 (j 1440 308)),(d 61 316 (r 110)),(d 78 323 (r 117))] 22
def o0Q:Obj:=fd #[(i 1),(i 0),(r 20),(i 5),(i 0),(r 27),(i 7),(i 0),(r 40),(i 9),(i 0),(r 52),(i 11),(i 0),(r 64),(i 13),(i 0),(r 76),(i 16),(i 0),(r 88),(i 18),(i 0),(r 95),(i 20),(i 0),(r 102),(i 25),(i 0),(r 109),(i 27),(i 0),(r 116)]
def o0R:Obj:=(Obj.mk (.type (t 5)) none (.cls (ClassData.mk (s 32) [(T 6)] [(r 31),(T 6),(T 7),(T 8),(T 9)] 30 (s 32) true [] [(r 44),(r 56),(r 68),(r 80)] false none false)) #[(some (r 22)),none,(some (f 32 196)),(some (f 32 204)),(some (bi 10)),(some (.bool true))])
def o0S:Obj:=di #[(d 0 269 (f 22 194)),(d 2 271 (f 60 270)),(d 4 273 (j 13 272)),(d 9 274 (r 78))] 4
def o0T:Obj:=ob 2 #[(f 60 264),(f 60 265),(f 16 266),(i 13),(i 0),(i 0),(i 0),(i 0),(r 74),(.bool false),(i 181),(r 75),u,u,u,u,(i 267),(i 13),(f 16 268)]
def o0U:Obj:=(Obj.mk (.type (t 14)) none .plain #[(some (r 76)),(some (r 3)),(some (r 73)),none,(some (f 22 194)),none,(some (r 0))])
def o0V:Obj:=di #[(d 0 269 (f 22 194)),(d 4 273 (j 13 272)),(d 9 274 (r 78)),(d 23 275 .none)] 2
def o0W:Obj:=(Obj.mk (.type (t 5)) none (.cls (ClassData.mk (s 60) [(r 31)] [(r 80),(r 31),(T 6),(T 7),(T 8),(T 9)] 79 (s 60) true [] [] false none false)) #[(some (r 71)),none,(some (f 60 262)),(some (f 60 270)),(some (bi 10)),(some (.bool true))])
def o0X:Obj:=ob 4 #[(r 80),(r 80),(r 80)]
def o0Y:Obj:=ob 12 #[(bi 13),(r 80)]
def o0Z:Obj:=sq 1 #[(f 118 283)]
def o10:Obj:=fn 73 73 (stm 8)
def o11:Obj:=ob 2 #[(f 73 280),(f 73 281),(f 16 282),(i 16),(i 1),(i 0),(i 0),(i 3),(r 83),(.bool true),(i 181),(r 84),u,(r 85),(r 86),(r 87),(i 284),(i 16),(f 16 285)]
def o12:Obj:=fo 11 73 73 (stm 8) 3 [] .none .none .none 156 278 88
def o13:Obj:=sq 1 #[(f 118 290),(f 163 291),(f 180 292)]
def o14:Obj:=fn 74 74 (stm 9)
def o15:Obj:=ob 2 #[(f 74 287),(f 74 288),(f 16 289),(i 18),(i 3),(i 0),(i 0),(i 3),(r 90),(.bool true),(i 181),(r 91),u,(r 92),(r 93),(r 94),(i 293),(i 18),(f 16 294)]
def o16:Obj:=fo 11 74 74 (stm 9) 3 [] .none .none .none 156 278 95
def o17:Obj:=sq 1 #[(f 118 299),(f 163 300)]
def o18:Obj:=fn 75 75 (stm 10)
def o19:Obj:=ob 2 #[(f 75 296),(f 75 297),(f 16 298),(i 20),(i 2),(i 0),(i 0),(i 3),(r 97),(.bool true),(i 181),(r 98),u,(r 99),(r 100),(r 101),(i 301),(i 20),(f 16 302)]
def o1a:Obj:=fo 11 75 75 (stm 10) 3 [] .none .none .none 156 278 102
def o1b:Obj:=sq 1 #[(f 118 313)]
def o1c:Obj:=fn 61 61 (stm 14)
def o1d:Obj:=ob 2 #[(f 61 310),(f 61 311),(f 16 312),(i 25),(i 1),(i 0),(i 0),(i 3),(r 104),(.bool true),(i 181),(r 105),u,(r 106),(r 107),(r 108),(i 314),(i 25),(f 16 315)]
def o1e:Obj:=fo 11 61 61 (stm 14) 3 [] .none .none .none 98 304 109
def o1f:Obj:=sq 1 #[(f 118 320)]
def o1g:Obj:=fn 78 78 (stm 15)
def o1h:Obj:=ob 2 #[(f 78 317),(f 78 318),(f 16 319),(i 27),(i 1),(i 0),(i 0),(i 3),(r 111),(.bool true),(i 181),(r 112),u,(r 113),(r 114),(r 115),(i 321),(i 27),(f 16 322)]
def o1i:Obj:=fo 11 78 78 (stm 15) 3 [] .none .none .none 98 304 116
def o1j:Obj:=di #[(d 21 165 (f 168 390)),(d 23 166 .none),(d 24 167 .none),(d 25 168 (bi 3)),(d 26 169 .none),(d 27 170 (r 6)),(d 28 171 (r 4)),(d 29 173 (f 16 172)),(d 30 174 .none),(d 31 193 (r 21)),(d 32 213 (r 31)),(d 33 229 (r 44)),(d 34 245 (r 56)),(d 35 261 (r 68)),(d 60 277 (r 80)),(d 73 286 (r 89)),(d 74 295 (r 96)),(d 75 303 (r 103)),(d 76 307 (j 60 306)),(d 77 309 (j 1440 308)),(d 61 316 (r 110)),(d 78 323 (r 117)),(d 79 330 (r 124)),(d 80 337 (r 131)),(d 81 344 (r 138)),(d 82 348 (f 83 347)),(d 84 350 (j 8 349)),(d 85 356 (r 143)),(d 86 389 (r 160))] 29
def o1k:Obj:=fd #[(i 1),(i 0),(r 20),(i 5),(i 0),(r 27),(i 7),(i 0),(r 40),(i 9),(i 0),(r 52),(i 11),(i 0),(r 64),(i 13),(i 0),(r 76),(i 16),(i 0),(r 88),(i 18),(i 0),(r 95),(i 20),(i 0),(r 102),(i 25),(i 0),(r 109),(i 27),(i 0),(r 116),(i 33),(i 0),(r 123),(i 36),(i 0),(r 130),(i 39),(i 0),(r 137),(i 45),(i 0),(r 142),(i 49),(i 0),(r 149)]
def o1l:Obj:=sq 1 #[(f 170 327)]
def o1m:Obj:=fn 79 79 (stm 16)
def o1n:Obj:=ob 2 #[(f 79 324),(f 79 325),(f 16 326),(i 33),(i 1),(i 0),(i 0),(i 3),(r 118),(.bool true),(i 181),(r 119),u,(r 120),(r 121),(r 122),(i 328),(i 33),(f 16 329)]
def o1o:Obj:=fo 11 79 79 (stm 16) 3 [] .none .none .none 98 304 123
def o1p:Obj:=sq 1 #[(f 103 334)]
def o1q:Obj:=fn 80 80 (stm 17)
def o1r:Obj:=ob 2 #[(f 80 331),(f 80 332),(f 16 333),(i 36),(i 1),(i 0),(i 0),(i 3),(r 125),(.bool true),(i 181),(r 126),u,(r 127),(r 128),(r 129),(i 335),(i 36),(f 16 336)]
def o1s:Obj:=fo 11 80 80 (stm 17) 3 [] .none .none .none 98 304 130
def o1t:Obj:=sq 1 #[(f 123 341)]
def o1u:Obj:=fn 81 81 (stm 18)
def o1v:Obj:=ob 2 #[(f 81 338),(f 81 339),(f 16 340),(i 39),(i 1),(i 0),(i 0),(i 3),(r 132),(.bool true),(i 181),(r 133),u,(r 134),(r 135),(r 136),(i 342),(i 39),(f 16 343)]
def o1w:Obj:=fo 11 81 81 (stm 18) 3 [] .none .none .none 98 304 137
def o1x:Obj:=fn 85 85 (stm 22)
def o1y:Obj:=ob 2 #[(f 85 351),(f 85 352),(f 16 353),(i 45),(i 1),(i 0),(i 0),(i 3),(r 139),(.bool true),(i 181),(r 140),u,u,u,(r 141),(i 354),(i 45),(f 16 355)]
def o1z:Obj:=fo 11 85 85 (stm 22) 3 [] .none .none .none 136 345 142
def o1A:Obj:=di #[(d 0 364 (f 136 345)),(d 2 366 (f 86 365)),(d 4 368 (j 49 367)),(d 5 378 (r 157)),(d 9 382 (r 158))] 5
def o1B:Obj:=fd #[(i 51),(i 4),(r 156)]
def o1C:Obj:=ob 2 #[(f 86 359),(f 86 360),(f 16 361),(i 49),(i 0),(i 0),(i 0),(i 0),(r 147),(.bool false),(i 181),(r 148),u,u,u,u,(i 362),(i 49),(f 16 363)]
def o1D:Obj:=(Obj.mk (.type (t 14)) none .plain #[(some (r 149)),(some (r 3)),(some (r 146)),none,(some (f 136 345)),none,(some (r 0))])
def o1E:Obj:=sq 1 #[(f 10 372),(f 64 373),(f 65 374),(f 143 375)]
def o1F:Obj:=fn 5 157 (inClass (stm 23) 0)
def o1G:Obj:=ob 2 #[(f 5 369),(f 157 370),(f 16 371),(i 51),(i 4),(i 0),(i 0),(i 3),(r 151),(.bool true),(i 181),(r 152),u,(r 153),(r 154),(r 155),(i 376),(i 51),(f 16 377)]
def o1H:Obj:=fo 11 5 157 (inClass (stm 23) 0) 3 [] .none .none .none 136 345 156
def o1I:Obj:=sq 1 #[(f 64 379),(f 65 380),(f 143 381)]
def o1J:Obj:=di #[(d 0 364 (f 136 345)),(d 4 368 (j 49 367)),(d 5 378 (r 157)),(d 9 382 (r 158)),(d 54 384 (r 161)),(d 55 386 (r 162)),(d 23 387 .none)] 4
def o1K:Obj:=(Obj.mk (.type (t 5)) none (.cls (ClassData.mk (s 86) [(T 9)] [(r 160),(T 9)] 159 (s 86) true [] [] false none false)) #[none,none,(some (f 86 357)),(some (f 86 365)),(some (bi 20)),(some (.bool true))])
def o1L:Obj:=ob 15 #[(f 54 383),(r 160),(bi 18),(bi 19)]
def o1M:Obj:=ob 15 #[(f 55 385),(r 160),(bi 16),u]
def o1N:Obj:=ob 4 #[(r 160),(r 160),(r 160)]
def o1O:Obj:=ob 12 #[(bi 13),(r 160)]
def o1P:Obj:=di #[(d 21 165 (f 1 398)),(d 23 166 .none),(d 24 167 .none),(d 25 168 (bi 3)),(d 26 169 .none),(d 27 170 (r 6)),(d 28 171 (r 4)),(d 29 173 (f 16 172)),(d 30 174 .none),(d 31 193 (r 21)),(d 32 213 (r 31)),(d 33 229 (r 44)),(d 34 245 (r 56)),(d 35 261 (r 68)),(d 60 277 (r 80)),(d 73 286 (r 89)),(d 74 295 (r 96)),(d 75 303 (r 103)),(d 76 307 (j 60 306)),(d 77 309 (j 1440 308)),(d 61 316 (r 110)),(d 78 323 (r 117)),(d 79 330 (r 124)),(d 80 337 (r 131)),(d 81 344 (r 138)),(d 82 348 (f 83 347)),(d 84 350 (j 8 349)),(d 85 356 (r 143)),(d 86 389 (r 160)),(d 87 397 (r 169)),(d 44 419 (r 179))] 31
def o1Q:Obj:=fd #[(i 1),(i 0),(r 20),(i 5),(i 0),(r 27),(i 7),(i 0),(r 40),(i 9),(i 0),(r 52),(i 11),(i 0),(r 64),(i 13),(i 0),(r 76),(i 16),(i 0),(r 88),(i 18),(i 0),(r 95),(i 20),(i 0),(r 102),(i 25),(i 0),(r 109),(i 27),(i 0),(r 116),(i 33),(i 0),(r 123),(i 36),(i 0),(r 130),(i 39),(i 0),(r 137),(i 45),(i 0),(r 142),(i 49),(i 0),(r 149),(i 60),(i 0),(r 168),(i 65),(i 0),(r 175)]
def o1R:Obj:=fn 87 87 (stm 25)
def o1S:Obj:=ob 2 #[(f 87 392),(f 87 393),(f 16 394),(i 60),(i 1),(i 0),(i 0),(i 3),(r 165),(.bool true),(i 181),(r 166),u,u,u,(r 167),(i 395),(i 60),(f 16 396)]
def o1T:Obj:=fo 11 87 87 (stm 25) 3 [] .none .none .none 168 390 168
def o1U:Obj:=di #[(d 0 407 (f 1 398)),(d 2 409 (f 44 408)),(d 4 411 (j 65 410)),(d 9 412 (r 177))] 4
def o1V:Obj:=ob 2 #[(f 44 402),(f 44 403),(f 16 404),(i 65),(i 0),(i 0),(i 0),(i 0),(r 173),(.bool false),(i 181),(r 174),u,u,u,u,(i 405),(i 65),(f 16 406)]
def o1W:Obj:=(Obj.mk (.type (t 14)) none .plain #[(some (r 175)),(some (r 3)),(some (r 172)),none,(some (f 1 398)),none,(some (r 0))])
def o1X:Obj:=di #[(d 0 407 (f 1 398)),(d 4 411 (j 65 410)),(d 9 412 (r 177)),(d 54 414 (r 180)),(d 55 416 (r 181)),(d 23 417 .none)] 4
def o1Y:Obj:=(Obj.mk (.type (t 5)) none (.cls (ClassData.mk (s 44) [(T 9)] [(r 179),(T 9)] 178 (s 44) true [] [] false none false)) #[none,none,(some (f 44 400)),(some (f 44 408)),(some (bi 20)),(some (.bool true))])
def o1Z:Obj:=ob 15 #[(f 54 413),(r 179),(bi 18),(bi 19)]
def o20:Obj:=ob 15 #[(f 55 415),(r 179),(bi 16),u]
def o21:Obj:=ob 4 #[(r 179),(r 179),(r 179)]
def o22:Obj:=ob 12 #[(bi 13),(r 179)]
def o23:Obj:=di #[(d 21 165 (f 1 398)),(d 23 166 .none),(d 24 167 .none),(d 25 168 (bi 3)),(d 26 169 .none),(d 27 170 (r 6)),(d 28 171 (r 4)),(d 29 173 (f 16 172)),(d 30 174 .none),(d 31 193 (r 21)),(d 32 213 (r 31)),(d 33 229 (r 44)),(d 34 245 (r 56)),(d 35 261 (r 68)),(d 60 277 (r 80)),(d 73 286 (r 89)),(d 74 295 (r 96)),(d 75 303 (r 103)),(d 76 307 (j 60 306)),(d 77 309 (j 1440 308)),(d 61 316 (r 110)),(d 78 323 (r 117)),(d 79 330 (r 124)),(d 80 337 (r 131)),(d 81 344 (r 138)),(d 82 348 (f 83 347)),(d 84 350 (j 8 349)),(d 85 356 (r 143)),(d 86 389 (r 160)),(d 87 397 (r 169)),(d 44 419 (r 179)),(d 46 463 (r 214))] 32
def o24:Obj:=fd #[(i 1),(i 0),(r 20),(i 5),(i 0),(r 27),(i 7),(i 0),(r 40),(i 9),(i 0),(r 52),(i 11),(i 0),(r 64),(i 13),(i 0),(r 76),(i 16),(i 0),(r 88),(i 18),(i 0),(r 95),(i 20),(i 0),(r 102),(i 25),(i 0),(r 109),(i 27),(i 0),(r 116),(i 33),(i 0),(r 123),(i 36),(i 0),(r 130),(i 39),(i 0),(r 137),(i 45),(i 0),(r 142),(i 49),(i 0),(r 149),(i 60),(i 0),(r 168),(i 65),(i 0),(r 175),(i 67),(i 0),(r 189)]
def o25:Obj:=(Obj.mk (.type (t 5)) none (.cls (ClassData.mk (s 44) [(T 9)] [(r 179),(T 9)] 178 (s 44) true [] [(r 214)] false none false)) #[none,none,(some (f 44 400)),(some (f 44 408)),(some (bi 20)),(some (.bool true))])
def o26:Obj:=sq 1 #[(r 179)]
def o27:Obj:=di #[(d 0 427 (f 1 398)),(d 2 429 (f 46 428)),(d 4 431 (j 67 430)),(d 6 439 (r 197)),(d 7 449 (r 204)),(d 8 459 (r 211)),(d 9 460 (r 212))] 7
def o28:Obj:=fd #[(i 69),(i 4),(r 196),(i 72),(i 4),(r 203),(i 75),(i 4),(r 210)]
def o29:Obj:=ob 2 #[(f 46 422),(f 46 423),(f 16 424),(i 67),(i 0),(i 0),(i 0),(i 0),(r 187),(.bool false),(i 181),(r 188),u,u,u,u,(i 425),(i 67),(f 16 426)]
def o2a:Obj:=(Obj.mk (.type (t 14)) none .plain #[(some (r 189)),(some (r 3)),(some (r 186)),none,(some (f 1 398)),none,(some (r 0))])
def o2b:Obj:=sq 1 #[(f 10 435),(f 110 436)]
def o2c:Obj:=fn 6 67 (inClass (stm 28) 0)
def o2d:Obj:=ob 2 #[(f 6 432),(f 67 433),(f 16 434),(i 69),(i 2),(i 0),(i 0),(i 3),(r 191),(.bool true),(i 181),(r 192),u,(r 193),(r 194),(r 195),(i 437),(i 69),(f 16 438)]
def o2e:Obj:=fo 11 6 67 (inClass (stm 28) 0) 3 [] .none .none .none 1 398 196
def o2f:Obj:=sq 1 #[(f 10 443),(f 11 444),(f 12 445),(f 13 446)]
def o2g:Obj:=fn 7 124 (inClass (stm 28) 1)
def o2h:Obj:=ob 2 #[(f 7 440),(f 124 441),(f 16 442),(i 72),(i 4),(i 0),(i 0),(i 3),(r 198),(.bool true),(i 181),(r 199),u,(r 200),(r 201),(r 202),(i 447),(i 72),(f 16 448)]
def o2i:Obj:=fo 11 7 124 (inClass (stm 28) 1) 3 [] .none .none .none 1 398 203
def o2j:Obj:=sq 1 #[(f 10 453),(f 64 454),(f 65 455),(f 66 456)]
def o2k:Obj:=fn 8 154 (inClass (stm 28) 2)
def o2l:Obj:=ob 2 #[(f 8 450),(f 154 451),(f 16 452),(i 75),(i 4),(i 0),(i 0),(i 3),(r 205),(.bool true),(i 181),(r 206),u,(r 207),(r 208),(r 209),(i 457),(i 75),(f 16 458)]
def o2m:Obj:=fo 11 8 154 (inClass (stm 28) 2) 3 [] .none .none .none 1 398 210
def o2n:Obj:=di #[(d 0 427 (f 1 398)),(d 4 431 (j 67 430)),(d 6 439 (r 197)),(d 7 449 (r 204)),(d 8 459 (r 211)),(d 9 460 (r 212)),(d 23 461 .none)] 2
def o2o:Obj:=(Obj.mk (.type (t 5)) none (.cls (ClassData.mk (s 46) [(r 179)] [(r 214),(r 179),(T 9)] 213 (s 46) true [] [] false none false)) #[(some (r 184)),none,(some (f 46 420)),(some (f 46 428)),(some (bi 20)),(some (.bool true))])
def o2p:Obj:=ob 4 #[(r 214),(r 214),(r 214)]
def o2q:Obj:=ob 12 #[(bi 13),(r 214)]
def o2r:Obj:=di #[(d 21 165 (f 1 398)),(d 23 166 .none),(d 24 167 .none),(d 25 168 (bi 3)),(d 26 169 .none),(d 27 170 (r 6)),(d 28 171 (r 4)),(d 29 173 (f 16 172)),(d 30 174 .none),(d 31 193 (r 21)),(d 32 213 (r 31)),(d 33 229 (r 44)),(d 34 245 (r 56)),(d 35 261 (r 68)),(d 60 277 (r 80)),(d 73 286 (r 89)),(d 74 295 (r 96)),(d 75 303 (r 103)),(d 76 307 (j 60 306)),(d 77 309 (j 1440 308)),(d 61 316 (r 110)),(d 78 323 (r 117)),(d 79 330 (r 124)),(d 80 337 (r 131)),(d 81 344 (r 138)),(d 82 348 (f 83 347)),(d 84 350 (j 8 349)),(d 85 356 (r 143)),(d 86 389 (r 160)),(d 87 397 (r 169)),(d 44 419 (r 179)),(d 46 463 (r 214)),(d 88 516 (r 254))] 33
def o2s:Obj:=fd #[(i 1),(i 0),(r 20),(i 5),(i 0),(r 27),(i 7),(i 0),(r 40),(i 9),(i 0),(r 52),(i 11),(i 0),(r 64),(i 13),(i 0),(r 76),(i 16),(i 0),(r 88),(i 18),(i 0),(r 95),(i 20),(i 0),(r 102),(i 25),(i 0),(r 109),(i 27),(i 0),(r 116),(i 33),(i 0),(r 123),(i 36),(i 0),(r 130),(i 39),(i 0),(r 137),(i 45),(i 0),(r 142),(i 49),(i 0),(r 149),(i 60),(i 0),(r 168),(i 65),(i 0),(r 175),(i 67),(i 0),(r 189),(i 77),(i 0),(r 222)]
def o2t:Obj:=(Obj.mk (.type (t 5)) none (.cls (ClassData.mk (s 44) [(T 9)] [(r 179),(T 9)] 178 (s 44) true [] [(r 214),(r 254)] false none false)) #[none,none,(some (f 44 400)),(some (f 44 408)),(some (bi 20)),(some (.bool true))])
def o2u:Obj:=di #[(d 0 471 (f 1 398)),(d 2 473 (f 88 472)),(d 4 475 (j 77 474)),(d 5 483 (r 230)),(d 6 491 (r 237)),(d 7 501 (r 244)),(d 8 511 (r 251)),(d 9 513 (r 252))] 8
def o2v:Obj:=fd #[(i 79),(i 4),(r 229),(i 83),(i 4),(r 236),(i 86),(i 4),(r 243),(i 89),(i 4),(r 250)]
def o2w:Obj:=ob 2 #[(f 88 466),(f 88 467),(f 16 468),(i 77),(i 0),(i 0),(i 0),(i 0),(r 220),(.bool false),(i 181),(r 221),u,u,u,u,(i 469),(i 77),(f 16 470)]
def o2x:Obj:=(Obj.mk (.type (t 14)) none .plain #[(some (r 222)),(some (r 3)),(some (r 219)),none,(some (f 1 398)),none,(some (r 0))])
def o2y:Obj:=sq 1 #[(f 10 479),(f 101 480)]
def o2z:Obj:=fn 5 49 (inClass (stm 29) 0)
def o2A:Obj:=ob 2 #[(f 5 476),(f 49 477),(f 16 478),(i 79),(i 2),(i 0),(i 0),(i 3),(r 224),(.bool true),(i 181),(r 225),u,(r 226),(r 227),(r 228),(i 481),(i 79),(f 16 482)]
def o2B:Obj:=fo 11 5 49 (inClass (stm 29) 0) 3 [] .none .none .none 1 398 229
def o2C:Obj:=sq 1 #[(f 10 487),(f 110 488)]
def o2D:Obj:=fn 6 147 (inClass (stm 29) 1)
def o2E:Obj:=ob 2 #[(f 6 484),(f 147 485),(f 16 486),(i 83),(i 2),(i 0),(i 0),(i 3),(r 231),(.bool true),(i 181),(r 232),u,(r 233),(r 234),(r 235),(i 489),(i 83),(f 16 490)]
def o2F:Obj:=fo 11 6 147 (inClass (stm 29) 1) 3 [] .none .none .none 1 398 236
def o2G:Obj:=sq 1 #[(f 10 495),(f 11 496),(f 12 497),(f 13 498)]
def o2H:Obj:=fn 7 97 (inClass (stm 29) 2)
def o2I:Obj:=ob 2 #[(f 7 492),(f 97 493),(f 16 494),(i 86),(i 4),(i 0),(i 0),(i 3),(r 238),(.bool true),(i 181),(r 239),u,(r 240),(r 241),(r 242),(i 499),(i 86),(f 16 500)]
def o2J:Obj:=fo 11 7 97 (inClass (stm 29) 2) 3 [] .none .none .none 1 398 243
def o2K:Obj:=sq 1 #[(f 10 505),(f 64 506),(f 65 507),(f 66 508)]
def o2L:Obj:=fn 8 153 (inClass (stm 29) 3)
def o2M:Obj:=ob 2 #[(f 8 502),(f 153 503),(f 16 504),(i 89),(i 4),(i 0),(i 0),(i 3),(r 245),(.bool true),(i 181),(r 246),u,(r 247),(r 248),(r 249),(i 509),(i 89),(f 16 510)]
def o2N:Obj:=fo 11 8 153 (inClass (stm 29) 3) 3 [] .none .none .none 1 398 250
def o2O:Obj:=sq 1 #[(f 101 512)]
def o2P:Obj:=di #[(d 0 471 (f 1 398)),(d 4 475 (j 77 474)),(d 5 483 (r 230)),(d 6 491 (r 237)),(d 7 501 (r 244)),(d 8 511 (r 251)),(d 9 513 (r 252)),(d 23 514 .none)] 2
def o2Q:Obj:=(Obj.mk (.type (t 5)) none (.cls (ClassData.mk (s 88) [(r 179)] [(r 254),(r 179),(T 9)] 253 (s 88) true [] [] false none false)) #[(some (r 217)),none,(some (f 88 464)),(some (f 88 472)),(some (bi 20)),(some (.bool true))])
def o2R:Obj:=ob 4 #[(r 254),(r 254),(r 254)]
def o2S:Obj:=ob 12 #[(bi 13),(r 254)]
def o2T:Obj:=di #[(d 21 165 (f 1 398)),(d 23 166 .none),(d 24 167 .none),(d 25 168 (bi 3)),(d 26 169 .none),(d 27 170 (r 6)),(d 28 171 (r 4)),(d 29 173 (f 16 172)),(d 30 174 .none),(d 31 193 (r 21)),(d 32 213 (r 31)),(d 33 229 (r 44)),(d 34 245 (r 56)),(d 35 261 (r 68)),(d 60 277 (r 80)),(d 73 286 (r 89)),(d 74 295 (r 96)),(d 75 303 (r 103)),(d 76 307 (j 60 306)),(d 77 309 (j 1440 308)),(d 61 316 (r 110)),(d 78 323 (r 117)),(d 79 330 (r 124)),(d 80 337 (r 131)),(d 81 344 (r 138)),(d 82 348 (f 83 347)),(d 84 350 (j 8 349)),(d 85 356 (r 143)),(d 86 389 (r 160)),(d 87 397 (r 169)),(d 44 419 (r 179)),(d 46 463 (r 214)),(d 88 516 (r 254)),(d 3 569 (r 294))] 34
def o2U:Obj:=fd #[(i 1),(i 0),(r 20),(i 5),(i 0),(r 27),(i 7),(i 0),(r 40),(i 9),(i 0),(r 52),(i 11),(i 0),(r 64),(i 13),(i 0),(r 76),(i 16),(i 0),(r 88),(i 18),(i 0),(r 95),(i 20),(i 0),(r 102),(i 25),(i 0),(r 109),(i 27),(i 0),(r 116),(i 33),(i 0),(r 123),(i 36),(i 0),(r 130),(i 39),(i 0),(r 137),(i 45),(i 0),(r 142),(i 49),(i 0),(r 149),(i 60),(i 0),(r 168),(i 65),(i 0),(r 175),(i 67),(i 0),(r 189),(i 77),(i 0),(r 222),(i 91),(i 0),(r 262)]
def o2V:Obj:=(Obj.mk (.type (t 5)) none (.cls (ClassData.mk (s 44) [(T 9)] [(r 179),(T 9)] 178 (s 44) true [] [(r 214),(r 254),(r 294)] false none false)) #[none,none,(some (f 44 400)),(some (f 44 408)),(some (bi 20)),(some (.bool true))])
def o2W:Obj:=di #[(d 0 524 (f 1 398)),(d 2 526 (f 3 525)),(d 4 528 (j 91 527)),(d 5 536 (r 270)),(d 6 544 (r 277)),(d 7 554 (r 284)),(d 8 564 (r 291)),(d 9 566 (r 292))] 8
def o2X:Obj:=fd #[(i 93),(i 4),(r 269),(i 97),(i 4),(r 276),(i 100),(i 4),(r 283),(i 103),(i 4),(r 290)]
def o2Y:Obj:=ob 2 #[(f 3 519),(f 3 520),(f 16 521),(i 91),(i 0),(i 0),(i 0),(i 0),(r 260),(.bool false),(i 181),(r 261),u,u,u,u,(i 522),(i 91),(f 16 523)]
def o2Z:Obj:=(Obj.mk (.type (t 14)) none .plain #[(some (r 262)),(some (r 3)),(some (r 259)),none,(some (f 1 398)),none,(some (r 0))])
def o30:Obj:=sq 1 #[(f 10 532),(f 101 533)]
def o31:Obj:=fn 5 72 (inClass (stm 30) 0)
def o32:Obj:=ob 2 #[(f 5 529),(f 72 530),(f 16 531),(i 93),(i 2),(i 0),(i 0),(i 3),(r 264),(.bool true),(i 181),(r 265),u,(r 266),(r 267),(r 268),(i 534),(i 93),(f 16 535)]
def o33:Obj:=fo 11 5 72 (inClass (stm 30) 0) 3 [] .none .none .none 1 398 269
def o34:Obj:=sq 1 #[(f 10 540),(f 110 541)]
def o35:Obj:=fn 6 167 (inClass (stm 30) 1)
def o36:Obj:=ob 2 #[(f 6 537),(f 167 538),(f 16 539),(i 97),(i 2),(i 0),(i 0),(i 3),(r 271),(.bool true),(i 181),(r 272),u,(r 273),(r 274),(r 275),(i 542),(i 97),(f 16 543)]
def o37:Obj:=fo 11 6 167 (inClass (stm 30) 1) 3 [] .none .none .none 1 398 276
def o38:Obj:=sq 1 #[(f 10 548),(f 11 549),(f 12 550),(f 13 551)]
def o39:Obj:=fn 7 146 (inClass (stm 30) 2)
def o3a:Obj:=ob 2 #[(f 7 545),(f 146 546),(f 16 547),(i 100),(i 4),(i 0),(i 0),(i 3),(r 278),(.bool true),(i 181),(r 279),u,(r 280),(r 281),(r 282),(i 552),(i 100),(f 16 553)]
def o3b:Obj:=fo 11 7 146 (inClass (stm 30) 2) 3 [] .none .none .none 1 398 283
def o3c:Obj:=sq 1 #[(f 10 558),(f 64 559),(f 65 560),(f 66 561)]
def o3d:Obj:=fn 8 179 (inClass (stm 30) 3)
def o3e:Obj:=ob 2 #[(f 8 555),(f 179 556),(f 16 557),(i 103),(i 4),(i 0),(i 0),(i 3),(r 285),(.bool true),(i 181),(r 286),u,(r 287),(r 288),(r 289),(i 562),(i 103),(f 16 563)]
def o3f:Obj:=fo 11 8 179 (inClass (stm 30) 3) 3 [] .none .none .none 1 398 290
def o3g:Obj:=sq 1 #[(f 101 565)]
def o3h:Obj:=di #[(d 0 524 (f 1 398)),(d 4 528 (j 91 527)),(d 5 536 (r 270)),(d 6 544 (r 277)),(d 7 554 (r 284)),(d 8 564 (r 291)),(d 9 566 (r 292)),(d 23 567 .none)] 2
def o3i:Obj:=(Obj.mk (.type (t 5)) none (.cls (ClassData.mk (s 3) [(r 179)] [(r 294),(r 179),(T 9)] 293 (s 3) true [] [] false none false)) #[(some (r 257)),none,(some (f 3 517)),(some (f 3 525)),(some (bi 20)),(some (.bool true))])
def o3j:Obj:=ob 4 #[(r 294),(r 294),(r 294)]
def o3k:Obj:=ob 12 #[(bi 13),(r 294)]
def o3l:Obj:=di #[(d 21 165 (f 1 398)),(d 23 166 .none),(d 24 167 .none),(d 25 168 (bi 3)),(d 26 169 .none),(d 27 170 (r 6)),(d 28 171 (r 4)),(d 29 173 (f 16 172)),(d 30 174 .none),(d 31 193 (r 21)),(d 32 213 (r 31)),(d 33 229 (r 44)),(d 34 245 (r 56)),(d 35 261 (r 68)),(d 60 277 (r 80)),(d 73 286 (r 89)),(d 74 295 (r 96)),(d 75 303 (r 103)),(d 76 307 (j 60 306)),(d 77 309 (j 1440 308)),(d 61 316 (r 110)),(d 78 323 (r 117)),(d 79 330 (r 124)),(d 80 337 (r 131)),(d 81 344 (r 138)),(d 82 348 (f 83 347)),(d 84 350 (j 8 349)),(d 85 356 (r 143)),(d 86 389 (r 160)),(d 87 397 (r 169)),(d 44 419 (r 179)),(d 46 463 (r 214)),(d 88 516 (r 254)),(d 3 569 (r 294)),(d 50 622 (r 334))] 35
def o3m:Obj:=fd #[(i 1),(i 0),(r 20),(i 5),(i 0),(r 27),(i 7),(i 0),(r 40),(i 9),(i 0),(r 52),(i 11),(i 0),(r 64),(i 13),(i 0),(r 76),(i 16),(i 0),(r 88),(i 18),(i 0),(r 95),(i 20),(i 0),(r 102),(i 25),(i 0),(r 109),(i 27),(i 0),(r 116),(i 33),(i 0),(r 123),(i 36),(i 0),(r 130),(i 39),(i 0),(r 137),(i 45),(i 0),(r 142),(i 49),(i 0),(r 149),(i 60),(i 0),(r 168),(i 65),(i 0),(r 175),(i 67),(i 0),(r 189),(i 77),(i 0),(r 222),(i 91),(i 0),(r 262),(i 105),(i 0),(r 302)]
def o3n:Obj:=(Obj.mk (.type (t 5)) none (.cls (ClassData.mk (s 44) [(T 9)] [(r 179),(T 9)] 178 (s 44) true [] [(r 214),(r 254),(r 294),(r 334)] false none false)) #[none,none,(some (f 44 400)),(some (f 44 408)),(some (bi 20)),(some (.bool true))])
def o3o:Obj:=di #[(d 0 577 (f 1 398)),(d 2 579 (f 50 578)),(d 4 581 (j 105 580)),(d 5 589 (r 310)),(d 6 597 (r 317)),(d 7 607 (r 324)),(d 8 617 (r 331)),(d 9 619 (r 332))] 8
def o3p:Obj:=fd #[(i 107),(i 4),(r 309),(i 112),(i 4),(r 316),(i 115),(i 4),(r 323),(i 118),(i 4),(r 330)]
def o3q:Obj:=ob 2 #[(f 50 572),(f 50 573),(f 16 574),(i 105),(i 0),(i 0),(i 0),(i 0),(r 300),(.bool false),(i 181),(r 301),u,u,u,u,(i 575),(i 105),(f 16 576)]
def o3r:Obj:=(Obj.mk (.type (t 14)) none .plain #[(some (r 302)),(some (r 3)),(some (r 299)),none,(some (f 1 398)),none,(some (r 0))])
def o3s:Obj:=sq 1 #[(f 10 585),(f 143 586)]
def o3t:Obj:=fn 5 43 (inClass (stm 31) 0)
def o3u:Obj:=ob 2 #[(f 5 582),(f 43 583),(f 16 584),(i 107),(i 2),(i 0),(i 0),(i 3),(r 304),(.bool true),(i 181),(r 305),u,(r 306),(r 307),(r 308),(i 587),(i 107),(f 16 588)]
def o3v:Obj:=fo 11 5 43 (inClass (stm 31) 0) 3 [] .none .none .none 1 398 309
def o3w:Obj:=sq 1 #[(f 10 593),(f 110 594)]
def o3x:Obj:=fn 6 166 (inClass (stm 31) 1)
def o3y:Obj:=ob 2 #[(f 6 590),(f 166 591),(f 16 592),(i 112),(i 2),(i 0),(i 0),(i 3),(r 311),(.bool true),(i 181),(r 312),u,(r 313),(r 314),(r 315),(i 595),(i 112),(f 16 596)]
def o3z:Obj:=fo 11 6 166 (inClass (stm 31) 1) 3 [] .none .none .none 1 398 316
def o3A:Obj:=sq 1 #[(f 10 601),(f 11 602),(f 12 603),(f 13 604)]
def o3B:Obj:=fn 7 117 (inClass (stm 31) 2)
def o3C:Obj:=ob 2 #[(f 7 598),(f 117 599),(f 16 600),(i 115),(i 4),(i 0),(i 0),(i 3),(r 318),(.bool true),(i 181),(r 319),u,(r 320),(r 321),(r 322),(i 605),(i 115),(f 16 606)]
def o3D:Obj:=fo 11 7 117 (inClass (stm 31) 2) 3 [] .none .none .none 1 398 323
def o3E:Obj:=sq 1 #[(f 10 611),(f 64 612),(f 65 613),(f 66 614)]
def o3F:Obj:=fn 8 17 (inClass (stm 31) 3)
def o3G:Obj:=ob 2 #[(f 8 608),(f 17 609),(f 16 610),(i 118),(i 4),(i 0),(i 0),(i 3),(r 325),(.bool true),(i 181),(r 326),u,(r 327),(r 328),(r 329),(i 615),(i 118),(f 16 616)]
def o3H:Obj:=fo 11 8 17 (inClass (stm 31) 3) 3 [] .none .none .none 1 398 330
def o3I:Obj:=sq 1 #[(f 143 618)]
def o3J:Obj:=di #[(d 0 577 (f 1 398)),(d 4 581 (j 105 580)),(d 5 589 (r 310)),(d 6 597 (r 317)),(d 7 607 (r 324)),(d 8 617 (r 331)),(d 9 619 (r 332)),(d 23 620 .none)] 2
def o3K:Obj:=(Obj.mk (.type (t 5)) none (.cls (ClassData.mk (s 50) [(r 179)] [(r 334),(r 179),(T 9)] 333 (s 50) true [] [] false none false)) #[(some (r 297)),none,(some (f 50 570)),(some (f 50 578)),(some (bi 20)),(some (.bool true))])
def o3L:Obj:=ob 4 #[(r 334),(r 334),(r 334)]
def o3M:Obj:=ob 12 #[(bi 13),(r 334)]
def o3N:Obj:=di #[(d 21 165 (f 1 398)),(d 23 166 .none),(d 24 167 .none),(d 25 168 (bi 3)),(d 26 169 .none),(d 27 170 (r 6)),(d 28 171 (r 4)),(d 29 173 (f 16 172)),(d 30 174 .none),(d 31 193 (r 21)),(d 32 213 (r 31)),(d 33 229 (r 44)),(d 34 245 (r 56)),(d 35 261 (r 68)),(d 60 277 (r 80)),(d 73 286 (r 89)),(d 74 295 (r 96)),(d 75 303 (r 103)),(d 76 307 (j 60 306)),(d 77 309 (j 1440 308)),(d 61 316 (r 110)),(d 78 323 (r 117)),(d 79 330 (r 124)),(d 80 337 (r 131)),(d 81 344 (r 138)),(d 82 348 (f 83 347)),(d 84 350 (j 8 349)),(d 85 356 (r 143)),(d 86 389 (r 160)),(d 87 397 (r 169)),(d 44 419 (r 179)),(d 46 463 (r 214)),(d 88 516 (r 254)),(d 3 569 (r 294)),(d 50 622 (r 334)),(d 89 675 (r 374))] 36
def o3O:Obj:=fd #[(i 1),(i 0),(r 20),(i 5),(i 0),(r 27),(i 7),(i 0),(r 40),(i 9),(i 0),(r 52),(i 11),(i 0),(r 64),(i 13),(i 0),(r 76),(i 16),(i 0),(r 88),(i 18),(i 0),(r 95),(i 20),(i 0),(r 102),(i 25),(i 0),(r 109),(i 27),(i 0),(r 116),(i 33),(i 0),(r 123),(i 36),(i 0),(r 130),(i 39),(i 0),(r 137),(i 45),(i 0),(r 142),(i 49),(i 0),(r 149),(i 60),(i 0),(r 168),(i 65),(i 0),(r 175),(i 67),(i 0),(r 189),(i 77),(i 0),(r 222),(i 91),(i 0),(r 262),(i 105),(i 0),(r 302),(i 120),(i 0),(r 342)]
def o3P:Obj:=(Obj.mk (.type (t 5)) none (.cls (ClassData.mk (s 44) [(T 9)] [(r 179),(T 9)] 178 (s 44) true [] [(r 214),(r 254),(r 294),(r 334),(r 374)] false none false)) #[none,none,(some (f 44 400)),(some (f 44 408)),(some (bi 20)),(some (.bool true))])
def o3Q:Obj:=di #[(d 0 630 (f 1 398)),(d 2 632 (f 89 631)),(d 4 634 (j 120 633)),(d 5 642 (r 350)),(d 6 650 (r 357)),(d 7 660 (r 364)),(d 8 670 (r 371)),(d 9 672 (r 372))] 8
def o3R:Obj:=fd #[(i 122),(i 4),(r 349),(i 126),(i 4),(r 356),(i 129),(i 4),(r 363),(i 132),(i 4),(r 370)]
def o3S:Obj:=ob 2 #[(f 89 625),(f 89 626),(f 16 627),(i 120),(i 0),(i 0),(i 0),(i 0),(r 340),(.bool false),(i 181),(r 341),u,u,u,u,(i 628),(i 120),(f 16 629)]
def o3T:Obj:=(Obj.mk (.type (t 14)) none .plain #[(some (r 342)),(some (r 3)),(some (r 339)),none,(some (f 1 398)),none,(some (r 0))])
def o3U:Obj:=sq 1 #[(f 10 638),(f 36 639)]
def o3V:Obj:=fn 5 51 (inClass (stm 32) 0)
def o3W:Obj:=ob 2 #[(f 5 635),(f 51 636),(f 16 637),(i 122),(i 2),(i 0),(i 0),(i 3),(r 344),(.bool true),(i 181),(r 345),u,(r 346),(r 347),(r 348),(i 640),(i 122),(f 16 641)]
def o3X:Obj:=fo 11 5 51 (inClass (stm 32) 0) 3 [] .none .none .none 1 398 349
def o3Y:Obj:=sq 1 #[(f 10 646),(f 110 647)]
def o3Z:Obj:=fn 6 63 (inClass (stm 32) 1)
def o40:Obj:=ob 2 #[(f 6 643),(f 63 644),(f 16 645),(i 126),(i 2),(i 0),(i 0),(i 3),(r 351),(.bool true),(i 181),(r 352),u,(r 353),(r 354),(r 355),(i 648),(i 126),(f 16 649)]
def o41:Obj:=fo 11 6 63 (inClass (stm 32) 1) 3 [] .none .none .none 1 398 356
def o42:Obj:=sq 1 #[(f 10 654),(f 11 655),(f 12 656),(f 13 657)]
def o43:Obj:=fn 7 164 (inClass (stm 32) 2)
def o44:Obj:=ob 2 #[(f 7 651),(f 164 652),(f 16 653),(i 129),(i 4),(i 0),(i 0),(i 3),(r 358),(.bool true),(i 181),(r 359),u,(r 360),(r 361),(r 362),(i 658),(i 129),(f 16 659)]
def o45:Obj:=fo 11 7 164 (inClass (stm 32) 2) 3 [] .none .none .none 1 398 363
def o46:Obj:=sq 1 #[(f 10 664),(f 64 665),(f 65 666),(f 66 667)]
def o47:Obj:=fn 8 114 (inClass (stm 32) 3)
def o48:Obj:=ob 2 #[(f 8 661),(f 114 662),(f 16 663),(i 132),(i 4),(i 0),(i 0),(i 3),(r 365),(.bool true),(i 181),(r 366),u,(r 367),(r 368),(r 369),(i 668),(i 132),(f 16 669)]
def o49:Obj:=fo 11 8 114 (inClass (stm 32) 3) 3 [] .none .none .none 1 398 370
def o4a:Obj:=sq 1 #[(f 36 671)]
def o4b:Obj:=di #[(d 0 630 (f 1 398)),(d 4 634 (j 120 633)),(d 5 642 (r 350)),(d 6 650 (r 357)),(d 7 660 (r 364)),(d 8 670 (r 371)),(d 9 672 (r 372)),(d 23 673 .none)] 2
def o4c:Obj:=(Obj.mk (.type (t 5)) none (.cls (ClassData.mk (s 89) [(r 179)] [(r 374),(r 179),(T 9)] 373 (s 89) true [] [] false none false)) #[(some (r 337)),none,(some (f 89 623)),(some (f 89 631)),(some (bi 20)),(some (.bool true))])
def o4d:Obj:=ob 4 #[(r 374),(r 374),(r 374)]
def o4e:Obj:=ob 12 #[(bi 13),(r 374)]
def o4f:Obj:=di #[(d 21 165 (f 1 398)),(d 23 166 .none),(d 24 167 .none),(d 25 168 (bi 3)),(d 26 169 .none),(d 27 170 (r 6)),(d 28 171 (r 4)),(d 29 173 (f 16 172)),(d 30 174 .none),(d 31 193 (r 21)),(d 32 213 (r 31)),(d 33 229 (r 44)),(d 34 245 (r 56)),(d 35 261 (r 68)),(d 60 277 (r 80)),(d 73 286 (r 89)),(d 74 295 (r 96)),(d 75 303 (r 103)),(d 76 307 (j 60 306)),(d 77 309 (j 1440 308)),(d 61 316 (r 110)),(d 78 323 (r 117)),(d 79 330 (r 124)),(d 80 337 (r 131)),(d 81 344 (r 138)),(d 82 348 (f 83 347)),(d 84 350 (j 8 349)),(d 85 356 (r 143)),(d 86 389 (r 160)),(d 87 397 (r 169)),(d 44 419 (r 179)),(d 46 463 (r 214)),(d 88 516 (r 254)),(d 3 569 (r 294)),(d 50 622 (r 334)),(d 89 675 (r 374)),(d 90 726 (r 412))] 37
def o4g:Obj:=fd #[(i 1),(i 0),(r 20),(i 5),(i 0),(r 27),(i 7),(i 0),(r 40),(i 9),(i 0),(r 52),(i 11),(i 0),(r 64),(i 13),(i 0),(r 76),(i 16),(i 0),(r 88),(i 18),(i 0),(r 95),(i 20),(i 0),(r 102),(i 25),(i 0),(r 109),(i 27),(i 0),(r 116),(i 33),(i 0),(r 123),(i 36),(i 0),(r 130),(i 39),(i 0),(r 137),(i 45),(i 0),(r 142),(i 49),(i 0),(r 149),(i 60),(i 0),(r 168),(i 65),(i 0),(r 175),(i 67),(i 0),(r 189),(i 77),(i 0),(r 222),(i 91),(i 0),(r 262),(i 105),(i 0),(r 302),(i 120),(i 0),(r 342),(i 134),(i 0),(r 382)]
def o4h:Obj:=(Obj.mk (.type (t 5)) none (.cls (ClassData.mk (s 44) [(T 9)] [(r 179),(T 9)] 178 (s 44) true [] [(r 214),(r 254),(r 294),(r 334),(r 374),(r 412)] false none false)) #[none,none,(some (f 44 400)),(some (f 44 408)),(some (bi 20)),(some (.bool true))])
def o4i:Obj:=di #[(d 0 683 (f 1 398)),(d 2 685 (f 90 684)),(d 4 687 (j 134 686)),(d 5 695 (r 390)),(d 6 701 (r 395)),(d 7 711 (r 402)),(d 8 721 (r 409)),(d 9 723 (r 410))] 8
def o4j:Obj:=fd #[(i 136),(i 4),(r 389),(i 140),(i 4),(r 394),(i 143),(i 4),(r 401),(i 146),(i 4),(r 408)]
def o4k:Obj:=ob 2 #[(f 90 678),(f 90 679),(f 16 680),(i 134),(i 0),(i 0),(i 0),(i 0),(r 380),(.bool false),(i 181),(r 381),u,u,u,u,(i 681),(i 134),(f 16 682)]
def o4l:Obj:=(Obj.mk (.type (t 14)) none .plain #[(some (r 382)),(some (r 3)),(some (r 379)),none,(some (f 1 398)),none,(some (r 0))])
def o4m:Obj:=sq 1 #[(f 10 691),(f 68 692)]
def o4n:Obj:=fn 5 148 (inClass (stm 33) 0)
def o4o:Obj:=ob 2 #[(f 5 688),(f 148 689),(f 16 690),(i 136),(i 2),(i 0),(i 0),(i 3),(r 384),(.bool true),(i 181),(r 385),u,(r 386),(r 387),(r 388),(i 693),(i 136),(f 16 694)]
def o4p:Obj:=fo 11 5 148 (inClass (stm 33) 0) 3 [] .none .none .none 1 398 389
def o4q:Obj:=fn 6 158 (inClass (stm 33) 1)
def o4r:Obj:=ob 2 #[(f 6 696),(f 158 697),(f 16 698),(i 140),(i 2),(i 0),(i 0),(i 3),(r 391),(.bool true),(i 181),(r 392),u,u,u,(r 393),(i 699),(i 140),(f 16 700)]
def o4s:Obj:=fo 11 6 158 (inClass (stm 33) 1) 3 [] .none .none .none 1 398 394
def o4t:Obj:=sq 1 #[(f 10 705),(f 11 706),(f 12 707),(f 13 708)]
def o4u:Obj:=fn 7 104 (inClass (stm 33) 2)
def o4v:Obj:=ob 2 #[(f 7 702),(f 104 703),(f 16 704),(i 143),(i 4),(i 0),(i 0),(i 3),(r 396),(.bool true),(i 181),(r 397),u,(r 398),(r 399),(r 400),(i 709),(i 143),(f 16 710)]
def o4w:Obj:=fo 11 7 104 (inClass (stm 33) 2) 3 [] .none .none .none 1 398 401
def o4x:Obj:=sq 1 #[(f 10 715),(f 64 716),(f 65 717),(f 66 718)]
def o4y:Obj:=fn 8 155 (inClass (stm 33) 3)
def o4z:Obj:=ob 2 #[(f 8 712),(f 155 713),(f 16 714),(i 146),(i 4),(i 0),(i 0),(i 3),(r 403),(.bool true),(i 181),(r 404),u,(r 405),(r 406),(r 407),(i 719),(i 146),(f 16 720)]
def o4A:Obj:=fo 11 8 155 (inClass (stm 33) 3) 3 [] .none .none .none 1 398 408
def o4B:Obj:=sq 1 #[(f 68 722)]
def o4C:Obj:=di #[(d 0 683 (f 1 398)),(d 4 687 (j 134 686)),(d 5 695 (r 390)),(d 6 701 (r 395)),(d 7 711 (r 402)),(d 8 721 (r 409)),(d 9 723 (r 410)),(d 23 724 .none)] 2
def o4D:Obj:=(Obj.mk (.type (t 5)) none (.cls (ClassData.mk (s 90) [(r 179)] [(r 412),(r 179),(T 9)] 411 (s 90) true [] [] false none false)) #[(some (r 377)),none,(some (f 90 676)),(some (f 90 684)),(some (bi 20)),(some (.bool true))])
def o4E:Obj:=ob 4 #[(r 412),(r 412),(r 412)]
def o4F:Obj:=ob 12 #[(bi 13),(r 412)]
def o4G:Obj:=di #[(d 21 165 (f 1 398)),(d 23 166 .none),(d 24 167 .none),(d 25 168 (bi 3)),(d 26 169 .none),(d 27 170 (r 6)),(d 28 171 (r 4)),(d 29 173 (f 16 172)),(d 30 174 .none),(d 31 193 (r 21)),(d 32 213 (r 31)),(d 33 229 (r 44)),(d 34 245 (r 56)),(d 35 261 (r 68)),(d 60 277 (r 80)),(d 73 286 (r 89)),(d 74 295 (r 96)),(d 75 303 (r 103)),(d 76 307 (j 60 306)),(d 77 309 (j 1440 308)),(d 61 316 (r 110)),(d 78 323 (r 117)),(d 79 330 (r 124)),(d 80 337 (r 131)),(d 81 344 (r 138)),(d 82 348 (f 83 347)),(d 84 350 (j 8 349)),(d 85 356 (r 143)),(d 86 389 (r 160)),(d 87 397 (r 169)),(d 44 419 (r 179)),(d 46 463 (r 214)),(d 88 516 (r 254)),(d 3 569 (r 294)),(d 50 622 (r 334)),(d 89 675 (r 374)),(d 90 726 (r 412)),(d 119 777 (r 450)),(d 120 784 (r 459)),(d 19 791 (r 466))] 40
def o4H:Obj:=fd #[(i 1),(i 0),(r 20),(i 5),(i 0),(r 27),(i 7),(i 0),(r 40),(i 9),(i 0),(r 52),(i 11),(i 0),(r 64),(i 13),(i 0),(r 76),(i 16),(i 0),(r 88),(i 18),(i 0),(r 95),(i 20),(i 0),(r 102),(i 25),(i 0),(r 109),(i 27),(i 0),(r 116),(i 33),(i 0),(r 123),(i 36),(i 0),(r 130),(i 39),(i 0),(r 137),(i 45),(i 0),(r 142),(i 49),(i 0),(r 149),(i 60),(i 0),(r 168),(i 65),(i 0),(r 175),(i 67),(i 0),(r 189),(i 77),(i 0),(r 222),(i 91),(i 0),(r 262),(i 105),(i 0),(r 302),(i 120),(i 0),(r 342),(i 134),(i 0),(r 382),(i 148),(i 0),(r 420),(i 162),(i 0),(r 458),(i 165),(i 0),(r 465)]
def o4I:Obj:=(Obj.mk (.type (t 5)) none (.cls (ClassData.mk (s 44) [(T 9)] [(r 179),(T 9)] 178 (s 44) true [] [(r 214),(r 254),(r 294),(r 334),(r 374),(r 412),(r 450)] false none false)) #[none,none,(some (f 44 400)),(some (f 44 408)),(some (bi 20)),(some (.bool true))])
def o4J:Obj:=di #[(d 0 734 (f 1 398)),(d 2 736 (f 119 735)),(d 4 738 (j 148 737)),(d 5 746 (r 428)),(d 6 752 (r 433)),(d 7 762 (r 440)),(d 8 772 (r 447)),(d 9 774 (r 448))] 8
def o4K:Obj:=fd #[(i 150),(i 4),(r 427),(i 154),(i 4),(r 432),(i 157),(i 4),(r 439),(i 160),(i 4),(r 446)]
def o4L:Obj:=ob 2 #[(f 119 729),(f 119 730),(f 16 731),(i 148),(i 0),(i 0),(i 0),(i 0),(r 418),(.bool false),(i 181),(r 419),u,u,u,u,(i 732),(i 148),(f 16 733)]
def o4M:Obj:=(Obj.mk (.type (t 14)) none .plain #[(some (r 420)),(some (r 3)),(some (r 417)),none,(some (f 1 398)),none,(some (r 0))])
def o4N:Obj:=sq 1 #[(f 10 742),(f 68 743)]
def o4O:Obj:=fn 5 108 (inClass (stm 34) 0)
def o4P:Obj:=ob 2 #[(f 5 739),(f 108 740),(f 16 741),(i 150),(i 2),(i 0),(i 0),(i 3),(r 422),(.bool true),(i 181),(r 423),u,(r 424),(r 425),(r 426),(i 744),(i 150),(f 16 745)]
def o4Q:Obj:=fo 11 5 108 (inClass (stm 34) 0) 3 [] .none .none .none 1 398 427
def o4R:Obj:=fn 6 182 (inClass (stm 34) 1)
def o4S:Obj:=ob 2 #[(f 6 747),(f 182 748),(f 16 749),(i 154),(i 2),(i 0),(i 0),(i 3),(r 429),(.bool true),(i 181),(r 430),u,u,u,(r 431),(i 750),(i 154),(f 16 751)]
def o4T:Obj:=fo 11 6 182 (inClass (stm 34) 1) 3 [] .none .none .none 1 398 432
def o4U:Obj:=sq 1 #[(f 10 756),(f 11 757),(f 12 758),(f 13 759)]
def o4V:Obj:=fn 7 165 (inClass (stm 34) 2)
def o4W:Obj:=ob 2 #[(f 7 753),(f 165 754),(f 16 755),(i 157),(i 4),(i 0),(i 0),(i 3),(r 434),(.bool true),(i 181),(r 435),u,(r 436),(r 437),(r 438),(i 760),(i 157),(f 16 761)]
def o4X:Obj:=fo 11 7 165 (inClass (stm 34) 2) 3 [] .none .none .none 1 398 439
def o4Y:Obj:=sq 1 #[(f 10 766),(f 64 767),(f 65 768),(f 66 769)]
def o4Z:Obj:=fn 8 57 (inClass (stm 34) 3)
def o50:Obj:=ob 2 #[(f 8 763),(f 57 764),(f 16 765),(i 160),(i 4),(i 0),(i 0),(i 3),(r 441),(.bool true),(i 181),(r 442),u,(r 443),(r 444),(r 445),(i 770),(i 160),(f 16 771)]
def o51:Obj:=fo 11 8 57 (inClass (stm 34) 3) 3 [] .none .none .none 1 398 446
def o52:Obj:=sq 1 #[(f 68 773)]
def o53:Obj:=di #[(d 0 734 (f 1 398)),(d 4 738 (j 148 737)),(d 5 746 (r 428)),(d 6 752 (r 433)),(d 7 762 (r 440)),(d 8 772 (r 447)),(d 9 774 (r 448)),(d 23 775 .none)] 2
def o54:Obj:=(Obj.mk (.type (t 5)) none (.cls (ClassData.mk (s 119) [(r 179)] [(r 450),(r 179),(T 9)] 449 (s 119) true [] [] false none false)) #[(some (r 415)),none,(some (f 119 727)),(some (f 119 735)),(some (bi 20)),(some (.bool true))])
def o55:Obj:=ob 4 #[(r 450),(r 450),(r 450)]
def o56:Obj:=ob 12 #[(bi 13),(r 450)]
def o57:Obj:=sq 1 #[(f 101 781)]
def o58:Obj:=fn 120 120 (stm 35)
def o59:Obj:=ob 2 #[(f 120 778),(f 120 779),(f 16 780),(i 162),(i 1),(i 0),(i 0),(i 3),(r 453),(.bool true),(i 181),(r 454),u,(r 455),(r 456),(r 457),(i 782),(i 162),(f 16 783)]
def o5a:Obj:=fo 11 120 120 (stm 35) 3 [] .none .none .none 1 398 458
def o5b:Obj:=sq 1 #[(f 36 788)]
def o5c:Obj:=fn 19 19 (stm 36)
def o5d:Obj:=ob 2 #[(f 19 785),(f 19 786),(f 16 787),(i 165),(i 1),(i 0),(i 0),(i 3),(r 460),(.bool true),(i 181),(r 461),u,(r 462),(r 463),(r 464),(i 789),(i 165),(f 16 790)]
def o5e:Obj:=fo 11 19 19 (stm 36) 3 [] .none .none .none 1 398 465
def o5f:Obj:=di #[(d 21 165 (f 47 800)),(d 23 166 .none),(d 24 167 .none),(d 25 168 (bi 3)),(d 26 169 .none),(d 27 170 (r 6)),(d 28 171 (r 4)),(d 29 173 (f 16 172)),(d 30 174 .none),(d 31 193 (r 21)),(d 32 213 (r 31)),(d 33 229 (r 44)),(d 34 245 (r 56)),(d 35 261 (r 68)),(d 60 277 (r 80)),(d 73 286 (r 89)),(d 74 295 (r 96)),(d 75 303 (r 103)),(d 76 307 (j 60 306)),(d 77 309 (j 1440 308)),(d 61 316 (r 110)),(d 78 323 (r 117)),(d 79 330 (r 124)),(d 80 337 (r 131)),(d 81 344 (r 138)),(d 82 348 (f 83 347)),(d 84 350 (j 8 349)),(d 85 356 (r 143)),(d 86 389 (r 160)),(d 87 397 (r 169)),(d 44 419 (r 179)),(d 46 463 (r 214)),(d 88 516 (r 254)),(d 3 569 (r 294)),(d 50 622 (r 334)),(d 89 675 (r 374)),(d 90 726 (r 412)),(d 119 777 (r 450)),(d 120 784 (r 459)),(d 19 791 (r 466)),(d 113 799 (r 473)),(d 48 821 (r 483))] 42
def o5g:Obj:=fd #[(i 1),(i 0),(r 20),(i 5),(i 0),(r 27),(i 7),(i 0),(r 40),(i 9),(i 0),(r 52),(i 11),(i 0),(r 64),(i 13),(i 0),(r 76),(i 16),(i 0),(r 88),(i 18),(i 0),(r 95),(i 20),(i 0),(r 102),(i 25),(i 0),(r 109),(i 27),(i 0),(r 116),(i 33),(i 0),(r 123),(i 36),(i 0),(r 130),(i 39),(i 0),(r 137),(i 45),(i 0),(r 142),(i 49),(i 0),(r 149),(i 60),(i 0),(r 168),(i 65),(i 0),(r 175),(i 67),(i 0),(r 189),(i 77),(i 0),(r 222),(i 91),(i 0),(r 262),(i 105),(i 0),(r 302),(i 120),(i 0),(r 342),(i 134),(i 0),(r 382),(i 148),(i 0),(r 420),(i 162),(i 0),(r 458),(i 165),(i 0),(r 465),(i 168),(i 0),(r 472),(i 174),(i 0),(r 479)]
def o5h:Obj:=sq 1 #[(f 68 795),(f 36 796)]
def o5i:Obj:=fn 113 113 (stm 37)
def o5j:Obj:=ob 2 #[(f 113 792),(f 113 793),(f 16 794),(i 168),(i 1),(i 0),(i 0),(i 3),(r 467),(.bool true),(i 181),(r 468),u,(r 469),(r 470),(r 471),(i 797),(i 168),(f 16 798)]
def o5k:Obj:=fo 11 113 113 (stm 37) 3 [] .none .none .none 1 398 472
def o5l:Obj:=di #[(d 0 809 (f 47 800)),(d 2 811 (f 48 810)),(d 4 813 (j 174 812)),(d 9 814 (r 481))] 4
def o5m:Obj:=ob 2 #[(f 48 804),(f 48 805),(f 16 806),(i 174),(i 0),(i 0),(i 0),(i 0),(r 477),(.bool false),(i 181),(r 478),u,u,u,u,(i 807),(i 174),(f 16 808)]
def o5n:Obj:=(Obj.mk (.type (t 14)) none .plain #[(some (r 479)),(some (r 3)),(some (r 476)),none,(some (f 47 800)),none,(some (r 0))])
def o5o:Obj:=di #[(d 0 809 (f 47 800)),(d 4 813 (j 174 812)),(d 9 814 (r 481)),(d 54 816 (r 484)),(d 55 818 (r 485)),(d 23 819 .none)] 4
def o5p:Obj:=(Obj.mk (.type (t 5)) none (.cls (ClassData.mk (s 48) [(T 9)] [(r 483),(T 9)] 482 (s 48) true [] [] false none false)) #[none,none,(some (f 48 802)),(some (f 48 810)),(some (bi 20)),(some (.bool true))])
def o5q:Obj:=ob 15 #[(f 54 815),(r 483),(bi 18),(bi 19)]
def o5r:Obj:=ob 15 #[(f 55 817),(r 483),(bi 16),u]
def o5s:Obj:=ob 4 #[(r 483),(r 483),(r 483)]
def o5t:Obj:=ob 12 #[(bi 13),(r 483)]
def o5u:Obj:=di #[(d 21 165 (f 47 800)),(d 23 166 .none),(d 24 167 .none),(d 25 168 (bi 3)),(d 26 169 .none),(d 27 170 (r 6)),(d 28 171 (r 4)),(d 29 173 (f 16 172)),(d 30 174 .none),(d 31 193 (r 21)),(d 32 213 (r 31)),(d 33 229 (r 44)),(d 34 245 (r 56)),(d 35 261 (r 68)),(d 60 277 (r 80)),(d 73 286 (r 89)),(d 74 295 (r 96)),(d 75 303 (r 103)),(d 76 307 (j 60 306)),(d 77 309 (j 1440 308)),(d 61 316 (r 110)),(d 78 323 (r 117)),(d 79 330 (r 124)),(d 80 337 (r 131)),(d 81 344 (r 138)),(d 82 348 (f 83 347)),(d 84 350 (j 8 349)),(d 85 356 (r 143)),(d 86 389 (r 160)),(d 87 397 (r 169)),(d 44 419 (r 179)),(d 46 463 (r 214)),(d 88 516 (r 254)),(d 3 569 (r 294)),(d 50 622 (r 334)),(d 89 675 (r 374)),(d 90 726 (r 412)),(d 119 777 (r 450)),(d 120 784 (r 459)),(d 19 791 (r 466)),(d 113 799 (r 473)),(d 48 821 (r 483)),(d 58 862 (r 518))] 43
def o5v:Obj:=fd #[(i 1),(i 0),(r 20),(i 5),(i 0),(r 27),(i 7),(i 0),(r 40),(i 9),(i 0),(r 52),(i 11),(i 0),(r 64),(i 13),(i 0),(r 76),(i 16),(i 0),(r 88),(i 18),(i 0),(r 95),(i 20),(i 0),(r 102),(i 25),(i 0),(r 109),(i 27),(i 0),(r 116),(i 33),(i 0),(r 123),(i 36),(i 0),(r 130),(i 39),(i 0),(r 137),(i 45),(i 0),(r 142),(i 49),(i 0),(r 149),(i 60),(i 0),(r 168),(i 65),(i 0),(r 175),(i 67),(i 0),(r 189),(i 77),(i 0),(r 222),(i 91),(i 0),(r 262),(i 105),(i 0),(r 302),(i 120),(i 0),(r 342),(i 134),(i 0),(r 382),(i 148),(i 0),(r 420),(i 162),(i 0),(r 458),(i 165),(i 0),(r 465),(i 168),(i 0),(r 472),(i 174),(i 0),(r 479),(i 176),(i 0),(r 493)]
def o5w:Obj:=(Obj.mk (.type (t 5)) none (.cls (ClassData.mk (s 48) [(T 9)] [(r 483),(T 9)] 482 (s 48) true [] [(r 518)] false none false)) #[none,none,(some (f 48 802)),(some (f 48 810)),(some (bi 20)),(some (.bool true))])
def o5x:Obj:=sq 1 #[(r 483)]
def o5y:Obj:=di #[(d 0 829 (f 47 800)),(d 2 831 (f 58 830)),(d 4 833 (j 176 832)),(d 5 841 (r 501)),(d 59 850 (r 508)),(d 41 857 (r 515)),(d 9 859 (r 516))] 7
def o5z:Obj:=fd #[(i 178),(i 4),(r 500),(i 182),(i 4),(r 507),(i 185),(i 4),(r 514)]
def o5A:Obj:=ob 2 #[(f 58 824),(f 58 825),(f 16 826),(i 176),(i 0),(i 0),(i 0),(i 0),(r 491),(.bool false),(i 181),(r 492),u,u,u,u,(i 827),(i 176),(f 16 828)]
def o5B:Obj:=(Obj.mk (.type (t 14)) none .plain #[(some (r 493)),(some (r 3)),(some (r 490)),none,(some (f 47 800)),none,(some (r 0))])
def o5C:Obj:=sq 1 #[(f 10 837),(f 123 838)]
def o5D:Obj:=fn 5 107 (inClass (stm 40) 0)
def o5E:Obj:=ob 2 #[(f 5 834),(f 107 835),(f 16 836),(i 178),(i 2),(i 0),(i 0),(i 3),(r 495),(.bool true),(i 181),(r 496),u,(r 497),(r 498),(r 499),(i 839),(i 178),(f 16 840)]
def o5F:Obj:=fo 11 5 107 (inClass (stm 40) 0) 3 [] .none .none .none 47 800 500
def o5G:Obj:=sq 1 #[(f 10 845),(f 169 846),(f 170 847)]
def o5H:Obj:=fn 59 191 (inClass (stm 40) 1)
def o5I:Obj:=ob 2 #[(f 59 842),(f 191 843),(f 16 844),(i 182),(i 3),(i 0),(i 0),(i 3),(r 502),(.bool true),(i 181),(r 503),u,(r 504),(r 505),(r 506),(i 848),(i 182),(f 16 849)]
def o5J:Obj:=fo 11 59 191 (inClass (stm 40) 1) 3 [] .none .none .none 47 800 507
def o5K:Obj:=sq 1 #[(f 10 854)]
def o5L:Obj:=fn 41 42 (inClass (stm 40) 2)
def o5M:Obj:=ob 2 #[(f 41 851),(f 42 852),(f 16 853),(i 185),(i 1),(i 0),(i 0),(i 3),(r 509),(.bool true),(i 181),(r 510),u,(r 511),(r 512),(r 513),(i 855),(i 185),(f 16 856)]
def o5N:Obj:=fo 11 41 42 (inClass (stm 40) 2) 3 [] .none .none .none 47 800 514
def o5O:Obj:=sq 1 #[(f 123 858)]
def o5P:Obj:=di #[(d 0 829 (f 47 800)),(d 4 833 (j 176 832)),(d 5 841 (r 501)),(d 59 850 (r 508)),(d 41 857 (r 515)),(d 9 859 (r 516)),(d 23 860 .none)] 2
def o5Q:Obj:=(Obj.mk (.type (t 5)) none (.cls (ClassData.mk (s 58) [(r 483)] [(r 518),(r 483),(T 9)] 517 (s 58) true [] [] false none false)) #[(some (r 488)),none,(some (f 58 822)),(some (f 58 830)),(some (bi 20)),(some (.bool true))])
def o5R:Obj:=ob 4 #[(r 518),(r 518),(r 518)]
def o5S:Obj:=ob 12 #[(bi 13),(r 518)]
def o5T:Obj:=di #[(d 21 165 (f 70 895)),(d 23 166 .none),(d 24 167 .none),(d 25 168 (bi 3)),(d 26 169 .none),(d 27 170 (r 6)),(d 28 171 (r 4)),(d 29 173 (f 16 172)),(d 30 174 .none),(d 31 193 (r 21)),(d 32 213 (r 31)),(d 33 229 (r 44)),(d 34 245 (r 56)),(d 35 261 (r 68)),(d 60 277 (r 80)),(d 73 286 (r 89)),(d 74 295 (r 96)),(d 75 303 (r 103)),(d 76 307 (j 60 306)),(d 77 309 (j 1440 308)),(d 61 316 (r 110)),(d 78 323 (r 117)),(d 79 330 (r 124)),(d 80 337 (r 131)),(d 81 344 (r 138)),(d 82 348 (f 83 347)),(d 84 350 (j 8 349)),(d 85 356 (r 143)),(d 86 389 (r 160)),(d 87 397 (r 169)),(d 44 419 (r 179)),(d 46 463 (r 214)),(d 88 516 (r 254)),(d 3 569 (r 294)),(d 50 622 (r 334)),(d 89 675 (r 374)),(d 90 726 (r 412)),(d 119 777 (r 450)),(d 120 784 (r 459)),(d 19 791 (r 466)),(d 113 799 (r 473)),(d 48 821 (r 483)),(d 58 862 (r 518)),(d 125 894 (r 544))] 44
def o5U:Obj:=fd #[(i 1),(i 0),(r 20),(i 5),(i 0),(r 27),(i 7),(i 0),(r 40),(i 9),(i 0),(r 52),(i 11),(i 0),(r 64),(i 13),(i 0),(r 76),(i 16),(i 0),(r 88),(i 18),(i 0),(r 95),(i 20),(i 0),(r 102),(i 25),(i 0),(r 109),(i 27),(i 0),(r 116),(i 33),(i 0),(r 123),(i 36),(i 0),(r 130),(i 39),(i 0),(r 137),(i 45),(i 0),(r 142),(i 49),(i 0),(r 149),(i 60),(i 0),(r 168),(i 65),(i 0),(r 175),(i 67),(i 0),(r 189),(i 77),(i 0),(r 222),(i 91),(i 0),(r 262),(i 105),(i 0),(r 302),(i 120),(i 0),(r 342),(i 134),(i 0),(r 382),(i 148),(i 0),(r 420),(i 162),(i 0),(r 458),(i 165),(i 0),(r 465),(i 168),(i 0),(r 472),(i 174),(i 0),(r 479),(i 176),(i 0),(r 493),(i 187),(i 0),(r 526)]
def o5V:Obj:=(Obj.mk (.type (t 5)) none (.cls (ClassData.mk (s 48) [(T 9)] [(r 483),(T 9)] 482 (s 48) true [] [(r 518),(r 544)] false none false)) #[none,none,(some (f 48 802)),(some (f 48 810)),(some (bi 20)),(some (.bool true))])
def o5W:Obj:=di #[(d 0 870 (f 47 800)),(d 2 872 (f 125 871)),(d 4 874 (j 187 873)),(d 59 883 (r 534)),(d 41 890 (r 541)),(d 9 891 (r 542))] 6
def o5X:Obj:=fd #[(i 189),(i 4),(r 533),(i 192),(i 4),(r 540)]
def o5Y:Obj:=ob 2 #[(f 125 865),(f 125 866),(f 16 867),(i 187),(i 0),(i 0),(i 0),(i 0),(r 524),(.bool false),(i 181),(r 525),u,u,u,u,(i 868),(i 187),(f 16 869)]
def o5Z:Obj:=(Obj.mk (.type (t 14)) none .plain #[(some (r 526)),(some (r 3)),(some (r 523)),none,(some (f 47 800)),none,(some (r 0))])
def o60:Obj:=sq 1 #[(f 10 878),(f 169 879),(f 170 880)]
def o61:Obj:=fn 59 178 (inClass (stm 41) 0)
def o62:Obj:=ob 2 #[(f 59 875),(f 178 876),(f 16 877),(i 189),(i 3),(i 0),(i 0),(i 3),(r 528),(.bool true),(i 181),(r 529),u,(r 530),(r 531),(r 532),(i 881),(i 189),(f 16 882)]
def o63:Obj:=fo 11 59 178 (inClass (stm 41) 0) 3 [] .none .none .none 47 800 533
def o64:Obj:=sq 1 #[(f 10 887)]
def o65:Obj:=fn 41 102 (inClass (stm 41) 1)
def o66:Obj:=ob 2 #[(f 41 884),(f 102 885),(f 16 886),(i 192),(i 1),(i 0),(i 0),(i 3),(r 535),(.bool true),(i 181),(r 536),u,(r 537),(r 538),(r 539),(i 888),(i 192),(f 16 889)]
def o67:Obj:=fo 11 41 102 (inClass (stm 41) 1) 3 [] .none .none .none 47 800 540
def o68:Obj:=di #[(d 0 870 (f 47 800)),(d 4 874 (j 187 873)),(d 59 883 (r 534)),(d 41 890 (r 541)),(d 9 891 (r 542)),(d 23 892 .none)] 2
def o69:Obj:=(Obj.mk (.type (t 5)) none (.cls (ClassData.mk (s 125) [(r 483)] [(r 544),(r 483),(T 9)] 543 (s 125) true [] [] false none false)) #[(some (r 521)),none,(some (f 125 863)),(some (f 125 871)),(some (bi 20)),(some (.bool true))])
def o6a:Obj:=ob 4 #[(r 544),(r 544),(r 544)]
def o6b:Obj:=ob 12 #[(bi 13),(r 544)]
def o6c:Obj:=di #[(d 21 165 (f 70 895)),(d 23 166 .none),(d 24 167 .none),(d 25 168 (bi 3)),(d 26 169 .none),(d 27 170 (r 6)),(d 28 171 (r 4)),(d 29 173 (f 16 172)),(d 30 174 .none),(d 31 193 (r 21)),(d 32 213 (r 31)),(d 33 229 (r 44)),(d 34 245 (r 56)),(d 35 261 (r 68)),(d 60 277 (r 80)),(d 73 286 (r 89)),(d 74 295 (r 96)),(d 75 303 (r 103)),(d 76 307 (j 60 306)),(d 77 309 (j 1440 308)),(d 61 316 (r 110)),(d 78 323 (r 117)),(d 79 330 (r 124)),(d 80 337 (r 131)),(d 81 344 (r 138)),(d 82 348 (f 83 347)),(d 84 350 (j 8 349)),(d 85 356 (r 143)),(d 86 389 (r 160)),(d 87 397 (r 169)),(d 44 419 (r 179)),(d 46 463 (r 214)),(d 88 516 (r 254)),(d 3 569 (r 294)),(d 50 622 (r 334)),(d 89 675 (r 374)),(d 90 726 (r 412)),(d 119 777 (r 450)),(d 120 784 (r 459)),(d 19 791 (r 466)),(d 113 799 (r 473)),(d 48 821 (r 483)),(d 58 862 (r 518)),(d 125 894 (r 544)),(d 18 929 (r 564))] 45
def o6d:Obj:=fd #[(i 1),(i 0),(r 20),(i 5),(i 0),(r 27),(i 7),(i 0),(r 40),(i 9),(i 0),(r 52),(i 11),(i 0),(r 64),(i 13),(i 0),(r 76),(i 16),(i 0),(r 88),(i 18),(i 0),(r 95),(i 20),(i 0),(r 102),(i 25),(i 0),(r 109),(i 27),(i 0),(r 116),(i 33),(i 0),(r 123),(i 36),(i 0),(r 130),(i 39),(i 0),(r 137),(i 45),(i 0),(r 142),(i 49),(i 0),(r 149),(i 60),(i 0),(r 168),(i 65),(i 0),(r 175),(i 67),(i 0),(r 189),(i 77),(i 0),(r 222),(i 91),(i 0),(r 262),(i 105),(i 0),(r 302),(i 120),(i 0),(r 342),(i 134),(i 0),(r 382),(i 148),(i 0),(r 420),(i 162),(i 0),(r 458),(i 165),(i 0),(r 465),(i 168),(i 0),(r 472),(i 174),(i 0),(r 479),(i 176),(i 0),(r 493),(i 187),(i 0),(r 526),(i 195),(i 0),(r 552)]
def o6e:Obj:=di #[(d 0 904 (f 70 895)),(d 2 906 (f 18 905)),(d 4 908 (j 195 907)),(d 5 918 (r 561)),(d 9 922 (r 562))] 5
def o6f:Obj:=fd #[(i 197),(i 4),(r 560)]
def o6g:Obj:=ob 2 #[(f 18 899),(f 18 900),(f 16 901),(i 195),(i 0),(i 0),(i 0),(i 0),(r 550),(.bool false),(i 181),(r 551),u,u,u,u,(i 902),(i 195),(f 16 903)]
def o6h:Obj:=(Obj.mk (.type (t 14)) none .plain #[(some (r 552)),(some (r 3)),(some (r 549)),none,(some (f 70 895)),none,(some (r 0))])
def o6i:Obj:=sq 1 #[u]
def o6j:Obj:=sq 1 #[(f 10 912),(f 149 913),(f 150 914),(f 151 915)]
def o6k:Obj:=fn 5 69 (inClass (stm 43) 0)
def o6l:Obj:=ob 2 #[(f 5 909),(f 69 910),(f 16 911),(i 197),(i 4),(i 0),(i 0),(i 3),(r 555),(.bool true),(i 181),(r 556),u,(r 557),(r 558),(r 559),(i 916),(i 197),(f 16 917)]
def o6m:Obj:=fo 11 5 69 (inClass (stm 43) 0) 3 [] (r 554) .none .none 70 895 560
def o6n:Obj:=sq 1 #[(f 149 919),(f 150 920),(f 151 921)]
def o6o:Obj:=di #[(d 0 904 (f 70 895)),(d 4 908 (j 195 907)),(d 5 918 (r 561)),(d 9 922 (r 562)),(d 54 924 (r 565)),(d 55 926 (r 566)),(d 23 927 .none)] 4
def o6p:Obj:=(Obj.mk (.type (t 5)) none (.cls (ClassData.mk (s 18) [(T 9)] [(r 564),(T 9)] 563 (s 18) true [] [] false none false)) #[none,none,(some (f 18 897)),(some (f 18 905)),(some (bi 20)),(some (.bool true))])
def o6q:Obj:=ob 15 #[(f 54 923),(r 564),(bi 18),(bi 19)]
def o6r:Obj:=ob 15 #[(f 55 925),(r 564),(bi 16),u]
def o6s:Obj:=ob 4 #[(r 564),(r 564),(r 564)]
def o6t:Obj:=ob 12 #[(bi 13),(r 564)]
def o6u:Obj:=di #[(d 21 165 (f 70 895)),(d 23 166 .none),(d 24 167 .none),(d 25 168 (bi 3)),(d 26 169 .none),(d 27 170 (r 6)),(d 28 171 (r 4)),(d 29 173 (f 16 172)),(d 30 174 .none),(d 31 193 (r 21)),(d 32 213 (r 31)),(d 33 229 (r 44)),(d 34 245 (r 56)),(d 35 261 (r 68)),(d 60 277 (r 80)),(d 73 286 (r 89)),(d 74 295 (r 96)),(d 75 303 (r 103)),(d 76 307 (j 60 306)),(d 77 309 (j 1440 308)),(d 61 316 (r 110)),(d 78 323 (r 117)),(d 79 330 (r 124)),(d 80 337 (r 131)),(d 81 344 (r 138)),(d 82 348 (f 83 347)),(d 84 350 (j 8 349)),(d 85 356 (r 143)),(d 86 389 (r 160)),(d 87 397 (r 169)),(d 44 419 (r 179)),(d 46 463 (r 214)),(d 88 516 (r 254)),(d 3 569 (r 294)),(d 50 622 (r 334)),(d 89 675 (r 374)),(d 90 726 (r 412)),(d 119 777 (r 450)),(d 120 784 (r 459)),(d 19 791 (r 466)),(d 113 799 (r 473)),(d 48 821 (r 483)),(d 58 862 (r 518)),(d 125 894 (r 544)),(d 18 929 (r 564)),(d 109 966 (r 586)),(d 122 976 (r 597))] 47
def o6v:Obj:=fd #[(i 1),(i 0),(r 20),(i 5),(i 0),(r 27),(i 7),(i 0),(r 40),(i 9),(i 0),(r 52),(i 11),(i 0),(r 64),(i 13),(i 0),(r 76),(i 16),(i 0),(r 88),(i 18),(i 0),(r 95),(i 20),(i 0),(r 102),(i 25),(i 0),(r 109),(i 27),(i 0),(r 116),(i 33),(i 0),(r 123),(i 36),(i 0),(r 130),(i 39),(i 0),(r 137),(i 45),(i 0),(r 142),(i 49),(i 0),(r 149),(i 60),(i 0),(r 168),(i 65),(i 0),(r 175),(i 67),(i 0),(r 189),(i 77),(i 0),(r 222),(i 91),(i 0),(r 262),(i 105),(i 0),(r 302),(i 120),(i 0),(r 342),(i 134),(i 0),(r 382),(i 148),(i 0),(r 420),(i 162),(i 0),(r 458),(i 165),(i 0),(r 465),(i 168),(i 0),(r 472),(i 174),(i 0),(r 479),(i 176),(i 0),(r 493),(i 187),(i 0),(r 526),(i 195),(i 0),(r 552),(i 207),(i 0),(r 574),(i 226),(i 0),(r 596)]
def o6w:Obj:=di #[(d 0 937 (f 70 895)),(d 2 939 (f 109 938)),(d 4 941 (j 207 940)),(d 5 953 (r 583)),(d 9 959 (r 584))] 5
def o6x:Obj:=fd #[(i 209),(i 4),(r 582)]
def o6y:Obj:=ob 2 #[(f 109 932),(f 109 933),(f 16 934),(i 207),(i 0),(i 0),(i 0),(i 0),(r 572),(.bool false),(i 181),(r 573),u,u,u,u,(i 935),(i 207),(f 16 936)]
def o6z:Obj:=(Obj.mk (.type (t 14)) none .plain #[(some (r 574)),(some (r 3)),(some (r 571)),none,(some (f 70 895)),none,(some (r 0))])
def o6A:Obj:=sq 1 #[(.bool false),u]
def o6B:Obj:=sq 1 #[(f 10 945),(f 36 946),(f 40 947),(f 38 948),(f 39 949),(f 37 950)]
def o6C:Obj:=fn 5 62 (inClass (stm 44) 0)
def o6D:Obj:=ob 2 #[(f 5 942),(f 62 943),(f 16 944),(i 209),(i 6),(i 0),(i 0),(i 3),(r 577),(.bool true),(i 181),(r 578),u,(r 579),(r 580),(r 581),(i 951),(i 209),(f 16 952)]
def o6E:Obj:=fo 11 5 62 (inClass (stm 44) 0) 3 [] (r 576) .none .none 70 895 582
def o6F:Obj:=sq 1 #[(f 36 954),(f 37 955),(f 38 956),(f 39 957),(f 40 958)]
def o6G:Obj:=di #[(d 0 937 (f 70 895)),(d 4 941 (j 207 940)),(d 5 953 (r 583)),(d 9 959 (r 584)),(d 54 961 (r 587)),(d 55 963 (r 588)),(d 23 964 .none)] 4
def o6H:Obj:=(Obj.mk (.type (t 5)) none (.cls (ClassData.mk (s 109) [(T 9)] [(r 586),(T 9)] 585 (s 109) true [] [] false none false)) #[none,none,(some (f 109 930)),(some (f 109 938)),(some (bi 20)),(some (.bool true))])
def o6I:Obj:=ob 15 #[(f 54 960),(r 586),(bi 18),(bi 19)]
def o6J:Obj:=ob 15 #[(f 55 962),(r 586),(bi 16),u]
def o6K:Obj:=ob 4 #[(r 586),(r 586),(r 586)]
def o6L:Obj:=ob 12 #[(bi 13),(r 586)]
def o6M:Obj:=sq 1 #[(f 40 970),(f 38 971),(f 39 972),(f 37 973)]
def o6N:Obj:=fn 122 122 (stm 45)
def o6O:Obj:=ob 2 #[(f 122 967),(f 122 968),(f 16 969),(i 226),(i 4),(i 0),(i 0),(i 3),(r 591),(.bool true),(i 181),(r 592),u,(r 593),(r 594),(r 595),(i 974),(i 226),(f 16 975)]
def o6P:Obj:=fo 11 122 122 (stm 45) 3 [] .none .none .none 70 895 596
def o6Q:Obj:=di #[(d 21 165 (f 70 895)),(d 23 166 .none),(d 24 167 .none),(d 25 168 (bi 3)),(d 26 169 .none),(d 27 170 (r 6)),(d 28 171 (r 4)),(d 29 173 (f 16 172)),(d 30 174 .none),(d 31 193 (r 21)),(d 32 213 (r 31)),(d 33 229 (r 44)),(d 34 245 (r 56)),(d 35 261 (r 68)),(d 60 277 (r 80)),(d 73 286 (r 89)),(d 74 295 (r 96)),(d 75 303 (r 103)),(d 76 307 (j 60 306)),(d 77 309 (j 1440 308)),(d 61 316 (r 110)),(d 78 323 (r 117)),(d 79 330 (r 124)),(d 80 337 (r 131)),(d 81 344 (r 138)),(d 82 348 (f 83 347)),(d 84 350 (j 8 349)),(d 85 356 (r 143)),(d 86 389 (r 160)),(d 87 397 (r 169)),(d 44 419 (r 179)),(d 46 463 (r 214)),(d 88 516 (r 254)),(d 3 569 (r 294)),(d 50 622 (r 334)),(d 89 675 (r 374)),(d 90 726 (r 412)),(d 119 777 (r 450)),(d 120 784 (r 459)),(d 19 791 (r 466)),(d 113 799 (r 473)),(d 48 821 (r 483)),(d 58 862 (r 518)),(d 125 894 (r 544)),(d 18 929 (r 564)),(d 109 966 (r 586)),(d 122 976 (r 597)),(d 126 1045 (r 643)),(d 127 1053 (r 654))] 49
def o6R:Obj:=fd #[(i 1),(i 0),(r 20),(i 5),(i 0),(r 27),(i 7),(i 0),(r 40),(i 9),(i 0),(r 52),(i 11),(i 0),(r 64),(i 13),(i 0),(r 76),(i 16),(i 0),(r 88),(i 18),(i 0),(r 95),(i 20),(i 0),(r 102),(i 25),(i 0),(r 109),(i 27),(i 0),(r 116),(i 33),(i 0),(r 123),(i 36),(i 0),(r 130),(i 39),(i 0),(r 137),(i 45),(i 0),(r 142),(i 49),(i 0),(r 149),(i 60),(i 0),(r 168),(i 65),(i 0),(r 175),(i 67),(i 0),(r 189),(i 77),(i 0),(r 222),(i 91),(i 0),(r 262),(i 105),(i 0),(r 302),(i 120),(i 0),(r 342),(i 134),(i 0),(r 382),(i 148),(i 0),(r 420),(i 162),(i 0),(r 458),(i 165),(i 0),(r 465),(i 168),(i 0),(r 472),(i 174),(i 0),(r 479),(i 176),(i 0),(r 493),(i 187),(i 0),(r 526),(i 195),(i 0),(r 552),(i 207),(i 0),(r 574),(i 226),(i 0),(r 596),(i 232),(i 0),(r 603),(i 261),(i 0),(r 653)]
def o6S:Obj:=di #[(d 0 984 (f 70 895)),(d 2 986 (f 126 985)),(d 4 988 (j 232 987)),(d 5 1000 (r 612)),(d 14 1009 (r 619)),(d 105 1018 (r 626)),(d 52 1026 (r 633)),(d 144 1033 (r 640)),(d 9 1038 (r 641))] 9
def o6T:Obj:=fd #[(i 234),(i 4),(r 611),(i 244),(i 4),(r 618),(i 250),(i 4),(r 625),(i 256),(i 4),(r 632),(i 259),(i 4),(r 639)]
def o6U:Obj:=ob 2 #[(f 126 979),(f 126 980),(f 16 981),(i 232),(i 0),(i 0),(i 0),(i 0),(r 601),(.bool false),(i 181),(r 602),u,u,u,u,(i 982),(i 232),(f 16 983)]
def o6V:Obj:=(Obj.mk (.type (t 14)) none .plain #[(some (r 603)),(some (r 3)),(some (r 600)),none,(some (f 70 895)),none,(some (r 0))])
def o6W:Obj:=sq 1 #[(j 0 989),u,u,u]
def o6X:Obj:=sq 1 #[(f 10 993),(f 170 994),(f 103 995),(f 162 996),(f 181 997)]
def o6Y:Obj:=fn 5 71 (inClass (stm 46) 0)
def o6Z:Obj:=ob 2 #[(f 5 990),(f 71 991),(f 16 992),(i 234),(i 5),(i 0),(i 0),(i 3),(r 606),(.bool true),(i 181),(r 607),u,(r 608),(r 609),(r 610),(i 998),(i 234),(f 16 999)]
def o70:Obj:=fo 11 5 71 (inClass (stm 46) 0) 3 [] (r 605) .none .none 70 895 611
def o71:Obj:=sq 1 #[(f 10 1004),(f 110 1005),(f 111 1006)]
def o72:Obj:=fn 14 15 (inClass (stm 46) 1)
def o73:Obj:=ob 2 #[(f 14 1001),(f 15 1002),(f 16 1003),(i 244),(i 2),(i 0),(i 0),(i 3),(r 613),(.bool true),(i 181),(r 614),u,(r 615),(r 616),(r 617),(i 1007),(i 244),(f 16 1008)]
def o74:Obj:=fo 11 14 15 (inClass (stm 46) 1) 3 [] .none .none .none 70 895 618
def o75:Obj:=sq 1 #[(f 10 1013),(f 110 1014),(f 111 1015)]
def o76:Obj:=fn 105 106 (inClass (stm 46) 2)
def o77:Obj:=ob 2 #[(f 105 1010),(f 106 1011),(f 16 1012),(i 250),(i 2),(i 0),(i 0),(i 3),(r 620),(.bool true),(i 181),(r 621),u,(r 622),(r 623),(r 624),(i 1016),(i 250),(f 16 1017)]
def o78:Obj:=fo 11 105 106 (inClass (stm 46) 2) 3 [] .none .none .none 70 895 625
def o79:Obj:=sq 1 #[(f 10 1022),(f 190 1023)]
def o7a:Obj:=fn 52 53 (inClass (stm 46) 3)
def o7b:Obj:=ob 2 #[(f 52 1019),(f 53 1020),(f 16 1021),(i 256),(i 2),(i 0),(i 0),(i 3),(r 627),(.bool true),(i 181),(r 628),u,(r 629),(r 630),(r 631),(i 1024),(i 256),(f 16 1025)]
def o7c:Obj:=fo 11 52 53 (inClass (stm 46) 3) 3 [] .none .none .none 70 895 632
def o7d:Obj:=sq 1 #[(f 10 1030)]
def o7e:Obj:=fn 144 145 (inClass (stm 46) 4)
def o7f:Obj:=ob 2 #[(f 144 1027),(f 145 1028),(f 16 1029),(i 259),(i 1),(i 0),(i 0),(i 3),(r 634),(.bool true),(i 181),(r 635),u,(r 636),(r 637),(r 638),(i 1031),(i 259),(f 16 1032)]
def o7g:Obj:=fo 11 144 145 (inClass (stm 46) 4) 3 [] .none .none .none 70 895 639
def o7h:Obj:=sq 1 #[(f 181 1034),(f 103 1035),(f 162 1036),(f 170 1037)]
def o7i:Obj:=di #[(d 0 984 (f 70 895)),(d 4 988 (j 232 987)),(d 5 1000 (r 612)),(d 14 1009 (r 619)),(d 105 1018 (r 626)),(d 52 1026 (r 633)),(d 144 1033 (r 640)),(d 9 1038 (r 641)),(d 54 1040 (r 644)),(d 55 1042 (r 645)),(d 23 1043 .none)] 4
def o7j:Obj:=(Obj.mk (.type (t 5)) none (.cls (ClassData.mk (s 126) [(T 9)] [(r 643),(T 9)] 642 (s 126) true [] [] false none false)) #[none,none,(some (f 126 977)),(some (f 126 985)),(some (bi 20)),(some (.bool true))])
def o7k:Obj:=ob 15 #[(f 54 1039),(r 643),(bi 18),(bi 19)]
def o7l:Obj:=ob 15 #[(f 55 1041),(r 643),(bi 16),u]
def o7m:Obj:=ob 4 #[(r 643),(r 643),(r 643)]
def o7n:Obj:=ob 12 #[(bi 13),(r 643)]
def o7o:Obj:=sq 1 #[(f 162 1049),(f 103 1050)]
def o7p:Obj:=fn 127 127 (stm 47)
def o7q:Obj:=ob 2 #[(f 127 1046),(f 127 1047),(f 16 1048),(i 261),(i 2),(i 0),(i 0),(i 3),(r 648),(.bool true),(i 181),(r 649),u,(r 650),(r 651),(r 652),(i 1051),(i 261),(f 16 1052)]
def o7r:Obj:=fo 11 127 127 (stm 47) 3 [] .none .none .none 70 895 653
def o7s:Obj:=di #[(d 21 165 (f 92 1060)),(d 23 166 .none),(d 24 167 .none),(d 25 168 (bi 3)),(d 26 169 .none),(d 27 170 (r 6)),(d 28 171 (r 4)),(d 29 173 (f 16 172)),(d 30 174 .none),(d 31 193 (r 21)),(d 32 213 (r 31)),(d 33 229 (r 44)),(d 34 245 (r 56)),(d 35 261 (r 68)),(d 60 277 (r 80)),(d 73 286 (r 89)),(d 74 295 (r 96)),(d 75 303 (r 103)),(d 76 307 (j 60 306)),(d 77 309 (j 1440 308)),(d 61 316 (r 110)),(d 78 323 (r 117)),(d 79 330 (r 124)),(d 80 337 (r 131)),(d 81 344 (r 138)),(d 82 348 (f 83 347)),(d 84 350 (j 8 349)),(d 85 356 (r 143)),(d 86 389 (r 160)),(d 87 397 (r 169)),(d 44 419 (r 179)),(d 46 463 (r 214)),(d 88 516 (r 254)),(d 3 569 (r 294)),(d 50 622 (r 334)),(d 89 675 (r 374)),(d 90 726 (r 412)),(d 119 777 (r 450)),(d 120 784 (r 459)),(d 19 791 (r 466)),(d 113 799 (r 473)),(d 48 821 (r 483)),(d 58 862 (r 518)),(d 125 894 (r 544)),(d 18 929 (r 564)),(d 109 966 (r 586)),(d 122 976 (r 597)),(d 126 1045 (r 643)),(d 127 1053 (r 654)),(d 128 1059 (r 659)),(d 129 1069 (r 666)),(d 20 1076 (r 673)),(d 130 1086 (r 680)),(d 131 1092 (r 685)),(d 91 1104 (r 692)),(d 132 1110 (r 697)),(d 121 1116 (r 702)),(d 133 1122 (r 707)),(d 134 1132 (r 714)),(d 100 1140 (r 721)),(d 99 1156 (r 728)),(d 135 1166 (r 735))] 62
def o7t:Obj:=fd #[(i 1),(i 0),(r 20),(i 5),(i 0),(r 27),(i 7),(i 0),(r 40),(i 9),(i 0),(r 52),(i 11),(i 0),(r 64),(i 13),(i 0),(r 76),(i 16),(i 0),(r 88),(i 18),(i 0),(r 95),(i 20),(i 0),(r 102),(i 25),(i 0),(r 109),(i 27),(i 0),(r 116),(i 33),(i 0),(r 123),(i 36),(i 0),(r 130),(i 39),(i 0),(r 137),(i 45),(i 0),(r 142),(i 49),(i 0),(r 149),(i 60),(i 0),(r 168),(i 65),(i 0),(r 175),(i 67),(i 0),(r 189),(i 77),(i 0),(r 222),(i 91),(i 0),(r 262),(i 105),(i 0),(r 302),(i 120),(i 0),(r 342),(i 134),(i 0),(r 382),(i 148),(i 0),(r 420),(i 162),(i 0),(r 458),(i 165),(i 0),(r 465),(i 168),(i 0),(r 472),(i 174),(i 0),(r 479),(i 176),(i 0),(r 493),(i 187),(i 0),(r 526),(i 195),(i 0),(r 552),(i 207),(i 0),(r 574),(i 226),(i 0),(r 596),(i 232),(i 0),(r 603),(i 261),(i 0),(r 653),(i 266),(i 0),(r 658),(i 272),(i 0),(r 665),(i 276),(i 0),(r 672),(i 278),(i 0),(r 679),(i 288),(i 0),(r 684),(i 299),(i 0),(r 691),(i 311),(i 0),(r 696),(i 319),(i 0),(r 701),(i 333),(i 0),(r 706),(i 347),(i 0),(r 713),(i 359),(i 0),(r 720),(i 363),(i 0),(r 727),(i 374),(i 0),(r 734)]
def o7u:Obj:=fn 128 128 (stm 48)
def o7v:Obj:=ob 2 #[(f 128 1054),(f 128 1055),(f 16 1056),(i 266),(i 1),(i 0),(i 0),(i 3),(r 655),(.bool true),(i 181),(r 656),u,u,u,(r 657),(i 1057),(i 266),(f 16 1058)]
def o7w:Obj:=fo 11 128 128 (stm 48) 3 [] .none .none .none 70 895 658
def o7x:Obj:=sq 1 #[(f 171 1065),(f 96 1066)]
def o7y:Obj:=fn 129 129 (stm 50)
def o7z:Obj:=ob 2 #[(f 129 1062),(f 129 1063),(f 16 1064),(i 272),(i 2),(i 0),(i 0),(i 3),(r 660),(.bool true),(i 181),(r 661),u,(r 662),(r 663),(r 664),(i 1067),(i 272),(f 16 1068)]
def o7A:Obj:=fo 11 129 129 (stm 50) 3 [] .none .none .none 92 1060 665
def o7B:Obj:=sq 1 #[(f 176 1073)]
def o7C:Obj:=fn 20 20 (stm 51)
def o7D:Obj:=ob 2 #[(f 20 1070),(f 20 1071),(f 16 1072),(i 276),(i 1),(i 0),(i 0),(i 3),(r 667),(.bool true),(i 181),(r 668),u,(r 669),(r 670),(r 671),(i 1074),(i 276),(f 16 1075)]
def o7E:Obj:=fo 11 20 20 (stm 51) 3 [] .none .none .none 92 1060 672
def o7F:Obj:=sq 1 #[(f 138 1080),(f 188 1081),(f 95 1082),(f 189 1083)]
def o7G:Obj:=fn 130 130 (stm 52)
def o7H:Obj:=ob 2 #[(f 130 1077),(f 130 1078),(f 16 1079),(i 278),(i 2),(i 0),(i 0),(i 3),(r 674),(.bool true),(i 181),(r 675),u,(r 676),(r 677),(r 678),(i 1084),(i 278),(f 16 1085)]
def o7I:Obj:=fo 11 130 130 (stm 52) 3 [] .none .none .none 92 1060 679
def o7J:Obj:=fn 131 131 (stm 53)
def o7K:Obj:=ob 2 #[(f 131 1087),(f 131 1088),(f 16 1089),(i 288),(i 1),(i 0),(i 0),(i 3),(r 681),(.bool true),(i 181),(r 682),u,u,u,(r 683),(i 1090),(i 288),(f 16 1091)]
def o7L:Obj:=fo 11 131 131 (stm 53) 3 [] .none .none .none 92 1060 684
def o7M:Obj:=sq 1 #[(f 138 1096),(f 139 1097),(f 140 1098),(f 141 1099),(f 96 1100),(f 142 1101)]
def o7N:Obj:=fn 91 91 (stm 54)
def o7O:Obj:=ob 2 #[(f 91 1093),(f 91 1094),(f 16 1095),(i 299),(i 2),(i 0),(i 0),(i 3),(r 686),(.bool true),(i 181),(r 687),u,(r 688),(r 689),(r 690),(i 1102),(i 299),(f 16 1103)]
def o7P:Obj:=fo 11 91 91 (stm 54) 3 [] .none .none .none 92 1060 691
def o7Q:Obj:=fn 132 132 (stm 55)
def o7R:Obj:=ob 2 #[(f 132 1105),(f 132 1106),(f 16 1107),(i 311),(i 3),(i 0),(i 0),(i 3),(r 693),(.bool true),(i 181),(r 694),u,u,u,(r 695),(i 1108),(i 311),(f 16 1109)]
def o7S:Obj:=fo 11 132 132 (stm 55) 3 [] .none .none .none 92 1060 696
def o7T:Obj:=fn 121 121 (stm 56)
def o7U:Obj:=ob 2 #[(f 121 1111),(f 121 1112),(f 16 1113),(i 319),(i 1),(i 0),(i 0),(i 3),(r 698),(.bool true),(i 181),(r 699),u,u,u,(r 700),(i 1114),(i 319),(f 16 1115)]
def o7V:Obj:=fo 11 121 121 (stm 56) 3 [] .none .none .none 92 1060 701
def o7W:Obj:=fn 133 133 (stm 57)
def o7X:Obj:=ob 2 #[(f 133 1117),(f 133 1118),(f 16 1119),(i 333),(i 2),(i 0),(i 0),(i 3),(r 703),(.bool true),(i 181),(r 704),u,u,u,(r 705),(i 1120),(i 333),(f 16 1121)]
def o7Y:Obj:=fo 11 133 133 (stm 57) 3 [] .none .none .none 92 1060 706
def o7Z:Obj:=sq 1 #[(f 193 1126),(f 194 1127),(f 95 1128),(f 195 1129)]
def o80:Obj:=fn 134 134 (stm 58)
def o81:Obj:=ob 2 #[(f 134 1123),(f 134 1124),(f 16 1125),(i 347),(i 2),(i 0),(i 0),(i 3),(r 708),(.bool true),(i 181),(r 709),u,(r 710),(r 711),(r 712),(i 1130),(i 347),(f 16 1131)]
def o82:Obj:=fo 11 134 134 (stm 58) 3 [] .none .none .none 92 1060 713
def o83:Obj:=sq 1 #[(f 138 1136),(f 152 1137)]
def o84:Obj:=fn 100 100 (stm 59)
def o85:Obj:=ob 2 #[(f 100 1133),(f 100 1134),(f 16 1135),(i 359),(i 2),(i 0),(i 0),(i 3),(r 715),(.bool true),(i 181),(r 716),u,(r 717),(r 718),(r 719),(i 1138),(i 359),(f 16 1139)]
def o86:Obj:=fo 11 100 100 (stm 59) 3 [] .none .none .none 92 1060 720
def o87:Obj:=sq 1 #[(f 171 1144),(f 93 1145),(f 172 1146),(f 173 1147),(f 174 1148),(f 175 1149),(f 95 1150),(f 176 1151),(f 138 1152),(f 177 1153)]
def o88:Obj:=fn 99 99 (stm 60)
def o89:Obj:=ob 2 #[(f 99 1141),(f 99 1142),(f 16 1143),(i 363),(i 2),(i 0),(i 0),(i 3),(r 722),(.bool true),(i 181),(r 723),u,(r 724),(r 725),(r 726),(i 1154),(i 363),(f 16 1155)]
def o8a:Obj:=fo 11 99 99 (stm 60) 3 [] .none .none .none 92 1060 727
def o8b:Obj:=sq 1 #[(f 93 1160),(f 94 1161),(f 95 1162),(f 96 1163)]
def o8c:Obj:=fn 135 135 (stm 61)
def o8d:Obj:=ob 2 #[(f 135 1157),(f 135 1158),(f 16 1159),(i 374),(i 2),(i 0),(i 0),(i 3),(r 729),(.bool true),(i 181),(r 730),u,(r 731),(r 732),(r 733),(i 1164),(i 374),(f 16 1165)]
def o8e:Obj:=fo 11 135 135 (stm 61) 3 [] .none .none .none 92 1060 734
def o8f:Obj:=di #[(d 21 165 (f 92 1060)),(d 23 166 .none),(d 24 167 .none),(d 25 168 (bi 3)),(d 26 169 .none),(d 27 170 (r 6)),(d 28 171 (r 4)),(d 29 173 (f 16 172)),(d 30 174 .none),(d 31 193 (r 21)),(d 32 213 (r 31)),(d 33 229 (r 44)),(d 34 245 (r 56)),(d 35 261 (r 68)),(d 60 277 (r 80)),(d 73 286 (r 89)),(d 74 295 (r 96)),(d 75 303 (r 103)),(d 76 307 (j 60 306)),(d 77 309 (j 1440 308)),(d 61 316 (r 110)),(d 78 323 (r 117)),(d 79 330 (r 124)),(d 80 337 (r 131)),(d 81 344 (r 138)),(d 82 348 (f 83 347)),(d 84 350 (j 8 349)),(d 85 356 (r 143)),(d 86 389 (r 160)),(d 87 397 (r 169)),(d 44 419 (r 179)),(d 46 463 (r 214)),(d 88 516 (r 254)),(d 3 569 (r 294)),(d 50 622 (r 334)),(d 89 675 (r 374)),(d 90 726 (r 412)),(d 119 777 (r 450)),(d 120 784 (r 459)),(d 19 791 (r 466)),(d 113 799 (r 473)),(d 48 821 (r 483)),(d 58 862 (r 518)),(d 125 894 (r 544)),(d 18 929 (r 564)),(d 109 966 (r 586)),(d 122 976 (r 597)),(d 126 1045 (r 643)),(d 127 1053 (r 654)),(d 128 1059 (r 659)),(d 129 1069 (r 666)),(d 20 1076 (r 673)),(d 130 1086 (r 680)),(d 131 1092 (r 685)),(d 91 1104 (r 692)),(d 132 1110 (r 697)),(d 121 1116 (r 702)),(d 133 1122 (r 707)),(d 134 1132 (r 714)),(d 100 1140 (r 721)),(d 99 1156 (r 728)),(d 135 1166 (r 735)),(d 160 1174 (r 742)),(d 137 1184 (r 749)),(d 112 1199 (r 756)),(d 161 1205 (r 761))] 66
def o8g:Obj:=fd #[(i 1),(i 0),(r 20),(i 5),(i 0),(r 27),(i 7),(i 0),(r 40),(i 9),(i 0),(r 52),(i 11),(i 0),(r 64),(i 13),(i 0),(r 76),(i 16),(i 0),(r 88),(i 18),(i 0),(r 95),(i 20),(i 0),(r 102),(i 25),(i 0),(r 109),(i 27),(i 0),(r 116),(i 33),(i 0),(r 123),(i 36),(i 0),(r 130),(i 39),(i 0),(r 137),(i 45),(i 0),(r 142),(i 49),(i 0),(r 149),(i 60),(i 0),(r 168),(i 65),(i 0),(r 175),(i 67),(i 0),(r 189),(i 77),(i 0),(r 222),(i 91),(i 0),(r 262),(i 105),(i 0),(r 302),(i 120),(i 0),(r 342),(i 134),(i 0),(r 382),(i 148),(i 0),(r 420),(i 162),(i 0),(r 458),(i 165),(i 0),(r 465),(i 168),(i 0),(r 472),(i 174),(i 0),(r 479),(i 176),(i 0),(r 493),(i 187),(i 0),(r 526),(i 195),(i 0),(r 552),(i 207),(i 0),(r 574),(i 226),(i 0),(r 596),(i 232),(i 0),(r 603),(i 261),(i 0),(r 653),(i 266),(i 0),(r 658),(i 272),(i 0),(r 665),(i 276),(i 0),(r 672),(i 278),(i 0),(r 679),(i 288),(i 0),(r 684),(i 299),(i 0),(r 691),(i 311),(i 0),(r 696),(i 319),(i 0),(r 701),(i 333),(i 0),(r 706),(i 347),(i 0),(r 713),(i 359),(i 0),(r 720),(i 363),(i 0),(r 727),(i 374),(i 0),(r 734),(i 382),(i 0),(r 741),(i 390),(i 0),(r 748),(i 395),(i 0),(r 755),(i 404),(i 0),(r 760)]
def o8h:Obj:=sq 1 #[(f 192 1170),(f 94 1171)]
def o8i:Obj:=fn 160 160 (stm 62)
def o8j:Obj:=ob 2 #[(f 160 1167),(f 160 1168),(f 16 1169),(i 382),(i 2),(i 0),(i 0),(i 3),(r 736),(.bool true),(i 181),(r 737),u,(r 738),(r 739),(r 740),(i 1172),(i 382),(f 16 1173)]
def o8k:Obj:=fo 11 160 160 (stm 62) 3 [] .none .none .none 92 1060 741
def o8l:Obj:=sq 1 #[(f 93 1178),(f 115 1179),(f 116 1180),(f 96 1181)]
def o8m:Obj:=fn 137 137 (stm 63)
def o8n:Obj:=ob 2 #[(f 137 1175),(f 137 1176),(f 16 1177),(i 390),(i 3),(i 0),(i 0),(i 3),(r 743),(.bool true),(i 181),(r 744),u,(r 745),(r 746),(r 747),(i 1182),(i 390),(f 16 1183)]
def o8o:Obj:=fo 11 137 137 (stm 63) 3 [] .none .none .none 92 1060 748
def o8p:Obj:=sq 1 #[(f 183 1188),(f 93 1189),(f 115 1190),(f 94 1191),(f 116 1192),(f 184 1193),(f 185 1194),(f 186 1195),(f 187 1196)]
def o8q:Obj:=fn 112 112 (stm 64)
def o8r:Obj:=ob 2 #[(f 112 1185),(f 112 1186),(f 16 1187),(i 395),(i 6),(i 0),(i 0),(i 3),(r 750),(.bool true),(i 181),(r 751),u,(r 752),(r 753),(r 754),(i 1197),(i 395),(f 16 1198)]
def o8s:Obj:=fo 11 112 112 (stm 64) 3 [] .none .none .none 92 1060 755
def o8t:Obj:=fn 161 161 (stm 65)
def o8u:Obj:=ob 2 #[(f 161 1200),(f 161 1201),(f 16 1202),(i 404),(i 1),(i 0),(i 0),(i 3),(r 757),(.bool true),(i 181),(r 758),u,u,u,(r 759),(i 1203),(i 404),(f 16 1204)]
def o8v:Obj:=fo 11 161 161 (stm 65) 3 [] .none .none .none 92 1060 760
def o8w:Obj:=(Obj.mk .none none (.dict #[] 0) #[])
def b0:Obj:=boot_o_0 c.P
def b1:Obj:=boot_o_1 c.P
def b2:Obj:=boot_o_2 c.P
def b3:Obj:=boot_o_3 c.P
def b4:Obj:=boot_o_4 c.P
def b5:Obj:=boot_o_5 c.P
def b6:Obj:=boot_o_6 c.P
def b7:Obj:=boot_o_7 c.P
def b8:Obj:=boot_o_8 c.P
def b9:Obj:=boot_o_9 c.P
def b10:Obj:=boot_o_10 c.P
def q00:BT:=(N o06 (N o0i L L) L)
def q01:BT:=(N o01 (N o0h L L) L)
def q02:BT:=(N o00 (N o0j L L) L)
def tree_70_:BT:=(N b0 (N b1 (N o04 (N b7 (N o00 (N o0g L L) L) (N o0b L L)) (N o00 (N o07 L L) (N o0d L L))) (N b5 (N b9 q00 (N o00 L L)) (N o02 (N o09 L L) (N o00 L L)))) (N b2 (N b4 (N b8 q01 (N o0c L L)) (N o05 (N o08 L L) (N o0e L L))) (N b6 (N b10 q02 (N o01 L L)) (N o03 (N o0a L L) (N o0f L L)))))
def q03:BT:=(N o1p (N o2R L L) (N o4l L L))
def q04:BT:=(N o00 (N o01 L L) L)
def q05:BT:=(N o1J (N o3c L L) L)
def q06:BT:=(N o2x (N o00 L L) L)
def q07:BT:=(N o1z (N o00 L L) (N o00 L L))
def q08:BT:=(N o2j (N o3L L L) L)
def q09:BT:=(N o1V (N o3r L L) L)
def q0a:BT:=(N o01 (N o46 L L) L)
def q0b:BT:=(N o00 (N o2Z L L) (N o00 L L))
def q0c:BT:=(N o01 (N o3E L L) L)
def q0d:BT:=(N o1R (N o3j L L) L)
def q0e:BT:=(N o00 (N o01 L L) (N o4y L L))
def q0f:BT:=(N o2p (N o3T L L) L)
def q0g:BT:=(N o22 (N o00 L L) L)
def q0h:BT:=(N o2K (N o4d L L) L)
def q0i:BT:=(N o1s (N o2W L L) (N o00 L L))
def q0j:BT:=(N o2c (N o3C L L) L)
def q0k:BT:=(N o1N (N o3f L L) L)
def q0l:BT:=(N o00 (N o3Z L L) L)
def q0m:BT:=(N o00 (N o35 L L) (N o00 L L))
def q0n:BT:=(N o2m (N o3Q L L) L)
def q0o:BT:=(N o2I (N o49 L L) L)
def q0p:BT:=(N o00 (N o00 L L) (N o4s L L))
def q0q:BT:=(N o2h (N o3H L L) L)
def q0r:BT:=(N o0b (N o3o L L) L)
def q0s:BT:=(N o2D (N o44 L L) L)
def q0t:BT:=(N o1F (N o3a L L) (N o4C L L))
def q0u:BT:=(N o2u (N o00 L L) L)
def q0v:BT:=(N o00 (N o3x L L) L)
def q0w:BT:=(N o2N (N o4i L L) L)
def q0x:BT:=(N o1q (N o26 L L) (N o01 L L))
def q0y:BT:=(N o2b (N o00 L L) L)
def q0z:BT:=(N o1L (N o3d L L) L)
def q0A:BT:=(N o01 (N o3Y L L) L)
def q0B:BT:=(N o0b (N o34 L L) (N o4v L L))
def q0C:BT:=(N o2k (N o26 L L) L)
def q0D:BT:=(N o00 (N o47 L L) L)
def q0E:BT:=(N o1v (N o01 L L) (N o4q L L))
def q0F:BT:=(N o00 (N o3F L L) L)
def q0G:BT:=(N o1T (N o26 L L) L)
def q0H:BT:=(N o2C (N o00 L L) L)
def q0I:BT:=(N o1E (N o00 L L) (N o4A L L))
def q0J:BT:=(N o26 (N o01 L L) L)
def q0K:BT:=(N o0b (N o3w L L) L)
def q0L:BT:=(N o2L (N o26 L L) L)
def q0M:BT:=(N o01 (N o2X L L) (N o4o L L))
def q0N:BT:=(N o2e (N o00 L L) L)
def q0O:BT:=(N o00 (N o3h L L) L)
def q0P:BT:=(N o2A (N o41 L L) L)
def q0Q:BT:=(N o1C (N o37 L L) (N o4x L L))
def q0R:BT:=(N o2n (N o3R L L) L)
def q0S:BT:=(N o20 (N o3u L L) L)
def q0T:BT:=(N o00 (N o4b L L) L)
def q0U:BT:=(N o1x (N o32 L L) (N o01 L L))
def q0V:BT:=(N o00 (N o3J L L) L)
def q0W:BT:=(N o00 (N o3p L L) L)
def q0X:BT:=(N o2F (N o00 L L) L)
def q0Y:BT:=(N o1H (N o00 L L) (N o4E L L))
def q0Z:BT:=(N o2v (N o3W L L) L)
def q10:BT:=(N o29 (N o3z L L) L)
def q11:BT:=(N o2P (N o4j L L) L)
def q12:BT:=(N o00 (N o2S L L) (N o00 L L))
def q13:BT:=(N o01 (N o3A L L) L)
def q14:BT:=(N o1K (N o00 L L) L)
def q15:BT:=(N o00 (N o01 L L) (N o4u L L))
def q16:BT:=(N o00 (N o3M L L) L)
def q17:BT:=(N o1W (N o00 L L) L)
def q18:BT:=(N o2G (N o00 L L) L)
def q19:BT:=(N o1u (N o00 L L) (N o01 L L))
def q1a:BT:=(N o2f (N o00 L L) L)
def q1b:BT:=(N o1S (N o3k L L) L)
def q1c:BT:=(N o01 (N o42 L L) L)
def q1d:BT:=(N o01 (N o38 L L) (N o4z L L))
def q1e:BT:=(N o2q (N o00 L L) L)
def q1f:BT:=(N o00 (N o4e L L) L)
def q1g:BT:=(N o00 (N o00 L L) (N o4n L L))
def q1h:BT:=(N o2d (N o3D L L) L)
def q1i:BT:=(N o1O (N o3g L L) L)
def q1j:BT:=(N o2z (N o40 L L) L)
def q1k:BT:=(N o1B (N o36 L L) (N o01 L L))
def q1l:BT:=(N o00 (N o00 L L) L)
def q1m:BT:=(N o1Z (N o3t L L) L)
def q1n:BT:=(N o2J (N o4a L L) L)
def q1o:BT:=(N o01 (N o31 L L) (N o00 L L))
def q1p:BT:=(N o2i (N o3I L L) L)
def q1q:BT:=(N o1U (N o00 L L) L)
def q1r:BT:=(N o2E (N o45 L L) L)
def q1s:BT:=(N o1G (N o3b L L) (N o4D L L))
def q1t:BT:=(N o00 (N o3V L L) L)
def q1u:BT:=(N o28 (N o3y L L) L)
def q1v:BT:=(N o2O (N o00 L L) L)
def q1w:BT:=(N o1r (N o0b L L) (N o4m L L))
def q1x:BT:=(N o00 (N o3B L L) L)
def q1y:BT:=(N o1M (N o3e L L) L)
def q1z:BT:=(N o2y (N o00 L L) L)
def q1A:BT:=(N o1A (N o00 L L) (N o4w L L))
def q1B:BT:=(N o2l (N o0b L L) L)
def q1C:BT:=(N o1X (N o3s L L) L)
def q1D:BT:=(N o2H (N o48 L L) L)
def q1E:BT:=(N o1w (N o30 L L) (N o4r L L))
def q1F:BT:=(N o2g (N o3G L L) L)
def q1G:BT:=(N o00 (N o0b L L) L)
def q1H:BT:=(N o00 (N o43 L L) L)
def q1I:BT:=(N o00 (N o39 L L) (N o4B L L))
def q1J:BT:=(N o0b (N o3U L L) L)
def q1K:BT:=(N o27 (N o00 L L) L)
def q1L:BT:=(N o2M (N o0b L L) L)
def q1M:BT:=(N o1t (N o2Y L L) (N o4p L L))
def q1N:BT:=(N o01 (N o3i L L) L)
def q1O:BT:=(N o2B (N o00 L L) L)
def q1P:BT:=(N o1D (N o00 L L) (N o00 L L))
def q1Q:BT:=(N o2o (N o3S L L) L)
def q1R:BT:=(N o21 (N o3v L L) L)
def q1S:BT:=(N o01 (N o4c L L) L)
def q1T:BT:=(N o1y (N o33 L L) (N o4t L L))
def q1U:BT:=(N o01 (N o3K L L) L)
def q1V:BT:=(N o01 (N o3q L L) L)
def q1W:BT:=(N o1I (N o01 L L) (N o4F L L))
def q1X:BT:=(N o2w (N o3X L L) L)
def q1Y:BT:=(N o2a (N o00 L L) L)
def q1Z:BT:=(N o2Q (N o4k L L) L)
def tree_484_:BT:=(N b0 (N b1 (N o4f (N b7 (N o00 (N o0R (N o01 q03 q04) (N o15 q05 q06)) (N o0n (N o0V q07 q08) (N o00 q09 q0a))) (N o0b (N o01 (N o0n q0b q0c) (N o1a q0d q04)) (N o0B (N o10 q0e q0f) (N o01 q0g q0h)))) (N o00 (N o07 (N o0n (N o0L q0i q0j) (N o17 q0k q0l)) (N o01 (N o00 q0m q0n) (N o1g (N o4h (N o00 L L) L) q0o))) (N o0d (N o0r (N o01 q0p q0q) (N o00 q0r q0s)) (N o0n (N o01 q0t q0u) (N o1n q0v q0w))))) (N b5 (N b9 (N o06 (N o0i (N o0K q0x q0y) (N o00 q0z q0A)) (N o0y (N o0X q0B q0C) (N o1f q04 q0D))) (N o00 (N o0q (N o0S q0E q0F) (N o01 q0G q0H)) (N o0D (N o12 q0I q0J) (N o00 q0K q0L)))) (N o02 (N o09 (N o0o (N o0N q0M q0N) (N o18 q0O q0P)) (N o0A (N o0Z q0Q q0R) (N o1i q0S q0T))) (N o00 (N o0t (N o0U q0U q0V) (N o1d q0W q0X)) (N o0I (N o00 q0Y q0Z) (N o00 q10 q11)))))) (N b2 (N b4 (N b8 (N o01 (N o0h (N o0J q12 q13) (N o16 q14 q04)) (N o0b (N o0W q15 q16) (N o01 q17 q18))) (N o0c (N o0p (N o0b q19 q1a) (N o00 q1b q1c)) (N o0C (N o11 q1d q1e) (N o1l q0J q1f)))) (N o4g (N o08 (N o0b (N o0M q1g q1h) (N o00 q1i q1j)) (N o0z (N o01 q1k q1l) (N o1h q1m q1n))) (N o0e (N o0s (N o0T q1o q1p) (N o1c q1q q1r)) (N o0b (N o13 q1s q1t) (N o1o q1u q1v))))) (N b6 (N b10 (N o00 (N o0j (N o00 q1w q1x) (N o01 q1y q1z)) (N o00 (N o0Y q1A q1B) (N o00 q1C q1D))) (N o01 (N o00 (N o00 q1E q1F) (N o1b q1G q1H)) (N o0E (N o00 q1I q1J) (N o1m q1K q1L)))) (N o03 (N o0a (N o00 (N o0O q1M q04) (N o19 q1N q1O)) (N o00 (N o00 q1P q1Q) (N o00 q1R q1S))) (N o0f (N o0u (N o00 q1T q1U) (N o1e q1V q04)) (N o00 (N o14 q1W q1X) (N o01 q1Y q1Z)))))))
def tree_165_:BT:=(N b0 (N b1 (N o0P (N b7 (N o00 (N o0R (N o01 L L) (N o15 L L)) (N o0n (N o0V L L) (N o00 L L))) (N o0b (N o01 (N o0n L L) (N o1a L L)) (N o0B (N o10 L L) L))) (N o00 (N o07 (N o0n (N o0L L L) (N o17 L L)) (N o01 (N o00 L L) (N o1g L L))) (N o0d (N o0r (N o01 L L) (N o00 L L)) (N o0n (N o01 L L) L)))) (N b5 (N b9 (N o06 (N o0i (N o0K L L) (N o00 L L)) (N o0y (N o0X L L) (N o1f L L))) (N o00 (N o0q (N o0S L L) (N o01 L L)) (N o0D (N o12 L L) L))) (N o02 (N o09 (N o0o (N o0N L L) (N o18 L L)) (N o0A (N o0Z L L) (N o1i L L))) (N o00 (N o0t (N o0U L L) (N o1d L L)) (N o0I (N o00 L L) L))))) (N b2 (N b4 (N b8 (N o01 (N o0h (N o0J L L) (N o16 L L)) (N o0b (N o0W L L) (N o01 L L))) (N o0c (N o0p (N o0b L L) (N o00 L L)) (N o0C (N o11 L L) L))) (N o0Q (N o08 (N o0b (N o0M L L) (N o00 L L)) (N o0z (N o01 L L) (N o1h L L))) (N o0e (N o0s (N o0T L L) (N o1c L L)) (N o0b (N o13 L L) L)))) (N b6 (N b10 (N o00 (N o0j (N o00 L L) (N o01 L L)) (N o00 (N o0Y L L) (N o00 L L))) (N o01 (N o00 (N o00 L L) (N o1b L L)) (N o0E (N o00 L L) L))) (N o03 (N o0a (N o00 (N o0O L L) (N o19 L L)) q1l) (N o0f (N o0u (N o00 L L) (N o1e L L)) (N o00 (N o14 L L) L))))))
def q20:BT:=(N o15 (N o1J L L) L)
def q21:BT:=(N o0R (N o01 (N o1p L L) L) q20)
def q22:BT:=(N o0V (N o1z L L) L)
def q23:BT:=(N o00 (N o1V L L) L)
def q24:BT:=(N o0n (N o00 L L) L)
def q25:BT:=(N o1a (N o1R L L) L)
def q26:BT:=(N o10 (N o00 L L) L)
def q27:BT:=(N o01 (N o22 L L) L)
def q28:BT:=(N o17 (N o1N L L) L)
def q29:BT:=(N o0n (N o0L (N o1s L L) L) q28)
def q2a:BT:=(N o01 (N o00 L L) L)
def q2b:BT:=(N o01 (N o1F L L) L)
def q2c:BT:=(N o0n q2b (N o1n L L))
def q2d:BT:=(N o00 (N o1L L L) L)
def q2e:BT:=(N o0i (N o0K (N o1q L L) L) q2d)
def q2f:BT:=(N o0X (N o0b L L) L)
def q2g:BT:=(N o1f (N o00 L L) L)
def q2h:BT:=(N o0S (N o1v L L) L)
def q2i:BT:=(N o01 (N o1T L L) L)
def q2j:BT:=(N o12 (N o1E L L) L)
def q2k:BT:=(N o0D q2j (N o00 L L))
def q2l:BT:=(N o0N (N o01 L L) L)
def q2m:BT:=(N o18 (N o00 L L) L)
def q2n:BT:=(N o0Z (N o1C L L) L)
def q2o:BT:=(N o1i (N o20 L L) L)
def q2p:BT:=(N o0U (N o1x L L) L)
def q2q:BT:=(N o1d (N o00 L L) L)
def q2r:BT:=(N o00 (N o1H L L) L)
def q2s:BT:=(N o0I q2r (N o00 L L))
def q2t:BT:=(N o16 (N o1K L L) L)
def q2u:BT:=(N o0h (N o0J (N o00 L L) L) q2t)
def q2v:BT:=(N o0W (N o00 L L) L)
def q2w:BT:=(N o01 (N o1W L L) L)
def q2x:BT:=(N o0b (N o1u L L) L)
def q2y:BT:=(N o00 (N o1S L L) L)
def q2z:BT:=(N o0C (N o11 (N o01 L L) L) (N o1l L L))
def q2A:BT:=(N o00 (N o1O L L) L)
def q2B:BT:=(N o0b (N o0M (N o00 L L) L) q2A)
def q2C:BT:=(N o01 (N o1B L L) L)
def q2D:BT:=(N o1h (N o1Z L L) L)
def q2E:BT:=(N o0T (N o01 L L) L)
def q2F:BT:=(N o1c (N o1U L L) L)
def q2G:BT:=(N o13 (N o1G L L) L)
def q2H:BT:=(N o0b q2G (N o1o L L))
def q2I:BT:=(N o01 (N o1M L L) L)
def q2J:BT:=(N o0j (N o00 (N o1r L L) L) q2I)
def q2K:BT:=(N o0Y (N o1A L L) L)
def q2L:BT:=(N o00 (N o1X L L) L)
def q2M:BT:=(N o00 (N o1w L L) L)
def q2N:BT:=(N o1b (N o00 L L) L)
def q2O:BT:=(N o0E q1l (N o1m L L))
def q2P:BT:=(N o0O (N o1t L L) L)
def q2Q:BT:=(N o19 (N o01 L L) L)
def q2R:BT:=(N o00 (N o1D L L) L)
def q2S:BT:=(N o00 (N o21 L L) L)
def q2T:BT:=(N o00 (N o1y L L) L)
def q2U:BT:=(N o1e (N o01 L L) L)
def q2V:BT:=(N o14 (N o1I L L) L)
def q2W:BT:=(N o00 q2V (N o01 L L))
def tree_235_:BT:=(N b0 (N b1 (N o1P (N b7 (N o00 q21 (N o0n q22 q23)) (N o0b (N o01 q24 q25) (N o0B q26 q27))) (N o00 (N o07 q29 (N o01 q1l (N o1g (N o1Y L L) L))) (N o0d (N o0r q2a q1G) q2c))) (N b5 (N b9 (N o06 q2e (N o0y q2f q2g)) (N o00 (N o0q q2h q2i) q2k)) (N o02 (N o09 (N o0o q2l q2m) (N o0A q2n q2o)) (N o00 (N o0t q2p q2q) q2s)))) (N b2 (N b4 (N b8 (N o01 q2u (N o0b q2v q2w)) (N o0c (N o0p q2x q2y) q2z)) (N o1Q (N o08 q2B (N o0z q2C q2D)) (N o0e (N o0s q2E q2F) q2H))) (N b6 (N b10 (N o00 q2J (N o00 q2K q2L)) (N o01 (N o00 q2M q2N) q2O)) (N o03 (N o0a (N o00 q2P q2Q) (N o00 q2R q2S)) (N o0f (N o0u q2T q2U) q2W)))))
def q2X:BT:=(N o2R (N o5K L L) L)
def q2Y:BT:=(N o1p q2X (N o4l L L))
def q2Z:BT:=(N o00 (N o01 L L) (N o51 L L))
def q30:BT:=(N o1J (N o3c L L) (N o26 L L))
def q31:BT:=(N o2x (N o00 L L) (N o5m L L))
def q32:BT:=(N o2j (N o3L L L) (N o00 L L))
def q33:BT:=(N o1V (N o3r L L) (N o4R L L))
def q34:BT:=(N o01 (N o46 L L) (N o00 L L))
def q35:BT:=(N o2Z (N o5R L L) L)
def q36:BT:=(N o00 q35 (N o00 L L))
def q37:BT:=(N o01 (N o3E L L) (N o57 L L))
def q38:BT:=(N o1R (N o3j L L) (N o01 L L))
def q39:BT:=(N o00 (N o01 L L) (N o5t L L))
def q3a:BT:=(N o01 (N o0n q36 q37) (N o1a q38 q39))
def q3b:BT:=(N o2p (N o3T L L) (N o5i L L))
def q3c:BT:=(N o22 (N o00 L L) (N o4W L L))
def q3d:BT:=(N o2K (N o4d L L) (N o01 L L))
def q3e:BT:=(N o2W (N o5N L L) L)
def q3f:BT:=(N o1s q3e (N o00 L L))
def q3g:BT:=(N o2c (N o3C L L) (N o55 L L))
def q3h:BT:=(N o1N (N o3f L L) (N o4K L L))
def q3i:BT:=(N o2m (N o3Q L L) (N o00 L L))
def q3j:BT:=(N o4I (N o00 L L) (N o01 L L))
def q3k:BT:=(N o2I (N o49 L L) (N o5D L L))
def q3l:BT:=(N o2h (N o3H L L) (N o5a L L))
def q3m:BT:=(N o0b (N o3o L L) (N o4P L L))
def q3n:BT:=(N o2D (N o44 L L) (N o00 L L))
def q3o:BT:=(N o2u (N o00 L L) (N o0b L L))
def q3p:BT:=(N o00 (N o3x L L) (N o4Y L L))
def q3q:BT:=(N o2N (N o4i L L) (N o5I L L))
def q3r:BT:=(N o26 (N o5L L L) L)
def q3s:BT:=(N o1q q3r (N o01 L L))
def q3t:BT:=(N o2b (N o00 L L) (N o53 L L))
def q3u:BT:=(N o1L (N o3d L L) (N o4J L L))
def q3v:BT:=(N o01 (N o3Y L L) (N o00 L L))
def q3w:BT:=(N o2k (N o26 L L) (N o5d L L))
def q3x:BT:=(N o00 (N o01 L L) (N o4T L L))
def q3y:BT:=(N o00 (N o47 L L) (N o5C L L))
def q3z:BT:=(N o00 (N o3F L L) (N o58 L L))
def q3A:BT:=(N o1T (N o26 L L) (N o00 L L))
def q3B:BT:=(N o2C (N o00 L L) (N o0b L L))
def q3C:BT:=(N o26 (N o01 L L) (N o5k L L))
def q3D:BT:=(N o0b (N o3w L L) (N o00 L L))
def q3E:BT:=(N o2L (N o26 L L) (N o00 L L))
def q3F:BT:=(N o2X (N o5P L L) L)
def q3G:BT:=(N o01 q3F (N o4o L L))
def q3H:BT:=(N o2e (N o00 L L) (N o00 L L))
def q3I:BT:=(N o00 (N o3h L L) (N o4M L L))
def q3J:BT:=(N o2A (N o41 L L) (N o5r L L))
def q3K:BT:=(N o0o (N o0N q3G q3H) (N o18 q3I q3J))
def q3L:BT:=(N o2n (N o3R L L) (N o5h L L))
def q3M:BT:=(N o20 (N o3u L L) (N o00 L L))
def q3N:BT:=(N o00 (N o4b L L) (N o5F L L))
def q3O:BT:=(N o00 (N o3J L L) (N o01 L L))
def q3P:BT:=(N o00 (N o3p L L) (N o00 L L))
def q3Q:BT:=(N o2F (N o00 L L) (N o5A L L))
def q3R:BT:=(N o2v (N o3W L L) (N o00 L L))
def q3S:BT:=(N o29 (N o3z L L) (N o4Z L L))
def q3T:BT:=(N o2P (N o4j L L) (N o00 L L))
def q3U:BT:=(N o2S (N o00 L L) L)
def q3V:BT:=(N o00 q3U (N o00 L L))
def q3W:BT:=(N o01 (N o3A L L) (N o52 L L))
def q3X:BT:=(N o1K (N o00 L L) (N o0b L L))
def q3Y:BT:=(N o00 (N o01 L L) (N o5n L L))
def q3Z:BT:=(N o00 (N o3M L L) (N o5c L L))
def q40:BT:=(N o1W (N o00 L L) (N o4S L L))
def q41:BT:=(N o2G (N o00 L L) (N o01 L L))
def q42:BT:=(N o00 (N o5S L L) L)
def q43:BT:=(N o1u q42 (N o01 L L))
def q44:BT:=(N o2f (N o00 L L) (N o00 L L))
def q45:BT:=(N o1S (N o3k L L) (N o4N L L))
def q46:BT:=(N o01 (N o42 L L) (N o5x L L))
def q47:BT:=(N o0p (N o0b q43 q44) (N o00 q45 q46))
def q48:BT:=(N o2q (N o00 L L) (N o5j L L))
def q49:BT:=(N o26 (N o01 L L) (N o4X L L))
def q4a:BT:=(N o00 (N o4e L L) (N o5G L L))
def q4b:BT:=(N o00 (N o5O L L) L)
def q4c:BT:=(N o00 q4b (N o4n L L))
def q4d:BT:=(N o2d (N o3D L L) (N o56 L L))
def q4e:BT:=(N o1O (N o3g L L) (N o4L L L))
def q4f:BT:=(N o2z (N o40 L L) (N o5q L L))
def q4g:BT:=(N o0b (N o0M q4c q4d) (N o00 q4e q4f))
def q4h:BT:=(N o00 (N o00 L L) (N o01 L L))
def q4i:BT:=(N o1Z (N o3t L L) (N o4U L L))
def q4j:BT:=(N o2J (N o4a L L) (N o5E L L))
def q4k:BT:=(N o2i (N o3I L L) (N o00 L L))
def q4l:BT:=(N o1U (N o00 L L) (N o4Q L L))
def q4m:BT:=(N o2E (N o45 L L) (N o5z L L))
def q4n:BT:=(N o00 (N o3V L L) (N o5l L L))
def q4o:BT:=(N o28 (N o3y L L) (N o00 L L))
def q4p:BT:=(N o2O (N o00 L L) (N o5J L L))
def q4q:BT:=(N o0b (N o5M L L) L)
def q4r:BT:=(N o1r q4q (N o4m L L))
def q4s:BT:=(N o00 (N o3B L L) (N o54 L L))
def q4t:BT:=(N o1M (N o3e L L) (N o00 L L))
def q4u:BT:=(N o2y (N o00 L L) (N o5o L L))
def q4v:BT:=(N o2l (N o0b L L) (N o5e L L))
def q4w:BT:=(N o1X (N o3s L L) (N o00 L L))
def q4x:BT:=(N o2H (N o48 L L) (N o00 L L))
def q4y:BT:=(N o2g (N o3G L L) (N o59 L L))
def q4z:BT:=(N o00 (N o0b L L) (N o4O L L))
def q4A:BT:=(N o00 (N o43 L L) (N o5y L L))
def q4B:BT:=(N o0b (N o3U L L) (N o00 L L))
def q4C:BT:=(N o27 (N o00 L L) (N o01 L L))
def q4D:BT:=(N o2M (N o0b L L) (N o5H L L))
def q4E:BT:=(N o2Y (N o5Q L L) L)
def q4F:BT:=(N o1t q4E (N o4p L L))
def q4G:BT:=(N o00 (N o01 L L) (N o01 L L))
def q4H:BT:=(N o01 (N o3i L L) (N o00 L L))
def q4I:BT:=(N o2B (N o00 L L) (N o5s L L))
def q4J:BT:=(N o00 (N o0O q4F q4G) (N o19 q4H q4I))
def q4K:BT:=(N o2o (N o3S L L) (N o00 L L))
def q4L:BT:=(N o21 (N o3v L L) (N o4V L L))
def q4M:BT:=(N o01 (N o4c L L) (N o00 L L))
def q4N:BT:=(N o01 (N o3K L L) (N o5b L L))
def q4O:BT:=(N o01 (N o3q L L) (N o01 L L))
def q4P:BT:=(N o00 (N o01 L L) (N o5B L L))
def q4Q:BT:=(N o2w (N o3X L L) (N o01 L L))
def q4R:BT:=(N o2a (N o00 L L) (N o50 L L))
def q4S:BT:=(N o2Q (N o4k L L) (N o01 L L))
def tree_598_:BT:=(N b0 (N b1 (N o5u (N b7 (N o00 (N o0R (N o01 q2Y q2Z) (N o15 q30 q31)) (N o0n (N o0V q07 q32) (N o00 q33 q34))) (N o0b q3a (N o0B (N o10 q0e q3b) (N o01 q3c q3d)))) (N o00 (N o07 (N o0n (N o0L q3f q3g) (N o17 q3h (N o00 (N o3Z L L) (N o5w L L)))) (N o01 (N o00 q0m q3i) (N o1g q3j q3k))) (N o0d (N o0r (N o01 q0p q3l) (N o00 q3m q3n)) (N o0n (N o01 q0t q3o) (N o1n q3p q3q))))) (N b5 (N b9 (N o06 (N o0i (N o0K q3s q3t) (N o00 q3u q3v)) (N o0y (N o0X q0B q3w) (N o1f q3x q3y))) (N o00 (N o0q (N o0S q0E q3z) (N o01 q3A q3B)) (N o0D (N o12 q0I q3C) (N o00 q3D q3E)))) (N o02 (N o09 q3K (N o0A (N o0Z q0Q q3L) (N o1i q3M q3N))) (N o00 (N o0t (N o0U q0U q3O) (N o1d q3P q3Q)) (N o0I (N o00 q0Y q3R) (N o00 q3S q3T)))))) (N b2 (N b4 (N b8 (N o01 (N o0h (N o0J q3V q3W) (N o16 q3X q3Y)) (N o0b (N o0W q15 q3Z) (N o01 q40 q41))) (N o0c q47 (N o0C (N o11 q1d q48) (N o1l q49 q4a)))) (N o5v (N o08 q4g (N o0z (N o01 q1k q4h) (N o1h q4i q4j))) (N o0e (N o0s (N o0T q1o q4k) (N o1c q4l q4m)) (N o0b (N o13 q1s q4n) (N o1o q4o q4p))))) (N b6 (N b10 (N o00 (N o0j (N o00 q4r q4s) (N o01 q4t q4u)) (N o00 (N o0Y q1A q4v) (N o00 q4w q4x))) (N o01 (N o00 (N o00 q1E q4y) (N o1b q4z q4A)) (N o0E (N o00 q1I q4B) (N o1m q4C q4D)))) (N o03 (N o0a q4J (N o00 (N o00 q1P q4K) (N o00 q4L q4M))) (N o0f (N o0u (N o00 q1T q4N) (N o1e q4O q4P)) (N o00 (N o14 q1W q4Q) (N o01 q4R q4S)))))))
def q4T:BT:=(N o0n (N o0V q07 q32) (N o00 q33 q0a))
def q4U:BT:=(N o0r (N o01 q0p q3l) (N o00 q3m q0s))
def q4V:BT:=(N o0y (N o0X q0B q3w) (N o1f q3x q0D))
def q4W:BT:=(N o0q (N o0S q0E q3z) (N o01 q3A q0H))
def q4X:BT:=(N o0t (N o0U q0U q3O) (N o1d q3P q0X))
def q4Y:BT:=(N o0b (N o0W q15 q3Z) (N o01 q40 q18))
def q4Z:BT:=(N o0p (N o0b q19 q44) (N o00 q45 q1c))
def q50:BT:=(N o0s (N o0T q1o q4k) (N o1c q4l q1r))
def q51:BT:=(N o00 (N o0Y q1A q4v) (N o00 q4w q1D))
def q52:BT:=(N o00 (N o00 q1E q4y) (N o1b q4z q1H))
def q53:BT:=(N o0u (N o00 q1T q4N) (N o1e q4O q04))
def tree_539_:BT:=(N b0 (N b1 (N o4G (N b7 (N o00 (N o0R (N o01 q03 q2Z) (N o15 q30 q06)) q4T) (N o0b (N o01 (N o0n q0b q37) (N o1a q38 q04)) (N o0B (N o10 q0e q0f) (N o01 q3c q0h)))) (N o00 (N o07 (N o0n (N o0L q0i q3g) (N o17 q3h q0l)) (N o01 (N o00 q0m q0n) (N o1g q3j q0o))) (N o0d q4U (N o0n (N o01 q0t q0u) (N o1n q3p q0w))))) (N b5 (N b9 (N o06 (N o0i (N o0K q0x q3t) (N o00 q3u q0A)) q4V) (N o00 q4W (N o0D (N o12 q0I q0J) (N o00 q3D q0L)))) (N o02 (N o09 (N o0o (N o0N q0M q3H) (N o18 q3I q0P)) (N o0A (N o0Z q0Q q0R) (N o1i q3M q0T))) (N o00 q4X (N o0I (N o00 q0Y q0Z) (N o00 q3S q11)))))) (N b2 (N b4 (N b8 (N o01 (N o0h (N o0J q12 q3W) (N o16 q3X q04)) q4Y) (N o0c q4Z (N o0C (N o11 q1d q1e) (N o1l q49 q1f)))) (N o4H (N o08 (N o0b (N o0M q1g q4d) (N o00 q4e q1j)) (N o0z (N o01 q1k q1l) (N o1h q4i q1n))) (N o0e q50 (N o0b (N o13 q1s q1t) (N o1o q4o q1v))))) (N b6 (N b10 (N o00 (N o0j (N o00 q1w q4s) (N o01 q4t q1z)) q51) (N o01 q52 (N o0E (N o00 q1I q1J) (N o1m q4C q1L)))) (N o03 (N o0a (N o00 (N o0O q1M q4G) (N o19 q4H q1O)) (N o00 (N o00 q1P q1Q) (N o00 q4L q1S))) (N o0f q53 (N o00 (N o14 q1W q1X) (N o01 q4R q1Z)))))))
def q54:BT:=(N o0V (N o1z L L) (N o2j L L))
def q55:BT:=(N o0n (N o00 L L) (N o01 L L))
def q56:BT:=(N o10 (N o00 L L) (N o2p L L))
def q57:BT:=(N o0L (N o1s L L) (N o2c L L))
def q58:BT:=(N o00 (N o00 L L) (N o2m L L))
def q59:BT:=(N o01 (N o00 L L) (N o2h L L))
def q5a:BT:=(N o0K (N o1q L L) (N o2b L L))
def q5b:BT:=(N o0X (N o0b L L) (N o2k L L))
def q5c:BT:=(N o0S (N o1v L L) (N o00 L L))
def q5d:BT:=(N o0N (N o01 L L) (N o2e L L))
def q5e:BT:=(N o0Z (N o1C L L) (N o2n L L))
def q5f:BT:=(N o0U (N o1x L L) (N o00 L L))
def q5g:BT:=(N o0W (N o00 L L) (N o00 L L))
def q5h:BT:=(N o0b (N o1u L L) (N o2f L L))
def q5i:BT:=(N o11 (N o01 L L) (N o2q L L))
def q5j:BT:=(N o0M (N o00 L L) (N o2d L L))
def q5k:BT:=(N o01 (N o1B L L) (N o00 L L))
def q5l:BT:=(N o0T (N o01 L L) (N o2i L L))
def q5m:BT:=(N o00 (N o1r L L) (N o00 L L))
def q5n:BT:=(N o0Y (N o1A L L) (N o2l L L))
def q5o:BT:=(N o00 (N o1w L L) (N o2g L L))
def q5p:BT:=(N o0O (N o1t L L) (N o00 L L))
def q5q:BT:=(N o00 (N o1D L L) (N o2o L L))
def q5r:BT:=(N o00 (N o1y L L) (N o01 L L))
def tree_271_:BT:=(N b0 (N b1 (N o23 (N b7 (N o00 (N o0R (N o01 (N o1p L L) (N o00 L L)) q20) (N o0n q54 q23)) (N o0b (N o01 q55 q25) (N o0B q56 q27))) (N o00 (N o07 (N o0n q57 q28) (N o01 q58 (N o1g (N o25 L L) L))) (N o0d (N o0r q59 q1G) (N o0n q2b (N o1n (N o00 L L) L))))) (N b5 (N b9 (N o06 (N o0i q5a q2d) (N o0y q5b q2g)) (N o00 (N o0q q5c q2i) (N o0D q2j q1G))) (N o02 (N o09 (N o0o q5d q2m) (N o0A q5e q2o)) (N o00 (N o0t q5f q2q) (N o0I q2r (N o00 (N o29 L L) L)))))) (N b2 (N b4 (N b8 (N o01 (N o0h (N o0J (N o00 L L) (N o01 L L)) q2t) (N o0b q5g q2w)) (N o0c (N o0p q5h q2y) (N o0C q5i (N o1l (N o26 L L) L)))) (N o24 (N o08 (N o0b q5j q2A) (N o0z q5k q2D)) (N o0e (N o0s q5l q2F) (N o0b q2G (N o1o (N o28 L L) L))))) (N b6 (N b10 (N o00 (N o0j q5m q2I) (N o00 q5n q2L)) (N o01 (N o00 q5o q2N) (N o0E q1l (N o1m (N o27 L L) L)))) (N o03 (N o0a (N o00 q5p q2Q) (N o00 q5q q2S)) (N o0f (N o0u q5r q2U) (N o00 q2V (N o01 (N o2a L L) L)))))))
def heap_46_:PySem.Heap:=(Heap.mk (Array.mk [b0,b1,b2,b3,b4,b5,b6,b7,b8,b9,b10,o00,o01,o02,o03]) (Life.mk [] [] [] 0 [] [] false #[] [] 0 false false false 0 [2000,10,10] false 0 true [] [] 0 false))
def q5s:BT:=(N o0b (N o01 L L) (N o0B L L))
def q5t:BT:=(N o00 (N o0q L L) (N o0D L L))
def q5u:BT:=(N o0c (N o0p L L) (N o0C L L))
def q5v:BT:=(N o01 (N o00 L L) (N o0E L L))
def tree_115_:BT:=(N b0 (N b1 (N o0F (N b7 (N o00 (N o0H (N o01 L L) L) (N o0n L L)) q5s) (N o00 (N o07 (N o0n (N o0L L L) L) (N o01 L L)) (N o0d (N o0r L L) (N o0n L L)))) (N b5 (N b9 (N o06 (N o0i (N o0K L L) L) (N o0y L L)) q5t) (N o02 (N o09 (N o0o (N o0N L L) L) (N o0A L L)) (N o00 (N o0t L L) (N o0I L L))))) (N b2 (N b4 (N b8 (N o01 (N o0h (N o0J L L) L) (N o0b L L)) q5u) (N o0G (N o08 (N o0b (N o0M L L) L) (N o0z L L)) (N o0e (N o0s L L) (N o0b L L)))) (N b6 (N b10 (N o00 (N o0j (N o00 L L) L) (N o00 L L)) q5v) (N o03 (N o0a (N o00 (N o0O L L) L) (N o00 L L)) (N o0f (N o0u L L) (N o00 L L))))))
def q5w:BT:=(N o0d (N o0r L L) L)
def q5x:BT:=(N o00 (N o0t L L) L)
def q5y:BT:=(N o0e (N o0s L L) L)
def q5z:BT:=(N o0f (N o0u L L) L)
def tree_100_:BT:=(N b0 (N b1 (N o0v (N b7 (N o00 (N o0x L L) (N o0n L L)) q5s) (N o00 (N o07 (N o0n L L) (N o01 L L)) q5w)) (N b5 (N b9 (N o06 (N o0i L L) (N o0y L L)) q5t) (N o02 (N o09 (N o0o L L) (N o0A L L)) q5x))) (N b2 (N b4 (N b8 (N o01 (N o0h L L) (N o0b L L)) q5u) (N o0w (N o08 (N o0b L L) (N o0z L L)) q5y)) (N b6 (N b10 (N o00 (N o0j L L) (N o00 L L)) q5v) (N o03 (N o0a (N o00 L L) (N o00 L L)) q5z))))
def heap_853_:PySem.Heap:=(Heap.mk (Array.mk [b0,b1,b2,o8f,b4,b5,b6,b7,b8,b9,b10,o00,o8g,o02,o03,o00,o01,o06,o00,o07,o08,o09,o0a,o0b,o0c,o00,o01,o0d,o0e,o00,o0f,o0R,o0h,o0i,o0j,o0n,o0b,o0o,o00,o01,o0p,o0q,o00,o0r,o0s,o0t,o0u,o0n,o0b,o0y,o00,o01,o0z,o0A,o00,o0B,o0C,o0D,o0E,o0n,o0b,o0I,o00,o01,o0J,o0K,o00,o0L,o0M,o0N,o0O,o0n,o0b,o0S,o00,o01,o0T,o0U,o00,o0V,o0W,o0X,o0Y,o00,o01,o0Z,o00,o10,o11,o12,o00,o01,o13,o00,o14,o15,o16,o00,o01,o17,o00,o18,o19,o1a,o00,o01,o1b,o00,o1c,o1d,o1e,o00,o01,o1f,o00,o1g,o1h,o1i,o00,o01,o1l,o00,o1m,o1n,o1o,o00,o01,o1p,o00,o1q,o1r,o1s,o00,o01,o1t,o00,o1u,o1v,o1w,o00,o01,o1x,o1y,o1z,o00,o0b,o1A,o00,o1B,o1C,o1D,o00,o01,o1E,o00,o1F,o1G,o1H,o1I,o1J,o1K,o1L,o1M,o1N,o1O,o00,o01,o1R,o1S,o1T,o00,o0b,o1U,o00,o01,o1V,o1W,o00,o1X,o4I,o1Z,o20,o21,o22,o26,o0b,o27,o00,o28,o29,o2a,o00,o01,o2b,o00,o2c,o2d,o2e,o00,o01,o2f,o00,o2g,o2h,o2i,o00,o01,o2j,o00,o2k,o2l,o2m,o00,o2n,o2o,o2p,o2q,o26,o0b,o2u,o00,o2v,o2w,o2x,o00,o01,o2y,o00,o2z,o2A,o2B,o00,o01,o2C,o00,o2D,o2E,o2F,o00,o01,o2G,o00,o2H,o2I,o2J,o00,o01,o2K,o00,o2L,o2M,o2N,o2O,o2P,o2Q,o2R,o2S,o26,o0b,o2W,o00,o2X,o2Y,o2Z,o00,o01,o30,o00,o31,o32,o33,o00,o01,o34,o00,o35,o36,o37,o00,o01,o38,o00,o39,o3a,o3b,o00,o01,o3c,o00,o3d,o3e,o3f,o3g,o3h,o3i,o3j,o3k,o26,o0b,o3o,o00,o3p,o3q,o3r,o00,o01,o3s,o00,o3t,o3u,o3v,o00,o01,o3w,o00,o3x,o3y,o3z,o00,o01,o3A,o00,o3B,o3C,o3D,o00,o01,o3E,o00,o3F,o3G,o3H,o3I,o3J,o3K,o3L,o3M,o26,o0b,o3Q,o00,o3R,o3S,o3T,o00,o01,o3U,o00,o3V,o3W,o3X,o00,o01,o3Y,o00,o3Z,o40,o41,o00,o01,o42,o00,o43,o44,o45,o00,o01,o46,o00,o47,o48,o49,o4a,o4b,o4c,o4d,o4e,o26,o0b,o4i,o00,o4j,o4k,o4l,o00,o01,o4m,o00,o4n,o4o,o4p,o00,o01,o4q,o4r,o4s,o00,o01,o4t,o00,o4u,o4v,o4w,o00,o01,o4x,o00,o4y,o4z,o4A,o4B,o4C,o4D,o4E,o4F,o26,o0b,o4J,o00,o4K,o4L,o4M,o00,o01,o4N,o00,o4O,o4P,o4Q,o00,o01,o4R,o4S,o4T,o00,o01,o4U,o00,o4V,o4W,o4X,o00,o01,o4Y,o00,o4Z,o50,o51,o52,o53,o54,o55,o56,o00,o01,o57,o00,o58,o59,o5a,o00,o01,o5b,o00,o5c,o5d,o5e,o00,o01,o5h,o00,o5i,o5j,o5k,o00,o0b,o5l,o00,o01,o5m,o5n,o00,o5o,o5V,o5q,o5r,o5s,o5t,o5x,o0b,o5y,o00,o5z,o5A,o5B,o00,o01,o5C,o00,o5D,o5E,o5F,o00,o01,o5G,o00,o5H,o5I,o5J,o00,o01,o5K,o00,o5L,o5M,o5N,o5O,o5P,o5Q,o5R,o5S,o5x,o0b,o5W,o00,o5X,o5Y,o5Z,o00,o01,o60,o00,o61,o62,o63,o00,o01,o64,o00,o65,o66,o67,o00,o68,o69,o6a,o6b,o00,o0b,o6e,o00,o6f,o6g,o6h,o6i,o00,o01,o6j,o00,o6k,o6l,o6m,o6n,o6o,o6p,o6q,o6r,o6s,o6t,o00,o0b,o6w,o00,o6x,o6y,o6z,o6A,o00,o01,o6B,o00,o6C,o6D,o6E,o6F,o6G,o6H,o6I,o6J,o6K,o6L,o00,o01,o6M,o00,o6N,o6O,o6P,o00,o0b,o6S,o00,o6T,o6U,o6V,o6W,o00,o01,o6X,o00,o6Y,o6Z,o70,o00,o01,o71,o00,o72,o73,o74,o00,o01,o75,o00,o76,o77,o78,o00,o01,o79,o00,o7a,o7b,o7c,o00,o01,o7d,o00,o7e,o7f,o7g,o7h,o7i,o7j,o7k,o7l,o7m,o7n,o00,o01,o7o,o00,o7p,o7q,o7r,o00,o01,o7u,o7v,o7w,o00,o01,o7x,o00,o7y,o7z,o7A,o00,o01,o7B,o00,o7C,o7D,o7E,o00,o01,o7F,o00,o7G,o7H,o7I,o00,o01,o7J,o7K,o7L,o00,o01,o7M,o00,o7N,o7O,o7P,o00,o01,o7Q,o7R,o7S,o00,o01,o7T,o7U,o7V,o00,o01,o7W,o7X,o7Y,o00,o01,o7Z,o00,o80,o81,o82,o00,o01,o83,o00,o84,o85,o86,o00,o01,o87,o00,o88,o89,o8a,o00,o01,o8b,o00,o8c,o8d,o8e,o00,o01,o8h,o00,o8i,o8j,o8k,o00,o01,o8l,o00,o8m,o8n,o8o,o00,o01,o8p,o00,o8q,o8r,o8s,o00,o01,o8t,o8u,o8v]) (Life.mk [] [] [] 0 [] [] false #[] [] 0 false false false 0 [2000,10,10] false 0 true [] [] 0 false))
def q5A:BT:=(N o1p (N o2R L L) L)
def q5B:BT:=(N o01 q5A (N o00 L L))
def q5C:BT:=(N o00 (N o1V L L) (N o01 L L))
def q5D:BT:=(N o01 (N o22 L L) (N o2K L L))
def q5E:BT:=(N o00 (N o0b L L) (N o2D L L))
def q5F:BT:=(N o1n (N o00 L L) (N o2N L L))
def q5G:BT:=(N o1f (N o00 L L) (N o00 L L))
def q5H:BT:=(N o01 (N o1T L L) (N o2C L L))
def q5I:BT:=(N o00 (N o0b L L) (N o2L L L))
def q5J:BT:=(N o1i (N o20 L L) (N o00 L L))
def q5K:BT:=(N o1d (N o00 L L) (N o2F L L))
def q5L:BT:=(N o00 (N o29 L L) (N o2P L L))
def q5M:BT:=(N o00 (N o2S L L) L)
def q5N:BT:=(N o0J q5M (N o01 L L))
def q5O:BT:=(N o01 (N o1W L L) (N o2G L L))
def q5P:BT:=(N o1l (N o26 L L) (N o00 L L))
def q5Q:BT:=(N o1h (N o1Z L L) (N o2J L L))
def q5R:BT:=(N o1c (N o1U L L) (N o2E L L))
def q5S:BT:=(N o1o (N o28 L L) (N o2O L L))
def q5T:BT:=(N o00 (N o1X L L) (N o2H L L))
def q5U:BT:=(N o1b (N o00 L L) (N o00 L L))
def q5V:BT:=(N o1m (N o27 L L) (N o2M L L))
def q5W:BT:=(N o00 (N o21 L L) (N o01 L L))
def q5X:BT:=(N o1e (N o01 L L) (N o00 L L))
def q5Y:BT:=(N o01 (N o2a L L) (N o2Q L L))
def tree_314_:BT:=(N b0 (N b1 (N o2r (N b7 (N o00 (N o0R q5B (N o15 (N o1J L L) (N o2x L L))) (N o0n q54 q5C)) (N o0b (N o01 q55 (N o1a (N o1R L L) (N o00 L L))) (N o0B q56 q5D))) (N o00 (N o07 (N o0n q57 (N o17 (N o1N L L) (N o00 L L))) (N o01 q58 (N o1g (N o2t L L) (N o2I L L)))) (N o0d (N o0r q59 q5E) (N o0n (N o01 (N o1F L L) (N o2u L L)) q5F)))) (N b5 (N b9 (N o06 (N o0i q5a (N o00 (N o1L L L) (N o01 L L))) (N o0y q5b q5G)) (N o00 (N o0q q5c q5H) (N o0D (N o12 (N o1E L L) (N o26 L L)) q5I))) (N o02 (N o09 (N o0o q5d (N o18 (N o00 L L) (N o2A L L))) (N o0A q5e q5J)) (N o00 (N o0t q5f q5K) (N o0I (N o00 (N o1H L L) (N o2v L L)) q5L))))) (N b2 (N b4 (N b8 (N o01 (N o0h q5N (N o16 (N o1K L L) (N o00 L L))) (N o0b q5g q5O)) (N o0c (N o0p q5h (N o00 (N o1S L L) (N o01 L L))) (N o0C q5i q5P))) (N o2s (N o08 (N o0b q5j (N o00 (N o1O L L) (N o2z L L))) (N o0z q5k q5Q)) (N o0e (N o0s q5l q5R) (N o0b (N o13 (N o1G L L) (N o00 L L)) q5S)))) (N b6 (N b10 (N o00 (N o0j q5m (N o01 (N o1M L L) (N o2y L L))) (N o00 q5n q5T)) (N o01 (N o00 q5o q5U) (N o0E (N o00 (N o00 L L) (N o0b L L)) q5V))) (N o03 (N o0a (N o00 q5p (N o19 (N o01 L L) (N o2B L L))) (N o00 q5q q5W)) (N o0f (N o0u q5r q5X) (N o00 (N o14 (N o1I L L) (N o2w L L)) q5Y))))))
def tree_214_:BT:=(N b0 (N b1 (N o1j (N b7 (N o00 q21 (N o0n q22 (N o00 L L))) (N o0b (N o01 q24 (N o1a L L)) (N o0B q26 (N o01 L L)))) (N o00 (N o07 q29 (N o01 q1l (N o1g L L))) (N o0d (N o0r q2a (N o00 L L)) q2c))) (N b5 (N b9 (N o06 q2e (N o0y q2f (N o1f L L))) (N o00 (N o0q q2h (N o01 L L)) q2k)) (N o02 (N o09 (N o0o q2l (N o18 L L)) (N o0A q2n (N o1i L L))) (N o00 (N o0t q2p (N o1d L L)) q2s)))) (N b2 (N b4 (N b8 (N o01 q2u (N o0b q2v (N o01 L L))) (N o0c (N o0p q2x (N o00 L L)) q2z)) (N o1k (N o08 q2B (N o0z q2C (N o1h L L))) (N o0e (N o0s q2E (N o1c L L)) q2H))) (N b6 (N b10 (N o00 q2J (N o00 q2K (N o00 L L))) (N o01 (N o00 q2M (N o1b L L)) q2O)) (N o03 (N o0a (N o00 q2P (N o19 L L)) (N o00 q2R (N o00 L L))) (N o0f (N o0u q2T (N o1e L L)) q2W)))))
def q5Z:BT:=(N o1p q2X (N o4l (N o7f L L) L))
def q60:BT:=(N o01 (N o6z L L) L)
def q61:BT:=(N o00 q60 (N o51 L L))
def q62:BT:=(N o3c (N o68 L L) L)
def q63:BT:=(N o1J q62 (N o26 L L))
def q64:BT:=(N o00 (N o5Z L L) L)
def q65:BT:=(N o1z q64 (N o00 L L))
def q66:BT:=(N o3L (N o00 L L) L)
def q67:BT:=(N o0V q65 (N o2j q66 (N o00 L L)))
def q68:BT:=(N o3r (N o6k L L) L)
def q69:BT:=(N o1V q68 (N o4R L L))
def q6a:BT:=(N o46 (N o00 L L) L)
def q6b:BT:=(N o01 q6a (N o00 L L))
def q6c:BT:=(N o00 q35 (N o00 (N o7n L L) L))
def q6d:BT:=(N o3E (N o6E L L) L)
def q6e:BT:=(N o01 q6d (N o57 L L))
def q6f:BT:=(N o3j (N o6f L L) L)
def q6g:BT:=(N o1R q6f (N o01 L L))
def q6h:BT:=(N o01 (N o71 L L) L)
def q6i:BT:=(N o00 q6h (N o5t L L))
def q6j:BT:=(N o00 q2a (N o4y L L))
def q6k:BT:=(N o3T (N o0b L L) L)
def q6l:BT:=(N o00 (N o6s L L) L)
def q6m:BT:=(N o22 q6l (N o4W L L))
def q6n:BT:=(N o4d (N o7a L L) L)
def q6o:BT:=(N o2K q6n (N o01 L L))
def q6p:BT:=(N o1s q3e (N o00 (N o7j L L) L))
def q6q:BT:=(N o3C (N o6B L L) L)
def q6r:BT:=(N o2c q6q (N o55 L L))
def q6s:BT:=(N o3f (N o00 L L) L)
def q6t:BT:=(N o1N q6s (N o4K L L))
def q6u:BT:=(N o3Z (N o6Z L L) L)
def q6v:BT:=(N o00 q6u (N o5V L L))
def q6w:BT:=(N o35 (N o00 L L) L)
def q6x:BT:=(N o00 q6w (N o00 L L))
def q6y:BT:=(N o3Q (N o6N L L) L)
def q6z:BT:=(N o00 q6x (N o2m q6y (N o00 L L)))
def q6A:BT:=(N o00 (N o6o L L) L)
def q6B:BT:=(N o4I q6A (N o01 L L))
def q6C:BT:=(N o49 (N o00 L L) L)
def q6D:BT:=(N o2I q6C (N o5D L L))
def q6E:BT:=(N o00 (N o5W L L) L)
def q6F:BT:=(N o00 q6E (N o4s (N o00 L L) L))
def q6G:BT:=(N o3H (N o6I L L) L)
def q6H:BT:=(N o2h q6G (N o5a L L))
def q6I:BT:=(N o3o (N o00 L L) L)
def q6J:BT:=(N o0b q6I (N o4P L L))
def q6K:BT:=(N o44 (N o74 L L) L)
def q6L:BT:=(N o2D q6K (N o00 L L))
def q6M:BT:=(N o3a (N o65 L L) L)
def q6N:BT:=(N o1F q6M (N o4C L L))
def q6O:BT:=(N o00 (N o6U L L) L)
def q6P:BT:=(N o3x (N o6w L L) L)
def q6Q:BT:=(N o00 q6P (N o4Y L L))
def q6R:BT:=(N o2N (N o4i (N o01 L L) L) (N o5I L L))
def q6S:BT:=(N o1q q3r (N o01 (N o7h L L) L))
def q6T:BT:=(N o2b q1l (N o53 L L))
def q6U:BT:=(N o3d (N o6a L L) L)
def q6V:BT:=(N o1L q6U (N o4J L L))
def q6W:BT:=(N o3Y (N o00 L L) L)
def q6X:BT:=(N o01 q6W (N o00 L L))
def q6Y:BT:=(N o34 (N o01 L L) L)
def q6Z:BT:=(N o0b q6Y (N o4v L L))
def q70:BT:=(N o26 (N o6M L L) L)
def q71:BT:=(N o0X q6Z (N o2k q70 (N o5d L L)))
def q72:BT:=(N o01 (N o6m L L) L)
def q73:BT:=(N o00 q72 (N o4T L L))
def q74:BT:=(N o47 (N o77 L L) L)
def q75:BT:=(N o00 q74 (N o5C L L))
def q76:BT:=(N o01 (N o5x L L) L)
def q77:BT:=(N o1v q76 (N o4q (N o01 L L) L))
def q78:BT:=(N o3F (N o6G L L) L)
def q79:BT:=(N o00 q78 (N o58 L L))
def q7a:BT:=(N o26 (N o6h L L) L)
def q7b:BT:=(N o1T q7a (N o00 L L))
def q7c:BT:=(N o00 (N o72 L L) L)
def q7d:BT:=(N o2C q7c (N o0b L L))
def q7e:BT:=(N o00 (N o64 L L) L)
def q7f:BT:=(N o1E q7e (N o4A L L))
def q7g:BT:=(N o3w (N o00 L L) L)
def q7h:BT:=(N o0b q7g (N o00 L L))
def q7i:BT:=(N o26 (N o7c L L) L)
def q7j:BT:=(N o2L q7i (N o00 L L))
def q7k:BT:=(N o01 q3F (N o4o (N o7l L L) L))
def q7l:BT:=(N o00 (N o6C L L) L)
def q7m:BT:=(N o2e q7l (N o00 L L))
def q7n:BT:=(N o3h (N o6e L L) L)
def q7o:BT:=(N o00 q7n (N o4M L L))
def q7p:BT:=(N o41 (N o00 L L) L)
def q7q:BT:=(N o2A q7p (N o5r L L))
def q7r:BT:=(N o37 (N o62 L L) L)
def q7s:BT:=(N o1C q7r (N o4x L L))
def q7t:BT:=(N o3R (N o6P L L) L)
def q7u:BT:=(N o0Z q7s (N o2n q7t (N o5h L L)))
def q7v:BT:=(N o3u (N o6q L L) L)
def q7w:BT:=(N o20 q7v (N o00 L L))
def q7x:BT:=(N o4b (N o79 L L) L)
def q7y:BT:=(N o00 q7x (N o5F L L))
def q7z:BT:=(N o32 (N o5X L L) L)
def q7A:BT:=(N o1x q7z (N o01 (N o7q L L) L))
def q7B:BT:=(N o3J (N o6K L L) L)
def q7C:BT:=(N o00 q7B (N o01 L L))
def q7D:BT:=(N o3p (N o6j L L) L)
def q7E:BT:=(N o00 q7D (N o00 L L))
def q7F:BT:=(N o2F q04 (N o5A L L))
def q7G:BT:=(N o00 (N o67 L L) L)
def q7H:BT:=(N o1H q7G (N o4E L L))
def q7I:BT:=(N o3W (N o6W L L) L)
def q7J:BT:=(N o3z (N o6x L L) L)
def q7K:BT:=(N o29 q7J (N o4Z L L))
def q7L:BT:=(N o2P (N o4j (N o00 L L) L) (N o00 L L))
def q7M:BT:=(N o00 q3U (N o00 (N o7g L L) L))
def q7N:BT:=(N o3A (N o6A L L) L)
def q7O:BT:=(N o01 q7N (N o52 L L))
def q7P:BT:=(N o00 (N o69 L L) L)
def q7Q:BT:=(N o1K q7P (N o0b L L))
def q7R:BT:=(N o01 (N o6X L L) L)
def q7S:BT:=(N o00 q7R (N o5n L L))
def q7T:BT:=(N o00 q2a (N o4u L L))
def q7U:BT:=(N o3M (N o01 L L) L)
def q7V:BT:=(N o0W q7T (N o00 q7U (N o5c L L)))
def q7W:BT:=(N o00 (N o6l L L) L)
def q7X:BT:=(N o1W q7W (N o4S L L))
def q7Y:BT:=(N o00 (N o76 L L) L)
def q7Z:BT:=(N o2G q7Y (N o01 L L))
def q80:BT:=(N o00 (N o6F L L) L)
def q81:BT:=(N o2f q80 (N o00 L L))
def q82:BT:=(N o3k (N o6g L L) L)
def q83:BT:=(N o1S q82 (N o4N L L))
def q84:BT:=(N o42 (N o00 L L) L)
def q85:BT:=(N o01 q84 (N o5x L L))
def q86:BT:=(N o38 (N o01 L L) L)
def q87:BT:=(N o01 q86 (N o4z L L))
def q88:BT:=(N o00 (N o6S L L) L)
def q89:BT:=(N o01 (N o6t L L) L)
def q8a:BT:=(N o26 q89 (N o4X L L))
def q8b:BT:=(N o4e (N o7b L L) L)
def q8c:BT:=(N o00 q8b (N o5G L L))
def q8d:BT:=(N o00 q4b (N o4n (N o7k L L) L))
def q8e:BT:=(N o3D (N o00 L L) L)
def q8f:BT:=(N o2d q8e (N o56 L L))
def q8g:BT:=(N o3g (N o0b L L) L)
def q8h:BT:=(N o1O q8g (N o4L L L))
def q8i:BT:=(N o40 (N o70 L L) L)
def q8j:BT:=(N o2z q8i (N o5q L L))
def q8k:BT:=(N o36 (N o61 L L) L)
def q8l:BT:=(N o1B q8k (N o01 L L))
def q8m:BT:=(N o00 (N o6O L L) L)
def q8n:BT:=(N o01 q8l (N o00 q8m (N o01 L L)))
def q8o:BT:=(N o3t (N o6p L L) L)
def q8p:BT:=(N o1Z q8o (N o4U L L))
def q8q:BT:=(N o4a (N o01 L L) L)
def q8r:BT:=(N o2J q8q (N o5E L L))
def q8s:BT:=(N o31 (N o00 L L) L)
def q8t:BT:=(N o01 q8s (N o00 (N o7p L L) L))
def q8u:BT:=(N o3I (N o6J L L) L)
def q8v:BT:=(N o2i q8u (N o00 L L))
def q8w:BT:=(N o1U q04 (N o4Q L L))
def q8x:BT:=(N o45 (N o00 L L) L)
def q8y:BT:=(N o2E q8x (N o5z L L))
def q8z:BT:=(N o3b (N o66 L L) L)
def q8A:BT:=(N o1G q8z (N o4D L L))
def q8B:BT:=(N o3V (N o6V L L) L)
def q8C:BT:=(N o3y (N o00 L L) L)
def q8D:BT:=(N o28 q8C (N o00 L L))
def q8E:BT:=(N o2O (N o00 (N o7d L L) L) (N o5J L L))
def q8F:BT:=(N o1r q4q (N o4m (N o7i L L) L))
def q8G:BT:=(N o3B (N o01 L L) L)
def q8H:BT:=(N o00 q8G (N o54 L L))
def q8I:BT:=(N o3e (N o6b L L) L)
def q8J:BT:=(N o1M q8I (N o00 L L))
def q8K:BT:=(N o00 (N o6Y L L) L)
def q8L:BT:=(N o2y q8K (N o5o L L))
def q8M:BT:=(N o00 (N o60 L L) L)
def q8N:BT:=(N o1A q8M (N o4w L L))
def q8O:BT:=(N o0b (N o00 L L) L)
def q8P:BT:=(N o0Y q8N (N o2l q8O (N o5e L L)))
def q8Q:BT:=(N o3s (N o6n L L) L)
def q8R:BT:=(N o1X q8Q (N o00 L L))
def q8S:BT:=(N o48 (N o78 L L) L)
def q8T:BT:=(N o2H q8S (N o00 L L))
def q8U:BT:=(N o30 (N o0b L L) L)
def q8V:BT:=(N o1w q8U (N o4r (N o7o L L) L))
def q8W:BT:=(N o3G (N o6H L L) L)
def q8X:BT:=(N o2g q8W (N o59 L L))
def q8Y:BT:=(N o0b (N o6i L L) L)
def q8Z:BT:=(N o00 q8Y (N o4O L L))
def q90:BT:=(N o43 (N o73 L L) L)
def q91:BT:=(N o00 q90 (N o5y L L))
def q92:BT:=(N o39 (N o00 L L) L)
def q93:BT:=(N o00 q92 (N o4B L L))
def q94:BT:=(N o3U (N o6T L L) L)
def q95:BT:=(N o27 q1G (N o01 L L))
def q96:BT:=(N o2M q8O (N o5H L L))
def q97:BT:=(N o1t q4E (N o4p (N o7m L L) L))
def q98:BT:=(N o01 (N o6D L L) L)
def q99:BT:=(N o00 q98 (N o01 L L))
def q9a:BT:=(N o3i (N o00 L L) L)
def q9b:BT:=(N o01 q9a (N o00 L L))
def q9c:BT:=(N o2B q04 (N o5s L L))
def q9d:BT:=(N o00 (N o63 L L) L)
def q9e:BT:=(N o1D q9d (N o00 L L))
def q9f:BT:=(N o3S (N o00 L L) L)
def q9g:BT:=(N o3v (N o6r L L) L)
def q9h:BT:=(N o21 q9g (N o4V L L))
def q9i:BT:=(N o4c (N o00 L L) L)
def q9j:BT:=(N o01 q9i (N o00 L L))
def q9k:BT:=(N o33 (N o5Y L L) L)
def q9l:BT:=(N o1y q9k (N o4t (N o7r L L) L))
def q9m:BT:=(N o3K (N o6L L L) L)
def q9n:BT:=(N o01 q9m (N o5b L L))
def q9o:BT:=(N o3q (N o00 L L) L)
def q9p:BT:=(N o01 q9o (N o01 L L))
def q9q:BT:=(N o01 (N o75 L L) L)
def q9r:BT:=(N o00 q9q (N o5B L L))
def q9s:BT:=(N o1I q2a (N o4F L L))
def q9t:BT:=(N o3X (N o00 L L) L)
def q9u:BT:=(N o00 (N o6y L L) L)
def q9v:BT:=(N o2a q9u (N o50 L L))
def q9w:BT:=(N o2Q (N o4k (N o7e L L) L) (N o01 L L))
def tree_741_:BT:=(N b0 (N b1 (N o6Q (N b7 (N o00 (N o0R (N o01 q5Z q61) (N o15 q63 (N o2x q04 (N o5m L L)))) (N o0n q67 (N o00 q69 q6b))) (N o0b (N o01 (N o0n q6c q6e) (N o1a q6g q6i)) (N o0B (N o10 q6j (N o2p q6k (N o5i L L))) (N o01 q6m q6o)))) (N o00 (N o07 (N o0n (N o0L q6p q6r) (N o17 q6t q6v)) (N o01 q6z (N o1g q6B q6D))) (N o0d (N o0r (N o01 q6F q6H) (N o00 q6J q6L)) (N o0n (N o01 q6N (N o2u q6O (N o0b L L))) (N o1n q6Q q6R))))) (N b5 (N b9 (N o06 (N o0i (N o0K q6S q6T) (N o00 q6V q6X)) (N o0y q71 (N o1f q73 q75))) (N o00 (N o0q (N o0S q77 q79) (N o01 q7b q7d)) (N o0D (N o12 q7f (N o26 q2a (N o5k L L))) (N o00 q7h q7j)))) (N o02 (N o09 (N o0o (N o0N q7k q7m) (N o18 q7o q7q)) (N o0A q7u (N o1i q7w q7y))) (N o00 (N o0t (N o0U q7A q7C) (N o1d q7E q7F)) (N o0I (N o00 q7H (N o2v q7I (N o00 L L))) (N o00 q7K q7L)))))) (N b2 (N b4 (N b8 (N o01 (N o0h (N o0J q7M q7O) (N o16 q7Q q7S)) (N o0b q7V (N o01 q7X q7Z))) (N o0c (N o0p (N o0b (N o1u q42 q2a) q81) (N o00 q83 q85)) (N o0C (N o11 q87 (N o2q q88 (N o5j L L))) (N o1l q8a q8c)))) (N o6R (N o08 (N o0b (N o0M q8d q8f) (N o00 q8h q8j)) (N o0z q8n (N o1h q8p q8r))) (N o0e (N o0s (N o0T q8t q8v) (N o1c q8w q8y)) (N o0b (N o13 q8A (N o00 q8B (N o5l L L))) (N o1o q8D q8E))))) (N b6 (N b10 (N o00 (N o0j (N o00 q8F q8H) (N o01 q8J q8L)) (N o00 q8P (N o00 q8R q8T))) (N o01 (N o00 (N o00 q8V q8X) (N o1b q8Z q91)) (N o0E (N o00 q93 (N o0b q94 (N o00 L L))) (N o1m q95 q96)))) (N o03 (N o0a (N o00 (N o0O q97 q99) (N o19 q9b q9c)) (N o00 (N o00 q9e (N o2o q9f (N o00 L L))) (N o00 q9h q9j))) (N o0f (N o0u (N o00 q9l q9n) (N o1e q9p q9r)) (N o00 (N o14 q9s (N o2w q9t (N o01 L L))) (N o01 q9v q9w)))))))
def q9x:BT:=(N o15 q05 (N o2x L L))
def q9y:BT:=(N o1z (N o00 L L) L)
def q9z:BT:=(N o00 (N o2Z L L) L)
def q9A:BT:=(N o1a q0d (N o00 L L))
def q9B:BT:=(N o10 q04 (N o2p L L))
def q9C:BT:=(N o1s (N o2W L L) L)
def q9D:BT:=(N o17 q0k (N o00 L L))
def q9E:BT:=(N o00 (N o35 L L) L)
def q9F:BT:=(N o00 q9E (N o2m L L))
def q9G:BT:=(N o1F (N o3a L L) L)
def q9H:BT:=(N o01 q9G (N o2u L L))
def q9I:BT:=(N o1n q0v (N o2N L L))
def q9J:BT:=(N o1q (N o26 L L) L)
def q9K:BT:=(N o00 q0z (N o01 L L))
def q9L:BT:=(N o0b (N o34 L L) L)
def q9M:BT:=(N o0X q9L (N o2k L L))
def q9N:BT:=(N o1v (N o01 L L) L)
def q9O:BT:=(N o1E (N o00 L L) L)
def q9P:BT:=(N o12 q9O (N o26 L L))
def q9Q:BT:=(N o00 q0K (N o2L L L))
def q9R:BT:=(N o01 (N o2X L L) L)
def q9S:BT:=(N o18 q0O (N o2A L L))
def q9T:BT:=(N o1C (N o37 L L) L)
def q9U:BT:=(N o0Z q9T (N o2n L L))
def q9V:BT:=(N o1x (N o32 L L) L)
def q9W:BT:=(N o1H (N o00 L L) L)
def q9X:BT:=(N o00 q9W (N o2v L L))
def q9Y:BT:=(N o00 q10 (N o2P L L))
def q9Z:BT:=(N o16 q14 (N o00 L L))
def qa0:BT:=(N o1u (N o00 L L) L)
def qa1:BT:=(N o00 q1b (N o01 L L))
def qa2:BT:=(N o01 (N o38 L L) L)
def qa3:BT:=(N o11 qa2 (N o2q L L))
def qa4:BT:=(N o00 q1i (N o2z L L))
def qa5:BT:=(N o1B (N o36 L L) L)
def qa6:BT:=(N o01 qa5 (N o00 L L))
def qa7:BT:=(N o01 (N o31 L L) L)
def qa8:BT:=(N o1G (N o3b L L) L)
def qa9:BT:=(N o13 qa8 (N o00 L L))
def qaa:BT:=(N o1o q1u (N o2O L L))
def qab:BT:=(N o1r (N o0b L L) L)
def qac:BT:=(N o01 q1y (N o2y L L))
def qad:BT:=(N o1A (N o00 L L) L)
def qae:BT:=(N o0Y qad (N o2l L L))
def qaf:BT:=(N o1w (N o30 L L) L)
def qag:BT:=(N o00 (N o39 L L) L)
def qah:BT:=(N o00 qag (N o0b L L))
def qai:BT:=(N o1m q1K (N o2M L L))
def qaj:BT:=(N o1t (N o2Y L L) L)
def qak:BT:=(N o19 q1N (N o2B L L))
def qal:BT:=(N o1D (N o00 L L) L)
def qam:BT:=(N o00 qal (N o2o L L))
def qan:BT:=(N o1y (N o33 L L) L)
def qao:BT:=(N o1I (N o01 L L) L)
def qap:BT:=(N o14 qao (N o2w L L))
def qaq:BT:=(N o01 q1Y (N o2Q L L))
def tree_400_:BT:=(N b0 (N b1 (N o3l (N b7 (N o00 (N o0R (N o01 q5A q04) q9x) (N o0n (N o0V q9y q08) (N o00 q09 (N o01 L L)))) (N o0b (N o01 (N o0n q9z q0c) q9A) (N o0B q9B (N o01 q0g (N o2K L L))))) (N o00 (N o07 (N o0n (N o0L q9C q0j) q9D) (N o01 q9F (N o1g (N o3n (N o00 L L) L) (N o2I L L)))) (N o0d (N o0r (N o01 q1l q0q) (N o00 q0r (N o2D L L))) (N o0n q9H q9I)))) (N b5 (N b9 (N o06 (N o0i (N o0K q9J q0y) q9K) (N o0y q9M (N o1f q04 (N o00 L L)))) (N o00 (N o0q (N o0S q9N q0F) (N o01 q0G (N o2C L L))) (N o0D q9P q9Q))) (N o02 (N o09 (N o0o (N o0N q9R q0N) q9S) (N o0A q9U (N o1i q0S (N o00 L L)))) (N o00 (N o0t (N o0U q9V q0V) (N o1d q0W (N o2F L L))) (N o0I q9X q9Y))))) (N b2 (N b4 (N b8 (N o01 (N o0h (N o0J q5M q13) q9Z) (N o0b (N o0W q04 q16) (N o01 q17 (N o2G L L)))) (N o0c (N o0p (N o0b qa0 q1a) qa1) (N o0C qa3 (N o1l q0J (N o00 L L))))) (N o3m (N o08 (N o0b (N o0M q1l q1h) qa4) (N o0z qa6 (N o1h q1m (N o2J L L)))) (N o0e (N o0s (N o0T qa7 q1p) (N o1c q1q (N o2E L L))) (N o0b qa9 qaa)))) (N b6 (N b10 (N o00 (N o0j (N o00 qab q1x) qac) (N o00 qae (N o00 q1C (N o2H L L)))) (N o01 (N o00 (N o00 qaf q1F) (N o1b q1G (N o00 L L))) (N o0E qah qai))) (N o03 (N o0a (N o00 (N o0O qaj q04) qak) (N o00 qam (N o00 q1R (N o01 L L)))) (N o0f (N o0u (N o00 qan q1U) (N o1e q1V (N o00 L L))) (N o00 qap qaq))))))
def tree_443_:BT:=(N b0 (N b1 (N o3N (N b7 (N o00 (N o0R (N o01 q5A q04) (N o15 q05 q06)) (N o0n (N o0V q9y q08) (N o00 q09 q0a))) (N o0b (N o01 (N o0n q9z q0c) (N o1a q0d q04)) (N o0B (N o10 q04 q0f) (N o01 q0g q0h)))) (N o00 (N o07 (N o0n (N o0L q9C q0j) (N o17 q0k q0l)) (N o01 (N o00 q9E q0n) (N o1g (N o3P (N o00 L L) L) q0o))) (N o0d (N o0r (N o01 q1l q0q) (N o00 q0r q0s)) (N o0n (N o01 q9G q0u) q9I)))) (N b5 (N b9 (N o06 (N o0i (N o0K q9J q0y) (N o00 q0z q0A)) (N o0y (N o0X q9L q0C) (N o1f q04 q0D))) (N o00 (N o0q (N o0S q9N q0F) (N o01 q0G q0H)) (N o0D (N o12 q9O q0J) q9Q))) (N o02 (N o09 (N o0o (N o0N q9R q0N) (N o18 q0O q0P)) (N o0A (N o0Z q9T q0R) (N o1i q0S q0T))) (N o00 (N o0t (N o0U q9V q0V) (N o1d q0W q0X)) (N o0I (N o00 q9W q0Z) q9Y))))) (N b2 (N b4 (N b8 (N o01 (N o0h (N o0J q5M q13) (N o16 q14 q04)) (N o0b (N o0W q04 q16) (N o01 q17 q18))) (N o0c (N o0p (N o0b qa0 q1a) (N o00 q1b q1c)) (N o0C (N o11 qa2 q1e) (N o1l q0J q1f)))) (N o3O (N o08 (N o0b (N o0M q1l q1h) (N o00 q1i q1j)) (N o0z (N o01 qa5 q1l) (N o1h q1m q1n))) (N o0e (N o0s (N o0T qa7 q1p) (N o1c q1q q1r)) (N o0b (N o13 qa8 q1t) qaa)))) (N b6 (N b10 (N o00 (N o0j (N o00 qab q1x) (N o01 q1y q1z)) (N o00 (N o0Y qad q1B) (N o00 q1C q1D))) (N o01 (N o00 (N o00 qaf q1F) (N o1b q1G q1H)) (N o0E (N o00 qag q1J) qai))) (N o03 (N o0a (N o00 (N o0O qaj q04) (N o19 q1N q1O)) (N o00 (N o00 qal q1Q) (N o00 q1R q1S))) (N o0f (N o0u (N o00 qan q1U) (N o1e q1V q04)) (N o00 (N o14 qao q1X) qaq))))))
def qar:BT:=(N o0R (N o01 q2Y q2Z) (N o15 q63 q31))
def qas:BT:=(N o00 (N o3Z L L) (N o5V L L))
def qat:BT:=(N o00 q6E (N o4s L L))
def qau:BT:=(N o0n (N o01 q6N q3o) (N o1n q3p q3q))
def qav:BT:=(N o0i (N o0K q3s q3t) (N o00 q6V q3v))
def qaw:BT:=(N o1v q76 (N o4q L L))
def qax:BT:=(N o0D (N o12 q7f q3C) (N o00 q3D q3E))
def qay:BT:=(N o1x q7z (N o01 L L))
def qaz:BT:=(N o0I (N o00 q7H q3R) (N o00 q3S q3T))
def qaA:BT:=(N o0h (N o0J q3V q3W) (N o16 q7Q q3Y))
def qaB:BT:=(N o01 q8s (N o00 L L))
def qaC:BT:=(N o0b (N o13 q8A q4n) (N o1o q4o q4p))
def qaD:BT:=(N o0j (N o00 q4r q4s) (N o01 q8J q4u))
def qaE:BT:=(N o1w q8U (N o4r L L))
def qaF:BT:=(N o0E (N o00 q93 q4B) (N o1m q4C q4D))
def qaG:BT:=(N o1y q9k (N o4t L L))
def qaH:BT:=(N o00 (N o14 q9s q4Q) (N o01 q4R q4S))
def tree_627_:BT:=(N b0 (N b1 (N o5T (N b7 (N o00 qar (N o0n (N o0V q65 q32) (N o00 q33 q34))) (N o0b q3a (N o0B (N o10 q6j q3b) (N o01 q3c q3d)))) (N o00 (N o07 (N o0n (N o0L q3f q3g) (N o17 q3h qas)) (N o01 (N o00 q6x q3i) (N o1g q3j q3k))) (N o0d (N o0r (N o01 qat q3l) (N o00 q3m q3n)) qau))) (N b5 (N b9 (N o06 qav (N o0y (N o0X q6Z q3w) (N o1f q3x q3y))) (N o00 (N o0q (N o0S qaw q3z) (N o01 q3A q3B)) qax)) (N o02 (N o09 q3K (N o0A (N o0Z q7s q3L) (N o1i q3M q3N))) (N o00 (N o0t (N o0U qay q3O) (N o1d q3P q3Q)) qaz)))) (N b2 (N b4 (N b8 (N o01 qaA (N o0b (N o0W q7T q3Z) (N o01 q40 q41))) (N o0c q47 (N o0C (N o11 q87 q48) (N o1l q49 q4a)))) (N o5U (N o08 q4g (N o0z (N o01 q8l q4h) (N o1h q4i q4j))) (N o0e (N o0s (N o0T qaB q4k) (N o1c q4l q4m)) qaC))) (N b6 (N b10 (N o00 qaD (N o00 (N o0Y q8N q4v) (N o00 q4w q4x))) (N o01 (N o00 (N o00 qaE q4y) (N o1b q4z q4A)) qaF)) (N o03 (N o0a q4J (N o00 (N o00 q9e q4K) (N o00 q4L q4M))) (N o0f (N o0u (N o00 qaG q4N) (N o1e q4O q4P)) qaH)))))
def heap_39_:Frag:=[(2,o8w),(3,o8f),(15,o00),(17,o06),(18,o00),(20,o08),(21,o09),(22,o0a),(29,o00),(30,o0f),(31,o0R),(32,o0h),(35,o0n),(42,o00),(43,o0r),(44,o0s),(47,o0n),(54,o00),(55,o0B),(56,o0C),(59,o0n),(66,o00),(67,o0L),(68,o0M),(71,o0n),(78,o00),(79,o0V),(80,o0W),(83,o00),(85,o0Z),(86,o00),(88,o11),(89,o12),(90,o00),(92,o13),(93,o00),(95,o15),(96,o16),(97,o00),(99,o17),(100,o00),(102,o19),(103,o1a),(104,o00),(106,o1b),(107,o00),(109,o1d),(110,o1e),(111,o00),(113,o1f),(114,o00),(116,o1h),(117,o1i),(118,o00),(120,o1l),(121,o00),(123,o1n),(124,o1o),(125,o00),(127,o1p),(128,o00),(130,o1r),(131,o1s),(132,o00),(134,o1t),(135,o00),(137,o1v),(138,o1w),(139,o00),(142,o1y),(143,o1z),(151,o00),(153,o1E),(154,o00),(156,o1G),(157,o1H),(158,o1I),(159,o1J),(160,o1K),(161,o1L),(162,o1M),(165,o00),(168,o1S),(169,o1T),(177,o00),(178,o1X),(179,o4I),(180,o1Z),(181,o20),(184,o26),(191,o00),(193,o2b),(194,o00),(196,o2d),(197,o2e),(198,o00),(200,o2f),(201,o00),(203,o2h),(204,o2i),(205,o00),(207,o2j),(208,o00),(210,o2l),(211,o2m),(212,o00),(213,o2n),(214,o2o),(217,o26),(224,o00),(226,o2y),(227,o00),(229,o2A),(230,o2B),(231,o00),(233,o2C),(234,o00),(236,o2E),(237,o2F),(238,o00),(240,o2G),(241,o00),(243,o2I),(244,o2J),(245,o00),(247,o2K),(248,o00),(250,o2M),(251,o2N),(252,o2O),(253,o2P),(254,o2Q),(257,o26),(264,o00),(266,o30),(267,o00),(269,o32),(270,o33),(271,o00),(273,o34),(274,o00),(276,o36),(277,o37),(278,o00),(280,o38),(281,o00),(283,o3a),(284,o3b),(285,o00),(287,o3c),(288,o00),(290,o3e),(291,o3f),(292,o3g),(293,o3h),(294,o3i),(297,o26),(304,o00),(306,o3s),(307,o00),(309,o3u),(310,o3v),(311,o00),(313,o3w),(314,o00),(316,o3y),(317,o3z),(318,o00),(320,o3A),(321,o00),(323,o3C),(324,o3D),(325,o00),(327,o3E),(328,o00),(330,o3G),(331,o3H),(332,o3I),(333,o3J),(334,o3K),(337,o26),(344,o00),(346,o3U),(347,o00),(349,o3W),(350,o3X),(351,o00),(353,o3Y),(354,o00),(356,o40),(357,o41),(358,o00),(360,o42),(361,o00),(363,o44),(364,o45),(365,o00),(367,o46),(368,o00),(370,o48),(371,o49),(372,o4a),(373,o4b),(374,o4c),(377,o26),(384,o00),(386,o4m),(387,o00),(389,o4o),(390,o4p),(391,o00),(394,o4r),(395,o4s),(396,o00),(398,o4t),(399,o00),(401,o4v),(402,o4w),(403,o00),(405,o4x),(406,o00),(408,o4z),(409,o4A),(410,o4B),(411,o4C),(412,o4D),(415,o26),(422,o00),(424,o4N),(425,o00),(427,o4P),(428,o4Q),(429,o00),(432,o4S),(433,o4T),(434,o00),(436,o4U),(437,o00),(439,o4W),(440,o4X),(441,o00),(443,o4Y),(444,o00),(446,o50),(447,o51),(448,o52),(449,o53),(450,o54),(453,o00),(455,o57),(456,o00),(458,o59),(459,o5a),(460,o00),(462,o5b),(463,o00),(465,o5d),(466,o5e),(467,o00),(469,o5h),(470,o00),(472,o5j),(473,o5k),(481,o00),(482,o5o),(483,o5V),(484,o5q),(485,o5r),(488,o5x),(495,o00),(497,o5C),(498,o00),(500,o5E),(501,o5F),(502,o00),(504,o5G),(505,o00),(507,o5I),(508,o5J),(509,o00),(511,o5K),(512,o00),(514,o5M),(515,o5N),(516,o5O),(517,o5P),(518,o5Q),(521,o5x),(528,o00),(530,o60),(531,o00),(533,o62),(534,o63),(535,o00),(537,o64),(538,o00),(540,o66),(541,o67),(542,o00),(543,o68),(544,o69),(554,o6i),(555,o00),(557,o6j),(558,o00),(560,o6l),(561,o6m),(562,o6n),(563,o6o),(564,o6p),(565,o6q),(566,o6r),(576,o6A),(577,o00),(579,o6B),(580,o00),(582,o6D),(583,o6E),(584,o6F),(585,o6G),(586,o6H),(587,o6I),(588,o6J),(591,o00),(593,o6M),(594,o00),(596,o6O),(597,o6P),(605,o6W),(606,o00),(608,o6X),(609,o00),(611,o6Z),(612,o70),(613,o00),(615,o71),(616,o00),(618,o73),(619,o74),(620,o00),(622,o75),(623,o00),(625,o77),(626,o78),(627,o00),(629,o79),(630,o00),(632,o7b),(633,o7c),(634,o00),(636,o7d),(637,o00),(639,o7f),(640,o7g),(641,o7h),(642,o7i),(643,o7j),(644,o7k),(645,o7l),(648,o00),(650,o7o),(651,o00),(653,o7q),(654,o7r),(655,o00),(658,o7v),(659,o7w),(660,o00),(662,o7x),(663,o00),(665,o7z),(666,o7A),(667,o00),(669,o7B),(670,o00),(672,o7D),(673,o7E),(674,o00),(676,o7F),(677,o00),(679,o7H),(680,o7I),(681,o00),(684,o7K),(685,o7L),(686,o00),(688,o7M),(689,o00),(691,o7O),(692,o7P),(693,o00),(696,o7R),(697,o7S),(698,o00),(701,o7U),(702,o7V),(703,o00),(706,o7X),(707,o7Y),(708,o00),(710,o7Z),(711,o00),(713,o81),(714,o82),(715,o00),(717,o83),(718,o00),(720,o85),(721,o86),(722,o00),(724,o87),(725,o00),(727,o89),(728,o8a),(729,o00),(731,o8b),(732,o00),(734,o8d),(735,o8e),(736,o00),(738,o8h),(739,o00),(741,o8j),(742,o8k),(743,o00),(745,o8l),(746,o00),(748,o8n),(749,o8o),(750,o00),(752,o8p),(753,o00),(755,o8r),(756,o8s),(757,o00),(760,o8u),(761,o8v)]
def tree_85_:BT:=(N b0 (N b1 (N o0k (N b7 (N o00 (N o0m L L) L) (N o0b (N o01 L L) L)) (N o00 (N o07 (N o0n L L) L) q5w)) (N b5 (N b9 q00 (N o00 (N o0q L L) L)) (N o02 (N o09 (N o0o L L) L) q5x))) (N b2 (N b4 (N b8 q01 (N o0c (N o0p L L) L)) (N o0l (N o08 (N o0b L L) L) q5y)) (N b6 (N b10 q02 q2a) (N o03 (N o0a (N o00 L L) L) q5z))))
def qaI:BT:=(N o0R (N o01 q5Z (N o00 q60 (N o51 (N o00 L L) L))) (N o15 (N o1J q62 (N o26 (N o7C L L) L)) (N o2x q04 (N o5m (N o8e L L) L))))
def qaJ:BT:=(N o0V (N o1z q64 q1l) (N o2j q66 (N o00 (N o84 L L) L)))
def qaK:BT:=(N o1V q68 (N o4R (N o01 L L) L))
def qaL:BT:=(N o0n q6c (N o01 q6d (N o57 (N o00 L L) L)))
def qaM:BT:=(N o1R q6f (N o01 (N o7H L L) L))
def qaN:BT:=(N o10 (N o00 q2a (N o4y (N o00 L L) L)) (N o2p q6k (N o5i (N o89 L L) L)))
def qaO:BT:=(N o22 q6l (N o4W (N o7Q L L) L))
def qaP:BT:=(N o0L q6p (N o2c q6q (N o55 (N o7Y L L) L)))
def qaQ:BT:=(N o1N q6s (N o4K (N o01 L L) L))
def qaR:BT:=(N o00 (N o00 q6w (N o00 (N o7w L L) L)) (N o2m q6y q04))
def qaS:BT:=(N o4I q6A (N o01 (N o7O L L) L))
def qaT:BT:=(N o01 q6F (N o2h q6G (N o5a (N o00 L L) L)))
def qaU:BT:=(N o0b q6I (N o4P (N o7J L L) L))
def qaV:BT:=(N o0n (N o01 (N o1F q6M (N o4C (N o00 L L) L)) (N o2u q6O (N o0b (N o8b L L) L))) (N o1n (N o00 q6P (N o4Y (N o01 L L) L)) q6R))
def qaW:BT:=(N o0K q6S (N o2b q1l (N o53 (N o7W L L) L)))
def qaX:BT:=(N o1L q6U (N o4J (N o7E L L) L))
def qaY:BT:=(N o0X (N o0b q6Y (N o4v (N o7u L L) L)) (N o2k q70 (N o5d (N o86 L L) L)))
def qaZ:BT:=(N o00 q72 (N o4T (N o00 L L) L))
def qb0:BT:=(N o0S q77 (N o00 q78 (N o58 (N o81 L L) L)))
def qb1:BT:=(N o12 (N o1E q7e (N o4A (N o7z L L) L)) (N o26 q2a (N o5k (N o00 L L) L)))
def qb2:BT:=(N o0b q7g (N o00 (N o7S L L) L))
def qb3:BT:=(N o0N q7k (N o2e q7l q04))
def qb4:BT:=(N o00 q7n (N o4M (N o00 L L) L))
def qb5:BT:=(N o0Z (N o1C q7r (N o4x (N o01 L L) L)) (N o2n q7t (N o5h (N o00 L L) L)))
def qb6:BT:=(N o0U q7A (N o00 q7B (N o01 (N o83 L L) L)))
def qb7:BT:=(N o00 q7D (N o00 (N o7L L L) L))
def qb8:BT:=(N o0I (N o00 (N o1H q7G (N o4E (N o7B L L) L)) (N o2v q7I (N o00 (N o8c L L) L))) (N o00 (N o29 q7J (N o4Z (N o7U L L) L)) q7L))
def qb9:BT:=(N o0J q7M (N o01 q7N (N o52 (N o01 L L) L)))
def qba:BT:=(N o1K q7P (N o0b (N o7D L L) L))
def qbb:BT:=(N o0W (N o00 q2a (N o4u (N o01 L L) L)) (N o00 q7U (N o5c (N o85 L L) L)))
def qbc:BT:=(N o1W q7W (N o4S (N o7M L L) L))
def qbd:BT:=(N o0b (N o1u q42 q2a) (N o2f q80 (N o00 (N o80 L L) L)))
def qbe:BT:=(N o1S q82 (N o4N (N o7I L L) L))
def qbf:BT:=(N o11 (N o01 q86 (N o4z (N o7y L L) L)) (N o2q q88 (N o5j (N o8a L L) L)))
def qbg:BT:=(N o26 q89 (N o4X (N o7R L L) L))
def qbh:BT:=(N o0M q8d (N o2d q8e (N o56 (N o00 L L) L)))
def qbi:BT:=(N o1O q8g (N o4L (N o7F L L) L))
def qbj:BT:=(N o01 (N o1B q8k q2a) (N o00 q8m (N o01 (N o87 L L) L)))
def qbk:BT:=(N o1Z q8o (N o4U (N o7P L L) L))
def qbl:BT:=(N o0T q8t (N o2i q8u q04))
def qbm:BT:=(N o1U q04 (N o4Q (N o7K L L) L))
def qbn:BT:=(N o0b (N o13 (N o1G q8z (N o4D (N o01 L L) L)) (N o00 q8B (N o5l (N o00 L L) L))) (N o1o (N o28 q8C (N o00 (N o7T L L) L)) q8E))
def qbo:BT:=(N o00 q8F (N o00 q8G (N o54 (N o7X L L) L)))
def qbp:BT:=(N o0Y (N o1A q8M (N o4w (N o7v L L) L)) (N o2l q8O (N o5e (N o00 L L) L)))
def qbq:BT:=(N o1X q8Q (N o00 (N o7N L L) L))
def qbr:BT:=(N o00 q8V (N o2g q8W (N o59 (N o82 L L) L)))
def qbs:BT:=(N o00 q8Y (N o4O (N o01 L L) L))
def qbt:BT:=(N o0E (N o00 (N o00 q92 (N o4B (N o7A L L) L)) (N o0b q94 q04)) (N o1m (N o27 q1G q2a) q96))
def qbu:BT:=(N o0O q97 (N o00 q98 (N o01 (N o7Z L L) L)))
def qbv:BT:=(N o01 q9a (N o00 (N o7G L L) L))
def qbw:BT:=(N o00 (N o1D q9d (N o00 (N o7x L L) L)) (N o2o q9f (N o00 (N o88 L L) L)))
def qbx:BT:=(N o21 q9g (N o4V (N o01 L L) L))
def qby:BT:=(N o00 q9l (N o01 q9m (N o5b (N o00 L L) L)))
def qbz:BT:=(N o00 (N o14 (N o1I q2a (N o4F (N o00 L L) L)) (N o2w q9t (N o01 (N o8d L L) L))) (N o01 (N o2a q9u (N o50 (N o7V L L) L)) q9w))
def tree_852_:BT:=(N b0 (N b1 (N o8f (N b7 (N o00 qaI (N o0n qaJ (N o00 qaK (N o01 q6a q04)))) (N o0b (N o01 qaL (N o1a qaM (N o00 q6h (N o5t (N o00 L L) L)))) (N o0B qaN (N o01 qaO (N o2K q6n (N o01 (N o8t L L) L)))))) (N o00 (N o07 (N o0n qaP (N o17 qaQ (N o00 q6u (N o5V (N o00 L L) L)))) (N o01 qaR (N o1g qaS (N o2I q6C (N o5D (N o8r L L) L))))) (N o0d (N o0r qaT (N o00 qaU (N o2D q6K (N o00 (N o8m L L) L)))) qaV))) (N b5 (N b9 (N o06 (N o0i qaW (N o00 qaX (N o01 q6W q04))) (N o0y qaY (N o1f qaZ (N o00 q74 (N o5C (N o00 L L) L))))) (N o00 (N o0q qb0 (N o01 (N o1T q7a q1l) (N o2C q7c (N o0b (N o8l L L) L)))) (N o0D qb1 (N o00 qb2 (N o2L q7i (N o00 (N o8v L L) L)))))) (N o02 (N o09 (N o0o qb3 (N o18 qb4 (N o2A q7p (N o5r (N o8j L L) L)))) (N o0A qb5 (N o1i (N o20 q7v q1l) (N o00 q7x (N o5F (N o00 L L) L))))) (N o00 (N o0t qb6 (N o1d qb7 (N o2F q04 (N o5A (N o8o L L) L)))) qb8)))) (N b2 (N b4 (N b8 (N o01 (N o0h qb9 (N o16 qba (N o00 q7R (N o5n (N o00 L L) L)))) (N o0b qbb (N o01 qbc (N o2G q7Y (N o01 (N o8p L L) L))))) (N o0c (N o0p qbd (N o00 qbe (N o01 q84 (N o5x (N o01 L L) L)))) (N o0C qbf (N o1l qbg (N o00 q8b (N o5G (N o8u L L) L)))))) (N o8g (N o08 (N o0b qbh (N o00 qbi (N o2z q8i (N o5q (N o8i L L) L)))) (N o0z qbj (N o1h qbk (N o2J q8q (N o5E (N o8s L L) L))))) (N o0e (N o0s qbl (N o1c qbm (N o2E q8x (N o5z (N o8n L L) L)))) qbn))) (N b6 (N b10 (N o00 (N o0j qbo (N o01 (N o1M q8I q1l) (N o2y q8K (N o5o (N o8h L L) L)))) (N o00 qbp (N o00 qbq (N o2H q8S (N o00 (N o8q L L) L))))) (N o01 (N o00 qbr (N o1b qbs (N o00 q90 (N o5y (N o00 L L) L)))) qbt)) (N o03 (N o0a (N o00 qbu (N o19 qbv (N o2B q04 (N o5s (N o8k L L) L)))) (N o00 qbw (N o00 qbx (N o01 q9i q04)))) (N o0f (N o0u qby (N o1e (N o01 q9o q2a) (N o00 q9q (N o5B (N o00 L L) L)))) qbz)))))
def tree_562_:BT:=(N b0 (N b1 (N o5f (N b7 (N o00 (N o0R (N o01 q03 q2Z) (N o15 q30 q31)) q4T) (N o0b (N o01 (N o0n q0b q37) (N o1a q38 q39)) (N o0B (N o10 q0e q3b) (N o01 q3c q0h)))) (N o00 (N o07 (N o0n (N o0L q0i q3g) (N o17 q3h (N o00 (N o3Z L L) (N o5p L L)))) (N o01 (N o00 q0m q3i) (N o1g q3j q0o))) (N o0d q4U (N o0n (N o01 q0t q3o) (N o1n q3p q0w))))) (N b5 (N b9 (N o06 (N o0i (N o0K q0x q3t) (N o00 q3u q3v)) q4V) (N o00 q4W (N o0D (N o12 q0I q3C) (N o00 q3D q0L)))) (N o02 (N o09 (N o0o (N o0N q0M q3H) (N o18 q3I q3J)) (N o0A (N o0Z q0Q q3L) (N o1i q3M q0T))) (N o00 q4X (N o0I (N o00 q0Y q3R) (N o00 q3S q11)))))) (N b2 (N b4 (N b8 (N o01 (N o0h (N o0J q12 q3W) (N o16 q3X q3Y)) q4Y) (N o0c q4Z (N o0C (N o11 q1d q48) (N o1l q49 q1f)))) (N o5g (N o08 (N o0b (N o0M q1g q4d) (N o00 q4e q4f)) (N o0z (N o01 q1k q4h) (N o1h q4i q1n))) (N o0e q50 (N o0b (N o13 q1s q4n) (N o1o q4o q1v))))) (N b6 (N b10 (N o00 (N o0j (N o00 q1w q4s) (N o01 q4t q4u)) q51) (N o01 q52 (N o0E (N o00 q1I q4B) (N o1m q4C q1L)))) (N o03 (N o0a (N o00 (N o0O q1M q4G) (N o19 q4H q4I)) (N o00 (N o00 q1P q4K) (N o00 q4L q1S))) (N o0f q53 (N o00 (N o14 q1W q4Q) (N o01 q4R q1Z)))))))
def tree_824_:BT:=(N b0 (N b1 (N o7s (N b7 (N o00 qaI (N o0n qaJ (N o00 qaK q6b))) (N o0b (N o01 qaL (N o1a qaM q6i)) (N o0B qaN (N o01 qaO q6o)))) (N o00 (N o07 (N o0n qaP (N o17 qaQ q6v)) (N o01 qaR (N o1g qaS q6D))) (N o0d (N o0r qaT (N o00 qaU q6L)) qaV))) (N b5 (N b9 (N o06 (N o0i qaW (N o00 qaX q6X)) (N o0y qaY (N o1f qaZ q75))) (N o00 (N o0q qb0 (N o01 (N o1T q7a q1l) q7d)) (N o0D qb1 (N o00 qb2 q7j)))) (N o02 (N o09 (N o0o qb3 (N o18 qb4 q7q)) (N o0A qb5 (N o1i (N o20 q7v q1l) q7y))) (N o00 (N o0t qb6 (N o1d qb7 q7F)) qb8)))) (N b2 (N b4 (N b8 (N o01 (N o0h qb9 (N o16 qba q7S)) (N o0b qbb (N o01 qbc q7Z))) (N o0c (N o0p qbd (N o00 qbe q85)) (N o0C qbf (N o1l qbg q8c)))) (N o7t (N o08 (N o0b qbh (N o00 qbi q8j)) (N o0z qbj (N o1h qbk q8r))) (N o0e (N o0s qbl (N o1c qbm q8y)) qbn))) (N b6 (N b10 (N o00 (N o0j qbo (N o01 (N o1M q8I q1l) q8L)) (N o00 qbp (N o00 qbq q8T))) (N o01 (N o00 qbr (N o1b qbs q91)) qbt)) (N o03 (N o0a (N o00 qbu (N o19 qbv q9c)) (N o00 qbw (N o00 qbx q9j))) (N o0f (N o0u qby (N o1e (N o01 q9o q2a) q9r)) qbz)))))
def qbA:BT:=(N o0B (N o10 q6j q3b) (N o01 q6m q3d))
def qbB:BT:=(N o0C (N o11 q87 q48) (N o1l q8a q4a))
def qbC:BT:=(N o00 (N o00 q9e q4K) (N o00 q9h q4M))
def tree_682_:BT:=(N b0 (N b1 (N o6u (N b7 (N o00 (N o0R (N o01 q2Y q61) (N o15 q63 q31)) (N o0n q67 (N o00 q69 q34))) (N o0b (N o01 (N o0n q36 q6e) (N o1a q6g q39)) qbA)) (N o00 (N o07 (N o0n (N o0L q3f q6r) (N o17 q6t qas)) (N o01 q6z (N o1g q6B q3k))) (N o0d (N o0r (N o01 qat q6H) (N o00 q6J q3n)) (N o0n (N o01 q6N q3o) (N o1n q6Q q3q))))) (N b5 (N b9 (N o06 (N o0i (N o0K q3s q6T) (N o00 q6V q3v)) (N o0y q71 (N o1f q73 q3y))) (N o00 (N o0q (N o0S qaw q79) (N o01 q7b q3B)) (N o0D (N o12 q7f q3C) (N o00 q7h q3E)))) (N o02 (N o09 (N o0o (N o0N q3G q7m) (N o18 q7o q3J)) (N o0A q7u (N o1i q7w q3N))) (N o00 (N o0t (N o0U qay q7C) (N o1d q7E q3Q)) (N o0I (N o00 q7H q3R) (N o00 q7K q3T)))))) (N b2 (N b4 (N b8 (N o01 (N o0h (N o0J q3V q7O) (N o16 q7Q q3Y)) (N o0b q7V (N o01 q7X q41))) (N o0c (N o0p (N o0b q43 q81) (N o00 q83 q46)) qbB)) (N o6v (N o08 (N o0b (N o0M q4c q8f) (N o00 q8h q4f)) (N o0z q8n (N o1h q8p q4j))) (N o0e (N o0s (N o0T qaB q8v) (N o1c q8w q4m)) (N o0b (N o13 q8A q4n) (N o1o q8D q4p))))) (N b6 (N b10 (N o00 (N o0j (N o00 q4r q8H) (N o01 q8J q4u)) (N o00 q8P (N o00 q8R q4x))) (N o01 (N o00 (N o00 qaE q8X) (N o1b q8Z q4A)) (N o0E (N o00 q93 q4B) (N o1m q95 q4D)))) (N o03 (N o0a (N o00 (N o0O q4F q99) (N o19 q9b q4I)) qbC) (N o0f (N o0u (N o00 qaG q9n) (N o1e q9p q4P)) (N o00 (N o14 q9s q4Q) (N o01 q9v q4S)))))))
def tree_47_:BT:=(N b0 (N b1 (N b3 (N b7 L L) (N o00 L L)) (N b5 (N b9 L L) (N o02 L L))) (N b2 (N b4 (N b8 L L) (N o01 L L)) (N b6 (N b10 L L) (N o03 L L))))
def tree_357_:BT:=(N b0 (N b1 (N o2T (N b7 (N o00 (N o0R q5B q9x) (N o0n (N o0V q9y (N o2j L L)) q5C)) (N o0b (N o01 (N o0n q9z (N o01 L L)) q9A) (N o0B q9B q5D))) (N o00 (N o07 (N o0n (N o0L q9C (N o2c L L)) q9D) (N o01 q9F (N o1g (N o2V L L) (N o2I L L)))) (N o0d (N o0r (N o01 q1l (N o2h L L)) q5E) (N o0n q9H q5F)))) (N b5 (N b9 (N o06 (N o0i (N o0K q9J (N o2b L L)) q9K) (N o0y q9M q5G)) (N o00 (N o0q (N o0S q9N (N o00 L L)) q5H) (N o0D q9P q5I))) (N o02 (N o09 (N o0o (N o0N q9R (N o2e L L)) q9S) (N o0A q9U q5J)) (N o00 (N o0t (N o0U q9V (N o00 L L)) q5K) (N o0I q9X q5L))))) (N b2 (N b4 (N b8 (N o01 (N o0h q5N q9Z) (N o0b (N o0W q04 (N o00 L L)) q5O)) (N o0c (N o0p (N o0b qa0 (N o2f L L)) qa1) (N o0C qa3 q5P))) (N o2U (N o08 (N o0b (N o0M q1l (N o2d L L)) qa4) (N o0z qa6 q5Q)) (N o0e (N o0s (N o0T qa7 (N o2i L L)) q5R) (N o0b qa9 q5S)))) (N b6 (N b10 (N o00 (N o0j (N o00 qab (N o00 L L)) qac) (N o00 qae q5T)) (N o01 (N o00 (N o00 qaf (N o2g L L)) q5U) (N o0E qah q5V))) (N o03 (N o0a (N o00 (N o0O qaj (N o00 L L)) qak) (N o00 qam q5W)) (N o0f (N o0u (N o00 qan (N o01 L L)) q5X) (N o00 qap q5Y))))))
def tree_651_:BT:=(N b0 (N b1 (N o6c (N b7 (N o00 qar (N o0n (N o0V q65 q32) (N o00 q69 q34))) (N o0b (N o01 (N o0n q36 q37) (N o1a q6g q39)) qbA)) (N o00 (N o07 (N o0n (N o0L q3f q3g) (N o17 q6t qas)) (N o01 (N o00 q6x q3i) (N o1g q6B q3k))) (N o0d (N o0r (N o01 qat q3l) (N o00 q6J q3n)) qau))) (N b5 (N b9 (N o06 qav (N o0y (N o0X q6Z q3w) (N o1f q73 q3y))) (N o00 (N o0q (N o0S qaw q3z) (N o01 q7b q3B)) qax)) (N o02 (N o09 (N o0o (N o0N q3G q3H) (N o18 q7o q3J)) (N o0A (N o0Z q7s q3L) (N o1i q7w q3N))) (N o00 (N o0t (N o0U qay q3O) (N o1d q7E q3Q)) qaz)))) (N b2 (N b4 (N b8 (N o01 qaA (N o0b (N o0W q7T q3Z) (N o01 q7X q41))) (N o0c (N o0p (N o0b q43 q44) (N o00 q83 q46)) qbB)) (N o6d (N o08 (N o0b (N o0M q4c q4d) (N o00 q8h q4f)) (N o0z (N o01 q8l q4h) (N o1h q8p q4j))) (N o0e (N o0s (N o0T qaB q4k) (N o1c q8w q4m)) qaC))) (N b6 (N b10 (N o00 qaD (N o00 (N o0Y q8N q4v) (N o00 q8R q4x))) (N o01 (N o00 (N o00 qaE q4y) (N o1b q8Z q4A)) qaF)) (N o03 (N o0a (N o00 (N o0O q4F q4G) (N o19 q9b q4I)) qbC) (N o0f (N o0u (N o00 qaG q4N) (N o1e q9p q4P)) qaH)))))
end
end
noncomputable section
def tree_70 (A:AT):Params→PySem.W.BT:=fun P=>@tree_70_ A ⟨P⟩
def tree_484 (A:AT):Params→PySem.W.BT:=fun P=>@tree_484_ A ⟨P⟩
def tree_165 (A:AT):Params→PySem.W.BT:=fun P=>@tree_165_ A ⟨P⟩
def tree_235 (A:AT):Params→PySem.W.BT:=fun P=>@tree_235_ A ⟨P⟩
def tree_598 (A:AT):Params→PySem.W.BT:=fun P=>@tree_598_ A ⟨P⟩
def tree_539 (A:AT):Params→PySem.W.BT:=fun P=>@tree_539_ A ⟨P⟩
def tree_271 (A:AT):Params→PySem.W.BT:=fun P=>@tree_271_ A ⟨P⟩
def heap_46 (A:AT):Params→PySem.Heap:=fun P=>@heap_46_ A ⟨P⟩
def tree_115 (A:AT):Params→PySem.W.BT:=fun P=>@tree_115_ A ⟨P⟩
def tree_100 (A:AT):Params→PySem.W.BT:=fun P=>@tree_100_ A ⟨P⟩
def heap_853 (A:AT):Params→PySem.Heap:=fun P=>@heap_853_ A ⟨P⟩
def tree_314 (A:AT):Params→PySem.W.BT:=fun P=>@tree_314_ A ⟨P⟩
def tree_214 (A:AT):Params→PySem.W.BT:=fun P=>@tree_214_ A ⟨P⟩
def tree_741 (A:AT):Params→PySem.W.BT:=fun P=>@tree_741_ A ⟨P⟩
def tree_400 (A:AT):Params→PySem.W.BT:=fun P=>@tree_400_ A ⟨P⟩
def tree_443 (A:AT):Params→PySem.W.BT:=fun P=>@tree_443_ A ⟨P⟩
def tree_627 (A:AT):Params→PySem.W.BT:=fun P=>@tree_627_ A ⟨P⟩
def heap_39 (A:AT):Params→PySem.W.Frag:=fun P=>@heap_39_ A ⟨P⟩
def tree_85 (A:AT):Params→PySem.W.BT:=fun P=>@tree_85_ A ⟨P⟩
def tree_852 (A:AT):Params→PySem.W.BT:=fun P=>@tree_852_ A ⟨P⟩
def tree_562 (A:AT):Params→PySem.W.BT:=fun P=>@tree_562_ A ⟨P⟩
def tree_824 (A:AT):Params→PySem.W.BT:=fun P=>@tree_824_ A ⟨P⟩
def tree_682 (A:AT):Params→PySem.W.BT:=fun P=>@tree_682_ A ⟨P⟩
def tree_47 (A:AT):Params→PySem.W.BT:=fun P=>@tree_47_ A ⟨P⟩
def tree_357 (A:AT):Params→PySem.W.BT:=fun P=>@tree_357_ A ⟨P⟩
def tree_651 (A:AT):Params→PySem.W.BT:=fun P=>@tree_651_ A ⟨P⟩
end
theorem trig:(PySem.Challenge.pw_bellsaway_k14_the_line_that_wins.main.body.length == 0)=(PySem.Challenge.pw_bellsaway_k14_the_line_that_wins.main.body.length == 0):=rfl
theorem trig2:(!(PySem.Challenge.pw_bellsaway_k14_the_line_that_wins.main.body.length == 0))=true:=by k_qdec
noncomputable def a0:List Str:=[Str.ofString "__module__",Str.ofString "bellsaway.fits",Str.ofString "__qualname__",Str.ofString "Place",Str.ofString "__firstlineno__",Str.ofString "__init__",Str.ofString "fits_it",Str.ofString "note_turns",Str.ofString "weight_bits",Str.ofString "__static_attributes__",Str.ofString "self",Str.ofString "kinds",Str.ofString "places",Str.ofString "weights",Str.ofString "winning",Str.ofString "Wishes.winning",Str.ofString "/claim/cut.py",Str.ofString "Least.weight_bits",Str.ofString "Raised",Str.ofString "check_fit",Str.ofString "_law_begin",Str.ofString "__name__",Str.ofString "bellsaway.errors",Str.ofString "__doc__",Str.ofString "__package__",Str.ofString "__loader__",Str.ofString "__spec__",Str.ofString "__annotations__",Str.ofString "__builtins__",Str.ofString "__file__",Str.ofString "__cached__",Str.ofString "_wall",Str.ofString "BellError",Str.ofString "NoClock",Str.ofString "NoHappening",Str.ofString "NoFit",Str.ofString "fit",Str.ofString "raised",Str.ofString "roads",Str.ofString "sure",Str.ofString "way",Str.ofString "is_gathered",Str.ofString "Hour.is_gathered",Str.ofString "Least.__init__",Str.ofString "Fit",Str.ofString "k",Str.ofString "Any",Str.ofString "bellsaway.ways",Str.ofString "Way",Str.ofString "Kind.__init__",Str.ofString "Least",Str.ofString "Not.__init__",Str.ofString "winner",Str.ofString "Wishes.winner",Str.ofString "__dict__",Str.ofString "__weakref__",Str.ofString "__main__",Str.ofString "Either.weight_bits",Str.ofString "Hour",Str.ofString "moment_from",Str.ofString "NoWish",Str.ofString "is_minute_of_day",Str.ofString "Line.__init__",Str.ofString "Not.fits_it",Str.ofString "kind",Str.ofString "place",Str.ofString "from_weight",Str.ofString "Any.fits_it",Str.ofString "fits",Str.ofString "Raised.__init__",Str.ofString "bellsaway.wishes",Str.ofString "Wishes.__init__",Str.ofString "Place.__init__",Str.ofString "is_whole",Str.ofString "is_whole_between",Str.ofString "is_whole_from",Str.ofString "MINUTES_OF_HOUR",Str.ofString "MINUTES_OF_DAY",Str.ofString "is_quiet_hours",Str.ofString "check_zone",Str.ofString "check_quiet",Str.ofString "check_minute_of_hour",Str.ofString "LETTERS",Str.ofString "abcdefghijklmnopqrstuvwxyz",Str.ofString "MOST_LETTERS",Str.ofString "is_name",Str.ofString "Happening",Str.ofString "are_unlike_names",Str.ofString "Kind",Str.ofString "Not",Str.ofString "Both",Str.ofString "_law_leaf",Str.ofString "law_bellsaway_k14_the_line_that_wins",Str.ofString "_law_trees",Str.ofString "_law_never",Str.ofString "_law_found",Str.ofString "_law_k",Str.ofString "Kind.note_turns",Str.ofString "bellsaway.clocks",Str.ofString "_law_things",Str.ofString "_law_pick",Str.ofString "names",Str.ofString "Never.is_gathered",Str.ofString "quiet",Str.ofString "Both.note_turns",Str.ofString "line_for",Str.ofString "Wishes.line_for",Str.ofString "Hour.__init__",Str.ofString "Either.__init__",Str.ofString "Line",Str.ofString "happening",Str.ofString "line",Str.ofString "_law_right",Str.ofString "check_fits",Str.ofString "Not.weight_bits",Str.ofString "_law_order",Str.ofString "_law_thing",Str.ofString "Least.note_turns",Str.ofString "thing",Str.ofString "Either",Str.ofString "check_names",Str.ofString "_law_made",Str.ofString "check_by_way",Str.ofString "minute",Str.ofString "Any.note_turns",Str.ofString "Never",Str.ofString "Wishes",Str.ofString "check_wake",Str.ofString "check_lines",Str.ofString "_law_cell_at",Str.ofString "_law_next",Str.ofString "_law_name",Str.ofString "_law_tree",Str.ofString "_law_fits",Str.ofString "_law_gathered",Str.ofString "_law_lines",Str.ofString "bellsaway.happenings",Str.ofString "_law_due",Str.ofString "_law_state",Str.ofString "_law_more",Str.ofString "_law_kind",Str.ofString "_law_names",Str.ofString "_law_name_here",Str.ofString "weight",Str.ofString "idle",Str.ofString "Wishes.idle",Str.ofString "Place.note_turns",Str.ofString "Kind.fits_it",Str.ofString "Both.__init__",Str.ofString "minutes",Str.ofString "times",Str.ofString "to",Str.ofString "_law_some",Str.ofString "Kind.weight_bits",Str.ofString "Any.weight_bits",Str.ofString "Both.weight_bits",Str.ofString "bellsaway.wholes",Str.ofString "Happening.__init__",Str.ofString "Both.fits_it",Str.ofString "<module>",Str.ofString "_law_number",Str.ofString "law",Str.ofString "wake",Str.ofString "least",Str.ofString "Not.note_turns",Str.ofString "Either.note_turns",Str.ofString "Least.fits_it",Str.ofString "Place.fits_it",Str.ofString "bellsaway.words",Str.ofString "moment",Str.ofString "zone",Str.ofString "_law_script",Str.ofString "_law_whole",Str.ofString "_law_kinds",Str.ofString "_law_places",Str.ofString "_law_weights",Str.ofString "_law_cell",Str.ofString "_law_weight",Str.ofString "Never.moment_from",Str.ofString "Place.weight_bits",Str.ofString "most",Str.ofString "lines",Str.ofString "Either.fits_it",Str.ofString "_law_wishes",Str.ofString "_law_turned",Str.ofString "_law_due_here",Str.ofString "_law_happening",Str.ofString "_law_told",Str.ofString "_law_base",Str.ofString "_law_number_here",Str.ofString "number",Str.ofString "Hour.moment_from",Str.ofString "_law_line",Str.ofString "_law_tree_here",Str.ofString "_law_word",Str.ofString "_law_part"]
noncomputable def a1:List Str:=[⟨⟨[95,95,109,111,100,117,108,101,95,95]⟩⟩,⟨⟨[98,101,108,108,115,97,119,97,121,46,102,105,116,115]⟩⟩,⟨⟨[95,95,113,117,97,108,110,97,109,101,95,95]⟩⟩,⟨⟨[80,108,97,99,101]⟩⟩,⟨⟨[95,95,102,105,114,115,116,108,105,110,101,110,111,95,95]⟩⟩,⟨⟨[95,95,105,110,105,116,95,95]⟩⟩,⟨⟨[102,105,116,115,95,105,116]⟩⟩,⟨⟨[110,111,116,101,95,116,117,114,110,115]⟩⟩,⟨⟨[119,101,105,103,104,116,95,98,105,116,115]⟩⟩,⟨⟨[95,95,115,116,97,116,105,99,95,97,116,116,114,105,98,117,116,101,115,95,95]⟩⟩,⟨⟨[115,101,108,102]⟩⟩,⟨⟨[107,105,110,100,115]⟩⟩,⟨⟨[112,108,97,99,101,115]⟩⟩,⟨⟨[119,101,105,103,104,116,115]⟩⟩,⟨⟨[119,105,110,110,105,110,103]⟩⟩,⟨⟨[87,105,115,104,101,115,46,119,105,110,110,105,110,103]⟩⟩,⟨⟨[47,99,108,97,105,109,47,99,117,116,46,112,121]⟩⟩,⟨⟨[76,101,97,115,116,46,119,101,105,103,104,116,95,98,105,116,115]⟩⟩,⟨⟨[82,97,105,115,101,100]⟩⟩,⟨⟨[99,104,101,99,107,95,102,105,116]⟩⟩,⟨⟨[95,108,97,119,95,98,101,103,105,110]⟩⟩,⟨⟨[95,95,110,97,109,101,95,95]⟩⟩,⟨⟨[98,101,108,108,115,97,119,97,121,46,101,114,114,111,114,115]⟩⟩,⟨⟨[95,95,100,111,99,95,95]⟩⟩,⟨⟨[95,95,112,97,99,107,97,103,101,95,95]⟩⟩,⟨⟨[95,95,108,111,97,100,101,114,95,95]⟩⟩,⟨⟨[95,95,115,112,101,99,95,95]⟩⟩,⟨⟨[95,95,97,110,110,111,116,97,116,105,111,110,115,95,95]⟩⟩,⟨⟨[95,95,98,117,105,108,116,105,110,115,95,95]⟩⟩,⟨⟨[95,95,102,105,108,101,95,95]⟩⟩,⟨⟨[95,95,99,97,99,104,101,100,95,95]⟩⟩,⟨⟨[95,119,97,108,108]⟩⟩,⟨⟨[66,101,108,108,69,114,114,111,114]⟩⟩,⟨⟨[78,111,67,108,111,99,107]⟩⟩,⟨⟨[78,111,72,97,112,112,101,110,105,110,103]⟩⟩,⟨⟨[78,111,70,105,116]⟩⟩,⟨⟨[102,105,116]⟩⟩,⟨⟨[114,97,105,115,101,100]⟩⟩,⟨⟨[114,111,97,100,115]⟩⟩,⟨⟨[115,117,114,101]⟩⟩,⟨⟨[119,97,121]⟩⟩,⟨⟨[105,115,95,103,97,116,104,101,114,101,100]⟩⟩,⟨⟨[72,111,117,114,46,105,115,95,103,97,116,104,101,114,101,100]⟩⟩,⟨⟨[76,101,97,115,116,46,95,95,105,110,105,116,95,95]⟩⟩,⟨⟨[70,105,116]⟩⟩,⟨⟨[107]⟩⟩,⟨⟨[65,110,121]⟩⟩,⟨⟨[98,101,108,108,115,97,119,97,121,46,119,97,121,115]⟩⟩,⟨⟨[87,97,121]⟩⟩,⟨⟨[75,105,110,100,46,95,95,105,110,105,116,95,95]⟩⟩,⟨⟨[76,101,97,115,116]⟩⟩,⟨⟨[78,111,116,46,95,95,105,110,105,116,95,95]⟩⟩,⟨⟨[119,105,110,110,101,114]⟩⟩,⟨⟨[87,105,115,104,101,115,46,119,105,110,110,101,114]⟩⟩,⟨⟨[95,95,100,105,99,116,95,95]⟩⟩,⟨⟨[95,95,119,101,97,107,114,101,102,95,95]⟩⟩,⟨⟨[95,95,109,97,105,110,95,95]⟩⟩,⟨⟨[69,105,116,104,101,114,46,119,101,105,103,104,116,95,98,105,116,115]⟩⟩,⟨⟨[72,111,117,114]⟩⟩,⟨⟨[109,111,109,101,110,116,95,102,114,111,109]⟩⟩,⟨⟨[78,111,87,105,115,104]⟩⟩,⟨⟨[105,115,95,109,105,110,117,116,101,95,111,102,95,100,97,121]⟩⟩,⟨⟨[76,105,110,101,46,95,95,105,110,105,116,95,95]⟩⟩,⟨⟨[78,111,116,46,102,105,116,115,95,105,116]⟩⟩,⟨⟨[107,105,110,100]⟩⟩,⟨⟨[112,108,97,99,101]⟩⟩,⟨⟨[102,114,111,109,95,119,101,105,103,104,116]⟩⟩,⟨⟨[65,110,121,46,102,105,116,115,95,105,116]⟩⟩,⟨⟨[102,105,116,115]⟩⟩,⟨⟨[82,97,105,115,101,100,46,95,95,105,110,105,116,95,95]⟩⟩,⟨⟨[98,101,108,108,115,97,119,97,121,46,119,105,115,104,101,115]⟩⟩,⟨⟨[87,105,115,104,101,115,46,95,95,105,110,105,116,95,95]⟩⟩,⟨⟨[80,108,97,99,101,46,95,95,105,110,105,116,95,95]⟩⟩,⟨⟨[105,115,95,119,104,111,108,101]⟩⟩,⟨⟨[105,115,95,119,104,111,108,101,95,98,101,116,119,101,101,110]⟩⟩,⟨⟨[105,115,95,119,104,111,108,101,95,102,114,111,109]⟩⟩,⟨⟨[77,73,78,85,84,69,83,95,79,70,95,72,79,85,82]⟩⟩,⟨⟨[77,73,78,85,84,69,83,95,79,70,95,68,65,89]⟩⟩,⟨⟨[105,115,95,113,117,105,101,116,95,104,111,117,114,115]⟩⟩,⟨⟨[99,104,101,99,107,95,122,111,110,101]⟩⟩,⟨⟨[99,104,101,99,107,95,113,117,105,101,116]⟩⟩,⟨⟨[99,104,101,99,107,95,109,105,110,117,116,101,95,111,102,95,104,111,117,114]⟩⟩,⟨⟨[76,69,84,84,69,82,83]⟩⟩,⟨⟨[97,98,99,100,101,102,103,104,105,106,107,108,109,110,111,112,113,114,115,116,117,118,119,120,121,122]⟩⟩,⟨⟨[77,79,83,84,95,76,69,84,84,69,82,83]⟩⟩,⟨⟨[105,115,95,110,97,109,101]⟩⟩,⟨⟨[72,97,112,112,101,110,105,110,103]⟩⟩,⟨⟨[97,114,101,95,117,110,108,105,107,101,95,110,97,109,101,115]⟩⟩,⟨⟨[75,105,110,100]⟩⟩,⟨⟨[78,111,116]⟩⟩,⟨⟨[66,111,116,104]⟩⟩,⟨⟨[95,108,97,119,95,108,101,97,102]⟩⟩,⟨⟨[108,97,119,95,98,101,108,108,115,97,119,97,121,95,107,49,52,95,116,104,101,95,108,105,110,101,95,116,104,97,116,95,119,105,110,115]⟩⟩,⟨⟨[95,108,97,119,95,116,114,101,101,115]⟩⟩,⟨⟨[95,108,97,119,95,110,101,118,101,114]⟩⟩,⟨⟨[95,108,97,119,95,102,111,117,110,100]⟩⟩,⟨⟨[95,108,97,119,95,107]⟩⟩,⟨⟨[75,105,110,100,46,110,111,116,101,95,116,117,114,110,115]⟩⟩,⟨⟨[98,101,108,108,115,97,119,97,121,46,99,108,111,99,107,115]⟩⟩,⟨⟨[95,108,97,119,95,116,104,105,110,103,115]⟩⟩,⟨⟨[95,108,97,119,95,112,105,99,107]⟩⟩,⟨⟨[110,97,109,101,115]⟩⟩,⟨⟨[78,101,118,101,114,46,105,115,95,103,97,116,104,101,114,101,100]⟩⟩,⟨⟨[113,117,105,101,116]⟩⟩,⟨⟨[66,111,116,104,46,110,111,116,101,95,116,117,114,110,115]⟩⟩,⟨⟨[108,105,110,101,95,102,111,114]⟩⟩,⟨⟨[87,105,115,104,101,115,46,108,105,110,101,95,102,111,114]⟩⟩,⟨⟨[72,111,117,114,46,95,95,105,110,105,116,95,95]⟩⟩,⟨⟨[69,105,116,104,101,114,46,95,95,105,110,105,116,95,95]⟩⟩,⟨⟨[76,105,110,101]⟩⟩,⟨⟨[104,97,112,112,101,110,105,110,103]⟩⟩,⟨⟨[108,105,110,101]⟩⟩,⟨⟨[95,108,97,119,95,114,105,103,104,116]⟩⟩,⟨⟨[99,104,101,99,107,95,102,105,116,115]⟩⟩,⟨⟨[78,111,116,46,119,101,105,103,104,116,95,98,105,116,115]⟩⟩,⟨⟨[95,108,97,119,95,111,114,100,101,114]⟩⟩,⟨⟨[95,108,97,119,95,116,104,105,110,103]⟩⟩,⟨⟨[76,101,97,115,116,46,110,111,116,101,95,116,117,114,110,115]⟩⟩,⟨⟨[116,104,105,110,103]⟩⟩,⟨⟨[69,105,116,104,101,114]⟩⟩,⟨⟨[99,104,101,99,107,95,110,97,109,101,115]⟩⟩,⟨⟨[95,108,97,119,95,109,97,100,101]⟩⟩,⟨⟨[99,104,101,99,107,95,98,121,95,119,97,121]⟩⟩,⟨⟨[109,105,110,117,116,101]⟩⟩,⟨⟨[65,110,121,46,110,111,116,101,95,116,117,114,110,115]⟩⟩,⟨⟨[78,101,118,101,114]⟩⟩,⟨⟨[87,105,115,104,101,115]⟩⟩,⟨⟨[99,104,101,99,107,95,119,97,107,101]⟩⟩,⟨⟨[99,104,101,99,107,95,108,105,110,101,115]⟩⟩,⟨⟨[95,108,97,119,95,99,101,108,108,95,97,116]⟩⟩,⟨⟨[95,108,97,119,95,110,101,120,116]⟩⟩,⟨⟨[95,108,97,119,95,110,97,109,101]⟩⟩,⟨⟨[95,108,97,119,95,116,114,101,101]⟩⟩,⟨⟨[95,108,97,119,95,102,105,116,115]⟩⟩,⟨⟨[95,108,97,119,95,103,97,116,104,101,114,101,100]⟩⟩,⟨⟨[95,108,97,119,95,108,105,110,101,115]⟩⟩,⟨⟨[98,101,108,108,115,97,119,97,121,46,104,97,112,112,101,110,105,110,103,115]⟩⟩,⟨⟨[95,108,97,119,95,100,117,101]⟩⟩,⟨⟨[95,108,97,119,95,115,116,97,116,101]⟩⟩,⟨⟨[95,108,97,119,95,109,111,114,101]⟩⟩,⟨⟨[95,108,97,119,95,107,105,110,100]⟩⟩,⟨⟨[95,108,97,119,95,110,97,109,101,115]⟩⟩,⟨⟨[95,108,97,119,95,110,97,109,101,95,104,101,114,101]⟩⟩,⟨⟨[119,101,105,103,104,116]⟩⟩,⟨⟨[105,100,108,101]⟩⟩,⟨⟨[87,105,115,104,101,115,46,105,100,108,101]⟩⟩,⟨⟨[80,108,97,99,101,46,110,111,116,101,95,116,117,114,110,115]⟩⟩,⟨⟨[75,105,110,100,46,102,105,116,115,95,105,116]⟩⟩,⟨⟨[66,111,116,104,46,95,95,105,110,105,116,95,95]⟩⟩,⟨⟨[109,105,110,117,116,101,115]⟩⟩,⟨⟨[116,105,109,101,115]⟩⟩,⟨⟨[116,111]⟩⟩,⟨⟨[95,108,97,119,95,115,111,109,101]⟩⟩,⟨⟨[75,105,110,100,46,119,101,105,103,104,116,95,98,105,116,115]⟩⟩,⟨⟨[65,110,121,46,119,101,105,103,104,116,95,98,105,116,115]⟩⟩,⟨⟨[66,111,116,104,46,119,101,105,103,104,116,95,98,105,116,115]⟩⟩,⟨⟨[98,101,108,108,115,97,119,97,121,46,119,104,111,108,101,115]⟩⟩,⟨⟨[72,97,112,112,101,110,105,110,103,46,95,95,105,110,105,116,95,95]⟩⟩,⟨⟨[66,111,116,104,46,102,105,116,115,95,105,116]⟩⟩,⟨⟨[60,109,111,100,117,108,101,62]⟩⟩,⟨⟨[95,108,97,119,95,110,117,109,98,101,114]⟩⟩,⟨⟨[108,97,119]⟩⟩,⟨⟨[119,97,107,101]⟩⟩,⟨⟨[108,101,97,115,116]⟩⟩,⟨⟨[78,111,116,46,110,111,116,101,95,116,117,114,110,115]⟩⟩,⟨⟨[69,105,116,104,101,114,46,110,111,116,101,95,116,117,114,110,115]⟩⟩,⟨⟨[76,101,97,115,116,46,102,105,116,115,95,105,116]⟩⟩,⟨⟨[80,108,97,99,101,46,102,105,116,115,95,105,116]⟩⟩,⟨⟨[98,101,108,108,115,97,119,97,121,46,119,111,114,100,115]⟩⟩,⟨⟨[109,111,109,101,110,116]⟩⟩,⟨⟨[122,111,110,101]⟩⟩,⟨⟨[95,108,97,119,95,115,99,114,105,112,116]⟩⟩,⟨⟨[95,108,97,119,95,119,104,111,108,101]⟩⟩,⟨⟨[95,108,97,119,95,107,105,110,100,115]⟩⟩,⟨⟨[95,108,97,119,95,112,108,97,99,101,115]⟩⟩,⟨⟨[95,108,97,119,95,119,101,105,103,104,116,115]⟩⟩,⟨⟨[95,108,97,119,95,99,101,108,108]⟩⟩,⟨⟨[95,108,97,119,95,119,101,105,103,104,116]⟩⟩,⟨⟨[78,101,118,101,114,46,109,111,109,101,110,116,95,102,114,111,109]⟩⟩,⟨⟨[80,108,97,99,101,46,119,101,105,103,104,116,95,98,105,116,115]⟩⟩,⟨⟨[109,111,115,116]⟩⟩,⟨⟨[108,105,110,101,115]⟩⟩,⟨⟨[69,105,116,104,101,114,46,102,105,116,115,95,105,116]⟩⟩,⟨⟨[95,108,97,119,95,119,105,115,104,101,115]⟩⟩,⟨⟨[95,108,97,119,95,116,117,114,110,101,100]⟩⟩,⟨⟨[95,108,97,119,95,100,117,101,95,104,101,114,101]⟩⟩,⟨⟨[95,108,97,119,95,104,97,112,112,101,110,105,110,103]⟩⟩,⟨⟨[95,108,97,119,95,116,111,108,100]⟩⟩,⟨⟨[95,108,97,119,95,98,97,115,101]⟩⟩,⟨⟨[95,108,97,119,95,110,117,109,98,101,114,95,104,101,114,101]⟩⟩,⟨⟨[110,117,109,98,101,114]⟩⟩,⟨⟨[72,111,117,114,46,109,111,109,101,110,116,95,102,114,111,109]⟩⟩,⟨⟨[95,108,97,119,95,108,105,110,101]⟩⟩,⟨⟨[95,108,97,119,95,116,114,101,101,95,104,101,114,101]⟩⟩,⟨⟨[95,108,97,119,95,119,111,114,100]⟩⟩,⟨⟨[95,108,97,119,95,112,97,114,116]⟩⟩]
noncomputable def t0:List String:=["dict","tuple","code","__main__.__loader__#opaque","super","type","ValueError","Exception","BaseException","object","ValueError.__new__","function","builtin_function_or_method","object.__init_subclass__","frame","getset_descriptor","ExceptionGroup.__weakref__","type.__prepare__","function.__dict__","function.__dict__#set","object.__new__"]
noncomputable def t1:List String:=[PySem.W.SL.s14018661285674007319x4,PySem.W.SL.s2766695959194262286x5,PySem.W.SL.s5856160107412720595x4,PySem.W.SL.s7097527257260152453x26,PySem.W.SL.s4290257624100764138x5,PySem.W.SL.s17162191345867700912x4,PySem.W.SL.s6070975301684473832x10,PySem.W.SL.s5946037652744460706x9,PySem.W.SL.s4278001404047624695x13,PySem.W.SL.s2742458400755230247x6,PySem.W.SL.s4209523147560561109x18,PySem.W.SL.s7174869446012820540x8,PySem.W.SL.s11030030927630378310x26,PySem.W.SL.s4860613602091757760x24,PySem.W.SL.s658472552662922059x5,PySem.W.SL.s14755015743595814543x17,PySem.W.SL.s10220274742760427390x26,PySem.W.SL.s10062305145149207511x16,PySem.W.SL.s6511155373996960695x17,PySem.W.SL.s12411053484034534018x21,PySem.W.SL.s11443829558043349243x14]
theorem cc {α:Type}{x y:α}{l m:List α}(h:x=y) (k:l=m):x::l=y::m:=by rw [h,k]
theorem ea:a0=a1:=(cc (by kernel_rfl) (cc (by kernel_rfl) (cc (by kernel_rfl) (cc (by kernel_rfl) (cc (by kernel_rfl) (cc (by kernel_rfl) (cc (by kernel_rfl) (cc (by kernel_rfl) (cc (by kernel_rfl) (cc (by kernel_rfl) (cc (by kernel_rfl) (cc (by kernel_rfl) (cc (by kernel_rfl) (cc (by kernel_rfl) (cc (by kernel_rfl) (cc (by kernel_rfl) (cc (by kernel_rfl) (cc (by kernel_rfl) (cc (by kernel_rfl) (cc (by kernel_rfl) (cc (by kernel_rfl) (cc (by kernel_rfl) (cc (by kernel_rfl) (cc (by kernel_rfl) (cc (by kernel_rfl) (cc (by kernel_rfl) (cc (by kernel_rfl) (cc (by kernel_rfl) (cc (by kernel_rfl) (cc (by kernel_rfl) (cc (by kernel_rfl) (cc (by kernel_rfl) (cc (by kernel_rfl) (cc (by kernel_rfl) (cc (by kernel_rfl) (cc (by kernel_rfl) (cc (by kernel_rfl) (cc (by kernel_rfl) (cc (by kernel_rfl) (cc (by kernel_rfl) (cc (by kernel_rfl) (cc (by kernel_rfl) (cc (by kernel_rfl) (cc (by kernel_rfl) (cc (by kernel_rfl) (cc (by kernel_rfl) (cc (by kernel_rfl) (cc (by kernel_rfl) (cc (by kernel_rfl) (cc (by kernel_rfl) (cc (by kernel_rfl) (cc (by kernel_rfl) (cc (by kernel_rfl) (cc (by kernel_rfl) (cc (by kernel_rfl) (cc (by kernel_rfl) (cc (by kernel_rfl) (cc (by kernel_rfl) (cc (by kernel_rfl) (cc (by kernel_rfl) (cc (by kernel_rfl) (cc (by kernel_rfl) (cc (by kernel_rfl) (cc (by kernel_rfl) (cc (by kernel_rfl) (cc (by kernel_rfl) (cc (by kernel_rfl) (cc (by kernel_rfl) (cc (by kernel_rfl) (cc (by kernel_rfl) (cc (by kernel_rfl) (cc (by kernel_rfl) (cc (by kernel_rfl) (cc (by kernel_rfl) (cc (by kernel_rfl) (cc (by kernel_rfl) (cc (by kernel_rfl) (cc (by kernel_rfl) (cc (by kernel_rfl) (cc (by kernel_rfl) (cc (by kernel_rfl) (cc (by kernel_rfl) (cc (by kernel_rfl) (cc (by kernel_rfl) (cc (by kernel_rfl) (cc (by kernel_rfl) (cc (by kernel_rfl) (cc (by kernel_rfl) (cc (by kernel_rfl) (cc (by kernel_rfl) (cc (by kernel_rfl) (cc (by kernel_rfl) (cc (by kernel_rfl) (cc (by kernel_rfl) (cc (by kernel_rfl) (cc (by kernel_rfl) (cc (by kernel_rfl) (cc (by kernel_rfl) (cc (by kernel_rfl) (cc (by kernel_rfl) (cc (by kernel_rfl) (cc (by kernel_rfl) (cc (by kernel_rfl) (cc (by kernel_rfl) (cc (by kernel_rfl) (cc (by kernel_rfl) (cc (by kernel_rfl) (cc (by kernel_rfl) (cc (by kernel_rfl) (cc (by kernel_rfl) (cc (by kernel_rfl) (cc (by kernel_rfl) (cc (by kernel_rfl) (cc (by kernel_rfl) (cc (by kernel_rfl) (cc (by kernel_rfl) (cc (by kernel_rfl) (cc (by kernel_rfl) (cc (by kernel_rfl) (cc (by kernel_rfl) (cc (by kernel_rfl) (cc (by kernel_rfl) (cc (by kernel_rfl) (cc (by kernel_rfl) (cc (by kernel_rfl) (cc (by kernel_rfl) (cc (by kernel_rfl) (cc (by kernel_rfl) (cc (by kernel_rfl) (cc (by kernel_rfl) (cc (by kernel_rfl) (cc (by kernel_rfl) (cc (by kernel_rfl) (cc (by kernel_rfl) (cc (by kernel_rfl) (cc (by kernel_rfl) (cc (by kernel_rfl) (cc (by kernel_rfl) (cc (by kernel_rfl) (cc (by kernel_rfl) (cc (by kernel_rfl) (cc (by kernel_rfl) (cc (by kernel_rfl) (cc (by kernel_rfl) (cc (by kernel_rfl) (cc (by kernel_rfl) (cc (by kernel_rfl) (cc (by kernel_rfl) (cc (by kernel_rfl) (cc (by kernel_rfl) (cc (by kernel_rfl) (cc (by kernel_rfl) (cc (by kernel_rfl) (cc (by kernel_rfl) (cc (by kernel_rfl) (cc (by kernel_rfl) (cc (by kernel_rfl) (cc (by kernel_rfl) (cc (by kernel_rfl) (cc (by kernel_rfl) (cc (by kernel_rfl) (cc (by kernel_rfl) (cc (by kernel_rfl) (cc (by kernel_rfl) (cc (by kernel_rfl) (cc (by kernel_rfl) (cc (by kernel_rfl) (cc (by kernel_rfl) (cc (by kernel_rfl) (cc (by kernel_rfl) (cc (by kernel_rfl) (cc (by kernel_rfl) (cc (by kernel_rfl) (cc (by kernel_rfl) (cc (by kernel_rfl) (cc (by kernel_rfl) (cc (by kernel_rfl) (cc (by kernel_rfl) (cc (by kernel_rfl) (cc (by kernel_rfl) (cc (by kernel_rfl) (cc (by kernel_rfl) (cc (by kernel_rfl) (cc (by kernel_rfl) (cc (by kernel_rfl) (cc (by kernel_rfl) (cc (by kernel_rfl) (cc (by kernel_rfl) (cc (by kernel_rfl) (cc (by kernel_rfl) (cc (by kernel_rfl) (cc (by kernel_rfl) (cc (by kernel_rfl) (cc (by kernel_rfl) (cc (by kernel_rfl) (cc (by kernel_rfl) rfl))))))))))))))))))))))))))))))))))))))))))))))))))))))))))))))))))))))))))))))))))))))))))))))))))))))))))))))))))))))))))))))))))))))))))))))))))))))))))))))))))))))))))))))))))))))))))))))))))))
theorem et:t0=t1:=(cc PySem.W.SL.e14018661285674007319x4 (cc PySem.W.SL.e2766695959194262286x5 (cc PySem.W.SL.e5856160107412720595x4 (cc PySem.W.SL.e7097527257260152453x26 (cc PySem.W.SL.e4290257624100764138x5 (cc PySem.W.SL.e17162191345867700912x4 (cc PySem.W.SL.e6070975301684473832x10 (cc PySem.W.SL.e5946037652744460706x9 (cc PySem.W.SL.e4278001404047624695x13 (cc PySem.W.SL.e2742458400755230247x6 (cc PySem.W.SL.e4209523147560561109x18 (cc PySem.W.SL.e7174869446012820540x8 (cc PySem.W.SL.e11030030927630378310x26 (cc PySem.W.SL.e4860613602091757760x24 (cc PySem.W.SL.e658472552662922059x5 (cc PySem.W.SL.e14755015743595814543x17 (cc PySem.W.SL.e10220274742760427390x26 (cc PySem.W.SL.e10062305145149207511x16 (cc PySem.W.SL.e6511155373996960695x17 (cc PySem.W.SL.e12411053484034534018x21 (cc PySem.W.SL.e11443829558043349243x14 rfl)))))))))))))))))))))
noncomputable def A0:AT:=⟨PySem.Challenge.pw_bellsaway_k14_the_line_that_wins,a0,t0⟩
noncomputable def B0:AT:=⟨PySem.W.Fast.tw10672028361920643584,a1,t1⟩
theorem ab:A0=B0:=by
  unfold A0 B0
  rw [ea,et,PySem.W.Fast.te10672028361920643584]
end Hd
namespace PySem.W.Fast
open Hd
noncomputable def tw719414632223453184:Params→PySem.W.BT:=tree_70 B0
theorem te719414632223453184:tree_70 A0=tw719414632223453184:=congrArg tree_70 Hd.ab
noncomputable def tw7443413219885003169:Params→PySem.W.BT:=tree_484 B0
theorem te7443413219885003169:tree_484 A0=tw7443413219885003169:=congrArg tree_484 Hd.ab
noncomputable def tw4669058654678656706:Params→PySem.W.BT:=tree_165 B0
theorem te4669058654678656706:tree_165 A0=tw4669058654678656706:=congrArg tree_165 Hd.ab
noncomputable def tw5910939725928739493:Params→PySem.W.BT:=tree_235 B0
theorem te5910939725928739493:tree_235 A0=tw5910939725928739493:=congrArg tree_235 Hd.ab
noncomputable def tw11180424004174210087:Params→PySem.W.BT:=tree_598 B0
theorem te11180424004174210087:tree_598 A0=tw11180424004174210087:=congrArg tree_598 Hd.ab
noncomputable def tw17922081320565327018:Params→PySem.W.BT:=tree_539 B0
theorem te17922081320565327018:tree_539 A0=tw17922081320565327018:=congrArg tree_539 Hd.ab
noncomputable def tw3521471763282681514:Params→PySem.W.BT:=tree_271 B0
theorem te3521471763282681514:tree_271 A0=tw3521471763282681514:=congrArg tree_271 Hd.ab
noncomputable def tw15982068674339373868:Params→PySem.Heap:=heap_46 B0
theorem te15982068674339373868:heap_46 A0=tw15982068674339373868:=congrArg heap_46 Hd.ab
noncomputable def tw11997357249013046509:Params→PySem.W.BT:=tree_115 B0
theorem te11997357249013046509:tree_115 A0=tw11997357249013046509:=congrArg tree_115 Hd.ab
noncomputable def tw14489065563991151022:Params→PySem.W.BT:=tree_100 B0
theorem te14489065563991151022:tree_100 A0=tw14489065563991151022:=congrArg tree_100 Hd.ab
noncomputable def tw2228602500772134766:Params→PySem.Heap:=heap_853 B0
theorem te2228602500772134766:heap_853 A0=tw2228602500772134766:=congrArg heap_853 Hd.ab
noncomputable def tw2368334913119816079:Params→PySem.W.BT:=tree_314 B0
theorem te2368334913119816079:tree_314 A0=tw2368334913119816079:=congrArg tree_314 Hd.ab
noncomputable def tw3773126348589434287:Params→PySem.W.BT:=tree_214 B0
theorem te3773126348589434287:tree_214 A0=tw3773126348589434287:=congrArg tree_214 Hd.ab
noncomputable def tw17540224726950865519:Params→PySem.W.BT:=tree_741 B0
theorem te17540224726950865519:tree_741 A0=tw17540224726950865519:=congrArg tree_741 Hd.ab
noncomputable def tw4734036739684036209:Params→PySem.W.BT:=tree_400 B0
theorem te4734036739684036209:tree_400 A0=tw4734036739684036209:=congrArg tree_400 Hd.ab
noncomputable def tw16076293471995784977:Params→PySem.W.BT:=tree_443 B0
theorem te16076293471995784977:tree_443 A0=tw16076293471995784977:=congrArg tree_443 Hd.ab
noncomputable def tw13552160412496715826:Params→PySem.W.BT:=tree_627 B0
theorem te13552160412496715826:tree_627 A0=tw13552160412496715826:=congrArg tree_627 Hd.ab
noncomputable def tw18066753981917907444:Params→PySem.W.Frag:=heap_39 B0
theorem te18066753981917907444:heap_39 A0=tw18066753981917907444:=congrArg heap_39 Hd.ab
noncomputable def tw4857221862807018357:Params→PySem.W.BT:=tree_85 B0
theorem te4857221862807018357:tree_85 A0=tw4857221862807018357:=congrArg tree_85 Hd.ab
noncomputable def tw3690489970773685559:Params→PySem.W.BT:=tree_852 B0
theorem te3690489970773685559:tree_852 A0=tw3690489970773685559:=congrArg tree_852 Hd.ab
noncomputable def tw3146447726756355256:Params→PySem.W.BT:=tree_562 B0
theorem te3146447726756355256:tree_562 A0=tw3146447726756355256:=congrArg tree_562 Hd.ab
noncomputable def tw8692599630088870200:Params→PySem.W.BT:=tree_824 B0
theorem te8692599630088870200:tree_824 A0=tw8692599630088870200:=congrArg tree_824 Hd.ab
noncomputable def tw17197926323015643706:Params→PySem.W.BT:=tree_682 B0
theorem te17197926323015643706:tree_682 A0=tw17197926323015643706:=congrArg tree_682 Hd.ab
noncomputable def tw11442677828328764990:Params→PySem.W.BT:=tree_47 B0
theorem te11442677828328764990:tree_47 A0=tw11442677828328764990:=congrArg tree_47 Hd.ab
noncomputable def tw14620402789150977343:Params→PySem.W.BT:=tree_357 B0
theorem te14620402789150977343:tree_357 A0=tw14620402789150977343:=congrArg tree_357 Hd.ab
noncomputable def tw8074188675651926719:Params→PySem.W.BT:=tree_651 B0
theorem te8074188675651926719:tree_651 A0=tw8074188675651926719:=congrArg tree_651 Hd.ab
end PySem.W.Fast
set_option Elab.async false
set_option linter.all false
set_option maxRecDepth 100000
set_option maxHeartbeats 8000000
namespace Bw
open PySem L2
theorem all_mk {l:PySem.W.OpenLaw}{w:World}{K:PySem.W.Frag}{h:Heap}{mg:Str→Option Value}{fa f0 f1 f2 f3 f4 f5 f6 f7 f8 f9 f10 f11 f12 f13 f14 f15 f16 f17 f18 f19 f20 f21 f22 f23 f24 f25 f26 f27 f28 f29 f30 f31 f32 f33 f34 f35 f36 f37 f38 f39 f40 f41 f42 f43 f44 f45 f46 f47 f48 f49 f50 cHappening cFit cAny cKind cPlace cLeast cNot cBoth cEither cWay cHour cNever cRaised cLine cWishes:Addr}{t0 t1 t2 t3:Tok}(X:K.In h) (G:h.Ns mainGlobals mg) (hfa:mg "law"=some (.ref fa))
    {od0 an0:Option Addr}{sl0:Array (Option Value)}{oc0 kV0 dc0 pm0 cd0 ct0:Value}
    (a0:PySem.W.nsIn K mainGlobals "is_whole"=some (some (.ref f0)))
    (l0:K.lookup f0=some ⟨oc0,od0,.func (PySem.W.fnOf "is_whole" "is_whole" (defArgs s_is_whole) (defBody s_is_whole) (defScope s_is_whole) .none kV0 dc0 pm0 an0 cd0 ct0),sl0⟩)
    (c0:PySem.W.codeIn K cd0 "is_whole"=true)
    (k0:PySem.W.keepIn K (.ref f0)=true)
    {od1 an1:Option Addr}{sl1:Array (Option Value)}{oc1 kV1 dc1 pm1 cd1 ct1:Value}
    (a1:PySem.W.nsIn K mainGlobals "is_whole_between"=some (some (.ref f1)))
    (l1:K.lookup f1=some ⟨oc1,od1,.func (PySem.W.fnOf "is_whole_between" "is_whole_between" (defArgs s_is_whole_between) (defBody s_is_whole_between) (defScope s_is_whole_between) .none kV1 dc1 pm1 an1 cd1 ct1),sl1⟩)
    (c1:PySem.W.codeIn K cd1 "is_whole_between"=true)
    (k1:PySem.W.keepIn K (.ref f1)=true)
    {od2 an2:Option Addr}{sl2:Array (Option Value)}{oc2 kV2 dc2 pm2 cd2 ct2:Value}
    (a2:PySem.W.nsIn K mainGlobals "is_whole_from"=some (some (.ref f2)))
    (l2:K.lookup f2=some ⟨oc2,od2,.func (PySem.W.fnOf "is_whole_from" "is_whole_from" (defArgs s_is_whole_from) (defBody s_is_whole_from) (defScope s_is_whole_from) .none kV2 dc2 pm2 an2 cd2 ct2),sl2⟩)
    (c2:PySem.W.codeIn K cd2 "is_whole_from"=true)
    (k2:PySem.W.keepIn K (.ref f2)=true)
    {od3 an3:Option Addr}{sl3:Array (Option Value)}{oc3 kV3 dc3 pm3 cd3 ct3:Value}
    (a3:PySem.W.nsIn K mainGlobals "is_minute_of_day"=some (some (.ref f3)))
    (l3:K.lookup f3=some ⟨oc3,od3,.func (PySem.W.fnOf "is_minute_of_day" "is_minute_of_day" (defArgs s_is_minute_of_day) (defBody s_is_minute_of_day) (defScope s_is_minute_of_day) .none kV3 dc3 pm3 an3 cd3 ct3),sl3⟩)
    (c3:PySem.W.codeIn K cd3 "is_minute_of_day"=true)
    (k3:PySem.W.keepIn K (.ref f3)=true)
    {od4 an4:Option Addr}{sl4:Array (Option Value)}{oc4 kV4 dc4 pm4 cd4 ct4:Value}
    (a4:PySem.W.nsIn K mainGlobals "is_quiet_hours"=some (some (.ref f4)))
    (l4:K.lookup f4=some ⟨oc4,od4,.func (PySem.W.fnOf "is_quiet_hours" "is_quiet_hours" (defArgs s_is_quiet_hours) (defBody s_is_quiet_hours) (defScope s_is_quiet_hours) .none kV4 dc4 pm4 an4 cd4 ct4),sl4⟩)
    (c4:PySem.W.codeIn K cd4 "is_quiet_hours"=true)
    (k4:PySem.W.keepIn K (.ref f4)=true)
    {od5 an5:Option Addr}{sl5:Array (Option Value)}{oc5 kV5 dc5 pm5 cd5 ct5:Value}
    (a5:PySem.W.nsIn K mainGlobals "check_zone"=some (some (.ref f5)))
    (l5:K.lookup f5=some ⟨oc5,od5,.func (PySem.W.fnOf "check_zone" "check_zone" (defArgs s_check_zone) (defBody s_check_zone) (defScope s_check_zone) .none kV5 dc5 pm5 an5 cd5 ct5),sl5⟩)
    (c5:PySem.W.codeIn K cd5 "check_zone"=true)
    (k5:PySem.W.keepIn K (.ref f5)=true)
    {od6 an6:Option Addr}{sl6:Array (Option Value)}{oc6 kV6 dc6 pm6 cd6 ct6:Value}
    (a6:PySem.W.nsIn K mainGlobals "check_quiet"=some (some (.ref f6)))
    (l6:K.lookup f6=some ⟨oc6,od6,.func (PySem.W.fnOf "check_quiet" "check_quiet" (defArgs s_check_quiet) (defBody s_check_quiet) (defScope s_check_quiet) .none kV6 dc6 pm6 an6 cd6 ct6),sl6⟩)
    (c6:PySem.W.codeIn K cd6 "check_quiet"=true)
    (k6:PySem.W.keepIn K (.ref f6)=true)
    {od7 an7:Option Addr}{sl7:Array (Option Value)}{oc7 kV7 dc7 pm7 cd7 ct7:Value}
    (a7:PySem.W.nsIn K mainGlobals "check_minute_of_hour"=some (some (.ref f7)))
    (l7:K.lookup f7=some ⟨oc7,od7,.func (PySem.W.fnOf "check_minute_of_hour" "check_minute_of_hour" (defArgs s_check_minute_of_hour) (defBody s_check_minute_of_hour) (defScope s_check_minute_of_hour) .none kV7 dc7 pm7 an7 cd7 ct7),sl7⟩)
    (c7:PySem.W.codeIn K cd7 "check_minute_of_hour"=true)
    (k7:PySem.W.keepIn K (.ref f7)=true)
    {od8 an8:Option Addr}{sl8:Array (Option Value)}{oc8 kV8 dc8 pm8 cd8 ct8:Value}
    (a8:PySem.W.nsIn K mainGlobals "is_name"=some (some (.ref f8)))
    (l8:K.lookup f8=some ⟨oc8,od8,.func (PySem.W.fnOf "is_name" "is_name" (defArgs s_is_name) (defBody s_is_name) (defScope s_is_name) .none kV8 dc8 pm8 an8 cd8 ct8),sl8⟩)
    (c8:PySem.W.codeIn K cd8 "is_name"=true)
    (k8:PySem.W.keepIn K (.ref f8)=true)
    {od9 an9:Option Addr}{sl9:Array (Option Value)}{oc9 kV9 dc9 pm9 cd9 ct9:Value}
    (a9:PySem.W.findIn K (.ref cHappening) "__init__"=some (some (.ref f9)))
    (i9:PySem.W.isFn K (.ref f9)=true)
    (l9:K.lookup f9=some ⟨oc9,od9,.func (PySem.W.fnOf "__init__" "Happening.__init__" (defArgs s_Happening___init__) (defBody s_Happening___init__) (defScope s_Happening___init__) .none kV9 dc9 pm9 an9 cd9 ct9),sl9⟩)
    (c9:PySem.W.codeIn K cd9 "Happening.__init__"=true)
    (k9:PySem.W.keepIn K (.ref f9)=true)
    {od10 an10:Option Addr}{sl10:Array (Option Value)}{oc10 kV10 dc10 pm10 cd10 ct10:Value}
    (a10:PySem.W.nsIn K mainGlobals "are_unlike_names"=some (some (.ref f10)))
    (l10:K.lookup f10=some ⟨oc10,od10,.func (PySem.W.fnOf "are_unlike_names" "are_unlike_names" (defArgs s_are_unlike_names) (defBody s_are_unlike_names) (defScope s_are_unlike_names) .none kV10 dc10 pm10 an10 cd10 ct10),sl10⟩)
    (c10:PySem.W.codeIn K cd10 "are_unlike_names"=true)
    (k10:PySem.W.keepIn K (.ref f10)=true)
    {od11 an11:Option Addr}{sl11:Array (Option Value)}{oc11 kV11 dc11 pm11 cd11 ct11:Value}
    (a11:PySem.W.findIn K (.ref cAny) "fits_it"=some (some (.ref f11)))
    (i11:PySem.W.isFn K (.ref f11)=true)
    (l11:K.lookup f11=some ⟨oc11,od11,.func (PySem.W.fnOf "fits_it" "Any.fits_it" (defArgs s_Any_fits_it) (defBody s_Any_fits_it) (defScope s_Any_fits_it) .none kV11 dc11 pm11 an11 cd11 ct11),sl11⟩)
    (c11:PySem.W.codeIn K cd11 "Any.fits_it"=true)
    (k11:PySem.W.keepIn K (.ref f11)=true)
    {od12 an12:Option Addr}{sl12:Array (Option Value)}{oc12 kV12 dc12 pm12 cd12 ct12:Value}
    (a12:PySem.W.findIn K (.ref cKind) "__init__"=some (some (.ref f12)))
    (i12:PySem.W.isFn K (.ref f12)=true)
    (l12:K.lookup f12=some ⟨oc12,od12,.func (PySem.W.fnOf "__init__" "Kind.__init__" (defArgs s_Kind___init__) (defBody s_Kind___init__) (defScope s_Kind___init__) .none kV12 dc12 pm12 an12 cd12 ct12),sl12⟩)
    (c12:PySem.W.codeIn K cd12 "Kind.__init__"=true)
    (k12:PySem.W.keepIn K (.ref f12)=true)
    {od13 an13:Option Addr}{sl13:Array (Option Value)}{oc13 kV13 dc13 pm13 cd13 ct13:Value}
    (a13:PySem.W.findIn K (.ref cKind) "fits_it"=some (some (.ref f13)))
    (i13:PySem.W.isFn K (.ref f13)=true)
    (l13:K.lookup f13=some ⟨oc13,od13,.func (PySem.W.fnOf "fits_it" "Kind.fits_it" (defArgs s_Kind_fits_it) (defBody s_Kind_fits_it) (defScope s_Kind_fits_it) .none kV13 dc13 pm13 an13 cd13 ct13),sl13⟩)
    (c13:PySem.W.codeIn K cd13 "Kind.fits_it"=true)
    (k13:PySem.W.keepIn K (.ref f13)=true)
    {od14 an14:Option Addr}{sl14:Array (Option Value)}{oc14 kV14 dc14 pm14 cd14 ct14:Value}
    (a14:PySem.W.findIn K (.ref cPlace) "__init__"=some (some (.ref f14)))
    (i14:PySem.W.isFn K (.ref f14)=true)
    (l14:K.lookup f14=some ⟨oc14,od14,.func (PySem.W.fnOf "__init__" "Place.__init__" (defArgs s_Place___init__) (defBody s_Place___init__) (defScope s_Place___init__) .none kV14 dc14 pm14 an14 cd14 ct14),sl14⟩)
    (c14:PySem.W.codeIn K cd14 "Place.__init__"=true)
    (k14:PySem.W.keepIn K (.ref f14)=true)
    {od15 an15:Option Addr}{sl15:Array (Option Value)}{oc15 kV15 dc15 pm15 cd15 ct15:Value}
    (a15:PySem.W.findIn K (.ref cPlace) "fits_it"=some (some (.ref f15)))
    (i15:PySem.W.isFn K (.ref f15)=true)
    (l15:K.lookup f15=some ⟨oc15,od15,.func (PySem.W.fnOf "fits_it" "Place.fits_it" (defArgs s_Place_fits_it) (defBody s_Place_fits_it) (defScope s_Place_fits_it) .none kV15 dc15 pm15 an15 cd15 ct15),sl15⟩)
    (c15:PySem.W.codeIn K cd15 "Place.fits_it"=true)
    (k15:PySem.W.keepIn K (.ref f15)=true)
    {od16 an16:Option Addr}{sl16:Array (Option Value)}{oc16 kV16 dc16 pm16 cd16 ct16:Value}
    (a16:PySem.W.findIn K (.ref cLeast) "__init__"=some (some (.ref f16)))
    (i16:PySem.W.isFn K (.ref f16)=true)
    (l16:K.lookup f16=some ⟨oc16,od16,.func (PySem.W.fnOf "__init__" "Least.__init__" (defArgs s_Least___init__) (defBody s_Least___init__) (defScope s_Least___init__) .none kV16 dc16 pm16 an16 cd16 ct16),sl16⟩)
    (c16:PySem.W.codeIn K cd16 "Least.__init__"=true)
    (k16:PySem.W.keepIn K (.ref f16)=true)
    {od17 an17:Option Addr}{sl17:Array (Option Value)}{oc17 kV17 dc17 pm17 cd17 ct17:Value}
    (a17:PySem.W.findIn K (.ref cLeast) "fits_it"=some (some (.ref f17)))
    (i17:PySem.W.isFn K (.ref f17)=true)
    (l17:K.lookup f17=some ⟨oc17,od17,.func (PySem.W.fnOf "fits_it" "Least.fits_it" (defArgs s_Least_fits_it) (defBody s_Least_fits_it) (defScope s_Least_fits_it) .none kV17 dc17 pm17 an17 cd17 ct17),sl17⟩)
    (c17:PySem.W.codeIn K cd17 "Least.fits_it"=true)
    (k17:PySem.W.keepIn K (.ref f17)=true)
    {od18 an18:Option Addr}{sl18:Array (Option Value)}{oc18 kV18 dc18 pm18 cd18 ct18:Value}
    (a18:PySem.W.findIn K (.ref cNot) "__init__"=some (some (.ref f18)))
    (i18:PySem.W.isFn K (.ref f18)=true)
    (l18:K.lookup f18=some ⟨oc18,od18,.func (PySem.W.fnOf "__init__" "Not.__init__" (defArgs s_Not___init__) (defBody s_Not___init__) (defScope s_Not___init__) .none kV18 dc18 pm18 an18 cd18 ct18),sl18⟩)
    (c18:PySem.W.codeIn K cd18 "Not.__init__"=true)
    (k18:PySem.W.keepIn K (.ref f18)=true)
    {od19 an19:Option Addr}{sl19:Array (Option Value)}{oc19 kV19 dc19 pm19 cd19 ct19:Value}
    (a19:PySem.W.findIn K (.ref cNot) "fits_it"=some (some (.ref f19)))
    (i19:PySem.W.isFn K (.ref f19)=true)
    (l19:K.lookup f19=some ⟨oc19,od19,.func (PySem.W.fnOf "fits_it" "Not.fits_it" (defArgs s_Not_fits_it) (defBody s_Not_fits_it) (defScope s_Not_fits_it) .none kV19 dc19 pm19 an19 cd19 ct19),sl19⟩)
    (c19:PySem.W.codeIn K cd19 "Not.fits_it"=true)
    (k19:PySem.W.keepIn K (.ref f19)=true)
    {od20 an20:Option Addr}{sl20:Array (Option Value)}{oc20 kV20 dc20 pm20 cd20 ct20:Value}
    (a20:PySem.W.findIn K (.ref cBoth) "__init__"=some (some (.ref f20)))
    (i20:PySem.W.isFn K (.ref f20)=true)
    (l20:K.lookup f20=some ⟨oc20,od20,.func (PySem.W.fnOf "__init__" "Both.__init__" (defArgs s_Both___init__) (defBody s_Both___init__) (defScope s_Both___init__) .none kV20 dc20 pm20 an20 cd20 ct20),sl20⟩)
    (c20:PySem.W.codeIn K cd20 "Both.__init__"=true)
    (k20:PySem.W.keepIn K (.ref f20)=true)
    {od21 an21:Option Addr}{sl21:Array (Option Value)}{oc21 kV21 dc21 pm21 cd21 ct21:Value}
    (a21:PySem.W.findIn K (.ref cBoth) "fits_it"=some (some (.ref f21)))
    (i21:PySem.W.isFn K (.ref f21)=true)
    (l21:K.lookup f21=some ⟨oc21,od21,.func (PySem.W.fnOf "fits_it" "Both.fits_it" (defArgs s_Both_fits_it) (defBody s_Both_fits_it) (defScope s_Both_fits_it) .none kV21 dc21 pm21 an21 cd21 ct21),sl21⟩)
    (c21:PySem.W.codeIn K cd21 "Both.fits_it"=true)
    (k21:PySem.W.keepIn K (.ref f21)=true)
    {od22 an22:Option Addr}{sl22:Array (Option Value)}{oc22 kV22 dc22 pm22 cd22 ct22:Value}
    (a22:PySem.W.findIn K (.ref cEither) "__init__"=some (some (.ref f22)))
    (i22:PySem.W.isFn K (.ref f22)=true)
    (l22:K.lookup f22=some ⟨oc22,od22,.func (PySem.W.fnOf "__init__" "Either.__init__" (defArgs s_Either___init__) (defBody s_Either___init__) (defScope s_Either___init__) .none kV22 dc22 pm22 an22 cd22 ct22),sl22⟩)
    (c22:PySem.W.codeIn K cd22 "Either.__init__"=true)
    (k22:PySem.W.keepIn K (.ref f22)=true)
    {od23 an23:Option Addr}{sl23:Array (Option Value)}{oc23 kV23 dc23 pm23 cd23 ct23:Value}
    (a23:PySem.W.findIn K (.ref cEither) "fits_it"=some (some (.ref f23)))
    (i23:PySem.W.isFn K (.ref f23)=true)
    (l23:K.lookup f23=some ⟨oc23,od23,.func (PySem.W.fnOf "fits_it" "Either.fits_it" (defArgs s_Either_fits_it) (defBody s_Either_fits_it) (defScope s_Either_fits_it) .none kV23 dc23 pm23 an23 cd23 ct23),sl23⟩)
    (c23:PySem.W.codeIn K cd23 "Either.fits_it"=true)
    (k23:PySem.W.keepIn K (.ref f23)=true)
    {od24 an24:Option Addr}{sl24:Array (Option Value)}{oc24 kV24 dc24 pm24 cd24 ct24:Value}
    (a24:PySem.W.nsIn K mainGlobals "check_names"=some (some (.ref f24)))
    (l24:K.lookup f24=some ⟨oc24,od24,.func (PySem.W.fnOf "check_names" "check_names" (defArgs s_check_names) (defBody s_check_names) (defScope s_check_names) .none kV24 dc24 pm24 an24 cd24 ct24),sl24⟩)
    (c24:PySem.W.codeIn K cd24 "check_names"=true)
    (k24:PySem.W.keepIn K (.ref f24)=true)
    {od25 an25:Option Addr}{sl25:Array (Option Value)}{oc25 kV25 dc25 pm25 cd25 ct25:Value}
    (a25:PySem.W.nsIn K mainGlobals "check_fit"=some (some (.ref f25)))
    (l25:K.lookup f25=some ⟨oc25,od25,.func (PySem.W.fnOf "check_fit" "check_fit" (defArgs s_check_fit) (defBody s_check_fit) (defScope s_check_fit) .none kV25 dc25 pm25 an25 cd25 ct25),sl25⟩)
    (c25:PySem.W.codeIn K cd25 "check_fit"=true)
    (k25:PySem.W.keepIn K (.ref f25)=true)
    {od26 an26:Option Addr}{sl26:Array (Option Value)}{oc26 kV26 dc26 pm26 cd26 ct26:Value}
    (a26:PySem.W.nsIn K mainGlobals "check_fits"=some (some (.ref f26)))
    (l26:K.lookup f26=some ⟨oc26,od26,.func (PySem.W.fnOf "check_fits" "check_fits" (defArgs s_check_fits) (defBody s_check_fits) (defScope s_check_fits) .none kV26 dc26 pm26 an26 cd26 ct26),sl26⟩)
    (c26:PySem.W.codeIn K cd26 "check_fits"=true)
    (k26:PySem.W.keepIn K (.ref f26)=true)
    {od27 an27:Option Addr}{sl27:Array (Option Value)}{oc27 kV27 dc27 pm27 cd27 ct27:Value}
    (a27:PySem.W.findIn K (.ref cHour) "__init__"=some (some (.ref f27)))
    (i27:PySem.W.isFn K (.ref f27)=true)
    (l27:K.lookup f27=some ⟨oc27,od27,.func (PySem.W.fnOf "__init__" "Hour.__init__" (defArgs s_Hour___init__) (defBody s_Hour___init__) (defScope s_Hour___init__) .none kV27 dc27 pm27 an27 cd27 ct27),sl27⟩)
    (c27:PySem.W.codeIn K cd27 "Hour.__init__"=true)
    (k27:PySem.W.keepIn K (.ref f27)=true)
    {od28 an28:Option Addr}{sl28:Array (Option Value)}{oc28 kV28 dc28 pm28 cd28 ct28:Value}
    (a28:PySem.W.findIn K (.ref cLine) "__init__"=some (some (.ref f28)))
    (i28:PySem.W.isFn K (.ref f28)=true)
    {T28:Addr}{doc28:Value}{dod28:Option Addr}{dn28:Nat}{dsl28:Array (Option Value)}
    (l28:K.lookup f28=some ⟨oc28,od28,.func (PySem.W.fnOf "__init__" "Line.__init__" (defArgs s_Line___init__) (defBody s_Line___init__) (defScope s_Line___init__) (.ref T28) kV28 dc28 pm28 an28 cd28 ct28),sl28⟩)
    (d28:K.lookup T28=some ⟨doc28,dod28,.seq #[.bool false,.none] dn28,dsl28⟩)
    (c28:PySem.W.codeIn K cd28 "Line.__init__"=true)
    {od29 an29:Option Addr}{sl29:Array (Option Value)}{oc29 kV29 dc29 pm29 cd29 ct29:Value}
    (a29:PySem.W.nsIn K mainGlobals "check_by_way"=some (some (.ref f29)))
    (l29:K.lookup f29=some ⟨oc29,od29,.func (PySem.W.fnOf "check_by_way" "check_by_way" (defArgs s_check_by_way) (defBody s_check_by_way) (defScope s_check_by_way) .none kV29 dc29 pm29 an29 cd29 ct29),sl29⟩)
    (c29:PySem.W.codeIn K cd29 "check_by_way"=true)
    (k29:PySem.W.keepIn K (.ref f29)=true)
    {od30 an30:Option Addr}{sl30:Array (Option Value)}{oc30 kV30 dc30 pm30 cd30 ct30:Value}
    (a30:PySem.W.findIn K (.ref cWishes) "__init__"=some (some (.ref f30)))
    (i30:PySem.W.isFn K (.ref f30)=true)
    {T30:Addr}{doc30:Value}{dod30:Option Addr}{dn30:Nat}{dsl30:Array (Option Value)}{dt30_0:Tok}
    (l30:K.lookup f30=some ⟨oc30,od30,.func (PySem.W.fnOf "__init__" "Wishes.__init__" (defArgs s_Wishes___init__) (defBody s_Wishes___init__) (defScope s_Wishes___init__) (.ref T30) kV30 dc30 pm30 an30 cd30 ct30),sl30⟩)
    (d30:K.lookup T30=some ⟨doc30,dod30,.seq #[.int 0 dt30_0,.none,.none,.none] dn30,dsl30⟩)
    (c30:PySem.W.codeIn K cd30 "Wishes.__init__"=true)
    {od31 an31:Option Addr}{sl31:Array (Option Value)}{oc31 kV31 dc31 pm31 cd31 ct31:Value}
    (a31:PySem.W.findIn K (.ref cWishes) "winning"=some (some (.ref f31)))
    (i31:PySem.W.isFn K (.ref f31)=true)
    (l31:K.lookup f31=some ⟨oc31,od31,.func (PySem.W.fnOf "winning" "Wishes.winning" (defArgs s_Wishes_winning) (defBody s_Wishes_winning) (defScope s_Wishes_winning) .none kV31 dc31 pm31 an31 cd31 ct31),sl31⟩)
    (c31:PySem.W.codeIn K cd31 "Wishes.winning"=true)
    (k31:PySem.W.keepIn K (.ref f31)=true)
    {od32 an32:Option Addr}{sl32:Array (Option Value)}{oc32 kV32 dc32 pm32 cd32 ct32:Value}
    (a32:PySem.W.findIn K (.ref cWishes) "line_for"=some (some (.ref f32)))
    (i32:PySem.W.isFn K (.ref f32)=true)
    (l32:K.lookup f32=some ⟨oc32,od32,.func (PySem.W.fnOf "line_for" "Wishes.line_for" (defArgs s_Wishes_line_for) (defBody s_Wishes_line_for) (defScope s_Wishes_line_for) .none kV32 dc32 pm32 an32 cd32 ct32),sl32⟩)
    (c32:PySem.W.codeIn K cd32 "Wishes.line_for"=true)
    (k32:PySem.W.keepIn K (.ref f32)=true)
    {od33 an33:Option Addr}{sl33:Array (Option Value)}{oc33 kV33 dc33 pm33 cd33 ct33:Value}
    (a33:PySem.W.nsIn K mainGlobals "check_wake"=some (some (.ref f33)))
    (l33:K.lookup f33=some ⟨oc33,od33,.func (PySem.W.fnOf "check_wake" "check_wake" (defArgs s_check_wake) (defBody s_check_wake) (defScope s_check_wake) .none kV33 dc33 pm33 an33 cd33 ct33),sl33⟩)
    (c33:PySem.W.codeIn K cd33 "check_wake"=true)
    (k33:PySem.W.keepIn K (.ref f33)=true)
    {od34 an34:Option Addr}{sl34:Array (Option Value)}{oc34 kV34 dc34 pm34 cd34 ct34:Value}
    (a34:PySem.W.nsIn K mainGlobals "check_lines"=some (some (.ref f34)))
    (l34:K.lookup f34=some ⟨oc34,od34,.func (PySem.W.fnOf "check_lines" "check_lines" (defArgs s_check_lines) (defBody s_check_lines) (defScope s_check_lines) .none kV34 dc34 pm34 an34 cd34 ct34),sl34⟩)
    (c34:PySem.W.codeIn K cd34 "check_lines"=true)
    (k34:PySem.W.keepIn K (.ref f34)=true)
    {od35 an35:Option Addr}{sl35:Array (Option Value)}{oc35 kV35 dc35 pm35 cd35 ct35:Value}
    (a35:PySem.W.nsIn K mainGlobals "_law_cell_at"=some (some (.ref f35)))
    (l35:K.lookup f35=some ⟨oc35,od35,.func (PySem.W.fnOf "_law_cell_at" "_law_cell_at" (defArgs s_law_cell_at) (defBody s_law_cell_at) (defScope s_law_cell_at) .none kV35 dc35 pm35 an35 cd35 ct35),sl35⟩)
    (c35:PySem.W.codeIn K cd35 "_law_cell_at"=true)
    (k35:PySem.W.keepIn K (.ref f35)=true)
    {od36 an36:Option Addr}{sl36:Array (Option Value)}{oc36 kV36 dc36 pm36 cd36 ct36:Value}
    (a36:PySem.W.nsIn K mainGlobals "_law_begin"=some (some (.ref f36)))
    (l36:K.lookup f36=some ⟨oc36,od36,.func (PySem.W.fnOf "_law_begin" "_law_begin" (defArgs s_law_begin) (defBody s_law_begin) (defScope s_law_begin) .none kV36 dc36 pm36 an36 cd36 ct36),sl36⟩)
    (c36:PySem.W.codeIn K cd36 "_law_begin"=true)
    (k36:PySem.W.keepIn K (.ref f36)=true)
    {od37 an37:Option Addr}{sl37:Array (Option Value)}{oc37 kV37 dc37 pm37 cd37 ct37:Value}
    (a37:PySem.W.nsIn K mainGlobals "_law_next"=some (some (.ref f37)))
    (l37:K.lookup f37=some ⟨oc37,od37,.func (PySem.W.fnOf "_law_next" "_law_next" (defArgs s_law_next) (defBody s_law_next) (defScope s_law_next) .none kV37 dc37 pm37 an37 cd37 ct37),sl37⟩)
    (c37:PySem.W.codeIn K cd37 "_law_next"=true)
    (k37:PySem.W.keepIn K (.ref f37)=true)
    {od38 an38:Option Addr}{sl38:Array (Option Value)}{oc38 kV38 dc38 pm38 cd38 ct38:Value}
    (a38:PySem.W.nsIn K mainGlobals "_law_name"=some (some (.ref f38)))
    (l38:K.lookup f38=some ⟨oc38,od38,.func (PySem.W.fnOf "_law_name" "_law_name" (defArgs s_law_name) (defBody s_law_name) (defScope s_law_name) .none kV38 dc38 pm38 an38 cd38 ct38),sl38⟩)
    (c38:PySem.W.codeIn K cd38 "_law_name"=true)
    (k38:PySem.W.keepIn K (.ref f38)=true)
    {od39 an39:Option Addr}{sl39:Array (Option Value)}{oc39 kV39 dc39 pm39 cd39 ct39:Value}
    (a39:PySem.W.nsIn K mainGlobals "_law_leaf"=some (some (.ref f39)))
    (l39:K.lookup f39=some ⟨oc39,od39,.func (PySem.W.fnOf "_law_leaf" "_law_leaf" (defArgs s_law_leaf) (defBody s_law_leaf) (defScope s_law_leaf) .none kV39 dc39 pm39 an39 cd39 ct39),sl39⟩)
    (c39:PySem.W.codeIn K cd39 "_law_leaf"=true)
    (k39:PySem.W.keepIn K (.ref f39)=true)
    {od40 an40:Option Addr}{sl40:Array (Option Value)}{oc40 kV40 dc40 pm40 cd40 ct40:Value}
    (a40:PySem.W.nsIn K mainGlobals "_law_tree"=some (some (.ref f40)))
    (l40:K.lookup f40=some ⟨oc40,od40,.func (PySem.W.fnOf "_law_tree" "_law_tree" (defArgs s_law_tree) (defBody s_law_tree) (defScope s_law_tree) .none kV40 dc40 pm40 an40 cd40 ct40),sl40⟩)
    (c40:PySem.W.codeIn K cd40 "_law_tree"=true)
    (k40:PySem.W.keepIn K (.ref f40)=true)
    {od41 an41:Option Addr}{sl41:Array (Option Value)}{oc41 kV41 dc41 pm41 cd41 ct41:Value}
    (a41:PySem.W.nsIn K mainGlobals "_law_made"=some (some (.ref f41)))
    (l41:K.lookup f41=some ⟨oc41,od41,.func (PySem.W.fnOf "_law_made" "_law_made" (defArgs s_law_made) (defBody s_law_made) (defScope s_law_made) .none kV41 dc41 pm41 an41 cd41 ct41),sl41⟩)
    (c41:PySem.W.codeIn K cd41 "_law_made"=true)
    (k41:PySem.W.keepIn K (.ref f41)=true)
    {od42 an42:Option Addr}{sl42:Array (Option Value)}{oc42 kV42 dc42 pm42 cd42 ct42:Value}
    (a42:PySem.W.nsIn K mainGlobals "_law_fits"=some (some (.ref f42)))
    (l42:K.lookup f42=some ⟨oc42,od42,.func (PySem.W.fnOf "_law_fits" "_law_fits" (defArgs s_law_fits) (defBody s_law_fits) (defScope s_law_fits) .none kV42 dc42 pm42 an42 cd42 ct42),sl42⟩)
    (c42:PySem.W.codeIn K cd42 "_law_fits"=true)
    (k42:PySem.W.keepIn K (.ref f42)=true)
    {od43 an43:Option Addr}{sl43:Array (Option Value)}{oc43 kV43 dc43 pm43 cd43 ct43:Value}
    (a43:PySem.W.nsIn K mainGlobals "_law_gathered"=some (some (.ref f43)))
    (l43:K.lookup f43=some ⟨oc43,od43,.func (PySem.W.fnOf "_law_gathered" "_law_gathered" (defArgs s_law_gathered) (defBody s_law_gathered) (defScope s_law_gathered) .none kV43 dc43 pm43 an43 cd43 ct43),sl43⟩)
    (c43:PySem.W.codeIn K cd43 "_law_gathered"=true)
    (k43:PySem.W.keepIn K (.ref f43)=true)
    {od44 an44:Option Addr}{sl44:Array (Option Value)}{oc44 kV44 dc44 pm44 cd44 ct44:Value}
    (a44:PySem.W.nsIn K mainGlobals "_law_pick"=some (some (.ref f44)))
    (l44:K.lookup f44=some ⟨oc44,od44,.func (PySem.W.fnOf "_law_pick" "_law_pick" (defArgs s_law_pick) (defBody s_law_pick) (defScope s_law_pick) .none kV44 dc44 pm44 an44 cd44 ct44),sl44⟩)
    (c44:PySem.W.codeIn K cd44 "_law_pick"=true)
    (k44:PySem.W.keepIn K (.ref f44)=true)
    {od45 an45:Option Addr}{sl45:Array (Option Value)}{oc45 kV45 dc45 pm45 cd45 ct45:Value}
    (a45:PySem.W.nsIn K mainGlobals "_law_things"=some (some (.ref f45)))
    (l45:K.lookup f45=some ⟨oc45,od45,.func (PySem.W.fnOf "_law_things" "_law_things" (defArgs s_law_things) (defBody s_law_things) (defScope s_law_things) .none kV45 dc45 pm45 an45 cd45 ct45),sl45⟩)
    (c45:PySem.W.codeIn K cd45 "_law_things"=true)
    (k45:PySem.W.keepIn K (.ref f45)=true)
    {od46 an46:Option Addr}{sl46:Array (Option Value)}{oc46 kV46 dc46 pm46 cd46 ct46:Value}
    (a46:PySem.W.nsIn K mainGlobals "_law_lines"=some (some (.ref f46)))
    (l46:K.lookup f46=some ⟨oc46,od46,.func (PySem.W.fnOf "_law_lines" "_law_lines" (defArgs s_law_lines) (defBody s_law_lines) (defScope s_law_lines) .none kV46 dc46 pm46 an46 cd46 ct46),sl46⟩)
    (c46:PySem.W.codeIn K cd46 "_law_lines"=true)
    (k46:PySem.W.keepIn K (.ref f46)=true)
    {od47 an47:Option Addr}{sl47:Array (Option Value)}{oc47 kV47 dc47 pm47 cd47 ct47:Value}
    (a47:PySem.W.nsIn K mainGlobals "_law_number"=some (some (.ref f47)))
    (l47:K.lookup f47=some ⟨oc47,od47,.func (PySem.W.fnOf "_law_number" "_law_number" (defArgs s_law_number) (defBody s_law_number) (defScope s_law_number) .none kV47 dc47 pm47 an47 cd47 ct47),sl47⟩)
    (c47:PySem.W.codeIn K cd47 "_law_number"=true)
    (k47:PySem.W.keepIn K (.ref f47)=true)
    {od48 an48:Option Addr}{sl48:Array (Option Value)}{oc48 kV48 dc48 pm48 cd48 ct48:Value}
    (a48:PySem.W.nsIn K mainGlobals "_law_due"=some (some (.ref f48)))
    (l48:K.lookup f48=some ⟨oc48,od48,.func (PySem.W.fnOf "_law_due" "_law_due" (defArgs s_law_due) (defBody s_law_due) (defScope s_law_due) .none kV48 dc48 pm48 an48 cd48 ct48),sl48⟩)
    (c48:PySem.W.codeIn K cd48 "_law_due"=true)
    (k48:PySem.W.keepIn K (.ref f48)=true)
    {od49 an49:Option Addr}{sl49:Array (Option Value)}{oc49 kV49 dc49 pm49 cd49 ct49:Value}
    (a49:PySem.W.nsIn K mainGlobals "_law_right"=some (some (.ref f49)))
    (l49:K.lookup f49=some ⟨oc49,od49,.func (PySem.W.fnOf "_law_right" "_law_right" (defArgs s_law_right) (defBody s_law_right) (defScope s_law_right) .none kV49 dc49 pm49 an49 cd49 ct49),sl49⟩)
    (c49:PySem.W.codeIn K cd49 "_law_right"=true)
    (k49:PySem.W.keepIn K (.ref f49)=true)
    {od50 an50:Option Addr}{sl50:Array (Option Value)}{oc50 kV50 dc50 pm50 cd50 ct50:Value}
    (a50:PySem.W.nsIn K mainGlobals "law"=some (some (.ref f50)))
    (l50:K.lookup f50=some ⟨oc50,od50,.func (PySem.W.fnOf "law" "law" (defArgs s_law) (defBody s_law) (defScope s_law) .none kV50 dc50 pm50 an50 cd50 ct50),sl50⟩)
    (c50:PySem.W.codeIn K cd50 "law"=true)
    (k50:PySem.W.keepIn K (.ref f50)=true)
    (y0:PySem.W.nsIn K mainGlobals "len"=some none)
    (y1:PySem.W.nsIn K mainGlobals "int"=some none)
    (y2:PySem.W.nsIn K mainGlobals "bool"=some none)
    (y3:PySem.W.nsIn K mainGlobals "str"=some none)
    (y4:PySem.W.nsIn K mainGlobals "tuple"=some none)
    (y5:PySem.W.nsIn K mainGlobals "list"=some none)
    (y6:PySem.W.nsIn K mainGlobals "all"=some none)
    (y7:PySem.W.nsIn K mainGlobals "any"=some none)
    (y8:PySem.W.nsIn K mainGlobals "isinstance"=some none)
    (y9:PySem.W.nsIn K mainGlobals "range"=some none)
    (y10:PySem.W.nsIn K mainGlobals "set"=some none)
    (y11:PySem.W.nsIn K mainGlobals "max"=some none)
    (y12:PySem.W.nsIn K mainGlobals "min"=some none)
    (y13:PySem.W.nsIn K mainGlobals "MINUTES_OF_HOUR"=some (some (.int 60 t0)))
    (y14:PySem.W.nsIn K mainGlobals "MINUTES_OF_DAY"=some (some (.int 1440 t1)))
    (y15:PySem.W.nsIn K mainGlobals "LETTERS"=some (some (.str "abcdefghijklmnopqrstuvwxyz" t2)))
    (y16:PySem.W.nsIn K mainGlobals "MOST_LETTERS"=some (some (.int 8 t3)))
    (y17:PySem.W.nsIn K mainGlobals "Happening"=some (some (.ref cHappening)))
    (y18:PySem.W.nsIn K mainGlobals "Fit"=some (some (.ref cFit)))
    (y19:PySem.W.nsIn K mainGlobals "Any"=some (some (.ref cAny)))
    (y20:PySem.W.nsIn K mainGlobals "Kind"=some (some (.ref cKind)))
    (y21:PySem.W.nsIn K mainGlobals "Place"=some (some (.ref cPlace)))
    (y22:PySem.W.nsIn K mainGlobals "Least"=some (some (.ref cLeast)))
    (y23:PySem.W.nsIn K mainGlobals "Not"=some (some (.ref cNot)))
    (y24:PySem.W.nsIn K mainGlobals "Both"=some (some (.ref cBoth)))
    (y25:PySem.W.nsIn K mainGlobals "Either"=some (some (.ref cEither)))
    (y26:PySem.W.nsIn K mainGlobals "Way"=some (some (.ref cWay)))
    (y27:PySem.W.nsIn K mainGlobals "Hour"=some (some (.ref cHour)))
    (y28:PySem.W.nsIn K mainGlobals "Never"=some (some (.ref cNever)))
    (y29:PySem.W.nsIn K mainGlobals "Raised"=some (some (.ref cRaised)))
    (y30:PySem.W.nsIn K mainGlobals "Line"=some (some (.ref cLine)))
    (y31:PySem.W.nsIn K mainGlobals "Wishes"=some (some (.ref cWishes)))
    (y32_0:PySem.W.plainGet K cAny Str.empty=true)
    (y32_1:PySem.W.hasDictIn K cAny=true)
    (y32_2:PySem.W.plainOver K cAny=true)
    (y32_3:PySem.W.findIn K (.ref cAny) "__setattr__"=some (some (.builtin "object.__setattr__")))
    (y32_4:PySem.W.findIn K (.ref cAny) "__class__"=some (some (.builtin "object.__class__")))
    (y32_5:PySem.W.specialIn K (.builtin "object.__class__") "__get__"=some (some (.builtin "getset_descriptor.__get__")))
    (y32_6:PySem.W.takesIn K (.builtin "object.__class__")=some true)
    (y32_7:PySem.W.mroIn K cAny (.type "object")=some true)
    (y33_0:PySem.W.plainGet K cKind Str.empty=true)
    (y33_1:PySem.W.hasDictIn K cKind=true)
    (y33_2:PySem.W.plainOver K cKind=true)
    (y33_3:PySem.W.findIn K (.ref cKind) "__setattr__"=some (some (.builtin "object.__setattr__")))
    (y33_4:PySem.W.findIn K (.ref cKind) "__class__"=some (some (.builtin "object.__class__")))
    (y33_5:PySem.W.specialIn K (.builtin "object.__class__") "__get__"=some (some (.builtin "getset_descriptor.__get__")))
    (y33_6:PySem.W.takesIn K (.builtin "object.__class__")=some true)
    (y33_7:PySem.W.mroIn K cKind (.type "object")=some true)
    (y34:PySem.W.findIn K (.ref cKind) "names"=some none)
    (y35_0:PySem.W.plainGet K cPlace Str.empty=true)
    (y35_1:PySem.W.hasDictIn K cPlace=true)
    (y35_2:PySem.W.plainOver K cPlace=true)
    (y35_3:PySem.W.findIn K (.ref cPlace) "__setattr__"=some (some (.builtin "object.__setattr__")))
    (y35_4:PySem.W.findIn K (.ref cPlace) "__class__"=some (some (.builtin "object.__class__")))
    (y35_5:PySem.W.specialIn K (.builtin "object.__class__") "__get__"=some (some (.builtin "getset_descriptor.__get__")))
    (y35_6:PySem.W.takesIn K (.builtin "object.__class__")=some true)
    (y35_7:PySem.W.mroIn K cPlace (.type "object")=some true)
    (y36:PySem.W.findIn K (.ref cPlace) "names"=some none)
    (y37_0:PySem.W.plainGet K cLeast Str.empty=true)
    (y37_1:PySem.W.hasDictIn K cLeast=true)
    (y37_2:PySem.W.plainOver K cLeast=true)
    (y37_3:PySem.W.findIn K (.ref cLeast) "__setattr__"=some (some (.builtin "object.__setattr__")))
    (y37_4:PySem.W.findIn K (.ref cLeast) "__class__"=some (some (.builtin "object.__class__")))
    (y37_5:PySem.W.specialIn K (.builtin "object.__class__") "__get__"=some (some (.builtin "getset_descriptor.__get__")))
    (y37_6:PySem.W.takesIn K (.builtin "object.__class__")=some true)
    (y37_7:PySem.W.mroIn K cLeast (.type "object")=some true)
    (y38:PySem.W.findIn K (.ref cLeast) "weight"=some none)
    (y39_0:PySem.W.plainGet K cNot Str.empty=true)
    (y39_1:PySem.W.hasDictIn K cNot=true)
    (y39_2:PySem.W.plainOver K cNot=true)
    (y39_3:PySem.W.findIn K (.ref cNot) "__setattr__"=some (some (.builtin "object.__setattr__")))
    (y39_4:PySem.W.findIn K (.ref cNot) "__class__"=some (some (.builtin "object.__class__")))
    (y39_5:PySem.W.specialIn K (.builtin "object.__class__") "__get__"=some (some (.builtin "getset_descriptor.__get__")))
    (y39_6:PySem.W.takesIn K (.builtin "object.__class__")=some true)
    (y39_7:PySem.W.mroIn K cNot (.type "object")=some true)
    (y40:PySem.W.findIn K (.ref cNot) "fit"=some none)
    (y41_0:PySem.W.plainGet K cBoth Str.empty=true)
    (y41_1:PySem.W.hasDictIn K cBoth=true)
    (y41_2:PySem.W.plainOver K cBoth=true)
    (y41_3:PySem.W.findIn K (.ref cBoth) "__setattr__"=some (some (.builtin "object.__setattr__")))
    (y41_4:PySem.W.findIn K (.ref cBoth) "__class__"=some (some (.builtin "object.__class__")))
    (y41_5:PySem.W.specialIn K (.builtin "object.__class__") "__get__"=some (some (.builtin "getset_descriptor.__get__")))
    (y41_6:PySem.W.takesIn K (.builtin "object.__class__")=some true)
    (y41_7:PySem.W.mroIn K cBoth (.type "object")=some true)
    (y42:PySem.W.findIn K (.ref cBoth) "fits"=some none)
    (y43_0:PySem.W.plainGet K cEither Str.empty=true)
    (y43_1:PySem.W.hasDictIn K cEither=true)
    (y43_2:PySem.W.plainOver K cEither=true)
    (y43_3:PySem.W.findIn K (.ref cEither) "__setattr__"=some (some (.builtin "object.__setattr__")))
    (y43_4:PySem.W.findIn K (.ref cEither) "__class__"=some (some (.builtin "object.__class__")))
    (y43_5:PySem.W.specialIn K (.builtin "object.__class__") "__get__"=some (some (.builtin "getset_descriptor.__get__")))
    (y43_6:PySem.W.takesIn K (.builtin "object.__class__")=some true)
    (y43_7:PySem.W.mroIn K cEither (.type "object")=some true)
    (y44:PySem.W.findIn K (.ref cEither) "fits"=some none)
    (y45_0:PySem.W.plainGet K cHappening Str.empty=true)
    (y45_1:PySem.W.hasDictIn K cHappening=true)
    (y45_2:PySem.W.plainOver K cHappening=true)
    (y45_3:PySem.W.findIn K (.ref cHappening) "__setattr__"=some (some (.builtin "object.__setattr__")))
    (y45_4:PySem.W.findIn K (.ref cHappening) "__class__"=some (some (.builtin "object.__class__")))
    (y45_5:PySem.W.specialIn K (.builtin "object.__class__") "__get__"=some (some (.builtin "getset_descriptor.__get__")))
    (y45_6:PySem.W.takesIn K (.builtin "object.__class__")=some true)
    (y45_7:PySem.W.mroIn K cHappening (.type "object")=some true)
    (y46:PySem.W.findIn K (.ref cHappening) "kind"=some none)
    (y47:PySem.W.findIn K (.ref cHappening) "place"=some none)
    (y48:PySem.W.findIn K (.ref cHappening) "weight"=some none)
    (y49:PySem.W.kitOne K (.ref cAny) (.ref cFit)=some true)
    (y50:PySem.W.kitOne K (.ref cKind) (.ref cFit)=some true)
    (y51:PySem.W.kitOne K (.ref cPlace) (.ref cFit)=some true)
    (y52:PySem.W.kitOne K (.ref cLeast) (.ref cFit)=some true)
    (y53:PySem.W.kitOne K (.ref cNot) (.ref cFit)=some true)
    (y54:PySem.W.kitOne K (.ref cBoth) (.ref cFit)=some true)
    (y55:PySem.W.kitOne K (.ref cEither) (.ref cFit)=some true)
    (y56_0:PySem.W.makesIn K cAny=true)
    (y56_1:PySem.W.findIn K (.ref cAny) "__init__"=some (some (.builtin "object.__init__")))
    (y56_2:PySem.W.keepIn K (.ref cAny)=true)
    (y57_0:PySem.W.plainGet K cHour Str.empty=true)
    (y57_1:PySem.W.hasDictIn K cHour=true)
    (y57_2:PySem.W.plainOver K cHour=true)
    (y57_3:PySem.W.findIn K (.ref cHour) "__setattr__"=some (some (.builtin "object.__setattr__")))
    (y57_4:PySem.W.findIn K (.ref cHour) "__class__"=some (some (.builtin "object.__class__")))
    (y57_5:PySem.W.specialIn K (.builtin "object.__class__") "__get__"=some (some (.builtin "getset_descriptor.__get__")))
    (y57_6:PySem.W.takesIn K (.builtin "object.__class__")=some true)
    (y57_7:PySem.W.mroIn K cHour (.type "object")=some true)
    (y58:PySem.W.findIn K (.ref cHour) "minute"=some none)
    (y59_0:PySem.W.plainGet K cNever Str.empty=true)
    (y59_1:PySem.W.hasDictIn K cNever=true)
    (y59_2:PySem.W.plainOver K cNever=true)
    (y59_3:PySem.W.findIn K (.ref cNever) "__setattr__"=some (some (.builtin "object.__setattr__")))
    (y59_4:PySem.W.findIn K (.ref cNever) "__class__"=some (some (.builtin "object.__class__")))
    (y59_5:PySem.W.specialIn K (.builtin "object.__class__") "__get__"=some (some (.builtin "getset_descriptor.__get__")))
    (y59_6:PySem.W.takesIn K (.builtin "object.__class__")=some true)
    (y59_7:PySem.W.mroIn K cNever (.type "object")=some true)
    (y60_0:PySem.W.plainGet K cLine Str.empty=true)
    (y60_1:PySem.W.hasDictIn K cLine=true)
    (y60_2:PySem.W.plainOver K cLine=true)
    (y60_3:PySem.W.findIn K (.ref cLine) "__setattr__"=some (some (.builtin "object.__setattr__")))
    (y60_4:PySem.W.findIn K (.ref cLine) "__class__"=some (some (.builtin "object.__class__")))
    (y60_5:PySem.W.specialIn K (.builtin "object.__class__") "__get__"=some (some (.builtin "getset_descriptor.__get__")))
    (y60_6:PySem.W.takesIn K (.builtin "object.__class__")=some true)
    (y60_7:PySem.W.mroIn K cLine (.type "object")=some true)
    (y61:PySem.W.findIn K (.ref cLine) "fit"=some none)
    (y62:PySem.W.findIn K (.ref cLine) "way"=some none)
    (y63:PySem.W.findIn K (.ref cLine) "roads"=some none)
    (y64:PySem.W.findIn K (.ref cLine) "sure"=some none)
    (y65:PySem.W.findIn K (.ref cLine) "raised"=some none)
    (y66_0:PySem.W.plainGet K cWishes Str.empty=true)
    (y66_1:PySem.W.hasDictIn K cWishes=true)
    (y66_2:PySem.W.plainOver K cWishes=true)
    (y66_3:PySem.W.findIn K (.ref cWishes) "__setattr__"=some (some (.builtin "object.__setattr__")))
    (y66_4:PySem.W.findIn K (.ref cWishes) "__class__"=some (some (.builtin "object.__class__")))
    (y66_5:PySem.W.specialIn K (.builtin "object.__class__") "__get__"=some (some (.builtin "getset_descriptor.__get__")))
    (y66_6:PySem.W.takesIn K (.builtin "object.__class__")=some true)
    (y66_7:PySem.W.mroIn K cWishes (.type "object")=some true)
    (y67:PySem.W.findIn K (.ref cWishes) "zone"=some none)
    (y68:PySem.W.findIn K (.ref cWishes) "quiet"=some none)
    (y69:PySem.W.findIn K (.ref cWishes) "wake"=some none)
    (y70:PySem.W.findIn K (.ref cWishes) "lines"=some none)
    (y71:PySem.W.kitOne K (.ref cHour) (.ref cWay)=some true)
    (y72:PySem.W.kitOne K (.ref cNever) (.ref cWay)=some true)
    (y73:PySem.W.kitOne K (.ref cHour) (.ref cNever)=some false)
    (y74:PySem.W.kitOne K (.ref cNever) (.ref cNever)=some true)
    (y75:PySem.W.kitOne K (.ref cLine) (.ref cLine)=some true)
    (y76_0:PySem.W.makesIn K cNever=true)
    (y76_1:PySem.W.findIn K (.ref cNever) "__init__"=some (some (.builtin "object.__init__")))
    (y76_2:PySem.W.keepIn K (.ref cNever)=true)
    (mkHappening:PySem.W.makesIn K cHappening=true)
    (kcHappening:PySem.W.keepIn K (.ref cHappening)=true)
    (mkKind:PySem.W.makesIn K cKind=true)
    (kcKind:PySem.W.keepIn K (.ref cKind)=true)
    (mkPlace:PySem.W.makesIn K cPlace=true)
    (kcPlace:PySem.W.keepIn K (.ref cPlace)=true)
    (mkLeast:PySem.W.makesIn K cLeast=true)
    (kcLeast:PySem.W.keepIn K (.ref cLeast)=true)
    (mkNot:PySem.W.makesIn K cNot=true)
    (kcNot:PySem.W.keepIn K (.ref cNot)=true)
    (mkBoth:PySem.W.makesIn K cBoth=true)
    (kcBoth:PySem.W.keepIn K (.ref cBoth)=true)
    (mkEither:PySem.W.makesIn K cEither=true)
    (kcEither:PySem.W.keepIn K (.ref cEither)=true)
    (mkHour:PySem.W.makesIn K cHour=true)
    (kcHour:PySem.W.keepIn K (.ref cHour)=true)
    (mkLine:PySem.W.makesIn K cLine=true)
    (kcLine:PySem.W.keepIn K (.ref cLine)=true)
    (mkWishes:PySem.W.makesIn K cWishes=true)
    (kcWishes:PySem.W.keepIn K (.ref cWishes)=true) :
    ∃ (a:Ad) (fd:FuncData),(∀ (s:Shared) (v:Value),BindsTo s fd ⟨[v],[]⟩ [("_law_script",v)])∧∀ base:Heap,K.In base→base.Ns mainGlobals mg→FnOk l.prog w K mg base CX0 10 fa fd ["_law_script"] (sp_law K a):=by
  have e:=hfa.symm.trans (PySem.W.mg_of X G a50)
  cases e
  have B:Bt K mg ⟨cHappening,cFit,cAny,cKind,cPlace,cLeast,cNot,cBoth,cEither,cWay,cHour,cNever,cRaised,cLine,cWishes,t0,t1,t2,t3⟩:=⟨PySem.W.mg_none_of X G y0,PySem.W.mg_none_of X G y1,PySem.W.mg_none_of X G y2,PySem.W.mg_none_of X G y3,PySem.W.mg_none_of X G y4,PySem.W.mg_none_of X G y5,PySem.W.mg_none_of X G y6,PySem.W.mg_none_of X G y7,PySem.W.mg_none_of X G y8,PySem.W.mg_none_of X G y9,PySem.W.mg_none_of X G y10,PySem.W.mg_none_of X G y11,PySem.W.mg_none_of X G y12,PySem.W.mg_of X G y13,PySem.W.mg_of X G y14,PySem.W.mg_of X G y15,PySem.W.mg_of X G y16,PySem.W.mg_of X G y17,PySem.W.mg_of X G y18,PySem.W.mg_of X G y19,PySem.W.mg_of X G y20,PySem.W.mg_of X G y21,PySem.W.mg_of X G y22,PySem.W.mg_of X G y23,PySem.W.mg_of X G y24,PySem.W.mg_of X G y25,PySem.W.mg_of X G y26,PySem.W.mg_of X G y27,PySem.W.mg_of X G y28,PySem.W.mg_of X G y29,PySem.W.mg_of X G y30,PySem.W.mg_of X G y31,⟨⟨y32_0,y32_1,y32_2,y32_3⟩,y32_4,y32_5,y32_6,y32_7⟩,⟨⟨y33_0,y33_1,y33_2,y33_3⟩,y33_4,y33_5,y33_6,y33_7⟩,y34,⟨⟨y35_0,y35_1,y35_2,y35_3⟩,y35_4,y35_5,y35_6,y35_7⟩,y36,⟨⟨y37_0,y37_1,y37_2,y37_3⟩,y37_4,y37_5,y37_6,y37_7⟩,y38,⟨⟨y39_0,y39_1,y39_2,y39_3⟩,y39_4,y39_5,y39_6,y39_7⟩,y40,⟨⟨y41_0,y41_1,y41_2,y41_3⟩,y41_4,y41_5,y41_6,y41_7⟩,y42,⟨⟨y43_0,y43_1,y43_2,y43_3⟩,y43_4,y43_5,y43_6,y43_7⟩,y44,⟨⟨y45_0,y45_1,y45_2,y45_3⟩,y45_4,y45_5,y45_6,y45_7⟩,y46,y47,y48,y49,y50,y51,y52,y53,y54,y55,⟨y56_0,y56_1,y56_2⟩,⟨⟨y57_0,y57_1,y57_2,y57_3⟩,y57_4,y57_5,y57_6,y57_7⟩,y58,⟨⟨y59_0,y59_1,y59_2,y59_3⟩,y59_4,y59_5,y59_6,y59_7⟩,⟨⟨y60_0,y60_1,y60_2,y60_3⟩,y60_4,y60_5,y60_6,y60_7⟩,y61,y62,y63,y64,y65,⟨⟨y66_0,y66_1,y66_2,y66_3⟩,y66_4,y66_5,y66_6,y66_7⟩,y67,y68,y69,y70,y71,y72,y73,y74,y75,⟨y76_0,y76_1,y76_2⟩⟩
  have F0:=fun_mk (st:=s_is_whole) l0 c0 k0
  have b0:=F0.binds (ps:=["thing"]) fun _ _ _ _ _ _ us hl=>match us,hl with | [_],_=>rfl
  have F1:=fun_mk (st:=s_is_whole_between) l1 c1 k1
  have b1:=F1.binds (ps:=["thing","least","most"]) fun _ _ _ _ _ _ us hl=>match us,hl with | [_,_,_],_=>rfl
  have F2:=fun_mk (st:=s_is_whole_from) l2 c2 k2
  have b2:=F2.binds (ps:=["thing","least"]) fun _ _ _ _ _ _ us hl=>match us,hl with | [_,_],_=>rfl
  have F3:=fun_mk (st:=s_is_minute_of_day) l3 c3 k3
  have b3:=F3.binds (ps:=["thing"]) fun _ _ _ _ _ _ us hl=>match us,hl with | [_],_=>rfl
  have F4:=fun_mk (st:=s_is_quiet_hours) l4 c4 k4
  have b4:=F4.binds (ps:=["thing"]) fun _ _ _ _ _ _ us hl=>match us,hl with | [_],_=>rfl
  have F5:=fun_mk (st:=s_check_zone) l5 c5 k5
  have b5:=F5.binds (ps:=["zone"]) fun _ _ _ _ _ _ us hl=>match us,hl with | [_],_=>rfl
  have F6:=fun_mk (st:=s_check_quiet) l6 c6 k6
  have b6:=F6.binds (ps:=["quiet"]) fun _ _ _ _ _ _ us hl=>match us,hl with | [_],_=>rfl
  have F7:=fun_mk (st:=s_check_minute_of_hour) l7 c7 k7
  have b7:=F7.binds (ps:=["minute"]) fun _ _ _ _ _ _ us hl=>match us,hl with | [_],_=>rfl
  have F8:=fun_mk (st:=s_is_name) l8 c8 k8
  have b8:=F8.binds (ps:=["thing"]) fun _ _ _ _ _ _ us hl=>match us,hl with | [_],_=>rfl
  have F9:=fun_mk (st:=s_Happening___init__) l9 c9 k9
  have b9:=F9.binds (ps:=["self","kind","place","weight"]) fun _ _ _ _ _ _ us hl=>match us,hl with | [_,_,_,_],_=>rfl
  have F10:=fun_mk (st:=s_are_unlike_names) l10 c10 k10
  have b10:=F10.binds (ps:=["thing"]) fun _ _ _ _ _ _ us hl=>match us,hl with | [_],_=>rfl
  have F11:=fun_mk (st:=s_Any_fits_it) l11 c11 k11
  have b11:=F11.binds (ps:=["self","happening"]) fun _ _ _ _ _ _ us hl=>match us,hl with | [_,_],_=>rfl
  have F12:=fun_mk (st:=s_Kind___init__) l12 c12 k12
  have b12:=F12.binds (ps:=["self","names"]) fun _ _ _ _ _ _ us hl=>match us,hl with | [_,_],_=>rfl
  have F13:=fun_mk (st:=s_Kind_fits_it) l13 c13 k13
  have b13:=F13.binds (ps:=["self","happening"]) fun _ _ _ _ _ _ us hl=>match us,hl with | [_,_],_=>rfl
  have F14:=fun_mk (st:=s_Place___init__) l14 c14 k14
  have b14:=F14.binds (ps:=["self","names"]) fun _ _ _ _ _ _ us hl=>match us,hl with | [_,_],_=>rfl
  have F15:=fun_mk (st:=s_Place_fits_it) l15 c15 k15
  have b15:=F15.binds (ps:=["self","happening"]) fun _ _ _ _ _ _ us hl=>match us,hl with | [_,_],_=>rfl
  have F16:=fun_mk (st:=s_Least___init__) l16 c16 k16
  have b16:=F16.binds (ps:=["self","weight"]) fun _ _ _ _ _ _ us hl=>match us,hl with | [_,_],_=>rfl
  have F17:=fun_mk (st:=s_Least_fits_it) l17 c17 k17
  have b17:=F17.binds (ps:=["self","happening"]) fun _ _ _ _ _ _ us hl=>match us,hl with | [_,_],_=>rfl
  have F18:=fun_mk (st:=s_Not___init__) l18 c18 k18
  have b18:=F18.binds (ps:=["self","fit"]) fun _ _ _ _ _ _ us hl=>match us,hl with | [_,_],_=>rfl
  have F19:=fun_mk (st:=s_Not_fits_it) l19 c19 k19
  have b19:=F19.binds (ps:=["self","happening"]) fun _ _ _ _ _ _ us hl=>match us,hl with | [_,_],_=>rfl
  have F20:=fun_mk (st:=s_Both___init__) l20 c20 k20
  have b20:=F20.binds (ps:=["self","fits"]) fun _ _ _ _ _ _ us hl=>match us,hl with | [_,_],_=>rfl
  have F21:=fun_mk (st:=s_Both_fits_it) l21 c21 k21
  have b21:=F21.binds (ps:=["self","happening"]) fun _ _ _ _ _ _ us hl=>match us,hl with | [_,_],_=>rfl
  have F22:=fun_mk (st:=s_Either___init__) l22 c22 k22
  have b22:=F22.binds (ps:=["self","fits"]) fun _ _ _ _ _ _ us hl=>match us,hl with | [_,_],_=>rfl
  have F23:=fun_mk (st:=s_Either_fits_it) l23 c23 k23
  have b23:=F23.binds (ps:=["self","happening"]) fun _ _ _ _ _ _ us hl=>match us,hl with | [_,_],_=>rfl
  have F24:=fun_mk (st:=s_check_names) l24 c24 k24
  have b24:=F24.binds (ps:=["names"]) fun _ _ _ _ _ _ us hl=>match us,hl with | [_],_=>rfl
  have F25:=fun_mk (st:=s_check_fit) l25 c25 k25
  have b25:=F25.binds (ps:=["fit"]) fun _ _ _ _ _ _ us hl=>match us,hl with | [_],_=>rfl
  have F26:=fun_mk (st:=s_check_fits) l26 c26 k26
  have b26:=F26.binds (ps:=["fits"]) fun _ _ _ _ _ _ us hl=>match us,hl with | [_],_=>rfl
  have F27:=fun_mk (st:=s_Hour___init__) l27 c27 k27
  have b27:=F27.binds (ps:=["self","minute"]) fun _ _ _ _ _ _ us hl=>match us,hl with | [_,_],_=>rfl
  have F28:=funA_mk (st:=s_Line___init__) l28 c28
  have b28_3:Binds K _ ["self","fit","way","roads","sure","raised"] [.bool false,.none]:=bindsD (fd:=PySem.W.fnOf "__init__" "Line.__init__" (defArgs s_Line___init__) (defBody s_Line___init__) (defScope s_Line___init__) (.ref T28) kV28 dc28 pm28 an28 cd28 ct28) 4 rfl fun s us X hl=>match us,hl with | [_,_,_,_],_=>by first | exact .of_eq rfl | exact PySem.W.binds_K X rfl d28 rfl rfl rfl
  have F29:=fun_mk (st:=s_check_by_way) l29 c29 k29
  have b29:=F29.binds (ps:=["way","roads","sure","raised"]) fun _ _ _ _ _ _ us hl=>match us,hl with | [_,_,_,_],_=>rfl
  have F30:=funA_mk (st:=s_Wishes___init__) l30 c30
  have b30_4:Binds K _ ["self","zone","quiet","wake","lines"] []:=bindsD (fd:=PySem.W.fnOf "__init__" "Wishes.__init__" (defArgs s_Wishes___init__) (defBody s_Wishes___init__) (defScope s_Wishes___init__) (.ref T30) kV30 dc30 pm30 an30 cd30 ct30) 5 rfl fun s us X hl=>match us,hl with | [_,_,_,_,_],_=>by first | exact .of_eq rfl | exact PySem.W.binds_K X rfl d30 rfl rfl rfl
  have F31:=fun_mk (st:=s_Wishes_winning) l31 c31 k31
  have b31:=F31.binds (ps:=["self","happening"]) fun _ _ _ _ _ _ us hl=>match us,hl with | [_,_],_=>rfl
  have F32:=fun_mk (st:=s_Wishes_line_for) l32 c32 k32
  have b32:=F32.binds (ps:=["self","happening"]) fun _ _ _ _ _ _ us hl=>match us,hl with | [_,_],_=>rfl
  have F33:=fun_mk (st:=s_check_wake) l33 c33 k33
  have b33:=F33.binds (ps:=["wake","quiet"]) fun _ _ _ _ _ _ us hl=>match us,hl with | [_,_],_=>rfl
  have F34:=fun_mk (st:=s_check_lines) l34 c34 k34
  have b34:=F34.binds (ps:=["lines"]) fun _ _ _ _ _ _ us hl=>match us,hl with | [_],_=>rfl
  have F35:=fun_mk (st:=s_law_cell_at) l35 c35 k35
  have b35:=F35.binds (ps:=["_law_script","_law_k"]) fun _ _ _ _ _ _ us hl=>match us,hl with | [_,_],_=>rfl
  have F36:=fun_mk (st:=s_law_begin) l36 c36 k36
  have b36:=F36.binds (ps:=["_law_cell"]) fun _ _ _ _ _ _ us hl=>match us,hl with | [_],_=>rfl
  have F37:=fun_mk (st:=s_law_next) l37 c37 k37
  have b37:=F37.binds (ps:=["_law_state","_law_base"]) fun _ _ _ _ _ _ us hl=>match us,hl with | [_,_],_=>rfl
  have F38:=fun_mk (st:=s_law_name) l38 c38 k38
  have b38:=F38.binds (ps:=["_law_state"]) fun _ _ _ _ _ _ us hl=>match us,hl with | [_],_=>rfl
  have F39:=fun_mk (st:=s_law_leaf) l39 c39 k39
  have b39:=F39.binds (ps:=["_law_state","_law_more"]) fun _ _ _ _ _ _ us hl=>match us,hl with | [_,_],_=>rfl
  have F40:=fun_mk (st:=s_law_tree) l40 c40 k40
  have b40:=F40.binds (ps:=["_law_state","_law_deep","_law_more"]) fun _ _ _ _ _ _ us hl=>match us,hl with | [_,_,_],_=>rfl
  have F41:=fun_mk (st:=s_law_made) l41 c41 k41
  have b41:=F41.binds (ps:=["_law_tree_here"]) fun _ _ _ _ _ _ us hl=>match us,hl with | [_],_=>rfl
  have F42:=fun_mk (st:=s_law_fits) l42 c42 k42
  have b42:=F42.binds (ps:=["_law_tree_here","_law_thing"]) fun _ _ _ _ _ _ us hl=>match us,hl with | [_,_],_=>rfl
  have F43:=fun_mk (st:=s_law_gathered) l43 c43 k43
  have b43:=F43.binds (ps:=["_law_tree_here","_law_word"]) fun _ _ _ _ _ _ us hl=>match us,hl with | [_,_],_=>rfl
  have F44:=fun_mk (st:=s_law_pick) l44 c44 k44
  have b44:=F44.binds (ps:=["_law_state","_law_some"]) fun _ _ _ _ _ _ us hl=>match us,hl with | [_,_],_=>rfl
  have F45:=fun_mk (st:=s_law_things) l45 c45 k45
  have b45:=F45.binds (ps:=["_law_script","_law_trees"]) fun _ _ _ _ _ _ us hl=>match us,hl with | [_,_],_=>rfl
  have F46:=fun_mk (st:=s_law_lines) l46 c46 k46
  have b46:=F46.binds (ps:=["_law_trees","_law_never"]) fun _ _ _ _ _ _ us hl=>match us,hl with | [_,_],_=>rfl
  have F47:=fun_mk (st:=s_law_number) l47 c47 k47
  have b47:=F47.binds (ps:=["_law_line","_law_never"]) fun _ _ _ _ _ _ us hl=>match us,hl with | [_,_],_=>rfl
  have F48:=fun_mk (st:=s_law_due) l48 c48 k48
  have b48:=F48.binds (ps:=["_law_trees","_law_order","_law_thing"]) fun _ _ _ _ _ _ us hl=>match us,hl with | [_,_,_],_=>rfl
  have F49:=fun_mk (st:=s_law_right) l49 c49 k49
  have b49:=F49.binds (ps:=["_law_wishes","_law_trees","_law_order","_law_never","_law_thing","_law_turned"]) fun _ _ _ _ _ _ us hl=>match us,hl with | [_,_,_,_,_,_],_=>rfl
  have F50:=fun_mk (st:=s_law) l50 c50 k50
  have b50:=F50.binds (ps:=["_law_script"]) fun _ _ _ _ _ _ us hl=>match us,hl with | [_],_=>rfl
  refine ⟨(⟨cHappening,cFit,cAny,cKind,cPlace,cLeast,cNot,cBoth,cEither,cWay,cHour,cNever,cRaised,cLine,cWishes,t0,t1,t2,t3⟩:Ad),PySem.W.fnOf "law" "law" (defArgs s_law) (defBody s_law) (defScope s_law) .none kV50 dc50 pm50 an50 cd50 ct50,fun s v=>.of_eq rfl,fun base _ _=>?_⟩
  have G_is_whole:FnOk l.prog w K mg base (CXF l.prog w) 1 f0 _ ["thing"] (sp_is_whole K (⟨cHappening,cFit,cAny,cKind,cPlace,cLeast,cNot,cBoth,cEither,cWay,cHour,cNever,cRaised,cLine,cWishes,t0,t1,t2,t3⟩:Ad)):=FnOk.up (ok_is_whole (P:=l.prog) (w:=w) (base:=base) B  F0)
  have C_is_whole:CalX l.prog w K mg base "is_whole" ["thing"] 1 (sp_is_whole K (⟨cHappening,cFit,cAny,cKind,cPlace,cLeast,cNot,cBoth,cEither,cWay,cHour,cNever,cRaised,cLine,cWishes,t0,t1,t2,t3⟩:Ad)):=⟨_,_,G_is_whole,b0,k0,PySem.W.mg_of X G a0⟩
  have G_is_name:FnOk l.prog w K mg base (CXF l.prog w) 1 f8 _ ["thing"] (sp_is_name K (⟨cHappening,cFit,cAny,cKind,cPlace,cLeast,cNot,cBoth,cEither,cWay,cHour,cNever,cRaised,cLine,cWishes,t0,t1,t2,t3⟩:Ad)):=FnOk.up (ok_is_name (P:=l.prog) (w:=w) (base:=base) B  F8)
  have C_is_name:CalX l.prog w K mg base "is_name" ["thing"] 1 (sp_is_name K (⟨cHappening,cFit,cAny,cKind,cPlace,cLeast,cNot,cBoth,cEither,cWay,cHour,cNever,cRaised,cLine,cWishes,t0,t1,t2,t3⟩:Ad)):=⟨_,_,G_is_name,b8,k8,PySem.W.mg_of X G a8⟩
  have G_check_fit:FnOk l.prog w K mg base (CXF l.prog w) 1 f25 _ ["fit"] (sp_check_fit K (⟨cHappening,cFit,cAny,cKind,cPlace,cLeast,cNot,cBoth,cEither,cWay,cHour,cNever,cRaised,cLine,cWishes,t0,t1,t2,t3⟩:Ad)):=FnOk.up (ok_check_fit (P:=l.prog) (w:=w) (base:=base) B  F25)
  have C_check_fit:CalX l.prog w K mg base "check_fit" ["fit"] 1 (sp_check_fit K (⟨cHappening,cFit,cAny,cKind,cPlace,cLeast,cNot,cBoth,cEither,cWay,cHour,cNever,cRaised,cLine,cWishes,t0,t1,t2,t3⟩:Ad)):=⟨_,_,G_check_fit,b25,k25,PySem.W.mg_of X G a25⟩
  have G_check_by_way:FnOk l.prog w K mg base (CXF l.prog w) 1 f29 _ ["way","roads","sure","raised"] (sp_check_by_way K (⟨cHappening,cFit,cAny,cKind,cPlace,cLeast,cNot,cBoth,cEither,cWay,cHour,cNever,cRaised,cLine,cWishes,t0,t1,t2,t3⟩:Ad)):=FnOk.up (ok_check_by_way (P:=l.prog) (w:=w) (base:=base) B  F29)
  have C_check_by_way:CalX l.prog w K mg base "check_by_way" ["way","roads","sure","raised"] 1 (sp_check_by_way K (⟨cHappening,cFit,cAny,cKind,cPlace,cLeast,cNot,cBoth,cEither,cWay,cHour,cNever,cRaised,cLine,cWishes,t0,t1,t2,t3⟩:Ad)):=⟨_,_,G_check_by_way,b29,k29,PySem.W.mg_of X G a29⟩
  have G_check_lines:FnOk l.prog w K mg base (CXF l.prog w) 1 f34 _ ["lines"] (sp_check_lines K (⟨cHappening,cFit,cAny,cKind,cPlace,cLeast,cNot,cBoth,cEither,cWay,cHour,cNever,cRaised,cLine,cWishes,t0,t1,t2,t3⟩:Ad)):=FnOk.up (ok_check_lines (P:=l.prog) (w:=w) (base:=base) B  F34)
  have C_check_lines:CalX l.prog w K mg base "check_lines" ["lines"] 1 (sp_check_lines K (⟨cHappening,cFit,cAny,cKind,cPlace,cLeast,cNot,cBoth,cEither,cWay,cHour,cNever,cRaised,cLine,cWishes,t0,t1,t2,t3⟩:Ad)):=⟨_,_,G_check_lines,b34,k34,PySem.W.mg_of X G a34⟩
  have G_law_cell_at:FnOk l.prog w K mg base (CXF l.prog w) 1 f35 _ ["_law_script","_law_k"] (sp_law_cell_at K (⟨cHappening,cFit,cAny,cKind,cPlace,cLeast,cNot,cBoth,cEither,cWay,cHour,cNever,cRaised,cLine,cWishes,t0,t1,t2,t3⟩:Ad)):=FnOk.up (ok_law_cell_at (P:=l.prog) (w:=w) (base:=base) B  F35)
  have C_law_cell_at:CalX l.prog w K mg base "_law_cell_at" ["_law_script","_law_k"] 1 (sp_law_cell_at K (⟨cHappening,cFit,cAny,cKind,cPlace,cLeast,cNot,cBoth,cEither,cWay,cHour,cNever,cRaised,cLine,cWishes,t0,t1,t2,t3⟩:Ad)):=⟨_,_,G_law_cell_at,b35,k35,PySem.W.mg_of X G a35⟩
  have G_law_begin:FnOk l.prog w K mg base (CXF l.prog w) 1 f36 _ ["_law_cell"] (sp_law_begin K (⟨cHappening,cFit,cAny,cKind,cPlace,cLeast,cNot,cBoth,cEither,cWay,cHour,cNever,cRaised,cLine,cWishes,t0,t1,t2,t3⟩:Ad)):=FnOk.up (ok_law_begin (P:=l.prog) (w:=w) (base:=base) B  F36)
  have C_law_begin:CalX l.prog w K mg base "_law_begin" ["_law_cell"] 1 (sp_law_begin K (⟨cHappening,cFit,cAny,cKind,cPlace,cLeast,cNot,cBoth,cEither,cWay,cHour,cNever,cRaised,cLine,cWishes,t0,t1,t2,t3⟩:Ad)):=⟨_,_,G_law_begin,b36,k36,PySem.W.mg_of X G a36⟩
  have G_law_next:FnOk l.prog w K mg base (CXF l.prog w) 1 f37 _ ["_law_state","_law_base"] (sp_law_next K (⟨cHappening,cFit,cAny,cKind,cPlace,cLeast,cNot,cBoth,cEither,cWay,cHour,cNever,cRaised,cLine,cWishes,t0,t1,t2,t3⟩:Ad)):=FnOk.up (ok_law_next (P:=l.prog) (w:=w) (base:=base) B  F37)
  have C_law_next:CalX l.prog w K mg base "_law_next" ["_law_state","_law_base"] 1 (sp_law_next K (⟨cHappening,cFit,cAny,cKind,cPlace,cLeast,cNot,cBoth,cEither,cWay,cHour,cNever,cRaised,cLine,cWishes,t0,t1,t2,t3⟩:Ad)):=⟨_,_,G_law_next,b37,k37,PySem.W.mg_of X G a37⟩
  have G_law_number:FnOk l.prog w K mg base (CXF l.prog w) 1 f47 _ ["_law_line","_law_never"] (sp_law_number K (⟨cHappening,cFit,cAny,cKind,cPlace,cLeast,cNot,cBoth,cEither,cWay,cHour,cNever,cRaised,cLine,cWishes,t0,t1,t2,t3⟩:Ad)):=FnOk.up (ok_law_number (P:=l.prog) (w:=w) (base:=base) B  F47)
  have C_law_number:CalX l.prog w K mg base "_law_number" ["_law_line","_law_never"] 1 (sp_law_number K (⟨cHappening,cFit,cAny,cKind,cPlace,cLeast,cNot,cBoth,cEither,cWay,cHour,cNever,cRaised,cLine,cWishes,t0,t1,t2,t3⟩:Ad)):=⟨_,_,G_law_number,b47,k47,PySem.W.mg_of X G a47⟩
  have G_is_whole_between:FnOk l.prog w K mg base (CXF l.prog w) 2 f1 _ ["thing","least","most"] (sp_is_whole_between K (⟨cHappening,cFit,cAny,cKind,cPlace,cLeast,cNot,cBoth,cEither,cWay,cHour,cNever,cRaised,cLine,cWishes,t0,t1,t2,t3⟩:Ad)):=FnOk.up (ok_is_whole_between (P:=l.prog) (w:=w) (base:=base) B C_is_whole F1)
  have C_is_whole_between:CalX l.prog w K mg base "is_whole_between" ["thing","least","most"] 2 (sp_is_whole_between K (⟨cHappening,cFit,cAny,cKind,cPlace,cLeast,cNot,cBoth,cEither,cWay,cHour,cNever,cRaised,cLine,cWishes,t0,t1,t2,t3⟩:Ad)):=⟨_,_,G_is_whole_between,b1,k1,PySem.W.mg_of X G a1⟩
  have G_is_whole_from:FnOk l.prog w K mg base (CXF l.prog w) 2 f2 _ ["thing","least"] (sp_is_whole_from K (⟨cHappening,cFit,cAny,cKind,cPlace,cLeast,cNot,cBoth,cEither,cWay,cHour,cNever,cRaised,cLine,cWishes,t0,t1,t2,t3⟩:Ad)):=FnOk.up (ok_is_whole_from (P:=l.prog) (w:=w) (base:=base) B C_is_whole F2)
  have C_is_whole_from:CalX l.prog w K mg base "is_whole_from" ["thing","least"] 2 (sp_is_whole_from K (⟨cHappening,cFit,cAny,cKind,cPlace,cLeast,cNot,cBoth,cEither,cWay,cHour,cNever,cRaised,cLine,cWishes,t0,t1,t2,t3⟩:Ad)):=⟨_,_,G_is_whole_from,b2,k2,PySem.W.mg_of X G a2⟩
  have G_are_unlike_names:FnOk l.prog w K mg base (CXF l.prog w) 2 f10 _ ["thing"] (sp_are_unlike_names K (⟨cHappening,cFit,cAny,cKind,cPlace,cLeast,cNot,cBoth,cEither,cWay,cHour,cNever,cRaised,cLine,cWishes,t0,t1,t2,t3⟩:Ad)):=FnOk.up (ok_are_unlike_names (P:=l.prog) (w:=w) (base:=base) B C_is_name F10)
  have C_are_unlike_names:CalX l.prog w K mg base "are_unlike_names" ["thing"] 2 (sp_are_unlike_names K (⟨cHappening,cFit,cAny,cKind,cPlace,cLeast,cNot,cBoth,cEither,cWay,cHour,cNever,cRaised,cLine,cWishes,t0,t1,t2,t3⟩:Ad)):=⟨_,_,G_are_unlike_names,b10,k10,PySem.W.mg_of X G a10⟩
  have G_Not___init__:FnOk l.prog w K mg base (CXF l.prog w) 2 f18 _ ["self","fit"] (sp_Not___init__ K (⟨cHappening,cFit,cAny,cKind,cPlace,cLeast,cNot,cBoth,cEither,cWay,cHour,cNever,cRaised,cLine,cWishes,t0,t1,t2,t3⟩:Ad)):=FnOk.up (ok_Not___init__ (P:=l.prog) (w:=w) (base:=base) B C_check_fit F18)
  have CC_Not:CalC l.prog w K mg base "Not" cNot ["self","fit"] 2 (sp_Not___init__ K (⟨cHappening,cFit,cAny,cKind,cPlace,cLeast,cNot,cBoth,cEither,cWay,cHour,cNever,cRaised,cLine,cWishes,t0,t1,t2,t3⟩:Ad)):=⟨_,_,G_Not___init__,b18,⟨mkNot,a18,i18,kcNot⟩,B.Not⟩
  have G_check_fits:FnOk l.prog w K mg base (CXF l.prog w) 2 f26 _ ["fits"] (sp_check_fits K (⟨cHappening,cFit,cAny,cKind,cPlace,cLeast,cNot,cBoth,cEither,cWay,cHour,cNever,cRaised,cLine,cWishes,t0,t1,t2,t3⟩:Ad)):=FnOk.up (ok_check_fits (P:=l.prog) (w:=w) (base:=base) B C_check_fit F26)
  have C_check_fits:CalX l.prog w K mg base "check_fits" ["fits"] 2 (sp_check_fits K (⟨cHappening,cFit,cAny,cKind,cPlace,cLeast,cNot,cBoth,cEither,cWay,cHour,cNever,cRaised,cLine,cWishes,t0,t1,t2,t3⟩:Ad)):=⟨_,_,G_check_fits,b26,k26,PySem.W.mg_of X G a26⟩
  have G_law_name:FnOk l.prog w K mg base (CXF l.prog w) 2 f38 _ ["_law_state"] (sp_law_name K (⟨cHappening,cFit,cAny,cKind,cPlace,cLeast,cNot,cBoth,cEither,cWay,cHour,cNever,cRaised,cLine,cWishes,t0,t1,t2,t3⟩:Ad)):=FnOk.up (ok_law_name (P:=l.prog) (w:=w) (base:=base) B C_law_next F38)
  have C_law_name:CalX l.prog w K mg base "_law_name" ["_law_state"] 2 (sp_law_name K (⟨cHappening,cFit,cAny,cKind,cPlace,cLeast,cNot,cBoth,cEither,cWay,cHour,cNever,cRaised,cLine,cWishes,t0,t1,t2,t3⟩:Ad)):=⟨_,_,G_law_name,b38,k38,PySem.W.mg_of X G a38⟩
  have G_is_minute_of_day:FnOk l.prog w K mg base (CXF l.prog w) 3 f3 _ ["thing"] (sp_is_minute_of_day K (⟨cHappening,cFit,cAny,cKind,cPlace,cLeast,cNot,cBoth,cEither,cWay,cHour,cNever,cRaised,cLine,cWishes,t0,t1,t2,t3⟩:Ad)):=FnOk.up (ok_is_minute_of_day (P:=l.prog) (w:=w) (base:=base) B C_is_whole_between F3)
  have C_is_minute_of_day:CalX l.prog w K mg base "is_minute_of_day" ["thing"] 3 (sp_is_minute_of_day K (⟨cHappening,cFit,cAny,cKind,cPlace,cLeast,cNot,cBoth,cEither,cWay,cHour,cNever,cRaised,cLine,cWishes,t0,t1,t2,t3⟩:Ad)):=⟨_,_,G_is_minute_of_day,b3,k3,PySem.W.mg_of X G a3⟩
  have G_check_zone:FnOk l.prog w K mg base (CXF l.prog w) 3 f5 _ ["zone"] (sp_check_zone K (⟨cHappening,cFit,cAny,cKind,cPlace,cLeast,cNot,cBoth,cEither,cWay,cHour,cNever,cRaised,cLine,cWishes,t0,t1,t2,t3⟩:Ad)):=FnOk.up (ok_check_zone (P:=l.prog) (w:=w) (base:=base) B C_is_whole_between F5)
  have C_check_zone:CalX l.prog w K mg base "check_zone" ["zone"] 3 (sp_check_zone K (⟨cHappening,cFit,cAny,cKind,cPlace,cLeast,cNot,cBoth,cEither,cWay,cHour,cNever,cRaised,cLine,cWishes,t0,t1,t2,t3⟩:Ad)):=⟨_,_,G_check_zone,b5,k5,PySem.W.mg_of X G a5⟩
  have G_check_minute_of_hour:FnOk l.prog w K mg base (CXF l.prog w) 3 f7 _ ["minute"] (sp_check_minute_of_hour K (⟨cHappening,cFit,cAny,cKind,cPlace,cLeast,cNot,cBoth,cEither,cWay,cHour,cNever,cRaised,cLine,cWishes,t0,t1,t2,t3⟩:Ad)):=FnOk.up (ok_check_minute_of_hour (P:=l.prog) (w:=w) (base:=base) B C_is_whole_between F7)
  have C_check_minute_of_hour:CalX l.prog w K mg base "check_minute_of_hour" ["minute"] 3 (sp_check_minute_of_hour K (⟨cHappening,cFit,cAny,cKind,cPlace,cLeast,cNot,cBoth,cEither,cWay,cHour,cNever,cRaised,cLine,cWishes,t0,t1,t2,t3⟩:Ad)):=⟨_,_,G_check_minute_of_hour,b7,k7,PySem.W.mg_of X G a7⟩
  have G_Happening___init__:FnOk l.prog w K mg base (CXF l.prog w) 3 f9 _ ["self","kind","place","weight"] (sp_Happening___init__ K (⟨cHappening,cFit,cAny,cKind,cPlace,cLeast,cNot,cBoth,cEither,cWay,cHour,cNever,cRaised,cLine,cWishes,t0,t1,t2,t3⟩:Ad)):=FnOk.up (ok_Happening___init__ (P:=l.prog) (w:=w) (base:=base) B C_is_whole_from C_is_name F9)
  have CC_Happening:CalC l.prog w K mg base "Happening" cHappening ["self","kind","place","weight"] 3 (sp_Happening___init__ K (⟨cHappening,cFit,cAny,cKind,cPlace,cLeast,cNot,cBoth,cEither,cWay,cHour,cNever,cRaised,cLine,cWishes,t0,t1,t2,t3⟩:Ad)):=⟨_,_,G_Happening___init__,b9,⟨mkHappening,a9,i9,kcHappening⟩,B.Happening⟩
  have CMr_fits_it:∀ d C sp,Mm_fits_it K (⟨cHappening,cFit,cAny,cKind,cPlace,cLeast,cNot,cBoth,cEither,cWay,cHour,cNever,cRaised,cLine,cWishes,t0,t1,t2,t3⟩:Ad) d C sp→CalM l.prog w K mg base C "fits_it" ["self","happening"] (0+d) sp:=by
    intro d
    induction d with
    | zero =>
      rintro C sp ⟨t,rfl,rfl⟩
      cases t with
      | any=>exact ⟨⟨_,_,FnOk.nev sp0_fits_it,b11,⟨a11,i11,k11⟩,B.ck_Any.cl⟩⟩
      | kind us=>exact ⟨⟨_,_,FnOk.nev sp0_fits_it,b13,⟨a13,i13,k13⟩,B.ck_Kind.cl⟩⟩
      | place us=>exact ⟨⟨_,_,FnOk.nev sp0_fits_it,b15,⟨a15,i15,k15⟩,B.ck_Place.cl⟩⟩
      | weight n=>exact ⟨⟨_,_,FnOk.nev sp0_fits_it,b17,⟨a17,i17,k17⟩,B.ck_Least.cl⟩⟩
      | not t=>exact ⟨⟨_,_,FnOk.nev sp0_fits_it,b19,⟨a19,i19,k19⟩,B.ck_Not.cl⟩⟩
      | both ts=>exact ⟨⟨_,_,FnOk.nev sp0_fits_it,b21,⟨a21,i21,k21⟩,B.ck_Both.cl⟩⟩
      | either ts=>exact ⟨⟨_,_,FnOk.nev sp0_fits_it,b23,⟨a23,i23,k23⟩,B.ck_Either.cl⟩⟩
    | succ d ih =>
      rintro C sp ⟨t,rfl,rfl⟩
      cases t with
      | any=>exact ⟨⟨_,_,FnOk.up (ok_Any_fits_it (P:=l.prog) (w:=w) (base:=base) (Nat.le_add_right _ _) B  F11),b11,⟨a11,i11,k11⟩,B.ck_Any.cl⟩⟩
      | kind us=>exact ⟨⟨_,_,FnOk.up (ok_Kind_fits_it (P:=l.prog) (w:=w) (base:=base) (Nat.le_add_right _ _) B  F13),b13,⟨a13,i13,k13⟩,B.ck_Kind.cl⟩⟩
      | place us=>exact ⟨⟨_,_,FnOk.up (ok_Place_fits_it (P:=l.prog) (w:=w) (base:=base) (Nat.le_add_right _ _) B  F15),b15,⟨a15,i15,k15⟩,B.ck_Place.cl⟩⟩
      | weight n=>exact ⟨⟨_,_,FnOk.up (ok_Least_fits_it (P:=l.prog) (w:=w) (base:=base) (Nat.le_add_right _ _) B  F17),b17,⟨a17,i17,k17⟩,B.ck_Least.cl⟩⟩
      | not t=>exact ⟨⟨_,_,FnOk.up (ok_Not_fits_it (P:=l.prog) (w:=w) (base:=base) (Nat.le_add_right _ _) B ih F19),b19,⟨a19,i19,k19⟩,B.ck_Not.cl⟩⟩
      | both ts=>exact ⟨⟨_,_,FnOk.up (ok_Both_fits_it (P:=l.prog) (w:=w) (base:=base) (Nat.le_add_right _ _) B ih F21),b21,⟨a21,i21,k21⟩,B.ck_Both.cl⟩⟩
      | either ts=>exact ⟨⟨_,_,FnOk.up (ok_Either_fits_it (P:=l.prog) (w:=w) (base:=base) (Nat.le_add_right _ _) B ih F23),b23,⟨a23,i23,k23⟩,B.ck_Either.cl⟩⟩
  have CM_fits_it:∀ C sp,Mm_fits_it K (⟨cHappening,cFit,cAny,cKind,cPlace,cLeast,cNot,cBoth,cEither,cWay,cHour,cNever,cRaised,cLine,cWishes,t0,t1,t2,t3⟩:Ad) 3 C sp→CalM l.prog w K mg base C "fits_it" ["self","happening"] 3 sp:=fun C sp h=>CMr_fits_it 3 C sp h
  have G_Least___init__:FnOk l.prog w K mg base (CXF l.prog w) 3 f16 _ ["self","weight"] (sp_Least___init__ K (⟨cHappening,cFit,cAny,cKind,cPlace,cLeast,cNot,cBoth,cEither,cWay,cHour,cNever,cRaised,cLine,cWishes,t0,t1,t2,t3⟩:Ad)):=FnOk.up (ok_Least___init__ (P:=l.prog) (w:=w) (base:=base) B C_is_whole_from F16)
  have CC_Least:CalC l.prog w K mg base "Least" cLeast ["self","weight"] 3 (sp_Least___init__ K (⟨cHappening,cFit,cAny,cKind,cPlace,cLeast,cNot,cBoth,cEither,cWay,cHour,cNever,cRaised,cLine,cWishes,t0,t1,t2,t3⟩:Ad)):=⟨_,_,G_Least___init__,b16,⟨mkLeast,a16,i16,kcLeast⟩,B.Least⟩
  have G_Both___init__:FnOk l.prog w K mg base (CXF l.prog w) 3 f20 _ ["self","fits"] (sp_Both___init__ K (⟨cHappening,cFit,cAny,cKind,cPlace,cLeast,cNot,cBoth,cEither,cWay,cHour,cNever,cRaised,cLine,cWishes,t0,t1,t2,t3⟩:Ad)):=FnOk.up (ok_Both___init__ (P:=l.prog) (w:=w) (base:=base) B C_check_fits F20)
  have CC_Both:CalC l.prog w K mg base "Both" cBoth ["self","fits"] 3 (sp_Both___init__ K (⟨cHappening,cFit,cAny,cKind,cPlace,cLeast,cNot,cBoth,cEither,cWay,cHour,cNever,cRaised,cLine,cWishes,t0,t1,t2,t3⟩:Ad)):=⟨_,_,G_Both___init__,b20,⟨mkBoth,a20,i20,kcBoth⟩,B.Both⟩
  have G_Either___init__:FnOk l.prog w K mg base (CXF l.prog w) 3 f22 _ ["self","fits"] (sp_Either___init__ K (⟨cHappening,cFit,cAny,cKind,cPlace,cLeast,cNot,cBoth,cEither,cWay,cHour,cNever,cRaised,cLine,cWishes,t0,t1,t2,t3⟩:Ad)):=FnOk.up (ok_Either___init__ (P:=l.prog) (w:=w) (base:=base) B C_check_fits F22)
  have CC_Either:CalC l.prog w K mg base "Either" cEither ["self","fits"] 3 (sp_Either___init__ K (⟨cHappening,cFit,cAny,cKind,cPlace,cLeast,cNot,cBoth,cEither,cWay,cHour,cNever,cRaised,cLine,cWishes,t0,t1,t2,t3⟩:Ad)):=⟨_,_,G_Either___init__,b22,⟨mkEither,a22,i22,kcEither⟩,B.Either⟩
  have G_check_names:FnOk l.prog w K mg base (CXF l.prog w) 3 f24 _ ["names"] (sp_check_names K (⟨cHappening,cFit,cAny,cKind,cPlace,cLeast,cNot,cBoth,cEither,cWay,cHour,cNever,cRaised,cLine,cWishes,t0,t1,t2,t3⟩:Ad)):=FnOk.up (ok_check_names (P:=l.prog) (w:=w) (base:=base) B C_are_unlike_names F24)
  have C_check_names:CalX l.prog w K mg base "check_names" ["names"] 3 (sp_check_names K (⟨cHappening,cFit,cAny,cKind,cPlace,cLeast,cNot,cBoth,cEither,cWay,cHour,cNever,cRaised,cLine,cWishes,t0,t1,t2,t3⟩:Ad)):=⟨_,_,G_check_names,b24,k24,PySem.W.mg_of X G a24⟩
  have G_Line___init__:FnOk l.prog w K mg base (CXF l.prog w) 3 f28 _ ["self","fit","way","roads","sure","raised"] (sp_Line___init__ K (⟨cHappening,cFit,cAny,cKind,cPlace,cLeast,cNot,cBoth,cEither,cWay,cHour,cNever,cRaised,cLine,cWishes,t0,t1,t2,t3⟩:Ad)):=FnOk.up (ok_Line___init__ (P:=l.prog) (w:=w) (base:=base) B C_check_by_way C_are_unlike_names F28)
  have CD_Line_3:CalD l.prog w K mg base "Line" cLine ["self","fit","way","roads","sure","raised"] 3 [.bl false,.non] (sp_Line___init__ K (⟨cHappening,cFit,cAny,cKind,cPlace,cLeast,cNot,cBoth,cEither,cWay,cHour,cNever,cRaised,cLine,cWishes,t0,t1,t2,t3⟩:Ad)):=⟨_,_,_,G_Line___init__,b28_3,(.cons rfl (.cons rfl .nil)),⟨mkLine,a28,i28,kcLine⟩,B.Line⟩
  have G_check_wake:FnOk l.prog w K mg base (CXF l.prog w) 3 f33 _ ["wake","quiet"] (sp_check_wake K (⟨cHappening,cFit,cAny,cKind,cPlace,cLeast,cNot,cBoth,cEither,cWay,cHour,cNever,cRaised,cLine,cWishes,t0,t1,t2,t3⟩:Ad)):=FnOk.up (ok_check_wake (P:=l.prog) (w:=w) (base:=base) B C_is_whole_from F33)
  have C_check_wake:CalX l.prog w K mg base "check_wake" ["wake","quiet"] 3 (sp_check_wake K (⟨cHappening,cFit,cAny,cKind,cPlace,cLeast,cNot,cBoth,cEither,cWay,cHour,cNever,cRaised,cLine,cWishes,t0,t1,t2,t3⟩:Ad)):=⟨_,_,G_check_wake,b33,k33,PySem.W.mg_of X G a33⟩
  have G_law_leaf:FnOk l.prog w K mg base (CXF l.prog w) 3 f39 _ ["_law_state","_law_more"] (sp_law_leaf K (⟨cHappening,cFit,cAny,cKind,cPlace,cLeast,cNot,cBoth,cEither,cWay,cHour,cNever,cRaised,cLine,cWishes,t0,t1,t2,t3⟩:Ad)):=FnOk.up (ok_law_leaf (P:=l.prog) (w:=w) (base:=base) B C_law_next C_law_name F39)
  have C_law_leaf:CalX l.prog w K mg base "_law_leaf" ["_law_state","_law_more"] 3 (sp_law_leaf K (⟨cHappening,cFit,cAny,cKind,cPlace,cLeast,cNot,cBoth,cEither,cWay,cHour,cNever,cRaised,cLine,cWishes,t0,t1,t2,t3⟩:Ad)):=⟨_,_,G_law_leaf,b39,k39,PySem.W.mg_of X G a39⟩
  have C_law_fits:CalX l.prog w K mg base "_law_fits" ["_law_tree_here","_law_thing"] 3 (sp_law_fits K (⟨cHappening,cFit,cAny,cKind,cPlace,cLeast,cNot,cBoth,cEither,cWay,cHour,cNever,cRaised,cLine,cWishes,t0,t1,t2,t3⟩:Ad) 3):=rec_cal (spf:=sp_law_fits K (⟨cHappening,cFit,cAny,cKind,cPlace,cLeast,cNot,cBoth,cEither,cWay,cHour,cNever,cRaised,cLine,cWishes,t0,t1,t2,t3⟩:Ad)) (n0:=0) sp0_law_fits b42 k42 (PySem.W.mg_of X G a42) (fun d n hn C=>FnOk.up (ok_law_fits (P:=l.prog) (w:=w) (base:=base) hn B C F42)) 3 (by decide)
  have G_law_pick:FnOk l.prog w K mg base (CXF l.prog w) 3 f44 _ ["_law_state","_law_some"] (sp_law_pick K (⟨cHappening,cFit,cAny,cKind,cPlace,cLeast,cNot,cBoth,cEither,cWay,cHour,cNever,cRaised,cLine,cWishes,t0,t1,t2,t3⟩:Ad)):=FnOk.up (ok_law_pick (P:=l.prog) (w:=w) (base:=base) B C_law_name C_law_next F44)
  have C_law_pick:CalX l.prog w K mg base "_law_pick" ["_law_state","_law_some"] 3 (sp_law_pick K (⟨cHappening,cFit,cAny,cKind,cPlace,cLeast,cNot,cBoth,cEither,cWay,cHour,cNever,cRaised,cLine,cWishes,t0,t1,t2,t3⟩:Ad)):=⟨_,_,G_law_pick,b44,k44,PySem.W.mg_of X G a44⟩
  have G_is_quiet_hours:FnOk l.prog w K mg base (CXF l.prog w) 4 f4 _ ["thing"] (sp_is_quiet_hours K (⟨cHappening,cFit,cAny,cKind,cPlace,cLeast,cNot,cBoth,cEither,cWay,cHour,cNever,cRaised,cLine,cWishes,t0,t1,t2,t3⟩:Ad)):=FnOk.up (ok_is_quiet_hours (P:=l.prog) (w:=w) (base:=base) B C_is_minute_of_day F4)
  have C_is_quiet_hours:CalX l.prog w K mg base "is_quiet_hours" ["thing"] 4 (sp_is_quiet_hours K (⟨cHappening,cFit,cAny,cKind,cPlace,cLeast,cNot,cBoth,cEither,cWay,cHour,cNever,cRaised,cLine,cWishes,t0,t1,t2,t3⟩:Ad)):=⟨_,_,G_is_quiet_hours,b4,k4,PySem.W.mg_of X G a4⟩
  have G_Kind___init__:FnOk l.prog w K mg base (CXF l.prog w) 4 f12 _ ["self","names"] (sp_Kind___init__ K (⟨cHappening,cFit,cAny,cKind,cPlace,cLeast,cNot,cBoth,cEither,cWay,cHour,cNever,cRaised,cLine,cWishes,t0,t1,t2,t3⟩:Ad)):=FnOk.up (ok_Kind___init__ (P:=l.prog) (w:=w) (base:=base) B C_check_names F12)
  have CC_Kind:CalC l.prog w K mg base "Kind" cKind ["self","names"] 4 (sp_Kind___init__ K (⟨cHappening,cFit,cAny,cKind,cPlace,cLeast,cNot,cBoth,cEither,cWay,cHour,cNever,cRaised,cLine,cWishes,t0,t1,t2,t3⟩:Ad)):=⟨_,_,G_Kind___init__,b12,⟨mkKind,a12,i12,kcKind⟩,B.Kind⟩
  have G_Place___init__:FnOk l.prog w K mg base (CXF l.prog w) 4 f14 _ ["self","names"] (sp_Place___init__ K (⟨cHappening,cFit,cAny,cKind,cPlace,cLeast,cNot,cBoth,cEither,cWay,cHour,cNever,cRaised,cLine,cWishes,t0,t1,t2,t3⟩:Ad)):=FnOk.up (ok_Place___init__ (P:=l.prog) (w:=w) (base:=base) B C_check_names F14)
  have CC_Place:CalC l.prog w K mg base "Place" cPlace ["self","names"] 4 (sp_Place___init__ K (⟨cHappening,cFit,cAny,cKind,cPlace,cLeast,cNot,cBoth,cEither,cWay,cHour,cNever,cRaised,cLine,cWishes,t0,t1,t2,t3⟩:Ad)):=⟨_,_,G_Place___init__,b14,⟨mkPlace,a14,i14,kcPlace⟩,B.Place⟩
  have G_Hour___init__:FnOk l.prog w K mg base (CXF l.prog w) 4 f27 _ ["self","minute"] (sp_Hour___init__ K (⟨cHappening,cFit,cAny,cKind,cPlace,cLeast,cNot,cBoth,cEither,cWay,cHour,cNever,cRaised,cLine,cWishes,t0,t1,t2,t3⟩:Ad)):=FnOk.up (ok_Hour___init__ (P:=l.prog) (w:=w) (base:=base) B C_check_minute_of_hour F27)
  have CC_Hour:CalC l.prog w K mg base "Hour" cHour ["self","minute"] 4 (sp_Hour___init__ K (⟨cHappening,cFit,cAny,cKind,cPlace,cLeast,cNot,cBoth,cEither,cWay,cHour,cNever,cRaised,cLine,cWishes,t0,t1,t2,t3⟩:Ad)):=⟨_,_,G_Hour___init__,b27,⟨mkHour,a27,i27,kcHour⟩,B.Hour⟩
  have G_Wishes_winning:FnOk l.prog w K mg base (CXF l.prog w) 4 f31 _ ["self","happening"] (sp_Wishes_winning K (⟨cHappening,cFit,cAny,cKind,cPlace,cLeast,cNot,cBoth,cEither,cWay,cHour,cNever,cRaised,cLine,cWishes,t0,t1,t2,t3⟩:Ad)):=FnOk.up (ok_Wishes_winning (P:=l.prog) (w:=w) (base:=base) B CM_fits_it F31)
  have C_law_gathered:CalX l.prog w K mg base "_law_gathered" ["_law_tree_here","_law_word"] 4 (sp_law_gathered K (⟨cHappening,cFit,cAny,cKind,cPlace,cLeast,cNot,cBoth,cEither,cWay,cHour,cNever,cRaised,cLine,cWishes,t0,t1,t2,t3⟩:Ad) 4):=rec_cal (spf:=sp_law_gathered K (⟨cHappening,cFit,cAny,cKind,cPlace,cLeast,cNot,cBoth,cEither,cWay,cHour,cNever,cRaised,cLine,cWishes,t0,t1,t2,t3⟩:Ad)) (n0:=0) sp0_law_gathered b43 k43 (PySem.W.mg_of X G a43) (fun d n hn C=>FnOk.up (ok_law_gathered (P:=l.prog) (w:=w) (base:=base) hn B C F43)) 4 (by decide)
  have G_law_due:FnOk l.prog w K mg base (CXF l.prog w) 4 f48 _ ["_law_trees","_law_order","_law_thing"] (sp_law_due K (⟨cHappening,cFit,cAny,cKind,cPlace,cLeast,cNot,cBoth,cEither,cWay,cHour,cNever,cRaised,cLine,cWishes,t0,t1,t2,t3⟩:Ad)):=FnOk.up (ok_law_due (P:=l.prog) (w:=w) (base:=base) B C_law_fits F48)
  have C_law_due:CalX l.prog w K mg base "_law_due" ["_law_trees","_law_order","_law_thing"] 4 (sp_law_due K (⟨cHappening,cFit,cAny,cKind,cPlace,cLeast,cNot,cBoth,cEither,cWay,cHour,cNever,cRaised,cLine,cWishes,t0,t1,t2,t3⟩:Ad)):=⟨_,_,G_law_due,b48,k48,PySem.W.mg_of X G a48⟩
  have G_check_quiet:FnOk l.prog w K mg base (CXF l.prog w) 5 f6 _ ["quiet"] (sp_check_quiet K (⟨cHappening,cFit,cAny,cKind,cPlace,cLeast,cNot,cBoth,cEither,cWay,cHour,cNever,cRaised,cLine,cWishes,t0,t1,t2,t3⟩:Ad)):=FnOk.up (ok_check_quiet (P:=l.prog) (w:=w) (base:=base) B C_is_quiet_hours F6)
  have C_check_quiet:CalX l.prog w K mg base "check_quiet" ["quiet"] 5 (sp_check_quiet K (⟨cHappening,cFit,cAny,cKind,cPlace,cLeast,cNot,cBoth,cEither,cWay,cHour,cNever,cRaised,cLine,cWishes,t0,t1,t2,t3⟩:Ad)):=⟨_,_,G_check_quiet,b6,k6,PySem.W.mg_of X G a6⟩
  have CM_winning:∀ C sp,Mm_winning K (⟨cHappening,cFit,cAny,cKind,cPlace,cLeast,cNot,cBoth,cEither,cWay,cHour,cNever,cRaised,cLine,cWishes,t0,t1,t2,t3⟩:Ad) C sp→CalM l.prog w K mg base C "winning" ["self","happening"] 4 sp:=by
    rintro C sp ⟨rfl,rfl⟩
    exact ⟨⟨_,_,FnOk.lift G_Wishes_winning (by decide),b31,⟨a31,i31,k31⟩,B.ck_Wishes.cl⟩⟩
  have G_Wishes_line_for:FnOk l.prog w K mg base (CXF l.prog w) 5 f32 _ ["self","happening"] (sp_Wishes_line_for K (⟨cHappening,cFit,cAny,cKind,cPlace,cLeast,cNot,cBoth,cEither,cWay,cHour,cNever,cRaised,cLine,cWishes,t0,t1,t2,t3⟩:Ad)):=FnOk.up (ok_Wishes_line_for (P:=l.prog) (w:=w) (base:=base) B CM_winning F32)
  have G_law_things:FnOk l.prog w K mg base (CXF l.prog w) 5 f45 _ ["_law_script","_law_trees"] (sp_law_things K (⟨cHappening,cFit,cAny,cKind,cPlace,cLeast,cNot,cBoth,cEither,cWay,cHour,cNever,cRaised,cLine,cWishes,t0,t1,t2,t3⟩:Ad)):=FnOk.up (ok_law_things (P:=l.prog) (w:=w) (base:=base) B C_law_gathered C_law_begin C_law_pick C_law_next F45)
  have C_law_things:CalX l.prog w K mg base "_law_things" ["_law_script","_law_trees"] 5 (sp_law_things K (⟨cHappening,cFit,cAny,cKind,cPlace,cLeast,cNot,cBoth,cEither,cWay,cHour,cNever,cRaised,cLine,cWishes,t0,t1,t2,t3⟩:Ad)):=⟨_,_,G_law_things,b45,k45,PySem.W.mg_of X G a45⟩
  have G_Wishes___init__:FnOk l.prog w K mg base (CXF l.prog w) 6 f30 _ ["self","zone","quiet","wake","lines"] (sp_Wishes___init__ K (⟨cHappening,cFit,cAny,cKind,cPlace,cLeast,cNot,cBoth,cEither,cWay,cHour,cNever,cRaised,cLine,cWishes,t0,t1,t2,t3⟩:Ad)):=FnOk.up (ok_Wishes___init__ (P:=l.prog) (w:=w) (base:=base) B C_check_zone C_check_quiet C_check_wake C_check_lines F30)
  have CD_Wishes_4:CalD l.prog w K mg base "Wishes" cWishes ["self","zone","quiet","wake","lines"] 6 [] (sp_Wishes___init__ K (⟨cHappening,cFit,cAny,cKind,cPlace,cLeast,cNot,cBoth,cEither,cWay,cHour,cNever,cRaised,cLine,cWishes,t0,t1,t2,t3⟩:Ad)):=⟨_,_,_,G_Wishes___init__,b30_4,.nil,⟨mkWishes,a30,i30,kcWishes⟩,B.Wishes⟩
  have C_law_tree:CalX l.prog w K mg base "_law_tree" ["_law_state","_law_deep","_law_more"] 6 (sp_law_tree K (⟨cHappening,cFit,cAny,cKind,cPlace,cLeast,cNot,cBoth,cEither,cWay,cHour,cNever,cRaised,cLine,cWishes,t0,t1,t2,t3⟩:Ad) 3):=rec_cal (spf:=sp_law_tree K (⟨cHappening,cFit,cAny,cKind,cPlace,cLeast,cNot,cBoth,cEither,cWay,cHour,cNever,cRaised,cLine,cWishes,t0,t1,t2,t3⟩:Ad)) (n0:=3) sp0_law_tree b40 k40 (PySem.W.mg_of X G a40) (fun d n hn C=>FnOk.up (ok_law_tree (P:=l.prog) (w:=w) (base:=base) hn B C_law_next C_law_leaf C F40)) 3 (by decide)
  have CM_line_for:∀ C sp,Mm_line_for K (⟨cHappening,cFit,cAny,cKind,cPlace,cLeast,cNot,cBoth,cEither,cWay,cHour,cNever,cRaised,cLine,cWishes,t0,t1,t2,t3⟩:Ad) C sp→CalM l.prog w K mg base C "line_for" ["self","happening"] 5 sp:=by
    rintro C sp ⟨rfl,rfl⟩
    exact ⟨⟨_,_,FnOk.lift G_Wishes_line_for (by decide),b32,⟨a32,i32,k32⟩,B.ck_Wishes.cl⟩⟩
  have G_law_right:FnOk l.prog w K mg base (CXF l.prog w) 6 f49 _ ["_law_wishes","_law_trees","_law_order","_law_never","_law_thing","_law_turned"] (sp_law_right K (⟨cHappening,cFit,cAny,cKind,cPlace,cLeast,cNot,cBoth,cEither,cWay,cHour,cNever,cRaised,cLine,cWishes,t0,t1,t2,t3⟩:Ad)):=FnOk.up (ok_law_right (P:=l.prog) (w:=w) (base:=base) B C_law_due CC_Happening C_law_number CM_winning CM_line_for F49)
  have C_law_right:CalX l.prog w K mg base "_law_right" ["_law_wishes","_law_trees","_law_order","_law_never","_law_thing","_law_turned"] 6 (sp_law_right K (⟨cHappening,cFit,cAny,cKind,cPlace,cLeast,cNot,cBoth,cEither,cWay,cHour,cNever,cRaised,cLine,cWishes,t0,t1,t2,t3⟩:Ad)):=⟨_,_,G_law_right,b49,k49,PySem.W.mg_of X G a49⟩
  have C_law_made:CalX l.prog w K mg base "_law_made" ["_law_tree_here"] 8 (sp_law_made K (⟨cHappening,cFit,cAny,cKind,cPlace,cLeast,cNot,cBoth,cEither,cWay,cHour,cNever,cRaised,cLine,cWishes,t0,t1,t2,t3⟩:Ad) 3):=rec_cal (spf:=sp_law_made K (⟨cHappening,cFit,cAny,cKind,cPlace,cLeast,cNot,cBoth,cEither,cWay,cHour,cNever,cRaised,cLine,cWishes,t0,t1,t2,t3⟩:Ad)) (n0:=5) sp0_law_made b41 k41 (PySem.W.mg_of X G a41) (fun d n hn C=>FnOk.up (ok_law_made (P:=l.prog) (w:=w) (base:=base) hn B CC_Either CC_Kind CC_Place CC_Least CC_Not CC_Both C F41)) 3 (by decide)
  have G_law_lines:FnOk l.prog w K mg base (CXF l.prog w) 9 f46 _ ["_law_trees","_law_never"] (sp_law_lines K (⟨cHappening,cFit,cAny,cKind,cPlace,cLeast,cNot,cBoth,cEither,cWay,cHour,cNever,cRaised,cLine,cWishes,t0,t1,t2,t3⟩:Ad)):=FnOk.up (ok_law_lines (P:=l.prog) (w:=w) (base:=base) B CD_Line_3 C_law_made CC_Hour F46)
  have C_law_lines:CalX l.prog w K mg base "_law_lines" ["_law_trees","_law_never"] 9 (sp_law_lines K (⟨cHappening,cFit,cAny,cKind,cPlace,cLeast,cNot,cBoth,cEither,cWay,cHour,cNever,cRaised,cLine,cWishes,t0,t1,t2,t3⟩:Ad)):=⟨_,_,G_law_lines,b46,k46,PySem.W.mg_of X G a46⟩
  exact ok_law (P:=l.prog) (w:=w) (base:=base) B C_law_begin C_law_next C_law_lines CD_Wishes_4 C_law_things C_law_cell_at C_law_tree C_law_right F50
theorem walk {l:PySem.W.OpenLaw}{q:Program}{loose:List Str}{XP:(Str→Option Value)→Heap→Prop}{YP:World→Heap→Prop}{d:DefRec}{K:Params→PySem.W.Frag}(hn:l.most=some 63) (hdf:d.params.defaults=[])
    (hY:∀ (w:World) (h:Heap),YP w h→(K w.params).In h)
    (F:∀ (w:World) (mg:Str→Option Value) (fa:Addr) (h:Heap),(K w.params).In h→h.Ns mainGlobals mg→mg d.name=some (.ref fa) →
      ∃ fd:FuncData,(∀ (s:Shared) (u:Value),BindsTo s fd ⟨[u],[]⟩ [("_law_script",u)])∧∀ base:Heap,(K w.params).In base→base.Ns mainGlobals mg→FnOk l.prog w (K w.params) mg base CX0 10 fa fd ["_law_script"] (spL (K w.params))) :
    PySem.W.WalkO q loose XP YP l.row.toRowW d [] (fun f vs=>PySem.call f vs) :=
  L2.walk_of (n:=63) (k:=10) (x:="_law_script") (CX:=fun _=>CX0) (sp:=fun w=>spL (K w.params)) hn (by decide) hdf ⟨rfl,by decide,by decide⟩ hY F (fun _ _ a ns hl _ hS=>⟨a,ns,rfl,hS,hl,fun _=>rfl⟩) fun _ _ _ _ _ z=>z
theorem all_mk2 {P:Program}{w:World}{K:PySem.W.Frag}{mg:Str→Option Value}{fa:Addr}(h:∃ (a:Ad) (fd:FuncData),(∀ (s:Shared) (v:Value),BindsTo s fd ⟨[v],[]⟩ [("_law_script",v)])∧∀ base:Heap,K.In base→base.Ns mainGlobals mg→FnOk P w K mg base CX0 10 fa fd ["_law_script"] (sp_law K a)) :
    ∃ fd:FuncData,(∀ (s:Shared) (v:Value),BindsTo s fd ⟨[v],[]⟩ [("_law_script",v)])∧∀ base:Heap,K.In base→base.Ns mainGlobals mg→FnOk P w K mg base CX0 10 fa fd ["_law_script"] (spL K):=by
  obtain ⟨a,fd,b,q⟩:=h
  exact ⟨fd,b,fun base x y=>q base x y⟩
end Bw
open PySem PySem.W PyProof.Rows
set_option maxRecDepth 100000 in
set_option maxHeartbeats 0 in
theorem PySem.Challenge.cw_bellsaway_k14_the_line_that_wins_holds : PySem.Challenge.rw_bellsaway_k14_the_line_that_wins.Holds := by
  w_on; o_law; k_head; (case hw=>w_witness2)
  k_fill
  refine Bw.walk (l:=PySem.Challenge.rw_bellsaway_k14_the_line_that_wins) rfl rfl (fun w h Y=>PySem.W.kIn_of Y) ?F
  case F =>
    intro w mg fa h KX G hmg
    refine Bw.all_mk2 ?Z
    refine' Bw.all_mk KX G hmg ?a0 ?l0 ?c0 ?k0 ?a1 ?l1 ?c1 ?k1 ?a2 ?l2 ?c2 ?k2 ?a3 ?l3 ?c3 ?k3 ?a4 ?l4 ?c4 ?k4 ?a5 ?l5 ?c5 ?k5 ?a6 ?l6 ?c6 ?k6 ?a7 ?l7 ?c7 ?k7 ?a8 ?l8 ?c8 ?k8 ?a9 ?i9 ?l9 ?c9 ?k9 ?a10 ?l10 ?c10 ?k10 ?a11 ?i11 ?l11 ?c11 ?k11 ?a12 ?i12 ?l12 ?c12 ?k12 ?a13 ?i13 ?l13 ?c13 ?k13 ?a14 ?i14 ?l14 ?c14 ?k14 ?a15 ?i15 ?l15 ?c15 ?k15 ?a16 ?i16 ?l16 ?c16 ?k16 ?a17 ?i17 ?l17 ?c17 ?k17 ?a18 ?i18 ?l18 ?c18 ?k18 ?a19 ?i19 ?l19 ?c19 ?k19 ?a20 ?i20 ?l20 ?c20 ?k20 ?a21 ?i21 ?l21 ?c21 ?k21 ?a22 ?i22 ?l22 ?c22 ?k22 ?a23 ?i23 ?l23 ?c23 ?k23 ?a24 ?l24 ?c24 ?k24 ?a25 ?l25 ?c25 ?k25 ?a26 ?l26 ?c26 ?k26 ?a27 ?i27 ?l27 ?c27 ?k27 ?a28 ?i28 ?l28 ?d28 ?c28 ?a29 ?l29 ?c29 ?k29 ?a30 ?i30 ?l30 ?d30 ?c30 ?a31 ?i31 ?l31 ?c31 ?k31 ?a32 ?i32 ?l32 ?c32 ?k32 ?a33 ?l33 ?c33 ?k33 ?a34 ?l34 ?c34 ?k34 ?a35 ?l35 ?c35 ?k35 ?a36 ?l36 ?c36 ?k36 ?a37 ?l37 ?c37 ?k37 ?a38 ?l38 ?c38 ?k38 ?a39 ?l39 ?c39 ?k39 ?a40 ?l40 ?c40 ?k40 ?a41 ?l41 ?c41 ?k41 ?a42 ?l42 ?c42 ?k42 ?a43 ?l43 ?c43 ?k43 ?a44 ?l44 ?c44 ?k44 ?a45 ?l45 ?c45 ?k45 ?a46 ?l46 ?c46 ?k46 ?a47 ?l47 ?c47 ?k47 ?a48 ?l48 ?c48 ?k48 ?a49 ?l49 ?c49 ?k49 ?a50 ?l50 ?c50 ?k50 ?y0 ?y1 ?y2 ?y3 ?y4 ?y5 ?y6 ?y7 ?y8 ?y9 ?y10 ?y11 ?y12 ?y13 ?y14 ?y15 ?y16 ?y17 ?y18 ?y19 ?y20 ?y21 ?y22 ?y23 ?y24 ?y25 ?y26 ?y27 ?y28 ?y29 ?y30 ?y31 ?y32_0 ?y32_1 ?y32_2 ?y32_3 ?y32_4 ?y32_5 ?y32_6 ?y32_7 ?y33_0 ?y33_1 ?y33_2 ?y33_3 ?y33_4 ?y33_5 ?y33_6 ?y33_7 ?y34 ?y35_0 ?y35_1 ?y35_2 ?y35_3 ?y35_4 ?y35_5 ?y35_6 ?y35_7 ?y36 ?y37_0 ?y37_1 ?y37_2 ?y37_3 ?y37_4 ?y37_5 ?y37_6 ?y37_7 ?y38 ?y39_0 ?y39_1 ?y39_2 ?y39_3 ?y39_4 ?y39_5 ?y39_6 ?y39_7 ?y40 ?y41_0 ?y41_1 ?y41_2 ?y41_3 ?y41_4 ?y41_5 ?y41_6 ?y41_7 ?y42 ?y43_0 ?y43_1 ?y43_2 ?y43_3 ?y43_4 ?y43_5 ?y43_6 ?y43_7 ?y44 ?y45_0 ?y45_1 ?y45_2 ?y45_3 ?y45_4 ?y45_5 ?y45_6 ?y45_7 ?y46 ?y47 ?y48 ?y49 ?y50 ?y51 ?y52 ?y53 ?y54 ?y55 ?y56_0 ?y56_1 ?y56_2 ?y57_0 ?y57_1 ?y57_2 ?y57_3 ?y57_4 ?y57_5 ?y57_6 ?y57_7 ?y58 ?y59_0 ?y59_1 ?y59_2 ?y59_3 ?y59_4 ?y59_5 ?y59_6 ?y59_7 ?y60_0 ?y60_1 ?y60_2 ?y60_3 ?y60_4 ?y60_5 ?y60_6 ?y60_7 ?y61 ?y62 ?y63 ?y64 ?y65 ?y66_0 ?y66_1 ?y66_2 ?y66_3 ?y66_4 ?y66_5 ?y66_6 ?y66_7 ?y67 ?y68 ?y69 ?y70 ?y71 ?y72 ?y73 ?y74 ?y75 ?y76_0 ?y76_1 ?y76_2 ?mkHappening ?kcHappening ?mkKind ?kcKind ?mkPlace ?kcPlace ?mkLeast ?kcLeast ?mkNot ?kcNot ?mkBoth ?kcBoth ?mkEither ?kcEither ?mkHour ?kcHour ?mkLine ?kcLine ?mkWishes ?kcWishes
    (case y0=>k_is)
    (case y1=>k_is)
    (case y2=>k_is)
    (case y3=>k_is)
    (case y4=>k_is)
    (case y5=>k_is)
    (case y6=>k_is)
    (case y7=>k_is)
    (case y8=>k_is)
    (case y9=>k_is)
    (case y10=>k_is)
    (case y11=>k_is)
    (case y12=>k_is)
    (case y13=>k_is)
    (case y14=>k_is)
    (case y15=>k_is)
    (case y16=>k_is)
    (case y17=>k_is)
    (case y18=>k_is)
    (case y19=>k_is)
    (case y20=>k_is)
    (case y21=>k_is)
    (case y22=>k_is)
    (case y23=>k_is)
    (case y24=>k_is)
    (case y25=>k_is)
    (case y26=>k_is)
    (case y27=>k_is)
    (case y28=>k_is)
    (case y29=>k_is)
    (case y30=>k_is)
    (case y31=>k_is)
    (case a0=>k_is)
    (case l0=>k_is)
    (case c0=>k_is)
    (case k0=>k_is)
    (case a1=>k_is)
    (case l1=>k_is)
    (case c1=>k_is)
    (case k1=>k_is)
    (case a2=>k_is)
    (case l2=>k_is)
    (case c2=>k_is)
    (case k2=>k_is)
    (case a3=>k_is)
    (case l3=>k_is)
    (case c3=>k_is)
    (case k3=>k_is)
    (case a4=>k_is)
    (case l4=>k_is)
    (case c4=>k_is)
    (case k4=>k_is)
    (case a5=>k_is)
    (case l5=>k_is)
    (case c5=>k_is)
    (case k5=>k_is)
    (case a6=>k_is)
    (case l6=>k_is)
    (case c6=>k_is)
    (case k6=>k_is)
    (case a7=>k_is)
    (case l7=>k_is)
    (case c7=>k_is)
    (case k7=>k_is)
    (case a8=>k_is)
    (case l8=>k_is)
    (case c8=>k_is)
    (case k8=>k_is)
    (case a9=>k_is)
    (case i9=>k_is)
    (case l9=>k_is)
    (case c9=>k_is)
    (case k9=>k_is)
    (case a10=>k_is)
    (case l10=>k_is)
    (case c10=>k_is)
    (case k10=>k_is)
    (case a11=>k_is)
    (case i11=>k_is)
    (case l11=>k_is)
    (case c11=>k_is)
    (case k11=>k_is)
    (case a12=>k_is)
    (case i12=>k_is)
    (case l12=>k_is)
    (case c12=>k_is)
    (case k12=>k_is)
    (case a13=>k_is)
    (case i13=>k_is)
    (case l13=>k_is)
    (case c13=>k_is)
    (case k13=>k_is)
    (case a14=>k_is)
    (case i14=>k_is)
    (case l14=>k_is)
    (case c14=>k_is)
    (case k14=>k_is)
    (case a15=>k_is)
    (case i15=>k_is)
    (case l15=>k_is)
    (case c15=>k_is)
    (case k15=>k_is)
    (case a16=>k_is)
    (case i16=>k_is)
    (case l16=>k_is)
    (case c16=>k_is)
    (case k16=>k_is)
    (case a17=>k_is)
    (case i17=>k_is)
    (case l17=>k_is)
    (case c17=>k_is)
    (case k17=>k_is)
    (case a18=>k_is)
    (case i18=>k_is)
    (case l18=>k_is)
    (case c18=>k_is)
    (case k18=>k_is)
    (case a19=>k_is)
    (case i19=>k_is)
    (case l19=>k_is)
    (case c19=>k_is)
    (case k19=>k_is)
    (case a20=>k_is)
    (case i20=>k_is)
    (case l20=>k_is)
    (case c20=>k_is)
    (case k20=>k_is)
    (case a21=>k_is)
    (case i21=>k_is)
    (case l21=>k_is)
    (case c21=>k_is)
    (case k21=>k_is)
    (case a22=>k_is)
    (case i22=>k_is)
    (case l22=>k_is)
    (case c22=>k_is)
    (case k22=>k_is)
    (case a23=>k_is)
    (case i23=>k_is)
    (case l23=>k_is)
    (case c23=>k_is)
    (case k23=>k_is)
    (case a24=>k_is)
    (case l24=>k_is)
    (case c24=>k_is)
    (case k24=>k_is)
    (case a25=>k_is)
    (case l25=>k_is)
    (case c25=>k_is)
    (case k25=>k_is)
    (case a26=>k_is)
    (case l26=>k_is)
    (case c26=>k_is)
    (case k26=>k_is)
    (case a27=>k_is)
    (case i27=>k_is)
    (case l27=>k_is)
    (case c27=>k_is)
    (case k27=>k_is)
    (case a28=>k_is)
    (case i28=>k_is)
    (case l28=>k_is)
    (case d28=>k_is)
    (case c28=>k_is)
    (case a29=>k_is)
    (case l29=>k_is)
    (case c29=>k_is)
    (case k29=>k_is)
    (case a30=>k_is)
    (case i30=>k_is)
    (case l30=>k_is)
    (case d30=>k_is)
    (case c30=>k_is)
    (case a31=>k_is)
    (case i31=>k_is)
    (case l31=>k_is)
    (case c31=>k_is)
    (case k31=>k_is)
    (case a32=>k_is)
    (case i32=>k_is)
    (case l32=>k_is)
    (case c32=>k_is)
    (case k32=>k_is)
    (case a33=>k_is)
    (case l33=>k_is)
    (case c33=>k_is)
    (case k33=>k_is)
    (case a34=>k_is)
    (case l34=>k_is)
    (case c34=>k_is)
    (case k34=>k_is)
    (case a35=>k_is)
    (case l35=>k_is)
    (case c35=>k_is)
    (case k35=>k_is)
    (case a36=>k_is)
    (case l36=>k_is)
    (case c36=>k_is)
    (case k36=>k_is)
    (case a37=>k_is)
    (case l37=>k_is)
    (case c37=>k_is)
    (case k37=>k_is)
    (case a38=>k_is)
    (case l38=>k_is)
    (case c38=>k_is)
    (case k38=>k_is)
    (case a39=>k_is)
    (case l39=>k_is)
    (case c39=>k_is)
    (case k39=>k_is)
    (case a40=>k_is)
    (case l40=>k_is)
    (case c40=>k_is)
    (case k40=>k_is)
    (case a41=>k_is)
    (case l41=>k_is)
    (case c41=>k_is)
    (case k41=>k_is)
    (case a42=>k_is)
    (case l42=>k_is)
    (case c42=>k_is)
    (case k42=>k_is)
    (case a43=>k_is)
    (case l43=>k_is)
    (case c43=>k_is)
    (case k43=>k_is)
    (case a44=>k_is)
    (case l44=>k_is)
    (case c44=>k_is)
    (case k44=>k_is)
    (case a45=>k_is)
    (case l45=>k_is)
    (case c45=>k_is)
    (case k45=>k_is)
    (case a46=>k_is)
    (case l46=>k_is)
    (case c46=>k_is)
    (case k46=>k_is)
    (case a47=>k_is)
    (case l47=>k_is)
    (case c47=>k_is)
    (case k47=>k_is)
    (case a48=>k_is)
    (case l48=>k_is)
    (case c48=>k_is)
    (case k48=>k_is)
    (case a49=>k_is)
    (case l49=>k_is)
    (case c49=>k_is)
    (case k49=>k_is)
    (case a50=>k_is)
    (case l50=>k_is)
    (case c50=>k_is)
    (case k50=>k_is)
    (case y32_0=>k_is)
    (case y32_1=>k_is)
    (case y32_2=>k_is)
    (case y32_3=>k_is)
    (case y32_4=>k_is)
    (case y32_5=>k_is)
    (case y32_6=>k_is)
    (case y32_7=>k_is)
    (case y33_0=>k_is)
    (case y33_1=>k_is)
    (case y33_2=>k_is)
    (case y33_3=>k_is)
    (case y33_4=>k_is)
    (case y33_5=>k_is)
    (case y33_6=>k_is)
    (case y33_7=>k_is)
    (case y34=>k_is)
    (case y35_0=>k_is)
    (case y35_1=>k_is)
    (case y35_2=>k_is)
    (case y35_3=>k_is)
    (case y35_4=>k_is)
    (case y35_5=>k_is)
    (case y35_6=>k_is)
    (case y35_7=>k_is)
    (case y36=>k_is)
    (case y37_0=>k_is)
    (case y37_1=>k_is)
    (case y37_2=>k_is)
    (case y37_3=>k_is)
    (case y37_4=>k_is)
    (case y37_5=>k_is)
    (case y37_6=>k_is)
    (case y37_7=>k_is)
    (case y38=>k_is)
    (case y39_0=>k_is)
    (case y39_1=>k_is)
    (case y39_2=>k_is)
    (case y39_3=>k_is)
    (case y39_4=>k_is)
    (case y39_5=>k_is)
    (case y39_6=>k_is)
    (case y39_7=>k_is)
    (case y40=>k_is)
    (case y41_0=>k_is)
    (case y41_1=>k_is)
    (case y41_2=>k_is)
    (case y41_3=>k_is)
    (case y41_4=>k_is)
    (case y41_5=>k_is)
    (case y41_6=>k_is)
    (case y41_7=>k_is)
    (case y42=>k_is)
    (case y43_0=>k_is)
    (case y43_1=>k_is)
    (case y43_2=>k_is)
    (case y43_3=>k_is)
    (case y43_4=>k_is)
    (case y43_5=>k_is)
    (case y43_6=>k_is)
    (case y43_7=>k_is)
    (case y44=>k_is)
    (case y45_0=>k_is)
    (case y45_1=>k_is)
    (case y45_2=>k_is)
    (case y45_3=>k_is)
    (case y45_4=>k_is)
    (case y45_5=>k_is)
    (case y45_6=>k_is)
    (case y45_7=>k_is)
    (case y46=>k_is)
    (case y47=>k_is)
    (case y48=>k_is)
    (case y49=>kit_is)
    (case y50=>kit_is)
    (case y51=>kit_is)
    (case y52=>kit_is)
    (case y53=>kit_is)
    (case y54=>kit_is)
    (case y55=>kit_is)
    (case y56_0=>k_is)
    (case y56_1=>k_is)
    (case y56_2=>k_is)
    (case y57_0=>k_is)
    (case y57_1=>k_is)
    (case y57_2=>k_is)
    (case y57_3=>k_is)
    (case y57_4=>k_is)
    (case y57_5=>k_is)
    (case y57_6=>k_is)
    (case y57_7=>k_is)
    (case y58=>k_is)
    (case y59_0=>k_is)
    (case y59_1=>k_is)
    (case y59_2=>k_is)
    (case y59_3=>k_is)
    (case y59_4=>k_is)
    (case y59_5=>k_is)
    (case y59_6=>k_is)
    (case y59_7=>k_is)
    (case y60_0=>k_is)
    (case y60_1=>k_is)
    (case y60_2=>k_is)
    (case y60_3=>k_is)
    (case y60_4=>k_is)
    (case y60_5=>k_is)
    (case y60_6=>k_is)
    (case y60_7=>k_is)
    (case y61=>k_is)
    (case y62=>k_is)
    (case y63=>k_is)
    (case y64=>k_is)
    (case y65=>k_is)
    (case y66_0=>k_is)
    (case y66_1=>k_is)
    (case y66_2=>k_is)
    (case y66_3=>k_is)
    (case y66_4=>k_is)
    (case y66_5=>k_is)
    (case y66_6=>k_is)
    (case y66_7=>k_is)
    (case y67=>k_is)
    (case y68=>k_is)
    (case y69=>k_is)
    (case y70=>k_is)
    (case y71=>kit_is)
    (case y72=>kit_is)
    (case y73=>kit_is)
    (case y74=>kit_is)
    (case y75=>kit_is)
    (case y76_0=>k_is)
    (case y76_1=>k_is)
    (case y76_2=>k_is)
    (case mkHappening=>k_is)
    (case kcHappening=>k_is)
    (case mkKind=>k_is)
    (case kcKind=>k_is)
    (case mkPlace=>k_is)
    (case kcPlace=>k_is)
    (case mkLeast=>k_is)
    (case kcLeast=>k_is)
    (case mkNot=>k_is)
    (case kcNot=>k_is)
    (case mkBoth=>k_is)
    (case kcBoth=>k_is)
    (case mkEither=>k_is)
    (case kcEither=>k_is)
    (case mkHour=>k_is)
    (case kcHour=>k_is)
    (case mkLine=>k_is)
    (case kcLine=>k_is)
    (case mkWishes=>k_is)
    (case kcWishes=>k_is)
