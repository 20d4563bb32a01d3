import PyProof.Rows.All
import Wide.All
import OpenK.AllK
import Wide.FinOn
import Lean
import PyProof.EqAt
import PyProof.EqKinds
import PyProof.TupleCall
import PySem.Challenge.RW_bellsaway_k16_fits_as_texts
set_option Elab.async false
set_option linter.all false
set_option maxRecDepth 100000
namespace L2
open PySem PySem.Spec PyProof.Rows PySem.W
abbrev Key:=Sum Int Str
def AP6:Key→Value→Bool
 | .inl k,v=>Value.isInt k v
 | .inr x,v=>Value.isStrOf x v
def BF2 (w:World):Key→Int
 | .inl k=>hashInt k
 | .inr x=>hashStr w x
theorem cM:∀ {k:Key}{v:Value},AP6 k v=true→(∃ i t,k=Sum.inl i∧v=Value.int i t)∨(∃ x t,k=Sum.inr x∧v=Value.str x t)
 | .inl i,v,h=>by
  obtain ⟨t,e⟩:=Value.isInt_shape (k:=i) (v:=v) h
  exact .inl ⟨i,t,rfl,e⟩
 | .inr x,v,h=>by
  obtain ⟨t,e⟩:=Value.isStrOf_shape (x:=x) (v:=v) h
  exact .inr ⟨x,t,rfl,e⟩
theorem AP7 (a b:Int):decide ((Sum.inl a:Key)=Sum.inl b)=(a == b):=by
 by_cases e:a=b
 ·subst e; simp
 ·have h:¬ (Sum.inl a:Key)=Sum.inl b:=fun q=>e (Sum.inl.inj q)
  rw [decide_eq_false h]
  exact (beq_eq_false_iff_ne.mpr e).symm
theorem AP8 (a b:Str):decide ((Sum.inr a:Key)=Sum.inr b)=decide (a=b):=by
 by_cases e:a=b
 ·subst e; simp
 ·have h:¬ (Sum.inr a:Key)=Sum.inr b:=fun q=>e (Sum.inr.inj q)
  rw [decide_eq_false h,decide_eq_false e]
theorem AP9 (a:Int) (b:Str):decide ((Sum.inl a:Key)=Sum.inr b)=false:=decide_eq_false (fun q=>nomatch q)
theorem AQ0 (a:Str) (b:Int):decide ((Sum.inr a:Key)=Sum.inl b)=false:=decide_eq_false (fun q=>nomatch q)
def wG (prog:Program) (w:World):PySem.KeyKind prog w Key where
 is:=AP6
 hash:=BF2 w
 inj:=fun v a b ha hb=>by
  rcases cM ha with ⟨i,t,rfl,rfl⟩ | ⟨x,t,rfl,rfl⟩
  ·rcases cM hb with ⟨j,u,rfl,e⟩ | ⟨y,u,rfl,e⟩
   ·injection e with e1 _; rw [e1]
   ·exact nomatch e
  ·rcases cM hb with ⟨j,u,rfl,e⟩ | ⟨y,u,rfl,e⟩
   ·exact nomatch e
   ·injection e with e1 _; rw [e1]
 byValue:=fun k v h=>by
  rcases cM h with ⟨i,t,rfl,rfl⟩ | ⟨x,t,rfl,rfl⟩ <;> rfl
 pyHash:=fun hv h=>by
  rcases cM hv with ⟨i,t,rfl,rfl⟩ | ⟨x,t,rfl,rfl⟩
  ·exact wpAny_pyHash_int h
  ·exact wpAny_pyHash_str h
 eqBool:=fun hu hv h=>by
  rcases cM hu with ⟨i,t,rfl,rfl⟩ | ⟨x,t,rfl,rfl⟩
  ·rcases cM hv with ⟨j,u,rfl,rfl⟩ | ⟨y,u,rfl,rfl⟩
   ·rw [AP7] at h; exact wpAny_eqBool_int h
   ·rw [AP9] at h; exact SeqAt.EqAt.int_str i t y u _ _ _ _ h
  ·rcases cM hv with ⟨j,u,rfl,rfl⟩ | ⟨y,u,rfl,rfl⟩
   ·rw [AQ0] at h; exact SeqAt.EqAt.str_int x t j u _ _ _ _ h
   ·rw [AP8] at h; exact wpAny_eqBool_str h
 «strs»:=fun k x t v h=>by
  rcases cM h with ⟨i,u,rfl,e⟩ | ⟨y,u,rfl,e⟩
  ·exact nomatch e
  ·injection e with e1 _
   subst e1
   cases v <;> rfl
end L2
namespace L2
open PySem PySem.Spec PyProof.Rows PySem.W
inductive V where
 | non | bl (b:Bool) | int (i:Int) | str (x:Str) | byt (b:Array UInt8) | flt (b:UInt64) | ref (a:Addr) | ty (n:String)
 deriving DecidableEq
def RelV:V→Value→Prop
 | .non,u=>u=Value.none
 | .bl b,u=>u=Value.bool b
 | .int i,u=>∃ t,u=Value.int i t
 | .str x,u=>∃ t,u=Value.str x t
 | .byt b,u=>∃ t,u=Value.bytes b t
 | .flt b,u=>∃ t,u=Value.float b t
 | .ref a,u=>u=Value.ref a
 | .ty n,u=>u=Value.type n
abbrev Vals:List V→List Value→Prop:=Paired RelV
theorem Vals.length {xs:List V}{us:List Value}(r:Vals xs us):xs.length=us.length:=Paired.length r
theorem Vals.get:∀ {xs:List V}{us:List Value}{i:Nat}{x:V},Vals xs us→xs[i]?=some x→∃ u,us[i]?=some u∧RelV x u
 | _,_,_,_,.nil,e=>by simp at e
 | _,_,0,_,.cons r _,e=>by simp at e; subst e; exact ⟨_,rfl,r⟩
 | _,_,i+1,x,.cons _ t,e=>by
  obtain ⟨u,h1,h2⟩:=Vals.get (i:=i) (x:=x) t (by simpa using e)
  exact ⟨u,by simpa using h1,h2⟩
theorem Vals.set {x:V}{u:Value}(r:RelV x u):∀ {xs:List V}{us:List Value}(i:Nat),Vals xs us→Vals (xs.set i x) (us.set i u)
 | _,_,_,.nil=>.nil
 | _,_,0,.cons _ t=>.cons r t
 | _,_,i+1,.cons q t=>.cons q (Vals.set r i t)
theorem Vals.append:∀ {xs ys:List V}{us ws:List Value},Vals xs us→Vals ys ws→Vals (xs++ys) (us++ws)
 | _,_,_,_,.nil,s=>s
 | _,_,_,_,.cons r t,s=>.cons r (Vals.append t s)
theorem Vals.take:∀ {xs:List V}{us:List Value}(n:Nat),Vals xs us→Vals (xs.take n) (us.take n)
 | _,_,0,_=>.nil
 | _,_,_+1,.nil=>.nil
 | _,_,n+1,.cons r t=>.cons r (Vals.take n t)
theorem Vals.drop:∀ {xs:List V}{us:List Value}(n:Nat),Vals xs us→Vals (xs.drop n) (us.drop n)
 | _,_,0,r=>r
 | _,_,_+1,.nil=>.nil
 | _,_,n+1,.cons _ t=>Vals.drop n t
def RelO:Option V→Option Value→Prop
 | some v,some u=>RelV v u
 | none,none=>True
 | _,_=>False
def KV {κ:Type}:List (κ × V)→List (κ × Value)→Prop:=Paired fun (p:κ × V) (q:κ × Value)=>p.1=q.1∧RelV p.2 q.2
def kV:Key→V
 | .inl i=>.int i
 | .inr x=>.str x
inductive HO where
  | lst (xs:List V)
  | tup (xs:List V)
  | dK (kvs:List (Key × V)) | dT (kvs:List (List Key × V))
  | set (S:Int→Bool) (n:Nat)
  | ins (C dx:Addr) (fs:List (Str × V))
  | own (x:Addr)
  | xd (fs:List (Str × V))
  | met (f x:Addr)
  | rng (lo hi:Int)
  | frz (o:Obj) (u:HO)
  | tbl (ps:Array Value)
  | ext (φ:Heap→Prop)
abbrev Hp:=Addr→Option HO
def upd (H:Hp) (a:Addr) (o:HO):Hp:=fun b=>if b=a then some o else H b
theorem aB {H:Hp}{a:Addr}{o:HO}:upd H a o a=some o:=by unfold upd; rw [if_pos rfl]
theorem aK {H:Hp}{a b:Addr}{o:HO}(h:b≠a):upd H a o b=H b:=by unfold upd; rw [if_neg h]
theorem lU {H:Hp}{a b:Addr}{o u:HO}(h:H a=some o) (h':H b=some u) (d:o≠u):a≠b:=by
 intro e; subst e; rw [h] at h'; exact d (Option.some.inj h')
theorem aO {H:Hp}{a b:Addr}{o:HO}(h:H a=some o) (h':H b=none):a≠b:=by
 intro e; subst e; rw [h] at h'; cases h'
section
variable (P:Program) (w:World)
def ObjOk (H:Hp) (h:Heap) (a:Addr):HO→Prop
 | .lst xs=>xs.length≤sizeLine∧∃ (its:List Value) (n:Nat),Vals xs its∧h.get? a=some { cls:=.type "list",data:=.seq its.toArray n }
 | .tup xs=>xs.length≤sizeLine∧∃ its:List Value,Vals xs its∧IsTup h a its.toArray
 | .dK kvs=>kvs.length≤sizeLine∧(a == sysModules)=false∧∃ vs,KV kvs vs∧h.DictOf (wG P w) a vs
 | .dT kvs=>kvs.length≤sizeLine∧(a == sysModules)=false∧∃ xs:List (List Key × Addr × Value),
   Paired (fun (p:List Key × V) (q:List Key × Addr × Value)=>p.1=q.1∧H q.2.1=some (.tup (p.1.map kV))∧RelV p.2 q.2.2) kvs xs ∧
   ∃ o es ep,h.get? a=some o∧o.ExactDict∧o.data=.dict es ep∧es.toList=xs.map (entryOfKey (tupleKind (wG P w)))∧(xs.map (·.1)).Nodup
 | .set S n=>h.SetOf (intKind P w) a S n
 | .ins C dx fs=>H dx=some (.own a)∧fs.length≤1000∧dx≠a∧h.get? a=some (instObj C dx) ∧
   ∃ mA,h.Ns1 dx mA∧(∀ f,RelO (fs.lookup f) (mA f))∧PySem.Within mA (fs.map (·.1))
 | .own _=>∃ o,h.get? a=some o
 | .xd fs=>∃ mA,h.Ns1 a mA∧∀ f,RelO (fs.lookup f) (mA f)
 | .rng lo hi=>∃ t u v,h.get? a=some { cls:=.type "range",data:=.fields #[.int lo t,.int hi u,.int 1 v] }
 | .frz o u=>h.get? a=some o∧ObjOk H h a u
 | .tbl ps=>h.get? a=some { cls:=.none,data:=.fields ps }
 | .met f x=>h.get? a=some (methodObj (.ref f) (.ref x))
 | .ext φ=>φ h∧(∃ o,h.get? a=some o)∧∀ h1 h2:Heap,φ h1→(∀ o,h1.get? a=some o→h2.get? a=some o)→φ h2
def HOk (H:Hp) (h:Heap):Prop:=∀ a o,H a=some o→ObjOk P w H h a o
end
section
variable {P:Program}{w:World}{H H':Hp}{h h':Heap}{a:Addr}{o:HO}
theorem ObjOk.lt (x:ObjOk P w H h a o):a < h.objs.size:=by
 cases o with
 | lst xs=>obtain ⟨_,_,_,_,e⟩:=x; exact Heap.lt_size e
 | tup xs=>obtain ⟨_,_,_,p⟩:=x; exact p.lt
 | dK kvs=>obtain ⟨_,_,_,_,o,_,_,e,_⟩:=x; exact Heap.lt_size e
 | dT kvs=>obtain ⟨_,_,_,_,o,_,_,e,_⟩:=x; exact Heap.lt_size e
 | set S n=>obtain ⟨o,_,_,_,e,_⟩:=x; exact Heap.lt_size e
 | ins C dx fs=>obtain ⟨_,_,_,e,_⟩:=x; exact Heap.lt_size e
 | own y=>obtain ⟨_,e⟩:=x; exact Heap.lt_size e
 | xd fs=>obtain ⟨_,⟨_,_,_,e,_⟩,_⟩:=x; exact Heap.lt_size e
 | rng lo hi=>obtain ⟨_,_,_,e⟩:=x; exact Heap.lt_size e
 | frz ob u=>obtain ⟨e,_⟩:=x; exact Heap.lt_size e
 | tbl ps=>exact Heap.lt_size (show h.get? a=some _ from x)
 | met f y=>exact Heap.lt_size (show h.get? a=some _ from x)
 | ext φ=>obtain ⟨_,⟨_,e⟩,_⟩:=x; exact Heap.lt_size e
theorem Paired.mapP {α β:Type}{F G:α→β→Prop}:∀ {l₁:List α}{l₂:List β},Paired F l₁ l₂→(∀ a b,F a b→G a b)→Paired G l₁ l₂
 | _,_,.nil,_=>.nil
 | _,_,.cons r t,f=>.cons (f _ _ r) (Paired.mapP t f)
theorem ObjOk.stay (x:ObjOk P w H h a o) (k:∀ b u,(b=a∨H b=some (.own a))→h.get? b=some u→h'.get? b=some u)
  (ho:∀ b,H b=some (.own a)→H' b=some (.own a)) (ht:∀ b xs,H b=some (.tup xs)→H' b=some (.tup xs)):ObjOk P w H' h' a o:=by
 induction o with
 | lst xs=>obtain ⟨z,its,n,r,e⟩:=x; exact ⟨z,its,n,r,k _ _ (.inl rfl) e⟩
 | tup xs=>obtain ⟨z,its,r,ob,e,c⟩:=x; exact ⟨z,its,r,ob,k _ _ (.inl rfl) e,c⟩
 | dK kvs=>obtain ⟨z,y,vs,r,ob,es,ep,e,c⟩:=x; exact ⟨z,y,vs,r,ob,es,ep,k _ _ (.inl rfl) e,c⟩
 | dT kvs =>
  obtain ⟨z,y,xs,r,ob,es,ep,e,c⟩:=x
  exact ⟨z,y,xs,Paired.mapP r fun p q z=>⟨z.1,ht _ _ z.2.1,z.2.2⟩,ob,es,ep,k _ _ (.inl rfl) e,c⟩
 | set S n=>obtain ⟨ob,es,ep,t,e,c⟩:=x; exact ⟨ob,es,ep,t,k _ _ (.inl rfl) e,c⟩
 | ins C dx fs =>
  obtain ⟨d,z,ne,e,mA,⟨od,es,ep,e2,c⟩,r⟩:=x
  exact ⟨ho _ d,z,ne,k _ _ (.inl rfl) e,mA,⟨od,es,ep,k _ _ (.inr d) e2,c⟩,r⟩
 | own y=>obtain ⟨ob,e⟩:=x; exact ⟨ob,k _ _ (.inl rfl) e⟩
 | xd fs=>obtain ⟨mA,⟨od,es,ep,e,c⟩,r⟩:=x; exact ⟨mA,⟨od,es,ep,k _ _ (.inl rfl) e,c⟩,r⟩
 | rng lo hi=>obtain ⟨t,u,v,e⟩:=x; exact ⟨t,u,v,k _ _ (.inl rfl) e⟩
 | frz ob u ih=>obtain ⟨e,q⟩:=x; exact ⟨k _ _ (.inl rfl) e,ih q⟩
 | tbl ps =>
  have e:h.get? a=some { cls:=.none,data:=.fields ps }:=x
  show h'.get? a=some { cls:=.none,data:=.fields ps }
  exact k a _ (.inl rfl) e
 | met f y =>
  have e:h.get? a=some (methodObj (.ref f) (.ref y)):=x
  show h'.get? a=some (methodObj (.ref f) (.ref y))
  exact k a _ (.inl rfl) e
 | ext φ=>obtain ⟨p,⟨o,e⟩,st⟩:=x; exact ⟨st _ _ p fun o q=>k _ _ (.inl rfl) q,⟨o,k _ _ (.inl rfl) e⟩,st⟩
theorem HOk.lt (x:HOk P w H h) (e:H a=some o):a < h.objs.size:=(x a o e).lt
theorem HOk.fresh (x:HOk P w H h) (e:h.objs.size≤a):H a=none:=by
 cases q:H a with
 | none=>rfl
 | some u=>exact absurd (Nat.lt_of_lt_of_le (x.lt q) e) (Nat.lt_irrefl _)
theorem HOk.kept (x:HOk P w H h) (k:∀ b u,h.get? b=some u→h'.get? b=some u):HOk P w H h':=fun a o e =>
 (x a o e).stay (fun b u _ q=>k b u q) (fun _ q=>q) fun _ _ q=>q
theorem HOk.laid (x:HOk P w H h) (k:∀ b u,h.get? b=some u→h'.get? b=some u) (hp:h.objs.size≤a) (new:ObjOk P w (upd H a o) h' a o):HOk P w (upd H a o) h':=fun b u e=>by
 have hn:=x.fresh hp
 by_cases hb:b=a
 ·subst hb; rw [aB] at e; cases e; exact new
 ·rw [aK hb] at e
  exact (x b u e).stay (fun c v _ q=>k c v q) (fun c q=>by rw [aK (aO q hn)]; exact q) fun c xs q=>by rw [aK (aO q hn)]; exact q
end
def Rd (H:Hp) (a:Addr) (u:HO):Prop:=H a=some u∨∃ o,H a=some (.frz o u)
theorem Rd.of {H:Hp}{a:Addr}{u:HO}(h:H a=some u):Rd H a u:=.inl h
theorem Rd.ok {P:Program}{w:World}{H:Hp}{h:Heap}{a:Addr}{u:HO}(r:Rd H a u) (x:HOk P w H h):ObjOk P w H h a u:=by
 rcases r with r | ⟨o,r⟩
 ·exact x a u r
 ·obtain ⟨_,q⟩:=x a _ r
  exact q
def Mut:Option HO→Prop
 | some (.lst _)=>True
 | some (.dK _)=>True
 | some (.dT _)=>True
 | some (.set _ _)=>True
 | some (.ins _ _ _)=>True
 | some (.ext _)=>True
 | _=>False
section
variable {P:Program}{w:World}{H:Hp}{h h':Heap}{x e:Addr}{o':HO}
theorem HOk.write (ok:HOk P w H h) (mu:Mut (H x)) (he:e=x∨H e=some (.own x)) (k:∀ b u,b≠e→h.get? b=some u→h'.get? b=some u) (heo:∃ u,h'.get? e=some u)
  (new:ObjOk P w (upd H x o') h' x o'):HOk P w (upd H x o') h':=fun b u q=>by
 have nown:∀ c y,H c=some (.own y)→c≠x:=fun c y r z=>by subst z; rw [r] at mu; exact mu
 have ntup:∀ c xs,H c=some (.tup xs)→c≠x:=fun c xs r z=>by subst z; rw [r] at mu; exact mu
 by_cases hb:b=x
 ·subst hb; rw [aB] at q; cases q; exact new
 ·rw [aK hb] at q
  by_cases hbe:b=e
  ·have q':H b=some (.own x):=by
    rcases he with z | z
    ·exact absurd (hbe.trans z) hb
    ·rw [hbe]; exact z
   rw [q] at q'; cases q'
   obtain ⟨v,hv⟩:=heo
   exact ⟨v,by rw [hbe]; exact hv⟩
  ·refine (ok b u q).stay (fun c v hc r=>k c v ?_ r) (fun c r=>by rw [aK (nown c b r)]; exact r) fun c xs r=>by rw [aK (ntup c xs r)]; exact r
   rcases hc with rfl | hc
   ·exact hbe
   ·rintro rfl
    rcases he with z | z
    ·exact nown c b hc z
    ·rw [hc] at z; cases z; exact hb rfl
end
structure Un (fs ex:List Addr) (H H':Hp) (h h':Heap):Prop where
 keep:∀ b o,h.get? b=some o→H b=none→b ∉ fs→b ∉ ex→h'.get? b=some o
 slot:∀ b o,h.get? b=some o→H b=none→b∈fs→b ∉ ex→∃ sl,h'.get? b=some { o with slots:=sl }
 free:∀ b o,h.get? b=some o→H b=none→b ∉ ex→H' b=none
 there:∀ b o,h.get? b=some o→b ∉ ex→∃ o',h'.get? b=some o'
 tups:∀ b xs,H b=some (.tup xs)→H' b=some (.tup xs)
 frzs:∀ b o u,H b=some (.frz o u)→H' b=some (.frz o u)
 tbls:∀ b ps,H b=some (.tbl ps)→∃ more,H' b=some (.tbl (ps++more))
section
variable {fs fs' ex ex':List Addr}{H H1 H2:Hp}{h h1 h2 h':Heap}{a x e:Addr}{o:HO}
theorem Un.any (u:Un fs ex H H1 h h1) {b:Addr}{ob:Obj}(q:h.get? b=some ob) (n:H b=none) (hx:b ∉ ex):∃ sl,h1.get? b=some { ob with slots:=sl }:=by
 by_cases hb:b∈fs
 ·exact u.slot b ob q n hb hx
 ·exact ⟨ob.slots,u.keep b ob q n hb hx⟩
theorem Un.kept (k:∀ b u,h.get? b=some u→h'.get? b=some u):Un fs ex H H h h' :=
 ⟨fun b ob q _ _ _=>k b ob q,fun b ob q _ _ _=>⟨ob.slots,k b ob q⟩,fun _ _ _ n _=>n,fun b ob q _=>⟨ob,k b ob q⟩,fun _ _ q=>q,fun _ _ _ q=>q,fun _ ps q=>⟨#[],by rw [q]; simp⟩⟩
theorem Un.refl:Un fs ex H H h h:=Un.kept fun _ _ q=>q
theorem Un.laid (k:∀ b u,h.get? b=some u→h'.get? b=some u) (hp:h.objs.size≤a) (hn:H a=none):Un fs ex H (upd H a o) h h' where
 keep:=fun b u q _ _ _=>k b u q
 slot:=fun b u q _ _ _=>⟨u.slots,k b u q⟩
 free:=fun b u q n _=>by rw [aK (Nat.ne_of_lt (Nat.lt_of_lt_of_le (Heap.lt_size q) hp))]; exact n
 there:=fun b u q _=>⟨u,k b u q⟩
 tups:=fun b xs q=>by rw [aK (aO q hn)]; exact q
 frzs:=fun b u xs q=>by rw [aK (aO q hn)]; exact q
 tbls:=fun b ps q=>⟨#[],by rw [aK (aO q hn),q]; simp⟩
theorem Un.write (mu:Mut (H x)) (he:e=x∨H e=some (.own x)) (k:∀ b u,b≠e→h.get? b=some u→h'.get? b=some u) (heo:∃ u,h'.get? e=some u):Un fs ex H (upd H x o) h h':=by
 have hx:∀ b,H b=none→b≠x:=fun b n z=>by subst z; rw [n] at mu; exact mu
 have hb:∀ b,H b=none→b≠e:=fun b n z=>by
  subst z
  rcases he with r | r
  ·exact hx b n r
  ·rw [n] at r; cases r
 have hm:∀ b u,H b=some u→¬ Mut (some u)→b≠x:=fun b u q nm z=>by subst z; rw [q] at mu; exact nm mu
 refine ⟨fun b u q n _ _=>k b u (hb b n) q,fun b u q n _ _=>⟨u.slots,k b u (hb b n) q⟩,fun b u q n _=>by rw [aK (hx b n)]; exact n,fun b u q _=>?_,
  fun b xs q=>by rw [aK (hm b _ q fun z=>z)]; exact q,fun b u xs q=>by rw [aK (hm b _ q fun z=>z)]; exact q,fun b ps q=>⟨#[],by rw [aK (hm b _ q fun z=>z),q]; simp⟩⟩
 by_cases hbe:b=e
 ·subst hbe; exact heo
 ·exact ⟨u,k b u hbe q⟩
theorem Un.mono (u:Un fs ex H H1 h h1) (hs:∀ b∈fs,b∈fs') (hx:∀ b∈ex,b∈ex'):Un fs' ex' H H1 h h1 :=
 ⟨fun b ob q n hb he=>u.keep b ob q n (fun z=>hb (hs b z)) fun z=>he (hx b z),fun _ _ q n _ he=>u.any q n fun z=>he (hx _ z),fun b ob q n he=>u.free b ob q n fun z=>he (hx b z),fun b ob q he=>u.there b ob q fun z=>he (hx b z),u.tups,u.frzs,u.tbls⟩
end
def trk (h:Heap) (H:Hp):List Addr:=(List.range h.objs.size).filter fun a=>(H a).isSome
def AA3 (h:Heap) (H:Hp):Heap:=hideAll h (trk h H)
theorem wH (h:Heap) (H:Hp):(AA3 h H).objs.size=h.objs.size:=hideAll_size _ _
theorem AA4 {h:Heap}{H:Hp}{b:Addr}{o:Obj}(e:h.get? b=some o) (n:H b=none):(AA3 h H).get? b=some o :=
 hideAll_get _ e fun hm=>by
  have q:(H b).isSome=true:=(List.mem_filter.mp hm).2
  rw [n] at q; simp at q
theorem AI3 {h:Heap}{H:Hp}{b:Addr}{o:Obj}(e:(AA3 h H).get? b=some o):h.get? b=some o∧H b=none:=by
 have e':h.get? b=some o:=of_hideAll (trk h H) e
 refine ⟨e',?_⟩
 cases q:H b with
 | none=>rfl
 | some x =>
  have hm:b∈trk h H:=List.mem_filter.mpr ⟨List.mem_range.mpr (Heap.lt_size e'),by simp [q]⟩
  have z:(AA3 h H).get? b=none:=hideAll_none (trk h H) hm
  rw [z] at e; cases e
def AI4 (g h:Heap) (L:Addr):List (Addr × Obj):=(List.range h.objs.size).filterMap fun a=>if a=L∨(g.get? a).isSome=true then none else (h.get? a).map fun o=>(a,o)
def rest (g h:Heap) (L d:Addr):List (Addr × Obj):=(AI4 g h L).filter fun p=>decide (p.1≠d)
end L2
namespace L2
open PySem PySem.Spec PyProof.Rows PySem.W
structure Mod (K:Frag) (mg:Str→Option Value) (base:Heap):Prop where
 kin:K.In base
 glob:base.Ns mainGlobals mg
 blt:∃ mb,base.Ns builtinsNs mb∧∀ x:Str,x≠"__name__"→mb x=bootBuiltins x
 nolimit:base.NoLimit
structure Cx where
 prog:Program
 w:World
 K:Frag
 mg:Str→Option Value
 base:Heap
 A:Around
 N:List Str
 s₀:Shared
 H₀:Hp
 env:Env
 outer:List Env
 stack:List Env
 ex:List Addr
 fn:Str→Bool
 calm:Bool
 pn:List (Addr × Obj)
 xe:Value→Shared→Prop
def frs (l:List Env):List Addr:=l.filterMap (·.frame)
abbrev Cx.fs (X:Cx):List Addr:=frs X.outer
def Vis (sc:Scope) (x:Str):Prop:=sc.names.lookup x=some .local∨sc.names.lookup x=some .cell∨sc.names.lookup x=some .free
def Loc (sc:Scope) (x:Str):Prop:=sc.names.lookup x=some .local∨sc.names.lookup x=some .cell
def BF3 (env:Env) (h:Heap) (m:Str→Option Value) (x:Str) (u:Value):Prop :=
 (env.kindOf x=some .local∧m x=some u)∨((env.kindOf x=some .cell∨env.kindOf x=some .free)∧∃ c,env.cells.lookup x=some c∧h.IsCell c (some u))
structure Cx.Ok (X:Cx):Prop where
 mod:Mod X.K X.mg X.base
 kind:X.env.scope.kind=.function
 glob:X.env.globals=mainGlobals
 blt:X.env.builtins=builtinsNs
 above:X.s₀.heap.objs.size≤X.env.locals
 inj:∀ x y c,X.env.cells.lookup x=some c→X.env.cells.lookup y=some c→x=y
 has:∀ x,(X.env.kindOf x=some .cell∨X.env.kindOf x=some .free)→∃ c,X.env.cells.lookup x=some c
 cab:∀ x c,X.fn x=true→X.env.cells.lookup x=some c→X.s₀.heap.objs.size≤c
 hd:X.calm=true→X.A.handled=none
 frames:X.A.frames=some X.stack
 stk:X.stack=X.outer∨(X.stack=X.env::X.outer∧X.env.frame=some X.env.locals)
 exf:∀ b∈X.ex,b≠X.env.locals∧∀ x c,X.env.cells.lookup x=some c→c≠b
 bs:∀ b o,X.base.get? b=some o→X.s₀.heap.get? b=some o∧X.H₀ b=none
 bsz:X.base.objs.size≤X.s₀.heap.objs.size
 noex:∀ b o,X.base.get? b=some o→b ∉ X.ex
 exfs:∀ b∈X.ex,b ∉ X.fs
 funs:X.s₀.heap.FunFrames X.base X.outer
 frf:∀ b∈X.fs,X.H₀ b=none
structure Inv (X:Cx) (pins:List (Addr × Obj)) (σ:List (Option V)) (H:Hp) (s:Shared):Prop where
 ok:X.Ok
 os:s.os=X.s₀.os
 bare:AllBare s.gens
 base:Un X.fs X.ex X.H₀ H X.s₀.heap s.heap
 loc:∃ m,s.heap.Ns X.env.locals m∧∀ (i:Nat) (x:Str) (v:V),X.N[i]?=some x→σ[i]?=some (some v)→Vis X.env.scope x→∃ u,RelV v u∧BF3 X.env s.heap m x u
 cell:∀ x c,X.env.cells.lookup x=some c→∃ v,s.heap.IsCell c v
 free:H X.env.locals=none
 freeC:∀ x c,X.env.cells.lookup x=some c→H c=none
 pin:∀ p∈X.pn++pins,s.heap.get? p.1=some p.2∧H p.1=none∧p.1≠X.env.locals∧p.1 ∉ X.fs∧∀ v,p.2.data≠.cell v
 hok:HOk X.prog X.w H s.heap
 len:σ.length=X.N.length
section
variable {X:Cx}{pins:List (Addr × Obj)}{σ:List (Option V)}{H H':Hp}{s:Shared}{h':Heap}
theorem Cx.Ok.nofr (ok:X.Ok) {b:Addr}{o:Obj}(e:X.base.get? b=some o):b ∉ X.fs:=fun hb=>by
 have:=(ok.funs.mem hb).1
 rw [e] at this; cases this
theorem Inv.bs (I:Inv X pins σ H s):∀ b o,X.base.get? b=some o→s.heap.get? b=some o∧H b=none:=fun b o e =>
 ⟨I.base.keep b o (I.ok.bs b o e).1 (I.ok.bs b o e).2 (I.ok.nofr e) (I.ok.noex b o e),I.base.free b o (I.ok.bs b o e).1 (I.ok.bs b o e).2 (I.ok.noex b o e)⟩
theorem Inv.bk (I:Inv X pins σ H s):∀ b o,X.base.get? b=some o→s.heap.get? b=some o:=fun b o e=>(I.bs b o e).1
theorem Inv.mod (I:Inv X pins σ H s):Mod X.K X.mg X.base:=I.ok.mod
theorem Inv.kIn (I:Inv X pins σ H s):X.K.In s.heap:=I.ok.mod.kin.keeps I.bk
theorem Inv.nolimit (I:Inv X pins σ H s):s.heap.NoLimit:=I.ok.mod.nolimit.keeps I.bk
theorem Inv.fr (I:Inv X pins σ H s):∃ m,Fr X.base X.env.locals s.heap m :=
 let ⟨m,hn,_⟩:=I.loc
 ⟨m,hn,I.bk,Nat.le_trans I.ok.bsz I.ok.above⟩
theorem Inv.lt (I:Inv X pins σ H s):X.env.locals < s.heap.objs.size:=let ⟨_,hn,_⟩:=I.loc; hn.lt
theorem Inv.sz (I:Inv X pins σ H s):X.s₀.heap.objs.size≤s.heap.objs.size:=Nat.le_trans I.ok.above (Nat.le_of_lt I.lt)
theorem Inv.nofs (I:Inv X pins σ H s) {a:Addr}(h:s.heap.objs.size≤a):a ∉ X.fs:=fun hb=>by
 obtain ⟨_,o,ho,_⟩:=I.ok.funs.mem hb
 exact absurd (Nat.lt_of_lt_of_le (Heap.lt_size ho) (Nat.le_trans I.sz h)) (Nat.lt_irrefl _)
theorem Inv.cne (I:Inv X pins σ H s):∀ x c,X.env.cells.lookup x=some c→c≠X.env.locals:=fun x c e z=>by
 obtain ⟨v,o,ho,hd⟩:=I.cell x c e
 obtain ⟨m,⟨o',es,ep,ho',hd',_⟩,_⟩:=I.loc
 rw [z,ho'] at ho; cases ho; rw [hd'] at hd; cases hd
theorem Inv.funs (I:Inv X pins σ H s):s.heap.FunFrames X.base X.outer:=by
 have all:∀ (l:List Env),(∀ b∈frs l,b∈X.fs)→X.s₀.heap.FunFrames X.base l→s.heap.FunFrames X.base l:=by
  intro l
  induction l with
  | nil=>intro _ _; trivial
  | cons env r ih =>
   intro hs hl
   obtain ⟨hk,⟨L,o,hf,hn,ho,hd⟩,hr⟩:=hl
   have hL:L∈X.fs:=hs L (by unfold frs; rw [List.filterMap_cons,hf]; exact List.mem_cons_self)
   obtain ⟨sl,e⟩:=I.base.slot L o ho (I.ok.frf L hL) hL fun z=>I.ok.exfs L z hL
   exact ⟨hk,⟨L,_,hf,hn,e,hd⟩,ih (fun b hb=>hs b (by unfold frs; rw [List.filterMap_cons,hf]; exact List.mem_cons_of_mem _ hb)) hr⟩
 exact all X.outer (fun _ hb=>hb) I.ok.funs
theorem Inv.stack (I:Inv X pins σ H s):s.heap.FunFrames X.base X.stack:=by
 rcases I.ok.stk with e | ⟨e,hf⟩
 ·rw [e]; exact I.funs
 ·rw [e]
  obtain ⟨m,hn,_⟩:=I.loc
  refine .cons (by rw [I.ok.kind]; decide) hf hn ?_ I.funs
  exact Heap.get?_none_of_le (Nat.le_trans I.ok.bsz I.ok.above)
theorem Inv.stkSub (I:Inv X pins σ H s):∀ b∈frs X.stack,b∈X.env.locals::X.fs:=fun b hb=>by
 rcases I.ok.stk with e | ⟨e,hf⟩
 ·rw [e] at hb; exact List.mem_cons_of_mem _ hb
 ·rw [e] at hb
  unfold frs at hb
  rw [List.filterMap_cons,hf] at hb
  exact hb
theorem Inv.stkFree (I:Inv X pins σ H s):∀ b∈frs X.stack,H b=none:=fun b hb=>by
 rcases List.mem_cons.mp (I.stkSub b hb) with e | hb
 ·rw [e]; exact I.free
 ·obtain ⟨_,o,ho,_⟩:=I.ok.funs.mem hb
  exact I.base.free b o ho (I.ok.frf b hb) fun z=>I.ok.exfs b z hb
theorem Inv.step {g':Array GenState}{t':Nat}{d':Drawn}{ch:List Addr}(I:Inv X pins σ H s)
  (hch:∀ b∈ch,(b∈X.ex∨X.s₀.heap.objs.size≤b)∧b≠X.env.locals∧(∀ x c,X.env.cells.lookup x=some c→c≠b)∧∀ p∈X.pn++pins,p.1≠b)
  (keep:∀ b o,b≠X.env.locals→b ∉ X.fs→b ∉ ch→s.heap.get? b=some o→H b=none→h'.get? b=some o)
  (slot:∀ b o,b≠X.env.locals→b∈X.fs→b ∉ ch→s.heap.get? b=some o→H b=none→∃ sl,h'.get? b=some { o with slots:=sl }) (free:∀ b o,b ∉ ch→s.heap.get? b=some o→H b=none→H' b=none)
  (there:∀ b o,b ∉ ch→s.heap.get? b=some o→∃ o',h'.get? b=some o')
  (tups:∀ b xs,H b=some (.tup xs)→H' b=some (.tup xs)) (frzs:∀ b o u,H b=some (.frz o u)→H' b=some (.frz o u)) (tbls:∀ b ps,H b=some (.tbl ps)→∃ more,H' b=some (.tbl (ps++more)))
  (ns:∀ m,s.heap.Ns X.env.locals m→h'.Ns X.env.locals m) (hok:HOk X.prog X.w H' h') (hg:AllBare g') :
  Inv X pins σ H' { s with heap:=h',gens:=g',drawn:=d',toks:=t' }:=by
 have neL:∀ b o,X.s₀.heap.get? b=some o→b≠X.env.locals:=fun b o e=>Nat.ne_of_lt (Nat.lt_of_lt_of_le (Heap.lt_size e) I.ok.above)
 have neC:∀ b o,X.s₀.heap.get? b=some o→b ∉ X.ex→b ∉ ch:=fun b o e hx hb=>by
  rcases (hch b hb).1 with z | z
  ·exact hx z
  ·exact absurd (Nat.lt_of_lt_of_le (Heap.lt_size e) z) (Nat.lt_irrefl _)
 have cellK:∀ x c,X.env.cells.lookup x=some c→∀ v,s.heap.IsCell c v→h'.IsCell c v:=fun x c e v ⟨o,ho,hd⟩=>by
  have nch:c ∉ ch:=fun z=>(hch c z).2.2.1 x c e rfl
  by_cases hc:c∈X.fs
  ·obtain ⟨sl,q⟩:=slot c o (I.cne x c e) hc nch ho (I.freeC x c e)
   exact ⟨_,q,hd⟩
  ·exact ⟨o,keep c o (I.cne x c e) hc nch ho (I.freeC x c e),hd⟩
 refine ⟨I.ok,I.os,hg,⟨fun b o e n hb hx=>?_,fun b o e n hb hx=>?_,fun b o e n hx=>?_,fun b o e hx=>?_,fun b xs e=>tups b xs (I.base.tups b xs e),fun b o xs e=>frzs b o xs (I.base.frzs b o xs e),fun b ps e=>?_⟩,?_,fun x c e=>?_,?_,fun x c e=>?_,fun p hp=>?_,hok,I.len⟩
 ·exact keep b o (neL b o e) hb (neC b o e hx) (I.base.keep b o e n hb hx) (I.base.free b o e n hx)
 ·obtain ⟨sl,e1⟩:=I.base.slot b o e n hb hx
  obtain ⟨sl',e2⟩:=slot b _ (neL b o e) hb (neC b o e hx) e1 (I.base.free b o e n hx)
  exact ⟨sl',e2⟩
 ·obtain ⟨o',e1⟩:=I.base.there b o e hx
  exact free b o' (neC b o e hx) e1 (I.base.free b o e n hx)
 ·obtain ⟨o',e1⟩:=I.base.there b o e hx
  exact there b o' (neC b o e hx) e1
 ·obtain ⟨m1,e1⟩:=I.base.tbls b ps e
  obtain ⟨m2,e2⟩:=tbls b _ e1
  exact ⟨m1++m2,by rw [e2,Array.append_assoc]⟩
 ·obtain ⟨m,hn,hl⟩:=I.loc
  refine ⟨m,ns m hn,fun i x v e1 e2 e3=>?_⟩
  obtain ⟨u,r,l⟩:=hl i x v e1 e2 e3
  refine ⟨u,r,?_⟩
  rcases l with l | ⟨k,c,e,z⟩
  ·exact .inl l
  ·exact .inr ⟨k,c,e,cellK x c e _ z⟩
 ·obtain ⟨v,z⟩:=I.cell x c e
  exact ⟨v,cellK x c e v z⟩
 ·obtain ⟨m,⟨o,_,_,ho,_⟩,_⟩:=I.loc
  exact free _ o (fun z=>(hch _ z).2.1 rfl) ho I.free
 ·obtain ⟨v,o,ho,hd⟩:=I.cell x c e
  exact free c o (fun z=>(hch c z).2.2.1 x c e rfl) ho (I.freeC x c e)
 ·obtain ⟨e,n,ne,nf,d⟩:=I.pin p hp
  have nch:p.1 ∉ ch:=fun z=>(hch p.1 z).2.2.2 p hp rfl
  exact ⟨keep p.1 p.2 ne nf nch e n,free p.1 p.2 nch e n,ne,nf,d⟩
theorem Inv.un {t':Nat}(I:Inv X pins σ H s) (u:Un X.fs [] H H' s.heap h') (hok:HOk X.prog X.w H' h'):Inv X pins σ H' { s with heap:=h',toks:=t' }:=by
 obtain ⟨m,⟨o,es,ep,ho,r⟩,_⟩:=id I.loc
 obtain ⟨sl,hL⟩:=u.any ho I.free (by simp)
 exact I.step (g':=s.gens) (d':=s.drawn) (ch:=[]) (fun _ z=>nomatch z) (fun b o _ hb _ e n=>u.keep b o e n hb (by simp)) (fun b o _ hb _ e n=>u.slot b o e n hb (by simp)) (fun b o _ e n=>u.free b o e n (by simp)) (fun b o _ e=>u.there b o e (by simp)) u.tups u.frzs u.tbls (fun m' hm=>by
  obtain ⟨o',es',ep',ho',r'⟩:=hm
  rw [ho] at ho'; cases ho'
  exact ⟨_,es',ep',hL,r'⟩) hok I.bare
theorem Inv.call {g':Array GenState}{t':Nat}{d':Drawn}{ch:List Addr}(I:Inv X pins σ H s) (u:Un (frs X.stack) ch H H' s.heap h') (hok:HOk X.prog X.w H' h') (hg:AllBare g')
  (hch:∀ b∈ch,(b∈X.ex∨X.s₀.heap.objs.size≤b)∧b≠X.env.locals∧(∀ x c,X.env.cells.lookup x=some c→c≠b)∧∀ p∈X.pn++pins,p.1≠b) :
  Inv X pins σ H' { s with heap:=h',gens:=g',drawn:=d',toks:=t' }:=by
 obtain ⟨m,⟨o,es,ep,ho,r⟩,_⟩:=id I.loc
 obtain ⟨sl,hL⟩:=u.any ho I.free fun z=>(hch _ z).2.1 rfl
 exact I.step (ch:=ch) hch (fun b o hL hb hc e n=>u.keep b o e n (fun z=>(List.mem_cons.mp (I.stkSub b z)).elim hL hb) hc) (fun b o _ _ hc e n=>u.any e n hc) (fun b o hc e n=>u.free b o e n hc) (fun b o hc e=>u.there b o e hc) u.tups u.frzs u.tbls (fun m' hm=>by
  obtain ⟨o',es',ep',ho',r'⟩:=hm
  rw [ho] at ho'; cases ho'
  exact ⟨_,es',ep',hL,r'⟩) hok hg
theorem Inv.turned {t':Nat}{it:Addr}(I:Inv X pins σ H s) (k:∀ b o,b≠it→s.heap.get? b=some o→h'.get? b=some o) (hn:H it=none) (hL:it≠X.env.locals)
  (h1:it∈X.ex∨X.s₀.heap.objs.size≤it) (h2:∀ x c,X.env.cells.lookup x=some c→c≠it) (h3:∀ p∈X.pn++pins,p.1≠it):Inv X pins σ H { s with heap:=h',toks:=t' }:=by
 have nit:∀ b u,H b=some u→b≠it:=fun b u e z=>by rw [z,hn] at e; cases e
 refine I.step (g':=s.gens) (d':=s.drawn) (ch:=[it]) (fun b hb=>?_) (fun b o _ _ hc e _=>k b o (fun z=>hc (by simp [z])) e) (fun b o _ _ hc e _=>⟨o.slots,k b o (fun z=>hc (by simp [z])) e⟩) (fun _ _ _ _ n=>n)
  (fun b o hc e=>⟨o,k b o (fun z=>hc (by simp [z])) e⟩) (fun _ _ e=>e) (fun _ _ _ e=>e) (fun b ps e=>⟨#[],by rw [e]; simp⟩) (fun m hm=>?_) (fun b u e=>?_) I.bare
 ·have e:b=it:=by simpa using hb
  subst e
  exact ⟨h1,hL,h2,h3⟩
 ·obtain ⟨o,es,ep,ho,r⟩:=hm
  exact ⟨o,es,ep,k _ o (Ne.symm hL) ho,r⟩
 ·refine (I.hok b u e).stay (fun c v hc q=>k c v ?_ q) (fun _ q=>q) fun _ _ q=>q
  rcases hc with z | z
  ·rw [z]; exact nit b u e
  ·exact nit c _ z
theorem Inv.tok (I:Inv X pins σ H s) (t:Nat):Inv X pins σ H { s with toks:=t }:=I.un (h':=s.heap) (t':=t) Un.refl I.hok
theorem Inv.kept {t':Nat}(I:Inv X pins σ H s) (k:∀ b u,s.heap.get? b=some u→h'.get? b=some u):Inv X pins σ H { s with heap:=h',toks:=t' }:=I.un (Un.kept k) (I.hok.kept k)
theorem Inv.laid {a:Addr}{o:HO}{t':Nat}(I:Inv X pins σ H s) (k:∀ b u,s.heap.get? b=some u→h'.get? b=some u) (hp:s.heap.objs.size≤a) (new:ObjOk X.prog X.w (upd H a o) h' a o) :
  Inv X pins σ (upd H a o) { s with heap:=h',toks:=t' }:=I.un (Un.laid k hp (I.hok.fresh hp)) (I.hok.laid k hp new)
theorem Inv.write {x e:Addr}{o:HO}{t':Nat}(I:Inv X pins σ H s) (mu:Mut (H x)) (he:e=x∨H e=some (.own x)) (k:∀ b u,b≠e→s.heap.get? b=some u→h'.get? b=some u) (heo:∃ u,h'.get? e=some u)
  (new:ObjOk X.prog X.w (upd H x o) h' x o):Inv X pins σ (upd H x o) { s with heap:=h',toks:=t' }:=I.un (Un.write mu he k heo) (I.hok.write mu he k heo new)
theorem Inv.pins_of {pins':List (Addr × Obj)}(I:Inv X pins σ H s) (h:∀ p∈pins',s.heap.get? p.1=some p.2∧H p.1=none∧p.1≠X.env.locals∧p.1 ∉ X.fs∧∀ v,p.2.data≠.cell v):Inv X pins' σ H s :=
 ⟨I.ok,I.os,I.bare,I.base,I.loc,I.cell,I.free,I.freeC,fun p hp=>(List.mem_append.mp hp).elim (fun z=>I.pin p (List.mem_append_left _ z)) (h p),I.hok,I.len⟩
theorem oM {N:List Str}(hN:N.Nodup) {i j:Nat}{x:Str}(a:N[i]?=some x) (b:N[j]?=some x):i=j:=by
 obtain ⟨h1,e1⟩:=List.getElem?_eq_some_iff.mp a
 obtain ⟨h2,e2⟩:=List.getElem?_eq_some_iff.mp b
 exact (List.getElem_inj hN).mp (e1.trans e2.symm)
theorem qB {M:Model}{A:Around}{E:Value→Shared→Prop}{i:Nat}{x:Str}{v:V}{u:Value}{Q:Unit→Shared→Prop}(I:Inv X pins σ H s) (hN:X.N.Nodup) (hi:X.N[i]?=some x) (hx:Loc X.env.scope x) (r:RelV v u)
  (h:∀ s',Inv X pins (σ.set i (some v)) H s'→(∃ a,Heap.SameBut a s.heap s'.heap∧(a=X.env.locals∨X.env.cells.lookup x=some a))→Q () s') (hf:X.fn x=true∨X.env.scope.names.lookup x=some .local:=by first | exact .inl rfl | exact .inr rfl | assumption):wpAny M A (storeName X.env x u) Q E s:=by
 obtain ⟨m,hn,hl⟩:=id I.loc
 have hcls:(X.env.scope.kind == .class || (X.env.scope.kind == .module && X.env.locals != X.env.globals))=false:=by rw [I.ok.kind]; rfl
 have hiσ:i < σ.length:=by rw [I.len]; exact (List.getElem?_eq_some_iff.mp hi).1
 have cne:=I.cne
 have tracked:∀ {a:Addr}{h':Heap},(∃ o,s.heap.get? a=some o∧H a=none)→Heap.SameBut a s.heap h'→HOk X.prog X.w H h':=fun {a h'} ha hs b ob e=>by
  obtain ⟨_,_,hfree⟩:=ha
  refine (I.hok b ob e).stay (fun c w' hc q=>(hs.2 c ?_).trans q) (fun _ q=>q) fun _ _ q=>q
  rintro rfl
  rcases hc with rfl | hc
  ·rw [hfree] at e; cases e
  ·rw [hfree] at hc; cases hc
 rcases hx with hk | hk
 ·refine wpAny_storeName_local hk hn (fun h' hn' hs=>?_) hcls
  obtain ⟨oL,_,_,hoL,_⟩:=id hn
  refine h _ ⟨I.ok,I.os,I.bare,⟨fun b o e n hb hx=>?_,fun b o e n hb hx=>?_,I.base.free,fun b o e hx=>?_,I.base.tups,I.base.frzs,I.base.tbls⟩,⟨_,hn',fun j y v' e1 e2 e3=>?_⟩,fun y c e=>?_,I.free,I.freeC,fun p hp=>?_,tracked ⟨oL,hoL,I.free⟩ hs,by simpa using I.len⟩ ⟨_,hs,.inl rfl⟩
  ·exact (hs.2 b (Nat.ne_of_lt (Nat.lt_of_lt_of_le (Heap.lt_size e) I.ok.above))).trans (I.base.keep b o e n hb hx)
  ·obtain ⟨sl,e1⟩:=I.base.slot b o e n hb hx
   exact ⟨sl,(hs.2 b (Nat.ne_of_lt (Nat.lt_of_lt_of_le (Heap.lt_size e) I.ok.above))).trans e1⟩
  ·obtain ⟨o',e1⟩:=I.base.there b o e hx
   exact ⟨o',(hs.2 b (Nat.ne_of_lt (Nat.lt_of_lt_of_le (Heap.lt_size e) I.ok.above))).trans e1⟩
  ·by_cases hj:j=i
   ·subst hj
    rw [hi] at e1; cases e1
    rw [List.getElem?_set_self hiσ] at e2
    cases e2
    exact ⟨u,r,.inl ⟨hk,by simp⟩⟩
   ·rw [List.getElem?_set_ne (Ne.symm hj)] at e2
    obtain ⟨u',r',q⟩:=hl j y v' e1 e2 e3
    refine ⟨u',r',?_⟩
    rcases q with ⟨k,e⟩ | ⟨k,c,e,z⟩
    ·refine .inl ⟨k,?_⟩
     have:y≠x:=fun e=>hj (oM hN e1 (e ▸ hi))
     simp [this,e]
    ·exact .inr ⟨k,c,e,z.sameBut hs (cne y c e)⟩
  ·obtain ⟨w',z⟩:=I.cell y c e
   exact ⟨w',z.sameBut hs (cne y c e)⟩
  ·obtain ⟨e,n,ne,nf,d⟩:=I.pin p hp
   exact ⟨(hs.2 p.1 ne).trans e,n,ne,nf,d⟩
 ·have hfn:X.fn x=true:=by
   rcases hf with z | z
   ·exact z
   ·rw [z] at hk; cases hk
  obtain ⟨c,hc⟩:=I.ok.has x (.inl hk)
  obtain ⟨w',z⟩:=I.cell x c hc
  refine wpAny_storeName_cell I.ok.kind hk hc z (fun h' hc' hs=>?_)
  obtain ⟨oc,hoc,hocd⟩:=id z
  refine h { s with heap:=h' } ⟨I.ok,I.os,I.bare,⟨fun b o e n hb hx=>?_,fun b o e n hb hx=>?_,I.base.free,fun b o e hx=>?_,I.base.tups,I.base.frzs,I.base.tbls⟩,⟨m,hn.sameBut hs (Ne.symm (cne x c hc)),fun j y v' e1 e2 e3=>?_⟩,fun y c' e=>?_,I.free,I.freeC,fun p hp=>?_,tracked ⟨oc,hoc,I.freeC x c hc⟩ hs,by simpa using I.len⟩ ⟨c,hs,.inr hc⟩
  ·exact (hs.2 b (Nat.ne_of_lt (Nat.lt_of_lt_of_le (Heap.lt_size e) (I.ok.cab x c hfn hc)))).trans (I.base.keep b o e n hb hx)
  ·obtain ⟨sl,e1⟩:=I.base.slot b o e n hb hx
   exact ⟨sl,(hs.2 b (Nat.ne_of_lt (Nat.lt_of_lt_of_le (Heap.lt_size e) (I.ok.cab x c hfn hc)))).trans e1⟩
  ·obtain ⟨o',e1⟩:=I.base.there b o e hx
   exact ⟨o',(hs.2 b (Nat.ne_of_lt (Nat.lt_of_lt_of_le (Heap.lt_size e) (I.ok.cab x c hfn hc)))).trans e1⟩
  ·by_cases hj:j=i
   ·subst hj
    rw [hi] at e1; cases e1
    rw [List.getElem?_set_self hiσ] at e2
    cases e2
    exact ⟨u,r,.inr ⟨.inl hk,c,hc,hc'⟩⟩
   ·rw [List.getElem?_set_ne (Ne.symm hj)] at e2
    obtain ⟨u',r',q⟩:=hl j y v' e1 e2 e3
    refine ⟨u',r',?_⟩
    rcases q with q | ⟨k,c',e,z'⟩
    ·exact .inl q
    ·refine .inr ⟨k,c',e,z'.sameBut hs ?_⟩
     rintro rfl
     exact hj (oM hN e1 (I.ok.inj _ _ _ e hc ▸ hi))
  ·by_cases hcc:c'=c
   ·subst hcc; exact ⟨_,hc'⟩
   ·obtain ⟨w2,z2⟩:=I.cell y c' e
    exact ⟨w2,z2.sameBut hs hcc⟩
  ·obtain ⟨e,n,ne,nf,d⟩:=I.pin p hp
   refine ⟨(hs.2 p.1 ?_).trans e,n,ne,nf,d⟩
   intro q
   rw [q,hoc] at e
   have q':oc=p.2:=Option.some.inj e
   exact d w' (by rw [← q']; exact hocd)
theorem lO {M:Model}{A:Around}{E:Value→Shared→Prop}{i:Nat}{x:Str}{v:V}{u:Value}{Q:Unit→Shared→Prop}(I:Inv X pins σ H s) (hN:X.N.Nodup) (hi:X.N[i]?=some x) (hx:Loc X.env.scope x) (r:RelV v u)
  (h:∀ s',Inv X pins (σ.set i (some v)) H s'→Q () s') (hf:X.fn x=true∨X.env.scope.names.lookup x=some .local:=by first | exact .inl rfl | exact .inr rfl | assumption):wpAny M A (storeName X.env x u) Q E s :=
 qB I hN hi hx r (fun s' I' _=>h s' I') hf
theorem Inv.call' {s':Shared}{ch:List Addr}(I:Inv X pins σ H s) (ho:s'.os=s.os) (u:Un (frs X.stack) ch H H' s.heap s'.heap) (hok:HOk X.prog X.w H' s'.heap) (hg:AllBare s'.gens)
  (hch:∀ b∈ch,(b∈X.ex∨X.s₀.heap.objs.size≤b)∧b≠X.env.locals∧(∀ x c,X.env.cells.lookup x=some c→c≠b)∧∀ p∈X.pn++pins,p.1≠b):Inv X pins σ H' s':=by
 obtain ⟨h',g',d',t',o'⟩:=s'
 have e:o'=s.os:=ho
 subst e
 exact I.call (g':=g') (t':=t') (d':=d') u hok hg hch
end
abbrev XK:=Value→Option Addr→Hp→Prop
abbrev St:=List (Option V)
abbrev VK:=V→Hp→Prop
abbrev TE:=St→Hp→VK→Prop
abbrev TT:=St→Hp→(Bool→Hp→Prop)→Prop
abbrev TA:=St→Hp→(List V→Hp→Prop)→Prop
structure Ends where
 nx:St→Hp→Prop
 rt:VK
 bk:St→Hp→Prop:=fun _ _=>False
 ct:St→Hp→Prop:=fun _ _=>False
abbrev TS:=Ends→St→Hp→Prop
def EP (X:Cx) (pins:List (Addr × Obj)) (σ:St) (Q:VK) (u:Value) (s':Shared):Prop:=∃ v H',Inv X pins σ H' s'∧RelV v u∧Q v H'
def TP (X:Cx) (pins:List (Addr × Obj)) (σ:St) (Q:Bool→Hp→Prop) (b:Bool) (s':Shared):Prop:=∃ H',Inv X pins σ H' s'∧Q b H'
def AP (X:Cx) (pins:List (Addr × Obj)) (σ:St) (Q:List V→Hp→Prop) (us:List Value) (s':Shared):Prop:=∃ vs H',Inv X pins σ H' s'∧Vals vs us∧Q vs H'
def SP (X:Cx) (pins:List (Addr × Obj)) (D:Ends) (f:Flow) (s':Shared):Prop :=
 match f with
 | .next=>∃ σ' H',Inv X pins σ' H' s'∧D.nx σ' H'
 | .brk=>∃ σ' H',Inv X pins σ' H' s'∧D.bk σ' H'
 | .cont=>∃ σ' H',Inv X pins σ' H' s'∧D.ct σ' H'
 | .ret u=>∃ v σ' H',Inv X pins σ' H' s'∧RelV v u∧D.rt v H'
def PE (X:Cx) (e:Expr) (t:TE):Prop :=
 ∀ (pins:List (Addr × Obj)) (s:Shared) (σ:St) (H:Hp) (Q:VK),Inv X pins σ H s→t σ H Q→wpAny (model X.prog X.w) X.A (eval e X.env) (EP X pins σ Q) X.xe s
def PT (X:Cx) (e:Expr) (t:TT):Prop :=
 ∀ (pins:List (Addr × Obj)) (s:Shared) (σ:St) (H:Hp) (Q:Bool→Hp→Prop),Inv X pins σ H s→t σ H Q→wpAny (model X.prog X.w) X.A (isTrue e X.env (eval e X.env)) (TP X pins σ Q) X.xe s
def PW (X:Cx) (e:Expr) (t:TT):Prop :=
 ∀ (whole:Sem Value) (pins:List (Addr × Obj)) (s:Shared) (σ:St) (H:Hp) (Q:Bool→Hp→Prop),Inv X pins σ H s→t σ H Q→wpAny (model X.prog X.w) X.A (isTrue e X.env whole) (TP X pins σ Q) X.xe s
theorem PW.pt {X:Cx}{e:Expr}{t:TT}(h:PW X e t):PT X e t:=h _
def PA (X:Cx) (es:List Expr) (t:TA):Prop :=
 ∀ (pos:Pos) (pins:List (Addr × Obj)) (s:Shared) (σ:St) (H:Hp) (Q:List V→Hp→Prop),Inv X pins σ H s→t σ H Q→wpAny (model X.prog X.w) X.A (spliced (backTo pos (starEach es X.env))) (AP X pins σ Q) X.xe s
def PS (X:Cx) (st:Stmt) (t:TS):Prop :=
 ∀ (pins:List (Addr × Obj)) (s:Shared) (σ:St) (H:Hp) (D:Ends),Inv X pins σ H s→t D σ H→wpAny (model X.prog X.w) X.A (exec st X.env) (SP X pins D) X.xe s
def PSs (X:Cx) (st:List Stmt) (t:TS):Prop :=
 ∀ (pins:List (Addr × Obj)) (s:Shared) (σ:St) (H:Hp) (D:Ends),Inv X pins σ H s→t D σ H→wpAny (model X.prog X.w) X.A (execs st X.env) (SP X pins D) X.xe s
theorem thn {α:Type}{t:Sem α}{Q Q':α→Shared→Prop}{M:Model}{A:Around}{E:Value→Shared→Prop}{s:Shared}(h:wpAny M A t Q E s) (hQ:∀ a s,Q a s→Q' a s):wpAny M A t Q' E s:=wpAny_mono h hQ fun _ _ x=>x
end L2
namespace L2
open PySem PySem.Spec PyProof.Rows PySem.W
section
variable {X:Cx}
def AW5 (i:Nat):TE:=fun σ H Q=>∃ v,σ[i]?=some (some v)∧Q v H
def tC (v:V):TE:=fun _ H Q=>Q v H
theorem AF4 {i:Nat}{x:Str}{pos:Pos}(hN:X.N[i]?=some x) (hv:Vis X.env.scope x) (hd:(x == ("__debug__":Str))=false:=by decide) (hcd:(x == ("__classdict__":Str))=false:=by decide):PE X (.Name x pos) (AW5 i):=by
 intro pins s σ H Q I h
 obtain ⟨v,e,h⟩:=h
 obtain ⟨m,hn,hl⟩:=I.loc
 obtain ⟨u,r,l⟩:=hl i x v hN e hv
 have fin:EP X pins σ Q u s:=⟨v,H,I,r,h⟩
 rcases l with ⟨hk,hm⟩ | ⟨hk,c,hc,hcell⟩
 ·exact wpAny_Name (wpAny_loadName_local I.ok.kind hk hn hm fin) hd
 ·rcases hk with hk | hk
  ·exact wpAny_Name (wpAny_loadName_cell I.ok.kind hk hc hcell fin) hd
  ·exact wpAny_Name (wpAny_loadName_free I.ok.kind hk hc hcell fin hcd) hd
theorem aL {i j pos}:PE X (.Constant (.int i) j pos) (tC (.int i)):=fun _ _ _ H _ I h=>wpAny_Constant_int ⟨.int i,H,I.tok _,⟨_,rfl⟩,h⟩
theorem jH {b j pos}:PE X (.Constant (.bool b) j pos) (tC (.bl b)):=fun _ _ _ H _ I h=>Constant_bool ⟨.bl b,H,I,rfl,h⟩
theorem wI {j pos}:PE X (.Constant .none j pos) (tC .non):=fun _ _ _ H _ I h=>Constant_none ⟨.non,H,I,rfl,h⟩
theorem aM {x j pos}:PE X (.Constant (.str x) j pos) (tC (.str x)):=fun _ _ _ H _ I h=>Calls.Constant_str ⟨.str x,H,I.tok _,⟨_,rfl⟩,h⟩
def Gl (X:Cx) (x:Str):Prop:=X.env.kindOf x=some .globalImplicit
theorem fX {E:Value→Shared→Prop}{pins:List (Addr × Obj)}{s:Shared}{σ:St}{H:Hp}{x:Str}{u:Value}{pos:Pos}{Q:Value→Shared→Prop}(I:Inv X pins σ H s) (hg:Gl X x) (hm:X.mg x=some u) (h:Q u s)
  (hd:(x == ("__debug__":Str))=false:=by decide):wpAny (model X.prog X.w) X.A (eval (.Name x pos) X.env) Q E s :=
 Calls.Name_function_global I.ok.kind hg (Calls.loadGlobal_global (by rw [I.ok.glob]; exact I.mod.glob.keeps I.bk) hm h) hd
theorem tZ {E:Value→Shared→Prop}{pins:List (Addr × Obj)}{s:Shared}{σ:St}{H:Hp}{x:Str}{u:Value}{pos:Pos}{Q:Value→Shared→Prop}(I:Inv X pins σ H s) (hg:Gl X x) (hm:X.mg x=none) (hv:bootBuiltins x=some u) (h:Q u s)
  (hn:x≠"__name__":=by decide) (hd:(x == ("__debug__":Str))=false:=by decide):wpAny (model X.prog X.w) X.A (eval (.Name x pos) X.env) Q E s:=by
 obtain ⟨mb,h1,h2⟩:=I.mod.blt
 exact Calls.Name_function_global I.ok.kind hg (Calls.loadGlobal_builtin (by rw [I.ok.glob]; exact I.mod.glob.keeps I.bk) hm (by rw [I.ok.blt]; exact h1.keeps I.bk) ((h2 x hn).trans hv) h) hd
theorem bT {x:Str}{v:V}{u:Value}{pos:Pos}(hg:Gl X x) (hm:X.mg x=some u) (r:RelV v u) (hd:(x == ("__debug__":Str))=false:=by decide):PE X (.Name x pos) (tC v) :=
 fun _ _ _ H _ I h=>fX I hg hm ⟨v,H,I,r,h⟩ hd
theorem fH {x:Str}{v:V}{u:Value}{pos:Pos}(hg:Gl X x) (hm:X.mg x=none) (hv:bootBuiltins x=some u) (r:RelV v u) (hn:x≠"__name__":=by decide) (hd:(x == ("__debug__":Str))=false:=by decide):PE X (.Name x pos) (tC v) :=
 fun _ _ _ H _ I h=>tZ I hg hm hv ⟨v,H,I,r,h⟩ hn hd
variable {a b:Expr}{ta tb:TE}{pos:Pos}
def PC (X:Cx) (op:CmpOp) (a b:Expr) (t:TE):Prop :=
 ∀ (pins:List (Addr × Obj)) (s:Shared) (σ:St) (H:Hp) (Q:VK),Inv X pins σ H s→t σ H Q →
  wpAny (model X.prog X.w) X.A (eval a X.env) (fun v s₁=>wpAny (model X.prog X.w) X.A (eval b X.env) (fun u s₂=>wpAny (model X.prog X.w) X.A (compareOp op v u) (EP X pins σ Q) X.xe s₂) X.xe s₁) X.xe s
theorem AA5 (b:Expr) {op:CmpOp}(h:op≠.In) (h2:op≠.NotIn):behindInMarks op b=false:=by
 have e1:(op == CmpOp.In)=false:=by cases op <;> first | rfl | exact absurd rfl h
 have e2:(op == CmpOp.NotIn)=false:=by cases op <;> first | rfl | exact absurd rfl h2
 cases b <;> simp [behindInMarks,e1,e2]
def BD2 (ta:TE):TE:=fun σ H Q=>ta σ H fun x H1=>Q (.bl (decide (x=.non))) H1
def AW6 (ta:TE):TE:=fun σ H Q=>ta σ H fun x H1=>Q (.bl (!decide (x=.non))) H1
theorem RelV.none_iff {x:V}{v:Value}(r:RelV x v):(v == Value.none)=decide (x=.non):=by
 cases x with
 | non=>cases r; rfl
 | bl _=>cases r; rfl
 | int _=>obtain ⟨t,rfl⟩:=r; rfl
 | str _=>obtain ⟨t,rfl⟩:=r; rfl
 | byt _=>obtain ⟨t,rfl⟩:=r; rfl
 | flt _=>obtain ⟨t,rfl⟩:=r; rfl
 | ref _=>cases r; rfl
 | ty _=>cases r; rfl
theorem AQ1 {j pos'}(ha:PE X a ta):PC X .Is a (.Constant .none j pos') (BD2 ta):=by
 intro pins s σ H Q I h
 refine thn (ha pins s σ H _ I h) fun v s1 ⟨x,H1,I1,r1,q1⟩=>?_
 exact Constant_none (is_none_gen ⟨.bl _,H1,I1,by rw [r1.none_iff]; rfl,q1⟩)
def tB (t:TE):TT:=fun σ H Q=>t σ H fun x H1=>∃ c,x=.bl c∧Q c H1
theorem AQ2 {op:CmpOp}{t:TE}(h:PC X op a b t) (h1:behindInMarks op b=false:=by first | exact AA5 _ (by decide) (by decide) | rfl):PT X (.Compare a [op] [b] pos) (tB t):=by
 intro pins s σ H Q I hw
 refine wpAny_isTrue_Compare1 (thn (h pins s σ H _ I hw) fun v s1 h1=>thn h1 fun u s2 h2=>thn h2 fun c s3 ⟨x,H1,I1,r1,q1⟩=>?_) h1
 obtain ⟨d,rfl,q⟩:=q1
 cases r1
 exact wpAny_truthy_bool ⟨H1,I1,q⟩
theorem cF {e:Expr}{t:TE}(h:PE X e t) (he:∀ whole,isTrue e X.env whole=(do let v ← whole; standAt e.pos; holding [v] (truthy v)):=by intro _; rfl):PT X e (tB t):=by
 intro pins s σ H Q I hw
 refine isTrue_plain (thn (h pins s σ H _ I hw) fun v s1 ⟨x,H1,I1,r1,q1⟩=>?_) (he _)
 obtain ⟨d,rfl,q⟩:=q1
 cases r1
 exact wpAny_truthy_bool ⟨H1,I1,q⟩
variable {tA tB':TT}{rest:List Expr}
def BD3 (t u:TT):TT:=fun σ H Q=>t σ H fun c H1=>if c=true then u σ H1 Q else Q false H1
def tOr (t u:TT):TT:=fun σ H Q=>t σ H fun c H1=>if c=true then Q true H1 else u σ H1 Q
def BD4 (t:TT):TT:=fun σ H Q=>t σ H fun c H1=>Q (!c) H1
theorem wJ (ha:PT X a tA):PW X (.BoolOp .And [a] pos) tA:=by
 intro wh pins s σ H Q I h
 refine isTrue_and (thn (ha pins s σ H Q I h) fun c s1 e=>?_)
 cases c with
 | true=>exact isTrue_and_nil e
 | false=>exact e
theorem fS (ha:PT X a tA):PW X (.BoolOp .Or [a] pos) tA:=by
 intro wh pins s σ H Q I h
 refine isTrue_or (thn (ha pins s σ H Q I h) fun c s1 e=>?_)
 cases c with
 | false=>exact isTrue_or_nil e
 | true=>exact e
theorem wK (ha:PT X a tA) (hb:PW X (.BoolOp .And (b::rest) pos) tB'):PW X (.BoolOp .And (a::b::rest) pos) (BD3 tA tB'):=by
 intro wh pins s σ H Q I h
 refine isTrue_and (thn (ha pins s σ H _ I h) fun c s1 ⟨H1,I1,q1⟩=>?_)
 cases c with
 | true=>exact hb wh pins s1 σ H1 Q I1 q1
 | false=>exact ⟨H1,I1,q1⟩
theorem gX (ha:PT X a tA) (hb:PW X (.BoolOp .Or (b::rest) pos) tB'):PW X (.BoolOp .Or (a::b::rest) pos) (tOr tA tB'):=by
 intro wh pins s σ H Q I h
 refine isTrue_or (thn (ha pins s σ H _ I h) fun c s1 ⟨H1,I1,q1⟩=>?_)
 cases c with
 | true=>exact ⟨H1,I1,q1⟩
 | false=>exact hb wh pins s1 σ H1 Q I1 q1
theorem dP (ha:PT X a tA):PT X (.UnaryOp .Not a pos) (BD4 tA):=by
 intro pins s σ H Q I h
 exact isTrue_not (ha pins s σ H (fun c H1=>Q (!c) H1) I h)
def AQ3 (ta tb:TE):TE:=fun σ H Q=>ta σ H fun x H1=>∃ c,x=.bl c∧if c=true then tb σ H1 Q else Q (.bl false) H1
def BD5 (ta tb:TE):TE:=fun σ H Q=>ta σ H fun x H1=>∃ c,x=.bl c∧if c=true then Q (.bl true) H1 else tb σ H1 Q
def AQ4 (ta:TE):TE:=fun σ H Q=>ta σ H fun x H1=>∃ c,x=.bl c∧Q (.bl (!c)) H1
theorem lV {op}{t:TE}(h:PE X a t):PE X (.BoolOp op [a] pos) t:=fun pins s σ H Q I hw=>BoolOp_one (h pins s σ H Q I hw)
theorem lW (ha:PE X a ta) (hb:PE X (.BoolOp .And (b::rest) pos) tb):PE X (.BoolOp .And (a::b::rest) pos) (AQ3 ta tb):=by
 intro pins s σ H Q I h
 refine BoolOp_and (thn (ha pins s σ H _ I h) fun v s1 ⟨x,H1,I1,r1,q1⟩=>?_)
 obtain ⟨c,rfl,q1⟩:=q1
 cases r1
 refine wpAny_truthy_bool ?_
 cases c with
 | true=>exact hb pins s1 σ H1 Q I1 q1
 | false=>exact ⟨.bl false,H1,I1,rfl,q1⟩
theorem AW7 (ha:PE X a ta) (hb:PE X (.BoolOp .Or (b::rest) pos) tb):PE X (.BoolOp .Or (a::b::rest) pos) (BD5 ta tb):=by
 intro pins s σ H Q I h
 refine BoolOp_or (thn (ha pins s σ H _ I h) fun v s1 ⟨x,H1,I1,r1,q1⟩=>?_)
 obtain ⟨c,rfl,q1⟩:=q1
 cases r1
 refine wpAny_truthy_bool ?_
 cases c with
 | false=>exact hb pins s1 σ H1 Q I1 q1
 | true=>exact ⟨.bl true,H1,I1,rfl,q1⟩
theorem uA (ha:PE X a ta):PE X (.UnaryOp .Not a pos) (AQ4 ta):=by
 intro pins s σ H Q I h
 refine UnaryOp_ (thn (ha pins s σ H _ I h) fun v s1 ⟨x,H1,I1,r1,q1⟩=>?_)
 obtain ⟨c,rfl,q1⟩:=q1
 cases r1
 exact not_of (wpAny_truthy_bool ⟨.bl (!c),H1,I1,rfl,q1⟩)
def tIf (t:TT) (ta tb:TE):TE:=fun σ H Q=>t σ H fun c H1=>if c=true then ta σ H1 Q else tb σ H1 Q
theorem AA6 {c:Expr}(hc:PT X c tA) (ha:PE X a ta) (hb:PE X b tb):PE X (.IfExp c a b pos) (tIf tA ta tb):=by
 intro pins s σ H Q I h
 refine wpAny_IfExp (thn (hc pins s σ H _ I h) fun d s1 ⟨H1,I1,q1⟩=>?_)
 cases d with
 | true=>exact ha pins s1 σ H1 Q I1 q1
 | false=>exact hb pins s1 σ H1 Q I1 q1
end
end L2
namespace L2
open PySem PySem.Spec PyProof.Rows PySem.W
def SqL (K:Frag) (H:Hp) (a:Addr) (xs:List V):Prop :=
 Rd H a (.lst xs) ∨
  ∃ (o:Obj) (its:Array Value) (n:Nat),K.lookup a=some o∧o.cls=.type "list"∧o.dict=none∧o.data=.seq its n∧its.size≤sizeLine∧Vals xs its.toList
def SqT (K:Frag) (H:Hp) (a:Addr) (xs:List V):Prop :=
 Rd H a (.tup xs) ∨
  ∃ (o:Obj) (its:Array Value) (n:Nat),K.lookup a=some o∧o.cls=.type "tuple"∧o.data=.seq its n∧its.size≤sizeLine∧Vals xs its.toList
def BF4:Value→Option V
 | .none=>some .non
 | .bool b=>some (.bl b)
 | .int i _=>some (.int i)
 | .str x _=>some (.str x)
 | .bytes b _=>some (.byt b)
 | .float b _=>some (.flt b)
 | .ref a=>some (.ref a)
 | .type n=>some (.ty n)
 | _=>none
theorem RelV.abs {x:V}{u:Value}(r:RelV x u):BF4 u=some x:=by
 cases x with
 | non=>cases r; rfl
 | bl _=>cases r; rfl
 | int _=>obtain ⟨t,rfl⟩:=r; rfl
 | str _=>obtain ⟨t,rfl⟩:=r; rfl
 | byt _=>obtain ⟨t,rfl⟩:=r; rfl
 | flt _=>obtain ⟨t,rfl⟩:=r; rfl
 | ref _=>cases r; rfl
 | ty _=>cases r; rfl
theorem RelV.inj {x y:V}{u:Value}(r:RelV x u) (q:RelV y u):x=y:=Option.some.inj (r.abs.symm.trans q.abs)
theorem Vals.inj:∀ {xs ys:List V}{us:List Value},Vals xs us→Vals ys us→xs=ys
 | _,_,_,.nil,.nil=>rfl
 | _,_,_,.cons r t,.cons r' t'=>by rw [r.inj r',Vals.inj t t']
section
variable {X:Cx}{pins:List (Addr × Obj)}{σ:St}{H:Hp}{s:Shared}{a:Addr}{xs ys:List V}
theorem SqL.of {K:Frag}(h:H a=some (.lst xs)):SqL K H a xs:=.inl (.inl h)
theorem SqT.of {K:Frag}(h:H a=some (.tup xs)):SqT K H a xs:=.inl (.inl h)
theorem Inv.list (I:Inv X pins σ H s) (h:SqL X.K H a xs):∃ its:List Value,Vals xs its∧PlainL s.heap a its.toArray∧xs.length≤sizeLine:=by
 rcases h with h | ⟨o,its,n,hk,hc,hd,hs,hz,r⟩
 ·obtain ⟨z,its,n,r,e⟩:=h.ok I.hok
  exact ⟨its,r,⟨_,n,e,rfl,rfl,rfl⟩,z⟩
 ·refine ⟨its.toList,r,⟨o,n,I.kIn a o hk,hc,hd,by simpa using hs⟩,?_⟩
  have e:=r.length
  simp only [Array.length_toList] at e
  omega
theorem Inv.tuple (I:Inv X pins σ H s) (h:SqT X.K H a xs):∃ its:List Value,Vals xs its∧IsTup s.heap a its.toArray∧xs.length≤sizeLine:=by
 rcases h with h | ⟨o,its,n,hk,hc,hs,hz,r⟩
 ·obtain ⟨z,its,r,p⟩:=h.ok I.hok
  exact ⟨its,r,p,z⟩
 ·refine ⟨its.toList,r,⟨o,I.kIn a o hk,hc,n,by simpa using hs⟩,?_⟩
  have e:=r.length
  simp only [Array.length_toList] at e
  omega
theorem Inv.list_inj (I:Inv X pins σ H s) (h:SqL X.K H a xs) (h':SqL X.K H a ys):xs=ys:=by
 obtain ⟨its,r,⟨o,n,e,_,_,d⟩,_⟩:=I.list h
 obtain ⟨its',r',⟨o',n',e',_,_,d'⟩,_⟩:=I.list h'
 rw [e] at e'; cases e'
 rw [d] at d'
 injection d' with d1 _
 have:its=its':=by simpa using congrArg Array.toList d1
 subst this
 exact r.inj r'
theorem Inv.tuple_inj (I:Inv X pins σ H s) (h:SqT X.K H a xs) (h':SqT X.K H a ys):xs=ys:=by
 obtain ⟨its,r,⟨o,e,_,n,d⟩,_⟩:=I.tuple h
 obtain ⟨its',r',⟨o',e',_,n',d'⟩,_⟩:=I.tuple h'
 rw [e] at e'; cases e'
 rw [d] at d'
 injection d' with d1 _
 have:its=its':=by simpa using congrArg Array.toList d1
 subst this
 exact r.inj r'
end
abbrev Cx.wish (X:Cx) (E:Value→Shared→Prop):Cx:={ X with xe:=E }
abbrev Cx.nox (X:Cx):Cx:=X.wish fun _ _=>False
theorem Cx.Ok.wish {X:Cx}(ok:X.Ok) (E:Value→Shared→Prop):(X.wish E).Ok :=
 ⟨ok.mod,ok.kind,ok.glob,ok.blt,ok.above,ok.inj,ok.has,ok.cab,ok.hd,ok.frames,ok.stk,ok.exf,ok.bs,ok.bsz,ok.noex,ok.exfs,ok.funs,ok.frf⟩
theorem Cx.Ok.unwish {X:Cx}{E:Value→Shared→Prop}(ok:(X.wish E).Ok):X.Ok :=
 ⟨ok.mod,ok.kind,ok.glob,ok.blt,ok.above,ok.inj,ok.has,ok.cab,ok.hd,ok.frames,ok.stk,ok.exf,ok.bs,ok.bsz,ok.noex,ok.exfs,ok.funs,ok.frf⟩
section
variable {X:Cx}{pins:List (Addr × Obj)}{σ:St}{H:Hp}{s:Shared}{E:Value→Shared→Prop}
theorem Inv.wish (I:Inv X pins σ H s) (E:Value→Shared→Prop):Inv (X.wish E) pins σ H s:=⟨I.ok.wish E,I.os,I.bare,I.base,I.loc,I.cell,I.free,I.freeC,I.pin,I.hok,I.len⟩
theorem Inv.unwish (I:Inv (X.wish E) pins σ H s):Inv X pins σ H s:=⟨I.ok.unwish,I.os,I.bare,I.base,I.loc,I.cell,I.free,I.freeC,I.pin,I.hok,I.len⟩
theorem SP.unwish {D:Ends}{f:Flow}{s':Shared}(h:SP (X.wish E) pins D f s'):SP X pins D f s':=by
 cases f with
 | next=>obtain ⟨σ',H',I,q⟩:=h; exact ⟨σ',H',I.unwish,q⟩
 | brk=>obtain ⟨σ',H',I,q⟩:=h; exact ⟨σ',H',I.unwish,q⟩
 | cont=>obtain ⟨σ',H',I,q⟩:=h; exact ⟨σ',H',I.unwish,q⟩
 | ret u=>obtain ⟨v,σ',H',I,r,q⟩:=h; exact ⟨v,σ',H',I.unwish,r,q⟩
theorem PSs.nox {st:List Stmt}{t:TS}(h:PSs X.nox st t):PSs X st t:=fun pins s σ H D I hw =>
 wpAny_mono (h pins s σ H D (I.wish _) hw) (fun _ _ q=>q.unwish) fun _ _ z=>False.elim z
end
section
variable {X:Cx}{st:Stmt}{rest:List Stmt}{t u:TS}{e:Expr}{te:TE}{pos:Pos}
def AI5:TS:=fun D σ H=>D.nx σ H
def AW8 (t u:TS):TS:=fun D σ H=>t { D with nx:=u D } σ H
theorem AI6:PSs X [] AI5:=fun _ _ σ H _ I h=>wpAny_execs_nil ⟨σ,H,I,h⟩
theorem AA7 (h1:PS X st t) (h2:PSs X rest u):PSs X (st::rest) (AW8 t u):=by
 intro pins s σ H D I h
 refine wpAny_execs_cons (thn (h1 pins s σ H { D with nx:=u D } I h) fun f s1 q=>?_)
 cases f with
 | next =>
  obtain ⟨σ',H',I',q⟩:=q
  exact h2 pins s1 σ' H' D I' q
 | ret v=>exact q
 | brk=>exact q
 | cont=>exact q
theorem gF (h1:PS X st t):PSs X [st] t:=by
 intro pins s σ H D I h
 refine wpAny_execs_cons (thn (h1 pins s σ H D I h) fun f s1 q=>?_)
 cases f with
 | next=>exact wpAny_execs_nil q
 | ret v=>exact q
 | brk=>exact q
 | cont=>exact q
theorem Inv.quiet {pins:List (Addr × Obj)}{σ:St}{H:Hp}{s:Shared}(I:Inv X pins σ H s):interactive X.env=false:=by simp [interactive,I.ok.kind]
def AQ5 (te:TE):TS:=fun D σ H=>te σ H fun _ H1=>D.nx σ H1
theorem eM (he:PE X e te) (hs:swapsWith e none pos.line X.env=pure false:=by rfl):PS X (.Expr e pos) (AQ5 te):=by
 intro pins s σ H D I h
 exact wpAny_Expr_any (thn (he pins s σ H _ I h) fun v s1 ⟨x,H1,I1,r1,q1⟩=>⟨σ,H1,I1,q1⟩) I.quiet hs
def AV6 (te:TE):TS:=fun D σ H=>te σ H D.rt
theorem AQ6 (he:PE X e te):PS X (.Return (some e) pos) (AV6 te):=by
 intro pins s σ H D I h
 exact wpAny_Return_some (thn (he pins s σ H _ I h) fun v s1 ⟨x,H1,I1,r1,q1⟩=>⟨x,σ,H1,I1,r1,q1⟩)
def AW9:TS:=fun D _ H=>D.rt .non H
def AX0 (c:TT) (t u:TS):TS:=fun D σ H=>c σ H fun b H1=>if b=true then t D σ H1 else u D σ H1
theorem AX1 {c:Expr}{a b:List Stmt}{tc:TT}(hc:PT X c tc) (ha:PSs X a t) (hb:PSs X b u):PS X (.If c a b pos) (AX0 tc t u):=by
 intro pins s σ H D I h
 refine wpAny_If (thn (hc pins s σ H _ I h) fun d s1 ⟨H1,I1,q1⟩=>?_)
 cases d with
 | true=>exact ha pins s1 σ H1 D I1 q1
 | false=>exact hb pins s1 σ H1 D I1 q1
def AF5:TS:=fun _ _ _=>False
theorem qC {sts:List Stmt}:PSs X sts AF5:=fun _ _ _ _ _ _ h=>h.elim
end
abbrev TG:=V→St→Hp→(St→Hp→Prop)→Prop
abbrev TGs:=List V→St→Hp→(St→Hp→Prop)→Prop
def PG (X:Cx) (target:Expr) (t:TG):Prop :=
 ∀ (pins:List (Addr × Obj)) (s:Shared) (σ:St) (H:Hp) (v:V) (u:Value) (Q:St→Hp→Prop),Inv X pins σ H s→RelV v u→t v σ H Q →
  wpAny (model X.prog X.w) X.A (assign target X.env u) (fun _ s'=>∃ σ' H',Inv X pins σ' H' s'∧Q σ' H') X.xe s
abbrev AV7:=V→V→V→Hp→(Hp→Prop)→Prop
def BD6 (X:Cx) (t:AV7):Prop :=
 ∀ (pins:List (Addr × Obj)) (s:Shared) (σ:St) (H:Hp) (o i v:V) (ov iv u:Value) (Q:Hp→Prop),Inv X pins σ H s→RelV o ov→RelV i iv→RelV v u→t o i v H Q →
  wpAny (model X.prog X.w) X.A (setItem ov iv u) (fun _ s'=>∃ H',Inv X pins σ H' s'∧Q H') X.xe s
section
variable {X:Cx}{pos:Pos}
def vF (i:Nat):TG:=fun v σ H Q=>Q (σ.set i (some v)) H
theorem dC {i:Nat}{x:Str}(hN:X.N.Nodup) (hi:X.N[i]?=some x) (hx:Loc X.env.scope x) (hf:X.fn x=true∨X.env.scope.names.lookup x=some .local:=by first | exact .inl rfl | exact .inr rfl | assumption):PG X (.Name x pos) (vF i):=by
 intro pins s σ H v u Q I r h
 exact wpAny_assign_Name (lO I hN hi hx r (fun s' I'=>⟨_,H,I',h⟩) hf)
def BF5:TGs:=fun vs σ H Q=>vs=[]∧Q σ H
def AX2 (t:TG) (u:TGs):TGs:=fun vs σ H Q=>∃ v r,vs=v::r∧t v σ H fun σ' H'=>u r σ' H' Q
def BF6 (K:Frag) (n:Nat) (t:TGs):TG:=fun v σ H Q=>∃ a xs,v=.ref a∧SqT K H a xs∧xs.length=n∧t xs σ H Q
def BD7 (to ti:TE) (t:AV7):TG:=fun v σ H Q=>to σ H fun o H1=>ti σ H1 fun i H2=>t o i v H2 fun H3=>Q σ H3
theorem AF6 {o i:Expr}{to ti:TE}{t:AV7}(ho:PE X o to) (hi:PE X i ti) (hs:BD6 X t)
  (ha:∀ v,assign (.Subscript o i pos) X.env v=(do
   let ov ← holding [v] (eval o X.env)
   let iv ← holding [v,ov] (eval i X.env)
   standAt pos
   holding [v,ov,iv] (setItem ov iv v)
   release [v,ov,iv] []):=by intro _; rfl):PG X (.Subscript o i pos) (BD7 to ti t):=by
 intro pins s σ H v u Q I r h
 rw [ha]
 refine wpAny_bind (wpAny_holding (thn (ho pins s σ H _ I h) fun ov s1 ⟨x,H1,I1,r1,q1⟩=>?_))
 refine wpAny_bind (wpAny_holding (thn (hi pins s1 σ H1 _ I1 q1) fun iv s2 ⟨y,H2,I2,r2,q2⟩=>?_))
 refine wpAny_bind (wpAny_standAt (wpAny_bind (wpAny_holding (thn (hs pins s2 σ H2 x y v ov iv u _ I2 r1 r2 r q2) fun _ s3 ⟨H3,I3,q3⟩=>?_))))
 exact wpAny_release ⟨σ,H3,I3,q3⟩
def AP3 (te:TE) (g:TG):TS:=fun D σ H=>te σ H fun x H1=>g x σ H1 D.nx
theorem AF7 {tg e:Expr}{te:TE}{g:TG}(he:PE X e te) (hg:PG X tg g) (hs:swapsWithSole [tg] e pos.line X.env=pure false:=by rfl) (hw:swappedStores [tg] e X.env=pure none:=by rfl)
  (h1:(assignEach [tg] X.env).map (·.2)=[assign tg X.env]:=by rfl):PS X (.Assign [tg] e pos) (AP3 te g):=by
 intro pins s σ H D I h
 refine wpAny_Assign_stores (thn (he pins s σ H _ I h) fun v s1 ⟨x,H1,I1,r1,q1⟩=>?_) hs hw
 rw [h1]
 exact thn (hg pins s1 σ H1 x v _ I1 r1 q1) fun _ s2 q=>q
theorem AQ7 {i:Nat}{x:Str}{e:Expr}{te:TE}{pos':Pos}(hN:X.N.Nodup) (hi:X.N[i]?=some x) (hx:Loc X.env.scope x) (he:PE X e te) (hs:swapsWith e (some (.Name x pos')) pos.line X.env=pure false:=by rfl) (hf:X.fn x=true∨X.env.scope.names.lookup x=some .local:=by first | exact .inl rfl | exact .inr rfl | assumption) :
  PS X (.Assign [.Name x pos'] e pos) (AP3 te (vF i)):=by
 intro pins s σ H D I h
 refine wpAny_Assign_Name (thn (he pins s σ H _ I h) fun v s1 ⟨y,H1,I1,r1,q1⟩=>?_) hs
 exact lO I1 hN hi hx r1 (fun s2 I2=>⟨_,H1,I2,q1⟩) hf
end
section
variable {X:Cx}{pos:Pos}
def AF8 (c:TT) (tb:TS):TS:=fun D σ H=>∃ W:Nat→St→Hp→Prop,(∃ m,W m σ H)∧∀ m σ H,W m σ H →
 c σ H fun b H1=>if b=true then ∃ N:St→Hp→Prop,(∀ σ' H',N σ' H'→∃ m',m' < m∧W m' σ' H')∧tb { D with nx:=N,ct:=N,bk:=D.nx } σ H1 else D.nx σ H1
theorem lP {c:Expr}{body:List Stmt}{tc:TT}{tb:TS}(hp:PassesOwn (model X.prog X.w) X.A X.env X.xe) (hc:PT X c tc) (hb:PSs X body tb):PS X (.While c body [] pos) (AF8 tc tb):=by
 intro pins s σ H D I h
 obtain ⟨W,⟨m0,w0⟩,turn⟩:=h
 refine wpAny_While (codeAny_whileLoop (fun n s'=>∃ σ' H',Inv X pins σ' H' s'∧W n σ' H') ?_ m0 ⟨σ,H,I,w0⟩)
 rintro n s1 ⟨σ1,H1,I1,w1⟩
 refine wpAny_passesOwn hp (thn (hc pins s1 σ1 H1 _ I1 (turn n σ1 H1 w1)) fun b s2 ⟨H2,I2,q2⟩=>?_)
 cases b with
 | true =>
  obtain ⟨N,hN,q2⟩:=q2
  rw [if_pos rfl]
  refine wpAny_passesOwn hp (thn (hb pins s2 σ1 H2 _ I2 q2) fun f s3 q3=>?_)
  cases f with
  | next =>
   obtain ⟨σ3,H3,I3,n3⟩:=q3
   obtain ⟨m',hm,w3⟩:=hN σ3 H3 n3
   exact ⟨m',hm,σ3,H3,I3,w3⟩
  | cont =>
   obtain ⟨σ3,H3,I3,n3⟩:=q3
   obtain ⟨m',hm,w3⟩:=hN σ3 H3 n3
   exact ⟨m',hm,σ3,H3,I3,w3⟩
  | brk=>exact q3
  | ret v=>exact q3
 | false =>
  rw [if_neg Bool.false_ne_true]
  exact wpAny_execs_nil ⟨σ1,H2,I2,q2⟩
end
structure It where
 go:Nat→Hp→Prop
 yld:Nat→Hp→V→Hp→Prop
 stop:Nat→Hp→Prop
def AF9 (X:Cx) (pins:List (Addr × Obj)) (H:Hp) (b:Addr):Prop :=
 H b=none∧b≠X.env.locals∧b ∉ X.fs∧(b∈X.ex∨X.s₀.heap.objs.size≤b)∧(∀ x c,X.env.cells.lookup x=some c→c≠b)∧∀ p∈X.pn++pins,p.1≠b
theorem Inv.fpOk {X:Cx}{pins:List (Addr × Obj)}{σ:St}{H H':Hp}{s:Shared}{b:Addr}(I:Inv X pins σ H s) (hb:s.heap.objs.size≤b) (hn:H' b=none):AF9 X pins H' b:=by
 refine ⟨hn,Nat.ne_of_gt (Nat.lt_of_lt_of_le I.lt hb),I.nofs hb,.inr (Nat.le_trans I.sz hb),fun x c e z=>?_,fun p hp z=>?_⟩
 ·obtain ⟨v,q⟩:=I.cell x c e
  exact absurd (Nat.lt_of_lt_of_le q.lt (by rw [z]; exact hb)) (Nat.lt_irrefl _)
 ·exact absurd (Nat.lt_of_lt_of_le (Heap.lt_size (I.pin p hp).1) (by rw [z]; exact hb)) (Nat.lt_irrefl _)
structure Turn (P:Program) (w:World) (K:Frag) (tg:Expr) (J:It) (fp:List Addr) (it:Addr) (tn:Nat→Heap→Prop):Prop where
 mem:it∈fp
 obj:∀ i h,tn i h→∀ b∈fp,∃ o,h.get? b=some o∧∀ v,o.data≠.cell v
 keep:∀ i h h',tn i h→(∀ b∈fp,∀ o,h.get? b=some o→h'.get? b=some o)→tn i h'
 item:∀ (X:Cx),X.prog=P→X.w=w→X.K=K→X.calm=true→∀ (i:Nat) (pins:List (Addr × Obj)) (s:Shared) (σ:St) (H:Hp) (E:Value→Shared→Prop),Inv X pins σ H s→(∀ b∈fp,AF9 X pins H b)→tn i s.heap→J.go i H →
  wpAny (model P w) X.A (pyNext (.ref it)) (fun r s1=>∃ u,r=some u ∧
   wpAny (model P w) X.A (letOwnedTupleGo tg (.ref it) u) (fun _ s2=>∃ x H',Inv X pins σ H' s2∧RelV x u∧J.yld i H x H'∧tn (i+1) s2.heap∧∀ b∈fp,H' b=none) E s1) E s
 done:∀ (X:Cx),X.prog=P→X.w=w→X.K=K→X.calm=true→∀ (i:Nat) (pins:List (Addr × Obj)) (s:Shared) (σ:St) (H:Hp) (E:Value→Shared→Prop),Inv X pins σ H s→(∀ b∈fp,AF9 X pins H b)→tn i s.heap→J.stop i H →
  wpAny (model P w) X.A (pyNext (.ref it)) (fun r s1=>r=none∧Inv X pins σ H s1) E s
 self:∀ (A:Around) (i:Nat) (s:Shared) (Q:Value→Shared→Prop) (E:Value→Shared→Prop),tn i s.heap→Q (.ref it) s→wpAny (model P w) A (pyIter (.ref it)) Q E s
abbrev TI:=St→Hp→(It→Hp→Prop)→Prop
def PIE (X:Cx) (pins:List (Addr × Obj)) (σ:St) (tg:Expr) (R:It→Hp→Prop) (itv:Value) (s2:Shared):Prop :=
 ∃ (it:Addr) (fp:List Addr) (tn:Nat→Heap→Prop) (J:It) (H':Hp),itv=.ref it∧Inv X pins σ H' s2∧Turn X.prog X.w X.K tg J fp it tn∧tn 0 s2.heap∧(∀ b∈fp,AF9 X pins H' b)∧R J H'
def PI (X:Cx) (tg iter:Expr) (wi:TI):Prop :=
 ∀ (pins:List (Addr × Obj)) (s:Shared) (σ:St) (H:Hp) (R:It→Hp→Prop),Inv X pins σ H s→wi σ H R →
  wpAny (model X.prog X.w) X.A (eval iter X.env) (fun v s1=>wpAny (model X.prog X.w) X.A (pyIter v) (PIE X pins σ tg R) X.xe s1) X.xe s
theorem AA8 {M:Model}{A:Around}{E:Value→Shared→Prop}{s:Shared}{tg:Expr}{it:Addr}{u:Value}{o:Obj}{n:String}{vs:Array Value}{Q:Unit→Shared→Prop}(ho:s.heap.get? it=some o) (hc:o.cls=.type n) (hd:o.data=.fields vs)
    (hn:["enumerate","zip","dict_itemiterator","dict_reverseitemiterator","odict_iterator","itertools.zip_longest","itertools.pairwise"].contains n=false) (hQ:Q () s):wpAny M A (letOwnedTupleGo tg (.ref it) u) Q E s:=by
  unfold letOwnedTupleGo
  cases tg <;> first
    | exact wpAny_pure hQ
    | (cases u <;> first
        | exact wpAny_pure hQ
        | (refine wpAny_bind (wpAny_load ho ?_)
           rw [hc,hd]
           show wpAny M A (if (["enumerate","zip","dict_itemiterator","dict_reverseitemiterator","odict_iterator","itertools.zip_longest","itertools.pairwise"].contains n && vs[0]? == some (rawInt _))=true then _ else _) Q E s
           rw [if_neg (by intro h; rw [hn,Bool.false_and] at h; cases h)]
           exact wpAny_pure hQ))
def Itl (K:Frag) (a:Addr):It :=
 ⟨fun i H=>∃ xs x,SqL K H a xs∧xs[i]?=some x,fun i H x H'=>H'=H∧∀ xs,SqL K H a xs→xs[i]?=some x,fun i H=>∃ xs,SqL K H a xs∧xs.length≤i⟩
def Itt (K:Frag) (a:Addr):It :=
 ⟨fun i H=>∃ xs x,SqT K H a xs∧xs[i]?=some x,fun i H x H'=>H'=H∧∀ xs,SqT K H a xs→xs[i]?=some x,fun i H=>∃ xs,SqT K H a xs∧xs.length≤i⟩
def Itr (lo:Int) (n:Nat):It:=⟨fun i _=>i < n,fun i H x H'=>H'=H∧x=.int (lo+i),fun i _=>n≤i⟩
theorem wL {P:Program}{w:World}{K:Frag}{tg:Expr}(a it:Addr):Turn P w K tg (Itl K a) [it] it (fun i h=>h.IsListIter it a i) where
 mem:=by simp
 obj:=fun i h st b hb=>by
  have e:b=it:=by simpa using hb
  subst e
  obtain ⟨o,e,c,d⟩:=st
  exact ⟨o,e,fun v z=>by rw [d] at z; cases z⟩
 keep:=fun i h h' st k=>st.at fun o e=>k it (by simp) o e
 item:=by
  intro X hP hw hK hc i pins s σ H E I hf st hg
  subst hP hw hK
  obtain ⟨xs,x,hq,hx⟩:=hg
  obtain ⟨its,rv,p,hz⟩:=I.list hq
  obtain ⟨u,hu,ru⟩:=rv.get hx
  obtain ⟨f0,f1,f2,f3,f4,f5⟩:=hf it (by simp)
  refine wpAny_pyNext_list_item st p.isList (x:=u) (by simpa using hu) fun h' st' sb=>?_
  have I1:Inv X pins σ H { s with heap:=h' }:=I.turned (t':=s.toks) (fun b o hb e=>(sb.2 b hb).trans e) f0 f1 f3 f4 f5
  obtain ⟨o,e,c,d⟩:=id st'
  exact ⟨u,rfl,AA8 (s:={ s with heap:=h' }) e c d (by decide) ⟨x,H,I1,ru,⟨rfl,fun ys hy=>by rw [I.list_inj hy hq]; exact hx⟩,st',fun b hb=>(hf b hb).1⟩⟩
 done:=by
  intro X hP hw hK hc i pins s σ H E I hf st hg
  subst hP hw hK
  obtain ⟨xs,hq,hx⟩:=hg
  obtain ⟨its,rv,p,hz⟩:=I.list hq
  obtain ⟨f0,f1,f2,f3,f4,f5⟩:=hf it (by simp)
  have hl:=rv.length
  exact wpAny_pyNext_list_end (I.ok.hd hc) st p.isList (by simp; omega) fun h' eb=>⟨rfl,I.turned (t':=s.toks) (fun b o hb e=>eb b o hb e) f0 f1 f3 f4 f5⟩
 self:=fun _ _ _ _ _ st h=>wpAny_pyIter_listiter st h
theorem vG {P:Program}{w:World}{K:Frag}{tg:Expr}(a it:Addr):Turn P w K tg (Itt K a) [it] it (fun i h=>h.IsTupleIter it a i) where
 mem:=by simp
 obj:=fun i h st b hb=>by
  have e:b=it:=by simpa using hb
  subst e
  obtain ⟨o,e,c,d⟩:=st
  exact ⟨o,e,fun v z=>by rw [d] at z; cases z⟩
 keep:=fun i h h' st k=>st.at fun o e=>k it (by simp) o e
 item:=by
  intro X hP hw hK hc i pins s σ H E I hf st hg
  subst hP hw hK
  obtain ⟨xs,x,hq,hx⟩:=hg
  obtain ⟨its,rv,p,hz⟩:=I.tuple hq
  obtain ⟨u,hu,ru⟩:=rv.get hx
  obtain ⟨f0,f1,f2,f3,f4,f5⟩:=hf it (by simp)
  refine wpAny_pyNext_tuple_item st (show s.heap.IsTuple a its.toArray from p) (x:=u) (by simpa using hu) fun h' st' sb=>?_
  have I1:Inv X pins σ H { s with heap:=h' }:=I.turned (t':=s.toks) (fun b o hb e=>(sb.2 b hb).trans e) f0 f1 f3 f4 f5
  obtain ⟨o,e,c,d⟩:=id st'
  exact ⟨u,rfl,AA8 (s:={ s with heap:=h' }) e c d (by decide) ⟨x,H,I1,ru,⟨rfl,fun ys hy=>by rw [I.tuple_inj hy hq]; exact hx⟩,st',fun b hb=>(hf b hb).1⟩⟩
 done:=by
  intro X hP hw hK hc i pins s σ H E I hf st hg
  subst hP hw hK
  obtain ⟨xs,hq,hx⟩:=hg
  obtain ⟨its,rv,p,hz⟩:=I.tuple hq
  obtain ⟨f0,f1,f2,f3,f4,f5⟩:=hf it (by simp)
  have hl:=rv.length
  exact wpAny_pyNext_tuple_end (I.ok.hd hc) st (show s.heap.IsTuple a its.toArray from p) (by simp; omega) fun h' eb=>⟨rfl,I.turned (t':=s.toks) (fun b o hb e=>eb b o hb e) f0 f1 f3 f4 f5⟩
 self:=fun _ _ _ _ _ st h=>wpAny_pyIter_tupleiter st h
theorem vH {P:Program}{w:World}{K:Frag}{tg:Expr}(it:Addr) (lo:Int) (n:Nat):Turn P w K tg (Itr lo n) [it] it (fun i h=>IsRangeIter h it (lo+(i:Nat) * 1) ((n:Int) - (i:Nat)) 1) where
 mem:=by simp
 obj:=fun i h st b hb=>by
  have e:b=it:=by simpa using hb
  subst e
  exact ⟨_,st,fun v z=>by
   have z':Data.fields _=Data.cell v:=z
   cases z'⟩
 keep:=fun i h h' st k=>k it (by simp) _ st
 item:=by
  intro X hP hw hK hc i pins s σ H E I hf st hg
  subst hP hw hK
  obtain ⟨f0,f1,f2,f3,f4,f5⟩:=hf it (by simp)
  have W:=Walks.range (prog:=X.prog) (w:=X.w) (I.ok.hd hc) it lo 1 n
  refine W.item i s _ _ hg st fun v h' tk hv st' kk=>?_
  obtain ⟨t,rfl⟩:=hv
  have I1:Inv X pins σ H { s with heap:=h',toks:=tk }:=I.turned (fun b o hb e=>kk b o (by simpa using hb) e) f0 f1 f3 f4 f5
  refine ⟨_,rfl,AA8 (s:={ s with heap:=h',toks:=tk }) (n:="range_iterator") st' rfl rfl (by decide) ⟨.int (lo+i),H,I1,⟨t,?_⟩,⟨rfl,rfl⟩,st',fun b hb=>(hf b hb).1⟩⟩
  rw [Int.mul_one]
 done:=by
  intro X hP hw hK hc i pins s σ H E I hf st hg
  subst hP hw hK
  obtain ⟨f0,f1,f2,f3,f4,f5⟩:=hf it (by simp)
  exact wpAny_pyNext_range_end (I.ok.hd hc) st (by have:n≤i:=hg; omega) fun h' eb=>⟨rfl,I.turned (t':=s.toks) (fun b o hb e=>eb b o hb e) f0 f1 f3 f4 f5⟩
 self:=fun _ _ _ _ _ st h=>wpAny_pyIter_rangeiter st h
end L2
namespace L2
open PySem PySem.Spec PyProof.Rows PySem.W
section
variable {X:Cx}{tg:Expr}
def AI7 (K:Frag) (tl:TE):TI:=fun σ H R=>tl σ H fun x H1=>∃ a,x=.ref a∧(∃ xs,SqL K H1 a xs)∧R (Itl K a) H1
def AX3 (K:Frag) (tl:TE):TI:=fun σ H R=>tl σ H fun x H1=>∃ a,x=.ref a∧(∃ xs,SqT K H1 a xs)∧R (Itt K a) H1
theorem kF {l:Expr}{tl:TE}(hl:PE X l tl):PI X tg l (AI7 X.K tl):=by
 intro pins s σ H R I h
 refine thn (hl pins s σ H _ I h) fun v s1 ⟨x,H1,I1,r1,q1⟩=>?_
 obtain ⟨a,e,⟨xs,hq⟩,q⟩:=q1
 subst e
 cases r1
 obtain ⟨its,rv,p,hz⟩:=I1.list hq
 refine wpAny_pyIter_list p.isList ?_
 refine ⟨s1.heap.objs.size,[s1.heap.objs.size],_,_,H1,rfl,I1.kept (t':=s1.toks) fun b o e=>Heap.get?_push_of_some _ e,wL a _,⟨_,Heap.get?_push_size _ rfl,rfl,rfl⟩,fun b hb=>?_,q⟩
 have e:b=s1.heap.objs.size:=by simpa using hb
 subst e
 exact I1.fpOk (Nat.le_refl _) (I1.hok.fresh (Nat.le_refl _))
theorem wM {l:Expr}{tl:TE}(hl:PE X l tl):PI X tg l (AX3 X.K tl):=by
 intro pins s σ H R I h
 refine thn (hl pins s σ H _ I h) fun v s1 ⟨x,H1,I1,r1,q1⟩=>?_
 obtain ⟨a,e,⟨xs,hq⟩,q⟩:=q1
 subst e
 cases r1
 obtain ⟨its,rv,p,hz⟩:=I1.tuple hq
 refine wpAny_pyIter_tuple (show s1.heap.IsTuple a its.toArray from p) ?_
 refine ⟨s1.heap.objs.size,[s1.heap.objs.size],_,_,H1,rfl,I1.kept (t':=s1.toks) fun b o e=>Heap.get?_push_of_some _ e,vG a _,⟨_,Heap.get?_push_size _ rfl,rfl,rfl⟩,fun b hb=>?_,q⟩
 have e:b=s1.heap.objs.size:=by simpa using hb
 subst e
 exact I1.fpOk (Nat.le_refl _) (I1.hok.fresh (Nat.le_refl _))
theorem AA9 {pins:List (Addr × Obj)}{σ:St}{H:Hp}{s:Shared}{R:It→Hp→Prop}{E:Value→Shared→Prop}{lo hi:Int}{t u v:Tok}{tk:Nat}(I:Inv X pins σ H s) (h1:-(2 ^ 62)≤lo) (h2:lo < 2 ^ 62) (h3:-(2 ^ 62)≤hi) (h4:hi < 2 ^ 62)
  (q:R (Itr lo (hi - lo).toNat) H):wpAny (model X.prog X.w) X.A (pyIter (.ref s.heap.objs.size)) (PIE X pins σ tg R) E { s with heap:=s.heap.push { cls:=.type "range",data:=.fields #[.int lo t,.int hi u,.int 1 v] },toks:=tk }:=by
 refine wpAny_pyIter_range (IsRange.new ..) (small_one h1 h2 h3 h4) ?_
 have I1:Inv X pins σ H { s with heap:=s.heap.push { cls:=.type "range",data:=.fields #[.int lo t,.int hi u,.int 1 v] },toks:=tk }:=I.kept fun b o e=>Heap.get?_push_of_some _ e
 refine ⟨(s.heap.push { cls:=.type "range",data:=.fields #[.int lo t,.int hi u,.int 1 v] }).objs.size,[(s.heap.push { cls:=.type "range",data:=.fields #[.int lo t,.int hi u,.int 1 v] }).objs.size],_,_,H,rfl,
  I1.kept (t':=tk) fun b o e=>Heap.get?_push_of_some _ e,vH _ lo (hi - lo).toNat,?_,fun b hb=>?_,q⟩
 ·have e1:lo+((0:Nat):Int) * 1=lo:=by simp
  have e2:(((hi - lo).toNat:Nat):Int) - ((0:Nat):Int)=Builtin.Range.rangeSize lo hi 1:=by rw [rangeSize_one]; split <;> omega
  show IsRangeIter _ _ (lo+((0:Nat):Int) * 1) ((((hi - lo).toNat:Nat):Int) - ((0:Nat):Int)) 1
  rw [e1,e2]
  exact Heap.get?_push_size _ rfl
 ·have e:b=(s.heap.push { cls:=.type "range",data:=.fields #[.int lo t,.int hi u,.int 1 v] }).objs.size:=by simpa using hb
  subst e
  exact I1.fpOk (Nat.le_refl _) (I1.hok.fresh (Nat.le_refl _))
def AI8 (ta:TA):TI:=fun σ H R=>ta σ H fun vs H1=>∃ j:Int,vs=[.int j]∧-(2 ^ 62)≤j∧j < 2 ^ 62∧R (Itr 0 j.toNat) H1
def AQ8 (ta:TA):TI:=fun σ H R=>ta σ H fun vs H1=>∃ i j:Int,vs=[.int i,.int j]∧(-(2 ^ 62)≤i∧i < 2 ^ 62∧-(2 ^ 62)≤j∧j < 2 ^ 62)∧R (Itr i (j - i).toNat) H1
theorem gY {a:Expr}{ta:TA}{p pos:Pos}(hg:Gl X "range") (hm:X.mg "range"=none) (ha:PA X [a] ta) (hs:starEach [a] X.env=[(false,eval a X.env)]:=by rfl):PI X tg (.Call (.Name "range" p) [a] [] pos) (AI8 ta):=by
 intro pins s σ H R I h
 refine Call_ (tZ I hg hm boot_range (PyProof.Rows.callWith_type1 (thn (ha pos pins s σ H _ I h) fun us s1 ⟨vs,H1,I1,r1,q1⟩=>?_) hs rfl))
 obtain ⟨j,e,q1,q2,q⟩:=q1
 subst e
 cases r1 with
 | cons r rr =>
  cases rr
  obtain ⟨t,rfl⟩:=r
  exact call_range_1 (AA9 I1 (by omega) (by omega) q1 q2 (by simpa using q))
def AP4 (wi:TI) (g:TG) (tb:TS):TS:=fun D σ H=>wi σ H fun J H1=>∃ W:Nat→Nat→St→Hp→Prop,(∃ m,W 0 m σ H1)∧∀ i m σ H,W i m σ H →
 (J.stop i H∧D.nx σ H)∨(J.go i H∧∃ N:St→Hp→Prop,(∀ σ' H',N σ' H'→∃ m',m' < m∧W (i+1) m' σ' H')∧∀ x H',J.yld i H x H'→g x σ H' fun σ2 H2=>tb { D with nx:=N,ct:=N,bk:=D.nx } σ2 H2)
def jI (fp:List Addr) (h:Heap):List (Addr × Obj):=fp.filterMap fun b=>(h.get? b).map fun o=>(b,o)
theorem iD {fp:List Addr}{h:Heap}{b:Addr}{o:Obj}(hb:b∈fp) (e:h.get? b=some o):(b,o)∈jI fp h:=List.mem_filterMap.mpr ⟨b,hb,by rw [e]; rfl⟩
theorem qD {fp:List Addr}{h:Heap}{p:Addr × Obj}(hp:p∈jI fp h):p.1∈fp∧h.get? p.1=some p.2:=by
 obtain ⟨b,hb,e⟩:=List.mem_filterMap.mp hp
 cases q:h.get? b with
 | none=>rw [q] at e; cases e
 | some o =>
  rw [q] at e
  have e':(b,o)=p:=Option.some.inj e
  subst e'
  exact ⟨hb,q⟩
theorem Inv.pinned {pins:List (Addr × Obj)}{σ:St}{H:Hp}{s:Shared}{fp:List Addr}(I:Inv X pins σ H s) (hf:∀ b∈fp,AF9 X pins H b) (ho:∀ b∈fp,∃ o,s.heap.get? b=some o∧∀ v,o.data≠.cell v):Inv X (pins++jI fp s.heap) σ H s :=
 I.pins_of fun p hp=>(List.mem_append.mp hp).elim (fun z=>I.pin p (List.mem_append_right _ z)) fun z=>by
  obtain ⟨hb,e⟩:=qD z
  obtain ⟨f0,f1,f2,_⟩:=hf p.1 hb
  obtain ⟨o,e',d⟩:=ho p.1 hb
  rw [e] at e'; cases e'
  exact ⟨e,f0,f1,f2,d⟩
theorem Inv.unpinned {pins pl:List (Addr × Obj)}{σ:St}{H:Hp}{s:Shared}(I:Inv X (pins++pl) σ H s):Inv X pins σ H s:=I.pins_of fun p hp=>I.pin p (List.mem_append_right _ (List.mem_append_left _ hp))
theorem uB {iter:Expr}{body:List Stmt}{wi:TI}{g:TG}{tb:TS}{pos:Pos}(hp:PassesOwn (model X.prog X.w) X.A X.env X.xe) (hc:X.calm=true) (hi:PI X tg iter wi) (hg:PG X tg g) (hb:PSs X body tb)
  (hs:∀ x,foldedSetIterable iter X.env x=pure x:=by intro _; rfl):PS X (.For tg iter body [] pos) (AP4 wi g tb):=by
 intro pins s σ H D I h
 refine wpAny_For (thn (hi pins s σ H _ I h) fun v s1 h1=>thn h1 fun itv s2 h2=>?_) hs
 obtain ⟨it,fp,tn,J,H2,e,I2,T,st2,f2,W,⟨m0,w0⟩,turn⟩:=h2
 subst e
 -- what stays true of the iterator's objects through the loop
 have stat:∀ {H':Hp},(∀ b∈fp,H' b=none)→∀ b∈fp,AF9 X pins H' b:=fun hn b hb=>⟨hn b hb,(f2 b hb).2⟩
 refine codeAny_forLoop_any (fun n s'=>∃ i σ' H',Inv X pins σ' H' s'∧tn i s'.heap∧(∀ b∈fp,H' b=none)∧W i n σ' H') ?_ m0 ⟨0,σ,H2,I2,st2,fun b hb=>(f2 b hb).1,w0⟩
 rintro n s3 ⟨i,σ3,H3,I3,st3,fr3,w3⟩
 rcases turn i n σ3 H3 w3 with ⟨stop,qn⟩ | ⟨go,N,hN,step⟩
 ·refine wpAny_passesOwn hp (thn (T.done X rfl rfl rfl hc i pins s3 σ3 H3 X.xe I3 (stat fr3) st3 stop) fun r s4 ⟨hr,I4⟩=>?_)
  subst hr
  exact wpAny_execs_nil ⟨σ3,H3,I4,qn⟩
 ·refine wpAny_passesOwn hp (thn (T.item X rfl rfl rfl hc i pins s3 σ3 H3 X.xe I3 (stat fr3) st3 go) fun r s4 ⟨u,hr,h4⟩=>?_)
  subst hr
  refine wpAny_passesOwn hp (thn h4 fun _ s5 ⟨x,H5,I5,r5,y5,st5,fr5⟩=>?_)
  have I5':=I5.pinned (stat fr5) (T.obj _ _ st5)
  refine wpAny_passesOwn hp (thn (hg _ s5 σ3 H5 x u _ I5' r5 (step x H5 y5)) fun _ s6 ⟨σ6,H6,I6,q6⟩=>?_)
  refine wpAny_passesOwn hp (thn (hb _ s6 σ6 H6 _ I6 q6) fun f s7 q7=>?_)
  have again:∀ {σ7:St}{H7:Hp},Inv X (pins++jI fp s5.heap) σ7 H7 s7→N σ7 H7→∃ m,m < n∧∃ i σ' H',Inv X pins σ' H' s7∧tn i s7.heap∧(∀ b∈fp,H' b=none)∧W i m σ' H':=fun {σ7 H7} I7 n7=>by
   obtain ⟨m',hm,w7⟩:=hN σ7 H7 n7
   refine ⟨m',hm,i+1,σ7,H7,I7.unpinned,T.keep _ _ _ st5 fun b hb o e=>(I7.pin (b,o) (List.mem_append_right _ (List.mem_append_right _ (iD hb e)))).1,fun b hb=>?_,w7⟩
   obtain ⟨o,e,d⟩:=T.obj _ _ st5 b hb
   exact (I7.pin (b,o) (List.mem_append_right _ (List.mem_append_right _ (iD hb e)))).2.1
  cases f with
  | next=>obtain ⟨σ7,H7,I7,n7⟩:=q7; exact again I7 n7
  | cont=>obtain ⟨σ7,H7,I7,n7⟩:=q7; exact again I7 n7
  | brk=>obtain ⟨σ7,H7,I7,q7⟩:=q7; exact ⟨σ7,H7,I7.unpinned,q7⟩
  | ret v=>obtain ⟨x7,σ7,H7,I7,r7,q7⟩:=q7; exact ⟨x7,σ7,H7,I7.unpinned,r7,q7⟩
end
theorem AB0 {K:Frag}{a:Addr}{xs:List V}{g:TG}{tb:TS}{D:Ends}{σ:St}{H:Hp}(Pv:Nat→St→Hp→Prop) (h0:Pv 0 σ H) (hl:∀ i σ H,i≤xs.length→Pv i σ H→SqL K H a xs)
  (hs:∀ i x σ H,xs[i]?=some x→Pv i σ H→g x σ H fun σ2 H2=>tb { D with nx:=Pv (i+1),ct:=Pv (i+1),bk:=D.nx } σ2 H2) (hd:∀ σ H,Pv xs.length σ H→D.nx σ H) :
  ∃ W:Nat→Nat→St→Hp→Prop,(∃ m,W 0 m σ H)∧∀ i m σ H,W i m σ H →
   ((Itl K a).stop i H∧D.nx σ H)∨((Itl K a).go i H∧∃ N:St→Hp→Prop,(∀ σ' H',N σ' H'→∃ m',m' < m∧W (i+1) m' σ' H')∧∀ x H',(Itl K a).yld i H x H'→g x σ H' fun σ2 H2=>tb { D with nx:=N,ct:=N,bk:=D.nx } σ2 H2):=by
 refine ⟨fun i m σ H=>m=xs.length - i∧i≤xs.length∧Pv i σ H,⟨xs.length,by simp,Nat.zero_le _,h0⟩,?_⟩
 rintro i m σ H ⟨rfl,hi,p⟩
 have q:=hl i σ H hi p
 by_cases hlt:i < xs.length
 ·refine .inr ⟨⟨xs,xs[i],q,by simp [hlt]⟩,Pv (i+1),fun σ' H' p'=>⟨xs.length - (i+1),by omega,rfl,hlt,p'⟩,fun x H' y=>?_⟩
  obtain ⟨e,y⟩:=y
  subst e
  exact hs i x σ _ (y xs q) p
 ·have e:i=xs.length:=by omega
  subst e
  exact .inl ⟨⟨xs,q,Nat.le_refl _⟩,hd σ H p⟩
theorem AI9 {K:Frag}{a:Addr}{xs:List V}{g:TG}{tb:TS}{D:Ends}{σ:St}{H:Hp}(Pv:Nat→St→Hp→Prop) (h0:Pv 0 σ H) (hl:∀ i σ H,i≤xs.length→Pv i σ H→SqT K H a xs)
  (hs:∀ i x σ H,xs[i]?=some x→Pv i σ H→g x σ H fun σ2 H2=>tb { D with nx:=Pv (i+1),ct:=Pv (i+1),bk:=D.nx } σ2 H2) (hd:∀ σ H,Pv xs.length σ H→D.nx σ H) :
  ∃ W:Nat→Nat→St→Hp→Prop,(∃ m,W 0 m σ H)∧∀ i m σ H,W i m σ H →
   ((Itt K a).stop i H∧D.nx σ H)∨((Itt K a).go i H∧∃ N:St→Hp→Prop,(∀ σ' H',N σ' H'→∃ m',m' < m∧W (i+1) m' σ' H')∧∀ x H',(Itt K a).yld i H x H'→g x σ H' fun σ2 H2=>tb { D with nx:=N,ct:=N,bk:=D.nx } σ2 H2):=by
 refine ⟨fun i m σ H=>m=xs.length - i∧i≤xs.length∧Pv i σ H,⟨xs.length,by simp,Nat.zero_le _,h0⟩,?_⟩
 rintro i m σ H ⟨rfl,hi,p⟩
 have q:=hl i σ H hi p
 by_cases hlt:i < xs.length
 ·refine .inr ⟨⟨xs,xs[i],q,by simp [hlt]⟩,Pv (i+1),fun σ' H' p'=>⟨xs.length - (i+1),by omega,rfl,hlt,p'⟩,fun x H' y=>?_⟩
  obtain ⟨e,y⟩:=y
  subst e
  exact hs i x σ _ (y xs q) p
 ·have e:i=xs.length:=by omega
  subst e
  exact .inl ⟨⟨xs,q,Nat.le_refl _⟩,hd σ H p⟩
theorem wN {lo:Int}{n:Nat}{g:TG}{tb:TS}{D:Ends}{σ:St}{H:Hp}(Pv:Nat→St→Hp→Prop) (h0:Pv 0 σ H)
  (hs:∀ i σ H,i < n→Pv i σ H→g (.int (lo+i)) σ H fun σ2 H2=>tb { D with nx:=Pv (i+1),ct:=Pv (i+1),bk:=D.nx } σ2 H2) (hd:∀ σ H,Pv n σ H→D.nx σ H) :
  ∃ W:Nat→Nat→St→Hp→Prop,(∃ m,W 0 m σ H)∧∀ i m σ H,W i m σ H →
   ((Itr lo n).stop i H∧D.nx σ H)∨((Itr lo n).go i H∧∃ N:St→Hp→Prop,(∀ σ' H',N σ' H'→∃ m',m' < m∧W (i+1) m' σ' H')∧∀ x H',(Itr lo n).yld i H x H'→g x σ H' fun σ2 H2=>tb { D with nx:=N,ct:=N,bk:=D.nx } σ2 H2):=by
 refine ⟨fun i m σ H=>m=n - i∧i≤n∧Pv i σ H,⟨n,by simp,Nat.zero_le _,h0⟩,?_⟩
 rintro i m σ H ⟨rfl,hi,p⟩
 by_cases hlt:i < n
 ·refine .inr ⟨hlt,Pv (i+1),fun σ' H' p'=>⟨n - (i+1),by omega,rfl,hlt,p'⟩,fun x H' y=>?_⟩
  obtain ⟨e,y⟩:=y
  subst e y
  exact hs i σ _ hlt p
 ·have e:i=n:=by omega
  subst e
  exact .inl ⟨Nat.le_refl _,hd σ H p⟩
end L2
namespace L2
open PySem PySem.Spec PyProof.Rows PySem.W
abbrev R2:=V→V→Hp→VK→Prop
def OpR (X:Cx) (f:Value→Value→Sem Value) (r:R2):Prop :=
 ∀ (pins:List (Addr × Obj)) (s:Shared) (σ:St) (H:Hp) (x y:V) (v u:Value) (Q:VK),Inv X pins σ H s→RelV x v→RelV y u→r x y H Q →
  wpAny (model X.prog X.w) X.A (f v u) (EP X pins σ Q) X.xe s
def UnR (X:Cx) (f:Value→Sem Value) (r:V→Hp→VK→Prop):Prop :=
 ∀ (pins:List (Addr × Obj)) (s:Shared) (σ:St) (H:Hp) (x:V) (v:Value) (Q:VK),Inv X pins σ H s→RelV x v→r x H Q →
  wpAny (model X.prog X.w) X.A (f v) (EP X pins σ Q) X.xe s
def CallR (X:Cx) (f:Value) (r:List V→Hp→VK→Prop):Prop :=
 ∀ (pins:List (Addr × Obj)) (s:Shared) (σ:St) (H:Hp) (xs:List V) (us:List Value) (Q:VK),Inv X pins σ H s→Vals xs us→r xs H Q →
  wpAny (model X.prog X.w) X.A (call f us) (EP X pins σ Q) X.xe s
def tOp (r:R2) (ta tb:TE):TE:=fun σ H Q=>ta σ H fun x H1=>tb σ H1 fun y H2=>r x y H2 Q
def tUn (r:V→Hp→VK→Prop) (ta:TE):TE:=fun σ H Q=>ta σ H fun x H1=>r x H1 Q
def rI (C:Int→Int→Prop) (g:Int→Int→V):R2:=fun x y H Q=>∃ i j,x=.int i∧y=.int j∧C i j∧Q (g i j) H
def rI0 (g:Int→Int→V):R2:=fun x y H Q=>∃ i j,x=.int i∧y=.int j∧Q (g i j) H
def rU (g:Int→V):V→Hp→VK→Prop:=fun x H Q=>∃ i,x=.int i∧Q (g i) H
section
variable {X:Cx}{a b c:Expr}{ta tb tc:TE}{pos:Pos}
theorem AX4 (ha:PE X a ta) (hb:PE X b tb) {pins:List (Addr × Obj)}{s:Shared}{σ:St}{H:Hp}{R:V→V→Hp→Prop}(I:Inv X pins σ H s)
  (h:ta σ H fun x H1=>tb σ H1 fun y H2=>R x y H2) {Q:Value→Shared→Prop}{f:Value→Value→Sem Value}
  (hf:∀ v u s2 x y H2,Inv X pins σ H2 s2→RelV x v→RelV y u→R x y H2→wpAny (model X.prog X.w) X.A (f v u) Q X.xe s2) :
  wpAny (model X.prog X.w) X.A (eval a X.env) (fun v s₁=>wpAny (model X.prog X.w) X.A (eval b X.env) (fun u s₂=>wpAny (model X.prog X.w) X.A (f v u) Q X.xe s₂) X.xe s₁) X.xe s:=by
 refine thn (ha pins s σ H _ I h) fun v s1 ⟨x,H1,I1,r1,q1⟩=>?_
 refine thn (hb pins s1 σ H1 _ I1 q1) fun u s2 ⟨y,H2,I2,r2,q2⟩=>?_
 exact hf v u s2 x y H2 I2 r1 r2 q2
theorem bE {op:Operator}{r:R2}(ho:OpR X (binaryOp op) r) (ha:PE X a ta) (hb:PE X b tb):PE X (.BinOp a op b pos) (tOp r ta tb):=by
 intro pins s σ H Q I h
 exact wpAny_BinOp (AX4 ha hb I h fun v u s2 x y H2 I2 rx ry q=>ho pins s2 σ H2 x y v u Q I2 rx ry q)
theorem AX5 {op:UnaryOp}{r:V→Hp→VK→Prop}(ho:UnR X (unaryOp op) r) (ha:PE X a ta):PE X (.UnaryOp op a pos) (tUn r ta):=by
 intro pins s σ H Q I h
 exact UnaryOp_ (thn (ha pins s σ H _ I h) fun v s1 ⟨x,H1,I1,r1,q1⟩=>ho pins s1 σ H1 x v Q I1 r1 q1)
theorem opI {f:Value→Value→Sem Value}{C:Int→Int→Prop}{g:Int→Int→Int}
  (rule:∀ (i j:Int) (t u:Tok) (s:Shared) (Q:Value→Shared→Prop) (E:Value→Shared→Prop),C i j→Q (.int (g i j) s.toks) { s with toks:=s.toks+1 }→wpAny (model X.prog X.w) X.A (f (.int i t) (.int j u)) Q E s) :
  OpR X f (rI C fun i j=>.int (g i j)):=by
 intro pins s σ H x y v u Q I rx ry h
 obtain ⟨i,j,rfl,rfl,hc,q⟩:=h
 obtain ⟨t,rfl⟩:=rx
 obtain ⟨t',rfl⟩:=ry
 exact rule i j t t' s _ _ hc ⟨.int (g i j),H,I.tok _,⟨_,rfl⟩,q⟩
theorem BD8 {f:Value→Value→Sem Value}{g:Int→Int→Int}
  (rule:∀ (i j:Int) (t u:Tok) (s:Shared) (Q:Value→Shared→Prop) (E:Value→Shared→Prop),Q (.int (g i j) s.toks) { s with toks:=s.toks+1 }→wpAny (model X.prog X.w) X.A (f (.int i t) (.int j u)) Q E s) :
  OpR X f (rI0 fun i j=>.int (g i j)):=by
 intro pins s σ H x y v u Q I rx ry h
 obtain ⟨i,j,rfl,rfl,q⟩:=h
 obtain ⟨t,rfl⟩:=rx
 obtain ⟨t',rfl⟩:=ry
 exact rule i j t t' s _ _ ⟨.int (g i j),H,I.tok _,⟨_,rfl⟩,q⟩
theorem AX6 {f:Value→Value→Sem Value}{g:Int→Int→Bool}
  (rule:∀ (i j:Int) (t u:Tok) (s:Shared) (Q:Value→Shared→Prop) (E:Value→Shared→Prop),Q (.bool (g i j)) s→wpAny (model X.prog X.w) X.A (f (.int i t) (.int j u)) Q E s) :
  OpR X f (rI0 fun i j=>.bl (g i j)):=by
 intro pins s σ H x y v u Q I rx ry h
 obtain ⟨i,j,rfl,rfl,q⟩:=h
 obtain ⟨t,rfl⟩:=rx
 obtain ⟨t',rfl⟩:=ry
 exact rule i j t t' s _ _ ⟨.bl (g i j),H,I,rfl,q⟩
def BF7 (i j:Int):Prop:=0≤j∧j≤1000000∧i.natAbs < 2 ^ 64
def CMul (i j:Int):Prop:=(-(2 ^ 64) < i∧i < 2 ^ 64)∨(-(2 ^ 64) < j∧j < 2 ^ 64)
theorem CMul.ok {i j:Int}(h:CMul i j):IntMulOk i j:=by
 rcases h with ⟨h1,h2⟩ | ⟨h1,h2⟩
 ·exact .of_left (intBits_le_64 h1 h2)
 ·exact .of_right (intBits_le_64 h1 h2)
theorem gZ:OpR X (binaryOp .Add) (rI0 fun i j=>.int (i+j)):=BD8 fun _ _ _ _ _ _ _ q=>add_int q
theorem wO:OpR X (binaryOp .Sub) (rI0 fun i j=>.int (i - j)):=BD8 fun _ _ _ _ _ _ _ q=>sub_int q
theorem nN:OpR X (binaryOp .Mult) (rI CMul fun i j=>.int (i * j)):=opI fun _ _ _ _ _ _ _ hc q=>mul_int q hc.ok
theorem iP:OpR X (binaryOp .Mod) (rI (fun _ j=>0 < j) fun i j=>.int (i % j)):=opI fun i j _ _ _ _ _ hc q=>by
 have h1:(0:Int) < j:=hc
 exact mod_int' (by omega) (by rw [Int.fmod_eq_emod_of_nonneg i (by omega)]; exact q)
theorem AQ9:OpR X (binaryOp .Pow) (rI BF7 fun i j=>.int (i ^ j.toNat)):=opI fun _ _ _ _ _ _ _ hc q=>pow_int_small hc.1 hc.2.1 hc.2.2 q
theorem unI {f:Value→Sem Value}{g:Int→Int}
  (rule:∀ (i:Int) (t:Tok) (s:Shared) (Q:Value→Shared→Prop) (E:Value→Shared→Prop),Q (.int (g i) s.toks) { s with toks:=s.toks+1 }→wpAny (model X.prog X.w) X.A (f (.int i t)) Q E s) :
  UnR X f (rU fun i=>.int (g i)):=by
 intro pins s σ H x v Q I rx h
 obtain ⟨i,rfl,q⟩:=h
 obtain ⟨t,rfl⟩:=rx
 exact rule i t s _ _ ⟨.int (g i),H,I.tok _,⟨_,rfl⟩,q⟩
theorem AR0:UnR X (unaryOp .USub) (rU fun i=>.int (-i)):=unI fun _ _ _ _ _ q=>neg_int q
end
def AB1:V→V→Bool
 | .non,.non=>true | .non,.int _=>true | .int _,.non=>true | .non,.bl _=>true | .bl _,.non=>true | .non,.str _=>true | .str _,.non=>true
 | .int _,.int _=>true | .bl _,.bl _=>true | .str _,.str _=>true | .byt _,.byt _=>true
 | .int _,.str _=>true | .str _,.int _=>true | .bl _,.str _=>true | .str _,.bl _=>true
 | _,_=>false
def rEq:R2:=fun x y H Q=>AB1 x y=true∧Q (.bl (decide (x=y))) H
def rNe:R2:=fun x y H Q=>AB1 x y=true∧Q (.bl (!decide (x=y))) H
theorem wP {i j:Int}:decide (V.int i=V.int j)=(i == j):=by
 rw [Bool.eq_iff_iff]
 simp
theorem AG0 {i j:Bool}:decide (V.bl i=V.bl j)=(i == j):=by
 rw [Bool.eq_iff_iff]
 simp
theorem wQ {i j:Str}:decide (V.str i=V.str j)=(i == j):=by
 rw [Bool.eq_iff_iff]
 simp
theorem wR {i j:Array UInt8}:decide (V.byt i=V.byt j)=(i.toList == j.toList):=by
 rw [Bool.eq_iff_iff]
 cases i
 cases j
 simp
section
variable {X:Cx}{a b c:Expr}{ta tb tc:TE}{pos:Pos}
theorem bX {pins:List (Addr × Obj)}{σ:St}{H:Hp}{s:Shared}{Q:VK}{k k':Bool}(I:Inv X pins σ H s) (q:Q (.bl k) H) (e:k=k'):EP X pins σ Q (.bool k') s:=by
 subst e
 exact ⟨.bl k,H,I,rfl,q⟩
theorem cL:OpR X (compareOp .Eq) rEq:=by
 intro pins s σ H x y v u Q I rx ry h
 obtain ⟨hs,q⟩:=h
 cases x with
 | non =>
  cases rx
  cases y with
  | non=>cases ry; exact PySem.EqNone.eq_none_none (bX I q (by simp))
  | bl j=>cases ry; exact PySem.EqNone.eq_none_bool (bX I q (by simp))
  | int j=>obtain ⟨t',rfl⟩:=ry; exact PySem.EqNone.eq_none_int (bX I q (by simp))
  | str j=>obtain ⟨t',rfl⟩:=ry; exact PySem.EqNone.eq_none_str (bX I q (by simp))
  | _=>exact absurd (show false=true from hs) Bool.false_ne_true
 | bl i =>
  cases rx
  cases y with
  | non=>cases ry; exact PySem.EqNone.eq_bool_none (bX I q (by simp))
  | bl j=>cases ry; exact eq_bool (bX I q AG0)
  | str j=>obtain ⟨t',rfl⟩:=ry; exact PySem.EqMixed.eq_bool_str (bX I q (by simp))
  | _=>exact absurd (show false=true from hs) Bool.false_ne_true
 | int i =>
  obtain ⟨t,rfl⟩:=rx
  cases y with
  | non=>cases ry; exact PySem.EqNone.eq_int_none (bX I q (by simp))
  | int j=>obtain ⟨t',rfl⟩:=ry; exact eq_int (bX I q wP)
  | str j=>obtain ⟨t',rfl⟩:=ry; exact PySem.EqMixed.eq_int_str (bX I q (by simp))
  | _=>exact absurd (show false=true from hs) Bool.false_ne_true
 | str i =>
  obtain ⟨t,rfl⟩:=rx
  cases y with
  | non=>cases ry; exact PySem.EqNone.eq_str_none (bX I q (by simp))
  | bl j=>cases ry; exact PySem.EqMixed.eq_str_bool (bX I q (by simp))
  | int j=>obtain ⟨t',rfl⟩:=ry; exact PySem.EqMixed.eq_str_int (bX I q (by simp))
  | str j=>obtain ⟨t',rfl⟩:=ry; exact eq_str (bX I q wQ)
  | _=>exact absurd (show false=true from hs) Bool.false_ne_true
 | byt i =>
  obtain ⟨t,rfl⟩:=rx
  cases y with
  | byt j=>obtain ⟨t',rfl⟩:=ry; exact eq_bytes (bX I q wR)
  | _=>exact absurd (show false=true from hs) Bool.false_ne_true
 | _=>cases y <;> exact absurd (show false=true from hs) Bool.false_ne_true
theorem vI:OpR X (compareOp .NotEq) rNe:=by
 intro pins s σ H x y v u Q I rx ry h
 obtain ⟨hs,q⟩:=h
 cases x with
 | non =>
  cases rx
  cases y with
  | non=>cases ry; exact PySem.EqNone.ne_none_none (bX I q (by simp))
  | bl j=>cases ry; exact PySem.EqNone.ne_none_bool (bX I q (by simp))
  | int j=>obtain ⟨t',rfl⟩:=ry; exact PySem.EqNone.ne_none_int (bX I q (by simp))
  | str j=>obtain ⟨t',rfl⟩:=ry; exact PySem.EqNone.ne_none_str (bX I q (by simp))
  | _=>exact absurd (show false=true from hs) Bool.false_ne_true
 | bl i =>
  cases rx
  cases y with
  | non=>cases ry; exact PySem.EqNone.ne_bool_none (bX I q (by simp))
  | bl j=>cases ry; exact ne_bool (bX I q (congrArg not AG0))
  | str j=>obtain ⟨t',rfl⟩:=ry; exact PySem.EqMixed.ne_bool_str (bX I q (by simp))
  | _=>exact absurd (show false=true from hs) Bool.false_ne_true
 | int i =>
  obtain ⟨t,rfl⟩:=rx
  cases y with
  | non=>cases ry; exact PySem.EqNone.ne_int_none (bX I q (by simp))
  | int j=>obtain ⟨t',rfl⟩:=ry; exact ne_int (bX I q (congrArg not wP))
  | str j=>obtain ⟨t',rfl⟩:=ry; exact PySem.EqMixed.ne_int_str (bX I q (by simp))
  | _=>exact absurd (show false=true from hs) Bool.false_ne_true
 | str i =>
  obtain ⟨t,rfl⟩:=rx
  cases y with
  | non=>cases ry; exact PySem.EqNone.ne_str_none (bX I q (by simp))
  | bl j=>cases ry; exact PySem.EqMixed.ne_str_bool (bX I q (by simp))
  | int j=>obtain ⟨t',rfl⟩:=ry; exact PySem.EqMixed.ne_str_int (bX I q (by simp))
  | str j=>obtain ⟨t',rfl⟩:=ry; exact ne_str (bX I q (congrArg not wQ))
  | _=>exact absurd (show false=true from hs) Bool.false_ne_true
 | byt i =>
  obtain ⟨t,rfl⟩:=rx
  cases y with
  | byt j=>obtain ⟨t',rfl⟩:=ry; exact ne_bytes (bX I q (congrArg not wR))
  | _=>exact absurd (show false=true from hs) Bool.false_ne_true
 | _=>cases y <;> exact absurd (show false=true from hs) Bool.false_ne_true
theorem vJ:OpR X (compareOp .Lt) (rI0 fun i j=>.bl (decide (i < j))):=AX6 fun _ _ _ _ _ _ _ q=>lt_int q
theorem AX7:OpR X (compareOp .LtE) (rI0 fun i j=>.bl (decide (i≤j))):=AX6 fun _ _ _ _ _ _ _ q=>le_int q
theorem rT:OpR X (compareOp .Gt) (rI0 fun i j=>.bl (decide (j < i))):=AX6 fun _ _ _ _ _ _ _ q=>gt_int q
theorem qE:OpR X (compareOp .In) (fun x y H Q=>∃ i j,x=.str i∧y=.str j∧Q (.bl (!(Builtin.Str.occurrences j i 0 j.length 1).isEmpty)) H):=by
 intro pins s σ H x y v u Q I rx ry h
 obtain ⟨i,j,rfl,rfl,q⟩:=h
 obtain ⟨t,rfl⟩:=rx
 obtain ⟨t',rfl⟩:=ry
 exact in_str (bX I q rfl)
theorem OpR.or {f:Value→Value→Sem Value}{r r':R2}(h:OpR X f r) (h':OpR X f r'):OpR X f (fun x y H Q=>r x y H Q∨r' x y H Q):=by
 intro pins s σ H x y v u Q I rx ry q
 rcases q with q | q
 ·exact h pins s σ H x y v u Q I rx ry q
 ·exact h' pins s σ H x y v u Q I rx ry q
theorem aY (b:Expr) {op:CmpOp}(h:op≠.In:=by decide) (h2:op≠.NotIn:=by decide):behindInMarks op b=false:=by
 have e1:(op == CmpOp.In)=false:=by cases op <;> first | rfl | exact absurd rfl h
 have e2:(op == CmpOp.NotIn)=false:=by cases op <;> first | rfl | exact absurd rfl h2
 cases b <;> simp [behindInMarks,e1,e2]
theorem dD {op:CmpOp}{r:R2}(ho:OpR X (compareOp op) r) (ha:PE X a ta) (hb:PE X b tb) (hm:behindInMarks op b=false):PE X (.Compare a [op] [b] pos) (tOp r ta tb):=by
 intro pins s σ H Q I h
 exact wpAny_Compare1 (AX4 ha hb I h fun v u s2 x y H2 I2 rx ry q=>ho pins s2 σ H2 x y v u Q I2 rx ry q) hm
def AR1 (t:TE):TT:=fun σ H Q=>t σ H fun x H'=>∃ k,x=.bl k∧Q k H'
theorem aX {op:CmpOp}{r:R2}(ho:OpR X (compareOp op) r) (ha:PE X a ta) (hb:PE X b tb) (hm:behindInMarks op b=false):PT X (.Compare a [op] [b] pos) (AR1 (tOp r ta tb)):=by
 intro pins s σ H Q I h
 refine wpAny_isTrue_Compare1 (thn (ha pins s σ H _ I h) fun v s1 ⟨x,H1,I1,r1,q1⟩=>thn (hb pins s1 σ H1 _ I1 q1) fun u s2 ⟨y,H2,I2,r2,q2⟩ =>
  thn (ho pins s2 σ H2 x y v u _ I2 r1 r2 q2) fun c s3 ⟨z,H3,I3,r3,k,e,q3⟩=>?_) hm
 subst e
 cases r3
 exact wpAny_truthy_bool ⟨H3,I3,q3⟩
def AR2 (r r':R2) (ta tb tc:TE):TE:=fun σ H Q=>ta σ H fun x H1=>tb σ H1 fun y H2=>r x y H2 fun z H3=>∃ k,z=.bl k ∧
 (if k=true then tc σ H3 fun w' H4=>r' y w' H4 Q else Q (.bl false) H3)
theorem nO:(sizeLine:Nat) < 2 ^ 63:=by rw [sizeLine_eq]; decide
theorem bB:OpR X (binaryOp .Add) (fun x y H Q=>∃ i j,x=.str i∧y=.str j∧i.length+j.length≤sizeLine∧Q (.str (i++j)) H):=by
 intro pins s σ H x y v u Q I rx ry h
 obtain ⟨i,j,rfl,rfl,hz,q⟩:=h
 obtain ⟨t,rfl⟩:=rx
 obtain ⟨t',rfl⟩:=ry
 exact add_str (fun t' tk=>⟨.str (i++j),H,I.tok _,⟨_,rfl⟩,q⟩) hz
theorem nC {x:V}{us:List Value}(r:Vals [x] us):∃ u,us=[u]∧RelV x u:=by
 cases r with
 | cons r1 r2=>cases r2; exact ⟨_,rfl,r1⟩
theorem wS {x y:V}{us:List Value}(r:Vals [x,y] us):∃ u w',us=[u,w']∧RelV x u∧RelV y w':=by
 cases r with
 | cons r1 r2 =>
  cases r2 with
  | cons r3 r4=>cases r4; exact ⟨_,_,rfl,r1,r3⟩
theorem lX:CallR X (.type "int") (fun xs H Q=>(∃ i,xs=[.int i]∧Q (.int i) H)∨∃ k,xs=[.bl k]∧Q (.int (if k then 1 else 0)) H):=by
 intro pins s σ H xs us Q I r h
 rcases h with ⟨i,rfl,q⟩ | ⟨k,rfl,q⟩
 ·obtain ⟨u,rfl,t,rfl⟩:=nC r
  exact call_int_int ⟨.int i,H,I,⟨_,rfl⟩,q⟩
 ·obtain ⟨u,rfl,r1⟩:=nC r
  cases r1
  exact call_int_bool ⟨.int (if k then 1 else 0),H,I.tok _,⟨_,rfl⟩,q⟩
theorem kX:CallR X (.type "str") (fun xs H Q=>∃ i,xs=[.int i]∧i.natAbs.log2 < 1920∧Q (.str (toString i)) H):=by
 intro pins s σ H xs us Q I r h
 obtain ⟨i,rfl,hz,q⟩:=h
 obtain ⟨u,rfl,t,rfl⟩:=nC r
 exact PySem.P.str_of_int hz ⟨.str _,H,I.tok _,⟨_,rfl⟩,q⟩
end
end L2
namespace L2
open PySem PySem.Spec PyProof.Rows PySem.W
structure ObjM (h:Heap) (x dx C:Addr) (mA:Str→Option Value):Prop where
 obj:h.get? x=some (instObj C dx)
 ns:h.Ns1 dx mA
 ne:dx≠x
theorem qF {h:Heap}{dx:Addr}{mA:Str→Option Value}(n:h.Ns1 dx mA):∃ od,h.get? dx=some od∧∀ name,lookIn name od=some (mA name):=by
 obtain ⟨o,es,ep,ho,hd,hk,_,hm⟩:=n
 refine ⟨o,ho,fun name=>?_⟩
 have e:=hm name
 unfold nsFind findBy at e
 rw [← Array.find?_toList] at e
 unfold lookIn
 rw [hd]
 dsimp only
 split
 ·rename_i y q
  rw [q] at e
  exact congrArg some e
 ·rename_i q
  rw [q] at e
  have a:es.toList.any (·.refKey)=false:=by
   rw [List.any_eq_false]
   intro y hy
   obtain ⟨z,t,hkey⟩:=hk y (Array.mem_toList_iff.mp hy)
   simp [DictEntry.refKey,hkey]
  have a':¬ es.toList.any (·.refKey)=true:=by rw [a]; exact Bool.false_ne_true
  rw [if_neg a']
  exact congrArg some e
theorem ObjM.look {h:Heap}{x dx C:Addr}{mA:Str→Option Value}(I:ObjM h x dx C mA):∃ od,InstAt h x (instObj C dx) C (some od)∧∀ name,lookIn name od=some (mA name) :=
 let ⟨od,ho,hl⟩:=qF I.ns
 ⟨od,⟨I.obj,rfl,rfl,ho⟩,hl⟩
section
variable {prog:Program}{w:World}{A:Around}{E:Value→Shared→Prop}{s:Shared}{K:Frag}{x dx C f:Addr}{mA:Str→Option Value}{name:Str}{v:Value}
theorem AJ0 {expr:Bool}{Q:Value→Shared→Prop}(X:K.In s.heap) (I:ObjM s.heap x dx C mA) (hg:plainGet K C name=true) (hh:hasDictIn K C=true)
  (ha:findIn K (.ref C) name=some none) (hv:mA name=some v) (hv':handedIn v=true) (h:Q v { s with toks:=s.toks+1 }) :
  wpAny (model prog w) A (getAttr (.ref x) name expr) Q E s:=by
 obtain ⟨od,J,hl⟩:=I.look
 exact get_value X J (plainGet_of hg).1 (findObj_own hh ha rfl (by rw [hl,hv])) hv' h
theorem AB2 {pl:Sem Bool}{Q:Value × List Value→Shared→Prop}(X:K.In s.heap) (I:ObjM s.heap x dx C mA) (hg:plainGet K C name=true)
  (hf:findIn K (.ref C) name=some (some (.ref f))) (ht:isFn K (.ref f)=true) (hv:mA name=none) (h:Q (.ref f,[.ref x]) s) :
  wpAny (model prog w) A (getMethod (.ref x) name pl) Q E s:=by
 obtain ⟨od,J,hl⟩:=I.look
 exact method_fn X J (plainGet_of hg).1 (plainGet_of hg).2 hf (beq_iff_eq.mp ht) (by show (lookIn name od).map (·.isSome)=some false; rw [hl,hv]; rfl) h
theorem AJ1 {ns:List Str}{Q:Unit→Shared→Prop}(X:K.In s.heap) (I:ObjM s.heap x dx C mA)
  (hs:findIn K (.ref C) "__setattr__"=some (some (.builtin "object.__setattr__"))) (hp:plainOver K C=true) (ht:takerIn K C name=some none) (hh:hasDictIn K C=true)
  (hw:PySem.Within mA ns) (hsz:ns.length≤sizeLine)
  (h:∀ h',ObjM h' x dx C (fun y=>if y=name then some v else mA y)→Heap.SameBut dx s.heap h'→Q () { s with heap:=h',toks:=s.toks+2 }) :
  wpAny (model prog w) A (setAttr (.ref x) name v) Q E s:=by
 obtain ⟨od,J,hl⟩:=I.look
 refine set_plain X J hs (osa_open (s:={ s with toks:=s.toks+1 }) (r:=none) X J hp ht fun b=>?_)
 obtain ⟨cd,hc,hd'⟩:=any_some hh
 have hx:s.heap.get? x=some ⟨.ref C,some dx,.plain,#[]⟩:=I.obj
 refine wpAny_bind (wpAny_pure (wpAny_bind (wpAny_bind (wpAny_loadPart hx (wpAny_bind (Looks.here (s:={ s with toks:=s.toks+1 }) (looks_clsIn X hc) ?_))))))
 rw [hd']
 refine wpAny_pure (a:=some dx) (wpAny_bind (wpAny_pure (wpAny_bind ?_)))
 refine wpAny_nsSet1 (s:={ s with toks:=s.toks+1 }) I.ns fun h' hn2 hs2=>?_
 obtain ⟨oD,esD,epD,hoD,hdD,hcD⟩:=hn2.count (PySem.Within.cons name v hw)
 refine wpAny_bind (wpAny_lookBehind hoD (by rw [hdD]; exact pastItsLine_dict (Nat.le_trans hcD (by rw [List.length_cons]; omega))) ?_)
 exact wpAny_pure (h _ ⟨(hs2.2 _ (Ne.symm I.ne)).trans I.obj,hn2,I.ne⟩ hs2)
theorem AB3 {R:Result→Shared→Prop}{vs:List Value}{kw:List (Str × Value)}(X:K.In s.heap) (hm:makesIn K C=true)
  (hi:findIn K (.ref C) "__init__"=some (some (.ref f))) (hf:typeIn K (.ref f)=some (.type "function"))
  (h:codeAny (model prog w) (A.under (.builtin "type.__call__" ⟨.ref C::vs,kw⟩)) (.call (.ref f) ⟨.ref (s.heap.objs.size+1)::vs,kw⟩) (InitBack (s.heap.objs.size+1) R)
   { s with heap:=(s.heap.push emptyDict).push (instObj C s.heap.objs.size) }) :
  codeAny (model prog w) A (.call (.ref C) ⟨vs,kw⟩) R s:=by
 obtain ⟨hh,g,d,t,os⟩:=s
 exact make_core (makes_of X hm) (looks_findIn X hi) (fun self=>bind_fn X self hf) (.inl rfl) h
theorem wT {R:Result→Shared→Prop}(X:K.In s.heap) (hm:makesIn K C=true)
  (hi:findIn K (.ref C) "__init__"=some (some (.builtin "object.__init__")))
  (hb:∀ self,Looks (model prog w) s.heap (bindSpecial (.builtin "object.__init__") self) (.builtin "object.__init__",[self]))
  (h:codeAny (model prog w) (A.under (.builtin "type.__call__" ⟨[.ref C],[]⟩)) (.call (.builtin "object.__init__") ⟨[.ref (s.heap.objs.size+1)],[]⟩) (InitBack (s.heap.objs.size+1) R)
   { s with heap:=(s.heap.push emptyDict).push (instObj C s.heap.objs.size) }) :
  codeAny (model prog w) A (.call (.ref C) ⟨[],[]⟩) R s:=by
 obtain ⟨hh,g,d,t,os⟩:=s
 exact make_core (makes_of X hm) (looks_findIn X hi) hb (.inr ⟨rfl,rfl⟩) h
end
def nP (f:Str) (v:V):List (Str × V)→List (Str × V)
 | []=>[(f,v)]
 | (g,x)::r=>if g=f then (g,v)::r else (g,x)::nP f v r
theorem lY (f g:Str) (v:V):∀ fs:List (Str × V),(nP f v fs).lookup g=if g=f then some v else fs.lookup g
 | []=>by
  show List.lookup g [(f,v)]=_
  by_cases h:g=f
  ·have hb:(g == f)=true:=beq_iff_eq.mpr h
   simp only [List.lookup,hb,if_pos h]
  ·have hb:(g == f)=false:=beq_eq_false_iff_ne.mpr h
   simp only [List.lookup,hb,if_neg h]
 | (k,x)::r=>by
  have ih:=lY f g v r
  rw [show nP f v ((k,x)::r)=(if k=f then (k,v)::r else (k,x)::nP f v r) from rfl]
  by_cases hk:k=f
  ·rw [if_pos hk]
   by_cases h:g=k
   ·have hb:(g == k)=true:=beq_iff_eq.mpr h
    simp only [List.lookup,hb,if_pos (h.trans hk)]
   ·have hb:(g == k)=false:=beq_eq_false_iff_ne.mpr h
    simp only [List.lookup,hb,if_neg (fun e:g=f=>h (e.trans hk.symm))]
  ·rw [if_neg hk]
   by_cases h:g=k
   ·have hb:(g == k)=true:=beq_iff_eq.mpr h
    simp only [List.lookup,hb,if_neg (fun e:g=f=>hk (h.symm.trans e))]
   ·have hb:(g == k)=false:=beq_eq_false_iff_ne.mpr h
    simp only [List.lookup,hb]
    exact ih
theorem lZ (f:Str) (v:V):∀ fs:List (Str × V),f∈(nP f v fs).map (·.1)∧∀ g,g∈fs.map (·.1)→g∈(nP f v fs).map (·.1)
 | []=>⟨by simp [nP],fun g h=>by simp at h⟩
 | (k,x)::r=>by
  obtain ⟨i1,i2⟩:=lZ f v r
  rw [show nP f v ((k,x)::r)=(if k=f then (k,v)::r else (k,x)::nP f v r) from rfl]
  by_cases hk:k=f
  ·rw [if_pos hk]
   subst hk
   exact ⟨by simp,fun g h=>by simpa using h⟩
  ·rw [if_neg hk]
   refine ⟨?_,fun g h=>?_⟩
   ·rw [List.map_cons]
    exact List.mem_cons_of_mem _ i1
   ·rw [List.map_cons] at h ⊢
    rcases List.mem_cons.mp h with e | e
    ·exact List.mem_cons.mpr (.inl e)
    ·exact List.mem_cons_of_mem _ (i2 g e)
theorem mD (f:Str) (v:V):∀ fs:List (Str × V),(nP f v fs).length≤fs.length+1
 | []=>by simp [nP]
 | (k,x)::r=>by
  have ih:=mD f v r
  rw [show nP f v ((k,x)::r)=(if k=f then (k,v)::r else (k,x)::nP f v r) from rfl]
  by_cases hk:k=f
  ·rw [if_pos hk,List.length_cons,List.length_cons]; omega
  ·rw [if_neg hk,List.length_cons,List.length_cons]; omega
theorem RelO.some_of {v:V}{o:Option Value}(r:RelO (some v) o):∃ u,o=some u∧RelV v u:=by
 cases o with
 | none=>exact (show False from r).elim
 | some u=>exact ⟨u,rfl,r⟩
theorem RelO.none_of {o:Option Value}(r:RelO none o):o=none:=by
 cases o with
 | none=>rfl
 | some u=>exact (show False from r).elim
theorem qG {v:V}{u:Value}(r:RelV v u):handedIn u=true:=by
 cases v with
 | non=>cases (show u=Value.none from r); rfl
 | bl b=>cases (show u=Value.bool b from r); rfl
 | int i=>obtain ⟨t,e⟩:=(show ∃ t,u=Value.int i t from r); cases e; rfl
 | str x=>obtain ⟨t,e⟩:=(show ∃ t,u=Value.str x t from r); cases e; rfl
 | byt b=>obtain ⟨t,e⟩:=(show ∃ t,u=Value.bytes b t from r); cases e; rfl
 | flt b=>obtain ⟨t,e⟩:=(show ∃ t,u=Value.float b t from r); cases e; rfl
 | ref a=>cases (show u=Value.ref a from r); rfl
 | ty n=>cases (show u=Value.type n from r); rfl
section
variable {P:Program}{w:World}{H H':Hp}{h h':Heap}{a C dx:Addr}{fs fs':List (Str × V)}
theorem mE (hok:HOk P w H h) (e:H a=some (.ins C dx fs)):∃ mA,ObjM h a dx C mA∧(∀ f,RelO (fs.lookup f) (mA f))∧PySem.Within mA (fs.map (·.1))∧fs.length≤1000∧H dx=some (.own a):=by
 obtain ⟨d,z,ne,ob,mA,n,r,q⟩:=(show ObjOk P w H h a (.ins C dx fs) from hok a _ e)
 exact ⟨mA,⟨ob,n,ne⟩,r,q,z,d⟩
end
structure Cls (K:Frag) (C:Addr):Prop where
 pg:plainGet K C Str.empty=true
 hd:hasDictIn K C=true
 po:plainOver K C=true
 sa:findIn K (.ref C) "__setattr__"=some (some (.builtin "object.__setattr__"))
theorem Cls.get {K:Frag}{C:Addr}(c:Cls K C) (f:Str):plainGet K C f=true:=c.pg
def NoAttr (K:Frag) (C:Addr) (f:Str):Prop:=findIn K (.ref C) f=some none
theorem NoAttr.taker {K:Frag}{C:Addr}{f:Str}(n:NoAttr K C f):takerIn K C f=some none:=by
 unfold takerIn
 rw [show findIn K (.ref C) f=some none from n]
 rfl
structure Con (K:Frag) (C:Addr) (f:Str) (v:V) (u:Value):Prop where
 at_:findIn K (.ref C) f=some (some u)
 rel:RelV v u
 get:specialIn K u "__get__"=some none
 cp:copiedNames.contains f=false
structure Meth (K:Frag) (C:Addr) (m:Str) (f:Addr):Prop where
 at_:findIn K (.ref C) m=some (some (.ref f))
 fn:isFn K (.ref f)=true
 kp:keepIn K (.ref f)=true
section
variable {X:Cx}{pins:List (Addr × Obj)}{σ:St}{H:Hp}{s:Shared}{a C dx:Addr}{fs:List (Str × V)}{f:Str}{v:V}{A:Around}{E:Value→Shared→Prop}
theorem nQ {b:Bool}{Q:Value→Shared→Prop}(I:Inv X pins σ H s) (e:H a=some (.ins C dx fs)) (c:Cls X.K C) (n:NoAttr X.K C f) (l:fs.lookup f=some v)
  (h:∀ u s',Inv X pins σ H s'→RelV v u→Q u s'):wpAny (model X.prog X.w) A (getAttr (.ref a) f b) Q E s:=by
 obtain ⟨mA,O,r,_,_,_⟩:=mE I.hok e
 obtain ⟨u,hu,ru⟩:=RelO.some_of (v:=v) (o:=mA f) (by rw [← l]; exact r f)
 exact AJ0 I.kIn O (c.get f) c.hd n hu (qG ru) (h u _ (I.tok _) ru)
theorem vK {m:Str}{g:Addr}{pl:Sem Bool}{Q:Value × List Value→Shared→Prop}(I:Inv X pins σ H s) (e:H a=some (.ins C dx fs)) (c:Cls X.K C) (k:Meth X.K C m g) (l:fs.lookup m=none)
  (h:Q (.ref g,[.ref a]) s):wpAny (model X.prog X.w) A (getMethod (.ref a) m pl) Q E s:=by
 obtain ⟨mA,O,r,_,_,_⟩:=mE I.hok e
 have hn:mA m=none:=RelO.none_of (by rw [← l]; exact r m)
 exact AB2 I.kIn O (c.get m) k.at_ k.fn hn h
theorem nR {y:V}{u:Value}{Q:Unit→Shared→Prop}(I:Inv X pins σ H s) (e:H a=some (.ins C dx fs)) (c:Cls X.K C) (n:NoAttr X.K C f) (hl:fs.length < 1000) (ry:RelV y u)
  (h:∀ s',Inv X pins σ (upd H a (.ins C dx (nP f y fs))) s'→Q () s'):wpAny (model X.prog X.w) A (setAttr (.ref a) f u) Q E s:=by
 obtain ⟨mA,O,r,wi,_,ho⟩:=mE I.hok e
 have hz:(fs.map (·.1)).length≤sizeLine:=by rw [List.length_map,sizeLine_eq]; omega
 refine AJ1 I.kIn O c.sa c.po n.taker c.hd wi hz fun h' O' sb=>h _ ?_
 have hd:∃ o,h'.get? dx=some o:=let ⟨o,_,_,e',_⟩:=O'.ns; ⟨o,e'⟩
 refine I.write (x:=a) (e:=dx) (by rw [e]; exact True.intro) (.inr ho) (fun b q hb z=>(sb.2 b hb).trans z) hd ?_
 refine ⟨by rw [aK O.ne]; exact ho,?_,O.ne,O'.obj,_,O'.ns,fun g=>?_,fun g hg=>?_⟩
 ·have:=mD f y fs; omega
 ·show RelO ((nP f y fs).lookup g) (if g=f then some u else mA g)
  rw [lY]
  by_cases q:g=f
  ·rw [if_pos q,if_pos q]; exact ry
  ·rw [if_neg q,if_neg q]; exact r g
 ·by_cases q:g=f
  ·rw [q]; exact (lZ f y fs).1
  ·refine (lZ f y fs).2 g (wi g fun z=>hg ?_)
   show (if g=f then some u else mA g)=none
   rw [if_neg q]; exact z
theorem Inv.made (I:Inv X pins σ H s):Inv X pins σ (upd (upd H s.heap.objs.size (.own (s.heap.objs.size+1))) (s.heap.objs.size+1) (.ins C s.heap.objs.size []))
  { s with heap:=(s.heap.push emptyDict).push (instObj C s.heap.objs.size) }:=by
 have e1:(s.heap.push emptyDict).get? s.heap.objs.size=some emptyDict:=Heap.get?_push_size s.heap rfl
 have e2:((s.heap.push emptyDict).push (instObj C s.heap.objs.size)).get? (s.heap.objs.size+1)=some (instObj C s.heap.objs.size):=by
  have:=Heap.get?_push_size (s.heap.push emptyDict) (o:=instObj C s.heap.objs.size) rfl
  rwa [Heap.size_push] at this
 have e3:(s.heap.push emptyDict).Ns s.heap.objs.size (fun _=>none):=⟨emptyDict,#[],_,e1,rfl,(fun e he=>absurd he (by simp)),fun _=>rfl⟩
 have I1:=I.laid (a:=s.heap.objs.size) (o:=.own (s.heap.objs.size+1)) (h':=s.heap.push emptyDict) (t':=s.toks) (fun b u q=>Heap.get?_push_of_some _ q) (Nat.le_refl _) ⟨_,e1⟩
 refine I1.laid (a:=s.heap.objs.size+1) (o:=.ins C s.heap.objs.size []) (t':=s.toks) (fun b u q=>Heap.get?_push_of_some _ q) (Nat.le_of_eq (Heap.size_push _ _)) ?_
 have ne:s.heap.objs.size≠s.heap.objs.size+1:=Nat.ne_of_lt (Nat.lt_succ_self _)
 refine ⟨by rw [aK ne,aB],Nat.zero_le _,ne,e2,fun _=>none,(Heap.Ns1.of_empty e3).at fun o q=>Heap.get?_push_of_some _ q,fun _=>True.intro,fun y hy=>absurd rfl hy⟩
theorem wU {prog:Program}{w:World}{env:Env}{e:Expr}{f:Str}{pos:Pos}{s:Shared}{Q:Value→Shared→Prop}(hb:attributeBase e f env (eval e env)=eval e env)
  (h:wpAny (model prog w) A (eval e env) (fun o s₁=>wpAny (model prog w) A (getAttr o f true) Q E s₁) E s):wpAny (model prog w) A (eval (.Attribute e f pos) env) Q E s :=
 Attribute_any_ h (by rw [arm_eval_Attribute,hb])
end
def AX8 (K:Frag) (ta:TE) (f:Str):TE:=fun σ H Q=>ta σ H fun x H1=>∃ a C dx fs v,x=.ref a∧H1 a=some (.ins C dx fs)∧Cls K C∧NoAttr K C f∧fs.lookup f=some v∧Q v H1
def BD9 (K:Frag) (ta tv:TE) (f:Str):TS:=fun D σ H=>tv σ H fun y H1=>ta σ H1 fun x H2=>∃ a C dx fs,x=.ref a∧H2 a=some (.ins C dx fs)∧Cls K C∧NoAttr K C f∧fs.length < 1000 ∧
 D.nx σ (upd H2 a (.ins C dx (nP f y fs)))
def BE0 (X:Cx) (op:Operator) (rd:V→V→Hp→VK→Prop):Prop :=
 ∀ (pins:List (Addr × Obj)) (s:Shared) (σ:St) (H:Hp) (x y:V) (u v:Value) (Q:VK),Inv X pins σ H s→RelV x u→RelV y v→rd x y H Q→wpAny (model X.prog X.w) X.A (inplaceOp op u v) (EP X pins σ Q) X.xe s
def wV (K:Frag) (ta tv:TE) (rd:V→V→Hp→VK→Prop) (f:Str):TS:=fun D σ H=>ta σ H fun x H1=>∃ a C dx fs v,x=.ref a∧H1 a=some (.ins C dx fs)∧Cls K C∧NoAttr K C f∧fs.lookup f=some v ∧
 tv σ H1 fun y H2=>rd v y H2 fun z H3=>∃ dx' fs',H3 a=some (.ins C dx' fs')∧fs'.length < 1000∧D.nx σ (upd H3 a (.ins C dx' (nP f z fs')))
section
variable {X:Cx}{o e value:Expr}{f:Str}{pos pos' tpos:Pos}{ta tv:TE}
theorem cG (he:PE X e ta) (hb:attributeBase e f X.env (eval e X.env)=eval e X.env):PE X (.Attribute e f pos) (AX8 X.K ta f):=by
 intro pins s σ H Q I h
 refine wU hb (thn (he pins s σ H _ I h) fun u s1 ⟨x,H1,I1,rx,a,C,dx,fs,v,ex,ea,c,n,l,q⟩=>?_)
 subst ex
 obtain rfl:u=Value.ref a:=rx
 exact nQ I1 ea c n l fun u' s2 I2 ru=>⟨v,H1,I2,ru,q⟩
theorem hJ (ha:PE X o ta) (hv:PE X value tv) (hs:swapsWith value (some (.Attribute o f pos')) pos.line X.env=pure false):PS X (.Assign [.Attribute o f pos'] value pos) (BD9 X.K ta tv f):=by
 intro pins s σ H D I h
 refine plainObj_wpAny_Assign_Attribute (thn (hv pins s σ H _ I h) fun u s1 ⟨y,H1,I1,ry,q⟩=>thn (ha pins s1 σ H1 _ I1 q) fun ov s2 ⟨x,H2,I2,rx,a,C,dx,fs,ex,ea,c,n,l,q2⟩=>?_) hs
 subst ex
 obtain rfl:ov=Value.ref a:=rx
 exact nR I2 ea c n l ry fun s3 I3=>⟨σ,_,I3,q2⟩
theorem wW {op:Operator}{rd:V→V→Hp→VK→Prop}(ha:PE X o ta) (hv:PE X value tv) (hop:BE0 X op rd):PS X (.AugAssign (.Attribute o f tpos) op value pos) (wV X.K ta tv rd f):=by
 intro pins s σ H D I h
 refine wpAny_AugAssign_AttributeAny (thn (ha pins s σ H _ I h) fun ov s1 ⟨x,H1,I1,rx,a,C,dx,fs,v,ex,ea,c,n,l,q⟩=>?_)
 subst ex
 obtain rfl:ov=Value.ref a:=rx
 refine nQ I1 ea c n l fun u s2 I2 ru=>thn (hv pins s2 σ H1 _ I2 q) fun w3 s3 ⟨y,H2,I3,ry,q3⟩=>thn (hop pins s3 σ H2 v y u w3 _ I3 ru ry q3) fun w4 s4 ⟨z,H3,I4,rz,dx',fs',ea',l',q4⟩=>?_
 exact nR I4 ea' c n l' rz fun s5 I5=>⟨σ,_,I5,q4⟩
def BE1:V→V→Hp→VK→Prop:=fun x y H Q=>∃ i j,x=.int i∧y=.int j∧Q (.int (i+j)) H
theorem AR3:BE0 X .Add BE1:=by
 rintro pins s σ H x y u v Q I rx ry ⟨i,j,rfl,rfl,q⟩
 obtain ⟨t,rfl⟩:=(show ∃ t,u=Value.int i t from rx)
 obtain ⟨t',rfl⟩:=(show ∃ t',v=Value.int j t' from ry)
 exact PyProof.Rows.iadd_int ⟨.int (i+j),H,I.tok _,⟨_,rfl⟩,q⟩
end
section
variable {X:Cx}{pins:List (Addr × Obj)}{σ:St}{H:Hp}{s:Shared}{A:Around}{E:Value→Shared→Prop}{Q:Value→Shared→Prop}{c:Value}{b:Bool}
inductive TyOf (K:Frag) (H:Hp):V→Value→Prop where
 | non:TyOf K H .non (.type "NoneType")
 | bl (x:Bool):TyOf K H (.bl x) (.type "bool")
 | int (i:Int):TyOf K H (.int i) (.type "int")
 | str (x:Str):TyOf K H (.str x) (.type "str")
 | flt (x:UInt64):TyOf K H (.flt x) (.type "float")
 | lst {a:Addr}{xs:List V}(e:H a=some (.lst xs)):TyOf K H (.ref a) (.type "list")
 | frz {a:Addr}{o:Obj}{xs:List V}(e:H a=some (.frz o (.lst xs))):TyOf K H (.ref a) (.type "list")
 | tup {a:Addr}{xs:List V}(e:H a=some (.tup xs)):TyOf K H (.ref a) (.type "tuple")
 | dK {a:Addr}{kvs:List (Key × V)}(e:H a=some (.dK kvs)):TyOf K H (.ref a) (.type "dict")
 | dT {a:Addr}{kvs:List (List Key × V)}(e:H a=some (.dT kvs)):TyOf K H (.ref a) (.type "dict")
 | ins {a C dx:Addr}{fs:List (Str × V)}(e:H a=some (.ins C dx fs)) (cl:Cls K C) (ha:findIn K (.ref C) "__class__"=some (some (.builtin "object.__class__")))
   (hn:specialIn K (.builtin "object.__class__") "__get__"=some (some (.builtin "getset_descriptor.__get__"))) (htk:takesIn K (.builtin "object.__class__")=some true)
   (hm:mroIn K C (.type "object")=some true):TyOf K H (.ref a) (.ref C)
theorem mF {x:V}{u t:Value}(I:Inv X pins σ H s) (rx:RelV x u) (ty:TyOf X.K H x t) (e:kitOne X.K t c=some b) (h:∀ tk,Q (.bool b) { s with toks:=tk }) :
  wpAny (model X.prog X.w) A (call (.builtin "isinstance") [u,c]) Q E s:=by
 cases ty with
 | non=>cases (show u=Value.none from rx); exact kia_one kitx_none I.kIn True.intro e (fun z=>nomatch z) h
 | bl y=>cases (show u=Value.bool y from rx); exact kia_one kitx_bool I.kIn True.intro e (fun z=>nomatch z) h
 | int i=>obtain ⟨t,q⟩:=(show ∃ t,u=Value.int i t from rx); cases q; exact kia_one kitx_int I.kIn True.intro e (fun z=>nomatch z) h
 | str y=>obtain ⟨t,q⟩:=(show ∃ t,u=Value.str y t from rx); cases q; exact kia_one kitx_str I.kIn True.intro e (fun z=>nomatch z) h
 | flt y=>obtain ⟨t,q⟩:=(show ∃ t,u=Value.float y t from rx); cases q; exact kia_one kitx_float I.kIn True.intro e (fun z=>nomatch z) h
 | @lst a xs ea =>
  cases (show u=Value.ref a from rx)
  obtain ⟨_,_,n,_,h1⟩:=(show ObjOk X.prog X.w H s.heap a (.lst xs) from I.hok a _ ea)
  exact kia_one kitx_list I.kIn ⟨_,h1,rfl⟩ e (fun z=>nomatch z) h
 | @frz a ob xs ea =>
  cases (show u=Value.ref a from rx)
  obtain ⟨_,_,_,n,_,h1⟩:=(show ObjOk X.prog X.w H s.heap a (.frz ob (.lst xs)) from I.hok a _ ea)
  exact kia_one kitx_list I.kIn ⟨_,h1,rfl⟩ e (fun z=>nomatch z) h
 | @tup a xs ea =>
  cases (show u=Value.ref a from rx)
  obtain ⟨_,_,_,p⟩:=(show ObjOk X.prog X.w H s.heap a (.tup xs) from I.hok a _ ea)
  obtain ⟨o,h1,h2,_⟩:=p
  exact kia_one kitx_tuple I.kIn ⟨o,h1,h2⟩ e (fun z=>nomatch z) h
 | @dK a kvs ea =>
  cases (show u=Value.ref a from rx)
  obtain ⟨_,_,vs,_,p⟩:=(show ObjOk X.prog X.w H s.heap a (.dK kvs) from I.hok a _ ea)
  obtain ⟨o,es,ep,h1,h2,_⟩:=p
  exact kia_one kitx_dict I.kIn ⟨o,h1,h2.1⟩ e (fun z=>nomatch z) h
 | @dT a kvs ea =>
  cases (show u=Value.ref a from rx)
  obtain ⟨_,_,xs,_,o,es,ep,h1,h2,_⟩:=(show ObjOk X.prog X.w H s.heap a (.dT kvs) from I.hok a _ ea)
  exact kia_one kitx_dict I.kIn ⟨o,h1,h2.1⟩ e (fun z=>nomatch z) h
 | @ins a C dx fs ea cl ha hn htk hm =>
  cases (show u=Value.ref a from rx)
  obtain ⟨mA,O,_⟩:=mE I.hok ea
  obtain ⟨od,J,_⟩:=O.look
  exact kia_one (kitx_own (cl.get _) cl.hd ha hn htk hm) I.kIn J e (fun z=>nomatch z) h
end
end L2
namespace L2
open PySem PySem.Spec PyProof.Rows PySem.W
structure Room (k:Nat) (A:Around):Prop where
 hd:A.handled=none
 dp:A.depth+3 * k+5 < recursionLimit
 un:A.units+16 * k+200 < cLine
theorem Room.mono {j k:Nat}{A:Around}(r:Room k A) (h:j≤k):Room j A:=⟨r.hd,by have:=r.dp; omega,by have:=r.un; omega⟩
theorem Room.deeper {k:Nat}{A:Around}(r:Room (k+1) A) (env:Env):Room k (A.deeper env) :=
 ⟨r.hd,by have:=r.dp; show A.depth+1+3 * k+5 < _; omega,by have:=r.un; show A.units+3+16 * k+200 < _; omega⟩
theorem nT {A:Around}{C:Addr}{us:List Value}{kw:List (Str × Value)}:(A.under (.builtin "type.__call__" ⟨.ref C::us,kw⟩)).depth=A.depth+1:=by
 first | rfl | simp [Around.under,Code.weight,Code.isCreation,Code.isGuard,Code.isCaller,Code.frames,Code.isFrame,guardIds]
theorem nU {A:Around}{C:Addr}{us:List Value}{kw:List (Str × Value)}:(A.under (.builtin "type.__call__" ⟨.ref C::us,kw⟩)).units=A.units+1:=by
 first | rfl | simp [Around.under,Code.cUnits,Code.frames,Code.isFrame]
theorem Room.make {k:Nat}{A:Around}(r:Room (k+1) A) (C:Addr) (us:List Value) (kw:List (Str × Value)):Room k (A.under (.builtin "type.__call__" ⟨.ref C::us,kw⟩)) :=
 ⟨r.hd,by have:=r.dp; rw [nT]; omega,by have:=r.un; rw [nU]; omega⟩
theorem Room.depth {k:Nat}{A:Around}(r:Room k A):A.depth < recursionLimit:=by have:=r.dp; omega
theorem Room.units {k:Nat}{A:Around}(r:Room k A):A.units+64 < cLine:=by have:=r.un; omega
def AV8:TA:=fun _ H Q=>Q [] H
def AB4 (ta:TE) (tr:TA):TA:=fun σ H Q=>ta σ H fun x H1=>tr σ H1 fun xs H2=>Q (x::xs) H2
section
variable {X:Cx}{e:Expr}{es:List Expr}{te:TE}{t:TA}{pos:Pos}
theorem AR4:PA X [] AV8:=fun _ _ _ _ H Q I h=>Calls.spliced_nil ⟨[],H,I,.nil,h⟩
theorem AJ2 (ha:PE X e te) (hr:PA X es t) (hs:starEach (e::es) X.env=(false,eval e X.env)::starEach es X.env:=by rfl):PA X (e::es) (AB4 te t):=by
 intro pos pins s σ H Q I h
 rw [hs]
 show wpAny _ _ (spliced ((false,eval e X.env)::backTo pos (starEach es X.env))) _ _ s
 refine Calls.spliced_cons (thn (ha pins s σ H _ I h) fun u s1 ⟨x,H1,I1,r1,q1⟩=>?_)
 exact thn (hr pos pins s1 σ H1 _ I1 q1) fun us s2 ⟨xs,H2,I2,r2,q2⟩=>⟨x::xs,H2,I2,.cons r1 r2,q2⟩
def BE2 (t:TA):TE:=fun σ H Q=>t σ H fun xs H1=>xs.length≤sizeLine∧∀ p,H1 p=none→Q (.ref p) (upd H1 p (.tup xs))
def AX9 (t:TA):TE:=fun σ H Q=>t σ H fun xs H1=>xs.length≤sizeLine∧∀ p,H1 p=none→Q (.ref p) (upd H1 p (.lst xs))
theorem jJ {x1}(h:PA X es t):PE X (.Tuple es x1 pos) (BE2 t):=by
 intro pins s σ H Q I hq
 refine wpAny_Tuple_spliced (thn (h pos pins s σ H _ I hq) fun us s1 ⟨xs,H1,I1,r,z,q⟩=>⟨by rw [← r.length]; exact z,?_⟩)
 have hf:H1 s1.heap.objs.size=none:=I1.hok.fresh (Nat.le_refl _)
 refine ⟨.ref s1.heap.objs.size,upd H1 s1.heap.objs.size (.tup xs),I1.laid (t':=s1.toks) (fun b u e=>Heap.get?_push_of_some _ e) (Nat.le_refl _) ?_,rfl,q _ hf⟩
 exact ⟨z,us,r,⟨_,Heap.get?_push_size _ rfl,rfl,_,rfl⟩⟩
theorem hU (h:PA X es t):PE X (.List es pos) (AX9 t):=by
 intro pins s σ H Q I hq
 refine wpAny_List_spliced (thn (h pos pins s σ H _ I hq) fun us s1 ⟨xs,H1,I1,r,z,q⟩=>⟨by rw [← r.length]; exact z,?_⟩)
 have hf:H1 s1.heap.objs.size=none:=I1.hok.fresh (Nat.le_refl _)
 refine ⟨.ref s1.heap.objs.size,upd H1 s1.heap.objs.size (.lst xs),I1.laid (t':=s1.toks) (fun b u e=>Heap.get?_push_of_some _ e) (Nat.le_refl _) ?_,rfl,q _ hf⟩
 exact ⟨z,us,0,r,Heap.get?_push_size _ rfl⟩
end
abbrev Sp:=List V→Hp→VK→XK→Prop
abbrev CXT:=List Env→Hp→Shared→XK→Value→Shared→Prop
structure Env0 (P:Program) (w:World) (K:Frag) (mg:Str→Option Value) (base:Heap) (A:Around) (outer:List Env) (s:Shared) (H:Hp):Prop where
 frames:A.frames=some outer
 mod:Mod K mg base
 bs:∀ b o,base.get? b=some o→s.heap.get? b=some o∧H b=none
 bsz:base.objs.size≤s.heap.objs.size
 funs:s.heap.FunFrames base outer
 frf:∀ b∈frs outer,H b=none
 hok:HOk P w H s.heap
 bare:AllBare s.gens
def CE (outer:List Env) (P:Program) (w:World) (H:Hp) (s:Shared) (Q:VK) (u:Value) (s':Shared):Prop :=
 ∃ v H',s'.os=s.os∧AllBare s'.gens∧Un (frs outer) [] H H' s.heap s'.heap∧HOk P w H' s'.heap∧RelV v u∧Q v H'
def CR (CX:CXT) (outer:List Env) (P:Program) (w:World) (H:Hp) (s:Shared) (Q:VK) (E:XK) (r:Result) (s':Shared):Prop :=
 match r with
 | .ok (.ret u)=>CE outer P w H s Q u s'
 | .ok _=>False
 | .error e=>CX outer H s E e s'
structure FnOk (P:Program) (w:World) (K:Frag) (mg:Str→Option Value) (base:Heap) (CX:CXT) (k:Nat) (f:Addr) (fd:FuncData) (ps:List Str) (sp:Sp):Prop where
 len:∀ vs H Q E,sp vs H Q E→vs.length=ps.length
 run:∀ (A:Around) (outer:List Env) (s:Shared) (H:Hp) (args:Args) (us:List Value) (vs:List V) (Q:VK) (E:XK),Room k A→Env0 P w K mg base A outer s H→BindsTo s fd args (ps.zip us)→Vals vs us→sp vs H Q E →
  codeAny (model P w) A (.call (.ref f) args) (CR CX outer P w H s Q E) s
theorem FnOk.mono {P:Program}{w:World}{K:Frag}{mg:Str→Option Value}{base:Heap}{CX:CXT}{j k:Nat}{f:Addr}{fd:FuncData}{ps:List Str}{sp:Sp}(F:FnOk P w K mg base CX j f fd ps sp) (h:j≤k) :
  FnOk P w K mg base CX k f fd ps sp:=⟨F.len,fun A outer s H args us vs Q E hr=>F.run A outer s H args us vs Q E (hr.mono h)⟩
theorem FnOk.imp {P:Program}{w:World}{K:Frag}{mg:Str→Option Value}{base:Heap}{CX:CXT}{k:Nat}{f:Addr}{fd:FuncData}{ps:List Str}{sp sp':Sp}(F:FnOk P w K mg base CX k f fd ps sp)
  (h:∀ vs H Q E,sp' vs H Q E→sp vs H Q E):FnOk P w K mg base CX k f fd ps sp' :=
 ⟨fun vs H Q E q=>F.len vs H Q E (h _ _ _ _ q),fun A outer s H args us vs Q E hr he hb hv hs=>F.run A outer s H args us vs Q E hr he hb hv (h _ _ _ _ hs)⟩
theorem Env0.make {P:Program}{w:World}{K:Frag}{mg:Str→Option Value}{base:Heap}{A:Around}{outer:List Env}{s:Shared}{H:Hp}(e:Env0 P w K mg base A outer s H) (C:Addr) (us:List Value) (kw:List (Str × Value)) :
  Env0 P w K mg base (A.under (.builtin "type.__call__" ⟨.ref C::us,kw⟩)) outer s H:=⟨by first | exact e.frames | (simpa [Around.under,Code.envs,Code.isFrame,pushEnvs] using e.frames),e.mod,e.bs,e.bsz,e.funs,e.frf,e.hok,e.bare⟩
section
variable {X:Cx}{pins:List (Addr × Obj)}{σ:St}{H:Hp}{s s':Shared}
theorem Inv.env0 (I:Inv X pins σ H s):Env0 X.prog X.w X.K X.mg X.base X.A X.stack s H :=
 ⟨I.ok.frames,I.ok.mod,I.bs,Nat.le_trans I.ok.bsz I.sz,I.stack,I.stkFree,I.hok,I.bare⟩
theorem Inv.after {Q:VK}{u:Value}(I:Inv X pins σ H s) (h:CE X.stack X.prog X.w H s Q u s'):EP X pins σ Q u s':=by
 obtain ⟨v,H',os,bare,un,hok,r,q⟩:=h
 obtain ⟨hh,g,d,t,os'⟩:=s'
 obtain rfl:os'=s.os:=os
 exact ⟨v,H',I.call (h':=hh) (g':=g) (d':=d) (t':=t) (ch:=[]) un hok bare (fun b z=>absurd z (by simp)),r,q⟩
end
def vL (sp:Sp) (dvs:List V) (E:XK) (t:TA):TE:=fun σ H Q=>t σ H fun vs H1=>sp (vs++dvs) H1 Q E
def AJ3 (C:Addr) (sp:Sp) (dvs:List V) (E:XK) (t:TA):TE:=fun σ H Q=>t σ H fun vs H1=>∀ x dx,H1 x=none→H1 dx=none→dx≠x →
 sp (.ref x::(vs++dvs)) (upd (upd H1 dx (.own x)) x (.ins C dx [])) (fun v H2=>v=.non∧Q (.ref x) H2) E
def Binds (K:Frag) (fd:FuncData) (ps:List Str) (ds:List Value):Prop :=
 ∀ (s:Shared) (us:List Value),K.In s.heap→(us++ds).length=ps.length→BindsTo s fd ⟨us,[]⟩ (ps.zip (us++ds))
theorem Binds.all {K:Frag}{fd:FuncData}{ps:List Str}(h:∀ us:List Value,us.length=ps.length→bindArgs fd ⟨us,[]⟩=pure (ps.zip us)):Binds K fd ps []:=fun s us _ hl=>by
 rw [List.append_nil] at hl ⊢
 exact .of_eq (h us hl)
def iQ (CX:CXT) (X:Cx) (E:XK):Prop:=∀ (pins:List (Addr × Obj)) (σ:St) (H:Hp) (s:Shared) (e:Value) (s':Shared),Inv X pins σ H s→CX X.stack H s E e s'→X.xe e s'
section
variable {X:Cx}{CX:CXT}{k:Nat}{f C:Addr}{fd:FuncData}{ps:List Str}{sp:Sp}{dvs:List V}{ds:List Value}{E:XK}{x m:Str}{p pos apos:Pos}{e o:Expr}{es:List Expr}{ta:TE}{t:TA}
theorem AG1 {pins:List (Addr × Obj)}{σ:St}{H:Hp}{s:Shared}{Q:VK}{us:List Value}{vs:List V}(F:FnOk X.prog X.w X.K X.mg X.base CX k f fd ps sp) (hr:Room k X.A) (hb:Binds X.K fd ps ds) (hd:Vals dvs ds) (hx:iQ CX X E)
  (I:Inv X pins σ H s) (r:Vals vs us) (h:sp (vs++dvs) H Q E):wpAny (model X.prog X.w) X.A (call (.ref f) us) (EP X pins σ Q) X.xe s:=by
 have r2:Vals (vs++dvs) (us++ds):=r.append hd
 have hl:(us++ds).length=ps.length:=by rw [← r2.length]; exact F.len _ _ _ _ h
 refine wpAny_call (codeAny_mono (F.run X.A X.stack s H ⟨us,[]⟩ (us++ds) (vs++dvs) Q E hr I.env0 (hb s us I.kIn hl) r2 h) fun r s' hq=>?_)
 cases r with
 | error e=>exact hx pins σ H s e s' I hq
 | ok fl =>
  cases fl with
  | ret u=>exact I.after hq
  | next=>exact False.elim hq
  | brk=>exact False.elim hq
  | cont=>exact False.elim hq
theorem oN (F:FnOk X.prog X.w X.K X.mg X.base CX k f fd ps sp) (hr:Room k X.A) (hg:Gl X x) (hm:X.mg x=some (.ref f)) (hk:keepIn X.K (.ref f)=true) (hb:Binds X.K fd ps ds) (hd:Vals dvs ds) (hx:iQ CX X E)
  (ha:PA X (e::es) t) (hdb:(x == ("__debug__":Str))=false:=by decide) (he:starEach (e::es) X.env=(false,eval e X.env)::starEach es X.env:=by rfl) (hpl:(backTo pos (starEach es X.env)).any (·.1)=false:=by rfl) :
  PE X (.Call (.Name x p) (e::es) [] pos) (vL sp dvs E t):=by
 intro pins s σ H Q I h
 refine wpAny_Call_Name_kw (fX I hg hm ?_ hdb)
 refine callWith_K (h₀:=X.base) I.ok.mod.kin hk (thn (ha pos pins s σ H _ I h) fun us s1 ⟨vs,H1,I1,r,q⟩=>⟨I1.kIn,?_⟩) he hpl
 exact AG1 F hr hb hd hx I1 r q
structure Mk (K:Frag) (C f:Addr):Prop where
 makes:makesIn K C=true
 init:findIn K (.ref C) "__init__"=some (some (.ref f))
 fn:isFn K (.ref f)=true
 kp:keepIn K (.ref C)=true
theorem AB5 {pins:List (Addr × Obj)}{σ:St}{H:Hp}{s:Shared}{Q:VK}{us:List Value}{vs:List V}(M:Mk X.K C f) (F:FnOk X.prog X.w X.K X.mg X.base CX k f fd ps sp) (hr:Room (k+1) X.A) (hb:Binds X.K fd ps ds) (hd:Vals dvs ds)
  (hx:iQ CX X E) (I:Inv X pins σ H s) (r:Vals vs us)
  (h:∀ x dx,H x=none→H dx=none→dx≠x→sp (.ref x::(vs++dvs)) (upd (upd H dx (.own x)) x (.ins C dx [])) (fun v H2=>v=.non∧Q (.ref x) H2) E) :
  wpAny (model X.prog X.w) X.A (call (.ref C) us) (EP X pins σ Q) X.xe s:=by
 have hq:=h (s.heap.objs.size+1) s.heap.objs.size (I.hok.fresh (Nat.le_succ _)) (I.hok.fresh (Nat.le_refl _)) (Nat.ne_of_lt (Nat.lt_succ_self _))
 have I2:=Inv.made (C:=C) I
 have r2:Vals (V.ref (s.heap.objs.size+1)::(vs++dvs)) (Value.ref (s.heap.objs.size+1)::(us++ds)):=.cons rfl (r.append hd)
 have hl:(Value.ref (s.heap.objs.size+1)::us++ds).length=ps.length:=by
  have e:=r2.length
  rw [F.len _ _ _ _ hq] at e
  exact e.symm
 refine wpAny_call (AB3 (f:=f) I.kIn M.makes M.init (beq_iff_eq.mp M.fn) (codeAny_mono (F.run _ X.stack _ _ ⟨Value.ref (s.heap.objs.size+1)::us,[]⟩ (Value.ref (s.heap.objs.size+1)::(us++ds)) _ _ E (hr.make C us [])
  (I2.env0.make C us []) (hb _ (Value.ref (s.heap.objs.size+1)::us) I2.kIn hl) r2 hq) fun r s' hq'=>?_))
 cases r with
 | error e=>exact hx pins σ _ _ e s' I2 hq'
 | ok fl =>
  cases fl with
  | ret u =>
   obtain ⟨v,H',I3,rv,ev,q3⟩:=I2.after hq'
   subst ev
   exact ⟨rv,⟨V.ref (s.heap.objs.size+1),H',I3,rfl,q3⟩⟩
  | next=>exact False.elim hq'
  | brk=>exact False.elim hq'
  | cont=>exact False.elim hq'
theorem AJ4 (M:Mk X.K C f) (F:FnOk X.prog X.w X.K X.mg X.base CX k f fd ps sp) (hr:Room (k+1) X.A) (hg:Gl X x) (hm:X.mg x=some (.ref C)) (hb:Binds X.K fd ps ds) (hd:Vals dvs ds) (hx:iQ CX X E)
  (ha:PA X (e::es) t) (hdb:(x == ("__debug__":Str))=false:=by decide) (he:starEach (e::es) X.env=(false,eval e X.env)::starEach es X.env:=by rfl) (hpl:(backTo pos (starEach es X.env)).any (·.1)=false:=by rfl) :
  PE X (.Call (.Name x p) (e::es) [] pos) (AJ3 C sp dvs E t):=by
 intro pins s σ H Q I h
 refine wpAny_Call_Name_kw (fX I hg hm ?_ hdb)
 refine callWith_K (h₀:=X.base) I.ok.mod.kin M.kp (thn (ha pos pins s σ H _ I h) fun us s1 ⟨vs,H1,I1,r,q⟩=>⟨I1.kIn,?_⟩) he hpl
 exact AB5 M F hr hb hd hx I1 r q
end
section
variable {X:Cx}{CX:CXT}{k:Nat}{f C:Addr}{fd:FuncData}{ps ks:List Str}{sp:Sp}{E:XK}{x m:Str}{p pos apos kpos:Pos}{e o:Expr}{es:List Expr}{kws:List Keyword}{te ta:TE}{t tk:TA}{nm:Option Str}
structure KBinds (K:Frag) (fd:FuncData) (ps ks:List Str) (g:List Value→List Value→List Value) (gV:List V→List V→List V):Prop where
 to:∀ (s:Shared) (us ws:List Value),K.In s.heap→(g us ws).length=ps.length→BindsTo s fd ⟨us,ks.zip ws⟩ (ps.zip (g us ws))
 rel:∀ {vs:List V}{us:List Value}{zs:List V}{ws:List Value},Vals vs us→Vals zs ws→Vals (gV vs zs) (g us ws)
variable {g:List Value→List Value→List Value}{gV:List V→List V→List V}
end
structure FnScope (N P:List Str) (sc:Scope):Prop where
 kind:sc.kind=.function
 co:sc.isCoroutine=false
 gen:sc.isGenerator=false
 nd:N.Nodup
 pre:N.take P.length=P
 par:∀ x∈P,sc.names.lookup x=some .local∨sc.names.lookup x=some .cell
 nofree:∀ y∈sc.names,y.2≠.free
theorem qH {kindOf:Str→Option NameKind}{x:Str}:∀ {binds:List (Str × Value)}{m:Str→Option Value},(∀ v,(x,v) ∉ binds)→bindL kindOf binds m x=m x
 | [],_,_=>rfl
 | (n,v)::r,m,h=>by
  unfold bindL
  rw [qH fun w hw=>h w (List.mem_cons_of_mem _ hw)]
  split
  ·have:x≠n:=by rintro rfl; exact h v List.mem_cons_self
   simp [this]
  ·rfl
theorem qI {kindOf:Str→Option NameKind}{x:Str}:∀ {binds:List (Str × Value)}{m:Str→Option Value},(∀ v,(x,v) ∉ binds)→bindC kindOf binds m x=m x
 | [],_,_=>rfl
 | (n,v)::r,m,h=>by
  unfold bindC
  rw [qI fun w hw=>h w (List.mem_cons_of_mem _ hw)]
  split
  ·rfl
  ·have:x≠n:=by rintro rfl; exact h v List.mem_cons_self
   simp [this]
theorem qJ {kindOf:Str→Option NameKind}{x:Str}{v:Value}:∀ {P:List Str}{vs:List Value}{i:Nat}{m:Str→Option Value},P.Nodup→P[i]?=some x→vs[i]?=some v→kindOf x=some .local →
  bindL kindOf (P.zip vs) m x=some v
 | [],_,_,_,_,h,_,_=>by simp at h
 | _::_,[],_,_,_,_,h,_=>by simp at h
 | p::P,w::vs,0,m,nd,h1,h2,hk=>by
  simp at h1 h2; subst h1; subst h2
  show bindL kindOf ((p,w)::P.zip vs) m p=_
  unfold bindL
  rw [qH fun v hv=>(List.nodup_cons.mp nd).1 (List.of_mem_zip hv).1,if_pos hk]
  simp
 | p::P,w::vs,i+1,m,nd,h1,h2,hk=>by
  show bindL kindOf ((p,w)::P.zip vs) m x=_
  unfold bindL
  exact qJ (i:=i) (List.nodup_cons.mp nd).2 (by simpa using h1) (by simpa using h2) hk
theorem qK {kindOf:Str→Option NameKind}{x:Str}{v:Value}:∀ {P:List Str}{vs:List Value}{i:Nat}{m:Str→Option Value},P.Nodup→P[i]?=some x→vs[i]?=some v→kindOf x≠some .local →
  bindC kindOf (P.zip vs) m x=some v
 | [],_,_,_,_,h,_,_=>by simp at h
 | _::_,[],_,_,_,_,h,_=>by simp at h
 | p::P,w::vs,0,m,nd,h1,h2,hk=>by
  simp at h1 h2; subst h1; subst h2
  show bindC kindOf ((p,w)::P.zip vs) m p=_
  unfold bindC
  rw [qI fun v hv=>(List.nodup_cons.mp nd).1 (List.of_mem_zip hv).1,if_neg hk]
  simp
 | p::P,w::vs,i+1,m,nd,h1,h2,hk=>by
  show bindC kindOf ((p,w)::P.zip vs) m x=_
  unfold bindC
  exact qK (i:=i) (List.nodup_cons.mp nd).2 (by simpa using h1) (by simpa using h2) hk
def start (N:List Str) (vs:List V):St:=vs.map some++List.replicate (N.length - vs.length) none
def wX (CX:CXT) (P:Program) (w:World) (K:Frag) (mg:Str→Option Value) (base:Heap) (N:List Str) (qual:Str) (scope:Scope) (f:Addr) (cd:Value) (A:Around) (outer:List Env) (s:Shared) (H:Hp) (E:XK):Cx where
 prog:=P
 w:=w
 K:=K
 mg:=mg
 base:=base
 A:=A.deeper (envOfC qual scope s.heap.objs.size f cd)
 N:=N
 s₀:=s
 H₀:=H
 env:=envOfC qual scope s.heap.objs.size f cd
 outer:=outer
 stack:=envOfC qual scope s.heap.objs.size f cd::outer
 ex:=[]
 calm:=true
 fn:=fun _=>true
 pn:=[]
 xe:=fun e s'=>wpAny (model P w) (A.deeper (envOfC qual scope s.heap.objs.size f cd)) (leaving (envOfC qual scope s.heap.objs.size f cd) e) (fun _ s''=>CX outer H s E e s'') (fun e' s''=>CX outer H s E e' s'') s'
theorem uC {sc:Scope}{n:Nat}{x:Str}(h:sc.names.lookup x=some .cell):∃ c,(cellsFrom n sc.names []).lookup x=some c:=by
 have q:=cellsFrom_some sc.names n [] (.inl h)
 exact Option.isSome_iff_exists.mp q
theorem qL {CX:CXT}{P:Program}{w:World}{K:Frag}{mg:Str→Option Value}{base:Heap}{N ps:List Str}{qual:Str}{scope:Scope}{f:Addr}{cd:Value}{A:Around}{outer:List Env}{s s1:Shared}{H:Hp}{E:XK}{us:List Value}{vs:List V}
  (S:FnScope N ps scope) (hd:A.handled=none) (e0:Env0 P w K mg base A outer s H) (hl:vs.length=ps.length) (r:Vals vs us)
  (x:InCallC s s.heap.objs.size (bindL (envOfC qual scope s.heap.objs.size f cd).kindOf (ps.zip us) fun _=>none) (cellsFrom (s.heap.objs.size+1) scope.names []) (bindC (envOfC qual scope s.heap.objs.size f cd).kindOf (ps.zip us) fun _=>none) s1) :
  Inv (wX CX P w K mg base N qual scope f cd A outer s H E) [] (start N vs) H s1:=by
 have hpl:ps.length≤N.length:=by have:=congrArg List.length S.pre; rw [List.length_take] at this; omega
 obtain ⟨h1,tk,rfl,hk⟩:=x.done
 have noA:∀ b:Addr,b ∉ (wX CX P w K mg base N qual scope f cd A outer s H E).ex:=fun b z=>absurd (show b∈([]:List Addr) from z) (by simp)
 refine ⟨⟨e0.mod,S.kind,rfl,rfl,Nat.le_refl _,fun y z c h1 h2=>?_,fun y hy=>?_,fun y c _ h=>?_,fun _=>hd,Around.frames_deeper e0.frames,.inr ⟨rfl,rfl⟩,fun b z=>absurd z (noA b),e0.bs,e0.bsz,fun b _ _=>noA b,fun b z=>absurd z (noA b),e0.funs,e0.frf⟩,
  rfl,e0.bare,Un.kept hk,⟨_,x.toInCall.ns,fun i y v h1 h2 h3=>?_⟩,fun y c h=>⟨_,x.cell y c h⟩,e0.hok.fresh (Nat.le_refl _),fun y c h=>?_,fun p hp=>absurd (show p∈([]:List (Addr × Obj)) from hp) (by simp),e0.hok.kept hk,?_⟩
 ·exact name_of_addr x.apart (PySem.mem_of_lookup h1) (PySem.mem_of_lookup h2)
 ·have hy:scope.names.lookup y=some .cell∨scope.names.lookup y=some .free:=hy
  rcases hy with hy | hy
  ·exact uC hy
  ·exact absurd rfl (S.nofree _ (PySem.mem_of_lookup hy))
 ·exact Nat.le_of_lt (x.above y c (PySem.mem_of_lookup h))
 ·have hi:i < vs.length:=by
   unfold start at h2
   by_cases hi:i < vs.length
   ·exact hi
   ·rw [List.getElem?_append_right (by simpa using hi)] at h2
    rw [List.getElem?_replicate] at h2
    split at h2 <;> cases h2
  have ha:vs[i]?=some v:=by
   unfold start at h2
   rw [List.getElem?_append_left (by simpa using hi),List.getElem?_map] at h2
   cases e:vs[i]? with
   | none=>rw [e] at h2; cases h2
   | some a=>rw [e] at h2; cases h2; rfl
  obtain ⟨u,hu,rv⟩:=r.get ha
  have hp:ps[i]?=some y:=by
   rw [← S.pre,List.getElem?_take_of_lt (by omega)]; exact h1
  have ndP:ps.Nodup:=by rw [← S.pre]; exact S.nd.sublist (List.take_sublist _ _)
  refine ⟨u,rv,?_⟩
  rcases S.par y (List.mem_of_getElem? hp) with k | k
  ·exact .inl ⟨k,qJ ndP hp hu k⟩
  ·obtain ⟨c,e⟩:=uC (n:=s.heap.objs.size+1) k
   refine .inr ⟨.inl k,c,e,?_⟩
   have q:=x.cell y c e
   rw [qK ndP hp hu (by show scope.names.lookup y≠_; rw [k]; decide)] at q
   exact q
 ·exact e0.hok.fresh (Nat.le_of_lt (x.above y c (PySem.mem_of_lookup h)))
 ·unfold start
  show _=N.length
  rw [List.length_append,List.length_map,List.length_replicate]
  omega
theorem AB6 {CX:CXT}{P:Program}{w:World}{K:Frag}{mg:Str→Option Value}{base:Heap}{k:Nat}{f:Addr}{name qual:Str}{params:Arguments}{body:List Stmt}{scope:Scope}{dV kV doc pm cdv ct oc:Value}{an od:Option Addr}
  {osl:Array (Option Value)}{N ps:List Str}{sp:Sp}(lk:K.lookup f=some ⟨oc,od,.func (fnOf name qual params body scope dV kV doc pm an cdv ct),osl⟩) (hcd:codeIn K cdv qual=true) (S:FnScope N ps scope)
  (len:∀ vs H Q E,sp vs H Q E→vs.length=ps.length)
  (hbody:∀ (A:Around) (outer:List Env) (s:Shared) (H:Hp) (vs:List V) (Q:VK) (E:XK),Room k (A.deeper (envOfC qual scope s.heap.objs.size f cdv))→sp vs H Q E →
   ∃ t,PSs (wX CX P w K mg base N qual scope f cdv A outer s H E) body t∧t { nx:=fun _ H'=>Q .non H',rt:=Q } (start N vs) H) :
  FnOk P w K mg base CX (k+1) f (fnOf name qual params body scope dV kV doc pm an cdv ct) ps sp:=by
 refine ⟨len,fun A outer s H args us vs Q E hr e0 hb r hsp=>?_⟩
 have hl:=len _ _ _ _ hsp
 have KX:K.In s.heap:=e0.mod.kin.keeps fun b o e=>(e0.bs b o e).1
 have lim:s.heap.NoLimit:=e0.mod.nolimit.keeps fun b o e=>(e0.bs b o e).1
 have hkind:∀ y∈ps.zip us,scope.names.lookup y.1=some .local∨(scope.names.lookup y.1=some .cell∧((cellsFrom (s.heap.objs.size+1) scope.names []).lookup y.1).isSome=true):=fun ⟨n,v⟩ hy=>by
  rcases S.par n (List.of_mem_zip hy).1 with q | q
  ·exact .inl q
  ·exact .inr ⟨q,cellsFrom_some _ _ _ (.inl q)⟩
 refine codeAny_call_function hr.depth (KX _ _ lk) rfl S.co S.gen rfl (codeRec_of KX hcd) (hb _ _ _ _ ?_)
 refine wpAny_newFunctionEnv_cells S.kind hkind fun env he s1 x=>?_
 subst he
 refine ⟨lim.keeps x.toInCall.keep,codeAny_func ?_⟩
 obtain ⟨t,ht,hq⟩:=hbody A outer s H vs Q E (hr.deeper _) hsp
 have I:Inv (wX CX P w K mg base N qual scope f cdv A outer s H E) [] (start N vs) H s1:=qL S hr.hd e0 hl r x
 refine wpAny_mono (ht [] s1 (start N vs) H _ I hq) (fun fl s' hs=>?_) fun e s' hs=>hs
 have fin:∀ {σ':St}{H':Hp}{v:V}{u:Value},Inv (wX CX P w K mg base N qual scope f cdv A outer s H E) [] σ' H' s'→RelV v u→Q v H'→CE outer P w H s Q u s' :=
  fun {σ' H' v u} J rv q=>⟨v,H',J.os,J.bare,J.base,J.hok,rv,q⟩
 cases fl with
 | ret u =>
  obtain ⟨v,σ',H',J,rv,q⟩:=hs
  exact fin J rv q
 | next =>
  obtain ⟨σ',H',J,q⟩:=hs
  exact fin (v:=V.non) (u:=Value.none) J rfl q
 | brk =>
  obtain ⟨_,_,_,q⟩:=hs
  exact False.elim q
 | cont =>
  obtain ⟨_,_,_,q⟩:=hs
  exact False.elim q
end L2
namespace L2
open PySem PySem.Spec PyProof.Rows PySem.W
section
variable {X:Cx}{x:Str}{p pos:Pos}{e:Expr}{es:List Expr}{t:TA}{id T:String}{r:List V→Hp→VK→Prop}
def tCB (r:List V→Hp→VK→Prop) (t:TA):TE:=fun σ H Q=>t σ H fun vs H1=>r vs H1 Q
theorem aP (hc:CallR X (.builtin id) r) (hg:Gl X x) (hm:X.mg x=none) (hv:bootBuiltins x=some (.builtin id)) (ha:PA X (e::es) t) (hn:x≠"__name__":=by decide) (hdb:(x == ("__debug__":Str))=false:=by decide)
  (he:starEach (e::es) X.env=(false,eval e X.env)::starEach es X.env:=by rfl) (hpl:(backTo pos (starEach es X.env)).any (·.1)=false:=by rfl):PE X (.Call (.Name x p) (e::es) [] pos) (tCB r t):=by
 intro pins s σ H Q I h
 refine wpAny_Call_Name_kw (tZ I hg hm hv ?_ hn hdb)
 exact PyProof.Rows.callWith_builtin1 (thn (ha pos pins s σ H _ I h) fun us s1 ⟨vs,H1,I1,r1,q1⟩=>hc pins s1 σ H1 vs us Q I1 r1 q1) he hpl
theorem bS (hc:CallR X (.type T) r) (hg:Gl X x) (hm:X.mg x=none) (hv:bootBuiltins x=some (.type T)) (ha:PA X (e::es) t) (hn:x≠"__name__":=by decide) (hdb:(x == ("__debug__":Str))=false:=by decide)
  (he:starEach (e::es) X.env=(false,eval e X.env)::starEach es X.env:=by rfl) (hpl:(backTo pos (starEach es X.env)).any (·.1)=false:=by rfl):PE X (.Call (.Name x p) (e::es) [] pos) (tCB r t):=by
 intro pins s σ H Q I h
 refine wpAny_Call_Name_kw (tZ I hg hm hv ?_ hn hdb)
 exact PyProof.Rows.callWith_type1 (thn (ha pos pins s σ H _ I h) fun us s1 ⟨vs,H1,I1,r1,q1⟩=>hc pins s1 σ H1 vs us Q I1 r1 q1) he hpl
end
end L2
namespace HT
open PySem PyProof.Rows PySem.W
section
open PySem.SeqAt
open PySem.AutoSeq1 (wpAny_loadPart')
open PySem.MeetsSeq PySem.MeetsSeq2 PySem.MeetsSeq3
end
section
variable {prog:Program}{w:World}{A:Around}{E:Value→Shared→Prop}{s:Shared}
def sIx (n d:Nat):Option Int→Nat
 | none=>d
 | some v=>if v < 0 then (v+(n:Int)).toNat else min v.toNat n
theorem sIx_none (n d:Nat):sIx n d none=d:=rfl
theorem sIx_nat (n d k:Nat):sIx n d (some (k:Int))=min k n:=by
 show (if (k:Int) < 0 then ((k:Int)+(n:Int)).toNat else min (k:Int).toNat n)=min k n
 rw [if_neg (by omega),Int.toNat_natCast]
end
end HT
namespace L2
open PySem PySem.Spec PyProof.Rows PySem.W
abbrev TO:=St→Hp→(Option Int→Hp→Prop)→Prop
def PO (X:Cx) (e:Option Expr) (t:TO):Prop :=
 ∀ (pins:List (Addr × Obj)) (s:Shared) (σ:St) (H:Hp) (Q:Option Int→Hp→Prop),Inv X pins σ H s→t σ H Q →
  wpAny (model X.prog X.w) X.A (evalPart e X.env) (fun u s'=>∃ o H',Inv X pins σ H' s'∧IsPart u o∧Q o H') X.xe s
def wY:TO:=fun _ H Q=>Q none H
def AR5 (t:TE):TO:=fun σ H Q=>t σ H fun x H1=>∃ i,x=.int i∧Q (some i) H1
section
variable {X:Cx}{e:Expr}{te:TE}{lo hi:Option Expr}{tl th:TO}{pos p2:Pos}
theorem iU:PO X none wY:=by
 intro pins s σ H Q I h
 rw [evalPart_none]
 exact wpAny_pure ⟨none,H,I,.none,h⟩
theorem iV (h:PE X e te):PO X (some e) (AR5 te):=by
 intro pins s σ H Q I hw
 rw [evalPart_some]
 refine thn (h pins s σ H _ I hw) fun u s1 ⟨x,H1,I1,r1,q1⟩=>?_
 obtain ⟨i,rfl,q⟩:=q1
 obtain ⟨t,rfl⟩:=r1
 exact ⟨some i,H1,I1,.int i t,q⟩
def SlR (X:Cx) (r:V→Option Int→Option Int→Hp→VK→Prop):Prop :=
 ∀ (pins:List (Addr × Obj)) (s:Shared) (σ:St) (H:Hp) (x:V) (v vl vu:Value) (lo hi:Option Int) (sl:Addr) (Q:VK),Inv X pins σ H s→RelV x v→s.heap.IsSliceOf sl vl vu .none→IsPart vl lo→IsPart vu hi→r x lo hi H Q →
  ∃ T id,typeLookup (.type T) "__getitem__"=pure (some (.builtin id))∧s.TypeIs v T∧wpAny (model X.prog X.w) X.A (getItem v (.ref sl)) (EP X pins σ Q) X.xe s
theorem SlR.or {r r':V→Option Int→Option Int→Hp→VK→Prop}(h:SlR X r) (h':SlR X r'):SlR X (fun x lo hi H Q=>r x lo hi H Q∨r' x lo hi H Q):=by
 intro pins s σ H x v vl vu lo hi sl Q I rx hs pl pu q
 rcases q with q | q
 ·exact h pins s σ H x v vl vu lo hi sl Q I rx hs pl pu q
 ·exact h' pins s σ H x v vl vu lo hi sl Q I rx hs pl pu q
def tSl (r:V→Option Int→Option Int→Hp→VK→Prop) (te:TE) (tl th:TO):TE:=fun σ H Q=>te σ H fun x H1=>tl σ H1 fun l H2=>th σ H2 fun u H3=>r x l u H3 Q
theorem gG {r:V→Option Int→Option Int→Hp→VK→Prop}(hr:SlR X r) (he:PE X e te) (hl:PO X lo tl) (hu:PO X hi th):PE X (.Subscript e (.Slice lo hi none p2) pos) (tSl r te tl th):=by
 intro pins s σ H Q I h
 refine Subscript_ (thn (he pins s σ H _ I h) fun v s1 ⟨x,H1,I1,r1,q1⟩=>?_)
 refine wpAny_Slice (thn (hl pins s1 σ H1 _ I1 q1) fun vl s2 ⟨l,H2,I2,pl,q2⟩=>thn (hu pins s2 σ H2 _ I2 q2) fun vu s3 ⟨u,H3,I3,pu,q3⟩=>?_)
 rw [evalPart_none]
 refine wpAny_pure ?_
 have I4:Inv X pins σ H3 { s3 with heap:=s3.heap.push { cls:=.type "slice",data:=.fields #[vl,vu,.none] } }:=I3.kept (t':=s3.toks) fun b ob q=>Heap.get?_push_of_some _ q
 obtain ⟨T,id,hT,ht,hg⟩:=hr pins { s3 with heap:=s3.heap.push { cls:=.type "slice",data:=.fields #[vl,vu,.none] } } σ H3 x v vl vu l u s3.heap.objs.size Q I4 r1 (Heap.IsSliceOf.new ..) pl pu q3
 show wpAny (model X.prog X.w) X.A (subscriptTail e (.Slice lo hi none p2) v (.ref s3.heap.objs.size)) (EP X pins σ Q) X.xe { s3 with heap:=s3.heap.push { cls:=.type "slice",data:=.fields #[vl,vu,.none] } }
 exact tail_any (ops:=[.ref s3.heap.objs.size,v]) ht hT hg (by with_unfolding_all rfl)
def AA2 (xs:List V) (lo hi:Option Int):List V:=(xs.drop (HT.sIx xs.length 0 lo)).take (HT.sIx xs.length xs.length hi - HT.sIx xs.length 0 lo)
theorem rV (xs:List V) (lo hi:Option Int):(AA2 xs lo hi).length≤xs.length:=by
 unfold AA2
 rw [List.length_take,List.length_drop]
 omega
end
end L2
namespace L2
open PySem PySem.Spec PyProof.Rows PySem.W
def ixN (n:Nat) (i:Int):Option Nat:=if 0≤i then (if i < n then some i.toNat else none) else if -(n:Int)≤i then some (i+n).toNat else none
def atI {α:Type}(xs:List α) (i:Int):Option α:=(ixN xs.length i).bind fun j=>xs[j]?
theorem wZ {n:Nat}{i:Int}{j:Nat}(h:ixN n i=some j):seqIndex? i n=some j∧j < n∧-(n:Int)≤i∧i < n:=by
 unfold ixN at h
 by_cases h0:0≤i
 ·rw [if_pos h0] at h
  by_cases h1:i < n
  ·rw [if_pos h1] at h
   have e:i.toNat=j:=Option.some.inj h
   exact ⟨by rw [seqIndex_of h0 h1,e],by omega,by omega,h1⟩
  ·rw [if_neg h1] at h; cases h
 ·rw [if_neg h0] at h
  by_cases h1:-(n:Int)≤i
  ·rw [if_pos h1] at h
   have e:(i+n).toNat=j:=Option.some.inj h
   exact ⟨by rw [seqIndex_neg (by omega) h1,e],by omega,h1,by omega⟩
  ·rw [if_neg h1] at h; cases h
theorem rW {α:Type}{xs:List α}{i:Int}{v:α}(h:atI xs i=some v):∃ j,seqIndex? i xs.length=some j∧xs[j]?=some v∧j < xs.length∧-(xs.length:Int)≤i∧i < xs.length:=by
 unfold atI at h
 cases e:ixN xs.length i with
 | none=>rw [e] at h; cases h
 | some j =>
  rw [e] at h
  obtain ⟨h1,h2,h3,h4⟩:=wZ e
  exact ⟨j,h1,h,h2,h3,h4⟩
theorem hV {α:Type}{xs:List α}{j:Nat}{v:α}(h:xs[j]?=some v):atI xs (j:Int)=some v:=by
 have hj:j < xs.length:=(List.getElem?_eq_some_iff.mp h).1
 have e:ixN xs.length (j:Int)=some j:=by
  unfold ixN
  rw [if_pos (by omega),if_pos (by omega)]; simp
 unfold atI; rw [e]; exact h
def xA (b:Expr):Prop:=∀ o i,subscripted b false o i=operate [o,i] (getItem o i)
def IxR (X:Cx) (r:R2):Prop :=
 ∀ (value slice:Expr) (pins:List (Addr × Obj)) (s:Shared) (σ:St) (H:Hp) (x y:V) (v u:Value) (Q:VK),Inv X pins σ H s→RelV x v→RelV y u→r x y H Q →
  subscripted slice false v u=operate [v,u] (getItem v u)→wpAny (model X.prog X.w) X.A (subscriptTail value slice v u) (EP X pins σ Q) X.xe s
def MtR (X:Cx) (id:String) (r:V→List V→Hp→VK→Prop):Prop :=
 ∀ (pins:List (Addr × Obj)) (s:Shared) (σ:St) (H:Hp) (x:V) (xs:List V) (v:Value) (us:List Value) (Q:VK),Inv X pins σ H s→RelV x v→Vals xs us→r x xs H Q →
  wpAny (model X.prog X.w) X.A (call (.builtin id) (v::us)) (EP X pins σ Q) X.xe s
section
variable {X:Cx}{a b:Expr}{ta tb:TE}{pos:Pos}
theorem IxR.or {r r':R2}(h:IxR X r) (h':IxR X r'):IxR X (fun x y H Q=>r x y H Q∨r' x y H Q):=by
 intro value slice pins s σ H x y v u Q I rx ry q hs
 rcases q with q | q
 ·exact h value slice pins s σ H x y v u Q I rx ry q hs
 ·exact h' value slice pins s σ H x y v u Q I rx ry q hs
theorem MtR.or {id:String}{r r':V→List V→Hp→VK→Prop}(h:MtR X id r) (h':MtR X id r'):MtR X id (fun x xs H Q=>r x xs H Q∨r' x xs H Q):=by
 intro pins s σ H x xs v us Q I rx rs q
 rcases q with q | q
 ·exact h pins s σ H x xs v us Q I rx rs q
 ·exact h' pins s σ H x xs v us Q I rx rs q
theorem bM {r:R2}(hr:IxR X r) (ha:PE X a ta) (hb:PE X b tb) (hs:xA b):PE X (.Subscript a b pos) (tOp r ta tb):=by
 intro pins s σ H Q I h
 exact Subscript_ (AX4 ha hb I h fun v u s2 x y H2 I2 rx ry q=>hr a b pins s2 σ H2 x y v u Q I2 rx ry q (hs _ _))
def AY0 (K:Frag):R2:=fun x y H Q=>∃ p xs i v,x=.ref p∧y=.int i∧SqL K H p xs∧atI xs i=some v∧Q v H
def AY1 (K:Frag):R2:=fun x y H Q=>∃ p xs i v,x=.ref p∧y=.int i∧SqT K H p xs∧atI xs i=some v∧Q v H
def BE3:R2:=fun x y H Q=>∃ z i c,x=.str z∧y=.int i∧z.length≤sizeLine∧atI z.cps.toList i=some c∧Q (.str ⟨#[c]⟩) H
theorem cV:IxR X (AY0 X.K):=by
 intro value slice pins s σ H x y v u Q I rx ry h hs
 obtain ⟨p,xs,i,z,rfl,rfl,hq,he,q⟩:=h
 cases rx
 obtain ⟨t,rfl⟩:=ry
 obtain ⟨its,r,pl,hz⟩:=I.list hq
 obtain ⟨j,h1,h2,h3,h4,h5⟩:=rW he
 obtain ⟨w,ew,rw'⟩:=r.get h2
 have hl:=r.length
 have hn:=nO
 have fin:EP X pins σ Q w s:=⟨z,H,I,rw',q⟩
 by_cases h0:0≤i
 ·have hj:i.toNat=j:=by
   rw [seqIndex_of h0 h5] at h1
   exact Option.some.inj h1
  exact item_listR pl.isList h0 (by omega) (by rw [hj]; simpa using ew) fin hs
 ·have hj:(i+(its.toArray.size:Int)).toNat=j:=by
   rw [seqIndex_neg (by omega) h4] at h1
   rw [List.size_toArray,← hl]
   exact Option.some.inj h1
  exact subscriptTail_builtinR (x:=w) pl.isList.typeIs slot_list_getitem.lookup
   (wpAny_getItem_list_neg (Q:=fun r s'=>r=w∧EP X pins σ Q r s') pl.isList (by omega) (by rw [List.size_toArray] <;> omega) (by omega) (by rw [hj]; simpa using ew) ⟨rfl,fin⟩) hs
theorem bO:IxR X (AY1 X.K):=by
 intro value slice pins s σ H x y v u Q I rx ry h hs
 obtain ⟨p,xs,i,z,rfl,rfl,hq,he,q⟩:=h
 cases rx
 obtain ⟨t,rfl⟩:=ry
 obtain ⟨its,r,pl,hz⟩:=I.tuple hq
 obtain ⟨j,h1,h2,h3,h4,h5⟩:=rW he
 obtain ⟨w,ew,rw'⟩:=r.get h2
 have hl:=r.length
 have hn:=nO
 have fin:EP X pins σ Q w s:=⟨z,H,I,rw',q⟩
 exact subscriptTail_builtinR (x:=w) pl.typeIs slot_tuple_getitem.lookup
  (getItem_tuple (j:=j) (Q:=fun r s'=>r=w∧EP X pins σ Q r s') pl (by omega) (by omega) (by rw [List.size_toArray,← hl]; exact h1) (by simpa using ew) ⟨rfl,fin⟩) hs
theorem AG2:IxR X BE3:=by
 intro value slice pins s σ H x y v u Q I rx ry h hs
 obtain ⟨z,i,c,rfl,rfl,hz,he,q⟩:=h
 obtain ⟨t,rfl⟩:=rx
 obtain ⟨t',rfl⟩:=ry
 obtain ⟨j,h1,h2,h3,h4,h5⟩:=rW he
 have hl:z.cps.toList.length=z.length:=by simp [Str.length]
 rw [hl] at h1 h4 h5
 have hn:=nO
 exact tail_any (typeIs_str s z t) slot_str_getitem.lookup (getItem_str (c:=c) (by
  have e1:decide (i < -(2 ^ 63:Int))=false:=decide_eq_false (by omega)
  have e2:decide (i ≥ 2 ^ 63)=false:=decide_eq_false (by omega)
  rw [e1,e2,Bool.or_false]) (by rw [h1]; simpa using h2) ⟨.str ⟨#[c]⟩,H,I.tok _,⟨_,rfl⟩,q⟩) hs
theorem vM (its:List Value) (n j:Nat) (u:Value):Obj.mapSeq (·.setIfInBounds j u) { cls:=.type "list",data:=.seq its.toArray n }={ cls:=.type "list",data:=.seq (its.set j u).toArray n }:=by
 simp [Obj.mapSeq]
theorem Inv.lst {pins:List (Addr × Obj)}{σ:St}{H:Hp}{s:Shared}{p:Addr}{xs:List V}(I:Inv X pins σ H s) (h:H p=some (.lst xs)) :
  ∃ (its:List Value) (n:Nat),Vals xs its∧s.heap.get? p=some { cls:=.type "list",data:=.seq its.toArray n }∧xs.length≤sizeLine:=by
 obtain ⟨z,its,n,r,e⟩:=I.hok p _ h
 exact ⟨its,n,r,e,z⟩
theorem Inv.lstUpd {pins:List (Addr × Obj)}{σ:St}{H:Hp}{s:Shared}{p:Addr}{xs ys:List V}{its its':List Value}{n n':Nat}{f:Obj→Obj}(I:Inv X pins σ H s) (h:H p=some (.lst xs))
  (ho:s.heap.get? p=some { cls:=.type "list",data:=.seq its.toArray n }) (hf:f { cls:=.type "list",data:=.seq its.toArray n }={ cls:=.type "list",data:=.seq its'.toArray n' }) (r:Vals ys its') (hz:ys.length≤sizeLine) (t:Nat) :
  Inv X pins σ (upd H p (.lst ys)) { s with heap:=s.heap.update p f,toks:=t }:=by
 have e:(s.heap.update p f).get? p=some { cls:=.type "list",data:=.seq its'.toArray n' }:=by
  rw [Heap.get?_update_self f ho (by rw [hf] <;> rfl),hf]
 refine I.write (x:=p) (e:=p) (by rw [h]; trivial) (.inl rfl) (fun b u hb q=>(Heap.get?_update_other _ _ (Ne.symm hb)).trans q) ⟨_,e⟩ ?_
 exact ⟨hz,its',n',r,e⟩
def AR6:V→V→V→Hp→(Hp→Prop)→Prop:=fun o i v H Q=>∃ p xs k j,o=.ref p∧i=.int k∧H p=some (.lst xs)∧ixN xs.length k=some j∧Q (upd H p (.lst (xs.set j v)))
theorem uD:BD6 X AR6:=by
 intro pins s σ H o i v ov iv u Q I ro ri rv h
 obtain ⟨p,xs,k,j,rfl,rfl,hp,hj,q⟩:=h
 cases ro
 obtain ⟨t,rfl⟩:=ri
 obtain ⟨its,n,r,ho,hz⟩:=I.lst hp
 obtain ⟨h1,h2,h3,h4⟩:=wZ hj
 have hl:=r.length
 have hn:=nO
 have I':Inv X pins σ (upd H p (.lst (xs.set j v))) { s with heap:=s.heap.update p (Obj.mapSeq (·.setIfInBounds j u)) } :=
  I.lstUpd hp ho (vM its n j u) (r.set rv j) (by rw [List.length_set]; exact hz) s.toks
 by_cases h0:0≤k
 ·have hk:k.toNat=j:=by
   rw [seqIndex_of h0 h4] at h1
   exact Option.some.inj h1
  exact ki_setAt ho h0 (by omega) (by rw [List.size_toArray,← hl]; exact h4) (by rw [hk]; exact ⟨_,I',q⟩)
 ·have hk:(k+(its.toArray.size:Int)).toNat=j:=by
   rw [seqIndex_neg (by omega) h3] at h1
   rw [List.size_toArray,← hl]
   exact Option.some.inj h1
  exact ki_setBack ho (by omega) (by rw [List.size_toArray,← hl]; exact h3) (by omega) (by rw [hk]; exact ⟨_,I',q⟩)
theorem qM (lo hi:Option Int) (n:Nat):(sliceBounds lo hi none n).1=((HT.sIx n 0 lo:Nat):Int)∧(sliceBounds lo hi none n).2.1=((HT.sIx n n hi:Nat):Int)∧(sliceBounds lo hi none n).2.2=1:=by
 refine ⟨?_,?_,rfl⟩
 ·cases lo with
  | none=>simp [sliceBounds,HT.sIx]
  | some i =>
   simp only [sliceBounds,HT.sIx,Option.getD_none,show (1:Int) > 0 by decide,if_true]
   by_cases h:i < 0
   ·simp only [h,if_true] <;> omega
   ·simp only [h,if_false] <;> omega
 ·cases hi with
  | none=>simp [sliceBounds,HT.sIx]
  | some i =>
   simp only [sliceBounds,HT.sIx,Option.getD_none,show (1:Int) > 0 by decide,if_true]
   by_cases h:i < 0
   ·simp only [h,if_true] <;> omega
   ·simp only [h,if_false] <;> omega
theorem oO (its:List Value) (lo hi:Option Int):slicePick its.toArray lo hi none=((its.drop (HT.sIx its.length 0 lo)).take (HT.sIx its.length its.length hi - HT.sIx its.length 0 lo)).toArray:=by
 obtain ⟨h1,h2,h3⟩:=qM lo hi its.toArray.size
 unfold slicePick
 rw [h1,h2,h3]
 simp only [sliceRange_one,pick_run,List.size_toArray] <;> rfl
def BF8 (K:Frag):V→Option Int→Option Int→Hp→VK→Prop:=fun x lo hi H Q=>∃ a xs,x=.ref a∧SqL K H a xs∧∀ p,H p=none→Q (.ref p) (upd H p (.lst (AA2 xs lo hi)))
theorem rX:SlR X (BF8 X.K):=by
 intro pins s σ H x v vl vu lo hi sl Q I rx hs pl pu h
 obtain ⟨a,xs,rfl,hx,q⟩:=h
 cases rx
 obtain ⟨its,r,ht,hz⟩:=I.list hx
 have hlen:=r.length
 refine ⟨"list",_,slot_list_getitem.lookup,ht.isList.typeIs,?_⟩
 refine wpAny_getItem_list_slice ht.isList hs pl pu .none (by simp) ?_ (by rw [List.size_toArray] <;> omega)
 rw [oO,← hlen]
 refine ⟨.ref s.heap.objs.size,_,I.laid (t':=s.toks) (o:=.lst (AA2 xs lo hi)) (fun b ob q=>Heap.get?_push_of_some _ q) (Nat.le_refl _) ?_,rfl,q _ (I.hok.fresh (Nat.le_refl _))⟩
 exact ⟨Nat.le_trans (rV xs lo hi) hz,_,0,(r.drop (HT.sIx xs.length 0 lo)).take (HT.sIx xs.length xs.length hi - HT.sIx xs.length 0 lo),Heap.get?_push_size _ rfl⟩
def oP:V→Bool
 | .non=>true
 | .bl _=>true
 | .int _=>true
 | .str _=>true
 | _=>false
def eqV:V→V→Bool
 | .non,.non=>true
 | .bl a,.bl b=>a == b
 | .bl a,.int b=>(if a then 1 else 0) == b
 | .int a,.bl b=>a == (if b then 1 else 0)
 | .int a,.int b=>a == b
 | .str a,.str b=>a == b
 | _,_=>false
theorem AR7 {A:Around}{s:Shared}{y x:V}{u v:Value}(ry:RelV y u) (rx:RelV x v) (fy:oP y=true) (fx:oP x=true):SeqAt.EqAt A s u v (eqV y x):=by
 cases y with
 | non =>
  cases ry
  cases x with
  | non=>cases rx; exact SeqAt.EqAt.same _
  | bl b=>cases rx; exact SeqAt.EqAt.none_bool b
  | int b=>obtain ⟨t,rfl⟩:=rx; exact SeqAt.EqAt.none_int b t
  | str b=>obtain ⟨t,rfl⟩:=rx; exact SeqAt.EqAt.none_str b t
  | _=>exact absurd (show false=true from fx) Bool.false_ne_true
 | bl a =>
  cases ry
  cases x with
  | non=>cases rx; exact SeqAt.EqAt.bool_none a
  | bl b=>cases rx; exact SeqAt.EqAt.bool_bool a b
  | int b=>obtain ⟨t,rfl⟩:=rx; exact SeqAt.EqAt.bool_int a b t
  | str b=>obtain ⟨t,rfl⟩:=rx; exact SeqAt.EqAt.bool_str a b t
  | _=>exact absurd (show false=true from fx) Bool.false_ne_true
 | int a =>
  obtain ⟨t',rfl⟩:=ry
  cases x with
  | non=>cases rx; exact SeqAt.EqAt.int_none a t'
  | bl b=>cases rx; exact SeqAt.EqAt.int_bool a t' b
  | int b=>obtain ⟨t,rfl⟩:=rx; exact SeqAt.EqAt.int_int a t' b t
  | str b=>obtain ⟨t,rfl⟩:=rx; exact SeqAt.EqAt.int_str a t' b t
  | _=>exact absurd (show false=true from fx) Bool.false_ne_true
 | str a =>
  obtain ⟨t',rfl⟩:=ry
  cases x with
  | non=>cases rx; exact SeqAt.EqAt.str_none a t'
  | bl b=>cases rx; exact SeqAt.EqAt.str_bool a t' b
  | int b=>obtain ⟨t,rfl⟩:=rx; exact SeqAt.EqAt.str_int a t' b t
  | str b=>obtain ⟨t,rfl⟩:=rx; exact SeqAt.EqAt.str_str a t' b t
  | _=>exact absurd (show false=true from fx) Bool.false_ne_true
 | _=>exact absurd (show false=true from fy) Bool.false_ne_true
def eqU (x:V) (u:Value):Bool:=match u with
 | .none=>eqV .non x
 | .bool b=>eqV (.bl b) x
 | .int i _=>eqV (.int i) x
 | .str z _=>eqV (.str z) x
 | _=>false
theorem AG3 {x y:V}{u:Value}(r:RelV y u) (f:oP y=true):eqU x u=eqV y x:=by
 cases y with
 | non=>cases r; rfl
 | bl b=>cases r; rfl
 | int i=>obtain ⟨t,rfl⟩:=r; rfl
 | str z=>obtain ⟨t,rfl⟩:=r; rfl
 | _=>exact absurd (show false=true from f) Bool.false_ne_true
theorem rY {x:V}:∀ {xs:List V}{us:List Value},Vals xs us→xs.all oP=true→us.any (eqU x)=xs.any fun y=>eqV y x
 | _,_,.nil,_=>rfl
 | y::xs,u::us,.cons r t,f=>by
  rw [List.all_cons,Bool.and_eq_true] at f
  rw [List.any_cons,List.any_cons,AG3 r f.1,rY t f.2]
theorem oQ {A:Around}{s:Shared}{x:V}{v:Value}(rx:RelV x v) (fx:oP x=true):∀ {xs:List V}{us:List Value},Vals xs us→xs.all oP=true→∀ u∈us,SeqAt.EqAt A s u v (eqU x u)
 | _,_,.nil,_=>fun u hu=>by cases hu
 | y::xs,u::us,.cons r t,f=>fun u' hu=>by
  rw [List.all_cons,Bool.and_eq_true] at f
  rcases List.mem_cons.mp hu with rfl | hu
  ·rw [AG3 r f.1]; exact AR7 r rx f.1 fx
  ·exact oQ rx fx t f.2 u' hu
def inV (x:V) (xs:List V):Bool:=xs.any fun y=>eqV y x
def rIn (K:Frag) (neg:Bool):R2:=fun x y H Q=>∃ p xs,y=.ref p∧(SqL K H p xs∨SqT K H p xs)∧oP x=true∧xs.all oP=true∧Q (.bl (if neg then !inV x xs else inV x xs)) H
theorem hW:OpR X (compareOp .NotIn) (rIn X.K true):=by
 intro pins s σ H x y v u Q I rx ry h
 obtain ⟨p,xs,rfl,hq,fx,fs,q⟩:=h
 cases ry
 rcases hq with hq | hq
 ·obtain ⟨its,r,pl,hz⟩:=I.list hq
  refine SeqAt.notIn_listAt (eqU x) pl.isList (fun w hw=>oQ rx fx r fs w (by simpa using hw)) ⟨.bl _,H,I,rfl,?_⟩
  rw [show its.toArray.any (eqU x)=its.any (eqU x) by simp,rY r fs]
  exact q
 ·obtain ⟨its,r,pl,hz⟩:=I.tuple hq
  refine SeqAt.notIn_tupleAt (eqU x) pl (fun w hw=>oQ rx fx r fs w (by simpa using hw)) ⟨.bl _,H,I,rfl,?_⟩
  rw [show its.toArray.any (eqU x)=its.any (eqU x) by simp,rY r fs]
  exact q
theorem bH:CallR X (.builtin "len") (fun xs H Q=>∃ p ys,xs=[.ref p]∧(SqL X.K H p ys∨SqT X.K H p ys)∧Q (.int ys.length) H):=by
 intro pins s σ H xs us Q I r h
 obtain ⟨p,ys,rfl,hq,q⟩:=h
 obtain ⟨u,rfl,rx⟩:=nC r
 cases rx
 have hn:=nO
 rcases hq with hq | hq
 ·obtain ⟨its,r',pl,hz⟩:=I.list hq
  have hlen:=r'.length
  exact Calls.call_len_list pl.isList (by simp only [List.size_toArray] <;> omega) ⟨.int ys.length,H,I.tok _,⟨s.toks+1,by rw [List.size_toArray,hlen]⟩,q⟩
 ·obtain ⟨its,r',pl,hz⟩:=I.tuple hq
  have hlen:=r'.length
  exact len_tuple pl (by simp only [List.size_toArray] <;> omega) ⟨.int ys.length,H,I.tok _,⟨s.toks+1,by rw [List.size_toArray,hlen]⟩,q⟩
theorem eL:CallR X (.builtin "len") (fun xs H Q=>∃ z,xs=[.str z]∧z.length≤sizeLine∧Q (.int z.length) H):=by
 intro pins s σ H xs us Q I r h
 obtain ⟨z,rfl,hz,q⟩:=h
 obtain ⟨u,rfl,t,rfl⟩:=nC r
 have hn:=nO
 exact len_str (by omega) ⟨.int z.length,H,I.tok _,⟨_,rfl⟩,q⟩
theorem CallR.or {f:Value}{r r':List V→Hp→VK→Prop}(h:CallR X f r) (h':CallR X f r'):CallR X f (fun xs H Q=>r xs H Q∨r' xs H Q):=by
 intro pins s σ H xs us Q I rs q
 rcases q with q | q
 ·exact h pins s σ H xs us Q I rs q
 ·exact h' pins s σ H xs us Q I rs q
theorem cW:CallR X (.type "list") (fun xs H Q=>∃ p ys,xs=[.ref p]∧(SqL X.K H p ys∨SqT X.K H p ys)∧∀ l,H l=none→Q (.ref l) (upd H l (.lst ys))):=by
 intro pins s σ H xs us Q I r h
 obtain ⟨p,ys,rfl,hq,q⟩:=h
 obtain ⟨u,rfl,rx⟩:=nC r
 cases rx
 have fin:∀ (its:List Value),Vals ys its→ys.length≤sizeLine→∀ (h':Heap) (c':Nat),(∀ b o',s.heap.get? b=some o'→h'.get? b=some o') →
   h'.get? s.heap.objs.size=some { cls:=.type "list",dict:=none,data:=.seq its.toArray c',slots:=#[] }→EP X pins σ Q (.ref s.heap.objs.size) { s with heap:=h' }:=fun its r' hz h' c' kp e =>
  ⟨.ref s.heap.objs.size,_,I.laid (t':=s.toks) kp (Nat.le_refl _) (show ObjOk X.prog X.w _ h' _ (.lst ys) from ⟨hz,its,c',r',e⟩),rfl,q _ (I.hok.fresh (Nat.le_refl _))⟩
 rcases hq with hq | hq
 ·obtain ⟨its,r',pl,hz⟩:=I.list hq
  have hlen:=r'.length
  obtain ⟨o,ho,hc,n,hd⟩:=pl.isList
  exact call_list_seq p (.inl rfl) ho hc hd (fun h' c' kp e=>fin its r' hz h' c' kp e) (by simp only [List.size_toArray] <;> omega)
 ·obtain ⟨its,r',pl,hz⟩:=I.tuple hq
  have hlen:=r'.length
  obtain ⟨o,ho,hc,n,hd⟩:=pl
  exact call_list_seq p (.inr rfl) ho hc hd (fun h' c' kp e=>fin its r' hz h' c' kp e) (by simp only [List.size_toArray] <;> omega)
theorem jK:CallR X (.type "tuple") (fun xs H Q=>∃ p ys,xs=[.ref p]∧((SqL X.K H p ys∧∀ l,H l=none→Q (.ref l) (upd H l (.tup ys)))∨(SqT X.K H p ys∧Q (.ref p) H))):=by
 intro pins s σ H xs us Q I r h
 obtain ⟨p,ys,rfl,h⟩:=h
 obtain ⟨u,rfl,rx⟩:=nC r
 cases rx
 rcases h with ⟨hq,q⟩ | ⟨hq,q⟩
 ·obtain ⟨its,r',pl,hz⟩:=I.list hq
  have hlen:=r'.length
  refine call_tuple_list pl.isList (fun h' kp=>?_) (by simp only [List.size_toArray] <;> omega)
  have I1:Inv X pins σ H { s with heap:=h' }:=I.kept (t':=s.toks) kp
  have I2:Inv X pins σ (upd H h'.objs.size (.tup ys)) { s with heap:=h'.push { cls:=.type "tuple",data:=.seq its.toArray } } :=
   I1.laid (t':=s.toks) (fun b o e=>Heap.get?_push_of_some _ e) (Nat.le_refl _) (show ObjOk X.prog X.w _ _ _ (.tup ys) from ⟨hz,its,r',IsTup.new _ _⟩)
  exact ⟨.ref h'.objs.size,_,I2,rfl,q _ (I1.hok.fresh (Nat.le_refl _))⟩
 ·obtain ⟨its,r',pl,hz⟩:=I.tuple hq
  exact call_tuple_same pl ⟨.ref p,H,I,rfl,q⟩
def tyV (K:Frag) (T:String) (x:V) (H:Hp):Prop:=match x with
 | .str _=>T="str"
 | .int _=>T="int"
 | .ref p=>(T="list"∧∃ xs,SqL K H p xs)∨(T="tuple"∧∃ o,K.lookup p=some o∧o.cls=.type "tuple"∧o.dict=none) ∨
   (T="dict"∧((∃ kvs,H p=some (.dK kvs))∨∃ kvs,H p=some (.dT kvs)))∨(T="set"∧∃ S n,H p=some (.set S n))
 | _=>False
theorem AG4 {pins:List (Addr × Obj)}{σ:St}{H:Hp}{s:Shared}{T:String}{x:V}{v:Value}(I:Inv X pins σ H s) (r:RelV x v) (ty:tyV X.K T x H) :
  s.TypeIs v T∧∀ a,v=.ref a→∃ ob,s.heap.get? a=some ob∧ob.dict=none:=by
 cases x with
 | str z =>
  obtain ⟨t,rfl⟩:=r
  cases (show T="str" from ty)
  exact ⟨typeIs_str s z t,fun _ e=>nomatch e⟩
 | int i =>
  obtain ⟨t,rfl⟩:=r
  cases (show T="int" from ty)
  exact ⟨typeIs_int s i t,fun _ e=>nomatch e⟩
 | ref p =>
  cases r
  rcases ty with ⟨rfl,xs,hq⟩ | ⟨rfl,o,hk,hc,hd⟩ | ⟨rfl,hk⟩ | ⟨rfl,S,n,hk⟩
  ·obtain ⟨its,_,pl,_⟩:=I.list hq
   refine ⟨pl.isList.typeIs,fun a e=>?_⟩
   cases e
   obtain ⟨o,n,e,c,hd,_⟩:=pl
   exact ⟨o,e,hd⟩
  ·refine ⟨⟨o,I.kIn p o hk,hc⟩,fun a e=>?_⟩
   cases e
   exact ⟨o,I.kIn _ o hk,hd⟩
  ·have z:∃ o,s.heap.get? p=some o∧o.ExactDict:=by
    rcases hk with ⟨kvs,hk⟩ | ⟨kvs,hk⟩
    ·obtain ⟨_,_,_,_,o,_,_,e,ex,_⟩:=I.hok p _ hk
     exact ⟨o,e,ex⟩
    ·obtain ⟨_,_,_,_,o,_,_,e,ex,_⟩:=I.hok p _ hk
     exact ⟨o,e,ex⟩
   obtain ⟨o,e,ex⟩:=z
   refine ⟨⟨o,e,ex.1⟩,fun a e2=>?_⟩
   cases e2
   exact ⟨o,e,ex.2.1⟩
  ·obtain ⟨o,_,_,_,e,ex,_⟩:=I.hok p _ hk
   refine ⟨⟨o,e,ex.1⟩,fun a e2=>?_⟩
   cases e2
   exact ⟨o,e,ex.2.1⟩
 | _=>exact False.elim ty
def BE4 (K:Frag) (T:String) (r:V→List V→Hp→VK→Prop) (to:TE):TE:=fun σ H Q=>to σ H fun x H1=>tyV K T x H1∧r x [] H1 Q
def tBM (K:Frag) (T:String) (r:V→List V→Hp→VK→Prop) (to:TE) (t:TA):TE:=fun σ H Q=>to σ H fun x H1=>tyV K T x H1∧t σ H1 fun xs H2=>r x xs H2 Q
variable {o e:Expr}{es:List Expr}{to:TE}{t:TA}{name:Str}{apos cpos:Pos}{T id:String}{r:V→List V→Hp→VK→Prop}
theorem AR8 (pa:PlainAttrs T) (slot:Slot T name id) (hty:typeOf (.builtin id)=pure (.type "method_descriptor")) (hm:MtR X id r) (ho:PE X o to)
  (hbase:attributeBase o name X.env (eval o X.env)=eval o X.env:=by rfl) (hline:(apos.endLine == cpos.line)=true:=by rfl):PE X (.Call (.Attribute o name apos) [] [] cpos) (BE4 X.K T r to):=by
 intro pins s σ H Q I h
 refine wpAny_Call_method0_late hbase hline (thn (ho pins s σ H _ I h) fun v s1 ⟨x,H1,I1,r1,ty,q1⟩=>?_)
 obtain ⟨h1,h2⟩:=AG4 I1 r1 ty
 exact ⟨T,id,pa,slot,hty,h1,h2,Calls.callWith_builtin rfl (PySem.evalArgs_none (hm pins s1 σ H1 x [] v [] Q I1 r1 .nil q1))⟩
theorem iM (pa:PlainAttrs T) (slot:Slot T name id) (hty:typeOf (.builtin id)=pure (.type "method_descriptor")) (hm:MtR X id r) (ho:PE X o to) (ha:PA X (e::es) t)
  (hbase:attributeBase o name X.env (eval o X.env)=eval o X.env:=by rfl)
  (hfew:((backTo cpos (starEach (e::es) X.env)).all (fun x=>!x.1) && (backToKw cpos (keywordEach [] X.env)).all (fun x=>x.1.isSome)
   && decide ((e::es).length+([]:List Keyword).length+(if ([]:List Keyword).isEmpty then 0 else 1) < 30))=true:=by rfl)
  (hline:(apos.endLine == cpos.line)=true:=by rfl) (hs:starEach (e::es) X.env=(false,eval e X.env)::starEach es X.env:=by rfl) (hplain:(backTo cpos (starEach es X.env)).any (·.1)=false:=by rfl) :
  PE X (.Call (.Attribute o name apos) (e::es) [] cpos) (tBM X.K T r to t):=by
 intro pins s σ H Q I h
 refine wpAny_Call_method_late hbase hfew hline rfl (thn (ho pins s σ H _ I h) fun v s1 ⟨x,H1,I1,r1,ty,q1⟩=>?_)
 obtain ⟨h1,h2⟩:=AG4 I1 r1 ty
 refine ⟨T,id,pa,slot,hty,h1,h2,?_⟩
 have hA:=ha cpos pins s1 σ H1 _ I1 q1
 rw [hs] at hA ⊢
 refine Calls.callWith_builtin (by show (false || (backTo cpos (starEach es X.env)).any (·.1))=false; rw [hplain] <;> rfl) (Calls.evalArgs_plain ?_)
 exact thn hA fun us s2 ⟨vs,H2,I2,r2,q2⟩=>hm pins s2 σ H2 x vs v us Q I2 r1 r2 q2
/- xs.append(e),list.index on a module's tuple .. are MtR facts of 06m -/
end
end L2
namespace L2
open PySem PySem.Spec PyProof.Rows PySem.W
def MtM (X:Cx) (id:String) (r:V→List V→Hp→VK→Prop):Prop :=
 ∀ (pins:List (Addr × Obj)) (s:Shared) (σ:St) (H:Hp) (x:V) (xs:List V) (v:Value) (us:List Value) (Q:VK),Inv X pins σ H s→RelV x v→Vals xs us→r x xs H Q →
  wpAny (model X.prog X.w) X.A (call (.builtin id) (v::us)) (EP X pins σ Q) X.xe s
theorem Vals.one:∀ {x:V}{us:List Value},Vals [x] us→∃ u,us=[u]∧RelV x u
 | _,_,.cons r .nil=>⟨_,rfl,r⟩
theorem Vals.two:∀ {x y:V}{us:List Value},Vals [x,y] us→∃ u v,us=[u,v]∧RelV x u∧RelV y v
 | _,_,_,.cons r (.cons q .nil)=>⟨_,_,rfl,r,q⟩
theorem Vals.zero:∀ {us:List Value},Vals [] us→us=[]
 | _,.nil=>rfl
theorem Vals.dropLast {xs:List V}{us:List Value}(h:Vals xs us):Vals xs.dropLast us.dropLast:=by
 induction h with
 | nil=>exact .nil
 | cons r t ih =>
  cases t with
  | nil=>exact .nil
  | cons q t'=>exact .cons r ih
theorem Vals.reverse {xs:List V}{us:List Value}(h:Vals xs us):Vals xs.reverse us.reverse:=by
 induction h with
 | nil=>exact .nil
 | cons r t ih=>rw [List.reverse_cons,List.reverse_cons]; exact Vals.append ih (.cons r .nil)
theorem vN {α:Type}(l:List α):l.eraseIdx (l.length - 1)=l.dropLast:=by
 induction l with
 | nil=>rfl
 | cons a r ih =>
  cases r with
  | nil=>rfl
  | cons b r =>
   have e:(a::b::r).length - 1=((b::r).length - 1)+1:=by
    have h1:(a::b::r).length=r.length+2:=rfl
    have h2:(b::r).length=r.length+1:=rfl
    omega
   rw [e,List.eraseIdx_cons_succ,ih]
   all_goals rfl
section
variable {X:Cx}{pins:List (Addr × Obj)}{σ:St}{H:Hp}{s:Shared}{l b:Addr}{xs ys zs:List V}
theorem Inv.lset {its its':List Value}{n:Nat}{f:Array Value→Array Value}{t':Nat}(I:Inv X pins σ H s) (hH:H l=some (.lst xs))
  (e:s.heap.get? l=some { cls:=.type "list",data:=.seq its.toArray n }) (hf:f its.toArray=its'.toArray) (hv:Vals ys its') (hz:ys.length≤sizeLine) :
  Inv X pins σ (upd H l (.lst ys)) { s with heap:=s.heap.update l (Obj.mapSeq f),toks:=t' }:=by
 have q:=PySem.IsL.update e f
 rw [hf] at q
 refine I.write (x:=l) (e:=l) (by rw [hH]; exact trivial) (.inl rfl) (fun b' u hb hu=>(Heap.get?_update_other s.heap (Obj.mapSeq f) (Ne.symm hb)).trans hu) ⟨_,q⟩ ?_
 exact ⟨hz,its',_,hv,q⟩
theorem Inv.lnew {its:List Value}{t':Nat}(I:Inv X pins σ H s) (hv:Vals ys its) (hz:ys.length≤sizeLine) :
  Inv X pins σ (upd H s.heap.objs.size (.lst ys)) { s with heap:=s.heap.push { cls:=.type "list",data:=.seq its.toArray },toks:=t' } :=
 I.laid (fun _ _ q=>Heap.get?_push_of_some _ q) (Nat.le_refl _) ⟨hz,its,0,hv,Heap.get?_push_size _ rfl⟩
theorem Inv.fresh (I:Inv X pins σ H s):H s.heap.objs.size=none:=I.hok.fresh (Nat.le_refl _)
theorem Inv.lstM (I:Inv X pins σ H s) (hH:H l=some (.lst xs)):xs.length≤sizeLine∧∃ (its:List Value) (n:Nat),Vals xs its∧xs.length=its.length∧s.heap.get? l=some { cls:=.type "list",data:=.seq its.toArray n }:=by
 obtain ⟨z,its,n,r,e⟩:=I.hok l _ hH
 exact ⟨z,its,n,r,r.length,e⟩
end
section
variable {X:Cx}
def AJ5:V→List V→Hp→VK→Prop:=fun x vs H Q=>∃ l xs y,x=.ref l∧vs=[y]∧H l=some (.lst xs)∧xs.length < sizeLine∧Q .non (upd H l (.lst (xs++[y])))
theorem jL:MtM X "list.append" AJ5:=by
 intro pins s σ H x vs v us Q I rx rv h
 obtain ⟨l,xs,y,rfl,rfl,hH,hz,q⟩:=h
 cases rx
 obtain ⟨u,rfl,ru⟩:=rv.one
 obtain ⟨z,its,n,r,hl,e⟩:=I.lstM hH
 refine call_meets F.slot_list_append ⟨_,e,rfl⟩ F.entry_list_append (F.args_list_append_2 _ _) (PySem.list_append l its.toArray n u (by rw [List.size_toArray]; omega)) ⟨e,?_⟩
 refine ⟨.non,_,I.lset (its':=its++[u]) hH e (by simp) (r.append (.cons ru .nil)) ?_,rfl,q⟩
 rw [List.length_append,List.length_singleton]
 omega
def BE5:V→List V→Hp→VK→Prop:=fun x vs H Q=>∃ l xs y,x=.ref l∧vs=[]∧H l=some (.lst xs)∧xs[xs.length - 1]?=some y∧Q y (upd H l (.lst xs.dropLast))
theorem AR9:MtM X "list.pop" BE5:=by
 intro pins s σ H x vs v us Q I rx rv h
 obtain ⟨l,xs,y,rfl,rfl,hH,hy,q⟩:=h
 cases rx
 have hus:=rv.zero
 subst hus
 obtain ⟨z,its,n,r,hl,e⟩:=I.lstM hH
 obtain ⟨u,hu,ru⟩:=r.get hy
 have hy':its.toArray[its.toArray.size - 1]?=some u:=by
  show its.toArray[its.length - 1]?=some u
  rw [← Array.getElem?_toList,← hl]
  exact hu
 refine call_meets F.slot_list_pop ⟨_,e,rfl⟩ F.entry_list_pop (F.args_list_pop_1 _) (MeetsSeq.list_pop_last l its.toArray n u hy' (by rw [List.size_toArray]; omega)) ⟨e,?_⟩
 refine ⟨y,_,I.lset (its':=its.dropLast) hH e ?_ r.dropLast ?_,ru,q⟩
 ·show its.toArray.eraseIdxIfInBounds (its.toArray.size - 1)=its.dropLast.toArray
  rw [List.size_toArray,List.eraseIdxIfInBounds_toArray,vN]
 ·rw [List.length_dropLast]
  omega
def BF9:R2:=fun x y H Q=>∃ l b xs zs,x=.ref l∧y=.ref b∧H l=some (.lst xs)∧H b=some (.lst zs)∧xs.length+zs.length≤sizeLine∧∀ p,H p=none→Q (.ref p) (upd H p (.lst (xs++zs)))
theorem kY:OpR X (binaryOp .Add) BF9:=by
 intro pins s σ H x y v u Q I rx ry h
 obtain ⟨l,b,xs,zs,rfl,rfl,hH,hB,hz,q⟩:=h
 cases rx
 cases ry
 obtain ⟨z,its,n,r,hl,e⟩:=I.lstM hH
 obtain ⟨z2,its2,n2,r2,hl2,e2⟩:=I.lstM hB
 refine PySem.P.add_list e e2 ?_ (by rw [List.size_toArray,List.size_toArray]; omega)
 have ea:its.toArray++its2.toArray=(its++its2).toArray:=by simp
 rw [ea]
 exact ⟨.ref _,_,I.lnew (t':=s.toks) (r.append r2) (by rw [List.length_append]; omega),rfl,q _ I.fresh⟩
end
section
variable {prog:Program}{w:World}{A:Around}{E:Value→Shared→Prop}{s:Shared}
end
section
variable {X:Cx}
end
end L2
namespace Att
open PySem PySem.W PySem.Calls PyProof.Rows
theorem ints_of_wellAll {P:Params}{h:Heap}:∀ (ns:List Int) (vs:List Value),WellAll P h vs (ns.map WData.int)→IntsAre vs ns:=by
 intro ns
 induction ns with
 | nil =>
  intro vs w
  rw [List.map_nil] at w
  cases w
  exact .nil
 | cons n ns ih =>
  intro vs w
  rw [List.map_cons] at w
  cases w with
  | cons a b =>
   cases a
   exact .cons _ _ (ih _ b)
theorem script_of {l:OpenLaw}{n:Nat}(hn:l.most=some n) {P:Params}{h:Heap}{args:List WData}{vals:List Value}
  (hpre:l.row.toRowW.claim.pre args=true) (hwl:WellAll P h vals args) :
  ∃ a vs ns,vals=[Value.ref a]∧args=[WData.list (ns.map WData.int)]∧h.get? a=some { cls:=.type "list",data:=.seq vs.toArray }∧IntsAre vs ns∧ns.length≤n:=by
 have hsh:WShape.hasAll [] args [.list .int]=true:=(pre_splitW hpre).1
 have hc:l.pre.holds [] { args:=args }=true:=(pre_splitW hpre).2
 obtain ⟨d,r,rfl,h1,h2⟩:=hasAllW_cons hsh
 obtain rfl:=hasAllW_nil h2
 obtain ⟨xs,rfl,h3⟩:=hasW_list h1
 obtain ⟨ns,rfl⟩:=items_int h3
 have hlen:ns.length≤n:=by
  unfold OpenLaw.pre at hc
  have h4:(WTm.not (.lt (.lit (.int (n:Int))) (.len (.arg 0)))).holds [] { args:=[.list (ns.map .int)] }=true:=by
   have h4:=(holds_andW hc).1
   rw [hn] at h4
   exact h4
  have h5:=condW_of h4 (w_not (w_lt w_lit (w_len_list (w_arg rfl))))
  rw [List.length_map] at h5
  refine Nat.le_of_not_lt fun q=>?_
  have q':(n:Int) < ((ns.length:Nat):Int):=by omega
  first
   | (rw [decide_eq_true q'] at h5; exact absurd h5 (by decide))
   | (simp at h5; omega)
 cases hwl with
 | cons w1 w2 =>
  cases w2
  cases w1 with
  | list ho hall=>exact ⟨_,_,ns,rfl,rfl,ho,ints_of_wellAll ns _ hall,hlen⟩
theorem post_true (l:OpenLaw) (args:List WData):l.row.toRowW.claim.post args (.bool true) args=true :=
 postW_of (r:=l.row.toRowW) (X:=(true == true))
  (show WShape.has [] (.bool true) .bool=true by first | rfl | decide | simp [WShape.has,WShape.arms,WShape.armsAll])
  (show (WTm.eq .res (.lit (.bool true))).value [] { args:=args,res:=some (.bool true),after:=args }=some (.bool (true == true)) from w_eq_bool (w_res rfl) w_lit) rfl
theorem attach_call {l:OpenLaw}{n:Nat}{q:Program}{loose:List Str}{XP:(Str→Option Value)→Heap→Prop}{YP:World→Heap→Prop}{d:DefRec}
  (hn:l.most=some n) (hdf:d.params.defaults=[])
  (call:∀ (w:World) (s₀ s₁:Shared) (mg mb:Str→Option Value) (fa:Addr) (o:Obj) (pm cd doc:Value) (a:Addr) (vs:List Value) (ns:List Int),
   Ground q loose [] XP w s₀ mg mb s₁.heap→YP w s₁.heap →
   s₁.heap.get? fa=some o→o.data=.func (docDef d.name d.params d.body d.scope pm cd doc)→s₁.heap.CodeRec cd d.name→mg d.name=some (.ref fa) →
   s₁.heap.get? a=some { cls:=.type "list",data:=.seq vs.toArray }→IntsAre vs ns→ns.length≤n→s₁.gens=#[] →
   codeAny (model l.prog w) callerA (.call (.ref fa) ⟨[.ref a],[]⟩) (fun r s'=>r=.ok (.ret (.bool true))∧OldK s₁.heap s'.heap∧s'.os=s₁.os∧AllBare s'.gens) s₁) :
  WalkO q loose XP YP l.row.toRowW d [] (fun f vs=>PySem.call f vs):=by
 intro w s₀ s₁ mg mb G Y fa o pm cd doc dV kV ho hd hcd hD hmg hg args vals as hpre hlay hrd hwl hlo
 obtain rfl:dV=.none:=Dflts.none hD hdf
 obtain rfl:kV=.none:=Dflts.noKw hD
 obtain ⟨a,vs,ns,rfl,rfl,hobj,hints,hlen⟩:=script_of hn hpre hwl
 refine enter_call (codeAny_mono (call w s₀ s₁ mg mb fa o pm cd doc a vs ns G Y ho (fd_plain hd) hcd hmg hobj hints hlen hg) fun r s' hq=>?_)
 obtain ⟨rfl,h2,h3,h4⟩:=hq
 exact ⟨.inl ⟨.bool true,.bool true,[],rfl,fun _=>rfl,.bool true,post_true l _,fun _=>⟨List.Pairwise.nil,fun _ hm=>(nomatch hm)⟩⟩,h2,h3,h4⟩
section
variable {prog:Program}{w:World}{A:Around}{E:Value→Shared→Prop}{s:Shared}{K:Frag}
def ledger (h:Heap) (L d:Addr):List (Addr × Obj):=(List.range h.objs.size).filterMap fun a=>if a=L∨a=d then none else (h.get? a).map fun o=>(a,o)
end
end Att
namespace L2
open PySem PySem.Spec PyProof.Rows PySem.W
theorem qN:∀ {vs:List Value}{ns:List Int},IntsAre vs ns→Vals (ns.map V.int) vs
 | _,_,.nil=>.nil
 | _,_,.cons n t h=>.cons ⟨t,rfl⟩ (qN h)
def AY2 (H:Hp):Prop:=∀ b,H b=none∨∃ o xs,H b=some (.frz o (.lst xs))
theorem AB7 {P:Program}{w:World}{K:Frag}{mg mb:Str→Option Value}{CX:CXT}{k:Nat}{fa a:Addr}{fd:FuncData}{x:Str}{sp:Sp}{s₁:Shared}{vs:List Value}{ns:List Int}
  (KX:K.In s₁.heap) (hns:s₁.heap.Ns mainGlobals mg) (hb:s₁.heap.Ns builtinsNs mb) (hbb:∀ x:Str,x≠"__name__"→mb x=bootBuiltins x) (hlim:s₁.heap.NoLimit) (hg:s₁.gens=#[])
  (ha:s₁.heap.get? a=some { cls:=.type "list",data:=.seq vs.toArray }) (hi:IntsAre vs ns) (hl:ns.length≤sizeLine) (hr:Room k callerA)
  (F:∀ base:Heap,K.In base→base.Ns mainGlobals mg→FnOk P w K mg base CX k fa fd [x] sp) (hbind:∀ (s:Shared) (u:Value),BindsTo s fd ⟨[u],[]⟩ [(x,u)])
  (hsp:∀ H:Hp,AY2 H→SqL K H a (ns.map V.int)→sp [.ref a] H (fun v _=>v=.bl true) fun _ _ _=>False)
  (hCX:∀ H e s',CX [] H s₁ (fun _ _ _=>False) e s'→False) :
  codeAny (model P w) callerA (.call (.ref fa) ⟨[.ref a],[]⟩) (fun r s'=>r=.ok (.ret (.bool true))∧OldK s₁.heap s'.heap∧s'.os=s₁.os∧AllBare s'.gens) s₁:=by
 have rv:=qN hi
 have lenV:=hi.length
 -- from an abstract heap in which nothing but the script may be tracked
 have core:∀ H:Hp,AY2 H→SqL K H a (ns.map V.int)→HOk P w H s₁.heap→(∀ b,H b≠none→b=a)→(H a≠none→K.lookup a=none) →
   codeAny (model P w) callerA (.call (.ref fa) ⟨[.ref a],[]⟩) (fun r s'=>r=.ok (.ret (.bool true))∧OldK s₁.heap s'.heap∧s'.os=s₁.os∧AllBare s'.gens) s₁:=by
  intro H hO hS hok hA hK
  have base_of:∀ {b:Addr}{o:Obj},s₁.heap.get? b=some o→H b=none→(AA3 s₁.heap H).get? b=some o:=fun e n=>AA4 e n
  have noA:∀ {b:Addr}{o:Obj}{es:Array DictEntry}{ep:Nat},s₁.heap.get? b=some o→o.data=.dict es ep→H b=none:=fun {b o es ep} e d=>by
   cases q:H b with
   | none=>rfl
   | some u =>
    have e':b=a:=hA b (by rw [q]; simp)
    subst e'
    rw [ha] at e; cases e
    have d':Data.seq vs.toArray _=Data.dict es ep:=d
    cases d'
  have nsK:∀ {b:Addr}{m:Str→Option Value},s₁.heap.Ns b m→(AA3 s₁.heap H).Ns b m:=fun {b m} ⟨o,es,ep,e,d,r⟩=>⟨o,es,ep,base_of e (noA e d),d,r⟩
  have hKb:K.In (AA3 s₁.heap H):=fun b o e=>base_of (KX b o e) (by
   cases q:H b with
   | none=>rfl
   | some u =>
    have e':b=a:=hA b (by rw [q]; simp)
    subst e'
    rw [hK (by rw [q]; simp)] at e; cases e)
  have hM:Mod K mg (AA3 s₁.heap H):=⟨hKb,nsK hns,⟨mb,nsK hb,hbb⟩,let ⟨mc,h1,h2⟩:=hlim; ⟨mc,nsK h1,h2⟩⟩
  have e0:Env0 P w K mg (AA3 s₁.heap H) callerA [] s₁ H:=⟨rfl,hM,fun b o e=>AI3 e,Nat.le_of_eq (wH _ _),trivial,fun b hb=>absurd (show b∈([]:List Addr) from hb) (by simp),hok,.of_eq hg⟩
  refine codeAny_mono ((F _ hKb (nsK hns)).run callerA [] s₁ H ⟨[.ref a],[]⟩ [.ref a] [.ref a] _ _ hr e0 (hbind s₁ (.ref a)) (.cons rfl .nil) (hsp H hO hS)) fun r s' h=>?_
  cases r with
  | error e=>exact (hCX H e s' h).elim
  | ok fl =>
   cases fl with
   | next=>exact False.elim h
   | brk=>exact False.elim h
   | cont=>exact False.elim h
   | ret u =>
    obtain ⟨v,H',os,bare,un,hok',r',q⟩:=h
    have q':v=.bl true:=q
    subst q'
    obtain rfl:u=Value.bool true:=r'
    refine ⟨rfl,OldK.of_keep fun b o e=>?_,os,bare⟩
    cases q:H b with
    | none=>exact un.keep b o e q (by intro z; exact absurd (show b∈([]:List Addr) from z) (by simp)) (by simp)
    | some u =>
     rcases hO b with z | ⟨ob,xs,z⟩
     ·rw [q] at z; cases z
     ·have z2:=un.frzs b ob _ z
      obtain ⟨e1,_⟩:=hok b _ z
      obtain ⟨e2,_⟩:=hok' b _ z2
      rw [e] at e1; cases e1
      exact e2
 cases hk:K.lookup a with
 | some o =>
  -- the script is one of the module's own objects
  have e:=KX a o hk
  rw [ha] at e
  cases e
  refine core (fun _=>none) (fun _=>.inl rfl) (.inr ⟨_,vs.toArray,_,hk,rfl,rfl,rfl,by rw [List.size_toArray,lenV]; exact hl,by simpa using rv⟩) (fun b u z=>by have z':(none:Option HO)=some u:=z; cases z') (fun b z=>absurd rfl z) fun z=>absurd rfl z
 | none =>
  refine core (fun b=>if b=a then some (.frz { cls:=.type "list",data:=.seq vs.toArray } (.lst (ns.map V.int))) else none) (fun b=>?_) (.inl (.inr ⟨{ cls:=.type "list",data:=.seq vs.toArray },if_pos rfl⟩)) (fun b u z=>?_) (fun b z=>?_) fun _=>hk
  ·by_cases hb:b=a
   ·exact .inr ⟨_,_,if_pos hb⟩
   ·exact .inl (if_neg hb)
  ·by_cases hb:b=a
   ·have z':=(if_pos hb).symm.trans z
    cases z'
    subst hb
    exact ⟨ha,by rw [List.length_map]; exact hl,vs,_,rv,ha⟩
   ·have z':=(if_neg hb).symm.trans z
    cases z'
  ·by_cases hb:b=a
   ·exact hb
   ·exact absurd (if_neg hb) z
end L2
namespace L2
open PySem PySem.Spec PyProof.Rows PySem.W
theorem AY3 {l:OpenLaw}{n k:Nat}{q:Program}{loose:List Str}{XP:(Str→Option Value)→Heap→Prop}{YP:World→Heap→Prop}{d:DefRec}{K:Params→Frag}{CX:World→CXT}{sp:World→Sp}{x:Str}
  (hn:l.most=some n) (hn2:n≤sizeLine) (hdf:d.params.defaults=[]) (hr:Room k callerA)
  (hY:∀ (w:World) (h:Heap),YP w h→(K w.params).In h)
  (F:∀ (w:World) (mg:Str→Option Value) (fa:Addr) (h:Heap),(K w.params).In h→h.Ns mainGlobals mg→mg d.name=some (.ref fa) →
   ∃ fd:FuncData,(∀ (s:Shared) (u:Value),BindsTo s fd ⟨[u],[]⟩ [(x,u)]) ∧
    ∀ base:Heap,(K w.params).In base→base.Ns mainGlobals mg→FnOk l.prog w (K w.params) mg base (CX w) k fa fd [x] (sp w))
  (hsp:∀ (w:World) (H:Hp) (a:Addr) (ns:List Int),ns.length≤n→AY2 H→SqL (K w.params) H a (ns.map V.int)→sp w [.ref a] H (fun v _=>v=.bl true) fun _ _ _=>False)
  (hCX:∀ (w:World) (H:Hp) (s:Shared) (e:Value) (s':Shared),CX w [] H s (fun _ _ _=>False) e s'→False) :
  WalkO q loose XP YP l.row.toRowW d [] (fun f vs=>PySem.call f vs):=by
 refine Att.attach_call hn hdf fun w s₀ s₁ mg mb fa o pm cd doc a vs ns G Y ho hd hcd hmg hobj hints hlen hg=>?_
 have KX:=hY w _ Y
 obtain ⟨fd,hb,hF⟩:=F w mg fa _ KX G.T.g hmg
 exact AB7 KX G.T.g G.T.b G.T.builtins G.T.nolimit hg hobj hints (Nat.le_trans hlen hn2) hr hF hb (fun H hO hS=>hsp w H a ns hlen hO hS) fun H e s'=>hCX w H s₁ e s'
end L2
namespace L2
open PySem PySem.Spec PyProof.Rows PySem.W
def aH (s:Stmt) (j:Nat):Stmt:=match s with
 | .ClassDef _ _ _ body _ _ _ _ _ _ _=>body.getD j (.Pass ⟨0,0,0,0⟩)
 | _=>.Pass ⟨0,0,0,0⟩
def aV (s:Stmt):Arguments:=match s with
 | .FunctionDef _ a _ _ _ _ _ _ _ _=>a
 | _=>{ posonlyargs:=[],args:=[],vararg:=none,kwonlyargs:=[],kw_defaults:=[],kwarg:=none,defaults:=[] }
def aQ (s:Stmt):List Stmt:=match s with
 | .FunctionDef _ _ b _ _ _ _ _ _ _=>b
 | _=>[]
def aE (s:Stmt):Scope:=match s with
 | .FunctionDef _ _ _ _ _ _ sc _ _ _=>sc
 | _=>{ kind:=.function,names:=[],isGenerator:=false,isCoroutine:=false }
abbrev CX0:CXT:=fun _ _ _ _ _ _=>False
abbrev E0:XK:=fun _ _ _=>False
structure Fun (K:Frag) (x qual:Str) (st:Stmt) (f:Addr) (fd:FuncData):Prop where
 ex:∃ (oc:Value) (od:Option Addr) (kV doc pm:Value) (an:Option Addr) (cdv ct:Value) (osl:Array (Option Value)),
  fd=fnOf x qual (aV st) (aQ st) (aE st) .none kV doc pm an cdv ct∧K.lookup f=some ⟨oc,od,.func fd,osl⟩∧codeIn K cdv qual=true
 kp:keepIn K (.ref f)=true
section
variable {P:Program}{w:World}{K:Frag}{mg:Str→Option Value}{base:Heap}
theorem Fun.ok {x qual:Str}{st:Stmt}{f:Addr}{fd:FuncData}{N ps:List Str}{k:Nat}{sp:Sp}(F:Fun K x qual st f fd) (S:FnScope N ps (aE st)) (len:∀ vs H Q E,sp vs H Q E→vs.length=ps.length)
  (hbody:∀ (cdv:Value) (A:Around) (outer:List Env) (s:Shared) (H:Hp) (vs:List V) (Q:VK) (E:XK),Room k (A.deeper (envOfC qual (aE st) s.heap.objs.size f cdv))→sp vs H Q E →
   ∃ t,PSs (wX CX0 P w K mg base N qual (aE st) f cdv A outer s H E).nox (aQ st) t∧t { nx:=fun _ H'=>Q .non H',rt:=Q } (start N vs) H):FnOk P w K mg base CX0 (k+1) f fd ps sp:=by
 obtain ⟨oc,od,kV,doc,pm,an,cdv,ct,osl,rfl,lk,hcd⟩:=F.ex
 refine AB6 lk hcd S len fun A outer s H vs Q E hr hsp=>?_
 obtain ⟨t,h,q⟩:=hbody cdv A outer s H vs Q E hr hsp
 exact ⟨t,h.nox,q⟩
theorem Fun.binds {x qual:Str}{st:Stmt}{f:Addr}{fd:FuncData}{ps:List Str}(F:Fun K x qual st f fd)
  (h:∀ (kV doc pm:Value) (an:Option Addr) (cdv ct:Value) (us:List Value),us.length=ps.length→bindArgs (fnOf x qual (aV st) (aQ st) (aE st) .none kV doc pm an cdv ct) ⟨us,[]⟩=pure (ps.zip us)):Binds K fd ps []:=by
 obtain ⟨oc,od,kV,doc,pm,an,cdv,ct,osl,rfl,lk,hcd⟩:=F.ex
 exact .all (h kV doc pm an cdv ct)
theorem bG {x qual:Str}{st:Stmt}{f:Addr}{oc:Value}{od an:Option Addr}{osl:Array (Option Value)}{kV doc pm cdv ct:Value}(l:K.lookup f=some ⟨oc,od,.func (fnOf x qual (aV st) (aQ st) (aE st) .none kV doc pm an cdv ct),osl⟩)
  (c:codeIn K cdv qual=true) (k:keepIn K (.ref f)=true):Fun K x qual st f (fnOf x qual (aV st) (aQ st) (aE st) .none kV doc pm an cdv ct):=⟨⟨oc,od,kV,doc,pm,an,cdv,ct,osl,rfl,l,c⟩,k⟩
end
theorem xB {n:Nat}(h:n≤1000):n < sizeLine:=Nat.lt_of_le_of_lt h (by decide)
section
variable {X:Cx}
theorem pv (i:Nat) {x:Str}{pos:Pos}(hN:X.N[i]?=some x:=by rfl) (hv:Vis X.env.scope x:=by first | exact Or.inl rfl | exact Or.inr (Or.inl rfl) | exact Or.inr (Or.inr rfl)) (hd:(x == ("__debug__":Str))=false:=by decide)
    (hcd:(x == ("__classdict__":Str))=false:=by decide):PE X (.Name x pos) (AW5 i):=AF4 hN hv hd hcd
end
def Same (H H':Hp):Prop:=∀ b o,H b=some o→H' b=some o
theorem Same.trans {H H1 H2:Hp}(a:Same H H1) (b:Same H1 H2):Same H H2:=fun c o h=>b c o (a c o h)
theorem Same.free {H H':Hp}(e:Same H H') {l:Addr}(h:H' l=Option.none):H l=Option.none:=by
 cases q:H l with
 | none=>rfl
 | some o =>
  rw [e l o q] at h
  cases h
theorem Same.seq {K:Frag}{H H':Hp}{a:Addr}{xs:List V}(e:Same H H') (h:SqL K H a xs):SqL K H' a xs:=by
 rcases h with (h | ⟨o,h⟩) | h
 ·exact .inl (.inl (e _ _ h))
 ·exact .inl (.inr ⟨o,e _ _ h⟩)
 ·exact .inr h
end L2
namespace Bw
open PySem PySem.Spec PyProof.Rows L2 PySem.W
section
variable {X:Cx}
def AY4 (i j:Int):Prop:=0 < j∧j < 2 ^ 62
theorem iE:OpR X (binaryOp .FloorDiv) (rI AY4 fun i j=>.int (i / j)):=opI fun i j _ _ _ _ _ hc q=>by
 have h1:(0:Int) < j:=hc.1
 have h2:j < 2 ^ 62:=hc.2
 refine floordiv_int (by omega) (by rw [Int.fdiv_eq_ediv_of_nonneg i (by omega)]; exact q) (.inl (PyProof.noPylong_of_log2 ?_))
 have h0:j.natAbs≠0:=by omega
 have:j.natAbs.log2 < 62:=(Nat.log2_lt h0).mpr (by omega)
 omega
def okV (H:Hp):V→Prop
 | .non=>True
 | .bl _=>True
 | .int _=>True
 | .str _=>True
 | .ref a=>(∃ xs,H a=some (.lst xs))∨∃ xs,H a=some (.tup xs)
 | _=>False
def xC:V→Bool
 | .int _=>true
 | .bl _=>true
 | _=>false
def rZ:V→Bool
 | .bl _=>true
 | _=>false
def qO (H:Hp):V→Bool
 | .ref a=>match H a with
  | some (.tup _)=>true
  | _=>false
 | _=>false
theorem okV.ty {K:Frag}{H:Hp}{x:V}(h:okV H x):∃ T,TyOf K H x (.type T)∧kitOne K (.type T) (.type "int")=some (xC x)∧kitOne K (.type T) (.type "bool")=some (rZ x)∧kitOne K (.type T) (.type "tuple")=some (qO H x):=by
 cases x with
 | non=>exact ⟨_,.non,by kernel_rfl,by kernel_rfl,by kernel_rfl⟩
 | bl b=>exact ⟨_,.bl b,by kernel_rfl,by kernel_rfl,by kernel_rfl⟩
 | int i=>exact ⟨_,.int i,by kernel_rfl,by kernel_rfl,by kernel_rfl⟩
 | str i=>exact ⟨_,.str i,by kernel_rfl,by kernel_rfl,by kernel_rfl⟩
 | ref a =>
  rcases h with ⟨xs,e⟩ | ⟨xs,e⟩
  ·have q:qO H (.ref a)=false:=by simp [qO,e]
   rw [q]
   exact ⟨_,.lst e,by kernel_rfl,by kernel_rfl,by kernel_rfl⟩
  ·have q:qO H (.ref a)=true:=by simp [qO,e]
   rw [q]
   exact ⟨_,.tup e,by kernel_rfl,by kernel_rfl,by kernel_rfl⟩
 | _=>exact h.elim
theorem AJ6 {pins:List (Addr × Obj)}{σ:L2.St}{H:Hp}{s:Shared}{x:V}{c T:String}{b:Bool}{us:List Value}{Q:VK}(I:Inv X pins σ H s) (r:Vals [x,.ty c] us) (ty:TyOf X.K H x (.type T)) (e:kitOne X.K (.type T) (.type c)=some b) (q:Q (.bl b) H) :
  wpAny (model X.prog X.w) X.A (call (.builtin "isinstance") us) (EP X pins σ Q) X.xe s:=by
 obtain ⟨u,w',rfl,rx,rc⟩:=wS r
 cases (show w'=Value.type c from rc)
 exact mF I rx ty e fun tk=>⟨.bl b,H,I.tok _,rfl,q⟩
end
structure Cal (P:Program) (w:World) (K:Frag) (mg:Str→Option Value) (base:Heap) (x:Str) (ps:List Str) (k:Nat) (sp:Sp):Prop where
 ex:∃ f fd,FnOk P w K mg base CX0 k f fd ps sp∧Binds K fd ps []∧keepIn K (.ref f)=true∧mg x=some (.ref f)
theorem aG {H:Hp}{p:Addr}(h:H p=none) (o:HO):Same H (upd H p o):=fun b u q=>by rw [aK (aO q h)]; exact q
def But (w:Addr) (H H':Hp):Prop:=∀ b o,b≠w→H b=some o→H' b=some o
theorem But.refl (w:Addr) (H:Hp):But w H H:=fun _ _ _ h=>h
theorem But.trans {w:Addr}{H H1 H2:Hp}(a:But w H H1) (b:But w H1 H2):But w H H2:=fun c o n h=>b c o n (a c o n h)
theorem But.upd {w:Addr}{H:Hp}(o:HO):But w H (upd H w o):=fun b u n h=>by rw [aK n]; exact h
theorem Same.but {w:Addr}{H H':Hp}(h:Same H H'):But w H H':=fun b o _ e=>h b o e
def Well (H:Hp) (w:Addr):Prop:=∃ a b c d:Int,H w=some (.lst [.int a,.int b,.int c,.int d])
theorem Well.same {H H':Hp}{w:Addr}(W:Well H w) (s:Same H H'):Well H' w:=by
 obtain ⟨a,b,c,d,h⟩:=W
 exact ⟨a,b,c,d,s _ _ h⟩
theorem Well.ne {H:Hp}{w p:Addr}(W:Well H w) (h:H p=none):p≠w:=by
 obtain ⟨a,b,c,d,e⟩:=W
 exact (aO e h).symm
theorem Well.neL {H:Hp}{w p:Addr}{xs:List V}(W:Well H w) (h:H p=some (.tup xs)):p≠w:=by
 obtain ⟨a,b,c,d,e⟩:=W
 exact (lU e h (by intro z; cases z)).symm
theorem AS0 {ns:List Int}{i:Nat}{x:V}(h:(ns.map V.int)[i]?=some x):∃ c,x=.int c:=by
 rw [List.getElem?_map] at h
 cases e:ns[i]? with
 | none=>rw [e] at h; cases h
 | some c=>rw [e] at h; exact ⟨c,(Option.some.inj h).symm⟩
theorem sz8 {n:Nat}(h:n≤1000):n≤sizeLine:=Nat.le_of_lt (xB h)
section
variable {K:Frag}{ta tb tc te:TE}{tA tB':TT}{t u:TS}{tr:TA}{D:Ends}{σ:L2.St}{H:Hp}{Q:VK}{QB:Bool→Hp→Prop}{QA:List V→Hp→Prop}{v x y z:V}{i j:Nat}{g:TG}{QS:L2.St→Hp→Prop}
theorem AJ7:AW8 t u D σ H=t { D with nx:=u D } σ H:=rfl
theorem xD:AI5 D σ H=D.nx σ H:=rfl
theorem AJ8:AX0 tA t u D σ H=tA σ H (fun b H1=>if b=true then t D σ H1 else u D σ H1):=rfl
theorem AJ9:AV6 te D σ H=te σ H D.rt:=rfl
theorem xE:AW9 D σ H=D.rt .non H:=rfl
theorem xF:AQ5 te D σ H=te σ H (fun _ H1=>D.nx σ H1):=rfl
theorem AK0:AP3 te g D σ H=te σ H (fun x H1=>g x σ H1 D.nx):=rfl
theorem sA:vF i v σ H QS=QS (σ.set i (some v)) H:=rfl
theorem xG {ts:AV7}:BD7 ta tb ts v σ H QS=ta σ H (fun o H1=>tb σ H1 (fun i H2=>ts o i v H2 (fun H3=>QS σ H3))):=rfl
theorem AK1:AW5 i σ H Q=∃ v,σ[i]?=some (some v)∧Q v H:=rfl
theorem w_c:tC v σ H Q=Q v H:=rfl
theorem AY5 {r:R2}:tOp r ta tb σ H Q=ta σ H (fun x H1=>tb σ H1 (fun y H2=>r x y H2 Q)):=rfl
theorem AY6 {r:V→Hp→VK→Prop}:tUn r ta σ H Q=ta σ H (fun x H1=>r x H1 Q):=rfl
theorem AY7 {f:Int→V}:rU f x H Q=∃ i,x=.int i∧Q (f i) H:=rfl
theorem AK2 {f:Int→Int→V}:rI0 f x y H Q=∃ i j,x=.int i∧y=.int j∧Q (f i j) H:=rfl
theorem AY8 {C:Int→Int→Prop}{f:Int→Int→V}:rI C f x y H Q=∃ i j,x=.int i∧y=.int j∧C i j∧Q (f i j) H:=rfl
theorem xH:AR1 te σ H QB=te σ H (fun x H'=>∃ k,x=.bl k∧QB k H'):=rfl
theorem w_b:L2.tB te σ H QB=te σ H (fun x H1=>∃ c,x=.bl c∧QB c H1):=rfl
theorem AK3:BD3 tA tB' σ H QB=tA σ H (fun c H1=>if c=true then tB' σ H1 QB else QB false H1):=rfl
theorem AY9:tOr tA tB' σ H QB=tA σ H (fun c H1=>if c=true then QB true H1 else tB' σ H1 QB):=rfl
theorem w_not:BD4 tA σ H QB=tA σ H (fun c H1=>QB (!c) H1):=rfl
theorem xI:AQ3 ta tb σ H Q=ta σ H (fun x H1=>∃ c,x=.bl c∧if c=true then tb σ H1 Q else Q (.bl false) H1):=rfl
theorem AK4:BD5 ta tb σ H Q=ta σ H (fun x H1=>∃ c,x=.bl c∧if c=true then Q (.bl true) H1 else tb σ H1 Q):=rfl
theorem xJ:AQ4 ta σ H Q=ta σ H (fun x H1=>∃ c,x=.bl c∧Q (.bl (!c)) H1):=rfl
theorem AZ0:tIf tA ta tb σ H Q=tA σ H (fun c H1=>if c=true then ta σ H1 Q else tb σ H1 Q):=rfl
theorem xK:AB4 ta tr σ H QA=ta σ H (fun x H1=>tr σ H1 (fun xs H2=>QA (x::xs) H2)):=rfl
theorem AK5:AV8 σ H QA=QA [] H:=rfl
theorem AK6:BE2 tr σ H Q=tr σ H (fun xs H1=>xs.length≤sizeLine∧∀ p,H1 p=none→Q (.ref p) (L2.upd H1 p (.tup xs))):=rfl
theorem AK7:AX9 tr σ H Q=tr σ H (fun xs H1=>xs.length≤sizeLine∧∀ p,H1 p=none→Q (.ref p) (L2.upd H1 p (.lst xs))):=rfl
theorem xL {sp:Sp}{dvs:List V}{E:XK}:vL sp dvs E tr σ H Q=tr σ H (fun vs H1=>sp (vs++dvs) H1 Q E):=rfl
theorem AZ1 {r:List V→Hp→VK→Prop}:tCB r tr σ H Q=tr σ H (fun vs H1=>r vs H1 Q):=rfl
theorem AZ2:rEq x y H Q=(AB1 x y=true∧Q (.bl (decide (x=y))) H):=rfl
theorem AZ3:rNe x y H Q=(AB1 x y=true∧Q (.bl (!decide (x=y))) H):=rfl
theorem AZ4 {a b:Int}:AB1 (.int a) (.int b)=true:=rfl
theorem AZ5 {a b:Bool}:AB1 (.bl a) (.bl b)=true:=rfl
theorem AZ6 {a b:Str}:AB1 (.str a) (.str b)=true:=rfl
theorem AZ7 {a:Int}:AB1 (.int a) .non=true:=rfl
theorem AZ8 {a:Bool}:AB1 (.bl a) .non=true:=rfl
theorem AK8:BD2 ta σ H Q=ta σ H (fun x H1=>Q (.bl (decide (x=.non))) H1):=rfl
theorem xM:AW6 ta σ H Q=ta σ H (fun x H1=>Q (.bl (!decide (x=.non))) H1):=rfl
theorem sB {r r':R2}:AR2 r r' ta tb tc σ H Q=ta σ H (fun x H1=>tb σ H1 (fun y H2=>r x y H2 (fun z H3=>∃ k,z=.bl k∧(if k=true then tc σ H3 (fun w' H4=>r' y w' H4 Q) else Q (.bl false) H3)))):=rfl
theorem AZ9 {r:V→Option Int→Option Int→Hp→VK→Prop}{tl th:TO}:tSl r te tl th σ H Q=te σ H (fun x H1=>tl σ H1 (fun l H2=>th σ H2 (fun u H3=>r x l u H3 Q))):=rfl
theorem xN {QO:Option Int→Hp→Prop}:AR5 te σ H QO=te σ H (fun x H1=>∃ i,x=.int i∧QO (some i) H1):=rfl
theorem oR {QO:Option Int→Hp→Prop}:wY σ H QO=QO none H:=rfl
theorem w_K {CX:CXT}{P:Program}{w:World}{mg:Str→Option Value}{base:Heap}{N:List Str}{qual:Str}{sc:Scope}{f:Addr}{cd:Value}{A:Around}{outer:List Env}{s:Shared}{H:Hp}{E:XK}:(wX CX P w K mg base N qual sc f cd A outer s H E).K=K:=rfl
def ForL (K:Frag) (a:Addr) (g:TG) (tb:TS) (D:Ends) (σ:L2.St) (H:Hp):Prop:=∃ W:Nat→Nat→L2.St→Hp→Prop,(∃ m,W 0 m σ H)∧∀ i m σ H,W i m σ H →
 ((Itl K a).stop i H∧D.nx σ H)∨((Itl K a).go i H∧∃ N:L2.St→Hp→Prop,(∀ σ' H',N σ' H'→∃ m',m' < m∧W (i+1) m' σ' H')∧∀ x H',(Itl K a).yld i H x H'→g x σ H' fun σ2 H2=>tb { D with nx:=N,ct:=N,bk:=D.nx } σ2 H2)
def ForR (lo:Int) (n:Nat) (g:TG) (tb:TS) (D:Ends) (σ:L2.St) (H:Hp):Prop:=∃ W:Nat→Nat→L2.St→Hp→Prop,(∃ m,W 0 m σ H)∧∀ i m σ H,W i m σ H →
 ((Itr lo n).stop i H∧D.nx σ H)∨((Itr lo n).go i H∧∃ N:L2.St→Hp→Prop,(∀ σ' H',N σ' H'→∃ m',m' < m∧W (i+1) m' σ' H')∧∀ x H',(Itr lo n).yld i H x H'→g x σ H' fun σ2 H2=>tb { D with nx:=N,ct:=N,bk:=D.nx } σ2 H2)
theorem xO:AP4 (AI7 K ta) g t D σ H=ta σ H (fun x H1=>∃ a,x=.ref a∧(∃ xs,SqL K H1 a xs)∧ForL K a g t D σ H1):=rfl
theorem xP:AP4 (AI8 tr) g t D σ H=tr σ H (fun vs H1=>∃ j:Int,vs=[.int j]∧-(2 ^ 62)≤j∧j < 2 ^ 62∧ForR 0 j.toNat g t D σ H1):=rfl
theorem xQ:AP4 (AQ8 tr) g t D σ H=tr σ H (fun vs H1=>∃ i j:Int,vs=[.int i,.int j]∧(-(2 ^ 62)≤i∧i < 2 ^ 62∧-(2 ^ 62)≤j∧j < 2 ^ 62)∧ForR i (j - i).toNat g t D σ H1):=rfl
theorem ForL.by {a:Addr}{xs:List V}(Pv:Nat→L2.St→Hp→Prop) (h0:Pv 0 σ H) (hl:∀ i σ H,i≤xs.length→Pv i σ H→SqL K H a xs)
    (hs:∀ i x σ H,xs[i]?=some x→Pv i σ H→g x σ H fun σ2 H2=>t { D with nx:=Pv (i+1),ct:=Pv (i+1),bk:=D.nx } σ2 H2) (hd:∀ σ H,Pv xs.length σ H→D.nx σ H):ForL K a g t D σ H:=AB0 Pv h0 hl hs hd
theorem ForR.by {lo:Int}{n:Nat}(Pv:Nat→L2.St→Hp→Prop) (h0:Pv 0 σ H)
    (hs:∀ i σ H,i < n→Pv i σ H→g (.int (lo+i)) σ H fun σ2 H2=>t { D with nx:=Pv (i+1),ct:=Pv (i+1),bk:=D.nx } σ2 H2) (hd:∀ σ H,Pv n σ H→D.nx σ H):ForR lo n g t D σ H:=wN Pv h0 hs hd
theorem whl (Pv:L2.St→Hp→Prop) (μ:L2.St→Hp→Nat) (h0:Pv σ H)
  (hs:∀ σ H,Pv σ H→tA σ H fun b H1=>if b=true then ∃ N:L2.St→Hp→Prop,(∀ σ' H',N σ' H'→∃ m',m' < μ σ H∧(m'=μ σ' H'∧Pv σ' H'))∧t { D with nx:=N,ct:=N,bk:=D.nx } σ H1 else D.nx σ H1):AF8 tA t D σ H:=by
 refine ⟨fun m σ H=>m=μ σ H∧Pv σ H,⟨_,rfl,h0⟩,?_⟩
 rintro m σ H ⟨rfl,p⟩
 exact hs σ H p
theorem ixl {p:Addr}{xs:List V}{k:Int}(hS:SqL K H p xs) (hv:atI xs k=some v) (q:Q v H):AY0 K (.ref p) (.int k) H Q:=⟨p,xs,k,v,rfl,rfl,hS,hv,q⟩
theorem ixt {p:Addr}{xs:List V}{k:Int}(hS:SqT K H p xs) (hv:atI xs k=some v) (q:Q v H):AY1 K (.ref p) (.int k) H Q:=⟨p,xs,k,v,rfl,rfl,hS,hv,q⟩
theorem BE6 {p:Addr}{xs:List V}{k:Int}{QH:Hp→Prop}(h:H p=some (.lst xs)) (hj:ixN xs.length k=some j) (q:QH (L2.upd H p (.lst (xs.set j v)))):AR6 (.ref p) (.int k) v H QH:=⟨p,xs,k,j,rfl,rfl,h,hj,q⟩
end
def AK9:R2:=fun x y H Q=>∃ c d:Bool,x=.bl c∧y=.bl d∧Q (.bl (c != d)) H
theorem oS {x y:V}{H:Hp}{Q:VK}:AK9 x y H Q=∃ c d:Bool,x=.bl c∧y=.bl d∧Q (.bl (c != d)) H:=rfl
def AV9 (lo c:Int) (n:Nat):It:=⟨fun i _=>i < n,fun i H x H'=>H'=H∧x=.int (lo+i * c),fun i _=>n≤i⟩
def BE7 (i j c:Int):Nat:=if i < j then ((j - i - 1) / c+1).toNat else 0
def BA0 (ta:TA):TI:=fun σ H R=>ta σ H fun vs H1=>∃ i j c:Int,vs=[.int i,.int j,.int c]∧(-(2 ^ 60)≤i∧i < 2 ^ 60∧-(2 ^ 60)≤j∧j < 2 ^ 60∧0 < c∧c < 2 ^ 30)∧R (AV9 i c (BE7 i j c)) H1
def ForR3 (lo c:Int) (n:Nat) (g:TG) (tb:TS) (D:Ends) (σ:L2.St) (H:Hp):Prop:=∃ W:Nat→Nat→L2.St→Hp→Prop,(∃ m,W 0 m σ H)∧∀ i m σ H,W i m σ H →
 ((AV9 lo c n).stop i H∧D.nx σ H)∨((AV9 lo c n).go i H∧∃ N:L2.St→Hp→Prop,(∀ σ' H',N σ' H'→∃ m',m' < m∧W (i+1) m' σ' H')∧∀ x H',(AV9 lo c n).yld i H x H'→g x σ H' fun σ2 H2=>tb { D with nx:=N,ct:=N,bk:=D.nx } σ2 H2)
theorem xR {tr:TA}{g:TG}{t:TS}{D:Ends}{σ:L2.St}{H:Hp}:AP4 (BA0 tr) g t D σ H=tr σ H (fun vs H1=>∃ i j c:Int,vs=[.int i,.int j,.int c]∧(-(2 ^ 60)≤i∧i < 2 ^ 60∧-(2 ^ 60)≤j∧j < 2 ^ 60∧0 < c∧c < 2 ^ 30)∧ForR3 i c (BE7 i j c) g t D σ H1):=rfl
theorem ForR3.by {lo c:Int}{n:Nat}{g:TG}{t:TS}{D:Ends}{σ:L2.St}{H:Hp}(Pv:Nat→L2.St→Hp→Prop) (h0:Pv 0 σ H)
    (hs:∀ i σ H,i < n→Pv i σ H→g (.int (lo+i * c)) σ H fun σ2 H2=>t { D with nx:=Pv (i+1),ct:=Pv (i+1),bk:=D.nx } σ2 H2) (hd:∀ σ H,Pv n σ H→D.nx σ H):ForR3 lo c n g t D σ H:=by
  refine ⟨fun i m σ H=>m=n - i∧i≤n∧Pv i σ H,⟨n,by simp,Nat.zero_le _,h0⟩,?_⟩
  rintro i m σ H ⟨rfl,hi,p⟩
  by_cases hlt:i < n
  · refine .inr ⟨hlt,Pv (i+1),fun σ' H' p'=>⟨n - (i+1),by omega,rfl,hlt,p'⟩,fun x H' y=>?_⟩
    obtain ⟨e,y⟩:=y
    subst e y
    exact hs i σ _ hlt p
  · have e:i=n:=by omega
    subst e
    exact .inl ⟨Nat.le_refl _,hd σ H p⟩
structure QOk (H:Hp) (p:Addr) (s e:Int):Prop where
 at_:H p=some (.tup [.int s,.int e])
 s0:0≤s
 s1:s≤1439
 e0:0≤e
 e1:e≤1439
 ne:s≠e
theorem QOk.same {H H':Hp}{p:Addr}{s e:Int}(q:QOk H p s e) (h:Same H H'):QOk H' p s e:=⟨h _ _ q.at_,q.s0,q.s1,q.e0,q.e1,q.ne⟩
theorem QOk.but {H H':Hp}{w p:Addr}{s e:Int}(q:QOk H p s e) (W:Well H w) (h:But w H H'):QOk H' p s e:=⟨h _ _ (W.neL q.at_) q.at_,q.s0,q.s1,q.e0,q.e1,q.ne⟩
end Bw
set_option maxHeartbeats 1000000
namespace Bw
open PySem PySem.Spec PyProof.Rows L2 PySem.W
def C2 (o o':Obj):Prop:=∀ vs,o.data=.fields vs→∃ vs',o'.data=.fields vs'∧vs'[2]?=vs[2]?
theorem C2.refl (o:Obj):C2 o o:=fun vs e=>⟨vs,e,rfl⟩
theorem C2.trans {a b c:Obj}(x:C2 a b) (y:C2 b c):C2 a c:=fun vs e=>by
 obtain ⟨v1,e1,q1⟩:=x vs e
 obtain ⟨v2,e2,q2⟩:=y v1 e1
 exact ⟨v2,e2,q2.trans q1⟩
def AL0 (f:Obj→Obj):Prop:=∀ o,(f o).dict=o.dict∧((f o).isFreed=o.isFreed)∧C2 o (f o)
def DK (h h':Heap):Prop:=∀ b o,h.get? b=some o→∃ o',h'.get? b=some o'∧o'.dict=o.dict∧C2 o o'
theorem DK.refl (h:Heap):DK h h:=fun _ o e=>⟨o,e,rfl,C2.refl o⟩
theorem DK.trans {h1 h2 h3:Heap}(a:DK h1 h2) (b:DK h2 h3):DK h1 h3:=fun c o e=>by
 obtain ⟨o1,e1,d1,c1⟩:=a c o e
 obtain ⟨o2,e2,d2,c2⟩:=b c o1 e1
 exact ⟨o2,e2,d2.trans d1,c1.trans c2⟩
def KD {α:Type}:Sem α→Prop
 | .pure _=>True
 | .raise _=>True
 | .unsupported _=>True
 | .finish _=>True
 | .rule _ k=>KD (k ())
 | .at _ k=>KD (k ())
 | .load _ _ k=>∀ o,KD (k o)
 | .update _ _ f k=>AL0 f∧KD (k ())
 | .alloc _ k=>∀ b,KD (k b)
 | .loadIfAlive _ k=>∀ o,KD (k o)
 | .point _ k=>KD (k ())
 | .register _ _=>True
 | .fresh k=>∀ t,KD (k t)
 | .ask k=>∀ x,KD (k x)
 | .choose _ _ k=>∀ n,KD (k n)
 | .os _ _ k=>∀ x,KD (k x)
 | .call _ _ _ _ _=>False
 | .handled _ k=>∀ x,KD (k x)
 | .newGen _ k=>∀ n,KD (k n)
 | .genState _ k=>∀ x,KD (k x)
 | .resume _ _ _ _=>False
 | .yield _ _ _ _=>True
 | .stack k=>∀ x,KD (k x)
 | .fork _ _=>True
 | .thread k=>∀ n,KD (k n)
 | .await _ _ _ _ _=>True
theorem KD.bind {α β:Type}{t:Sem α}{f:α→Sem β}(h:KD t) (k:∀ x,KD (f x)):KD (t >>= f):=by
 show KD (t.bind f)
 induction t with
 | pure x=>exact k x
 | raise _ | unsupported _ | finish _=>trivial
 | rule _ _ ih | «at» _ _ ih | point _ _ ih=>exact ih _ h
 | load _ _ _ ih | alloc _ _ ih | loadIfAlive _ _ ih | fresh _ ih | ask _ ih | choose _ _ _ ih | os _ _ _ ih | handled _ _ ih | newGen _ _ ih | genState _ _ ih | stack _ ih | thread _ ih=>exact fun x=>ih x (h x)
 | update _ _ _ _ ih=>exact ⟨h.1,ih _ h.2⟩
 | register _ _ _ | yield _ _ _ _ _ | fork _ _ _ | await _ _ _ _ _ _=>trivial
 | call _ _ _ _ _ _ | resume _ _ _ _ _=>exact h.elim
theorem xS {h:Heap}{a:Addr}{f:Obj→Obj}(s:AL0 f):DK h (h.update a f):=fun b o e=>by
 by_cases c:b=a
 ·subst c
  refine ⟨f o,Heap.get?_update_self f e ?_,(s o).1,(s o).2.2⟩
  rw [(s o).2.1]
  unfold Heap.get? at e
  split at e
  ·cases e
  ·rename_i hn
   obtain ⟨cl,dd,da,sl⟩:=o
   cases da with
   | freed=>exact absurd e (fun z=>hn _ _ _ z)
   | _=>rfl
 ·exact ⟨o,by rw [Heap.get?_update_other _ _ (fun z=>c z.symm)]; exact e,rfl,C2.refl o⟩
theorem AL1 {h:Heap}{o:Obj}:DK h (h.push o):=fun b q e=>⟨q,Heap.get?_push_of_some _ e,rfl,C2.refl q⟩
theorem BA1 {M:Model}{Γ:PySem.Ctx}{α:Type}{t:Sem α}{Q:α→Pos→Shared→Prop}{E:Value→Pos→Shared→Prop}(k:KD t):∀ {h0:Heap}{p:Pos}{s:Shared},DK h0 s.heap→Sem.wp M Γ t Q E p s →
  Sem.wp M Γ t (fun x p' s'=>Q x p' s'∧DK h0 s'.heap) (fun v p' s'=>E v p' s'∧DK h0 s'.heap) p s:=by
 induction t with
 | pure x=>exact fun d w=>⟨w,d⟩
 | raise v=>exact fun d w=>⟨w,d⟩
 | unsupported _ | finish _ | register _ _ _ | yield _ _ _ _ _ | fork _ _ _ | await _ _ _ _ _ _=>exact fun _ w=>w
 | rule _ _ ih | «at» _ _ ih | point _ _ ih=>exact fun d w=>ih _ k d w
 | load _ _ _ ih=>exact fun d ⟨o,e,w⟩=>⟨o,e,ih _ (k o) d w⟩
 | alloc _ _ ih=>exact fun d w=>ih _ (k _) (d.trans AL1) w
 | loadIfAlive _ _ ih | fresh _ ih | ask _ ih | os _ _ _ ih | handled _ _ ih | newGen _ _ ih | stack _ ih | thread _ ih=>exact fun d w=>ih _ (k _) d w
 | choose _ _ _ ih=>exact fun d ⟨n,w⟩=>⟨n,ih _ (k _) d w⟩
 | genState _ _ ih=>exact fun d ⟨o,e,w⟩=>⟨o,e,ih _ (k _) d w⟩
 | update _ _ _ _ ih=>exact fun d ⟨e,w⟩=>⟨e,ih _ k.2 (d.trans (xS k.1)) w⟩
 | call _ _ _ _ _ _ | resume _ _ _ _ _=>exact k.elim
theorem jM {M:Model}{A:Around}{α:Type}{t:Sem α}{Q:α→Shared→Prop}{E:Value→Shared→Prop}{s:Shared}(k:KD t) (h:wpAny M A t Q E s) :
  wpAny M A t (fun x s'=>Q x s'∧DK s.heap s'.heap) (fun v s'=>E v s'∧DK s.heap s'.heap) s:=fun Γ p hΓ=>BA1 k (DK.refl _) (h Γ p hΓ)
section
variable {M:Model}{A:Around}{E:Value→Shared→Prop}{env:Env}
variable {nm q:Str}{C N:Addr}{bs bm:List Value}{hdct:Bool}{sn:List Str}{sub:List Value}{ab:Bool}{col:Option Bool}{dd:Option Addr}{k0 k1 k2 k3 k5:Option Value}{newId:String}
theorem gH {s:Shared}{x:Sem Value}{Q:Flow→Shared→Prop}(hbase:bm.contains (.type "BaseException")=true) (hh:A.handled=none)
  (h:wpAny M A x (fun v s₁=>∃ e oe vs,v=.ref e∧s₁.heap.get? C=some (excClassObj nm q C N bs bm hdct sn sub ab col dd k0 k1 k2 k3 k5 newId) ∧
   s₁.heap.get? e=some oe∧oe.cls=.ref C∧oe.data=.fields vs∧vs[1]?=some .none∧E (.ref e) s₁) E s) :
  wpAny M A (raiseStmt env (some x) none) Q E s:=by
 have hcB:(Value.ref C::bm).contains (.type "BaseException")=true:=by rw [List.contains_cons,hbase,Bool.or_true]
 unfold raiseStmt
 refine wpAny_bind (wpAny_mono h (fun v s₁ h₁=>?_) fun _ _ x=>x)
 obtain ⟨e,oe,vs,rfl,hC,he,hcl,hda,hv1,hE⟩:=h₁
 obtain ⟨hp,g,d,tk,os⟩:=s₁
 obtain ⟨oc,od,odt,osl⟩:=oe
 dsimp only at hcl hda
 subst hcl hda
 repeat (first | with_reducible refine wpAny_loadPart_at he ?_ | with_reducible refine wpAny_loadPart_at hC ?_ | (with_reducible refine wpAny_isSubtype_exc hC ?_; rw [hcB]) | wp_step)
 rw [hv1]
 repeat (first | wp_step)
 exact wpAny_raiseNew_none hh hE
end
theorem AS1 {f:Array Value→Array Value}(hf:∀ vs,(f vs)[2]?=vs[2]?):AL0 (Obj.mapFields f):=fun o=>by
 obtain ⟨oc,od,odt,osl⟩:=o
 cases odt with
 | fields vs=>exact ⟨rfl,rfl,fun ws e=>by cases e; exact ⟨_,rfl,hf _⟩⟩
 | _=>exact ⟨rfl,rfl,C2.refl _⟩
theorem sC {a:Addr}:KD (load a):=fun _=>trivial
theorem sD {v:Value}:KD (fieldsOf v):=by
 unfold fieldsOf
 split
 ·refine KD.bind sC fun o=>?_
  split <;> trivial
 ·trivial
theorem lQ {v:Value}{i:Nat}:KD (field v i):=by
 unfold field
 refine KD.bind sD fun vs=>?_
 split <;> trivial
theorem gI {v x:Value}{i:Nat}(hi:i≠2:=by decide):KD (setField v i x):=by
 unfold setField
 split
 ·unfold updateField
  refine KD.bind sC fun o=>?_
  split
  ·split
   ·exact ⟨AS1 fun vs=>by rw [Array.getElem?_setIfInBounds_ne hi],trivial⟩
   ·trivial
  ·trivial
 ·trivial
theorem hX {v:Value}{f:Option Addr}:KD (setFlight v f):=by
 unfold setFlight
 refine KD.bind lQ fun tb=>?_
 split
 ·exact gI (by decide)
 ·trivial
theorem AB8:KD underTheClaimsCaller:=by
 unfold underTheClaimsCaller
 first
  | exact KD.bind (fun _=>trivial) fun _=>trivial
  | (repeat (first | exact fun _=>trivial | trivial | refine KD.bind ?_ fun _=>?_ | split))
theorem xT {env:Env}{outer:List Env}:KD (behindIsImport env outer):=by
 unfold behindIsImport
 split
 ·trivial
 split
 ·trivial
 exact KD.bind lQ fun _=>trivial
theorem sE {env:Env}{b:Bool}{outer:List Env}:KD (keptBack env b outer):=by
 unfold keptBack
 split
 ·split
  ·trivial
  ·exact KD.bind AB8 fun _=>trivial
 ·trivial
theorem uE:∀ {l:List Env},KD (readyFrames l)
 | []=>trivial
 | env::outer=>by
  unfold readyFrames
  split
  ·refine KD.bind sC fun o=>?_
   split
   ·trivial
   ·refine KD.bind xT fun b=>KD.bind sE fun v=>KD.bind ⟨fun o=>?_,trivial⟩ fun _=>uE
    refine ⟨rfl,?_,fun vs e=>⟨vs,e,rfl⟩⟩
    obtain ⟨oc,od,odt,osl⟩:=o
    cases odt <;> rfl
  ·trivial
theorem nV {env:Env}:KD (PySem.frameOf env):=by
 unfold PySem.frameOf
 refine KD.bind (show KD frameEnvs from KD.bind (t:=stack) (fun _=>trivial) fun _=>trivial) fun l=>KD.bind ?_ fun r=>?_
 ·unfold frameObject
  split
  ·trivial
  ·exact KD.bind uE fun _=>trivial
 ·split <;> trivial
theorem uF {f:Addr}{b:Bool}:KD (entryPlaceOf f b):=by
 unfold entryPlaceOf
 refine KD.bind (t:=stack) (fun _=>trivial) fun l=>?_
 split <;> trivial
theorem AL2 {n:String}{dt:Data}:KD (newObjAsIs (.type n) dt):=by
 unfold newObjAsIs
 refine KD.bind (t:=alloc _) (fun _=>trivial) fun _=>?_
 trivial
theorem uG {a b c d e:Value}{l:List Value}:KD (EntryCells.newEntry a b c d e l):=by
 unfold EntryCells.newEntry newFields newObj
 dsimp only
 generalize ([a,b,c,d,e]++if l.isEmpty=true then List.replicate 6 Value.none else l).toArray=z
 split
 ·trivial
 ·exact AL2
theorem xU {v:Value}{env:Env}:KD (noteFrame v env):=by
 unfold noteFrame
 split
 ·refine KD.bind lQ fun hd=>?_
  dsimp only
  split
  ·refine KD.bind lQ fun x=>?_
   split
   ·trivial
   ·exact KD.bind (gI (by decide)) fun _=>KD.bind nV fun _=>KD.bind uF fun _=>KD.bind uG fun _=>gI (by decide)
  ·exact KD.bind nV fun _=>KD.bind uF fun _=>KD.bind uG fun _=>gI (by decide)
 ·trivial
theorem nW {v:Value}{env:Env}:KD (leaving env v):=KD.bind xU fun _=>hX
abbrev vbm:List Value:=[.type "ValueError",.type "Exception",.type "BaseException",.type "object"]
theorem uH {P:Program}{w:World}{H:Hp}{h:Heap}{a:Addr}{o:HO}(x:ObjOk P w H h a o):∃ ob,h.get? a=some ob:=by
 cases o with
 | lst xs=>exact ⟨_,x.2.choose_spec.choose_spec.2⟩
 | tup xs=>exact let ⟨_,_,_,ob,e,_⟩:=x; ⟨ob,e⟩
 | dK kvs=>exact let ⟨_,_,_,_,ob,_,_,e,_⟩:=x; ⟨ob,e⟩
 | dT kvs=>exact let ⟨_,_,_,_,ob,_,_,e,_⟩:=x; ⟨ob,e⟩
 | set S n=>exact let ⟨ob,_,_,_,e,_⟩:=x; ⟨ob,e⟩
 | ins C dx fs=>exact let ⟨_,_,_,e,_⟩:=x; ⟨_,e⟩
 | own y=>exact x
 | xd fs=>exact let ⟨_,⟨ob,_,_,e,_⟩,_⟩:=x; ⟨ob,e⟩
 | rng lo hi=>exact let ⟨_,_,_,e⟩:=x; ⟨_,e⟩
 | frz ob u=>exact ⟨ob,x.1⟩
 | tbl ps=>exact ⟨_,show h.get? a=some _ from x⟩
 | met f y=>exact ⟨_,show h.get? a=some _ from x⟩
 | ext φ=>exact x.2.1
section
variable {M:Model}{A:Around}{E:Value→Shared→Prop}{s:Shared}
theorem vO {base:Heap}{env:Env}{outer:List Env}{L e:Addr}{cls a0:Value}{Q:Unit→Shared→Prop}(hfr:A.frames=some (env::outer)) (hf:env.frame=some L) (hfl:Heap.FlyingW base (env::outer) e cls a0 s.heap)
  (hQ:∀ h',Heap.FlyingW base outer e cls a0 h'→s.heap.UpToSlots h'→DK s.heap h'→Q () { s with heap:=h' }):wpAny M A (leaving env (.ref e)) Q E s :=
 wpAny_mono (jM nW (wpAny_leaves_onW (Q:=fun _ s'=>∃ h',s'={ s with heap:=h' }∧Heap.FlyingW base outer e cls a0 h'∧s.heap.UpToSlots h') (E:=E) hfr hf hfl fun h' a b=>⟨h',rfl,a,b⟩))
  (fun _ s' ⟨⟨h',e1,a,b⟩,dk⟩=>by subst e1; exact hQ h' a b dk) fun _ _ x=>x.1
theorem qP {base:Heap}{env:Env}{outer:List Env}{L e:Addr}{cls a0:Value}{Q:Unit→Shared→Prop}(hfr:A.frames=some (env::outer)) (hf:env.frame=some L) (hfl:Heap.FlyingW base (env::outer) e cls a0 s.heap)
  (hQ:∀ h',Heap.HeldW base (env::outer) e cls a0 L h'→s.heap.UpToSlots h'→DK s.heap h'→Q () { s with heap:=h' }):wpAny M A (noteFrame (.ref e) env) Q E s :=
 wpAny_mono (jM xU (wpAny_looks_onW (Q:=fun _ s'=>∃ h',s'={ s with heap:=h' }∧Heap.HeldW base (env::outer) e cls a0 L h'∧s.heap.UpToSlots h') (E:=E) hfr hf hfl fun h' a b=>⟨h',rfl,a,b⟩))
  (fun _ s' ⟨⟨h',e1,a,b⟩,dk⟩=>by subst e1; exact hQ h' a b dk) fun _ _ x=>x.1
theorem AG5 {base:Heap}{l:List Env}{e L:Addr}{cls a0:Value}{Q:Unit→Shared→Prop}(hh:Heap.HeldW base l e cls a0 L s.heap)
  (hQ:∀ h',Heap.FlyingW base l e cls a0 h'→s.heap.UpToSlots h'→DK s.heap h'→Q () { s with heap:=h' }):wpAny M A (setFlight (.ref e) none) Q E s :=
 wpAny_mono (jM hX (wpAny_landsW (Q:=fun _ s'=>∃ h',s'={ s with heap:=h' }∧Heap.FlyingW base l e cls a0 h'∧s.heap.UpToSlots h') (E:=E) hh fun h' a b=>⟨h',rfl,a,b⟩))
  (fun _ s' ⟨⟨h',e1,a,b⟩,dk⟩=>by subst e1; exact hQ h' a b dk) fun _ _ x=>x.1
theorem kZ {base:Heap}{l:List Env}{e:Addr}{cls a0:Value}{Q:Unit→Shared→Prop}(hh:Heap.FlyingW base l e cls a0 s.heap)
  (hQ:∀ h',Heap.FlyingW base l e cls a0 h'→s.heap.UpToSlots h'→DK s.heap h'→Q () { s with heap:=h' }):wpAny M A (setFlight (.ref e) none) Q E s :=
 wpAny_mono (jM hX (lands_againW (Q:=fun _ s'=>∃ h',s'={ s with heap:=h' }∧Heap.FlyingW base l e cls a0 h'∧s.heap.UpToSlots h') (E:=E) hh fun h' a b=>⟨h',rfl,a,b⟩))
  (fun _ s' ⟨⟨h',e1,a,b⟩,dk⟩=>by subst e1; exact hQ h' a b dk) fun _ _ x=>x.1
theorem oT {base:Heap}{env:Env}{outer:List Env}{L e:Addr}{oe:Obj}{vs:Array Value}{a0:Value}{Q:Unit→Shared→Prop}
  (hfr:A.frames=some (env::outer)) (hl:s.heap.FunFrames base (env::outer)) (hf:env.frame=some L)
  (he:s.heap.get? e=some oe) (hkb:base.StaysIn s.heap) (hen:base.get? e=none) (hd:oe.data=.fields vs) (h1:vs[1]?=some .none) (h0:vs[0]?=some a0)
  (hQ:∀ h',Heap.FlyingW base outer e oe.cls a0 h'→s.heap.UpToSlots h'→DK s.heap h'→Q () { s with heap:=h' }):wpAny M A (leaving env (.ref e)) Q E s :=
 wpAny_mono (jM nW (wpAny_leaving_firstW (Q:=fun _ s'=>∃ h',s'={ s with heap:=h' }∧Heap.FlyingW base outer e oe.cls a0 h'∧s.heap.UpToSlots h') (E:=E) hfr hl hf he hkb hen hd h1 h0
  fun h' hL=>let ⟨k1,⟨_,_,k2⟩,k3,k4⟩:=hL; ⟨h',rfl,⟨k1,hen,k2,k3⟩,k4⟩))
  (fun _ s' ⟨⟨h',e1,a,b⟩,dk⟩=>by subst e1; exact hQ h' a b dk) fun _ _ x=>x.1
end
def qQ (P:Program) (w:World) (c:Bool):CXT:=fun outer H s E e s' =>
 ∃ (x:Addr) (cls a0:Value) (dx:Option Addr) (H':Hp) (B:Heap),e=.ref x∧s'.os=s.os∧AllBare s'.gens∧Un (frs outer) [] H H' s.heap s'.heap∧HOk P w H' s'.heap∧Heap.FlyingW B outer x cls a0 s'.heap ∧
  (∀ b u,H' b=some u→∃ o,B.get? b=some o)∧(∀ b o,s.heap.get? b=some o→H b=none→b ∉ frs outer→B.get? b=some o)∧(∀ b o,s.heap.get? b=some o→b ∉ frs outer→∃ o',B.get? b=some o')∧(∃ oe,s'.heap.get? x=some oe∧oe.dict=dx∧(c=true→∃ vs,oe.data=.fields vs∧vs[2]?=some .none))∧E cls dx H'
abbrev CXF (P:Program) (w:World):CXT:=qQ P w true
theorem AB9 {P:Program}{w:World}{c:Bool}{outer:List Env}{H:Hp}{s s':Shared}{E:XK}{e:Value}(h:qQ P w c outer H s E e s'):qQ P w false outer H s E e s':=by
 obtain ⟨x,cls,a0,dx,H',B,rfl,os,bare,un,hok,fl,cT,cO,cA,⟨oe,hoe,hdx,_⟩,hE⟩:=h
 exact ⟨x,cls,a0,dx,H',B,rfl,os,bare,un,hok,fl,cT,cO,cA,⟨oe,hoe,hdx,fun z=>nomatch z⟩,hE⟩
theorem AP5 {P:Program}{w:World}{outer:List Env}{H H':Hp}{h0 g h2 B:Heap}(un:Un (frs outer) [] H H' h0 g) (hok:HOk P w H' g) (sg:B.StaysIn g) (fr:g.FunFrames B outer)
  (cT:∀ b u,H' b=some u→∃ o,B.get? b=some o) (cO:∀ b o,h0.get? b=some o→H b=none→b ∉ frs outer→B.get? b=some o) (cA:∀ b o,h0.get? b=some o→b ∉ frs outer→∃ o',B.get? b=some o')
  (sh:B.StaysIn h2) (up:g.UpToSlots h2):Un (frs outer) [] H H' h0 h2∧HOk P w H' h2:=by
 have nf:∀ b∈frs outer,∀ o,g.get? b=some o→∀ vs,o.data≠.fields vs:=fun b hb o ho vs hd=>by
  obtain ⟨_,o',ho',hn⟩:=fr.mem hb
  rw [ho] at ho'
  cases ho'
  exact hn vs hd
 refine ⟨⟨fun b o q n hb _=>sh b o (cO b o q n hb),fun b o q n hb hx=>?_,un.free,fun b o q hx=>?_,un.tups,un.frzs,un.tbls⟩,fun b u e=>?_⟩
 ·obtain ⟨sl,e1⟩:=un.slot b o q n hb hx
  obtain ⟨sl2,e2⟩:=up b _ e1 (nf b hb _ e1)
  exact ⟨sl2,e2⟩
 ·by_cases hb:b∈frs outer
  ·obtain ⟨o',e1⟩:=un.there b o q hx
   obtain ⟨sl2,e2⟩:=up b _ e1 (nf b hb _ e1)
   exact ⟨_,e2⟩
  ·obtain ⟨o',e1⟩:=cA b o q hb
   exact ⟨o',sh _ _ e1⟩
 ·refine (hok b u e).stay (fun c v hc r=>?_) (fun _ q=>q) fun _ _ q=>q
  have tr:∃ u',H' c=some u':=by
   rcases hc with rfl | hc
   ·exact ⟨_,e⟩
   ·exact ⟨_,hc⟩
  obtain ⟨u',hu⟩:=tr
  obtain ⟨o',e1⟩:=cT c u' hu
  have e2:=sg _ _ e1
  rw [r] at e2
  cases e2
  exact sh _ _ e1
section
variable {X:Cx}{pins:List (Addr × Obj)}{σ:L2.St}{H H':Hp}{s:Shared}{h2 B:Heap}
theorem AG6 (I:Inv X pins σ H s) (hex:X.ex=[]) (un:Un (frs X.stack) [] H H' s.heap h2)
  (cO:∀ b o,s.heap.get? b=some o→H b=none→b ∉ frs X.stack→B.get? b=some o) (cA:∀ b o,s.heap.get? b=some o→b ∉ frs X.stack→∃ o',B.get? b=some o') :
  Un (frs X.outer) [] X.H₀ H' X.s₀.heap h2∧(∀ b o,X.s₀.heap.get? b=some o→X.H₀ b=none→b ∉ frs X.outer→B.get? b=some o)∧∀ b o,X.s₀.heap.get? b=some o→b ∉ frs X.outer→∃ o',B.get? b=some o':=by
 have nx:∀ b:Addr,b ∉ X.ex:=fun b z=>by rw [hex] at z; cases z
 have nl:∀ b o,X.s₀.heap.get? b=some o→b ∉ frs X.outer→b ∉ frs X.stack:=fun b o q hb z=>by
  rcases List.mem_cons.mp (I.stkSub b z) with e | e
  ·exact absurd (Nat.lt_of_lt_of_le (Heap.lt_size q) I.ok.above) (by rw [e]; exact Nat.lt_irrefl _)
  ·exact hb e
 have ne:∀ b:Addr,b ∉ ([]:List Addr):=fun b=>by simp
 refine ⟨⟨fun b o q n hb _=>?_,fun b o q n hb _=>?_,fun b o q n _=>?_,fun b o q _=>?_,fun b xs q=>un.tups b xs (I.base.tups b xs q),fun b o u q=>un.frzs b o u (I.base.frzs b o u q),fun b ps q=>?_⟩,fun b o q n hb=>?_,fun b o q hb=>?_⟩
 ·exact un.keep b o (I.base.keep b o q n hb (nx b)) (I.base.free b o q n (nx b)) (nl b o q hb) (ne b)
 ·obtain ⟨sl,e1⟩:=I.base.slot b o q n hb (nx b)
  obtain ⟨sl2,e2⟩:=un.any e1 (I.base.free b o q n (nx b)) (ne b)
  exact ⟨sl2,e2⟩
 ·obtain ⟨o',e1⟩:=I.base.there b o q (nx b)
  exact un.free b o' e1 (I.base.free b o q n (nx b)) (ne b)
 ·obtain ⟨o',e1⟩:=I.base.there b o q (nx b)
  exact un.there b o' e1 (ne b)
 ·obtain ⟨m1,e1⟩:=I.base.tbls b ps q
  obtain ⟨m2,e2⟩:=un.tbls b _ e1
  exact ⟨m1++m2,by rw [e2,Array.append_assoc]⟩
 ·exact cO b o (I.base.keep b o q n hb (nx b)) (I.base.free b o q n (nx b)) (nl b o q hb)
 ·obtain ⟨o',e1⟩:=I.base.there b o q (nx b)
  exact cA b o' e1 (nl b o q hb)
theorem iW {c:Bool}{s':Shared}{e:Addr}{oe:Obj}{vs:Array Value}{a0:Value}{E:XK}{F:Value→Shared→Prop}(I:Inv X pins σ H s) (hst:X.stack=X.env::X.outer) (hf:X.env.frame=some X.env.locals) (hex:X.ex=[])
  (os:s'.os=s.os) (bare:AllBare s'.gens) (un:Un (frs X.stack) [] H H' s.heap s'.heap) (hok:HOk X.prog X.w H' s'.heap) (fe:s.heap.get? e=none) (nH:H' e=none)
  (he:s'.heap.get? e=some oe) (hd:oe.data=.fields vs) (h1:vs[1]?=some .none) (h0:vs[0]?=some a0) (hch:c=true→vs[2]?=some .none) (hE:E oe.cls oe.dict H') :
  wpAny (model X.prog X.w) X.A (leaving X.env (.ref e)) (fun _ s''=>qQ X.prog X.w c X.outer X.H₀ X.s₀ E (.ref e) s'') F s':=by
 have I3:Inv X pins σ H' s':=I.call' (ch:=[]) os un hok bare (fun b z=>absurd z (by simp))
 have hin:∀ env∈X.stack,∀ a,env.frame=some a→a∈e::frs X.stack:=fun env he a ha=>List.mem_cons_of_mem _ (List.mem_filterMap.mpr ⟨env,he,ha⟩)
 have hl:s'.heap.FunFrames (hideAll s'.heap (e::frs X.stack)) X.stack:=funFrames_hide I3.stack hin
 have hkb:(hideAll s'.heap (e::frs X.stack)).StaysIn s'.heap:=fun b o q=>of_hideAll _ q
 have hen:(hideAll s'.heap (e::frs X.stack)).get? e=none:=hideAll_none _ (List.mem_cons_self ..)
 have nb:∀ b o,s.heap.get? b=some o→b≠e:=fun b o q z=>by rw [z,fe] at q; cases q
 refine oT (base:=hideAll s'.heap (e::frs X.stack)) (outer:=X.outer) (L:=X.env.locals) (by rw [← hst]; exact I.ok.frames) (by rw [← hst]; exact hl) hf he hkb hen hd h1 h0 fun h2 fl up dk=>?_
 have cT:∀ b u,H' b=some u→∃ o,(hideAll s'.heap (e::frs X.stack)).get? b=some o:=fun b u q=>by
  obtain ⟨o,ho⟩:=uH (hok b u q)
  refine ⟨o,hideAll_get _ ho fun z=>?_⟩
  rcases List.mem_cons.mp z with y | y
  ·rw [y,nH] at q; cases q
  ·rw [I3.stkFree b y] at q; cases q
 have cO:∀ b o,s.heap.get? b=some o→H b=none→b ∉ frs X.stack→(hideAll s'.heap (e::frs X.stack)).get? b=some o:=fun b o q n hb =>
  hideAll_get _ (un.keep b o q n hb (by simp)) fun z=>(List.mem_cons.mp z).elim (nb b o q) hb
 have cA:∀ b o,s.heap.get? b=some o→b ∉ frs X.stack→∃ o',(hideAll s'.heap (e::frs X.stack)).get? b=some o':=fun b o q hb=>by
  obtain ⟨o',q'⟩:=un.there b o q (by simp)
  exact ⟨o',hideAll_get _ q' fun z=>(List.mem_cons.mp z).elim (nb b o q) hb⟩
 obtain ⟨un1,hok1⟩:=AP5 (P:=X.prog) (w:=X.w) (H:=H) (H':=H') (h0:=s.heap) (g:=s'.heap) un hok hkb hl cT cO cA fl.1 up
 obtain ⟨un2,cO2,cA2⟩:=AG6 I hex un1 cO cA
 obtain ⟨oe',he',hd',c2⟩:=dk e oe he
 exact ⟨e,oe.cls,a0,oe.dict,H',_,rfl,os.trans I.os,bare,un2,hok1,fl,cT,cO2,cA2,⟨oe',he',hd',fun z=>by obtain ⟨vs',q1,q2⟩:=c2 vs hd; exact ⟨vs',q1,q2.trans (hch z)⟩⟩,hE⟩
theorem vP {c:Bool}{h':Heap}{e:Addr}{cls:Value}{args:List Value}{E:XK}{F:Value→Shared→Prop}(I:Inv X pins σ H s) (hst:X.stack=X.env::X.outer) (hf:X.env.frame=some X.env.locals) (hex:X.ex=[])
  (hx:Heap.MadeExcOf s.heap h' e cls args) (hE:E cls none H) :
  wpAny (model X.prog X.w) X.A (leaving X.env (.ref e)) (fun _ s''=>qQ X.prog X.w c X.outer X.H₀ X.s₀ E (.ref e) s'') F { s with heap:=h' }:=by
 obtain ⟨t,he,_,_⟩:=hx.there
 have nH:H e=none:=by
  cases z:H e with
  | none=>rfl
  | some u =>
   obtain ⟨o,ho⟩:=uH (I.hok e u z)
   rw [hx.new] at ho
   cases ho
 have hok:HOk X.prog X.w H h':=fun b u q=>(I.hok b u q).stay (fun c v _ r=>hx.keeps _ _ r) (fun _ q=>q) fun _ _ q=>q
 exact iW (s':={ s with heap:=h' }) I hst hf hex rfl I.bare ⟨fun b o q _ _ _=>hx.keeps _ _ q,fun b o q _ _ _=>⟨o.slots,hx.keeps _ _ q⟩,fun _ _ _ n _=>n,fun b o q _=>⟨o,hx.keeps _ _ q⟩,fun _ _ q=>q,fun _ _ _ q=>q,fun b ps q=>⟨#[],by rw [Array.append_empty]; exact q⟩⟩ hok hx.new nH he rfl rfl rfl (fun _=>rfl) hE
theorem kG {c:Bool}{s':Shared}{e:Value}{E:XK}{F:Value→Shared→Prop}(I:Inv X pins σ H s) (hst:X.stack=X.env::X.outer) (hf:X.env.frame=some X.env.locals) (hex:X.ex=[])
  (hx:qQ X.prog X.w c X.stack H s E e s') :
  wpAny (model X.prog X.w) X.A (leaving X.env e) (fun _ s''=>qQ X.prog X.w c X.outer X.H₀ X.s₀ E e s'') F s':=by
 obtain ⟨x,cls,a0,dx,H',B,rfl,os,bare,un,hok,fl,cT,cO,cA,⟨oe,hoe,hdx⟩,hE⟩:=hx
 have fl':=fl
 rw [hst] at fl'
 refine vO (base:=B) (outer:=X.outer) (by rw [← hst]; exact I.ok.frames) hf fl' fun h2 fl2 up dk=>?_
 obtain ⟨un1,hok1⟩:=AP5 (P:=X.prog) (w:=X.w) un hok fl.1 fl.2.2.1 cT cO cA fl2.1 up
 obtain ⟨un2,cO2,cA2⟩:=AG6 I hex un1 cO cA
 obtain ⟨oe2,hoe2,hd2,c2⟩:=dk x oe hoe
 exact ⟨x,cls,a0,dx,H',B,rfl,os.trans I.os,bare,un2,hok1,fl2,cT,cO2,cA2,⟨oe2,hoe2,hd2.trans hdx.1,fun z=>by obtain ⟨vs,q1,q2⟩:=hdx.2 z; obtain ⟨vs',q3,q4⟩:=c2 vs q1; exact ⟨vs',q3,q4.trans q2⟩⟩,hE⟩
end
abbrev nX (c:Bool) (P:Program) (w:World) (K:Frag) (mg:Str→Option Value) (base:Heap) (N:List Str) (qual:Str) (sc:Scope) (f:Addr) (cdv:Value) (A:Around) (outer:List Env) (s:Shared) (H:Hp) (E:XK):Cx :=
 wX (qQ P w c) P w K mg base N qual sc f cdv A outer s H E
abbrev cxX (P:Program) (w:World) (K:Frag) (mg:Str→Option Value) (base:Heap) (N:List Str) (qual:Str) (sc:Scope) (f:Addr) (cdv:Value) (A:Around) (outer:List Env) (s:Shared) (H:Hp) (E:XK):Cx :=
 wX (CXF P w) P w K mg base N qual sc f cdv A outer s H E
section
variable {P:Program}{w:World}{K:Frag}{mg:Str→Option Value}{base:Heap}{N:List Str}{qual:Str}{sc:Scope}{f:Addr}{cdv:Value}{A:Around}{outer:List Env}{s:Shared}{H:Hp}{E:XK}
theorem AS2 {c:Bool}:iQ (qQ P w c) (nX c P w K mg base N qual sc f cdv A outer s H E) E:=fun pins σ H1 s1 e s' I hx=>kG I rfl rfl rfl hx
theorem AG7:iQ (CXF P w) (nX false P w K mg base N qual sc f cdv A outer s H E) E:=fun pins σ H1 s1 e s' I hx=>kG I rfl rfl rfl (AB9 hx)
theorem iN:iQ (CXF P w) (cxX P w K mg base N qual sc f cdv A outer s H E) E:=fun pins σ H1 s1 e s' I hx=>kG I rfl rfl rfl hx
theorem AG8 {pins:List (Addr × Obj)}{σ:L2.St}{H1:Hp}{s1:Shared}{h':Heap}{e:Addr}{cls:Value}{args:List Value}(I:Inv (cxX P w K mg base N qual sc f cdv A outer s H E) pins σ H1 s1)
  (hx:Heap.MadeExcOf s1.heap h' e cls args) (hE:E cls none H1):(cxX P w K mg base N qual sc f cdv A outer s H E).xe (.ref e) { s1 with heap:=h' }:=vP I rfl rfl rfl hx hE
theorem hZ {X:Cx}{c:Bool}:iQ (qQ P w c) X E0:=fun pins σ H1 s1 e s' I hx=>by
 obtain ⟨_,_,_,_,_,_,_,_,_,_,_,_,_,_,_,_,hE⟩:=hx
 exact hE.elim
theorem FnOk.up {k:Nat}{fd:FuncData}{ps:List Str}{sp:Sp}{CX:CXT}(F:FnOk P w K mg base CX0 k f fd ps sp):FnOk P w K mg base CX k f fd ps sp :=
 ⟨F.len,fun A outer s H args us vs Q E hr he hb hv hs=>codeAny_mono (F.run A outer s H args us vs Q E hr he hb hv hs) fun r s' q=>by
  cases r with
  | ok fl=>cases fl <;> exact q
  | error e=>exact (show False from q).elim⟩
theorem Fun.okW {x qual:Str}{st:Stmt}{fd:FuncData}{ps:List Str}{k:Nat}{sp:Sp}(F:Fun K x qual st f fd) (S:FnScope N ps (aE st)) (len:∀ vs H Q E,sp vs H Q E→vs.length=ps.length)
  (hbody:∀ (cdv:Value) (A:Around) (outer:List Env) (s:Shared) (H:Hp) (vs:List V) (Q:VK) (E:XK),Room k (A.deeper (envOfC qual (aE st) s.heap.objs.size f cdv))→sp vs H Q E →
   ∃ t,PSs (nX false P w K mg base N qual (aE st) f cdv A outer s H E) (aQ st) t∧t { nx:=fun _ H'=>Q .non H',rt:=Q } (L2.start N vs) H):FnOk P w K mg base (qQ P w false) (k+1) f fd ps sp:=by
 obtain ⟨oc,od,kV,doc,pm,an,cdv,ct,osl,rfl,lk,hcd⟩:=F.ex
 exact AB6 lk hcd S len fun A outer s H vs Q E hr hsp=>hbody cdv A outer s H vs Q E hr hsp
theorem Fun.okX {x qual:Str}{st:Stmt}{fd:FuncData}{ps:List Str}{k:Nat}{sp:Sp}(F:Fun K x qual st f fd) (S:FnScope N ps (aE st)) (len:∀ vs H Q E,sp vs H Q E→vs.length=ps.length)
  (hbody:∀ (cdv:Value) (A:Around) (outer:List Env) (s:Shared) (H:Hp) (vs:List V) (Q:VK) (E:XK),Room k (A.deeper (envOfC qual (aE st) s.heap.objs.size f cdv))→sp vs H Q E →
   ∃ t,PSs (cxX P w K mg base N qual (aE st) f cdv A outer s H E) (aQ st) t∧t { nx:=fun _ H'=>Q .non H',rt:=Q } (L2.start N vs) H):FnOk P w K mg base (CXF P w) (k+1) f fd ps sp:=by
 obtain ⟨oc,od,kV,doc,pm,an,cdv,ct,osl,rfl,lk,hcd⟩:=F.ex
 exact AB6 lk hcd S len fun A outer s H vs Q E hr hsp=>hbody cdv A outer s H vs Q E hr hsp
end
theorem sF {K:Frag}{h:Heap}{C:Addr}{bmB:List Value}{nw:String}(Z:K.In h) (q:excIn K C bmB nw=true) :
  ∃ bm N nm qn bs hd sn sub ab col dd k0 k1 k2 k3 k5 mN,h.get? C=some (excClassObj nm qn C N bs bm hd sn sub ab col dd k0 k1 k2 k3 k5 nw)∧h.Ns N mN∧mN "__init__"=none∧OwnTail h bmB bm:=by
 unfold excIn at q
 split at q
 ·rename_i dd cd sl lk
  split at q
  ·rename_i C' bm k0 k1 k2 k3 n k5 hm hs
   simp only [Bool.and_eq_true,beq_iff_eq,Bool.not_eq_true'] at q
   obtain ⟨⟨⟨⟨⟨z1,z2⟩,z3⟩,z4⟩,z5⟩,z6⟩:=q
   subst z1 z2
   obtain ⟨nm,bs,mro,ns,qn,hd,sn,sub,ab,col,del⟩:=cd
   dsimp only at hm z3 z5 z6
   subst hm z3
   obtain ⟨l⟩:=sl
   dsimp only at hs
   subst hs
   exact ⟨bm,ns,nm,qn,bs,hd,sn,sub,ab,col,dd,k0,k1,k2,k3,k5,h.nsMap ns,Z _ _ lk,.of_isNs (isNs_of_in Z z5),nsMap_none_of_in Z z5 z6,tail_of_in Z z4⟩
  ·exact absurd q Bool.false_ne_true
 ·exact absurd q Bool.false_ne_true
def AG9 (R:Hp→Prop):TS:=fun _ _ H=>R H
theorem uI {X:Cx}{x:Str}{C:Addr}{m:Str}{j:Nat}{np ap cpos pos:Pos}{R:Hp→Prop}(hc:X.calm=true) (hg:Gl X x) (hm:X.mg x=some (.ref C)) (q:excIn X.K C vbm "ValueError.__new__"=true)
  (hxe:∀ pins σ H s h' e args,Inv X pins σ H s→Heap.MadeExcOf s.heap h' e (.ref C) args→R H→X.xe (.ref e) { s with heap:=h' }) (hd:(x == ("__debug__":Str))=false:=by decide) :
  PS X (.Raise (some (.Call (.Name x np) [.Constant (.str m) j ap] [] cpos)) none pos) (AG9 R):=by
 intro pins s σ H D I h
 obtain ⟨bm,N,nm,qn,bs,hd',sn,sub,ab,col,dd,k0,k1,k2,k3,k5,mN,hC,hN,hni,T⟩:=sF I.kIn q
 refine wpAny_Raise_call_subT (C:=C) (nm:=nm) (q:=qn) (N:=N) (bs:=bs) (bm:=bm) (hdct:=hd') (sn:=sn) (sub:=sub) (ab:=ab) (col:=col) (dd:=dd) (k0:=k0) (k1:=k1) (k2:=k2) (k3:=k3) (k5:=k5) PySem.F.excBase_ValueError (mN:=mN) (T.hasType PySem.F.excBase_ValueError.hasBase) (I.ok.hd hc) rfl hni (fX I hg hm ⟨rfl,?_⟩ hd)
 refine Calls.evalArgs_plain (Calls.spliced_cons (Calls.Constant_str (k:=j) (pos:=ap) (Calls.spliced_nil ?_)))
 exact ⟨rfl,sz8 (show 1≤1000 by decide),hC,hN,T,fun h' e hm=>hxe pins σ H _ h' e _ (I.tok _) hm h⟩
section
variable {X:Cx}{pins:List (Addr × Obj)}{σ:L2.St}{H H':Hp}{s:Shared}
abbrev cxE (X:Cx) (v:Value):Cx:={ X with A:=X.A.mark (some v),calm:=false }
theorem lR (I:Inv X pins σ H s) (v:Value):Inv (cxE X v) pins σ H s :=
 ⟨⟨I.ok.mod,I.ok.kind,I.ok.glob,I.ok.blt,I.ok.above,I.ok.inj,I.ok.has,I.ok.cab,(fun z=>nomatch z),I.ok.frames,I.ok.stk,I.ok.exf,I.ok.bs,I.ok.bsz,I.ok.noex,I.ok.exfs,I.ok.funs,I.ok.frf⟩,I.os,I.bare,I.base,I.loc,I.cell,I.free,I.freeC,I.pin,I.hok,I.len⟩
theorem iF {v:Value}(ok:X.Ok) (I:Inv (cxE X v) pins σ H s):Inv X pins σ H s :=
 ⟨ok,I.os,I.bare,I.base,I.loc,I.cell,I.free,I.freeC,I.pin,I.hok,I.len⟩
theorem AW0 {M:Model}{A:Around}{E:Value→Shared→Prop}{n:Str}{i:Nat}{pos:Pos}{Q:Unit→Shared→Prop}(I:Inv X pins σ H s) (hN:X.N.Nodup) (hi:X.N[i]?=some n) (hl:X.env.kindOf n=some .local)
  (h:∀ s',Inv X pins (σ.set i none) H s'→Q () s'):wpAny M A (do bindName X.env n .none; unbindBehindTheSuite X.env n pos) Q E s:=by
 obtain ⟨m,hn,hl'⟩:=id I.loc
 have hiσ:i < σ.length:=by rw [I.len]; exact (List.getElem?_eq_some_iff.mp hi).1
 refine wpAny_nameGoes_keeps hl hn (by rw [I.ok.kind]; rfl) fun h' v hn' hs=>h _ ?_
 have ltL:∀ b o,X.s₀.heap.get? b=some o→b≠X.env.locals:=fun b o e=>Nat.ne_of_lt (Nat.lt_of_lt_of_le (Heap.lt_size e) I.ok.above)
 have hok:HOk X.prog X.w H h':=fun b ob e=>by
  refine (I.hok b ob e).stay (fun c w' hc q=>(hs.2 c ?_).trans q) (fun _ q=>q) fun _ _ q=>q
  intro z
  rcases hc with y | y
  ·rw [← y,z,I.free] at e; cases e
  ·rw [z,I.free] at y; cases y
 refine ⟨I.ok,I.os,I.bare,⟨fun b o e k hb hx=>?_,fun b o e k hb hx=>?_,I.base.free,fun b o e hx=>?_,I.base.tups,I.base.frzs,I.base.tbls⟩,⟨_,hn',fun j y v' e1 e2 e3=>?_⟩,fun y c e=>?_,I.free,I.freeC,fun p hp=>?_,hok,?_⟩
 ·exact (hs.2 b (ltL b o e)).trans (I.base.keep b o e k hb hx)
 ·obtain ⟨sl,q⟩:=I.base.slot b o e k hb hx
  exact ⟨sl,(hs.2 b (ltL b o e)).trans q⟩
 ·obtain ⟨o',q⟩:=I.base.there b o e hx
  exact ⟨o',(hs.2 b (ltL b o e)).trans q⟩
 ·by_cases hj:j=i
  ·rw [hj,List.getElem?_set_self hiσ] at e2
   cases e2
  ·rw [List.getElem?_set_ne (Ne.symm hj)] at e2
   obtain ⟨u,r,q⟩:=hl' j y v' e1 e2 e3
   refine ⟨u,r,?_⟩
   rcases q with ⟨k,e⟩ | ⟨k,c,e,z⟩
   ·have ny:y≠n:=fun z=>hj (oM hN e1 (z ▸ hi))
    exact .inl ⟨k,by show (if y=n then v else m y)=some u; rw [if_neg ny]; exact e⟩
   ·exact .inr ⟨k,c,e,z.sameBut hs (I.cne y c e)⟩
 ·obtain ⟨w',z⟩:=I.cell y c e
  exact ⟨w',z.sameBut hs (I.cne y c e)⟩
 ·obtain ⟨e,k,ne,nf,d⟩:=I.pin p hp
  exact ⟨(hs.2 p.1 ne).trans e,k,ne,nf,d⟩
 ·rw [List.length_set]; exact I.len
def lG (x:Addr) (cls:Value) (h:Heap):Prop:=∃ ob,h.get? x=some ob∧ob.cls=cls
def excAtD (x:Addr) (cls:Value) (dx:Option Addr) (h:Heap):Prop:=∃ ob,h.get? x=some ob∧ob.cls=cls∧ob.dict=dx∧∃ vs,ob.data=.fields vs
def fJ (x:Addr) (cls:Value) (dx:Option Addr):HO:=.ext (excAtD x cls dx)
def BA2 (K:Frag) (CB:Addr) (i:Nat) (sp:Sp) (t:TA) (ts:TS):TS:=fun D σ H=>t σ H fun vs H1=>sp vs H1 (fun _ H2=>D.nx σ H2) fun cls dx H2=>exmOne K cls (.ref CB)=some true ∧
 ∀ x,H2 x=none→ts { nx:=fun σ' H3=>D.nx (σ'.set i none) H3,rt:=D.rt,bk:=fun σ' H3=>D.bk (σ'.set i none) H3,ct:=fun σ' H3=>D.ct (σ'.set i none) H3 } (σ.set i (some (.ref x))) (L2.upd H2 x (fJ x cls dx))
theorem vQ {c:Bool}{x cn n:Str}{i k:Nat}{f CB:Addr}{fd:FuncData}{ps:List Str}{sp:Sp}{e:Expr}{es:List Expr}{t:TA}{b₀:Stmt}{suite:List Stmt}{ts:TS}{p pos pos' cp hpos tpos:Pos}
  (hst:X.stack=X.env::X.outer) (hf:X.env.frame=some X.env.locals) (hnx:∀ v s,¬ X.xe v s)
  (F:FnOk X.prog X.w X.K X.mg X.base (qQ X.prog X.w c) k f fd ps sp) (hr:Room k X.A) (hg:Gl X x) (hm:X.mg x=some (.ref f)) (hk:keepIn X.K (.ref f)=true) (hb:Binds X.K fd ps []) (ha:PA X (e::es) t)
  (hgC:Gl X cn) (hmC:X.mg cn=some (.ref CB)) (hN:X.N.Nodup) (hi:X.N[i]?=some n) (hl:X.env.scope.names.lookup n=some .local) (hs:∀ v:Value,PSs (cxE X v) (b₀::suite) ts)
  (hdb:(x == ("__debug__":Str))=false:=by decide) (hdc:(cn == ("__debug__":Str))=false:=by decide) (he:starEach (e::es) X.env=(false,eval e X.env)::starEach es X.env:=by rfl) (hpl:(backTo pos (starEach es X.env)).any (·.1)=false:=by rfl)
  (hsw:swapsWith (.Call (.Name x p) (e::es) [] pos) none pos'.line X.env=pure false:=by rfl) :
  PS X (.Try [.Expr (.Call (.Name x p) (e::es) [] pos) pos'] [.ExceptHandler (some (.Name cn cp)) (some n) (b₀::suite) hpos] [] [] tpos) (BA2 X.K CB i sp t ts):=by
 intro pins s σ H D I h
 refine wpAny_Try_except (wpAny_execs_cons (wpAny_Expr_any ?_ I.quiet hsw))
 refine wpAny_Call_Name_kw (fX I hg hm ?_ hdb)
 refine callWith_K (h₀:=X.base) I.ok.mod.kin hk (wpAny_mono (ha pos pins s σ H _ I h) (fun us s1 q1=>?_) fun _ _ z=>(hnx _ _ z).elim) he hpl
 obtain ⟨vs,H1,I1,r,q⟩:=q1
 refine ⟨I1.kIn,?_⟩
 have hlen:us.length=ps.length:=by rw [← r.length]; exact F.len _ _ _ _ q
 have hbind:=hb s1 us I1.kIn (by rw [List.append_nil]; exact hlen)
 rw [List.append_nil] at hbind
 refine wpAny_call (codeAny_mono (F.run X.A X.stack s1 H1 ⟨us,[]⟩ us vs _ _ hr I1.env0 hbind r q) fun res s' hq=>?_)
 cases res with
 | ok fl =>
  cases fl with
  | ret u =>
   obtain ⟨v,H2,I2,_,q2⟩:=I1.after hq
   exact wpAny_execs_nil (wpAny_execs_nil ⟨σ,H2,I2,q2⟩)
  | next=>exact False.elim hq
  | brk=>exact False.elim hq
  | cont=>exact False.elim hq
 | error ev =>
  obtain ⟨x',cls,a0,dx,H2,B,rfl,os,bare,un,hok,fl,cT,cO,cA,⟨oe0,hoe0,hdx0⟩,hm1,hE⟩:=hq
  have fl':=fl
  rw [hst] at fl'
  refine qP (base:=B) (outer:=X.outer) (L:=X.env.locals) (by rw [← hst]; exact I1.ok.frames) hf fl' fun h4 held4 up4 dk4=>?_
  refine AG5 held4 fun h5 fl5 up5 dk5=>?_
  rw [← hst] at fl5
  obtain ⟨un5,hok5⟩:=AP5 (P:=X.prog) (w:=X.w) un hok fl.1 fl.2.2.1 cT cO cA fl5.1 (up4.trans up5)
  have I5:Inv X pins σ H2 { s' with heap:=h5 }:=I1.call' (s':={ s' with heap:=h5 }) (ch:=[]) os un5 hok5 bare (fun b z=>absurd z (by simp))
  have X5:=lR I5 (.ref x')
  have ty5:Looks (model X.prog X.w) h5 (typeOf (.ref x')) cls:=by
   obtain ⟨ob,hob,hc⟩:=fl5.there
   subst hc
   exact (Looks.ld hob).andThen .now
  refine wpAny_handleBy_cons (codeAny_handlers_test (fX X5 hgC hmC ((exm_one I5.kIn ty5 hm1).here ?_) hdc)) (by intro z; cases z)
  refine codeAny_handlers_suite_as ?_
  refine kZ fl5 fun h6 fl6 up6 dk6=>?_
  obtain ⟨un6,hok6⟩:=AP5 (P:=X.prog) (w:=X.w) un5 hok5 fl5.1 fl5.2.2.1 cT cO cA fl6.1 up6
  obtain ⟨ob,vs6,hob,hcl,hdt6,_⟩:=fl6.first
  have hdx:ob.dict=dx:=by
   obtain ⟨o1,g1,d1,_⟩:=dk4 x' oe0 hoe0
   obtain ⟨o2,g2,d2,_⟩:=dk5 x' o1 g1
   obtain ⟨o3,g3,d3,_⟩:=dk6 x' o2 g2
   rw [hob] at g3
   cases g3
   rw [d3,d2,d1,hdx0.1]
  have nH:H2 x'=none:=by
   cases z:H2 x' with
   | none=>rfl
   | some u =>
    obtain ⟨o,ho⟩:=cT x' u z
    rw [fl.2.1] at ho
    cases ho
  have nS:∀ o,s1.heap.get? x'≠some o:=fun o ho=>by
   by_cases hx':x'∈frs X.stack
   ·obtain ⟨_,o',ho',hn'⟩:=fl6.2.2.1.mem hx'
    obtain ⟨oe,ws,hoe,_,hoed,_⟩:=fl6.first
    rw [hoe] at ho'
    cases ho'
    exact hn' _ hoed
   ·obtain ⟨o',ho'⟩:=cA x' o ho hx'
    rw [fl.2.1] at ho'
    cases ho'
  have hT:∀ b u,H2 b=some u→L2.upd H2 x' (fJ x' cls dx) b=some u:=fun b u z=>by rw [aK (aO z nH)]; exact z
  have un7:Un (frs X.stack) [] H1 (L2.upd H2 x' (fJ x' cls dx)) s1.heap h6 :=
   ⟨un6.keep,un6.slot,fun b o q n hx=>by
    have nb:b≠x':=fun z=>nS o (by rw [← z]; exact q)
    rw [aK nb]
    exact un6.free b o q n hx,un6.there,fun b xs z=>hT _ _ (un6.tups b xs z),fun b o u z=>hT _ _ (un6.frzs b o u z),fun b ps z=>by
    obtain ⟨m1,e1⟩:=un6.tbls b ps z
    exact ⟨m1,hT _ _ e1⟩⟩
  have hok7:HOk X.prog X.w (L2.upd H2 x' (fJ x' cls dx)) h6:=fun b u z=>by
   by_cases hbx:b=x'
   ·subst hbx
    rw [aB] at z
    cases z
    exact ⟨⟨ob,hob,hcl,hdx,vs6,hdt6⟩,⟨ob,hob⟩,fun h1 h2 ⟨o1,q1,q2⟩ k=>⟨o1,k _ q1,q2⟩⟩
   ·rw [aK hbx] at z
    exact (hok6 b u z).stay (fun _ _ _ q=>q) (fun c q=>hT _ _ q) fun c xs q=>hT _ _ q
  have I6:Inv X pins σ (L2.upd H2 x' (fJ x' cls dx)) { s' with heap:=h6 }:=I1.call' (s':={ s' with heap:=h6 }) (ch:=[]) os un7 hok7 bare (fun b z=>absurd z (by simp))
  refine lO (X:=cxE X (.ref x')) (lR I6 (.ref x')) hN hi (.inl hl) (v:=.ref x') rfl (fun s7 I7=>?_) (.inr hl)
  refine wpAny_mono (hs (.ref x') pins s7 _ _ _ I7 (hE x' nH)) (fun f8 s8 q8=>?_) fun _ _ z=>(hnx _ _ z).elim
  cases f8 with
  | next =>
   obtain ⟨σ8,H8,I8,q8⟩:=q8
   exact AW0 (iF I1.ok I8) hN hi hl fun s9 I9=>⟨_,H8,I9,q8⟩
  | brk =>
   obtain ⟨σ8,H8,I8,q8⟩:=q8
   exact AW0 (iF I1.ok I8) hN hi hl fun s9 I9=>⟨_,H8,I9,q8⟩
  | cont =>
   obtain ⟨σ8,H8,I8,q8⟩:=q8
   exact AW0 (iF I1.ok I8) hN hi hl fun s9 I9=>⟨_,H8,I9,q8⟩
  | ret u =>
   obtain ⟨v,σ8,H8,I8,r8,q8⟩:=q8
   exact AW0 (iF I1.ok I8) hN hi hl fun s9 I9=>⟨v,_,H8,I9,r8,q8⟩
end
end Bw
set_option maxHeartbeats 400000
namespace Bw
open PySem PySem.Spec PyProof.Rows L2 PySem.W
section
variable {prog:Program}{w:World}{A:Around}{E:Value→Shared→Prop}{K:Frag}{h:Heap}{g:Array GenState}{d:Drawn}{t:Nat}{os:OsState}{x C:Addr}
structure ExcK (K:Frag) (C:Addr):Prop where
 ga:findIn K (.ref C) "__getattribute__"=some (some (.builtin "BaseException.__getattribute__"))
 gt:findIn K (.ref C) "__getattr__"=some none
 cl:findIn K (.ref C) "__class__"=some (some (.builtin "object.__class__"))
 mB:mroIn K C (.type "BaseException")=some true
 mO:mroIn K C (.type "object")=some true
 cls:(clsIn K C).isSome=true
theorem excAtD.at {cls:Value}{dx:Option Addr}(p:excAtD x cls dx h):lG x cls h:=let ⟨ob,a,b,_⟩:=p; ⟨ob,a,b⟩
theorem qR {cls:Value}(p:lG x cls h) (M:Model):Looks M h (typeOf (.ref x)) cls:=by
 obtain ⟨ob,h1,h2⟩:=p
 exact h2 ▸ (Looks.ld h1).andThen .now
theorem AL3 {tp:Value}{R:Result→Shared→Prop}(Z:K.In h) (F:ExcK K C) (p:lG x (.ref C) h) (hq:R (.ok (.ret (.ref C))) ⟨h,g,d,t,os⟩) :
  codeAny (model prog w) A (.call (.builtin "getset_descriptor.__get__") ⟨[.builtin "object.__class__",.ref x,tp],[]⟩) R ⟨h,g,d,t,os⟩:=by
 have L0:=qR p (model prog w)
 have L1:=looks_mroIn (M:=model prog w) Z F.mO
 refine codeAny_call_builtin KF.slot_gs.plain KF.entry_gs (KF.slot_gs.check _ _ _ _ _ _ _ _ KF.type_class (KF.args_gs _ _ _) ?_)
 unfold Builtin.«getset_descriptor.__get__» Builtin.Getset_descriptor.descrGet
 rw [dga_obj]
 refine wpAny_bind (wpAny_pure ?_)
 unfold Builtin.Getset_descriptor.descrGetter Builtin.Getset_descriptor.descrCheckInstance Builtin.Getset_descriptor.descrNameAndClass isInstance
 simp only [KF.owner_class]
 repeat lk
 refine ⟨Code.quiet_builtin _ (by decide +kernel),codeAny_builtin KF.entry_class ?_⟩
 unfold Builtin.«object.__class__» shownTypeOf
 repeat lk
 exact hq
theorem xV {tk:Tok}{Q:Fin→Shared→Prop}(Z:K.In h) (F:ExcK K C) (p:lG x (.ref C) h) (hq:Q (.done (.ret (.ref C))) ⟨h,g,d,t,os⟩) :
  wpAny (model prog w) A (Builtin.«object.__getattribute__» ⟨[.ref x,.str "__class__" tk],[]⟩) Q E ⟨h,g,d,t,os⟩:=by
 have L0:=qR p (model prog w)
 have L1:=looks_findIn (M:=model prog w) Z F.cl
 have hT5:(⟨h,g,d,t,os⟩:Shared).TypeIs (.builtin "object.__class__") "getset_descriptor":=PySem.F.typeOf_object_class
 have f5:=PySem.F.typeOf_object_class
 have f6:=PySem.F.slot_gs_get.lookup
 have f7:=PySem.F.slot_gs_set.lookup
 repeat (any_goals (first | assumption | (with_reducible refine Looks.at (by assumption) ?_) | wp_step))
 refine AL3 Z F p ?_
 repeat (any_goals (first | assumption | wp_step))
theorem AL4 {M:Model}(Z:K.In h) (F:ExcK K C) (p:lG x (.ref C) h):Looks M h (isInstance (.ref x) (.type "BaseException")) true:=(qR p M).andThen (looks_mroIn Z F.mB)
theorem AL5:builtinKind "BaseException.__getattribute__"=some .slot:=by decide +kernel
theorem AC0:splitId "BaseException.__getattribute__"=some ("BaseException","__getattribute__"):=by decide +kernel
theorem qS {M:Model}{nameV:Value}{Q:Unit→Shared→Prop}(Z:K.In h) (F:ExcK K C) (p:lG x (.ref C) h) (hq:Q () ⟨h,g,d,t,os⟩) :
  wpAny M A (checkBuiltinCall "BaseException.__getattribute__" ⟨[.ref x,nameV],[]⟩) Q E ⟨h,g,d,t,os⟩:=by
 have ha:=PySem.F.args_bexc_ga (.ref x) nameV
 simp only [checkBuiltinCall,AL5,AC0]
 refine wpAny_bind ((AL4 (M:=M) Z F p).here (s:=⟨h,g,d,t,os⟩) ?_)
 repeat wp_step
 exact hq
theorem AC1 {tk:Tok}{R:Result→Shared→Prop}(Z:K.In h) (F:ExcK K C) (p:lG x (.ref C) h) (hq:R (.ok (.ret (.ref C))) ⟨h,g,d,t,os⟩) :
  codeAny (model prog w) A (.call (.builtin "BaseException.__getattribute__") ⟨[.ref x,.str "__class__" tk],[]⟩) R ⟨h,g,d,t,os⟩ :=
 codeAny_call_builtin PySem.F.excAttr_ValueError.ga.plain PySem.F.entry_bexc_ga (qS Z F p (xV Z F p hq))
theorem AS3 {tk:Tok}{Q:Value→Shared→Prop}(Z:K.In h) (F:ExcK K C) (p:lG x (.ref C) h) (hq:Q (.ref C) ⟨h,g,d,t,os⟩) :
  wpAny (model prog w) A (getAttrBy (.ref x) (.str "__class__" tk) false) Q E ⟨h,g,d,t,os⟩:=by
 have L0:=qR p (model prog w)
 have L1:=looks_findIn (M:=model prog w) Z F.ga
 have L2:=looks_findIn (M:=model prog w) Z F.gt
 have f3:=PySem.F.excAttr_ValueError.ga.bind (.ref x)
 have hx2:(Value.builtin "BaseException.__getattribute__" == Value.builtin "object.__getattribute__")=false:=by decide +kernel
 have hx1:(onTheHeap (Value.ref C) && Value.builtin "BaseException.__getattribute__" == Value.builtin "object.__getattribute__")=false:=by rw [hx2]; rfl
 repeat (any_goals (first | assumption | (with_reducible refine Looks.at (by assumption) ?_) | wp_step))
 refine AC1 Z F p ?_
 repeat (any_goals (first | assumption | wp_step))
theorem AC2 {Q:Option Value→Shared→Prop}(Z:K.In h) (F:ExcK K C) (p:lG x (.ref C) h) (hq:Q (some (.ref C)) ⟨h,g,d,t+1,os⟩) :
  wpAny (model prog w) A (getAttr? (.ref x) "__class__") Q E ⟨h,g,d,t,os⟩:=by
 unfold getAttr? getAttrBy?
 repeat (any_goals (first | assumption | with_reducible apply AS3 Z F p | wp_step))
theorem uJ (F:ExcK K C):KitX K (.ref x) (.ref C) (lG x (.ref C)) where
 ty:=fun M _ _ p=>qR p M
 it:=fun M h' Z _=>by
  obtain ⟨cd,hcd⟩:=Option.isSome_iff_exists.mp F.cls
  unfold clsIn at hcd
  split at hcd
  ·rename_i lk
   intro A' Q' E' s' k q
   unfold isType loadHead
   exact wpAny_bind (wpAny_loadPart (k _ _ (Z _ _ lk)) (wpAny_pure q))
  ·cases hcd
 ne:=fun h' tp dd its n sl Z htp=>by
  obtain ⟨cd,hcd⟩:=Option.isSome_iff_exists.mp F.cls
  refine Bool.eq_false_iff.mpr fun q=>?_
  have e:C=tp:=Value.ref.inj (beq_iff_eq.mp q)
  subst e
  unfold clsIn at hcd
  split at hcd
  ·rename_i lk
   have z:=(Z _ _ lk).symm.trans htp
   cases z
  ·cases hcd
 ca:=fun {prog w A E Q s} Z p k=>by
  obtain ⟨h1,g1,d1,t1,os1⟩:=s
  exact AC2 Z F p k
end
section
variable {X:Cx}
def XAt (H:Hp) (x C:Addr):Prop:=∃ dx,H x=some (fJ x (.ref C) dx)
def BA3 (K:Frag) (C:Addr):List V→Hp→VK→Prop:=fun xs H Q=>∃ (x:Addr) (c:V) (cv:Value) (b:Bool),xs=[.ref x,c]∧RelV c cv∧XAt H x C∧kitOne K (.ref C) cv=some b∧Q (.bl b) H
theorem xW {C:Addr}(F:ExcK X.K C):CallR X (.builtin "isinstance") (BA3 X.K C):=by
 intro pins s σ H xs us Q I r h
 obtain ⟨x,c,cv,b,rfl,rc,⟨dx,hx⟩,e,q⟩:=h
 obtain ⟨u,w',rfl,rx,rc'⟩:=wS r
 cases (show u=Value.ref x from rx)
 have hw:w'=cv:=by
  cases c with
  | ref a=>exact (show w'=Value.ref a from rc').trans (show cv=Value.ref a from rc).symm
  | ty n=>exact (show w'=Value.type n from rc').trans (show cv=Value.type n from rc).symm
  | non=>exact (show w'=Value.none from rc').trans (show cv=Value.none from rc).symm
  | bl z=>exact (show w'=Value.bool z from rc').trans (show cv=Value.bool z from rc).symm
  | int i =>
   obtain ⟨t,rfl⟩:=rc
   exact absurd e (by unfold kitOne kitCls; simp)
  | str i =>
   obtain ⟨t,rfl⟩:=rc
   exact absurd e (by unfold kitOne kitCls; simp)
  | byt i =>
   obtain ⟨t,rfl⟩:=rc
   exact absurd e (by unfold kitOne kitCls; simp)
  | flt i =>
   obtain ⟨t,rfl⟩:=rc
   exact absurd e (by unfold kitOne kitCls; simp)
 subst hw
 have hp:lG x (.ref C) s.heap:=((show ObjOk X.prog X.w H s.heap x (.ext (excAtD x (.ref C) dx)) from I.hok x _ hx).1).at
 exact kia_one (uJ F) I.kIn hp e (fun z=>nomatch z) fun tk=>⟨.bl b,H,I.tok _,rfl,q⟩
def BA4 (K:Frag) (C:Addr):List V→Hp→VK→Prop:=fun xs H Q=>∃ (x tp:Addr) (cs:List Addr) (b:Bool),xs=[.ref x,.ref tp]∧XAt H x C∧H tp=some (.tup (cs.map V.ref))∧kitAny K (.ref C) (cs.map Value.ref)=some b∧Q (.bl b) H
theorem qT:∀ {cs:List Addr}{us:List Value},Vals (cs.map V.ref) us→us=cs.map Value.ref
 | [],_,.nil=>rfl
 | a::cs,_,.cons r t=>by
  cases (show _=Value.ref a from r)
  rw [qT t]
  rfl
theorem xX {C:Addr}(F:ExcK X.K C):CallR X (.builtin "isinstance") (BA4 X.K C):=by
 intro pins s σ H xs us Q I r h
 obtain ⟨x,tp,cs,b,rfl,⟨dx,hx⟩,ht,e,q⟩:=h
 obtain ⟨u,w',rfl,rx,rc'⟩:=wS r
 cases (show u=Value.ref x from rx)
 cases (show w'=Value.ref tp from rc')
 have hp:lG x (.ref C) s.heap:=((show ObjOk X.prog X.w H s.heap x (.ext (excAtD x (.ref C) dx)) from I.hok x _ hx).1).at
 obtain ⟨_,its,rv,o,ho,hc,n,hd⟩:=(show ObjOk X.prog X.w H s.heap tp (.tup (cs.map V.ref)) from I.hok tp _ ht)
 have hv:=qT rv
 subst hv
 obtain ⟨oc,dd,dt,sl⟩:=o
 dsimp only at hc hd
 subst hc hd
 exact kia_tup (uJ F) I.kIn hp ho e (fun z=>nomatch z) fun tk=>⟨.bl b,H,I.tok _,rfl,q⟩
end
structure CalX (P:Program) (w:World) (K:Frag) (mg:Str→Option Value) (base:Heap) (x:Str) (ps:List Str) (k:Nat) (sp:Sp):Prop where
 ex:∃ f fd,FnOk P w K mg base (CXF P w) k f fd ps sp∧Binds K fd ps []∧keepIn K (.ref f)=true∧mg x=some (.ref f)
theorem aT {X:Cx}{x:Str}{ps:List Str}{k:Nat}{sp:Sp}{e:Expr}{es:List Expr}{t:TA}{p pos:Pos}(C:CalX X.prog X.w X.K X.mg X.base x ps k sp) (hr:Room k X.A) (hg:Gl X x) (ha:PA X (e::es) t)
  (hdb:(x == ("__debug__":Str))=false:=by decide) (he:starEach (e::es) X.env=(false,eval e X.env)::starEach es X.env:=by rfl) (hpl:(backTo pos (starEach es X.env)).any (·.1)=false:=by rfl) :
  PE X (.Call (.Name x p) (e::es) [] pos) (vL sp [] E0 t):=by
 obtain ⟨f,fd,F,b,kp,m⟩:=C.ex
 exact oN F hr hg m kp b .nil hZ ha hdb he hpl
theorem gJ {P:Program}{w:World}{K:Frag}{mg:Str→Option Value}{base:Heap}{N:List Str}{qual:Str}{sc:Scope}{f:Addr}{cdv:Value}{A:Around}{outer:List Env}{s:Shared}{H:Hp}{E:XK}
  {x:Str}{ps:List Str}{k:Nat}{sp:Sp}{e:Expr}{es:List Expr}{t:TA}{p pos:Pos}(C:CalX P w K mg base x ps k sp) (hr:Room k (cxX P w K mg base N qual sc f cdv A outer s H E).A) (hg:Gl (cxX P w K mg base N qual sc f cdv A outer s H E) x)
  (ha:PA (cxX P w K mg base N qual sc f cdv A outer s H E) (e::es) t)
  (hdb:(x == ("__debug__":Str))=false:=by decide) (he:starEach (e::es) (cxX P w K mg base N qual sc f cdv A outer s H E).env=(false,eval e (cxX P w K mg base N qual sc f cdv A outer s H E).env)::starEach es (cxX P w K mg base N qual sc f cdv A outer s H E).env:=by rfl)
  (hpl:(backTo pos (starEach es (cxX P w K mg base N qual sc f cdv A outer s H E).env)).any (·.1)=false:=by rfl) :
  PE (cxX P w K mg base N qual sc f cdv A outer s H E) (.Call (.Name x p) (e::es) [] pos) (vL sp [] E t):=by
 obtain ⟨f',fd,F,b,kp,m⟩:=C.ex
 exact oN F hr hg m kp b .nil iN ha hdb he hpl
structure CalW (P:Program) (w:World) (K:Frag) (mg:Str→Option Value) (base:Heap) (x:Str) (ps:List Str) (k:Nat) (sp:Sp):Prop where
 ex:∃ f fd,FnOk P w K mg base (qQ P w false) k f fd ps sp∧Binds K fd ps []∧keepIn K (.ref f)=true∧mg x=some (.ref f)
theorem AL6 {P:Program}{w:World}{K:Frag}{mg:Str→Option Value}{base:Heap}{N:List Str}{qual:Str}{sc:Scope}{f:Addr}{cdv:Value}{A:Around}{outer:List Env}{s:Shared}{H:Hp}{E:XK}
  {x:Str}{ps:List Str}{k:Nat}{sp:Sp}{e:Expr}{es:List Expr}{t:TA}{p pos:Pos}(C:CalW P w K mg base x ps k sp) (hr:Room k (nX false P w K mg base N qual sc f cdv A outer s H E).A) (hg:Gl (nX false P w K mg base N qual sc f cdv A outer s H E) x)
  (ha:PA (nX false P w K mg base N qual sc f cdv A outer s H E) (e::es) t)
  (hdb:(x == ("__debug__":Str))=false:=by decide) (he:starEach (e::es) (nX false P w K mg base N qual sc f cdv A outer s H E).env=(false,eval e (nX false P w K mg base N qual sc f cdv A outer s H E).env)::starEach es (nX false P w K mg base N qual sc f cdv A outer s H E).env:=by rfl)
  (hpl:(backTo pos (starEach es (nX false P w K mg base N qual sc f cdv A outer s H E).env)).any (·.1)=false:=by rfl) :
  PE (nX false P w K mg base N qual sc f cdv A outer s H E) (.Call (.Name x p) (e::es) [] pos) (vL sp [] E t):=by
 obtain ⟨f',fd,F,b,kp,m⟩:=C.ex
 exact oN F hr hg m kp b .nil AS2 ha hdb he hpl
theorem AL7 {X:Cx}{x cn n:Str}{i k:Nat}{CB:Addr}{ps:List Str}{sp:Sp}{e:Expr}{es:List Expr}{t:TA}{b₀:Stmt}{suite:List Stmt}{ts:TS}{p pos pos' cp hpos tpos:Pos}
  (hst:X.stack=X.env::X.outer) (hf:X.env.frame=some X.env.locals) (hnx:∀ v s,¬ X.xe v s) (C:CalW X.prog X.w X.K X.mg X.base x ps k sp) (hr:Room k X.A) (hg:Gl X x) (ha:PA X (e::es) t)
  (hgC:Gl X cn) (hmC:X.mg cn=some (.ref CB)) (hN:X.N.Nodup) (hi:X.N[i]?=some n) (hl:X.env.scope.names.lookup n=some .local) (hs:∀ v:Value,PSs (cxE X v) (b₀::suite) ts)
  (hdb:(x == ("__debug__":Str))=false:=by decide) (hdc:(cn == ("__debug__":Str))=false:=by decide) (he:starEach (e::es) X.env=(false,eval e X.env)::starEach es X.env:=by rfl) (hpl:(backTo pos (starEach es X.env)).any (·.1)=false:=by rfl)
  (hsw:swapsWith (.Call (.Name x p) (e::es) [] pos) none pos'.line X.env=pure false:=by rfl) :
  PS X (.Try [.Expr (.Call (.Name x p) (e::es) [] pos) pos'] [.ExceptHandler (some (.Name cn cp)) (some n) (b₀::suite) hpos] [] [] tpos) (BA2 X.K CB i sp t ts):=by
 obtain ⟨f,fd,F,b,kp,m⟩:=C.ex
 exact vQ hst hf hnx F hr hg m kp b ha hgC hmC hN hi hl hs hdb hdc he hpl hsw
theorem sG {R:Hp→Prop}{D:Ends}{σ:L2.St}{H:Hp}:AG9 R D σ H=R H:=rfl
theorem AL8 {K:Frag}{CB:Addr}{i:Nat}{sp:Sp}{t:TA}{ts:TS}{D:Ends}{σ:L2.St}{H:Hp}:BA2 K CB i sp t ts D σ H=t σ H (fun vs H1=>sp vs H1 (fun _ H2=>D.nx σ H2) fun cls dx H2=>exmOne K cls (.ref CB)=some true ∧
 ∀ x,H2 x=none→ts { nx:=fun σ' H3=>D.nx (σ'.set i none) H3,rt:=D.rt,bk:=fun σ' H3=>D.bk (σ'.set i none) H3,ct:=fun σ' H3=>D.ct (σ'.set i none) H3 } (σ.set i (some (.ref x))) (L2.upd H2 x (fJ x cls dx))):=rfl
theorem BA5 {K:Frag}{P:Program}{w:World}{mg:Str→Option Value}{base:Heap}{N:List Str}{qual:Str}{sc:Scope}{f:Addr}{cd:Value}{A:Around}{outer:List Env}{s:Shared}{H:Hp}{E:XK}:(cxX P w K mg base N qual sc f cd A outer s H E).K=K:=rfl
theorem BA6 {K:Frag}{P:Program}{w:World}{mg:Str→Option Value}{base:Heap}{N:List Str}{qual:Str}{sc:Scope}{f:Addr}{cd:Value}{A:Around}{outer:List Env}{s:Shared}{H:Hp}{E:XK}{c:Bool}:(nX c P w K mg base N qual sc f cd A outer s H E).K=K:=rfl
theorem oU {xs:List V}{i:Int}(h0:0≤i) (h:i < xs.length):∃ z∈xs,atI xs i=some z:=by
 have hk:i.toNat < xs.length:=by omega
 have ek:i=((i.toNat:Nat):Int):=by omega
 refine ⟨xs[i.toNat],List.getElem_mem hk,?_⟩
 have q:atI xs ((i.toNat:Nat):Int)=some xs[i.toNat]:=hV (List.getElem?_eq_getElem hk)
 rwa [← ek] at q
theorem mG:bootBuiltins "ValueError"=some (.type "ValueError"):=by decide +kernel
end Bw
set_option maxHeartbeats 1000000
namespace Bw
open PySem PySem.Spec PyProof.Rows L2 PySem.W
section
variable {X:Cx}
def AS4 (C:Addr) (sp:Sp) (dvs:List V) (t:TA):XK→TE:=fun E σ H Q=>t σ H fun vs H1=>∀ x dx,H1 x=none→H1 dx=none→dx≠x →
 sp (.ref x::(vs++dvs)) (upd (upd H1 dx (.own x)) x (.ins C dx [])) (fun v H2=>v=.non∧Q (.ref x) H2) E
def BA7 (K:Frag) (CB:Addr) (i:Nat) (tb:XK→TS) (ts:TS):TS:=fun D σ H=>tb (fun cls dx H2=>exmOne K cls (.ref CB)=some true ∧
 ∀ x,H2 x=none→ts { nx:=fun σ' H3=>D.nx (σ'.set i none) H3,rt:=D.rt,bk:=fun σ' H3=>D.bk (σ'.set i none) H3,ct:=fun σ' H3=>D.ct (σ'.set i none) H3 } (σ.set i (some (.ref x))) (L2.upd H2 x (fJ x cls dx))) D σ H
end
theorem iG {α:Type}{x:Str}{c:α}:∀ {l:List (Str × α)},l.lookup x=some c→(x,c)∈l
 | [],h=>by simp at h
 | (n,k)::r,h=>by
  rw [List.lookup_cons] at h
  cases hx:x == n with
  | true =>
   rw [hx] at h
   have e:x=n:=by simpa using hx
   have e2:k=c:=by simpa using h
   subst e e2
   exact List.mem_cons_self
  | false =>
   rw [hx] at h
   exact List.mem_cons_of_mem _ (iG h)
theorem nY {α:Type}{x:Str}{c:α}:∀ {l:List (Str × α)},(x,c)∈l→∃ c',l.lookup x=some c'
 | [],h=>by cases h
 | (n,k)::r,h=>by
  rw [List.lookup_cons]
  cases hx:x == n with
  | true=>exact ⟨k,rfl⟩
  | false =>
   rcases List.mem_cons.mp h with e | e
   ·cases e
    simp at hx
   ·exact nY e
theorem iX {env:Env}:∀ (names:List (Str × NameKind)) (acc:List (Str × Addr)),(∀ y∈names,y.2=.free→∃ c,env.cells.lookup y.1=some c) →
  ∃ cl:List (Str × Addr),(forIn (m:=Sem) names acc fun (x:Str × NameKind) r =>
    if (x.2 == NameKind.free)=true then do let a ← cellOf env x.1; pure (ForInStep.yield ((x.1,a)::r)) else pure (ForInStep.yield r))=pure cl ∧
   (∀ p∈cl,p∈acc∨env.cells.lookup p.1=some p.2)∧(∀ p∈acc,p∈cl)∧∀ x,(x,NameKind.free)∈names→∃ c,(x,c)∈cl
 | [],acc,_=>⟨acc,rfl,fun p hp=>.inl hp,fun p hp=>hp,fun x hx=>by cases hx⟩
 | (n,k)::r,acc,h=>by
  by_cases hk:k=.free
  ·subst hk
   obtain ⟨c,hc⟩:=h (n,.free) List.mem_cons_self rfl
   obtain ⟨cl,e,h1,h2,h3⟩:=iX r ((n,c)::acc) fun y hy=>h y (List.mem_cons_of_mem _ hy)
   have hc':cellOf env n=pure c:=by unfold cellOf; rw [hc]
   refine ⟨cl,?_,fun p hp=>?_,fun p hp=>h2 p (List.mem_cons_of_mem _ hp),fun x hx=>?_⟩
   ·rw [List.forIn_cons]
    simp only [beq_self_eq_true,if_true,hc',pure_bind]
    exact e
   ·rcases h1 p hp with z | z
    ·rcases List.mem_cons.mp z with rfl | z
     ·exact .inr hc
     ·exact .inl z
    ·exact .inr z
   ·rcases List.mem_cons.mp hx with z | z
    ·cases z
     exact ⟨c,h2 _ List.mem_cons_self⟩
    ·exact h3 x z
  ·obtain ⟨cl,e,h1,h2,h3⟩:=iX r acc fun y hy=>h y (List.mem_cons_of_mem _ hy)
   have hb:(k == NameKind.free)=false:=by simpa using hk
   refine ⟨cl,?_,h1,h2,fun x hx=>?_⟩
   ·rw [List.forIn_cons]
    simp only [hb,Bool.false_eq_true,if_false,pure_bind]
    exact e
   ·rcases List.mem_cons.mp hx with z | z
    ·cases z
     exact absurd rfl hk
    ·exact h3 x z
theorem vR {env:Env}{scope:Scope}(h:∀ y∈scope.names,y.2=.free→∃ c,env.cells.lookup y.1=some c) :
  ∃ cl,closureFor scope env=pure cl∧(∀ x c,cl.lookup x=some c→env.cells.lookup x=some c)∧∀ x,(x,NameKind.free)∈scope.names→∃ c,cl.lookup x=some c:=by
 obtain ⟨cl,e,h1,h2,h3⟩:=iX (env:=env) scope.names [] h
 refine ⟨cl,?_,fun x c hx=>?_,fun x hx=>?_⟩
 ·unfold closureFor
  simp only [bind_pure]
  exact e
 ·rcases h1 _ (iG hx) with z | z
  ·cases z
  ·exact z
 ·obtain ⟨c,hc⟩:=h3 x hx
  exact nY hc
theorem mH {scope:Scope}{env:Env}{x:Str}{k:NameKind}(h:(relabel scope env).names.lookup x=some k):(x,k)∈scope.names∨(k=.cell∧(x,NameKind.free)∈scope.names):=by
 obtain ⟨⟨n,k'⟩,hm,e⟩:=List.mem_map.mp (iG h)
 dsimp only at e
 split at e
 ·rename_i hc
  simp only [Bool.and_eq_true,beq_iff_eq] at hc
  obtain ⟨⟨rfl,_⟩,_⟩:=hc
  cases e
  exact .inr ⟨rfl,hm⟩
 ·cases e
  exact .inl hm
abbrev blk (X:Cx) (N:List Str) (scope:Scope) (cl:List (Str × Addr)) (C:Addr) (s:Shared) (H:Hp) (fp:List Addr):Cx :=
 { prog:=X.prog,w:=X.w,K:=X.K,mg:=X.mg,base:=X.base,A:=X.A,N:=N,s₀:=s,H₀:=H,env:=compEnvC scope cl C X.env,outer:=X.stack,stack:=X.stack,ex:=fp,fn:=fun _=>false,calm:=X.calm,pn:=[],xe:=fun _ _=>False }
def sH (ix:List (Option Nat)) (σ:L2.St):L2.St:=ix.map fun o=>o.bind fun j=>(σ[j]?).getD none
def PTs (X:Cx) (ifs:List Expr) (t:TT):Prop :=
 ∀ (pins:List (Addr × Obj)) (s:Shared) (σ:L2.St) (H:Hp) (Q:Bool→Hp→Prop),Inv X pins σ H s→t σ H Q →
  wpAny (model X.prog X.w) X.A (forIn ifs true fun c r=>if r=true then do let ok ← isTrue c X.env (eval c X.env); pure (ForInStep.yield ok) else pure (ForInStep.yield r)) (TP X pins σ Q) X.xe s
def BE8:TT:=fun _ H Q=>Q true H
theorem fK {X:Cx}:PTs X [] BE8:=fun pins s σ H Q I h=>wpAny_tests_nil ⟨H,I,h⟩
theorem AL9 {X:Cx}{c:Expr}{t:TT}(h:PT X c t):PTs X [c] t:=fun pins s σ H Q I q=>wpAny_tests_one (h pins s σ H Q I q)
def nE (wi:TI) (ix:List (Option Nat)) (g:TG) (tt:TT) (te:TE):TE:=fun σ H Q=>wi σ H fun J H1=>∃ W:Nat→Nat→List V→L2.St→Hp→Prop,(∃ m,W 0 m [] (sH ix σ) H1)∧∀ i m acc σ H,W i m acc σ H →
 (J.stop i H∧∀ D,H D=none→Q (.ref D) (upd H D (.lst acc))) ∨
 (J.go i H∧acc.length < sizeLine∧∃ N:List V→L2.St→Hp→Prop,(∀ acc' σ' H',N acc' σ' H'→∃ m',m' < m∧W (i+1) m' acc' σ' H') ∧
  ∀ x H',J.yld i H x H'→g x σ H' fun σ2 H2=>tt σ2 H2 fun b H3=>if b=true then te σ2 H3 fun y H4=>N (acc++[y]) σ2 H4 else N acc σ2 H3)
section
variable {prog:Program}{w:World}{A:Around}{R:Result→Shared→Prop}{s:Shared}
theorem kH {elt target iter:Expr}{ifs:List Expr}{scope:Scope}{pos:Pos}{it acc:Value}{env:Env}(I:Nat→Shared→Prop)
  (turn:∀ n s,I n s→wpAny (model prog w) A (pyNext it) (fun r s₁=>match r with
   | none=>R (.ok .next) s₁
   | some v=>wpAny (model prog w) A (letOwnedTupleGo target it v) (fun _ s₁=>wpAny (model prog w) A (assign target env v) (fun _ s₂ =>
     wpAny (model prog w) A (forIn ifs true fun c r=>if r=true then do let ok ← isTrue c env (eval c env); pure (ForInStep.yield ok) else pure (ForInStep.yield r)) (fun ok s₃ =>
      if ok=true then wpAny (model prog w) A (eval elt env) (fun x s₄ =>
       wpAny (model prog w) A (call (.builtin "list.append") [acc,x]) (fun _ s₅=>∃ m,m < n∧I m s₅) (fun _ _=>False) s₄) (fun _ _=>False) s₃
      else ∃ m,m < n∧I m s₃) (fun _ _=>False) s₂) (fun _ _=>False) s₁) (fun _ _=>False) s₁) (fun _ _=>False) s)
  (n:Nat) (h:I n s) :
  codeAny (model prog w) A (.compLoop (.ListComp elt [⟨target,iter,ifs,0⟩] scope pos) 0 it acc env) R s:=by
 refine codeAny_loop rfl I (fun n s hI=>?_) n h
 show wpAny _ A ((compTurn (.ListComp elt [⟨target,iter,ifs,0⟩] scope pos) 0 it acc env).onRaise (fun x=>do noteFrame x env; theTreesLotGoes x)) _ _ s
 refine wpAny_noted ?_
 rw [compTurn_list]
 refine wpAny_bind (wpAny_standAt (wpAny_bind (wpAny_mono (turn n s hI) (fun r s₁ h₁=>?_) fun _ _ h'=>h'.elim)))
 cases r with
 | none=>exact wpAny_pure h₁
 | some v =>
  refine wpAny_bind (wpAny_mono h₁ (fun _ s₁ h₁=>?_) fun _ _ h'=>h'.elim)
  refine wpAny_bind (wpAny_mono h₁ (fun _ s₂ h₂=>wpAny_bind (wpAny_mono h₂ (fun ok s₃ h₃=>?_) fun _ _ h'=>h'.elim)) fun _ _ h'=>h'.elim)
  cases ok with
  | false=>exact wpAny_pure ⟨rfl,h₃⟩
  | true =>
   exact wpAny_bind (wpAny_bind (wpAny_mono h₃ (fun x s₄ h₄=>wpAny_bind (wpAny_mono h₄ (fun _ s₅ h₅=>wpAny_pure (wpAny_pure ⟨rfl,h₅⟩)) fun _ _ h'=>h'.elim)) fun _ _ h'=>h'.elim))
end
section
variable {X:Cx}{pins:List (Addr × Obj)}{σ:L2.St}{H:Hp}{s:Shared}{N:List Str}{scope:Scope}{cl:List (Str × Addr)}{C:Addr}{fp:List Addr}
theorem AS5 (I:Inv X pins σ H s) (hkind:scope.kind=.function) (hcell:∀ y∈scope.names,y.2≠.cell) (h1:∀ x c,cl.lookup x=some c→X.env.cells.lookup x=some c)
  (h2:∀ x,(x,NameKind.free)∈scope.names→∃ c,cl.lookup x=some c) (hC:s.heap.objs.size≤C) (hf:∀ b∈fp,AF9 X pins H b) (hb:∀ b∈fp,b < s.heap.objs.size):(blk X N scope cl C s H fp).Ok where
 mod:=I.ok.mod
 kind:=hkind
 glob:=I.ok.glob
 blt:=I.ok.blt
 above:=hC
 inj:=fun x y c a b=>I.ok.inj x y c (h1 x c a) (h1 y c b)
 has:=fun x hx=>by
  have:(x,NameKind.free)∈scope.names:=by
   rcases hx with z | z
   ·rcases mH z with q | ⟨_,q⟩
    ·exact absurd rfl (hcell _ q)
    ·exact q
   ·rcases mH z with q | ⟨e,q⟩
    ·exact q
    ·cases e
  exact h2 x this
 cab:=fun x c hx=>by cases hx
 hd:=I.ok.hd
 frames:=I.ok.frames
 stk:=.inl rfl
 exf:=fun b hm=>⟨Nat.ne_of_lt (Nat.lt_of_lt_of_le (hb b hm) hC),fun x c e=>(hf b hm).2.2.2.2.1 x c (h1 x c e)⟩
 bs:=I.bs
 bsz:=Nat.le_trans I.ok.bsz I.sz
 noex:=fun b o e hm=>by
  rcases (hf b hm).2.2.2.1 with z | z
  ·exact I.ok.noex b o e z
  ·exact absurd (Nat.lt_of_lt_of_le (Heap.lt_size e) (Nat.le_trans I.ok.bsz z)) (Nat.lt_irrefl _)
 exfs:=fun b hm hs=>(List.mem_cons.mp (I.stkSub b hs)).elim (hf b hm).2.1 (hf b hm).2.2.1
 funs:=I.stack
 frf:=I.stkFree
end
theorem fL {env:Env}:∀ {names:List (Str × NameKind)}{x:Str},names.lookup x=some .free →
  (names.map fun (n,k)=>if (k == NameKind.free && env.scope.kind == .function && env.kindOf n == some .cell) then (n,NameKind.cell) else (n,k)).lookup x=some .cell ∨
  (names.map fun (n,k)=>if (k == NameKind.free && env.scope.kind == .function && env.kindOf n == some .cell) then (n,NameKind.cell) else (n,k)).lookup x=some .free
 | [],_,h=>by simp at h
 | (n,k)::r,x,h=>by
  have ih:=@fL env r x
  rw [List.map_cons]
  cases hx:x == n with
  | true =>
   simp only [List.lookup_cons,hx] at h
   cases h
   by_cases hc:(NameKind.free == NameKind.free && env.scope.kind == .function && env.kindOf n == some .cell)=true
   ·left; simp only [hc,if_true,List.lookup_cons,hx]
   ·right; simp only [Bool.not_eq_true] at hc; simp only [hc,Bool.false_eq_true,if_false,List.lookup_cons,hx]
  | false =>
   simp only [List.lookup_cons,hx] at h
   by_cases hc:(k == NameKind.free && env.scope.kind == .function && env.kindOf n == some .cell)=true
   ·simp only [hc,if_true,List.lookup_cons,hx]; exact ih h
   ·simp only [Bool.not_eq_true] at hc; simp only [hc,Bool.false_eq_true,if_false,List.lookup_cons,hx]; exact ih h
section
variable {X:Cx}
structure Gone (X:Cx) (pins:List (Addr × Obj)) (H:Hp) (C:Addr):Prop where
 n:H C=none
 l:C≠X.env.locals
 y:X.s₀.heap.objs.size≤C
 c:∀ x c,X.env.cells.lookup x=some c→c≠C
 p:∀ p∈X.pn++pins,p.1≠C
theorem Gone.inv {pins:List (Addr × Obj)}{σ:L2.St}{H:Hp}{s:Shared}{C:Addr}{h':Heap}(G:Gone X pins H C) (I:Inv X pins σ H s) (hs:Heap.SameBut C s.heap h'):Inv X pins σ H { s with heap:=h' } :=
 I.turned (t':=s.toks) (fun b o hb e=>(hs.2 b hb).trans e) G.n G.l (.inr G.y) G.c G.p
theorem uK {elt iter tg:Expr}{ifs:List Expr}{scope:Scope}{pos ppos:Pos}{wi:TI}{g:TG}{tt:TT}{te:TE}{use:Option (Value→Sem Unit)}{Q':Value→Shared→Prop}{pins:List (Addr × Obj)}{s:Shared}{σ:L2.St}{H:Hp}{Q:VK}(N:List Str) (ix:List (Option Nat)) (hc:X.calm=true) (hkind:scope.kind=.function) (hcell:∀ y∈scope.names,y.2≠.cell)
  (hnames:∀ y∈scope.names,y.2=.local→scope.names.lookup y.1=some .local) (hfree:∀ y∈scope.names,y.2=.free→X.env.kindOf y.1=some .cell∨X.env.kindOf y.1=some .free)
  (hlen:ix.length=N.length) (hcap:∀ (i j:Nat) (x:Str),ix[i]?=some (some j)→N[i]?=some x→X.N[j]?=some x∧scope.names.lookup x=some .free) (hi:PI X tg iter wi)
  (hb:∀ cl C s H fp,PG (blk X N scope cl C s H fp) tg g∧PTs (blk X N scope cl C s H fp) ifs tt∧PE (blk X N scope cl C s H fp) elt te)
  (hs:∀ x,foldedSetIterable iter X.env x=pure x) (I:Inv X pins σ H s) (h:nE wi ix g tt te σ H Q)
  (hend:∀ (D C:Addr) (H':Hp) (s4:Shared) (mC:Str→Option Value),Inv X pins σ H' s4→s4.heap.Ns C mC→Gone X pins H' C→Q (.ref D) H'→compPost (model X.prog X.w) X.A X.xe use Q' (.ref D) C (.ok .next) s4) :
  wpAny (model X.prog X.w) X.A (comprehension (.ListComp elt [⟨tg,iter,ifs,0⟩] scope pos) scope X.env ppos (newList []) false (eval iter X.env) use) Q' X.xe s:=by
 obtain ⟨cl,hclos,hcl1,hcl2⟩:=vR (env:=X.env) (scope:=scope) fun y hy e=>I.ok.has _ (hfree y hy e)
 refine wpAny_comprehension_free rfl hs hclos hkind hnames (thn (hi pins s σ H _ I h) fun v s1 h1=>thn h1 fun itv s2 h2=>?_)
 obtain ⟨it,fp,tn,J,H2,e,I2,T,st2,f2,W,⟨m0,w0⟩,turn⟩:=h2
 subst e
 refine wpAny_newObj_type (wpAny_newFunctionEnv hcell (by intro y hy; simp at hy) (fun h₁ hns₁ hsb₁=>?_) hkind)
 dsimp only at hns₁ hsb₁ ⊢
 generalize hH2:s2.heap.push { cls:=.type "list",dict:=none,data:=.seq ([]:List Value).toArray }=HH at hns₁ hsb₁ ⊢
 have hC:HH.objs.size=s2.heap.objs.size+1:=by rw [← hH2,Heap.size_push]
 have hDC:s2.heap.objs.size≠HH.objs.size:=by rw [hC]; exact Nat.ne_of_lt (Nat.lt_succ_self _)
 have hCle:s2.heap.objs.size≤HH.objs.size:=by rw [hC]; exact Nat.le_succ _
 have below:∀ b,b < s2.heap.objs.size→b≠HH.objs.size∧b≠s2.heap.objs.size:=fun b hb=>⟨by rw [hC]; exact Nat.ne_of_lt (Nat.lt_succ_of_lt hb),Nat.ne_of_lt hb⟩
 have hfp:∀ b∈fp,b < s2.heap.objs.size:=fun b hm=>by
  obtain ⟨o,e,_⟩:=T.obj _ _ st2 b hm
  exact Heap.lt_size e
 have old:∀ b o,s2.heap.get? b=some o→h₁.get? b=some o:=fun b o e=>hsb₁.extBut b o (below b (Heap.lt_size e)).1 (Heap.get?_push_of_some _ (hH2 ▸ Heap.get?_push_of_some _ e))
 have hacc:h₁.get? s2.heap.objs.size=some { cls:=.type "list",data:=.seq ([]:List Value).toArray }:=hsb₁.extBut _ _ hDC (Heap.get?_push_of_some _ (hH2 ▸ Heap.get?_push_size _ rfl))
 generalize hD:s2.heap.objs.size=D at hDC hCle hacc ⊢
 generalize hCC:HH.objs.size=C at hns₁ hsb₁ hDC hCle ⊢
 have hDle:s2.heap.objs.size≤D:=by rw [hD]; exact Nat.le_refl _
 have hCle':s2.heap.objs.size≤C:=by rw [hD]; exact hCle
 obtain ⟨bg,bt,be⟩:=hb cl C s2 H2 fp
 have ok:=AS5 (N:=N) I2 hkind hcell hcl1 hcl2 hCle' f2 hfp
 have notY:∀ b,s2.heap.objs.size≤b→b ∉ frs X.stack:=fun b hle hm=>by
  rcases List.mem_cons.mp (I2.stkSub b hm) with z | z
  ·exact absurd (Nat.lt_of_lt_of_le I2.lt (z ▸ hle)) (Nat.lt_irrefl _)
  ·exact I2.nofs hle z
 -- the block's invariant at its entry
 have I4:Inv (blk X N scope cl C s2 H2 fp) [(D,{ cls:=.type "list",data:=.seq ([]:List Value).toArray })] (sH ix σ) H2 { s2 with heap:=h₁,toks:=s2.toks+([]:List (Str × Value)).length }:=by
  refine ⟨ok,rfl,I2.bare,Un.kept old,⟨_,hns₁,fun i x v e1 e2 e3=>?_⟩,fun x c e=>?_,I2.hok.fresh hCle',fun x c e=>I2.freeC x c (hcl1 x c e),fun p hp=>?_,I2.hok.kept old,?_⟩
  ·have q:∃ j,ix[i]?=some (some j)∧σ[j]?=some (some v):=by
    unfold sH at e2
    rw [List.getElem?_map] at e2
    cases z:ix[i]? with
    | none=>rw [z] at e2; cases e2
    | some o =>
     rw [z] at e2
     cases o with
     | none=>cases e2
     | some j =>
      refine ⟨j,rfl,?_⟩
      have e2':(σ[j]?).getD none=some v:=Option.some.inj e2
      cases z2:σ[j]? with
      | none=>rw [z2] at e2'; cases e2'
      | some w'=>rw [z2] at e2'; exact congrArg some e2'
   obtain ⟨j,q1,q2⟩:=q
   obtain ⟨n1,n2⟩:=hcap i j x q1 e1
   obtain ⟨m,hn,hl⟩:=I2.loc
   have hmem:=iG n2
   have hkx:=hfree _ hmem rfl
   have hvis:Vis X.env.scope x:=by
    rcases hkx with z | z
    ·exact .inr (.inl z)
    ·exact .inr (.inr z)
   obtain ⟨u,ru,lk⟩:=hl j x v n1 q2 hvis
   refine ⟨u,ru,.inr ⟨fL n2,?_⟩⟩
   obtain ⟨c,hcc⟩:=hcl2 x hmem
   rcases lk with ⟨k,_⟩ | ⟨_,c',e',z⟩
   ·rcases hkx with z | z <;> · rw [k] at z; cases z
   ·rw [hcl1 x c hcc] at e'
    cases e'
    obtain ⟨o,ho,hd⟩:=z
    exact ⟨c,hcc,o,old _ _ ho,hd⟩
  ·obtain ⟨v,o,ho,hd⟩:=I2.cell x c (hcl1 x c e)
   exact ⟨v,o,old _ _ ho,hd⟩
  ·have e:p=(D,{ cls:=.type "list",data:=.seq ([]:List Value).toArray }):=by simpa using hp
   subst e
   exact ⟨hacc,I2.hok.fresh hDle,hDC,notY D hDle,fun v z=>by cases z⟩
  ·unfold sH
   rw [List.length_map]
   exact hlen
 have stat:∀ {pl:List (Addr × Obj)}{H':Hp},(∀ p∈pl,p.1 ∉ fp)→(∀ b∈fp,H' b=none)→∀ b∈fp,AF9 (blk X N scope cl C s2 H2 fp) pl H' b:=fun {pl H'} hpl hn b hm =>
  ⟨hn b hm,(ok.exf b hm).1,ok.exfs b hm,.inl hm,(ok.exf b hm).2,fun p hp e=>hpl p (by simpa using hp) (e ▸ hm)⟩
 have nfp:D ∉ fp:=fun hm=>absurd (Nat.lt_of_lt_of_le (hfp D hm) hDle) (Nat.lt_irrefl _)
 have nfpP:∀ (o:Obj),∀ p∈[(D,o)],p.1 ∉ fp:=fun o p hp=>by
  have e:p=(D,o):=by simpa using hp
  subst e
  exact nfp
 have loop:∀ s3:Shared,s3={ s2 with heap:=h₁,toks:=s2.toks+([]:List (Str × Value)).length } →
   codeAny (model X.prog X.w) X.A (.compLoop (.ListComp elt [⟨tg,iter,ifs,0⟩] scope pos) 0 (.ref it) (.ref D) (compEnvC scope cl C X.env)) (compPost (model X.prog X.w) X.A X.xe use Q' (.ref D) C) s3:=by
  rintro s3 rfl
  refine kH (fun n s'=>∃ i σ' H' acc its nn,Inv (blk X N scope cl C s2 H2 fp) [(D,{ cls:=.type "list",data:=.seq its nn })] σ' H' s'∧Vals acc its.toList∧tn i s'.heap∧(∀ b∈fp,H' b=none)∧acc.length≤sizeLine∧W i n acc σ' H') ?_ m0
   ⟨0,sH ix σ,H2,[],#[],0,I4,.nil,T.keep _ _ _ st2 fun b _ o e=>old b o e,fun b hm=>(f2 b hm).1,Nat.zero_le _,w0⟩
  rintro n s3 ⟨i,σ3,H3,acc,its,nn,I3,rv,st3,fr3,hz,w3⟩
  rcases turn i n acc σ3 H3 w3 with ⟨stop,qn⟩ | ⟨go,hlt,NN,hN,step⟩
  ·refine thn (T.done (blk X N scope cl C s2 H2 fp) rfl rfl rfl hc i _ s3 σ3 H3 (fun _ _=>False) I3 (stat (nfpP _) fr3) st3 stop) fun r s4 ⟨hr,I5⟩=>?_
   subst hr
   obtain ⟨eD,nD,_⟩:=I5.pin (D,{ cls:=.type "list",data:=.seq its nn }) (by simp)
   obtain ⟨mC,hnC,_⟩:=I5.loc
   -- back in the def's own frame
   have hne:∀ b u,H3 b=some u→b≠D:=fun b u q z=>by rw [z,nD] at q; cases q
   have un:Un (frs X.stack) fp H2 (upd H3 D (.lst acc)) s2.heap s4.heap:=by
    have b:=I5.base
    have neD:∀ b o,s2.heap.get? b=some o→b≠D:=fun b o e=>Nat.ne_of_lt (Nat.lt_of_lt_of_le (Heap.lt_size e) hDle)
    refine ⟨b.keep,b.slot,fun b' o q n' hx=>?_,b.there,fun b' xs q=>?_,fun b' o u q=>?_,fun b' ps q=>?_⟩
    ·rw [aK (neD b' o q)]
     exact b.free b' o q n' hx
    ·have q':=b.tups b' xs q
     rw [aK (hne _ _ q')]
     exact q'
    ·have q':=b.frzs b' o u q
     rw [aK (hne _ _ q')]
     exact q'
    ·obtain ⟨more,q'⟩:=b.tbls b' ps q
     exact ⟨more,by rw [aK (hne _ _ q')]; exact q'⟩
   have hokD:HOk X.prog X.w (upd H3 D (.lst acc)) s4.heap:=fun b u e=>by
    by_cases hbD:b=D
    ·subst hbD
     rw [aB] at e
     cases e
     exact ⟨hz,its.toList,nn,rv,by simpa using eD⟩
    ·rw [aK hbD] at e
     refine (I5.hok b u e).stay (fun _ _ _ q=>q) (fun c r=>?_) fun c xs r=>?_
     ·rw [aK (fun z=>by rw [z,nD] at r; cases r)]; exact r
     ·rw [aK (fun z=>by rw [z,nD] at r; cases r)]; exact r
   have IX:Inv X pins σ (upd H3 D (.lst acc)) s4:=I2.call' I5.os un hokD I5.bare fun b hm=>⟨(f2 b hm).2.2.2.1,(f2 b hm).2.1,(f2 b hm).2.2.2.2.1,(f2 b hm).2.2.2.2.2⟩
   refine hend D C _ s4 mC IX hnC ⟨?_,Nat.ne_of_gt (Nat.lt_of_lt_of_le I2.lt hCle'),Nat.le_trans I2.sz hCle',fun x c e z=>?_,fun p hp z=>?_⟩ (qn D nD)
   ·rw [aK (Ne.symm hDC)]
    exact I5.free
   ·obtain ⟨v,o,ho,_⟩:=I2.cell x c e
    exact absurd (Nat.lt_of_lt_of_le (Heap.lt_size ho) (z ▸ hCle')) (Nat.lt_irrefl _)
   ·exact absurd (Nat.lt_of_lt_of_le (Heap.lt_size (I2.pin p hp).1) (z ▸ hCle')) (Nat.lt_irrefl _)
  ·refine thn (T.item (blk X N scope cl C s2 H2 fp) rfl rfl rfl hc i _ s3 σ3 H3 (fun _ _=>False) I3 (stat (nfpP _) fr3) st3 go) fun r s4 ⟨u,hr,h4⟩=>?_
   subst hr
   refine thn h4 fun _ s5 ⟨x,H5,I5,r5,y5,st5,fr5⟩=>?_
   have I5':=I5.pinned (stat (nfpP _) fr5) (T.obj _ _ st5)
   refine thn (bg _ s5 σ3 H5 x u _ I5' r5 (step x H5 y5)) fun _ s6 ⟨σ6,H6,I6,q6⟩=>?_
   refine thn (bt _ s6 σ6 H6 _ I6 q6) fun b s7 ⟨H7,I7,q7⟩=>?_
   have after:∀ {o:Obj}{σ8:L2.St}{H8:Hp}{s8:Shared},Inv (blk X N scope cl C s2 H2 fp) ([(D,o)]++jI fp s5.heap) σ8 H8 s8→tn (i+1) s8.heap∧∀ b∈fp,H8 b=none:=fun {o σ8 H8 s8} I8=>by
    refine ⟨T.keep _ _ _ st5 fun b hb o e=>(I8.pin (b,o) (List.mem_append_right _ (List.mem_append_right _ (iD hb e)))).1,fun b hb=>?_⟩
    obtain ⟨o,e,d⟩:=T.obj _ _ st5 b hb
    exact (I8.pin (b,o) (List.mem_append_right _ (List.mem_append_right _ (iD hb e)))).2.1
   cases b with
   | false =>
    simp only [Bool.false_eq_true,if_false] at q7 ⊢
    obtain ⟨m',hm,w7⟩:=hN acc σ6 H7 q7
    exact ⟨m',hm,i+1,σ6,H7,acc,its,nn,I7.unpinned,rv,(after I7).1,(after I7).2,hz,w7⟩
   | true =>
    simp only [if_true] at q7 ⊢
    refine thn (be _ s7 σ6 H7 _ I7 q7) fun yv s8 ⟨y,H8,I8,r8,q8⟩=>?_
    obtain ⟨eD,nD,_⟩:=I8.pin (D,{ cls:=.type "list",data:=.seq its nn }) (by simp)
    have hl:acc.length=its.size:=by have:=rv.length; simpa using this
    refine wpAny_list_append_plain (hsz:=by omega) ⟨nn,eD⟩ fun h9 ⟨n9,e9⟩ hs9=>?_
    obtain ⟨m',hm,w9⟩:=hN _ _ _ q8
    have J1:Inv (blk X N scope cl C s2 H2 fp) (jI fp s5.heap) σ6 H8 s8:=I8.pins_of fun p hp=>I8.pin p (List.mem_append_right _ (List.mem_append_right _ hp))
    have nc:∀ x c,cl.lookup x=some c→c≠D:=fun x c e z=>by
     obtain ⟨v,o,ho,_⟩:=I2.cell x c (hcl1 x c e)
     exact absurd (Nat.lt_of_lt_of_le (Heap.lt_size ho) (z ▸ hDle)) (Nat.lt_irrefl _)
    have J2:Inv (blk X N scope cl C s2 H2 fp) (jI fp s5.heap) σ6 H8 { s8 with heap:=h9 }:=J1.turned (t':=s8.toks) (fun b o hb e=>hs9.extBut b o hb e) nD hDC (.inr hDle) nc fun p hp z=>by
     have hp':p∈jI fp s5.heap:=by simpa using hp
     exact nfp (z ▸ (qD hp').1)
    have J3:Inv (blk X N scope cl C s2 H2 fp) ([(D,{ cls:=.type "list",data:=.seq (its.push yv) n9 })]++jI fp s5.heap) σ6 H8 { s8 with heap:=h9 }:=J2.pins_of fun p hp=>by
     rcases List.mem_append.mp hp with hp | hp
     ·have e:p=(D,{ cls:=.type "list",data:=.seq (its.push yv) n9 }):=by simpa using hp
      subst e
      exact ⟨e9,nD,hDC,notY D hDle,fun v z=>by cases z⟩
     ·exact J2.pin p (List.mem_append_right _ hp)
    refine ⟨m',hm,i+1,σ6,H8,acc++[y],its.push yv,n9,J3.unpinned,?_,(after J3).1,(after J3).2,by rw [List.length_append,List.length_singleton]; omega,w9⟩
    rw [Array.toList_push]
    exact rv.append (.cons r8 .nil)
 exact codeAny_compStart_list (loop _ rfl) (T.self _ 0 _ _ _ (T.keep _ _ _ st2 fun b _ o e=>old b o e) (loop _ rfl))
theorem AM0 {elt iter tg:Expr}{ifs:List Expr}{scope:Scope}{pos:Pos}{wi:TI}{g:TG}{tt:TT}{te:TE}(N:List Str) (ix:List (Option Nat)) (hc:X.calm=true) (hkind:scope.kind=.function) (hcell:∀ y∈scope.names,y.2≠.cell)
  (hnames:∀ y∈scope.names,y.2=.local→scope.names.lookup y.1=some .local) (hfree:∀ y∈scope.names,y.2=.free→X.env.kindOf y.1=some .cell∨X.env.kindOf y.1=some .free)
  (hlen:ix.length=N.length) (hcap:∀ (i j:Nat) (x:Str),ix[i]?=some (some j)→N[i]?=some x→X.N[j]?=some x∧scope.names.lookup x=some .free) (hi:PI X tg iter wi)
  (hb:∀ cl C s H fp,PG (blk X N scope cl C s H fp) tg g∧PTs (blk X N scope cl C s H fp) ifs tt∧PE (blk X N scope cl C s H fp) elt te)
  (hs:∀ x,foldedSetIterable iter X.env x=pure x:=by intro _; rfl):PE X (.ListComp elt [⟨tg,iter,ifs,0⟩] scope pos) (nE wi ix g tt te):=by
 intro pins s σ H Q I h
 rw [eval_ListComp]
 exact uK (use:=none) N ix hc hkind hcell hnames hfree hlen hcap hi hb hs I h fun D C H' s4 mC I4 hn G q=>⟨mC,hn,fun h' hs'=>⟨.ref D,H',G.inv I4 hs',rfl,q⟩⟩
theorem AM1 {i:Nat}{y:Str}{elt iter tg:Expr}{ifs:List Expr}{scope:Scope}{pos py spos:Pos}{wi:TI}{g:TG}{tt:TT}{te:TE}(N:List Str) (ix:List (Option Nat)) (hc:X.calm=true) (hkind:scope.kind=.function) (hcell:∀ y∈scope.names,y.2≠.cell)
  (hnames:∀ y∈scope.names,y.2=.local→scope.names.lookup y.1=some .local) (hfree:∀ y∈scope.names,y.2=.free→X.env.kindOf y.1=some .cell∨X.env.kindOf y.1=some .free)
  (hlen:ix.length=N.length) (hcap:∀ (i j:Nat) (x:Str),ix[i]?=some (some j)→N[i]?=some x→X.N[j]?=some x∧scope.names.lookup x=some .free) (hN:X.N.Nodup) (hin:X.N[i]?=some y) (hy:X.env.scope.names.lookup y=some .local) (hi:PI X tg iter wi)
  (hb:∀ cl C s H fp,PG (blk X N scope cl C s H fp) tg g∧PTs (blk X N scope cl C s H fp) ifs tt∧PE (blk X N scope cl C s H fp) elt te)
  (hsw:swapsWith (.ListComp elt [⟨tg,iter,ifs,0⟩] scope pos) (some (.Name y py)) spos.line X.env=pure true:=by rfl)
  (hs:∀ x,foldedSetIterable iter X.env x=pure x:=by intro _; rfl):PS X (.Assign [.Name y py] (.ListComp elt [⟨tg,iter,ifs,0⟩] scope pos) spos) (AP3 (nE wi ix g tt te) (vF i)):=by
 intro pins s σ H D I h
 rw [exec_Assign_Name_used _ _ _ _ hsw]
 refine wpAny_bind (wpAny_standAt (wpAny_bind ?_))
 show wpAny _ X.A (do let _ ← comprehension (.ListComp elt [⟨tg,iter,ifs,0⟩] scope pos) scope X.env _ (newList []) false (eval iter X.env) (some (assign (.Name y py) X.env))) _ _ s
 refine wpAny_bind (thn (uK (use:=some (assign (.Name y py) X.env)) (Q':=fun _ s'=>SP X pins D .next s') (Q:=fun v H'=>D.nx (σ.set i (some v)) H') N ix hc hkind hcell hnames hfree hlen hcap hi hb hs I h fun Dd C H' s4 mC I4 hn G q=>?_) fun _ s' hq=>wpAny_pure (wpAny_pure hq))
 show wpAny _ X.A (assign (.Name y py) X.env (.ref Dd)) _ _ _
 refine wpAny_assign_Name (qB (v:=.ref Dd) I4 hN hin (.inl hy) rfl (fun s5 I5 ⟨a,sb,ha⟩=>?_) (.inr hy))
 have hCa:C≠a:=by
  rcases ha with z | z
  ·rw [z]; exact G.l
  ·exact fun e=>G.c _ _ z e.symm
 exact ⟨mC,hn.sameBut sb hCa,fun h' hs'=>⟨_,H',G.inv I5 hs',q⟩⟩
end
theorem xY {K:Frag}{a:Addr}{xs:List V}{g:TG}{tt:TT}{te:TE}{σ:L2.St}{H:Hp}{Q:VK}(Pv:Nat→List V→L2.St→Hp→Prop) (hz:xs.length≤sizeLine) (h0:Pv 0 [] σ H) (hl:∀ i acc σ H,i≤xs.length→Pv i acc σ H→SqL K H a xs)
  (hs:∀ i x acc σ H,xs[i]?=some x→Pv i acc σ H→g x σ H fun σ2 H2=>tt σ2 H2 fun b H3=>if b=true then te σ2 H3 fun y H4=>Pv (i+1) (acc++[y]) σ2 H4 else Pv (i+1) acc σ2 H3)
  (hacc:∀ i acc σ H,Pv i acc σ H→acc.length≤i) (hd:∀ acc σ H,Pv xs.length acc σ H→∀ D,H D=none→Q (.ref D) (upd H D (.lst acc))) :
  ∃ W:Nat→Nat→List V→L2.St→Hp→Prop,(∃ m,W 0 m [] σ H)∧∀ i m acc σ H,W i m acc σ H →
   ((Itl K a).stop i H∧∀ D,H D=none→Q (.ref D) (upd H D (.lst acc))) ∨
   ((Itl K a).go i H∧acc.length < sizeLine∧∃ N:List V→L2.St→Hp→Prop,(∀ acc' σ' H',N acc' σ' H'→∃ m',m' < m∧W (i+1) m' acc' σ' H') ∧
    ∀ x H',(Itl K a).yld i H x H'→g x σ H' fun σ2 H2=>tt σ2 H2 fun b H3=>if b=true then te σ2 H3 fun y H4=>N (acc++[y]) σ2 H4 else N acc σ2 H3):=by
 refine ⟨fun i m acc σ H=>m=xs.length - i∧i≤xs.length∧Pv i acc σ H,⟨xs.length,by simp,Nat.zero_le _,h0⟩,?_⟩
 rintro i m acc σ H ⟨rfl,hi,p⟩
 have q:=hl i acc σ H hi p
 have ha:=hacc i acc σ H p
 by_cases hlt:i < xs.length
 ·refine .inr ⟨⟨xs,xs[i],q,by simp [hlt]⟩,by omega,Pv (i+1),fun acc' σ' H' p'=>⟨xs.length - (i+1),by omega,rfl,hlt,p'⟩,fun x H' y=>?_⟩
  obtain ⟨e,y⟩:=y
  subst e
  exact hs i x acc σ _ (y xs q) p
 ·have e:i=xs.length:=by omega
  subst e
  exact .inl ⟨⟨xs,q,Nat.le_refl _⟩,hd acc σ H p⟩
theorem vS {lo:Int}{n:Nat}{g:TG}{tt:TT}{te:TE}{σ:L2.St}{H:Hp}{Q:VK}(Pv:Nat→List V→L2.St→Hp→Prop) (hz:n≤sizeLine) (h0:Pv 0 [] σ H)
  (hs:∀ i acc σ H,i < n→Pv i acc σ H→g (.int (lo+i)) σ H fun σ2 H2=>tt σ2 H2 fun b H3=>if b=true then te σ2 H3 fun y H4=>Pv (i+1) (acc++[y]) σ2 H4 else Pv (i+1) acc σ2 H3)
  (hacc:∀ i acc σ H,Pv i acc σ H→acc.length≤i) (hd:∀ acc σ H,Pv n acc σ H→∀ D,H D=none→Q (.ref D) (upd H D (.lst acc))) :
  ∃ W:Nat→Nat→List V→L2.St→Hp→Prop,(∃ m,W 0 m [] σ H)∧∀ i m acc σ H,W i m acc σ H →
   ((Itr lo n).stop i H∧∀ D,H D=none→Q (.ref D) (upd H D (.lst acc))) ∨
   ((Itr lo n).go i H∧acc.length < sizeLine∧∃ N:List V→L2.St→Hp→Prop,(∀ acc' σ' H',N acc' σ' H'→∃ m',m' < m∧W (i+1) m' acc' σ' H') ∧
    ∀ x H',(Itr lo n).yld i H x H'→g x σ H' fun σ2 H2=>tt σ2 H2 fun b H3=>if b=true then te σ2 H3 fun y H4=>N (acc++[y]) σ2 H4 else N acc σ2 H3):=by
 refine ⟨fun i m acc σ H=>m=n - i∧i≤n∧Pv i acc σ H,⟨n,by simp,Nat.zero_le _,h0⟩,?_⟩
 rintro i m acc σ H ⟨rfl,hi,p⟩
 have ha:=hacc i acc σ H p
 by_cases hlt:i < n
 ·refine .inr ⟨hlt,by omega,Pv (i+1),fun acc' σ' H' p'=>⟨n - (i+1),by omega,rfl,hlt,p'⟩,fun x H' y=>?_⟩
  obtain ⟨e,y⟩:=y
  subst e y
  exact hs i acc σ _ hlt p
 ·have e:i=n:=by omega
  subst e
  exact .inl ⟨Nat.le_refl _,hd acc σ H p⟩
def AS6 (XN:List Str) (scope:Scope):List Str→List (Option Nat)→Bool
 | _,[]=>true
 | [],_=>true
 | _::r,none::s=>AS6 XN scope r s
 | x::r,some j::s=>decide (XN[j]?=some x) && decide (scope.names.lookup x=some .free) && AS6 XN scope r s
theorem oV {XN:List Str}{scope:Scope}:∀ {N:List Str}{ix:List (Option Nat)},AS6 XN scope N ix=true→∀ (i j:Nat) (x:Str),ix[i]?=some (some j)→N[i]?=some x→XN[j]?=some x∧scope.names.lookup x=some .free
 | [],[],_,i,j,x,h1,_=>by simp at h1
 | _::_,[],_,i,j,x,h1,_=>by simp at h1
 | [],_::_,_,i,j,x,_,h2=>by simp at h2
 | y::r,none::s,h,i,j,x,h1,h2=>by
  cases i with
  | zero=>simp at h1
  | succ i=>exact oV (N:=r) (ix:=s) h i j x (by simpa using h1) (by simpa using h2)
 | y::r,some k::s,h,i,j,x,h1,h2=>by
  have h':(decide (XN[k]?=some y) && decide (scope.names.lookup y=some .free) && AS6 XN scope r s)=true:=h
  rw [Bool.and_eq_true,Bool.and_eq_true,decide_eq_true_eq,decide_eq_true_eq] at h'
  cases i with
  | zero =>
   simp at h1 h2
   subst h1 h2
   exact h'.1
  | succ i=>exact oV h'.2 i j x (by simpa using h1) (by simpa using h2)
def uL (XN:List Str) (sc scope:Scope) (N:List Str) (ix:List (Option Nat)):Bool :=
 decide (scope.kind=.function) && decide (∀ y∈scope.names,y.2≠.cell) && decide (∀ y∈scope.names,y.2=.local→scope.names.lookup y.1=some .local) &&
  decide (∀ y∈scope.names,y.2=.free→sc.names.lookup y.1=some .cell∨sc.names.lookup y.1=some .free) && decide (ix.length=N.length) && AS6 XN scope N ix
section
variable {X:Cx}
theorem dQ {elt iter tg:Expr}{ifs:List Expr}{scope:Scope}{pos:Pos}{wi:TI}{g:TG}{tt:TT}{te:TE}(N:List Str) (ix:List (Option Nat)) (hc:X.calm=true) (hk:uL X.N X.env.scope scope N ix=true) (hi:PI X tg iter wi)
  (hb:∀ cl C s H fp,PG (blk X N scope cl C s H fp) tg g∧PTs (blk X N scope cl C s H fp) ifs tt∧PE (blk X N scope cl C s H fp) elt te)
  (hs:∀ x,foldedSetIterable iter X.env x=pure x:=by intro _; rfl):PE X (.ListComp elt [⟨tg,iter,ifs,0⟩] scope pos) (nE wi ix g tt te):=by
 unfold uL at hk
 simp only [Bool.and_eq_true,decide_eq_true_eq] at hk
 obtain ⟨⟨⟨⟨⟨h1,h2⟩,h3⟩,h4⟩,h5⟩,h6⟩:=hk
 exact AM0 N ix hc h1 h2 h3 h4 h5 (oV h6) hi hb hs
theorem AC3 {i:Nat}{y:Str}{elt iter tg:Expr}{ifs:List Expr}{scope:Scope}{pos py spos:Pos}{wi:TI}{g:TG}{tt:TT}{te:TE}(N:List Str) (ix:List (Option Nat)) (hc:X.calm=true) (hk:uL X.N X.env.scope scope N ix=true)
  (hN:X.N.Nodup) (hin:X.N[i]?=some y) (hy:X.env.scope.names.lookup y=some .local) (hi:PI X tg iter wi)
  (hb:∀ cl C s H fp,PG (blk X N scope cl C s H fp) tg g∧PTs (blk X N scope cl C s H fp) ifs tt∧PE (blk X N scope cl C s H fp) elt te)
  (hsw:swapsWith (.ListComp elt [⟨tg,iter,ifs,0⟩] scope pos) (some (.Name y py)) spos.line X.env=pure true:=by rfl)
  (hs:∀ x,foldedSetIterable iter X.env x=pure x:=by intro _; rfl):PS X (.Assign [.Name y py] (.ListComp elt [⟨tg,iter,ifs,0⟩] scope pos) spos) (AP3 (nE wi ix g tt te) (vF i)):=by
 unfold uL at hk
 simp only [Bool.and_eq_true,decide_eq_true_eq] at hk
 obtain ⟨⟨⟨⟨⟨h1,h2⟩,h3⟩,h4⟩,h5⟩,h6⟩:=hk
 exact AM1 N ix hc h1 h2 h3 h4 h5 (oV h6) hN hin hy hi hb hsw hs
end
section
variable {X:Cx}
theorem nZ {pins:List (Addr × Obj)}{σ:L2.St}{H:Hp}{s:Shared}{Q:VK}{u:Str}{t:Tok}{k:Nat}(I:Inv X pins σ H s) (q:Q (.str u) H):EP X pins σ Q (.str u t) { s with toks:=k }:=⟨.str u,H,I.tok k,⟨t,rfl⟩,q⟩
def BA8:V→Option Int→Option Int→Hp→VK→Prop:=fun x lo hi H Q=>∃ u,x=.str u∧u.length≤sizeLine∧Q (.str (Txt.slice u lo hi)) H
theorem uM:SlR X BA8:=by
 intro pins s σ H x v vl vu lo hi sl Q I rx hs pl pu h
 obtain ⟨u,rfl,hz,q⟩:=h
 obtain ⟨t,rfl⟩:=rx
 refine ⟨"str",_,PySem.F.slot_str_getitem.lookup,typeIs_str _ _ _,?_⟩
 obtain ⟨os,hos,hcs,hds⟩:=hs
 cases pl with
 | none =>
  cases pu with
  | none=>exact wpAny_getItem_str_slice (l:=none) (u:=none) (st:=none) ⟨os,hos,hcs,hds⟩ rfl (post_val_or_str ⟨Nat.le_trans (Txt.slice_le u _ _) hz,fun t' k=>nZ I q⟩)
  | int j tj=>exact wpAny_getItem_str_slice (l:=none) (u:=some (j,tj)) (st:=none) ⟨os,hos,hcs,hds⟩ rfl (post_val_or_str ⟨Nat.le_trans (Txt.slice_le u _ _) hz,fun t' k=>nZ I q⟩)
 | int i ti =>
  cases pu with
  | none=>exact wpAny_getItem_str_slice (l:=some (i,ti)) (u:=none) (st:=none) ⟨os,hos,hcs,hds⟩ rfl (post_val_or_str ⟨Nat.le_trans (Txt.slice_le u _ _) hz,fun t' k=>nZ I q⟩)
  | int j tj=>exact wpAny_getItem_str_slice (l:=some (i,ti)) (u:=some (j,tj)) (st:=none) ⟨os,hos,hcs,hds⟩ rfl (post_val_or_str ⟨Nat.le_trans (Txt.slice_le u _ _) hz,fun t' k=>nZ I q⟩)
def BA9:R2:=fun x y H Q=>∃ u n,x=.str u∧y=.int n∧2≤n∧1≤u.length∧u.length * n.toNat≤sizeLine∧Q (.str ⟨(List.replicate n.toNat u.cps).foldl (·++·) #[]⟩) H
theorem jN (u:Array Nat):∀ (n:Nat) (a:Array Nat),((List.replicate n u).foldl (·++·) a).size=a.size+n * u.size
 | 0,a=>by simp
 | n+1,a=>by
  rw [List.replicate_succ,List.foldl_cons,jN u n,Array.size_append,Nat.succ_mul]
  omega
theorem vT:OpR X (binaryOp .Mult) BA9:=by
 intro pins s σ H x y v u Q I rx ry h
 obtain ⟨z,n,rfl,rfl,h2,h1,hz,q⟩:=h
 obtain ⟨t,rfl⟩:=rx
 obtain ⟨t',rfl⟩:=ry
 have hn:z.length * n.toNat≤sizeLine:=hz
 have hnb:n.toNat≤sizeLine:=Nat.le_trans (Nat.le_mul_of_pos_left _ h1) hz
 have hzb:z.length≤sizeLine:=Nat.le_trans (Nat.le_mul_of_pos_right _ (by omega)) hz
 have sl:(sizeLine:Int) < 2 ^ 40:=by decide
 have n63:n < 2 ^ 40:=by omega
 have hc:(n == 1 || z.length == 0)=false:=by
  rw [Bool.or_eq_false_iff]
  exact ⟨by simp; omega,by simp; omega⟩
 refine P.mul_str (by rw [decide_eq_false (by omega),decide_eq_false (by omega)]; rfl) (fun _ _=>?_) (fun _ _=>?_) ?_
 ·have hd:(sizeLine:Int)≤(2 ^ 63 - 1) / n:=by
   refine Int.le_ediv_of_mul_le (by omega) ?_
   have e:(sizeLine:Int) * n≤(sizeLine:Int) * sizeLine:=Int.mul_le_mul_of_nonneg_left (by omega) (by omega)
   have e2:(sizeLine:Int) * sizeLine≤2 ^ 63 - 1:=by decide
   omega
  omega
 ·unfold Builtin.Str.tooLong
  exact decide_eq_false (by omega)
 ·rw [if_neg (by omega),hc,if_neg (by decide)]
  refine ⟨?_,⟨.str _,H,I.tok _,⟨_,rfl⟩,q⟩⟩
  show ((List.replicate n.toNat z.cps).foldl (·++·) #[]).size≤sizeLine
  rw [jN]
  have:n.toNat * z.cps.size=z.length * n.toNat:=Nat.mul_comm _ _
  simp
  omega
def BB0:V→List V→Hp→VK→Prop:=fun x xs H Q=>∃ u l ts,x=.str u∧xs=[.ref l]∧H l=some (.lst (ts.map V.str))∧JoinOk u ts=true∧Q (.str (Txt.join u ts)) H
theorem oW:∀ {ts:List Str}{us:List Value},Vals (ts.map V.str) us→∃ l:List (Str × Tok),us=strValues l∧l.map (·.1)=ts
 | [],_,r=>by
  rw [List.map_nil] at r
  cases r
  exact ⟨[],rfl,rfl⟩
 | a::ts,_,r=>by
  rw [List.map_cons] at r
  cases r with
  | cons r1 r2 =>
   obtain ⟨t,rfl⟩:=r1
   obtain ⟨l,rfl,e⟩:=oW r2
   exact ⟨(a,t)::l,rfl,by rw [List.map_cons,e]⟩
theorem iY:MtR X "str.join" BB0:=by
 intro pins s σ H x xs v us Q I rx rv h
 obtain ⟨u,l,ts,rfl,rfl,hl,hz,q⟩:=h
 obtain ⟨t,rfl⟩:=rx
 cases rv with
 | cons r1 r2 =>
  cases r2
  cases r1
  obtain ⟨_,its,n,r,e⟩:=I.hok l _ hl
  obtain ⟨ll,rfl,e2⟩:=oW r
  exact SC.join (D:=l) (l:=ll) ⟨_,e,rfl,n,rfl⟩ e2 hz fun t' k=>nZ I q
end
section
variable {K:Frag}{ta te:TE}{tr:TA}{wi:TI}{ix:List (Option Nat)}{g:TG}{tt:TT}{σ:L2.St}{H:Hp}{Q:VK}{QB:Bool→Hp→Prop}
def CompL (K:Frag) (a:Addr) (g:TG) (tt:TT) (te:TE) (Q:VK) (σ:L2.St) (H:Hp):Prop:=∃ W:Nat→Nat→List V→L2.St→Hp→Prop,(∃ m,W 0 m [] σ H)∧∀ i m acc σ H,W i m acc σ H →
 ((Itl K a).stop i H∧∀ D,H D=none→Q (.ref D) (L2.upd H D (.lst acc))) ∨
 ((Itl K a).go i H∧acc.length < sizeLine∧∃ N:List V→L2.St→Hp→Prop,(∀ acc' σ' H',N acc' σ' H'→∃ m',m' < m∧W (i+1) m' acc' σ' H') ∧
  ∀ x H',(Itl K a).yld i H x H'→g x σ H' fun σ2 H2=>tt σ2 H2 fun b H3=>if b=true then te σ2 H3 fun y H4=>N (acc++[y]) σ2 H4 else N acc σ2 H3)
def CompR (lo:Int) (n:Nat) (g:TG) (tt:TT) (te:TE) (Q:VK) (σ:L2.St) (H:Hp):Prop:=∃ W:Nat→Nat→List V→L2.St→Hp→Prop,(∃ m,W 0 m [] σ H)∧∀ i m acc σ H,W i m acc σ H →
 ((Itr lo n).stop i H∧∀ D,H D=none→Q (.ref D) (L2.upd H D (.lst acc))) ∨
 ((Itr lo n).go i H∧acc.length < sizeLine∧∃ N:List V→L2.St→Hp→Prop,(∀ acc' σ' H',N acc' σ' H'→∃ m',m' < m∧W (i+1) m' acc' σ' H') ∧
  ∀ x H',(Itr lo n).yld i H x H'→g x σ H' fun σ2 H2=>tt σ2 H2 fun b H3=>if b=true then te σ2 H3 fun y H4=>N (acc++[y]) σ2 H4 else N acc σ2 H3)
theorem sI:nE (AI7 K ta) ix g tt te σ H Q=ta σ H (fun x H1=>∃ a,x=.ref a∧(∃ xs,SqL K H1 a xs)∧CompL K a g tt te Q (sH ix σ) H1):=rfl
theorem sJ:nE (AI8 tr) ix g tt te σ H Q=tr σ H (fun vs H1=>∃ j:Int,vs=[.int j]∧-(2 ^ 62)≤j∧j < 2 ^ 62∧CompR 0 j.toNat g tt te Q (sH ix σ) H1):=rfl
theorem sK:nE (AQ8 tr) ix g tt te σ H Q=tr σ H (fun vs H1=>∃ i j:Int,vs=[.int i,.int j]∧(-(2 ^ 62)≤i∧i < 2 ^ 62∧-(2 ^ 62)≤j∧j < 2 ^ 62)∧CompR i (j - i).toNat g tt te Q (sH ix σ) H1):=rfl
theorem AM2:BE8 σ H QB=QB true H:=rfl
theorem sL:sH [] σ=[]:=rfl
theorem sM:sH (none::ix) σ=none::sH ix σ:=rfl
theorem sN {j:Nat}:sH (some j::ix) σ=((σ[j]?).getD none)::sH ix σ:=rfl
theorem BB1 {T:String}{r:V→List V→Hp→VK→Prop}:tBM K T r ta tr σ H Q=ta σ H (fun x H1=>tyV K T x H1∧tr σ H1 (fun xs H2=>r x xs H2 Q)):=rfl
theorem AM3 {T:String}{r:V→List V→Hp→VK→Prop}:BE4 K T r ta σ H Q=ta σ H (fun x H1=>tyV K T x H1∧r x [] H1 Q):=rfl
theorem AM4 {u:Str}:tyV K "str" (.str u) H=True:=by simp [tyV]
theorem xZ {u v:Str}:(∃ i j,V.str u=.str i∧V.str v=.str j∧i.length+j.length≤sizeLine∧Q (.str (i++j)) H)=(u.length+v.length≤sizeLine∧Q (.str (u++v)) H):=by simp
theorem AM5 {u:Str}{lo hi:Option Int}:BA8 (.str u) lo hi H Q=(u.length≤sizeLine∧Q (.str (Txt.slice u lo hi)) H):=by simp [BA8]
theorem yA {X:Cx}{N:List Str}{scope:Scope}{cl:List (Str × Addr)}{C:Addr}{s:Shared}{fp:List Addr}:(blk X N scope cl C s H fp).K=X.K:=rfl
theorem CompL.by {a:Addr}{xs:List V}(Pv:Nat→List V→L2.St→Hp→Prop) (hz:xs.length≤sizeLine) (h0:Pv 0 [] σ H) (hl:∀ i acc σ H,i≤xs.length→Pv i acc σ H→SqL K H a xs)
    (hs:∀ i x acc σ H,xs[i]?=some x→Pv i acc σ H→g x σ H fun σ2 H2=>tt σ2 H2 fun b H3=>if b=true then te σ2 H3 fun y H4=>Pv (i+1) (acc++[y]) σ2 H4 else Pv (i+1) acc σ2 H3)
    (hacc:∀ i acc σ H,Pv i acc σ H→acc.length≤i) (hd:∀ acc σ H,Pv xs.length acc σ H→∀ D,H D=none→Q (.ref D) (L2.upd H D (.lst acc))):CompL K a g tt te Q σ H:=xY Pv hz h0 hl hs hacc hd
theorem CompR.by {lo:Int}{n:Nat}(Pv:Nat→List V→L2.St→Hp→Prop) (hz:n≤sizeLine) (h0:Pv 0 [] σ H)
    (hs:∀ i acc σ H,i < n→Pv i acc σ H→g (.int (lo+i)) σ H fun σ2 H2=>tt σ2 H2 fun b H3=>if b=true then te σ2 H3 fun y H4=>Pv (i+1) (acc++[y]) σ2 H4 else Pv (i+1) acc σ2 H3)
    (hacc:∀ i acc σ H,Pv i acc σ H→acc.length≤i) (hd:∀ acc σ H,Pv n acc σ H→∀ D,H D=none→Q (.ref D) (L2.upd H D (.lst acc))):CompR lo n g tt te Q σ H:=vS Pv hz h0 hs hacc hd
theorem ixs {u:Str}{k:Int}{c:Nat}(hz:u.length≤sizeLine) (hv:atI u.cps.toList k=some c) (q:Q (.str ⟨#[c]⟩) H):BE3 (.str u) (.int k) H Q:=⟨u,k,c,rfl,rfl,hz,hv,q⟩
end
theorem mI {X:Cx}{x:Str}(h:X.env.kindOf x=some .globalImplicit):Gl X x:=h
def BB2 (xs:List Str):TA:=fun _ H Q=>Q (xs.map V.str) H
theorem yB {xs:List Str}{σ:L2.St}{H:Hp}{Q:List V→Hp→Prop}:BB2 xs σ H Q=Q (xs.map V.str) H:=rfl
def Well3 (H:Hp) (w:Addr):Prop:=∃ a b c:Int,H w=some (.lst [.int a,.int b,.int c])
theorem Well3.same {H H':Hp}{w:Addr}(W:Well3 H w) (s:Same H H'):Well3 H' w:=by
 obtain ⟨a,b,c,h⟩:=W
 exact ⟨a,b,c,s _ _ h⟩
theorem Well3.ne {H:Hp}{w p:Addr}(W:Well3 H w) (h:H p=none):p≠w:=by
 obtain ⟨a,b,c,e⟩:=W
 exact (aO e h).symm
def aZ (u:Str):Prop:=1≤u.length∧u.length≤8∧∀ c∈u.cps.toList,97≤c∧c≤122
instance (u:Str):Decidable (aZ u):=by unfold aZ; infer_instance
def letters:Str:="abcdefghijklmnopqrstuvwxyz"
theorem yC {i:Int}(h0:0≤i) (h1:i < 26):∃ c,atI letters.cps.toList i=some c∧97≤c∧c≤122:=by
 have h:∀ k:Fin 26,∃ c,c < 123∧atI letters.cps.toList ((k.val:Nat):Int)=some c∧97≤c∧c≤122:=by
  intro k
  refine ⟨97+k.val,?_⟩
  revert k
  decide +kernel
 obtain ⟨c,_,e,q⟩:=h ⟨i.toNat,by omega⟩
 have e2:((i.toNat:Nat):Int)=i:=by omega
 rw [e2] at e
 exact ⟨c,e,q⟩
def w8:Str:="bcdefghi"
def axz:Str:="axz"
theorem AM6 {r:Int}(h0:0≤r) (h1:r < 8):(Txt.slice w8 none (some (1+r))).length=(r+1).toNat:=by
 have h:∀ k:Fin 8,(Txt.slice w8 none (some (1+((k.val:Nat):Int)))).length=k.val+1:=by decide +kernel
 have q:=h ⟨r.toNat,by omega⟩
 have e2:((r.toNat:Nat):Int)=r:=by omega
 rw [e2] at q
 rw [q]
 show r.toNat+1=(r+1).toNat
 omega
theorem AC4 {r a k:Int}(h0:0≤r) (h1:r < 8) (a0:0≤a) (a1:a < r+1) (k0:0≤k) (k1:k < 3):∃ c,atI axz.cps.toList k=some c ∧
  aZ (Txt.slice (Txt.slice w8 none (some (1+r))) none (some a)++⟨#[c]⟩++Txt.slice (Txt.slice w8 none (some (1+r))) (some (a+1)) none):=by
 have h:∀ (r a:Fin 8) (k:Fin 3),a.val < r.val+1→∃ c∈[97,120,122],atI axz.cps.toList ((k.val:Nat):Int)=some c ∧
  aZ (Txt.slice (Txt.slice w8 none (some (1+((r.val:Nat):Int)))) none (some ((a.val:Nat):Int))++⟨#[c]⟩++Txt.slice (Txt.slice w8 none (some (1+((r.val:Nat):Int)))) (some (((a.val:Nat):Int)+1)) none):=by decide +kernel
 obtain ⟨c,_,q⟩:=h ⟨r.toNat,by omega⟩ ⟨a.toNat,by omega⟩ ⟨k.toNat,by omega⟩ (by show a.toNat < r.toNat+1; omega)
 have e1:((r.toNat:Nat):Int)=r:=by omega
 have e2:((a.toNat:Nat):Int)=a:=by omega
 have e3:((k.toNat:Nat):Int)=k:=by omega
 rw [e1,e2,e3] at q
 exact ⟨c,q⟩
theorem mJ (u:Str) (h:u.length≤8) (l r:Option Int):(Txt.slice u l r).length≤8:=Nat.le_trans (Txt.slice_le u l r) h
theorem uN:∀ ts:List Str,(∀ t∈ts,∃ c,t=⟨#[c]⟩∧97≤c∧c≤122)→(Str.join Str.empty ts).length=ts.length∧∀ c∈(Str.join Str.empty ts).cps.toList,97≤c∧c≤122
 | [],_=>⟨rfl,fun c hc=>by cases hc⟩
 | [x],h=>by
  obtain ⟨c,rfl,q⟩:=h x List.mem_cons_self
  refine ⟨rfl,fun c' hc=>?_⟩
  have e:c'=c:=by simpa [Str.join] using hc
  subst e
  exact q
 | x::y::r,h=>by
  obtain ⟨i1,i2⟩:=uN (y::r) fun t ht=>h t (List.mem_cons_of_mem _ ht)
  obtain ⟨c,rfl,q⟩:=h x List.mem_cons_self
  show ((⟨#[c]⟩:Str)++Str.empty++Str.join Str.empty (y::r)).length=_∧∀ c'∈((⟨#[c]⟩:Str)++Str.empty++Str.join Str.empty (y::r)).cps.toList,_
  refine ⟨?_,fun c' hc=>?_⟩
  ·rw [Str.length_append,Str.length_append,i1]
   show 1+0+(y::r).length=(y::r).length+1
   omega
  ·have hc':c'∈((#[c]++#[])++(Str.join Str.empty (y::r)).cps).toList:=hc
   rw [Array.toList_append] at hc'
   rcases List.mem_append.mp hc' with z | z
   ·have e:c'=c:=by simpa using z
    subst e
    exact q
   ·exact i2 c' z
theorem yD {ts:List Str}(h:∀ t∈ts,∃ c,t=⟨#[c]⟩∧97≤c∧c≤122) (h1:1≤ts.length) (h8:ts.length≤8):JoinOk Str.empty ts=true∧aZ (Txt.join Str.empty ts):=by
 obtain ⟨i1,i2⟩:=uN ts h
 have hj:Txt.join Str.empty ts=Str.join Str.empty ts:=StrLaws.glued_eq_join _ _
 refine ⟨?_,?_⟩
 ·unfold JoinOk Builtin.Str.tooLong
  rw [StrLaws.joinTotal]
  have hs:∀ l:List Str,(∀ t∈l,∃ c,t=⟨#[c]⟩∧97≤c∧c≤122)→(l.map (·.length)).sum=l.length:=by
   intro l
   induction l with
   | nil=>intro _; rfl
   | cons x r ih =>
    intro hl
    obtain ⟨c,rfl,_⟩:=hl x List.mem_cons_self
    rw [List.map_cons,List.sum_cons,ih fun t ht=>hl t (List.mem_cons_of_mem _ ht),List.length_cons]
    show 1+r.length=r.length+1
    omega
  rw [hs ts h]
  have e:Str.empty.length=0:=rfl
  rw [e]
  have z:(1000:Nat) < sizeLine:=by decide
  rw [Bool.not_eq_true',decide_eq_false_iff_not]
  omega
 ·rw [hj]
  exact ⟨by omega,by omega,i2⟩
structure CalC (P:Program) (w:World) (K:Frag) (mg:Str→Option Value) (base:Heap) (x:Str) (C:Addr) (ps:List Str) (k:Nat) (sp:Sp):Prop where
 ex:∃ f fd,FnOk P w K mg base (CXF P w) k f fd ps sp∧Binds K fd ps []∧Mk K C f∧mg x=some (.ref C)
structure CalM (P:Program) (w:World) (K:Frag) (mg:Str→Option Value) (base:Heap) (C:Addr) (m:Str) (ps:List Str) (k:Nat) (sp:Sp):Prop where
 ex:∃ f fd,FnOk P w K mg base (CXF P w) k f fd ps sp∧Binds K fd ps []∧Meth K C m f∧Cls K C
section
variable {X:Cx}{x m:Str}{C:Addr}{ps:List Str}{k:Nat}{sp:Sp}{e o:Expr}{es:List Expr}{ta:TE}{t:TA}{p pos apos:Pos}{E:XK}
theorem fT (c:CalC X.prog X.w X.K X.mg X.base x C ps k sp) (hx:iQ (CXF X.prog X.w) X E) (hr:Room (k+1) X.A) (hg:Gl X x) (ha:PA X (e::es) t)
  (hdb:(x == ("__debug__":Str))=false:=by decide) (he:starEach (e::es) X.env=(false,eval e X.env)::starEach es X.env:=by rfl) (hpl:(backTo pos (starEach es X.env)).any (·.1)=false:=by rfl) :
  PE X (.Call (.Name x p) (e::es) [] pos) (AJ3 C sp [] E t):=by
 obtain ⟨f,fd,F,b,M,hm⟩:=c.ex
 exact AJ4 M F hr hg hm b .nil hx ha hdb he hpl
def AH0 (Mm:Addr→Sp→Prop) (m:Str) (E:XK) (ta:TE) (t:TA):TE:=fun σ H Q=>ta σ H fun x H1=>∃ a C dx fs sp,x=.ref a∧H1 a=some (.ins C dx fs)∧fs.lookup m=none∧Mm C sp ∧
 t σ H1 fun vs H2=>sp (x::vs) H2 Q E
theorem sO {Mm:Addr→Sp→Prop}{σ:L2.St}{H:Hp}{Q:VK}:AH0 Mm m E ta t σ H Q=ta σ H (fun x H1=>∃ a C dx fs sp,x=.ref a∧H1 a=some (.ins C dx fs)∧fs.lookup m=none∧Mm C sp ∧
 t σ H1 fun vs H2=>sp (x::vs) H2 Q E):=rfl
theorem cQ {pl:Sem Bool}{Mm:Addr→Sp→Prop}(he:PE X o ta) (hM:∀ C sp,Mm C sp→CalM X.prog X.w X.K X.mg X.base C m ps k sp) (hx:iQ (CXF X.prog X.w) X E) (hr:Room k X.A)
  (ht:eval (.Call (.Attribute o m apos) [] [] pos) X.env=(do
   let ov ← eval o X.env
   standAt apos.atName
   let (f,first) ← holding [ov] (getMethod ov m pl)
   callWith pos f first (backTo pos (starEach [] X.env)) (backToKw pos (keywordEach [] X.env))):=by rfl) :
  PE X (.Call (.Attribute o m apos) [] [] pos) (AH0 Mm m E ta AV8):=by
 intro pins s σ H Q I h
 refine methodCall_KW (pl:=pl) (thn (he pins s σ H _ I h) fun u s1 ⟨x,H1,I1,rx,a,C,dx,fs,sp,ex,ea,l,hC,q⟩=>?_) ht
 subst ex
 obtain rfl:u=Value.ref a:=rx
 obtain ⟨f,fd,F,b,hm,c⟩:=(hM C sp hC).ex
 refine vK I1 ea c hm l ?_
 exact callWith_K0 (first:=[.ref a]) I1.kIn hm.kp (AG1 (us:=[.ref a]) (vs:=[.ref a]) F hr b .nil hx I1 (.cons rfl .nil) q)
structure MkN (K:Frag) (C:Addr):Prop where
 makes:makesIn K C=true
 init:findIn K (.ref C) "__init__"=some (some (.builtin "object.__init__"))
 kp:keepIn K (.ref C)=true
def AH1 (C:Addr):TE:=fun _ H Q=>∀ x dx,H x=none→H dx=none→dx≠x→Q (.ref x) (L2.upd (L2.upd H dx (.own x)) x (.ins C dx []))
theorem sP {σ:L2.St}{H:Hp}{Q:VK}:AH1 C σ H Q=∀ x dx,H x=none→H dx=none→dx≠x→Q (.ref x) (L2.upd (L2.upd H dx (.own x)) x (.ins C dx [])):=rfl
theorem yE (M:MkN X.K C) (hg:Gl X x) (hm:X.mg x=some (.ref C)) (hdb:(x == ("__debug__":Str))=false:=by decide):PE X (.Call (.Name x p) [] [] pos) (AH1 C):=by
 intro pins s σ H Q I h
 refine wpAny_Call_Name_kw (fX I hg hm ?_ hdb)
 refine callWith_K0 I.kIn M.kp ?_
 have hq:=h (s.heap.objs.size+1) s.heap.objs.size (I.hok.fresh (Nat.le_succ _)) (I.hok.fresh (Nat.le_refl _)) (Nat.ne_of_lt (Nat.lt_succ_self _))
 have I2:=Inv.made (C:=C) I
 have Y:=makes_of (M:=model X.prog X.w) I.kIn M.makes
 refine wpAny_call (wT I.kIn M.makes M.init (fun self=>Looks.of_pure (oi_bind self)) ?_)
 obtain ⟨hh,g,d,tt,os⟩:=s
 have t1:Looks (model X.prog X.w) ((hh.push emptyDict).push (instObj C hh.objs.size)) (typeOf (.ref (hh.objs.size+1))) (.ref C):=by
  obtain ⟨mA,O,_⟩:=mE (a:=hh.objs.size+1) (C:=C) (dx:=hh.objs.size) (fs:=[]) I2.hok aB
  obtain ⟨od,J,_⟩:=O.look
  exact J.type
 have t2:Looks (model X.prog X.w) ((hh.push emptyDict).push (instObj C hh.objs.size)) (isInstance (.ref (hh.objs.size+1)) (.type "object")) true :=
  t1.andThen (Y.top.keeps fun b o e=>Heap.get?_push_of_some _ (Heap.get?_push_of_some _ e))
 refine codeAny_call_builtin oi_plain entry_oi (@check_slot (model X.prog X.w) _ _ _ "object.__init__" "object" "__init__" (.ref (hh.objs.size+1)) [] [] _ oi_kind oi_split t2 (oi_args (.ref (hh.objs.size+1))) ?_)
 rw [oi_run]
 exact wpAny_pure (And.intro rfl ⟨V.ref (hh.objs.size+1),_,I2,rfl,hq⟩)
end
def AS7 (K:Frag):List V→Hp→VK→Prop:=fun xs H Q=>∃ (x:V) (c:Addr) (t:Value) (b:Bool),xs=[x,.ref c]∧TyOf K H x t∧kitOne K t (.ref c)=some b∧Q (.bl b) H
theorem yF {X:Cx}:CallR X (.builtin "isinstance") (AS7 X.K):=by
 intro pins s σ H xs us Q I r h
 obtain ⟨x,c,t,b,rfl,ty,e,q⟩:=h
 obtain ⟨u,w',rfl,rx,rc⟩:=wS r
 cases (show w'=Value.ref c from rc)
 exact mF I rx ty e fun tk=>⟨.bl b,H,I.tok _,rfl,q⟩
section
variable {X:Cx}
end
section
variable {K:Frag}{C:Addr}{sp:Sp}{dvs:List V}{E:XK}{ta tv:TE}{t:TA}{f:Str}{σ:L2.St}{H:Hp}{Q:VK}{D:Ends}{n:Nat}{ts:TGs}{v:V}{QS:L2.St→Hp→Prop}{g:TG}
theorem yG:AJ3 C sp dvs E t σ H Q=t σ H (fun vs H1=>∀ x dx,H1 x=none→H1 dx=none→dx≠x →
 sp (.ref x::(vs++dvs)) (L2.upd (L2.upd H1 dx (.own x)) x (.ins C dx [])) (fun v H2=>v=.non∧Q (.ref x) H2) E):=rfl
theorem AM7:AX8 K ta f σ H Q=ta σ H (fun x H1=>∃ a C dx fs v,x=.ref a∧H1 a=some (.ins C dx fs)∧Cls K C∧NoAttr K C f∧fs.lookup f=some v∧Q v H1):=rfl
theorem yH:BF6 K n ts v σ H QS=∃ a xs,v=.ref a∧SqT K H a xs∧xs.length=n∧ts xs σ H QS:=rfl
theorem sQ {vs:List V}:AX2 g ts vs σ H QS=∃ v r,vs=v::r∧g v σ H (fun σ' H'=>ts r σ' H' QS):=rfl
theorem yI:BD9 K ta tv f D σ H=tv σ H (fun y H1=>ta σ H1 (fun x H2=>∃ a C dx fs,x=.ref a∧H2 a=some (.ins C dx fs)∧Cls K C∧NoAttr K C f∧fs.length < 1000 ∧
 D.nx σ (L2.upd H2 a (.ins C dx (nP f y fs))))):=rfl
theorem yJ {vs:List V}:BF5 vs σ H QS=(vs=[]∧QS σ H):=rfl
end
section
variable {X:Cx}{x:Str}{ps:List Str}{k:Nat}{sp:Sp}{p pos:Pos}
end
theorem FnOk.lift {P:Program}{w:World}{K:Frag}{mg:Str→Option Value}{base:Heap}{CX:CXT}{j k:Nat}{f:Addr}{fd:FuncData}{ps:List Str}{sp:Sp}(F:FnOk P w K mg base CX j f fd ps sp) (h:j≤k):FnOk P w K mg base CX k f fd ps sp :=
 ⟨F.len,fun A outer s H args us vs Q E hr he hb hv hs=>F.run A outer s H args us vs Q E (hr.mono h) he hb hv hs⟩
theorem bI {H:Hp}{x dx:Addr}{o o':HO}(hx:H x=none) (hd:H dx=none):Same H (L2.upd (L2.upd H dx o) x o'):=fun b u q=>by
 rw [aK (aO q hx),aK (aO q hd)]
 exact q
structure ClsK (K:Frag) (C:Addr):Prop where
 cl:Cls K C
 ha:findIn K (.ref C) "__class__"=some (some (.builtin "object.__class__"))
 hn:specialIn K (.builtin "object.__class__") "__get__"=some (some (.builtin "getset_descriptor.__get__"))
 ht:takesIn K (.builtin "object.__class__")=some true
 hm:mroIn K C (.type "object")=some true
theorem ClsK.ty {K:Frag}{C:Addr}(c:ClsK K C) {H:Hp}{a dx:Addr}{fs:List (Str × V)}(e:H a=some (.ins C dx fs)):TyOf K H (.ref a) (.ref C):=.ins e c.cl c.ha c.hn c.ht c.hm
theorem dR {X:Cx}{K:Frag}(hK:X.K=K):CallR X (.builtin "isinstance") (AS7 K):=by
 subst hK
 exact yF
def qU:Expr→Bool
 | .Starred _ _=>true
 | _=>false
theorem aA:∀ (e:Expr) (es:List Expr) (env:Env),qU e=false→starEach (e::es) env=(false,eval e env)::starEach es env:=by
 intro e es env h
 cases e <;> first | rfl | (cases h)
def uO:List Expr→Bool
 | []=>true
 | e::r=>!qU e && uO r
theorem aC {pos:Pos}{env:Env}:∀ {es:List Expr},uO es=true→(backTo pos (starEach es env)).any (·.1)=false
 | [],_=>rfl
 | e::r,h=>by
  have h':(!qU e)=true∧uO r=true:=by simpa [uO] using h
  rw [aA e r env (by simpa using h'.1)]
  have ih:=aC (pos:=pos) (env:=env) h'.2
  have e1:backTo pos ((false,eval e env)::starEach r env)=(false,eval e env)::backTo pos (starEach r env):=rfl
  rw [e1,List.any_cons,ih]
  rfl
theorem BG0 {X:Cx}{e:Expr}{es:List Expr}{te:TE}{t:TA}(ha:PE X e te) (hr:PA X es t) (hs:qU e=false:=by rfl):PA X (e::es) (AB4 te t):=AJ2 ha hr (aA e es X.env hs)
structure QA (X:Cx) (es:List Expr) (t:TA):Prop where
 h:PA X es t
theorem aD {X:Cx}:QA X [] AV8:=⟨AR4⟩
theorem aN {X:Cx}{e:Expr}{es:List Expr}{te:TE}{t:TA}(ha:PE X e te) (hr:QA X es t) (hs:qU e=false:=by rfl):QA X (e::es) (AB4 te t):=⟨BG0 ha hr.h hs⟩
theorem aJ {X:Cx}{es:List Expr}{t:TA}(h:QA X es t):PA X es t:=h.h
def yK:V→Bool
 | .int _=>true
 | _=>false
def AC5 (x:V) (lo:Int):Bool:=match x with
 | .int i=>decide (lo≤i)
 | _=>false
theorem okV.same {H H':Hp}{x:V}(h:okV H x) (s:Same H H'):okV H' x:=by
 cases x with
 | ref a =>
  rcases h with ⟨xs,e⟩ | ⟨xs,e⟩
  ·exact .inl ⟨xs,s _ _ e⟩
  ·exact .inr ⟨xs,s _ _ e⟩
 | non=>trivial
 | bl _=>trivial
 | int _=>trivial
 | str _=>trivial
 | _=>exact h.elim
theorem okV.lst {H:Hp}{p:Addr}{xs:List V}(h:H p=some (.lst xs)):okV H (.ref p):=.inl ⟨_,h⟩
theorem okV.tup {H:Hp}{p:Addr}{xs:List V}(h:H p=some (.tup xs)):okV H (.ref p):=.inr ⟨_,h⟩
def BB3 (t u:TS):TS:=fun D σ H=>∃ M:L2.St→Hp→Prop,t { D with nx:=M } σ H∧∀ σ' H',M σ' H'→u D σ' H'
theorem AM8 {t u:TS}{D:Ends}{σ:L2.St}{H:Hp}:BB3 t u D σ H=∃ M:L2.St→Hp→Prop,t { D with nx:=M } σ H∧∀ σ' H',M σ' H'→u D σ' H':=rfl
theorem AM9 {X:Cx}{st:Stmt}{rest:List Stmt}{t u:TS}(h1:PS X st t) (h2:PSs X rest u):PSs X (st::rest) (BB3 t u):=by
 intro pins s σ H D I h
 obtain ⟨M,ha,hb⟩:=h
 refine wpAny_execs_cons (thn (h1 pins s σ H { D with nx:=M } I ha) fun f s1 q=>?_)
 cases f with
 | next =>
  obtain ⟨σ',H',I',q⟩:=q
  exact h2 pins s1 σ' H' D I' (hb _ _ q)
 | ret v=>exact q
 | brk=>exact q
 | cont=>exact q
def gQ (u:Str):Bool:=u.cps.all (· < 128)
def Its (u:Str):It:=⟨fun i _=>i < u.cps.size,fun i H x H'=>H'=H∧∃ c,u.cps[i]?=some c∧x=.str ⟨#[c]⟩,fun i _=>u.cps.size≤i⟩
theorem AC6 {P:Program}{w:World}{K:Frag}{tg:Expr}(u:Str) (t:Tok) (it:Addr):Turn P w K tg (Its u) [it] it (fun i h=>h.IsStrIter it "str_ascii_iterator" u t i) where
 mem:=by simp
 obj:=fun i h st b hb=>by
  have e:b=it:=by simpa using hb
  subst e
  obtain ⟨o,e,c,d⟩:=st
  exact ⟨o,e,fun v z=>by rw [d] at z; cases z⟩
 keep:=fun i h h' st k=>by
  obtain ⟨o,e,c,d⟩:=st
  exact ⟨o,k it (by simp) o e,c,d⟩
 item:=by
  intro X hP hw hK hc i pins s σ H E I hf st hg
  subst hP hw hK
  have hx:u.cps[i]?=some u.cps[i]:=Array.getElem?_eq_getElem hg
  obtain ⟨f0,f1,f2,f3,f4,f5⟩:=hf it (by simp)
  refine wpAny_pyNext_ascii_item st hx fun h' st' sb=>?_
  have I1:Inv X pins σ H { s with heap:=h',toks:=s.toks+1 }:=I.turned (t':=s.toks+1) (fun b o hb e=>(sb.2 b hb).trans e) f0 f1 f3 f4 f5
  obtain ⟨o,e,c,d⟩:=id st'
  exact ⟨_,rfl,AA8 (s:={ s with heap:=h',toks:=s.toks+1 }) e c d (by decide) ⟨.str ⟨#[u.cps[i]]⟩,H,I1,⟨_,rfl⟩,⟨rfl,_,hx,rfl⟩,st',fun b hb=>(hf b hb).1⟩⟩
 done:=by
  intro X hP hw hK hc i pins s σ H E I hf st hg
  subst hP hw hK
  obtain ⟨f0,f1,f2,f3,f4,f5⟩:=hf it (by simp)
  exact wpAny_pyNext_ascii_end (I.ok.hd hc) st (Array.getElem?_eq_none hg) fun h' eb=>⟨rfl,I.turned (t':=s.toks) (fun b o hb e=>eb b o hb e) f0 f1 f3 f4 f5⟩
 self:=fun _ _ _ _ _ st h=>wpAny_pyIter_striter_ascii st h
def BE9 (tl:TE):TI:=fun σ H R=>tl σ H fun x H1=>∃ u,x=.str u∧gQ u=true∧R (Its u) H1
theorem AH2 {X:Cx}{tg l:Expr}{tl:TE}(hl:PE X l tl):PI X tg l (BE9 tl):=by
 intro pins s σ H R I h
 refine thn (hl pins s σ H _ I h) fun v s1 ⟨x,H1,I1,r1,q1⟩=>?_
 obtain ⟨u,e,hp,q⟩:=q1
 subst e
 obtain ⟨t,rfl⟩:=r1
 refine wpAny_pyIter_ascii hp ?_
 refine ⟨s1.heap.objs.size,[s1.heap.objs.size],_,_,H1,rfl,I1.kept (t':=s1.toks) fun b o e=>Heap.get?_push_of_some _ e,AC6 u t _,⟨_,Heap.get?_push_size _ rfl,rfl,rfl⟩,fun b hb=>?_,q⟩
 have e:b=s1.heap.objs.size:=by simpa using hb
 subst e
 exact I1.fpOk (Nat.le_refl _) (I1.hok.fresh (Nat.le_refl _))
section
variable {K:Frag}{ta te:TE}{ix:List (Option Nat)}{g:TG}{tt:TT}{σ:L2.St}{H:Hp}{Q:VK}
def CompS (u:Str) (g:TG) (tt:TT) (te:TE) (Q:VK) (σ:L2.St) (H:Hp):Prop:=∃ W:Nat→Nat→List V→L2.St→Hp→Prop,(∃ m,W 0 m [] σ H)∧∀ i m acc σ H,W i m acc σ H →
 ((Its u).stop i H∧∀ D,H D=none→Q (.ref D) (L2.upd H D (.lst acc))) ∨
 ((Its u).go i H∧acc.length < sizeLine∧∃ N:List V→L2.St→Hp→Prop,(∀ acc' σ' H',N acc' σ' H'→∃ m',m' < m∧W (i+1) m' acc' σ' H') ∧
  ∀ x H',(Its u).yld i H x H'→g x σ H' fun σ2 H2=>tt σ2 H2 fun b H3=>if b=true then te σ2 H3 fun y H4=>N (acc++[y]) σ2 H4 else N acc σ2 H3)
theorem sR:nE (BE9 ta) ix g tt te σ H Q=ta σ H (fun x H1=>∃ u,x=.str u∧gQ u=true∧CompS u g tt te Q (sH ix σ) H1):=rfl
theorem CompS.by {u:Str}(Pv:Nat→List V→L2.St→Hp→Prop) (hz:u.cps.size≤sizeLine) (h0:Pv 0 [] σ H)
    (hs:∀ i c acc σ H,u.cps[i]?=some c→Pv i acc σ H→g (.str ⟨#[c]⟩) σ H fun σ2 H2=>tt σ2 H2 fun b H3=>if b=true then te σ2 H3 fun y H4=>Pv (i+1) (acc++[y]) σ2 H4 else Pv (i+1) acc σ2 H3)
    (hacc:∀ i acc σ H,Pv i acc σ H→acc.length≤i) (hd:∀ acc σ H,Pv u.cps.size acc σ H→∀ D,H D=none→Q (.ref D) (L2.upd H D (.lst acc))):CompS u g tt te Q σ H:=by
  refine ⟨fun i m acc σ H=>m=u.cps.size - i∧i≤u.cps.size∧Pv i acc σ H,⟨u.cps.size,by simp,Nat.zero_le _,h0⟩,?_⟩
  rintro i m acc σ H ⟨rfl,hi,p⟩
  have ha:=hacc i acc σ H p
  by_cases hlt:i < u.cps.size
  · refine .inr ⟨hlt,by omega,Pv (i+1),fun acc' σ' H' p'=>⟨u.cps.size - (i+1),by omega,rfl,hlt,p'⟩,fun x H' y=>?_⟩
    obtain ⟨e,c,hc,y⟩:=y
    subst e y
    exact hs i c acc σ _ hc p
  · have e:i=u.cps.size:=by omega
    subst e
    exact .inl ⟨Nat.le_refl _,hd acc σ H p⟩
end
theorem uP:∀ {bs:List Bool}{its:List Value},Vals (bs.map V.bl) its→∀ (i:Nat) (v:Value),its[i]?=some v→∃ b:Bool,bs[i]?=some b∧v=Value.bool b
 | [],_,r,i,v,h=>by
  rw [List.map_nil] at r
  cases r
  simp at h
 | b::bs,_,r,i,v,h=>by
  rw [List.map_cons] at r
  cases r with
  | cons r1 r2 =>
   cases i with
   | zero =>
    simp at h
    subst h
    exact ⟨b,rfl,r1⟩
   | succ i=>exact uP r2 i v (by simpa using h)
theorem oX {X:Cx}(hc:X.calm=true):CallR X (.builtin "all") (fun xs H Q=>∃ (a:Addr) (bs:List Bool),xs=[.ref a]∧SqL X.K H a (bs.map V.bl)∧Q (.bl (bs.all id)) H):=by
 intro pins s σ H xs us Q I r h
 obtain ⟨a,bs,rfl,hS,q⟩:=h
 obtain ⟨u,rfl,ru⟩:=nC r
 cases ru
 obtain ⟨its,rv,pl,hz⟩:=I.list hS
 have hl:s.heap.IsList a its.toArray:=pl.isList
 have hlt:a < s.heap.objs.size:=by obtain ⟨_,e,_⟩:=hl; exact Heap.lt_size e
 refine call_all_walk (wpAny_pyIter_list hl ?_)
 refine ⟨s.heap.objs.size,[s.heap.objs.size,a],[s.heap.objs.size],its.toArray.size,_,_,fun i=>(bs[i]?).getD true,rfl,Walks.list (A:=X.A.in1) (I.ok.hd hc) _ a (Nat.ne_of_lt hlt) its.toArray,
  ⟨⟨_,Heap.get?_push_size _ rfl,rfl,rfl⟩,hl.push _⟩,fun i v s' Q' E' hP hQ=>?_,fun h' tk hk=>?_⟩
 ·obtain ⟨b,e,rfl⟩:=uP rv i v (by simpa using hP)
  simp only [e,Option.getD_some] at hQ
  exact wpAny_truthy_bool hQ
 ·have hn:its.toArray.size=bs.length:=by
   have:=rv.length
   rw [List.length_map] at this
   simpa using this.symm
  have e:((List.range its.toArray.size).all fun i=>(bs[i]?).getD true)=bs.all id:=by
   rw [hn,Bool.eq_iff_iff,List.all_eq_true,List.all_eq_true]
   constructor
   ·intro z b hb
    obtain ⟨i,hi,rfl⟩:=List.getElem_of_mem hb
    have:=z i (List.mem_range.mpr hi)
    simpa [List.getElem?_eq_getElem hi] using this
   ·intro z i hi
    have hi':=List.mem_range.mp hi
    simp only [List.getElem?_eq_getElem hi',Option.getD_some]
    exact z _ (List.getElem_mem hi')
  rw [e]
  refine ⟨.bl _,H,I.kept (t':=tk) fun b o eb=>hk b o (fun hm=>by rw [List.mem_singleton.mp hm] at eb; exact Nat.lt_irrefl _ (Heap.lt_size eb)) (Heap.get?_push_of_some _ eb),rfl,q⟩
def okN (H:Hp):V→Prop
 | .non=>True
 | .bl _=>True
 | .int _=>True
 | .str u=>gQ u=true∧u.length≤1000
 | .ref a=>(∃ xs,H a=some (.lst xs))∨(∃ xs,H a=some (.tup xs))∨∃ kvs,H a=some (.dK kvs)
 | _=>False
def mK:V→Bool
 | .str _=>true
 | _=>false
theorem okN.ty {K:Frag}{H:Hp}{x:V}(h:okN H x):∃ T,TyOf K H x (.type T)∧kitOne K (.type T) (.type "str")=some (mK x):=by
 cases x with
 | non=>exact ⟨_,.non,by kernel_rfl⟩
 | bl b=>exact ⟨_,.bl b,by kernel_rfl⟩
 | int i=>exact ⟨_,.int i,by kernel_rfl⟩
 | str i=>exact ⟨_,.str i,by kernel_rfl⟩
 | ref a =>
  rcases h with ⟨xs,e⟩ | ⟨xs,e⟩ | ⟨xs,e⟩
  ·exact ⟨_,.lst e,by kernel_rfl⟩
  ·exact ⟨_,.tup e,by kernel_rfl⟩
  ·exact ⟨_,.dK e,by kernel_rfl⟩
 | _=>exact h.elim
theorem qV {X:Cx}:CallR X (.builtin "isinstance") (fun xs H Q=>∃ x,xs=[x,.ty "str"]∧okN H x∧Q (.bl (mK x)) H):=by
 intro pins s σ H xs us Q I r h
 obtain ⟨x,rfl,ok,q⟩:=h
 obtain ⟨T,ty,e⟩:=ok.ty (K:=X.K)
 exact AJ6 I r ty e q
theorem okN.same {H H':Hp}{x:V}(h:okN H x) (s:Same H H'):okN H' x:=by
 cases x with
 | ref a =>
  rcases h with ⟨xs,e⟩ | ⟨xs,e⟩ | ⟨xs,e⟩
  ·exact .inl ⟨xs,s _ _ e⟩
  ·exact .inr (.inl ⟨xs,s _ _ e⟩)
  ·exact .inr (.inr ⟨xs,s _ _ e⟩)
 | non=>trivial
 | bl _=>trivial
 | int _=>trivial
 | str _=>exact h
 | _=>exact h.elim
theorem okN.but {H H':Hp}{x:V}{w:Addr}(h:okN H x) (W:Well3 H' w) (s:But w H H'):okN H' x:=by
 cases x with
 | ref a =>
  by_cases ha:a=w
  ·obtain ⟨b,c,d,q⟩:=W
   exact .inl ⟨_,by rw [ha]; exact q⟩
  ·rcases h with ⟨xs,e⟩ | ⟨xs,e⟩ | ⟨xs,e⟩
   ·exact .inl ⟨xs,s _ _ ha e⟩
   ·exact .inr (.inl ⟨xs,s _ _ ha e⟩)
   ·exact .inr (.inr ⟨xs,s _ _ ha e⟩)
 | non=>trivial
 | bl _=>trivial
 | int _=>trivial
 | str _=>exact h
 | _=>exact h.elim
def gK:V→Bool
 | .str u=>decide (aZ u)
 | _=>false
theorem oA {c:Nat}(h:c < 128):(!(Builtin.Str.occurrences letters ⟨#[c]⟩ 0 letters.length 1).isEmpty)=decide (97≤c∧c≤122):=by
 have q:∀ k:Fin 128,(!(Builtin.Str.occurrences letters ⟨#[k.val]⟩ 0 letters.length 1).isEmpty)=decide (97≤k.val∧k.val≤122):=by decide +kernel
 exact q ⟨c,h⟩
def LetS (u:Str):Prop:=∀ c∈u.cps.toList,97≤c∧c≤122
def Sm (u:Str):Prop:=gQ u=true∧u.length≤100
theorem plain_iff {u:Str}:gQ u=true ↔ ∀ c∈u.cps.toList,c < 128:=by
 unfold gQ
 rw [Array.all_eq_true']
 constructor
 ·intro h c hc
  have:=h c (by simpa using hc)
  simpa using this
 ·intro h c hc
  have:=h c (by simpa using hc)
  simpa using this
theorem LetS.plain {u:Str}(h:LetS u):gQ u=true:=plain_iff.mpr fun c hc=>by have:=h c hc; omega
theorem AC7 {u:Str}(h:aZ u):LetS u:=h.2.2
theorem oY {u:Str}(h:aZ u):Sm u:=⟨(AC7 h).plain,by have:=h.2.1; omega⟩
theorem yL {u:Str}{l r:Option Int}{c:Nat}(h:c∈(Txt.slice u l r).cps.toList):c∈u.cps.toList:=by
 unfold Txt.slice at h
 split at h
 ·exact h
 ·simp only [List.mem_filterMap] at h
  obtain ⟨i,_,e⟩:=h
  exact Array.mem_toList_iff.mpr (Array.mem_of_getElem? e)
theorem oB (u v:Str):(u++v).cps.toList=u.cps.toList++v.cps.toList:=by
 show (u.cps++v.cps).toList=_
 rw [Array.toList_append]
def badC (u:Str):Prop:=∃ c∈u.cps.toList,¬ (97≤c∧c≤122)
instance (u:Str):Decidable (badC u):=by unfold badC; infer_instance
theorem badC.no {u:Str}(h:badC u):¬ aZ u:=fun g=>by
 obtain ⟨c,hc,n⟩:=h
 exact n (g.2.2 c hc)
theorem badC.l {u:Str}(h:badC u) (v:Str):badC (u++v):=by
 obtain ⟨c,hc,n⟩:=h
 exact ⟨c,by rw [oB]; exact List.mem_append.mpr (.inl hc),n⟩
theorem badC.r {v:Str}(h:badC v) (u:Str):badC (u++v):=by
 obtain ⟨c,hc,n⟩:=h
 exact ⟨c,by rw [oB]; exact List.mem_append.mpr (.inr hc),n⟩
theorem AC8 {u:Str}(h:gQ u=true):(u.cps.toList.map fun c=>!(Builtin.Str.occurrences letters ⟨#[c]⟩ 0 letters.length 1).isEmpty).all id=decide (∀ c∈u.cps.toList,97≤c∧c≤122):=by
 rw [Bool.eq_iff_iff,List.all_eq_true,decide_eq_true_eq]
 constructor
 ·intro z c hc
  have q:=z _ (List.mem_map.mpr ⟨c,hc,rfl⟩)
  rw [oA (plain_iff.mp h c hc)] at q
  simpa using q
 ·intro z b hb
  obtain ⟨c,hc,rfl⟩:=List.mem_map.mp hb
  rw [oA (plain_iff.mp h c hc)]
  simpa using z c hc
theorem oZ {u:Str}(g:aZ u):PyData.strOk u=true:=by
 unfold PyData.strOk
 rw [Array.all_eq_true']
 intro c hc
 have:=g.2.2 c (by simpa using hc)
 simp only [decide_eq_true_eq]
 omega
section
variable {X:Cx}{x:Str}{C:Addr}{ps:List Str}{k:Nat}{sp:Sp}{e:Expr}{es:List Expr}{t:TA}{p pos:Pos}
variable {K:Frag}{σ:L2.St}{H:Hp}{Q:VK}{D:Ends}{CB:Addr}{i:Nat}{tb:XK→TS}{ts:TS}{E:XK}{dvs:List V}
theorem yM:BA7 K CB i tb ts D σ H=tb (fun cls dx H2=>exmOne K cls (.ref CB)=some true ∧
 ∀ x,H2 x=none→ts { nx:=fun σ' H3=>D.nx (σ'.set i none) H3,rt:=D.rt,bk:=fun σ' H3=>D.bk (σ'.set i none) H3,ct:=fun σ' H3=>D.ct (σ'.set i none) H3 } (σ.set i (some (.ref x))) (L2.upd H2 x (fJ x cls dx))) D σ H:=rfl
theorem sS:AS4 C sp dvs t E σ H Q=t σ H (fun vs H1=>∀ x dx,H1 x=none→H1 dx=none→dx≠x →
 sp (.ref x::(vs++dvs)) (L2.upd (L2.upd H1 dx (.own x)) x (.ins C dx [])) (fun v H2=>v=.non∧Q (.ref x) H2) E):=rfl
def AN0:TE:=fun _ H0 Q0=>∀ d,H0 d=none→Q0 (.ref d) (L2.upd H0 d (.dK []))
theorem pA:AN0 σ H Q=∀ d,H d=none→Q (.ref d) (L2.upd H d (.dK [])):=rfl
end
structure QE (X:Cx) (e:Expr) (t:TE):Prop where
 h:PE X e t
structure QS (X:Cx) (st:Stmt) (t:TS):Prop where
 h:PS X st t
structure QSs (X:Cx) (sts:List Stmt) (t:TS):Prop where
 h:PSs X sts t
section
variable {X:Cx}{e a b c:Expr}{es:List Expr}{st:Stmt}{rest sa sb:List Stmt}{te ta tb:TE}{tl:TA}{tc:TT}{t u:TS}{pos pos':Pos}{x:Str}{i:Nat}
theorem aW (h:PE X e te):QE X e te:=⟨h⟩
theorem cN (h:PS X st t):QS X st t:=⟨h⟩
theorem bA (h:QSs X rest t):PSs X rest t:=h.h
theorem gR (h:QA X es tl):QE X (.List es pos) (AX9 tl):=⟨hU h.h⟩
theorem AN1 {op:Operator}{r:R2}(ho:OpR X (binaryOp op) r) (ha:QE X a ta) (hb:QE X b tb):QE X (.BinOp a op b pos) (tOp r ta tb):=⟨bE ho ha.h hb.h⟩
theorem AS8 {r:R2}(hr:IxR X r) (ha:QE X a ta) (hb:QE X b tb) (hs:xA b):QE X (.Subscript a b pos) (tOp r ta tb):=⟨bM hr ha.h hb.h hs⟩
theorem aU (he:QE X e te):QS X (.Return (some e) pos) (AV6 te):=⟨AQ6 he.h⟩
theorem bF (hN:X.N.Nodup) (hi:X.N[i]?=some x) (hx:Loc X.env.scope x) (he:QE X e te) (hs:swapsWith e (some (.Name x pos')) pos.line X.env=pure false) (hf:X.fn x=true∨X.env.scope.names.lookup x=some .local:=by first | exact .inl rfl | exact .inr rfl | assumption) :
  QS X (.Assign [.Name x pos'] e pos) (AP3 te (vF i)):=⟨AQ7 hN hi hx he.h hs hf⟩
theorem bJ (hc:PT X c tc) (ha:QSs X sa t) (hb:QSs X sb u):QS X (.If c sa sb pos) (AX0 tc t u):=⟨AX1 hc ha.h hb.h⟩
theorem aR:QSs X [] AI5:=⟨AI6⟩
theorem aI (h:QS X st t):QSs X [st] t:=⟨gF h.h⟩
theorem aF (h1:QS X st t) (h2:QSs X rest u):QSs X (st::rest) (AW8 t u):=⟨AA7 h1.h h2.h⟩
theorem AN2 (h1:QS X st t) (h2:QSs X rest u):QSs X (st::rest) (BB3 t u):=⟨AM9 h1.h h2.h⟩
theorem iR (h:PSs X rest t):QSs X rest t:=⟨h⟩
end
mutual
inductive RD (H:Hp):V→PyData→Prop
 | non:RD H .non .none
 | bl (b:Bool):RD H (.bl b) (.bool b)
 | int (i:Int):RD H (.int i) (.int i)
 | str (x:Str):RD H (.str x) (.str x)
 | lst {p:Addr}{xs:List V}{ds:List PyData}:H p=some (.lst xs)→RDs H xs ds→RD H (.ref p) (.list ds)
 | tup {p:Addr}{xs:List V}{ds:List PyData}:H p=some (.tup xs)→RDs H xs ds→RD H (.ref p) (.tuple ds)
inductive RDs (H:Hp):List V→List PyData→Prop
 | nil:RDs H [] []
 | cons {v:V}{d:PyData}{vs:List V}{ds:List PyData}:RD H v d→RDs H vs ds→RDs H (v::vs) (d::ds)
end
section
variable {X:Cx}{pins:List (Addr × Obj)}{σ:L2.St}{H:Hp}{s:Shared}
mutual
theorem RD.reads (I:Inv X pins σ H s):∀ {v:V}{d:PyData},RD H v d→∀ {u:Value},RelV v u→∃ as,Reads s.heap u d as
 | _,_,.non,u,r=>by cases (show u=Value.none from r); exact ⟨_,.none⟩
 | _,_,.bl b,u,r=>by cases (show u=Value.bool b from r); exact ⟨_,.bool b⟩
 | _,_,.int i,u,r=>by obtain ⟨t,rfl⟩:=(show ∃ t,u=Value.int i t from r); exact ⟨_,.int i t⟩
 | _,_,.str i,u,r=>by obtain ⟨t,rfl⟩:=(show ∃ t,u=Value.str i t from r); exact ⟨_,.str i t⟩
 | _,_,.lst h hs,u,r=>by
  cases (show u=Value.ref _ from r)
  obtain ⟨its,r1,⟨o1,n1,p1,c1,_,d1⟩,_⟩:=I.list (SqL.of h)
  obtain ⟨as,ra⟩:=RDs.reads I hs r1
  exact ⟨_,Reads.list p1 c1 d1 (by simpa using ra)⟩
 | _,_,.tup h hs,u,r=>by
  cases (show u=Value.ref _ from r)
  obtain ⟨its,r1,⟨o1,p1,c1,n1,d1⟩,_⟩:=I.tuple (SqT.of h)
  obtain ⟨as,ra⟩:=RDs.reads I hs r1
  exact ⟨_,Reads.tuple p1 c1 d1 (by simpa using ra)⟩
theorem RDs.reads (I:Inv X pins σ H s):∀ {vs:List V}{ds:List PyData},RDs H vs ds→∀ {us:List Value},Vals vs us→∃ as,ReadsAll s.heap us ds as
 | _,_,.nil,_,.nil=>⟨_,.nil⟩
 | _,_,.cons h hs,_,.cons r rs=>by
  obtain ⟨as,ra⟩:=RD.reads I h r
  obtain ⟨bs,rb⟩:=RDs.reads I hs rs
  exact ⟨_,.cons ra rb⟩
end
end
mutual
theorem uQ:∀ d:PyData,PyData.canLay0 d=true→SeqAt.noMix d d=true
 | .none,_=>by simp [SeqAt.noMix]
 | .bool _,_=>by simp [SeqAt.noMix]
 | .int _,_=>by simp [SeqAt.noMix]
 | .str _,_=>by simp [SeqAt.noMix]
 | .list xs,h=>by
  simp only [SeqAt.noMix]
  exact mixs_self xs (by simpa [PyData.canLay0] using h)
 | .tuple xs,h=>by
  simp only [SeqAt.noMix]
  exact mixs_self xs (by simpa [PyData.canLay0] using h)
 | .dict _,h=>by simp [PyData.canLay0] at h
theorem mixs_self:∀ ds:List PyData,PyData.canLayAll0 ds=true→SeqAt.noMixAll ds ds=true
 | [],_=>by simp [SeqAt.noMixAll]
 | d::r,h=>by
  have h':PyData.canLay0 d=true∧PyData.canLayAll0 r=true:=by simpa [PyData.canLayAll0] using h
  simp only [SeqAt.noMixAll,uQ d h'.1,mixs_self r h'.2,Bool.and_self]
end
theorem AC9 {d:PyData}(h:SeqAt.shaped d=true):PyData.eqv d d=true:=by
 have hc:PyData.canLay0 d=true:=by
  have h':(PyData.canLay0 d && decide (PyData.depth d≤64))=true:=h
  rw [Bool.and_eq_true] at h'
  exact h'.1
 rw [← SeqAt.same_eq_eqv d d (uQ d hc)]
 exact same_self d
section
variable {X:Cx}
def BB4 (b:Bool):R2:=fun x y H Q=>∃ (d d':PyData),RD H x d∧RD H y d'∧SeqAt.shaped d=true∧SeqAt.shaped d'=true∧Q (.bl (PyData.eqv d d' == b)) H
theorem AH3 (hu:X.A.units+64 < cLine):OpR X (compareOp .Eq) (BB4 true):=by
 intro pins s σ H x y v u Q I rx ry h
 obtain ⟨d,d',h1,h2,s1,s2,q⟩:=h
 obtain ⟨as,r1⟩:=h1.reads I rx
 obtain ⟨bs,r2⟩:=h2.reads I ry
 refine eq_dataH r1 r2 s1 s2 hu ⟨.bl _,H,I,rfl,?_⟩
 have e:(PyData.eqv d d' == true)=PyData.eqv d d':=by cases PyData.eqv d d' <;> rfl
 rw [e] at q
 exact q
theorem AS9 (hu:X.A.units+64 < cLine):OpR X (compareOp .NotEq) (BB4 false):=by
 intro pins s σ H x y v u Q I rx ry h
 obtain ⟨d,d',h1,h2,s1,s2,q⟩:=h
 obtain ⟨as,r1⟩:=h1.reads I rx
 obtain ⟨bs,r2⟩:=h2.reads I ry
 refine ne_dataH r1 r2 s1 s2 hu ⟨.bl _,H,I,rfl,?_⟩
 have e:(PyData.eqv d d' == false)=!PyData.eqv d d':=by cases PyData.eqv d d' <;> rfl
 rw [e] at q
 exact q
theorem eqd {H:Hp}{x y:V}{d:PyData}{b:Bool}{Q:VK}(h1:RD H x d) (h2:RD H y d) (s:SeqAt.shaped d=true) (q:Q (.bl b) H):BB4 b x y H Q:=by
 refine ⟨d,d,h1,h2,s,s,?_⟩
 rw [AC9 s]
 cases b <;> exact q
end
theorem AT0 {X:Cx}{K:Frag}(hK:X.K=K):IxR X (AY0 K):=by
 subst hK
 exact cV
theorem yN {X:Cx}{K:Frag}(hK:X.K=K):IxR X (AY1 K):=by
 subst hK
 exact bO
theorem AT1 {X:Cx}{K:Frag}{e:Expr}{f:Str}{ta:TE}{pos:Pos}(hK:X.K=K) (he:PE X e ta) (hb:attributeBase e f X.env (eval e X.env)=eval e X.env):PE X (.Attribute e f pos) (AX8 K ta f):=by
 subst hK
 exact cG he hb
def BG1:TE:=fun _ _ _=>False
theorem AN3 {σ:L2.St}{H:Hp}{Q:VK}:BG1 σ H Q=False:=rfl
theorem sT {D:Ends}{σ:L2.St}{H:Hp}:AF5 D σ H=False:=rfl
structure CalD (P:Program) (w:World) (K:Frag) (mg:Str→Option Value) (base:Heap) (x:Str) (C:Addr) (ps:List Str) (k:Nat) (dvs:List V) (sp:Sp):Prop where
 ex:∃ f fd ds,FnOk P w K mg base (CXF P w) k f fd ps sp∧Binds K fd ps ds∧Vals dvs ds∧Mk K C f∧mg x=some (.ref C)
section
variable {X:Cx}{x m:Str}{C:Addr}{ps:List Str}{k:Nat}{sp:Sp}{e o:Expr}{es:List Expr}{ta:TE}{t:TA}{p pos apos:Pos}{E:XK}{dvs:List V}
end
structure FunA (K:Frag) (x qual:Str) (st:Stmt) (f:Addr) (fd:FuncData):Prop where
 ex:∃ (oc:Value) (od:Option Addr) (dV kV doc pm:Value) (an:Option Addr) (cdv ct:Value) (osl:Array (Option Value)),
  fd=fnOf x qual (aV st) (aQ st) (aE st) dV kV doc pm an cdv ct∧K.lookup f=some ⟨oc,od,.func fd,osl⟩∧codeIn K cdv qual=true
section
variable {P:Program}{w:World}{K:Frag}{mg:Str→Option Value}{base:Heap}{N:List Str}{f:Addr}
theorem FunA.ok {x qual:Str}{st:Stmt}{fd:FuncData}{ps:List Str}{k:Nat}{sp:Sp}(F:FunA K x qual st f fd) (S:FnScope N ps (aE st)) (len:∀ vs H Q E,sp vs H Q E→vs.length=ps.length)
  (hbody:∀ (cdv:Value) (A:Around) (outer:List Env) (s:Shared) (H:Hp) (vs:List V) (Q:VK) (E:XK),Room k (A.deeper (envOfC qual (aE st) s.heap.objs.size f cdv))→sp vs H Q E →
   ∃ t,PSs (wX CX0 P w K mg base N qual (aE st) f cdv A outer s H E).nox (aQ st) t∧t { nx:=fun _ H'=>Q .non H',rt:=Q } (L2.start N vs) H):FnOk P w K mg base CX0 (k+1) f fd ps sp:=by
 obtain ⟨oc,od,dV,kV,doc,pm,an,cdv,ct,osl,rfl,lk,hcd⟩:=F.ex
 refine AB6 lk hcd S len fun A outer s H vs Q E hr hsp=>?_
 obtain ⟨t,h,q⟩:=hbody cdv A outer s H vs Q E hr hsp
 exact ⟨t,h.nox,q⟩
theorem AN4 {x qual:Str}{st:Stmt}{oc:Value}{od an:Option Addr}{osl:Array (Option Value)}{dV kV doc pm cdv ct:Value}(l:K.lookup f=some ⟨oc,od,.func (fnOf x qual (aV st) (aQ st) (aE st) dV kV doc pm an cdv ct),osl⟩)
  (c:codeIn K cdv qual=true):FunA K x qual st f (fnOf x qual (aV st) (aQ st) (aE st) dV kV doc pm an cdv ct):=⟨⟨oc,od,dV,kV,doc,pm,an,cdv,ct,osl,rfl,l,c⟩⟩
theorem AT2 {fd:FuncData}{ps:List Str}{ds:List Value}(n:Nat) (hn:n+ds.length=ps.length) (h:∀ (s:Shared) (us:List Value),K.In s.heap→us.length=n→BindsTo s fd ⟨us,[]⟩ (ps.zip (us++ds))):Binds K fd ps ds:=fun s us X hl=>h s us X (by
 rw [List.length_append] at hl
 omega)
end
def below (s e t:Int):Int:=(t - s) / 1440 * ((e - s) % 1440)+(if (e - s) % 1440 < (t - s) % 1440 then (e - s) % 1440 else (t - s) % 1440)
theorem jO {H:Hp}:∀ us:List Str,RDs H (us.map V.str) (us.map PyData.str)
 | []=>.nil
 | u::r=>.cons (.str u) (jO r)
theorem pB:∀ {us:List Str},(∀ u∈us,PyData.strOk u=true)→PyData.canLayAll0 (us.map PyData.str)=true∧PyData.depthAll (us.map PyData.str)=0
 | [],_=>⟨by simp [PyData.canLayAll0],by simp [PyData.depthAll]⟩
 | u::r,h=>by
  obtain ⟨a,b⟩:=pB (us:=r) fun v hv=>h v (List.mem_cons_of_mem _ hv)
  exact ⟨by simp [PyData.canLayAll0,PyData.canLay0,h u List.mem_cons_self,a],by simp [PyData.depthAll,PyData.depth,b]⟩
theorem iA {ds:List PyData}{n:Nat}(hn:n≤60) (h:PyData.canLayAll0 ds=true∧PyData.depthAll ds=n):SeqAt.shaped (.list ds)=true∧SeqAt.shaped (.tuple ds)=true:=by
 have h1:=h.1
 have h2:=h.2
 constructor
 ·show (PyData.canLay0 (.list ds) && decide (PyData.depth (.list ds)≤64))=true
  rw [Bool.and_eq_true]
  exact ⟨by simp only [PyData.canLay0]; exact h1,decide_eq_true (by simp only [PyData.depth]; omega)⟩
 ·show (PyData.canLay0 (.tuple ds) && decide (PyData.depth (.tuple ds)≤64))=true
  rw [Bool.and_eq_true]
  exact ⟨by simp only [PyData.canLay0]; exact h1,decide_eq_true (by simp only [PyData.depth]; omega)⟩
def BB5 (K:Frag) (te:TE):TE:=fun σ H Q=>te σ H fun x H1=>∃ a xs,x=.ref a∧SqL K H1 a xs∧∀ p,H1 p=none→Q (.ref p) (L2.upd H1 p (.lst xs.reverse))
theorem yO {K:Frag}{te:TE}{σ:L2.St}{H:Hp}{Q:VK}:BB5 K te σ H Q=te σ H (fun x H1=>∃ a xs,x=.ref a∧SqL K H1 a xs∧∀ p,H1 p=none→Q (.ref p) (L2.upd H1 p (.lst xs.reverse))):=rfl
def gW (l:List Str):List Str:=l.foldl (fun a x=>if x∈a then a else a++[x]) []
theorem jP (l:List Str) (x:Str):gW (l++[x])=if x∈gW l then gW l else gW l++[x]:=by
 unfold gW; rw [List.foldl_append]; rfl
theorem qW {l:List Str}{i:Nat}(h:i < l.length):gW (l.take (i+1))=if l.getD i Str.empty∈gW (l.take i) then gW (l.take i) else gW (l.take i)++[l.getD i Str.empty]:=by
 rw [← jP,List.take_succ,List.getElem?_eq_getElem h]
 simp [List.getD,List.getElem?_eq_getElem h]
theorem pC {p:List Str→Prop}(h0:p []) (h1:∀ l x,p l→p (l++[x])) (l:List Str):p l:=by
 have q:∀ m:List Str,p m.reverse:=fun m=>by
  induction m with
  | nil=>exact h0
  | cons a m ih=>rw [List.reverse_cons]; exact h1 _ _ ih
 have:=q l.reverse
 rwa [List.reverse_reverse] at this
theorem uR (x:Str) (l:List Str):x∈gW l ↔ x∈l:=by
 refine pC (p:=fun l=>x∈gW l ↔ x∈l) (by simp [gW]) (fun l y ih=>?_) l
 ·show x∈gW (l++[y]) ↔ x∈l++[y]
  rw [jP]
  split
  ·rename_i h
   rw [ih]
   constructor
   ·intro z; exact List.mem_append_left _ z
   ·intro z
    rcases List.mem_append.mp z with z | z
    ·exact z
    ·have e:x=y:=by simpa using z
     subst e
     exact ih.mp h
  ·simp [ih]
theorem yP (l:List Str):(gW l).length≤l.length:=by
 refine pC (p:=fun l=>(gW l).length≤l.length) (by simp [gW]) (fun l y ih=>?_) l
 ·show (gW (l++[y])).length≤(l++[y]).length
  rw [jP]
  split <;> simp <;> omega
theorem AD0 (l:List Str):(gW l).length=l.length ↔ l.Nodup:=by
 refine pC (p:=fun l=>(gW l).length=l.length ↔ l.Nodup) (by simp [gW]) (fun l y ih=>?_) l
 ·show (gW (l++[y])).length=(l++[y]).length ↔ (l++[y]).Nodup
  have h:=yP l
  rw [jP]
  by_cases m:y∈gW l
  ·rw [if_pos m,List.length_append,List.length_singleton]
   constructor
   ·intro z; omega
   ·intro z
    have:=(uR y l).mp m
    rw [List.nodup_append] at z
    exact absurd rfl (z.2.2 y this y (List.mem_singleton.mpr rfl))
  ·rw [if_neg m,List.length_append,List.length_append,List.length_singleton]
   have n:y ∉ l:=fun z=>m ((uR y l).mpr z)
   constructor
   ·intro z
    rw [List.nodup_append]
    refine ⟨ih.mp (by omega),by simp,fun a ha b hb e=>?_⟩
    have:b=y:=by simpa using hb
    subst this; subst e; exact n ha
   ·intro z
    rw [List.nodup_append] at z
    have:=ih.mpr z.1
    omega
abbrev AH4 (l:List Str):Str→Bool:=fun k=>decide (k∈gW l)
section
variable {prog:Program}{w:World}{A:Around}{R:Result→Shared→Prop}{I:Addr}{fp wr:List Addr}{G:Array GenState→Array GenState→Prop}{P:Nat→Value→Prop}{St:Nat→Shared→Prop}
theorem AD1 {l:List Str}(W:WalksS prog w A.in1 I fp wr G l.length P St) (S:Addr) (hS0:S ∉ fp) (hv:∀ i v,P i v→∃ t,v=.str (l.getD i Str.empty) t) (hb:l.length+1 < scanBound):∀ (k i:Nat) (s:Shared) (q:∀ s',Moved (S::wr) G s s'→s'.heap.SetOf (strKind prog w) S (AH4 l) (gW l).length→R (.ok (.ret .none)) s'),
   l.length - i=k→i≤l.length→St i s→s.heap.SetOf (strKind prog w) S (AH4 (l.take i)) (gW (l.take i)).length →
   codeAny (model prog w) A (.builtin "set.update.loop" ⟨[.ref S,.ref I],[]⟩) R s:=by
 have nw:S ∉ wr:=fun h=>hS0 (W.sub _ h)
 have up:∀ b∈wr,b∈S::wr:=fun b hb=>List.mem_cons_of_mem _ hb
 have move:∀ {s s':Shared}{T:Str→Bool}{n:Nat},Moved wr G s s'→s.heap.SetOf (strKind prog w) S T n→s'.heap.SetOf (strKind prog w) S T n:=fun hm z=>by
  obtain ⟨o,es,ep,t,ho,z⟩:=z
  exact ⟨o,es,ep,t,hm.heap S _ nw ho,z⟩
 intro k
 induction k with
 | zero =>
  intro i s q hk hi hst z
  have e:i=l.length:=by omega
  subst e
  rw [List.take_length] at z
  refine codeAny_builtin PyProof.Rows.F.entry_set_update_loop ?_
  rw [Around.under_plainId PyProof.Rows.F.plain_set_update_loop _]; show wpAny _ A.in1 (pyNext (.ref I) >>= _) _ _ s
  refine wpAny_bind (W.done s _ _ hst fun s' hm=>?_)
  show wpAny _ A.in1 (ret Value.none) _ _ s'; exact wpAny_pure (q s' (hm.mono up) (move hm z))
 | succ k ih =>
  intro i s q hk hi hst z
  have lt:i < l.length:=by omega
  refine codeAny_builtin PyProof.Rows.F.entry_set_update_loop ?_
  rw [Around.under_plainId PyProof.Rows.F.plain_set_update_loop _]; show wpAny _ A.in1 (pyNext (.ref I) >>= _) _ _ s
  refine wpAny_bind (W.item i s _ _ lt hst fun v s' hP hst' hm=>?_)
  obtain ⟨t,rfl⟩:=hv i v hP
  have z':=move hm z
  show wpAny _ A.in1 (holding [Value.str (l.getD i Str.empty) t] (setAdd S (.str (l.getD i Str.empty) t)) >>= _) _ _ s'
  refine wpAny_bind (wpAny_holding ?_); unfold setAdd
  refine wpAny_holding (wpAny_bind ((strKind prog w).pyHash (k:=l.getD i Str.empty) (strKind_is _ _ _ _) ?_))
  have room:(gW (l.take i)).length+1 < scanBound:=by
   have h1:=yP (l.take i)
   have h2:(l.take i).length≤l.length:=by rw [List.length_take]; omega
   omega
  refine wpAny_setAddHashed_of (knd:=strKind prog w) (s:={ s' with toks:=s'.toks+1 }) (strKind_is _ _ _ _) rfl z' room fun h' sb z2=>?_
  have z3:h'.SetOf (strKind prog w) S (AH4 (l.take (i+1))) (gW (l.take (i+1))).length:=by
   refine SetOf_congr z2 (fun k'=>?_) ?_
   ·show (decide (k'∈gW (l.take i)) || decide (k'=l.getD i Str.empty))=decide (k'∈gW (l.take (i+1)))
    rw [qW lt]
    generalize l.getD i Str.empty=y
    split
    ·rename_i m
     by_cases e:k'=y
     ·subst e; simp [m]
     ·simp [e]
    ·by_cases e:k'=y
     ·subst e; simp
     ·simp [e]
   ·rw [qW lt]
    generalize l.getD i Str.empty=y
    by_cases m:y∈gW (l.take i)
    ·rw [if_pos m,if_pos (by simpa using m)]
    ·rw [if_neg m,if_neg (by simpa using m),List.length_append]; rfl
  refine wpAny_pure ⟨plainId_quiet PyProof.Rows.F.plain_set_update_loop _,ih (i+1) _ (fun s'' hm'' z4=>?_) (by omega) lt (W.frame _ s' _ _ hst' (Nat.le_succ _) fun b hb o e=>?_) z3⟩
  ·refine q s'' (Moved.trans W.gtrans ((hm.mono up).then_heap (Nat.le_succ _) fun b o hb e=>?_) hm'') z4
   rw [sb.2 b (fun h:b=S=>hb (by rw [h]; exact List.mem_cons_self))]; exact e
  ·rw [sb.2 b (fun h:b=S=>hS0 (by rw [← h]; exact hb))]; exact e
end
abbrev eK (led:Bool):Obj:={ cls:=.type "set",dict:=none,data:=.set #[] 0 (.fresh 0 0 led) }
theorem BG2 {its:List Value}{l:List Str}(h:Vals (l.map V.str) its) (i:Nat) (v:Value) (e:its[i]?=some v):∃ t,v=.str (l.getD i Str.empty) t:=by
 induction l generalizing its i with
 | nil=>cases h; simp at e
 | cons x l ih =>
  cases h with
  | cons r1 r2 =>
   cases i with
   | zero =>
    obtain ⟨t,rfl⟩:=r1
    have:v=.str x t:=by simpa using e.symm
    exact ⟨t,by rw [this]; rfl⟩
   | succ i=>exact ih r2 i (by simpa using e)
section
variable {prog:Program}{w:World}{A:Around}{E:Value→Shared→Prop}{s:Shared}
set_option maxHeartbeats 4000000 in
theorem AD2 {a:Addr}{its:List Value}{l:List Str}{Q:Value→Shared→Prop}(hh:A.handled=none) (hl:s.heap.IsList a its.toArray) (hv:Vals (l.map V.str) its) (hb:l.length+1 < scanBound)
  (q:∀ (h':Heap) (tk:Nat),h'.SetOf (strKind prog w) s.heap.objs.size (AH4 l) (gW l).length→(∀ b o,s.heap.get? b=some o→h'.get? b=some o)→Q (.ref s.heap.objs.size) { s with heap:=h',toks:=tk }) :
  wpAny (model prog w) A (call (.type "set") [.ref a]) Q E s:=by
 have hn:its.toArray.size=l.length:=by have:=hv.length; rw [List.length_map] at this; simpa using this.symm
 obtain ⟨c,tl,hmro⟩:=PySem.F.called_set.mro
 have hmade:=PySem.F.called_set.made; have hsub:=PySem.F.called_set.sub
 refine wpAny_call (codeAny_of_tree ?_); show wpAny _ _ (callAny (.type "set") _) _ _ _
 refine wpAny_pure ⟨Code.quiet_builtin _ (by decide +kernel),codeAny_builtin PySem.F.entry_type_call ?_⟩
 rw [Around.under_plain (weight_type_call_type "set" [.ref a] []) rfl]
 have h1:=PySem.F.called_set.notType; have h2:=PySem.F.called_set.canCreate
 have hct:=PySem.F.typeCall_set_1 (.ref a)
 repeat (any_goals (first | assumption | wp_step))
 refine codeAny_mono (PySem.code_set_new_1 (.ref a) (E:=E) (Q₁:=fun obj s₁=>∃ led:Bool,obj=.ref s.heap.objs.size∧s₁={ s with heap:=s.heap.push (eK led) }) fun led=>⟨led,rfl,rfl⟩) fun r s₁ hr=>?_
 match r,hr with
 | .error e,hr=>exact hr
 | .ok (.ret obj),hr =>
  obtain ⟨led,rfl,rfl⟩:=hr
  have hS:(s.heap.push (eK led)).get? s.heap.objs.size=some (eK led):=Heap.get?_push_size _ rfl
  have hT:Shared.TypeIs { s with heap:=s.heap.push (eK led) } (.ref s.heap.objs.size) "set":=⟨_,hS,rfl⟩
  have hli:=PySem.F.called_set.init.lookup; have hbi:=PySem.F.called_set.init.bind (.ref s.heap.objs.size)
  repeat (any_goals (first | assumption | wp_step))
  refine codeAny_mono (codeAny_call_builtin (R:=wants (fun r s₂=>r=.none∧∃ h' tk,s₂={ s with heap:=h',toks:=tk }∧h'.SetOf (strKind prog w) s.heap.objs.size (AH4 l) (gW l).length ∧
    (∀ b o,s.heap.get? b=some o→h'.get? b=some o)) E) PySem.F.called_set.init.plain PySem.F.entry_set_init (PySem.check_set_init_1 hT ?_)) fun r₂ s₂ hr₂=>?_
  ·obtain ⟨⟨oc,od,odt,osl⟩,hol,hcl,nl,hdl⟩:=hl
   simp only at hcl hdl; subst hcl; subst hdl
   have hol':(s.heap.push (eK led)).get? a=some { cls:=.type "list",dict:=od,data:=.seq its.toArray nl,slots:=osl }:=Heap.get?_push_of_some _ hol
   have n1:=PySem.F.sub_list_set; have n2:=PySem.F.sub_list_frozenset
   have n3:(Value.type "list" == Value.type "dict")=false:=by decide
   have hl1:(s.heap.push (eK led)).IsList a its.toArray:=⟨_,hol',rfl,nl,rfl⟩
   unfold Builtin.«set.__init__» noKeywords Builtin.Frozenset.updateFrom
   generalize hPI:pyIter=PI
   wp_walk
   subst hPI
   refine wpAny_pyIter_list hl1 (wpAny_bind (wpAny_runValue ?_))
   have lt:a < s.heap.objs.size:=Heap.lt_size hol
   have hh3:A.in1.in1.in1.handled=none:=by simp [hh]
   have ne1:a≠(s.heap.push (eK led)).objs.size:=by rw [Heap.size_push]; exact Nat.ne_of_lt (Nat.lt_succ_of_lt lt)
   have ne2:s.heap.objs.size ∉ [(s.heap.push (eK led)).objs.size,a]:=by
    rw [Heap.size_push]; intro z
    rcases List.mem_cons.mp z with z | z
    ·exact absurd z (Nat.ne_of_lt (Nat.lt_succ_self _))
    ·exact absurd (List.mem_singleton.mp z) (Nat.ne_of_gt lt)
   have W:=(Walks.list (prog:=prog) (w:=w) hh3 _ a ne1 its.toArray).toS
   rw [hn] at W
   refine AD1 W s.heap.objs.size ne2 (fun i v hv'=>BG2 hv i v (by simpa using hv')) hb (l.length - 0) 0 _ (fun s' hm z=>?_) (by omega) (Nat.zero_le _) ⟨⟨_,Heap.get?_push_size _ rfl,rfl,rfl⟩,hl1.push _⟩ ?_
   ·obtain ⟨h',g',d',tk',os'⟩:=s'
    have eg:g'=s.gens:=hm.gens
    have ed:d'=s.drawn:=hm.drawn
    have eo:os'=s.os:=hm.os
    subst eg; subst ed; subst eo
    show wpAny _ _ _ _ _ _
    refine wpAny_pure ?_
    show wpAny _ _ (ret Value.none) _ _ _
    refine wpAny_pure ⟨rfl,h',tk',rfl,z,fun b o e=>?_⟩
    have bl:=Heap.lt_size e
    refine hm.heap b o (fun y=>?_) (Heap.get?_push_of_some _ (Heap.get?_push_of_some _ e))
    rcases List.mem_cons.mp y with y | y
    ·exact absurd y (Nat.ne_of_lt bl)
    ·have:=List.mem_singleton.mp y; rw [Heap.size_push] at this; exact absurd this (Nat.ne_of_lt (Nat.lt_succ_of_lt bl))
   ·have hg:((s.heap.push (eK led)).push { cls:=.type "list_iterator",data:=.fields #[.ref a,.int 0 0] }).get? s.heap.objs.size=some (eK led):=Heap.get?_push_of_some _ hS
    exact SetOf_congr ((setObjOf_fresh (knd:=strKind prog w) led).setOf hg (by unfold scanBound; omega)) (fun k=>by simp [AH4,gW]) rfl
  ·match r₂,hr₂ with
   | .error e,hr₂=>exact hr₂
   | .ok (.ret r),hr₂ =>
    obtain ⟨rfl,h',tk,rfl,z,kp⟩:=hr₂
    repeat (any_goals (first | assumption | wp_step))
    exact q _ _ z kp
end
def AD3 (P:Program) (w:World) (a:Addr) (l:List Str):HO:=.ext fun h=>h.SetOf (strKind P w) a (AH4 l) (gW l).length
theorem AN5 {P:Program}{w:World}{H:Hp}{h:Heap}{a:Addr}{l:List Str}(z:h.SetOf (strKind P w) a (AH4 l) (gW l).length):ObjOk P w H h a (AD3 P w a l):=by
 refine ⟨z,?_,fun h1 h2 z1 k=>?_⟩
 ·obtain ⟨o,_,_,_,e,_⟩:=z; exact ⟨o,e⟩
 ·obtain ⟨o,es,ep,t,e,z1⟩:=z1; exact ⟨o,es,ep,t,k o e,z1⟩
theorem yQ {X:Cx}(hc:X.calm=true):CallR X (.type "set") (fun xs H Q=>∃ (a:Addr) (l:List Str),xs=[.ref a]∧SqL X.K H a (l.map V.str)∧l.length≤1000∧∀ p,H p=none→Q (.ref p) (upd H p (AD3 X.prog X.w p l))):=by
 intro pins s σ H xs us Q I r h
 obtain ⟨a,l,rfl,hS,hz,q⟩:=h
 obtain ⟨u,rfl,ru⟩:=nC r
 cases ru
 obtain ⟨its,rv,pl,_⟩:=I.list hS
 refine AD2 (I.ok.hd hc) pl.isList rv (by unfold scanBound; omega) fun h' tk z kp=>?_
 exact ⟨.ref s.heap.objs.size,_,I.laid (t':=tk) kp (Nat.le_refl _) (AN5 z),rfl,q _ (I.hok.fresh (Nat.le_refl _))⟩
theorem yR {X:Cx}:CallR X (.builtin "len") (fun xs H Q=>∃ (a:Addr) (l:List Str),xs=[.ref a]∧H a=some (AD3 X.prog X.w a l)∧Q (.int (gW l).length) H):=by
 intro pins s σ H xs us Q I r h
 obtain ⟨a,l,rfl,e,q⟩:=h
 obtain ⟨u,rfl,ru⟩:=nC r
 cases ru
 obtain ⟨⟨o,es,ep,t,ho,hex,hd,_,_,hb,hf,hn⟩,_⟩:=I.hok a _ e
 rw [← hn] at q
 exact call_len_set ho hex hd hf (by unfold scanBound at hb; omega) ⟨.int es.size,H,I.tok _,⟨_,rfl⟩,q⟩
theorem TyOf.same {K:Frag}{H H':Hp}{x:V}{t:Value}(h:TyOf K H x t) (s:Same H H'):TyOf K H' x t:=by
 cases h with
 | non=>exact .non
 | bl x=>exact .bl x
 | int i=>exact .int i
 | str x=>exact .str x
 | flt x=>exact .flt x
 | lst e=>exact .lst (s _ _ e)
 | frz e=>exact .frz (s _ _ e)
 | tup e=>exact .tup (s _ _ e)
 | dK e=>exact .dK (s _ _ e)
 | dT e=>exact .dT (s _ _ e)
 | ins e cl ha hn ht hm=>exact .ins (s _ _ e) cl ha hn ht hm
def BB6 (K:Frag) (T:String):List V→Hp→VK→Prop:=fun xs H Q=>∃ (x:V) (t:Value) (b:Bool),xs=[x,.ty T]∧TyOf K H x t∧kitOne K t (.type T)=some b∧Q (.bl b) H
theorem gL {X:Cx}{K:Frag}{T:String}(hK:X.K=K):CallR X (.builtin "isinstance") (BB6 K T):=by
 subst hK
 intro pins s σ H xs us Q I r h
 obtain ⟨x,t,b,rfl,ty,e,q⟩:=h
 obtain ⟨u,w',rfl,rx,rc⟩:=wS r
 cases (show w'=Value.type T from rc)
 exact mF I rx ty e fun tk=>⟨.bl b,H,I.tok _,rfl,q⟩
section
variable {X:Cx}
def BG3 (c:TT) (t u:XK→TS):XK→TS:=fun E D σ H=>c σ H fun b H1=>if b=true then t E D σ H1 else u E D σ H1
theorem AN6 {c:TT}{t u:XK→TS}{E:XK}{D:Ends}{σ:L2.St}{H:Hp}:BG3 c t u E D σ H=c σ H (fun b H1=>if b=true then t E D σ H1 else u E D σ H1):=rfl
end
section
variable {X:Cx}{CX:CXT}{k:Nat}{f C:Addr}{fd:FuncData}{ps ks:List Str}{sp:Sp}{E:XK}{x:Str}{p pos:Pos}{e:Expr}{es:List Expr}{kws:List Keyword}{t tk:TA}
 {g:List Value→List Value→List Value}{gV:List V→List V→List V}
def AT3 (C:Addr) (sp:Sp) (gV:List V→List V→List V) (E:XK) (t tk:TA):TE:=fun σ H Q=>t σ H fun vs H1=>tk σ H1 fun zs H2=>∀ x dx,H2 x=none→H2 dx=none→dx≠x →
 sp (gV (.ref x::vs) zs) (L2.upd (L2.upd H2 dx (.own x)) x (.ins C dx [])) (fun v H3=>v=.non∧Q (.ref x) H3) E
theorem sU {σ:L2.St}{H:Hp}{Q:VK}:AT3 C sp gV E t tk σ H Q=t σ H (fun vs H1=>tk σ H1 fun zs H2=>∀ x dx,H2 x=none→H2 dx=none→dx≠x →
 sp (gV (.ref x::vs) zs) (L2.upd (L2.upd H2 dx (.own x)) x (.ins C dx [])) (fun v H3=>v=.non∧Q (.ref x) H3) E):=rfl
end
structure CalK (P:Program) (w:World) (K:Frag) (mg:Str→Option Value) (base:Heap) (x:Str) (C:Addr) (ps ks:List Str) (k:Nat) (gV:List V→List V→List V) (sp:Sp):Prop where
 ex:∃ f fd g,FnOk P w K mg base (CXF P w) k f fd ps sp∧KBinds K fd ps ks g gV∧Mk K C f∧mg x=some (.ref C)
section
variable {X:Cx}{x:Str}{C:Addr}{ps ks:List Str}{k:Nat}{sp:Sp}{e:Expr}{es:List Expr}{t tk:TA}{p pos:Pos}{E:XK}{kws:List Keyword}{gV:List V→List V→List V}
def BB7 (K:Frag):List V→Hp→VK→Prop:=fun xs H Q=>∃ (x:Addr) (c:V) (cv:Value) (b:Bool) (C:Addr),xs=[.ref x,c]∧RelV c cv∧ExcK K C∧XAt H x C∧kitOne K (.ref C) cv=some b∧Q (.bl b) H
theorem yS {K:Frag}(hK:X.K=K):CallR X (.builtin "isinstance") (BB7 K):=by
 subst hK
 intro pins s σ H xs us Q I r h
 obtain ⟨x,c,cv,b,C,e1,e2,F,e3,e4,q⟩:=h
 exact xW F pins s σ H xs us Q I r ⟨x,c,cv,b,e1,e2,e3,e4,q⟩
def AT4 (K:Frag):List V→Hp→VK→Prop:=fun xs H Q=>∃ (x tp:Addr) (cs:List Addr) (b:Bool) (C:Addr),xs=[.ref x,.ref tp]∧ExcK K C∧XAt H x C∧H tp=some (.tup (cs.map V.ref))∧kitAny K (.ref C) (cs.map Value.ref)=some b∧Q (.bl b) H
theorem AD4 {K:Frag}(hK:X.K=K):CallR X (.builtin "isinstance") (AT4 K):=by
 subst hK
 intro pins s σ H xs us Q I r h
 obtain ⟨x,tp,cs,b,C,e1,F,e2,e3,e4,q⟩:=h
 exact xX F pins s σ H xs us Q I r ⟨x,tp,cs,b,e1,e2,e3,e4,q⟩
end
section
variable {P:Program}{w:World}{K:Frag}{mg:Str→Option Value}{base:Heap}{f:Addr}{fd:FuncData}{ps:List Str}{x:Str}{CX:CXT}{k:Nat}
theorem FnOk.nev {sp:Sp}(h:∀ vs H Q E,¬ sp vs H Q E):FnOk P w K mg base CX k f fd ps sp:=⟨fun _ _ _ _ z=>(h _ _ _ _ z).elim,fun _ _ _ _ _ _ _ _ _ _ _ _ _ z=>(h _ _ _ _ z).elim⟩
theorem AH5 {spf:Nat→Sp}{n0:Nat}(h0:∀ vs H Q E,¬ spf 0 vs H Q E) (b:Binds K fd ps []) (kp:keepIn K (.ref f)=true) (hm:mg x=some (.ref f))
  (step:∀ d n,n0≤n→CalX P w K mg base x ps n (spf d)→FnOk P w K mg base (CXF P w) (n+1) f fd ps (spf (d+1))):∀ d,FnOk P w K mg base (CXF P w) (n0+d) f fd ps (spf d)
 | 0=>FnOk.nev h0
 | d+1=>step d (n0+d) (Nat.le_add_right _ _) ⟨f,fd,AH5 h0 b kp hm step d,b,kp,hm⟩
theorem mL {spf:Nat→Sp}{n0:Nat}(h0:∀ vs H Q E,¬ spf 0 vs H Q E) (b:Binds K fd ps []) (kp:keepIn K (.ref f)=true) (hm:mg x=some (.ref f))
  (step:∀ d n,n0≤n→CalX P w K mg base x ps n (spf d)→FnOk P w K mg base (CXF P w) (n+1) f fd ps (spf (d+1))) (d:Nat) {n:Nat}(hn:n0+d≤n):CalX P w K mg base x ps n (spf d) :=
 ⟨f,fd,FnOk.lift (AH5 h0 b kp hm step d) hn,b,kp,hm⟩
end
section
variable {K:Frag}{σ:L2.St}{H:Hp}{Q:VK}{g:TG}{tt:TT}{te ta:TE}{ix:List (Option Nat)}{t:TS}{D:Ends}
theorem AD5 {K:Frag}{a:Addr}{xs:List V}{g:TG}{tt:TT}{te:TE}{σ:L2.St}{H:Hp}{Q:VK}(Pv:Nat→List V→L2.St→Hp→Prop) (hz:xs.length≤sizeLine) (h0:Pv 0 [] σ H) (hl:∀ i acc σ H,i≤xs.length→Pv i acc σ H→SqT K H a xs)
  (hs:∀ i x acc σ H,xs[i]?=some x→Pv i acc σ H→g x σ H fun σ2 H2=>tt σ2 H2 fun b H3=>if b=true then te σ2 H3 fun y H4=>Pv (i+1) (acc++[y]) σ2 H4 else Pv (i+1) acc σ2 H3)
  (hacc:∀ i acc σ H,Pv i acc σ H→acc.length≤i) (hd:∀ acc σ H,Pv xs.length acc σ H→∀ D,H D=none→Q (.ref D) (L2.upd H D (.lst acc))) :
  ∃ W:Nat→Nat→List V→L2.St→Hp→Prop,(∃ m,W 0 m [] σ H)∧∀ i m acc σ H,W i m acc σ H →
   ((Itt K a).stop i H∧∀ D,H D=none→Q (.ref D) (L2.upd H D (.lst acc))) ∨
   ((Itt K a).go i H∧acc.length < sizeLine∧∃ N:List V→L2.St→Hp→Prop,(∀ acc' σ' H',N acc' σ' H'→∃ m',m' < m∧W (i+1) m' acc' σ' H') ∧
    ∀ x H',(Itt K a).yld i H x H'→g x σ H' fun σ2 H2=>tt σ2 H2 fun b H3=>if b=true then te σ2 H3 fun y H4=>N (acc++[y]) σ2 H4 else N acc σ2 H3):=by
 refine ⟨fun i m acc σ H=>m=xs.length - i∧i≤xs.length∧Pv i acc σ H,⟨xs.length,by simp,Nat.zero_le _,h0⟩,?_⟩
 rintro i m acc σ H ⟨rfl,hi,p⟩
 have q:=hl i acc σ H hi p
 have ha:=hacc i acc σ H p
 by_cases hlt:i < xs.length
 ·refine .inr ⟨⟨xs,xs[i],q,by simp [hlt]⟩,by omega,Pv (i+1),fun acc' σ' H' p'=>⟨xs.length - (i+1),by omega,rfl,hlt,p'⟩,fun x H' y=>?_⟩
  obtain ⟨e,y⟩:=y
  subst e
  exact hs i x acc σ _ (y xs q) p
 ·have e:i=xs.length:=by omega
  subst e
  exact .inl ⟨⟨xs,q,Nat.le_refl _⟩,hd acc σ H p⟩
def CompT (K:Frag) (a:Addr) (g:TG) (tt:TT) (te:TE) (Q:VK) (σ:L2.St) (H:Hp):Prop:=∃ W:Nat→Nat→List V→L2.St→Hp→Prop,(∃ m,W 0 m [] σ H)∧∀ i m acc σ H,W i m acc σ H →
 ((Itt K a).stop i H∧∀ D,H D=none→Q (.ref D) (L2.upd H D (.lst acc))) ∨
 ((Itt K a).go i H∧acc.length < sizeLine∧∃ N:List V→L2.St→Hp→Prop,(∀ acc' σ' H',N acc' σ' H'→∃ m',m' < m∧W (i+1) m' acc' σ' H') ∧
  ∀ x H',(Itt K a).yld i H x H'→g x σ H' fun σ2 H2=>tt σ2 H2 fun b H3=>if b=true then te σ2 H3 fun y H4=>N (acc++[y]) σ2 H4 else N acc σ2 H3)
theorem sV:nE (AX3 K ta) ix g tt te σ H Q=ta σ H (fun x H1=>∃ a,x=.ref a∧(∃ xs,SqT K H1 a xs)∧CompT K a g tt te Q (sH ix σ) H1):=rfl
theorem CompT.by {a:Addr}{xs:List V}(Pv:Nat→List V→L2.St→Hp→Prop) (hz:xs.length≤sizeLine) (h0:Pv 0 [] σ H) (hl:∀ i acc σ H,i≤xs.length→Pv i acc σ H→SqT K H a xs)
    (hs:∀ i x acc σ H,xs[i]?=some x→Pv i acc σ H→g x σ H fun σ2 H2=>tt σ2 H2 fun b H3=>if b=true then te σ2 H3 fun y H4=>Pv (i+1) (acc++[y]) σ2 H4 else Pv (i+1) acc σ2 H3)
    (hacc:∀ i acc σ H,Pv i acc σ H→acc.length≤i) (hd:∀ acc σ H,Pv xs.length acc σ H→∀ D,H D=none→Q (.ref D) (L2.upd H D (.lst acc))):CompT K a g tt te Q σ H:=AD5 Pv hz h0 hl hs hacc hd
def ForT (K:Frag) (a:Addr) (g:TG) (tb:TS) (D:Ends) (σ:L2.St) (H:Hp):Prop:=∃ W:Nat→Nat→L2.St→Hp→Prop,(∃ m,W 0 m σ H)∧∀ i m σ H,W i m σ H →
   ((Itt K a).stop i H∧D.nx σ H)∨((Itt K a).go i H∧∃ N:L2.St→Hp→Prop,(∀ σ' H',N σ' H'→∃ m',m' < m∧W (i+1) m' σ' H')∧∀ x H',(Itt K a).yld i H x H'→g x σ H' fun σ2 H2=>tb { D with nx:=N,ct:=N,bk:=D.nx } σ2 H2)
theorem yT:AP4 (AX3 K ta) g t D σ H=ta σ H (fun x H1=>∃ a,x=.ref a∧(∃ xs,SqT K H1 a xs)∧ForT K a g t D σ H1):=rfl
theorem ForT.by {a:Addr}{xs:List V}(Pv:Nat→L2.St→Hp→Prop) (h0:Pv 0 σ H) (hl:∀ i σ H,i≤xs.length→Pv i σ H→SqT K H a xs)
    (hs:∀ i x σ H,xs[i]?=some x→Pv i σ H→g x σ H fun σ2 H2=>t { D with nx:=Pv (i+1),ct:=Pv (i+1),bk:=D.nx } σ2 H2) (hd:∀ σ H,Pv xs.length σ H→D.nx σ H):ForT K a g t D σ H:=AI9 Pv h0 hl hs hd
end
inductive All2 {α β:Type}(R:α→β→Prop):List α→List β→Prop
 | nil:All2 R [] []
 | cons {a:α}{b:β}{as:List α}{bs:List β}(h:R a b) (r:All2 R as bs):All2 R (a::as) (b::bs)
section
variable {α β:Type}{R S:α→β→Prop}{as:List α}{bs:List β}
theorem All2.len (h:All2 R as bs):as.length=bs.length:=by
 induction h with
 | nil=>rfl
 | cons _ _ ih=>rw [List.length_cons,List.length_cons,ih]
theorem All2.imp (h:All2 R as bs) (k:∀ a b,a∈as→R a b→S a b):All2 S as bs:=by
 induction h with
 | nil=>exact .nil
 | cons h _ ih=>exact .cons (k _ _ List.mem_cons_self h) (ih fun a b m=>k a b (List.mem_cons_of_mem _ m))
theorem All2.snoc {a:α}{b:β}(h:All2 R as bs) (k:R a b):All2 R (as++[a]) (bs++[b]):=by
 induction h with
 | nil=>exact .cons k .nil
 | cons h _ ih=>exact .cons h ih
theorem All2.get (h:All2 R as bs):∀ {i:Nat}{b:β},bs[i]?=some b→∃ a,as[i]?=some a∧R a b:=by
 induction h with
 | nil=>intro i b e; simp at e
 | cons h _ ih =>
  intro i b e
  cases i with
  | zero=>cases e; exact ⟨_,rfl,h⟩
  | succ i=>exact ih e
end
mutual
inductive Tr where
 | any
 | kind (us:List Str)
 | place (us:List Str)
 | weight (n:Int)
 | not (t:Tr)
 | both (ts:Trs)
 | either (ts:Trs)
inductive Trs where
 | nil
 | cons (t:Tr) (ts:Trs)
end
def Trs.ofL:List Tr→Trs
 | []=>.nil
 | t::ts=>.cons t (Trs.ofL ts)
mutual
def Tr.ev (k p:Str) (w:Int):Tr→Bool
 | .any=>true
 | .kind us=>decide (k∈us)
 | .place us=>decide (p∈us)
 | .weight n=>decide (n≤w)
 | .not t=>!Tr.ev k p w t
 | .both ts=>(Trs.ev k p w ts).all id
 | .either ts=>(Trs.ev k p w ts).any id
def Trs.ev (k p:Str) (w:Int):Trs→List Bool
 | .nil=>[]
 | .cons t ts=>Tr.ev k p w t::Trs.ev k p w ts
end
mutual
def Tr.dp:Tr→Nat
 | .any=>0
 | .kind _=>0
 | .place _=>0
 | .weight _=>0
 | .not t=>Tr.dp t+1
 | .both ts=>Trs.dp ts+1
 | .either ts=>Trs.dp ts+1
def Trs.dp:Trs→Nat
 | .nil=>0
 | .cons t ts=>max (Tr.dp t) (Trs.dp ts)
end
mutual
def Tr.cnt:Tr→Nat
 | .any=>1
 | .kind us=>us.length
 | .place us=>us.length
 | .weight _=>1
 | .not t=>Tr.cnt t
 | .both ts=>Trs.cnt ts
 | .either ts=>Trs.cnt ts
def Trs.cnt:Trs→Nat
 | .nil=>0
 | .cons t ts=>Tr.cnt t+Trs.cnt ts
end
def AW1 (us:List Str):Prop:=us≠[]∧us.length≤6∧(∀ u∈us,aZ u)∧us.Nodup
def Trs.toL:Trs→List Tr
 | .nil=>[]
 | .cons t ts=>t::ts.toL
mutual
def Tr.ok:Tr→Prop
 | .any=>True
 | .kind us=>AW1 us
 | .place us=>AW1 us
 | .weight n=>0≤n∧n < 1000000
 | .not t=>Tr.ok t
 | .both ts=>2≤ts.toL.length∧ts.toL.length≤6∧Trs.ok ts
 | .either ts=>2≤ts.toL.length∧ts.toL.length≤6∧Trs.ok ts
def Trs.ok:Trs→Prop
 | .nil=>True
 | .cons t ts=>Tr.ok t∧Trs.ok ts
end
theorem bU:∀ ts:List Tr,(Trs.ofL ts).toL=ts
 | []=>rfl
 | t::ts=>by rw [Trs.ofL,Trs.toL,bU ts]
theorem jQ:∀ {ts:Trs}{t:Tr},t∈ts.toL→t.dp≤ts.dp
 | .nil,t,h=>by cases h
 | .cons s ts,t,h=>by
  rw [Trs.toL] at h
  rw [Trs.dp]
  rcases List.mem_cons.mp h with rfl | h
  ·exact Nat.le_max_left _ _
  ·exact Nat.le_trans (jQ h) (Nat.le_max_right _ _)
theorem jR {n:Nat}:∀ {ts:Trs},(∀ t∈ts.toL,t.dp≤n)→ts.dp≤n
 | .nil,_=>Nat.zero_le _
 | .cons s ts,h=>by
  rw [Trs.toL] at h
  rw [Trs.dp]
  exact Nat.max_le.mpr ⟨h s List.mem_cons_self,jR fun t m=>h t (List.mem_cons_of_mem _ m)⟩
theorem trs_ok:∀ {ts:Trs},ts.ok ↔ ∀ t∈ts.toL,t.ok
 | .nil=>⟨fun _ t h=>(by cases h),fun _=>trivial⟩
 | .cons s ts=>by
  rw [Trs.toL,Trs.ok,trs_ok]
  exact ⟨fun h t m=>by
   rcases List.mem_cons.mp m with rfl | m
   ·exact h.1
   ·exact h.2 t m,fun h=>⟨h s List.mem_cons_self,fun t m=>h t (List.mem_cons_of_mem _ m)⟩⟩
theorem pD {n:Nat}:∀ {ts:Trs},(∀ t∈ts.toL,t.cnt≤n)→ts.cnt≤n * ts.toL.length
 | .nil,_=>Nat.zero_le _
 | .cons s ts,h=>by
  rw [Trs.toL] at h
  rw [Trs.toL,Trs.cnt,List.length_cons,Nat.mul_succ]
  have h1:=h s List.mem_cons_self
  have h2:=pD (ts:=ts) fun t m=>h t (List.mem_cons_of_mem _ m)
  omega
def Tr.tag:Tr→Nat
 | .any=>0
 | .kind _=>1
 | .place _=>2
 | .weight _=>3
 | .not _=>4
 | .both _=>5
 | .either _=>6
mutual
def Tr.At (H:Hp):Tr→V→Prop
 | .any,v=>∃ p,v=.ref p∧H p=some (.tup [.str "any"])
 | .kind us,v=>∃ p l,v=.ref p∧H p=some (.tup [.str "kind",.ref l])∧H l=some (.tup (us.map V.str))
 | .place us,v=>∃ p l,v=.ref p∧H p=some (.tup [.str "place",.ref l])∧H l=some (.tup (us.map V.str))
 | .weight n,v=>∃ p,v=.ref p∧H p=some (.tup [.str "weight",.int n])
 | .not t,v=>∃ p y,v=.ref p∧H p=some (.tup [.str "not",y])∧Tr.At H t y
 | .both ts,v=>∃ p l xs,v=.ref p∧H p=some (.tup [.str "both",.ref l])∧H l=some (.tup xs)∧Trs.At H ts xs
 | .either ts,v=>∃ p l xs,v=.ref p∧H p=some (.tup [.str "either",.ref l])∧H l=some (.tup xs)∧Trs.At H ts xs
def Trs.At (H:Hp):Trs→List V→Prop
 | .nil,xs=>xs=[]
 | .cons t ts,xs=>∃ y ys,xs=y::ys∧Tr.At H t y∧Trs.At H ts ys
end
theorem trs_at {H:Hp}:∀ {ts:Trs}{xs:List V},Trs.At H ts xs ↔ All2 (Tr.At H) ts.toL xs
 | .nil,xs=>by
  rw [Trs.At,Trs.toL]
  exact ⟨fun h=>h ▸ .nil,fun h=>by cases h; rfl⟩
 | .cons t ts,xs=>by
  rw [Trs.At,Trs.toL]
  constructor
  ·rintro ⟨y,ys,rfl,h1,h2⟩
   exact .cons h1 (trs_at.mp h2)
  ·intro h
   cases h with
   | cons h1 h2=>exact ⟨_,_,rfl,h1,trs_at.mpr h2⟩
def AW2 (H H':Hp):Prop:=∀ b xs,H b=some (.tup xs)→H' b=some (.tup xs)
theorem yU {H H':Hp}(s:Same H H'):AW2 H H':=fun b _ e=>s b _ e
mutual
theorem Tr.At.keep {H H':Hp}(s:AW2 H H'):∀ {t:Tr}{v:V},Tr.At H t v→Tr.At H' t v
 | .any,v,h=>by rw [Tr.At] at h ⊢; obtain ⟨p,e,h⟩:=h; exact ⟨p,e,s _ _ h⟩
 | .kind us,v,h=>by rw [Tr.At] at h ⊢; obtain ⟨p,l,e,h,k⟩:=h; exact ⟨p,l,e,s _ _ h,s _ _ k⟩
 | .place us,v,h=>by rw [Tr.At] at h ⊢; obtain ⟨p,l,e,h,k⟩:=h; exact ⟨p,l,e,s _ _ h,s _ _ k⟩
 | .weight n,v,h=>by rw [Tr.At] at h ⊢; obtain ⟨p,e,h⟩:=h; exact ⟨p,e,s _ _ h⟩
 | .not t,v,h=>by rw [Tr.At] at h ⊢; obtain ⟨p,y,e,h,k⟩:=h; exact ⟨p,y,e,s _ _ h,Tr.At.keep s k⟩
 | .both ts,v,h=>by rw [Tr.At] at h ⊢; obtain ⟨p,l,xs,e,h,k,m⟩:=h; exact ⟨p,l,xs,e,s _ _ h,s _ _ k,Trs.At.keep s m⟩
 | .either ts,v,h=>by rw [Tr.At] at h ⊢; obtain ⟨p,l,xs,e,h,k,m⟩:=h; exact ⟨p,l,xs,e,s _ _ h,s _ _ k,Trs.At.keep s m⟩
theorem Trs.At.keep {H H':Hp}(s:AW2 H H'):∀ {ts:Trs}{xs:List V},Trs.At H ts xs→Trs.At H' ts xs
 | .nil,xs,h=>by rw [Trs.At] at h ⊢; exact h
 | .cons t ts,xs,h=>by rw [Trs.At] at h ⊢; obtain ⟨y,ys,e,h1,h2⟩:=h; exact ⟨y,ys,e,Tr.At.keep s h1,Trs.At.keep s h2⟩
end
theorem Tr.At.same {H H':Hp}{t:Tr}{v:V}(h:Tr.At H t v) (s:Same H H'):Tr.At H' t v:=h.keep (yU s)
theorem AD6 {H H':Hp}{w:Addr}(W:Well3 H w) (s:But w H H'):AW2 H H':=fun b xs e=>s b _ (fun z=>by
 obtain ⟨x,y,u,q⟩:=W
 rw [z,q] at e
 cases e) e
theorem Tr.At.but3 {H H':Hp}{w:Addr}{t:Tr}{v:V}(h:Tr.At H t v) (W:Well3 H w) (s:But w H H'):Tr.At H' t v:=h.keep (AD6 W s)
structure FC where
 Any:Addr
 Kind:Addr
 Place:Addr
 Least:Addr
 Not:Addr
 Both:Addr
 Either:Addr
def Tr.cls (c:FC):Tr→Addr
 | .any=>c.Any
 | .kind _=>c.Kind
 | .place _=>c.Place
 | .weight _=>c.Least
 | .not _=>c.Not
 | .both _=>c.Both
 | .either _=>c.Either
mutual
def Tr.Fit (c:FC) (H:Hp):Tr→V→Prop
 | .any,v=>∃ p dx,v=.ref p∧H p=some (.ins c.Any dx [])
 | .kind us,v=>∃ p dx l,v=.ref p∧H p=some (.ins c.Kind dx [("names",.ref l)])∧H l=some (.lst (us.map V.str))
 | .place us,v=>∃ p dx l,v=.ref p∧H p=some (.ins c.Place dx [("names",.ref l)])∧H l=some (.lst (us.map V.str))
 | .weight n,v=>∃ p dx,v=.ref p∧H p=some (.ins c.Least dx [("weight",.int n)])
 | .not t,v=>∃ p dx y,v=.ref p∧H p=some (.ins c.Not dx [("fit",y)])∧Tr.Fit c H t y
 | .both ts,v=>∃ p dx l xs,v=.ref p∧H p=some (.ins c.Both dx [("fits",.ref l)])∧H l=some (.lst xs)∧Trs.Fit c H ts xs
 | .either ts,v=>∃ p dx l xs,v=.ref p∧H p=some (.ins c.Either dx [("fits",.ref l)])∧H l=some (.lst xs)∧Trs.Fit c H ts xs
def Trs.Fit (c:FC) (H:Hp):Trs→List V→Prop
 | .nil,xs=>xs=[]
 | .cons t ts,xs=>∃ y ys,xs=y::ys∧Tr.Fit c H t y∧Trs.Fit c H ts ys
end
theorem trs_fit {c:FC}{H:Hp}:∀ {ts:Trs}{xs:List V},Trs.Fit c H ts xs ↔ All2 (Tr.Fit c H) ts.toL xs
 | .nil,xs=>by
  rw [Trs.Fit,Trs.toL]
  exact ⟨fun h=>h ▸ .nil,fun h=>by cases h; rfl⟩
 | .cons t ts,xs=>by
  rw [Trs.Fit,Trs.toL]
  constructor
  ·rintro ⟨y,ys,rfl,h1,h2⟩
   exact .cons h1 (trs_fit.mp h2)
  ·intro h
   cases h with
   | cons h1 h2=>exact ⟨_,_,rfl,h1,trs_fit.mpr h2⟩
mutual
theorem Tr.Fit.same {c:FC}{H H':Hp}(s:Same H H'):∀ {t:Tr}{v:V},Tr.Fit c H t v→Tr.Fit c H' t v
 | .any,v,h=>by rw [Tr.Fit] at h ⊢; obtain ⟨p,d,e,h⟩:=h; exact ⟨p,d,e,s _ _ h⟩
 | .kind us,v,h=>by rw [Tr.Fit] at h ⊢; obtain ⟨p,d,l,e,h,k⟩:=h; exact ⟨p,d,l,e,s _ _ h,s _ _ k⟩
 | .place us,v,h=>by rw [Tr.Fit] at h ⊢; obtain ⟨p,d,l,e,h,k⟩:=h; exact ⟨p,d,l,e,s _ _ h,s _ _ k⟩
 | .weight n,v,h=>by rw [Tr.Fit] at h ⊢; obtain ⟨p,d,e,h⟩:=h; exact ⟨p,d,e,s _ _ h⟩
 | .not t,v,h=>by rw [Tr.Fit] at h ⊢; obtain ⟨p,d,y,e,h,k⟩:=h; exact ⟨p,d,y,e,s _ _ h,Tr.Fit.same s k⟩
 | .both ts,v,h=>by rw [Tr.Fit] at h ⊢; obtain ⟨p,d,l,xs,e,h,k,m⟩:=h; exact ⟨p,d,l,xs,e,s _ _ h,s _ _ k,Trs.Fit.same s m⟩
 | .either ts,v,h=>by rw [Tr.Fit] at h ⊢; obtain ⟨p,d,l,xs,e,h,k,m⟩:=h; exact ⟨p,d,l,xs,e,s _ _ h,s _ _ k,Trs.Fit.same s m⟩
theorem Trs.Fit.same {c:FC}{H H':Hp}(s:Same H H'):∀ {ts:Trs}{xs:List V},Trs.Fit c H ts xs→Trs.Fit c H' ts xs
 | .nil,xs,h=>by rw [Trs.Fit] at h ⊢; exact h
 | .cons t ts,xs,h=>by rw [Trs.Fit] at h ⊢; obtain ⟨y,ys,e,h1,h2⟩:=h; exact ⟨y,ys,e,Tr.Fit.same s h1,Trs.Fit.same s h2⟩
end
theorem Tr.Fit.ins {c:FC}{H:Hp}{t:Tr}{v:V}(h:Tr.Fit c H t v):∃ p dx fs,v=.ref p∧H p=some (.ins (t.cls c) dx fs)∧fs.lookup ("fits_it":Str)=none:=by
 cases t with
 | any=>rw [Tr.Fit] at h; obtain ⟨p,d,e,h⟩:=h; exact ⟨p,d,_,e,h,rfl⟩
 | kind us=>rw [Tr.Fit] at h; obtain ⟨p,d,l,e,h,_⟩:=h; exact ⟨p,d,_,e,h,rfl⟩
 | place us=>rw [Tr.Fit] at h; obtain ⟨p,d,l,e,h,_⟩:=h; exact ⟨p,d,_,e,h,rfl⟩
 | weight n=>rw [Tr.Fit] at h; obtain ⟨p,d,e,h⟩:=h; exact ⟨p,d,_,e,h,rfl⟩
 | not t=>rw [Tr.Fit] at h; obtain ⟨p,d,y,e,h,_⟩:=h; exact ⟨p,d,_,e,h,rfl⟩
 | both ts=>rw [Tr.Fit] at h; obtain ⟨p,d,l,xs,e,h,_⟩:=h; exact ⟨p,d,_,e,h,rfl⟩
 | either ts=>rw [Tr.Fit] at h; obtain ⟨p,d,l,xs,e,h,_⟩:=h; exact ⟨p,d,_,e,h,rfl⟩
def DtAt (H:Hp) (n:Nat) (x:V):Prop:=∃ d,RD H x d∧PyData.canLay0 d=true∧PyData.depth d≤n
theorem DtAt.mono {H:Hp}{n m:Nat}{x:V}(h:DtAt H n x) (k:n≤m):DtAt H m x:=let ⟨d,r,c,e⟩:=h; ⟨d,r,c,Nat.le_trans e k⟩
theorem dts {H:Hp}{n:Nat}:∀ {xs:List V},(∀ x∈xs,DtAt H n x)→∃ ds,RDs H xs ds∧PyData.canLayAll0 ds=true∧PyData.depthAll ds≤n∧ds.length=xs.length
 | [],_=>⟨[],.nil,by simp [PyData.canLayAll0],by simp [PyData.depthAll],rfl⟩
 | x::xs,h=>by
  obtain ⟨d,r,c,e⟩:=h x List.mem_cons_self
  obtain ⟨ds,rs,cs,es,ls⟩:=dts (xs:=xs) fun y m=>h y (List.mem_cons_of_mem _ m)
  exact ⟨d::ds,.cons r rs,by simp only [PyData.canLayAll0,c,cs,Bool.and_self],by simp only [PyData.depthAll]; exact Nat.max_le.mpr ⟨e,es⟩,by rw [List.length_cons,List.length_cons,ls]⟩
theorem iB {H:Hp}{n:Nat}{p:Addr}{xs:List V}(h:H p=some (.tup xs)) (hx:∀ x∈xs,DtAt H n x):DtAt H (n+1) (.ref p):=by
 obtain ⟨ds,rs,cs,es,_⟩:=dts hx
 exact ⟨.tuple ds,.tup h rs,by simp only [PyData.canLay0]; exact cs,by simp only [PyData.depth]; omega⟩
theorem lA {H:Hp}{n:Nat}{u:Str}(h:PyData.strOk u=true):DtAt H n (.str u):=⟨.str u,.str u,by simp only [PyData.canLay0]; exact h,by simp only [PyData.depth]; omega⟩
theorem AT5 {H:Hp}{n:Nat}{i:Int}:DtAt H n (.int i):=⟨.int i,.int i,by simp only [PyData.canLay0],by simp only [PyData.depth]; omega⟩
theorem yV {H:Hp}{n:Nat}{us:List Str}(h:∀ u∈us,aZ u):∀ x∈us.map V.str,DtAt H n x:=fun x hx=>by
 obtain ⟨u,hu,rfl⟩:=List.mem_map.mp hx
 exact lA (oZ (h u hu))
theorem oC {H:Hp}{n:Nat}{x y:V}(h1:DtAt H n x) (h2:DtAt H n y):∀ z∈[x,y],DtAt H n z:=fun z hz=>by
 simp only [List.mem_cons,List.not_mem_nil,or_false] at hz
 rcases hz with rfl | rfl
 ·exact h1
 ·exact h2
mutual
theorem Tr.At.dt {H:Hp}:∀ {t:Tr}{v:V},t.ok→t.At H v→DtAt H (2 * t.dp+2) v
 | .any,v,ho,h=>by
  rw [Tr.At] at h
  rw [Tr.dp]
  obtain ⟨p,rfl,h⟩:=h
  exact iB h fun x hx=>by rw [List.mem_singleton.mp hx]; exact lA (by decide +kernel)
 | .kind us,v,ho,h=>by
  rw [Tr.At] at h
  rw [Tr.ok] at ho
  rw [Tr.dp]
  obtain ⟨p,l,rfl,h,k⟩:=h
  exact iB h (oC (lA (by decide +kernel)) (iB k (yV ho.2.2.1)))
 | .place us,v,ho,h=>by
  rw [Tr.At] at h
  rw [Tr.ok] at ho
  rw [Tr.dp]
  obtain ⟨p,l,rfl,h,k⟩:=h
  exact iB h (oC (lA (by decide +kernel)) (iB k (yV ho.2.2.1)))
 | .weight n,v,ho,h=>by
  rw [Tr.At] at h
  rw [Tr.dp]
  obtain ⟨p,rfl,h⟩:=h
  exact iB h (oC (lA (by decide +kernel)) AT5)
 | .not t,v,ho,h=>by
  rw [Tr.At] at h
  rw [Tr.ok] at ho
  rw [Tr.dp]
  obtain ⟨p,y,rfl,h,k⟩:=h
  exact (iB h (oC (lA (by decide +kernel)) (Tr.At.dt ho k))).mono (by omega)
 | .both ts,v,ho,h=>by
  rw [Tr.At] at h
  rw [Tr.ok] at ho
  rw [Tr.dp]
  obtain ⟨p,l,xs,rfl,h,k,m⟩:=h
  exact (iB h (oC (lA (by decide +kernel)) (iB k (Trs.At.dt ho.2.2 m)))).mono (by omega)
 | .either ts,v,ho,h=>by
  rw [Tr.At] at h
  rw [Tr.ok] at ho
  rw [Tr.dp]
  obtain ⟨p,l,xs,rfl,h,k,m⟩:=h
  exact (iB h (oC (lA (by decide +kernel)) (iB k (Trs.At.dt ho.2.2 m)))).mono (by omega)
theorem Trs.At.dt {H:Hp}:∀ {ts:Trs}{xs:List V},ts.ok→ts.At H xs→∀ x∈xs,DtAt H (2 * ts.dp+2) x
 | .nil,xs,_,h=>by
  rw [Trs.At] at h
  rw [h]
  intro x hx
  cases hx
 | .cons t ts,xs,ho,h=>by
  rw [Trs.At] at h
  rw [Trs.ok] at ho
  rw [Trs.dp]
  obtain ⟨y,ys,rfl,h1,h2⟩:=h
  intro x hx
  rcases List.mem_cons.mp hx with rfl | hx
  ·exact (Tr.At.dt ho.1 h1).mono (by omega)
  ·exact (Trs.At.dt ho.2 h2 x hx).mono (by omega)
end
def ThAt (H:Hp) (x:V) (k p:Str) (w:Int):Prop:=∃ tp,x=.ref tp∧H tp=some (.tup [.str k,.str p,.int w])∧aZ k∧aZ p∧0≤w∧w < 1000000
theorem ThAt.same {H H':Hp}{x:V}{k p:Str}{w:Int}(h:ThAt H x k p w) (s:Same H H'):ThAt H' x k p w:=by
 obtain ⟨tp,e,h,r⟩:=h
 exact ⟨tp,e,s _ _ h,r⟩
section
variable {prog:Program}{w:World}{A:Around}{E:Value→Shared→Prop}
end
section
variable {X:Cx}{pos:Pos}
def BG4 (K:Frag) (n:Nat) (t:TGs):TG:=fun v σ H Q=>∃ a xs,v=.ref a∧SqL K H a xs∧xs.length=n∧t xs σ H Q
theorem yW {K:Frag}{n:Nat}{t:TGs}{v:V}{σ:L2.St}{H:Hp}{QS:L2.St→Hp→Prop}:BG4 K n t v σ H QS=∃ a xs,v=.ref a∧SqL K H a xs∧xs.length=n∧t xs σ H QS:=rfl
end
mutual
def Tr.okl:Tr→Prop
 | .any=>True
 | .kind us=>AW1 us
 | .place us=>AW1 us
 | .weight n=>0≤n∧n < 1000000
 | .not t=>Tr.okl t
 | .both ts=>Trs.okl ts
 | .either ts=>Trs.okl ts
def Trs.okl:Trs→Prop
 | .nil=>True
 | .cons t ts=>Tr.okl t∧Trs.okl ts
end
mutual
theorem Tr.ok.l:∀ {t:Tr},t.ok→t.okl
 | .any,_=>trivial
 | .kind us,h=>by rw [Tr.ok] at h; rw [Tr.okl]; exact h
 | .place us,h=>by rw [Tr.ok] at h; rw [Tr.okl]; exact h
 | .weight n,h=>by rw [Tr.ok] at h; rw [Tr.okl]; exact h
 | .not t,h=>by rw [Tr.ok] at h; rw [Tr.okl]; exact Tr.ok.l h
 | .both ts,h=>by rw [Tr.ok] at h; rw [Tr.okl]; exact Trs.ok.l h.2.2
 | .either ts,h=>by rw [Tr.ok] at h; rw [Tr.okl]; exact Trs.ok.l h.2.2
theorem Trs.ok.l:∀ {ts:Trs},ts.ok→ts.okl
 | .nil,_=>trivial
 | .cons t ts,h=>by rw [Trs.ok] at h; rw [Trs.okl]; exact ⟨Tr.ok.l h.1,Trs.ok.l h.2⟩
end
open Builtin Builtin.ObjectAttr
def yX:List Value→Bool
 | .ref _::r=>yX r
 | l=>l == vbm
theorem oE (self:Value):∀ {l:List Value},yX l=true→refuseLoop self "__setattr__" l=pure ()
 | [],e=>by cases e
 | .ref c::r,e=>by rw [refuseLoop_ref]; exact oE self e
 | .type n::r,e=>by rw [beq_iff_eq.mp e]; exact PySem.F.store_ValueError.passes self
 | .none::r,e=>by cases beq_iff_eq.mp e
 | .bool _::r,e=>by cases beq_iff_eq.mp e
 | .int _ _::r,e=>by cases beq_iff_eq.mp e
 | .str _ _::r,e=>by cases beq_iff_eq.mp e
 | .bytes _ _::r,e=>by cases beq_iff_eq.mp e
 | .float _ _::r,e=>by cases beq_iff_eq.mp e
 | .builtin _::r,e=>by cases beq_iff_eq.mp e
 | .notImplemented::r,e=>by cases beq_iff_eq.mp e
 | .ellipsis::r,e=>by cases beq_iff_eq.mp e
structure ExcS (K:Frag) (C:Addr) (cd:ClassData):Prop where
 at_:clsIn K C=some cd
 mro:yX cd.mro=true
 hd:cd.hasDict=true
 sa:findIn K (.ref C) "__setattr__"=some (some (.builtin "object.__setattr__"))
section
variable {prog:Program}{w:World}{A:Around}{E:Value→Shared→Prop}{s:Shared}{K:Frag}{x C:Addr}{cd:ClassData}{name:Str}{v:Value}
theorem AN7 {R:Result→Shared→Prop}{ox:Obj}{od:Option Obj}{tk:Tok}(X:K.In s.heap) (I:InstAt s.heap x ox C od) (F:ExcS K C cd) (hO:mroIn K C (.type "object")=some true) (ha:findIn K (.ref C) name=some none)
  (h:wpAny (model prog w) A.in1 (storeInOwnDict (.ref x) (.ref C) (.str name tk) name v false)
   (fun fin s'=>match fin with | .done f=>R (.ok f) s' | .again c'=>c'.quiet=true∧codeAny (model prog w) A c' R s') (fun e s'=>R (.error e) s') s) :
  codeAny (model prog w) A (.call (.builtin "object.__setattr__") ⟨[.ref x,.str name tk,v],[]⟩) R s:=by
 have SF:=PySem.F.store_object
 have sub:Looks (model prog w) s.heap (isInstance (.ref x) (.type "object")) true:=I.type.andThen (looks_mroIn X hO)
 refine codeAny_call_builtin SF.slot.plain SF.entry (@check_slot (model prog w) _ _ s "object.__setattr__" "object" "__setattr__" (.ref x) [.str name tk,v] [] _ SF.kind SF.split sub (SF.args (.ref x) (.str name tk) v) ?_)
 have hm:Looks (model prog w) s.heap (mroOf (.ref C)) cd.mro:=(looks_clsIn X F.at_).andThen .now
 have L3:Looks (model prog w) s.heap (storeTaker? none) none:=.now
 rw [osa_eq,refuse_eq]
 refine wpAny_bind (wpAny_bind (I.type.here (wpAny_bind (hm.here ?_))))
 rw [oE _ F.mro]
 refine wpAny_pure (wpAny_bind (I.type.here (wpAny_bind ((looks_findIn X ha).here (wpAny_bind (L3.here ?_))))))
 exact h
theorem BG5 {ox:Obj}{vs:Array Value}{Q:Unit→Shared→Prop}(X:K.In s.heap) (hx:s.heap.get? x=some ox) (hcl:ox.cls=.ref C) (hdt:ox.data=.fields vs) (hdn:ox.dict=none)
  (F:ExcS K C cd) (hO:mroIn K C (.type "object")=some true) (ha:findIn K (.ref C) name=some none)
  (h:∀ h' t',h'.get? x=some { ox with dict:=some s.heap.objs.size }→h'.Ns1 s.heap.objs.size (fun y=>if y=name then some v else none)→(∀ b o,b≠x→s.heap.get? b=some o→h'.get? b=some o)→Q () { s with heap:=h',toks:=t' }) :
  wpAny (model prog w) A (setAttr (.ref x) name v) Q E s:=by
 obtain ⟨oc,od0,odt,osl⟩:=ox
 dsimp only at hcl hdt hdn
 subst hcl hdt hdn
 have I:InstAt s.heap x ⟨.ref C,none,.fields vs,osl⟩ C none:=⟨hx,rfl,rfl,trivial⟩
 refine set_plain X I F.sa (AN7 (s:={ s with toks:=s.toks+1 }) X I F hO ha ?_)
 have hxs:x≠s.heap.objs.size:=Nat.ne_of_lt (Heap.lt_size hx)
 have hx₁:(s.heap.push { cls:=.type "dict",data:=.dict #[] }).get? x=some ⟨.ref C,none,.fields vs,osl⟩:=Heap.get?_push_of_some _ hx
 refine wpAny_bind (wpAny_pure (wpAny_bind (wpAny_bind (wpAny_loadPart hx (wpAny_bind (Looks.here (s:={ s with toks:=s.toks+1 }) (looks_clsIn X F.at_) ?_))))))
 rw [F.hd]
 dsimp only
 refine wpAny_bind (wpAny_alloc' ?_)
 refine wpAny_bind (wpAny_update' hx₁ ?_)
 refine wpAny_pure ?_
 have hgd:((s.heap.push { cls:=.type "dict",data:=.dict #[] }).update x fun o=>{ cls:=o.cls,dict:=some s.heap.objs.size,data:=o.data,slots:=o.slots }).get? s.heap.objs.size
   = some { cls:=.type "dict",data:=.dict #[] } :=
  (Heap.get?_update_ne _ _ _ _ hxs.symm).trans (Heap.get?_push_at rfl rfl)
 have hnd:((s.heap.push { cls:=.type "dict",data:=.dict #[] }).update x fun o=>{ cls:=o.cls,dict:=some s.heap.objs.size,data:=o.data,slots:=o.slots }).Ns s.heap.objs.size (fun _=>none) :=
  ⟨_,#[],_,hgd,rfl,fun e he=>absurd he (by simp),fun _=>rfl⟩
 show wpAny _ _ (storeInDict s.heap.objs.size (.str name _) name v) _ _ _
 unfold storeInDict newKeyGuard
 refine wpAny_bind (wpAny_pure (wpAny_bind (wpAny_nsSet1 (Heap.Ns1.of_empty hnd) fun h' hn' hs=>?_)))
 obtain ⟨oD,esD,epD,hoD,hdD,hcD⟩:=hn'.count (Within.cons name v Within.nil)
 refine wpAny_bind (wpAny_lookBehind hoD (by rw [hdD]; exact pastItsLine_dict (Nat.le_trans hcD (by rw [List.length_cons,List.length_nil,sizeLine_eq]; omega))) ?_)
 refine wpAny_pure (h h' _ ?_ hn' fun b o hbx hb=>?_)
 ·refine (hs.2 x hxs).trans (Heap.get?_update_self _ hx₁ rfl)
 ·exact (hs.2 b (Nat.ne_of_lt (Heap.lt_size hb))).trans ((Heap.get?_update_ne _ _ _ _ hbx).trans (Heap.get?_push_of_some _ hb))
end
end Bw
namespace Bw
open PySem PySem.Spec PyProof.Rows L2 PySem.W
open Builtin Builtin.ObjectAttr
section
variable {prog:Program}{w:World}{A:Around}{E:Value→Shared→Prop}{K:Frag}{h:Heap}{g:Array GenState}{d:Drawn}{t:Nat}{os:OsState}{x C:Addr}{name:Str}{v:Value}{ox od:Obj}
theorem yY {tk:Tok}{Q:Fin→Shared→Prop}(Z:K.In h) (I:InstAt h x ox C (some od)) (hf:findObj K C (some od) name=some (.value v)) (hq:Q (.done (.ret v)) ⟨h,g,d,t,os⟩) :
  wpAny (model prog w) A (Builtin.«object.__getattribute__» ⟨[.ref x,.str name tk],[]⟩) Q E ⟨h,g,d,t,os⟩:=by
 have L0:=I.type (M:=model prog w)
 have L1:=looks_find (M:=model prog w) Z I hf
 refine wpAny_bind (wpAny_pure (wpAny_bind (wpAny_pure (wpAny_bind (L0.at (wpAny_bind (L1.at ?_)))))))
 exact wpAny_pure hq
theorem yZ {M:Model}{nameV:Value}{Q:Unit→Shared→Prop}(Z:K.In h) (F:ExcK K C) (I:InstAt h x ox C (some od)) (hq:Q () ⟨h,g,d,t,os⟩) :
  wpAny M A (checkBuiltinCall "BaseException.__getattribute__" ⟨[.ref x,nameV],[]⟩) Q E ⟨h,g,d,t,os⟩:=qS Z F ⟨ox,I.at_,I.cls⟩ hq
theorem AD7 {tk:Tok}{R:Result→Shared→Prop}(Z:K.In h) (F:ExcK K C) (I:InstAt h x ox C (some od)) (hf:findObj K C (some od) name=some (.value v)) (hq:R (.ok (.ret v)) ⟨h,g,d,t,os⟩) :
  codeAny (model prog w) A (.call (.builtin "BaseException.__getattribute__") ⟨[.ref x,.str name tk],[]⟩) R ⟨h,g,d,t,os⟩ :=
 codeAny_call_builtin PySem.F.excAttr_ValueError.ga.plain PySem.F.entry_bexc_ga (yZ Z F I (yY Z I hf hq))
theorem AT6 {tk:Tok}{fill expr:Bool}{Q:Value→Shared→Prop}(Z:K.In h) (F:ExcK K C) (I:InstAt h x ox C (some od)) (hf:findObj K C (some od) name=some (.value v)) (hv:handedIn v=true) (hq:Q v ⟨h,g,d,t,os⟩) :
  wpAny (model prog w) A (getAttrBy (.ref x) (.str name tk) fill expr) Q E ⟨h,g,d,t,os⟩:=by
 have L0:=I.type (M:=model prog w)
 have L1:=looks_findIn (M:=model prog w) Z F.ga
 have L2:=looks_findIn (M:=model prog w) Z F.gt
 have f3:=PySem.F.excAttr_ValueError.ga.bind (.ref x)
 have f9:=handedOut_of hv
 have hx0:(expr && onTheHeap (Value.builtin "BaseException.__getattribute__"))=false:=by cases expr <;> rfl
 have hx2:(Value.builtin "BaseException.__getattribute__" == Value.builtin "object.__getattribute__")=false:=by decide +kernel
 have hx1:(onTheHeap (Value.ref C) && Value.builtin "BaseException.__getattribute__" == Value.builtin "object.__getattribute__")=false:=by rw [hx2]; rfl
 repeat (any_goals (first | assumption | (with_reducible refine Looks.at (by assumption) ?_) | wp_step))
 refine AD7 Z F I hf ?_
 repeat (any_goals (first | assumption | wp_step))
theorem AD8 {expr:Bool}{Q:Value→Shared→Prop}(Z:K.In h) (F:ExcK K C) (I:InstAt h x ox C (some od)) (hf:findObj K C (some od) name=some (.value v)) (hv:handedIn v=true) (hq:Q v ⟨h,g,d,t+1,os⟩) :
  wpAny (model prog w) A (getAttr (.ref x) name expr) Q E ⟨h,g,d,t,os⟩:=by
 unfold getAttr
 repeat (any_goals (first | assumption | with_reducible apply AT6 Z F I hf hv | wp_step))
end
end Bw
namespace Bw
open PySem PySem.Spec PyProof.Rows L2 PySem.W
def qX (x C:Addr) (dx:Option Addr) (h:Heap):Prop:=∃ ob a0,h.get? x=some ob∧ob.cls=.ref C∧ob.dict=dx∧ob.data=.fields #[a0,.none,.none,.none,.bool false,.none]
def eQ (x C:Addr) (dx:Option Addr):HO:=.ext (qX x C dx)
section
variable {P:Program}{w:World}{H:Hp}{h:Heap}
theorem zA {x C:Addr}{dx:Option Addr}(p:qX x C dx h):ObjOk P w H h x (eQ x C dx) :=
 let ⟨ob,a0,e,r⟩:=p; ⟨p,⟨ob,e⟩,fun h1 h2 ⟨o1,b0,q1,q2⟩ k=>⟨o1,b0,k _ q1,q2⟩⟩
end
section
variable {X:Cx}{pins:List (Addr × Obj)}{σ:L2.St}{H:Hp}{s:Shared}{o value:Expr}{ta tv:TE}{f:Str}{pos pos':Pos}{A:Around}{E:Value→Shared→Prop}
theorem AN8 {a C:Addr}{cd:ClassData}{y:V}{u:Value}{Q:Unit→Shared→Prop}(I:Inv X pins σ H s) (ea:H a=some (eQ a C none)) (F:ExcS X.K C cd) (hO:mroIn X.K C (.type "object")=some true) (n:NoAttr X.K C f) (ry:RelV y u)
  (h:∀ dx s',H dx=none→dx≠a→Inv X pins σ (upd (upd H dx (.xd [(f,y)])) a (eQ a C (some dx))) s'→Q () s'):wpAny (model X.prog X.w) A (setAttr (.ref a) f u) Q E s:=by
 obtain ⟨⟨ob,a0,hob,hcl,hdn,hdt⟩,_,_⟩:=(show ObjOk X.prog X.w H s.heap a (.ext (qX a C none)) from I.hok a _ ea)
 refine BG5 I.kIn hob hcl hdt hdn F hO n fun h' t' hx' hn' hk=>?_
 have nd:H s.heap.objs.size=none:=I.hok.fresh (Nat.le_refl _)
 have da:s.heap.objs.size≠a:=fun z=>absurd (Heap.lt_size hob) (by rw [z]; exact Nat.lt_irrefl _)
 have nb:∀ b o',s.heap.get? b=some o'→b≠s.heap.objs.size:=fun b o' q=>Nat.ne_of_lt (Heap.lt_size q)
 have na:∀ b,H b=none→b≠a:=fun b q z=>by rw [z,ea] at q; cases q
 have up:∀ b v,H b=some v→b≠a→upd (upd H s.heap.objs.size (.xd [(f,y)])) a (eQ a C (some s.heap.objs.size)) b=some v:=fun b v q z=>by rw [aK z,aK (aO q nd)]; exact q
 refine h s.heap.objs.size _ nd da (I.un (t':=t') (H':=upd (upd H s.heap.objs.size (.xd [(f,y)])) a (eQ a C (some s.heap.objs.size))) ⟨fun b o' q k _ _=>hk b o' (na b k) q,fun b o' q k _ _=>⟨o'.slots,hk b o' (na b k) q⟩,fun b o' q k _=>?_,fun b o' q _=>?_,fun b xs q=>up b _ q fun z=>?_,fun b o' u' q=>up b _ q fun z=>?_,fun b ps q=>⟨#[],?_⟩⟩ fun b v q=>?_)
 ·rw [aK (na b k),aK (nb b o' q)]; exact k
 ·by_cases z:b=a
  ·rw [z]; exact ⟨_,hx'⟩
  ·exact ⟨o',hk b o' z q⟩
 ·rw [z,ea] at q; cases q
 ·rw [z,ea] at q; cases q
 ·rw [Array.append_empty]
  exact up b _ q fun z=>by rw [z,ea] at q; cases q
 ·by_cases z:b=a
  ·subst z
   rw [aB] at q
   cases q
   exact zA ⟨_,a0,hx',hcl,rfl,hdt⟩
  ·rw [aK z] at q
   by_cases z2:b=s.heap.objs.size
   ·subst z2
    rw [aB] at q
    cases q
    refine ⟨_,hn',fun g=>?_⟩
    by_cases zg:g=f
    ·subst zg
     rw [if_pos rfl,List.lookup_cons,beq_self_eq_true]
     exact ry
    ·rw [if_neg zg,List.lookup_cons,show (g == f)=false from beq_eq_false_iff_ne.mpr zg]
     exact trivial
   ·rw [aK z2] at q
    refine (I.hok b v q).stay (fun c u' hc r=>hk c u' (fun zc=>?_) r) (fun c r=>up c _ r fun zc=>?_) fun c xs r=>up c _ r fun zc=>?_
    ·rcases hc with y' | y'
     ·exact z (y'.symm.trans zc)
     ·rw [zc,ea] at y'; cases y'
    ·rw [zc,ea] at r; cases r
    ·rw [zc,ea] at r; cases r
def AT7 (K:Frag) (ta tv:TE) (f:Str):TS:=fun D σ H=>tv σ H fun y H1=>ta σ H1 fun x H2=>∃ a C cd,x=.ref a∧H2 a=some (eQ a C none)∧ExcS K C cd∧mroIn K C (.type "object")=some true∧NoAttr K C f ∧
 ∀ dx,H2 dx=none→dx≠a→D.nx σ (upd (upd H2 dx (.xd [(f,y)])) a (eQ a C (some dx)))
theorem zB (ha:PE X o ta) (hv:PE X value tv) (hs:swapsWith value (some (.Attribute o f pos')) pos.line X.env=pure false:=by rfl):PS X (.Assign [.Attribute o f pos'] value pos) (AT7 X.K ta tv f):=by
 intro pins s σ H D I h
 refine plainObj_wpAny_Assign_Attribute (thn (hv pins s σ H _ I h) fun u s1 ⟨y,H1,I1,ry,q⟩=>thn (ha pins s1 σ H1 _ I1 q) fun ov s2 ⟨x,H2,I2,rx,a,C,cd,ex,ea,F,hO,n,q2⟩=>?_) hs
 subst ex
 obtain rfl:ov=Value.ref a:=rx
 exact AN8 I2 ea F hO n ry fun dx s3 e1 e2 I3=>⟨σ,_,I3,q2 dx e1 e2⟩
def AN9 (K:Frag) (ta:TE) (f:Str):TE:=fun σ H Q=>ta σ H fun x H1=>∃ a C dx fs v,x=.ref a∧H1 a=some (fJ a (.ref C) (some dx))∧H1 dx=some (.xd fs)∧ExcK K C∧hasDictIn K C=true∧NoAttr K C f∧fs.lookup f=some v∧Q v H1
theorem AO0 {e:Expr}(he:PE X e ta) (hb:attributeBase e f X.env (eval e X.env)=eval e X.env:=by rfl):PE X (.Attribute e f pos) (AN9 X.K ta f):=by
 intro pins s σ H Q I h
 refine wU hb (thn (he pins s σ H _ I h) fun u s1 ⟨x,H1,I1,rx,a,C,dx,fs,v,ex,ea,ed,F,hh,n,l,q⟩=>?_)
 subst ex
 obtain rfl:u=Value.ref a:=rx
 obtain ⟨⟨ob,hob,hcl,hdx,vs,hdt⟩,_,_⟩:=(show ObjOk X.prog X.w H1 s1.heap a (.ext (excAtD a (.ref C) (some dx))) from I1.hok a _ ea)
 obtain ⟨mA,hn,r⟩:=(show ObjOk X.prog X.w H1 s1.heap dx (.xd fs) from I1.hok dx _ ed)
 obtain ⟨u,hu,ru⟩:=RelO.some_of (v:=v) (o:=mA f) (by rw [← l]; exact r f)
 obtain ⟨hh',g,d,t,os⟩:=s1
 obtain ⟨od,J,hl⟩:∃ od,InstAt hh' a ob C (some od)∧lookIn f od=some (mA f):=by
  obtain ⟨od,ho,hl⟩:=qF hn
  refine ⟨od,⟨hob,hcl,?_,?_⟩,hl f⟩
  ·unfold notCls
   rw [hdt]
  ·rw [hdx]
   exact ho
 exact AD8 I1.kIn F J (findObj_own hh n rfl (by rw [hl,hu])) (qG ru) ⟨v,H1,I1.tok _,ru,q⟩
end
section
variable {prog:Program}{w:World}{A:Around}{E:Value→Shared→Prop}{h:Heap}{g:Array GenState}{d:Drawn}{t:Nat}{os:OsState}{K:Frag}
variable {nm q:Str}{C N:Addr}{bs bm bmB:List Value}{hdct:Bool}{sn:List Str}{sub:List Value}{ab:Bool}{col:Option Bool}{dd:Option Addr}{k0 k1 k2 k3 k5:Option Value}{B newId initId:String}
theorem mM (F:ExcBaseFacts B newId initId bmB) (T:OwnTail h bmB bm) {rest:List Value}{fI:Addr}{Q:Fin→Shared→Prop}
  (hC:h.get? C=some (excClassObj nm q C N bs bm hdct sn sub ab col dd k0 k1 k2 k3 k5 newId)) (Z:K.In h) (hi:findIn K (.ref C) "__init__"=some (some (.ref fI))) (hf:typeIn K (.ref fI)=some (.type "function"))
  (hq:∀ h' e,Heap.MadeExcOf h h' e (.ref C) rest →
   wpAny (model prog w) A (call (.ref fI) (.ref e::rest)) (fun r s'=>r=.none∧Q (.done (.ret (.ref e))) s') E ⟨h',g,d,t,os⟩) (hrest:rest.length≤sizeLine:=by size_fits) :
  wpAny (model prog w) A (Builtin.«type.__call__» ⟨.ref C::rest,[]⟩) Q E ⟨h,g,d,t,os⟩:=by
 repeat (first | with_reducible refine wpAny_loadPart_at hC ?_ | with_reducible refine wpAny_madeBy_exc hC ?_ | wp_step)
 refine codeAny_call_builtin_code (Code.quiet_builtin _ F.quiet) (wpAny_check_new_subT F T hC ?_)
 refine codeAny_exc_new_subT F T hC ?_ hrest
 show wpAny _ _ _ _ _ _
 have hC₁:=Heap.get?_push_of_some { cls:=.ref C,data:=.fields #[.ref h.objs.size,.none,.none,.none,.bool false,.none] }
  (Heap.get?_push_of_some { cls:=.type "tuple",data:=.seq rest.toArray } hC)
 have Z₁:K.In ((h.push { cls:=.type "tuple",data:=.seq rest.toArray }).push { cls:=.ref C,data:=.fields #[.ref h.objs.size,.none,.none,.none,.bool false,.none] }):=fun a o l=>Heap.get?_push_of_some _ (Heap.get?_push_of_some _ (Z a o l))
 have hget:((h.push { cls:=.type "tuple",data:=.seq rest.toArray }).push
   { cls:=.ref C,data:=.fields #[.ref h.objs.size,.none,.none,.none,.bool false,.none] }).get? (h.objs.size+1)=some
   { cls:=.ref C,data:=.fields #[.ref h.objs.size,.none,.none,.none,.bool false,.none] }:=by heap_get
 have hcC:(Value.ref C::bm).contains (.ref C)=true:=by simp
 have T₁:=T.keeps (h':=(h.push { cls:=.type "tuple",data:=.seq rest.toArray }).push { cls:=.ref C,data:=.fields #[.ref h.objs.size,.none,.none,.none,.bool false,.none] })
  fun b o e=>Heap.get?_push_of_some _ (Heap.get?_push_of_some _ e)
 unfold isInstance
 repeat (first | with_reducible refine wpAny_loadPart_at hget ?_ | (with_reducible refine wpAny_isSubtype_exc hC₁ ?_; rw [hcC]) | wp_step)
 show wpAny _ _ (typeLookup (.ref C) _) _ _ _
 refine (looks_findIn (M:=model prog w) Z₁ hi).at ?_
 refine wpAny_holding (wpAny_bind ?_)
 unfold bindSpecial
 refine wpAny_bind ((looks_typeIn (M:=model prog w) Z₁ hf).at ?_)
 rw [if_pos (by decide)]
 refine wpAny_pure (wpAny_bind (wpAny_mono (hq _ (h.objs.size+1) ⟨fun b o hb=>Heap.get?_push_of_some _ (Heap.get?_push_of_some _ hb),Heap.get?_none_of_le (Nat.le_succ _),h.objs.size,hget,Heap.get?_none_of_le (Nat.le_refl _),?_⟩) (fun r s' hr=>?_) fun _ _ x=>x))
 ·exact Heap.get?_push_of_some _ (Heap.get?_push_at rfl rfl)
 ·obtain ⟨rfl,hQ⟩:=hr
  wp_walk
  exact hQ
theorem oF (F:ExcBaseFacts B newId initId bmB) (T:OwnTail h bmB bm) {rest:List Value}{fI:Addr}{Q:Value→Shared→Prop}
  (hC:h.get? C=some (excClassObj nm q C N bs bm hdct sn sub ab col dd k0 k1 k2 k3 k5 newId)) (Z:K.In h) (hi:findIn K (.ref C) "__init__"=some (some (.ref fI))) (hf:typeIn K (.ref fI)=some (.type "function"))
  (hq:∀ h' e,Heap.MadeExcOf h h' e (.ref C) rest →
   wpAny (model prog w) (A.under (.builtin "type.__call__" ⟨.ref C::rest,[]⟩)) (call (.ref fI) (.ref e::rest)) (fun r s'=>r=.none∧Q (.ref e) s') E ⟨h',g,d,t,os⟩) (hrest:rest.length≤sizeLine:=by size_fits) :
  wpAny (model prog w) A (call (.ref C) rest) Q E ⟨h,g,d,t,os⟩:=by
 have f1:=tc_lookup
 have f2:=tc_bind (.ref C)
 have hT:(⟨h,g,d,t,os⟩:Shared).TypeIs (.ref C) "type":=⟨_,hC,rfl⟩
 refine wpAny_call (codeAny_of_tree ?_)
 show wpAny _ _ (callAny (.ref C) _) _ _ _
 repeat (any_goals (first | assumption | with_reducible refine wpAny_loadPart_at hC ?_ | wp_step))
 refine ⟨rfl,?_⟩
 refine codeAny_call_builtin_at (Code.quiet_builtin _ (by decide +kernel)) entry_typeCall (wpAny_check_type_call_sub hC (mM (hrest:=hrest) F T hC Z hi hf fun h' e hm=>?_))
 exact hq h' e hm
end
section
variable {prog:Program}{w:World}{A:Around}{E:Value→Shared→Prop}{s:Shared}{env:Env}
variable {nm q:Str}{C N:Addr}{bs bm bmB:List Value}{hdct:Bool}{sn:List Str}{sub:List Value}{ab:Bool}{col:Option Bool}{dd:Option Addr}{k0 k1 k2 k3 k5:Option Value}{B newId initId:String}
theorem lH (F:ExcBaseFacts B newId initId bmB) {x:Str}{np cpos pos:Pos}{args:List Expr}{Q:Flow→Shared→Prop}{fI:Addr}{K:Frag}
  (hbase:bm.contains (.type "BaseException")=true) (hh:A.handled=none) (hplain:(backTo cpos (starEach args env)).any (·.1)=false) (hi:findIn K (.ref C) "__init__"=some (some (.ref fI))) (hf:typeIn K (.ref fI)=some (.type "function"))
  (h:wpAny (model prog w) A (eval (.Name x np) env) (fun f s₁=>f=.ref C∧wpAny (model prog w) A (evalArgs (.ref C) true (backTo cpos (starEach args env)) [])
   (fun a s₂=>a.kw=[]∧a.pos.length≤sizeLine∧s₂.heap.get? C=some (excClassObj nm q C N bs bm hdct sn sub ab col dd k0 k1 k2 k3 k5 newId)∧K.In s₂.heap∧OwnTail s₂.heap bmB bm ∧
    ∀ h' e,Heap.MadeExcOf s₂.heap h' e (.ref C) a.pos→wpAny (model prog w) (A.under (.builtin "type.__call__" ⟨.ref C::a.pos,[]⟩)) (call (.ref fI) (.ref e::a.pos))
     (fun r s₃=>r=.none∧s₃.heap.get? C=some (excClassObj nm q C N bs bm hdct sn sub ab col dd k0 k1 k2 k3 k5 newId)∧(∃ oe vs,s₃.heap.get? e=some oe∧oe.cls=.ref C∧oe.data=.fields vs∧vs[1]?=some .none)∧E (.ref e) s₃) E { s₂ with heap:=h' }) E s₁) E s) :
  wpAny (model prog w) A (exec (.Raise (some (.Call (.Name x np) args [] cpos)) none pos) env) Q E s:=by
 rw [arm_exec_Raise]
 first
  | refine wpAny_bind (wpAny_standAt (gH (C:=C) (nm:=nm) (q:=q) (N:=N) (bs:=bs) (bm:=bm) (hdct:=hdct) (sn:=sn) (sub:=sub) (ab:=ab) (col:=col) (dd:=dd) (k0:=k0) (k1:=k1) (k2:=k2) (k3:=k3) (k5:=k5) (newId:=newId) hbase hh (wpAny_bind (wpAny_mono (wpAny_Call_ofName (wpAny_mono h (fun f s₁ h₁=>?_) fun _ _ x=>x)) (fun v s₃ h₃=>wpAny_bind (wpAny_standAt (wpAny_pure h₃))) fun _ _ x=>x))))
  | (simp only [evalOpt,Option.map]; refine wpAny_bind (wpAny_standAt (gH (C:=C) (nm:=nm) (q:=q) (N:=N) (bs:=bs) (bm:=bm) (hdct:=hdct) (sn:=sn) (sub:=sub) (ab:=ab) (col:=col) (dd:=dd) (k0:=k0) (k1:=k1) (k2:=k2) (k3:=k3) (k5:=k5) (newId:=newId) hbase hh (wpAny_bind (wpAny_mono (wpAny_Call_ofName (wpAny_mono h (fun f s₁ h₁=>?_) fun _ _ x=>x)) (fun v s₃ h₃=>wpAny_bind (wpAny_standAt (wpAny_pure h₃))) fun _ _ x=>x)))))
  | (refine wpAny_bind (wpAny_standAt (gH (C:=C) (nm:=nm) (q:=q) (N:=N) (bs:=bs) (bm:=bm) (hdct:=hdct) (sn:=sn) (sub:=sub) (ab:=ab) (col:=col) (dd:=dd) (k0:=k0) (k1:=k1) (k2:=k2) (k3:=k3) (k5:=k5) (newId:=newId) hbase hh ?_)); refine wpAny_bind (wpAny_mono (wpAny_Call_ofName (wpAny_mono h (fun f s₁ h₁=>?_) fun _ _ x=>x)) (fun v s₃ h₃=>wpAny_bind (wpAny_standAt (wpAny_pure h₃))) fun _ _ x=>x))
 obtain ⟨rfl,h₁⟩:=h₁
 unfold callWith
 refine wpAny_bind (wpAny_holding (wpAny_mono h₁ (fun a s₂ h₂=>wpAny_bind (wpAny_standAt ?_)) fun _ _ x=>x))
 obtain ⟨apos,akw⟩:=a
 obtain ⟨hkw,hlen,hC,Z,T,h₂⟩:=h₂
 obtain rfl:akw=[]:=hkw
 obtain ⟨hp,g,d,tk,os⟩:=s₂
 simp only [hplain]
 refine wpAny_bind (wpAny_keeperOf_exc hC ?_)
 refine wpAny_bind (oF (hrest:=hlen) F T hC Z hi hf fun h' e hm=>wpAny_mono (h₂ h' e hm) (fun r s₃ h₃=>?_) fun _ _ x=>x)
 obtain ⟨hr,hC3,⟨oe,vs,he,hcl,hda,hv1⟩,hE⟩:=h₃
 exact ⟨hr,wpAny_bind (wpAny_holding (wpAny_point (wpAny_pure ⟨e,oe,vs,rfl,hC3,he,hcl,hda,hv1,hE⟩)))⟩
end
def uS (C:Addr) (f:Str):Sp:=fun vs H Q _=>∃ e y,vs=[.ref e,y]∧H e=some (eQ e C none)∧∀ dx,H dx=none→dx≠e→Q .non (upd (upd H dx (.xd [(f,y)])) e (eQ e C (some dx)))
structure ExcI (K:Frag) (C B fI:Addr):Prop where
 ex:∃ nm q N bs hd sn sub ab col dd k0 k1 k2 k3 k5,K.lookup C=some (excClassObj nm q C N bs (.ref B::vbm) hd sn sub ab col dd k0 k1 k2 k3 k5 "ValueError.__new__")
 base:excIn K B vbm "ValueError.__new__"=true
 init:findIn K (.ref C) "__init__"=some (some (.ref fI))
 fn:isFn K (.ref fI)=true
def sW (f:Str) (v:V) (R:Addr→Hp→Prop):TS:=fun _ _ H=>∀ dx,H dx=none→R dx (upd H dx (.xd [(f,v)]))
theorem zC {X:Cx}{x:Str}{C B fI:Addr}{k:Nat}{fd:FuncData}{f p:Str}{v:V}{u:Value}{np cpos pos:Pos}{R:Addr→Hp→Prop}(hc:X.calm=true) (hg:Gl X x) (hm:X.mg x=some (.ref C)) (q:ExcI X.K C B fI)
  (F:FnOk X.prog X.w X.K X.mg X.base (CXF X.prog X.w) k fI fd ["self",p] (uS C f)) (hr:Room (k+1) X.A) (hb:Binds X.K fd ["self",p] [u]) (hv:RelV v u)
  (hxe:∀ pins σ H H' s s' e oe vs a0,Inv X pins σ H s→s'.os=s.os→AllBare s'.gens→Un (frs X.stack) [] H H' s.heap s'.heap→HOk X.prog X.w H' s'.heap→s.heap.get? e=none→H' e=none →
   s'.heap.get? e=some oe→oe.data=.fields vs→vs[1]?=some .none→vs[0]?=some a0→vs[2]?=some .none→oe.cls=.ref C→(∃ dx,oe.dict=some dx∧R dx H')→X.xe (.ref e) s')
  (hd:(x == ("__debug__":Str))=false:=by decide):PS X (.Raise (some (.Call (.Name x np) [] [] cpos)) none pos) (sW f v R):=by
 intro pins s σ H D I h
 obtain ⟨nm,qn,N,bs,hd',sn,sub,ab,col,dd,k0,k1,k2,k3,k5,lk⟩:=q.ex
 obtain ⟨bm',N',nm',qn',bs',hd'',sn',sub',ab',col',dd',j0,j1,j2,j3,j5,mN',hB,hN',hni',T'⟩:=sF I.kIn q.base
 have T:OwnTail s.heap vbm (.ref B::vbm):=.own (cd:=_) hB hN' hni' .base
 refine lH (C:=C) (nm:=nm) (q:=qn) (N:=N) (bs:=bs) (bm:=.ref B::vbm) (bmB:=vbm) (hdct:=hd') (sn:=sn) (sub:=sub) (ab:=ab) (col:=col) (dd:=dd) (k0:=k0) (k1:=k1) (k2:=k2) (k3:=k3) (k5:=k5) (K:=X.K) (fI:=fI) PySem.F.excBase_ValueError (by rfl) (I.ok.hd hc) rfl q.init (beq_iff_eq.mp q.fn) (fX I hg hm ⟨rfl,?_⟩ hd)
 refine PySem.evalArgs_none ?_
 refine ⟨rfl,sz8 (show 0≤1000 by decide),I.kIn _ _ lk,I.kIn,T,fun h' e hx=>?_⟩
 obtain ⟨tt,he,_,_⟩:=hx.there
 have nH:H e=none:=by
  cases z:H e with
  | none=>rfl
  | some w' =>
   obtain ⟨o,ho⟩:=uH (I.hok e w' z)
   rw [hx.new] at ho
   cases ho
 have nb:∀ b o,s.heap.get? b=some o→b≠e:=fun b o z y=>by rw [y,hx.new] at z; cases z
 have up:∀ b w',H b=some w'→upd H e (eQ e C none) b=some w':=fun b w' z=>by rw [aK (aO z nH)]; exact z
 have I1:Inv X pins σ (upd H e (eQ e C none)) { s with heap:=h' }:=I.un (t':=s.toks) ⟨fun b o z _ _ _=>hx.keeps _ _ z,fun b o z _ _ _=>⟨o.slots,hx.keeps _ _ z⟩,fun b o z n _=>by rw [aK (nb b o z)]; exact n,fun b o z _=>⟨o,hx.keeps _ _ z⟩,fun b xs z=>up _ _ z,fun b o w' z=>up _ _ z,fun b ps z=>⟨#[],by rw [Array.append_empty]; exact up _ _ z⟩⟩ fun b w' z=>by
  by_cases y:b=e
  ·subst y
   rw [aB] at z
   cases z
   exact zA ⟨_,.ref tt,he,rfl,rfl,rfl⟩
  ·rw [aK y] at z
   exact (I.hok b w' z).stay (fun c v' _ r=>hx.keeps _ _ r) (fun c r=>up _ _ r) fun c xs r=>up _ _ r
 refine wpAny_call (codeAny_mono (F.run _ X.stack _ _ ⟨[Value.ref e],[]⟩ [Value.ref e,u] [V.ref e,v] (fun v' H2=>v'=.non∧∃ dx,H dx=none∧dx≠e∧H2=upd (upd (upd H e (eQ e C none)) dx (.xd [(f,v)])) e (eQ e C (some dx))) E0 (hr.make C [] []) (I1.env0.make C [] [])
  (hb _ [Value.ref e] I1.kIn rfl) (.cons rfl (.cons hv .nil)) ⟨e,v,rfl,aB,fun dx e1 e2=>⟨rfl,dx,by rw [aK e2] at e1; exact e1,e2,rfl⟩⟩) fun r s3 hq=>?_)
 cases r with
 | error ev =>
  obtain ⟨_,_,_,_,_,_,_,_,_,_,_,_,_,_,_,_,hE⟩:=hq
  exact hE.elim
 | ok fl =>
  cases fl with
  | next=>exact False.elim hq
  | brk=>exact False.elim hq
  | cont=>exact False.elim hq
  | ret u3 =>
   obtain ⟨v3,H2,os,bare,un,hok,r3,rfl,dx,hdx,hde,rfl⟩:=hq
   have I3:Inv X pins σ _ s3:=I1.call' (ch:=[]) os un hok bare (fun b z=>absurd z (by simp))
   obtain ⟨⟨ob,a0,hob,hcl,hdi,hdt⟩,_,_⟩:=(show ObjOk X.prog X.w _ s3.heap e (.ext (qX e C (some dx))) from hok e _ aB)
   have eq2:∀ b,b≠e→upd (upd (upd H e (eQ e C none)) dx (.xd [(f,v)])) e (eQ e C (some dx)) b=upd H dx (.xd [(f,v)]) b:=fun b z=>by
    rw [aK z]
    by_cases y:b=dx
    ·rw [y,aB,aB]
    ·rw [aK y,aK y,aK z]
   have nH2:upd H dx (.xd [(f,v)]) e=none:=by rw [aK (Ne.symm hde)]; exact nH
   have ne1:∀ b w',H b=some w'→b≠e:=fun b w' z=>aO z nH
   have un':Un (frs X.stack) [] H (upd H dx (.xd [(f,v)])) s.heap s3.heap :=
    ⟨fun b o z n hb' _=>un.keep b o (hx.keeps _ _ z) (by rw [aK (nb b o z)]; exact n) hb' (by simp),fun b o z n hb' _=>un.slot b o (hx.keeps _ _ z) (by rw [aK (nb b o z)]; exact n) hb' (by simp),
     fun b o z n _=>(eq2 b (nb b o z)).symm.trans (un.free b o (hx.keeps _ _ z) (by rw [aK (nb b o z)]; exact n) (by simp)),fun b o z _=>un.there b o (hx.keeps _ _ z) (by simp),
     fun b xs z=>(eq2 b (ne1 b _ z)).symm.trans (un.tups b xs (up _ _ z)),fun b o w' z=>(eq2 b (ne1 b _ z)).symm.trans (un.frzs b o w' (up _ _ z)),fun b ps z=>by
     obtain ⟨m1,e1⟩:=un.tbls b ps (up _ _ z)
     exact ⟨m1,(eq2 b (ne1 b _ z)).symm.trans e1⟩⟩
   have hok':HOk X.prog X.w (upd H dx (.xd [(f,v)])) s3.heap:=fun b w' z=>by
    have be:b≠e:=fun y=>by rw [y,nH2] at z; cases z
    refine (hok b w' ((eq2 b be).trans z)).stay (fun _ _ _ r=>r) (fun c r=>?_) fun c xs r=>?_
    ·have ce:c≠e:=fun y=>by rw [y,aB] at r; cases r
     exact (eq2 c ce).symm.trans r
    ·have ce:c≠e:=fun y=>by rw [y,aB] at r; cases r
     exact (eq2 c ce).symm.trans r
   refine ⟨(show u3=Value.none from r3),I3.kIn _ _ lk,⟨ob,_,hob,hcl,hdt,rfl⟩,?_⟩
   exact hxe pins σ H _ s s3 e ob _ a0 I os bare un' hok' hx.new nH2 hob hdt rfl rfl rfl hcl ⟨dx,hdi,h dx hdx⟩
structure CalI (P:Program) (w:World) (K:Frag) (mg:Str→Option Value) (base:Heap) (x:Str) (C:Addr) (f:Str) (k:Nat) (v:V):Prop where
 ex:∃ (B fI:Addr) (fd:FuncData) (p:Str) (u:Value),FnOk P w K mg base (CXF P w) k fI fd ["self",p] (uS C f)∧Binds K fd ["self",p] [u]∧RelV v u∧ExcI K C B fI∧mg x=some (.ref C)
section
variable {X:Cx}
theorem fZ {x:Str}{C:Addr}{k:Nat}{f:Str}{v:V}{np cpos pos:Pos}{R:Addr→Hp→Prop}(c:CalI X.prog X.w X.K X.mg X.base x C f k v) (hc:X.calm=true) (hg:Gl X x) (hr:Room (k+1) X.A)
  (hxe:∀ pins σ H H' s s' e oe vs a0,Inv X pins σ H s→s'.os=s.os→AllBare s'.gens→Un (frs X.stack) [] H H' s.heap s'.heap→HOk X.prog X.w H' s'.heap→s.heap.get? e=none→H' e=none →
   s'.heap.get? e=some oe→oe.data=.fields vs→vs[1]?=some .none→vs[0]?=some a0→vs[2]?=some .none→oe.cls=.ref C→(∃ dx,oe.dict=some dx∧R dx H')→X.xe (.ref e) s')
  (hd:(x == ("__debug__":Str))=false:=by decide):PS X (.Raise (some (.Call (.Name x np) [] [] cpos)) none pos) (sW f v R):=by
 obtain ⟨B,fI,fd,p,u,F,b,r,q,m⟩:=c.ex
 exact zC hc hg m q F hr b r hxe hd
theorem zD {K:Frag}{e:Expr}{ta:TE}{f:Str}{pos:Pos}(hK:X.K=K) (he:PE X e ta) (hb:attributeBase e f X.env (eval e X.env)=eval e X.env):PE X (.Attribute e f pos) (AN9 K ta f):=by
 subst hK
 exact AO0 he hb
end
section
variable {P:Program}{w:World}{K:Frag}{mg:Str→Option Value}{base:Heap}{N:List Str}{qual:Str}{sc:Scope}{f:Addr}{cdv:Value}{A:Around}{outer:List Env}{s:Shared}{H:Hp}{E:XK}{C:Addr}
theorem kI {c:Bool}:∀ pins σ H1 H' s1 s' e oe vs a0,Inv (nX c P w K mg base N qual sc f cdv A outer s H E) pins σ H1 s1→s'.os=s1.os→AllBare s'.gens→Un (frs (nX c P w K mg base N qual sc f cdv A outer s H E).stack) [] H1 H' s1.heap s'.heap→HOk P w H' s'.heap→s1.heap.get? e=none→H' e=none →
   s'.heap.get? e=some oe→oe.data=.fields vs→vs[1]?=some .none→vs[0]?=some a0→vs[2]?=some .none→oe.cls=.ref C→(∃ dx,oe.dict=some dx∧E (.ref C) (some dx) H')→(nX c P w K mg base N qual sc f cdv A outer s H E).xe (.ref e) s' :=
 fun pins σ H1 H' s1 s' e oe vs a0 I os bare un hok fe nH he hd h1 h0 hch hcl ⟨dx,hdi,hE⟩=>iW I rfl rfl rfl os bare un hok fe nH he hd h1 h0 (fun _=>hch) (by rw [hcl,hdi]; exact hE)
end
section
variable {K:Frag}{σ:L2.St}{H:Hp}{Q:VK}{D:Ends}{ta tv:TE}{f:Str}{v:V}{R:Addr→Hp→Prop}
theorem pE:sW f v R D σ H=∀ dx,H dx=none→R dx (L2.upd H dx (.xd [(f,v)])):=rfl
theorem sX:AT7 K ta tv f D σ H=tv σ H fun y H1=>ta σ H1 fun x H2=>∃ a C cd,x=.ref a∧H2 a=some (eQ a C none)∧ExcS K C cd∧mroIn K C (.type "object")=some true∧NoAttr K C f ∧
 ∀ dx,H2 dx=none→dx≠a→D.nx σ (L2.upd (L2.upd H2 dx (.xd [(f,y)])) a (eQ a C (some dx))):=rfl
theorem zE:AN9 K ta f σ H Q=ta σ H fun x H1=>∃ a C dx fs v,x=.ref a∧H1 a=some (fJ a (.ref C) (some dx))∧H1 dx=some (.xd fs)∧ExcK K C∧hasDictIn K C=true∧NoAttr K C f∧fs.lookup f=some v∧Q v H1:=rfl
end
section
open Builtin Builtin.Str
variable {prog:Program}{w:World}{A:Around}{E:Value→Shared→Prop}{s:Shared}{x y:Str}{t u:Tok}{Q:Value→Shared→Prop}
theorem vU (hy:(y.length == 0)=false) (hsz:x.length+2≤sizeLine)
  (h:∀ (l:List (Str × Tok)) (k:Nat),l.map (·.1)=Txt.split x y→Q (.ref s.heap.objs.size) { s with heap:=s.heap.push { cls:=.type "list",data:=.seq (strValues l).toArray },toks:=k }) :
  wpAny (model prog w) A (call (.builtin "str.split") [.str x t,.str y u]) Q E s:=by
 have hn:(partsBetween x (occurrences x y 0 x.length (x.length+1)) y.length).length≤sizeLine:=by
  have e:=StrLaws.occ_length_le x y 0 x.length (x.length+1)
  rw [length_partsBetween]; omega
 cases c1:(decide (x.length < y.length) || decide (strKind x < strKind y)) with
 | true=>exact call_meets F.slot_str_split (typeIs_str _ _ _) F.entry_str_split (F.args_str_split_2 _ _) (meets_str_split_cannot_occur x y t u c1) (h [(x,t)] s.toks (if_pos c1).symm)
 | false =>
  cases c2:(occurrences x y 0 x.length (x.length+1)).isEmpty with
  | true=>exact call_meets F.slot_str_split (typeIs_str _ _ _) F.entry_str_split (F.args_str_split_2 _ _) (meets_str_split_not_found x y t u c1 hy c2) (h [(x,t)] s.toks ((if_neg (ne_true_of_eq_false c1)).trans (if_pos c2)).symm)
  | false =>
   refine call_meets F.slot_str_split (typeIs_str _ _ _) F.entry_str_split (F.args_str_split_2 _ _) (meets_str_split_sep x y t u c1 hy c2 (by omega) hn) ?_
   show wants Q E _ { s with toks:=_,heap:=s.heap.push { cls:=.type "list",data:=.seq (strsFrom s.toks (partsBetween x (occurrences x y 0 x.length (x.length+1)) y.length)).toArray } }
   rw [strsFrom_eq]; exact h (numbered s.toks _) _ ((numbered_texts _ _).trans ((if_neg (ne_true_of_eq_false c1)).trans (if_neg (ne_true_of_eq_false c2))).symm)
end
section
variable {X:Cx}
theorem mP:∀ {l:List (Str × Tok)}{ts:List Str},l.map (·.1)=ts→Vals (ts.map V.str) (strValues l)
 | [],_,e=>by subst e; exact .nil
 | (a,t)::l,_,e=>by subst e; exact .cons ⟨t,rfl⟩ (mP rfl)
def AH6:V→List V→Hp→VK→Prop:=fun x xs H Q=>∃ u y,x=.str u∧xs=[.str y]∧(y.length == 0)=false∧u.length+2≤sizeLine∧(Txt.split u y).length≤sizeLine∧∀ l,H l=none→Q (.ref l) (upd H l (.lst ((Txt.split u y).map V.str)))
theorem uT:MtR X "str.split" AH6:=by
 intro pins s σ H x xs v us Q I rx rv h
 obtain ⟨u,y,rfl,rfl,hy,hz,hz2,q⟩:=h
 obtain ⟨t,rfl⟩:=rx
 obtain ⟨u',rfl,t',rfl⟩:=Vals.one rv
 refine vU hy hz fun l k e=>?_
 exact ⟨.ref _,_,I.lnew (t':=k) (mP e) (by rw [List.length_map]; exact hz2),rfl,q _ I.fresh⟩
def zF:V→List V→Hp→VK→Prop:=fun x xs H Q=>∃ u y,x=.str u∧xs=[.str y]∧Q (.bl (Txt.startswith u y)) H
theorem jS:MtR X "str.startswith" zF:=by
 intro pins s σ H x xs v us Q I rx rv h
 obtain ⟨u,y,rfl,rfl,q⟩:=h
 obtain ⟨t,rfl⟩:=rx
 obtain ⟨u',rfl,t',rfl⟩:=Vals.one rv
 exact SC.startswith ⟨.bl _,H,I,rfl,q⟩
theorem pF:CallR X (.type "int") (fun xs H Q=>∃ u n,xs=[.str u]∧PySem.intText? u=some n∧u.length≤640∧Q (.int n) H):=by
 intro pins s σ H xs us Q I r h
 obtain ⟨u,n,rfl,e,hl,q⟩:=h
 obtain ⟨u',rfl,t,rfl⟩:=Vals.one r
 exact KIN.call_text e hl ⟨.int n,H,I.tok _,⟨_,rfl⟩,q⟩
theorem pG {K:Frag}{σ:L2.St}{H:Hp}{D:Ends}{ta tv:TE}{rd:V→V→Hp→VK→Prop}{f:Str}:wV K ta tv rd f D σ H=ta σ H fun x H1=>∃ a C dx fs v,x=.ref a∧H1 a=some (.ins C dx fs)∧Cls K C∧NoAttr K C f∧fs.lookup f=some v ∧
 tv σ H1 fun y H2=>rd v y H2 fun z H3=>∃ dx' fs',H3 a=some (.ins C dx' fs')∧fs'.length < 1000∧D.nx σ (upd H3 a (.ins C dx' (nP f z fs'))):=rfl
theorem zG {x y:V}{H:Hp}{Q:VK}:BE1 x y H Q=∃ i j,x=.int i∧y=.int j∧Q (.int (i+j)) H:=rfl
end
theorem cX (x y:Str):(x++y).cps.toList=x.cps.toList++y.cps.toList:=by
 show (x.cps++y.cps).toList=_
 simp
theorem dX {x y:Str}(h:x.cps.toList=y.cps.toList):x=y:=Str.ext' (Array.toList_inj.mp h)
theorem uU {c:Nat}:∀ {a b r s:List Nat},c ∉ a→c ∉ b→a++c::r=b++c::s→a=b∧r=s
 | [],[],r,s,_,_,h=>⟨rfl,(List.cons.inj h).2⟩
 | [],y::b,r,s,_,hb,h=>by
  have e:=(List.cons.inj h).1
  exact absurd (by rw [← e]; exact List.mem_cons_self) hb
 | x::a,[],r,s,ha,_,h=>by
  have e:=(List.cons.inj h).1
  exact absurd (by rw [e]; exact List.mem_cons_self) ha
 | x::a,y::b,r,s,ha,hb,h=>by
  obtain ⟨e1,e2⟩:=List.cons.inj h
  obtain ⟨q1,q2⟩:=uU (fun z=>ha (List.mem_cons_of_mem _ z)) (fun z=>hb (List.mem_cons_of_mem _ z)) e2
  exact ⟨by rw [e1,q1],q2⟩
theorem uV {c:Nat}{a b r:List Nat}(ha:c ∉ a) (h:a=b++c::r):False:=ha (by rw [h]; simp)
theorem uW {c:Nat}:∀ {as bs:List Str},as≠[]→bs≠[]→(∀ a∈as,c ∉ a.cps.toList)→(∀ b∈bs,c ∉ b.cps.toList)→Str.join ⟨#[c]⟩ as=Str.join ⟨#[c]⟩ bs→as=bs
 | [],_,h,_,_,_,_=>absurd rfl h
 | _,[],_,h,_,_,_=>absurd rfl h
 | [a],[b],_,_,_,_,h=>by
  have e:a=b:=h
  rw [e]
 | [a],b::b'::r,_,_,ha,hb,h=>by
  have e:=congrArg (fun z:Str=>z.cps.toList) (show a=b++⟨#[c]⟩++Str.join ⟨#[c]⟩ (b'::r) from h)
  simp only [cX] at e
  exact (uV (ha a List.mem_cons_self) (by rw [e,List.append_assoc]; rfl)).elim
 | a::a'::r,[b],_,_,ha,hb,h=>by
  have e:=congrArg (fun z:Str=>z.cps.toList) (show b=a++⟨#[c]⟩++Str.join ⟨#[c]⟩ (a'::r) from h.symm)
  simp only [cX] at e
  exact (uV (hb b List.mem_cons_self) (by rw [e,List.append_assoc]; rfl)).elim
 | a::a'::r,b::b'::q,_,_,ha,hb,h=>by
  have e:=congrArg (fun z:Str=>z.cps.toList) (show a++⟨#[c]⟩++Str.join ⟨#[c]⟩ (a'::r)=b++⟨#[c]⟩++Str.join ⟨#[c]⟩ (b'::q) from h)
  simp only [cX,List.append_assoc] at e
  obtain ⟨e1,e2⟩:=uU (ha a List.mem_cons_self) (hb b List.mem_cons_self) (show _++c::_=_++c::_ from e)
  have e3:=uW (c:=c) (as:=a'::r) (bs:=b'::q) (by simp) (by simp) (fun z hz=>ha z (List.mem_cons_of_mem _ hz)) (fun z hz=>hb z (List.mem_cons_of_mem _ hz)) (dX e2)
  rw [dX e1,e3]
theorem AD9 (x y:Str):Txt.split x y≠[]:=by
 intro h
 have e:=StrLaws.join_split x y
 unfold Txt.split at h
 split at h
 ·cases h
 ·split at h
  ·cases h
  ·obtain ⟨p,r,q⟩:=StrLaws.partsFrom_ne x y.length 0 (Builtin.Str.occurrences x y 0 x.length (x.length+1))
   rw [StrLaws.partsBetween_eq,q] at h
   cases h
theorem oG {c:Nat}{as:List Str}(hn:as≠[]) (h:∀ a∈as,c ∉ a.cps.toList):Txt.split (Str.join ⟨#[c]⟩ as) ⟨#[c]⟩=as :=
 uW (AD9 _ _) hn (StrLaws.split_free _ c) h (StrLaws.join_split _ _)
theorem gM {c:Nat}:∀ {as bs:List Str},as≠[]→bs≠[]→Str.join ⟨#[c]⟩ (as++bs)=Str.join ⟨#[c]⟩ as++⟨#[c]⟩++Str.join ⟨#[c]⟩ bs
 | [],_,h,_=>absurd rfl h
 | [a],[],_,h=>absurd rfl h
 | [a],b::r,_,_=>rfl
 | a::a'::r,bs,_,h=>by
  show a++⟨#[c]⟩++Str.join ⟨#[c]⟩ ((a'::r)++bs)=a++⟨#[c]⟩++Str.join ⟨#[c]⟩ (a'::r)++⟨#[c]⟩++Str.join ⟨#[c]⟩ bs
  rw [gM (c:=c) (as:=a'::r) (bs:=bs) (by simp) h]
  apply dX
  simp only [cX,List.append_assoc]
section
variable {prog:Program}{w:World}{A:Around}{E:Value→Shared→Prop}
theorem pH:entryFor table "proto.unchain"=some Builtin.«proto.unchain»:=entryFor_of_fast (by kernel_rfl)
theorem pI {s:Shared}{e x:Addr}{oe ox:Obj}{vs xs:Array Value}{α:Type}{Q:α→Shared→Prop}(hh:A.handled=some (.ref x)) (hne:x≠e) (hx:s.heap.get? x=some ox) (hxd:ox.data=.fields xs) (hx2:xs[2]?=some .none)
  (he:s.heap.get? e=some oe) (hd:oe.data=.fields vs) (hsz:2 < vs.size) (h:E (.ref e) { s with heap:=s.heap.update e (Obj.mapFields (·.setIfInBounds 2 (.ref x))) }):wpAny (model prog w) A (raiseNew (.ref e):Sem α) Q E s:=by
 unfold raiseNew
 refine wpAny_bind (wpAny_handled ?_)
 rw [hh]
 dsimp only
 have hb:(Value.ref x != Value.ref e)=true:=by
  rw [bne_iff_ne]
  intro z
  cases z
  exact hne rfl
 rw [if_pos hb]
 refine wpAny_bind (wpAny_holding (runValue_entry pH ?_))
 unfold Builtin.«proto.unchain»
 dsimp only
 refine wpAny_bind (wpAny_field hx hxd hx2 ?_)
 rw [if_pos (by rfl)]
 refine wpAny_bind (wpAny_pure (wpAny_pure ⟨_,rfl,?_⟩))
 have u:=fun (Q':Unit→Shared→Prop) (q:Q' () _)=>wpAny_setField (M:=model prog w) (A:=A) (E:=E) (i:=2) (x:=.ref x) he hd hsz q
 exact wpAny_bind (u _ (wpAny_throw h))
variable {env:Env}{nm q:Str}{C N y:Addr}{bs bm:List Value}{hdct:Bool}{sn:List Str}{sub:List Value}{ab:Bool}{col:Option Bool}{dd:Option Addr}{k0 k1 k2 k3 k5:Option Value}{newId:String}
theorem nG {s:Shared}{x c:Sem Value}{Q:Flow→Shared→Prop}(hbase:bm.contains (.type "BaseException")=true) (hh:A.handled=some (.ref y))
  (hc:∀ (s':Shared) (Q':Value→Shared→Prop),Q' .none s'→wpAny (model prog w) A c Q' E s')
  (h:wpAny (model prog w) A x (fun v s₁=>∃ e oc od osl a0 oy ys,v=.ref e∧y≠e∧s₁.heap.get? C=some (excClassObj nm q C N bs bm hdct sn sub ab col dd k0 k1 k2 k3 k5 newId) ∧
   s₁.heap.get? e=some ⟨.ref C,od,.fields #[a0,.none,.none,.none,.bool false,.none],osl⟩∧oc=Value.ref C∧s₁.heap.get? y=some oy∧oy.data=.fields ys∧ys[2]?=some .none ∧
   ∀ h',(∀ b,b≠e→h'.get? b=s₁.heap.get? b)→h'.get? e=some ⟨.ref C,od,.fields #[a0,.none,.ref y,.none,.bool true,.none],osl⟩→E (.ref e) { s₁ with heap:=h' }) E s) :
  wpAny (model prog w) A (raiseStmt env (some x) (some c)) Q E s:=by
 have hcB:(Value.ref C::bm).contains (.type "BaseException")=true:=by rw [List.contains_cons,hbase,Bool.or_true]
 unfold raiseStmt
 refine wpAny_bind (wpAny_mono h (fun v s₁ h₁=>?_) fun _ _ x=>x)
 obtain ⟨e,oc,od,osl,a0,oy,ys,rfl,hne,hC,he,_,hy,hyd,hy2,hE⟩:=h₁
 obtain ⟨hp,g,d,tk,os⟩:=s₁
 have hCe:C≠e:=fun z=>by rw [z,he] at hC; cases hC
 refine wpAny_bind (wpAny_holding (hc _ _ (wpAny_bind (wpAny_pure ?_))))
 dsimp only at he hC hy hE ⊢
 repeat (first | with_reducible refine wpAny_loadPart_at he ?_ | with_reducible refine wpAny_loadPart_at hC ?_ | (with_reducible refine wpAny_isSubtype_exc hC ?_; rw [hcB]) | wp_step)
 have e3:=Heap.get?_update_self (Obj.mapFields fun x=>x.setIfInBounds 3 .none) he rfl
 have e4:=Heap.get?_update_self (Obj.mapFields fun x=>x.setIfInBounds 4 (.bool true)) e3 rfl
 have oth:∀ b,b≠e→((hp.update e (Obj.mapFields fun x=>x.setIfInBounds 3 Value.none)).update e (Obj.mapFields fun x=>x.setIfInBounds 4 (Value.bool true))).get? b=hp.get? b:=fun b hb=>by
  rw [Heap.get?_update_other _ _ (Ne.symm hb),Heap.get?_update_other _ _ (Ne.symm hb)]
 refine pI hh hne ((oth y hne).trans hy) hyd hy2 e4 rfl (show 2 < 6 by decide) ?_
 exact hE _ (fun b hb=>by rw [Heap.get?_update_other _ _ (Ne.symm hb)]; exact oth b hb) (Heap.get?_update_self _ e4 rfl)
variable {bmB:List Value}{B initId:String}
theorem vV {s:Shared}(F:ExcBaseFacts B newId initId bmB) {x:Str}{np cpos cp pos:Pos}{j:Nat}{Q:Flow→Shared→Prop}{fI:Addr}{K:Frag}
  (hbase:bm.contains (.type "BaseException")=true) (hh:A.handled=some (.ref y)) (hi:findIn K (.ref C) "__init__"=some (some (.ref fI))) (hf:typeIn K (.ref fI)=some (.type "function"))
  (h:wpAny (model prog w) A (eval (.Name x np) env) (fun f s₂=>f=.ref C∧s₂.heap.get? C=some (excClassObj nm q C N bs bm hdct sn sub ab col dd k0 k1 k2 k3 k5 newId)∧K.In s₂.heap∧OwnTail s₂.heap bmB bm ∧
    ∀ h' e,Heap.MadeExcOf s₂.heap h' e (.ref C) []→wpAny (model prog w) (A.under (.builtin "type.__call__" ⟨[.ref C],[]⟩)) (call (.ref fI) [.ref e])
     (fun r s₃=>r=.none∧∃ od osl a0 oy ys,y≠e∧s₃.heap.get? C=some (excClassObj nm q C N bs bm hdct sn sub ab col dd k0 k1 k2 k3 k5 newId) ∧
      s₃.heap.get? e=some ⟨.ref C,od,.fields #[a0,.none,.none,.none,.bool false,.none],osl⟩∧s₃.heap.get? y=some oy∧oy.data=.fields ys∧ys[2]?=some .none ∧
      ∀ h',(∀ b,b≠e→h'.get? b=s₃.heap.get? b)→h'.get? e=some ⟨.ref C,od,.fields #[a0,.none,.ref y,.none,.bool true,.none],osl⟩→E (.ref e) { s₃ with heap:=h' }) E { s₂ with heap:=h' }) E s) :
  wpAny (model prog w) A (exec (.Raise (some (.Call (.Name x np) [] [] cpos)) (some (.Constant .none j cp)) pos) env) Q E s:=by
 rw [arm_exec_Raise]
 refine wpAny_bind (wpAny_standAt (nG (C:=C) (nm:=nm) (q:=q) (N:=N) (bs:=bs) (bm:=bm) (hdct:=hdct) (sn:=sn) (sub:=sub) (ab:=ab) (col:=col) (dd:=dd) (k0:=k0) (k1:=k1) (k2:=k2) (k3:=k3) (k5:=k5) (newId:=newId) hbase hh (fun s' Q' q=>wpAny_bind (wpAny_Constant_none (wpAny_bind (wpAny_standAt (wpAny_pure q)))))
  (wpAny_bind (wpAny_mono (wpAny_Call_ofName (wpAny_mono h (fun f s₂ h₂=>?_) fun _ _ x=>x)) (fun v s₃ h₃=>wpAny_bind (wpAny_standAt (wpAny_pure h₃))) fun _ _ x=>x))))
 obtain ⟨rfl,hC,Z,T,h₂⟩:=h₂
 unfold callWith
 refine wpAny_bind (wpAny_holding (PySem.evalArgs_none ?_))
 refine wpAny_bind (wpAny_standAt ?_)
 obtain ⟨hp,g,d,tk,os⟩:=s₂
 refine wpAny_bind (wpAny_keeperOf_exc hC ?_)
 refine wpAny_bind (oF (hrest:=by decide) F T hC Z hi hf fun h' e hm=>wpAny_mono (h₂ h' e hm) (fun r s₃ h₃=>?_) fun _ _ x=>x)
 obtain ⟨hr,od,osl,a0,oy,ys,hne,hC3,he,hy,hyd,hy2,hE⟩:=h₃
 exact ⟨hr,wpAny_bind (wpAny_holding (wpAny_point (wpAny_pure ⟨e,.ref C,od,osl,a0,oy,ys,rfl,hne,hC3,he,rfl,hy,hyd,hy2,hE⟩)))⟩
end
structure RoomH (k:Nat) (A:Around):Prop where
 dp:A.depth+3 * k+5 < recursionLimit
 un:A.units+16 * k+200 < cLine
theorem Room.held {k:Nat}{A:Around}(r:Room k A) (v:Option Value):RoomH k (A.mark v):=⟨r.dp,r.un⟩
theorem RoomH.make {k:Nat}{A:Around}(r:RoomH (k+1) A) (C:Addr) (us:List Value) (kw:List (Str × Value)):RoomH k (A.under (.builtin "type.__call__" ⟨.ref C::us,kw⟩)) :=
 ⟨by have:=r.dp; rw [nT]; omega,by have:=r.un; rw [nU]; omega⟩
structure FnOkH (P:Program) (w:World) (K:Frag) (mg:Str→Option Value) (base:Heap) (CX:CXT) (k:Nat) (f:Addr) (fd:FuncData) (ps:List Str) (sp:Sp):Prop where
 len:∀ vs H Q E,sp vs H Q E→vs.length=ps.length
 run:∀ (A:Around) (outer:List Env) (s:Shared) (H:Hp) (args:Args) (us:List Value) (vs:List V) (Q:VK) (E:XK),RoomH k A→Env0 P w K mg base A outer s H→BindsTo s fd args (ps.zip us)→Vals vs us→sp vs H Q E →
  codeAny (model P w) A (.call (.ref f) args) (CR CX outer P w H s Q E) s
abbrev AO1 (CX:CXT) (P:Program) (w:World) (K:Frag) (mg:Str→Option Value) (base:Heap) (N:List Str) (qual:Str) (sc:Scope) (f:Addr) (cdv:Value) (A:Around) (outer:List Env) (s:Shared) (H:Hp) (E:XK):Cx :=
 { wX CX P w K mg base N qual sc f cdv A outer s H E with calm:=false }
theorem AT8 {CX:CXT}{P:Program}{w:World}{K:Frag}{mg:Str→Option Value}{base:Heap}{k:Nat}{f:Addr}{x qual:Str}{st:Stmt}{fd:FuncData}{N ps:List Str}{sp:Sp}(F:FunA K x qual st f fd) (S:FnScope N ps (aE st)) (len:∀ vs H Q E,sp vs H Q E→vs.length=ps.length)
  (hbody:∀ (cdv:Value) (A:Around) (outer:List Env) (s:Shared) (H:Hp) (vs:List V) (Q:VK) (E:XK),sp vs H Q E →
   ∃ t,PSs (AO1 CX P w K mg base N qual (aE st) f cdv A outer s H E) (aQ st) t∧t { nx:=fun _ H'=>Q .non H',rt:=Q } (L2.start N vs) H):FnOkH P w K mg base CX (k+1) f fd ps sp:=by
 obtain ⟨oc,od,dV,kV,doc,pm,an,cdv,ct,osl,rfl,lk,hcd⟩:=F.ex
 refine ⟨len,fun A outer s H args us vs Q E hr e0 hb r hsp=>?_⟩
 have hl:=len _ _ _ _ hsp
 have KX:K.In s.heap:=e0.mod.kin.keeps fun b o e=>(e0.bs b o e).1
 have hkind:∀ y∈ps.zip us,(aE st).names.lookup y.1=some .local∨((aE st).names.lookup y.1=some .cell∧((cellsFrom (s.heap.objs.size+1) (aE st).names []).lookup y.1).isSome=true):=fun ⟨n,v⟩ hy=>by
  rcases S.par n (List.of_mem_zip hy).1 with q | q
  ·exact .inl q
  ·exact .inr ⟨q,cellsFrom_some _ _ _ (.inl q)⟩
 refine codeAny_call_function (by have:=hr.dp; omega) (KX _ _ lk) rfl S.co S.gen rfl (codeRec_of KX hcd) (hb _ _ _ _ ?_)
 refine wpAny_newFunctionEnv_cells S.kind hkind fun env he s1 x=>?_
 subst he
 refine ⟨(e0.mod.nolimit.keeps fun b o e=>(e0.bs b o e).1).keeps x.toInCall.keep,codeAny_func ?_⟩
 obtain ⟨t,ht,hq⟩:=hbody cdv A outer s H vs Q E hsp
 have I0:=qL (CX:=CX) (E:=E) (A:={ A with handled:=none }) S rfl ⟨e0.frames,e0.mod,e0.bs,e0.bsz,e0.funs,e0.frf,e0.hok,e0.bare⟩ hl r x
 have I:Inv (AO1 CX P w K mg base N qual (aE st) f cdv A outer s H E) [] (L2.start N vs) H s1 :=
  ⟨⟨I0.ok.mod,I0.ok.kind,I0.ok.glob,I0.ok.blt,I0.ok.above,I0.ok.inj,I0.ok.has,I0.ok.cab,(fun z=>nomatch z),I0.ok.frames,I0.ok.stk,I0.ok.exf,I0.ok.bs,I0.ok.bsz,I0.ok.noex,I0.ok.exfs,I0.ok.funs,I0.ok.frf⟩,I0.os,I0.bare,I0.base,I0.loc,I0.cell,I0.free,I0.freeC,I0.pin,I0.hok,I0.len⟩
 refine wpAny_mono (ht [] s1 (L2.start N vs) H _ I hq) (fun fl s' hs=>?_) fun e s' hs=>hs
 have fin:∀ {σ':L2.St}{H':Hp}{v:V}{u:Value},Inv (AO1 CX P w K mg base N qual (aE st) f cdv A outer s H E) [] σ' H' s'→RelV v u→Q v H'→CE outer P w H s Q u s' :=
  fun {σ' H' v u} J rv q=>⟨v,H',J.os,J.bare,J.base,J.hok,rv,q⟩
 cases fl with
 | ret u=>exact let ⟨v,σ',H',J,rv,q⟩:=hs; fin J rv q
 | next=>exact let ⟨σ',H',J,q⟩:=hs; fin (v:=V.non) (u:=Value.none) J rfl q
 | brk=>exact let ⟨_,_,_,q⟩:=hs; False.elim q
 | cont=>exact let ⟨_,_,_,q⟩:=hs; False.elim q
structure CalF (P:Program) (w:World) (K:Frag) (mg:Str→Option Value) (base:Heap) (f:Addr) (ps:List Str) (k:Nat) (sp:Sp):Prop where
 ex:∃ fd,FnOk P w K mg base (CXF P w) k f fd ps sp∧Binds K fd ps []∧keepIn K (.ref f)=true
structure CalIH (P:Program) (w:World) (K:Frag) (mg:Str→Option Value) (base:Heap) (x:Str) (C:Addr) (f:Str) (k:Nat) (v:V):Prop where
 ex:∃ (B fI:Addr) (fd:FuncData) (p:Str) (u:Value),FnOkH P w K mg base (CXF P w) k fI fd ["self",p] (uS C f)∧Binds K fd ["self",p] [u]∧RelV v u∧ExcI K C B fI∧mg x=some (.ref C)
section
variable {X:Cx}{pins:List (Addr × Obj)}{σ:L2.St}{H:Hp}{s:Shared}
theorem AT9 (I:Inv X pins σ H s) (E:Value→Shared→Prop):Inv { X with xe:=E } pins σ H s :=
 ⟨⟨I.ok.mod,I.ok.kind,I.ok.glob,I.ok.blt,I.ok.above,I.ok.inj,I.ok.has,I.ok.cab,I.ok.hd,I.ok.frames,I.ok.stk,I.ok.exf,I.ok.bs,I.ok.bsz,I.ok.noex,I.ok.exfs,I.ok.funs,I.ok.frf⟩,I.os,I.bare,I.base,I.loc,I.cell,I.free,I.freeC,I.pin,I.hok,I.len⟩
theorem AH7 {E:Value→Shared→Prop}(I:Inv { X with xe:=E } pins σ H s):Inv X pins σ H s :=
 ⟨⟨I.ok.mod,I.ok.kind,I.ok.glob,I.ok.blt,I.ok.above,I.ok.inj,I.ok.has,I.ok.cab,I.ok.hd,I.ok.frames,I.ok.stk,I.ok.exf,I.ok.bs,I.ok.bsz,I.ok.noex,I.ok.exfs,I.ok.funs,I.ok.frf⟩,I.os,I.bare,I.base,I.loc,I.cell,I.free,I.freeC,I.pin,I.hok,I.len⟩
def BB8 (X:Cx) (C:Addr) (R:Addr→Hp→Prop):Prop:=∀ pins σ H H' s s' e oe vs a0,Inv X pins σ H s→s'.os=s.os→AllBare s'.gens→Un (frs X.stack) [] H H' s.heap s'.heap→HOk X.prog X.w H' s'.heap→s.heap.get? e=none→H' e=none →
   s'.heap.get? e=some oe→oe.data=.fields vs→vs[1]?=some .none→vs[0]?=some a0→oe.cls=.ref C→(∃ dx,oe.dict=some dx∧R dx H')→X.xe (.ref e) s'
theorem vW {x:Str}{C y:Addr}{k:Nat}{f:Str}{v:V}{np cpos cp pos:Pos}{j:Nat}{R:Addr→Hp→Prop}{Q:Flow→Shared→Prop}{oy:Obj}{ys:Array Value}(c:CalIH X.prog X.w X.K X.mg X.base x C f k v) (hg:Gl X x) (hr:Room (k+1) X.A) (hxe:BB8 X C R)
  (I:Inv X pins σ H s) (hy:s.heap.get? y=some oy) (hyd:oy.data=.fields ys) (hy2:ys[2]?=some .none) (hyH:H y=none) (hyf:y ∉ frs X.stack) (h:∀ dx,H dx=none→R dx (upd H dx (.xd [(f,v)])))
  (hd:(x == ("__debug__":Str))=false:=by decide) :
  wpAny (model X.prog X.w) (X.A.mark (some (.ref y))) (exec (.Raise (some (.Call (.Name x np) [] [] cpos)) (some (.Constant .none j cp)) pos) X.env) Q X.xe s:=by
 obtain ⟨B,fI,fd,p,u,F,hb,hv,q,hm⟩:=c.ex
 obtain ⟨nm,qn,N,bs,hd',sn,sub,ab,col,dd,k0,k1,k2,k3,k5,lk⟩:=q.ex
 obtain ⟨bm',N',nm',qn',bs',hd'',sn',sub',ab',col',dd',j0,j1,j2,j3,j5,mN',hB,hN',hni',T'⟩:=sF I.kIn q.base
 have T:OwnTail s.heap vbm (.ref B::vbm):=.own (cd:=_) hB hN' hni' .base
 refine vV (C:=C) (nm:=nm) (q:=qn) (N:=N) (bs:=bs) (bm:=.ref B::vbm) (bmB:=vbm) (hdct:=hd') (sn:=sn) (sub:=sub) (ab:=ab) (col:=col) (dd:=dd) (k0:=k0) (k1:=k1) (k2:=k2) (k3:=k3) (k5:=k5) (K:=X.K) (fI:=fI) PySem.F.excBase_ValueError (by rfl) rfl q.init (beq_iff_eq.mp q.fn) (fX (X:=cxE X (.ref y)) (lR I (.ref y)) hg hm ?_ hd)
 refine ⟨rfl,I.kIn _ _ lk,I.kIn,T,fun h' e hx=>?_⟩
 obtain ⟨tt,he,_,_⟩:=hx.there
 have nH:H e=none:=by
  cases z:H e with
  | none=>rfl
  | some w' =>
   obtain ⟨o,ho⟩:=uH (I.hok e w' z)
   rw [hx.new] at ho
   cases ho
 have nb:∀ b o,s.heap.get? b=some o→b≠e:=fun b o z y=>by rw [y,hx.new] at z; cases z
 have up:∀ b w',H b=some w'→upd H e (eQ e C none) b=some w':=fun b w' z=>by rw [aK (aO z nH)]; exact z
 have I1:Inv X pins σ (upd H e (eQ e C none)) { s with heap:=h' }:=I.un (t':=s.toks) ⟨fun b o z _ _ _=>hx.keeps _ _ z,fun b o z _ _ _=>⟨o.slots,hx.keeps _ _ z⟩,fun b o z n _=>by rw [aK (nb b o z)]; exact n,fun b o z _=>⟨o,hx.keeps _ _ z⟩,fun b xs z=>up _ _ z,fun b o w' z=>up _ _ z,fun b ps z=>⟨#[],by rw [Array.append_empty]; exact up _ _ z⟩⟩ fun b w' z=>by
  by_cases y:b=e
  ·subst y
   rw [aB] at z
   cases z
   exact zA ⟨_,.ref tt,he,rfl,rfl,rfl⟩
  ·rw [aK y] at z
   exact (I.hok b w' z).stay (fun c v' _ r=>hx.keeps _ _ r) (fun c r=>up _ _ r) fun c xs r=>up _ _ r
 have e1:=I1.env0
 have e2:=(show Env0 X.prog X.w X.K X.mg X.base (X.A.mark (some (.ref y))) X.stack { s with heap:=h' } (upd H e (eQ e C none)) from ⟨e1.frames,e1.mod,e1.bs,e1.bsz,e1.funs,e1.frf,e1.hok,e1.bare⟩)
 refine wpAny_call (codeAny_mono (F.run _ X.stack _ _ ⟨[Value.ref e],[]⟩ [Value.ref e,u] [V.ref e,v] (fun v' H2=>v'=.non∧∃ dx,H dx=none∧dx≠e∧H2=upd (upd (upd H e (eQ e C none)) dx (.xd [(f,v)])) e (eQ e C (some dx))) E0 ((Room.held hr (some (.ref y))).make C [] []) (e2.make C [] [])
  (hb _ [Value.ref e] I1.kIn rfl) (.cons rfl (.cons hv .nil)) ⟨e,v,rfl,aB,fun dx e1 e2=>⟨rfl,dx,by rw [aK e2] at e1; exact e1,e2,rfl⟩⟩) fun r s3 hq=>?_)
 cases r with
 | error ev =>
  obtain ⟨_,_,_,_,_,_,_,_,_,_,_,_,_,_,_,_,hE⟩:=hq
  exact hE.elim
 | ok fl =>
  cases fl with
  | next=>exact False.elim hq
  | brk=>exact False.elim hq
  | cont=>exact False.elim hq
  | ret u3 =>
   obtain ⟨v3,H2,os,bare,un,hok,r3,rfl,dx,hdx,hde,rfl⟩:=hq
   have I3:Inv X pins σ _ s3:=I1.call' (ch:=[]) os un hok bare (fun b z=>absurd z (by simp))
   obtain ⟨⟨ob,a0,hob,hcl,hdi,hdt⟩,_,_⟩:=(show ObjOk X.prog X.w _ s3.heap e (.ext (qX e C (some dx))) from hok e _ aB)
   have eq2:∀ b,b≠e→upd (upd (upd H e (eQ e C none)) dx (.xd [(f,v)])) e (eQ e C (some dx)) b=upd H dx (.xd [(f,v)]) b:=fun b z=>by
    rw [aK z]
    by_cases y:b=dx
    ·rw [y,aB,aB]
    ·rw [aK y,aK y,aK z]
   have nH2:upd H dx (.xd [(f,v)]) e=none:=by rw [aK (Ne.symm hde)]; exact nH
   have ne1:∀ b w',H b=some w'→b≠e:=fun b w' z=>aO z nH
   have hye:y≠e:=nb y oy hy
   have hy3:s3.heap.get? y=some oy:=un.keep y oy (hx.keeps _ _ hy) (by rw [aK hye]; exact hyH) hyf (by simp)
   obtain ⟨oc,od,odt,osl⟩:=ob
   dsimp only at hcl hdi hdt
   subst hcl hdt
   refine ⟨(show u3=Value.none from r3),od,osl,a0,oy,ys,hye,I3.kIn _ _ lk,hob,hy3,hyd,hy2,fun h4 k4 e4=>?_⟩
   have keep4:∀ b o,b≠e→s3.heap.get? b=some o→h4.get? b=some o:=fun b o n z=>(k4 b n).trans z
   have un':Un (frs X.stack) [] H (upd H dx (.xd [(f,v)])) s.heap h4 :=
    ⟨fun b o z n hb' _=>keep4 _ _ (nb b o z) (un.keep b o (hx.keeps _ _ z) (by rw [aK (nb b o z)]; exact n) hb' (by simp)),fun b o z n hb' _=>by
      obtain ⟨sl,q⟩:=un.slot b o (hx.keeps _ _ z) (by rw [aK (nb b o z)]; exact n) hb' (by simp)
      exact ⟨sl,keep4 _ _ (nb b o z) q⟩,
     fun b o z n _=>(eq2 b (nb b o z)).symm.trans (un.free b o (hx.keeps _ _ z) (by rw [aK (nb b o z)]; exact n) (by simp)),fun b o z _=>by
      obtain ⟨o',q⟩:=un.there b o (hx.keeps _ _ z) (by simp)
      exact ⟨o',keep4 _ _ (nb b o z) q⟩,
     fun b xs z=>(eq2 b (ne1 b _ z)).symm.trans (un.tups b xs (up _ _ z)),fun b o w' z=>(eq2 b (ne1 b _ z)).symm.trans (un.frzs b o w' (up _ _ z)),fun b ps z=>by
     obtain ⟨m1,e1⟩:=un.tbls b ps (up _ _ z)
     exact ⟨m1,(eq2 b (ne1 b _ z)).symm.trans e1⟩⟩
   have hok':HOk X.prog X.w (upd H dx (.xd [(f,v)])) h4:=fun b w' z=>by
    have be:b≠e:=fun y=>by rw [y,nH2] at z; cases z
    refine (hok b w' ((eq2 b be).trans z)).stay (fun c o hc r=>keep4 c o ?_ r) (fun c r=>?_) fun c xs r=>?_
    ·rcases hc with rfl | hc
     ·exact be
     ·intro y
      rw [y,aB] at hc
      cases hc
    ·have ce:c≠e:=fun y=>by rw [y,aB] at r; cases r
     exact (eq2 c ce).symm.trans r
    ·have ce:c≠e:=fun y=>by rw [y,aB] at r; cases r
     exact (eq2 c ce).symm.trans r
   exact hxe pins σ H _ s { s3 with heap:=h4 } e _ _ a0 I os bare un' hok' hx.new nH2 e4 rfl rfl rfl rfl ⟨dx,hdi,h dx hdx⟩
def AU0 (K:Frag) (CB:Addr) (i j:Nat) (fF:Addr) (sp:Sp) (t:TA) (f:Str) (v:V) (R:Addr→Hp→Prop):TS:=fun D σ H=>σ[j]?=some (some (.ref fF))∧t σ H fun vs H1=>sp vs H1 (fun y H2=>D.nx (σ.set i (some y)) H2)
 fun cls _ H2=>exmOne K cls (.ref CB)=some true∧∀ dx,H2 dx=none→R dx (upd H2 dx (.xd [(f,v)]))
theorem AO2 {i j jj k k':Nat}{fn xn cn rn f:Str}{fF CB C:Addr}{ps:List Str}{sp:Sp}{e:Expr}{es:List Expr}{t:TA}{v:V}{R:Addr→Hp→Prop}{p1 p2 p3 p4 cp np cpos ap rpos hpos tpos:Pos}
  (hst:X.stack=X.env::X.outer) (hf:X.env.frame=some X.env.locals) (CF:CalF X.prog X.w X.K X.mg X.base fF ps k sp) (hr:Room k X.A) (hNf:X.N[j]?=some fn) (hvf:Vis X.env.scope fn)
  (ha:∀ E',PA { X with xe:=E' } (e::es) t) (hN:X.N.Nodup) (hi:X.N[i]?=some xn) (hx:Loc X.env.scope xn) (hfn:X.fn xn=true) (hgC:Gl X cn) (hmC:X.mg cn=some (.ref CB))
  (CI:CalIH X.prog X.w X.K X.mg X.base rn C f k' v) (hgr:Gl X rn) (hr':Room (k'+1) X.A) (hp:∀ u,PassesOwnAt (model X.prog X.w) (X.A.mark (some u)) X.A X.env X.xe) (hxe:BB8 X C R)
  (hdf:(fn == ("__debug__":Str))=false:=by decide) (hcf:(fn == ("__classdict__":Str))=false:=by decide) (hdc:(cn == ("__debug__":Str))=false:=by decide) (hdr:(rn == ("__debug__":Str))=false:=by decide)
  (he:starEach (e::es) X.env=(false,eval e X.env)::starEach es X.env:=by rfl) (hpl:(backTo p3 (starEach es X.env)).any (·.1)=false:=by rfl)
  (hsw:swapsWith (.Call (.Name fn p2) (e::es) [] p3) (some (.Name xn p1)) p4.line X.env=pure false:=by rfl) :
  PS X (.Try [.Assign [.Name xn p1] (.Call (.Name fn p2) (e::es) [] p3) p4] [.ExceptHandler (some (.Name cn cp)) none [.Raise (some (.Call (.Name rn np) [] [] cpos)) (some (.Constant .none jj ap)) rpos] hpos] [] [] tpos) (AU0 X.K CB i j fF sp t f v R):=by
 intro pins s σ H D I h
 obtain ⟨hσ,h⟩:=h
 obtain ⟨fd,F,hb,hk⟩:=CF.ex
 have body:wpAny (model X.prog X.w) X.A (exec (.Assign [.Name xn p1] (.Call (.Name fn p2) (e::es) [] p3) p4) X.env) (SP X pins D) (fun ev s'=>∃ H1 s1,Inv X pins σ H1 s1∧CXF X.prog X.w X.stack H1 s1 (fun cls _ H2=>exmOne X.K cls (.ref CB)=some true∧∀ dx,H2 dx=none→R dx (upd H2 dx (.xd [(f,v)]))) ev s') s:=by
  refine wpAny_Assign_Name (wpAny_Call_Name_kw ?_) hsw
  refine wpAny_mono (AF4 (X:={ X with xe:=fun _ _=>False }) hNf hvf hdf hcf pins s σ H (fun z Hz=>z=.ref fF∧Hz=H) (AT9 I _) ⟨_,hσ,rfl,rfl⟩) (fun u s1 q1=>?_) fun _ _ z=>z.elim
  obtain ⟨z,Hz,I1',rz,rfl,rfl⟩:=q1
  have I1:=AH7 I1'
  cases rz
  refine callWith_K (h₀:=X.base) I1.ok.mod.kin hk (wpAny_mono (ha (fun _ _=>False) p3 pins s1 σ Hz _ I1' h) (fun us s2 q2=>?_) fun _ _ z=>z.elim) he hpl
  obtain ⟨vs,H2,I2',r,q⟩:=q2
  have I2:=AH7 I2'
  refine ⟨I2.kIn,?_⟩
  have r2:Vals (vs++[]) (us++[]):=by rw [List.append_nil,List.append_nil]; exact r
  have q':sp (vs++[]) H2 (fun y H2=>D.nx (σ.set i (some y)) H2) (fun cls _ H2=>exmOne X.K cls (.ref CB)=some true∧∀ dx,H2 dx=none→R dx (upd H2 dx (.xd [(f,v)]))):=by rw [List.append_nil]; exact q
  have hlen:(us++[]).length=ps.length:=by rw [← r2.length]; exact F.len _ _ _ _ q'
  refine wpAny_call (codeAny_mono (F.run X.A X.stack s2 H2 ⟨us,[]⟩ (us++[]) (vs++[]) _ _ hr I2.env0 (hb s2 us I2.kIn hlen) r2 q') fun res s' hq=>?_)
  cases res with
  | ok fl =>
   cases fl with
   | ret u =>
    obtain ⟨y,H3,I3,r3,q3⟩:=I2.after hq
    exact lO I3 hN hi hx r3 (fun s4 I4=>⟨_,H3,I4,q3⟩) (.inl hfn)
   | next=>exact False.elim hq
   | brk=>exact False.elim hq
   | cont=>exact False.elim hq
  | error ev=>exact ⟨H2,s2,I2,hq⟩
 refine wpAny_Try_except (wpAny_execs_cons (wpAny_mono body (fun fl s' q=>?_) fun ev s' hq=>?_))
 ·cases fl with
  | next=>exact wpAny_execs_nil (wpAny_execs_nil q)
  | brk=>exact q
  | cont=>exact q
  | ret u=>exact q
 obtain ⟨H1,s1,I1,hq1⟩:=hq
 obtain ⟨x',cls,a0,dx,H2,B,rfl,os,bare,un,hok,fl,cT,cO,cA,⟨oe0,hoe0,hdx0,hc2⟩,hm1,hE⟩:=hq1
 obtain ⟨vs0,hvs0,hvs2⟩:=hc2 rfl
 have fl':=fl
 rw [hst] at fl'
 refine qP (base:=B) (outer:=X.outer) (L:=X.env.locals) (by rw [← hst]; exact I1.ok.frames) hf fl' fun h4 held4 up4 dk4=>?_
 refine AG5 held4 fun h5 fl5 up5 dk5=>?_
 rw [← hst] at fl5
 obtain ⟨un5,hok5⟩:=AP5 (P:=X.prog) (w:=X.w) un hok fl.1 fl.2.2.1 cT cO cA fl5.1 (up4.trans up5)
 have I5:Inv X pins σ H2 { s' with heap:=h5 }:=I1.call' (s':={ s' with heap:=h5 }) (ch:=[]) os un5 hok5 bare (fun b z=>absurd z (by simp))
 have X5:=lR I5 (.ref x')
 have ty5:Looks (model X.prog X.w) h5 (typeOf (.ref x')) cls:=by
  obtain ⟨ob,hob,hc⟩:=fl5.there
  subst hc
  exact (Looks.ld hob).andThen .now
 refine wpAny_handleBy_cons (codeAny_handlers_test (fX X5 hgC hmC ((exm_one I5.kIn ty5 hm1).here ?_) hdc)) (by intro z; cases z)
 refine codeAny_handlers_suite ?_
 refine kZ fl5 fun h6 fl6 up6 dk6=>?_
 obtain ⟨un6,hok6⟩:=AP5 (P:=X.prog) (w:=X.w) un5 hok5 fl5.1 fl5.2.2.1 cT cO cA fl6.1 up6
 obtain ⟨o1,g1,d1,z1⟩:=dk4 x' oe0 hoe0
 obtain ⟨o2,g2,d2,z2⟩:=dk5 x' o1 g1
 obtain ⟨o3,g3,d3,z3⟩:=dk6 x' o2 g2
 obtain ⟨vs3,hvs3,hvs4⟩:=(z1.trans (z2.trans z3)) vs0 hvs0
 have nH:H2 x'=none:=by
  cases z:H2 x' with
  | none=>rfl
  | some u =>
   obtain ⟨o,ho⟩:=cT x' u z
   rw [fl.2.1] at ho
   cases ho
 have nF:x' ∉ frs X.stack:=fun hx'=>by
  obtain ⟨_,o',ho',hn'⟩:=fl6.2.2.1.mem hx'
  obtain ⟨oe,ws,hoe,_,hoed,_⟩:=fl6.first
  rw [hoe] at ho'
  cases ho'
  exact hn' _ hoed
 have I6:Inv X pins σ H2 { s' with heap:=h6 }:=I1.call' (s':={ s' with heap:=h6 }) (ch:=[]) os un6 hok6 bare (fun b z=>absurd z (by simp))
 refine wpAny_execs_cons (wpAny_mono (vW (Q:=fun _ _=>False) CI hgr hr' hxe I6 g3 hvs3 (hvs4.trans hvs2) nH nF hE hdr) (fun _ _ z=>z.elim) (hp (.ref x')))
end
section
variable {P:Program}{w:World}{K:Frag}{mg:Str→Option Value}{base:Heap}{N:List Str}{qual:Str}{sc:Scope}{f:Addr}{cdv:Value}{A:Around}{outer:List Env}{s:Shared}{H:Hp}{E:XK}{C:Addr}
theorem BB9:BB8 (nX false P w K mg base N qual sc f cdv A outer s H E) C (fun dx H9=>E (.ref C) (some dx) H9) :=
 fun pins σ H1 H' s1 s' e oe vs a0 I os bare un hok fe nH he hd h1 h0 hcl ⟨dx,hdi,hE⟩=>iW I rfl rfl rfl os bare un hok fe nH he hd h1 h0 (fun z=>nomatch z) (by rw [hcl,hdi]; exact hE)
theorem AE0:∀ u,PassesOwnAt (model P w) ((nX false P w K mg base N qual sc f cdv A outer s H E).A.mark (some u)) (nX false P w K mg base N qual sc f cdv A outer s H E).A (nX false P w K mg base N qual sc f cdv A outer s H E).env (nX false P w K mg base N qual sc f cdv A outer s H E).xe:=fun _=>PassesOwnAt.leaving
end
theorem zH {K:Frag}{CB:Addr}{i j:Nat}{fF:Addr}{sp:Sp}{t:TA}{f:Str}{v:V}{R:Addr→Hp→Prop}{D:Ends}{σ:L2.St}{H:Hp}:AU0 K CB i j fF sp t f v R D σ H=(σ[j]?=some (some (.ref fF))∧t σ H fun vs H1=>sp vs H1 (fun y H2=>D.nx (σ.set i (some y)) H2)
 fun cls _ H2=>exmOne K cls (.ref CB)=some true∧∀ dx,H2 dx=none→R dx (upd H2 dx (.xd [(f,v)]))):=rfl
abbrev sp1:Str:=⟨#[32]⟩
def lB (n:Int):Str:=((toString n:String):Str)
mutual
def Tr.ws:Tr→List Str
 | .any=>[("any":Str)]
 | .kind us=>("kind":Str)::us
 | .place us=>("place":Str)::us
 | .weight n=>[("weight":Str),lB n]
 | .not t=>("not":Str)::t.ws
 | .both ts=>("(":Str)::(ts.ws "&"++[(")":Str)])
 | .either ts=>("(":Str)::(ts.ws "|"++[(")":Str)])
def Trs.ws (s:Str):Trs→List Str
 | .nil=>[]
 | .cons t .nil=>t.ws
 | .cons t (.cons t' ts)=>t.ws++s::Trs.ws s (.cons t' ts)
end
theorem oH (s:Str) (t:Tr):Trs.ws s (.cons t .nil)=t.ws:=by rw [Trs.ws.eq_def]
theorem kJ (s:Str) (t t':Tr) (ts:Trs):Trs.ws s (.cons t (.cons t' ts))=t.ws++s::Trs.ws s (.cons t' ts):=by rw [Trs.ws.eq_def]
theorem gA:∀ t:Tr,t.ws≠[]
 | .any=>by rw [Tr.ws]; exact List.cons_ne_nil _ _
 | .kind us=>by rw [Tr.ws]; exact List.cons_ne_nil _ _
 | .place us=>by rw [Tr.ws]; exact List.cons_ne_nil _ _
 | .weight n=>by rw [Tr.ws]; exact List.cons_ne_nil _ _
 | .not t=>by rw [Tr.ws]; exact List.cons_ne_nil _ _
 | .both ts=>by rw [Tr.ws]; exact List.cons_ne_nil _ _
 | .either ts=>by rw [Tr.ws]; exact List.cons_ne_nil _ _
mutual
def Tr.tx:Tr→Str
 | .any=>"any"
 | .kind us=>Str.join sp1 (("kind":Str)::us)
 | .place us=>Str.join sp1 (("place":Str)::us)
 | .weight n=>("weight ":Str)++lB n
 | .not t=>("not ":Str)++t.tx
 | .both ts=>("( ":Str)++Str.join (" & ":Str) ts.tx++(" )":Str)
 | .either ts=>("( ":Str)++Str.join (" | ":Str) ts.tx++(" )":Str)
def Trs.tx:Trs→List Str
 | .nil=>[]
 | .cons t ts=>t.tx::ts.tx
end
theorem fM:∀ ts:Trs,ts.tx=ts.toL.map Tr.tx
 | .nil=>rfl
 | .cons t ts=>by rw [Trs.tx,Trs.toL,List.map_cons,fM ts]
mutual
def Tr.wf:Tr→Prop
 | .any=>True
 | .kind us=>us≠[]∧(∀ u∈us,aZ u)∧us.Nodup
 | .place us=>us≠[]∧(∀ u∈us,aZ u)∧us.Nodup
 | .weight n=>0≤n∧n < 1000000
 | .not t=>t.wf
 | .both ts=>2≤ts.toL.length∧ts.wf
 | .either ts=>2≤ts.toL.length∧ts.wf
def Trs.wf:Trs→Prop
 | .nil=>True
 | .cons t ts=>t.wf∧ts.wf
end
mutual
theorem Tr.ok.wf:∀ {t:Tr},t.ok→t.wf
 | .any,_=>by rw [Tr.wf]; trivial
 | .kind us,h=>by rw [Tr.ok] at h; rw [Tr.wf]; exact ⟨h.1,h.2.2.1,h.2.2.2⟩
 | .place us,h=>by rw [Tr.ok] at h; rw [Tr.wf]; exact ⟨h.1,h.2.2.1,h.2.2.2⟩
 | .weight n,h=>by rw [Tr.ok] at h; rw [Tr.wf]; exact h
 | .not t,h=>by rw [Tr.ok] at h; rw [Tr.wf]; exact Tr.ok.wf h
 | .both ts,h=>by rw [Tr.ok] at h; rw [Tr.wf]; exact ⟨h.1,Trs.ok.wf h.2.2⟩
 | .either ts,h=>by rw [Tr.ok] at h; rw [Tr.wf]; exact ⟨h.1,Trs.ok.wf h.2.2⟩
theorem Trs.ok.wf:∀ {ts:Trs},ts.ok→ts.wf
 | .nil,_=>by rw [Trs.wf]; trivial
 | .cons t ts,h=>by rw [Trs.ok] at h; rw [Trs.wf]; exact ⟨Tr.ok.wf h.1,Trs.ok.wf h.2⟩
end
theorem trs_wf:∀ {ts:Trs},ts.wf ↔ ∀ t∈ts.toL,t.wf
 | .nil=>⟨fun _ t h=>(by cases h),fun _=>by rw [Trs.wf]; trivial⟩
 | .cons s ts=>by
  rw [Trs.toL,Trs.wf,trs_wf]
  exact ⟨fun h t m=>by
   rcases List.mem_cons.mp m with rfl | m
   ·exact h.1
   ·exact h.2 t m,fun h=>⟨h s List.mem_cons_self,fun t m=>h t (List.mem_cons_of_mem _ m)⟩⟩
theorem dS {a:Str}{r:List Str}(h:r≠[]):Str.join sp1 (a::r)=a++sp1++Str.join sp1 r:=by
 cases r with
 | nil=>exact absurd rfl h
 | cons b r=>rfl
theorem pJ (s:Str):∀ {ts:Trs},ts.toL≠[]→ts.ws s≠[]
 | .nil,h=>absurd rfl h
 | .cons t .nil,_=>by rw [oH]; exact gA t
 | .cons t (.cons t' ts),_=>by rw [kJ]; simp
theorem vX {ts:Trs}(h:2≤ts.toL.length):ts.toL≠[]:=fun z=>by rw [z] at h; simp at h
mutual
theorem qY:∀ t:Tr,t.wf→t.tx=Str.join sp1 t.ws
 | .any,_=>rfl
 | .kind us,_=>rfl
 | .place us,_=>rfl
 | .weight n,_=>by
  rw [Tr.tx,Tr.ws,dS (by simp)]
  exact dX (by simp only [cX]; rfl)
 | .not t,h=>by
  rw [Tr.wf] at h
  rw [Tr.tx,Tr.ws,dS (gA t),qY t h]
  exact dX (by simp only [cX]; rfl)
 | .both ts,h=>by
  rw [Tr.wf] at h
  have hn:=vX h.1
  rw [Tr.tx,Tr.ws,dS (by simp),gM (pJ _ hn) (by simp),txs_ws "&" " & " rfl ts h.2 hn]
  exact dX (by simp only [cX,List.append_assoc]; rfl)
 | .either ts,h=>by
  rw [Tr.wf] at h
  have hn:=vX h.1
  rw [Tr.tx,Tr.ws,dS (by simp),gM (pJ _ hn) (by simp),txs_ws "|" " | " rfl ts h.2 hn]
  exact dX (by simp only [cX,List.append_assoc]; rfl)
theorem txs_ws (s s3:Str) (e:s3=sp1++s++sp1):∀ ts:Trs,ts.wf→ts.toL≠[]→Str.join s3 ts.tx=Str.join sp1 (ts.ws s)
 | .nil,_,h=>absurd rfl h
 | .cons t .nil,h,_=>by
  rw [Trs.wf] at h
  rw [Trs.tx,Trs.tx,oH]
  exact qY t h.1
 | .cons t (.cons t' ts),h,_=>by
  rw [Trs.wf] at h
  have i:=txs_ws s s3 e (.cons t' ts) h.2 (by rw [Trs.toL]; simp)
  have hn:Trs.ws s (.cons t' ts)≠[]:=pJ s (by rw [Trs.toL]; simp)
  rw [kJ,gM (gA t) (by simp),dS hn,← i,← qY t h.1,Trs.tx,Trs.tx]
  show t.tx++s3++Str.join s3 (t'.tx::ts.tx)=_
  rw [e]
  exact dX (by simp only [cX,List.append_assoc])
end
def vY (u:Str):Bool:=decide (1≤u.length∧u.length≤60∧∀ c∈u.cps.toList,48≤c∧c≤57) && (decide (u="0") || !Txt.startswith u "0")
def nI (u:Str):Bool:=if Txt.startswith u "-"=true then vY (Txt.slice u (some 1) none) && !decide (u="-0") else vY u
def vZ (u:Str):Int:=(PySem.intText? u).getD 0
theorem iH (x:Str) (c:Nat):Txt.startswith x ⟨#[c]⟩=decide (x.cps.toList.head?=some c):=by
 obtain ⟨⟨l⟩⟩:=x
 cases l with
 | nil=>rfl
 | cons a l =>
  unfold Txt.startswith Builtin.Str.subAt
  have e:(⟨#[c]⟩:Str).length=1:=rfl
  rw [e,Bool.eq_iff_iff]
  simp only [Bool.and_eq_true,decide_eq_true_eq,beq_iff_eq]
  constructor
  ·rintro ⟨_,h⟩
   have h2:=congrArg Array.toList h
   simp at h2
   simp [h2]
  ·intro h
   simp at h
   refine ⟨by show 0+1≤(a::l).length; simp,?_⟩
   apply Array.toList_inj.mp
   simp [h]
theorem mQ:∀ m:Nat,0 < m→(Nat.toDigits 10 m).head?≠some '0'∧Nat.toDigits 10 m≠[]:=by
 intro m
 induction m using Nat.strongRecOn with
 | _ m ih =>
  intro h0
  by_cases h:m < 10
  ·rw [Nat.toDigits_of_lt_base h]
   have q:∀ k:Nat,k < 10→0 < k→Nat.digitChar k≠'0':=by decide
   exact ⟨by simpa using q m h h0,by simp⟩
  ·have hm:m % 10 < 10:=Nat.mod_lt m (by decide)
   have t:Nat.toDigits 10 (m / 10)++Nat.toDigits 10 (m % 10)=Nat.toDigits 10 (10 * (m / 10)+m % 10):=Nat.toDigits_append_toDigits (by decide) (by omega) hm
   rw [Nat.div_add_mod] at t
   obtain ⟨i1,i2⟩:=ih (m / 10) (by omega) (by omega)
   rw [← t]
   refine ⟨?_,by simp [i2]⟩
   cases e:Nat.toDigits 10 (m / 10) with
   | nil=>exact absurd e i2
   | cons a l=>rw [e] at i1; simpa using i1
theorem mR {n:Int}(h:0≤n):(lB n).cps.toList=(Nat.toDigits 10 n.toNat).map Char.toNat:=by
 obtain ⟨m,rfl⟩:=Int.eq_ofNat_of_zero_le h
 exact KIN.signs_num m
theorem pK {n:Int}(h:0≤n):∀ c∈(lB n).cps.toList,48≤c∧c≤57:=by
 intro c hc
 rw [mR h] at hc
 obtain ⟨ch,hch,e⟩:=List.mem_map.mp hc
 have r:=PyProof.Rows.digit_range (Nat.isDigit_of_mem_toDigits (by decide) (by decide) hch)
 rw [← e]
 exact r
theorem sY {n:Int}(h0:0≤n) (h1:n < 1000000):1≤(lB n).length∧(lB n).length≤10:=by
 have hl:=KT.len_num h0 (show n < 10 ^ 10 by omega)
 refine ⟨?_,hl⟩
 have e:(lB n).length=(lB n).cps.toList.length:=by simp [Str.length]
 rw [e,mR h0,List.length_map]
 by_cases z:n=0
 ·subst z; decide
 ·exact List.length_pos_iff.mpr (mQ n.toNat (by omega)).2
theorem AE1 {n:Int}(h0:0≤n) (hn:n≠0):(lB n).cps.toList.head?≠some 48:=by
 rw [mR h0]
 obtain ⟨i1,i2⟩:=mQ n.toNat (by omega)
 cases e:Nat.toDigits 10 n.toNat with
 | nil=>exact absurd e i2
 | cons a l =>
  rw [e] at i1
  intro h
  simp at h i1
  exact i1 (Char.ext (UInt32.toNat_inj.mp h))
theorem uX {n:Int}(h0:0≤n) (h1:n < 1000000):nI (lB n)=true∧PySem.intText? (lB n)=some n∧vZ (lB n)=n:=by
 have e:=KIN.num_reads h0 (show n < 10 ^ 10 by omega)
 refine ⟨?_,e,?_⟩
 ·obtain ⟨l1,l2⟩:=sY h0 h1
  have hd:=pK h0
  have ns:Txt.startswith (lB n) "-"=false:=by
   show Txt.startswith (lB n) ⟨#[45]⟩=false
   rw [iH]
   refine decide_eq_false fun h=>?_
   cases q:(lB n).cps.toList with
   | nil=>rw [q] at h; cases h
   | cons a l =>
    have:=hd a (by rw [q]; exact List.mem_cons_self)
    rw [q] at h
    simp at h
    omega
  unfold nI vY
  rw [ns,if_neg (by decide),Bool.and_eq_true]
  refine ⟨decide_eq_true ⟨l1,by omega,hd⟩,?_⟩
  by_cases z:n=0
  ·subst z; decide +kernel
  ·rw [Bool.or_eq_true]
   right
   show (!Txt.startswith (lB n) ⟨#[48]⟩)=true
   rw [iH,decide_eq_false (AE1 h0 z)]
   rfl
 ·unfold vZ
  rw [show PySem.intText? (lB n)=some n from e]
  rfl
structure Fm where
 sg:Str
 inn:List Tr
def plainF:List Str→List Fm→Option (Tr × List Str × List Fm)
 | [],_=>none
 | w::r,S =>
  if w="not"∨w="(" then plainF r (⟨w,[]⟩::S)
  else if w="any" then some (.any,r,S)
  else if w="kind" then (if r.takeWhile (fun u=>decide (aZ u))≠[]∧(r.takeWhile (fun u=>decide (aZ u))).Nodup then some (.kind (r.takeWhile fun u=>decide (aZ u)),r.dropWhile (fun u=>decide (aZ u)),S) else none)
  else if w="place" then (if r.takeWhile (fun u=>decide (aZ u))≠[]∧(r.takeWhile (fun u=>decide (aZ u))).Nodup then some (.place (r.takeWhile fun u=>decide (aZ u)),r.dropWhile (fun u=>decide (aZ u)),S) else none)
  else if w="weight" then (match r with
   | []=>none
   | n::r'=>if nI n=true∧0≤vZ n then some (.weight (vZ n),r',S) else none)
  else none
def closeF:List Fm→Tr→List Str→Option ((Tr × List Str) ⊕ (List Str × List Fm))
 | [],t,r=>some (.inl (t,r))
 | f::S,t,r =>
  if f.sg="not" then closeF S (.not t) r
  else match r with
   | []=>none
   | w::r' =>
    if w=")" then (if f.sg="&" then closeF S (.both (Trs.ofL (f.inn++[t]))) r' else if f.sg="|" then closeF S (.either (Trs.ofL (f.inn++[t]))) r' else none)
    else if (w="&"∨w="|")∧(f.sg="("∨f.sg=w) then some (.inr (r',⟨w,f.inn++[t]⟩::S)) else none
theorem bK (w:Str) (r:List Str) (S:List Fm):plainF (w::r) S=(
  if w="not"∨w="(" then plainF r (⟨w,[]⟩::S)
  else if w="any" then some (.any,r,S)
  else if w="kind" then (if r.takeWhile (fun u=>decide (aZ u))≠[]∧(r.takeWhile (fun u=>decide (aZ u))).Nodup then some (.kind (r.takeWhile fun u=>decide (aZ u)),r.dropWhile (fun u=>decide (aZ u)),S) else none)
  else if w="place" then (if r.takeWhile (fun u=>decide (aZ u))≠[]∧(r.takeWhile (fun u=>decide (aZ u))).Nodup then some (.place (r.takeWhile fun u=>decide (aZ u)),r.dropWhile (fun u=>decide (aZ u)),S) else none)
  else if w="weight" then (match r with
   | []=>none
   | n::r'=>if nI n=true∧0≤vZ n then some (.weight (vZ n),r',S) else none)
  else none):=by rw [plainF.eq_def]
theorem cH (f:Fm) (S:List Fm) (t:Tr) (r:List Str):closeF (f::S) t r=(
  if f.sg="not" then closeF S (.not t) r
  else match r with
   | []=>none
   | w::r' =>
    if w=")" then (if f.sg="&" then closeF S (.both (Trs.ofL (f.inn++[t]))) r' else if f.sg="|" then closeF S (.either (Trs.ofL (f.inn++[t]))) r' else none)
    else if (w="&"∨w="|")∧(f.sg="("∨f.sg=w) then some (.inr (r',⟨w,f.inn++[t]⟩::S)) else none):=by rw [closeF.eq_def]
def AE2:Nat→List Str→List Fm→Option (Tr × List Str)
 | 0,_,_=>none
 | n+1,r,S=>match plainF r S with
  | none=>none
  | some (t,r',S')=>match closeF S' t r' with
   | none=>none
   | some (.inl x)=>some x
   | some (.inr (r2,S2))=>AE2 n r2 S2
def nJ (r:List Str) (S:List Fm):Option (Tr × List Str):=AE2 (r.length+1) r S
def AW3 (u:Str):Prop:=u ∉ ([("not":Str),"(","any","kind","place","weight",")","&","|"]:List Str)∧¬ aZ u∧nI u=false
def Eats (r r':List Str):Prop:=∃ p,r=p++r'∧∀ x∈p,¬ AW3 x
theorem Eats.refl (r:List Str):Eats r r:=⟨[],rfl,fun x h=>by cases h⟩
theorem Eats.trans {a b c:List Str}(x:Eats a b) (y:Eats b c):Eats a c:=by
 obtain ⟨p,rfl,hp⟩:=x
 obtain ⟨q,rfl,hq⟩:=y
 exact ⟨p++q,by rw [List.append_assoc],fun z hz=>(List.mem_append.mp hz).elim (hp z) (hq z)⟩
theorem Eats.one {w:Str}{r:List Str}(h:w∈([("not":Str),"(","any","kind","place","weight",")","&","|"]:List Str)):Eats (w::r) r:=⟨[w],rfl,fun x hx=>by rw [List.mem_singleton.mp hx]; exact fun z=>z.1 h⟩
theorem Eats.num {w:Str}{r:List Str}(h:nI w=true):Eats (w::r) r:=⟨[w],rfl,fun x hx=>by rw [List.mem_singleton.mp hx]; exact fun z=>by have q:=z.2.2; rw [h] at q; cases q⟩
theorem lS {α:Type}{p:α→Bool}{x:α}:∀ {l:List α},x∈l.takeWhile p→p x=true
 | [],h=>by cases h
 | a::l,h=>by
  rw [List.takeWhile_cons] at h
  split at h
  ·rename_i ha
   rcases List.mem_cons.mp h with rfl | h
   ·exact ha
   ·exact lS h
  ·cases h
theorem Eats.names (r:List Str):Eats r (r.dropWhile fun u=>decide (aZ u)):=⟨r.takeWhile fun u=>decide (aZ u),List.takeWhile_append_dropWhile.symm,fun x hx=>fun z=>z.2.1 (of_decide_eq_true (p:=aZ x) (lS (p:=fun u=>decide (aZ u)) hx))⟩
theorem Eats.len {a b:List Str}(x:Eats a b):b.length≤a.length:=by
 obtain ⟨p,rfl,_⟩:=x
 rw [List.length_append]
 omega
theorem iI:∀ {r:List Str}{S:List Fm}{t:Tr}{r':List Str}{S':List Fm},plainF r S=some (t,r',S')→Eats r r'∧r'.length < r.length
 | [],S,t,r',S',h=>by cases h
 | w::r,S,t,r',S',h=>by
  rw [bK] at h
  split at h
  ·rename_i hw
   obtain ⟨a,b⟩:=iI h
   exact ⟨(Eats.one (by rcases hw with rfl | rfl <;> simp)).trans a,by rw [List.length_cons]; omega⟩
  split at h
  ·rename_i hw
   cases h
   exact ⟨Eats.one (by rw [hw]; simp),by rw [List.length_cons]; omega⟩
  split at h
  ·rename_i hw
   split at h
   ·cases h
    exact ⟨(Eats.one (by rw [hw]; simp)).trans (Eats.names r),by have:=(Eats.names r).len; rw [List.length_cons]; omega⟩
   ·cases h
  split at h
  ·rename_i hw
   split at h
   ·cases h
    exact ⟨(Eats.one (by rw [hw]; simp)).trans (Eats.names r),by have:=(Eats.names r).len; rw [List.length_cons]; omega⟩
   ·cases h
  split at h
  ·rename_i hw
   cases r with
   | nil=>cases h
   | cons n r =>
    dsimp only at h
    split at h
    ·rename_i hn
     cases h
     exact ⟨(Eats.one (by rw [hw]; simp)).trans (Eats.num hn.1),by rw [List.length_cons,List.length_cons]; omega⟩
    ·cases h
  ·cases h
def BC0 (r:List Str):(Tr × List Str) ⊕ (List Str × List Fm)→Prop
 | .inl x=>Eats r x.2
 | .inr x=>Eats r x.1∧x.1.length < r.length
theorem eR:∀ {S:List Fm}{t:Tr}{r:List Str}{x:(Tr × List Str) ⊕ (List Str × List Fm)},closeF S t r=some x→BC0 r x
 | [],t,r,x,h=>by cases h; exact Eats.refl r
 | f::S,t,r,x,h=>by
  rw [cH] at h
  split at h
  ·exact eR h
  cases r with
  | nil=>cases h
  | cons w r =>
   dsimp only at h
   have up:∀ {y},BC0 r y→w∈([("not":Str),"(","any","kind","place","weight",")","&","|"]:List Str)→BC0 (w::r) y:=fun {y} hy hw=>by
    cases y with
    | inl y=>exact (Eats.one hw).trans hy
    | inr y=>exact ⟨(Eats.one hw).trans hy.1,by have:=hy.2; rw [List.length_cons]; omega⟩
   split at h
   ·rename_i hw
    split at h
    ·exact up (eR h) (by rw [hw]; simp)
    split at h
    ·exact up (eR h) (by rw [hw]; simp)
    ·cases h
   split at h
   ·rename_i hw
    cases h
    exact ⟨Eats.one (by rcases hw.1 with rfl | rfl <;> simp),by show r.length < (w::r).length; rw [List.length_cons]; omega⟩
   ·cases h
theorem qZ:∀ {n m:Nat}{r:List Str}{S:List Fm},r.length < n→r.length < m→AE2 n r S=AE2 m r S
 | 0,m,r,S,h,_=>absurd h (Nat.not_lt_zero _)
 | n,0,r,S,_,h=>absurd h (Nat.not_lt_zero _)
 | n+1,m+1,r,S,h1,h2=>by
  rw [AE2,AE2]
  cases e:plainF r S with
  | none=>rfl
  | some x =>
   obtain ⟨t,r',S'⟩:=x
   dsimp only
   have l1:=(iI e).2
   cases e2:closeF S' t r' with
   | none=>rfl
   | some y =>
    cases y with
    | inl y=>rfl
    | inr y =>
     have l2:=(eR e2).2
     exact qZ (by omega) (by omega)
def after (S:List Fm) (t:Tr) (r:List Str):Option (Tr × List Str):=match closeF S t r with
 | none=>none
 | some (.inl x)=>some x
 | some (.inr (r2,S2))=>nJ r2 S2
theorem eN (r:List Str) (S:List Fm):nJ r S=match plainF r S with
  | none=>none
  | some (t,r',S')=>after S' t r':=by
 rw [nJ,AE2]
 cases e:plainF r S with
 | none=>rfl
 | some x =>
  obtain ⟨t,r',S'⟩:=x
  dsimp only
  have l1:=(iI e).2
  rw [after]
  cases e2:closeF S' t r' with
  | none=>rfl
  | some y =>
   cases y with
   | inl y=>rfl
   | inr y =>
    have l2:=(eR e2).2
    exact qZ (by omega) (Nat.lt_succ_self _)
theorem uY:∀ {n:Nat}{r:List Str}{S:List Fm}{t:Tr}{r':List Str},AE2 n r S=some (t,r')→Eats r r'
 | 0,r,S,t,r',h=>by cases h
 | n+1,r,S,t,r',h=>by
  rw [AE2] at h
  cases e:plainF r S with
  | none=>rw [e] at h; cases h
  | some x =>
   obtain ⟨t1,r1,S1⟩:=x
   rw [e] at h
   dsimp only at h
   have l1:=(iI e).1
   cases e2:closeF S1 t1 r1 with
   | none=>rw [e2] at h; cases h
   | some y =>
    rw [e2] at h
    have l2:=eR e2
    cases y with
    | inl y=>cases h; exact l1.trans l2
    | inr y=>exact l1.trans (l2.1.trans (uY h))
theorem kK {r:List Str}{w:Str}(hw:AW3 w) (hm:w∈r) (t:Tr):nJ r []≠some (t,[]):=fun h=>by
 obtain ⟨p,e,hp⟩:=uY h
 rw [List.append_nil] at e
 subst e
 exact hp w hm hw
def BF0:List Str→Prop
 | []=>True
 | w::_=>¬ aZ w
theorem oI {us r:List Str}(h:∀ u∈us,aZ u) (hr:BF0 r):(us++r).takeWhile (fun u=>decide (aZ u))=us∧(us++r).dropWhile (fun u=>decide (aZ u))=r:=by
 induction us with
 | nil =>
  cases r with
  | nil=>exact ⟨rfl,rfl⟩
  | cons w r =>
   have e:decide (aZ w)=false:=decide_eq_false hr
   rw [List.nil_append,List.takeWhile_cons,List.dropWhile_cons,e]
   exact ⟨rfl,rfl⟩
 | cons u us ih =>
  have e:decide (aZ u)=true:=decide_eq_true (h u List.mem_cons_self)
  obtain ⟨i1,i2⟩:=ih fun v hv=>h v (List.mem_cons_of_mem _ hv)
  rw [List.cons_append,List.takeWhile_cons,List.dropWhile_cons,e,if_pos rfl,if_pos rfl,i1,i2]
  exact ⟨rfl,rfl⟩
theorem sZ:∀ ts:Trs,Trs.ofL ts.toL=ts
 | .nil=>rfl
 | .cons t ts=>by rw [Trs.toL,Trs.ofL,sZ ts]
mutual
theorem zI:∀ {t:Tr}{r:List Str}{S:List Fm},t.wf→BF0 r→nJ (t.ws++r) S=after S t r
 | .any,r,S,_,_=>by
  rw [Tr.ws,eN]
  rfl
 | .kind us,r,S,h,hr=>by
  rw [Tr.wf] at h
  obtain ⟨e1,e2⟩:=oI h.2.1 hr
  rw [Tr.ws,eN,List.cons_append,bK,if_neg (by decide),if_neg (by decide),if_pos rfl,e1,e2,if_pos ⟨h.1,h.2.2⟩]
 | .place us,r,S,h,hr=>by
  rw [Tr.wf] at h
  obtain ⟨e1,e2⟩:=oI h.2.1 hr
  rw [Tr.ws,eN,List.cons_append,bK,if_neg (by decide),if_neg (by decide),if_neg (by decide),if_pos rfl,e1,e2,if_pos ⟨h.1,h.2.2⟩]
 | .weight n,r,S,h,_=>by
  rw [Tr.wf] at h
  obtain ⟨e1,e2,e3⟩:=uX h.1 h.2
  rw [Tr.ws,eN,List.cons_append,bK,if_neg (by decide),if_neg (by decide),if_neg (by decide),if_neg (by decide),if_pos rfl]
  dsimp only [List.cons_append,List.nil_append]
  rw [if_pos ⟨e1,by rw [e3]; exact h.1⟩,e3]
 | .not t,r,S,h,hr=>by
  rw [Tr.wf] at h
  have i:=zI (t:=t) (r:=r) (S:=⟨"not",[]⟩::S) h hr
  rw [eN] at i
  rw [Tr.ws,eN,List.cons_append,bK,if_pos (by decide),i,after,cH,if_pos rfl]
  rfl
 | .both ts,r,S,h,hr=>by
  rw [Tr.wf] at h
  have i:=rounds (s:="&") (mk:=.both) (fun S t r f hf=>by rw [after,after,cH,hf.1,if_neg (by decide)]; dsimp only; rw [if_pos rfl,if_pos rfl]) (by decide) (by decide) (by decide) (by decide) (ts:=ts) (r:=r) (S:=S) (f:=⟨"(",[]⟩) h.2 (vX h.1) (.inl rfl) (by rw [List.nil_append]; exact h.1) (fun _=>rfl) (fun z=>absurd z (by decide))
  rw [eN] at i
  rw [Tr.ws,eN,List.cons_append,bK,if_pos (by decide),List.append_assoc,List.singleton_append]
  rw [i,List.nil_append,sZ]
 | .either ts,r,S,h,hr=>by
  rw [Tr.wf] at h
  have i:=rounds (s:="|") (mk:=.either) (fun S t r f hf=>by rw [after,after,cH,hf.1,if_neg (by decide)]; dsimp only; rw [if_pos rfl,if_neg (by decide),if_pos rfl]) (by decide) (by decide) (by decide) (by decide) (ts:=ts) (r:=r) (S:=S) (f:=⟨"(",[]⟩) h.2 (vX h.1) (.inl rfl) (by rw [List.nil_append]; exact h.1) (fun _=>rfl) (fun z=>absurd z (by decide))
  rw [eN] at i
  rw [Tr.ws,eN,List.cons_append,bK,if_pos (by decide),List.append_assoc,List.singleton_append]
  rw [i,List.nil_append,sZ]
theorem rounds {s:Str}{mk:Trs→Tr}(hc:∀ (S:List Fm) (t:Tr) (r:List Str) (f:Fm),f.sg=s∧True→after (f::S) t ((")":Str)::r)=after S (mk (Trs.ofL (f.inn++[t]))) r) (h1:s="&"∨s="|") (h2:s≠")") (h3:s≠"not") (h4:¬ aZ s) :
  ∀ {ts:Trs}{r:List Str}{S:List Fm}{f:Fm},ts.wf→ts.toL≠[]→(f.sg="("∨f.sg=s)→2≤(f.inn++ts.toL).length→(f.sg="("→f.inn=[])→(f.sg="not"→False)→nJ (ts.ws s++((")":Str)::r)) (f::S)=after S (mk (Trs.ofL (f.inn++ts.toL))) r
 | .nil,r,S,f,_,h,_,_,_,_=>absurd rfl h
 | .cons t .nil,r,S,f,h,_,hf,hl,h0,hn=>by
  rw [Trs.wf] at h
  have i:=zI (t:=t) (r:=(")":Str)::r) (S:=f::S) h.1 (show ¬ aZ ")" by decide)
  have hs:f.sg=s:=by
   rcases hf with z | z
   ·rw [h0 z] at hl
    simp [Trs.toL] at hl
   ·exact z
  rw [oH,i,hc S t r f ⟨hs,trivial⟩]
  rfl
 | .cons t (.cons t' ts),r,S,f,h,_,hf,hl,h0,hn=>by
  rw [Trs.wf] at h
  have i:=zI (t:=t) (r:=s::(Trs.ws s (.cons t' ts)++((")":Str)::r))) (S:=f::S) h.1 h4
  have j:=rounds hc h1 h2 h3 h4 (ts:=.cons t' ts) (r:=r) (S:=S) (f:=⟨s,f.inn++[t]⟩) h.2 (by rw [Trs.toL]; simp) (.inr rfl) (by rw [Trs.toL,List.length_append,List.length_append,List.length_cons,List.length_cons,List.length_nil]; omega) (fun z=>by
   have z:s="(":=z
   rcases h1 with y | y
   ·rw [y] at z; exact absurd z (by decide)
   ·rw [y] at z; exact absurd z (by decide)) (fun z=>h3 z)
  rw [kJ,List.append_assoc,List.cons_append,i,after,cH,if_neg (fun z=>hn z)]
  dsimp only
  rw [if_neg h2,if_pos ⟨h1,hf.imp id id⟩]
  dsimp only
  rw [j]
  show after S (mk (Trs.ofL (f.inn++[t]++(Trs.cons t' ts).toL))) r=after S (mk (Trs.ofL (f.inn++(t::(Trs.cons t' ts).toL)))) r
  rw [List.append_assoc]
  rfl
end
theorem pL (H:Hp):Same H H:=fun _ _ z=>z
def Out (M:List Addr) (H:Hp):Hp:=fun b=>if b∈M then none else H b
theorem gS {M:List Addr}{H:Hp}{b:Addr}{o:HO}(n:b ∉ M) (h:H b=some o):Out M H b=some o:=by
 unfold Out; rw [if_neg n]; exact h
theorem pM {M:List Addr}{H:Hp}:Same (Out M H) H:=fun b o h=>by
 unfold Out at h
 split at h
 ·cases h
 ·exact h
theorem iJ {M M':List Addr}{H H':Hp}(h:∀ b o,b ∉ M→H b=some o→b ∉ M'∧H' b=some o):Same (Out M H) (Out M' H'):=fun b o e=>by
 unfold Out at e
 split at e
 ·cases e
 ·rename_i n
  exact gS (h b o n e).1 (h b o n e).2
theorem lT {M:List Addr}{H H':Hp}(S:Same H H'):Same (Out M H) (Out M H'):=iJ fun b o n e=>⟨n,S b o e⟩
structure OF where
 r:Addr
 d:Addr
 il:Addr
 sg:Str
 vs:List V
 inn:List Tr
def OF.fm (f:OF):Fm:=⟨f.sg,f.inn⟩
def OF.app (f:OF) (v:V) (t:Tr):OF:={ f with vs:=f.vs++[v],inn:=f.inn++[t] }
def OF.sign (f:OF) (s:Str):OF:={ f with sg:=s }
def dE (wl:Addr) (i:Nat):List (Str × V):=[("words",.ref wl),("at",.int (i:Int))]
def gN (s:Str) (il:Addr):List (Str × V):=[("sign",.str s),("inner",.ref il)]
theorem rA {s:Str}{il wl:Addr}{i:Nat}:gN s il≠dE wl i:=fun z=>absurd (Prod.mk.inj (List.cons.inj z).1).1 (by decide)
def pN (wp op:Addr) (fs:List OF):List Addr:=wp::op::(fs.map (·.r)++fs.map (·.il))
structure WAt (C:Addr) (H:Hp) (wp dw wl:Addr) (ts:List Str) (i:Nat):Prop where
 w:H wp=some (.ins C dw (dE wl i))
 l:H wl=some (.lst (ts.map V.str))
theorem WAt.same {C:Addr}{H H':Hp}{wp dw wl:Addr}{ts:List Str}{i:Nat}(h:WAt C H wp dw wl ts i) (S:Same H H'):WAt C H' wp dw wl ts i:=⟨S _ _ h.w,S _ _ h.l⟩
theorem WAt.ne {C:Addr}{H:Hp}{wp dw wl:Addr}{ts:List Str}{i:Nat}(h:WAt C H wp dw wl ts i):wl≠wp:=lU h.l h.w (by intro z; cases z)
theorem WAt.take {C:Addr}{H:Hp}{wp dw wl:Addr}{ts:List Str}{i:Nat}(h:WAt C H wp dw wl ts i) (j:Nat):WAt C (upd H wp (.ins C dw (dE wl j))) wp dw wl ts j:=⟨aB,by rw [aK h.ne]; exact h.l⟩
structure PSt (Cw Co:Addr) (c:FC) (H:Hp) (wp dw wl:Addr) (ts:List Str) (i:Nat) (op:Addr) (fs:List OF) (G:Hp):Prop where
 W:WAt Cw H wp dw wl ts i
 O:H op=some (.lst (fs.reverse.map fun f=>V.ref f.r))
 F:∀ f∈fs,H f.r=some (.ins Co f.d (gN f.sg f.il))∧H f.il=some (.lst f.vs)
 N:(wl::op::fs.map (·.il)).Nodup
 R:(fs.map (·.r)).Nodup
 T:∀ f∈fs,All2 (Tr.Fit c (Out (pN wp op fs) H)) f.inn f.vs
 K:But wp G H
 Z:∀ b∈pN wp op fs,b≠wp→G b=none
section
variable {Cw Co:Addr}{c:FC}{H H':Hp}{wp dw wl:Addr}{ts:List Str}{i:Nat}{op:Addr}{fs:List OF}{f:OF}{G:Hp}
theorem mem_muts {b:Addr}:b∈pN wp op fs ↔ b=wp∨b=op∨(∃ f∈fs,f.r=b)∨∃ f∈fs,f.il=b:=by
 unfold pN
 simp only [List.mem_cons,List.mem_append,List.mem_map]
theorem PSt.there (h:PSt Cw Co c H wp dw wl ts i op fs G) {b:Addr}(hb:b∈pN wp op fs):∃ o,H b=some o:=by
 rcases mem_muts.mp hb with rfl | rfl | ⟨f,hf,rfl⟩ | ⟨f,hf,rfl⟩
 ·exact ⟨_,h.W.w⟩
 ·exact ⟨_,h.O⟩
 ·exact ⟨_,(h.F f hf).1⟩
 ·exact ⟨_,(h.F f hf).2⟩
theorem PSt.new (h:PSt Cw Co c H wp dw wl ts i op fs G) {b:Addr}(hb:H b=none):b ∉ pN wp op fs:=fun z=>by
 obtain ⟨o,e⟩:=h.there z
 rw [hb] at e
 cases e
theorem PSt.same (h:PSt Cw Co c H wp dw wl ts i op fs G) (S:Same H H'):PSt Cw Co c H' wp dw wl ts i op fs G :=
 ⟨h.W.same S,S _ _ h.O,fun f hf=>⟨S _ _ (h.F f hf).1,S _ _ (h.F f hf).2⟩,h.N,h.R,fun f hf=>(h.T f hf).imp fun t v _ q=>q.same (lT S),h.K.trans (Same.but S),h.Z⟩
theorem PSt.words {j:Nat}(h:PSt Cw Co c H wp dw wl ts i op fs G) (B:But wp H H') (w':WAt Cw H' wp dw wl ts j):PSt Cw Co c H' wp dw wl ts j op fs G:=by
 have nw:∀ b o,H b=some o→o≠.ins Cw dw (dE wl i)→H' b=some o:=fun b o e n=>B b o (lU e h.W.w n) e
 refine ⟨w',nw _ _ h.O (by intro z; cases z),fun f hf=>⟨nw _ _ (h.F f hf).1 (fun z=>rA (HO.ins.inj z).2.2),nw _ _ (h.F f hf).2 (by intro z; cases z)⟩,h.N,h.R,fun f hf=>(h.T f hf).imp fun t v _ q=>q.same (iJ fun b o n e=>⟨n,B b o (fun z=>n (by rw [z]; exact List.mem_cons_self)) e⟩),h.K.trans B,h.Z⟩
theorem PSt.take (h:PSt Cw Co c H wp dw wl ts i op fs G) (j:Nat):PSt Cw Co c (upd H wp (.ins Cw dw (dE wl j))) wp dw wl ts j op fs G:=h.words (But.upd _) (h.W.take j)
theorem PSt.ow (h:PSt Cw Co c H wp dw wl ts i op fs G):op≠wp∧op≠wl∧(∀ f∈fs,op≠f.il∧op≠f.r∧f.r≠wp∧f.r≠wl∧f.il≠wp∧f.il≠wl):=by
 obtain ⟨n1,n2⟩:=List.nodup_cons.mp h.N
 obtain ⟨n3,n4⟩:=List.nodup_cons.mp n2
 refine ⟨lU h.O h.W.w (by intro z; cases z),fun z=>n1 (by rw [z]; exact List.mem_cons_self),fun f hf=>⟨fun z=>n3 (by rw [z]; exact List.mem_map.mpr ⟨f,hf,rfl⟩),lU h.O (h.F f hf).1 (by intro z; cases z),lU (h.F f hf).1 h.W.w (fun z=>rA (HO.ins.inj z).2.2),lU (h.F f hf).1 h.W.l (by intro z; cases z),lU (h.F f hf).2 h.W.w (by intro z; cases z),fun z=>n1 (List.mem_cons_of_mem _ (by rw [← z]; exact List.mem_map.mpr ⟨f,hf,rfl⟩))⟩⟩
theorem PSt.free (h:PSt Cw Co c H wp dw wl ts i op fs G) {b:Addr}(hb:H b=none):G b=none:=by
 cases e:G b with
 | none=>rfl
 | some o =>
  have q:=h.K b o (fun z=>by rw [z,h.W.w] at hb; cases hb) e
  rw [hb] at q
  cases q
theorem PSt.kupd (h:PSt Cw Co c H wp dw wl ts i op fs G) {p:Addr}{o:HO}(hp:p∈pN wp op fs) (hn:p≠wp) {H1:Hp}(S:Same H H1):But wp G (upd H1 p o):=fun b u n e=>by
 rw [aK (fun z=>by rw [z,h.Z p hp hn] at e; cases e)]
 exact S _ _ (h.K b u n e)
theorem PSt.push {H1:Hp}{r d il:Addr}{sg:Str}(h:PSt Cw Co c H wp dw wl ts i op fs G) (S:Same H H1) (hr:H r=none) (hil:H il=none) (h1:H1 r=some (.ins Co d (gN sg il))) (h2:H1 il=some (.lst [])) :
  PSt Cw Co c (upd H1 op (.lst ((fs.reverse.map fun f=>V.ref f.r)++[.ref r]))) wp dw wl ts i op (⟨r,d,il,sg,[],[]⟩::fs) G:=by
 obtain ⟨o1,o2,o3⟩:=h.ow
 have nr:∀ b,(∃ o,H b=some o)→b≠r∧b≠il:=fun b ⟨o,e⟩=>⟨aO e hr,aO e hil⟩
 have k:=h.same S
 have no:=nr op ⟨_,h.O⟩
 refine ⟨⟨by rw [aK o1.symm]; exact k.W.w,by rw [aK o2.symm]; exact k.W.l⟩,?_,fun f hf=>?_,?_,?_,fun f hf=>?_,h.kupd (mem_muts.mpr (.inr (.inl rfl))) o1 S,fun b hb hn=>?_⟩
 ·rw [aB,List.reverse_cons,List.map_append]; rfl
 ·rcases List.mem_cons.mp hf with rfl | hf
  ·exact ⟨by rw [aK no.1.symm]; exact h1,by rw [aK no.2.symm]; exact h2⟩
  ·exact ⟨by rw [aK (o3 f hf).2.1.symm]; exact (k.F f hf).1,by rw [aK (o3 f hf).1.symm]; exact (k.F f hf).2⟩
 ·obtain ⟨n1,n2⟩:=List.nodup_cons.mp h.N
  obtain ⟨n3,n4⟩:=List.nodup_cons.mp n2
  have nl:=nr wl ⟨_,h.W.l⟩
  rw [List.map_cons]
  refine List.nodup_cons.mpr ⟨?_,List.nodup_cons.mpr ⟨?_,List.nodup_cons.mpr ⟨?_,n4⟩⟩⟩
  ·intro z
   rcases List.mem_cons.mp z with z | z
   ·exact o2 z.symm
   rcases List.mem_cons.mp z with z | z
   ·exact nl.2 z
   ·exact n1 (List.mem_cons_of_mem _ z)
  ·intro z
   rcases List.mem_cons.mp z with z | z
   ·exact no.2 z
   ·exact n3 z
  ·intro z
   obtain ⟨f,hf,e⟩:=List.mem_map.mp z
   exact (nr f.il ⟨_,(h.F f hf).2⟩).2 e
 ·rw [List.map_cons]
  refine List.nodup_cons.mpr ⟨fun z=>?_,h.R⟩
  obtain ⟨f,hf,e⟩:=List.mem_map.mp z
  exact (nr f.r ⟨_,(h.F f hf).1⟩).1 e
 ·rcases List.mem_cons.mp hf with rfl | hf
  ·exact .nil
  ·refine (h.T f hf).imp fun t v _ q=>q.same (iJ fun b o n e=>⟨fun z=>?_,?_⟩)
   ·rcases mem_muts.mp z with z | z | ⟨g,hg,z⟩ | ⟨g,hg,z⟩
    ·exact n (mem_muts.mpr (.inl z))
    ·exact n (mem_muts.mpr (.inr (.inl z)))
    ·rcases List.mem_cons.mp hg with rfl | hg
     ·exact (nr b ⟨_,e⟩).1 z.symm
     ·exact n (mem_muts.mpr (.inr (.inr (.inl ⟨g,hg,z⟩))))
    ·rcases List.mem_cons.mp hg with rfl | hg
     ·exact (nr b ⟨_,e⟩).2 z.symm
     ·exact n (mem_muts.mpr (.inr (.inr (.inr ⟨g,hg,z⟩))))
   ·rw [aK (fun z=>n (mem_muts.mpr (.inr (.inl z))))]
    exact S b o e
 ·rcases mem_muts.mp hb with z | z | ⟨g,hg,z⟩ | ⟨g,hg,z⟩
  ·exact absurd z hn
  ·exact h.Z b (mem_muts.mpr (.inr (.inl z))) hn
  ·rcases List.mem_cons.mp hg with rfl | hg
   ·rw [← z]; exact h.free hr
   ·exact h.Z b (mem_muts.mpr (.inr (.inr (.inl ⟨g,hg,z⟩)))) hn
  ·rcases List.mem_cons.mp hg with rfl | hg
   ·rw [← z]; exact h.free hil
   ·exact h.Z b (mem_muts.mpr (.inr (.inr (.inr ⟨g,hg,z⟩)))) hn
theorem zJ {M:List Addr}{p:Addr}{o:HO}(h:p∈M):Same (Out M H) (Out M (upd H p o)):=iJ fun b u n e=>⟨n,by rw [aK (fun z=>n (by rw [z]; exact h))]; exact e⟩
theorem AH8 (h:PSt Cw Co c H wp dw wl ts i op (f::fs) G):(∀ g∈fs,g.r≠f.r∧g.il≠f.il∧g.r≠f.il∧g.il≠f.r)∧f.r≠f.il:=by
 obtain ⟨n1,n2⟩:=List.nodup_cons.mp h.N
 obtain ⟨n3,n4⟩:=List.nodup_cons.mp n2
 rw [List.map_cons] at n4
 have n5:=(List.nodup_cons.mp n4).1
 have r5:=h.R
 rw [List.map_cons] at r5
 have r6:=(List.nodup_cons.mp r5).1
 have hf:=h.F f List.mem_cons_self
 refine ⟨fun g hg=>?_,lU hf.1 hf.2 (by intro z; cases z)⟩
 have hG:=h.F g (List.mem_cons_of_mem _ hg)
 exact ⟨fun z=>r6 (by rw [← z]; exact List.mem_map.mpr ⟨g,hg,rfl⟩),fun z=>n5 (by rw [← z]; exact List.mem_map.mpr ⟨g,hg,rfl⟩),lU hG.1 hf.2 (by intro z; cases z),lU hG.2 hf.1 (by intro z; cases z)⟩
theorem PSt.inner {v:V}{t:Tr}(h:PSt Cw Co c H wp dw wl ts i op (f::fs) G) (hv:Tr.Fit c (Out (pN wp op (f::fs)) H) t v):PSt Cw Co c (upd H f.il (.lst (f.vs++[v]))) wp dw wl ts i op (f.app v t::fs) G:=by
 obtain ⟨o1,o2,o3⟩:=h.ow
 obtain ⟨t1,t2⟩:=AH8 h
 obtain ⟨p1,p2,p3,p4,p5,p6⟩:=o3 f List.mem_cons_self
 have mi:f.il∈pN wp op (f::fs):=mem_muts.mpr (.inr (.inr (.inr ⟨f,List.mem_cons_self,rfl⟩)))
 have So:=zJ (H:=H) (o:=.lst (f.vs++[v])) mi
 refine ⟨⟨by rw [aK p5.symm]; exact h.W.w,by rw [aK p6.symm]; exact h.W.l⟩,by rw [aK p1]; have e:=h.O; rw [List.reverse_cons,List.map_append] at e ⊢; exact e,fun g hg=>?_,h.N,h.R,fun g hg=>?_,h.kupd mi p5 (pL _),h.Z⟩
 ·rcases List.mem_cons.mp hg with rfl | hg
  ·exact ⟨by rw [show (f.app v t).r=f.r from rfl,aK t2]; exact (h.F f List.mem_cons_self).1,aB⟩
  ·have q:=t1 g hg
   have k:=h.F g (List.mem_cons_of_mem _ hg)
   exact ⟨by rw [aK q.2.2.1]; exact k.1,by rw [aK q.2.1]; exact k.2⟩
 ·rcases List.mem_cons.mp hg with rfl | hg
  ·exact ((h.T f List.mem_cons_self).imp fun t v _ q=>q.same So).snoc (hv.same So)
  ·exact (h.T g (List.mem_cons_of_mem _ hg)).imp fun t v _ q=>q.same So
theorem PSt.sign {s:Str}(h:PSt Cw Co c H wp dw wl ts i op (f::fs) G):PSt Cw Co c (upd H f.r (.ins Co f.d (gN s f.il))) wp dw wl ts i op (f.sign s::fs) G:=by
 obtain ⟨o1,o2,o3⟩:=h.ow
 obtain ⟨t1,t2⟩:=AH8 h
 obtain ⟨p1,p2,p3,p4,p5,p6⟩:=o3 f List.mem_cons_self
 have mi:f.r∈pN wp op (f::fs):=mem_muts.mpr (.inr (.inr (.inl ⟨f,List.mem_cons_self,rfl⟩)))
 have So:=zJ (H:=H) (o:=.ins Co f.d (gN s f.il)) mi
 refine ⟨⟨by rw [aK p3.symm]; exact h.W.w,by rw [aK p4.symm]; exact h.W.l⟩,by rw [aK p2]; have e:=h.O; rw [List.reverse_cons,List.map_append] at e ⊢; exact e,fun g hg=>?_,h.N,h.R,fun g hg=>?_,h.kupd mi p3 (pL _),h.Z⟩
 ·rcases List.mem_cons.mp hg with rfl | hg
  ·exact ⟨aB,by rw [show (f.sign s).il=f.il from rfl,aK t2.symm]; exact (h.F f List.mem_cons_self).2⟩
  ·have q:=t1 g hg
   have k:=h.F g (List.mem_cons_of_mem _ hg)
   exact ⟨by rw [aK q.1]; exact k.1,by rw [aK q.2.2.2]; exact k.2⟩
 ·rcases List.mem_cons.mp hg with rfl | hg
  ·exact (h.T f List.mem_cons_self).imp fun t v _ q=>q.same So
  ·exact (h.T g (List.mem_cons_of_mem _ hg)).imp fun t v _ q=>q.same So
theorem uZ (h:PSt Cw Co c H wp dw wl ts i op (f::fs) G):Same (Out (pN wp op (f::fs)) H) (Out (pN wp op fs) (upd H op (.lst (fs.reverse.map fun f=>V.ref f.r)))) :=
 iJ fun b o n e=>⟨fun z=>n (mem_muts.mpr (by
  rcases mem_muts.mp z with z | z | ⟨g,hg,z⟩ | ⟨g,hg,z⟩
  ·exact .inl z
  ·exact .inr (.inl z)
  ·exact .inr (.inr (.inl ⟨g,List.mem_cons_of_mem _ hg,z⟩))
  ·exact .inr (.inr (.inr ⟨g,List.mem_cons_of_mem _ hg,z⟩)))),by rw [aK (fun z=>n (mem_muts.mpr (.inr (.inl z))))]; exact e⟩
theorem PSt.pop (h:PSt Cw Co c H wp dw wl ts i op (f::fs) G):PSt Cw Co c (upd H op (.lst (fs.reverse.map fun f=>V.ref f.r))) wp dw wl ts i op fs G:=by
 obtain ⟨o1,o2,o3⟩:=h.ow
 refine ⟨⟨by rw [aK o1.symm]; exact h.W.w,by rw [aK o2.symm]; exact h.W.l⟩,aB,fun g hg=>?_,?_,?_,fun g hg=>(h.T g (List.mem_cons_of_mem _ hg)).imp fun t v _ q=>q.same (uZ h),h.kupd (mem_muts.mpr (.inr (.inl rfl))) o1 (pL _),fun b hb hn=>h.Z b (mem_muts.mpr (by
  rcases mem_muts.mp hb with z | z | ⟨g,hg,z⟩ | ⟨g,hg,z⟩
  ·exact .inl z
  ·exact .inr (.inl z)
  ·exact .inr (.inr (.inl ⟨g,List.mem_cons_of_mem _ hg,z⟩))
  ·exact .inr (.inr (.inr ⟨g,List.mem_cons_of_mem _ hg,z⟩)))) hn⟩
 ·have k:=h.F g (List.mem_cons_of_mem _ hg)
  have q:=o3 g (List.mem_cons_of_mem _ hg)
  exact ⟨by rw [aK q.2.1.symm]; exact k.1,by rw [aK q.1.symm]; exact k.2⟩
 ·have n:=h.N
  rw [List.map_cons] at n
  obtain ⟨n1,n2⟩:=List.nodup_cons.mp n
  obtain ⟨n3,n4⟩:=List.nodup_cons.mp n2
  refine List.nodup_cons.mpr ⟨fun z=>n1 ?_,List.nodup_cons.mpr ⟨fun z=>n3 (List.mem_cons_of_mem _ z),(List.nodup_cons.mp n4).2⟩⟩
  rcases List.mem_cons.mp z with z | z
  ·exact List.mem_cons.mpr (.inl z)
  ·exact List.mem_cons_of_mem _ (List.mem_cons_of_mem _ z)
 ·have r:=h.R
  rw [List.map_cons] at r
  exact (List.nodup_cons.mp r).2
end
mutual
theorem rB:∀ {t:Tr},t.wf→1≤t.cnt∧t.ws.length+3≤(5+t.dp) * t.cnt
 | .any,_=>by rw [Tr.cnt,Tr.ws,Tr.dp]; exact ⟨by decide,by decide⟩
 | .kind us,h=>by
  rw [Tr.wf] at h
  have:=List.length_pos_iff.mpr h.1
  rw [Tr.cnt,Tr.ws,Tr.dp,List.length_cons]
  omega
 | .place us,h=>by
  rw [Tr.wf] at h
  have:=List.length_pos_iff.mpr h.1
  rw [Tr.cnt,Tr.ws,Tr.dp,List.length_cons]
  omega
 | .weight n,_=>by rw [Tr.cnt,Tr.ws,Tr.dp]; exact ⟨by decide,by show 2+3≤_; omega⟩
 | .not t,h=>by
  rw [Tr.wf] at h
  obtain ⟨i1,i2⟩:=rB h
  rw [Tr.cnt,Tr.ws,Tr.dp,List.length_cons]
  refine ⟨i1,?_⟩
  have e:(5+(t.dp+1)) * t.cnt=(5+t.dp) * t.cnt+t.cnt:=by rw [← Nat.add_assoc,Nat.succ_mul]
  omega
 | .both ts,h=>by
  rw [Tr.wf] at h
  obtain ⟨i1,i2⟩:=wss_len "&" h.2 (vX h.1)
  have h1:=h.1
  rw [Tr.cnt,Tr.ws,Tr.dp,List.length_cons,List.length_append,List.length_singleton]
  refine ⟨i1,?_⟩
  have e:(5+(ts.dp+1)) * ts.cnt=(5+ts.dp) * ts.cnt+ts.cnt:=by rw [← Nat.add_assoc,Nat.succ_mul]
  omega
 | .either ts,h=>by
  rw [Tr.wf] at h
  obtain ⟨i1,i2⟩:=wss_len "|" h.2 (vX h.1)
  have h1:=h.1
  rw [Tr.cnt,Tr.ws,Tr.dp,List.length_cons,List.length_append,List.length_singleton]
  refine ⟨i1,?_⟩
  have e:(5+(ts.dp+1)) * ts.cnt=(5+ts.dp) * ts.cnt+ts.cnt:=by rw [← Nat.add_assoc,Nat.succ_mul]
  omega
theorem wss_len (s:Str):∀ {ts:Trs},ts.wf→ts.toL≠[]→1≤ts.cnt∧(ts.ws s).length+1+2 * ts.toL.length≤(5+ts.dp) * ts.cnt
 | .nil,_,h=>absurd rfl h
 | .cons t .nil,h,_=>by
  rw [Trs.wf] at h
  obtain ⟨i1,i2⟩:=rB h.1
  have e1:(Trs.cons t .nil).dp=t.dp:=by rw [Trs.dp,Trs.dp]; exact Nat.max_eq_left (Nat.zero_le _)
  have e2:(Trs.cons t .nil).cnt=t.cnt:=by rw [Trs.cnt,Trs.cnt]; rfl
  have e3:(Trs.cons t .nil).toL.length=1:=rfl
  rw [oH,e1,e2,e3]
  omega
 | .cons t (.cons t' ts),h,_=>by
  rw [Trs.wf] at h
  obtain ⟨i1,i2⟩:=rB h.1
  obtain ⟨j1,j2⟩:=wss_len s (ts:=.cons t' ts) h.2 (by rw [Trs.toL]; simp)
  have e1:(Trs.cons t (.cons t' ts)).dp=max t.dp (Trs.cons t' ts).dp:=by rw [Trs.dp]
  have e2:(Trs.cons t (.cons t' ts)).cnt=t.cnt+(Trs.cons t' ts).cnt:=by rw [Trs.cnt]
  have e3:(Trs.cons t (.cons t' ts)).toL.length=(Trs.cons t' ts).toL.length+1:=rfl
  rw [kJ,e1,e2,e3,List.length_append,List.length_cons,Nat.mul_add (5+max t.dp (Trs.cons t' ts).dp)]
  have m1:(5+t.dp) * t.cnt≤(5+max t.dp (Trs.cons t' ts).dp) * t.cnt:=Nat.mul_le_mul_right _ (by have:=Nat.le_max_left t.dp (Trs.cons t' ts).dp; omega)
  have m2:(5+(Trs.cons t' ts).dp) * (Trs.cons t' ts).cnt≤(5+max t.dp (Trs.cons t' ts).dp) * (Trs.cons t' ts).cnt:=Nat.mul_le_mul_right _ (by have:=Nat.le_max_right t.dp (Trs.cons t' ts).dp; omega)
  refine ⟨by omega,?_⟩
  generalize (5+max t.dp (Trs.cons t' ts).dp) * t.cnt=x at *
  generalize (5+max t.dp (Trs.cons t' ts).dp) * (Trs.cons t' ts).cnt=y at *
  generalize (5+t.dp) * t.cnt=x' at *
  generalize (5+(Trs.cons t' ts).dp) * (Trs.cons t' ts).cnt=y' at *
  omega
end
def mS (u:Str):Prop:=gQ u=true∧u.length≤100∧(nI u=true→∃ n,PySem.intText? u=some n)
def tokG (u:Str):Prop:=32 ∉ u.cps.toList∧10 ∉ u.cps.toList∧u.length≤20∧mS u
instance (u:Str):Decidable (32 ∉ u.cps.toList):=inferInstance
theorem AH9 {u:Str}{c:Nat}(hc:c∈u.cps.toList) (h:¬ (48≤c∧c≤57)):vY u=false:=by
 unfold vY
 rw [decide_eq_false fun z=>h (z.2.2 c hc)]
 rfl
theorem AU1 {u:Str}{c:Nat}(hc:u.cps.toList.head?=some c) (h:¬ (48≤c∧c≤57)) (h2:c≠45):nI u=false:=by
 unfold nI
 have e:Txt.startswith u "-"=false:=by
  show Txt.startswith u ⟨#[45]⟩=false
  rw [iH,hc]
  exact decide_eq_false fun z=>h2 (Option.some.inj z)
 rw [e,if_neg (by decide)]
 refine AH9 (c:=c) ?_ h
 cases q:u.cps.toList with
 | nil=>rw [q] at hc; cases hc
 | cons a l=>rw [q] at hc; rw [← Option.some.inj hc]; exact List.mem_cons_self
theorem AE3 {u:Str}(g:aZ u):nI u=false:=by
 cases q:u.cps.toList with
 | nil =>
  have h:=g.1
  have e:u.length=u.cps.toList.length:=by simp [Str.length]
  rw [e,q] at h
  exact absurd h (by decide)
 | cons a l =>
  have r:=g.2.2 a (by rw [q]; exact List.mem_cons_self)
  exact AU1 (c:=a) (by rw [q]; rfl) (by omega) (by omega)
theorem vA {u:Str}(g:aZ u):tokG u:=by
 refine ⟨fun z=>?_,fun z=>?_,by have:=g.2.1; omega,(oY g).1,(oY g).2,fun z=>?_⟩
 ·have:=g.2.2 32 z; omega
 ·have:=g.2.2 10 z; omega
 ·rw [AE3 g] at z; cases z
theorem AO3 {n:Int}(h0:0≤n) (h1:n < 1000000):tokG (lB n):=by
 have hd:=pK h0
 have hl:=sY h0 h1
 refine ⟨fun z=>?_,fun z=>?_,by omega,?_,by omega,fun _=>⟨n,(uX h0 h1).2.1⟩⟩
 ·have:=hd 32 z; omega
 ·have:=hd 10 z; omega
 ·rw [plain_iff]
  intro c hc
  have:=hd c hc
  omega
theorem tok_any:tokG "any":=⟨by decide +kernel,by decide +kernel,by decide +kernel,by decide +kernel,by decide +kernel,fun z=>absurd z (by decide +kernel)⟩
theorem AE4:tokG "kind":=⟨by decide +kernel,by decide +kernel,by decide +kernel,by decide +kernel,by decide +kernel,fun z=>absurd z (by decide +kernel)⟩
theorem zK:tokG "place":=⟨by decide +kernel,by decide +kernel,by decide +kernel,by decide +kernel,by decide +kernel,fun z=>absurd z (by decide +kernel)⟩
theorem wA:tokG "weight":=⟨by decide +kernel,by decide +kernel,by decide +kernel,by decide +kernel,by decide +kernel,fun z=>absurd z (by decide +kernel)⟩
theorem tok_not:tokG "not":=⟨by decide +kernel,by decide +kernel,by decide +kernel,by decide +kernel,by decide +kernel,fun z=>absurd z (by decide +kernel)⟩
theorem vB:tokG "(":=⟨by decide +kernel,by decide +kernel,by decide +kernel,by decide +kernel,by decide +kernel,fun z=>absurd z (by decide +kernel)⟩
theorem tok_shut:tokG ")":=⟨by decide +kernel,by decide +kernel,by decide +kernel,by decide +kernel,by decide +kernel,fun z=>absurd z (by decide +kernel)⟩
theorem tok_and:tokG "&":=⟨by decide +kernel,by decide +kernel,by decide +kernel,by decide +kernel,by decide +kernel,fun z=>absurd z (by decide +kernel)⟩
theorem AU2:tokG "|":=⟨by decide +kernel,by decide +kernel,by decide +kernel,by decide +kernel,by decide +kernel,fun z=>absurd z (by decide +kernel)⟩
theorem tok_colon:tokG ":":=⟨by decide +kernel,by decide +kernel,by decide +kernel,by decide +kernel,by decide +kernel,fun z=>absurd z (by decide +kernel)⟩
theorem tok_none:tokG "":=⟨by decide +kernel,by decide +kernel,by decide +kernel,by decide +kernel,by decide +kernel,fun z=>absurd z (by decide +kernel)⟩
theorem all_cons {p:Str→Prop}{a:Str}{l:List Str}(h:p a) (k:∀ x∈l,p x):∀ x∈a::l,p x:=fun x hx=>by
 rcases List.mem_cons.mp hx with rfl | hx
 ·exact h
 ·exact k x hx
theorem fN {p:Str→Prop}{l m:List Str}(h:∀ x∈l,p x) (k:∀ x∈m,p x):∀ x∈l++m,p x:=fun x hx=>(List.mem_append.mp hx).elim (h x) (k x)
theorem cP {p:Str→Prop}:∀ x∈([]:List Str),p x:=fun x hx=>by cases hx
mutual
theorem gT:∀ {t:Tr},t.wf→∀ x∈t.ws,tokG x
 | .any,_=>by rw [Tr.ws]; exact all_cons tok_any cP
 | .kind us,h=>by rw [Tr.wf] at h; rw [Tr.ws]; exact all_cons AE4 fun x hx=>vA (h.2.1 x hx)
 | .place us,h=>by rw [Tr.wf] at h; rw [Tr.ws]; exact all_cons zK fun x hx=>vA (h.2.1 x hx)
 | .weight n,h=>by rw [Tr.wf] at h; rw [Tr.ws]; exact all_cons wA (all_cons (AO3 h.1 h.2) cP)
 | .not t,h=>by rw [Tr.wf] at h; rw [Tr.ws]; exact all_cons tok_not (gT h)
 | .both ts,h=>by rw [Tr.wf] at h; rw [Tr.ws]; exact all_cons vB (fN (wss_tok tok_and h.2) (all_cons tok_shut cP))
 | .either ts,h=>by rw [Tr.wf] at h; rw [Tr.ws]; exact all_cons vB (fN (wss_tok AU2 h.2) (all_cons tok_shut cP))
theorem wss_tok {s:Str}(hs:tokG s):∀ {ts:Trs},ts.wf→∀ x∈ts.ws s,tokG x
 | .nil,_=>by rw [Trs.ws]; exact cP
 | .cons t .nil,h=>by rw [Trs.wf] at h; rw [oH]; exact gT h.1
 | .cons t (.cons t' ts),h=>by rw [Trs.wf] at h; rw [kJ]; exact fN (gT h.1) (all_cons hs (wss_tok hs h.2))
end
def AI0 (u:Str):Prop:=u.length≤200000∧(Txt.split u sp1).length≤1000∧∀ x∈Txt.split u sp1,mS x
theorem zL {k:Nat}:∀ {ws:List Str},(∀ x∈ws,x.length≤k)→(ws.map (·.length)).sum≤ws.length * k
 | [],_=>Nat.zero_le _
 | a::l,h=>by
  have h1:=h a List.mem_cons_self
  have h2:=zL (ws:=l) fun x hx=>h x (List.mem_cons_of_mem _ hx)
  rw [List.map_cons,List.sum_cons,List.length_cons,Nat.succ_mul]
  omega
theorem zM {ws:List Str}(h:∀ x∈ws,x.length≤20) (hl:ws.length≤1000):(Str.join sp1 ws).length≤30000:=by
 have h1:=StrLaws.join_length_le sp1 ws
 have h2:=zL h
 have e:sp1.length=1:=rfl
 rw [e] at h1
 omega
theorem BC1 {ws:List Str}(hn:ws≠[]) (h:∀ x∈ws,tokG x) (hl:ws.length≤1000):AI0 (Str.join sp1 ws)∧Txt.split (Str.join sp1 ws) sp1=ws:=by
 have e:=oG (c:=32) hn fun a ha=>(h a ha).1
 refine ⟨⟨?_,?_,?_⟩,e⟩
 ·have:=zM (fun x hx=>(h x hx).2.2.1) hl; omega
 ·rw [e]; exact hl
 ·rw [e]; exact fun x hx=>(h x hx).2.2.2
theorem AO4 {s:Str}{ts:List Str}(h:(ts.map (·.length)).sum+ts.length * s.length≤sizeLine):JoinOk s ts=true:=by
 unfold JoinOk
 rw [StrLaws.joinTotal]
 unfold Builtin.Str.tooLong
 rw [decide_eq_false (by omega)]
 rfl
theorem szM {n:Nat}(h:n≤1000000):n≤sizeLine:=Nat.le_trans h (by decide)
theorem eO {ts:List Str}{i:Nat}(h:i < ts.length):ts.drop i=ts.getD i ""::ts.drop (i+1):=by
 rw [List.drop_eq_getElem_cons h,List.getD_eq_getElem?_getD,List.getElem?_eq_getElem h]
 rfl
theorem fO {ts:List Str}{i:Nat}(h:ts.length≤i):ts.getD i ""=""∧ts.drop i=[]:=by
 rw [List.getD_eq_getElem?_getD,List.getElem?_eq_none h]
 exact ⟨rfl,List.drop_eq_nil_of_le h⟩
theorem vC {ts:List Str}(h:∀ x∈ts,mS x) (i:Nat):mS (ts.getD i ""):=by
 by_cases c:i < ts.length
 ·rw [List.getD_eq_getElem?_getD,List.getElem?_eq_getElem c]
  exact h _ (List.getElem_mem c)
 ·rw [(fO (by omega)).1]
  exact tok_none.2.2.2
def AU3:R2:=fun x y H Q=>∃ u n,x=.str u∧y=.int n∧1≤n∧1≤u.length∧u.length * n.toNat≤sizeLine∧Q (.str ⟨(List.replicate n.toNat u.cps).foldl (·++·) #[]⟩) H
theorem tD {X:Cx}:OpR X (binaryOp .Mult) AU3:=by
 intro pins s σ H x y v u Q I rx ry h
 obtain ⟨z,n,rfl,rfl,h2,h1,hz,q⟩:=h
 by_cases c:2≤n
 ·exact vT pins s σ H _ _ v u Q I rx ry ⟨z,n,rfl,rfl,c,h1,hz,q⟩
 ·have e:n=1:=by omega
  subst e
  obtain ⟨t,rfl⟩:=rx
  obtain ⟨t',rfl⟩:=ry
  have hc:((1:Int) == 1 || z.length == 0)=true:=rfl
  have ez:(⟨(List.replicate (Int.toNat 1) z.cps).foldl (·++·) #[]⟩:Str)=z:=by
   show (⟨#[]++z.cps⟩:Str)=z
   exact dX (by simp)
  rw [ez] at q
  refine P.mul_str (by decide) (fun _ c=>?_) (fun _ c=>?_) ?_
  ·rw [hc] at c; cases c
  ·rw [hc] at c; cases c
  ·rw [if_neg (by decide),hc,if_pos rfl]
   first | exact ⟨.str z,H,I.tok _,⟨_,rfl⟩,q⟩ | exact ⟨.str z,H,I,⟨_,rfl⟩,q⟩ | exact ⟨by have:=hz; simp at this; omega,⟨.str z,H,I.tok _,⟨_,rfl⟩,q⟩⟩ | exact ⟨by have:=hz; simp at this; omega,⟨.str z,H,I,⟨_,rfl⟩,q⟩⟩ | trace_state
theorem pO {x:V}{xs:List V}{H:Hp}{Q:VK}:zF x xs H Q=∃ u y,x=.str u∧xs=[.str y]∧Q (.bl (Txt.startswith u y)) H:=rfl
theorem tE {x:V}{xs:List V}{H:Hp}{Q:VK}:AH6 x xs H Q=∃ u y,x=.str u∧xs=[.str y]∧(y.length == 0)=false∧u.length+2≤sizeLine∧(Txt.split u y).length≤sizeLine∧∀ l,H l=none→Q (.ref l) (upd H l (.lst ((Txt.split u y).map V.str))):=rfl
theorem zN {x y:V}{H:Hp}{Q:VK}:AU3 x y H Q=∃ u n,x=.str u∧y=.int n∧1≤n∧1≤u.length∧u.length * n.toNat≤sizeLine∧Q (.str ⟨(List.replicate n.toNat u.cps).foldl (·++·) #[]⟩) H:=rfl
end Bw
set_option maxHeartbeats 8000000
namespace Bw
open PySem L2 PySem.W
local macro_rules | `(tactic| walk_at "sc") => `(tactic| exact ⟨rfl,rfl,rfl,by decide +kernel,rfl,by decide +kernel,by decide +kernel⟩)
local macro_rules | `(tactic| walk_at "w0") => `(tactic| try simp only [AJ7, xD, AJ8, AJ9, xE, xF, AK0, sA, xG, AK1, w_c, AY5, AY6, AY7, AK2, AY8, xH, w_b, AK3, AY9, w_not, xI, AK4, xJ, AZ0, xK, AK5, AK6, AK7, xL, AZ1, AZ2, AZ3, AK8, xM, sB, AZ9, xN, oR, xO, xP, xQ, w_K, xR, oS, sG, AL8, BA5, AM8, sI, sJ, sK, AM2, sL, sM, sN, BB1, AM3, AM4, xZ, AM5, yA, yB, sO, sP, yG, AM7, yH, sQ, yJ, yI, sR, yM, sS, pA, zN, pO, tE, pE, sX, zE, pG, zG, zH, BA6, sV, yT, yO, yW, AN6, sU, AN3, sT, Option.getD_some,  exists_const, false_or, or_false, exists_false, AZ4, AZ5, AZ6, AZ7, AZ8, L2.start, List.map_cons, List.map_nil, List.length_cons, List.length_nil, List.replicate, List.replicate_zero, List.replicate_succ, Nat.reduceAdd, Nat.reduceSub, Nat.reduceLeDiff, List.cons_append, List.nil_append, List.append_nil, List.set_cons_zero, List.set_cons_succ, List.getElem?_cons_zero, List.getElem?_cons_succ, Option.some.injEq, V.int.injEq, V.bl.injEq, V.ref.injEq, V.str.injEq, V.ty.injEq, List.cons.injEq, and_true, true_and, exists_eq_left, exists_eq_left', exists_and_left, exists_eq, exists_eq', and_self, decide_eq_true_eq, Bool.not_eq_true', decide_eq_false_iff_not, Bool.true_eq_false, Bool.false_eq_true, if_true, if_false, ite_true, ite_false, false_and, and_false, and_assoc, reduceCtorEq])
local macro_rules | `(tactic| exists $[$es:term],*) => `(tactic| try simp only [$[$es:term],*, AJ7, xD, AJ8, AJ9, xE, xF, AK0, sA, xG, AK1, w_c, AY5, AY6, AY7, AK2, AY8, xH, w_b, AK3, AY9, w_not, xI, AK4, xJ, AZ0, xK, AK5, AK6, AK7, xL, AZ1, AZ2, AZ3, AK8, xM, sB, AZ9, xN, oR, xO, xP, xQ, w_K, xR, oS, sG, AL8, BA5, AM8, sI, sJ, sK, AM2, sL, sM, sN, BB1, AM3, AM4, xZ, AM5, yA, yB, sO, sP, yG, AM7, yH, sQ, yJ, yI, sR, yM, sS, pA, zN, pO, tE, pE, sX, zE, pG, zG, zH, BA6, sV, yT, yO, yW, AN6, sU, AN3, sT, Option.getD_some,  exists_const, false_or, or_false, exists_false, AZ4, AZ5, AZ6, AZ7, AZ8, L2.start, List.map_cons, List.map_nil, List.length_cons, List.length_nil, List.replicate, List.replicate_zero, List.replicate_succ, Nat.reduceAdd, Nat.reduceSub, Nat.reduceLeDiff, List.cons_append, List.nil_append, List.append_nil, List.set_cons_zero, List.set_cons_succ, List.getElem?_cons_zero, List.getElem?_cons_succ, Option.some.injEq, V.int.injEq, V.bl.injEq, V.ref.injEq, V.str.injEq, V.ty.injEq, List.cons.injEq, and_true, true_and, exists_eq_left, exists_eq_left', exists_and_left, exists_eq, exists_eq', and_self, decide_eq_true_eq, Bool.not_eq_true', decide_eq_false_iff_not, Bool.true_eq_false, Bool.false_eq_true, if_true, if_false, ite_true, ite_false, false_and, and_false, and_assoc, reduceCtorEq])
def top (i:Nat):Stmt:=PySem.Challenge.pw_bellsaway_k16_fits_as_texts.main.body.getD i (.Pass ⟨0,0,0,0⟩)
abbrev bC:Stmt:=aH (top 7) 0
theorem fU:FnScope ["self","line"] ["self","line"] (aE bC):=by walk_at "sc"
abbrev eU:Stmt:=top 9
theorem tF:FnScope ["thing"] ["thing"] (aE eU):=by walk_at "sc"
abbrev cI:Stmt:=top 10
theorem lI:FnScope ["thing","least"] ["thing","least"] (aE cI):=by walk_at "sc"
abbrev gB:Stmt:=top 14
theorem wB:FnScope ["thing"] ["thing"] (aE gB):=by walk_at "sc"
abbrev bP:Stmt:=top 18
theorem iZ:FnScope ["thing"] ["thing"] (aE bP):=by walk_at "sc"
abbrev dJ:Stmt:=top 19
theorem pP:FnScope ["word"] ["word"] (aE dJ):=by walk_at "sc"
abbrev dY:Stmt:=top 20
theorem rC:FnScope ["word"] ["word"] (aE dY):=by walk_at "sc"
abbrev bY:Stmt:=aH (top 21) 0
theorem kL:FnScope ["self","text"] ["self","text"] (aE bY):=by walk_at "sc"
abbrev bZ:Stmt:=aH (top 21) 1
theorem kM:FnScope ["self"] ["self"] (aE bZ):=by walk_at "sc"
abbrev dL:Stmt:=aH (top 21) 2
theorem pQ:FnScope ["self"] ["self"] (aE dL):=by walk_at "sc"
abbrev dM:Stmt:=aH (top 21) 3
theorem sc_Words_take:FnScope ["self","word"] ["self"] (aE dM):=by walk_at "sc"
abbrev bQ:Stmt:=aH (top 21) 6
theorem jA:FnScope ["self"] ["self"] (aE bQ):=by walk_at "sc"
abbrev bL:Stmt:=aH (top 21) 7
theorem sc_Words_take_number:FnScope ["self","word"] ["self"] (aE bL):=by walk_at "sc"
abbrev bR:Stmt:=aH (top 21) 11
theorem sc_Words_take_names:FnScope ["self","names"] ["self"] (aE bR):=by walk_at "sc"
abbrev cJ:Stmt:=aH (top 25) 0
theorem lJ:FnScope ["self","names"] ["self","names"] (aE cJ):=by walk_at "sc"
abbrev cB:Stmt:=aH (top 26) 0
theorem kN:FnScope ["self","names"] ["self","names"] (aE cB):=by walk_at "sc"
abbrev cC:Stmt:=aH (top 27) 0
theorem kO:FnScope ["self","weight"] ["self","weight"] (aE cC):=by walk_at "sc"
abbrev cR:Stmt:=aH (top 28) 0
theorem mT:FnScope ["self","fit"] ["self","fit"] (aE cR):=by walk_at "sc"
abbrev cK:Stmt:=aH (top 29) 0
theorem lK:FnScope ["self","fits"] ["self","fits"] (aE cK):=by walk_at "sc"
abbrev bV:Stmt:=aH (top 30) 0
theorem jT:FnScope ["self","fits"] ["self","fits"] (aE bV):=by walk_at "sc"
abbrev cY:Stmt:=top 31
theorem nK:FnScope ["names"] ["names"] (aE cY):=by walk_at "sc"
abbrev dZ:Stmt:=top 32
theorem rD:FnScope ["fit"] ["fit"] (aE dZ):=by walk_at "sc"
abbrev dN:Stmt:=top 33
theorem sc_check_fits:FnScope ["fits","fit"] ["fits"] (aE dN):=by walk_at "sc"
abbrev eV:Stmt:=top 35
theorem tG:FnScope ["fit"] ["fit"] (aE eV):=by walk_at "sc"
abbrev eW:Stmt:=top 36
theorem tH:FnScope ["text"] ["text"] (aE eW):=by walk_at "sc"
abbrev dO:Stmt:=top 37
theorem sc_read_whole:FnScope ["text","part_from","words","found"] ["text","part_from"] (aE dO):=by walk_at "sc"
abbrev bW:Stmt:=aH (top 38) 0
theorem jU:FnScope ["self","sign"] ["self","sign"] (aE bW):=by walk_at "sc"
abbrev eY:Stmt:=top 39
theorem sc_fit_from:FnScope ["words","opened","fit"] ["words"] (aE eY):=by walk_at "sc"
abbrev cD:Stmt:=top 40
theorem sc_plain_fit_from:FnScope ["words","opened","word"] ["words","opened"] (aE cD):=by walk_at "sc"
abbrev iK:Stmt:=top 41
theorem sc_closed:FnScope ["fit","words","opened","last"] ["fit","words","opened"] (aE iK):=by walk_at "sc"
abbrev cE:Stmt:=top 42
theorem sc_is_closed_here:FnScope ["bracket","words","word"] ["bracket","words"] (aE cE):=by walk_at "sc"
abbrev iL:Stmt:=top 43
theorem zO:FnScope ["opened"] ["opened"] (aE iL):=by walk_at "sc"
abbrev eA:Stmt:=top 46
theorem rE:FnScope ["_law_cell"] ["_law_cell"] (aE eA):=by walk_at "sc"
abbrev eZ:Stmt:=top 47
theorem sc_law_next:FnScope ["_law_state","_law_base","_law_found","_law_number"] ["_law_state","_law_base"] (aE eZ):=by walk_at "sc"
abbrev fA:Stmt:=top 48
theorem sc_law_name:FnScope ["_law_state","_law_letters","_law_way","_law_some","_law_word","_law_at"] ["_law_state"] (aE fA):=by walk_at "sc"
abbrev fB:Stmt:=top 49
theorem sc_law_leaf:FnScope ["_law_state","_law_more","_law_kind","_law_names","_law_k","_law_name_here"] ["_law_state","_law_more"] (aE fB):=by walk_at "sc"
abbrev fC:Stmt:=top 50
theorem sc_law_tree:FnScope ["_law_state","_law_deep","_law_more","_law_kind","_law_parts"] ["_law_state","_law_deep","_law_more"] (aE fC):=by walk_at "sc"
abbrev fD:Stmt:=top 51
theorem tI:FnScope ["_law_tree_here"] ["_law_tree_here"] (aE fD):=by walk_at "sc"
abbrev fE:Stmt:=top 52
theorem sc_law_text:FnScope ["_law_tree_here","_law_sign"] ["_law_tree_here"] (aE fE):=by walk_at "sc"
abbrev fG:Stmt:=top 53
theorem sc_law_same:FnScope ["_law_fit","_law_tree_here","_law_kinds","_law_words"] ["_law_fit","_law_tree_here"] (aE fG):=by walk_at "sc"
abbrev eB:Stmt:=top 54
theorem sc_law_chain:FnScope ["_law_state","_law_tree_here","_law_k"] ["_law_state"] (aE eB):=by walk_at "sc"
abbrev cZ:Stmt:=top 55
theorem sc_law_refused:FnScope ["_law_text_here","_law_found","e"] ["_law_text_here"] (aE cZ):=by walk_at "sc"
abbrev pR:Stmt:=top 56
theorem sc_law:FnScope ["_law_script","_law_cell","_law_state","_law_tree_here","_law_text_here","_law_fit","_law_found","_law_words","_law_at","_law_odd"] ["_law_script"] (aE pR):=by walk_at "sc"
structure Ad where
 BellError:Addr
 NoFit:Addr
 NoWish:Addr
 NoTime:Addr
 NoRow:Addr
 NoText:Addr
 Words:Addr
 Fit:Addr
 Any:Addr
 Kind:Addr
 Place:Addr
 Least:Addr
 Not:Addr
 Both:Addr
 Either:Addr
 Opened:Addr
 fit_from:Addr
 t0:Tok
 t1:Tok
 t2:Tok
 t3:Tok
structure Bt (K:Frag) (mg:Str→Option Value) (a:Ad):Prop where
 len:mg "len"=none
 int:mg "int"=none
 bool:mg "bool"=none
 str:mg "str"=none
 tuple:mg "tuple"=none
 list:mg "list"=none
 all:mg "all"=none
 isinstance:mg "isinstance"=none
 range:mg "range"=none
 set:mg "set"=none
 ValueError:mg "ValueError"=none
 LETTERS:mg "LETTERS"=some (.str "abcdefghijklmnopqrstuvwxyz" a.t0)
 MOST_LETTERS:mg "MOST_LETTERS"=some (.int 8 a.t1)
 FIGURES:mg "FIGURES"=some (.str "0123456789" a.t2)
 MOST_FIGURES:mg "MOST_FIGURES"=some (.int 60 a.t3)
 BellError:mg "BellError"=some (.ref a.BellError)
 NoFit:mg "NoFit"=some (.ref a.NoFit)
 NoWish:mg "NoWish"=some (.ref a.NoWish)
 NoTime:mg "NoTime"=some (.ref a.NoTime)
 NoRow:mg "NoRow"=some (.ref a.NoRow)
 NoText:mg "NoText"=some (.ref a.NoText)
 Words:mg "Words"=some (.ref a.Words)
 Fit:mg "Fit"=some (.ref a.Fit)
 Any:mg "Any"=some (.ref a.Any)
 Kind:mg "Kind"=some (.ref a.Kind)
 Place:mg "Place"=some (.ref a.Place)
 Least:mg "Least"=some (.ref a.Least)
 Not:mg "Not"=some (.ref a.Not)
 Both:mg "Both"=some (.ref a.Both)
 Either:mg "Either"=some (.ref a.Either)
 Opened:mg "Opened"=some (.ref a.Opened)
 fit_from:mg "fit_from"=some (.ref a.fit_from)
 excK_NoText:ExcK K a.NoText
 exc_NoFit:excIn K a.NoFit vbm "ValueError.__new__"=true
 exm_NoFit:exmOne K (.ref a.NoFit) (.ref a.BellError)=some true
 exm_NoText:exmOne K (.ref a.NoText) (.ref a.BellError)=some true
 xhd:hasDictIn K a.NoText=true
 xmo:mroIn K a.NoText (.type "object")=some true
 xna:NoAttr K a.NoText "line"
 xs:∃ cd,ExcS K a.NoText cd
 ck_Any:ClsK K a.Any
 ck_Kind:ClsK K a.Kind
 na_Kind_names:NoAttr K a.Kind "names"
 ck_Place:ClsK K a.Place
 na_Place_names:NoAttr K a.Place "names"
 ck_Least:ClsK K a.Least
 na_Least_weight:NoAttr K a.Least "weight"
 ck_Not:ClsK K a.Not
 na_Not_fit:NoAttr K a.Not "fit"
 ck_Both:ClsK K a.Both
 na_Both_fits:NoAttr K a.Both "fits"
 ck_Either:ClsK K a.Either
 na_Either_fits:NoAttr K a.Either "fits"
 ck_Words:ClsK K a.Words
 na_Words_words:NoAttr K a.Words "words"
 na_Words_at:NoAttr K a.Words "at"
 ck_Opened:ClsK K a.Opened
 na_Opened_sign:NoAttr K a.Opened "sign"
 na_Opened_inner:NoAttr K a.Opened "inner"
 is_Any_Fit:kitOne K (.ref a.Any) (.ref a.Fit)=some true
 is_Kind_Fit:kitOne K (.ref a.Kind) (.ref a.Fit)=some true
 is_Place_Fit:kitOne K (.ref a.Place) (.ref a.Fit)=some true
 is_Least_Fit:kitOne K (.ref a.Least) (.ref a.Fit)=some true
 is_Not_Fit:kitOne K (.ref a.Not) (.ref a.Fit)=some true
 is_Both_Fit:kitOne K (.ref a.Both) (.ref a.Fit)=some true
 is_Either_Fit:kitOne K (.ref a.Either) (.ref a.Fit)=some true
 is_Any_Any:kitOne K (.ref a.Any) (.ref a.Any)=some true
 is_Any_Kind:kitOne K (.ref a.Any) (.ref a.Kind)=some false
 is_Any_Place:kitOne K (.ref a.Any) (.ref a.Place)=some false
 is_Any_Least:kitOne K (.ref a.Any) (.ref a.Least)=some false
 is_Any_Not:kitOne K (.ref a.Any) (.ref a.Not)=some false
 is_Any_Both:kitOne K (.ref a.Any) (.ref a.Both)=some false
 is_Any_Either:kitOne K (.ref a.Any) (.ref a.Either)=some false
 is_Kind_Any:kitOne K (.ref a.Kind) (.ref a.Any)=some false
 is_Kind_Kind:kitOne K (.ref a.Kind) (.ref a.Kind)=some true
 is_Kind_Place:kitOne K (.ref a.Kind) (.ref a.Place)=some false
 is_Kind_Least:kitOne K (.ref a.Kind) (.ref a.Least)=some false
 is_Kind_Not:kitOne K (.ref a.Kind) (.ref a.Not)=some false
 is_Kind_Both:kitOne K (.ref a.Kind) (.ref a.Both)=some false
 is_Kind_Either:kitOne K (.ref a.Kind) (.ref a.Either)=some false
 is_Place_Any:kitOne K (.ref a.Place) (.ref a.Any)=some false
 is_Place_Kind:kitOne K (.ref a.Place) (.ref a.Kind)=some false
 is_Place_Place:kitOne K (.ref a.Place) (.ref a.Place)=some true
 is_Place_Least:kitOne K (.ref a.Place) (.ref a.Least)=some false
 is_Place_Not:kitOne K (.ref a.Place) (.ref a.Not)=some false
 is_Place_Both:kitOne K (.ref a.Place) (.ref a.Both)=some false
 is_Place_Either:kitOne K (.ref a.Place) (.ref a.Either)=some false
 is_Least_Any:kitOne K (.ref a.Least) (.ref a.Any)=some false
 is_Least_Kind:kitOne K (.ref a.Least) (.ref a.Kind)=some false
 is_Least_Place:kitOne K (.ref a.Least) (.ref a.Place)=some false
 is_Least_Least:kitOne K (.ref a.Least) (.ref a.Least)=some true
 is_Least_Not:kitOne K (.ref a.Least) (.ref a.Not)=some false
 is_Least_Both:kitOne K (.ref a.Least) (.ref a.Both)=some false
 is_Least_Either:kitOne K (.ref a.Least) (.ref a.Either)=some false
 is_Not_Any:kitOne K (.ref a.Not) (.ref a.Any)=some false
 is_Not_Kind:kitOne K (.ref a.Not) (.ref a.Kind)=some false
 is_Not_Place:kitOne K (.ref a.Not) (.ref a.Place)=some false
 is_Not_Least:kitOne K (.ref a.Not) (.ref a.Least)=some false
 is_Not_Not:kitOne K (.ref a.Not) (.ref a.Not)=some true
 is_Not_Both:kitOne K (.ref a.Not) (.ref a.Both)=some false
 is_Not_Either:kitOne K (.ref a.Not) (.ref a.Either)=some false
 is_Both_Any:kitOne K (.ref a.Both) (.ref a.Any)=some false
 is_Both_Kind:kitOne K (.ref a.Both) (.ref a.Kind)=some false
 is_Both_Place:kitOne K (.ref a.Both) (.ref a.Place)=some false
 is_Both_Least:kitOne K (.ref a.Both) (.ref a.Least)=some false
 is_Both_Not:kitOne K (.ref a.Both) (.ref a.Not)=some false
 is_Both_Both:kitOne K (.ref a.Both) (.ref a.Both)=some true
 is_Both_Either:kitOne K (.ref a.Both) (.ref a.Either)=some false
 is_Either_Any:kitOne K (.ref a.Either) (.ref a.Any)=some false
 is_Either_Kind:kitOne K (.ref a.Either) (.ref a.Kind)=some false
 is_Either_Place:kitOne K (.ref a.Either) (.ref a.Place)=some false
 is_Either_Least:kitOne K (.ref a.Either) (.ref a.Least)=some false
 is_Either_Not:kitOne K (.ref a.Either) (.ref a.Not)=some false
 is_Either_Both:kitOne K (.ref a.Either) (.ref a.Both)=some false
 is_Either_Either:kitOne K (.ref a.Either) (.ref a.Either)=some true
 mk_Any:MkN K a.Any
 any1:kitAny K (.ref a.NoText) ([.ref a.NoFit,.ref a.NoRow,.ref a.NoTime,.ref a.NoWish]:List Value)=some false
 isV:kitOne K (.ref a.NoText) (.type "ValueError")=some true
 isT:kitOne K (.ref a.NoText) (.ref a.NoText)=some true
def okI (K:Frag) (H:Hp) (x:V):Prop:=∃ t,TyOf K H x t∧kitOne K t (.type "int")=some (xC x)∧kitOne K t (.type "bool")=some (rZ x)
def okK (K:Frag) (c:Value) (H:Hp) (x:V) (b:Bool):Prop:=∃ t,TyOf K H x t∧kitOne K t c=some b
abbrev noL (K:Frag) (H:Hp) (x:V):Prop:=∃ t,TyOf K H x t∧kitOne K t (.type "list")=some false
theorem okI.same {K:Frag}{H H':Hp}{x:V}(h:okI K H x) (s:Same H H'):okI K H' x:=let ⟨t,y,r⟩:=h; ⟨t,TyOf.same y s,r⟩
theorem okK.same {K:Frag}{c:Value}{H H':Hp}{x:V}{b:Bool}(h:okK K c H x b) (s:Same H H'):okK K c H' x b:=let ⟨t,y,r⟩:=h; ⟨t,TyOf.same y s,r⟩
def zP:V→Str
 | .str u=>u
 | _=>Str.empty
def oJ (xs:List V):Bool:=xs.all gK && decide ((xs.map zP).Nodup)
theorem zQ {x:V}(h:gK x=true):x=.str (zP x):=by cases x <;> first | rfl | cases h
theorem zR:∀ {xs:List V},xs.all gK=true→xs=(xs.map zP).map V.str
 | [],_=>rfl
 | x::xs,h=>by
  simp only [List.all_cons,Bool.and_eq_true] at h
  rw [List.map_cons,List.map_cons,← zQ h.1,← zR h.2]
def BG6 (K:Frag) (H:Hp) (x:V) (b:Bool):Prop:=(∃ p xs,x=.ref p∧H p=some (.lst xs)∧xs.length≤1000∧(∀ y∈xs,okN H y)∧b=oJ xs)∨(b=false∧noL K H x)
def zS (t:TS):TS:=t
theorem aS {t:TS}{D:Ends}{σ:L2.St}{H:Hp}:zS t D σ H=t D σ H:=rfl
theorem cS {t:TE}{nx:L2.St→Hp→Prop}{rt:VK}{bk ct:L2.St→Hp→Prop}{σ:L2.St}{H:Hp}(h:t σ H rt):zS (AV6 t) { nx:=nx,rt:=rt,bk:=bk,ct:=ct } σ H:=h
theorem bD {X:Cx}{b:List Stmt}{t:TS}(h:QSs X b t):QSs X b (zS t):=h
theorem dF {H H':Hp}{x dx:Addr}{o o':HO}(hx:H x=none) (hd:H dx=none) (b:But x (upd (upd H dx o) x o') H'):Same H H':=fun c u e=>b c u (aO e hx) (bI hx hd c u e)
abbrev fc (a:Ad):FC:=⟨a.Any,a.Kind,a.Place,a.Least,a.Not,a.Both,a.Either⟩
def IsX (a:Ad) (cls:Value):Prop:=cls=.ref a.NoFit∨cls=.ref a.NoText
def FrOk (k i:Nat) (f:OF):Prop:=((f.sg="not"∧f.inn=[])∨(f.sg="("∧f.inn=[])∨((f.sg="&"∨f.sg="|")∧f.inn≠[]))∧f.inn.length+k≤i
def mkF (sg:Str) (inn:List Tr):Option Tr:=if sg="not" then inn.head?.map Tr.not else if sg="&" then some (.both (Trs.ofL inn)) else if sg="|" then some (.either (Trs.ofL inn)) else none
def tJ (wp:Addr) (H:Hp):Nat:=match H wp with
 | some (.ins _ _ fs)=>(match fs.lookup ("at":Str) with | some (.int i)=>i.toNat | _=>0)
 | _=>0
theorem rF {C:Addr}{H:Hp}{wp dw wl:Addr}{ts:List Str}{i:Nat}(h:WAt C H wp dw wl ts i):tJ wp H=i:=by
 unfold tJ
 rw [h.w]
 show (i:Int).toNat=i
 omega
def tK (op:Addr) (H:Hp):Nat:=match H op with
 | some (.lst xs)=>xs.length
 | _=>0
theorem AI1 {H:Hp}{op:Addr}{xs:List V}(h:H op=some (.lst xs)):tK op H=xs.length:=by unfold tK; rw [h]
theorem AO5 {H:Hp}{u:Str}(h:mS u):okN H (.str u):=⟨h.1,by have:=h.2.1; omega⟩
abbrev fV (K:Frag) (a:Ad):Sp:=uS a.NoText "line"
def mU (K:Frag) (a:Ad):Sp:=fun vs H Q E=>∃ x,vs=[x]∧okI K H x∧Q (.bl (yK x)) H
def gU (K:Frag) (a:Ad):Sp:=fun vs H Q E=>∃ x lo,vs=[x,.int lo]∧okI K H x∧Q (.bl (AC5 x lo)) H
def kP (K:Frag) (a:Ad):Sp:=fun vs H Q E=>∃ x,vs=[x]∧okN H x∧∀ H',Same H H'→Q (.bl (gK x)) H'
def fP (K:Frag) (a:Ad):Sp:=fun vs H Q E=>∃ (x:V) (b:Bool),vs=[x]∧BG6 K H x b∧∀ H',Same H H'→Q (.bl b) H'
def jV (K:Frag) (a:Ad):Sp:=fun vs H Q E=>∃ (u:Str),vs=[.str u]∧gQ u=true∧u.length≤1000∧∀ H',Same H H'→Q (.bl (vY u)) H'
def lC (K:Frag) (a:Ad):Sp:=fun vs H Q E=>∃ (u:Str),vs=[.str u]∧gQ u=true∧u.length≤1000∧∀ H',Same H H'→Q (.bl (nI u)) H'
def eC (K:Frag) (a:Ad):Sp:=fun vs H Q E=>∃ (p dx:Addr) (x:V),vs=[.ref p,x]∧H p=some (.ins a.Words dx [])∧((∃ u,x=.str u∧u.length≤200000∧(Txt.split u sp1).length≤1000∧∀ wl H',H wl=none→But p H H'→WAt a.Words H' p dx wl (Txt.split u sp1) 0→Q .non H')∨(okK K (.type "str") H x false∧∀ y H',Same H H'→H' y=some (.xd [("line",.int 0)])→E (.ref a.NoText) (some y) H'))
def gC (K:Frag) (a:Ad):Sp:=fun vs H Q E=>∃ (wp dw wl:Addr) (ts:List Str) (i:Nat),vs=[.ref wp]∧WAt a.Words H wp dw wl ts i∧Q (.bl (decide ((i:Int)=(ts.length:Int)))) H
def jW (K:Frag) (a:Ad):Sp:=fun vs H Q E=>∃ (wp dw wl:Addr) (ts:List Str) (i:Nat),vs=[.ref wp]∧WAt a.Words H wp dw wl ts i∧Q (.str (ts.getD i "")) H
def jX (K:Frag) (a:Ad):Sp:=fun vs H Q E=>∃ (wp dw wl:Addr) (ts:List Str) (i:Nat),vs=[.ref wp]∧WAt a.Words H wp dw wl ts i∧Q (.str (ts.getD i "")) (upd H wp (.ins a.Words dw (dE wl (i+1))))
def fQ (K:Frag) (a:Ad):Sp:=fun vs H Q E=>∃ (wp dw wl:Addr) (ts:List Str) (i:Nat),vs=[.ref wp]∧WAt a.Words H wp dw wl ts i∧((i=ts.length∧Q .non H)∨(i≠ts.length∧∀ y H',Same H H'→H' y=some (.xd [("line",.int 0)])→E (.ref a.NoText) (some y) H'))
def eP (K:Frag) (a:Ad):Sp:=fun vs H Q E=>∃ (wp dw wl:Addr) (ts:List Str) (i:Nat),vs=[.ref wp]∧WAt a.Words H wp dw wl ts i∧mS (ts.getD i "")∧((nI (ts.getD i "")=true∧∀ H',But wp H H'→WAt a.Words H' wp dw wl ts (i+1)→Q (.int (vZ (ts.getD i ""))) H')∨(nI (ts.getD i "")=false∧∀ y H',But wp H H'→E (.ref a.NoText) (some y) H'))
def fR (K:Frag) (a:Ad):Sp:=fun vs H Q E=>∃ (wp dw wl:Addr) (ts:List Str) (i:Nat),vs=[.ref wp]∧WAt a.Words H wp dw wl ts i∧(∀ x∈ts,mS x)∧ts.length≤1000∧∀ l H',But wp H H'→H l=none→H' l=some (.lst (((ts.drop i).takeWhile fun u=>decide (aZ u)).map V.str))→WAt a.Words H' wp dw wl ts (i+((ts.drop i).takeWhile fun u=>decide (aZ u)).length)→Q (.ref l) H'
def dG (K:Frag) (a:Ad):Sp:=fun vs H Q E=>∃ (p dx l:Addr) (us:List Str),vs=[.ref p,.ref l]∧H p=some (.ins a.Kind dx [])∧H l=some (.lst (us.map V.str))∧((∀ u∈us,aZ u)∧us.length≤1000)∧(((us≠[]∧us.Nodup)∧∀ l' H',But p H H'→H l'=none→H' l'=some (.lst (us.map V.str))→H' p=some (.ins a.Kind dx [("names",.ref l')])→Q .non H')∨(¬ (us≠[]∧us.Nodup)∧∀ H',Same H H'→E (.ref a.NoFit) none H'))
def dA (K:Frag) (a:Ad):Sp:=fun vs H Q E=>∃ (p dx l:Addr) (us:List Str),vs=[.ref p,.ref l]∧H p=some (.ins a.Place dx [])∧H l=some (.lst (us.map V.str))∧((∀ u∈us,aZ u)∧us.length≤1000)∧(((us≠[]∧us.Nodup)∧∀ l' H',But p H H'→H l'=none→H' l'=some (.lst (us.map V.str))→H' p=some (.ins a.Place dx [("names",.ref l')])→Q .non H')∨(¬ (us≠[]∧us.Nodup)∧∀ H',Same H H'→E (.ref a.NoFit) none H'))
def dB (K:Frag) (a:Ad):Sp:=fun vs H Q E=>∃ (p dx:Addr) (n:Int),vs=[.ref p,.int n]∧H p=some (.ins a.Least dx [])∧((0≤n∧Q .non (upd H p (.ins a.Least dx [("weight",.int n)])))∨(¬ 0≤n∧E (.ref a.NoFit) none H))
def dU (K:Frag) (a:Ad):Sp:=fun vs H Q E=>∃ (p dx:Addr) (v:V) (t:Tr),vs=[.ref p,v]∧H p=some (.ins a.Not dx [])∧t.Fit (fc a) H v∧Q .non (upd H p (.ins a.Not dx [("fit",v)]))
def dH (K:Frag) (a:Ad):Sp:=fun vs H Q E=>∃ (p dx l:Addr) (xs:List V) (ts:List Tr),vs=[.ref p,.ref l]∧H p=some (.ins a.Both dx [])∧H l=some (.lst xs)∧All2 (Tr.Fit (fc a) H) ts xs∧2≤xs.length∧xs.length≤1000∧∀ l' H',But p H H'→H l'=none→H' l'=some (.lst xs)→H' p=some (.ins a.Both dx [("fits",.ref l')])→Q .non H'
def cU (K:Frag) (a:Ad):Sp:=fun vs H Q E=>∃ (p dx l:Addr) (xs:List V) (ts:List Tr),vs=[.ref p,.ref l]∧H p=some (.ins a.Either dx [])∧H l=some (.lst xs)∧All2 (Tr.Fit (fc a) H) ts xs∧2≤xs.length∧xs.length≤1000∧∀ l' H',But p H H'→H l'=none→H' l'=some (.lst xs)→H' p=some (.ins a.Either dx [("fits",.ref l')])→Q .non H'
def fY (K:Frag) (a:Ad):Sp:=fun vs H Q E=>∃ (l:Addr) (us:List Str),vs=[.ref l]∧H l=some (.lst (us.map V.str))∧((∀ u∈us,aZ u)∧us.length≤1000)∧(((us≠[]∧us.Nodup)∧∀ H',Same H H'→Q .non H')∨(¬ (us≠[]∧us.Nodup)∧∀ H',Same H H'→E (.ref a.NoFit) none H'))
def iC (K:Frag) (a:Ad):Sp:=fun vs H Q E=>∃ (v:V) (t:Tr),vs=[v]∧t.Fit (fc a) H v∧Q .non H
def gO (K:Frag) (a:Ad):Sp:=fun vs H Q E=>∃ (l:Addr) (xs:List V) (ts:List Tr),vs=[.ref l]∧H l=some (.lst xs)∧All2 (Tr.Fit (fc a) H) ts xs∧2≤xs.length∧xs.length≤1000∧Q .non H
def eE (K:Frag) (a:Ad) (d:Nat):Sp:=fun vs H Q E=>∃ (v:V) (t:Tr),t.dp < d∧vs=[v]∧t.Fit (fc a) H v∧t.wf∧t.tx.length≤100000∧∀ H',Same H H'→Q (.str t.tx) H'
def jB (K:Frag) (a:Ad):Sp:=fun vs H Q E=>∃ x:V,vs=[x]∧((∃ u t,x=.str u∧AI0 u∧nJ (Txt.split u sp1) []=some (t,[])∧∀ v H',Same H H'→t.Fit (fc a) H' v→Q v H')∨(((∃ u,x=.str u∧AI0 u∧∀ t,nJ (Txt.split u sp1) []≠some (t,[]))∨okK K (.type "str") H x false)∧∀ y H',Same H H'→H' y=some (.xd [("line",.int 0)])→E (.ref a.NoText) (some y) H'))
def jY (K:Frag) (a:Ad):Sp:=fun vs H Q E=>∃ x:V,vs=[x,.ref a.fit_from]∧((∃ u t,x=.str u∧AI0 u∧nJ (Txt.split u sp1) []=some (t,[])∧∀ v H',Same H H'→t.Fit (fc a) H' v→Q v H')∨(((∃ u,x=.str u∧AI0 u∧∀ t,nJ (Txt.split u sp1) []≠some (t,[]))∨okK K (.type "str") H x false)∧∀ y H',Same H H'→H' y=some (.xd [("line",.int 0)])→E (.ref a.NoText) (some y) H'))
def dW (K:Frag) (a:Ad):Sp:=fun vs H Q E=>∃ (p dx:Addr) (s:Str),vs=[.ref p,.str s]∧H p=some (.ins a.Opened dx [])∧∀ il H',H il=none→But p H H'→H' il=some (.lst [])→H' p=some (.ins a.Opened dx (gN s il))→Q .non H'
def jC (K:Frag) (a:Ad):Sp:=fun vs H Q E=>∃ (wp dw wl:Addr) (ts:List Str) (i:Nat),vs=[.ref wp]∧WAt a.Words H wp dw wl ts i∧(∀ x∈ts,mS x)∧ts.length≤1000∧i≤ts.length∧(∀ t r,nJ (ts.drop i) []=some (t,r)→∀ v H' j,r=ts.drop j→i < j→j≤ts.length→But wp H H'→WAt a.Words H' wp dw wl ts j→t.Fit (fc a) (Out [wp] H') v→Q v H')∧(nJ (ts.drop i) []=none→∀ cls y H',IsX a cls→But wp H H'→E cls y H')
def gD (K:Frag) (a:Ad):Sp:=fun vs H Q E=>∃ (wp dw wl op:Addr) (ts:List Str) (i:Nat) (fs:List OF) (G:Hp),vs=[.ref wp,.ref op]∧PSt a.Words a.Opened (fc a) H wp dw wl ts i op fs G∧(∀ x∈ts,mS x)∧ts.length≤1000∧i≤ts.length∧fs.length≤i∧(∀ f∈fs,FrOk 1 i f)∧(∀ t r Sf,plainF (ts.drop i) (fs.map OF.fm)=some (t,r,Sf)→∀ v H' j fs',r=ts.drop j→i < j→j≤ts.length→PSt a.Words a.Opened (fc a) H' wp dw wl ts j op fs' G→fs'.map OF.fm=Sf→(∀ f∈fs',FrOk 2 j f)→fs'.length≤j→t.Fit (fc a) (Out (pN wp op fs') H') v→Q v H')∧(plainF (ts.drop i) (fs.map OF.fm)=none→∀ cls y H',IsX a cls→But wp G H'→E cls y H')
def rG (K:Frag) (a:Ad):Sp:=fun vs H Q E=>∃ (v:V) (t:Tr) (wp dw wl op:Addr) (ts:List Str) (i:Nat) (fs:List OF) (G:Hp),vs=[v,.ref wp,.ref op]∧PSt a.Words a.Opened (fc a) H wp dw wl ts i op fs G∧(∀ x∈ts,mS x)∧ts.length≤1000∧i≤ts.length∧fs.length≤i∧(∀ f∈fs,FrOk 2 i f)∧t.Fit (fc a) (Out (pN wp op fs) H) v∧(∀ t' r,closeF (fs.map OF.fm) t (ts.drop i)=some (.inl (t',r))→∀ v' H' j,r=ts.drop j→i≤j→j≤ts.length→PSt a.Words a.Opened (fc a) H' wp dw wl ts j op [] G→t'.Fit (fc a) (Out (pN wp op []) H') v'→Q v' H')∧(∀ r Sf,closeF (fs.map OF.fm) t (ts.drop i)=some (.inr (r,Sf))→∀ H' j fs',r=ts.drop j→i≤j→j≤ts.length→PSt a.Words a.Opened (fc a) H' wp dw wl ts j op fs' G→fs'.map OF.fm=Sf→(∀ f∈fs',FrOk 1 j f)→fs'.length≤j→Q .non H')∧(closeF (fs.map OF.fm) t (ts.drop i)=none→∀ cls y H',IsX a cls→But wp G H'→E cls y H')
def gE (K:Frag) (a:Ad):Sp:=fun vs H Q E=>∃ (wp dw wl op:Addr) (ts:List Str) (i:Nat) (f:OF) (fs:List OF) (G:Hp),vs=[.ref f.r,.ref wp]∧PSt a.Words a.Opened (fc a) H wp dw wl ts i op (f::fs) G∧(∀ H',PSt a.Words a.Opened (fc a) H' wp dw wl ts (i+1) op (f::fs) G→ts.getD i ""=")"→Q (.bl true) H')∧(∀ H',PSt a.Words a.Opened (fc a) H' wp dw wl ts (i+1) op (f.sign (ts.getD i "")::fs) G→ts.getD i ""≠")"→(ts.getD i ""="&"∨ts.getD i ""="|")∧(f.sg="("∨f.sg=ts.getD i "")→Q (.bl false) H')∧(ts.getD i ""≠")"→¬ ((ts.getD i ""="&"∨ts.getD i ""="|")∧(f.sg="("∨f.sg=ts.getD i ""))→∀ y H',But wp G H'→E (.ref a.NoText) (some y) H')
def mV (K:Frag) (a:Ad):Sp:=fun vs H Q E=>∃ (r d il:Addr) (sg:Str) (xs:List V) (inn:List Tr) (M:List Addr),vs=[.ref r]∧H r=some (.ins a.Opened d (gN sg il))∧H il=some (.lst xs)∧All2 (Tr.Fit (fc a) (Out M H)) inn xs∧(∀ b,H b=none→b ∉ M)∧xs.length≤1000∧(sg="not"→inn≠[])∧(sg="&"∨sg="|"→2≤inn.length)∧((∃ t,mkF sg inn=some t∧∀ v H',Same H H'→t.Fit (fc a) (Out M H') v→Q v H')∨(mkF sg inn=none∧∀ y H',Same H H'→H' y=some (.xd [("line",.int 0)])→E (.ref a.NoText) (some y) H'))
def lD (K:Frag) (a:Ad):Sp:=fun vs H Q E=>∃ c:Int,vs=[.int c]∧∀ p a b c,H p=none→Q (.ref p) (upd H p (.lst [.int a,.int b,.int c]))
def dI (K:Frag) (a:Ad):Sp:=fun vs H Q E=>∃ (w:Addr) (m:Int),vs=[.ref w,.int m]∧Well3 H w∧0 < m∧m < 2 ^ 62∧∀ (r:Int) (H':Hp),0≤r→r < m→Well3 H' w→But w H H'→Q (.int r) H'
def mW (K:Frag) (a:Ad):Sp:=fun vs H Q E=>∃ w:Addr,vs=[.ref w]∧Well3 H w∧∀ (u:Str) (H':Hp),aZ u→Well3 H' w→But w H H'→Q (.str u) H'
def jD (K:Frag) (a:Ad):Sp:=fun vs H Q E=>∃ (w:Addr) (m:Int),vs=[.ref w,.int m]∧Well3 H w∧0≤m∧m≤2∧∀ (v:V) (t:Tr) (H':Hp),t.At H' v→t.ok→t.dp=0→t.cnt≤3→Well3 H' w→But w H H'→Q v H'
def eF (K:Frag) (a:Ad) (d:Nat):Sp:=fun vs H Q E=>∃ (w:Addr) (i:Nat) (m:Int),i < d∧vs=[.ref w,.int i,.int m]∧Well3 H w∧i≤3∧0≤m∧m≤2∧∀ (v:V) (t:Tr) (H':Hp),t.At H' v→t.ok→t.dp≤i→t.cnt≤3 * 3 ^ i→Well3 H' w→But w H H'→Q v H'
def eG (K:Frag) (a:Ad) (d:Nat):Sp:=fun vs H Q E=>∃ (v:V) (t:Tr),t.dp < d∧vs=[v]∧t.At H v∧t.ok∧∀ v' H',Same H H'→t.Fit (fc a) H' v'→Q v' H'
def eH (K:Frag) (a:Ad) (d:Nat):Sp:=fun vs H Q E=>∃ (v:V) (t:Tr),t.dp < d∧vs=[v]∧t.At H v∧t.ok∧t.tx.length≤100000∧∀ H',Same H H'→Q (.str t.tx) H'
def eI (K:Frag) (a:Ad) (d:Nat):Sp:=fun vs H Q E=>∃ (v u:V) (t:Tr),t.dp < d∧vs=[v,u]∧t.Fit (fc a) H v∧t.At H u∧t.ok∧∀ H',Same H H'→Q (.bl true) H'
def lE (K:Frag) (a:Ad):Sp:=fun vs H Q E=>∃ w:Addr,vs=[.ref w]∧Well3 H w∧∀ (v:V) (t:Tr) (H':Hp),t.At H' v→t.ok→t.dp≤10→t.cnt≤3→Well3 H' w→But w H H'→Q v H'
def iS (K:Frag) (a:Ad):Sp:=fun vs H Q E=>∃ x:V,vs=[x]∧((∃ u,x=.str u∧AI0 u∧∀ t,nJ (Txt.split u sp1) []≠some (t,[]))∨okK K (.type "str") H x false)∧∀ H',Same H H'→Q (.bl true) H'
def spL (K:Frag):Sp:=fun vs H Q _=>∃ (a:Addr) (ns:List Int),vs=[.ref a]∧SqL K H a (ns.map V.int)∧ns.length≤63∧∀ H',Q (.bl true) H'
abbrev zT (K:Frag) (_:Ad):Sp:=spL K
theorem rH {K:Frag}{a:Ad}:∀ vs H Q E,¬ eF K a 0 vs H Q E:=by
 rintro vs H Q E ⟨w,i,m,h,_⟩
 exact absurd h (Nat.not_lt_zero _)
theorem rJ {K:Frag}{a:Ad}:∀ vs H Q E,¬ eG K a 0 vs H Q E:=by
 rintro vs H Q E ⟨v,t,h,_⟩
 exact absurd h (Nat.not_lt_zero _)
theorem rK {K:Frag}{a:Ad}:∀ vs H Q E,¬ eH K a 0 vs H Q E:=by
 rintro vs H Q E ⟨v,t,h,_⟩
 exact absurd h (Nat.not_lt_zero _)
theorem rL {K:Frag}{a:Ad}:∀ vs H Q E,¬ eI K a 0 vs H Q E:=by
 rintro vs H Q E ⟨v,u,t,h,_⟩
 exact absurd h (Nat.not_lt_zero _)
theorem rM {K:Frag}{a:Ad}:∀ vs H Q E,¬ eE K a 0 vs H Q E:=by
 rintro vs H Q E ⟨v,t,h,_⟩
 exact absurd h (Nat.not_lt_zero _)
def jZ (K:Frag) (a:Ad) (C:Addr) (sp:Sp):Prop:=C=a.Words∧sp=fQ K a
def mX (K:Frag) (a:Ad) (C:Addr) (sp:Sp):Prop:=C=a.Words∧sp=gC K a
def tL (K:Frag) (a:Ad) (C:Addr) (sp:Sp):Prop:=C=a.Words∧sp=jW K a
def mY (K:Frag) (a:Ad) (C:Addr) (sp:Sp):Prop:=C=a.Words∧sp=jX K a
def kA (K:Frag) (a:Ad) (C:Addr) (sp:Sp):Prop:=C=a.Words∧sp=fR K a
def iT (K:Frag) (a:Ad) (C:Addr) (sp:Sp):Prop:=C=a.Words∧sp=eP K a
section
variable {P:Program}{w:World}{K:Frag}{mg:Str→Option Value}{base:Heap}{f:Addr}{fd:FuncData}{a:Ad}
theorem qA {H:Hp}{w:Addr}{m:Int}{Q:VK}{E:XK}(W:Well3 H w) (h0:0 < m) (h1:m < 2 ^ 62) (q:∀ (r:Int) (H':Hp),0≤r→r < m→Well3 H' w→But w H H'→Q (.int r) H'):dI K a [.ref w,.int m] H Q E:=⟨w,m,rfl,W,h0,h1,q⟩
theorem vD {X:Cx}{x:Str}{ps:List Str}{k:Nat}{sp:Sp}{e:Expr}{es:List Expr}{t:TA}{p pos:Pos}(C:CalW X.prog X.w X.K X.mg X.base x ps k sp) (hr:Room k X.A) (hg:Gl X x) (ha:PA X (e::es) t)
  (hdb:(x == ("__debug__":Str))=false:=by decide) (he:starEach (e::es) X.env=(false,eval e X.env)::starEach es X.env:=by rfl) (hpl:(backTo pos (starEach es X.env)).any (·.1)=false:=by rfl) :
  PE X (.Call (.Name x p) (e::es) [] pos) (vL sp [] E0 t):=by
 obtain ⟨f,fd,F,b,kp,m⟩:=C.ex
 exact oN F hr hg m kp b .nil hZ ha hdb he hpl
theorem tM (B:Bt K mg a)  (F:Fun K "is_whole" "is_whole" eU f fd):FnOk P w K mg base CX0 1 f fd ["thing"] (mU K a):=by
 refine F.ok tF (fun vs H Q E h=>?_) (fun cdv A outer s H vs Q E hr h=>?_)
 ·obtain ⟨x,rfl,_⟩:=h
  rfl
 obtain ⟨x,rfl,⟨t,ty,ki,kb⟩,q⟩:=h
 refine ⟨_,(bA (aI (aU (aW (lW (aP (gL (K:=K) (T:="int") rfl) rfl B.isinstance PyProof.Rows.boot_isinstance (aJ (aN (pv 0) (aN (fH (v:=.ty "int") rfl B.int PyProof.Rows.boot_int rfl) aD))) (he:=aA _ _ _ rfl) (hpl:=aC rfl)) (lV (uA (aP (gL (K:=K) (T:="bool") rfl) rfl B.isinstance PyProof.Rows.boot_isinstance (aJ (aN (pv 0) (aN (fH (v:=.ty "bool") rfl B.bool PyProof.Rows.boot_bool rfl) aD))) (he:=aA _ _ _ rfl) (hpl:=aC rfl))))))))),?_⟩
 walk_at "w0"
 refine ⟨x,t,_,rfl,ty,ki,?_⟩
 walk_at "w0"
 cases x <;> try simp only [xC,yK,AJ7,xD,AJ8,AJ9,xE,xF,AK0,sA,xG,AK1,w_c,AY5,AY6,AY7,AK2,AY8,xH,w_b,AK3,AY9,w_not,xI,AK4,xJ,AZ0,xK,AK5,AK6,AK7,xL,AZ1,AZ2,AZ3,AK8,xM,sB,AZ9,xN,oR,xO,xP,xQ,w_K,xR,oS,sG,AL8,BA5,AM8,sI,sJ,sK,AM2,sL,sM,sN,BB1,AM3,AM4,xZ,AM5,yA,yB,sO,sP,yG,AM7,yH,sQ,yJ,yI,sR,yM,sS,pA,zN,pO,tE,pE,sX,zE,pG,zG,zH,BA6,sV,yT,yO,yW,AN6,sU,AN3,sT,Option.getD_some, exists_const,false_or,or_false,exists_false,AZ4,AZ5,AZ6,AZ7,AZ8,L2.start,List.map_cons,List.map_nil,List.length_cons,List.length_nil,List.replicate,List.replicate_zero,List.replicate_succ,Nat.reduceAdd,Nat.reduceSub,Nat.reduceLeDiff,List.cons_append,List.nil_append,List.append_nil,List.set_cons_zero,List.set_cons_succ,List.getElem?_cons_zero,List.getElem?_cons_succ,Option.some.injEq,V.int.injEq,V.bl.injEq,V.ref.injEq,V.str.injEq,V.ty.injEq,List.cons.injEq,and_true,true_and,exists_eq_left,exists_eq_left',exists_and_left,exists_eq,exists_eq',and_self,decide_eq_true_eq,Bool.not_eq_true',decide_eq_false_iff_not,Bool.true_eq_false,Bool.false_eq_true,if_true,if_false,ite_true,ite_false,false_and,and_false,and_assoc,reduceCtorEq] at * <;> first | exact q | exact ⟨_,t,_,rfl,ty,kb,q⟩ | (refine ⟨_,t,_,rfl,ty,kb,?_⟩; simpa [rZ] using q)
theorem lL (B:Bt K mg a) (C_is_whole:CalX P w K mg base "is_whole" ["thing"] 1 (mU K a)) (F:Fun K "is_whole_from" "is_whole_from" cI f fd):FnOk P w K mg base CX0 2 f fd ["thing","least"] (gU K a):=by
 refine F.ok lI (fun vs H Q E h=>?_) (fun cdv A outer s H vs Q E hr h=>?_)
 ·obtain ⟨x,lo,rfl,_⟩:=h
  rfl
 obtain ⟨x,lo,rfl,ox,q⟩:=h
 refine ⟨_,(bA (aI (aU (aW (lW (aT C_is_whole (hr.mono (by decide)) rfl (aJ (aN (pv 0) aD)) (he:=aA _ _ _ rfl) (hpl:=aC rfl)) (lV (dD AX7 (pv 1) (pv 0) (aY _)))))))),?_⟩
 walk_at "w0"
 refine ⟨x,rfl,ox,?_⟩
 cases x <;> simp_all [yK,AC5]
theorem wC (B:Bt K mg a)  (F:Fun K "is_name" "is_name" gB f fd):FnOk P w K mg base CX0 1 f fd ["thing"] (kP K a):=by
 refine F.ok wB (fun vs H Q E h=>?_) (fun cdv A outer s H vs Q E hr h=>?_)
 ·obtain ⟨x,rfl,_⟩:=h
  rfl
 obtain ⟨x,rfl,ox,q⟩:=h
 refine ⟨_,(bA (aF (bJ (L2.PW.pt (gX (dP (cF (aP qV rfl B.isinstance PyProof.Rows.boot_isinstance (aJ (aN (pv 0) (aN (fH (v:=.ty "str") rfl B.str PyProof.Rows.boot_str rfl) aD))) (he:=aA _ _ _ rfl) (hpl:=aC rfl)))) (gX (aX vJ (aP eL rfl B.len PySem.boot_len (aJ (aN (pv 0) aD))) aL (aY _)) (fS (aX rT (aP eL rfl B.len PySem.boot_len (aJ (aN (pv 0) aD))) (bT (v:=.int 8) rfl B.MOST_LETTERS ⟨_,rfl⟩) (aY _)))))) (aI (aU (aW jH))) aR) (aI (aU (aW (aP (oX rfl) rfl B.all PyProof.Rows.boot_all (aJ (aN (dQ ["sign"] [none] rfl (by kernel_rfl) (AH2 (pv 0)) (fun cl C s H fp=>⟨(dC (i:=0) (by decide:List.Nodup (["sign"]:List Str)) rfl (Or.inl (by kernel_rfl)) (Or.inr (by kernel_rfl))),fK,(dD qE (pv 0 (hv:=Or.inl (by kernel_rfl))) (bT (v:=.str "abcdefghijklmnopqrstuvwxyz") (mI (by kernel_rfl)) B.LETTERS ⟨_,rfl⟩) (by with_unfolding_all rfl))⟩)) aD)) (he:=aA _ _ _ rfl) (hpl:=aC rfl))))))),?_⟩
 cases x with
 | str u =>
  obtain ⟨hp,hl⟩:=id ox
  exists mK
  refine ⟨ox,sz8 hl,?_⟩
  by_cases h1:((u.length:Nat):Int) < 1
  ·rw [if_pos h1]
   have e:gK (.str u)=false:=decide_eq_false fun g=>by have:=g.1; omega
   rw [e] at q
   exact q _ fun _ _ z=>z
  rw [if_neg h1]
  refine ⟨sz8 hl,?_⟩
  by_cases h2:(8:Int) < ((u.length:Nat):Int)
  ·rw [if_pos h2]
   have e:gK (.str u)=false:=decide_eq_false fun g=>by have:=g.2.1; omega
   rw [e] at q
   exact q _ fun _ _ z=>z
  rw [if_neg h2]
  refine ⟨hp,?_⟩
  refine CompS.by (fun i acc σ H'=>acc=(u.cps.toList.take i).map (fun c=>V.bl (!(Builtin.Str.occurrences letters ⟨#[c]⟩ 0 letters.length 1).isEmpty))∧(∃ v,σ=[v])∧H'=H) (sz8 hl) ⟨rfl,⟨_,rfl⟩,rfl⟩ ?_ ?_ ?_
  ·rintro i c acc σ H' hc ⟨rfl,⟨v,rfl⟩,rfl⟩
   have hc':u.cps.toList[i]?=some c:=by simpa using hc
   have ea:(u.cps.toList.take i).map (fun c=>V.bl (!(Builtin.Str.occurrences letters ⟨#[c]⟩ 0 letters.length 1).isEmpty))++[V.bl (!(Builtin.Str.occurrences letters ⟨#[c]⟩ 0 letters.length 1).isEmpty)]=(u.cps.toList.take (i+1)).map (fun c=>V.bl (!(Builtin.Str.occurrences letters ⟨#[c]⟩ 0 letters.length 1).isEmpty)):=by
    rw [List.take_succ,hc',List.map_append]
    rfl
   walk_at "w0"
   first | exact ea | exact ⟨ea,⟨_,rfl⟩,rfl⟩
  ·rintro i acc σ H' ⟨rfl,_,_⟩
   rw [List.length_map,List.length_take]
   omega
  ·rintro acc σ H' ⟨rfl,⟨v,rfl⟩,rfl⟩ D hD
   have e:(u.cps.toList.take u.cps.size).map (fun c=>V.bl (!(Builtin.Str.occurrences letters ⟨#[c]⟩ 0 letters.length 1).isEmpty))=(u.cps.toList.map fun c=>!(Builtin.Str.occurrences letters ⟨#[c]⟩ 0 letters.length 1).isEmpty).map V.bl:=by
    rw [List.take_of_length_le (by simp),List.map_map]
    rfl
   rw [e]
   refine ⟨D,rfl,_,SqL.of aB,?_⟩
   have e2:gK (.str u)=decide (∀ c∈u.cps.toList,97≤c∧c≤122):=by
    rw [Bool.eq_iff_iff]
    refine ⟨fun g=>?_,fun g=>?_⟩
    ·have g':aZ u:=of_decide_eq_true g
     exact decide_eq_true g'.2.2
    ·exact decide_eq_true (p:=aZ u) ⟨by omega,by omega,of_decide_eq_true g⟩
   rw [AC8 hp,← e2]
   exact q _ (aG hD _)
 | non =>
  exists mK
  exact ⟨ox,q _ fun _ _ z=>z⟩
 | bl b =>
  exists mK
  exact ⟨ox,q _ fun _ _ z=>z⟩
 | int b =>
  exists mK
  exact ⟨ox,q _ fun _ _ z=>z⟩
 | ref b =>
  exists mK
  exact ⟨ox,q _ fun _ _ z=>z⟩
 | _=>exact ox.elim
theorem kB (B:Bt K mg a)  (F:FunA K "__init__" "NoText.__init__" bC f fd):FnOk P w K mg base CX0 1 f fd ["self","line"] (fV K a):=by
 refine FunA.ok F fU (fun vs H Q E h=>?_) (fun cdv A outer s H vs Q E hr h=>?_)
 ·obtain ⟨e,y,rfl,_⟩:=h
  rfl
 obtain ⟨e,y,rfl,he,q⟩:=h
 refine ⟨_,(bA (aI (cN (zB (pv 0) (pv 1) rfl)))),?_⟩
 walk_at "w0"
 obtain ⟨cdR,xs⟩:=B.xs
 exact ⟨_,he,_,xs,B.xmo,B.xna,q⟩
theorem wD (B:Bt K mg a) (F:FunA K "__init__" "NoText.__init__" bC f fd):FnOkH P w K mg base (CXF P w) 1 f fd ["self","line"] (fV K a):=by
 refine AT8 F fU (fun vs H Q E h=>?_) (fun cdv A outer s H vs Q E h=>?_)
 ·obtain ⟨e,y,rfl,_⟩:=h
  rfl
 obtain ⟨e,y,rfl,he,q⟩:=h
 refine ⟨_,(bA (aI (cN (zB (pv 0) (pv 1) rfl)))),?_⟩
 walk_at "w0"
 obtain ⟨cdR,xs⟩:=B.xs
 exact ⟨_,he,_,xs,B.xmo,B.xna,q⟩
def figs:Str:="0123456789"
theorem zU {c:Nat}(h:c < 128):(!(Builtin.Str.occurrences figs ⟨#[c]⟩ 0 figs.length 1).isEmpty)=decide (48≤c∧c≤57):=by
 have q:∀ k:Fin 128,(!(Builtin.Str.occurrences figs ⟨#[k.val]⟩ 0 figs.length 1).isEmpty)=decide (48≤k.val∧k.val≤57):=by decide +kernel
 exact q ⟨c,h⟩
theorem AE5 {u:Str}(h:gQ u=true):(u.cps.toList.map fun c=>!(Builtin.Str.occurrences figs ⟨#[c]⟩ 0 figs.length 1).isEmpty).all id=decide (∀ c∈u.cps.toList,48≤c∧c≤57):=by
 rw [Bool.eq_iff_iff,List.all_eq_true,decide_eq_true_eq]
 constructor
 ·intro z c hc
  have q:=z _ (List.mem_map.mpr ⟨c,hc,rfl⟩)
  rw [zU (plain_iff.mp h c hc)] at q
  simpa using q
 ·intro z x hx
  obtain ⟨c,hc,rfl⟩:=List.mem_map.mp hx
  rw [zU (plain_iff.mp h c hc)]
  exact decide_eq_true (z c hc)
theorem pS (B:Bt K mg a)  (F:Fun K "is_figures" "is_figures" dJ f fd):FnOk P w K mg base CX0 1 f fd ["word"] (jV K a):=by
 refine F.ok pP (fun vs H Q E h=>?_) (fun cdv A outer s H vs Q E hr h=>?_)
 ·obtain ⟨u,rfl,_⟩:=h
  rfl
 obtain ⟨u,rfl,hp,hl,q⟩:=h
 refine ⟨_,(bA (aF (bJ (L2.PW.pt (gX (aX vJ (aP eL rfl B.len PySem.boot_len (aJ (aN (pv 0) aD))) aL (aY _)) (gX (aX rT (aP eL rfl B.len PySem.boot_len (aJ (aN (pv 0) aD))) (bT (v:=.int 60) rfl B.MOST_FIGURES ⟨_,rfl⟩) (aY _)) (fS (dP (cF (aP (oX rfl) rfl B.all PyProof.Rows.boot_all (aJ (aN (dQ ["sign"] [none] rfl (by kernel_rfl) (AH2 (pv 0)) (fun cl C s H fp=>⟨(dC (i:=0) (by decide:List.Nodup (["sign"]:List Str)) rfl (Or.inl (by kernel_rfl)) (Or.inr (by kernel_rfl))),fK,(dD qE (pv 0 (hv:=Or.inl (by kernel_rfl))) (bT (v:=.str "0123456789") (mI (by kernel_rfl)) B.FIGURES ⟨_,rfl⟩) (by with_unfolding_all rfl))⟩)) aD)) (he:=aA _ _ _ rfl) (hpl:=aC rfl)))))))) (aI (aU (aW jH))) aR) (aI (aU (aW (AW7 (dD cL (pv 0) aM (aY _)) (lV (uA (iM PySem.F.plainAttrs_str PySem.F.slot_str_startswith PySem.F.type_str_startswith jS (pv 0) (aJ (aN aM aD))))))))))),?_⟩
 have e0:¬ (1≤u.length∧u.length≤60∧∀ c∈u.cps.toList,48≤c∧c≤57)→vY u=false:=fun z=>by unfold vY; rw [decide_eq_false z]; rfl
 walk_at "w0"
 refine ⟨sz8 hl,?_⟩
 by_cases h1:((u.length:Nat):Int) < 1
 ·rw [if_pos h1]
  rw [e0 (fun z=>by have:=z.1; omega)] at q
  exact q _ fun _ _ z=>z
 rw [if_neg h1]
 refine ⟨sz8 hl,?_⟩
 by_cases h2:(60:Int) < ((u.length:Nat):Int)
 ·rw [if_pos h2]
  rw [e0 (fun z=>by have:=z.2.1; omega)] at q
  exact q _ fun _ _ z=>z
 rw [if_neg h2]
 refine ⟨hp,?_⟩
 refine CompS.by (fun i acc σ H'=>acc=(u.cps.toList.take i).map (fun c=>V.bl (!(Builtin.Str.occurrences figs ⟨#[c]⟩ 0 figs.length 1).isEmpty))∧(∃ v,σ=[v])∧H'=H) (sz8 hl) ⟨rfl,⟨_,rfl⟩,rfl⟩ ?_ ?_ ?_
 ·rintro i c acc σ H' hc ⟨rfl,⟨v,rfl⟩,rfl⟩
  have hc':u.cps.toList[i]?=some c:=by simpa using hc
  have ea:(u.cps.toList.take i).map (fun c=>V.bl (!(Builtin.Str.occurrences figs ⟨#[c]⟩ 0 figs.length 1).isEmpty))++[V.bl (!(Builtin.Str.occurrences figs ⟨#[c]⟩ 0 figs.length 1).isEmpty)]=(u.cps.toList.take (i+1)).map (fun c=>V.bl (!(Builtin.Str.occurrences figs ⟨#[c]⟩ 0 figs.length 1).isEmpty)):=by
   rw [List.take_succ,hc',List.map_append]
   rfl
  walk_at "w0"
  first | exact ea | exact ⟨ea,⟨_,rfl⟩,rfl⟩
 ·rintro i acc σ H' ⟨rfl,_,_⟩
  rw [List.length_map,List.length_take]
  omega
 ·rintro acc σ H' ⟨rfl,⟨v,rfl⟩,rfl⟩ D hD
  have e:(u.cps.toList.take u.cps.size).map (fun c=>V.bl (!(Builtin.Str.occurrences figs ⟨#[c]⟩ 0 figs.length 1).isEmpty))=(u.cps.toList.map fun c=>(!(Builtin.Str.occurrences figs ⟨#[c]⟩ 0 figs.length 1).isEmpty)).map V.bl:=by
   rw [List.take_of_length_le (by simp),List.map_map]
   rfl
  rw [e]
  refine ⟨D,rfl,_,SqL.of aB,?_⟩
  have S2:=aG hD (.lst ((u.cps.toList.map fun c=>(!(Builtin.Str.occurrences figs ⟨#[c]⟩ 0 figs.length 1).isEmpty)).map V.bl))
  generalize upd H' D (.lst ((u.cps.toList.map fun c=>(!(Builtin.Str.occurrences figs ⟨#[c]⟩ 0 figs.length 1).isEmpty)).map V.bl))=H2 at *
  rw [AE5 hp]
  by_cases c:∀ c∈u.cps.toList,48≤c∧c≤57
  ·rw [decide_eq_true c]
   have e2:vY u=(decide (u="0") || !Txt.startswith u "0"):=by unfold vY; rw [decide_eq_true ⟨by omega,by omega,c⟩,Bool.true_and]
   exists Bool.not_true
   rw [e2] at q
   by_cases z:u="0"
   ·rw [decide_eq_true z,Bool.true_or] at q
    rw [if_pos z]
    exact q _ S2
   ·rw [decide_eq_false z,Bool.false_or] at q
    rw [if_neg z]
    exact q _ S2
  ·rw [decide_eq_false c]
   rw [e0 (fun z=>c z.2.2)] at q
   exists Bool.not_false
   exact q _ S2
theorem rN (B:Bt K mg a) (C_is_figures:CalX P w K mg base "is_figures" ["word"] 1 (jV K a)) (F:Fun K "is_number" "is_number" dY f fd):FnOk P w K mg base CX0 2 f fd ["word"] (lC K a):=by
 refine F.ok rC (fun vs H Q E h=>?_) (fun cdv A outer s H vs Q E hr h=>?_)
 ·obtain ⟨u,rfl,_⟩:=h
  rfl
 obtain ⟨u,rfl,hp,hl,q⟩:=h
 refine ⟨_,(bA (aF (bJ (cF (iM PySem.F.plainAttrs_str PySem.F.slot_str_startswith PySem.F.type_str_startswith jS (pv 0) (aJ (aN aM aD)))) (aI (aU (aW (lW (aT C_is_figures (hr.mono (by decide)) rfl (aJ (aN (gG uM (pv 0) (iV aL) iU) aD)) (he:=aA _ _ _ rfl) (hpl:=aC rfl)) (lV (dD vI (pv 0) aM (aY _))))))) aR) (aI (aU (aW (aT C_is_figures (hr.mono (by decide)) rfl (aJ (aN (pv 0) aD)) (he:=aA _ _ _ rfl) (hpl:=aC rfl))))))),?_⟩
 walk_at "w0"
 cases c:Txt.startswith u "-" with
 | true =>
  have e:nI u=(vY (Txt.slice u (some 1) none) && !decide (u="-0")):=by unfold nI; rw [if_pos c]
  rw [e] at q
  rw [if_pos rfl]
  refine ⟨sz8 hl,_,rfl,?_,Nat.le_trans (Txt.slice_le u _ _) hl,fun H1 S1=>?_⟩
  ·rw [plain_iff]
   intro c hc
   exact plain_iff.mp hp c (yL hc)
  cases d:vY (Txt.slice u (some 1) none) with
  | true =>
   rw [d,Bool.true_and] at q
   walk_at "w0"
   exact q _ S1
  | false =>
   rw [d,Bool.false_and] at q
   walk_at "w0"
   exact q _ S1
 | false =>
  have e:nI u=vY u:=by unfold nI; rw [if_neg (by rw [c]; decide)]
  rw [e] at q
  rw [if_neg (by decide)]
  exact ⟨u,rfl,hp,hl,q⟩
theorem kQ (B:Bt K mg a)  (CI_NoText:CalI P w K mg base "NoText" a.NoText "line" 1 (.int 0)) (F:Fun K "__init__" "Words.__init__" bY f fd):FnOk P w K mg base (CXF P w) 3 f fd ["self","text"] (eC K a):=by
 refine Fun.okX F kL (fun vs H Q E h=>?_) (fun cdv A outer s H vs Q E hr h=>?_)
 ·obtain ⟨p,dx,x,rfl,_⟩:=h
  rfl
 obtain ⟨p,dx,x,rfl,hp,q⟩:=h
 refine ⟨_,(bA (aF (bJ (dP (cF (aP (gL (K:=K) (T:="str") rfl) rfl B.isinstance PyProof.Rows.boot_isinstance (aJ (aN (pv 1) (aN (fH (v:=.ty "str") rfl B.str PyProof.Rows.boot_str rfl) aD))) (he:=aA _ _ _ rfl) (hpl:=aC rfl)))) (iR (gF (fZ (R:=fun dx H9=>E (.ref a.NoText) (some dx) H9) CI_NoText rfl rfl (hr.mono (by decide)) kI))) aR) (aF (cN (hJ (pv 0) (iM PySem.F.plainAttrs_str PySem.F.slot_str_split PySem.F.type_str_split uT (pv 1) (aJ (aN aM aD))) rfl)) (aI (cN (hJ (pv 0) aL rfl)))))),?_⟩
 walk_at "w0"
 rcases q with ⟨u,rfl,hl,hz,q⟩ | ⟨⟨t,ty,e⟩,q⟩
 ·refine ⟨_,_,true,rfl,.str u,by kernel_rfl,?_⟩
  exists Bool.not_true
  refine ⟨by decide,Nat.le_trans (by omega) (show (200002:Nat)≤sizeLine by decide),by exact sz8 hz,fun l hl1=>?_⟩
  have nl:p≠l:=aO hp hl1
  have hp1:upd H l (.lst ((Txt.split u sp1).map V.str)) p=some (.ins a.Words dx []):=by rw [aK nl]; exact hp
  refine ⟨_,_,_,hp1,B.ck_Words.cl,B.na_Words_words,by decide,_,_,_,aB,B.ck_Words.cl,B.na_Words_at,(show 1 < 1000 by decide),?_⟩
  refine q l _ hl1 (fun b o n e=>?_) ⟨aB,?_⟩
  ·rw [aK n,aK n,aK (aO e hl1)]
   exact e
  ·rw [aK nl.symm,aK nl.symm]
   exact aB
 ·refine ⟨_,_,false,rfl,ty,e,?_⟩
  exists Bool.not_false
  exact fun y hy=>q y _ (aG hy _) aB
theorem kR (B:Bt K mg a)  (F:Fun K "is_ended" "Words.is_ended" bZ f fd):FnOk P w K mg base CX0 1 f fd ["self"] (gC K a):=by
 refine F.ok kM (fun vs H Q E h=>?_) (fun cdv A outer s H vs Q E hr h=>?_)
 ·obtain ⟨wp,dw,wl,ts,i,rfl,_⟩:=h
  rfl
 obtain ⟨wp,dw,wl,ts,i,rfl,W,q⟩:=h
 refine ⟨_,(bA (aI (aU (aW (dD cL (cG (pv 0) rfl) (aP bH rfl B.len PySem.boot_len (aJ (aN (cG (pv 0) rfl) aD))) (aY _)))))),?_⟩
 walk_at "w0"
 refine ⟨_,_,_,W.w,B.ck_Words.cl,B.na_Words_at,.int i,rfl,?_⟩
 walk_at "w0"
 refine ⟨_,_,_,W.w,B.ck_Words.cl,B.na_Words_words,.ref wl,rfl,?_⟩
 refine ⟨wl,rfl,_,.inl (SqL.of W.l),?_⟩
 exists List.length_map
 exact q
theorem pT (B:Bt K mg a)  (F:Fun K "look" "Words.look" dL f fd):FnOk P w K mg base CX0 1 f fd ["self"] (jW K a):=by
 refine F.ok pQ (fun vs H Q E h=>?_) (fun cdv A outer s H vs Q E hr h=>?_)
 ·obtain ⟨wp,dw,wl,ts,i,rfl,_⟩:=h
  rfl
 obtain ⟨wp,dw,wl,ts,i,rfl,W,q⟩:=h
 refine ⟨_,(bA (aI (aU (aW (AA6 (aX vJ (cG (pv 0) rfl) (aP bH rfl B.len PySem.boot_len (aJ (aN (cG (pv 0) rfl) aD))) (aY _)) (bM cV (cG (pv 0) rfl) (cG (pv 0) rfl) (fun _ _=>rfl)) aM))))),?_⟩
 walk_at "w0"
 refine ⟨_,_,_,W.w,B.ck_Words.cl,B.na_Words_at,.int i,rfl,?_⟩
 walk_at "w0"
 refine ⟨_,_,_,W.w,B.ck_Words.cl,B.na_Words_words,.ref wl,rfl,?_⟩
 refine ⟨wl,rfl,_,.inl (SqL.of W.l),?_⟩
 exists List.length_map
 by_cases c:i < ts.length
 ·rw [if_pos (by omega)]
  refine ⟨_,_,_,W.w,B.ck_Words.cl,B.na_Words_words,.ref wl,rfl,?_⟩
  walk_at "w0"
  refine ⟨_,_,_,W.w,B.ck_Words.cl,B.na_Words_at,.int i,rfl,?_⟩
  refine ixl (SqL.of W.l) (v:=.str (ts.getD i "")) ?_ q
  refine hV ?_
  rw [List.getElem?_map,List.getD_eq_getElem?_getD,List.getElem?_eq_getElem c]
  rfl
 ·rw [if_neg (by omega)]
  rw [(fO (by omega)).1] at q
  exact q
theorem pU (B:Bt K mg a) (CM_look:∀ C sp,tL K a C sp→CalM P w K mg base C "look" ["self"] 1 sp) (F:Fun K "take" "Words.take" dM f fd):FnOk P w K mg base CX0 2 f fd ["self"] (jX K a):=by
 refine F.ok sc_Words_take (fun vs H Q E h=>?_) (fun cdv A outer s H vs Q E hr h=>?_)
 ·obtain ⟨wp,dw,wl,ts,i,rfl,_⟩:=h
  rfl
 obtain ⟨wp,dw,wl,ts,i,rfl,W,q⟩:=h
 refine ⟨_,(bA (aF (bF (i:=1) sc_Words_take.nd rfl (Or.inl rfl) (aW (cQ (pv 0) CM_look hZ (hr.mono (by decide)))) (by kernel_rfl)) (aF (cN (wW (pv 0) aL AR3)) (aI (aU (aW (pv 1))))))),?_⟩
 walk_at "w0"
 refine ⟨_,_,_,W.w,rfl,_,⟨rfl,rfl⟩,wp,dw,wl,ts,i,rfl,W,?_⟩
 walk_at "w0"
 refine ⟨_,_,_,W.w,B.ck_Words.cl,B.na_Words_at,.int i,rfl,?_⟩
 walk_at "w0"
 refine ⟨_,_,W.w,(show 2 < 1000 by decide),?_⟩
 exact q
theorem jE (B:Bt K mg a) (CM_is_ended:∀ C sp,mX K a C sp→CalM P w K mg base C "is_ended" ["self"] 1 sp) (CI_NoText:CalI P w K mg base "NoText" a.NoText "line" 1 (.int 0)) (F:Fun K "expect_end" "Words.expect_end" bQ f fd):FnOk P w K mg base (CXF P w) 3 f fd ["self"] (fQ K a):=by
 refine Fun.okX F jA (fun vs H Q E h=>?_) (fun cdv A outer s H vs Q E hr h=>?_)
 ·obtain ⟨wp,dw,wl,ts,i,rfl,_⟩:=h
  rfl
 obtain ⟨wp,dw,wl,ts,i,rfl,W,q⟩:=h
 refine ⟨_,(bA (aI (bJ (dP (cF (cQ (pv 0) CM_is_ended iN (hr.mono (by decide))))) (iR (gF (fZ (R:=fun dx H9=>E (.ref a.NoText) (some dx) H9) CI_NoText rfl rfl (hr.mono (by decide)) kI))) aR))),?_⟩
 walk_at "w0"
 refine ⟨_,_,_,W.w,rfl,_,⟨rfl,rfl⟩,wp,dw,wl,ts,i,rfl,W,?_⟩
 walk_at "w0"
 rcases q with ⟨e,q⟩ | ⟨e,q⟩
 ·rw [if_neg (by omega)]
  exact q
 ·rw [if_pos (by omega)]
  exact fun y hy=>q y _ (aG hy _) aB
theorem iO (B:Bt K mg a) (CM_take:∀ C sp,mY K a C sp→CalM P w K mg base C "take" ["self"] 2 sp) (C_is_number:CalX P w K mg base "is_number" ["word"] 2 (lC K a)) (CI_NoText:CalI P w K mg base "NoText" a.NoText "line" 1 (.int 0)) (F:Fun K "take_number" "Words.take_number" bL f fd):FnOk P w K mg base (CXF P w) 3 f fd ["self"] (eP K a):=by
 refine Fun.okX F sc_Words_take_number (fun vs H Q E h=>?_) (fun cdv A outer s H vs Q E hr h=>?_)
 ·obtain ⟨wp,dw,wl,ts,i,rfl,_⟩:=h
  rfl
 obtain ⟨wp,dw,wl,ts,i,rfl,W,ht,q⟩:=h
 refine ⟨_,(bA (aF (bF (i:=1) sc_Words_take_number.nd rfl (Or.inl rfl) (aW (cQ (pv 0) CM_take iN (hr.mono (by decide)))) (by kernel_rfl)) (aF (bJ (dP (cF (gJ C_is_number (hr.mono (by decide)) rfl (aJ (aN (pv 1) aD)) (he:=aA _ _ _ rfl) (hpl:=aC rfl)))) (iR (gF (fZ (R:=fun dx H9=>E (.ref a.NoText) (some dx) H9) CI_NoText rfl rfl (hr.mono (by decide)) kI))) aR) (aI (aU (aW (bS pF rfl B.int PyProof.Rows.boot_int (aJ (aN (pv 1) aD))))))))),?_⟩
 walk_at "w0"
 refine ⟨_,_,_,W.w,rfl,_,⟨rfl,rfl⟩,wp,dw,wl,ts,i,rfl,W,?_⟩
 have W1:=W.take (i+1)
 have B1:But wp H (upd H wp (.ins a.Words dw (dE wl (i+1)))):=But.upd _
 generalize upd H wp (.ins a.Words dw (dE wl (i+1)))=H1 at *
 walk_at "w0"
 refine ⟨_,rfl,ht.1,by have:=ht.2.1; omega,fun H2 S2=>?_⟩
 walk_at "w0"
 rcases q with ⟨e,q⟩ | ⟨e,q⟩
 ·exists e,Bool.not_true
  obtain ⟨n,hn⟩:=ht.2.2 e
  have e2:vZ (ts.getD i "")=n:=by unfold vZ; rw [hn]; rfl
  refine ⟨n,hn,by have:=ht.2.1; omega,?_⟩
  rw [← e2]
  exact q _ (B1.trans (Same.but S2)) (W1.same S2)
 ·exists e,Bool.not_false
  exact fun y hy=>q y _ (B1.trans (Same.but (S2.trans (aG hy _))))
theorem wE {ts:List Str}{i k:Nat}(h:k=i) (c:aZ (ts.getD i "")):((ts.drop i).takeWhile fun u=>decide (aZ u))=ts.getD i ""::((ts.drop (i+1)).takeWhile fun u=>decide (aZ u)):=by
 by_cases hi:i < ts.length
 ·rw [eO hi,List.takeWhile_cons,decide_eq_true c,if_pos rfl]
 ·rw [(fO (by omega)).1] at c
  exact absurd c (by decide)
theorem zV {ts:List Str}{i:Nat}(c:¬ aZ (ts.getD i "")):((ts.drop i).takeWhile fun u=>decide (aZ u))=[]:=by
 by_cases hi:i < ts.length
 ·rw [eO hi,List.takeWhile_cons,decide_eq_false c]
  rfl
 ·rw [(fO (by omega)).2]
  rfl
def AU4 (a:Ad) (H:Hp) (wp dw wl l:Addr) (ts:List Str) (i:Nat) (σ:L2.St) (H1:Hp):Prop:=∃ (us:List Str) (k:Nat),σ=[some (.ref wp),some (.ref l)]∧But wp H H1∧WAt a.Words H1 wp dw wl ts k∧H1 l=some (.lst (us.map V.str))∧us.length≤k∧k=i+us.length∧k≤i+ts.length∧(i≤ts.length→k≤ts.length)∧us++((ts.drop k).takeWhile fun u=>decide (aZ u))=((ts.drop i).takeWhile fun u=>decide (aZ u))
theorem AO6 {ts:List Str}{i:Nat}(c:aZ (ts.getD i "")):i < ts.length:=by
 by_cases hi:i < ts.length
 ·exact hi
 ·rw [(fO (by omega)).1] at c
  exact absurd c (by decide)
theorem jF (B:Bt K mg a) (C_is_name:CalX P w K mg base "is_name" ["thing"] 1 (kP K a)) (CM_look:∀ C sp,tL K a C sp→CalM P w K mg base C "look" ["self"] 1 sp) (CM_take:∀ C sp,mY K a C sp→CalM P w K mg base C "take" ["self"] 2 sp) (F:Fun K "take_names" "Words.take_names" bR f fd):FnOk P w K mg base CX0 3 f fd ["self"] (fR K a):=by
 refine F.ok sc_Words_take_names (fun vs H Q E h=>?_) (fun cdv A outer s H vs Q E hr h=>?_)
 ·obtain ⟨wp,dw,wl,ts,i,rfl,_⟩:=h
  rfl
 obtain ⟨wp,dw,wl,ts,i,rfl,W,hT,hl,q⟩:=h
 refine ⟨_,(bA (aF (bF (i:=1) sc_Words_take_names.nd rfl (Or.inl rfl) (gR aD) (by kernel_rfl)) (aF (cN (lP PassesOwn.never (cF (aT C_is_name (hr.mono (by decide)) rfl (aJ (aN (cQ (pv 0) CM_look hZ (hr.mono (by decide))) aD)) (he:=aA _ _ _ rfl) (hpl:=aC rfl))) (bA (aI (cN (eM (iM PySem.F.plainAttrs_list PySem.F.slot_list_append PySem.F.type_list_append jL (pv 1) (aJ (aN (cQ (pv 0) CM_take hZ (hr.mono (by decide))) aD))))))))) (aI (aU (aW (pv 1))))))),?_⟩
 walk_at "w0"
 refine ⟨Nat.zero_le _,fun l hl0=>?_⟩
 have S0:=aG hl0 (.lst [])
 have nl:l≠wp:=fun z=>by rw [z,W.w] at hl0; cases hl0
 have nl2:l≠wl:=fun z=>by rw [z,W.l] at hl0; cases hl0
 refine whl (AU4 a H wp dw wl l ts i) (fun _ H1=>3000+i - tJ wp H1) ⟨[],i,rfl,Same.but S0,W.same S0,aB,Nat.zero_le _,rfl,by omega,fun h=>h,by rw [List.nil_append]⟩ ?_
 rintro σ H1 ⟨us,k,rfl,B1,W1,e1,l1,ek,lk,lk2,eq⟩
 walk_at "w0"
 refine ⟨_,_,_,W1.w,rfl,_,⟨rfl,rfl⟩,wp,dw,wl,ts,k,rfl,W1,?_⟩
 refine ⟨_,rfl,AO5 (vC hT k),fun H2 S2=>?_⟩
 have B2:=B1.trans (Same.but S2)
 have W2:=W1.same S2
 have e2:=S2 _ _ e1
 walk_at "w0"
 by_cases c:aZ (ts.getD k "")
 ·have cn:gK (.str (ts.getD k ""))=true:=decide_eq_true c
  rw [cn,if_pos rfl]
  have kl:=AO6 c
  refine ⟨fun σ' H'=>AU4 a H wp dw wl l ts i σ' H'∧3000+i - tJ wp H' < 3000+i - tJ wp H1,fun σ' H' h=>⟨_,h.2,rfl,h.1⟩,?_⟩
  walk_at "w0"
  refine ⟨.inl ⟨rfl,_,SqL.of e2⟩,?_⟩
  walk_at "w0"
  refine ⟨_,_,_,W2.w,rfl,_,⟨rfl,rfl⟩,wp,dw,wl,ts,k,rfl,W2,?_⟩
  have W3:=W2.take (k+1)
  have B3:But wp H (upd H2 wp (.ins a.Words dw (dE wl (k+1)))):=B2.trans (But.upd _)
  have e3:upd H2 wp (.ins a.Words dw (dE wl (k+1))) l=some (.lst (us.map V.str)):=by rw [aK nl]; exact e2
  generalize upd H2 wp (.ins a.Words dw (dE wl (k+1)))=H3 at *
  refine ⟨l,_,_,rfl,rfl,e3,?_,?_⟩
  ·rw [List.length_map]
   exact Nat.lt_of_le_of_lt (show us.length≤1000 by omega) (by decide)
  have W4:WAt a.Words (upd H3 l (.lst (us.map V.str++[.str (ts.getD k "")]))) wp dw wl ts (k+1):=⟨by rw [aK nl.symm]; exact W3.w,by rw [aK nl2.symm]; exact W3.l⟩
  refine ⟨⟨us++[ts.getD k ""],k+1,rfl,fun b o n e=>?_,W4,by rw [aB,List.map_append]; rfl,by rw [List.length_append,List.length_singleton]; omega,by rw [List.length_append,List.length_singleton]; omega,by omega,fun _=>by omega,?_⟩,?_⟩
  ·rw [aK (aO e hl0)]
   exact B3 b o n e
  ·rw [List.append_assoc,List.singleton_append,← wE rfl c]
   exact eq
  ·rw [rF W4,rF W1]
   omega
 ·have cn:gK (.str (ts.getD k ""))=false:=decide_eq_false c
  rw [cn,if_neg (by decide)]
  rw [zV c,List.append_nil] at eq
  rw [← eq] at q
  walk_at "w0"
  refine q l H2 B2 hl0 e2 ?_
  rw [← ek]
  exact W2
theorem pV (u:Str):∀ us:List Str,inV (.str u) (us.map V.str)=decide (u∈us)
 | []=>rfl
 | v::us=>by
  have e:inV (.str u) ((v::us).map V.str)=(eqV (.str v) (.str u) || inV (.str u) (us.map V.str)):=rfl
  rw [e,pV u us]
  have e2:eqV (.str v) (.str u)=decide (v=u):=by
   first | rfl | (unfold eqV; by_cases c:v=u <;> simp [c])
  rw [e2]
  by_cases c:v=u
  ·simp [c]
  ·have c':¬ u=v:=fun z=>c z.symm
   simp [c,c']
theorem rO:∀ us:List Str,(us.map V.str).all oP=true
 | []=>rfl
 | v::us=>by rw [List.map_cons,List.all_cons,rO us]; rfl
theorem jG (B:Bt K mg a) (C_is_name:CalX P w K mg base "is_name" ["thing"] 1 (kP K a)) (F:Fun K "are_unlike_names" "are_unlike_names" bP f fd):FnOk P w K mg base CX0 2 f fd ["thing"] (fP K a):=by
 refine F.ok iZ (fun vs H Q E h=>?_) (fun cdv A outer s H vs Q E hr h=>?_)
 ·obtain ⟨x,b,rfl,_⟩:=h
  rfl
 obtain ⟨x,b,rfl,hx,q⟩:=h
 refine ⟨_,(bA (aF (bJ (L2.PW.pt (gX (dP (cF (aP (gL (K:=K) (T:="list") rfl) rfl B.isinstance PyProof.Rows.boot_isinstance (aJ (aN (pv 0) (aN (fH (v:=.ty "list") rfl B.list PyProof.Rows.boot_list rfl) aD))) (he:=aA _ _ _ rfl) (hpl:=aC rfl)))) (fS (dP (cF (aP (oX rfl) rfl B.all PyProof.Rows.boot_all (aJ (aN (dQ ["name"] [none] rfl (by kernel_rfl) (kF (pv 0)) (fun cl C s H fp=>⟨(dC (i:=0) (by decide:List.Nodup (["name"]:List Str)) rfl (Or.inl (by kernel_rfl)) (Or.inr (by kernel_rfl))),fK,(aT C_is_name (hr.mono (by decide)) (mI (by kernel_rfl)) (aJ (aN (pv 0 (hv:=Or.inl (by kernel_rfl))) aD)) (he:=aA _ _ _ rfl) (hpl:=aC rfl))⟩)) aD)) (he:=aA _ _ _ rfl) (hpl:=aC rfl))))))) (aI (aU (aW jH))) aR) (aI (aU (aW (dD cL (aP yR rfl B.len PySem.boot_len (aJ (aN (bS (yQ rfl) rfl B.set PyProof.Rows.boot_set (aJ (aN (pv 0) aD))) aD))) (aP bH rfl B.len PySem.boot_len (aJ (aN (pv 0) aD))) (aY _))))))),?_⟩
 walk_at "w0"
 rcases hx with ⟨p,xs,rfl,hp,hl,hn,rfl⟩ | ⟨rfl,t,ty,e⟩
 ·refine ⟨_,_,true,rfl,.lst hp,by kernel_rfl,?_⟩
  exists Bool.not_true
  refine ⟨⟨xs,SqL.of hp⟩,?_⟩
  refine CompL.by (xs:=xs) (fun i acc σ H'=>acc=((xs.take i).map gK).map V.bl∧(∃ v,σ=[v])∧Same H H') (sz8 (by omega)) ⟨rfl,⟨_,rfl⟩,fun _ _ z=>z⟩ (fun i acc σ H' _ h=>SqL.of (h.2.2 _ _ hp)) ?_ ?_ ?_
  ·rintro i y acc σ H' hy ⟨rfl,⟨v,rfl⟩,S1⟩
   have ea:((xs.take i).map gK).map V.bl++[V.bl (gK y)]=((xs.take (i+1)).map gK).map V.bl:=by
    rw [List.take_succ,hy,List.map_append,List.map_append]
    rfl
   walk_at "w0"
   refine ⟨y,rfl,(hn y (List.mem_of_getElem? hy)).same S1,fun H2 S2=>?_⟩
   first | exact ⟨ea,⟨_,rfl⟩,S1.trans S2⟩ | exact ⟨ea,S1.trans S2⟩
  ·rintro i acc σ H' ⟨rfl,_,_⟩
   rw [List.length_map,List.length_map,List.length_take]
   omega
  ·rintro acc σ H' ⟨rfl,⟨v,rfl⟩,S1⟩ D hD
   rw [List.take_length]
   have S2:=S1.trans (aG hD (.lst ((xs.map gK).map V.bl)))
   refine ⟨D,rfl,_,SqL.of aB,?_⟩
   have eall:(xs.map gK).all id=xs.all gK:=by rw [List.all_map]; rfl
   rw [eall]
   generalize upd H' D (.lst ((xs.map gK).map V.bl))=H2 at *
   by_cases ha:xs.all gK=true
   ·exists ha,Bool.not_true
    have es:=zR ha
    have hz:(xs.map zP).length=xs.length:=List.length_map ..
    refine ⟨xs.map zP,by rw [← es]; exact SqL.of (S2 _ _ hp),by omega,fun p3 h3=>?_⟩
    have S3:=aG h3 (AD3 P w p3 (xs.map zP))
    refine ⟨xs.map zP,aB,?_⟩
    walk_at "w0"
    refine ⟨xs,.inl (SqL.of (S3 _ _ (S2 _ _ hp))),?_⟩
    walk_at "w0"
    have hq:=q _ (S2.trans S3)
    have ed:oJ xs=decide ((((gW (xs.map zP)).length:Nat):Int)=((xs.length:Nat):Int)):=by
     unfold oJ
     rw [ha,Bool.true_and]
     have:=AD0 (xs.map zP)
     rw [hz] at this
     by_cases c:(xs.map zP).Nodup
     ·rw [decide_eq_true c,decide_eq_true (by have:=this.mpr c; omega)]
     ·rw [decide_eq_false c,decide_eq_false (fun z=>c (this.mp (by omega)))]
    rw [ed] at hq
    exact hq
   ·have ha':=Bool.eq_false_iff.mpr ha
    exists ha',Bool.not_false
    have hq:=q _ S2
    unfold oJ at hq
    rw [ha',Bool.false_and] at hq
    exact hq
 ·refine ⟨x,t,false,rfl,ty,e,?_⟩
  exists Bool.not_false
  exact q _ fun _ _ z=>z
theorem nL (B:Bt K mg a) (C_are_unlike_names:CalX P w K mg base "are_unlike_names" ["thing"] 2 (fP K a)) (F:Fun K "check_names" "check_names" cY f fd):FnOk P w K mg base (CXF P w) 3 f fd ["names"] (fY K a):=by
 refine Fun.okX F nK (fun vs H Q E h=>?_) (fun cdv A outer s H vs Q E hr h=>?_)
 ·obtain ⟨l,us,rfl,_⟩:=h
  rfl
 obtain ⟨l,us,rfl,hl,⟨hg,l9⟩,q⟩:=h
 refine ⟨_,(bA (aI (bJ (L2.PW.pt (gX (dP (cF (gJ C_are_unlike_names (hr.mono (by decide)) rfl (aJ (aN (pv 0) aD)) (he:=aA _ _ _ rfl) (hpl:=aC rfl)))) (fS (aX cL (aP bH rfl B.len PySem.boot_len (aJ (aN (pv 0) aD))) aL (aY _))))) (iR (gF (uI (R:=fun H9=>E (.ref a.NoFit) none H9) rfl rfl B.NoFit B.exc_NoFit (fun _ _ _ _ _ _ _ I hx hE=>AG8 I hx hE)))) aR))),?_⟩
 walk_at "w0"
 have hB:oJ (us.map V.str)=decide us.Nodup:=by
  unfold oJ
  have e1:(us.map V.str).all gK=true:=by
   rw [List.all_map,List.all_eq_true]
   intro u hu
   exact decide_eq_true (hg u hu)
  have e2:(us.map V.str).map zP=us:=by rw [List.map_map]; exact List.map_id us
  rw [e1,e2,Bool.true_and]
 have hN:∀ y∈us.map V.str,okN H y:=fun y hy=>by
  obtain ⟨u,hu,rfl⟩:=List.mem_map.mp hy
  exact ⟨(oY (hg u hu)).1,by have:=(oY (hg u hu)).2; omega⟩
 refine ⟨_,_,rfl,.inl ⟨l,_,rfl,hl,by rw [List.length_map]; omega,hN,rfl⟩,fun H1 S1=>?_⟩
 rw [hB]
 by_cases nd:us.Nodup
 ·exists decide_eq_true nd,Bool.not_true
  refine ⟨_,.inl (SqL.of (S1 _ _ hl)),?_⟩
  exists List.length_map
  by_cases ne:us=[]
  ·rcases q with ⟨c,_⟩ | ⟨_,q⟩
   ·exact absurd ne c.1
   ·rw [if_pos (by rw [ne]; rfl)]
    exact q _ S1
  ·have l0:us.length≠0:=fun z=>ne (List.eq_nil_of_length_eq_zero z)
   rw [if_neg (by omega)]
   rcases q with ⟨_,q⟩ | ⟨c,_⟩
   ·exact q _ S1
   ·exact absurd ⟨ne,nd⟩ c
 ·exists decide_eq_false nd,Bool.not_false
  rcases q with ⟨c,_⟩ | ⟨_,q⟩
  ·exact absurd c.2 nd
  ·exact q _ S1
theorem rP (B:Bt K mg a)  (F:Fun K "check_fit" "check_fit" dZ f fd):FnOk P w K mg base CX0 1 f fd ["fit"] (iC K a):=by
 refine F.ok rD (fun vs H Q E h=>?_) (fun cdv A outer s H vs Q E hr h=>?_)
 ·obtain ⟨v,t,rfl,_⟩:=h
  rfl
 obtain ⟨v,t,rfl,h,q⟩:=h
 refine ⟨_,(bA (aI (bJ (dP (cF (aP (dR (K:=K) rfl) rfl B.isinstance PyProof.Rows.boot_isinstance (aJ (aN (pv 0) (aN (bT (v:=.ref _) rfl B.Fit rfl) aD))) (he:=aA _ _ _ rfl) (hpl:=aC rfl)))) (iR qC) aR))),?_⟩
 walk_at "w0"
 obtain ⟨p,dx,fs,rfl,hp,_⟩:=h.ins
 have hk:ClsK K (t.cls (fc a))∧kitOne K (.ref (t.cls (fc a))) (.ref a.Fit)=some true:=by
  cases t with
  | any=>exact ⟨B.ck_Any,B.is_Any_Fit⟩
  | kind us=>exact ⟨B.ck_Kind,B.is_Kind_Fit⟩
  | place us=>exact ⟨B.ck_Place,B.is_Place_Fit⟩
  | weight n=>exact ⟨B.ck_Least,B.is_Least_Fit⟩
  | not t=>exact ⟨B.ck_Not,B.is_Not_Fit⟩
  | both ts=>exact ⟨B.ck_Both,B.is_Both_Fit⟩
  | either ts=>exact ⟨B.ck_Either,B.is_Either_Fit⟩
 refine ⟨_,_,_,true,rfl,hk.1.ty hp,hk.2,?_⟩
 exists Bool.not_true
 exact q
theorem pW (B:Bt K mg a) (C_check_fit:CalX P w K mg base "check_fit" ["fit"] 1 (iC K a)) (F:Fun K "check_fits" "check_fits" dN f fd):FnOk P w K mg base CX0 2 f fd ["fits"] (gO K a):=by
 refine F.ok sc_check_fits (fun vs H Q E h=>?_) (fun cdv A outer s H vs Q E hr h=>?_)
 ·obtain ⟨l,xs,ts,rfl,_⟩:=h
  rfl
 obtain ⟨l,xs,ts,rfl,hl,hf,l2,l100,q⟩:=h
 refine ⟨_,(bA (aF (bJ (L2.PW.pt (gX (dP (cF (aP (gL (K:=K) (T:="list") rfl) rfl B.isinstance PyProof.Rows.boot_isinstance (aJ (aN (pv 0) (aN (fH (v:=.ty "list") rfl B.list PyProof.Rows.boot_list rfl) aD))) (he:=aA _ _ _ rfl) (hpl:=aC rfl)))) (fS (aX vJ (aP bH rfl B.len PySem.boot_len (aJ (aN (pv 0) aD))) aL (aY _))))) (iR qC) aR) (aI (cN (uB PassesOwn.never rfl (kF (pv 0)) (dC (i:=1) sc_check_fits.nd rfl (Or.inl rfl)) (bA (aI (cN (eM (aT C_check_fit (hr.mono (by decide)) rfl (aJ (aN (pv 1) aD)) (he:=aA _ _ _ rfl) (hpl:=aC rfl))))))))))),?_⟩
 walk_at "w0"
 refine ⟨_,_,true,rfl,.lst hl,by kernel_rfl,?_⟩
 exists Bool.not_true
 refine ⟨_,.inl (SqL.of hl),?_⟩
 rw [if_neg (by omega)]
 refine ⟨⟨_,SqL.of hl⟩,?_⟩
 refine ForL.by (xs:=xs) (fun _ σ H1=>(∃ v,σ=[some (.ref l),v])∧H1=H) ⟨⟨_,rfl⟩,rfl⟩ (fun i σ H1 _ h=>by rw [h.2]; exact SqL.of hl) ?_ ?_
 ·rintro i y σ H1 hy ⟨⟨v,rfl⟩,rfl⟩
  obtain ⟨t,_,ht⟩:=hf.get hy
  walk_at "w0"
  refine ⟨y,t,rfl,ht,?_⟩
  first | exact ⟨⟨_,rfl⟩,rfl⟩ | trivial
 ·rintro σ H1 ⟨⟨v,rfl⟩,rfl⟩
  first | exact q | (walk_at "w0"; exact q)
theorem lM (B:Bt K mg a) (C_check_names:CalX P w K mg base "check_names" ["names"] 3 (fY K a)) (F:Fun K "__init__" "Kind.__init__" cJ f fd):FnOk P w K mg base (CXF P w) 4 f fd ["self","names"] (dG K a):=by
 refine Fun.okX F lJ (fun vs H Q E h=>?_) (fun cdv A outer s H vs Q E hr h=>?_)
 ·obtain ⟨p,dx,l,us,rfl,_⟩:=h
  rfl
 obtain ⟨p,dx,l,us,rfl,hp,hl,hok,q⟩:=h
 refine ⟨_,(bA (aF (cN (eM (gJ C_check_names (hr.mono (by decide)) rfl (aJ (aN (pv 1) aD)) (he:=aA _ _ _ rfl) (hpl:=aC rfl)))) (aI (cN (hJ (pv 0) (bS cW rfl B.list PyProof.Rows.boot_list (aJ (aN (pv 1) aD))) rfl))))),?_⟩
 walk_at "w0"
 refine ⟨l,us,rfl,hl,hok,?_⟩
 rcases q with ⟨c,q⟩ | ⟨c,q⟩
 ·refine .inl ⟨c,fun H1 S1=>?_⟩
  walk_at "w0"
  refine ⟨_,.inl (SqL.of (S1 _ _ hl)),fun p2 h2=>?_⟩
  have S2:=aG h2 (.lst (us.map V.str))
  refine ⟨_,_,_,S2 _ _ (S1 _ _ hp),B.ck_Kind.cl,B.na_Kind_names,by decide,?_⟩
  refine q p2 _ (fun b o n e=>?_) (S1.free h2) ?_ aB
  ·rw [aK n]
   exact S2 _ _ (S1 _ _ e)
  ·rw [aK (aO (S1 _ _ hp) h2).symm]
   exact aB
 ·exact .inr ⟨c,q⟩
theorem kS (B:Bt K mg a) (C_check_names:CalX P w K mg base "check_names" ["names"] 3 (fY K a)) (F:Fun K "__init__" "Place.__init__" cB f fd):FnOk P w K mg base (CXF P w) 4 f fd ["self","names"] (dA K a):=by
 refine Fun.okX F kN (fun vs H Q E h=>?_) (fun cdv A outer s H vs Q E hr h=>?_)
 ·obtain ⟨p,dx,l,us,rfl,_⟩:=h
  rfl
 obtain ⟨p,dx,l,us,rfl,hp,hl,hok,q⟩:=h
 refine ⟨_,(bA (aF (cN (eM (gJ C_check_names (hr.mono (by decide)) rfl (aJ (aN (pv 1) aD)) (he:=aA _ _ _ rfl) (hpl:=aC rfl)))) (aI (cN (hJ (pv 0) (bS cW rfl B.list PyProof.Rows.boot_list (aJ (aN (pv 1) aD))) rfl))))),?_⟩
 walk_at "w0"
 refine ⟨l,us,rfl,hl,hok,?_⟩
 rcases q with ⟨c,q⟩ | ⟨c,q⟩
 ·refine .inl ⟨c,fun H1 S1=>?_⟩
  walk_at "w0"
  refine ⟨_,.inl (SqL.of (S1 _ _ hl)),fun p2 h2=>?_⟩
  have S2:=aG h2 (.lst (us.map V.str))
  refine ⟨_,_,_,S2 _ _ (S1 _ _ hp),B.ck_Place.cl,B.na_Place_names,by decide,?_⟩
  refine q p2 _ (fun b o n e=>?_) (S1.free h2) ?_ aB
  ·rw [aK n]
   exact S2 _ _ (S1 _ _ e)
  ·rw [aK (aO (S1 _ _ hp) h2).symm]
   exact aB
 ·exact .inr ⟨c,q⟩
theorem kT (B:Bt K mg a) (C_is_whole_from:CalX P w K mg base "is_whole_from" ["thing","least"] 2 (gU K a)) (F:Fun K "__init__" "Least.__init__" cC f fd):FnOk P w K mg base (CXF P w) 3 f fd ["self","weight"] (dB K a):=by
 refine Fun.okX F kO (fun vs H Q E h=>?_) (fun cdv A outer s H vs Q E hr h=>?_)
 ·obtain ⟨p,dx,n,rfl,_⟩:=h
  rfl
 obtain ⟨p,dx,n,rfl,hp,q⟩:=h
 refine ⟨_,(bA (aF (bJ (dP (cF (gJ C_is_whole_from (hr.mono (by decide)) rfl (aJ (aN (pv 1) (aN aL aD))) (he:=aA _ _ _ rfl) (hpl:=aC rfl)))) (iR (gF (uI (R:=fun H9=>E (.ref a.NoFit) none H9) rfl rfl B.NoFit B.exc_NoFit (fun _ _ _ _ _ _ _ I hx hE=>AG8 I hx hE)))) aR) (aI (cN (hJ (pv 0) (pv 1) rfl))))),?_⟩
 walk_at "w0"
 refine ⟨_,_,rfl,⟨_,.int n,by kernel_rfl,by kernel_rfl⟩,?_⟩
 rcases q with ⟨n0,q⟩ | ⟨n0,q⟩
 ·have e:AC5 (.int n) 0=true:=decide_eq_true n0
  exists e
  exact ⟨_,_,_,hp,B.ck_Least.cl,B.na_Least_weight,by decide,q⟩
 ·have e:AC5 (.int n) 0=false:=decide_eq_false n0
  exists e
  exact q
theorem mZ (B:Bt K mg a) (C_check_fit:CalX P w K mg base "check_fit" ["fit"] 1 (iC K a)) (F:Fun K "__init__" "Not.__init__" cR f fd):FnOk P w K mg base CX0 2 f fd ["self","fit"] (dU K a):=by
 refine F.ok mT (fun vs H Q E h=>?_) (fun cdv A outer s H vs Q E hr h=>?_)
 ·obtain ⟨p,dx,v,t,rfl,_⟩:=h
  rfl
 obtain ⟨p,dx,v,t,rfl,hp,hf,q⟩:=h
 refine ⟨_,(bA (aF (cN (eM (aT C_check_fit (hr.mono (by decide)) rfl (aJ (aN (pv 1) aD)) (he:=aA _ _ _ rfl) (hpl:=aC rfl)))) (aI (cN (hJ (pv 0) (pv 1) rfl))))),?_⟩
 walk_at "w0"
 refine ⟨v,t,rfl,hf,?_⟩
 walk_at "w0"
 exact ⟨_,_,_,hp,B.ck_Not.cl,B.na_Not_fit,by decide,q⟩
theorem lN (B:Bt K mg a) (C_check_fits:CalX P w K mg base "check_fits" ["fits"] 2 (gO K a)) (F:Fun K "__init__" "Both.__init__" cK f fd):FnOk P w K mg base CX0 3 f fd ["self","fits"] (dH K a):=by
 refine F.ok lK (fun vs H Q E h=>?_) (fun cdv A outer s H vs Q E hr h=>?_)
 ·obtain ⟨p,dx,l,xs,ts,rfl,_⟩:=h
  rfl
 obtain ⟨p,dx,l,xs,ts,rfl,hp,hl,hf,l2,l100,q⟩:=h
 refine ⟨_,(bA (aF (cN (eM (aT C_check_fits (hr.mono (by decide)) rfl (aJ (aN (pv 1) aD)) (he:=aA _ _ _ rfl) (hpl:=aC rfl)))) (aI (cN (hJ (pv 0) (bS cW rfl B.list PyProof.Rows.boot_list (aJ (aN (pv 1) aD))) rfl))))),?_⟩
 walk_at "w0"
 refine ⟨l,xs,ts,rfl,hl,hf,l2,l100,?_⟩
 walk_at "w0"
 refine ⟨_,.inl (SqL.of hl),fun p2 h2=>?_⟩
 have S2:=aG h2 (.lst xs)
 refine ⟨_,_,_,S2 _ _ hp,B.ck_Both.cl,B.na_Both_fits,by decide,?_⟩
 refine q p2 _ (fun b o n e=>?_) h2 ?_ aB
 ·rw [aK n]
  exact S2 _ _ e
 ·rw [aK (aO hp h2).symm]
  exact aB
theorem kC (B:Bt K mg a) (C_check_fits:CalX P w K mg base "check_fits" ["fits"] 2 (gO K a)) (F:Fun K "__init__" "Either.__init__" bV f fd):FnOk P w K mg base CX0 3 f fd ["self","fits"] (cU K a):=by
 refine F.ok jT (fun vs H Q E h=>?_) (fun cdv A outer s H vs Q E hr h=>?_)
 ·obtain ⟨p,dx,l,xs,ts,rfl,_⟩:=h
  rfl
 obtain ⟨p,dx,l,xs,ts,rfl,hp,hl,hf,l2,l100,q⟩:=h
 refine ⟨_,(bA (aF (cN (eM (aT C_check_fits (hr.mono (by decide)) rfl (aJ (aN (pv 1) aD)) (he:=aA _ _ _ rfl) (hpl:=aC rfl)))) (aI (cN (hJ (pv 0) (bS cW rfl B.list PyProof.Rows.boot_list (aJ (aN (pv 1) aD))) rfl))))),?_⟩
 walk_at "w0"
 refine ⟨l,xs,ts,rfl,hl,hf,l2,l100,?_⟩
 walk_at "w0"
 refine ⟨_,.inl (SqL.of hl),fun p2 h2=>?_⟩
 have S2:=aG h2 (.lst xs)
 refine ⟨_,_,_,S2 _ _ hp,B.ck_Either.cl,B.na_Either_fits,by decide,?_⟩
 refine q p2 _ (fun b o n e=>?_) h2 ?_ aB
 ·rw [aK n]
  exact S2 _ _ e
 ·rw [aK (aO hp h2).symm]
  exact aB
theorem kD (B:Bt K mg a)  (F:Fun K "__init__" "Opened.__init__" bW f fd):FnOk P w K mg base CX0 1 f fd ["self","sign"] (dW K a):=by
 refine F.ok jU (fun vs H Q E h=>?_) (fun cdv A outer s H vs Q E hr h=>?_)
 ·obtain ⟨p,dx,s,rfl,_⟩:=h
  rfl
 obtain ⟨p,dx,s,rfl,hp,q⟩:=h
 refine ⟨_,(bA (aF (cN (hJ (pv 0) (pv 1) rfl)) (aI (cN (hJ (pv 0) (hU (aJ aD)) rfl))))),?_⟩
 walk_at "w0"
 refine ⟨_,_,_,hp,B.ck_Opened.cl,B.na_Opened_sign,by decide,?_⟩
 refine ⟨Nat.zero_le _,fun il hil=>?_⟩
 have nl:il≠p:=fun z=>by rw [z,aB] at hil; cases hil
 have h0:H il=none:=by rw [aK nl] at hil; exact hil
 have e1:upd (upd H p (.ins a.Opened dx (nP "sign" (.str s) []))) il (.lst []) p=some (.ins a.Opened dx [("sign",.str s)]):=by rw [aK nl.symm]; exact aB
 refine ⟨_,_,_,e1,B.ck_Opened.cl,B.na_Opened_inner,(show 1 < 1000 by decide),?_⟩
 refine q il _ h0 (fun b o n e=>?_) (by rw [aK nl]; exact aB) aB
 rw [aK n,aK (aO e h0),aK n]
 exact e
theorem kU (B:Bt K mg a) (CM_take:∀ C sp,mY K a C sp→CalM P w K mg base C "take" ["self"] 2 sp) (CI_NoText:CalI P w K mg base "NoText" a.NoText "line" 1 (.int 0)) (F:Fun K "is_closed_here" "is_closed_here" cE f fd):FnOk P w K mg base (CXF P w) 3 f fd ["bracket","words"] (gE K a):=by
 refine Fun.okX F sc_is_closed_here (fun vs H Q E h=>?_) (fun cdv A outer s H vs Q E hr h=>?_)
 ·obtain ⟨wp,dw,wl,op,ts,i,f,fs,G,rfl,_⟩:=h
  rfl
 obtain ⟨wp,dw,wl,op,ts,i,f,fs,G,rfl,hP,q1,q2,q3⟩:=h
 refine ⟨_,(bA (aF (bF (i:=2) sc_is_closed_here.nd rfl (Or.inl rfl) (aW (cQ (pv 1) CM_take iN (hr.mono (by decide)))) (by kernel_rfl)) (aF (bJ (aX cL (pv 2) aM (aY _)) (aI (aU (aW jH))) aR) (aF (bJ (L2.PW.pt (gX (aX hW (pv 2) (jJ (aJ (aN aM (aN aM aD)))) (by with_unfolding_all rfl)) (fS (aX hW (cG (pv 0) rfl) (jJ (aJ (aN aM (aN (pv 2) aD)))) (by with_unfolding_all rfl))))) (iR (gF (fZ (R:=fun dx H9=>E (.ref a.NoText) (some dx) H9) CI_NoText rfl rfl (hr.mono (by decide)) kI))) aR) (aF (cN (hJ (pv 0) (pv 2) rfl)) (aI (aU (aW jH)))))))),?_⟩
 have hf:=hP.F f List.mem_cons_self
 have hP1:=hP.take (i+1)
 have B1:But wp H (upd H wp (.ins a.Words dw (dE wl (i+1)))):=But.upd _
 walk_at "w0"
 refine ⟨_,_,_,hP.W.w,rfl,_,⟨rfl,rfl⟩,wp,dw,wl,ts,i,rfl,hP.W,?_⟩
 generalize upd H wp (.ins a.Words dw (dE wl (i+1)))=H1 at *
 generalize ts.getD i ""=x at *
 walk_at "w0"
 by_cases c1:x=")"
 ·rw [if_pos c1]
  exact q1 _ hP1 c1
 rw [if_neg c1]
 refine ⟨sz8 (by decide),fun p1 h1=>?_⟩
 have S1:=aG h1 (.tup [.str "&",.str "|"])
 refine ⟨p1,_,rfl,.inr (SqT.of aB),rfl,rfl,?_⟩
 have hP2:=hP1.same S1
 generalize upd H1 p1 (.tup [.str "&",.str "|"])=H2 at *
 have ei:inV (.str x) [.str "&",.str "|"]=decide (x="&"∨x="|"):=by
  rw [show ([.str "&",.str "|"]:List V)=([("&":Str),"|"]:List Str).map V.str from rfl,pV]
  simp
 rw [ei]
 by_cases c2:x="&"∨x="|"
 ·exists decide_eq_true c2,Bool.not_true
  refine ⟨_,_,_,(hP2.F f List.mem_cons_self).1,B.ck_Opened.cl,B.na_Opened_sign,.str f.sg,rfl,?_⟩
  refine ⟨sz8 (by decide),fun p2 h2=>?_⟩
  have S2:=aG h2 (.tup [.str "(",.str x])
  refine ⟨p2,_,rfl,.inr (SqT.of aB),rfl,rfl,?_⟩
  have hP3:=hP2.same S2
  generalize upd H2 p2 (.tup [.str "(",.str x])=H3 at *
  have ej:inV (.str f.sg) [.str "(",.str x]=decide (f.sg="("∨f.sg=x):=by
   rw [show ([.str "(",.str x]:List V)=([("(":Str),x]:List Str).map V.str from rfl,pV]
   simp
  rw [ej]
  by_cases c3:f.sg="("∨f.sg=x
  ·exists decide_eq_true c3,Bool.not_true
   refine ⟨_,_,_,(hP3.F f List.mem_cons_self).1,B.ck_Opened.cl,B.na_Opened_sign,(show 2 < 1000 by decide),?_⟩
   exact q2 _ hP3.sign c1 ⟨c2,c3⟩
  ·exists decide_eq_false c3,Bool.not_false
   exact fun y hy=>q3 c1 (fun z=>c3 z.2) y _ (hP3.K.trans (Same.but (aG hy _)))
 ·exists decide_eq_false c2,Bool.not_false
  exact fun y hy=>q3 c1 (fun z=>c2 z.1) y _ (hP2.K.trans (Same.but (aG hy _)))
theorem zW (B:Bt K mg a) (CC_Not:CalC P w K mg base "Not" a.Not ["self","fit"] 2 (dU K a)) (CC_Both:CalC P w K mg base "Both" a.Both ["self","fits"] 3 (dH K a)) (CC_Either:CalC P w K mg base "Either" a.Either ["self","fits"] 3 (cU K a)) (CI_NoText:CalI P w K mg base "NoText" a.NoText "line" 1 (.int 0)) (F:Fun K "fit_of" "fit_of" iL f fd):FnOk P w K mg base (CXF P w) 5 f fd ["opened"] (mV K a):=by
 refine Fun.okX F zO (fun vs H Q E h=>?_) (fun cdv A outer s H vs Q E hr h=>?_)
 ·obtain ⟨r,d,il,sg,xs,inn,M,rfl,_⟩:=h
  rfl
 obtain ⟨r,d,il,sg,xs,inn,M,rfl,hr1,hil,hA,hM,hz,h0,h2,q⟩:=h
 refine ⟨_,(bA (aF (bJ (aX cL (cG (pv 0) rfl) aM (aY _)) (aI (aU (aW (fT CC_Not iN (hr.mono (by decide)) rfl (aJ (aN (bM cV (cG (pv 0) rfl) aL (fun _ _=>rfl)) aD)) (he:=aA _ _ _ rfl) (hpl:=aC rfl))))) aR) (aF (bJ (aX cL (cG (pv 0) rfl) aM (aY _)) (aI (aU (aW (fT CC_Both iN (hr.mono (by decide)) rfl (aJ (aN (cG (pv 0) rfl) aD)) (he:=aA _ _ _ rfl) (hpl:=aC rfl))))) aR) (aF (bJ (aX cL (cG (pv 0) rfl) aM (aY _)) (aI (aU (aW (fT CC_Either iN (hr.mono (by decide)) rfl (aJ (aN (cG (pv 0) rfl) aD)) (he:=aA _ _ _ rfl) (hpl:=aC rfl))))) aR) (iR (gF (fZ (R:=fun dx H9=>E (.ref a.NoText) (some dx) H9) CI_NoText rfl rfl (hr.mono (by decide)) kI))))))),?_⟩
 have ln:=hA.len
 walk_at "w0"
 refine ⟨_,_,_,hr1,B.ck_Opened.cl,B.na_Opened_sign,.str sg,rfl,?_⟩
 walk_at "w0"
 by_cases c1:sg="not"
 ·rw [if_pos c1]
  refine ⟨_,_,_,hr1,B.ck_Opened.cl,B.na_Opened_inner,.ref il,rfl,?_⟩
  cases hA with
  | nil=>exact absurd rfl (h0 c1)
  | @cons t v ts vs ht hr2 =>
   refine ixl (SqL.of hil) (v:=v) (show atI (v::vs) ((0:Nat):Int)=some v from hV rfl) ?_
   intro x dx hx hd ne
   have M0:=bI (o:=.own x) (o':=.ins a.Not dx []) hx hd
   refine ⟨x,dx,v,t,rfl,aB,(ht.same pM).same M0,?_⟩
   walk_at "w0"
   have SS:Same H (upd (upd (upd H dx (.own x)) x (.ins a.Not dx [])) x (.ins a.Not dx [("fit",v)])):=fun b o e=>by rw [aK (aO e hx)]; exact M0 b o e
   have em:mkF sg (t::ts)=some (.not t):=by unfold mkF; rw [if_pos c1]; rfl
   rcases q with ⟨t',e,q⟩ | ⟨e,_⟩
   ·rw [em] at e
    cases e
    exact q (.ref x) _ SS (by rw [Tr.Fit]; exact ⟨x,dx,v,rfl,gS (hM x hx) aB,ht.same (lT SS)⟩)
   ·rw [em] at e; cases e
 rw [if_neg c1]
 refine ⟨_,_,_,hr1,B.ck_Opened.cl,B.na_Opened_sign,.str sg,rfl,?_⟩
 walk_at "w0"
 by_cases c2:sg="&"
 ·rw [if_pos c2]
  have em:mkF sg inn=some (.both (Trs.ofL inn)):=by unfold mkF; rw [if_neg c1,if_pos c2]
  refine ⟨_,_,_,hr1,B.ck_Opened.cl,B.na_Opened_inner,.ref il,rfl,?_⟩
  have l2:=h2 (.inl c2)
  intro x dx hx hd ne
  have M0:=bI (o:=.own x) (o':=.ins a.Both dx []) hx hd
  refine ⟨x,dx,il,xs,inn,rfl,aB,M0 _ _ hil,hA.imp (fun t v _ h=>(h.same pM).same M0),by omega,hz,fun l' H' Bx hl' e1 e2=>?_⟩
  walk_at "w0"
  have SS:=dF hx hd Bx
  rcases q with ⟨t',e,q⟩ | ⟨e,_⟩
  ·rw [em] at e
   cases e
   exact q (.ref x) _ SS (by rw [Tr.Fit]; exact ⟨x,dx,l',xs,rfl,gS (hM x hx) e2,gS (hM l' (M0.free hl')) e1,trs_fit.mpr (by rw [bU]; exact hA.imp fun t v _ h=>h.same (lT SS))⟩)
  ·rw [em] at e; cases e
 rw [if_neg c2]
 refine ⟨_,_,_,hr1,B.ck_Opened.cl,B.na_Opened_sign,.str sg,rfl,?_⟩
 walk_at "w0"
 by_cases c3:sg="|"
 ·rw [if_pos c3]
  have em:mkF sg inn=some (.either (Trs.ofL inn)):=by unfold mkF; rw [if_neg c1,if_neg c2,if_pos c3]
  refine ⟨_,_,_,hr1,B.ck_Opened.cl,B.na_Opened_inner,.ref il,rfl,?_⟩
  have l2:=h2 (.inr c3)
  intro x dx hx hd ne
  have M0:=bI (o:=.own x) (o':=.ins a.Either dx []) hx hd
  refine ⟨x,dx,il,xs,inn,rfl,aB,M0 _ _ hil,hA.imp (fun t v _ h=>(h.same pM).same M0),by omega,hz,fun l' H' Bx hl' e1 e2=>?_⟩
  walk_at "w0"
  have SS:=dF hx hd Bx
  rcases q with ⟨t',e,q⟩ | ⟨e,_⟩
  ·rw [em] at e
   cases e
   exact q (.ref x) _ SS (by rw [Tr.Fit]; exact ⟨x,dx,l',xs,rfl,gS (hM x hx) e2,gS (hM l' (M0.free hl')) e1,trs_fit.mpr (by rw [bU]; exact hA.imp fun t v _ h=>h.same (lT SS))⟩)
  ·rw [em] at e; cases e
 rw [if_neg c3]
 have em:mkF sg inn=none:=by unfold mkF; rw [if_neg c1,if_neg c2,if_neg c3]
 rcases q with ⟨t',e,_⟩ | ⟨_,q⟩
 ·rw [em] at e; cases e
 ·exact fun y hy=>q y _ (aG hy _) aB
theorem oK {p:Str→Bool}:∀ l:List Str,l.dropWhile p=l.drop (l.takeWhile p).length
 | []=>rfl
 | a::l=>by
  rw [List.dropWhile_cons,List.takeWhile_cons]
  cases p a with
  | true=>exact oK l
  | false=>rfl
theorem tN {p:Str→Bool}:∀ l:List Str,(l.takeWhile p).length≤l.length
 | []=>Nat.zero_le _
 | a::l=>by
  rw [List.takeWhile_cons]
  cases p a with
  | true=>exact Nat.succ_le_succ (tN l)
  | false=>exact Nat.zero_le _
theorem FrOk.up {k i j:Nat}{f:OF}(h:FrOk k i f) {k':Nat}(e:k'+i≤k+j):FrOk k' j f:=⟨h.1,by have:=h.2; omega⟩
def AE6 (a:Ad) (wp dw wl op:Addr) (ts:List Str) (i:Nat) (G:Hp) (R:Option (Tr × List Str × List Fm)) (σ:L2.St) (H1:Hp):Prop:=∃ (k:Nat) (fs:List OF),σ=[some (.ref wp),some (.ref op),some (.str (ts.getD k ""))]∧PSt a.Words a.Opened (fc a) H1 wp dw wl ts (k+1) op fs G∧i≤k∧k≤ts.length∧(∀ f∈fs,FrOk 1 k f)∧fs.length≤k∧plainF (ts.drop k) (fs.map OF.fm)=R
theorem eJ {ts:List Str}{k:Nat}{wd:Str}(c:ts.getD k ""=wd) (h:wd≠""):k < ts.length:=by
 by_cases z:k < ts.length
 ·exact z
 ·rw [(fO (by omega)).1] at c
  exact absurd c.symm h
theorem AU5 {ts:List Str}{S:List Fm}{k:Nat}(c:ts.getD k ""="any"):plainF (ts.drop k) S=some (.any,ts.drop (k+1),S):=by
 rw [eO (eJ c (by decide)),bK,c,if_neg (by decide),if_pos rfl]
theorem zX {ts:List Str}{k:Nat}{p:Str→Bool}:(ts.drop k).dropWhile p=ts.drop (k+((ts.drop k).takeWhile p).length):=by
 rw [oK,List.drop_drop]
theorem AO7 {ts:List Str}{S:List Fm}{k:Nat}(c:ts.getD k ""="kind"):plainF (ts.drop k) S=if ((ts.drop (k+1)).takeWhile fun u=>decide (aZ u))≠[]∧((ts.drop (k+1)).takeWhile fun u=>decide (aZ u)).Nodup then some (.kind ((ts.drop (k+1)).takeWhile fun u=>decide (aZ u)),ts.drop (k+1+((ts.drop (k+1)).takeWhile fun u=>decide (aZ u)).length),S) else none:=by
 rw [eO (eJ c (by decide)),bK,c,if_neg (by decide),if_neg (by decide),if_pos rfl,zX]
theorem AE7 {ts:List Str}{S:List Fm}{k:Nat}(c:ts.getD k ""="place"):plainF (ts.drop k) S=if ((ts.drop (k+1)).takeWhile fun u=>decide (aZ u))≠[]∧((ts.drop (k+1)).takeWhile fun u=>decide (aZ u)).Nodup then some (.place ((ts.drop (k+1)).takeWhile fun u=>decide (aZ u)),ts.drop (k+1+((ts.drop (k+1)).takeWhile fun u=>decide (aZ u)).length),S) else none:=by
 rw [eO (eJ c (by decide)),bK,c,if_neg (by decide),if_neg (by decide),if_neg (by decide),if_pos rfl,zX]
theorem zY {ts:List Str}{S:List Fm}{k:Nat}(c:ts.getD k ""="weight"):plainF (ts.drop k) S=if nI (ts.getD (k+1) "")=true∧0≤vZ (ts.getD (k+1) "") then some (.weight (vZ (ts.getD (k+1) "")),ts.drop (k+2),S) else none:=by
 rw [eO (eJ c (by decide)),bK,c,if_neg (by decide),if_neg (by decide),if_neg (by decide),if_neg (by decide),if_pos rfl]
 by_cases z:k+1 < ts.length
 ·rw [eO z]
 ·rw [(fO (by omega)).1,(fO (by omega)).2,if_neg (fun z=>absurd z.1 (by decide +kernel))]
theorem AO8 {ts:List Str}{S:List Fm}{k:Nat}(c1:¬ ts.getD k ""="not") (c2:¬ ts.getD k ""="(") (c3:¬ ts.getD k ""="any") (c4:¬ ts.getD k ""="kind") (c5:¬ ts.getD k ""="place") (c6:¬ ts.getD k ""="weight"):plainF (ts.drop k) S=none:=by
 by_cases z:k < ts.length
 ·rw [eO z,bK,if_neg (fun z=>z.elim c1 c2),if_neg c3,if_neg c4,if_neg c5,if_neg c6]
 ·rw [(fO (by omega)).2]
  rfl
theorem kW (B:Bt K mg a) (CM_take:∀ C sp,mY K a C sp→CalM P w K mg base C "take" ["self"] 2 sp) (CC_Kind:CalC P w K mg base "Kind" a.Kind ["self","names"] 4 (dG K a)) (CC_Place:CalC P w K mg base "Place" a.Place ["self","names"] 4 (dA K a)) (CC_Least:CalC P w K mg base "Least" a.Least ["self","weight"] 3 (dB K a)) (CC_Opened:CalC P w K mg base "Opened" a.Opened ["self","sign"] 1 (dW K a)) (CM_take_names:∀ C sp,kA K a C sp→CalM P w K mg base C "take_names" ["self"] 3 sp) (CM_take_number:∀ C sp,iT K a C sp→CalM P w K mg base C "take_number" ["self"] 3 sp) (CI_NoText:CalI P w K mg base "NoText" a.NoText "line" 1 (.int 0)) (F:Fun K "plain_fit_from" "plain_fit_from" cD f fd):FnOk P w K mg base (CXF P w) 6 f fd ["words","opened"] (gD K a):=by
 refine Fun.okX F sc_plain_fit_from (fun vs H Q E h=>?_) (fun cdv A outer s H vs Q E hr h=>?_)
 ·obtain ⟨wp,dw,wl,op,ts,i,fs,G,rfl,_⟩:=h
  rfl
 obtain ⟨wp,dw,wl,op,ts,i,fs,G,rfl,hP,hT,hl,hi,hfl,hF,good,fail⟩:=h
 refine ⟨_,(bA (aF (bF (i:=2) sc_plain_fit_from.nd rfl (Or.inl rfl) (aW (cQ (pv 0) CM_take iN (hr.mono (by decide)))) (by kernel_rfl)) (aF (cN (lP PassesOwn.leaving (L2.PW.pt (gX (aX cL (pv 2) aM (aY _)) (fS (aX cL (pv 2) aM (aY _))))) (bA (aF (cN (eM (iM PySem.F.plainAttrs_list PySem.F.slot_list_append PySem.F.type_list_append jL (pv 1) (aJ (aN (fT CC_Opened iN (hr.mono (by decide)) rfl (aJ (aN (pv 2) aD)) (he:=aA _ _ _ rfl) (hpl:=aC rfl)) aD))))) (aI (bF (i:=2) sc_plain_fit_from.nd rfl (Or.inl rfl) (aW (cQ (pv 0) CM_take iN (hr.mono (by decide)))) (by kernel_rfl))))))) (aF (bJ (aX cL (pv 2) aM (aY _)) (aI (aU (aW (yE B.mk_Any rfl B.Any)))) aR) (aF (bJ (aX cL (pv 2) aM (aY _)) (aI (aU (aW (fT CC_Kind iN (hr.mono (by decide)) rfl (aJ (aN (cQ (pv 0) CM_take_names iN (hr.mono (by decide))) aD)) (he:=aA _ _ _ rfl) (hpl:=aC rfl))))) aR) (aF (bJ (aX cL (pv 2) aM (aY _)) (aI (aU (aW (fT CC_Place iN (hr.mono (by decide)) rfl (aJ (aN (cQ (pv 0) CM_take_names iN (hr.mono (by decide))) aD)) (he:=aA _ _ _ rfl) (hpl:=aC rfl))))) aR) (aF (bJ (aX cL (pv 2) aM (aY _)) (aI (aU (aW (fT CC_Least iN (hr.mono (by decide)) rfl (aJ (aN (cQ (pv 0) CM_take_number iN (hr.mono (by decide))) aD)) (he:=aA _ _ _ rfl) (hpl:=aC rfl))))) aR) (iR (gF (fZ (R:=fun dx H9=>E (.ref a.NoText) (some dx) H9) CI_NoText rfl rfl (hr.mono (by decide)) kI)))))))))),?_⟩
 generalize hR:plainF (ts.drop i) (fs.map OF.fm)=R at good fail
 walk_at "w0"
 refine ⟨_,_,_,hP.W.w,rfl,_,⟨rfl,rfl⟩,wp,dw,wl,ts,i,rfl,hP.W,?_⟩
 have hP1:=hP.take (i+1)
 generalize upd H wp (.ins a.Words dw (dE wl (i+1)))=H1 at *
 walk_at "w0"
 refine whl (AE6 a wp dw wl op ts i G R) (fun _ H1=>3000 - tJ wp H1) ⟨i,fs,rfl,hP1,Nat.le_refl _,hi,hF,hfl,hR⟩ ?_
 clear hP hP1 hF hR hfl
 rintro σ H2 ⟨k,fs,rfl,hP,hik,hk,hF,hfl,hR⟩
 walk_at "w0"
 have push:∀ wd:Str,ts.getD k ""=wd→(wd="not"∨wd="(")→(∀ x dx il H3,H2 x=none→H2 il=none→Same H2 H3→H3 il=some (.lst [])→H3 x=some (.ins a.Opened dx (gN wd il))→AE6 a wp dw wl op ts i G R [some (.ref wp),some (.ref op),some (.str (ts.getD (k+1) ""))] (upd (upd H3 op (.lst ((fs.reverse.map fun f=>V.ref f.r)++[.ref x]))) wp (.ins a.Words dw (dE wl (k+2))))∧3000 - tJ wp (upd (upd H3 op (.lst ((fs.reverse.map fun f=>V.ref f.r)++[.ref x]))) wp (.ins a.Words dw (dE wl (k+2)))) < 3000 - tJ wp H2):=by
  intro wd e1 e2 x dx il H3 hx hil S3 eil ex
  have kl:k < ts.length:=by
   by_cases z:k < ts.length
   ·exact z
   ·rw [(fO (by omega)).1] at e1
    rw [← e1] at e2
    exact absurd e2 (by decide)
  have hP3:=(hP.push S3 hx hil ex eil).take (k+2)
  refine ⟨⟨k+1,_,rfl,hP3,by omega,by omega,fun f hf=>?_,by rw [List.length_cons]; omega,?_⟩,?_⟩
  ·rcases List.mem_cons.mp hf with rfl | hf
   ·exact ⟨e2.elim (fun z=>.inl ⟨z,rfl⟩) (fun z=>.inr (.inl ⟨z,rfl⟩)),by show 0+1≤k+1; omega⟩
   ·exact (hF f hf).up (by omega)
  ·rw [← hR,eO kl,bK,if_pos (by rw [e1]; exact e2),e1]
   rfl
  ·rw [rF hP3.W,rF hP.W]
   omega
 by_cases c1:ts.getD k ""="not"
 ·rw [if_pos c1]
  refine ⟨fun σ' H'=>AE6 a wp dw wl op ts i G R σ' H'∧3000 - tJ wp H' < 3000 - tJ wp H2,fun σ' H' h=>⟨_,h.2,rfl,h.1⟩,.inl ⟨rfl,_,SqL.of hP.O⟩,fun x dx hx hd ne=>?_⟩
  have M0:=bI (o:=.own x) (o':=.ins a.Opened dx []) hx hd
  refine ⟨x,dx,_,rfl,aB,fun il H3 hil B3 e1 e2=>⟨rfl,?_⟩⟩
  have S3:=dF hx hd B3
  have hP3:=hP.push S3 hx (M0.free hil) e2 e1
  refine ⟨op,_,_,rfl,rfl,S3 _ _ hP.O,?_,_,_,_,hP3.W.w,rfl,_,⟨rfl,rfl⟩,wp,dw,wl,ts,k+1,rfl,hP3.W,?_⟩
  ·rw [List.length_map,List.length_reverse]
   exact Nat.lt_of_le_of_lt (show fs.length≤1000 by omega) (by decide)
  rw [c1] at e2
  exact push _ c1 (.inl rfl) x dx il H3 hx (M0.free hil) S3 e1 e2
 rw [if_neg c1]
 by_cases c2:ts.getD k ""="("
 ·rw [if_pos c2]
  refine ⟨fun σ' H'=>AE6 a wp dw wl op ts i G R σ' H'∧3000 - tJ wp H' < 3000 - tJ wp H2,fun σ' H' h=>⟨_,h.2,rfl,h.1⟩,.inl ⟨rfl,_,SqL.of hP.O⟩,fun x dx hx hd ne=>?_⟩
  have M0:=bI (o:=.own x) (o':=.ins a.Opened dx []) hx hd
  refine ⟨x,dx,_,rfl,aB,fun il H3 hil B3 e1 e2=>⟨rfl,?_⟩⟩
  have S3:=dF hx hd B3
  have hP3:=hP.push S3 hx (M0.free hil) e2 e1
  refine ⟨op,_,_,rfl,rfl,S3 _ _ hP.O,?_,_,_,_,hP3.W.w,rfl,_,⟨rfl,rfl⟩,wp,dw,wl,ts,k+1,rfl,hP3.W,?_⟩
  ·rw [List.length_map,List.length_reverse]
   exact Nat.lt_of_le_of_lt (show fs.length≤1000 by omega) (by decide)
  rw [c2] at e2
  exact push _ c2 (.inr rfl) x dx il H3 hx (M0.free hil) S3 e1 e2
 rw [if_neg c2]
 by_cases c3:ts.getD k ""="any"
 ·rw [if_pos c3]
  rw [AU5 c3] at hR
  have kl:=eJ c3 (by decide)
  intro x dx hx hd ne
  exact good _ _ _ hR.symm (.ref x) _ (k+1) fs rfl (by omega) (by omega) (hP.same (bI hx hd)) rfl (fun f hf=>(hF f hf).up (by omega)) (by omega) (by rw [Tr.Fit]; exact ⟨x,dx,rfl,gS (hP.new hx) aB⟩)
 rw [if_neg c3]
 by_cases c4:ts.getD k ""="kind"
 ·rw [if_pos c4]
  rw [AO7 c4] at hR
  refine ⟨_,_,_,hP.W.w,rfl,_,⟨rfl,rfl⟩,wp,dw,wl,ts,k+1,rfl,hP.W,hT,hl,fun l H3 B3 hl0 el W3=>?_⟩
  have hP3:=hP.words B3 W3
  have tl:=tN (p:=fun u=>decide (aZ u)) (ts.drop (k+1))
  rw [List.length_drop] at tl
  have kl:=eJ c4 (by decide)
  have hg:∀ u∈((ts.drop (k+1)).takeWhile fun u=>decide (aZ u)),aZ u:=fun u hu=>of_decide_eq_true (p:=aZ u) (lS (p:=fun u=>decide (aZ u)) hu)
  generalize ((ts.drop (k+1)).takeWhile fun u=>decide (aZ u))=us at *
  intro x dx hx hd ne
  have M0:=bI (o:=.own x) (o':=.ins a.Kind dx []) hx hd
  refine ⟨x,dx,l,us,rfl,aB,M0 _ _ el,⟨hg,by omega⟩,?_⟩
  by_cases c:us≠[]∧us.Nodup
  ·rw [if_pos c] at hR
   refine .inl ⟨c,fun l' H' Bx hl' e1 e2=>⟨rfl,?_⟩⟩
   have SS:=dF hx hd Bx
   exact good _ _ _ hR.symm (.ref x) _ (k+1+us.length) fs rfl (by omega) (by omega) (hP3.same SS) rfl (fun f hf=>(hF f hf).up (by omega)) (by omega) (by rw [Tr.Fit]; exact ⟨x,dx,l',rfl,gS (hP3.new hx) e2,gS (hP3.new (M0.free hl')) e1⟩)
  ·rw [if_neg c] at hR
   exact .inr ⟨c,fun H' S'=>fail hR.symm _ _ _ (.inl rfl) (hP3.K.trans (Same.but (M0.trans S')))⟩
 rw [if_neg c4]
 by_cases c5:ts.getD k ""="place"
 ·rw [if_pos c5]
  rw [AE7 c5] at hR
  refine ⟨_,_,_,hP.W.w,rfl,_,⟨rfl,rfl⟩,wp,dw,wl,ts,k+1,rfl,hP.W,hT,hl,fun l H3 B3 hl0 el W3=>?_⟩
  have hP3:=hP.words B3 W3
  have tl:=tN (p:=fun u=>decide (aZ u)) (ts.drop (k+1))
  rw [List.length_drop] at tl
  have kl:=eJ c5 (by decide)
  have hg:∀ u∈((ts.drop (k+1)).takeWhile fun u=>decide (aZ u)),aZ u:=fun u hu=>of_decide_eq_true (p:=aZ u) (lS (p:=fun u=>decide (aZ u)) hu)
  generalize ((ts.drop (k+1)).takeWhile fun u=>decide (aZ u))=us at *
  intro x dx hx hd ne
  have M0:=bI (o:=.own x) (o':=.ins a.Place dx []) hx hd
  refine ⟨x,dx,l,us,rfl,aB,M0 _ _ el,⟨hg,by omega⟩,?_⟩
  by_cases c:us≠[]∧us.Nodup
  ·rw [if_pos c] at hR
   refine .inl ⟨c,fun l' H' Bx hl' e1 e2=>⟨rfl,?_⟩⟩
   have SS:=dF hx hd Bx
   exact good _ _ _ hR.symm (.ref x) _ (k+1+us.length) fs rfl (by omega) (by omega) (hP3.same SS) rfl (fun f hf=>(hF f hf).up (by omega)) (by omega) (by rw [Tr.Fit]; exact ⟨x,dx,l',rfl,gS (hP3.new hx) e2,gS (hP3.new (M0.free hl')) e1⟩)
  ·rw [if_neg c] at hR
   exact .inr ⟨c,fun H' S'=>fail hR.symm _ _ _ (.inl rfl) (hP3.K.trans (Same.but (M0.trans S')))⟩
 rw [if_neg c5]
 by_cases c6:ts.getD k ""="weight"
 ·rw [if_pos c6]
  rw [zY c6] at hR
  have kl:=eJ c6 (by decide)
  refine ⟨_,_,_,hP.W.w,rfl,_,⟨rfl,rfl⟩,wp,dw,wl,ts,k+1,rfl,hP.W,vC hT _,?_⟩
  by_cases hn:nI (ts.getD (k+1) "")=true
  ·have kl2:=eJ (ts:=ts) (k:=k+1) rfl (fun z=>by rw [z] at hn; exact absurd hn (by decide +kernel))
   refine .inl ⟨hn,fun H3 B3 W3=>?_⟩
   have hP3:=hP.words B3 W3
   intro x dx hx hd ne
   have M0:=bI (o:=.own x) (o':=.ins a.Least dx []) hx hd
   refine ⟨x,dx,_,rfl,aB,?_⟩
   by_cases n0:0≤vZ (ts.getD (k+1) "")
   ·rw [if_pos ⟨hn,n0⟩] at hR
    have SS:Same H3 (upd (upd (upd H3 dx (.own x)) x (.ins a.Least dx [])) x (.ins a.Least dx [("weight",.int (vZ (ts.getD (k+1) "")))])):=fun b o e=>by rw [aK (aO e hx)]; exact M0 b o e
    exact .inl ⟨n0,rfl,good _ _ _ hR.symm (.ref x) _ (k+2) fs rfl (by omega) (by omega) (hP3.same SS) rfl (fun f hf=>(hF f hf).up (by omega)) (by omega) (by rw [Tr.Fit]; exact ⟨x,dx,rfl,gS (hP3.new hx) aB⟩)⟩
   ·rw [if_neg (fun z=>n0 z.2)] at hR
    exact .inr ⟨n0,fail hR.symm _ _ _ (.inl rfl) (hP3.K.trans (Same.but M0))⟩
  ·rw [if_neg (fun z=>hn z.1)] at hR
   exact .inr ⟨by simpa using hn,fun y H3 B3=>fail hR.symm _ _ _ (.inr rfl) (hP.K.trans B3)⟩
 rw [if_neg c6]
 rw [AO8 c1 c2 c3 c4 c5 c6] at hR
 exact fun y hy=>fail hR.symm _ _ _ (.inr rfl) (hP.K.trans (Same.but (aG hy _)))
theorem AO9 {xs:List V}{x:V}:atI (xs++[x]) (-1)=some x:=by
 unfold atI ixN
 rw [if_neg (by decide)]
 have e:(xs++[x]).length=xs.length+1:=by rw [List.length_append,List.length_singleton]
 rw [e]
 rw [if_pos (by omega)]
 show (xs++[x])[((-1:Int)+((xs.length+1:Nat):Int)).toNat]?=some x
 rw [show ((-1:Int)+((xs.length+1:Nat):Int)).toNat=xs.length by omega]
 simp
theorem AU6 {f:Fm}{S:List Fm}{t:Tr}{r:List Str}(c:f.sg="not"):closeF (f::S) t r=closeF S (.not t) r:=by rw [cH,if_pos c]
theorem AP0 {ts:List Str}{f:Fm}{S:List Fm}{t:Tr}{k:Nat}(c:¬ f.sg="not") (e:ts.getD k ""=")"):closeF (f::S) t (ts.drop k)=if f.sg="&" then closeF S (.both (Trs.ofL (f.inn++[t]))) (ts.drop (k+1)) else if f.sg="|" then closeF S (.either (Trs.ofL (f.inn++[t]))) (ts.drop (k+1)) else none:=by
 rw [cH,if_neg c,eO (eJ e (by decide))]
 dsimp only
 rw [if_pos e]
theorem AU7 {ts:List Str}{f:Fm}{S:List Fm}{t:Tr}{k:Nat}(c:¬ f.sg="not") (n:ts.getD k ""≠")") (e:(ts.getD k ""="&"∨ts.getD k ""="|")∧(f.sg="("∨f.sg=ts.getD k "")):k < ts.length∧closeF (f::S) t (ts.drop k)=some (.inr (ts.drop (k+1),⟨ts.getD k "",f.inn++[t]⟩::S)):=by
 have kl:k < ts.length:=e.1.elim (fun z=>eJ z (by decide)) fun z=>eJ z (by decide)
 refine ⟨kl,?_⟩
 rw [cH,if_neg c,eO kl]
 dsimp only
 rw [if_neg n,if_pos e]
theorem AU8 {ts:List Str}{f:Fm}{S:List Fm}{t:Tr}{k:Nat}(c:¬ f.sg="not") (n:ts.getD k ""≠")") (e:¬ ((ts.getD k ""="&"∨ts.getD k ""="|")∧(f.sg="("∨f.sg=ts.getD k ""))):closeF (f::S) t (ts.drop k)=none:=by
 by_cases kl:k < ts.length
 ·rw [cH,if_neg c,eO kl]
  dsimp only
  rw [if_neg n,if_neg e]
 ·rw [cH,if_neg c,(fO (by omega)).2]
def AP1 (a:Ad) (wp dw wl op:Addr) (ts:List Str) (i:Nat) (G:Hp) (R:Option ((Tr × List Str) ⊕ (List Str × List Fm))) (σ:L2.St) (H1:Hp):Prop:=∃ (k:Nat) (fs:List OF) (t:Tr) (v:V) (lv:Option V),σ=[some v,some (.ref wp),some (.ref op),lv]∧PSt a.Words a.Opened (fc a) H1 wp dw wl ts k op fs G∧i≤k∧k≤ts.length∧(∀ f∈fs,FrOk 2 k f)∧fs.length≤k∧t.Fit (fc a) (Out (pN wp op fs) H1) v∧closeF (fs.map OF.fm) t (ts.drop k)=R
theorem zZ (B:Bt K mg a) (C_fit_of:CalX P w K mg base "fit_of" ["opened"] 5 (mV K a)) (C_is_closed_here:CalX P w K mg base "is_closed_here" ["bracket","words"] 3 (gE K a)) (F:Fun K "closed" "closed" iK f fd):FnOk P w K mg base (CXF P w) 6 f fd ["fit","words","opened"] (rG K a):=by
 refine Fun.okX F sc_closed (fun vs H Q E h=>?_) (fun cdv A outer s H vs Q E hr h=>?_)
 ·obtain ⟨v,t,wp,dw,wl,op,ts,i,fs,G,rfl,_⟩:=h
  rfl
 obtain ⟨v,t,wp,dw,wl,op,ts,i,fs,G,rfl,hP,hT,hl,hi,hfl,hF,hv,good,more,fail⟩:=h
 refine ⟨_,(bA (aF (cN (lP PassesOwn.leaving (aX rT (aP bH rfl B.len PySem.boot_len (aJ (aN (pv 2) aD))) aL (aY _)) (bA (aF (bF (i:=3) sc_closed.nd rfl (Or.inl rfl) (aW (bM cV (pv 2) (AX5 AR0 aL) (fun _ _=>rfl))) (by kernel_rfl)) (aF (cN (eM (iM PySem.F.plainAttrs_list PySem.F.slot_list_append PySem.F.type_list_append jL (cG (pv 3) rfl) (aJ (aN (pv 0) aD))))) (aF (bJ (L2.PW.pt (wK (aX vI (cG (pv 3) rfl) aM (aY _)) (wJ (dP (cF (gJ C_is_closed_here (hr.mono (by decide)) rfl (aJ (aN (pv 3) (aN (pv 1) aD))) (he:=aA _ _ _ rfl) (hpl:=aC rfl))))))) (aI (aU (aW wI))) aR) (aF (cN (eM (AR8 PySem.F.plainAttrs_list PySem.F.slot_list_pop PySem.F.type_list_pop AR9 (pv 2)))) (aI (bF (i:=0) sc_closed.nd rfl (Or.inl rfl) (aW (gJ C_fit_of (hr.mono (by decide)) rfl (aJ (aN (pv 3) aD)) (he:=aA _ _ _ rfl) (hpl:=aC rfl))) (by kernel_rfl)))))))))) (aI (aU (aW (pv 0)))))),?_⟩
 generalize hR:closeF (fs.map OF.fm) t (ts.drop i)=R at good more fail
 walk_at "w0"
 refine whl (AP1 a wp dw wl op ts i G R) (fun _ H1=>tK op H1) ⟨i,fs,t,v,none,rfl,hP,Nat.le_refl _,hi,hF,hfl,hv,hR⟩ ?_
 clear hP hF hR hfl hv
 rintro σ H2 ⟨k,fs,t,v,lv,rfl,hP,hik,hk,hF,hfl,hv,hR⟩
 walk_at "w0"
 refine ⟨_,.inl (SqL.of hP.O),?_⟩
 exists List.length_map,List.length_reverse
 cases fs with
 | nil =>
  rw [if_neg (by decide)]
  exact good _ _ hR.symm v H2 k rfl hik hk hP hv
 | cons f fs =>
 rw [if_pos (by rw [List.length_cons]; omega)]
 have mem:f∈f::fs:=List.mem_cons_self
 have hf:=hP.F f mem
 have hFf:=hF f mem
 have hP1:=hP.inner hv
 have O':H2 op=some (.lst ((fs.reverse.map fun f=>V.ref f.r)++[.ref f.r])):=by
  have e:=hP.O
  rw [List.reverse_cons,List.map_append] at e
  exact e
 have lv:=(hP.T f mem).len
 have fin:∀ (k':Nat) (H4:Hp),PSt a.Words a.Opened (fc a) H4 wp dw wl ts k' op (f.app v t::fs) G→k≤k'→k'≤ts.length→(mkF f.sg (f.inn++[t])=none→R=none)→(∀ t',mkF f.sg (f.inn++[t])=some t'→closeF (fs.map OF.fm) t' (ts.drop k')=R) →
   (tyV K "list" (V.ref op) H4∧BE5 (V.ref op) [] H4 fun _ H1=>mV K a [.ref f.r] H1 (fun x H1=>AP1 a wp dw wl op ts i G R [some x,some (V.ref wp),some (V.ref op),some (.ref f.r)] H1∧tK op H1 < tK op H2) E):=by
  intro k' H4 hP4 hk1 hk2 e1 e2
  have mem4:f.app v t∈f.app v t::fs:=List.mem_cons_self
  have O4:H4 op=some (.lst ((fs.reverse.map fun f=>V.ref f.r)++[.ref f.r])):=by
   have e:=hP4.O
   rw [List.reverse_cons,List.map_append] at e
   exact e
  refine ⟨.inl ⟨rfl,_,SqL.of O4⟩,op,_,.ref f.r,rfl,rfl,O4,by simp,?_⟩
  rw [List.dropLast_concat]
  have hP5:=hP4.pop
  obtain ⟨o1,o2,o3⟩:=hP4.ow
  have q3:=o3 _ mem4
  have hA5:=(hP4.T _ mem4).imp fun t v _ h=>h.same (uZ hP4)
  have hr5:upd H4 op (.lst (fs.reverse.map fun f=>V.ref f.r)) f.r=some (.ins a.Opened f.d (gN f.sg f.il)):=by
   rw [aK (show f.r≠op from q3.2.1.symm)]
   exact (hP4.F _ mem4).1
  have hi5:upd H4 op (.lst (fs.reverse.map fun f=>V.ref f.r)) f.il=some (.lst (f.vs++[v])):=by
   rw [aK (show f.il≠op from q3.1.symm)]
   exact (hP4.F _ mem4).2
  have li:=hFf.2
  refine ⟨f.r,f.d,f.il,f.sg,f.vs++[v],f.inn++[t],pN wp op fs,rfl,hr5,hi5,hA5,fun b hb=>hP5.new hb,by rw [List.length_append,List.length_singleton,← lv]; omega,fun _=>by simp,fun z=>?_,?_⟩
  ·rw [List.length_append,List.length_singleton]
   rcases hFf.1 with ⟨y,_⟩ | ⟨y,_⟩ | ⟨_,y⟩
   ·rw [y] at z; exact absurd z (by decide)
   ·rw [y] at z; exact absurd z (by decide)
   ·have:=List.length_pos_iff.mpr y
    omega
  cases em:mkF f.sg (f.inn++[t]) with
  | none=>exact .inr ⟨rfl,fun y H' S' _=>fail (e1 em) _ _ _ (.inr rfl) (hP5.K.trans (Same.but S'))⟩
  | some t' =>
   refine .inl ⟨t',rfl,fun v' H' S' hv'=>⟨⟨k',fs,t',v',_,rfl,hP5.same S',by omega,hk2,fun g hg=>(hF g (List.mem_cons_of_mem _ hg)).up (by omega),by rw [List.length_cons] at hfl; omega,hv',e2 t' em⟩,?_⟩⟩
   rw [AI1 (hP5.same S').O,AI1 O',List.length_append,List.length_map,List.length_reverse,List.length_singleton]
   omega
 refine ⟨fun σ' H'=>AP1 a wp dw wl op ts i G R σ' H'∧tK op H' < tK op H2,fun σ' H' h=>⟨_,h.2,rfl,h.1⟩,ixl (SqL.of O') AO9 ?_⟩
 refine ⟨f.r,rfl,_,_,_,hf.1,B.ck_Opened.cl,B.na_Opened_inner,.ref f.il,rfl,.inl ⟨rfl,_,SqL.of hf.2⟩,f.il,_,_,rfl,rfl,hf.2,?_,?_⟩
 ·have li:=hFf.2
  exact Nat.lt_of_le_of_lt (show f.vs.length≤1000 by omega) (by decide)
 have mem1:f.app v t∈f.app v t::fs:=List.mem_cons_self
 refine ⟨f.r,rfl,_,_,_,(hP1.F _ mem1).1,B.ck_Opened.cl,B.na_Opened_sign,.str f.sg,rfl,rfl,?_⟩
 generalize upd H2 f.il (.lst (f.vs++[v]))=H3 at *
 rw [List.map_cons] at hR
 by_cases c:f.sg="not"
 ·rw [if_neg (fun z=>z (by rw [c]))]
  rw [AU6 (f:=f.fm) c] at hR
  have e0:f.inn=[]:=by
   rcases hFf.1 with ⟨_,y⟩ | ⟨_,y⟩ | ⟨y,_⟩
   ·exact y
   ·exact y
   ·rw [c] at y; exact absurd y (by decide)
  have em:mkF f.sg (f.inn++[t])=some (.not t):=by rw [e0]; unfold mkF; rw [if_pos c]; rfl
  exact fin k H3 hP1 (Nat.le_refl _) hk (fun z=>by rw [em] at z; cases z) (fun t' z=>by rw [em] at z; cases z; exact hR)
 rw [if_pos (fun z=>c (V.str.inj z))]
 refine ⟨wp,dw,wl,op,ts,k,f.app v t,fs,G,rfl,hP1,fun H4 hP4 e=>⟨true,rfl,?_⟩,fun H4 hP4 n e=>⟨false,rfl,?_⟩,fun n e y H4 B4=>?_⟩
 ·rw [if_neg (by decide)]
  rw [AP0 (f:=f.fm) c e,show f.fm.sg=f.sg from rfl] at hR
  have kl:=eJ e (by decide)
  refine fin (k+1) H4 hP4 (by omega) (by omega) (fun z=>?_) (fun t' z=>?_)
  ·unfold mkF at z
   rw [if_neg c] at z
   by_cases c2:f.sg="&"
   ·rw [if_pos c2] at z; cases z
   rw [if_neg c2] at z
   by_cases c3:f.sg="|"
   ·rw [if_pos c3] at z; cases z
   rw [if_neg c2,if_neg c3] at hR
   exact hR.symm
  ·unfold mkF at z
   rw [if_neg c] at z
   by_cases c2:f.sg="&"
   ·rw [if_pos c2] at z hR
    cases z
    exact hR
   rw [if_neg c2] at z
   by_cases c3:f.sg="|"
   ·rw [if_pos c3] at z
    rw [if_neg c2,if_pos c3] at hR
    cases z
    exact hR
   rw [if_neg c3] at z
   cases z
 ·rw [if_pos rfl]
  obtain ⟨kl,eq⟩:=AU7 (f:=f.fm) (S:=fs.map OF.fm) (t:=t) c n e
  rw [eq] at hR
  refine more _ _ hR.symm H4 (k+1) _ rfl (by omega) (by omega) hP4 rfl (fun g hg=>?_) (by rw [List.length_cons] at hfl ⊢; omega)
  rcases List.mem_cons.mp hg with rfl | hg
  ·refine ⟨.inr (.inr ⟨e.1,by show f.inn++[t]≠[]; simp⟩),?_⟩
   have li:=hFf.2
   show (f.inn++[t]).length+1≤k+1
   rw [List.length_append,List.length_singleton]
   omega
  ·exact (hF g (List.mem_cons_of_mem _ hg)).up (by omega)
 ·rw [AU8 (f:=f.fm) c n e] at hR
  exact fail hR.symm _ _ _ (.inr rfl) B4
def AU9 (a:Ad) (wp dw wl op:Addr) (ts:List Str) (i:Nat) (G:Hp) (R:Option (Tr × List Str)) (σ:L2.St) (H1:Hp):Prop:=∃ (k:Nat) (fs:List OF) (fv:V),σ=[some (.ref wp),some (.ref op),some fv]∧PSt a.Words a.Opened (fc a) H1 wp dw wl ts k op fs G∧i≤k∧k≤ts.length∧fs.length≤k∧((fv=.non∧(∀ f∈fs,FrOk 1 k f)∧nJ (ts.drop k) (fs.map OF.fm)=R)∨(∃ t,fs=[]∧i < k∧t.Fit (fc a) (Out (pN wp op []) H1) fv∧R=some (t,ts.drop k)))
theorem PSt.start {Cw Co:Addr}{c:FC}{H:Hp}{wp dw wl op:Addr}{ts:List Str}{i:Nat}(W:WAt Cw H wp dw wl ts i) (ho:H op=none):PSt Cw Co c (upd H op (.lst [])) wp dw wl ts i op [] H:=by
 have n1:wp≠op:=aO W.w ho
 have n2:wl≠op:=aO W.l ho
 refine ⟨⟨by rw [aK n1]; exact W.w,by rw [aK n2]; exact W.l⟩,aB,fun f hf=>(by cases hf),?_,List.nodup_nil,fun f hf=>(by cases hf),Same.but (aG ho _),fun b hb hn=>?_⟩
 ·refine List.nodup_cons.mpr ⟨fun z=>n2 ?_,List.nodup_cons.mpr ⟨fun z=>(by cases z),List.nodup_nil⟩⟩
  rcases List.mem_cons.mp z with z | z
  ·exact z
  ·cases z
 ·rcases mem_muts.mp hb with z | z | ⟨g,hg,_⟩ | ⟨g,hg,_⟩
  ·exact absurd z hn
  ·rw [z]; exact ho
  ·cases hg
  ·cases hg
theorem AV0 {H:Hp}{wp op:Addr}:Same (Out (pN wp op []) H) (Out [wp] H):=iJ fun b o n e=>⟨fun z=>n (mem_muts.mpr (.inl (List.mem_singleton.mp z))),e⟩
theorem tO (B:Bt K mg a) (C_closed:CalX P w K mg base "closed" ["fit","words","opened"] 6 (rG K a)) (C_plain_fit_from:CalX P w K mg base "plain_fit_from" ["words","opened"] 6 (gD K a)) (F:Fun K "fit_from" "fit_from" eY f fd):FnOk P w K mg base (CXF P w) 7 f fd ["words"] (jC K a):=by
 refine Fun.okX F sc_fit_from (fun vs H Q E h=>?_) (fun cdv A outer s H vs Q E hr h=>?_)
 ·obtain ⟨wp,dw,wl,ts,i,rfl,_⟩:=h
  rfl
 obtain ⟨wp,dw,wl,ts,i,rfl,W,hT,hl,hi,good,fail⟩:=h
 refine ⟨_,(bA (aF (bF (i:=1) sc_fit_from.nd rfl (Or.inl rfl) (gR aD) (by kernel_rfl)) (aF (bF (i:=2) sc_fit_from.nd rfl (Or.inl rfl) (aW wI) (by kernel_rfl)) (aF (cN (lP PassesOwn.leaving (AQ2 (AQ1 (pv 2))) (bA (aI (bF (i:=2) sc_fit_from.nd rfl (Or.inl rfl) (aW (gJ C_closed (hr.mono (by decide)) rfl (aJ (aN (gJ C_plain_fit_from (hr.mono (by decide)) rfl (aJ (aN (pv 0) (aN (pv 1) aD))) (he:=aA _ _ _ rfl) (hpl:=aC rfl)) (aN (pv 0) (aN (pv 1) aD)))) (he:=aA _ _ _ rfl) (hpl:=aC rfl))) (by kernel_rfl)))))) (aI (aU (aW (pv 2)))))))),?_⟩
 generalize hR:nJ (ts.drop i) []=R at good fail
 walk_at "w0"
 refine ⟨Nat.zero_le _,fun op hop=>?_⟩
 have hP0:=PSt.start (Co:=a.Opened) (c:=fc a) W hop
 refine whl (AU9 a wp dw wl op ts i H R) (fun _ H1=>3000 - tJ wp H1) ⟨i,[],.non,rfl,hP0,Nat.le_refl _,hi,Nat.zero_le _,.inl ⟨rfl,(fun f hf=>by cases hf),hR⟩⟩ ?_
 clear hP0 hR
 rintro σ H2 ⟨k,fs,fv,rfl,hP,hik,hk,hfl,hc⟩
 walk_at "w0"
 rcases hc with ⟨rfl,hF,hR⟩ | ⟨t,rfl,hik2,hv,hR⟩
 ·rw [if_pos rfl]
  refine ⟨fun σ' H'=>AU9 a wp dw wl op ts i H R σ' H'∧3000 - tJ wp H' < 3000 - tJ wp H2,fun σ' H' h=>⟨_,h.2,rfl,h.1⟩,?_⟩
  rw [eN] at hR
  refine ⟨wp,dw,wl,op,ts,k,fs,H,rfl,hP,hT,hl,hk,hfl,hF,fun t r Sf e v H3 j fs' er hj1 hj2 hP3 eS hF3 hl3 hv3=>?_,fun e cls y H3 hx B3=>?_⟩
  ·rw [e] at hR
   dsimp only at hR
   subst er eS
   unfold after at hR
   refine ⟨v,t,wp,dw,wl,op,ts,j,fs',H,rfl,hP3,hT,hl,hj2,hl3,hF3,hv3,fun t' r' e' v' H4 j' er' hj3 hj4 hP4 hv4=>?_,fun r' Sf' e' H4 j' fs4 er' hj3 hj4 hP4 eS4 hF4 hl4=>?_,fun e' cls y H4 hx B4=>?_⟩
   ·rw [e'] at hR
    subst er'
    refine ⟨⟨j',[],v',rfl,hP4,by omega,hj4,Nat.zero_le _,.inr ⟨t',rfl,by omega,hv4,hR.symm⟩⟩,?_⟩
    rw [rF hP4.W,rF hP.W]
    omega
   ·rw [e'] at hR
    subst er' eS4
    refine ⟨⟨j',fs4,.non,rfl,hP4,by omega,hj4,hl4,.inl ⟨rfl,hF4,hR⟩⟩,?_⟩
    rw [rF hP4.W,rF hP.W]
    omega
   ·rw [e'] at hR
    exact fail hR.symm cls y H4 hx B4
  ·rw [e] at hR
   exact fail hR.symm cls y H3 hx B3
 ·obtain ⟨p,_,_,rfl,_⟩:=id hv.ins
  rw [if_neg (by intro z; cases z)]
  exact good _ _ hR (.ref p) H2 k rfl hik2 hk hP.K hP.W (hv.same AV0)
theorem pX (B:Bt K mg a) (CC_Words:CalC P w K mg base "Words" a.Words ["self","text"] 3 (eC K a)) (CM_expect_end:∀ C sp,jZ K a C sp→CalM P w K mg base C "expect_end" ["self"] 3 sp) (CIH_NoText:CalIH P w K mg base "NoText" a.NoText "line" 1 (.int 0)) (CF_fit_from:CalF P w K mg base a.fit_from ["words"] 7 (jC K a)) (F:Fun K "read_whole" "read_whole" dO f fd):FnOk P w K mg base (qQ P w false) 8 f fd ["text","part_from"] (jY K a):=by
 refine Fun.okW F sc_read_whole (fun vs H Q E h=>?_) (fun cdv A outer s H vs Q E hr h=>?_)
 ·obtain ⟨xv,rfl,_⟩:=h
  rfl
 obtain ⟨xv,rfl,q⟩:=h
 refine ⟨_,(bA (aF (bF (i:=2) sc_read_whole.nd rfl (Or.inl rfl) (aW (fT CC_Words AG7 (hr.mono (by decide)) rfl (aJ (aN (pv 0) aD)) (he:=aA _ _ _ rfl) (hpl:=aC rfl))) (by kernel_rfl)) (aF (cN (AO2 (i:=3) (j:=1) rfl rfl CF_fit_from (hr.mono (by decide)) rfl (Or.inl rfl) (fun _=>(aJ (aN (pv 2) aD))) sc_read_whole.nd rfl (Or.inl rfl) rfl rfl B.BellError CIH_NoText rfl (hr.mono (by decide)) AE0 BB9)) (aF (cN (eM (cQ (pv 2) CM_expect_end AG7 (hr.mono (by decide))))) (aI (aU (aW (pv 3)))))))),?_⟩
 walk_at "w0"
 intro x dx hx hd ne
 have M0:=bI (o:=.own x) (o':=.ins a.Words dx []) hx hd
 refine ⟨x,dx,xv,rfl,aB,?_⟩
 rcases q with ⟨u,t,rfl,ht,e,q⟩ | ⟨h,q⟩
 ·refine .inl ⟨u,rfl,ht.1,ht.2.1,fun wl H1 hwl B1 W1=>⟨rfl,?_⟩⟩
  have S1:=dF hx hd B1
  refine ⟨x,dx,wl,_,0,rfl,W1,ht.2.2,ht.2.1,Nat.zero_le _,fun t' r e' v H2 j er hj1 hj2 B2 W2 hv=>?_,fun e'=>?_⟩
  ·rw [List.drop_zero,e] at e'
   cases e'
   have hj:j=(Txt.split u sp1).length:=by
    have l:=congrArg List.length er
    rw [List.length_drop,List.length_nil] at l
    omega
   refine ⟨_,_,_,W2.w,rfl,_,⟨rfl,rfl⟩,x,dx,wl,_,j,rfl,W2,.inl ⟨hj,?_⟩⟩
   exact q v H2 (fun b o e=>B2 b o (aO e hx) (S1 b o e)) (hv.same pM)
  ·rw [List.drop_zero,e] at e'
   cases e'
 ·rcases h with ⟨u,rfl,ht,n⟩ | h
  ·refine .inl ⟨u,rfl,ht.1,ht.2.1,fun wl H1 hwl B1 W1=>⟨rfl,?_⟩⟩
   have S1:=dF hx hd B1
   refine ⟨x,dx,wl,_,0,rfl,W1,ht.2.2,ht.2.1,Nat.zero_le _,fun t' r e' v H2 j er hj1 hj2 B2 W2 hv=>?_,fun e' cls y H2 hc B2=>⟨?_,fun y2 hy2=>?_⟩⟩
   ·rw [List.drop_zero] at e'
    have hj:j≠(Txt.split u sp1).length:=fun z=>by
     rw [z,List.drop_length] at er
     rw [er] at e'
     exact n t' e'
    refine ⟨_,_,_,W2.w,rfl,_,⟨rfl,rfl⟩,x,dx,wl,_,j,rfl,W2,.inr ⟨hj,fun y H3 S3 e3=>?_⟩⟩
    exact q y H3 (fun b o e=>S3 b o (B2 b o (aO e hx) (S1 b o e))) e3
   ·rcases hc with rfl | rfl
    ·exact B.exm_NoFit
    ·exact B.exm_NoText
   ·exact q y2 _ (fun b o e=>aG hy2 _ b o (B2 b o (aO e hx) (S1 b o e))) aB
  ·exact .inr ⟨h.same M0,fun y H' S' e=>q y H' (M0.trans S') e⟩
theorem tP (B:Bt K mg a) (C_read_whole:CalW P w K mg base "read_whole" ["text","part_from"] 8 (jY K a)) (F:Fun K "read_fit" "read_fit" eW f fd):FnOk P w K mg base (qQ P w false) 9 f fd ["text"] (jB K a):=by
 refine Fun.okW F tH (fun vs H Q E h=>?_) (fun cdv A outer s H vs Q E hr h=>?_)
 ·obtain ⟨x,rfl,_⟩:=h
  rfl
 obtain ⟨x,rfl,q⟩:=h
 refine ⟨_,(bA (aI (aU (aW (AL6 C_read_whole (hr.mono (by decide)) rfl (aJ (aN (pv 0) (aN (bT (v:=.ref _) rfl B.fit_from rfl) aD))) (he:=aA _ _ _ rfl) (hpl:=aC rfl)))))),?_⟩
 walk_at "w0"
 exact ⟨x,rfl,q⟩
theorem fW {s:Str}:∀ {ts:List Str},ts≠[]→(Str.join s ts).length+s.length=(ts.map (·.length)).sum+ts.length * s.length
 | [],h=>absurd rfl h
 | [a],_=>by
  show a.length+s.length=_
  simp only [List.map_cons,List.map_nil,List.sum_cons,List.sum_nil,List.length_cons,List.length_nil]
  omega
 | a::b::r,_=>by
  have i:=fW (s:=s) (ts:=b::r) (by simp)
  show (a++s++Str.join s (b::r)).length+s.length=_
  rw [Str.length_append,Str.length_append,List.map_cons,List.sum_cons,List.length_cons,Nat.succ_mul]
  omega
theorem gP {s:Str}{ts:List Str}(hn:ts≠[]) (h:(Str.join s ts).length≤200000) (hs:s.length≤100):JoinOk s ts=true:=by
 refine AO4 ?_
 rw [← fW hn]
 exact szM (by omega)
theorem pY (s:Str) (ts:List Str):Txt.join s ts=Str.join s ts:=StrLaws.glued_eq_join s ts
theorem rQ {n:Int}(h0:0≤n) (h1:n < 1000000):n.natAbs.log2 < 1920:=by
 by_cases z:n.natAbs=0
 ·rw [z]; decide
 ·rw [Nat.log2_lt z]
  exact Nat.lt_of_lt_of_le (show n.natAbs < 2 ^ 20 by omega) (Nat.pow_le_pow_right (by decide) (by decide))
theorem nB {s:Str}:∀ {ts:List Str}{x:Str},x∈ts→x.length≤(Str.join s ts).length
 | [],x,h=>by cases h
 | [a],x,h=>by rw [List.mem_singleton.mp h]; exact Nat.le_refl _
 | a::b::r,x,h=>by
  show x.length≤(a++s++Str.join s (b::r)).length
  rw [Str.length_append,Str.length_append]
  rcases List.mem_cons.mp h with rfl | h
  ·omega
  ·have:=nB (s:=s) h
   omega
theorem tQ {d n:Nat}(hn:0≤n) (B:Bt K mg a) (C_show_fit:CalX P w K mg base "show_fit" ["fit"] n (eE K a d)) (F:Fun K "show_fit" "show_fit" eV f fd):FnOk P w K mg base CX0 (n+1) f fd ["fit"] (eE K a (d+1)):=by
 refine F.ok tG (fun vs H Q E h=>?_) (fun cdv A outer s H vs Q E hr h=>?_)
 ·obtain ⟨v,t,hd0,rfl,_⟩:=h
  rfl
 obtain ⟨v,t,hd0,rfl,hf,hw,hx,q⟩:=h
 refine ⟨_,(bA (aF (bJ (cF (aP (dR (K:=K) rfl) rfl B.isinstance PyProof.Rows.boot_isinstance (aJ (aN (pv 0) (aN (bT (v:=.ref _) rfl B.Kind rfl) aD))) (he:=aA _ _ _ rfl) (hpl:=aC rfl))) (aI (aU (aW (iM PySem.F.plainAttrs_str PySem.F.slot_str_join PySem.F.type_str_join iY aM (aJ (aN (bE kY (hU (aJ (aN aM aD))) (cG (pv 0) rfl)) aD)))))) aR) (aF (bJ (cF (aP (dR (K:=K) rfl) rfl B.isinstance PyProof.Rows.boot_isinstance (aJ (aN (pv 0) (aN (bT (v:=.ref _) rfl B.Place rfl) aD))) (he:=aA _ _ _ rfl) (hpl:=aC rfl))) (aI (aU (aW (iM PySem.F.plainAttrs_str PySem.F.slot_str_join PySem.F.type_str_join iY aM (aJ (aN (bE kY (hU (aJ (aN aM aD))) (cG (pv 0) rfl)) aD)))))) aR) (aF (bJ (cF (aP (dR (K:=K) rfl) rfl B.isinstance PyProof.Rows.boot_isinstance (aJ (aN (pv 0) (aN (bT (v:=.ref _) rfl B.Least rfl) aD))) (he:=aA _ _ _ rfl) (hpl:=aC rfl))) (aI (aU (aW (bE bB aM (bS kX rfl B.str PyProof.Rows.boot_str (aJ (aN (cG (pv 0) rfl) aD))))))) aR) (aF (bJ (cF (aP (dR (K:=K) rfl) rfl B.isinstance PyProof.Rows.boot_isinstance (aJ (aN (pv 0) (aN (bT (v:=.ref _) rfl B.Not rfl) aD))) (he:=aA _ _ _ rfl) (hpl:=aC rfl))) (aI (aU (aW (bE bB aM (aT C_show_fit (hr.mono (by omega)) rfl (aJ (aN (cG (pv 0) rfl) aD)) (he:=aA _ _ _ rfl) (hpl:=aC rfl)))))) aR) (aF (bJ (cF (aP (dR (K:=K) rfl) rfl B.isinstance PyProof.Rows.boot_isinstance (aJ (aN (pv 0) (aN (bT (v:=.ref _) rfl B.Both rfl) aD))) (he:=aA _ _ _ rfl) (hpl:=aC rfl))) (aI (aU (aW (bE bB (bE bB aM (iM PySem.F.plainAttrs_str PySem.F.slot_str_join PySem.F.type_str_join iY aM (aJ (aN (dQ ["part"] [none] rfl (by kernel_rfl) (kF (cG (pv 0) rfl)) (fun cl C s H fp=>⟨(dC (i:=0) (by decide:List.Nodup (["part"]:List Str)) rfl (Or.inl (by kernel_rfl)) (Or.inr (by kernel_rfl))),fK,(aT C_show_fit (hr.mono (by omega)) (mI (by kernel_rfl)) (aJ (aN (pv 0 (hv:=Or.inl (by kernel_rfl))) aD)) (he:=aA _ _ _ rfl) (hpl:=aC rfl))⟩)) aD)))) aM)))) aR) (aF (bJ (cF (aP (dR (K:=K) rfl) rfl B.isinstance PyProof.Rows.boot_isinstance (aJ (aN (pv 0) (aN (bT (v:=.ref _) rfl B.Either rfl) aD))) (he:=aA _ _ _ rfl) (hpl:=aC rfl))) (aI (aU (aW (bE bB (bE bB aM (iM PySem.F.plainAttrs_str PySem.F.slot_str_join PySem.F.type_str_join iY aM (aJ (aN (dQ ["part"] [none] rfl (by kernel_rfl) (kF (cG (pv 0) rfl)) (fun cl C s H fp=>⟨(dC (i:=0) (by decide:List.Nodup (["part"]:List Str)) rfl (Or.inl (by kernel_rfl)) (Or.inr (by kernel_rfl))),fK,(aT C_show_fit (hr.mono (by omega)) (mI (by kernel_rfl)) (aJ (aN (pv 0 (hv:=Or.inl (by kernel_rfl))) aD)) (he:=aA _ _ _ rfl) (hpl:=aC rfl))⟩)) aD)))) aM)))) aR) (aI (aU (aW aM)))))))))),?_⟩
 cases t with
 | any =>
  rw [Tr.Fit] at hf
  rw [Tr.wf] at hw
  rw [Tr.tx] at q hx
  obtain ⟨p,dx,rfl,hp⟩:=hf
  walk_at "w0"
  refine ⟨_,_,_,false,rfl,B.ck_Any.ty hp,B.is_Any_Kind,?_⟩
  walk_at "w0"
  refine ⟨_,_,_,false,rfl,B.ck_Any.ty hp,B.is_Any_Place,?_⟩
  walk_at "w0"
  refine ⟨_,_,_,false,rfl,B.ck_Any.ty hp,B.is_Any_Least,?_⟩
  walk_at "w0"
  refine ⟨_,_,_,false,rfl,B.ck_Any.ty hp,B.is_Any_Not,?_⟩
  walk_at "w0"
  refine ⟨_,_,_,false,rfl,B.ck_Any.ty hp,B.is_Any_Both,?_⟩
  walk_at "w0"
  refine ⟨_,_,_,false,rfl,B.ck_Any.ty hp,B.is_Any_Either,?_⟩
  walk_at "w0"
  exact q _ fun _ _ z=>z
 | kind us =>
  rw [Tr.Fit] at hf
  rw [Tr.wf] at hw
  rw [Tr.tx] at q hx
  obtain ⟨p,dx,ln,rfl,hp,hn⟩:=hf
  walk_at "w0"
  refine ⟨_,_,_,true,rfl,B.ck_Kind.ty hp,B.is_Kind_Kind,?_⟩
  walk_at "w0"
  refine ⟨sz8 (by decide),fun p1 h1=>?_⟩
  have S1:=aG h1 (.lst [.str "kind"])
  refine ⟨_,_,_,S1 _ _ hp,B.ck_Kind.cl,B.na_Kind_names,.ref ln,rfl,?_⟩
  have jl:=fW (s:=sp1) (ts:=("kind":Str)::us) (by simp)
  refine ⟨p1,ln,_,_,rfl,rfl,aB,S1 _ _ hn,szM ?_,fun p2 h2=>?_⟩
  ·rw [List.length_map]
   have e1:sp1.length=1:=rfl
   rw [e1,List.length_cons] at jl
   show 1+us.length≤1000000
   omega
  have S2:=aG h2 (.lst ([.str "kind"]++us.map V.str))
  refine ⟨sp1,p2,("kind":Str)::us,rfl,rfl,aB,gP (by simp) (by omega) (by decide),?_⟩
  rw [pY]
  exact q _ (S1.trans S2)
 | place us =>
  rw [Tr.Fit] at hf
  rw [Tr.wf] at hw
  rw [Tr.tx] at q hx
  obtain ⟨p,dx,ln,rfl,hp,hn⟩:=hf
  walk_at "w0"
  refine ⟨_,_,_,false,rfl,B.ck_Place.ty hp,B.is_Place_Kind,?_⟩
  walk_at "w0"
  refine ⟨_,_,_,true,rfl,B.ck_Place.ty hp,B.is_Place_Place,?_⟩
  walk_at "w0"
  refine ⟨sz8 (by decide),fun p1 h1=>?_⟩
  have S1:=aG h1 (.lst [.str "place"])
  refine ⟨_,_,_,S1 _ _ hp,B.ck_Place.cl,B.na_Place_names,.ref ln,rfl,?_⟩
  have jl:=fW (s:=sp1) (ts:=("place":Str)::us) (by simp)
  refine ⟨p1,ln,_,_,rfl,rfl,aB,S1 _ _ hn,szM ?_,fun p2 h2=>?_⟩
  ·rw [List.length_map]
   have e1:sp1.length=1:=rfl
   rw [e1,List.length_cons] at jl
   show 1+us.length≤1000000
   omega
  have S2:=aG h2 (.lst ([.str "place"]++us.map V.str))
  refine ⟨sp1,p2,("place":Str)::us,rfl,rfl,aB,gP (by simp) (by omega) (by decide),?_⟩
  rw [pY]
  exact q _ (S1.trans S2)
 | weight n =>
  rw [Tr.Fit] at hf
  rw [Tr.wf] at hw
  rw [Tr.tx] at q hx
  obtain ⟨p,dx,rfl,hp⟩:=hf
  walk_at "w0"
  refine ⟨_,_,_,false,rfl,B.ck_Least.ty hp,B.is_Least_Kind,?_⟩
  walk_at "w0"
  refine ⟨_,_,_,false,rfl,B.ck_Least.ty hp,B.is_Least_Place,?_⟩
  walk_at "w0"
  refine ⟨_,_,_,true,rfl,B.ck_Least.ty hp,B.is_Least_Least,?_⟩
  walk_at "w0"
  refine ⟨_,_,_,hp,B.ck_Least.cl,B.na_Least_weight,.int n,rfl,n,rfl,rQ hw.1 hw.2,?_,q _ fun _ _ z=>z⟩
  have e:=Str.length_append (("weight ":Str)) (lB n)
  rw [e] at hx
  exact szM (by show (("weight ":Str)).length+(lB n).length≤1000000; omega)
 | not t =>
  rw [Tr.Fit] at hf
  rw [Tr.wf] at hw
  rw [Tr.tx] at q hx
  obtain ⟨p,dx,y,rfl,hp,hy⟩:=hf
  walk_at "w0"
  refine ⟨_,_,_,false,rfl,B.ck_Not.ty hp,B.is_Not_Kind,?_⟩
  walk_at "w0"
  refine ⟨_,_,_,false,rfl,B.ck_Not.ty hp,B.is_Not_Place,?_⟩
  walk_at "w0"
  refine ⟨_,_,_,false,rfl,B.ck_Not.ty hp,B.is_Not_Least,?_⟩
  walk_at "w0"
  refine ⟨_,_,_,true,rfl,B.ck_Not.ty hp,B.is_Not_Not,?_⟩
  walk_at "w0"
  rw [Tr.dp] at hd0
  rw [Str.length_append] at hx
  refine ⟨_,_,_,hp,B.ck_Not.cl,B.na_Not_fit,y,rfl,y,t,by omega,rfl,hy,hw,by omega,fun H' S'=>⟨_,rfl,szM (by omega),q _ S'⟩⟩
 | both ts =>
  rw [Tr.Fit] at hf
  rw [Tr.wf] at hw
  rw [Tr.tx] at q hx
  obtain ⟨p,dx,ln,xs,rfl,hp,hn,hs⟩:=hf
  walk_at "w0"
  refine ⟨_,_,_,false,rfl,B.ck_Both.ty hp,B.is_Both_Kind,?_⟩
  walk_at "w0"
  refine ⟨_,_,_,false,rfl,B.ck_Both.ty hp,B.is_Both_Place,?_⟩
  walk_at "w0"
  refine ⟨_,_,_,false,rfl,B.ck_Both.ty hp,B.is_Both_Least,?_⟩
  walk_at "w0"
  refine ⟨_,_,_,false,rfl,B.ck_Both.ty hp,B.is_Both_Not,?_⟩
  walk_at "w0"
  refine ⟨_,_,_,true,rfl,B.ck_Both.ty hp,B.is_Both_Both,?_⟩
  walk_at "w0"
  rw [Tr.dp] at hd0
  rw [Str.length_append,Str.length_append] at hx
  have hA:=trs_fit.mp hs
  have ln6:=hA.len
  have tne:ts.tx≠[]:=fun z=>by
   have l:=congrArg List.length z
   rw [fM,List.length_map,List.length_nil] at l
   omega
  have jl:=fW (s:=(" & ":Str)) tne
  have lt:ts.tx.length=ts.toL.length:=by rw [fM,List.length_map]
  have e3:((" & ":Str)).length=3:=rfl
  rw [lt,e3] at jl
  have le:xs.length≤1000000:=by omega
  refine ⟨_,_,_,hp,B.ck_Both.cl,B.na_Both_fits,.ref ln,rfl,?_⟩
  refine ⟨ln,rfl,⟨xs,SqL.of hn⟩,?_⟩
  refine CompL.by (xs:=xs) (fun i acc σ H'=>acc=((ts.toL.take i).map Tr.tx).map V.str∧(∃ v,σ=[v])∧Same H H') (szM le) ⟨rfl,⟨_,rfl⟩,fun _ _ z=>z⟩ (fun i acc σ H' _ h=>SqL.of (h.2.2 _ _ hn)) ?_ ?_ ?_
  ·rintro i y acc σ H' hy ⟨rfl,⟨v,rfl⟩,S1⟩
   obtain ⟨t,e,ht⟩:=hA.get hy
   have mt:=List.mem_of_getElem? e
   have dt:=jQ mt
   have ea:((ts.toL.take i).map Tr.tx).map V.str++[V.str t.tx]=((ts.toL.take (i+1)).map Tr.tx).map V.str:=by
    rw [List.take_succ,e,List.map_append,List.map_append]
    rfl
   have lx:=nB (s:=(" & ":Str)) (ts:=ts.tx) (x:=t.tx) (by rw [fM]; exact List.mem_map.mpr ⟨t,mt,rfl⟩)
   walk_at "w0"
   refine ⟨y,t,by omega,rfl,ht.same S1,trs_wf.mp hw.2 t mt,by omega,fun H2 S2=>?_⟩
   first | exact ⟨ea,⟨_,rfl⟩,S1.trans S2⟩ | exact ⟨ea,S1.trans S2⟩
  ·rintro i acc σ H' ⟨rfl,_,_⟩
   rw [List.length_map,List.length_map,List.length_take]
   omega
  ·rintro acc σ H' ⟨rfl,⟨v,rfl⟩,S1⟩ D hD
   rw [← ln6,List.take_length,← fM]
   refine ⟨(" & ":Str),D,ts.tx,rfl,rfl,aB,gP tne (by omega) (by decide),?_⟩
   rw [pY]
   refine ⟨_,rfl,szM (by omega),szM (by rw [Str.length_append]; omega),?_⟩
   exact q _ (S1.trans (aG hD _))
 | either ts =>
  rw [Tr.Fit] at hf
  rw [Tr.wf] at hw
  rw [Tr.tx] at q hx
  obtain ⟨p,dx,ln,xs,rfl,hp,hn,hs⟩:=hf
  walk_at "w0"
  refine ⟨_,_,_,false,rfl,B.ck_Either.ty hp,B.is_Either_Kind,?_⟩
  walk_at "w0"
  refine ⟨_,_,_,false,rfl,B.ck_Either.ty hp,B.is_Either_Place,?_⟩
  walk_at "w0"
  refine ⟨_,_,_,false,rfl,B.ck_Either.ty hp,B.is_Either_Least,?_⟩
  walk_at "w0"
  refine ⟨_,_,_,false,rfl,B.ck_Either.ty hp,B.is_Either_Not,?_⟩
  walk_at "w0"
  refine ⟨_,_,_,false,rfl,B.ck_Either.ty hp,B.is_Either_Both,?_⟩
  walk_at "w0"
  refine ⟨_,_,_,true,rfl,B.ck_Either.ty hp,B.is_Either_Either,?_⟩
  walk_at "w0"
  rw [Tr.dp] at hd0
  rw [Str.length_append,Str.length_append] at hx
  have hA:=trs_fit.mp hs
  have ln6:=hA.len
  have tne:ts.tx≠[]:=fun z=>by
   have l:=congrArg List.length z
   rw [fM,List.length_map,List.length_nil] at l
   omega
  have jl:=fW (s:=(" | ":Str)) tne
  have lt:ts.tx.length=ts.toL.length:=by rw [fM,List.length_map]
  have e3:((" | ":Str)).length=3:=rfl
  rw [lt,e3] at jl
  have le:xs.length≤1000000:=by omega
  refine ⟨_,_,_,hp,B.ck_Either.cl,B.na_Either_fits,.ref ln,rfl,?_⟩
  refine ⟨ln,rfl,⟨xs,SqL.of hn⟩,?_⟩
  refine CompL.by (xs:=xs) (fun i acc σ H'=>acc=((ts.toL.take i).map Tr.tx).map V.str∧(∃ v,σ=[v])∧Same H H') (szM le) ⟨rfl,⟨_,rfl⟩,fun _ _ z=>z⟩ (fun i acc σ H' _ h=>SqL.of (h.2.2 _ _ hn)) ?_ ?_ ?_
  ·rintro i y acc σ H' hy ⟨rfl,⟨v,rfl⟩,S1⟩
   obtain ⟨t,e,ht⟩:=hA.get hy
   have mt:=List.mem_of_getElem? e
   have dt:=jQ mt
   have ea:((ts.toL.take i).map Tr.tx).map V.str++[V.str t.tx]=((ts.toL.take (i+1)).map Tr.tx).map V.str:=by
    rw [List.take_succ,e,List.map_append,List.map_append]
    rfl
   have lx:=nB (s:=(" | ":Str)) (ts:=ts.tx) (x:=t.tx) (by rw [fM]; exact List.mem_map.mpr ⟨t,mt,rfl⟩)
   walk_at "w0"
   refine ⟨y,t,by omega,rfl,ht.same S1,trs_wf.mp hw.2 t mt,by omega,fun H2 S2=>?_⟩
   first | exact ⟨ea,⟨_,rfl⟩,S1.trans S2⟩ | exact ⟨ea,S1.trans S2⟩
  ·rintro i acc σ H' ⟨rfl,_,_⟩
   rw [List.length_map,List.length_map,List.length_take]
   omega
  ·rintro acc σ H' ⟨rfl,⟨v,rfl⟩,S1⟩ D hD
   rw [← ln6,List.take_length,← fM]
   refine ⟨(" | ":Str),D,ts.tx,rfl,rfl,aB,gP tne (by omega) (by decide),?_⟩
   rw [pY]
   refine ⟨_,rfl,szM (by omega),szM (by rw [Str.length_append]; omega),?_⟩
   exact q _ (S1.trans (aG hD _))
theorem rR (B:Bt K mg a)  (F:Fun K "_law_begin" "_law_begin" eA f fd):FnOk P w K mg base CX0 1 f fd ["_law_cell"] (lD K a):=by
 refine F.ok rE (fun vs H Q E h=>?_) (fun cdv A outer s H vs Q E hr h=>?_)
 ·obtain ⟨c,rfl,_⟩:=h
  rfl
 obtain ⟨c,rfl,q⟩:=h
 refine ⟨_,(bA (aI (aU (gR (aN (bE nN (bE iE (pv 0) aL) (bE wO aL (bE iP (pv 0) aL))) (aN (bE iP (pv 0) aL) (aN aL aD))))))),?_⟩
 walk_at "w0"
 exact ⟨⟨by decide,by decide⟩,by decide,.inr ⟨by omega,by omega⟩,by decide,by decide,fun p hp=>q p _ _ _ hp⟩
theorem tR (B:Bt K mg a)  (F:Fun K "_law_next" "_law_next" eZ f fd):FnOk P w K mg base CX0 1 f fd ["_law_state","_law_base"] (dI K a):=by
 refine F.ok sc_law_next (fun vs H Q E h=>?_) (fun cdv A outer s H vs Q E hr h=>?_)
 ·obtain ⟨wl,m,rfl,_⟩:=h
  rfl
 obtain ⟨wl,m,rfl,⟨a,b,c,hw⟩,m0,m1,q⟩:=h
 refine ⟨_,(bA (aF (bJ (aX rT (bM cV (pv 0) aL (fun _ _=>rfl)) aL (aY _)) (aF (bF (i:=2) sc_law_next.nd rfl (Or.inl rfl) (aW (bE iP (bM cV (pv 0) aL (fun _ _=>rfl)) (pv 1))) (by kernel_rfl)) (aF (cN (AF7 (bE iE (bM cV (pv 0) aL (fun _ _=>rfl)) (pv 1)) (AF6 (pv 0) aL uD))) (aI (aU (aW (pv 2)))))) aR) (aF (cN (AF7 (bE gZ (bM cV (pv 0) aL (fun _ _=>rfl)) aL) (AF6 (pv 0) aL uD))) (aF (bF (i:=3) sc_law_next.nd rfl (Or.inl rfl) (aW (bE iP (bE nN (bE gZ (bE gZ (bM cV (pv 0) aL (fun _ _=>rfl)) (bE nN aL (bM cV (pv 0) aL (fun _ _=>rfl)))) aL) aL) aL)) (by kernel_rfl)) (aF (bF (i:=3) sc_law_next.nd rfl (Or.inl rfl) (aW (bE iP (bE nN (pv 3) (bE gZ (bE iE (pv 3) aL) aL)) aL)) (by kernel_rfl)) (aF (bF (i:=3) sc_law_next.nd rfl (Or.inl rfl) (aW (bE iP (bE nN (pv 3) (bE gZ (bE iE (pv 3) aL) aL)) aL)) (by kernel_rfl)) (aI (aU (aW (bE iP (bE iE (pv 3) aL) (pv 1))))))))))),?_⟩
 have em:∀ x k:Int,0 < k→0≤x % k∧x % k < k:=fun x k h=>⟨Int.emod_nonneg _ (by omega),Int.emod_lt_of_pos _ h⟩
 walk_at "w0"
 refine ixl (SqL.of hw) (v:=.int a) rfl ?_
 walk_at "w0"
 split
 ·refine ixl (SqL.of hw) (v:=.int a) rfl ?_
  walk_at "w0"
  refine ⟨m0,?_⟩
  refine ixl (SqL.of hw) (v:=.int a) rfl ?_
  walk_at "w0"
  refine ⟨⟨m0,m1⟩,?_⟩
  refine BE6 hw (j:=0) rfl ?_
  exact q _ _ (em a m m0).1 (em a m m0).2 ⟨_,_,_,aB⟩ (But.upd _)
 ·refine ixl (SqL.of hw) (v:=.int c) rfl ?_
  walk_at "w0"
  refine BE6 hw (j:=2) rfl ?_
  refine ixl (SqL.of aB) (v:=.int b) rfl ?_
  refine ixl (SqL.of aB) (v:=.int (c+1)) rfl ?_
  walk_at "w0"
  generalize hn1:(b+7919 * (c+1)+1) * 48271 % 2147483647=n1
  have b1:0≤n1∧n1 < 2147483647:=hn1 ▸ em _ _ (by decide)
  generalize hn2:n1 * (n1 / 1009+69621) % 2147483647=n2
  have b2:0≤n2∧n2 < 2147483647:=hn2 ▸ em _ _ (by decide)
  refine ⟨.inl ⟨by decide,by decide⟩,.inr ⟨by decide,by decide⟩,by decide,⟨by decide,by decide⟩,.inl ⟨by omega,by omega⟩,by decide,⟨by decide,by decide⟩,.inl ⟨by omega,by omega⟩,by decide,⟨by decide,by decide⟩,m0,?_⟩
  exact q _ _ (em _ m m0).1 (em _ m m0).2 ⟨_,_,_,aB⟩ (But.upd _)
theorem tS (B:Bt K mg a) (C_law_next:CalX P w K mg base "_law_next" ["_law_state","_law_base"] 1 (dI K a)) (F:Fun K "_law_name" "_law_name" fA f fd):FnOk P w K mg base CX0 2 f fd ["_law_state"] (mW K a):=by
 refine F.ok sc_law_name (fun vs H Q E h=>?_) (fun cdv A outer s H vs Q E hr h=>?_)
 ·obtain ⟨wl,rfl,_⟩:=h
  rfl
 obtain ⟨wl,rfl,W,q⟩:=h
 refine ⟨_,(bA (aF (bF (i:=1) sc_law_name.nd rfl (Or.inr rfl) (aW aM) (by kernel_rfl)) (aF (bF (i:=2) sc_law_name.nd rfl (Or.inl rfl) (aW (aT C_law_next (hr.mono (by decide)) rfl (aJ (aN (pv 0) (aN aL aD))) (he:=aA _ _ _ rfl) (hpl:=aC rfl))) (by kernel_rfl)) (aF (bJ (aX cL (pv 2) aL (aY _)) (aF (bF (i:=3) sc_law_name.nd rfl (Or.inl rfl) (gR (aN aM (aN aM (aN aM (aN aM (aN aM (aN aM (aN aM (aN aM (aN aM (aN aM (aN aM (aN aM (aN aM aD)))))))))))))) (by kernel_rfl)) (aI (aU (AS8 cV (AN1 kY (aW (pv 3)) (gR (aN aM (aN aM (aN aM aD))))) (aW (aT C_law_next (hr.mono (by decide)) rfl (aJ (aN (pv 0) (aN aL aD))) (he:=aA _ _ _ rfl) (hpl:=aC rfl))) (fun _ _=>rfl))))) aR) (aF (bJ (aX cL (pv 2) aL (aY _)) (aF (bF (i:=4) sc_law_name.nd rfl (Or.inl rfl) (aW (gG uM aM iU (iV (bE gZ aL (aT C_law_next (hr.mono (by decide)) rfl (aJ (aN (pv 0) (aN aL aD))) (he:=aA _ _ _ rfl) (hpl:=aC rfl)))))) (by kernel_rfl)) (aF (bF (i:=5) sc_law_name.nd rfl (Or.inl rfl) (aW (aT C_law_next (hr.mono (by decide)) rfl (aJ (aN (pv 0) (aN (aP eL rfl B.len PySem.boot_len (aJ (aN (pv 4) aD))) aD))) (he:=aA _ _ _ rfl) (hpl:=aC rfl))) (by kernel_rfl)) (aI (aU (aW (bE bB (bE bB (gG uM (pv 4) iU (iV (pv 5))) (bM AG2 aM (aT C_law_next (hr.mono (by decide)) rfl (aJ (aN (pv 0) (aN aL aD))) (he:=aA _ _ _ rfl) (hpl:=aC rfl)) (fun _ _=>rfl))) (gG uM (pv 4) (iV (bE gZ (pv 5) aL)) iU))))))) aR) (aI (aU (aW (iM PySem.F.plainAttrs_str PySem.F.slot_str_join PySem.F.type_str_join iY aM (aJ (aN (dQ ["_law_k","_law_letters","_law_state"] [none,some 1,some 0] rfl (by kernel_rfl) (gY rfl B.range (aJ (aN (bE gZ aL (aT C_law_next (hr.mono (by decide)) rfl (aJ (aN (pv 0) (aN aL aD))) (he:=aA _ _ _ rfl) (hpl:=aC rfl))) aD))) (fun cl C s H fp=>⟨(dC (i:=0) (by decide:List.Nodup (["_law_k","_law_letters","_law_state"]:List Str)) rfl (Or.inl (by kernel_rfl)) (Or.inr (by kernel_rfl))),fK,(bM AG2 (pv 1 (hv:=Or.inr (Or.inl (by kernel_rfl)))) (aT C_law_next (hr.mono (by decide)) (mI (by kernel_rfl)) (aJ (aN (pv 2 (hv:=Or.inr (Or.inl (by kernel_rfl)))) (aN aL aD))) (he:=aA _ _ _ rfl) (hpl:=aC rfl)) (fun _ _=>rfl))⟩)) aD))))))))))),?_⟩
 walk_at "w0"
 refine qA W (by decide) (by decide) fun r1 H1 a1 b1 W1 B1=>?_
 walk_at "w0"
 by_cases h0:r1=0
 ·rw [if_pos h0]
  refine ⟨sz8 (by decide),fun p hp=>?_⟩
  have S1:=aG hp (.lst [.str "any",.str "kind",.str "place",.str "weight",.str "not",.str "by",.str "now",.str "hour",.str "day",.str "never",.str "sure",.str "raise",.str "zone"])
  have e1:upd H1 p (.lst [.str "any",.str "kind",.str "place",.str "weight",.str "not",.str "by",.str "now",.str "hour",.str "day",.str "never",.str "sure",.str "raise",.str "zone"]) p=some (.lst [.str "any",.str "kind",.str "place",.str "weight",.str "not",.str "by",.str "now",.str "hour",.str "day",.str "never",.str "sure",.str "raise",.str "zone"]):=aB
  generalize upd H1 p (.lst [.str "any",.str "kind",.str "place",.str "weight",.str "not",.str "by",.str "now",.str "hour",.str "day",.str "never",.str "sure",.str "raise",.str "zone"])=H2 at *
  refine ⟨sz8 (by decide),fun p2 hp2=>?_⟩
  have S2:=aG hp2 (.lst [.str "quiet",.str "a",.str "to"])
  have e2:upd H2 p2 (.lst [.str "quiet",.str "a",.str "to"]) p2=some (.lst [.str "quiet",.str "a",.str "to"]):=aB
  have e1':=S2 _ _ e1
  generalize upd H2 p2 (.lst [.str "quiet",.str "a",.str "to"])=H3 at *
  refine ⟨p,p2,[.str "any",.str "kind",.str "place",.str "weight",.str "not",.str "by",.str "now",.str "hour",.str "day",.str "never",.str "sure",.str "raise",.str "zone"],[.str "quiet",.str "a",.str "to"],rfl,rfl,e1',e2,sz8 (by decide),fun p3 hp3=>?_⟩
  have S3:=aG hp3 (.lst ([.str "any",.str "kind",.str "place",.str "weight",.str "not",.str "by",.str "now",.str "hour",.str "day",.str "never",.str "sure",.str "raise",.str "zone"]++[.str "quiet",.str "a",.str "to"]))
  have e3:upd H3 p3 (.lst ([.str "any",.str "kind",.str "place",.str "weight",.str "not",.str "by",.str "now",.str "hour",.str "day",.str "never",.str "sure",.str "raise",.str "zone"]++[.str "quiet",.str "a",.str "to"])) p3=some (.lst ([.str "any",.str "kind",.str "place",.str "weight",.str "not",.str "by",.str "now",.str "hour",.str "day",.str "never",.str "sure",.str "raise",.str "zone"]++[.str "quiet",.str "a",.str "to"])):=aB
  have n3:=(W1.same (S1.trans S2)).ne hp3
  generalize upd H3 p3 (.lst ([.str "any",.str "kind",.str "place",.str "weight",.str "not",.str "by",.str "now",.str "hour",.str "day",.str "never",.str "sure",.str "raise",.str "zone"]++[.str "quiet",.str "a",.str "to"]))=H4 at *
  have SS:=S1.trans (S2.trans S3)
  refine qA (W1.same SS) (by decide) (by decide) fun r4 H5 a4 b4 W5 B5=>?_
  have e5:=B5 p3 _ n3 e3
  obtain ⟨v,hv,ev⟩:=oU (xs:=([.str "any",.str "kind",.str "place",.str "weight",.str "not",.str "by",.str "now",.str "hour",.str "day",.str "never",.str "sure",.str "raise",.str "zone"]:List V)++[.str "quiet",.str "a",.str "to"]) a4 (by simp only [List.length_append,List.length_cons,List.length_nil]; omega)
  refine ixl (SqL.of e5) ev ?_
  obtain ⟨u,rfl,g⟩:∃ u,v=.str u∧aZ u:=by
   simp only [List.cons_append,List.nil_append,List.mem_cons,List.not_mem_nil,or_false] at hv
   rcases hv with rfl | rfl | rfl | rfl | rfl | rfl | rfl | rfl | rfl | rfl | rfl | rfl | rfl | rfl | rfl | rfl <;> exact ⟨_,rfl,by decide +kernel⟩
  exact q u H5 g W5 (B1.trans ((Same.but SS).trans B5))
 rw [if_neg h0]
 by_cases h1:r1=1
 ·rw [if_pos h1]
  refine qA W1 (by decide) (by decide) fun r2 H2 a2 b2 W2 B2=>?_
  walk_at "w0"
  have e8:Str.ofString "bcdefghi"=w8:=rfl
  have e3:Str.ofString "axz"=axz:=rfl
  rw [e8]
  have hw:=AM6 a2 b2
  have hl:(Txt.slice w8 none (some (1+r2))).length≤8:=mJ w8 (by decide) _ _
  refine ⟨sz8 (by decide),sz8 (by omega),?_⟩
  refine qA W2 (by rw [hw]; omega) (by rw [hw]; omega) fun r3 H3 a3 b3 W3 B3=>?_
  have b3':r3 < r2+1:=by rw [hw] at b3; omega
  walk_at "w0"
  refine ⟨sz8 (by omega),?_⟩
  refine qA W3 (by decide) (by decide) fun r4 H4 a4 b4 W4 B4=>?_
  obtain ⟨c,ec,gd⟩:=AC4 a2 b2 a3 b3' a4 b4
  refine ixs (u:=axz) (sz8 (by decide)) ec ?_
  walk_at "w0"
  have l1:=mJ (Txt.slice w8 none (some (1+r2))) hl none (some r3)
  have l2:=mJ (Txt.slice w8 none (some (1+r2))) hl (some (r3+1)) none
  have l3:(⟨#[c]⟩:Str).length=1:=rfl
  refine ⟨sz8 (by rw [l3]; omega),sz8 (by omega),sz8 (by rw [Str.length_append,l3]; omega),?_⟩
  exact q _ H4 gd W4 (B1.trans (B2.trans (B3.trans B4)))
 ·rw [if_neg h1]
  refine qA W1 (by decide) (by decide) fun r2 H2 a2 b2 W2 B2=>?_
  walk_at "w0"
  refine ⟨by omega,by omega,?_⟩
  refine CompR.by (fun i acc σ H'=>(∃ ts:List Str,acc=ts.map V.str∧ts.length=i∧∀ t∈ts,∃ c,t=⟨#[c]⟩∧97≤c∧c≤122)∧(∃ v,σ=[v,some (.str letters),some (.ref wl)])∧Well3 H' wl∧But wl H2 H') (sz8 (by omega)) ⟨⟨[],rfl,rfl,fun t ht=>by cases ht⟩,⟨_,rfl⟩,W2,But.refl _ _⟩ ?_ ?_ ?_
  ·rintro i acc σ H' hi ⟨⟨ts,rfl,hl,ht⟩,⟨v,rfl⟩,W3,B3⟩
   walk_at "w0"
   refine qA W3 (by decide) (by decide) fun r3 H3 a3 b3 W4 B4=>?_
   obtain ⟨c,ec,c0,c1⟩:=yC a3 b3
   refine ixs (u:=letters) (sz8 (by decide)) ec ?_
   have new:∃ us:List Str,ts.map V.str++[V.str ⟨#[c]⟩]=us.map V.str∧us.length=i+1∧∀ t∈us,∃ c,t=⟨#[c]⟩∧97≤c∧c≤122:=by
    refine ⟨ts++[⟨#[c]⟩],by rw [List.map_append]; rfl,by rw [List.length_append,hl]; rfl,fun t h=>?_⟩
    rcases List.mem_append.mp h with z | z
    ·exact ht t z
    ·rw [List.mem_singleton.mp z]
     exact ⟨c,rfl,c0,c1⟩
   first | exact ⟨new,⟨_,rfl⟩,W4,B3.trans B4⟩ | exact ⟨new,W4,B3.trans B4⟩
  ·rintro i acc σ H' ⟨⟨ts,rfl,hl,_⟩,_⟩
   rw [List.length_map,hl]
   exact Nat.le_refl _
  ·rintro acc σ H' ⟨⟨ts,rfl,hl,ht⟩,⟨v,rfl⟩,W3,B3⟩ D hD
   have hn:ts.length=(1+r2).toNat:=hl
   obtain ⟨j1,j2⟩:=yD ht (by omega) (by omega)
   have n0:=W3.ne hD
   have S9:=aG hD (.lst (ts.map V.str))
   refine ⟨Str.empty,D,ts,rfl,rfl,aB,j1,?_⟩
   exact q _ _ j2 (W3.same S9) (B1.trans (B2.trans (B3.trans (Same.but S9))))
theorem tT (B:Bt K mg a) (C_law_next:CalX P w K mg base "_law_next" ["_law_state","_law_base"] 1 (dI K a)) (C_law_name:CalX P w K mg base "_law_name" ["_law_state"] 2 (mW K a)) (F:Fun K "_law_leaf" "_law_leaf" fB f fd):FnOk P w K mg base CX0 3 f fd ["_law_state","_law_more"] (jD K a):=by
 refine F.ok sc_law_leaf (fun vs H Q E h=>?_) (fun cdv A outer s H vs Q E hr h=>?_)
 ·obtain ⟨wl,m,rfl,_⟩:=h
  rfl
 obtain ⟨wl,m,rfl,W,m0,m5,q⟩:=h
 refine ⟨_,(bA (aF (bF (i:=2) sc_law_leaf.nd rfl (Or.inl rfl) (aW (aT C_law_next (hr.mono (by decide)) rfl (aJ (aN (pv 0) (aN aL aD))) (he:=aA _ _ _ rfl) (hpl:=aC rfl))) (by kernel_rfl)) (aF (bJ (aX cL (pv 2) aL (aY _)) (aI (aU (aW (jJ (aJ (aN aM aD)))))) aR) (aF (bJ (aX vJ (pv 2) aL (aY _)) (aI (aU (aW (jJ (aJ (aN aM (aN (bM cV (hU (aJ (aN (aT C_law_next (hr.mono (by decide)) rfl (aJ (aN (pv 0) (aN aL aD))) (he:=aA _ _ _ rfl) (hpl:=aC rfl)) (aN (aT C_law_next (hr.mono (by decide)) rfl (aJ (aN (pv 0) (aN (bE AQ9 aL aL) aD))) (he:=aA _ _ _ rfl) (hpl:=aC rfl)) aD)))) (bE iE (aT C_law_next (hr.mono (by decide)) rfl (aJ (aN (pv 0) (aN aL aD))) (he:=aA _ _ _ rfl) (hpl:=aC rfl)) aL) (fun _ _=>rfl)) aD))))))) aR) (aF (bF (i:=3) sc_law_leaf.nd rfl (Or.inl rfl) (gR (aN (aT C_law_name (hr.mono (by decide)) rfl (aJ (aN (pv 0) aD)) (he:=aA _ _ _ rfl) (hpl:=aC rfl)) aD)) (by kernel_rfl)) (aF (cN (uB PassesOwn.never rfl (gY rfl B.range (aJ (aN (aT C_law_next (hr.mono (by decide)) rfl (aJ (aN (pv 0) (aN (bE gZ aL (pv 1)) aD))) (he:=aA _ _ _ rfl) (hpl:=aC rfl)) aD))) (dC (i:=4) sc_law_leaf.nd rfl (Or.inl rfl)) (bA (aF (bF (i:=5) sc_law_leaf.nd rfl (Or.inl rfl) (aW (aT C_law_name (hr.mono (by decide)) rfl (aJ (aN (pv 0) aD)) (he:=aA _ _ _ rfl) (hpl:=aC rfl))) (by kernel_rfl)) (aI (bJ (aX hW (pv 5) (pv 3) (by with_unfolding_all rfl)) (aI (cN (eM (iM PySem.F.plainAttrs_list PySem.F.slot_list_append PySem.F.type_list_append jL (pv 3) (aJ (aN (pv 5) aD)))))) aR)))))) (aI (aU (aW (jJ (aJ (aN (bM cV (hU (aJ (aN aM (aN aM aD)))) (bE iP (pv 2) aL) (fun _ _=>rfl)) (aN (bS jK rfl B.tuple PyProof.Rows.boot_tuple (aJ (aN (pv 3) aD))) aD))))))))))))),?_⟩
 walk_at "w0"
 refine qA W (by decide) (by decide) fun kd H1 k0 k1 W1 B1=>?_
 walk_at "w0"
 by_cases c0:kd=0
 ·rw [if_pos c0]
  refine ⟨sz8 (by decide),fun p hp=>?_⟩
  exact q (.ref p) .any _ (by rw [Tr.At]; exact ⟨p,rfl,aB⟩) (by rw [Tr.ok]; trivial) (by rw [Tr.dp]) (by rw [Tr.cnt]; decide) (W1.same (aG hp _)) (B1.trans (Same.but (aG hp _)))
 rw [if_neg c0]
 by_cases c3:kd < 3
 ·rw [if_pos c3]
  refine qA W1 (by decide) (by decide) fun r1 H2 a1 b1 W2 B2=>?_
  walk_at "w0"
  refine ⟨⟨by decide,by decide,by decide⟩,?_⟩
  refine qA W2 (by decide) (by decide) fun r2 H3 a2 b2 W3 B3=>?_
  have b2':r2 < 1000000:=by first | exact b2 | simpa using b2
  refine ⟨sz8 (by decide),fun p hp=>?_⟩
  have S4:=aG hp (.lst [.int r1,.int r2])
  have np:=W3.ne hp
  refine qA (W3.same S4) (by decide) (by decide) fun r3 H5 a3 b3 W5 B5=>?_
  have e5:=B5 p _ np aB
  walk_at "w0"
  obtain ⟨v,hv,ev⟩:=oU (xs:=[.int r1,.int r2]) (i:=r3 / 2) (by omega) (by simp only [List.length_cons,List.length_nil]; omega)
  obtain ⟨nn,rfl,n0,n1⟩:∃ nn:Int,v=.int nn∧0≤nn∧nn < 1000000:=by
   simp only [List.mem_cons,List.not_mem_nil,or_false] at hv
   rcases hv with rfl | rfl
   ·exact ⟨r1,rfl,a1,by omega⟩
   ·exact ⟨r2,rfl,a2,b2'⟩
  refine ⟨⟨by decide,by decide⟩,ixl (SqL.of e5) ev ?_⟩
  refine ⟨sz8 (by decide),fun p6 h6=>?_⟩
  exact q (.ref p6) (.weight nn) _ (by rw [Tr.At]; exact ⟨p6,rfl,aB⟩) (by rw [Tr.ok]; exact ⟨n0,n1⟩) (by rw [Tr.dp]) (by rw [Tr.cnt]; decide) (W5.same (aG h6 _)) (B1.trans (B2.trans (B3.trans ((Same.but S4).trans (B5.trans (Same.but (aG h6 _)))))))
 rw [if_neg c3]
 refine ⟨wl,rfl,W1,fun u0 H2 g0 W2 B2=>?_⟩
 walk_at "w0"
 refine ⟨sz8 (by decide),fun pf hf=>?_⟩
 have nw:=W2.ne hf
 have S1:=aG hf (.lst [.str u0])
 have W3:=W2.same S1
 have e1:upd H2 pf (.lst [.str u0]) pf=some (.lst ([u0].map V.str)):=aB
 generalize upd H2 pf (.lst [.str u0])=H3 at *
 refine qA W3 (by omega) (by omega) fun r H4 a2 b2 W4 B4=>?_
 have e2:=B4 pf _ nw e1
 walk_at "w0"
 refine ⟨by omega,by omega,?_⟩
 refine ForR.by (fun i σ H'=>(∃ us:List Str,us.length≤i+1∧us≠[]∧(∀ u∈us,aZ u)∧us.Nodup∧H' pf=some (.lst (us.map V.str)))∧(∃ v8 v9,σ=[some (.ref wl),some (.int m),some (.int kd),some (.ref pf),v8,v9])∧Well3 H' wl∧But wl H2 H') ⟨⟨[u0],Nat.le_refl _,(by intro z; cases z),(fun u hu=>by rw [List.mem_singleton.mp hu]; exact g0),(by simp),e2⟩,⟨_,_,rfl⟩,W4,(Same.but S1).trans B4⟩ ?_ ?_
 ·rintro i σ H9 hi ⟨⟨us,ul,une,ug,un,ue⟩,⟨v8,v9,rfl⟩,W9,B9⟩
  walk_at "w0"
  refine ⟨wl,rfl,W9,fun u H3 g W3 B3=>?_⟩
  have ue3:=B3 pf _ nw ue
  walk_at "w0"
  refine ⟨pf,_,rfl,.inl (SqL.of ue3),rfl,rO us,?_⟩
  rw [pV]
  by_cases c:u∈us
  ·exists decide_eq_true c,Bool.not_true
   exact ⟨⟨us,by omega,une,ug,un,ue3⟩,W3,B9.trans B3⟩
  ·exists decide_eq_false c,Bool.not_false
   refine ⟨.inl ⟨rfl,_,SqL.of ue3⟩,pf,_,_,rfl,rfl,ue3,?_,?_⟩
   ·rw [List.length_map]
    exact Nat.lt_of_le_of_lt (by omega:us.length≤1000) (by decide)
   ·have W12:Well3 (upd H3 pf (.lst (us.map V.str++[.str u]))) wl:=by
     obtain ⟨x1,x2,x3,e⟩:=W3
     exact ⟨x1,x2,x3,by rw [aK (fun z=>nw z.symm)]; exact e⟩
    refine ⟨⟨us++[u],by rw [List.length_append,List.length_singleton]; omega,(by simp),fun y hy=>?_,?_,by rw [aB,List.map_append]; rfl⟩,W12,fun b o nb e=>?_⟩
    ·rcases List.mem_append.mp hy with z | z
     ·exact ug y z
     ·rw [List.mem_singleton.mp z]; exact g
    ·rw [List.nodup_append]
     exact ⟨un,by simp,fun x hx y hy e=>c (by rw [List.mem_singleton.mp hy] at e; rw [← e]; exact hx)⟩
    ·rw [aK (aO e hf)]
     exact B3 b o nb (B9 b o nb e)
 ·rintro σ H9 ⟨⟨us,ul,une,ug,un,ue⟩,⟨v8,v9,rfl⟩,W9,B9⟩
  walk_at "w0"
  refine ⟨sz8 (by decide),fun p1 h1=>?_⟩
  have T1:=aG h1 (.lst [.str "kind",.str "place"])
  have f1:upd H9 p1 (.lst [.str "kind",.str "place"]) p1=some (.lst [.str "kind",.str "place"]):=aB
  have ue1:=T1 _ _ ue
  generalize upd H9 p1 (.lst [.str "kind",.str "place"])=G1 at *
  refine ⟨by decide,?_⟩
  rcases (by omega:kd % 2=0∨kd % 2=1) with hk | hk
  ·rw [hk]
   refine ixl (SqL.of f1) (v:=.str "kind") rfl ?_
   walk_at "w0"
   refine ⟨_,.inl ⟨SqL.of ue1,fun p3 h3=>?_⟩⟩
   have T3:=aG h3 (.tup (us.map V.str))
   refine ⟨sz8 (by decide),fun p4 h4=>?_⟩
   have SS:=T1.trans (T3.trans (aG h4 (.tup [.str "kind",.ref p3])))
   refine q (.ref p4) (.kind us) _ (by rw [Tr.At]; exact ⟨p4,p3,rfl,aB,aG h4 _ _ _ aB⟩) (by rw [Tr.ok]; exact ⟨une,by omega,ug,un⟩) (by rw [Tr.dp]) (by rw [Tr.cnt]; omega) (W9.same SS) (B1.trans (B2.trans (B9.trans (Same.but SS))))
  ·rw [hk]
   refine ixl (SqL.of f1) (v:=.str "place") rfl ?_
   walk_at "w0"
   refine ⟨_,.inl ⟨SqL.of ue1,fun p3 h3=>?_⟩⟩
   have T3:=aG h3 (.tup (us.map V.str))
   refine ⟨sz8 (by decide),fun p4 h4=>?_⟩
   have SS:=T1.trans (T3.trans (aG h4 (.tup [.str "place",.ref p3])))
   refine q (.ref p4) (.place us) _ (by rw [Tr.At]; exact ⟨p4,p3,rfl,aB,aG h4 _ _ _ aB⟩) (by rw [Tr.ok]; exact ⟨une,by omega,ug,un⟩) (by rw [Tr.dp]) (by rw [Tr.cnt]; omega) (W9.same SS) (B1.trans (B2.trans (B9.trans (Same.but SS))))
theorem tU {d n:Nat}(hn:3≤n) (B:Bt K mg a) (C_law_next:CalX P w K mg base "_law_next" ["_law_state","_law_base"] 1 (dI K a)) (C_law_leaf:CalX P w K mg base "_law_leaf" ["_law_state","_law_more"] 3 (jD K a)) (C_law_tree:CalX P w K mg base "_law_tree" ["_law_state","_law_deep","_law_more"] n (eF K a d)) (F:Fun K "_law_tree" "_law_tree" fC f fd):FnOk P w K mg base CX0 (n+1) f fd ["_law_state","_law_deep","_law_more"] (eF K a (d+1)):=by
 refine F.ok sc_law_tree (fun vs H Q E h=>?_) (fun cdv A outer s H vs Q E hr h=>?_)
 ·obtain ⟨wl,i,m,hi,rfl,_⟩:=h
  rfl
 obtain ⟨wl,i,m,hi,rfl,W,i3,m0,m5,q⟩:=h
 refine ⟨_,(bA (aF (bF (i:=3) sc_law_tree.nd rfl (Or.inl rfl) (aW (aT C_law_next (hr.mono (by omega)) rfl (aJ (aN (pv 0) (aN aL aD))) (he:=aA _ _ _ rfl) (hpl:=aC rfl))) (by kernel_rfl)) (aF (bJ (L2.PW.pt (gX (aX cL (pv 1) aL (aY _)) (fS (aX vJ (pv 3) aL (aY _))))) (aI (aU (aW (aT C_law_leaf (hr.mono (by omega)) rfl (aJ (aN (pv 0) (aN (bE nN (pv 2) (bS lX rfl B.int PyProof.Rows.boot_int (aJ (aN (dD rT (pv 1) aL (aY _)) aD)))) aD))) (he:=aA _ _ _ rfl) (hpl:=aC rfl))))) aR) (aF (bJ (aX cL (pv 3) aL (aY _)) (aI (aU (aW (jJ (aJ (aN aM (aN (aT C_law_tree (hr.mono (by omega)) rfl (aJ (aN (pv 0) (aN (bE wO (pv 1) aL) (aN (pv 2) aD)))) (he:=aA _ _ _ rfl) (hpl:=aC rfl)) aD))))))) aR) (aF (cN (AC3 (i:=4) ["_law_k","_law_state","_law_more","_law_deep"] [none,some 0,some 2,some 1] rfl (by kernel_rfl) sc_law_tree.nd rfl rfl (gY rfl B.range (aJ (aN (bE gZ aL (bS lX rfl B.int PyProof.Rows.boot_int (aJ (aN (lW (dD rT (pv 1) aL (aY _)) (lV (dD rT (pv 3) aL (aY _)))) aD)))) aD))) (fun cl C s H fp=>⟨(dC (i:=0) (by decide:List.Nodup (["_law_k","_law_state","_law_more","_law_deep"]:List Str)) rfl (Or.inl (by kernel_rfl)) (Or.inr (by kernel_rfl))),fK,(aT C_law_tree (hr.mono (by omega)) (mI (by kernel_rfl)) (aJ (aN (pv 1 (hv:=Or.inr (Or.inl (by kernel_rfl)))) (aN (bE wO (pv 3 (hv:=Or.inr (Or.inl (by kernel_rfl)))) aL) (aN (pv 2 (hv:=Or.inr (Or.inl (by kernel_rfl)))) aD)))) (he:=aA _ _ _ rfl) (hpl:=aC rfl))⟩))) (aI (aU (aW (jJ (aJ (aN (bM cV (hU (aJ (aN aM (aN aM aD)))) (bE iP (pv 3) aL) (fun _ _=>rfl)) (aN (bS jK rfl B.tuple PyProof.Rows.boot_tuple (aJ (aN (pv 4) aD))) aD)))))))))))),?_⟩
 walk_at "w0"
 refine qA W (by decide) (by decide) fun kd H1 k0 k1 W1 B1=>?_
 walk_at "w0"
 by_cases c0:(i:Int)=0
 ·rw [if_pos c0]
  refine ⟨.inl ⟨by omega,by omega⟩,wl,_,rfl,W1,?_,?_,fun v t H' hA ho hd hc W' B'=>?_⟩
  ·split <;> omega
  ·split <;> omega
  have p3:1≤3 ^ i:=Nat.one_le_pow _ _ (by decide)
  exact q v t H' hA ho (by omega) (by omega) W' (B1.trans B')
 rw [if_neg c0]
 by_cases c3:kd < 3
 ·rw [if_pos c3]
  refine ⟨.inl ⟨by omega,by omega⟩,wl,_,rfl,W1,?_,?_,fun v t H' hA ho hd hc W' B'=>?_⟩
  ·split <;> omega
  ·split <;> omega
  have p3:1≤3 ^ i:=Nat.one_le_pow _ _ (by decide)
  exact q v t H' hA ho (by omega) (by omega) W' (B1.trans B')
 rw [if_neg c3]
 obtain ⟨j,rfl⟩:∃ j,i=j+1:=⟨i - 1,by omega⟩
 by_cases c4:kd=3
 ·rw [if_pos c4]
  refine ⟨wl,j,m,by omega,by rw [show ((j+1:Nat):Int) - 1=(j:Int) by omega],W1,by omega,m0,m5,fun v t H' hA ho hd hc W' B'=>?_⟩
  refine ⟨sz8 (by decide),fun p hp=>?_⟩
  have S':=aG hp (.tup [.str "not",v])
  exact q (.ref p) (.not t) _ (by rw [Tr.At]; exact ⟨p,v,rfl,aB,hA.same S'⟩) (by rw [Tr.ok]; exact ho) (by rw [Tr.dp]; omega) (by rw [Tr.cnt,Nat.pow_succ]; omega) (W'.same S') (B1.trans (B'.trans (Same.but S')))
 rw [if_neg c4]
 by_cases c5:(2:Int) < ((j+1:Nat):Int)
 ·rw [if_pos c5]
  by_cases c6:5 < kd
  ·rw [if_pos c6]
   refine ⟨by decide,by decide,?_⟩
   refine CompR.by (n:=3) (fun i' acc σ H'=>∃ ts:List Tr,All2 (Tr.At H') ts acc∧ts.length=i'∧(∀ t∈ts,t.ok∧t.dp≤j∧t.cnt≤3 * 3 ^ j)∧(∃ v,σ=[v,some (.ref wl),some (.int m),some (.int ((j+1:Nat):Int))])∧Well3 H' wl∧But wl H1 H') (sz8 (by decide)) ⟨[],.nil,rfl,(fun t ht=>absurd ht List.not_mem_nil),⟨_,rfl⟩,W1,But.refl _ _⟩ ?_ ?_ ?_
   ·rintro i' acc σ H' hi' ⟨ts,hA,hl,ht,⟨v,rfl⟩,W',B'⟩
    walk_at "w0"
    refine ⟨wl,j,m,by omega,by rw [show ((j+1:Nat):Int) - 1=(j:Int) by omega],W',by omega,m0,m5,fun v2 t2 H2 hA2 ho2 hd2 hc2 W2 B2=>?_⟩
    have new:∃ ts:List Tr,All2 (Tr.At H2) ts (acc++[v2])∧ts.length=i'+1∧(∀ t∈ts,t.ok∧t.dp≤j∧t.cnt≤3 * 3 ^ j):=⟨ts++[t2],(hA.imp fun t y _ h=>h.but3 W' B2).snoc hA2,by rw [List.length_append,hl]; rfl,fun t m2=>by
     rcases List.mem_append.mp m2 with m2 | m2
     ·exact ht t m2
     ·rw [List.mem_singleton.mp m2]; exact ⟨ho2,hd2,hc2⟩⟩
    obtain ⟨ts2,n1,n2,n3⟩:=new
    first | exact ⟨ts2,n1,n2,n3,⟨_,rfl⟩,W2,B'.trans B2⟩ | exact ⟨ts2,n1,n2,n3,W2,B'.trans B2⟩
   ·rintro i' acc σ H' ⟨ts,hA,hl,_⟩
    rw [← hA.len]
    omega
   rintro acc σ H2 ⟨ts,hA,hl,ht,⟨v,rfl⟩,W2,B2⟩ pl hpl
   have T0:=aG hpl (.lst acc)
   have e0:upd H2 pl (.lst acc) pl=some (.lst acc):=aB
   generalize upd H2 pl (.lst acc)=G0 at *
   walk_at "w0"
   refine ⟨sz8 (by decide),fun p1 h1=>?_⟩
   have T1:=aG h1 (.lst [.str "both",.str "either"])
   have f1:upd G0 p1 (.lst [.str "both",.str "either"]) p1=some (.lst [.str "both",.str "either"]):=aB
   have e1:=T1 _ _ e0
   generalize upd G0 p1 (.lst [.str "both",.str "either"])=G1 at *
   refine ⟨by decide,?_⟩
   have okT:2≤(Trs.ofL ts).toL.length∧(Trs.ofL ts).toL.length≤6∧(Trs.ofL ts).ok:=by
    rw [bU]
    exact ⟨by omega,by omega,trs_ok.mpr (by rw [bU]; exact fun t h=>(ht t h).1)⟩
   have dpT:(Trs.ofL ts).dp≤j:=jR (by rw [bU]; exact fun t h=>(ht t h).2.1)
   have cnT:(Trs.ofL ts).cnt≤3 * 3 ^ (j+1):=by
    have h:=pD (n:=3 * 3 ^ j) (ts:=Trs.ofL ts) (by rw [bU]; exact fun t h=>(ht t h).2.2)
    rw [bU,hl] at h
    refine Nat.le_trans h ?_
    rw [Nat.pow_succ,← Nat.mul_assoc]
    exact Nat.mul_le_mul_left _ (by decide)
   rcases (by omega:kd % 2=0∨kd % 2=1) with hk | hk
   ·rw [hk]
    refine ixl (SqL.of f1) (v:=.str "both") rfl ?_
    walk_at "w0"
    refine ⟨_,.inl ⟨SqL.of e1,fun p3 h3=>?_⟩⟩
    have T3:=aG h3 (.tup acc)
    refine ⟨sz8 (by decide),fun p4 h4=>?_⟩
    have SS:=T0.trans (T1.trans (T3.trans (aG h4 (.tup [.str "both",.ref p3]))))
    exact q (.ref p4) (.both (Trs.ofL ts)) _ (by rw [Tr.At]; exact ⟨p4,p3,acc,rfl,aB,aG h4 _ _ _ aB,trs_at.mpr (by rw [bU]; exact hA.imp fun t y _ h=>h.same SS)⟩) (by rw [Tr.ok]; exact okT) (by rw [Tr.dp]; omega) (by rw [Tr.cnt]; exact cnT) (W2.same SS) (B1.trans (B2.trans (Same.but SS)))
   ·rw [hk]
    refine ixl (SqL.of f1) (v:=.str "either") rfl ?_
    walk_at "w0"
    refine ⟨_,.inl ⟨SqL.of e1,fun p3 h3=>?_⟩⟩
    have T3:=aG h3 (.tup acc)
    refine ⟨sz8 (by decide),fun p4 h4=>?_⟩
    have SS:=T0.trans (T1.trans (T3.trans (aG h4 (.tup [.str "either",.ref p3]))))
    exact q (.ref p4) (.either (Trs.ofL ts)) _ (by rw [Tr.At]; exact ⟨p4,p3,acc,rfl,aB,aG h4 _ _ _ aB,trs_at.mpr (by rw [bU]; exact hA.imp fun t y _ h=>h.same SS)⟩) (by rw [Tr.ok]; exact okT) (by rw [Tr.dp]; omega) (by rw [Tr.cnt]; exact cnT) (W2.same SS) (B1.trans (B2.trans (Same.but SS)))
  ·rw [if_neg c6]
   refine ⟨by decide,by decide,?_⟩
   refine CompR.by (n:=2) (fun i' acc σ H'=>∃ ts:List Tr,All2 (Tr.At H') ts acc∧ts.length=i'∧(∀ t∈ts,t.ok∧t.dp≤j∧t.cnt≤3 * 3 ^ j)∧(∃ v,σ=[v,some (.ref wl),some (.int m),some (.int ((j+1:Nat):Int))])∧Well3 H' wl∧But wl H1 H') (sz8 (by decide)) ⟨[],.nil,rfl,(fun t ht=>absurd ht List.not_mem_nil),⟨_,rfl⟩,W1,But.refl _ _⟩ ?_ ?_ ?_
   ·rintro i' acc σ H' hi' ⟨ts,hA,hl,ht,⟨v,rfl⟩,W',B'⟩
    walk_at "w0"
    refine ⟨wl,j,m,by omega,by rw [show ((j+1:Nat):Int) - 1=(j:Int) by omega],W',by omega,m0,m5,fun v2 t2 H2 hA2 ho2 hd2 hc2 W2 B2=>?_⟩
    have new:∃ ts:List Tr,All2 (Tr.At H2) ts (acc++[v2])∧ts.length=i'+1∧(∀ t∈ts,t.ok∧t.dp≤j∧t.cnt≤3 * 3 ^ j):=⟨ts++[t2],(hA.imp fun t y _ h=>h.but3 W' B2).snoc hA2,by rw [List.length_append,hl]; rfl,fun t m2=>by
     rcases List.mem_append.mp m2 with m2 | m2
     ·exact ht t m2
     ·rw [List.mem_singleton.mp m2]; exact ⟨ho2,hd2,hc2⟩⟩
    obtain ⟨ts2,n1,n2,n3⟩:=new
    first | exact ⟨ts2,n1,n2,n3,⟨_,rfl⟩,W2,B'.trans B2⟩ | exact ⟨ts2,n1,n2,n3,W2,B'.trans B2⟩
   ·rintro i' acc σ H' ⟨ts,hA,hl,_⟩
    rw [← hA.len]
    omega
   rintro acc σ H2 ⟨ts,hA,hl,ht,⟨v,rfl⟩,W2,B2⟩ pl hpl
   have T0:=aG hpl (.lst acc)
   have e0:upd H2 pl (.lst acc) pl=some (.lst acc):=aB
   generalize upd H2 pl (.lst acc)=G0 at *
   walk_at "w0"
   refine ⟨sz8 (by decide),fun p1 h1=>?_⟩
   have T1:=aG h1 (.lst [.str "both",.str "either"])
   have f1:upd G0 p1 (.lst [.str "both",.str "either"]) p1=some (.lst [.str "both",.str "either"]):=aB
   have e1:=T1 _ _ e0
   generalize upd G0 p1 (.lst [.str "both",.str "either"])=G1 at *
   refine ⟨by decide,?_⟩
   have okT:2≤(Trs.ofL ts).toL.length∧(Trs.ofL ts).toL.length≤6∧(Trs.ofL ts).ok:=by
    rw [bU]
    exact ⟨by omega,by omega,trs_ok.mpr (by rw [bU]; exact fun t h=>(ht t h).1)⟩
   have dpT:(Trs.ofL ts).dp≤j:=jR (by rw [bU]; exact fun t h=>(ht t h).2.1)
   have cnT:(Trs.ofL ts).cnt≤3 * 3 ^ (j+1):=by
    have h:=pD (n:=3 * 3 ^ j) (ts:=Trs.ofL ts) (by rw [bU]; exact fun t h=>(ht t h).2.2)
    rw [bU,hl] at h
    refine Nat.le_trans h ?_
    rw [Nat.pow_succ,← Nat.mul_assoc]
    exact Nat.mul_le_mul_left _ (by decide)
   rcases (by omega:kd % 2=0∨kd % 2=1) with hk | hk
   ·rw [hk]
    refine ixl (SqL.of f1) (v:=.str "both") rfl ?_
    walk_at "w0"
    refine ⟨_,.inl ⟨SqL.of e1,fun p3 h3=>?_⟩⟩
    have T3:=aG h3 (.tup acc)
    refine ⟨sz8 (by decide),fun p4 h4=>?_⟩
    have SS:=T0.trans (T1.trans (T3.trans (aG h4 (.tup [.str "both",.ref p3]))))
    exact q (.ref p4) (.both (Trs.ofL ts)) _ (by rw [Tr.At]; exact ⟨p4,p3,acc,rfl,aB,aG h4 _ _ _ aB,trs_at.mpr (by rw [bU]; exact hA.imp fun t y _ h=>h.same SS)⟩) (by rw [Tr.ok]; exact okT) (by rw [Tr.dp]; omega) (by rw [Tr.cnt]; exact cnT) (W2.same SS) (B1.trans (B2.trans (Same.but SS)))
   ·rw [hk]
    refine ixl (SqL.of f1) (v:=.str "either") rfl ?_
    walk_at "w0"
    refine ⟨_,.inl ⟨SqL.of e1,fun p3 h3=>?_⟩⟩
    have T3:=aG h3 (.tup acc)
    refine ⟨sz8 (by decide),fun p4 h4=>?_⟩
    have SS:=T0.trans (T1.trans (T3.trans (aG h4 (.tup [.str "either",.ref p3]))))
    exact q (.ref p4) (.either (Trs.ofL ts)) _ (by rw [Tr.At]; exact ⟨p4,p3,acc,rfl,aB,aG h4 _ _ _ aB,trs_at.mpr (by rw [bU]; exact hA.imp fun t y _ h=>h.same SS)⟩) (by rw [Tr.ok]; exact okT) (by rw [Tr.dp]; omega) (by rw [Tr.cnt]; exact cnT) (W2.same SS) (B1.trans (B2.trans (Same.but SS)))
 ·rw [if_neg c5]
  first | refine ⟨by decide,by decide,?_⟩ | (walk_at "w0"; refine ⟨by decide,by decide,?_⟩)
  refine CompR.by (n:=2) (fun i' acc σ H'=>∃ ts:List Tr,All2 (Tr.At H') ts acc∧ts.length=i'∧(∀ t∈ts,t.ok∧t.dp≤j∧t.cnt≤3 * 3 ^ j)∧(∃ v,σ=[v,some (.ref wl),some (.int m),some (.int ((j+1:Nat):Int))])∧Well3 H' wl∧But wl H1 H') (sz8 (by decide)) ⟨[],.nil,rfl,(fun t ht=>absurd ht List.not_mem_nil),⟨_,rfl⟩,W1,But.refl _ _⟩ ?_ ?_ ?_
  ·rintro i' acc σ H' hi' ⟨ts,hA,hl,ht,⟨v,rfl⟩,W',B'⟩
   walk_at "w0"
   refine ⟨wl,j,m,by omega,by rw [show ((j+1:Nat):Int) - 1=(j:Int) by omega],W',by omega,m0,m5,fun v2 t2 H2 hA2 ho2 hd2 hc2 W2 B2=>?_⟩
   have new:∃ ts:List Tr,All2 (Tr.At H2) ts (acc++[v2])∧ts.length=i'+1∧(∀ t∈ts,t.ok∧t.dp≤j∧t.cnt≤3 * 3 ^ j):=⟨ts++[t2],(hA.imp fun t y _ h=>h.but3 W' B2).snoc hA2,by rw [List.length_append,hl]; rfl,fun t m2=>by
    rcases List.mem_append.mp m2 with m2 | m2
    ·exact ht t m2
    ·rw [List.mem_singleton.mp m2]; exact ⟨ho2,hd2,hc2⟩⟩
   obtain ⟨ts2,n1,n2,n3⟩:=new
   first | exact ⟨ts2,n1,n2,n3,⟨_,rfl⟩,W2,B'.trans B2⟩ | exact ⟨ts2,n1,n2,n3,W2,B'.trans B2⟩
  ·rintro i' acc σ H' ⟨ts,hA,hl,_⟩
   rw [← hA.len]
   omega
  rintro acc σ H2 ⟨ts,hA,hl,ht,⟨v,rfl⟩,W2,B2⟩ pl hpl
  have T0:=aG hpl (.lst acc)
  have e0:upd H2 pl (.lst acc) pl=some (.lst acc):=aB
  generalize upd H2 pl (.lst acc)=G0 at *
  walk_at "w0"
  refine ⟨sz8 (by decide),fun p1 h1=>?_⟩
  have T1:=aG h1 (.lst [.str "both",.str "either"])
  have f1:upd G0 p1 (.lst [.str "both",.str "either"]) p1=some (.lst [.str "both",.str "either"]):=aB
  have e1:=T1 _ _ e0
  generalize upd G0 p1 (.lst [.str "both",.str "either"])=G1 at *
  refine ⟨by decide,?_⟩
  have okT:2≤(Trs.ofL ts).toL.length∧(Trs.ofL ts).toL.length≤6∧(Trs.ofL ts).ok:=by
   rw [bU]
   exact ⟨by omega,by omega,trs_ok.mpr (by rw [bU]; exact fun t h=>(ht t h).1)⟩
  have dpT:(Trs.ofL ts).dp≤j:=jR (by rw [bU]; exact fun t h=>(ht t h).2.1)
  have cnT:(Trs.ofL ts).cnt≤3 * 3 ^ (j+1):=by
   have h:=pD (n:=3 * 3 ^ j) (ts:=Trs.ofL ts) (by rw [bU]; exact fun t h=>(ht t h).2.2)
   rw [bU,hl] at h
   refine Nat.le_trans h ?_
   rw [Nat.pow_succ,← Nat.mul_assoc]
   exact Nat.mul_le_mul_left _ (by decide)
  rcases (by omega:kd % 2=0∨kd % 2=1) with hk | hk
  ·rw [hk]
   refine ixl (SqL.of f1) (v:=.str "both") rfl ?_
   walk_at "w0"
   refine ⟨_,.inl ⟨SqL.of e1,fun p3 h3=>?_⟩⟩
   have T3:=aG h3 (.tup acc)
   refine ⟨sz8 (by decide),fun p4 h4=>?_⟩
   have SS:=T0.trans (T1.trans (T3.trans (aG h4 (.tup [.str "both",.ref p3]))))
   exact q (.ref p4) (.both (Trs.ofL ts)) _ (by rw [Tr.At]; exact ⟨p4,p3,acc,rfl,aB,aG h4 _ _ _ aB,trs_at.mpr (by rw [bU]; exact hA.imp fun t y _ h=>h.same SS)⟩) (by rw [Tr.ok]; exact okT) (by rw [Tr.dp]; omega) (by rw [Tr.cnt]; exact cnT) (W2.same SS) (B1.trans (B2.trans (Same.but SS)))
  ·rw [hk]
   refine ixl (SqL.of f1) (v:=.str "either") rfl ?_
   walk_at "w0"
   refine ⟨_,.inl ⟨SqL.of e1,fun p3 h3=>?_⟩⟩
   have T3:=aG h3 (.tup acc)
   refine ⟨sz8 (by decide),fun p4 h4=>?_⟩
   have SS:=T0.trans (T1.trans (T3.trans (aG h4 (.tup [.str "either",.ref p3]))))
   exact q (.ref p4) (.either (Trs.ofL ts)) _ (by rw [Tr.At]; exact ⟨p4,p3,acc,rfl,aB,aG h4 _ _ _ aB,trs_at.mpr (by rw [bU]; exact hA.imp fun t y _ h=>h.same SS)⟩) (by rw [Tr.ok]; exact okT) (by rw [Tr.dp]; omega) (by rw [Tr.cnt]; exact cnT) (W2.same SS) (B1.trans (B2.trans (Same.but SS)))
theorem tV {d n:Nat}(hn:5≤n) (B:Bt K mg a) (CC_Either:CalC P w K mg base "Either" a.Either ["self","fits"] 3 (cU K a)) (CC_Kind:CalC P w K mg base "Kind" a.Kind ["self","names"] 4 (dG K a)) (CC_Place:CalC P w K mg base "Place" a.Place ["self","names"] 4 (dA K a)) (CC_Least:CalC P w K mg base "Least" a.Least ["self","weight"] 3 (dB K a)) (CC_Not:CalC P w K mg base "Not" a.Not ["self","fit"] 2 (dU K a)) (CC_Both:CalC P w K mg base "Both" a.Both ["self","fits"] 3 (dH K a)) (C_law_made:CalX P w K mg base "_law_made" ["_law_tree_here"] n (eG K a d)) (F:Fun K "_law_made" "_law_made" fD f fd):FnOk P w K mg base CX0 (n+1) f fd ["_law_tree_here"] (eG K a (d+1)):=by
 refine F.ok tI (fun vs H Q E h=>?_) (fun cdv A outer s H vs Q E hr h=>?_)
 ·obtain ⟨v,t,hd0,rfl,_⟩:=h
  rfl
 obtain ⟨v,t,hd0,rfl,hA,ho,q⟩:=h
 refine ⟨_,(bA (aF (bJ (aX cL (bM bO (pv 0) aL (fun _ _=>rfl)) aM (aY _)) (aI (aU (aW (yE B.mk_Any rfl B.Any)))) aR) (aF (bJ (aX cL (bM bO (pv 0) aL (fun _ _=>rfl)) aM (aY _)) (aI (aU (aW (fT CC_Kind hZ (hr.mono (by omega)) rfl (aJ (aN (bS cW rfl B.list PyProof.Rows.boot_list (aJ (aN (bM bO (pv 0) aL (fun _ _=>rfl)) aD))) aD)) (he:=aA _ _ _ rfl) (hpl:=aC rfl))))) aR) (aF (bJ (aX cL (bM bO (pv 0) aL (fun _ _=>rfl)) aM (aY _)) (aI (aU (aW (fT CC_Place hZ (hr.mono (by omega)) rfl (aJ (aN (bS cW rfl B.list PyProof.Rows.boot_list (aJ (aN (bM bO (pv 0) aL (fun _ _=>rfl)) aD))) aD)) (he:=aA _ _ _ rfl) (hpl:=aC rfl))))) aR) (aF (bJ (aX cL (bM bO (pv 0) aL (fun _ _=>rfl)) aM (aY _)) (aI (aU (aW (fT CC_Least hZ (hr.mono (by omega)) rfl (aJ (aN (bM bO (pv 0) aL (fun _ _=>rfl)) aD)) (he:=aA _ _ _ rfl) (hpl:=aC rfl))))) aR) (aF (bJ (aX cL (bM bO (pv 0) aL (fun _ _=>rfl)) aM (aY _)) (aI (aU (aW (fT CC_Not hZ (hr.mono (by omega)) rfl (aJ (aN (aT C_law_made (hr.mono (by omega)) rfl (aJ (aN (bM bO (pv 0) aL (fun _ _=>rfl)) aD)) (he:=aA _ _ _ rfl) (hpl:=aC rfl)) aD)) (he:=aA _ _ _ rfl) (hpl:=aC rfl))))) aR) (aF (bJ (aX cL (bM bO (pv 0) aL (fun _ _=>rfl)) aM (aY _)) (aI (aU (aW (fT CC_Both hZ (hr.mono (by omega)) rfl (aJ (aN (dQ ["_law_part"] [none] rfl (by kernel_rfl) (wM (bM bO (pv 0) aL (fun _ _=>rfl))) (fun cl C s H fp=>⟨(dC (i:=0) (by decide:List.Nodup (["_law_part"]:List Str)) rfl (Or.inl (by kernel_rfl)) (Or.inr (by kernel_rfl))),fK,(aT C_law_made (hr.mono (by omega)) (mI (by kernel_rfl)) (aJ (aN (pv 0 (hv:=Or.inl (by kernel_rfl))) aD)) (he:=aA _ _ _ rfl) (hpl:=aC rfl))⟩)) aD)) (he:=aA _ _ _ rfl) (hpl:=aC rfl))))) aR) (aI (aU (aW (fT CC_Either hZ (hr.mono (by omega)) rfl (aJ (aN (dQ ["_law_part"] [none] rfl (by kernel_rfl) (wM (bM bO (pv 0) aL (fun _ _=>rfl))) (fun cl C s H fp=>⟨(dC (i:=0) (by decide:List.Nodup (["_law_part"]:List Str)) rfl (Or.inl (by kernel_rfl)) (Or.inr (by kernel_rfl))),fK,(aT C_law_made (hr.mono (by omega)) (mI (by kernel_rfl)) (aJ (aN (pv 0 (hv:=Or.inl (by kernel_rfl))) aD)) (he:=aA _ _ _ rfl) (hpl:=aC rfl))⟩)) aD)) (he:=aA _ _ _ rfl) (hpl:=aC rfl)))))))))))),?_⟩
 cases t with
 | any =>
  rw [Tr.At] at hA
  obtain ⟨p,rfl,hp⟩:=hA
  walk_at "w0"
  refine ixt (SqT.of hp) (v:=.str "any") rfl ?_
  walk_at "w0"
  intro x dx hx hd ne
  exact q (.ref x) _ (bI hx hd) (by rw [Tr.Fit]; exact ⟨x,dx,rfl,aB⟩)
 | kind us =>
  rw [Tr.At] at hA
  obtain ⟨p,l0,rfl,hp,hl⟩:=hA
  walk_at "w0"
  refine ixt (SqT.of hp) (v:=.str "kind") rfl ?_
  walk_at "w0"
  rw [if_neg (by decide)]
  refine ixt (SqT.of hp) (v:=.str "kind") rfl ?_
  walk_at "w0"
  rw [Tr.ok] at ho
  refine ixt (SqT.of hp) (v:=.ref l0) rfl ?_
  walk_at "w0"
  refine ⟨_,.inr (SqT.of hl),fun l2 h2=>?_⟩
  have S2:=aG h2 (.lst (us.map V.str))
  intro x dx hx hd ne
  have M:=bI (o:=.own x) (o':=.ins a.Kind dx []) hx hd
  refine ⟨x,dx,l2,us,rfl,aB,M _ _ aB,⟨ho.2.2.1,by have:=ho.2.1; omega⟩,.inl ⟨⟨ho.1,ho.2.2.2⟩,fun l3 H' Bx _ e1 e2=>?_⟩⟩
  walk_at "w0"
  exact q (.ref x) _ (S2.trans (dF hx hd Bx)) (by rw [Tr.Fit]; exact ⟨x,dx,l3,rfl,e2,e1⟩)
 | place us =>
  rw [Tr.At] at hA
  obtain ⟨p,l0,rfl,hp,hl⟩:=hA
  walk_at "w0"
  refine ixt (SqT.of hp) (v:=.str "place") rfl ?_
  walk_at "w0"
  rw [if_neg (by decide)]
  refine ixt (SqT.of hp) (v:=.str "place") rfl ?_
  walk_at "w0"
  rw [if_neg (by decide)]
  refine ixt (SqT.of hp) (v:=.str "place") rfl ?_
  walk_at "w0"
  rw [Tr.ok] at ho
  refine ixt (SqT.of hp) (v:=.ref l0) rfl ?_
  walk_at "w0"
  refine ⟨_,.inr (SqT.of hl),fun l2 h2=>?_⟩
  have S2:=aG h2 (.lst (us.map V.str))
  intro x dx hx hd ne
  have M:=bI (o:=.own x) (o':=.ins a.Place dx []) hx hd
  refine ⟨x,dx,l2,us,rfl,aB,M _ _ aB,⟨ho.2.2.1,by have:=ho.2.1; omega⟩,.inl ⟨⟨ho.1,ho.2.2.2⟩,fun l3 H' Bx _ e1 e2=>?_⟩⟩
  walk_at "w0"
  exact q (.ref x) _ (S2.trans (dF hx hd Bx)) (by rw [Tr.Fit]; exact ⟨x,dx,l3,rfl,e2,e1⟩)
 | weight n =>
  rw [Tr.At] at hA
  obtain ⟨p,rfl,hp⟩:=hA
  walk_at "w0"
  refine ixt (SqT.of hp) (v:=.str "weight") rfl ?_
  walk_at "w0"
  rw [if_neg (by decide)]
  refine ixt (SqT.of hp) (v:=.str "weight") rfl ?_
  walk_at "w0"
  rw [if_neg (by decide)]
  refine ixt (SqT.of hp) (v:=.str "weight") rfl ?_
  walk_at "w0"
  rw [if_neg (by decide)]
  refine ixt (SqT.of hp) (v:=.str "weight") rfl ?_
  walk_at "w0"
  rw [Tr.ok] at ho
  refine ixt (SqT.of hp) (v:=.int n) rfl ?_
  walk_at "w0"
  intro x dx hx hd ne
  refine ⟨x,dx,n,rfl,aB,.inl ⟨ho.1,?_⟩⟩
  walk_at "w0"
  exact q (.ref x) _ (fun b o e=>by rw [aK (aO e hx)]; exact bI hx hd b o e) (by rw [Tr.Fit]; exact ⟨x,dx,rfl,aB⟩)
 | not t =>
  rw [Tr.At] at hA
  obtain ⟨p,y,rfl,hp,hy⟩:=hA
  walk_at "w0"
  refine ixt (SqT.of hp) (v:=.str "not") rfl ?_
  walk_at "w0"
  rw [if_neg (by decide)]
  refine ixt (SqT.of hp) (v:=.str "not") rfl ?_
  walk_at "w0"
  rw [if_neg (by decide)]
  refine ixt (SqT.of hp) (v:=.str "not") rfl ?_
  walk_at "w0"
  rw [if_neg (by decide)]
  refine ixt (SqT.of hp) (v:=.str "not") rfl ?_
  walk_at "w0"
  rw [if_neg (by decide)]
  refine ixt (SqT.of hp) (v:=.str "not") rfl ?_
  walk_at "w0"
  rw [Tr.ok] at ho
  rw [Tr.dp] at hd0
  refine ixt (SqT.of hp) (v:=y) rfl ?_
  walk_at "w0"
  refine ⟨y,t,by omega,rfl,hy,ho,fun v' H' S' hf=>?_⟩
  walk_at "w0"
  intro x dx hx hd ne
  have M:=bI (o:=.own x) (o':=.ins a.Not dx []) hx hd
  refine ⟨x,dx,v',t,rfl,aB,hf.same M,?_⟩
  walk_at "w0"
  have SS:Same H' (upd (upd (upd H' dx (.own x)) x (.ins a.Not dx [])) x (.ins a.Not dx [("fit",v')])):=fun b o e=>by rw [aK (aO e hx)]; exact M b o e
  exact q (.ref x) _ (S'.trans SS) (by rw [Tr.Fit]; exact ⟨x,dx,v',rfl,aB,hf.same SS⟩)
 | both ts =>
  rw [Tr.At] at hA
  obtain ⟨p,l0,xs,rfl,hp,hl,hs⟩:=hA
  walk_at "w0"
  refine ixt (SqT.of hp) (v:=.str "both") rfl ?_
  walk_at "w0"
  rw [if_neg (by decide)]
  refine ixt (SqT.of hp) (v:=.str "both") rfl ?_
  walk_at "w0"
  rw [if_neg (by decide)]
  refine ixt (SqT.of hp) (v:=.str "both") rfl ?_
  walk_at "w0"
  rw [if_neg (by decide)]
  refine ixt (SqT.of hp) (v:=.str "both") rfl ?_
  walk_at "w0"
  rw [if_neg (by decide)]
  refine ixt (SqT.of hp) (v:=.str "both") rfl ?_
  walk_at "w0"
  rw [if_neg (by decide)]
  refine ixt (SqT.of hp) (v:=.str "both") rfl ?_
  walk_at "w0"
  rw [Tr.ok] at ho
  rw [Tr.dp] at hd0
  obtain ⟨l2,l6,ho⟩:=ho
  have hA:=trs_at.mp hs
  have ln6:=hA.len
  refine ixt (SqT.of hp) (v:=.ref l0) rfl ?_
  walk_at "w0"
  refine ⟨⟨xs,SqT.of hl⟩,?_⟩
  refine CompT.by (xs:=xs) (fun i acc σ H'=>All2 (Tr.Fit (fc a) H') (ts.toL.take i) acc∧(∃ v,σ=[v])∧Same H H') (sz8 (by omega)) ⟨.nil,⟨_,rfl⟩,fun _ _ z=>z⟩ (fun i acc σ H' _ h=>SqT.of (h.2.2 _ _ hl)) ?_ ?_ ?_
  ·rintro i y acc σ H' hy ⟨hF,⟨v,rfl⟩,S1⟩
   obtain ⟨t,e,ht⟩:=hA.get hy
   have mt:=List.mem_of_getElem? e
   have dt:=jQ mt
   walk_at "w0"
   refine ⟨y,t,by omega,rfl,ht.same S1,trs_ok.mp ho t mt,fun v' H2 S2 hf=>?_⟩
   have new:All2 (Tr.Fit (fc a) H2) (ts.toL.take (i+1)) (acc++[v']):=by
    rw [List.take_succ,e]
    exact (hF.imp fun t y _ h=>h.same S2).snoc hf
   first | exact ⟨new,⟨_,rfl⟩,S1.trans S2⟩ | exact ⟨new,S1.trans S2⟩
  ·rintro i acc σ H' ⟨hF,_,_⟩
   rw [← hF.len,List.length_take]
   omega
  rintro acc σ H' ⟨hF,⟨v,rfl⟩,S1⟩ D hD
  rw [← ln6,List.take_length] at hF
  have la:=hF.len
  have S2:=aG hD (.lst acc)
  intro x dx hx hd ne
  have M:=bI (o:=.own x) (o':=.ins a.Both dx []) hx hd
  refine ⟨x,dx,D,acc,ts.toL,rfl,aB,M _ _ aB,hF.imp (fun t y _ h=>(h.same S2).same M),by omega,by omega,fun l3 H3 Bx _ e1 e2=>?_⟩
  walk_at "w0"
  have SS:=S2.trans (dF hx hd Bx)
  exact q (.ref x) _ (S1.trans SS) (by rw [Tr.Fit]; exact ⟨x,dx,l3,acc,rfl,e2,e1,trs_fit.mpr (hF.imp fun t y _ h=>h.same SS)⟩)
 | either ts =>
  rw [Tr.At] at hA
  obtain ⟨p,l0,xs,rfl,hp,hl,hs⟩:=hA
  walk_at "w0"
  refine ixt (SqT.of hp) (v:=.str "either") rfl ?_
  walk_at "w0"
  rw [if_neg (by decide)]
  refine ixt (SqT.of hp) (v:=.str "either") rfl ?_
  walk_at "w0"
  rw [if_neg (by decide)]
  refine ixt (SqT.of hp) (v:=.str "either") rfl ?_
  walk_at "w0"
  rw [if_neg (by decide)]
  refine ixt (SqT.of hp) (v:=.str "either") rfl ?_
  walk_at "w0"
  rw [if_neg (by decide)]
  refine ixt (SqT.of hp) (v:=.str "either") rfl ?_
  walk_at "w0"
  rw [if_neg (by decide)]
  refine ixt (SqT.of hp) (v:=.str "either") rfl ?_
  walk_at "w0"
  rw [if_neg (by decide)]
  rw [Tr.ok] at ho
  rw [Tr.dp] at hd0
  obtain ⟨l2,l6,ho⟩:=ho
  have hA:=trs_at.mp hs
  have ln6:=hA.len
  refine ixt (SqT.of hp) (v:=.ref l0) rfl ?_
  walk_at "w0"
  refine ⟨⟨xs,SqT.of hl⟩,?_⟩
  refine CompT.by (xs:=xs) (fun i acc σ H'=>All2 (Tr.Fit (fc a) H') (ts.toL.take i) acc∧(∃ v,σ=[v])∧Same H H') (sz8 (by omega)) ⟨.nil,⟨_,rfl⟩,fun _ _ z=>z⟩ (fun i acc σ H' _ h=>SqT.of (h.2.2 _ _ hl)) ?_ ?_ ?_
  ·rintro i y acc σ H' hy ⟨hF,⟨v,rfl⟩,S1⟩
   obtain ⟨t,e,ht⟩:=hA.get hy
   have mt:=List.mem_of_getElem? e
   have dt:=jQ mt
   walk_at "w0"
   refine ⟨y,t,by omega,rfl,ht.same S1,trs_ok.mp ho t mt,fun v' H2 S2 hf=>?_⟩
   have new:All2 (Tr.Fit (fc a) H2) (ts.toL.take (i+1)) (acc++[v']):=by
    rw [List.take_succ,e]
    exact (hF.imp fun t y _ h=>h.same S2).snoc hf
   first | exact ⟨new,⟨_,rfl⟩,S1.trans S2⟩ | exact ⟨new,S1.trans S2⟩
  ·rintro i acc σ H' ⟨hF,_,_⟩
   rw [← hF.len,List.length_take]
   omega
  rintro acc σ H' ⟨hF,⟨v,rfl⟩,S1⟩ D hD
  rw [← ln6,List.take_length] at hF
  have la:=hF.len
  have S2:=aG hD (.lst acc)
  intro x dx hx hd ne
  have M:=bI (o:=.own x) (o':=.ins a.Either dx []) hx hd
  refine ⟨x,dx,D,acc,ts.toL,rfl,aB,M _ _ aB,hF.imp (fun t y _ h=>(h.same S2).same M),by omega,by omega,fun l3 H3 Bx _ e1 e2=>?_⟩
  walk_at "w0"
  have SS:=S2.trans (dF hx hd Bx)
  exact q (.ref x) _ (S1.trans SS) (by rw [Tr.Fit]; exact ⟨x,dx,l3,acc,rfl,e2,e1,trs_fit.mpr (hF.imp fun t y _ h=>h.same SS)⟩)
def AV1:V→List V→Hp→VK→Prop:=fun x xs H Q=>∃ u l ts,x=.str u∧xs=[.ref l]∧H l=some (.tup (ts.map V.str))∧(ts.map (·.length)).sum+ts.length * u.length≤16777216∧Q (.str (Txt.join u ts)) H
theorem AE8 {X:Cx}:MtR X "str.join" AV1:=by
 intro pins s σ H x xs v us Q I rx rv h
 obtain ⟨u,l,ts,rfl,rfl,hl,hz,q⟩:=h
 obtain ⟨t,rfl⟩:=rx
 cases rv with
 | cons r1 r2 =>
  cases r2
  cases r1
  obtain ⟨_,its,r,pl⟩:=I.hok l _ hl
  obtain ⟨ll,rfl,e2⟩:=oW r
  refine PyProof.Rows.join_tuple pl (ys:=ts) ?_ hz ?_
  ·rw [← e2]
   exact PyProof.Rows.strsAre_of_values ll
  ·exact fun t' k=>nZ I q
theorem tW {H:Hp}:∀ bs:List Bool,RDs H (bs.map V.bl) (bs.map PyData.bool)
 | []=>.nil
 | b::bs=>.cons (.bl b) (tW bs)
theorem pZ:∀ bs:List Bool,PyData.canLayAll0 (bs.map PyData.bool)=true∧PyData.depthAll (bs.map PyData.bool)=0
 | []=>⟨by simp [PyData.canLayAll0],by simp [PyData.depthAll]⟩
 | b::bs=>by
  obtain ⟨i1,i2⟩:=pZ bs
  exact ⟨by simp [PyData.canLayAll0,PyData.canLay0] at i1 ⊢; exact i1,by simp [PyData.depthAll,PyData.depth] at i2 ⊢; exact i2⟩
theorem tX {d n:Nat}(hn:0≤n) (B:Bt K mg a) (C_law_text:CalX P w K mg base "_law_text" ["_law_tree_here"] n (eH K a d)) (F:Fun K "_law_text" "_law_text" fE f fd):FnOk P w K mg base CX0 (n+1) f fd ["_law_tree_here"] (eH K a (d+1)):=by
 refine F.ok sc_law_text (fun vs H Q E h=>?_) (fun cdv A outer s H vs Q E hr h=>?_)
 ·obtain ⟨v,t,hd0,rfl,_⟩:=h
  rfl
 obtain ⟨v,t,hd0,rfl,hA,ho,hx,q⟩:=h
 refine ⟨_,(bA (aF (bJ (aX cL (bM bO (pv 0) aL (fun _ _=>rfl)) aM (aY _)) (aI (aU (aW aM))) aR) (aF (bJ (L2.PW.pt (gX (aX cL (bM bO (pv 0) aL (fun _ _=>rfl)) aM (aY _)) (fS (aX cL (bM bO (pv 0) aL (fun _ _=>rfl)) aM (aY _))))) (aI (aU (aW (bE bB (bE bB (bM bO (pv 0) aL (fun _ _=>rfl)) aM) (iM PySem.F.plainAttrs_str PySem.F.slot_str_join PySem.F.type_str_join AE8 aM (aJ (aN (bM bO (pv 0) aL (fun _ _=>rfl)) aD))))))) aR) (aF (bJ (aX cL (bM bO (pv 0) aL (fun _ _=>rfl)) aM (aY _)) (aI (aU (aW (bE bB aM (bS kX rfl B.str PyProof.Rows.boot_str (aJ (aN (bM bO (pv 0) aL (fun _ _=>rfl)) aD))))))) aR) (aF (bJ (aX cL (bM bO (pv 0) aL (fun _ _=>rfl)) aM (aY _)) (aI (aU (aW (bE bB aM (aT C_law_text (hr.mono (by omega)) rfl (aJ (aN (bM bO (pv 0) aL (fun _ _=>rfl)) aD)) (he:=aA _ _ _ rfl) (hpl:=aC rfl)))))) aR) (aF (bF (i:=1) sc_law_text.nd rfl (Or.inl rfl) (AS8 cV (gR (aN aM (aN aM aD))) (aW (bS lX rfl B.int PyProof.Rows.boot_int (aJ (aN (dD cL (bM bO (pv 0) aL (fun _ _=>rfl)) aM (aY _)) aD)))) (fun _ _=>rfl)) (by kernel_rfl)) (aI (aU (aW (bE bB (bE bB aM (iM PySem.F.plainAttrs_str PySem.F.slot_str_join PySem.F.type_str_join iY (pv 1) (aJ (aN (dQ ["_law_part"] [none] rfl (by kernel_rfl) (wM (bM bO (pv 0) aL (fun _ _=>rfl))) (fun cl C s H fp=>⟨(dC (i:=0) (by decide:List.Nodup (["_law_part"]:List Str)) rfl (Or.inl (by kernel_rfl)) (Or.inr (by kernel_rfl))),fK,(aT C_law_text (hr.mono (by omega)) (mI (by kernel_rfl)) (aJ (aN (pv 0 (hv:=Or.inl (by kernel_rfl))) aD)) (he:=aA _ _ _ rfl) (hpl:=aC rfl))⟩)) aD)))) aM)))))))))),?_⟩
 cases t with
 | any =>
  rw [Tr.At] at hA
  rw [Tr.ok] at ho
  rw [Tr.tx] at q hx
  obtain ⟨p,rfl,hp⟩:=hA
  walk_at "w0"
  refine ixt (SqT.of hp) (v:=.str "any") rfl ?_
  walk_at "w0"
  exact q _ fun _ _ z=>z
 | kind us =>
  rw [Tr.At] at hA
  rw [Tr.ok] at ho
  rw [Tr.tx] at q hx
  obtain ⟨p,l0,rfl,hp,hl⟩:=hA
  walk_at "w0"
  refine ixt (SqT.of hp) (v:=.str "kind") rfl ?_
  walk_at "w0"
  rw [if_neg (by decide)]
  refine ixt (SqT.of hp) (v:=.str "kind") rfl ?_
  walk_at "w0"
  refine ixt (SqT.of hp) (v:=.str "kind") rfl ?_
  walk_at "w0"
  have jl:=fW (s:=sp1) (ts:=us) ho.1
  have e1:sp1.length=1:=rfl
  rw [dS ho.1,Str.length_append,Str.length_append] at hx
  rw [dS ho.1] at q
  refine ⟨by decide,ixt (SqT.of hp) (v:=.ref l0) rfl ⟨sp1,l0,us,rfl,rfl,hl,by rw [← jl]; omega,?_⟩⟩
  rw [pY]
  refine ⟨_,rfl,szM (by show (("kind":Str)++sp1).length+_≤1000000; rw [Str.length_append]; omega),?_⟩
  exact q _ fun _ _ z=>z
 | place us =>
  rw [Tr.At] at hA
  rw [Tr.ok] at ho
  rw [Tr.tx] at q hx
  obtain ⟨p,l0,rfl,hp,hl⟩:=hA
  walk_at "w0"
  refine ixt (SqT.of hp) (v:=.str "place") rfl ?_
  walk_at "w0"
  rw [if_neg (by decide)]
  refine ixt (SqT.of hp) (v:=.str "place") rfl ?_
  walk_at "w0"
  rw [if_neg (by decide)]
  refine ixt (SqT.of hp) (v:=.str "place") rfl ?_
  walk_at "w0"
  refine ixt (SqT.of hp) (v:=.str "place") rfl ?_
  walk_at "w0"
  have jl:=fW (s:=sp1) (ts:=us) ho.1
  have e1:sp1.length=1:=rfl
  rw [dS ho.1,Str.length_append,Str.length_append] at hx
  rw [dS ho.1] at q
  refine ⟨by decide,ixt (SqT.of hp) (v:=.ref l0) rfl ⟨sp1,l0,us,rfl,rfl,hl,by rw [← jl]; omega,?_⟩⟩
  rw [pY]
  refine ⟨_,rfl,szM (by show (("place":Str)++sp1).length+_≤1000000; rw [Str.length_append]; omega),?_⟩
  exact q _ fun _ _ z=>z
 | weight n =>
  rw [Tr.At] at hA
  rw [Tr.ok] at ho
  rw [Tr.tx] at q hx
  obtain ⟨p,rfl,hp⟩:=hA
  walk_at "w0"
  refine ixt (SqT.of hp) (v:=.str "weight") rfl ?_
  walk_at "w0"
  rw [if_neg (by decide)]
  refine ixt (SqT.of hp) (v:=.str "weight") rfl ?_
  walk_at "w0"
  rw [if_neg (by decide)]
  refine ixt (SqT.of hp) (v:=.str "weight") rfl ?_
  walk_at "w0"
  rw [if_neg (by decide)]
  refine ixt (SqT.of hp) (v:=.str "weight") rfl ?_
  walk_at "w0"
  refine ixt (SqT.of hp) (v:=.int n) rfl ⟨n,rfl,rQ ho.1 ho.2,?_,q _ fun _ _ z=>z⟩
  rw [Str.length_append] at hx
  exact szM (by show (("weight ":Str)).length+(lB n).length≤1000000; omega)
 | not t =>
  rw [Tr.At] at hA
  rw [Tr.ok] at ho
  rw [Tr.tx] at q hx
  obtain ⟨p,y,rfl,hp,hy⟩:=hA
  walk_at "w0"
  refine ixt (SqT.of hp) (v:=.str "not") rfl ?_
  walk_at "w0"
  rw [if_neg (by decide)]
  refine ixt (SqT.of hp) (v:=.str "not") rfl ?_
  walk_at "w0"
  rw [if_neg (by decide)]
  refine ixt (SqT.of hp) (v:=.str "not") rfl ?_
  walk_at "w0"
  rw [if_neg (by decide)]
  refine ixt (SqT.of hp) (v:=.str "not") rfl ?_
  walk_at "w0"
  rw [if_neg (by decide)]
  refine ixt (SqT.of hp) (v:=.str "not") rfl ?_
  walk_at "w0"
  rw [Tr.dp] at hd0
  rw [Str.length_append] at hx
  exact ixt (SqT.of hp) (v:=y) rfl ⟨y,t,by omega,rfl,hy,ho,by omega,fun H' S'=>⟨_,rfl,szM (by omega),q _ S'⟩⟩
 | both ts =>
  rw [Tr.At] at hA
  rw [Tr.ok] at ho
  rw [Tr.tx] at q hx
  obtain ⟨p,l0,xs,rfl,hp,hl,hs⟩:=hA
  walk_at "w0"
  refine ixt (SqT.of hp) (v:=.str "both") rfl ?_
  walk_at "w0"
  rw [if_neg (by decide)]
  refine ixt (SqT.of hp) (v:=.str "both") rfl ?_
  walk_at "w0"
  rw [if_neg (by decide)]
  refine ixt (SqT.of hp) (v:=.str "both") rfl ?_
  walk_at "w0"
  rw [if_neg (by decide)]
  refine ixt (SqT.of hp) (v:=.str "both") rfl ?_
  walk_at "w0"
  rw [if_neg (by decide)]
  refine ixt (SqT.of hp) (v:=.str "both") rfl ?_
  walk_at "w0"
  rw [if_neg (by decide)]
  rw [Tr.dp] at hd0
  rw [Str.length_append,Str.length_append] at hx
  have hA:=trs_at.mp hs
  have ln6:=hA.len
  have tne:ts.tx≠[]:=fun z=>by
   have l:=congrArg List.length z
   rw [fM,List.length_map,List.length_nil] at l
   omega
  refine ⟨sz8 (by decide),fun p1 h1=>?_⟩
  have S0:=aG h1 (.lst [.str " & ",.str " | "])
  have f1:upd H p1 (.lst [.str " & ",.str " | "]) p1=some (.lst [.str " & ",.str " | "]):=aB
  generalize upd H p1 (.lst [.str " & ",.str " | "])=H1 at *
  refine ixt (SqT.of (S0 _ _ hp)) (v:=.str "both") rfl ⟨rfl,?_⟩
  refine ixl (SqL.of f1) (v:=.str " & ") rfl ?_
  refine ⟨(show "str"="str" from rfl),?_⟩
  refine ixt (SqT.of (S0 _ _ hp)) (v:=.ref l0) rfl ⟨l0,rfl,⟨xs,SqT.of (S0 _ _ hl)⟩,?_⟩
  refine CompT.by (xs:=xs) (fun i acc σ H'=>acc=((ts.toL.take i).map Tr.tx).map V.str∧(∃ v,σ=[v])∧Same H H') (sz8 (by omega)) ⟨rfl,⟨_,rfl⟩,S0⟩ (fun i acc σ H' _ h=>SqT.of (h.2.2 _ _ hl)) ?_ ?_ ?_
  ·rintro i y acc σ H' hy ⟨rfl,⟨v,rfl⟩,S1⟩
   obtain ⟨t,e,ht⟩:=hA.get hy
   have mt:=List.mem_of_getElem? e
   have dt:=jQ mt
   have ea:((ts.toL.take i).map Tr.tx).map V.str++[V.str t.tx]=((ts.toL.take (i+1)).map Tr.tx).map V.str:=by
    rw [List.take_succ,e,List.map_append,List.map_append]
    rfl
   have lx:=nB (s:=(" & ":Str)) (ts:=ts.tx) (x:=t.tx) (by rw [fM]; exact List.mem_map.mpr ⟨t,mt,rfl⟩)
   walk_at "w0"
   refine ⟨y,t,by omega,rfl,ht.same S1,trs_ok.mp ho.2.2 t mt,by omega,fun H2 S2=>?_⟩
   first | exact ⟨ea,⟨_,rfl⟩,S1.trans S2⟩ | exact ⟨ea,S1.trans S2⟩
  ·rintro i acc σ H' ⟨rfl,_,_⟩
   rw [List.length_map,List.length_map,List.length_take]
   omega
  ·rintro acc σ H' ⟨rfl,⟨v,rfl⟩,S1⟩ D hD
   rw [← ln6,List.take_length,← fM]
   refine ⟨(" & ":Str),D,ts.tx,rfl,rfl,aB,gP tne (by omega) (by decide),?_⟩
   rw [pY]
   refine ⟨_,rfl,szM (by omega),szM (by rw [Str.length_append]; omega),?_⟩
   exact q _ (S1.trans (aG hD _))
 | either ts =>
  rw [Tr.At] at hA
  rw [Tr.ok] at ho
  rw [Tr.tx] at q hx
  obtain ⟨p,l0,xs,rfl,hp,hl,hs⟩:=hA
  walk_at "w0"
  refine ixt (SqT.of hp) (v:=.str "either") rfl ?_
  walk_at "w0"
  rw [if_neg (by decide)]
  refine ixt (SqT.of hp) (v:=.str "either") rfl ?_
  walk_at "w0"
  rw [if_neg (by decide)]
  refine ixt (SqT.of hp) (v:=.str "either") rfl ?_
  walk_at "w0"
  rw [if_neg (by decide)]
  refine ixt (SqT.of hp) (v:=.str "either") rfl ?_
  walk_at "w0"
  rw [if_neg (by decide)]
  refine ixt (SqT.of hp) (v:=.str "either") rfl ?_
  walk_at "w0"
  rw [if_neg (by decide)]
  rw [Tr.dp] at hd0
  rw [Str.length_append,Str.length_append] at hx
  have hA:=trs_at.mp hs
  have ln6:=hA.len
  have tne:ts.tx≠[]:=fun z=>by
   have l:=congrArg List.length z
   rw [fM,List.length_map,List.length_nil] at l
   omega
  refine ⟨sz8 (by decide),fun p1 h1=>?_⟩
  have S0:=aG h1 (.lst [.str " & ",.str " | "])
  have f1:upd H p1 (.lst [.str " & ",.str " | "]) p1=some (.lst [.str " & ",.str " | "]):=aB
  generalize upd H p1 (.lst [.str " & ",.str " | "])=H1 at *
  refine ixt (SqT.of (S0 _ _ hp)) (v:=.str "either") rfl ⟨rfl,?_⟩
  refine ixl (SqL.of f1) (v:=.str " | ") rfl ?_
  refine ⟨(show "str"="str" from rfl),?_⟩
  refine ixt (SqT.of (S0 _ _ hp)) (v:=.ref l0) rfl ⟨l0,rfl,⟨xs,SqT.of (S0 _ _ hl)⟩,?_⟩
  refine CompT.by (xs:=xs) (fun i acc σ H'=>acc=((ts.toL.take i).map Tr.tx).map V.str∧(∃ v,σ=[v])∧Same H H') (sz8 (by omega)) ⟨rfl,⟨_,rfl⟩,S0⟩ (fun i acc σ H' _ h=>SqT.of (h.2.2 _ _ hl)) ?_ ?_ ?_
  ·rintro i y acc σ H' hy ⟨rfl,⟨v,rfl⟩,S1⟩
   obtain ⟨t,e,ht⟩:=hA.get hy
   have mt:=List.mem_of_getElem? e
   have dt:=jQ mt
   have ea:((ts.toL.take i).map Tr.tx).map V.str++[V.str t.tx]=((ts.toL.take (i+1)).map Tr.tx).map V.str:=by
    rw [List.take_succ,e,List.map_append,List.map_append]
    rfl
   have lx:=nB (s:=(" | ":Str)) (ts:=ts.tx) (x:=t.tx) (by rw [fM]; exact List.mem_map.mpr ⟨t,mt,rfl⟩)
   walk_at "w0"
   refine ⟨y,t,by omega,rfl,ht.same S1,trs_ok.mp ho.2.2 t mt,by omega,fun H2 S2=>?_⟩
   first | exact ⟨ea,⟨_,rfl⟩,S1.trans S2⟩ | exact ⟨ea,S1.trans S2⟩
  ·rintro i acc σ H' ⟨rfl,_,_⟩
   rw [List.length_map,List.length_map,List.length_take]
   omega
  ·rintro acc σ H' ⟨rfl,⟨v,rfl⟩,S1⟩ D hD
   rw [← ln6,List.take_length,← fM]
   refine ⟨(" | ":Str),D,ts.tx,rfl,rfl,aB,gP tne (by omega) (by decide),?_⟩
   rw [pY]
   refine ⟨_,rfl,szM (by omega),szM (by rw [Str.length_append]; omega),?_⟩
   exact q _ (S1.trans (aG hD _))
theorem rS (B:Bt K mg a) (C_law_leaf:CalX P w K mg base "_law_leaf" ["_law_state","_law_more"] 3 (jD K a)) (C_law_next:CalX P w K mg base "_law_next" ["_law_state","_law_base"] 1 (dI K a)) (F:Fun K "_law_chain" "_law_chain" eB f fd):FnOk P w K mg base CX0 4 f fd ["_law_state"] (lE K a):=by
 refine F.ok sc_law_chain (fun vs H Q E h=>?_) (fun cdv A outer s H vs Q E hr h=>?_)
 ·obtain ⟨wl,rfl,_⟩:=h
  rfl
 obtain ⟨wl,rfl,W,q⟩:=h
 refine ⟨_,(bA (aF (bF (i:=1) sc_law_chain.nd rfl (Or.inl rfl) (aW (aT C_law_leaf (hr.mono (by decide)) rfl (aJ (aN (pv 0) (aN aL aD))) (he:=aA _ _ _ rfl) (hpl:=aC rfl))) (by kernel_rfl)) (aF (cN (uB PassesOwn.never rfl (gY rfl B.range (aJ (aN (aT C_law_next (hr.mono (by decide)) rfl (aJ (aN (pv 0) (aN aL aD))) (he:=aA _ _ _ rfl) (hpl:=aC rfl)) aD))) (dC (i:=2) sc_law_chain.nd rfl (Or.inl rfl)) (bA (aI (bF (i:=1) sc_law_chain.nd rfl (Or.inl rfl) (aW (jJ (aJ (aN aM (aN (pv 1) aD))))) (by kernel_rfl)))))) (aI (aU (aW (pv 1))))))),?_⟩
 walk_at "w0"
 refine ⟨wl,2,rfl,W,by decide,by decide,fun v t H1 hA ho hd hc W1 B1=>?_⟩
 walk_at "w0"
 refine qA W1 (by decide) (by decide) fun r H2 a2 b2 W2 B2=>?_
 walk_at "w0"
 refine ⟨by omega,by omega,?_⟩
 refine ForR.by (fun i σ H'=>(∃ (v:V) (t:Tr) (kv:Option V),σ=[some (.ref wl),some v,kv]∧t.At H' v∧t.ok∧t.dp≤i∧t.cnt≤3)∧Well3 H' wl∧But wl H H') ⟨⟨v,t,_,rfl,hA.but3 W1 B2,ho,by omega,hc⟩,W2,B1.trans B2⟩ ?_ ?_
 ·rintro i σ H3 hi ⟨⟨v,t,kv,rfl,hA,ho,hd,hc⟩,W3,B3⟩
  walk_at "w0"
  refine ⟨sz8 (by decide),fun p hp=>?_⟩
  have S4:=aG hp (.tup [.str "not",v])
  have nA:(Tr.not t).At (upd H3 p (.tup [.str "not",v])) (.ref p):=by rw [Tr.At]; exact ⟨p,v,rfl,aB,hA.same S4⟩
  have no:(Tr.not t).ok:=by rw [Tr.ok]; exact ho
  have nd:(Tr.not t).dp≤i+1:=by rw [Tr.dp]; omega
  have nc:(Tr.not t).cnt≤3:=by rw [Tr.cnt]; exact hc
  walk_at "w0"
  first | exact ⟨⟨.not t,nA,no,nd,nc⟩,W3.same S4,B3.trans (Same.but S4)⟩ | exact ⟨⟨.ref p,.not t,_,rfl,nA,no,nd,nc⟩,W3.same S4,B3.trans (Same.but S4)⟩
 ·rintro σ H3 ⟨⟨v,t,kv,rfl,hA,ho,hd,hc⟩,W3,B3⟩
  walk_at "w0"
  exact q v t H3 hA ho (by omega) (by omega) W3 B3
def AI2:Tr→Str
 | .any=>"any"
 | .kind _=>"kind"
 | .place _=>"place"
 | .weight _=>"weight"
 | .not _=>"not"
 | .both _=>"both"
 | .either _=>"either"
theorem Tr.At.word {H:Hp}{t:Tr}{u:V}(h:t.At H u):∃ pt rest,u=.ref pt∧H pt=some (.tup (.str (AI2 t)::rest)):=by
 cases t with
 | any=>rw [Tr.At] at h; obtain ⟨p,rfl,hp⟩:=h; exact ⟨p,_,rfl,hp⟩
 | kind us=>rw [Tr.At] at h; obtain ⟨p,_,rfl,hp,_⟩:=h; exact ⟨p,_,rfl,hp⟩
 | place us=>rw [Tr.At] at h; obtain ⟨p,_,rfl,hp,_⟩:=h; exact ⟨p,_,rfl,hp⟩
 | weight n=>rw [Tr.At] at h; obtain ⟨p,rfl,hp⟩:=h; exact ⟨p,_,rfl,hp⟩
 | not t=>rw [Tr.At] at h; obtain ⟨p,_,rfl,hp,_⟩:=h; exact ⟨p,_,rfl,hp⟩
 | both ts=>rw [Tr.At] at h; obtain ⟨p,_,_,rfl,hp,_⟩:=h; exact ⟨p,_,rfl,hp⟩
 | either ts=>rw [Tr.At] at h; obtain ⟨p,_,_,rfl,hp,_⟩:=h; exact ⟨p,_,rfl,hp⟩
abbrev ws7:List Str:=["any","kind","place","weight","not","both","either"]
def bl7 (t:Tr):List Bool:=[decide (t.tag=0),decide (t.tag=1),decide (t.tag=2),decide (t.tag=3),decide (t.tag=4),decide (t.tag=5),decide (t.tag=6)]
theorem AV2 (t:Tr):ws7.map (fun w=>decide (w=AI2 t))=bl7 t:=by cases t <;> rfl
theorem bN {x:V}{xs:List V}:atI (x::xs) 0=some x:=show atI (x::xs) ((0:Nat):Int)=some x from hV rfl
theorem tY {d n:Nat}(hn:0≤n) (B:Bt K mg a) (C_law_same:CalX P w K mg base "_law_same" ["_law_fit","_law_tree_here"] n (eI K a d)) (F:Fun K "_law_same" "_law_same" fG f fd):FnOk P w K mg base CX0 (n+1) f fd ["_law_fit","_law_tree_here"] (eI K a (d+1)):=by
 refine F.ok sc_law_same (fun vs H Q E h=>?_) (fun cdv A outer s H vs Q E hr h=>?_)
 ·obtain ⟨v,u,t,hd0,rfl,_⟩:=h
  rfl
 obtain ⟨v,u,t,hd0,rfl,hf,hA,ho,q⟩:=h
 refine ⟨_,(bA (bD (aF (bF (i:=2) sc_law_same.nd rfl (Or.inl rfl) (gR (aN (aP (dR (K:=K) rfl) rfl B.isinstance PyProof.Rows.boot_isinstance (aJ (aN (pv 0) (aN (bT (v:=.ref _) rfl B.Any rfl) aD))) (he:=aA _ _ _ rfl) (hpl:=aC rfl)) (aN (aP (dR (K:=K) rfl) rfl B.isinstance PyProof.Rows.boot_isinstance (aJ (aN (pv 0) (aN (bT (v:=.ref _) rfl B.Kind rfl) aD))) (he:=aA _ _ _ rfl) (hpl:=aC rfl)) (aN (aP (dR (K:=K) rfl) rfl B.isinstance PyProof.Rows.boot_isinstance (aJ (aN (pv 0) (aN (bT (v:=.ref _) rfl B.Place rfl) aD))) (he:=aA _ _ _ rfl) (hpl:=aC rfl)) (aN (aP (dR (K:=K) rfl) rfl B.isinstance PyProof.Rows.boot_isinstance (aJ (aN (pv 0) (aN (bT (v:=.ref _) rfl B.Least rfl) aD))) (he:=aA _ _ _ rfl) (hpl:=aC rfl)) aD))))) (by kernel_rfl)) (bD (aF (bF (i:=2) sc_law_same.nd rfl (Or.inl rfl) (AN1 kY (aW (pv 2)) (gR (aN (aP (dR (K:=K) rfl) rfl B.isinstance PyProof.Rows.boot_isinstance (aJ (aN (pv 0) (aN (bT (v:=.ref _) rfl B.Not rfl) aD))) (he:=aA _ _ _ rfl) (hpl:=aC rfl)) (aN (aP (dR (K:=K) rfl) rfl B.isinstance PyProof.Rows.boot_isinstance (aJ (aN (pv 0) (aN (bT (v:=.ref _) rfl B.Both rfl) aD))) (he:=aA _ _ _ rfl) (hpl:=aC rfl)) (aN (aP (dR (K:=K) rfl) rfl B.isinstance PyProof.Rows.boot_isinstance (aJ (aN (pv 0) (aN (bT (v:=.ref _) rfl B.Either rfl) aD))) (he:=aA _ _ _ rfl) (hpl:=aC rfl)) aD))))) (by kernel_rfl)) (bD (aF (bF (i:=3) sc_law_same.nd rfl (Or.inl rfl) (gR (aN aM (aN aM (aN aM (aN aM (aN aM (aN aM (aN aM aD)))))))) (by kernel_rfl)) (bD (aF (bJ (aX (AS9 hr.units) (pv 2) (dQ ["_law_word","_law_tree_here"] [none,some 1] rfl (by kernel_rfl) (kF (pv 3)) (fun cl C s H fp=>⟨(dC (i:=0) (by decide:List.Nodup (["_law_word","_law_tree_here"]:List Str)) rfl (Or.inl (by kernel_rfl)) (Or.inr (by kernel_rfl))),fK,(dD cL (pv 0 (hv:=Or.inl (by kernel_rfl))) (bM (yN (K:=K) rfl) (pv 1 (hv:=Or.inr (Or.inl (by kernel_rfl)))) aL (fun _ _=>rfl)) (aY _))⟩)) (aY _)) (bD (aI (aU (aW jH)))) aR) (bD (aF (bJ (L2.PW.pt (gX (aX cL (bM bO (pv 1) aL (fun _ _=>rfl)) aM (aY _)) (fS (aX cL (bM bO (pv 1) aL (fun _ _=>rfl)) aM (aY _))))) (bD (aI (aU (aW (dD (AH3 hr.units) (cG (pv 0) rfl) (bS cW rfl B.list PyProof.Rows.boot_list (aJ (aN (bM bO (pv 1) aL (fun _ _=>rfl)) aD))) (aY _)))))) aR) (bD (aF (bJ (aX cL (bM bO (pv 1) aL (fun _ _=>rfl)) aM (aY _)) (bD (aI (aU (aW (lW (aP (gL (K:=K) (T:="int") rfl) rfl B.isinstance PyProof.Rows.boot_isinstance (aJ (aN (cG (pv 0) rfl) (aN (fH (v:=.ty "int") rfl B.int PyProof.Rows.boot_int rfl) aD))) (he:=aA _ _ _ rfl) (hpl:=aC rfl)) (lW (uA (aP (gL (K:=K) (T:="bool") rfl) rfl B.isinstance PyProof.Rows.boot_isinstance (aJ (aN (cG (pv 0) rfl) (aN (fH (v:=.ty "bool") rfl B.bool PyProof.Rows.boot_bool rfl) aD))) (he:=aA _ _ _ rfl) (hpl:=aC rfl))) (lV (dD cL (cG (pv 0) rfl) (bM bO (pv 1) aL (fun _ _=>rfl)) (aY _))))))))) aR) (bD (aF (bJ (aX cL (bM bO (pv 1) aL (fun _ _=>rfl)) aM (aY _)) (bD (aI (aU (aW (aT C_law_same (hr.mono (by omega)) rfl (aJ (aN (cG (pv 0) rfl) (aN (bM bO (pv 1) aL (fun _ _=>rfl)) aD))) (he:=aA _ _ _ rfl) (hpl:=aC rfl)))))) aR) (bD (aF (bJ (aX cL (bM bO (pv 1) aL (fun _ _=>rfl)) aM (aY _)) (bD (aI (aU (aW jH)))) aR) (bD (aF (bJ (L2.PW.pt (gX (dP (cF (aP (gL (K:=K) (T:="list") rfl) rfl B.isinstance PyProof.Rows.boot_isinstance (aJ (aN (cG (pv 0) rfl) (aN (fH (v:=.ty "list") rfl B.list PyProof.Rows.boot_list rfl) aD))) (he:=aA _ _ _ rfl) (hpl:=aC rfl)))) (fS (aX vI (aP bH rfl B.len PySem.boot_len (aJ (aN (cG (pv 0) rfl) aD))) (aP bH rfl B.len PySem.boot_len (aJ (aN (bM bO (pv 1) aL (fun _ _=>rfl)) aD))) (aY _))))) (bD (aI (aU (aW jH)))) aR) (bD (aI (aU (aW (dD (AH3 hr.units) (dQ ["_law_k","_law_fit","_law_tree_here"] [none,some 0,some 1] rfl (by kernel_rfl) (gY rfl B.range (aJ (aN (aP bH rfl B.len PySem.boot_len (aJ (aN (bM bO (pv 1) aL (fun _ _=>rfl)) aD))) aD))) (fun cl C s H fp=>⟨(dC (i:=0) (by decide:List.Nodup (["_law_k","_law_fit","_law_tree_here"]:List Str)) rfl (Or.inl (by kernel_rfl)) (Or.inr (by kernel_rfl))),(AL9 (dP (cF (aT C_law_same (hr.mono (by omega)) (mI (by kernel_rfl)) (aJ (aN (bM (AT0 (K:=K) rfl) (AT1 (K:=K) rfl (pv 1 (hv:=Or.inr (Or.inl (by kernel_rfl)))) rfl) (pv 0 (hv:=Or.inl (by kernel_rfl))) (fun _ _=>rfl)) (aN (bM (yN (K:=K) rfl) (bM (yN (K:=K) rfl) (pv 2 (hv:=Or.inr (Or.inl (by kernel_rfl)))) aL (fun _ _=>rfl)) (pv 0 (hv:=Or.inl (by kernel_rfl))) (fun _ _=>rfl)) aD))) (he:=aA _ _ _ rfl) (hpl:=aC rfl))))),(pv 0 (hv:=Or.inl (by kernel_rfl)))⟩)) (hU (aJ aD)) (aY _))))))))))))))))))))))))),?_⟩
 obtain ⟨p,dx,fs,rfl,hp,_⟩:=id hf.ins
 obtain ⟨pt,rest,rfl,tp⟩:=hA.word
 have ck:ClsK K (t.cls (fc a)):=by cases t <;> first | exact B.ck_Any | exact B.ck_Kind | exact B.ck_Place | exact B.ck_Least | exact B.ck_Not | exact B.ck_Both | exact B.ck_Either
 have ki:kitOne K (.ref (t.cls (fc a))) (.ref a.Any)=some (decide (t.tag=0))∧kitOne K (.ref (t.cls (fc a))) (.ref a.Kind)=some (decide (t.tag=1))∧kitOne K (.ref (t.cls (fc a))) (.ref a.Place)=some (decide (t.tag=2))∧kitOne K (.ref (t.cls (fc a))) (.ref a.Least)=some (decide (t.tag=3))∧kitOne K (.ref (t.cls (fc a))) (.ref a.Not)=some (decide (t.tag=4))∧kitOne K (.ref (t.cls (fc a))) (.ref a.Both)=some (decide (t.tag=5))∧kitOne K (.ref (t.cls (fc a))) (.ref a.Either)=some (decide (t.tag=6)):=by
  cases t with
  | any=>exact ⟨B.is_Any_Any,B.is_Any_Kind,B.is_Any_Place,B.is_Any_Least,B.is_Any_Not,B.is_Any_Both,B.is_Any_Either⟩
  | kind us=>exact ⟨B.is_Kind_Any,B.is_Kind_Kind,B.is_Kind_Place,B.is_Kind_Least,B.is_Kind_Not,B.is_Kind_Both,B.is_Kind_Either⟩
  | place us=>exact ⟨B.is_Place_Any,B.is_Place_Kind,B.is_Place_Place,B.is_Place_Least,B.is_Place_Not,B.is_Place_Both,B.is_Place_Either⟩
  | weight n=>exact ⟨B.is_Least_Any,B.is_Least_Kind,B.is_Least_Place,B.is_Least_Least,B.is_Least_Not,B.is_Least_Both,B.is_Least_Either⟩
  | not t=>exact ⟨B.is_Not_Any,B.is_Not_Kind,B.is_Not_Place,B.is_Not_Least,B.is_Not_Not,B.is_Not_Both,B.is_Not_Either⟩
  | both ts=>exact ⟨B.is_Both_Any,B.is_Both_Kind,B.is_Both_Place,B.is_Both_Least,B.is_Both_Not,B.is_Both_Both,B.is_Both_Either⟩
  | either ts=>exact ⟨B.is_Either_Any,B.is_Either_Kind,B.is_Either_Place,B.is_Either_Least,B.is_Either_Not,B.is_Either_Both,B.is_Either_Either⟩
 obtain ⟨k0,k1,k2,k3,k4,k5,k6⟩:=ki
 walk_at "w0"
 first | rw [aS] | (dsimp only; rw [aS])
 walk_at "w0"
 refine ⟨_,_,_,_,rfl,ck.ty hp,k0,?_⟩
 walk_at "w0"
 refine ⟨_,_,_,_,rfl,ck.ty hp,k1,?_⟩
 walk_at "w0"
 refine ⟨_,_,_,_,rfl,ck.ty hp,k2,?_⟩
 walk_at "w0"
 refine ⟨_,_,_,_,rfl,ck.ty hp,k3,?_⟩
 walk_at "w0"
 refine ⟨sz8 (by decide),fun p1 h1=>?_⟩
 have S1:=aG h1 (.lst [.bl (decide (t.tag=0)),.bl (decide (t.tag=1)),.bl (decide (t.tag=2)),.bl (decide (t.tag=3))])
 have e1:upd H p1 (.lst [.bl (decide (t.tag=0)),.bl (decide (t.tag=1)),.bl (decide (t.tag=2)),.bl (decide (t.tag=3))]) p1=some (.lst [.bl (decide (t.tag=0)),.bl (decide (t.tag=1)),.bl (decide (t.tag=2)),.bl (decide (t.tag=3))]):=aB
 generalize upd H p1 (.lst [.bl (decide (t.tag=0)),.bl (decide (t.tag=1)),.bl (decide (t.tag=2)),.bl (decide (t.tag=3))])=H1 at *
 first | rw [aS] | (dsimp only; rw [aS])
 walk_at "w0"
 refine ⟨_,_,_,_,rfl,ck.ty (S1 _ _ hp),k4,?_⟩
 walk_at "w0"
 refine ⟨_,_,_,_,rfl,ck.ty (S1 _ _ hp),k5,?_⟩
 walk_at "w0"
 refine ⟨_,_,_,_,rfl,ck.ty (S1 _ _ hp),k6,?_⟩
 walk_at "w0"
 refine ⟨sz8 (by decide),fun p2 h2=>?_⟩
 have S2:=aG h2 (.lst [.bl (decide (t.tag=4)),.bl (decide (t.tag=5)),.bl (decide (t.tag=6))])
 refine ⟨p1,p2,_,_,rfl,rfl,S2 _ _ e1,aB,sz8 (show 7≤1000 by decide),fun p3 h3=>?_⟩
 have S3:=aG h3 (.lst ((bl7 t).map V.bl))
 have e3:upd (upd H1 p2 (.lst [.bl (decide (t.tag=4)),.bl (decide (t.tag=5)),.bl (decide (t.tag=6))])) p3 (.lst ((bl7 t).map V.bl)) p3=some (.lst ((bl7 t).map V.bl)):=aB
 have S4:=S1.trans (S2.trans S3)
 clear S2
 show zS _ _ _ (upd (upd H1 p2 (.lst [.bl (decide (t.tag=4)),.bl (decide (t.tag=5)),.bl (decide (t.tag=6))])) p3 (.lst ((bl7 t).map V.bl)))
 generalize upd (upd H1 p2 (.lst [.bl (decide (t.tag=4)),.bl (decide (t.tag=5)),.bl (decide (t.tag=6))])) p3 (.lst ((bl7 t).map V.bl))=H3 at *
 first | rw [aS] | (dsimp only; rw [aS])
 walk_at "w0"
 refine ⟨sz8 (by decide),fun p4 h4=>?_⟩
 have S5:=aG h4 (.lst (ws7.map V.str))
 have e4:upd H3 p4 (.lst (ws7.map V.str)) p4=some (.lst (ws7.map V.str)):=aB
 have e5:=S5 _ _ e3
 have SA:=S4.trans S5
 show zS _ _ _ (upd H3 p4 (.lst (ws7.map V.str)))
 generalize upd H3 p4 (.lst (ws7.map V.str))=H4 at *
 clear S4 S5 S3 S1 e1 e3
 first | rw [aS] | (dsimp only; rw [aS])
 walk_at "w0"
 refine ⟨⟨_,SqL.of e4⟩,?_⟩
 refine CompL.by (xs:=ws7.map V.str) (fun i acc σ H'=>acc=((ws7.take i).map (fun w=>decide (w=AI2 t))).map V.bl∧(∃ v,σ=[v,some (.ref pt)])∧H'=H4) (sz8 (by decide)) ⟨rfl,⟨_,rfl⟩,rfl⟩ (fun i acc σ H' _ h=>by rw [h.2.2]; exact SqL.of e4) ?_ ?_ ?_
 ·rintro i y acc σ H' hy ⟨rfl,⟨v,rfl⟩,rfl⟩
  rw [List.getElem?_map] at hy
  obtain ⟨x,ex,rfl⟩:∃ x,ws7[i]?=some x∧y=.str x:=by
   cases z:ws7[i]? with
   | none=>rw [z] at hy; cases hy
   | some x=>rw [z] at hy; cases hy; exact ⟨x,rfl,rfl⟩
  have ea:((ws7.take i).map (fun w=>decide (w=AI2 t))).map V.bl++[V.bl (decide (x=AI2 t))]=((ws7.take (i+1)).map (fun w=>decide (w=AI2 t))).map V.bl:=by
   rw [List.take_succ,ex,List.map_append,List.map_append]
   rfl
  walk_at "w0"
  refine ixt (SqT.of (SA _ _ tp)) (v:=.str (AI2 t)) bN ?_
  walk_at "w0"
  first | exact ⟨ea,⟨_,rfl⟩,rfl⟩ | exact ea | exact ⟨ea,rfl⟩ | trace_state
 ·rintro i acc σ H' ⟨rfl,_,_⟩
  rw [List.length_map,List.length_map,List.length_take]
  exact Nat.min_le_left _ _
 rintro acc σ H' ⟨rfl,⟨v,rfl⟩,rfl⟩ D hD
 have eT:(ws7.take (ws7.map V.str).length).map (fun w=>decide (w=AI2 t))=bl7 t:=by
  rw [List.length_map,List.take_length]
  exact AV2 t
 rw [eT]
 have S6:=aG hD (.lst ((bl7 t).map V.bl))
 refine eqd (.lst (S6 _ _ e5) (tW _)) (.lst aB (tW _)) (iA (Nat.zero_le _) (pZ _)).1 ?_
 have SA:=SA.trans S6
 have hf:=hf.same SA
 have hA:=hA.same SA
 generalize upd H' D (.lst ((bl7 t).map V.bl))=H5 at *
 clear S6 e4 e5 eT ck k0 k1 k2 k3 k4 k5 k6 tp hp
 walk_at "w0"
 cases t with
 | any =>
  rw [Tr.Fit] at hf
  rw [Tr.At] at hA
  rw [Tr.ok] at ho
  obtain ⟨p,dx,e0,hp⟩:=hf
  cases e0
  obtain ⟨pt,e1,tp⟩:=hA
  cases e1
  first | rw [aS] | (dsimp only; rw [aS])
  walk_at "w0"
  refine ixt (SqT.of tp) (v:=.str "any") bN ?_
  walk_at "w0"
  rw [if_neg (by decide)]
  refine ixt (SqT.of tp) (v:=.str "any") bN ?_
  walk_at "w0"
  rw [if_neg (by decide)]
  first | rw [aS] | (dsimp only; rw [aS])
  walk_at "w0"
  refine ixt (SqT.of tp) (v:=.str "any") bN ?_
  walk_at "w0"
  rw [if_neg (by decide)]
  first | rw [aS] | (dsimp only; rw [aS])
  walk_at "w0"
  refine ixt (SqT.of tp) (v:=.str "any") bN ?_
  walk_at "w0"
  rw [if_neg (by decide)]
  first | rw [aS] | (dsimp only; rw [aS])
  walk_at "w0"
  refine ixt (SqT.of tp) (v:=.str "any") bN ?_
  walk_at "w0"
  first | refine cS ?_ | (dsimp only; refine cS ?_)
  walk_at "w0"
  exact q _ SA
 | kind us =>
  rw [Tr.Fit] at hf
  rw [Tr.At] at hA
  rw [Tr.ok] at ho
  obtain ⟨p,dx,ln,e0,hp,hn⟩:=hf
  cases e0
  obtain ⟨pt,tl,e1,tp,htl⟩:=hA
  cases e1
  first | rw [aS] | (dsimp only; rw [aS])
  walk_at "w0"
  refine ixt (SqT.of tp) (v:=.str "kind") bN ?_
  walk_at "w0"
  first | refine cS ?_ | (dsimp only; refine cS ?_)
  walk_at "w0"
  refine ⟨_,_,_,hp,B.ck_Kind.cl,B.na_Kind_names,.ref ln,rfl,?_⟩
  refine ixt (SqT.of tp) (v:=.ref tl) rfl ?_
  refine ⟨tl,rfl,_,.inr (SqT.of htl),fun l2 hl2=>?_⟩
  have S2:=aG hl2 (.lst (us.map V.str))
  have gsh:=(iA (Nat.zero_le _) (pB (us:=us) fun u hu=>oZ (ho.2.2.1 u hu))).1
  exact eqd (.lst (S2 _ _ hn) (jO us)) (.lst aB (jO us)) gsh (q _ (SA.trans S2))
 | place us =>
  rw [Tr.Fit] at hf
  rw [Tr.At] at hA
  rw [Tr.ok] at ho
  obtain ⟨p,dx,ln,e0,hp,hn⟩:=hf
  cases e0
  obtain ⟨pt,tl,e1,tp,htl⟩:=hA
  cases e1
  first | rw [aS] | (dsimp only; rw [aS])
  walk_at "w0"
  refine ixt (SqT.of tp) (v:=.str "place") bN ?_
  walk_at "w0"
  rw [if_neg (by decide)]
  refine ixt (SqT.of tp) (v:=.str "place") bN ?_
  walk_at "w0"
  first | refine cS ?_ | (dsimp only; refine cS ?_)
  walk_at "w0"
  refine ⟨_,_,_,hp,B.ck_Place.cl,B.na_Place_names,.ref ln,rfl,?_⟩
  refine ixt (SqT.of tp) (v:=.ref tl) rfl ?_
  refine ⟨tl,rfl,_,.inr (SqT.of htl),fun l2 hl2=>?_⟩
  have S2:=aG hl2 (.lst (us.map V.str))
  have gsh:=(iA (Nat.zero_le _) (pB (us:=us) fun u hu=>oZ (ho.2.2.1 u hu))).1
  exact eqd (.lst (S2 _ _ hn) (jO us)) (.lst aB (jO us)) gsh (q _ (SA.trans S2))
 | weight n =>
  rw [Tr.Fit] at hf
  rw [Tr.At] at hA
  rw [Tr.ok] at ho
  obtain ⟨p,dx,e0,hp⟩:=hf
  cases e0
  obtain ⟨pt,e1,tp⟩:=hA
  cases e1
  first | rw [aS] | (dsimp only; rw [aS])
  walk_at "w0"
  refine ixt (SqT.of tp) (v:=.str "weight") bN ?_
  walk_at "w0"
  rw [if_neg (by decide)]
  refine ixt (SqT.of tp) (v:=.str "weight") bN ?_
  walk_at "w0"
  rw [if_neg (by decide)]
  first | rw [aS] | (dsimp only; rw [aS])
  walk_at "w0"
  refine ixt (SqT.of tp) (v:=.str "weight") bN ?_
  walk_at "w0"
  first | refine cS ?_ | (dsimp only; refine cS ?_)
  walk_at "w0"
  refine ⟨_,_,_,hp,B.ck_Least.cl,B.na_Least_weight,.int n,rfl,?_⟩
  refine ⟨_,_,true,rfl,.int n,by kernel_rfl,?_⟩
  walk_at "w0"
  refine ⟨_,_,_,hp,B.ck_Least.cl,B.na_Least_weight,.int n,rfl,?_⟩
  refine ⟨_,_,false,rfl,.int n,by kernel_rfl,?_⟩
  exists Bool.not_false
  refine ⟨_,_,_,hp,B.ck_Least.cl,B.na_Least_weight,.int n,rfl,?_⟩
  refine ixt (SqT.of tp) (v:=.int n) rfl ⟨rfl,?_⟩
  rw [decide_eq_true rfl]
  exact q _ SA
 | not t =>
  rw [Tr.Fit] at hf
  rw [Tr.At] at hA
  rw [Tr.ok] at ho
  obtain ⟨p,dx,y,e0,hp,hy⟩:=hf
  cases e0
  obtain ⟨pt,ty,e1,tp,hty⟩:=hA
  cases e1
  first | rw [aS] | (dsimp only; rw [aS])
  walk_at "w0"
  refine ixt (SqT.of tp) (v:=.str "not") bN ?_
  walk_at "w0"
  rw [if_neg (by decide)]
  refine ixt (SqT.of tp) (v:=.str "not") bN ?_
  walk_at "w0"
  rw [if_neg (by decide)]
  first | rw [aS] | (dsimp only; rw [aS])
  walk_at "w0"
  refine ixt (SqT.of tp) (v:=.str "not") bN ?_
  walk_at "w0"
  rw [if_neg (by decide)]
  first | rw [aS] | (dsimp only; rw [aS])
  walk_at "w0"
  refine ixt (SqT.of tp) (v:=.str "not") bN ?_
  walk_at "w0"
  first | refine cS ?_ | (dsimp only; refine cS ?_)
  walk_at "w0"
  rw [Tr.dp] at hd0
  refine ⟨_,_,_,hp,B.ck_Not.cl,B.na_Not_fit,y,rfl,?_⟩
  refine ixt (SqT.of tp) (v:=ty) rfl ?_
  exact ⟨y,ty,t,by omega,rfl,hy,hty,ho,fun H' S'=>q _ (SA.trans S')⟩
 | both ts =>
  rw [Tr.Fit] at hf
  rw [Tr.At] at hA
  rw [Tr.ok] at ho
  obtain ⟨p,dx,ln,xs,e0,hp,hn,hs⟩:=hf
  cases e0
  obtain ⟨pt,tl,tx,e1,tp,htl,hts⟩:=hA
  cases e1
  first | rw [aS] | (dsimp only; rw [aS])
  walk_at "w0"
  refine ixt (SqT.of tp) (v:=.str "both") bN ?_
  walk_at "w0"
  rw [if_neg (by decide)]
  refine ixt (SqT.of tp) (v:=.str "both") bN ?_
  walk_at "w0"
  rw [if_neg (by decide)]
  first | rw [aS] | (dsimp only; rw [aS])
  walk_at "w0"
  refine ixt (SqT.of tp) (v:=.str "both") bN ?_
  walk_at "w0"
  rw [if_neg (by decide)]
  first | rw [aS] | (dsimp only; rw [aS])
  walk_at "w0"
  refine ixt (SqT.of tp) (v:=.str "both") bN ?_
  walk_at "w0"
  rw [if_neg (by decide)]
  first | rw [aS] | (dsimp only; rw [aS])
  walk_at "w0"
  refine ixt (SqT.of tp) (v:=.str "both") bN ?_
  walk_at "w0"
  rw [if_neg (by decide)]
  first | rw [aS] | (dsimp only; rw [aS])
  walk_at "w0"
  rw [Tr.dp] at hd0
  have hF:=trs_fit.mp hs
  have hT:=trs_at.mp hts
  have l1:=hF.len
  have l2:=hT.len
  refine ⟨_,_,_,hp,B.ck_Both.cl,B.na_Both_fits,.ref ln,rfl,?_⟩
  refine ⟨_,_,true,rfl,.lst hn,by kernel_rfl,?_⟩
  walk_at "w0"
  refine ⟨_,_,_,hp,B.ck_Both.cl,B.na_Both_fits,.ref ln,rfl,ln,rfl,_,.inl (SqL.of hn),?_⟩
  refine ixt (SqT.of tp) (v:=.ref tl) rfl ⟨tl,rfl,_,.inr (SqT.of htl),?_⟩
  rw [if_neg (by omega)]
  first | refine cS ?_ | (dsimp only; refine cS ?_)
  walk_at "w0"
  refine ixt (SqT.of tp) (v:=.ref tl) rfl ⟨tl,rfl,_,.inr (SqT.of htl),?_⟩
  refine ⟨by omega,by omega,?_⟩
  refine CompR.by (fun i acc σ H'=>acc=[]∧(∃ v,σ=[v,some (.ref p),some (.ref pt)])∧Same H5 H') (sz8 (by omega)) ⟨rfl,⟨_,rfl⟩,fun _ _ z=>z⟩ ?_ ?_ ?_
  ·rintro i acc σ H' hi ⟨rfl,⟨v,rfl⟩,S7⟩
   have hi:i < tx.length:=by omega
   obtain ⟨t,e,ht⟩:=hT.get (List.getElem?_eq_getElem hi)
   obtain ⟨t',e',ht'⟩:=hF.get (List.getElem?_eq_getElem (show i < xs.length by omega))
   rw [e] at e'
   cases e'
   have mt:=List.mem_of_getElem? e
   have dt:=jQ mt
   walk_at "w0"
   refine ⟨_,_,_,S7 _ _ hp,B.ck_Both.cl,B.na_Both_fits,.ref ln,rfl,?_⟩
   refine ixl (SqL.of (S7 _ _ hn)) (by rw [Int.zero_add]; exact hV (List.getElem?_eq_getElem (show i < xs.length by omega))) ?_
   refine ixt (SqT.of (S7 _ _ tp)) (v:=.ref tl) rfl ?_
   refine ixt (SqT.of (S7 _ _ htl)) (by rw [Int.zero_add]; exact hV (List.getElem?_eq_getElem hi)) ?_
   refine ⟨_,_,t,by omega,rfl,ht'.same S7,ht.same S7,trs_ok.mp ho.2.2 t mt,fun H8 S8=>?_⟩
   exists Bool.not_true
   first | exact S7.trans S8 | exact ⟨rfl,⟨_,rfl⟩,S7.trans S8⟩ | exact ⟨⟨_,rfl⟩,S7.trans S8⟩
  ·rintro i acc σ H' ⟨rfl,_,_⟩
   exact Nat.zero_le _
  ·rintro acc σ H' ⟨rfl,⟨v,rfl⟩,S7⟩ D2 hD2
   refine ⟨Nat.zero_le _,fun p9 h9=>?_⟩
   exact eqd (.lst (aG h9 _ _ _ aB) .nil) (.lst aB .nil) (iA (Nat.zero_le _) (pZ [])).1 (q _ (SA.trans (S7.trans ((aG hD2 _).trans (aG h9 _)))))
 | either ts =>
  rw [Tr.Fit] at hf
  rw [Tr.At] at hA
  rw [Tr.ok] at ho
  obtain ⟨p,dx,ln,xs,e0,hp,hn,hs⟩:=hf
  cases e0
  obtain ⟨pt,tl,tx,e1,tp,htl,hts⟩:=hA
  cases e1
  first | rw [aS] | (dsimp only; rw [aS])
  walk_at "w0"
  refine ixt (SqT.of tp) (v:=.str "either") bN ?_
  walk_at "w0"
  rw [if_neg (by decide)]
  refine ixt (SqT.of tp) (v:=.str "either") bN ?_
  walk_at "w0"
  rw [if_neg (by decide)]
  first | rw [aS] | (dsimp only; rw [aS])
  walk_at "w0"
  refine ixt (SqT.of tp) (v:=.str "either") bN ?_
  walk_at "w0"
  rw [if_neg (by decide)]
  first | rw [aS] | (dsimp only; rw [aS])
  walk_at "w0"
  refine ixt (SqT.of tp) (v:=.str "either") bN ?_
  walk_at "w0"
  rw [if_neg (by decide)]
  first | rw [aS] | (dsimp only; rw [aS])
  walk_at "w0"
  refine ixt (SqT.of tp) (v:=.str "either") bN ?_
  walk_at "w0"
  rw [if_neg (by decide)]
  first | rw [aS] | (dsimp only; rw [aS])
  walk_at "w0"
  rw [Tr.dp] at hd0
  have hF:=trs_fit.mp hs
  have hT:=trs_at.mp hts
  have l1:=hF.len
  have l2:=hT.len
  refine ⟨_,_,_,hp,B.ck_Either.cl,B.na_Either_fits,.ref ln,rfl,?_⟩
  refine ⟨_,_,true,rfl,.lst hn,by kernel_rfl,?_⟩
  walk_at "w0"
  refine ⟨_,_,_,hp,B.ck_Either.cl,B.na_Either_fits,.ref ln,rfl,ln,rfl,_,.inl (SqL.of hn),?_⟩
  refine ixt (SqT.of tp) (v:=.ref tl) rfl ⟨tl,rfl,_,.inr (SqT.of htl),?_⟩
  rw [if_neg (by omega)]
  first | refine cS ?_ | (dsimp only; refine cS ?_)
  walk_at "w0"
  refine ixt (SqT.of tp) (v:=.ref tl) rfl ⟨tl,rfl,_,.inr (SqT.of htl),?_⟩
  refine ⟨by omega,by omega,?_⟩
  refine CompR.by (fun i acc σ H'=>acc=[]∧(∃ v,σ=[v,some (.ref p),some (.ref pt)])∧Same H5 H') (sz8 (by omega)) ⟨rfl,⟨_,rfl⟩,fun _ _ z=>z⟩ ?_ ?_ ?_
  ·rintro i acc σ H' hi ⟨rfl,⟨v,rfl⟩,S7⟩
   have hi:i < tx.length:=by omega
   obtain ⟨t,e,ht⟩:=hT.get (List.getElem?_eq_getElem hi)
   obtain ⟨t',e',ht'⟩:=hF.get (List.getElem?_eq_getElem (show i < xs.length by omega))
   rw [e] at e'
   cases e'
   have mt:=List.mem_of_getElem? e
   have dt:=jQ mt
   walk_at "w0"
   refine ⟨_,_,_,S7 _ _ hp,B.ck_Either.cl,B.na_Either_fits,.ref ln,rfl,?_⟩
   refine ixl (SqL.of (S7 _ _ hn)) (by rw [Int.zero_add]; exact hV (List.getElem?_eq_getElem (show i < xs.length by omega))) ?_
   refine ixt (SqT.of (S7 _ _ tp)) (v:=.ref tl) rfl ?_
   refine ixt (SqT.of (S7 _ _ htl)) (by rw [Int.zero_add]; exact hV (List.getElem?_eq_getElem hi)) ?_
   refine ⟨_,_,t,by omega,rfl,ht'.same S7,ht.same S7,trs_ok.mp ho.2.2 t mt,fun H8 S8=>?_⟩
   exists Bool.not_true
   first | exact S7.trans S8 | exact ⟨rfl,⟨_,rfl⟩,S7.trans S8⟩ | exact ⟨⟨_,rfl⟩,S7.trans S8⟩
  ·rintro i acc σ H' ⟨rfl,_,_⟩
   exact Nat.zero_le _
  ·rintro acc σ H' ⟨rfl,⟨v,rfl⟩,S7⟩ D2 hD2
   refine ⟨Nat.zero_le _,fun p9 h9=>?_⟩
   exact eqd (.lst (aG h9 _ _ _ aB) .nil) (.lst aB .nil) (iA (Nat.zero_le _) (pZ [])).1 (q _ (SA.trans (S7.trans ((aG hD2 _).trans (aG h9 _)))))
theorem nM (B:Bt K mg a) (C_read_fit:CalW P w K mg base "read_fit" ["text"] 9 (jB K a)) (F:Fun K "_law_refused" "_law_refused" cZ f fd):FnOk P w K mg base CX0 10 f fd ["_law_text_here"] (iS K a):=by
 refine F.ok sc_law_refused (fun vs H Q E h=>?_) (fun cdv A outer s H vs Q E hr h=>?_)
 ·obtain ⟨x,rfl,_⟩:=h
  rfl
 obtain ⟨x,rfl,hx,q⟩:=h
 refine ⟨_,(bA (aF (bF (i:=1) sc_law_refused.nd rfl (Or.inl rfl) (aW jH) (by kernel_rfl)) (aF (cN (AL7 (i:=2) rfl rfl (fun _ _ z=>z) C_read_fit (hr.mono (by decide)) rfl (aJ (aN (pv 0) aD)) rfl B.BellError sc_law_refused.nd rfl rfl (fun v=>(bA (aI (bJ (L2.PW.pt (wK (cF (aP (yS (K:=K) rfl) rfl B.isinstance PyProof.Rows.boot_isinstance (aJ (aN (pv 2) (aN (bT (v:=.ref _) rfl B.NoText rfl) aD))) (he:=aA _ _ _ rfl) (hpl:=aC rfl))) (wK (cF (aP (yS (K:=K) rfl) rfl B.isinstance PyProof.Rows.boot_isinstance (aJ (aN (pv 2) (aN (fH (v:=.ty "ValueError") rfl B.ValueError mG rfl) aD))) (he:=aA _ _ _ rfl) (hpl:=aC rfl))) (wJ (dP (cF (aP (AD4 (K:=K) rfl) rfl B.isinstance PyProof.Rows.boot_isinstance (aJ (aN (pv 2) (aN (jJ (aJ (aN (bT (v:=.ref _) rfl B.NoFit rfl) (aN (bT (v:=.ref _) rfl B.NoRow rfl) (aN (bT (v:=.ref _) rfl B.NoTime rfl) (aN (bT (v:=.ref _) rfl B.NoWish rfl) aD)))))) aD))) (he:=aA _ _ _ rfl) (hpl:=aC rfl)))))))) (aI (bF (i:=1) sc_law_refused.nd rfl (Or.inl rfl) (aW (lW (dD cL (zD (K:=K) rfl (pv 2) rfl) aL (aY _)) (lV (uA (aP (gL (K:=K) (T:="bool") rfl) rfl B.isinstance PyProof.Rows.boot_isinstance (aJ (aN (zD (K:=K) rfl (pv 2) rfl) (aN (fH (v:=.ty "bool") rfl B.bool PyProof.Rows.boot_bool rfl) aD))) (he:=aA _ _ _ rfl) (hpl:=aC rfl)))))) (by kernel_rfl))) aR)))) (he:=aA _ _ _ rfl) (hpl:=aC rfl))) (aI (aU (aW (pv 1))))))),?_⟩
 walk_at "w0"
 refine ⟨x,rfl,.inr ⟨hx,fun y H1 S1 e1=>?_⟩⟩
 refine ⟨B.exm_NoText,fun ex hex=>?_⟩
 have S2:=aG hex (fJ ex (.ref a.NoText) (some y))
 have eX:upd H1 ex (fJ ex (.ref a.NoText) (some y)) ex=some (fJ ex (.ref a.NoText) (some y)):=aB
 generalize upd H1 ex (fJ ex (.ref a.NoText) (some y))=H2 at *
 walk_at "w0"
 refine ⟨ex,_,_,true,a.NoText,rfl,rfl,B.excK_NoText,⟨_,eX⟩,B.isT,?_⟩
 walk_at "w0"
 refine ⟨ex,_,_,true,a.NoText,rfl,rfl,B.excK_NoText,⟨_,eX⟩,B.isV,?_⟩
 walk_at "w0"
 refine ⟨sz8 (by decide),fun p1 h1=>?_⟩
 have S3:=aG h1 (.tup [.ref a.NoFit,.ref a.NoRow,.ref a.NoTime,.ref a.NoWish])
 refine ⟨ex,p1,[a.NoFit,a.NoRow,a.NoTime,a.NoWish],false,a.NoText,rfl,B.excK_NoText,⟨_,S3 _ _ eX⟩,aB,B.any1,?_⟩
 generalize upd H2 p1 (.tup [.ref a.NoFit,.ref a.NoRow,.ref a.NoTime,.ref a.NoWish])=H3 at *
 have e4:=S3 _ _ eX
 have d4:=S3 _ _ (S2 _ _ e1)
 exists Bool.not_false
 refine ⟨_,_,e4,_,d4,B.excK_NoText,B.xhd,B.xna,_,rfl,?_⟩
 refine ⟨rfl,?_⟩
 rw [if_pos rfl]
 refine ⟨_,_,e4,_,d4,B.excK_NoText,B.xhd,B.xna,_,rfl,?_⟩
 exact ⟨_,_,false,rfl,.int 0,by kernel_rfl,false,rfl,q _ (S1.trans (S2.trans S3))⟩
mutual
theorem vE {p:Str→Prop}(hN:∀ u,aZ u→p u) (hM:∀ n:Int,0≤n→n < 1000000→p (lB n)) (h1:p "(") (h2:p ")") (h3:p "&") (h4:p "|"):∀ {t:Tr},t.wf→∀ x∈t.ws,p x
 | .any,_=>by rw [Tr.ws]; exact all_cons (hN _ (by decide)) cP
 | .kind us,h=>by rw [Tr.wf] at h; rw [Tr.ws]; exact all_cons (hN _ (by decide)) fun x hx=>hN _ (h.2.1 x hx)
 | .place us,h=>by rw [Tr.wf] at h; rw [Tr.ws]; exact all_cons (hN _ (by decide)) fun x hx=>hN _ (h.2.1 x hx)
 | .weight n,h=>by rw [Tr.wf] at h; rw [Tr.ws]; exact all_cons (hN _ (by decide)) (all_cons (hM n h.1 h.2) cP)
 | .not t,h=>by rw [Tr.wf] at h; rw [Tr.ws]; exact all_cons (hN _ (by decide)) (vE hN hM h1 h2 h3 h4 h)
 | .both ts,h=>by rw [Tr.wf] at h; rw [Tr.ws]; exact all_cons h1 (fN (wss_all hN hM h1 h2 h3 h4 h3 h.2) (all_cons h2 cP))
 | .either ts,h=>by rw [Tr.wf] at h; rw [Tr.ws]; exact all_cons h1 (fN (wss_all hN hM h1 h2 h3 h4 h4 h.2) (all_cons h2 cP))
theorem wss_all {p:Str→Prop}(hN:∀ u,aZ u→p u) (hM:∀ n:Int,0≤n→n < 1000000→p (lB n)) (h1:p "(") (h2:p ")") (h3:p "&") (h4:p "|") {s:Str}(hs:p s):∀ {ts:Trs},ts.wf→∀ x∈ts.ws s,p x
 | .nil,_=>by rw [Trs.ws]; exact cP
 | .cons t .nil,h=>by rw [Trs.wf] at h; rw [oH]; exact vE hN hM h1 h2 h3 h4 h.1
 | .cons t (.cons t' ts),h=>by rw [Trs.wf] at h; rw [kJ]; exact fN (vE hN hM h1 h2 h3 h4 h.1) (all_cons hs (wss_all hN hM h1 h2 h3 h4 hs h.2))
end
theorem AP2 {t:Tr}(h:t.wf):∀ x∈t.ws,∃ c,x.cps.toList.head?=some c∧c≠45:=by
 refine vE (p:=fun x=>∃ c,x.cps.toList.head?=some c∧c≠45) (fun u g=>?_) (fun n h0 h1=>?_) ⟨40,by decide⟩ ⟨41,by decide⟩ ⟨38,by decide⟩ ⟨124,by decide⟩ h
 ·cases q:u.cps.toList with
  | nil =>
   have z:=g.1
   have e:u.length=u.cps.toList.length:=by simp [Str.length]
   rw [e,q] at z
   exact absurd z (by decide)
  | cons a l =>
   have r:=g.2.2 a (by rw [q]; exact List.mem_cons_self)
   exact ⟨a,rfl,by omega⟩
 ·cases q:(lB n).cps.toList with
  | nil =>
   have z:=(sY h0 h1).1
   have e:(lB n).length=(lB n).cps.toList.length:=by simp [Str.length]
   rw [e,q] at z
   exact absurd z (by decide)
  | cons a l =>
   have r:=pK h0 a (by rw [q]; exact List.mem_cons_self)
   exact ⟨a,rfl,by omega⟩
def wF (u:Str):Prop:=AI0 u∧∀ t,nJ (Txt.split u sp1) []≠some (t,[])
def AW4 (u:Str):Prop:=32 ∉ u.cps.toList∧u.length≤30∧mS u
theorem tokG.h {u:Str}(h:tokG u):AW4 u:=⟨h.1,by have:=h.2.2.1; omega,h.2.2.2⟩
theorem lF {u:Str}{ws:List Str}(e:u=Str.join sp1 ws) (hn:ws≠[]) (h:∀ x∈ws,AW4 x) (hl:ws.length≤1000) (hb:∀ t,nJ ws []≠some (t,[])):wF u:=by
 have e2:=oG (c:=32) hn fun a ha=>(h a ha).1
 subst e
 refine ⟨⟨?_,?_,?_⟩,?_⟩
 ·have h1:=StrLaws.join_length_le sp1 ws
  have h2:=zL (k:=30) fun x hx=>(h x hx).2.1
  have e:sp1.length=1:=rfl
  rw [e] at h1
  omega
 ·rw [e2]; exact hl
 ·rw [e2]; exact fun x hx=>(h x hx).2.2
 ·rw [e2]; exact hb
theorem kE:AW3 "":=⟨by decide,by decide,by decide +kernel⟩
theorem AA0 (t:Tr) (r:List Str):after [] t r=some (t,r):=rfl
theorem AE9 {t:Tr}(h:t.wf):nJ t.ws []=some (t,[]):=by
 have e:=zI (t:=t) (r:=[]) (S:=[]) h trivial
 rw [List.append_nil] at e
 exact e
theorem AF0 {t:Tr}{w:Str}{r:List Str}(h:t.wf) (n:¬ aZ w):∀ t',nJ (t.ws++w::r) []≠some (t',[]):=fun t' e=>by
 rw [zI (t:=t) (r:=w::r) (S:=[]) h n,AA0] at e
 cases e
section
variable {t:Tr}(h:t.wf) (hl:t.ws.length≤900)
include h hl
theorem BC2:wF ((" ":Str)++t.tx):=by
 refine lF (ws:=("":Str)::t.ws) ?_ (by simp) (all_cons tok_none.h fun x hx=>(gT h x hx).h) (by rw [List.length_cons]; omega) (fun t'=>kK kE List.mem_cons_self t')
 rw [dS (gA t),← qY t h]
 exact dX (by simp only [cX]; rfl)
theorem AF1 {w:Str}{r:List Str}{u:Str}(hw:∀ x∈w::r,AW4 x) (hr:(w::r).length≤50) (n:¬ aZ w) (e:u=sp1++Str.join sp1 (w::r)):wF (t.tx++u):=by
 refine lF (ws:=t.ws++w::r) ?_ (by simp) (fN (fun x hx=>(gT h x hx).h) hw) (by rw [List.length_append]; omega) (AF0 h n)
 rw [gM (gA t) (by simp),← qY t h,e]
 exact dX (by simp only [cX,List.append_assoc])
theorem BC3 (k:Nat):wF (Str.join sp1 (t.ws.take k++[("":Str)]++t.ws.drop k)):=by
 refine lF rfl (by simp) (fN (fN (fun x hx=>(gT h x (List.mem_of_mem_take hx)).h) (all_cons tok_none.h cP)) fun x hx=>(gT h x (List.mem_of_mem_drop hx)).h) ?_ (fun t'=>kK kE (by simp) t')
 rw [List.length_append,List.length_append,List.length_take,List.length_drop,List.length_singleton]
 omega
theorem BC4:wF (t.tx++("\n":Str)):=by
 have e0:t.ws=t.ws.dropLast++[t.ws.getLast (gA t)]:=(List.dropLast_concat_getLast (gA t)).symm
 have ml:t.ws.getLast (gA t)∈t.ws:=List.getLast_mem _
 have tl:=gT h _ ml
 obtain ⟨c,hc,n45⟩:=AP2 h _ ml
 generalize t.ws.getLast (gA t)=z at *
 have m10:10∈(z++("\n":Str)).cps.toList:=by rw [cX]; exact List.mem_append_right _ (by decide)
 have hh:(z++("\n":Str)).cps.toList.head?=some c:=by
  rw [cX]
  cases q:z.cps.toList with
  | nil=>rw [q] at hc; cases hc
  | cons a l=>rw [q] at hc; exact hc
 have nb:nI (z++("\n":Str))=false:=by
  unfold nI
  have e:Txt.startswith (z++("\n":Str)) "-"=false:=by
   show Txt.startswith (z++("\n":Str)) ⟨#[45]⟩=false
   rw [iH,hh]
   exact decide_eq_false fun z=>n45 (Option.some.inj z)
  rw [e,if_neg (by decide)]
  exact AH9 m10 (by decide)
 have bad:AW3 (z++("\n":Str)):=by
  refine ⟨fun m=>?_,fun g=>?_,nb⟩
  ·have q:∀ u∈([("not":Str),"(","any","kind","place","weight",")","&","|"]:List Str),10 ∉ u.cps.toList:=by decide
   exact q _ m m10
  ·have:=g.2.2 10 m10
   omega
 have th:AW4 (z++("\n":Str)):=by
  refine ⟨fun m=>?_,?_,?_,?_,fun y=>?_⟩
  ·rw [cX] at m
   rcases List.mem_append.mp m with m | m
   ·exact tl.1 m
   ·exact absurd m (by decide)
  ·rw [Str.length_append]
   have:=tl.2.2.1
   show z.length+1≤30
   omega
  ·rw [plain_iff]
   intro c hc
   rw [cX] at hc
   rcases List.mem_append.mp hc with m | m
   ·exact plain_iff.mp tl.2.2.2.1 c m
   ·have e:c=10:=by simpa using (show c∈([10]:List Nat) from m)
    omega
  ·rw [Str.length_append]
   have:=tl.2.2.1
   show z.length+1≤100
   omega
  ·rw [nb] at y; cases y
 refine lF (ws:=t.ws.dropLast++[z++("\n":Str)]) ?_ (by simp) (fN (fun x hx=>(gT h x (by rw [e0]; exact List.mem_append_left _ hx)).h) (all_cons th cP)) (by rw [List.length_append,List.length_dropLast,List.length_singleton]; omega) (fun t'=>kK bad (by simp) t')
 rw [qY t h]
 by_cases d:t.ws.dropLast=[]
 ·rw [d] at e0 ⊢
  rw [e0]
  rfl
 ·rw [e0,List.dropLast_concat,gM d (by simp),gM d (by simp)]
  rw [show Str.join sp1 [z]=z from rfl,show Str.join sp1 [z++("\n":Str)]=z++("\n":Str) from rfl]
  exact dX (by simp only [cX,List.append_assoc])
theorem BC5:wF (("any ":Str)++t.tx):=by
 refine lF (ws:=("any":Str)::t.ws) ?_ (by simp) (all_cons tok_any.h fun x hx=>(gT h x hx).h) (by rw [List.length_cons]; omega) (fun t' e=>?_)
 ·rw [dS (gA t),← qY t h]
  exact dX (by simp only [cX]; rfl)
 ·have q:nJ (("any":Str)::t.ws) []=some (.any,t.ws):=by rw [eN]; rfl
  exact gA t (Prod.mk.inj (Option.some.inj (q.symm.trans e))).2
end
theorem BC6:wF "":=lF (ws:=[("":Str)]) (by decide) (by simp) (all_cons tok_none.h cP) (by decide) fun t'=>kK kE List.mem_cons_self t'
theorem BC7:wF " ":=lF (ws:=[("":Str),""]) (by decide) (by simp) (all_cons tok_none.h (all_cons tok_none.h cP)) (by decide) fun t'=>kK kE List.mem_cons_self t'
theorem BC8 {n:Int}(h0:1≤n) (h1:n≤4):wF ⟨(List.replicate n.toNat ("not ":Str).cps).foldl (·++·) #[]⟩:=by
 have go:∀ k:Nat,1≤k→(⟨(List.replicate k ("not ":Str).cps).foldl (·++·) #[]⟩:Str)=Str.join sp1 (List.replicate k ("not":Str)++[("":Str)])→k≤4→wF ⟨(List.replicate k ("not ":Str).cps).foldl (·++·) #[]⟩:=fun k hk e h4 =>
  lF e (by simp) (fN (fun x hx=>by rw [List.eq_of_mem_replicate hx]; exact tok_not.h) (all_cons tok_none.h cP)) (by rw [List.length_append,List.length_replicate,List.length_singleton]; omega) fun t'=>kK kE (by simp) t'
 rcases (by omega:n=1∨n=2∨n=3∨n=4) with rfl | rfl | rfl | rfl
 ·exact go 1 (by decide) (by decide) (by decide)
 ·exact go 2 (by decide) (by decide) (by decide)
 ·exact go 3 (by decide) (by decide) (by decide)
 ·exact go 4 (by decide) (by decide) (by decide)
theorem AV3 {ws:List Str}{k:Int}(h0:0≤k) (h1:k≤ws.length):AA2 (ws.map V.str) none (some k)=(ws.take k.toNat).map V.str:=by
 obtain ⟨j,rfl⟩:∃ j:Nat,k=j:=⟨k.toNat,by omega⟩
 unfold AA2
 rw [HT.sIx_none,HT.sIx_nat,List.drop_zero,Nat.sub_zero,List.length_map,Nat.min_eq_left (by omega),← List.map_take]
 rfl
theorem AV4 {ws:List Str}{k:Int}(h0:0≤k) (h1:k≤ws.length):AA2 (ws.map V.str) (some k) none=(ws.drop k.toNat).map V.str:=by
 obtain ⟨j,rfl⟩:∃ j:Nat,k=j:=⟨k.toNat,by omega⟩
 unfold AA2
 rw [HT.sIx_none,HT.sIx_nat,List.length_map,Nat.min_eq_left (by omega),List.take_of_length_le (by rw [List.length_drop,List.length_map]; exact Nat.le_refl _),← List.map_drop]
 rfl
theorem AF2 (ns:List Int) (lo hi:Option Int):∃ ms:List Int,AA2 (ns.map V.int) lo hi=ms.map V.int∧ms.length≤ns.length:=by
 unfold AA2
 rw [List.length_map,← List.map_drop,← List.map_take]
 exact ⟨_,rfl,by rw [List.length_take,List.length_drop]; omega⟩
def BG7 (pw:Addr) (c0:V) (l sc:Addr) (xs:List V) (σ:L2.St) (H:Hp):Prop:=∃ (v:V) (t:Tr) (s4 s5 s6 s7 s8 s9:Option V),σ=[some (.ref sc),some c0,some (.ref pw),some v,s4,s5,s6,s7,s8,s9]∧t.At H v∧t.ok∧t.dp < 11∧t.ws.length≤700∧Well3 H pw∧H l=some (.lst xs)
def BC9 (sc l:Addr) (xs:List V) (σ:L2.St) (H:Hp):Prop:=(∃ s1 s2 s3 s4 s5 s6 s7 s8 s9:Option V,σ=[some (.ref sc),s1,s2,s3,s4,s5,s6,s7,s8,s9])∧H l=some (.lst xs)
theorem AF3 {t:Tr}(h:t.ok) (hd:t.dp≤3) (hc:t.cnt≤3 * 3 ^ 3):t.ws.length≤700:=by
 have q:=(rB h.wf).2
 have m:(5+t.dp) * t.cnt≤8 * 81:=Nat.mul_le_mul (by omega) hc
 omega
theorem AA1 {t:Tr}(h:t.ok) (hd:t.dp≤10) (hc:t.cnt≤3):t.ws.length≤700:=by
 have q:=(rB h.wf).2
 have m:(5+t.dp) * t.cnt≤15 * 3:=Nat.mul_le_mul (by omega) hc
 omega
def OddR (K:Frag) (H:Hp) (x:V):Prop:=(∃ u,x=.str u∧wF u)∨okK K (.type "str") H x false
theorem OddR.to {K:Frag}{H:Hp}{x:V}(h:OddR K H x):(∃ u,x=.str u∧AI0 u∧∀ t,nJ (Txt.split u sp1) []≠some (t,[]))∨okK K (.type "str") H x false:=h.imp (fun ⟨u,e,z⟩=>⟨u,e,z.1,z.2⟩) id
theorem AV5 (B:Bt K mg a) (C_law_begin:CalX P w K mg base "_law_begin" ["_law_cell"] 1 (lD K a)) (C_law_tree:CalX P w K mg base "_law_tree" ["_law_state","_law_deep","_law_more"] 7 (eF K a 4)) (C_law_text:CalX P w K mg base "_law_text" ["_law_tree_here"] 11 (eH K a 11)) (C_law_made:CalX P w K mg base "_law_made" ["_law_tree_here"] 16 (eG K a 11)) (C_read_fit:CalW P w K mg base "read_fit" ["text"] 9 (jB K a)) (C_law_next:CalX P w K mg base "_law_next" ["_law_state","_law_base"] 1 (dI K a)) (C_law_chain:CalX P w K mg base "_law_chain" ["_law_state"] 4 (lE K a)) (C_show_fit:CalX P w K mg base "show_fit" ["fit"] 11 (eE K a 11)) (C_law_same:CalX P w K mg base "_law_same" ["_law_fit","_law_tree_here"] 11 (eI K a 11)) (C_law_refused:CalX P w K mg base "_law_refused" ["_law_text_here"] 10 (iS K a)) (F:Fun K "law" "law" pR f fd):FnOk P w K mg base CX0 17 f fd ["_law_script"] (zT K a):=by
 refine F.ok sc_law (fun vs H Q E h=>?_) (fun cdv A outer s H vs Q E hr h=>?_)
 ·obtain ⟨sc,ns,rfl,_⟩:=h
  rfl
 obtain ⟨sc,ns,rfl,hS,h63,q⟩:=h
 refine ⟨_,(bA (aF (cN (uB PassesOwn.never rfl (kF (bE kY (hU (aJ (aN aL aD))) (gG rX (pv 0) iU (iV aL)))) (dC (i:=1) sc_law.nd rfl (Or.inl rfl)) (bA (aF (bF (i:=2) sc_law.nd rfl (Or.inl rfl) (aW (aT C_law_begin (hr.mono (by decide)) rfl (aJ (aN (pv 1) aD)) (he:=aA _ _ _ rfl) (hpl:=aC rfl))) (by kernel_rfl)) (bD (aF (bF (i:=3) sc_law.nd rfl (Or.inl rfl) (aW (aT C_law_tree (hr.mono (by decide)) rfl (aJ (aN (pv 2) (aN aL (aN aL aD)))) (he:=aA _ _ _ rfl) (hpl:=aC rfl))) (by kernel_rfl)) (bD (AN2 (bJ (aX cL (aT C_law_next (hr.mono (by decide)) rfl (aJ (aN (pv 2) (aN aL aD))) (he:=aA _ _ _ rfl) (hpl:=aC rfl)) aL (aY _)) (aI (bF (i:=3) sc_law.nd rfl (Or.inl rfl) (aW (aT C_law_chain (hr.mono (by decide)) rfl (aJ (aN (pv 2) aD)) (he:=aA _ _ _ rfl) (hpl:=aC rfl))) (by kernel_rfl))) aR) (bD (aF (bF (i:=4) sc_law.nd rfl (Or.inl rfl) (aW (aT C_law_text (hr.mono (by decide)) rfl (aJ (aN (pv 3) aD)) (he:=aA _ _ _ rfl) (hpl:=aC rfl))) (by kernel_rfl)) (bD (aF (bF (i:=5) sc_law.nd rfl (Or.inl rfl) (aW (aT C_law_made (hr.mono (by decide)) rfl (aJ (aN (pv 3) aD)) (he:=aA _ _ _ rfl) (hpl:=aC rfl))) (by kernel_rfl)) (bD (aF (bJ (L2.PW.pt (gX (aX vI (aT C_show_fit (hr.mono (by decide)) rfl (aJ (aN (pv 5) aD)) (he:=aA _ _ _ rfl) (hpl:=aC rfl)) (pv 4) (aY _)) (fS (aX vI (aT C_show_fit (hr.mono (by decide)) rfl (aJ (aN (pv 5) aD)) (he:=aA _ _ _ rfl) (hpl:=aC rfl)) (pv 4) (aY _))))) (aI (aU (aW jH))) aR) (bD (aF (bF (i:=6) sc_law.nd rfl (Or.inl rfl) (aW (vD C_read_fit (hr.mono (by decide)) rfl (aJ (aN (pv 4) aD)) (he:=aA _ _ _ rfl) (hpl:=aC rfl))) (by kernel_rfl)) (bD (aF (bJ (L2.PW.pt (gX (dP (cF (aT C_law_same (hr.mono (by decide)) rfl (aJ (aN (pv 6) (aN (pv 3) aD))) (he:=aA _ _ _ rfl) (hpl:=aC rfl)))) (gX (aX vI (aT C_show_fit (hr.mono (by decide)) rfl (aJ (aN (pv 6) aD)) (he:=aA _ _ _ rfl) (hpl:=aC rfl)) (pv 4) (aY _)) (fS (dP (cF (aT C_law_same (hr.mono (by decide)) rfl (aJ (aN (vD C_read_fit (hr.mono (by decide)) rfl (aJ (aN (pv 4) aD)) (he:=aA _ _ _ rfl) (hpl:=aC rfl)) (aN (pv 3) aD))) (he:=aA _ _ _ rfl) (hpl:=aC rfl)))))))) (aI (aU (aW jH))) aR) (bD (aF (bF (i:=7) sc_law.nd rfl (Or.inl rfl) (aW (iM PySem.F.plainAttrs_str PySem.F.slot_str_split PySem.F.type_str_split uT (pv 4) (aJ (aN aM aD)))) (by kernel_rfl)) (bD (aF (bF (i:=8) sc_law.nd rfl (Or.inl rfl) (aW (aT C_law_next (hr.mono (by decide)) rfl (aJ (aN (pv 2) (aN (aP bH rfl B.len PySem.boot_len (aJ (aN (pv 7) aD))) aD))) (he:=aA _ _ _ rfl) (hpl:=aC rfl))) (by kernel_rfl)) (bD (aF (bF (i:=9) sc_law.nd rfl (Or.inl rfl) (gR (aN (bE bB aM (pv 4)) (aN (bE bB (pv 4) aM) (aN (iM PySem.F.plainAttrs_str PySem.F.slot_str_join PySem.F.type_str_join iY aM (aJ (aN (bE kY (bE kY (gG rX (pv 7) iU (iV (pv 8))) (hU (aJ (aN aM aD)))) (gG rX (pv 7) (iV (pv 8)) iU)) aD))) (aN (bE bB (pv 4) aM) (aN (bE bB (pv 4) aM) (aN (bE bB (pv 4) aM) aD))))))) (by kernel_rfl)) (bD (aF (bF (i:=9) sc_law.nd rfl (Or.inl rfl) (AN1 kY (aW (pv 9)) (gR (aN (bE bB aM (pv 4)) (aN aM (aN aM (aN (bE tD aM (bE gZ aL (bE iP (pv 8) aL))) (aN (bE bB (pv 4) aM) (aN wI (aN aL (aN (hU (aJ (aN (pv 4) aD))) (aN jH aD))))))))))) (by kernel_rfl)) (bD (aI (bJ (L2.PW.pt (gX (dP (cF (aT C_law_refused (hr.mono (by decide)) rfl (aJ (aN (bM cV (pv 9) (aT C_law_next (hr.mono (by decide)) rfl (aJ (aN (pv 2) (aN (aP bH rfl B.len PySem.boot_len (aJ (aN (pv 9) aD))) aD))) (he:=aA _ _ _ rfl) (hpl:=aC rfl)) (fun _ _=>rfl)) aD)) (he:=aA _ _ _ rfl) (hpl:=aC rfl)))) (fS (dP (cF (aT C_law_refused (hr.mono (by decide)) rfl (aJ (aN (bM cV (pv 9) (aT C_law_next (hr.mono (by decide)) rfl (aJ (aN (pv 2) (aN (aP bH rfl B.len PySem.boot_len (aJ (aN (pv 9) aD))) aD))) (he:=aA _ _ _ rfl) (hpl:=aC rfl)) (fun _ _=>rfl)) aD)) (he:=aA _ _ _ rfl) (hpl:=aC rfl))))))) (aI (aU (aW jH))) aR))))))))))))))))))))))))))))) (aI (aU (aW jH))))),?_⟩
 walk_at "w0"
 refine ⟨sz8 (by decide),fun p hp=>?_⟩
 refine ⟨sc,_,rfl,(aG hp _).seq hS,fun p2 hp2=>?_⟩
 obtain ⟨ms,em,lm⟩:=AF2 ns none (some 10)
 rw [em]
 refine ⟨p,p2,[.int 0],_,rfl,rfl,?_,aB,?_,fun l hl=>?_⟩
 ·rw [aK (aO aB hp2)]; exact aB
 ·simp only [List.length_cons,List.length_nil,List.length_map]
  exact sz8 (by omega)
 refine ⟨l,rfl,⟨_,SqL.of aB⟩,?_⟩
 refine ForL.by (xs:=([0]++ms).map V.int) (fun _ σ H1=>BC9 sc l (([0]++ms).map V.int) σ H1) ⟨⟨_,_,_,_,_,_,_,_,_,rfl⟩,by rw [List.map_append]; exact aB⟩ (fun i σ H1 _ h=>SqL.of h.2) ?_ ?_
 ·rintro i x σ H1 hx ⟨⟨s1,s2,s3,s4,s5,s6,s7,s8,s9,rfl⟩,h1⟩
  obtain ⟨c,rfl⟩:=AS0 hx
  generalize ([0]++ms).map V.int=xs at *
  walk_at "w0"
  refine ⟨c,rfl,fun pw wa wb wc hpw=>?_⟩
  have W0:Well3 (upd H1 pw (.lst [.int wa,.int wb,.int wc])) pw:=⟨_,_,_,aB⟩
  have l0:l≠pw:=aO h1 hpw
  have h2:=aG hpw (.lst [.int wa,.int wb,.int wc]) l _ h1
  generalize upd H1 pw (.lst [.int wa,.int wb,.int wc])=H2 at *
  first | rw [aS] | (dsimp only; rw [aS])
  walk_at "w0"
  refine ⟨pw,3,2,by decide,rfl,W0,by decide,by decide,by decide,fun v t H3 hA ho hd hc W3 B3=>?_⟩
  have h3:=B3 l _ l0 h2
  walk_at "w0"
  first | rw [aS] | (dsimp only; rw [aS])
  walk_at "w0"
  refine ⟨BG7 pw (.int c) l sc xs,?_,?_⟩
  ·refine qA W3 (by decide) (by decide) fun r H4 a4 b4 W4 B4=>?_
   have h4:=B4 l _ l0 h3
   walk_at "w0"
   by_cases r3:r=3
   ·rw [if_pos r3]
    refine ⟨pw,rfl,W4,fun v2 t2 H5 hA2 ho2 hd2 hc2 W5 B5=>?_⟩
    walk_at "w0"
    exact ⟨v2,t2,_,_,_,_,_,_,rfl,hA2,ho2,by omega,AA1 ho2 hd2 hc2,W5,B5 l _ l0 h4⟩
   ·rw [if_neg r3]
    exact ⟨v,t,_,_,_,_,_,_,rfl,hA.but3 W3 B4,ho,by omega,AF3 ho hd hc,W4,h4⟩
  clear hA ho hd hc W3 B3 h3 v t H3 W0 h2
  rintro σ H5 ⟨v,t,s4,s5,s6,s7,s8,s9,rfl,hA,ho,hd,hw,W5,h5⟩
  have wf:=ho.wf
  have tx:=qY t wf
  have lx:t.tx.length≤30000:=by rw [tx]; exact zM (fun x hx=>(gT wf x hx).2.2.1) (by omega)
  have tk:=BC1 (gA t) (gT wf) (by omega)
  rw [← tx] at tk
  have fs:=AE9 wf
  rw [← tk.2] at fs
  first | rw [aS] | (dsimp only; rw [aS])
  walk_at "w0"
  refine ⟨v,t,hd,rfl,hA,ho,by omega,fun H6 S6=>?_⟩
  walk_at "w0"
  first | rw [aS] | (dsimp only; rw [aS])
  walk_at "w0"
  refine ⟨v,t,hd,rfl,hA.same S6,ho,fun vf H7 S7 hf=>?_⟩
  walk_at "w0"
  first | rw [aS] | (dsimp only; rw [aS])
  walk_at "w0"
  refine ⟨vf,t,hd,rfl,hf,wf,by omega,fun H8 S8=>?_⟩
  refine ⟨rfl,?_⟩
  rw [if_neg (fun z=>z rfl)]
  refine ⟨vf,t,hd,rfl,hf.same S8,wf,by omega,fun H9 S9=>⟨rfl,?_⟩⟩
  rw [if_neg (fun z=>z rfl)]
  have SA:=S6.trans (S7.trans (S8.trans S9))
  clear S6 S7 S8 S9 hf
  first | rw [aS] | (dsimp only; rw [aS])
  walk_at "w0"
  refine ⟨.str t.tx,rfl,.inl ⟨t.tx,t,rfl,tk.1,fs,fun vr H10 S10 hfr=>?_⟩⟩
  have SA:=SA.trans S10
  walk_at "w0"
  first | rw [aS] | (dsimp only; rw [aS])
  walk_at "w0"
  refine ⟨vr,v,t,hd,rfl,hfr,hA.same SA,ho,fun H11 S11=>?_⟩
  have SA:=SA.trans S11
  exists Bool.not_true
  refine ⟨vr,t,hd,rfl,hfr.same S11,wf,by omega,fun H12 S12=>⟨rfl,?_⟩⟩
  have SA:=SA.trans S12
  rw [if_neg (fun z=>z rfl)]
  refine ⟨.str t.tx,rfl,.inl ⟨t.tx,t,rfl,tk.1,fs,fun vr2 H13 S13 hf2=>?_⟩⟩
  have SA:=SA.trans S13
  refine ⟨vr2,v,t,hd,rfl,hf2,hA.same SA,ho,fun H14 S14=>?_⟩
  have SA:=SA.trans S14
  exists Bool.not_true
  have W6:=W5.same SA
  have h6:=SA l _ h5
  clear S10 S11 S12 S13 S14 hfr hf2 SA h5 W5 hA fs
  have tk2:Txt.split t.tx (" ":Str)=t.ws:=tk.2
  first | rw [aS] | (dsimp only; rw [aS])
  walk_at "w0"
  refine ⟨by decide,szM (by omega),by rw [tk2]; exact szM (by omega),fun wl hwl=>?_⟩
  rw [tk2]
  have nwl:=W6.ne hwl
  have S7:=aG hwl (.lst (t.ws.map V.str))
  have W7:=W6.same S7
  have h7:=S7 l _ h6
  have e7:upd H14 wl (.lst (t.ws.map V.str)) wl=some (.lst (t.ws.map V.str)):=aB
  generalize upd H14 wl (.lst (t.ws.map V.str))=H15 at *
  clear S7 W6 h6
  first | rw [aS] | (dsimp only; rw [aS])
  walk_at "w0"
  refine ⟨_,.inl (SqL.of e7),?_⟩
  have wn:=List.length_pos_iff.mpr (gA t)
  refine qA W7 (by rw [List.length_map]; omega) (by rw [List.length_map]; omega) fun k H16 k0 k1 W8 B8=>?_
  rw [List.length_map] at k1
  have e8:=B8 wl _ nwl e7
  have h8:=B8 l _ l0 h7
  clear B8 e7 h7 W7
  walk_at "w0"
  first | rw [aS] | (dsimp only; rw [aS])
  walk_at "w0"
  have ls:∀ u:Str,u.length≤20→t.tx.length+u.length≤sizeLine:=fun u h=>szM (by omega)
  have oc:=BC3 wf (by omega) k.toNat
  refine ⟨szM (by show 1+t.tx.length≤1000000; omega),ls _ (by decide),wl,_,rfl,SqL.of e8,fun q1 hq1=>?_⟩
  rw [AV3 k0 (by omega)]
  have S1:=aG hq1 (.lst ((t.ws.take k.toNat).map V.str))
  refine ⟨sz8 (by decide),fun q2 hq2=>?_⟩
  have S2:=aG hq2 (.lst [.str ""])
  refine ⟨q1,q2,_,_,rfl,rfl,S2 _ _ aB,aB,szM ?_,fun q3 hq3=>?_⟩
  ·rw [List.length_map,List.length_take]
   show min k.toNat t.ws.length+1≤1000000
   omega
  have S3:=aG hq3 (.lst ((t.ws.take k.toNat).map V.str++[.str ""]))
  have S123:=S1.trans (S2.trans S3)
  refine ⟨wl,_,rfl,SqL.of (S123 _ _ e8),fun q4 hq4=>?_⟩
  rw [AV4 k0 (by omega)]
  have S4:=aG hq4 (.lst ((t.ws.drop k.toNat).map V.str))
  refine ⟨q3,q4,_,_,rfl,rfl,S4 _ _ aB,aB,szM ?_,fun q5 hq5=>?_⟩
  ·rw [List.length_append,List.length_map,List.length_map,List.length_take,List.length_drop]
   show min k.toNat t.ws.length+1+_≤1000000
   omega
  have ej:((t.ws.take k.toNat).map V.str++[.str ""]++(t.ws.drop k.toNat).map V.str)=(t.ws.take k.toNat++[("":Str)]++t.ws.drop k.toNat).map V.str:=by rw [List.map_append,List.map_append]; rfl
  rw [ej]
  have S5:=S123.trans (S4.trans (aG hq5 (.lst ((t.ws.take k.toNat++[("":Str)]++t.ws.drop k.toNat).map V.str))))
  refine ⟨sp1,q5,t.ws.take k.toNat++[("":Str)]++t.ws.drop k.toNat,rfl,rfl,aB,gP (by simp) oc.1.1 (by decide),?_⟩
  rw [pY]
  have W9:=W8.same S5
  have h9:=S5 _ _ h8
  generalize upd (upd (upd (upd (upd H16 q1 (.lst ((t.ws.take k.toNat).map V.str))) q2 (.lst [.str ""])) q3 (.lst ((t.ws.take k.toNat).map V.str++[.str ""]))) q4 (.lst ((t.ws.drop k.toNat).map V.str))) q5 (.lst ((t.ws.take k.toNat++[("":Str)]++t.ws.drop k.toNat).map V.str))=H17 at *
  clear S1 S2 S3 S123 S4 S5 W8 h8 e8 ej hq1 hq2 hq3 hq4 hq5
  generalize Str.join sp1 (t.ws.take k.toNat++[("":Str)]++t.ws.drop k.toNat)=uc at *
  refine ⟨ls _ (by decide),ls _ (by decide),ls _ (by decide),sz8 (by decide),fun q6 hq6=>?_⟩
  have S6:=aG hq6 (.lst [.str ((" ":Str)++t.tx),.str (t.tx++(" ":Str)),.str uc,.str (t.tx++(" :":Str)),.str (t.tx++(" )":Str)),.str (t.tx++("\n":Str))])
  have e10:upd H17 q6 (.lst [.str ((" ":Str)++t.tx),.str (t.tx++(" ":Str)),.str uc,.str (t.tx++(" :":Str)),.str (t.tx++(" )":Str)),.str (t.tx++("\n":Str))]) q6=some (.lst [.str ((" ":Str)++t.tx),.str (t.tx++(" ":Str)),.str uc,.str (t.tx++(" :":Str)),.str (t.tx++(" )":Str)),.str (t.tx++("\n":Str))]):=aB
  have W10:=W9.same S6
  have h10:=S6 _ _ h9
  generalize upd H17 q6 (.lst [.str ((" ":Str)++t.tx),.str (t.tx++(" ":Str)),.str uc,.str (t.tx++(" :":Str)),.str (t.tx++(" )":Str)),.str (t.tx++("\n":Str))])=H18 at *
  clear S6 W9 h9
  first | rw [aS] | (dsimp only; rw [aS])
  walk_at "w0"
  refine ⟨szM (by show 4+t.tx.length≤1000000; omega),by decide,by omega,by decide,szM (by show 4 * (1+k % 4).toNat≤1000000; omega),ls _ (by decide),sz8 (by decide),fun p1 hp1=>⟨sz8 (by decide),fun p2 hp2=>?_⟩⟩
  have hnot:=BC8 (n:=1+k % 4) (by omega) (by omega)
  generalize (⟨(List.replicate (1+k % 4).toNat ("not ":Str).cps).foldl (·++·) #[]⟩:Str)=un at *
  have S1:=aG hp1 (.lst [.str t.tx])
  have n1:=W10.ne hp1
  have e1:upd H18 p1 (.lst [.str t.tx]) p1=some (.lst [.str t.tx]):=aB
  have W11:=W10.same S1
  have h11:=S1 _ _ h10
  have e11:=S1 _ _ e10
  generalize upd H18 p1 (.lst [.str t.tx])=H19 at *
  clear W10 h10 e10 S1 hp1
  have S2:=aG hp2 (.lst [.str (("any ":Str)++t.tx),.str "",.str " ",.str un,.str (t.tx++(" & any":Str)),.non,.int 5,.ref p1,.bl true])
  refine ⟨q6,p2,_,_,rfl,rfl,S2 _ _ e11,aB,sz8 (show 15≤1000 by decide),fun q9 hq9=>?_⟩
  have n9:=(W11.same S2).ne hq9
  have S3:=aG hq9 (.lst ([.str ((" ":Str)++t.tx),.str (t.tx++(" ":Str)),.str uc,.str (t.tx++(" :":Str)),.str (t.tx++(" )":Str)),.str (t.tx++("\n":Str))]++[.str (("any ":Str)++t.tx),.str "",.str " ",.str un,.str (t.tx++(" & any":Str)),.non,.int 5,.ref p1,.bl true]))
  have ln:([.str ((" ":Str)++t.tx),.str (t.tx++(" ":Str)),.str uc,.str (t.tx++(" :":Str)),.str (t.tx++(" )":Str)),.str (t.tx++("\n":Str))]++[.str (("any ":Str)++t.tx),.str "",.str " ",.str un,.str (t.tx++(" & any":Str)),.non,.int 5,.ref p1,.bl true]:List V).length=15:=rfl
  have all:∀ x∈([.str ((" ":Str)++t.tx),.str (t.tx++(" ":Str)),.str uc,.str (t.tx++(" :":Str)),.str (t.tx++(" )":Str)),.str (t.tx++("\n":Str))]++[.str (("any ":Str)++t.tx),.str "",.str " ",.str un,.str (t.tx++(" & any":Str)),.non,.int 5,.ref p1,.bl true]:List V),∀ H:Hp,H p1=some (.lst [.str t.tx])→OddR K H x:=by
   have h9:t.ws.length≤900:=by omega
   have T:∀ {u:Str}{H:Hp},wF u→OddR K H (.str u):=fun o=>.inl ⟨_,rfl,o⟩
   have ac:∀ {P:V→Prop}{x:V}{l:List V},P x→(∀ y∈l,P y)→∀ y∈x::l,P y:=fun h g=>List.forall_mem_cons.mpr ⟨h,g⟩
   have an:∀ {P:V→Prop},∀ y∈([]:List V),P y:=fun y h=>absurd h List.not_mem_nil
   refine List.forall_mem_append.mpr ⟨ac ?_ (ac ?_ (ac ?_ (ac ?_ (ac ?_ (ac ?_ (an)))))),ac ?_ (ac ?_ (ac ?_ (ac ?_ (ac ?_ (ac ?_ (ac ?_ (ac ?_ (ac ?_ (an)))))))))⟩
   ·exact fun H _=>T (BC2 wf h9)
   ·exact fun H _=>T (AF1 wf h9 (w:="") (r:=[]) (all_cons tok_none.h cP) (by decide) (by decide) (by decide))
   ·exact fun H _=>T oc
   ·exact fun H _=>T (AF1 wf h9 (w:=":") (r:=[]) (all_cons tok_colon.h cP) (by decide) (by decide) (by decide))
   ·exact fun H _=>T (AF1 wf h9 (w:=")") (r:=[]) (all_cons tok_shut.h cP) (by decide) (by decide) (by decide))
   ·exact fun H _=>T (BC4 wf h9)
   ·exact fun H _=>T (BC5 wf h9)
   ·exact fun H _=>T BC6
   ·exact fun H _=>T BC7
   ·exact fun H _=>T hnot
   ·exact fun H _=>T (AF1 wf h9 (w:="&") (r:=["any"]) (all_cons tok_and.h (all_cons tok_any.h cP)) (by decide) (by decide) (by decide))
   ·exact fun H _=>.inr ⟨_,.non,by kernel_rfl⟩
   ·exact fun H _=>.inr ⟨_,.int _,by kernel_rfl⟩
   ·exact fun H e=>.inr ⟨_,.lst e,by kernel_rfl⟩
   ·exact fun H _=>.inr ⟨_,.bl _,by kernel_rfl⟩
  generalize ([.str ((" ":Str)++t.tx),.str (t.tx++(" ":Str)),.str uc,.str (t.tx++(" :":Str)),.str (t.tx++(" )":Str)),.str (t.tx++("\n":Str))]++[.str (("any ":Str)++t.tx),.str "",.str " ",.str un,.str (t.tx++(" & any":Str)),.non,.int 5,.ref p1,.bl true]:List V)=os at *
  have W12:=W11.same (S2.trans S3)
  have h12:=(S2.trans S3) _ _ h11
  have e12:=(S2.trans S3) _ _ e1
  have o12:upd (upd H19 p2 (.lst [.str (("any ":Str)++t.tx),.str "",.str " ",.str un,.str (t.tx++(" & any":Str)),.non,.int 5,.ref p1,.bl true])) q9 (.lst os) q9=some (.lst os):=aB
  generalize upd (upd H19 p2 (.lst [.str (("any ":Str)++t.tx),.str "",.str " ",.str un,.str (t.tx++(" & any":Str)),.non,.int 5,.ref p1,.bl true])) q9 (.lst os)=H20 at *
  clear S2 S3 W11 h11 e11 e1 hp2 hq9 hq6
  first | rw [aS] | (dsimp only; rw [aS])
  walk_at "w0"
  refine ⟨_,.inl (SqL.of o12),?_⟩
  refine qA W12 (by omega) (by omega) fun j H21 j0 j1 W13 B13=>?_
  have h13:=B13 l _ l0 h12
  have e13:=B13 _ _ n1 e12
  have o13:=B13 _ _ n9 o12
  clear B13 h12 e12 o12 W12
  obtain ⟨x,hx,ex⟩:=oU j0 j1
  refine ixl (SqL.of o13) ex ?_
  refine ⟨x,rfl,(all x hx _ e13).to,fun H22 S22=>?_⟩
  have W14:=W13.same S22
  have h14:=S22 _ _ h13
  have e14:=S22 _ _ e13
  have o14:=S22 _ _ o13
  clear S22 h13 e13 o13 W13
  exists Bool.not_true
  refine ⟨_,.inl (SqL.of o14),?_⟩
  refine qA W14 (by omega) (by omega) fun j2 H23 j20 j21 W15 B15=>?_
  have h15:=B15 l _ l0 h14
  have e15:=B15 _ _ n1 e14
  have o15:=B15 _ _ n9 o14
  obtain ⟨x2,hx2,ex2⟩:=oU j20 j21
  refine ixl (SqL.of o15) ex2 ?_
  refine ⟨x2,rfl,(all x2 hx2 _ e15).to,fun H24 S24=>?_⟩
  exists Bool.not_true
  exact ⟨⟨_,_,_,_,_,_,_,_,_,rfl⟩,S24 _ _ h15⟩
 ·rintro σ H1 ⟨⟨s1,s2,s3,s4,s5,s6,s7,s8,s9,rfl⟩,h1⟩
  walk_at "w0"
  exact q _
end
end Bw
namespace Hd
open PySem PySem.W L2
set_option maxRecDepth 100000
set_option maxHeartbeats 0
class AT where
 p:Program
 a:List Str
 t:List String
class CP where
 P:Params
section
variable [A:AT]
noncomputable def s (i:Nat):Str:=A.a.getD i Str.empty
noncomputable def t (i:Nat):String:=A.t.getD i ""
noncomputable def stm (i:Nat):Stmt:=A.p.main.body.getD i (.Pass ⟨0,0,0,0⟩)
noncomputable abbrev N:Obj→BT→BT→BT:=BT.node
noncomputable abbrev L:BT:=BT.nil
open PyData
noncomputable section
variable [c:CP]
noncomputable def ob (i:Nat) (x:Array Value):Obj:=Obj.mk (.type (t i)) none (.fields x) #[]
noncomputable def sq (i:Nat) (x:Array Value):Obj:=Obj.mk (.type (t i)) none (.seq x 0) #[]
noncomputable def fo (i n q:Nat) (x:Stmt) (k:Nat) (g:List Addr) (d e y:Value) (v:Nat) (u:Tok) (z:Addr):Obj:=Obj.mk (.type (t i)) none (.func (FuncData.mk (s n) (s q) (aV x) (FuncBody.stmts (aQ x)) (aE x) k [] d e y (.str (s v) u) none (.ref z) .none 0)) #[]
noncomputable abbrev f (n:Nat) (k:Tok):Value:=.str (s n) k
noncomputable abbrev r (n:Addr):Value:=.ref n
noncomputable abbrev j (n:Int) (k:Tok):Value:=.int n k
noncomputable def d (i:Nat) (k:Tok) (v:Value):DictEntry:=DictEntry.mk (keyHash c.P (s i)) (f i k) v
noncomputable def di (x:Array DictEntry) (n:Nat):Obj:=Obj.mk (.type (t 4)) none (.dict x n) #[]
noncomputable def fn (n q:Nat) (x:Stmt):Obj:=Obj.mk .none none (.func (FuncData.mk (s n) (s q) (aV x) (FuncBody.stmts (aQ x)) (aE x) 0 [] .none .none .none .none none .none .none 0)) #[]
noncomputable def fd (x:Array Value):Obj:=Obj.mk .none none (.fields x) #[]
noncomputable abbrev i (n:Int):Value:=.int n 0
noncomputable abbrev u:Value:=.none
noncomputable abbrev T (n:Nat):Value:=.type (t n)
noncomputable abbrev bi (n:Nat):Value:=.builtin (t n)
def o00:Obj:=sq 3 #[]
def o01:Obj:=fd #[]
def o02:Obj:=ob 2 #[(f 56 182),(f 56 183),(f 1 184),(i 1),(i 0),(i 0),(i 0),(i 0),(r 11),(.bool false),(i 181),(r 12),u,u,u,u,(i 185),(i 1),(f 1 186)]
def o03:Obj:=(Obj.mk (.type (t 10)) none .plain #[(some (r 13)),(some (r 3)),(some (r 3)),none,(some (f 145 164)),none,(some (r 0))])
def o04:Obj:=di #[(d 17 165 (f 70 194)),(d 13 166 .none),(d 19 167 .none),(d 20 168 (bi 5)),(d 21 169 .none),(d 22 170 (r 6)),(d 23 171 (r 4)),(d 24 173 (f 1 172)),(d 25 174 .none),(d 26 193 (r 21)),(d 27 213 (r 31))] 11
def o05:Obj:=fd #[(i 1),(i 0),(r 20),(i 5),(i 0),(r 27)]
def o06:Obj:=sq 3 #[(f 143 190)]
def o07:Obj:=fn 26 26 (stm 0)
def o08:Obj:=ob 2 #[(f 26 187),(f 26 188),(f 1 189),(i 1),(i 1),(i 0),(i 0),(i 3),(r 15),(.bool true),(i 181),(r 16),u,(r 17),(r 18),(r 19),(i 191),(i 1),(f 1 192)]
def o09:Obj:=fo 6 26 26 (stm 0) 3 [] .none .none .none 145 164 20
def o0a:Obj:=sq 3 #[(T 11)]
def o0b:Obj:=ob 0 #[(bi 8),(T 9)]
def o0c:Obj:=di #[(d 6 203 (f 70 194)),(d 66 205 (f 27 204)),(d 8 207 (j 5 206)),(d 10 208 (r 29))] 4
def o0d:Obj:=ob 2 #[(f 27 198),(f 27 199),(f 1 200),(i 5),(i 0),(i 0),(i 0),(i 0),(r 25),(.bool false),(i 181),(r 26),u,u,u,u,(i 201),(i 5),(f 1 202)]
def o0e:Obj:=(Obj.mk (.type (t 10)) none .plain #[(some (r 27)),(some (r 3)),(some (r 24)),none,(some (f 70 194)),none,(some (r 0))])
def o0f:Obj:=di #[(d 6 203 (f 70 194)),(d 8 207 (j 5 206)),(d 10 208 (r 29)),(d 12 210 (r 32)),(d 13 211 .none)] 3
def o0g:Obj:=(Obj.mk (.type (t 9)) none (.cls (ClassData.mk (s 27) [(T 11)] [(r 31),(T 11),(T 12),(T 13),(T 14)] 30 (s 27) true [] [] false none false)) #[(some (r 22)),none,(some (f 27 196)),(some (f 27 204)),(some (bi 15)),(some (.bool true))])
def o0h:Obj:=ob 17 #[(f 12 209),(r 31),(bi 20),u]
def o0i:Obj:=ob 7 #[(r 31),(r 31),(r 31)]
def o0j:Obj:=ob 0 #[(bi 1),(r 31)]
def o0k:Obj:=di #[(d 17 165 (f 70 194)),(d 13 166 .none),(d 19 167 .none),(d 20 168 (bi 5)),(d 21 169 .none),(d 22 170 (r 6)),(d 23 171 (r 4)),(d 24 173 (f 1 172)),(d 25 174 .none),(d 26 193 (r 21)),(d 27 213 (r 31)),(d 28 229 (r 44))] 12
def o0l:Obj:=fd #[(i 1),(i 0),(r 20),(i 5),(i 0),(r 27),(i 7),(i 0),(r 40)]
def o0m:Obj:=(Obj.mk (.type (t 9)) none (.cls (ClassData.mk (s 27) [(T 11)] [(r 31),(T 11),(T 12),(T 13),(T 14)] 30 (s 27) true [] [(r 44)] false none false)) #[(some (r 22)),none,(some (f 27 196)),(some (f 27 204)),(some (bi 15)),(some (.bool true))])
def o0n:Obj:=sq 3 #[(r 31)]
def o0o:Obj:=di #[(d 6 221 (f 70 194)),(d 66 223 (f 28 222)),(d 8 225 (j 7 224)),(d 10 226 (r 42))] 4
def o0p:Obj:=ob 2 #[(f 28 216),(f 28 217),(f 1 218),(i 7),(i 0),(i 0),(i 0),(i 0),(r 38),(.bool false),(i 181),(r 39),u,u,u,u,(i 219),(i 7),(f 1 220)]
def o0q:Obj:=(Obj.mk (.type (t 10)) none .plain #[(some (r 40)),(some (r 3)),(some (r 37)),none,(some (f 70 194)),none,(some (r 0))])
def o0r:Obj:=di #[(d 6 221 (f 70 194)),(d 8 225 (j 7 224)),(d 10 226 (r 42)),(d 13 227 .none)] 2
def o0s:Obj:=(Obj.mk (.type (t 9)) none (.cls (ClassData.mk (s 28) [(r 31)] [(r 44),(r 31),(T 11),(T 12),(T 13),(T 14)] 43 (s 28) true [] [] false none false)) #[(some (r 35)),none,(some (f 28 214)),(some (f 28 222)),(some (bi 15)),(some (.bool true))])
def o0t:Obj:=ob 7 #[(r 44),(r 44),(r 44)]
def o0u:Obj:=ob 0 #[(bi 1),(r 44)]
def o0v:Obj:=di #[(d 17 165 (f 70 194)),(d 13 166 .none),(d 19 167 .none),(d 20 168 (bi 5)),(d 21 169 .none),(d 22 170 (r 6)),(d 23 171 (r 4)),(d 24 173 (f 1 172)),(d 25 174 .none),(d 26 193 (r 21)),(d 27 213 (r 31)),(d 28 229 (r 44)),(d 29 245 (r 56))] 13
def o0w:Obj:=fd #[(i 1),(i 0),(r 20),(i 5),(i 0),(r 27),(i 7),(i 0),(r 40),(i 9),(i 0),(r 52)]
def o0x:Obj:=(Obj.mk (.type (t 9)) none (.cls (ClassData.mk (s 27) [(T 11)] [(r 31),(T 11),(T 12),(T 13),(T 14)] 30 (s 27) true [] [(r 44),(r 56)] false none false)) #[(some (r 22)),none,(some (f 27 196)),(some (f 27 204)),(some (bi 15)),(some (.bool true))])
def o0y:Obj:=di #[(d 6 237 (f 70 194)),(d 66 239 (f 29 238)),(d 8 241 (j 9 240)),(d 10 242 (r 54))] 4
def o0z:Obj:=ob 2 #[(f 29 232),(f 29 233),(f 1 234),(i 9),(i 0),(i 0),(i 0),(i 0),(r 50),(.bool false),(i 181),(r 51),u,u,u,u,(i 235),(i 9),(f 1 236)]
def o0A:Obj:=(Obj.mk (.type (t 10)) none .plain #[(some (r 52)),(some (r 3)),(some (r 49)),none,(some (f 70 194)),none,(some (r 0))])
def o0B:Obj:=di #[(d 6 237 (f 70 194)),(d 8 241 (j 9 240)),(d 10 242 (r 54)),(d 13 243 .none)] 2
def o0C:Obj:=(Obj.mk (.type (t 9)) none (.cls (ClassData.mk (s 29) [(r 31)] [(r 56),(r 31),(T 11),(T 12),(T 13),(T 14)] 55 (s 29) true [] [] false none false)) #[(some (r 47)),none,(some (f 29 230)),(some (f 29 238)),(some (bi 15)),(some (.bool true))])
def o0D:Obj:=ob 7 #[(r 56),(r 56),(r 56)]
def o0E:Obj:=ob 0 #[(bi 1),(r 56)]
def o0F:Obj:=di #[(d 17 165 (f 70 194)),(d 13 166 .none),(d 19 167 .none),(d 20 168 (bi 5)),(d 21 169 .none),(d 22 170 (r 6)),(d 23 171 (r 4)),(d 24 173 (f 1 172)),(d 25 174 .none),(d 26 193 (r 21)),(d 27 213 (r 31)),(d 28 229 (r 44)),(d 29 245 (r 56)),(d 30 261 (r 68))] 14
def o0G:Obj:=fd #[(i 1),(i 0),(r 20),(i 5),(i 0),(r 27),(i 7),(i 0),(r 40),(i 9),(i 0),(r 52),(i 11),(i 0),(r 64)]
def o0H:Obj:=(Obj.mk (.type (t 9)) none (.cls (ClassData.mk (s 27) [(T 11)] [(r 31),(T 11),(T 12),(T 13),(T 14)] 30 (s 27) true [] [(r 44),(r 56),(r 68)] false none false)) #[(some (r 22)),none,(some (f 27 196)),(some (f 27 204)),(some (bi 15)),(some (.bool true))])
def o0I:Obj:=di #[(d 6 253 (f 70 194)),(d 66 255 (f 30 254)),(d 8 257 (j 11 256)),(d 10 258 (r 66))] 4
def o0J:Obj:=ob 2 #[(f 30 248),(f 30 249),(f 1 250),(i 11),(i 0),(i 0),(i 0),(i 0),(r 62),(.bool false),(i 181),(r 63),u,u,u,u,(i 251),(i 11),(f 1 252)]
def o0K:Obj:=(Obj.mk (.type (t 10)) none .plain #[(some (r 64)),(some (r 3)),(some (r 61)),none,(some (f 70 194)),none,(some (r 0))])
def o0L:Obj:=di #[(d 6 253 (f 70 194)),(d 8 257 (j 11 256)),(d 10 258 (r 66)),(d 13 259 .none)] 2
def o0M:Obj:=(Obj.mk (.type (t 9)) none (.cls (ClassData.mk (s 30) [(r 31)] [(r 68),(r 31),(T 11),(T 12),(T 13),(T 14)] 67 (s 30) true [] [] false none false)) #[(some (r 59)),none,(some (f 30 246)),(some (f 30 254)),(some (bi 15)),(some (.bool true))])
def o0N:Obj:=ob 7 #[(r 68),(r 68),(r 68)]
def o0O:Obj:=ob 0 #[(bi 1),(r 68)]
def o0P:Obj:=di #[(d 17 165 (f 70 194)),(d 13 166 .none),(d 19 167 .none),(d 20 168 (bi 5)),(d 21 169 .none),(d 22 170 (r 6)),(d 23 171 (r 4)),(d 24 173 (f 1 172)),(d 25 174 .none),(d 26 193 (r 21)),(d 27 213 (r 31)),(d 28 229 (r 44)),(d 29 245 (r 56)),(d 30 261 (r 68)),(d 31 277 (r 80))] 15
def o0Q:Obj:=fd #[(i 1),(i 0),(r 20),(i 5),(i 0),(r 27),(i 7),(i 0),(r 40),(i 9),(i 0),(r 52),(i 11),(i 0),(r 64),(i 13),(i 0),(r 76)]
def o0R:Obj:=(Obj.mk (.type (t 9)) none (.cls (ClassData.mk (s 27) [(T 11)] [(r 31),(T 11),(T 12),(T 13),(T 14)] 30 (s 27) true [] [(r 44),(r 56),(r 68),(r 80)] false none false)) #[(some (r 22)),none,(some (f 27 196)),(some (f 27 204)),(some (bi 15)),(some (.bool true))])
def o0S:Obj:=di #[(d 6 269 (f 70 194)),(d 66 271 (f 31 270)),(d 8 273 (j 13 272)),(d 10 274 (r 78))] 4
def o0T:Obj:=ob 2 #[(f 31 264),(f 31 265),(f 1 266),(i 13),(i 0),(i 0),(i 0),(i 0),(r 74),(.bool false),(i 181),(r 75),u,u,u,u,(i 267),(i 13),(f 1 268)]
def o0U:Obj:=(Obj.mk (.type (t 10)) none .plain #[(some (r 76)),(some (r 3)),(some (r 73)),none,(some (f 70 194)),none,(some (r 0))])
def o0V:Obj:=di #[(d 6 269 (f 70 194)),(d 8 273 (j 13 272)),(d 10 274 (r 78)),(d 13 275 .none)] 2
def o0W:Obj:=(Obj.mk (.type (t 9)) none (.cls (ClassData.mk (s 31) [(r 31)] [(r 80),(r 31),(T 11),(T 12),(T 13),(T 14)] 79 (s 31) true [] [] false none false)) #[(some (r 71)),none,(some (f 31 262)),(some (f 31 270)),(some (bi 15)),(some (.bool true))])
def o0X:Obj:=ob 7 #[(r 80),(r 80),(r 80)]
def o0Y:Obj:=ob 0 #[(bi 1),(r 80)]
def o0Z:Obj:=di #[(d 17 165 (f 18 333)),(d 13 166 .none),(d 19 167 .none),(d 20 168 (bi 5)),(d 21 169 .none),(d 22 170 (r 6)),(d 23 171 (r 4)),(d 24 173 (f 1 172)),(d 25 174 .none),(d 26 193 (r 21)),(d 27 213 (r 31)),(d 28 229 (r 44)),(d 29 245 (r 56)),(d 30 261 (r 68)),(d 31 277 (r 80)),(d 32 303 (r 100)),(d 33 312 (r 109)),(d 34 320 (r 116)),(d 35 324 (f 36 323)),(d 37 326 (j 8 325)),(d 38 332 (r 121)),(d 39 336 (f 40 335)),(d 41 338 (j 60 337))] 23
def o10:Obj:=fd #[(i 1),(i 0),(r 20),(i 5),(i 0),(r 27),(i 7),(i 0),(r 40),(i 9),(i 0),(r 52),(i 11),(i 0),(r 64),(i 13),(i 0),(r 76),(i 15),(i 0),(r 88),(i 20),(i 0),(r 108),(i 22),(i 0),(r 115),(i 27),(i 0),(r 120)]
def o11:Obj:=(Obj.mk (.type (t 9)) none (.cls (ClassData.mk (s 27) [(T 11)] [(r 31),(T 11),(T 12),(T 13),(T 14)] 30 (s 27) true [] [(r 44),(r 56),(r 68),(r 80),(r 100)] false none false)) #[(some (r 22)),none,(some (f 27 196)),(some (f 27 204)),(some (bi 15)),(some (.bool true))])
def o12:Obj:=di #[(d 6 285 (f 70 194)),(d 66 287 (f 32 286)),(d 8 289 (j 15 288)),(d 9 298 (r 97)),(d 10 300 (r 98))] 5
def o13:Obj:=fd #[(i 17),(i 4),(r 96)]
def o14:Obj:=ob 2 #[(f 32 280),(f 32 281),(f 1 282),(i 15),(i 0),(i 0),(i 0),(i 0),(r 86),(.bool false),(i 181),(r 87),u,u,u,u,(i 283),(i 15),(f 1 284)]
def o15:Obj:=(Obj.mk (.type (t 10)) none .plain #[(some (r 88)),(some (r 3)),(some (r 85)),none,(some (f 70 194)),none,(some (r 0))])
def o16:Obj:=sq 3 #[(j 0 290)]
def o17:Obj:=sq 3 #[(f 2 294),(f 59 295)]
def o18:Obj:=fn 9 79 (aH (stm 7) 0)
def o19:Obj:=ob 2 #[(f 9 291),(f 79 292),(f 1 293),(i 17),(i 2),(i 0),(i 0),(i 3),(r 91),(.bool true),(i 181),(r 92),u,(r 93),(r 94),(r 95),(i 296),(i 17),(f 1 297)]
def o1a:Obj:=fo 6 9 79 (aH (stm 7) 0) 3 [] (r 90) .none .none 70 194 96
def o1b:Obj:=sq 3 #[(f 59 299)]
def o1c:Obj:=di #[(d 6 285 (f 70 194)),(d 8 289 (j 15 288)),(d 9 298 (r 97)),(d 10 300 (r 98)),(d 13 301 .none)] 2
def o1d:Obj:=(Obj.mk (.type (t 9)) none (.cls (ClassData.mk (s 32) [(r 31)] [(r 100),(r 31),(T 11),(T 12),(T 13),(T 14)] 99 (s 32) true [] [] false none false)) #[(some (r 83)),none,(some (f 32 278)),(some (f 32 286)),(some (bi 15)),(some (.bool true))])
def o1e:Obj:=ob 7 #[(r 100),(r 100),(r 100)]
def o1f:Obj:=ob 0 #[(bi 1),(r 100)]
def o1g:Obj:=sq 3 #[(f 146 309)]
def o1h:Obj:=fn 33 33 (stm 9)
def o1i:Obj:=ob 2 #[(f 33 306),(f 33 307),(f 1 308),(i 20),(i 1),(i 0),(i 0),(i 3),(r 103),(.bool true),(i 181),(r 104),u,(r 105),(r 106),(r 107),(i 310),(i 20),(f 1 311)]
def o1j:Obj:=fo 6 33 33 (stm 9) 3 [] .none .none .none 118 304 108
def o1k:Obj:=sq 3 #[(f 146 316),(f 157 317)]
def o1l:Obj:=fn 34 34 (stm 10)
def o1m:Obj:=ob 2 #[(f 34 313),(f 34 314),(f 1 315),(i 22),(i 2),(i 0),(i 0),(i 3),(r 110),(.bool true),(i 181),(r 111),u,(r 112),(r 113),(r 114),(i 318),(i 22),(f 1 319)]
def o1n:Obj:=fo 6 34 34 (stm 10) 3 [] .none .none .none 118 304 115
def o1o:Obj:=fn 38 38 (stm 14)
def o1p:Obj:=ob 2 #[(f 38 327),(f 38 328),(f 1 329),(i 27),(i 1),(i 0),(i 0),(i 3),(r 117),(.bool true),(i 181),(r 118),u,u,u,(r 119),(i 330),(i 27),(f 1 331)]
def o1q:Obj:=fo 6 38 38 (stm 14) 3 [] .none .none .none 132 321 120
def o1r:Obj:=di #[(d 17 165 (f 18 333)),(d 13 166 .none),(d 19 167 .none),(d 20 168 (bi 5)),(d 21 169 .none),(d 22 170 (r 6)),(d 23 171 (r 4)),(d 24 173 (f 1 172)),(d 25 174 .none),(d 26 193 (r 21)),(d 27 213 (r 31)),(d 28 229 (r 44)),(d 29 245 (r 56)),(d 30 261 (r 68)),(d 31 277 (r 80)),(d 32 303 (r 100)),(d 33 312 (r 109)),(d 34 320 (r 116)),(d 35 324 (f 36 323)),(d 37 326 (j 8 325)),(d 38 332 (r 121)),(d 39 336 (f 40 335)),(d 41 338 (j 60 337)),(d 42 344 (r 126)),(d 43 350 (r 131)),(d 44 357 (r 138))] 26
def o1s:Obj:=fd #[(i 1),(i 0),(r 20),(i 5),(i 0),(r 27),(i 7),(i 0),(r 40),(i 9),(i 0),(r 52),(i 11),(i 0),(r 64),(i 13),(i 0),(r 76),(i 15),(i 0),(r 88),(i 20),(i 0),(r 108),(i 22),(i 0),(r 115),(i 27),(i 0),(r 120),(i 34),(i 0),(r 125),(i 38),(i 0),(r 130),(i 42),(i 0),(r 137)]
def o1t:Obj:=fn 42 42 (stm 18)
def o1u:Obj:=ob 2 #[(f 42 339),(f 42 340),(f 1 341),(i 34),(i 1),(i 0),(i 0),(i 3),(r 122),(.bool true),(i 181),(r 123),u,u,u,(r 124),(i 342),(i 34),(f 1 343)]
def o1v:Obj:=fo 6 42 42 (stm 18) 3 [] .none .none .none 18 333 125
def o1w:Obj:=fn 43 43 (stm 19)
def o1x:Obj:=ob 2 #[(f 43 345),(f 43 346),(f 1 347),(i 38),(i 1),(i 0),(i 0),(i 3),(r 127),(.bool true),(i 181),(r 128),u,u,u,(r 129),(i 348),(i 38),(f 1 349)]
def o1y:Obj:=fo 6 43 43 (stm 19) 3 [] .none .none .none 18 333 130
def o1z:Obj:=sq 3 #[(f 16 354)]
def o1A:Obj:=fn 44 44 (stm 20)
def o1B:Obj:=ob 2 #[(f 44 351),(f 44 352),(f 1 353),(i 42),(i 1),(i 0),(i 0),(i 3),(r 132),(.bool true),(i 181),(r 133),u,(r 134),(r 135),(r 136),(i 355),(i 42),(f 1 356)]
def o1C:Obj:=fo 6 44 44 (stm 20) 3 [] .none .none .none 18 333 137
def o1D:Obj:=di #[(d 17 165 (f 18 333)),(d 13 166 .none),(d 19 167 .none),(d 20 168 (bi 5)),(d 21 169 .none),(d 22 170 (r 6)),(d 23 171 (r 4)),(d 24 173 (f 1 172)),(d 25 174 .none),(d 26 193 (r 21)),(d 27 213 (r 31)),(d 28 229 (r 44)),(d 29 245 (r 56)),(d 30 261 (r 68)),(d 31 277 (r 80)),(d 32 303 (r 100)),(d 33 312 (r 109)),(d 34 320 (r 116)),(d 35 324 (f 36 323)),(d 37 326 (j 8 325)),(d 38 332 (r 121)),(d 39 336 (f 40 335)),(d 41 338 (j 60 337)),(d 42 344 (r 126)),(d 43 350 (r 131)),(d 44 357 (r 138)),(d 45 485 (r 246))] 27
def o1E:Obj:=fd #[(i 1),(i 0),(r 20),(i 5),(i 0),(r 27),(i 7),(i 0),(r 40),(i 9),(i 0),(r 52),(i 11),(i 0),(r 64),(i 13),(i 0),(r 76),(i 15),(i 0),(r 88),(i 20),(i 0),(r 108),(i 22),(i 0),(r 115),(i 27),(i 0),(r 120),(i 34),(i 0),(r 125),(i 38),(i 0),(r 130),(i 42),(i 0),(r 137),(i 46),(i 0),(r 144)]
def o1F:Obj:=di #[(d 6 365 (f 18 333)),(d 66 367 (f 45 366)),(d 8 369 (j 46 368)),(d 9 377 (r 152)),(d 106 384 (r 159)),(d 47 391 (r 166)),(d 57 399 (r 173)),(d 51 407 (r 180)),(d 54 415 (r 187)),(d 94 422 (r 194)),(d 49 430 (r 201)),(d 104 437 (r 208)),(d 82 444 (r 215)),(d 14 452 (r 222)),(d 107 460 (r 229)),(d 108 468 (r 236)),(d 109 475 (r 243)),(d 10 478 (r 244))] 18
def o1G:Obj:=fd #[(i 48),(i 4),(r 151),(i 54),(i 4),(r 158),(i 57),(i 4),(r 165),(i 60),(i 4),(r 172),(i 65),(i 4),(r 179),(i 68),(i 4),(r 186),(i 71),(i 4),(r 193),(i 75),(i 4),(r 200),(i 81),(i 4),(r 207),(i 84),(i 4),(r 214),(i 87),(i 4),(r 221),(i 90),(i 4),(r 228),(i 96),(i 4),(r 235),(i 99),(i 4),(r 242)]
def o1H:Obj:=ob 2 #[(f 45 360),(f 45 361),(f 1 362),(i 46),(i 0),(i 0),(i 0),(i 0),(r 142),(.bool false),(i 181),(r 143),u,u,u,u,(i 363),(i 46),(f 1 364)]
def o1I:Obj:=(Obj.mk (.type (t 10)) none .plain #[(some (r 144)),(some (r 3)),(some (r 141)),none,(some (f 18 333)),none,(some (r 0))])
def o1J:Obj:=sq 3 #[(f 2 373),(f 134 374)]
def o1K:Obj:=fn 9 46 (aH (stm 21) 0)
def o1L:Obj:=ob 2 #[(f 9 370),(f 46 371),(f 1 372),(i 48),(i 2),(i 0),(i 0),(i 3),(r 146),(.bool true),(i 181),(r 147),u,(r 148),(r 149),(r 150),(i 375),(i 48),(f 1 376)]
def o1M:Obj:=fo 6 9 46 (aH (stm 21) 0) 3 [] .none .none .none 18 333 151
def o1N:Obj:=sq 3 #[(f 2 381)]
def o1O:Obj:=fn 106 133 (aH (stm 21) 1)
def o1P:Obj:=ob 2 #[(f 106 378),(f 133 379),(f 1 380),(i 54),(i 1),(i 0),(i 0),(i 3),(r 153),(.bool true),(i 181),(r 154),u,(r 155),(r 156),(r 157),(i 382),(i 54),(f 1 383)]
def o1Q:Obj:=fo 6 106 133 (aH (stm 21) 1) 3 [] .none .none .none 18 333 158
def o1R:Obj:=sq 3 #[(f 2 388)]
def o1S:Obj:=fn 47 48 (aH (stm 21) 2)
def o1T:Obj:=ob 2 #[(f 47 385),(f 48 386),(f 1 387),(i 57),(i 1),(i 0),(i 0),(i 3),(r 160),(.bool true),(i 181),(r 161),u,(r 162),(r 163),(r 164),(i 389),(i 57),(f 1 390)]
def o1U:Obj:=fo 6 47 48 (aH (stm 21) 2) 3 [] .none .none .none 18 333 165
def o1V:Obj:=sq 3 #[(f 2 395),(f 16 396)]
def o1W:Obj:=fn 57 58 (aH (stm 21) 3)
def o1X:Obj:=ob 2 #[(f 57 392),(f 58 393),(f 1 394),(i 60),(i 1),(i 0),(i 0),(i 3),(r 167),(.bool true),(i 181),(r 168),u,(r 169),(r 170),(r 171),(i 397),(i 60),(f 1 398)]
def o1Y:Obj:=fo 6 57 58 (aH (stm 21) 3) 3 [] .none .none .none 18 333 172
def o1Z:Obj:=sq 3 #[(f 2 403),(f 16 404)]
def o20:Obj:=fn 51 52 (aH (stm 21) 4)
def o21:Obj:=ob 2 #[(f 51 400),(f 52 401),(f 1 402),(i 65),(i 2),(i 0),(i 0),(i 3),(r 174),(.bool true),(i 181),(r 175),u,(r 176),(r 177),(r 178),(i 405),(i 65),(f 1 406)]
def o22:Obj:=fo 6 51 52 (aH (stm 21) 4) 3 [] .none .none .none 18 333 179
def o23:Obj:=sq 3 #[(f 2 411),(f 16 412)]
def o24:Obj:=fn 54 55 (aH (stm 21) 5)
def o25:Obj:=ob 2 #[(f 54 408),(f 55 409),(f 1 410),(i 68),(i 2),(i 0),(i 0),(i 3),(r 181),(.bool true),(i 181),(r 182),u,(r 183),(r 184),(r 185),(i 413),(i 68),(f 1 414)]
def o26:Obj:=fo 6 54 55 (aH (stm 21) 5) 3 [] .none .none .none 18 333 186
def o27:Obj:=sq 3 #[(f 2 419)]
def o28:Obj:=fn 94 95 (aH (stm 21) 6)
def o29:Obj:=ob 2 #[(f 94 416),(f 95 417),(f 1 418),(i 71),(i 1),(i 0),(i 0),(i 3),(r 188),(.bool true),(i 181),(r 189),u,(r 190),(r 191),(r 192),(i 420),(i 71),(f 1 421)]
def o2a:Obj:=fo 6 94 95 (aH (stm 21) 6) 3 [] .none .none .none 18 333 193
def o2b:Obj:=sq 3 #[(f 2 426),(f 16 427)]
def o2c:Obj:=fn 49 50 (aH (stm 21) 7)
def o2d:Obj:=ob 2 #[(f 49 423),(f 50 424),(f 1 425),(i 75),(i 1),(i 0),(i 0),(i 3),(r 195),(.bool true),(i 181),(r 196),u,(r 197),(r 198),(r 199),(i 428),(i 75),(f 1 429)]
def o2e:Obj:=fo 6 49 50 (aH (stm 21) 7) 3 [] .none .none .none 18 333 200
def o2f:Obj:=sq 3 #[(f 2 434)]
def o2g:Obj:=fn 104 105 (aH (stm 21) 8)
def o2h:Obj:=ob 2 #[(f 104 431),(f 105 432),(f 1 433),(i 81),(i 1),(i 0),(i 0),(i 3),(r 202),(.bool true),(i 181),(r 203),u,(r 204),(r 205),(r 206),(i 435),(i 81),(f 1 436)]
def o2i:Obj:=fo 6 104 105 (aH (stm 21) 8) 3 [] .none .none .none 18 333 207
def o2j:Obj:=sq 3 #[(f 2 441)]
def o2k:Obj:=fn 82 83 (aH (stm 21) 9)
def o2l:Obj:=ob 2 #[(f 82 438),(f 83 439),(f 1 440),(i 84),(i 1),(i 0),(i 0),(i 3),(r 209),(.bool true),(i 181),(r 210),u,(r 211),(r 212),(r 213),(i 442),(i 84),(f 1 443)]
def o2m:Obj:=fo 6 82 83 (aH (stm 21) 9) 3 [] .none .none .none 18 333 214
def o2n:Obj:=sq 3 #[(f 2 448),(f 154 449)]
def o2o:Obj:=fn 14 15 (aH (stm 21) 10)
def o2p:Obj:=ob 2 #[(f 14 445),(f 15 446),(f 1 447),(i 87),(i 2),(i 0),(i 0),(i 3),(r 216),(.bool true),(i 181),(r 217),u,(r 218),(r 219),(r 220),(i 450),(i 87),(f 1 451)]
def o2q:Obj:=fo 6 14 15 (aH (stm 21) 10) 3 [] .none .none .none 18 333 221
def o2r:Obj:=sq 3 #[(f 2 456),(f 85 457)]
def o2s:Obj:=fn 107 113 (aH (stm 21) 11)
def o2t:Obj:=ob 2 #[(f 107 453),(f 113 454),(f 1 455),(i 90),(i 1),(i 0),(i 0),(i 3),(r 223),(.bool true),(i 181),(r 224),u,(r 225),(r 226),(r 227),(i 458),(i 90),(f 1 459)]
def o2u:Obj:=fo 6 107 113 (aH (stm 21) 11) 3 [] .none .none .none 18 333 228
def o2v:Obj:=sq 3 #[(f 2 464),(f 183 465)]
def o2w:Obj:=fn 108 158 (aH (stm 21) 12)
def o2x:Obj:=ob 2 #[(f 108 461),(f 158 462),(f 1 463),(i 96),(i 2),(i 0),(i 0),(i 3),(r 230),(.bool true),(i 181),(r 231),u,(r 232),(r 233),(r 234),(i 466),(i 96),(f 1 467)]
def o2y:Obj:=fo 6 108 158 (aH (stm 21) 12) 3 [] .none .none .none 18 333 235
def o2z:Obj:=sq 3 #[(f 2 472)]
def o2A:Obj:=fn 109 148 (aH (stm 21) 13)
def o2B:Obj:=ob 2 #[(f 109 469),(f 148 470),(f 1 471),(i 99),(i 1),(i 0),(i 0),(i 3),(r 237),(.bool true),(i 181),(r 238),u,(r 239),(r 240),(r 241),(i 473),(i 99),(f 1 474)]
def o2C:Obj:=fo 6 109 148 (aH (stm 21) 13) 3 [] .none .none .none 18 333 242
def o2D:Obj:=sq 3 #[(f 181 476),(f 64 477)]
def o2E:Obj:=di #[(d 6 365 (f 18 333)),(d 8 369 (j 46 368)),(d 9 377 (r 152)),(d 106 384 (r 159)),(d 47 391 (r 166)),(d 57 399 (r 173)),(d 51 407 (r 180)),(d 54 415 (r 187)),(d 94 422 (r 194)),(d 49 430 (r 201)),(d 104 437 (r 208)),(d 82 444 (r 215)),(d 14 452 (r 222)),(d 107 460 (r 229)),(d 108 468 (r 236)),(d 109 475 (r 243)),(d 10 478 (r 244)),(d 11 480 (r 247)),(d 12 482 (r 248)),(d 13 483 .none)] 4
def o2F:Obj:=(Obj.mk (.type (t 9)) none (.cls (ClassData.mk (s 45) [(T 14)] [(r 246),(T 14)] 245 (s 45) true [] [] false none false)) #[none,none,(some (f 45 358)),(some (f 45 366)),(some (bi 16)),(some (.bool true))])
def o2G:Obj:=ob 17 #[(f 11 479),(r 246),(bi 18),(bi 19)]
def o2H:Obj:=ob 17 #[(f 12 481),(r 246),(bi 20),u]
def o2I:Obj:=ob 7 #[(r 246),(r 246),(r 246)]
def o2J:Obj:=ob 0 #[(bi 1),(r 246)]
def o2K:Obj:=di #[(d 6 365 (f 18 333)),(d 66 367 (f 45 366)),(d 8 369 (j 46 368)),(d 9 377 (r 152)),(d 106 384 (r 159)),(d 47 391 (r 166)),(d 57 399 (r 173)),(d 51 407 (r 180)),(d 54 415 (r 187)),(d 94 422 (r 194)),(d 49 430 (r 201)),(d 104 437 (r 208)),(d 82 444 (r 215)),(d 14 452 (r 222))] 14
def o2L:Obj:=fd #[(i 48),(i 4),(r 151),(i 54),(i 4),(r 158),(i 57),(i 4),(r 165),(i 60),(i 4),(r 172),(i 65),(i 4),(r 179),(i 68),(i 4),(r 186),(i 71),(i 4),(r 193),(i 75),(i 4),(r 200),(i 81),(i 4),(r 207),(i 84),(i 4),(r 214),(i 87),(i 4),(r 221)]
def o2M:Obj:=di #[(d 17 165 (f 63 486)),(d 13 166 .none),(d 19 167 .none),(d 20 168 (bi 5)),(d 21 169 .none),(d 22 170 (r 6)),(d 23 171 (r 4)),(d 24 173 (f 1 172)),(d 25 174 .none),(d 26 193 (r 21)),(d 27 213 (r 31)),(d 28 229 (r 44)),(d 29 245 (r 56)),(d 30 261 (r 68)),(d 31 277 (r 80)),(d 32 303 (r 100)),(d 33 312 (r 109)),(d 34 320 (r 116)),(d 35 324 (f 36 323)),(d 37 326 (j 8 325)),(d 38 332 (r 121)),(d 39 336 (f 40 335)),(d 41 338 (j 60 337)),(d 42 344 (r 126)),(d 43 350 (r 131)),(d 44 357 (r 138)),(d 45 485 (r 246)),(d 98 507 (r 260))] 28
def o2N:Obj:=fd #[(i 1),(i 0),(r 20),(i 5),(i 0),(r 27),(i 7),(i 0),(r 40),(i 9),(i 0),(r 52),(i 11),(i 0),(r 64),(i 13),(i 0),(r 76),(i 15),(i 0),(r 88),(i 20),(i 0),(r 108),(i 22),(i 0),(r 115),(i 27),(i 0),(r 120),(i 34),(i 0),(r 125),(i 38),(i 0),(r 130),(i 42),(i 0),(r 137),(i 46),(i 0),(r 144),(i 102),(i 0),(r 256)]
def o2O:Obj:=di #[(d 6 495 (f 63 486)),(d 66 497 (f 98 496)),(d 8 499 (j 102 498)),(d 10 500 (r 258))] 4
def o2P:Obj:=ob 2 #[(f 98 490),(f 98 491),(f 1 492),(i 102),(i 0),(i 0),(i 0),(i 0),(r 254),(.bool false),(i 181),(r 255),u,u,u,u,(i 493),(i 102),(f 1 494)]
def o2Q:Obj:=(Obj.mk (.type (t 10)) none .plain #[(some (r 256)),(some (r 3)),(some (r 253)),none,(some (f 63 486)),none,(some (r 0))])
def o2R:Obj:=di #[(d 6 495 (f 63 486)),(d 8 499 (j 102 498)),(d 10 500 (r 258)),(d 11 502 (r 261)),(d 12 504 (r 262)),(d 13 505 .none)] 4
def o2S:Obj:=(Obj.mk (.type (t 9)) none (.cls (ClassData.mk (s 98) [(T 14)] [(r 260),(T 14)] 259 (s 98) true [] [] false none false)) #[none,none,(some (f 98 488)),(some (f 98 496)),(some (bi 16)),(some (.bool true))])
def o2T:Obj:=ob 17 #[(f 11 501),(r 260),(bi 18),(bi 19)]
def o2U:Obj:=ob 17 #[(f 12 503),(r 260),(bi 20),u]
def o2V:Obj:=ob 7 #[(r 260),(r 260),(r 260)]
def o2W:Obj:=ob 0 #[(bi 1),(r 260)]
def o2X:Obj:=di #[(d 17 165 (f 63 486)),(d 13 166 .none),(d 19 167 .none),(d 20 168 (bi 5)),(d 21 169 .none),(d 22 170 (r 6)),(d 23 171 (r 4)),(d 24 173 (f 1 172)),(d 25 174 .none),(d 26 193 (r 21)),(d 27 213 (r 31)),(d 28 229 (r 44)),(d 29 245 (r 56)),(d 30 261 (r 68)),(d 31 277 (r 80)),(d 32 303 (r 100)),(d 33 312 (r 109)),(d 34 320 (r 116)),(d 35 324 (f 36 323)),(d 37 326 (j 8 325)),(d 38 332 (r 121)),(d 39 336 (f 40 335)),(d 41 338 (j 60 337)),(d 42 344 (r 126)),(d 43 350 (r 131)),(d 44 357 (r 138)),(d 45 485 (r 246)),(d 98 507 (r 260)),(d 99 551 (r 295))] 29
def o2Y:Obj:=fd #[(i 1),(i 0),(r 20),(i 5),(i 0),(r 27),(i 7),(i 0),(r 40),(i 9),(i 0),(r 52),(i 11),(i 0),(r 64),(i 13),(i 0),(r 76),(i 15),(i 0),(r 88),(i 20),(i 0),(r 108),(i 22),(i 0),(r 115),(i 27),(i 0),(r 120),(i 34),(i 0),(r 125),(i 38),(i 0),(r 130),(i 42),(i 0),(r 137),(i 46),(i 0),(r 144),(i 102),(i 0),(r 256),(i 104),(i 0),(r 270)]
def o2Z:Obj:=(Obj.mk (.type (t 9)) none (.cls (ClassData.mk (s 98) [(T 14)] [(r 260),(T 14)] 259 (s 98) true [] [(r 295)] false none false)) #[none,none,(some (f 98 488)),(some (f 98 496)),(some (bi 16)),(some (.bool true))])
def o30:Obj:=sq 3 #[(r 260)]
def o31:Obj:=di #[(d 6 515 (f 63 486)),(d 66 517 (f 99 516)),(d 8 519 (j 104 518)),(d 68 527 (r 278)),(d 61 537 (r 285)),(d 69 547 (r 292)),(d 10 548 (r 293))] 7
def o32:Obj:=fd #[(i 106),(i 4),(r 277),(i 109),(i 4),(r 284),(i 112),(i 4),(r 291)]
def o33:Obj:=ob 2 #[(f 99 510),(f 99 511),(f 1 512),(i 104),(i 0),(i 0),(i 0),(i 0),(r 268),(.bool false),(i 181),(r 269),u,u,u,u,(i 513),(i 104),(f 1 514)]
def o34:Obj:=(Obj.mk (.type (t 10)) none .plain #[(some (r 270)),(some (r 3)),(some (r 267)),none,(some (f 63 486)),none,(some (r 0))])
def o35:Obj:=sq 3 #[(f 2 523),(f 144 524)]
def o36:Obj:=fn 68 91 (aH (stm 24) 0)
def o37:Obj:=ob 2 #[(f 68 520),(f 91 521),(f 1 522),(i 106),(i 2),(i 0),(i 0),(i 3),(r 272),(.bool true),(i 181),(r 273),u,(r 274),(r 275),(r 276),(i 525),(i 106),(f 1 526)]
def o38:Obj:=fo 6 68 91 (aH (stm 24) 0) 3 [] .none .none .none 63 486 277
def o39:Obj:=sq 3 #[(f 2 531),(f 76 532),(f 77 533),(f 78 534)]
def o3a:Obj:=fn 61 170 (aH (stm 24) 1)
def o3b:Obj:=ob 2 #[(f 61 528),(f 170 529),(f 1 530),(i 109),(i 4),(i 0),(i 0),(i 3),(r 279),(.bool true),(i 181),(r 280),u,(r 281),(r 282),(r 283),(i 535),(i 109),(f 1 536)]
def o3c:Obj:=fo 6 61 170 (aH (stm 24) 1) 3 [] .none .none .none 63 486 284
def o3d:Obj:=sq 3 #[(f 2 541),(f 3 542),(f 4 543),(f 5 544)]
def o3e:Obj:=fn 69 125 (aH (stm 24) 2)
def o3f:Obj:=ob 2 #[(f 69 538),(f 125 539),(f 1 540),(i 112),(i 4),(i 0),(i 0),(i 3),(r 286),(.bool true),(i 181),(r 287),u,(r 288),(r 289),(r 290),(i 545),(i 112),(f 1 546)]
def o3g:Obj:=fo 6 69 125 (aH (stm 24) 2) 3 [] .none .none .none 63 486 291
def o3h:Obj:=di #[(d 6 515 (f 63 486)),(d 8 519 (j 104 518)),(d 68 527 (r 278)),(d 61 537 (r 285)),(d 69 547 (r 292)),(d 10 548 (r 293)),(d 13 549 .none)] 2
def o3i:Obj:=(Obj.mk (.type (t 9)) none (.cls (ClassData.mk (s 99) [(r 260)] [(r 295),(r 260),(T 14)] 294 (s 99) true [] [] false none false)) #[(some (r 265)),none,(some (f 99 508)),(some (f 99 516)),(some (bi 16)),(some (.bool true))])
def o3j:Obj:=ob 7 #[(r 295),(r 295),(r 295)]
def o3k:Obj:=ob 0 #[(bi 1),(r 295)]
def o3l:Obj:=di #[(d 17 165 (f 63 486)),(d 13 166 .none),(d 19 167 .none),(d 20 168 (bi 5)),(d 21 169 .none),(d 22 170 (r 6)),(d 23 171 (r 4)),(d 24 173 (f 1 172)),(d 25 174 .none),(d 26 193 (r 21)),(d 27 213 (r 31)),(d 28 229 (r 44)),(d 29 245 (r 56)),(d 30 261 (r 68)),(d 31 277 (r 80)),(d 32 303 (r 100)),(d 33 312 (r 109)),(d 34 320 (r 116)),(d 35 324 (f 36 323)),(d 37 326 (j 8 325)),(d 38 332 (r 121)),(d 39 336 (f 40 335)),(d 41 338 (j 60 337)),(d 42 344 (r 126)),(d 43 350 (r 131)),(d 44 357 (r 138)),(d 45 485 (r 246)),(d 98 507 (r 260)),(d 99 551 (r 295)),(d 0 604 (r 335))] 30
def o3m:Obj:=fd #[(i 1),(i 0),(r 20),(i 5),(i 0),(r 27),(i 7),(i 0),(r 40),(i 9),(i 0),(r 52),(i 11),(i 0),(r 64),(i 13),(i 0),(r 76),(i 15),(i 0),(r 88),(i 20),(i 0),(r 108),(i 22),(i 0),(r 115),(i 27),(i 0),(r 120),(i 34),(i 0),(r 125),(i 38),(i 0),(r 130),(i 42),(i 0),(r 137),(i 46),(i 0),(r 144),(i 102),(i 0),(r 256),(i 104),(i 0),(r 270),(i 114),(i 0),(r 303)]
def o3n:Obj:=(Obj.mk (.type (t 9)) none (.cls (ClassData.mk (s 98) [(T 14)] [(r 260),(T 14)] 259 (s 98) true [] [(r 295),(r 335)] false none false)) #[none,none,(some (f 98 488)),(some (f 98 496)),(some (bi 16)),(some (.bool true))])
def o3o:Obj:=di #[(d 6 559 (f 63 486)),(d 66 561 (f 0 560)),(d 8 563 (j 114 562)),(d 9 571 (r 311)),(d 68 579 (r 318)),(d 61 589 (r 325)),(d 69 599 (r 332)),(d 10 601 (r 333))] 8
def o3p:Obj:=fd #[(i 116),(i 4),(r 310),(i 120),(i 4),(r 317),(i 123),(i 4),(r 324),(i 126),(i 4),(r 331)]
def o3q:Obj:=ob 2 #[(f 0 554),(f 0 555),(f 1 556),(i 114),(i 0),(i 0),(i 0),(i 0),(r 301),(.bool false),(i 181),(r 302),u,u,u,u,(i 557),(i 114),(f 1 558)]
def o3r:Obj:=(Obj.mk (.type (t 10)) none .plain #[(some (r 303)),(some (r 3)),(some (r 300)),none,(some (f 63 486)),none,(some (r 0))])
def o3s:Obj:=sq 3 #[(f 2 567),(f 85 568)]
def o3t:Obj:=fn 9 126 (aH (stm 25) 0)
def o3u:Obj:=ob 2 #[(f 9 564),(f 126 565),(f 1 566),(i 116),(i 2),(i 0),(i 0),(i 3),(r 305),(.bool true),(i 181),(r 306),u,(r 307),(r 308),(r 309),(i 569),(i 116),(f 1 570)]
def o3v:Obj:=fo 6 9 126 (aH (stm 25) 0) 3 [] .none .none .none 63 486 310
def o3w:Obj:=sq 3 #[(f 2 575),(f 144 576)]
def o3x:Obj:=fn 68 136 (aH (stm 25) 1)
def o3y:Obj:=ob 2 #[(f 68 572),(f 136 573),(f 1 574),(i 120),(i 2),(i 0),(i 0),(i 3),(r 312),(.bool true),(i 181),(r 313),u,(r 314),(r 315),(r 316),(i 577),(i 120),(f 1 578)]
def o3z:Obj:=fo 6 68 136 (aH (stm 25) 1) 3 [] .none .none .none 63 486 317
def o3A:Obj:=sq 3 #[(f 2 583),(f 76 584),(f 77 585),(f 78 586)]
def o3B:Obj:=fn 61 81 (aH (stm 25) 2)
def o3C:Obj:=ob 2 #[(f 61 580),(f 81 581),(f 1 582),(i 123),(i 4),(i 0),(i 0),(i 3),(r 319),(.bool true),(i 181),(r 320),u,(r 321),(r 322),(r 323),(i 587),(i 123),(f 1 588)]
def o3D:Obj:=fo 6 61 81 (aH (stm 25) 2) 3 [] .none .none .none 63 486 324
def o3E:Obj:=sq 3 #[(f 2 593),(f 3 594),(f 4 595),(f 5 596)]
def o3F:Obj:=fn 69 100 (aH (stm 25) 3)
def o3G:Obj:=ob 2 #[(f 69 590),(f 100 591),(f 1 592),(i 126),(i 4),(i 0),(i 0),(i 3),(r 326),(.bool true),(i 181),(r 327),u,(r 328),(r 329),(r 330),(i 597),(i 126),(f 1 598)]
def o3H:Obj:=fo 6 69 100 (aH (stm 25) 3) 3 [] .none .none .none 63 486 331
def o3I:Obj:=sq 3 #[(f 85 600)]
def o3J:Obj:=di #[(d 6 559 (f 63 486)),(d 8 563 (j 114 562)),(d 9 571 (r 311)),(d 68 579 (r 318)),(d 61 589 (r 325)),(d 69 599 (r 332)),(d 10 601 (r 333)),(d 13 602 .none)] 2
def o3K:Obj:=(Obj.mk (.type (t 9)) none (.cls (ClassData.mk (s 0) [(r 260)] [(r 335),(r 260),(T 14)] 334 (s 0) true [] [] false none false)) #[(some (r 298)),none,(some (f 0 552)),(some (f 0 560)),(some (bi 16)),(some (.bool true))])
def o3L:Obj:=ob 7 #[(r 335),(r 335),(r 335)]
def o3M:Obj:=ob 0 #[(bi 1),(r 335)]
def o3N:Obj:=di #[(d 17 165 (f 63 486)),(d 13 166 .none),(d 19 167 .none),(d 20 168 (bi 5)),(d 21 169 .none),(d 22 170 (r 6)),(d 23 171 (r 4)),(d 24 173 (f 1 172)),(d 25 174 .none),(d 26 193 (r 21)),(d 27 213 (r 31)),(d 28 229 (r 44)),(d 29 245 (r 56)),(d 30 261 (r 68)),(d 31 277 (r 80)),(d 32 303 (r 100)),(d 33 312 (r 109)),(d 34 320 (r 116)),(d 35 324 (f 36 323)),(d 37 326 (j 8 325)),(d 38 332 (r 121)),(d 39 336 (f 40 335)),(d 41 338 (j 60 337)),(d 42 344 (r 126)),(d 43 350 (r 131)),(d 44 357 (r 138)),(d 45 485 (r 246)),(d 98 507 (r 260)),(d 99 551 (r 295)),(d 0 604 (r 335)),(d 112 657 (r 375))] 31
def o3O:Obj:=fd #[(i 1),(i 0),(r 20),(i 5),(i 0),(r 27),(i 7),(i 0),(r 40),(i 9),(i 0),(r 52),(i 11),(i 0),(r 64),(i 13),(i 0),(r 76),(i 15),(i 0),(r 88),(i 20),(i 0),(r 108),(i 22),(i 0),(r 115),(i 27),(i 0),(r 120),(i 34),(i 0),(r 125),(i 38),(i 0),(r 130),(i 42),(i 0),(r 137),(i 46),(i 0),(r 144),(i 102),(i 0),(r 256),(i 104),(i 0),(r 270),(i 114),(i 0),(r 303),(i 128),(i 0),(r 343)]
def o3P:Obj:=(Obj.mk (.type (t 9)) none (.cls (ClassData.mk (s 98) [(T 14)] [(r 260),(T 14)] 259 (s 98) true [] [(r 295),(r 335),(r 375)] false none false)) #[none,none,(some (f 98 488)),(some (f 98 496)),(some (bi 16)),(some (.bool true))])
def o3Q:Obj:=di #[(d 6 612 (f 63 486)),(d 66 614 (f 112 613)),(d 8 616 (j 128 615)),(d 9 624 (r 351)),(d 68 632 (r 358)),(d 61 642 (r 365)),(d 69 652 (r 372)),(d 10 654 (r 373))] 8
def o3R:Obj:=fd #[(i 130),(i 4),(r 350),(i 134),(i 4),(r 357),(i 137),(i 4),(r 364),(i 140),(i 4),(r 371)]
def o3S:Obj:=ob 2 #[(f 112 607),(f 112 608),(f 1 609),(i 128),(i 0),(i 0),(i 0),(i 0),(r 341),(.bool false),(i 181),(r 342),u,u,u,u,(i 610),(i 128),(f 1 611)]
def o3T:Obj:=(Obj.mk (.type (t 10)) none .plain #[(some (r 343)),(some (r 3)),(some (r 340)),none,(some (f 63 486)),none,(some (r 0))])
def o3U:Obj:=sq 3 #[(f 2 620),(f 85 621)]
def o3V:Obj:=fn 9 87 (aH (stm 26) 0)
def o3W:Obj:=ob 2 #[(f 9 617),(f 87 618),(f 1 619),(i 130),(i 2),(i 0),(i 0),(i 3),(r 345),(.bool true),(i 181),(r 346),u,(r 347),(r 348),(r 349),(i 622),(i 130),(f 1 623)]
def o3X:Obj:=fo 6 9 87 (aH (stm 26) 0) 3 [] .none .none .none 63 486 350
def o3Y:Obj:=sq 3 #[(f 2 628),(f 144 629)]
def o3Z:Obj:=fn 68 156 (aH (stm 26) 1)
def o40:Obj:=ob 2 #[(f 68 625),(f 156 626),(f 1 627),(i 134),(i 2),(i 0),(i 0),(i 3),(r 352),(.bool true),(i 181),(r 353),u,(r 354),(r 355),(r 356),(i 630),(i 134),(f 1 631)]
def o41:Obj:=fo 6 68 156 (aH (stm 26) 1) 3 [] .none .none .none 63 486 357
def o42:Obj:=sq 3 #[(f 2 636),(f 76 637),(f 77 638),(f 78 639)]
def o43:Obj:=fn 61 117 (aH (stm 26) 2)
def o44:Obj:=ob 2 #[(f 61 633),(f 117 634),(f 1 635),(i 137),(i 4),(i 0),(i 0),(i 3),(r 359),(.bool true),(i 181),(r 360),u,(r 361),(r 362),(r 363),(i 640),(i 137),(f 1 641)]
def o45:Obj:=fo 6 61 117 (aH (stm 26) 2) 3 [] .none .none .none 63 486 364
def o46:Obj:=sq 3 #[(f 2 646),(f 3 647),(f 4 648),(f 5 649)]
def o47:Obj:=fn 69 103 (aH (stm 26) 3)
def o48:Obj:=ob 2 #[(f 69 643),(f 103 644),(f 1 645),(i 140),(i 4),(i 0),(i 0),(i 3),(r 366),(.bool true),(i 181),(r 367),u,(r 368),(r 369),(r 370),(i 650),(i 140),(f 1 651)]
def o49:Obj:=fo 6 69 103 (aH (stm 26) 3) 3 [] .none .none .none 63 486 371
def o4a:Obj:=sq 3 #[(f 85 653)]
def o4b:Obj:=di #[(d 6 612 (f 63 486)),(d 8 616 (j 128 615)),(d 9 624 (r 351)),(d 68 632 (r 358)),(d 61 642 (r 365)),(d 69 652 (r 372)),(d 10 654 (r 373)),(d 13 655 .none)] 2
def o4c:Obj:=(Obj.mk (.type (t 9)) none (.cls (ClassData.mk (s 112) [(r 260)] [(r 375),(r 260),(T 14)] 374 (s 112) true [] [] false none false)) #[(some (r 338)),none,(some (f 112 605)),(some (f 112 613)),(some (bi 16)),(some (.bool true))])
def o4d:Obj:=ob 7 #[(r 375),(r 375),(r 375)]
def o4e:Obj:=ob 0 #[(bi 1),(r 375)]
def o4f:Obj:=di #[(d 17 165 (f 63 486)),(d 13 166 .none),(d 19 167 .none),(d 20 168 (bi 5)),(d 21 169 .none),(d 22 170 (r 6)),(d 23 171 (r 4)),(d 24 173 (f 1 172)),(d 25 174 .none),(d 26 193 (r 21)),(d 27 213 (r 31)),(d 28 229 (r 44)),(d 29 245 (r 56)),(d 30 261 (r 68)),(d 31 277 (r 80)),(d 32 303 (r 100)),(d 33 312 (r 109)),(d 34 320 (r 116)),(d 35 324 (f 36 323)),(d 37 326 (j 8 325)),(d 38 332 (r 121)),(d 39 336 (f 40 335)),(d 41 338 (j 60 337)),(d 42 344 (r 126)),(d 43 350 (r 131)),(d 44 357 (r 138)),(d 45 485 (r 246)),(d 98 507 (r 260)),(d 99 551 (r 295)),(d 0 604 (r 335)),(d 112 657 (r 375)),(d 67 710 (r 415))] 32
def o4g:Obj:=fd #[(i 1),(i 0),(r 20),(i 5),(i 0),(r 27),(i 7),(i 0),(r 40),(i 9),(i 0),(r 52),(i 11),(i 0),(r 64),(i 13),(i 0),(r 76),(i 15),(i 0),(r 88),(i 20),(i 0),(r 108),(i 22),(i 0),(r 115),(i 27),(i 0),(r 120),(i 34),(i 0),(r 125),(i 38),(i 0),(r 130),(i 42),(i 0),(r 137),(i 46),(i 0),(r 144),(i 102),(i 0),(r 256),(i 104),(i 0),(r 270),(i 114),(i 0),(r 303),(i 128),(i 0),(r 343),(i 142),(i 0),(r 383)]
def o4h:Obj:=(Obj.mk (.type (t 9)) none (.cls (ClassData.mk (s 98) [(T 14)] [(r 260),(T 14)] 259 (s 98) true [] [(r 295),(r 335),(r 375),(r 415)] false none false)) #[none,none,(some (f 98 488)),(some (f 98 496)),(some (bi 16)),(some (.bool true))])
def o4i:Obj:=di #[(d 6 665 (f 63 486)),(d 66 667 (f 67 666)),(d 8 669 (j 142 668)),(d 9 677 (r 391)),(d 68 685 (r 398)),(d 61 695 (r 405)),(d 69 705 (r 412)),(d 10 707 (r 413))] 8
def o4j:Obj:=fd #[(i 144),(i 4),(r 390),(i 149),(i 4),(r 397),(i 152),(i 4),(r 404),(i 155),(i 4),(r 411)]
def o4k:Obj:=ob 2 #[(f 67 660),(f 67 661),(f 1 662),(i 142),(i 0),(i 0),(i 0),(i 0),(r 381),(.bool false),(i 181),(r 382),u,u,u,u,(i 663),(i 142),(f 1 664)]
def o4l:Obj:=(Obj.mk (.type (t 10)) none .plain #[(some (r 383)),(some (r 3)),(some (r 380)),none,(some (f 63 486)),none,(some (r 0))])
def o4m:Obj:=sq 3 #[(f 2 673),(f 173 674)]
def o4n:Obj:=fn 9 60 (aH (stm 27) 0)
def o4o:Obj:=ob 2 #[(f 9 670),(f 60 671),(f 1 672),(i 144),(i 2),(i 0),(i 0),(i 3),(r 385),(.bool true),(i 181),(r 386),u,(r 387),(r 388),(r 389),(i 675),(i 144),(f 1 676)]
def o4p:Obj:=fo 6 9 60 (aH (stm 27) 0) 3 [] .none .none .none 63 486 390
def o4q:Obj:=sq 3 #[(f 2 681),(f 144 682)]
def o4r:Obj:=fn 68 172 (aH (stm 27) 1)
def o4s:Obj:=ob 2 #[(f 68 678),(f 172 679),(f 1 680),(i 149),(i 2),(i 0),(i 0),(i 3),(r 392),(.bool true),(i 181),(r 393),u,(r 394),(r 395),(r 396),(i 683),(i 149),(f 1 684)]
def o4t:Obj:=fo 6 68 172 (aH (stm 27) 1) 3 [] .none .none .none 63 486 397
def o4u:Obj:=sq 3 #[(f 2 689),(f 76 690),(f 77 691),(f 78 692)]
def o4v:Obj:=fn 61 62 (aH (stm 27) 2)
def o4w:Obj:=ob 2 #[(f 61 686),(f 62 687),(f 1 688),(i 152),(i 4),(i 0),(i 0),(i 3),(r 399),(.bool true),(i 181),(r 400),u,(r 401),(r 402),(r 403),(i 693),(i 152),(f 1 694)]
def o4x:Obj:=fo 6 61 62 (aH (stm 27) 2) 3 [] .none .none .none 63 486 404
def o4y:Obj:=sq 3 #[(f 2 699),(f 3 700),(f 4 701),(f 5 702)]
def o4z:Obj:=fn 69 139 (aH (stm 27) 3)
def o4A:Obj:=ob 2 #[(f 69 696),(f 139 697),(f 1 698),(i 155),(i 4),(i 0),(i 0),(i 3),(r 406),(.bool true),(i 181),(r 407),u,(r 408),(r 409),(r 410),(i 703),(i 155),(f 1 704)]
def o4B:Obj:=fo 6 69 139 (aH (stm 27) 3) 3 [] .none .none .none 63 486 411
def o4C:Obj:=sq 3 #[(f 173 706)]
def o4D:Obj:=di #[(d 6 665 (f 63 486)),(d 8 669 (j 142 668)),(d 9 677 (r 391)),(d 68 685 (r 398)),(d 61 695 (r 405)),(d 69 705 (r 412)),(d 10 707 (r 413)),(d 13 708 .none)] 2
def o4E:Obj:=(Obj.mk (.type (t 9)) none (.cls (ClassData.mk (s 67) [(r 260)] [(r 415),(r 260),(T 14)] 414 (s 67) true [] [] false none false)) #[(some (r 378)),none,(some (f 67 658)),(some (f 67 666)),(some (bi 16)),(some (.bool true))])
def o4F:Obj:=ob 7 #[(r 415),(r 415),(r 415)]
def o4G:Obj:=ob 0 #[(bi 1),(r 415)]
def o4H:Obj:=di #[(d 17 165 (f 63 486)),(d 13 166 .none),(d 19 167 .none),(d 20 168 (bi 5)),(d 21 169 .none),(d 22 170 (r 6)),(d 23 171 (r 4)),(d 24 173 (f 1 172)),(d 25 174 .none),(d 26 193 (r 21)),(d 27 213 (r 31)),(d 28 229 (r 44)),(d 29 245 (r 56)),(d 30 261 (r 68)),(d 31 277 (r 80)),(d 32 303 (r 100)),(d 33 312 (r 109)),(d 34 320 (r 116)),(d 35 324 (f 36 323)),(d 37 326 (j 8 325)),(d 38 332 (r 121)),(d 39 336 (f 40 335)),(d 41 338 (j 60 337)),(d 42 344 (r 126)),(d 43 350 (r 131)),(d 44 357 (r 138)),(d 45 485 (r 246)),(d 98 507 (r 260)),(d 99 551 (r 295)),(d 0 604 (r 335)),(d 112 657 (r 375)),(d 67 710 (r 415)),(d 129 763 (r 455))] 33
def o4I:Obj:=fd #[(i 1),(i 0),(r 20),(i 5),(i 0),(r 27),(i 7),(i 0),(r 40),(i 9),(i 0),(r 52),(i 11),(i 0),(r 64),(i 13),(i 0),(r 76),(i 15),(i 0),(r 88),(i 20),(i 0),(r 108),(i 22),(i 0),(r 115),(i 27),(i 0),(r 120),(i 34),(i 0),(r 125),(i 38),(i 0),(r 130),(i 42),(i 0),(r 137),(i 46),(i 0),(r 144),(i 102),(i 0),(r 256),(i 104),(i 0),(r 270),(i 114),(i 0),(r 303),(i 128),(i 0),(r 343),(i 142),(i 0),(r 383),(i 157),(i 0),(r 423)]
def o4J:Obj:=(Obj.mk (.type (t 9)) none (.cls (ClassData.mk (s 98) [(T 14)] [(r 260),(T 14)] 259 (s 98) true [] [(r 295),(r 335),(r 375),(r 415),(r 455)] false none false)) #[none,none,(some (f 98 488)),(some (f 98 496)),(some (bi 16)),(some (.bool true))])
def o4K:Obj:=di #[(d 6 718 (f 63 486)),(d 66 720 (f 129 719)),(d 8 722 (j 157 721)),(d 9 730 (r 431)),(d 68 738 (r 438)),(d 61 748 (r 445)),(d 69 758 (r 452)),(d 10 760 (r 453))] 8
def o4L:Obj:=fd #[(i 159),(i 4),(r 430),(i 163),(i 4),(r 437),(i 166),(i 4),(r 444),(i 169),(i 4),(r 451)]
def o4M:Obj:=ob 2 #[(f 129 713),(f 129 714),(f 1 715),(i 157),(i 0),(i 0),(i 0),(i 0),(r 421),(.bool false),(i 181),(r 422),u,u,u,u,(i 716),(i 157),(f 1 717)]
def o4N:Obj:=(Obj.mk (.type (t 10)) none .plain #[(some (r 423)),(some (r 3)),(some (r 420)),none,(some (f 63 486)),none,(some (r 0))])
def o4O:Obj:=sq 3 #[(f 2 726),(f 75 727)]
def o4P:Obj:=fn 9 115 (aH (stm 28) 0)
def o4Q:Obj:=ob 2 #[(f 9 723),(f 115 724),(f 1 725),(i 159),(i 2),(i 0),(i 0),(i 3),(r 425),(.bool true),(i 181),(r 426),u,(r 427),(r 428),(r 429),(i 728),(i 159),(f 1 729)]
def o4R:Obj:=fo 6 9 115 (aH (stm 28) 0) 3 [] .none .none .none 63 486 430
def o4S:Obj:=sq 3 #[(f 2 734),(f 144 735)]
def o4T:Obj:=fn 68 140 (aH (stm 28) 1)
def o4U:Obj:=ob 2 #[(f 68 731),(f 140 732),(f 1 733),(i 163),(i 2),(i 0),(i 0),(i 3),(r 432),(.bool true),(i 181),(r 433),u,(r 434),(r 435),(r 436),(i 736),(i 163),(f 1 737)]
def o4V:Obj:=fo 6 68 140 (aH (stm 28) 1) 3 [] .none .none .none 63 486 437
def o4W:Obj:=sq 3 #[(f 2 742),(f 76 743),(f 77 744),(f 78 745)]
def o4X:Obj:=fn 61 127 (aH (stm 28) 2)
def o4Y:Obj:=ob 2 #[(f 61 739),(f 127 740),(f 1 741),(i 166),(i 4),(i 0),(i 0),(i 3),(r 439),(.bool true),(i 181),(r 440),u,(r 441),(r 442),(r 443),(i 746),(i 166),(f 1 747)]
def o4Z:Obj:=fo 6 61 127 (aH (stm 28) 2) 3 [] .none .none .none 63 486 444
def o50:Obj:=sq 3 #[(f 2 752),(f 3 753),(f 4 754),(f 5 755)]
def o51:Obj:=fn 69 92 (aH (stm 28) 3)
def o52:Obj:=ob 2 #[(f 69 749),(f 92 750),(f 1 751),(i 169),(i 4),(i 0),(i 0),(i 3),(r 446),(.bool true),(i 181),(r 447),u,(r 448),(r 449),(r 450),(i 756),(i 169),(f 1 757)]
def o53:Obj:=fo 6 69 92 (aH (stm 28) 3) 3 [] .none .none .none 63 486 451
def o54:Obj:=sq 3 #[(f 75 759)]
def o55:Obj:=di #[(d 6 718 (f 63 486)),(d 8 722 (j 157 721)),(d 9 730 (r 431)),(d 68 738 (r 438)),(d 61 748 (r 445)),(d 69 758 (r 452)),(d 10 760 (r 453)),(d 13 761 .none)] 2
def o56:Obj:=(Obj.mk (.type (t 9)) none (.cls (ClassData.mk (s 129) [(r 260)] [(r 455),(r 260),(T 14)] 454 (s 129) true [] [] false none false)) #[(some (r 418)),none,(some (f 129 711)),(some (f 129 719)),(some (bi 16)),(some (.bool true))])
def o57:Obj:=ob 7 #[(r 455),(r 455),(r 455)]
def o58:Obj:=ob 0 #[(bi 1),(r 455)]
def o59:Obj:=di #[(d 17 165 (f 63 486)),(d 13 166 .none),(d 19 167 .none),(d 20 168 (bi 5)),(d 21 169 .none),(d 22 170 (r 6)),(d 23 171 (r 4)),(d 24 173 (f 1 172)),(d 25 174 .none),(d 26 193 (r 21)),(d 27 213 (r 31)),(d 28 229 (r 44)),(d 29 245 (r 56)),(d 30 261 (r 68)),(d 31 277 (r 80)),(d 32 303 (r 100)),(d 33 312 (r 109)),(d 34 320 (r 116)),(d 35 324 (f 36 323)),(d 37 326 (j 8 325)),(d 38 332 (r 121)),(d 39 336 (f 40 335)),(d 41 338 (j 60 337)),(d 42 344 (r 126)),(d 43 350 (r 131)),(d 44 357 (r 138)),(d 45 485 (r 246)),(d 98 507 (r 260)),(d 99 551 (r 295)),(d 0 604 (r 335)),(d 112 657 (r 375)),(d 67 710 (r 415)),(d 129 763 (r 455)),(d 97 816 (r 495))] 34
def o5a:Obj:=fd #[(i 1),(i 0),(r 20),(i 5),(i 0),(r 27),(i 7),(i 0),(r 40),(i 9),(i 0),(r 52),(i 11),(i 0),(r 64),(i 13),(i 0),(r 76),(i 15),(i 0),(r 88),(i 20),(i 0),(r 108),(i 22),(i 0),(r 115),(i 27),(i 0),(r 120),(i 34),(i 0),(r 125),(i 38),(i 0),(r 130),(i 42),(i 0),(r 137),(i 46),(i 0),(r 144),(i 102),(i 0),(r 256),(i 104),(i 0),(r 270),(i 114),(i 0),(r 303),(i 128),(i 0),(r 343),(i 142),(i 0),(r 383),(i 157),(i 0),(r 423),(i 171),(i 0),(r 463)]
def o5b:Obj:=(Obj.mk (.type (t 9)) none (.cls (ClassData.mk (s 98) [(T 14)] [(r 260),(T 14)] 259 (s 98) true [] [(r 295),(r 335),(r 375),(r 415),(r 455),(r 495)] false none false)) #[none,none,(some (f 98 488)),(some (f 98 496)),(some (bi 16)),(some (.bool true))])
def o5c:Obj:=di #[(d 6 771 (f 63 486)),(d 66 773 (f 97 772)),(d 8 775 (j 171 774)),(d 9 783 (r 471)),(d 68 791 (r 478)),(d 61 801 (r 485)),(d 69 811 (r 492)),(d 10 813 (r 493))] 8
def o5d:Obj:=fd #[(i 173),(i 4),(r 470),(i 177),(i 4),(r 477),(i 180),(i 4),(r 484),(i 183),(i 4),(r 491)]
def o5e:Obj:=ob 2 #[(f 97 766),(f 97 767),(f 1 768),(i 171),(i 0),(i 0),(i 0),(i 0),(r 461),(.bool false),(i 181),(r 462),u,u,u,u,(i 769),(i 171),(f 1 770)]
def o5f:Obj:=(Obj.mk (.type (t 10)) none .plain #[(some (r 463)),(some (r 3)),(some (r 460)),none,(some (f 63 486)),none,(some (r 0))])
def o5g:Obj:=sq 3 #[(f 2 779),(f 74 780)]
def o5h:Obj:=fn 9 128 (aH (stm 29) 0)
def o5i:Obj:=ob 2 #[(f 9 776),(f 128 777),(f 1 778),(i 173),(i 2),(i 0),(i 0),(i 3),(r 465),(.bool true),(i 181),(r 466),u,(r 467),(r 468),(r 469),(i 781),(i 173),(f 1 782)]
def o5j:Obj:=fo 6 9 128 (aH (stm 29) 0) 3 [] .none .none .none 63 486 470
def o5k:Obj:=sq 3 #[(f 2 787),(f 144 788)]
def o5l:Obj:=fn 68 114 (aH (stm 29) 1)
def o5m:Obj:=ob 2 #[(f 68 784),(f 114 785),(f 1 786),(i 177),(i 2),(i 0),(i 0),(i 3),(r 472),(.bool true),(i 181),(r 473),u,(r 474),(r 475),(r 476),(i 789),(i 177),(f 1 790)]
def o5n:Obj:=fo 6 68 114 (aH (stm 29) 1) 3 [] .none .none .none 63 486 477
def o5o:Obj:=sq 3 #[(f 2 795),(f 76 796),(f 77 797),(f 78 798)]
def o5p:Obj:=fn 61 169 (aH (stm 29) 2)
def o5q:Obj:=ob 2 #[(f 61 792),(f 169 793),(f 1 794),(i 180),(i 4),(i 0),(i 0),(i 3),(r 479),(.bool true),(i 181),(r 480),u,(r 481),(r 482),(r 483),(i 799),(i 180),(f 1 800)]
def o5r:Obj:=fo 6 61 169 (aH (stm 29) 2) 3 [] .none .none .none 63 486 484
def o5s:Obj:=sq 3 #[(f 2 805),(f 3 806),(f 4 807),(f 5 808)]
def o5t:Obj:=fn 69 152 (aH (stm 29) 3)
def o5u:Obj:=ob 2 #[(f 69 802),(f 152 803),(f 1 804),(i 183),(i 4),(i 0),(i 0),(i 3),(r 486),(.bool true),(i 181),(r 487),u,(r 488),(r 489),(r 490),(i 809),(i 183),(f 1 810)]
def o5v:Obj:=fo 6 69 152 (aH (stm 29) 3) 3 [] .none .none .none 63 486 491
def o5w:Obj:=sq 3 #[(f 74 812)]
def o5x:Obj:=di #[(d 6 771 (f 63 486)),(d 8 775 (j 171 774)),(d 9 783 (r 471)),(d 68 791 (r 478)),(d 61 801 (r 485)),(d 69 811 (r 492)),(d 10 813 (r 493)),(d 13 814 .none)] 2
def o5y:Obj:=(Obj.mk (.type (t 9)) none (.cls (ClassData.mk (s 97) [(r 260)] [(r 495),(r 260),(T 14)] 494 (s 97) true [] [] false none false)) #[(some (r 458)),none,(some (f 97 764)),(some (f 97 772)),(some (bi 16)),(some (.bool true))])
def o5z:Obj:=ob 7 #[(r 495),(r 495),(r 495)]
def o5A:Obj:=ob 0 #[(bi 1),(r 495)]
def o5B:Obj:=di #[(d 17 165 (f 63 486)),(d 13 166 .none),(d 19 167 .none),(d 20 168 (bi 5)),(d 21 169 .none),(d 22 170 (r 6)),(d 23 171 (r 4)),(d 24 173 (f 1 172)),(d 25 174 .none),(d 26 193 (r 21)),(d 27 213 (r 31)),(d 28 229 (r 44)),(d 29 245 (r 56)),(d 30 261 (r 68)),(d 31 277 (r 80)),(d 32 303 (r 100)),(d 33 312 (r 109)),(d 34 320 (r 116)),(d 35 324 (f 36 323)),(d 37 326 (j 8 325)),(d 38 332 (r 121)),(d 39 336 (f 40 335)),(d 41 338 (j 60 337)),(d 42 344 (r 126)),(d 43 350 (r 131)),(d 44 357 (r 138)),(d 45 485 (r 246)),(d 98 507 (r 260)),(d 99 551 (r 295)),(d 0 604 (r 335)),(d 112 657 (r 375)),(d 67 710 (r 415)),(d 129 763 (r 455)),(d 97 816 (r 495)),(d 130 869 (r 535)),(d 131 876 (r 544))] 36
def o5C:Obj:=fd #[(i 1),(i 0),(r 20),(i 5),(i 0),(r 27),(i 7),(i 0),(r 40),(i 9),(i 0),(r 52),(i 11),(i 0),(r 64),(i 13),(i 0),(r 76),(i 15),(i 0),(r 88),(i 20),(i 0),(r 108),(i 22),(i 0),(r 115),(i 27),(i 0),(r 120),(i 34),(i 0),(r 125),(i 38),(i 0),(r 130),(i 42),(i 0),(r 137),(i 46),(i 0),(r 144),(i 102),(i 0),(r 256),(i 104),(i 0),(r 270),(i 114),(i 0),(r 303),(i 128),(i 0),(r 343),(i 142),(i 0),(r 383),(i 157),(i 0),(r 423),(i 171),(i 0),(r 463),(i 185),(i 0),(r 503),(i 199),(i 0),(r 543)]
def o5D:Obj:=(Obj.mk (.type (t 9)) none (.cls (ClassData.mk (s 98) [(T 14)] [(r 260),(T 14)] 259 (s 98) true [] [(r 295),(r 335),(r 375),(r 415),(r 455),(r 495),(r 535)] false none false)) #[none,none,(some (f 98 488)),(some (f 98 496)),(some (bi 16)),(some (.bool true))])
def o5E:Obj:=di #[(d 6 824 (f 63 486)),(d 66 826 (f 130 825)),(d 8 828 (j 185 827)),(d 9 836 (r 511)),(d 68 844 (r 518)),(d 61 854 (r 525)),(d 69 864 (r 532)),(d 10 866 (r 533))] 8
def o5F:Obj:=fd #[(i 187),(i 4),(r 510),(i 191),(i 4),(r 517),(i 194),(i 4),(r 524),(i 197),(i 4),(r 531)]
def o5G:Obj:=ob 2 #[(f 130 819),(f 130 820),(f 1 821),(i 185),(i 0),(i 0),(i 0),(i 0),(r 501),(.bool false),(i 181),(r 502),u,u,u,u,(i 822),(i 185),(f 1 823)]
def o5H:Obj:=(Obj.mk (.type (t 10)) none .plain #[(some (r 503)),(some (r 3)),(some (r 500)),none,(some (f 63 486)),none,(some (r 0))])
def o5I:Obj:=sq 3 #[(f 2 832),(f 74 833)]
def o5J:Obj:=fn 9 73 (aH (stm 30) 0)
def o5K:Obj:=ob 2 #[(f 9 829),(f 73 830),(f 1 831),(i 187),(i 2),(i 0),(i 0),(i 3),(r 505),(.bool true),(i 181),(r 506),u,(r 507),(r 508),(r 509),(i 834),(i 187),(f 1 835)]
def o5L:Obj:=fo 6 9 73 (aH (stm 30) 0) 3 [] .none .none .none 63 486 510
def o5M:Obj:=sq 3 #[(f 2 840),(f 144 841)]
def o5N:Obj:=fn 68 111 (aH (stm 30) 1)
def o5O:Obj:=ob 2 #[(f 68 837),(f 111 838),(f 1 839),(i 191),(i 2),(i 0),(i 0),(i 3),(r 512),(.bool true),(i 181),(r 513),u,(r 514),(r 515),(r 516),(i 842),(i 191),(f 1 843)]
def o5P:Obj:=fo 6 68 111 (aH (stm 30) 1) 3 [] .none .none .none 63 486 517
def o5Q:Obj:=sq 3 #[(f 2 848),(f 76 849),(f 77 850),(f 78 851)]
def o5R:Obj:=fn 61 151 (aH (stm 30) 2)
def o5S:Obj:=ob 2 #[(f 61 845),(f 151 846),(f 1 847),(i 194),(i 4),(i 0),(i 0),(i 3),(r 519),(.bool true),(i 181),(r 520),u,(r 521),(r 522),(r 523),(i 852),(i 194),(f 1 853)]
def o5T:Obj:=fo 6 61 151 (aH (stm 30) 2) 3 [] .none .none .none 63 486 524
def o5U:Obj:=sq 3 #[(f 2 858),(f 3 859),(f 4 860),(f 5 861)]
def o5V:Obj:=fn 69 171 (aH (stm 30) 3)
def o5W:Obj:=ob 2 #[(f 69 855),(f 171 856),(f 1 857),(i 197),(i 4),(i 0),(i 0),(i 3),(r 526),(.bool true),(i 181),(r 527),u,(r 528),(r 529),(r 530),(i 862),(i 197),(f 1 863)]
def o5X:Obj:=fo 6 69 171 (aH (stm 30) 3) 3 [] .none .none .none 63 486 531
def o5Y:Obj:=sq 3 #[(f 74 865)]
def o5Z:Obj:=di #[(d 6 824 (f 63 486)),(d 8 828 (j 185 827)),(d 9 836 (r 511)),(d 68 844 (r 518)),(d 61 854 (r 525)),(d 69 864 (r 532)),(d 10 866 (r 533)),(d 13 867 .none)] 2
def o60:Obj:=(Obj.mk (.type (t 9)) none (.cls (ClassData.mk (s 130) [(r 260)] [(r 535),(r 260),(T 14)] 534 (s 130) true [] [] false none false)) #[(some (r 498)),none,(some (f 130 817)),(some (f 130 825)),(some (bi 16)),(some (.bool true))])
def o61:Obj:=ob 7 #[(r 535),(r 535),(r 535)]
def o62:Obj:=ob 0 #[(bi 1),(r 535)]
def o63:Obj:=sq 3 #[(f 85 873)]
def o64:Obj:=fn 131 131 (stm 31)
def o65:Obj:=ob 2 #[(f 131 870),(f 131 871),(f 1 872),(i 199),(i 1),(i 0),(i 0),(i 3),(r 538),(.bool true),(i 181),(r 539),u,(r 540),(r 541),(r 542),(i 874),(i 199),(f 1 875)]
def o66:Obj:=fo 6 131 131 (stm 31) 3 [] .none .none .none 63 486 543
def o67:Obj:=di #[(d 17 165 (f 7 892)),(d 13 166 .none),(d 19 167 .none),(d 20 168 (bi 5)),(d 21 169 .none),(d 22 170 (r 6)),(d 23 171 (r 4)),(d 24 173 (f 1 172)),(d 25 174 .none),(d 26 193 (r 21)),(d 27 213 (r 31)),(d 28 229 (r 44)),(d 29 245 (r 56)),(d 30 261 (r 68)),(d 31 277 (r 80)),(d 32 303 (r 100)),(d 33 312 (r 109)),(d 34 320 (r 116)),(d 35 324 (f 36 323)),(d 37 326 (j 8 325)),(d 38 332 (r 121)),(d 39 336 (f 40 335)),(d 41 338 (j 60 337)),(d 42 344 (r 126)),(d 43 350 (r 131)),(d 44 357 (r 138)),(d 45 485 (r 246)),(d 98 507 (r 260)),(d 99 551 (r 295)),(d 0 604 (r 335)),(d 112 657 (r 375)),(d 67 710 (r 415)),(d 129 763 (r 455)),(d 97 816 (r 495)),(d 130 869 (r 535)),(d 131 876 (r 544)),(d 142 883 (r 551)),(d 96 891 (r 558)),(d 86 899 (r 563)),(d 53 906 (r 570)),(d 137 916 (r 577)),(d 84 946 (r 594))] 42
def o68:Obj:=fd #[(i 1),(i 0),(r 20),(i 5),(i 0),(r 27),(i 7),(i 0),(r 40),(i 9),(i 0),(r 52),(i 11),(i 0),(r 64),(i 13),(i 0),(r 76),(i 15),(i 0),(r 88),(i 20),(i 0),(r 108),(i 22),(i 0),(r 115),(i 27),(i 0),(r 120),(i 34),(i 0),(r 125),(i 38),(i 0),(r 130),(i 42),(i 0),(r 137),(i 46),(i 0),(r 144),(i 102),(i 0),(r 256),(i 104),(i 0),(r 270),(i 114),(i 0),(r 303),(i 128),(i 0),(r 343),(i 142),(i 0),(r 383),(i 157),(i 0),(r 423),(i 171),(i 0),(r 463),(i 185),(i 0),(r 503),(i 199),(i 0),(r 543),(i 202),(i 0),(r 550),(i 205),(i 0),(r 557),(i 211),(i 0),(r 562),(i 225),(i 0),(r 569),(i 227),(i 0),(r 576),(i 235),(i 0),(r 583)]
def o69:Obj:=sq 3 #[(f 75 880)]
def o6a:Obj:=fn 142 142 (stm 32)
def o6b:Obj:=ob 2 #[(f 142 877),(f 142 878),(f 1 879),(i 202),(i 1),(i 0),(i 0),(i 3),(r 545),(.bool true),(i 181),(r 546),u,(r 547),(r 548),(r 549),(i 881),(i 202),(f 1 882)]
def o6c:Obj:=fo 6 142 142 (stm 32) 3 [] .none .none .none 63 486 550
def o6d:Obj:=sq 3 #[(f 74 887),(f 75 888)]
def o6e:Obj:=fn 96 96 (stm 33)
def o6f:Obj:=ob 2 #[(f 96 884),(f 96 885),(f 1 886),(i 205),(i 1),(i 0),(i 0),(i 3),(r 552),(.bool true),(i 181),(r 553),u,(r 554),(r 555),(r 556),(i 889),(i 205),(f 1 890)]
def o6g:Obj:=fo 6 96 96 (stm 33) 3 [] .none .none .none 63 486 557
def o6h:Obj:=fn 86 86 (stm 35)
def o6i:Obj:=ob 2 #[(f 86 894),(f 86 895),(f 1 896),(i 211),(i 1),(i 0),(i 0),(i 3),(r 559),(.bool true),(i 181),(r 560),u,u,u,(r 561),(i 897),(i 211),(f 1 898)]
def o6j:Obj:=fo 6 86 86 (stm 35) 3 [] .none .none .none 7 892 562
def o6k:Obj:=sq 3 #[(f 134 903)]
def o6l:Obj:=fn 53 53 (stm 36)
def o6m:Obj:=ob 2 #[(f 53 900),(f 53 901),(f 1 902),(i 225),(i 1),(i 0),(i 0),(i 3),(r 564),(.bool true),(i 181),(r 565),u,(r 566),(r 567),(r 568),(i 904),(i 225),(f 1 905)]
def o6n:Obj:=fo 6 53 53 (stm 36) 3 [] .none .none .none 7 892 569
def o6o:Obj:=sq 3 #[(f 134 910),(f 162 911),(f 64 912),(f 163 913)]
def o6p:Obj:=fn 137 137 (stm 37)
def o6q:Obj:=ob 2 #[(f 137 907),(f 137 908),(f 1 909),(i 227),(i 2),(i 0),(i 0),(i 3),(r 571),(.bool true),(i 181),(r 572),u,(r 573),(r 574),(r 575),(i 914),(i 227),(f 1 915)]
def o6r:Obj:=fo 6 137 137 (stm 37) 3 [] .none .none .none 7 892 576
def o6s:Obj:=di #[(d 6 924 (f 7 892)),(d 66 926 (f 84 925)),(d 8 928 (j 235 927)),(d 9 936 (r 591)),(d 10 939 (r 592))] 5
def o6t:Obj:=fd #[(i 237),(i 4),(r 590)]
def o6u:Obj:=ob 2 #[(f 84 919),(f 84 920),(f 1 921),(i 235),(i 0),(i 0),(i 0),(i 0),(r 581),(.bool false),(i 181),(r 582),u,u,u,u,(i 922),(i 235),(f 1 923)]
def o6v:Obj:=(Obj.mk (.type (t 10)) none .plain #[(some (r 583)),(some (r 3)),(some (r 580)),none,(some (f 7 892)),none,(some (r 0))])
def o6w:Obj:=sq 3 #[(f 2 932),(f 138 933)]
def o6x:Obj:=fn 9 159 (aH (stm 38) 0)
def o6y:Obj:=ob 2 #[(f 9 929),(f 159 930),(f 1 931),(i 237),(i 2),(i 0),(i 0),(i 3),(r 585),(.bool true),(i 181),(r 586),u,(r 587),(r 588),(r 589),(i 934),(i 237),(f 1 935)]
def o6z:Obj:=fo 6 9 159 (aH (stm 38) 0) 3 [] .none .none .none 7 892 590
def o6A:Obj:=sq 3 #[(f 141 937),(f 138 938)]
def o6B:Obj:=di #[(d 6 924 (f 7 892)),(d 8 928 (j 235 927)),(d 9 936 (r 591)),(d 10 939 (r 592)),(d 11 941 (r 595)),(d 12 943 (r 596)),(d 13 944 .none)] 4
def o6C:Obj:=(Obj.mk (.type (t 9)) none (.cls (ClassData.mk (s 84) [(T 14)] [(r 594),(T 14)] 593 (s 84) true [] [] false none false)) #[none,none,(some (f 84 917)),(some (f 84 925)),(some (bi 16)),(some (.bool true))])
def o6D:Obj:=ob 17 #[(f 11 940),(r 594),(bi 18),(bi 19)]
def o6E:Obj:=ob 17 #[(f 12 942),(r 594),(bi 20),u]
def o6F:Obj:=ob 7 #[(r 594),(r 594),(r 594)]
def o6G:Obj:=ob 0 #[(bi 1),(r 594)]
def o6H:Obj:=di #[(d 17 165 (f 89 991)),(d 13 166 .none),(d 19 167 .none),(d 20 168 (bi 5)),(d 21 169 .none),(d 22 170 (r 6)),(d 23 171 (r 4)),(d 24 173 (f 1 172)),(d 25 174 .none),(d 26 193 (r 21)),(d 27 213 (r 31)),(d 28 229 (r 44)),(d 29 245 (r 56)),(d 30 261 (r 68)),(d 31 277 (r 80)),(d 32 303 (r 100)),(d 33 312 (r 109)),(d 34 320 (r 116)),(d 35 324 (f 36 323)),(d 37 326 (j 8 325)),(d 38 332 (r 121)),(d 39 336 (f 40 335)),(d 41 338 (j 60 337)),(d 42 344 (r 126)),(d 43 350 (r 131)),(d 44 357 (r 138)),(d 45 485 (r 246)),(d 98 507 (r 260)),(d 99 551 (r 295)),(d 0 604 (r 335)),(d 112 657 (r 375)),(d 67 710 (r 415)),(d 129 763 (r 455)),(d 97 816 (r 495)),(d 130 869 (r 535)),(d 131 876 (r 544)),(d 142 883 (r 551)),(d 96 891 (r 558)),(d 86 899 (r 563)),(d 53 906 (r 570)),(d 137 916 (r 577)),(d 84 946 (r 594)),(d 71 955 (r 605)),(d 150 964 (r 612)),(d 72 974 (r 619)),(d 90 983 (r 626)),(d 101 990 (r 633)),(d 155 1000 (r 640)),(d 164 1007 (r 647)),(d 149 1017 (r 654)),(d 116 1023 (r 659)),(d 153 1035 (r 666)),(d 88 1041 (r 671)),(d 135 1047 (r 676)),(d 102 1053 (r 681))] 55
def o6I:Obj:=fd #[(i 1),(i 0),(r 20),(i 5),(i 0),(r 27),(i 7),(i 0),(r 40),(i 9),(i 0),(r 52),(i 11),(i 0),(r 64),(i 13),(i 0),(r 76),(i 15),(i 0),(r 88),(i 20),(i 0),(r 108),(i 22),(i 0),(r 115),(i 27),(i 0),(r 120),(i 34),(i 0),(r 125),(i 38),(i 0),(r 130),(i 42),(i 0),(r 137),(i 46),(i 0),(r 144),(i 102),(i 0),(r 256),(i 104),(i 0),(r 270),(i 114),(i 0),(r 303),(i 128),(i 0),(r 343),(i 142),(i 0),(r 383),(i 157),(i 0),(r 423),(i 171),(i 0),(r 463),(i 185),(i 0),(r 503),(i 199),(i 0),(r 543),(i 202),(i 0),(r 550),(i 205),(i 0),(r 557),(i 211),(i 0),(r 562),(i 225),(i 0),(r 569),(i 227),(i 0),(r 576),(i 235),(i 0),(r 583),(i 240),(i 0),(r 604),(i 246),(i 0),(r 611),(i 260),(i 0),(r 618),(i 269),(i 0),(r 625),(i 277),(i 0),(r 632),(i 286),(i 0),(r 639),(i 290),(i 0),(r 646),(i 292),(i 0),(r 653),(i 302),(i 0),(r 658),(i 313),(i 0),(r 665),(i 325),(i 0),(r 670),(i 333),(i 0),(r 675),(i 347),(i 0),(r 680)]
def o6J:Obj:=sq 3 #[(f 64 950),(f 65 951),(f 75 952)]
def o6K:Obj:=fn 71 71 (stm 39)
def o6L:Obj:=ob 2 #[(f 71 947),(f 71 948),(f 1 949),(i 240),(i 1),(i 0),(i 0),(i 3),(r 599),(.bool true),(i 181),(r 600),u,(r 601),(r 602),(r 603),(i 953),(i 240),(f 1 954)]
def o6M:Obj:=fo 6 71 71 (stm 39) 3 [] .none .none .none 7 892 604
def o6N:Obj:=sq 3 #[(f 64 959),(f 65 960),(f 16 961)]
def o6O:Obj:=fn 150 150 (stm 40)
def o6P:Obj:=ob 2 #[(f 150 956),(f 150 957),(f 1 958),(i 246),(i 2),(i 0),(i 0),(i 3),(r 606),(.bool true),(i 181),(r 607),u,(r 608),(r 609),(r 610),(i 962),(i 246),(f 1 963)]
def o6Q:Obj:=fo 6 150 150 (stm 40) 3 [] .none .none .none 7 892 611
def o6R:Obj:=sq 3 #[(f 75 968),(f 64 969),(f 65 970),(f 80 971)]
def o6S:Obj:=fn 72 72 (stm 41)
def o6T:Obj:=ob 2 #[(f 72 965),(f 72 966),(f 1 967),(i 260),(i 3),(i 0),(i 0),(i 3),(r 613),(.bool true),(i 181),(r 614),u,(r 615),(r 616),(r 617),(i 972),(i 260),(f 1 973)]
def o6U:Obj:=fo 6 72 72 (stm 41) 3 [] .none .none .none 7 892 618
def o6V:Obj:=sq 3 #[(f 182 978),(f 64 979),(f 16 980)]
def o6W:Obj:=fn 90 90 (stm 42)
def o6X:Obj:=ob 2 #[(f 90 975),(f 90 976),(f 1 977),(i 269),(i 2),(i 0),(i 0),(i 3),(r 620),(.bool true),(i 181),(r 621),u,(r 622),(r 623),(r 624),(i 981),(i 269),(f 1 982)]
def o6Y:Obj:=fo 6 90 90 (stm 42) 3 [] .none .none .none 7 892 625
def o6Z:Obj:=sq 3 #[(f 65 987)]
def o70:Obj:=fn 101 101 (stm 43)
def o71:Obj:=ob 2 #[(f 101 984),(f 101 985),(f 1 986),(i 277),(i 1),(i 0),(i 0),(i 3),(r 627),(.bool true),(i 181),(r 628),u,(r 629),(r 630),(r 631),(i 988),(i 277),(f 1 989)]
def o72:Obj:=fo 6 101 101 (stm 43) 3 [] .none .none .none 7 892 632
def o73:Obj:=sq 3 #[(f 168 996),(f 123 997)]
def o74:Obj:=fn 155 155 (stm 45)
def o75:Obj:=ob 2 #[(f 155 993),(f 155 994),(f 1 995),(i 286),(i 2),(i 0),(i 0),(i 3),(r 634),(.bool true),(i 181),(r 635),u,(r 636),(r 637),(r 638),(i 998),(i 286),(f 1 999)]
def o76:Obj:=fo 6 155 155 (stm 45) 3 [] .none .none .none 89 991 639
def o77:Obj:=sq 3 #[(f 93 1004)]
def o78:Obj:=fn 164 164 (stm 46)
def o79:Obj:=ob 2 #[(f 164 1001),(f 164 1002),(f 1 1003),(i 290),(i 1),(i 0),(i 0),(i 3),(r 641),(.bool true),(i 181),(r 642),u,(r 643),(r 644),(r 645),(i 1005),(i 290),(f 1 1006)]
def o7a:Obj:=fo 6 164 164 (stm 46) 3 [] .none .none .none 89 991 646
def o7b:Obj:=sq 3 #[(f 119 1011),(f 174 1012),(f 166 1013),(f 175 1014)]
def o7c:Obj:=fn 149 149 (stm 47)
def o7d:Obj:=ob 2 #[(f 149 1008),(f 149 1009),(f 1 1010),(i 292),(i 2),(i 0),(i 0),(i 3),(r 648),(.bool true),(i 181),(r 649),u,(r 650),(r 651),(r 652),(i 1015),(i 292),(f 1 1016)]
def o7e:Obj:=fo 6 149 149 (stm 47) 3 [] .none .none .none 89 991 653
def o7f:Obj:=fn 116 116 (stm 48)
def o7g:Obj:=ob 2 #[(f 116 1018),(f 116 1019),(f 1 1020),(i 302),(i 1),(i 0),(i 0),(i 3),(r 655),(.bool true),(i 181),(r 656),u,u,u,(r 657),(i 1021),(i 302),(f 1 1022)]
def o7h:Obj:=fo 6 116 116 (stm 48) 3 [] .none .none .none 89 991 658
def o7i:Obj:=sq 3 #[(f 119 1027),(f 120 1028),(f 121 1029),(f 122 1030),(f 123 1031),(f 124 1032)]
def o7j:Obj:=fn 153 153 (stm 49)
def o7k:Obj:=ob 2 #[(f 153 1024),(f 153 1025),(f 1 1026),(i 313),(i 2),(i 0),(i 0),(i 3),(r 660),(.bool true),(i 181),(r 661),u,(r 662),(r 663),(r 664),(i 1033),(i 313),(f 1 1034)]
def o7l:Obj:=fo 6 153 153 (stm 49) 3 [] .none .none .none 89 991 665
def o7m:Obj:=fn 88 88 (stm 50)
def o7n:Obj:=ob 2 #[(f 88 1036),(f 88 1037),(f 1 1038),(i 325),(i 3),(i 0),(i 0),(i 3),(r 667),(.bool true),(i 181),(r 668),u,u,u,(r 669),(i 1039),(i 325),(f 1 1040)]
def o7o:Obj:=fo 6 88 88 (stm 50) 3 [] .none .none .none 89 991 670
def o7p:Obj:=fn 135 135 (stm 51)
def o7q:Obj:=ob 2 #[(f 135 1042),(f 135 1043),(f 1 1044),(i 333),(i 1),(i 0),(i 0),(i 3),(r 672),(.bool true),(i 181),(r 673),u,u,u,(r 674),(i 1045),(i 333),(f 1 1046)]
def o7r:Obj:=fo 6 135 135 (stm 51) 3 [] .none .none .none 89 991 675
def o7s:Obj:=fn 102 102 (stm 52)
def o7t:Obj:=ob 2 #[(f 102 1048),(f 102 1049),(f 1 1050),(i 347),(i 1),(i 0),(i 0),(i 3),(r 677),(.bool true),(i 181),(r 678),u,u,u,(r 679),(i 1051),(i 347),(f 1 1052)]
def o7u:Obj:=fo 6 102 102 (stm 52) 3 [] .none .none .none 89 991 680
def o7v:Obj:=di #[(d 17 165 (f 89 991)),(d 13 166 .none),(d 19 167 .none),(d 20 168 (bi 5)),(d 21 169 .none),(d 22 170 (r 6)),(d 23 171 (r 4)),(d 24 173 (f 1 172)),(d 25 174 .none),(d 26 193 (r 21)),(d 27 213 (r 31)),(d 28 229 (r 44)),(d 29 245 (r 56)),(d 30 261 (r 68)),(d 31 277 (r 80)),(d 32 303 (r 100)),(d 33 312 (r 109)),(d 34 320 (r 116)),(d 35 324 (f 36 323)),(d 37 326 (j 8 325)),(d 38 332 (r 121)),(d 39 336 (f 40 335)),(d 41 338 (j 60 337)),(d 42 344 (r 126)),(d 43 350 (r 131)),(d 44 357 (r 138)),(d 45 485 (r 246)),(d 98 507 (r 260)),(d 99 551 (r 295)),(d 0 604 (r 335)),(d 112 657 (r 375)),(d 67 710 (r 415)),(d 129 763 (r 455)),(d 97 816 (r 495)),(d 130 869 (r 535)),(d 131 876 (r 544)),(d 142 883 (r 551)),(d 96 891 (r 558)),(d 86 899 (r 563)),(d 53 906 (r 570)),(d 137 916 (r 577)),(d 84 946 (r 594)),(d 71 955 (r 605)),(d 150 964 (r 612)),(d 72 974 (r 619)),(d 90 983 (r 626)),(d 101 990 (r 633)),(d 155 1000 (r 640)),(d 164 1007 (r 647)),(d 149 1017 (r 654)),(d 116 1023 (r 659)),(d 153 1035 (r 666)),(d 88 1041 (r 671)),(d 135 1047 (r 676)),(d 102 1053 (r 681)),(d 160 1059 (r 686)),(d 147 1068 (r 693)),(d 161 1077 (r 700)),(d 110 1093 (r 707))] 59
def o7w:Obj:=fd #[(i 1),(i 0),(r 20),(i 5),(i 0),(r 27),(i 7),(i 0),(r 40),(i 9),(i 0),(r 52),(i 11),(i 0),(r 64),(i 13),(i 0),(r 76),(i 15),(i 0),(r 88),(i 20),(i 0),(r 108),(i 22),(i 0),(r 115),(i 27),(i 0),(r 120),(i 34),(i 0),(r 125),(i 38),(i 0),(r 130),(i 42),(i 0),(r 137),(i 46),(i 0),(r 144),(i 102),(i 0),(r 256),(i 104),(i 0),(r 270),(i 114),(i 0),(r 303),(i 128),(i 0),(r 343),(i 142),(i 0),(r 383),(i 157),(i 0),(r 423),(i 171),(i 0),(r 463),(i 185),(i 0),(r 503),(i 199),(i 0),(r 543),(i 202),(i 0),(r 550),(i 205),(i 0),(r 557),(i 211),(i 0),(r 562),(i 225),(i 0),(r 569),(i 227),(i 0),(r 576),(i 235),(i 0),(r 583),(i 240),(i 0),(r 604),(i 246),(i 0),(r 611),(i 260),(i 0),(r 618),(i 269),(i 0),(r 625),(i 277),(i 0),(r 632),(i 286),(i 0),(r 639),(i 290),(i 0),(r 646),(i 292),(i 0),(r 653),(i 302),(i 0),(r 658),(i 313),(i 0),(r 665),(i 325),(i 0),(r 670),(i 333),(i 0),(r 675),(i 347),(i 0),(r 680),(i 358),(i 0),(r 685),(i 375),(i 0),(r 692),(i 380),(i 0),(r 699),(i 388),(i 0),(r 706)]
def o7x:Obj:=fn 160 160 (stm 53)
def o7y:Obj:=ob 2 #[(f 160 1054),(f 160 1055),(f 1 1056),(i 358),(i 2),(i 0),(i 0),(i 3),(r 682),(.bool true),(i 181),(r 683),u,u,u,(r 684),(i 1057),(i 358),(f 1 1058)]
def o7z:Obj:=fo 6 160 160 (stm 53) 3 [] .none .none .none 89 991 685
def o7A:Obj:=sq 3 #[(f 119 1063),(f 176 1064),(f 123 1065)]
def o7B:Obj:=fn 147 147 (stm 54)
def o7C:Obj:=ob 2 #[(f 147 1060),(f 147 1061),(f 1 1062),(i 375),(i 1),(i 0),(i 0),(i 3),(r 687),(.bool true),(i 181),(r 688),u,(r 689),(r 690),(r 691),(i 1066),(i 375),(f 1 1067)]
def o7D:Obj:=fo 6 147 147 (stm 54) 3 [] .none .none .none 89 991 692
def o7E:Obj:=sq 3 #[(f 165 1072),(f 166 1073),(f 167 1074)]
def o7F:Obj:=fn 161 161 (stm 55)
def o7G:Obj:=ob 2 #[(f 161 1069),(f 161 1070),(f 1 1071),(i 380),(i 1),(i 0),(i 0),(i 3),(r 694),(.bool true),(i 181),(r 695),u,(r 696),(r 697),(r 698),(i 1075),(i 380),(f 1 1076)]
def o7H:Obj:=fo 6 161 161 (stm 55) 3 [] .none .none .none 89 991 699
def o7I:Obj:=sq 3 #[(f 168 1081),(f 93 1082),(f 119 1083),(f 176 1084),(f 165 1085),(f 177 1086),(f 166 1087),(f 178 1088),(f 179 1089),(f 180 1090)]
def o7J:Obj:=fn 110 110 (stm 56)
def o7K:Obj:=ob 2 #[(f 110 1078),(f 110 1079),(f 1 1080),(i 388),(i 1),(i 0),(i 0),(i 3),(r 701),(.bool true),(i 181),(r 702),u,(r 703),(r 704),(r 705),(i 1091),(i 388),(f 1 1092)]
def o7L:Obj:=fo 6 110 110 (stm 56) 3 [] .none .none .none 89 991 706
def o7M:Obj:=(Obj.mk .none none (.dict #[] 0) #[])
def b0:Obj:=boot_o_0 c.P
def b1:Obj:=boot_o_1 c.P
def b2:Obj:=boot_o_2 c.P
def b3:Obj:=boot_o_3 c.P
def b4:Obj:=boot_o_4 c.P
def b5:Obj:=boot_o_5 c.P
def b6:Obj:=boot_o_6 c.P
def b7:Obj:=boot_o_7 c.P
def b8:Obj:=boot_o_8 c.P
def b9:Obj:=boot_o_9 c.P
def b10:Obj:=boot_o_10 c.P
def q00:BT:=(N o01 (N o5L L L) L)
def q01:BT:=(N o00 q00 (N o4k L L))
def q02:BT:=(N o00 (N o6p L L) L)
def q03:BT:=(N o00 q02 (N o01 L L))
def q04:BT:=(N o01 (N o65 L L) L)
def q05:BT:=(N o00 (N o3X L L) (N o00 L L))
def q06:BT:=(N o18 (N o1Q q04 (N o4E L L)) q05)
def q07:BT:=(N o34 (N o01 L L) L)
def q08:BT:=(N o1G q07 (N o00 L L))
def q09:BT:=(N o2h (N o3K (N o6z L L) L) (N o5e L L))
def q0a:BT:=(N o3q (N o00 L L) L)
def q0b:BT:=(N o01 q0a (N o4R L L))
def q0c:BT:=(N o2z (N o01 L L) (N o5y L L))
def q0d:BT:=(N o2V (N o00 L L) L)
def q0e:BT:=(N o00 q0d (N o4p L L))
def q0f:BT:=(N o2c (N o01 (N o6u L L) L) (N o56 L L))
def q0g:BT:=(N o3i (N o6c L L) L)
def q0h:BT:=(N o01 (N o00 L L) (N o01 L L))
def q0i:BT:=(N o00 (N o60 L L) L)
def q0j:BT:=(N o2m (N o3S L L) (N o5j L L))
def q0k:BT:=(N o13 (N o1L q0i (N o01 L L)) q0j)
def q0l:BT:=(N o3v (N o00 L L) L)
def q0m:BT:=(N o23 q0l (N o00 L L))
def q0n:BT:=(N o2G (N o4c L L) (N o5G L L))
def q0o:BT:=(N o2R (N o00 L L) L)
def q0p:BT:=(N o1y q0o (N o4m L L))
def q0q:BT:=(N o3B (N o0b L L) L)
def q0r:BT:=(N o00 q0q (N o52 L L))
def q0s:BT:=(N o3f (N o69 L L) L)
def q0t:BT:=(N o2s (N o00 L L) (N o5p L L))
def q0u:BT:=(N o00 (N o5W L L) L)
def q0v:BT:=(N o01 q0u (N o4v L L))
def q0w:BT:=(N o2j (N o0b (N o6D L L) L) (N o5g L L))
def q0x:BT:=(N o3s (N o6j L L) L)
def q0y:BT:=(N o21 q0x (N o00 L L))
def q0z:BT:=(N o2C (N o48 L L) (N o0b L L))
def q0A:BT:=(N o31 (N o5R L L) L)
def q0B:BT:=(N o00 q0A (N o00 L L))
def q0C:BT:=(N o01 (N o3G (N o6w L L) L) (N o0b L L))
def q0D:BT:=(N o0b (N o00 L L) L)
def q0E:BT:=(N o1W q0D (N o4O L L))
def q0F:BT:=(N o2x (N o43 L L) (N o5u L L))
def q0G:BT:=(N o3a (N o01 L L) L)
def q0H:BT:=(N o00 (N o3U L L) (N o00 L L))
def q0I:BT:=(N o00 (N o1N q0G (N o4A L L)) q0H)
def q0J:BT:=(N o00 (N o00 L L) L)
def q0K:BT:=(N o26 q0J (N o4X L L))
def q0L:BT:=(N o00 (N o0b L L) (N o5I L L))
def q0M:BT:=(N o2Q (N o01 L L) L)
def q0N:BT:=(N o1w q0M (N o00 L L))
def q0O:BT:=(N o3A (N o6r L L) L)
def q0P:BT:=(N o29 q0O (N o00 L L))
def q0Q:BT:=(N o2r (N o01 L L) (N o5o L L))
def q0R:BT:=(N o01 (N o00 L L) L)
def q0S:BT:=(N o1I q0R (N o4u L L))
def q0T:BT:=(N o00 (N o3M (N o6B L L) L) (N o00 L L))
def q0U:BT:=(N o00 (N o6h L L) L)
def q0V:BT:=(N o00 q0U (N o01 L L))
def q0W:BT:=(N o2A (N o00 L L) (N o5A L L))
def q0X:BT:=(N o30 (N o5Q L L) L)
def q0Y:BT:=(N o1B q0X (N o01 L L))
def q0Z:BT:=(N o2e q0J (N o58 L L))
def q10:BT:=(N o3k (N o01 L L) L)
def q11:BT:=(N o00 (N o42 L L) (N o00 L L))
def q12:BT:=(N o39 (N o62 L L) L)
def q13:BT:=(N o15 (N o00 q12 (N o00 L L)) q0h)
def q14:BT:=(N o01 (N o6m L L) L)
def q15:BT:=(N o24 q14 (N o4W L L))
def q16:BT:=(N o2I (N o4e L L) (N o00 L L))
def q17:BT:=(N o2T (N o5O L L) L)
def q18:BT:=(N o01 q17 (N o4n L L))
def q19:BT:=(N o2b (N o3D (N o00 L L) L) (N o54 L L))
def q1a:BT:=(N o00 (N o6a L L) L)
def q1b:BT:=(N o2u (N o40 L L) (N o5r L L))
def q1c:BT:=(N o37 (N o5Y L L) L)
def q1d:BT:=(N o00 q1c (N o4x L L))
def q1e:BT:=(N o2k (N o00 (N o6F L L) L) (N o5h L L))
def q1f:BT:=(N o3t (N o01 L L) L)
def q1g:BT:=(N o00 q1f (N o4U L L))
def q1h:BT:=(N o2E (N o4a L L) (N o00 L L))
def q1i:BT:=(N o32 (N o5T L L) L)
def q1j:BT:=(N o1F q1i (N o4s L L))
def q1k:BT:=(N o00 (N o3I (N o6x L L) L) (N o00 L L))
def q1l:BT:=(N o00 (N o6f L L) L)
def q1m:BT:=(N o1Y q1l (N o4P L L))
def q1n:BT:=(N o00 (N o45 L L) (N o5w L L))
def q1o:BT:=(N o3c (N o00 L L) L)
def q1p:BT:=(N o2p (N o3V L L) (N o5m L L))
def q1q:BT:=(N o17 (N o1O q1o (N o4C L L)) q1p)
def q1r:BT:=(N o3y (N o6o L L) L)
def q1s:BT:=(N o01 q1r (N o4Z L L))
def q1t:BT:=(N o2O (N o00 L L) (N o5J L L))
def q1u:BT:=(N o2P (N o00 L L) L)
def q1v:BT:=(N o01 q1u (N o4l L L))
def q1w:BT:=(N o01 (N o6q L L) L)
def q1x:BT:=(N o28 q1w (N o50 L L))
def q1y:BT:=(N o3d (N o66 L L) L)
def q1z:BT:=(N o19 (N o00 q1y (N o4F L L)) q0h)
def q1A:BT:=(N o00 (N o5U L L) L)
def q1B:BT:=(N o1H q1A (N o01 L L))
def q1C:BT:=(N o2i (N o3L (N o6A L L) L) (N o5f L L))
def q1D:BT:=(N o3r (N o01 L L) L)
def q1E:BT:=(N o1Z q1D (N o00 L L))
def q1F:BT:=(N o00 (N o46 L L) (N o5z L L))
def q1G:BT:=(N o2W (N o01 L L) L)
def q1H:BT:=(N o1A q1G (N o00 L L))
def q1I:BT:=(N o2d (N o3E (N o6v L L) L) (N o57 L L))
def q1J:BT:=(N o3j (N o00 L L) L)
def q1K:BT:=(N o2v (N o01 L L) (N o5s L L))
def q1L:BT:=(N o01 (N o61 L L) L)
def q1M:BT:=(N o00 (N o3T L L) (N o00 L L))
def q1N:BT:=(N o14 (N o1M q1L (N o4y L L)) q1M)
def q1O:BT:=(N o00 (N o6l L L) L)
def q1P:BT:=(N o00 q1O (N o01 L L))
def q1Q:BT:=(N o2H (N o4d L L) (N o5H L L))
def q1R:BT:=(N o5D (N o5N L L) L)
def q1S:BT:=(N o00 q1R (N o00 L L))
def q1T:BT:=(N o01 (N o3C (N o6s L L) L) (N o53 L L))
def q1U:BT:=(N o3g (N o00 L L) L)
def q1V:BT:=(N o2t (N o3Z L L) (N o5q L L))
def q1W:BT:=(N o36 (N o5X L L) L)
def q1X:BT:=(N o1J q1W (N o4w L L))
def q1Y:BT:=(N o00 (N o3Q (N o6E L L) L) (N o00 L L))
def q1Z:BT:=(N o22 q0J (N o4T L L))
def q20:BT:=(N o2D (N o49 L L) (N o5E L L))
def q21:BT:=(N o00 (N o5S L L) L)
def q22:BT:=(N o0b q21 (N o4r L L))
def q23:BT:=(N o2f (N o3H (N o00 L L) L) (N o5c L L))
def q24:BT:=(N o3o (N o6e L L) L)
def q25:BT:=(N o1X q24 (N o00 L L))
def q26:BT:=(N o2y (N o44 L L) (N o5v L L))
def q27:BT:=(N o3b (N o63 L L) L)
def q28:BT:=(N o2o (N o00 L L) (N o5l L L))
def q29:BT:=(N o01 (N o00 q27 (N o4B L L)) q28)
def q2a:BT:=(N o3x (N o01 L L) L)
def q2b:BT:=(N o00 q2a (N o4Y L L))
def q2c:BT:=(N o0b (N o4i L L) (N o00 L L))
def q2d:BT:=(N o00 (N o5M L L) L)
def q2e:BT:=(N o1x q2d (N o01 L L))
def q2f:BT:=(N o2a q0J (N o51 L L))
def q2g:BT:=(N o3e (N o01 L L) L)
def q2h:BT:=(N o00 (N o3Y L L) (N o00 L L))
def q2i:BT:=(N o35 (N o5V L L) L)
def q2j:BT:=(N o00 q2i (N o00 L L))
def q2k:BT:=(N o01 (N o30 (N o6C L L) L) (N o01 L L))
def q2l:BT:=(N o01 (N o6i L L) L)
def q2m:BT:=(N o20 q2l (N o4S L L))
def q2n:BT:=(N o2B (N o47 L L) (N o30 L L))
def q2o:BT:=(N o1C q0D (N o4q L L))
def q2p:BT:=(N o00 (N o3F (N o01 L L) L) (N o30 L L))
def q2q:BT:=(N o30 (N o6d L L) L)
def q2r:BT:=(N o00 q2q (N o01 L L))
def q2s:BT:=(N o2w (N o00 L L) (N o5t L L))
def q2t:BT:=(N o2n (N o01 L L) (N o5k L L))
def q2u:BT:=(N o16 (N o01 q0J (N o4z L L)) q2t)
def q2v:BT:=(N o3w (N o6n L L) L)
def q2w:BT:=(N o25 q2v (N o00 L L))
def q2x:BT:=(N o2J (N o30 L L) (N o01 L L))
def q2y:BT:=(N o2U (N o5P L L) L)
def q2z:BT:=(N o1z q2y (N o4o L L))
def q2A:BT:=(N o00 (N o00 (N o6t L L) L) (N o55 L L))
def q2B:BT:=(N o3h (N o6b L L) L)
def q2C:BT:=(N o00 (N o41 L L) (N o00 L L))
def q2D:BT:=(N o38 (N o5Z L L) L)
def q2E:BT:=(N o1K q2D (N o00 L L))
def q2F:BT:=(N o2l (N o3R (N o6G L L) L) (N o5i L L))
def q2G:BT:=(N o3u (N o6k L L) L)
def q2H:BT:=(N o01 q2G (N o4V L L))
def q2I:BT:=(N o2F (N o4b L L) (N o5F L L))
def q2J:BT:=(N o33 (N o00 L L) L)
def q2K:BT:=(N o00 q2J (N o4t L L))
def q2L:BT:=(N o2g (N o3J (N o6y L L) L) (N o5d L L))
def q2M:BT:=(N o3p (N o6g L L) L)
def q2N:BT:=(N o00 q2M (N o4Q L L))
def q2O:BT:=(N o01 (N o00 L L) (N o5x L L))
def q2P:BT:=(N o00 (N o64 L L) L)
def q2Q:BT:=(N o2q (N o3W L L) (N o5n L L))
def q2R:BT:=(N o00 (N o1P q2P (N o4D L L)) q2Q)
def q2S:BT:=(N o3z (N o00 L L) L)
def q2T:BT:=(N o27 q2S (N o00 L L))
def q2U:BT:=(N o00 (N o4j L L) (N o5K L L))
def tree_766_:BT:=(N b0 (N b1 (N o67 (N b7 (N o00 (N o11 (N o01 q01 q03) q06) (N o0n (N o0V q08 q09) (N o01 q0b q0c))) (N o0b (N o01 (N o0n q0e q0f) (N o00 (N o00 q0g (N o4M L L)) q0h)) (N o0B q0k (N o1o q0m q0n)))) (N o00 (N o07 (N o0n (N o0L q0p q0r) (N o1c (N o00 q0s (N o0b L L)) q0t)) (N o01 (N o0n q0v q0w) (N o1m q0y q0z))) (N o0d (N o0r (N o01 q0B q0C) (N o1h q0E q0F)) (N o0n q0I (N o01 q0K q0L))))) (N b5 (N b9 (N o06 (N o0i (N o0K q0N q0P) (N o1a (N o01 q0J (N o4G L L)) q0Q)) (N o0y (N o0X q0S q0T) (N o00 q0V q0W))) (N o00 (N o0q (N o0S q0Y q0Z) (N o1g (N o1V q10 (N o00 L L)) q11)) (N o0D q13 (N o1q q15 q16)))) (N o02 (N o09 (N o0o (N o0N q18 q19) (N o1e (N o1T q1a (N o00 L L)) q1b)) (N o0A (N o12 q1d q1e) (N o00 q1g q1h))) (N o00 (N o0t (N o0U q1j q1k) (N o1j q1m q1n)) (N o0I q1q (N o1u q1s q1t)))))) (N b2 (N b4 (N b8 (N o01 (N o0h (N o0J q1v q1x) q1z) (N o0b (N o0W q1B q1C) (N o1k q1E q1F))) (N o0c (N o0p (N o0b q1H q1I) (N o01 (N o01 q1J (N o4N L L)) q1K)) (N o0C q1N (N o1p q1P q1Q)))) (N o68 (N o08 (N o0b (N o0M q1S q1T) (N o1d (N o1S q1U (N o4K L L)) q1V)) (N o0z (N o0b q1X q1Y) (N o1n q1Z q20))) (N o0e (N o0s (N o0T q22 q23) (N o1i q25 q26)) (N o0b q29 (N o1t q2b q2c))))) (N b6 (N b10 (N o00 (N o0j (N o00 q2e q2f) (N o1b (N o1R q2g (N o30 L L)) q2h)) (N o00 (N o0Y q2j q2k) (N o1l q2m q2n))) (N o01 (N o00 (N o00 q2o q2p) (N o00 q2r q2s)) (N o0E q2u (N o00 q2w q2x)))) (N o03 (N o0a (N o00 (N o0O q2z q2A) (N o1f (N o1U q2B (N o4L L L)) q2C)) (N o00 (N o00 q2E q2F) (N o01 q2H q2I))) (N o0f (N o0u (N o00 q2K q2L) (N o00 q2N q2O)) (N o00 q2R (N o1v q2T q2U)))))))
def q2V:BT:=(N o01 (N o00 L L) (N o00 L L))
def q2W:BT:=(N o18 (N o1Q L L) (N o00 L L))
def q2X:BT:=(N o01 (N o01 L L) (N o2z L L))
def q2Y:BT:=(N o0n (N o0V (N o1G L L) (N o2h L L)) q2X)
def q2Z:BT:=(N o0n (N o00 L L) (N o2c L L))
def q30:BT:=(N o00 (N o00 L L) (N o01 L L))
def q31:BT:=(N o13 (N o1L L L) (N o2m L L))
def q32:BT:=(N o1o (N o23 L L) (N o2G L L))
def q33:BT:=(N o0L (N o1y L L) (N o00 L L))
def q34:BT:=(N o1c (N o00 L L) (N o2s L L))
def q35:BT:=(N o0n (N o01 L L) (N o2j L L))
def q36:BT:=(N o1m (N o21 L L) (N o2C L L))
def q37:BT:=(N o1h (N o1W L L) (N o2x L L))
def q38:BT:=(N o00 (N o1N L L) (N o00 L L))
def q39:BT:=(N o0n q38 (N o01 (N o26 L L) L))
def q3a:BT:=(N o0K (N o1w L L) (N o29 L L))
def q3b:BT:=(N o1a (N o01 L L) (N o2r L L))
def q3c:BT:=(N o0X (N o1I L L) (N o00 L L))
def q3d:BT:=(N o00 (N o00 L L) (N o2A L L))
def q3e:BT:=(N o0S (N o1B L L) (N o2e L L))
def q3f:BT:=(N o15 (N o00 L L) (N o01 L L))
def q3g:BT:=(N o1q (N o24 L L) (N o2I L L))
def q3h:BT:=(N o00 (N o0q q3e (N o1g (N o1V L L) (N o00 L L))) (N o0D q3f q3g))
def q3i:BT:=(N o0N (N o01 L L) (N o2b L L))
def q3j:BT:=(N o1e (N o1T L L) (N o2u L L))
def q3k:BT:=(N o12 (N o00 L L) (N o2k L L))
def q3l:BT:=(N o00 (N o00 L L) (N o2E L L))
def q3m:BT:=(N o1j (N o1Y L L) (N o00 L L))
def q3n:BT:=(N o0t (N o0U (N o1F L L) (N o00 L L)) q3m)
def q3o:BT:=(N o17 (N o1O L L) (N o2p L L))
def q3p:BT:=(N o0I q3o (N o1u (N o01 L L) L))
def q3q:BT:=(N o0J (N o01 L L) (N o28 L L))
def q3r:BT:=(N o19 (N o00 L L) (N o01 L L))
def q3s:BT:=(N o0W (N o1H L L) (N o2i L L))
def q3t:BT:=(N o1k (N o1Z L L) (N o00 L L))
def q3u:BT:=(N o0b (N o1A L L) (N o2d L L))
def q3v:BT:=(N o01 (N o01 L L) (N o2v L L))
def q3w:BT:=(N o14 (N o1M L L) (N o00 L L))
def q3x:BT:=(N o1p (N o00 L L) (N o2H L L))
def q3y:BT:=(N o0M (N o00 L L) (N o01 L L))
def q3z:BT:=(N o1d (N o1S L L) (N o2t L L))
def q3A:BT:=(N o0b (N o1J L L) (N o00 L L))
def q3B:BT:=(N o1n (N o22 L L) (N o2D L L))
def q3C:BT:=(N o0T (N o0b L L) (N o2f L L))
def q3D:BT:=(N o1i (N o1X L L) (N o2y L L))
def q3E:BT:=(N o01 (N o00 L L) (N o2o L L))
def q3F:BT:=(N o0b q3E (N o1t (N o00 L L) L))
def q3G:BT:=(N o00 (N o1x L L) (N o2a L L))
def q3H:BT:=(N o1b (N o1R L L) (N o00 L L))
def q3I:BT:=(N o0Y (N o00 L L) (N o01 L L))
def q3J:BT:=(N o1l (N o20 L L) (N o2B L L))
def q3K:BT:=(N o00 (N o1C L L) (N o00 L L))
def q3L:BT:=(N o00 (N o00 L L) (N o2w L L))
def q3M:BT:=(N o16 (N o01 L L) (N o2n L L))
def q3N:BT:=(N o00 (N o25 L L) (N o2J L L))
def q3O:BT:=(N o01 (N o00 q3K q3L) (N o0E q3M q3N))
def q3P:BT:=(N o0O (N o1z L L) (N o00 L L))
def q3Q:BT:=(N o1f (N o1U L L) (N o00 L L))
def q3R:BT:=(N o00 (N o1K L L) (N o2l L L))
def q3S:BT:=(N o01 (N o01 L L) (N o2F L L))
def q3T:BT:=(N o00 (N o00 L L) (N o2g L L))
def q3U:BT:=(N o00 (N o1P L L) (N o2q L L))
def q3V:BT:=(N o00 q3U (N o1v (N o27 L L) L))
def tree_305_:BT:=(N b0 (N b1 (N o1D (N b7 (N o00 (N o11 q2V q2W) q2Y) (N o0b (N o01 q2Z q30) (N o0B q31 q32))) (N o00 (N o07 (N o0n q33 q34) (N o01 q35 q36)) (N o0d (N o0r q0h q37) q39))) (N b5 (N b9 (N o06 (N o0i q3a q3b) (N o0y q3c q3d)) q3h) (N o02 (N o09 (N o0o q3i q3j) (N o0A q3k q3l)) (N o00 q3n q3p)))) (N b2 (N b4 (N b8 (N o01 (N o0h q3q q3r) (N o0b q3s q3t)) (N o0c (N o0p q3u q3v) (N o0C q3w q3x))) (N o1E (N o08 (N o0b q3y q3z) (N o0z q3A q3B)) (N o0e (N o0s q3C q3D) q3F))) (N b6 (N b10 (N o00 (N o0j q3G q3H) (N o00 q3I q3J)) q3O) (N o03 (N o0a (N o00 q3P q3Q) (N o00 q3R q3S)) (N o0f (N o0u q3T q30) q3V)))))
def q3W:BT:=(N o0n (N o0V L L) (N o01 L L))
def q3X:BT:=(N o0n (N o00 L L) L)
def q3Y:BT:=(N o0B (N o13 L L) (N o1o L L))
def q3Z:BT:=(N o01 (N o0n L L) (N o1m L L))
def q40:BT:=(N o0r (N o01 L L) (N o1h L L))
def q41:BT:=(N o0y (N o0X L L) (N o00 L L))
def q42:BT:=(N o0D (N o15 L L) (N o1q L L))
def q43:BT:=(N o0A (N o12 L L) (N o00 L L))
def q44:BT:=(N o0t (N o0U L L) (N o1j L L))
def q45:BT:=(N o0b (N o0W L L) (N o1k L L))
def q46:BT:=(N o0C (N o14 L L) (N o1p L L))
def q47:BT:=(N o0z (N o0b L L) (N o1n L L))
def q48:BT:=(N o0s (N o0T L L) (N o1i L L))
def q49:BT:=(N o00 (N o0Y L L) (N o1l L L))
def q4a:BT:=(N o0u (N o00 L L) (N o00 L L))
def tree_191_:BT:=(N b0 (N b1 (N o1r (N b7 (N o00 (N o11 q0R (N o18 L L)) q3W) (N o0b (N o01 q3X (N o00 L L)) q3Y)) (N o00 (N o07 (N o0n (N o0L (N o1y L L) L) (N o1c L L)) q3Z) (N o0d q40 (N o0n (N o00 L L) (N o01 L L))))) (N b5 (N b9 (N o06 (N o0i (N o0K (N o1w L L) L) (N o1a L L)) q41) (N o00 (N o0q (N o0S (N o1B L L) L) (N o1g L L)) q42)) (N o02 (N o09 (N o0o (N o0N (N o01 L L) L) (N o1e L L)) q43) (N o00 q44 (N o0I (N o17 L L) (N o1u L L)))))) (N b2 (N b4 (N b8 (N o01 (N o0h (N o0J (N o01 L L) L) (N o19 L L)) q45) (N o0c (N o0p (N o0b (N o1A L L) L) (N o01 L L)) q46)) (N o1s (N o08 (N o0b (N o0M (N o00 L L) L) (N o1d L L)) q47) (N o0e q48 (N o0b (N o01 L L) (N o1t L L))))) (N b6 (N b10 (N o00 (N o0j (N o00 (N o1x L L) L) (N o1b L L)) q49) (N o01 (N o00 (N o00 (N o1C L L) L) (N o00 L L)) (N o0E (N o16 L L) (N o00 L L)))) (N o03 (N o0a (N o00 (N o0O (N o1z L L) L) (N o1f L L)) q30) (N o0f q4a (N o00 (N o00 L L) (N o1v L L)))))))
def q4b:BT:=(N o0b (N o01 L L) (N o0B L L))
def q4c:BT:=(N o0d (N o0r L L) L)
def q4d:BT:=(N o00 (N o0q L L) (N o0D L L))
def q4e:BT:=(N o00 (N o0t L L) L)
def q4f:BT:=(N o0c (N o0p L L) (N o0C L L))
def q4g:BT:=(N o0e (N o0s L L) L)
def q4h:BT:=(N o01 (N o00 L L) (N o0E L L))
def q4i:BT:=(N o0f (N o0u L L) L)
def tree_100_:BT:=(N b0 (N b1 (N o0v (N b7 (N o00 (N o0x L L) (N o0n L L)) q4b) (N o00 (N o07 (N o0n L L) (N o01 L L)) q4c)) (N b5 (N b9 (N o06 (N o0i L L) (N o0y L L)) q4d) (N o02 (N o09 (N o0o L L) (N o0A L L)) q4e))) (N b2 (N b4 (N b8 (N o01 (N o0h L L) (N o0b L L)) q4f) (N o0w (N o08 (N o0b L L) (N o0z L L)) q4g)) (N b6 (N b10 (N o00 (N o0j L L) (N o00 L L)) q4h) (N o03 (N o0a (N o00 L L) (N o00 L L)) q4i))))
def q4j:BT:=(N o00 q00 (N o4k (N o75 L L) L))
def q4k:BT:=(N o18 (N o1Q q04 (N o4E (N o7o L L) L)) (N o00 (N o3X (N o01 L L) L) (N o00 L L)))
def q4l:BT:=(N o0V (N o1G q07 q0J) q09)
def q4m:BT:=(N o2z q0R (N o5y L L))
def q4n:BT:=(N o01 (N o0n (N o00 q0d (N o4p (N o7a L L) L)) q0f) (N o00 (N o00 q0g (N o4M (N o7s L L) L)) (N o01 (N o00 (N o6R L L) L) (N o01 L L))))
def q4o:BT:=(N o13 (N o1L q0i q0R) (N o2m (N o3S (N o00 L L) L) (N o5j L L)))
def q4p:BT:=(N o00 (N o01 L L) L)
def q4q:BT:=(N o2G (N o4c (N o70 L L) L) (N o5G L L))
def q4r:BT:=(N o1y q0o (N o4m (N o77 L L) L))
def q4s:BT:=(N o1c (N o00 q0s (N o0b (N o7q L L) L)) (N o2s (N o00 (N o6P L L) L) (N o5p L L)))
def q4t:BT:=(N o0n (N o01 q0u (N o4v (N o7h L L) L)) q0w)
def q4u:BT:=(N o2C (N o48 (N o00 L L) L) (N o0b L L))
def q4v:BT:=(N o01 (N o00 q0A q0J) q0C)
def q4w:BT:=(N o2x (N o43 (N o6U L L) L) (N o5u L L))
def q4x:BT:=(N o00 (N o1N q0G (N o4A (N o00 L L) L)) (N o00 (N o3U (N o6K L L) L) (N o00 L L)))
def q4y:BT:=(N o0b (N o01 L L) L)
def q4z:BT:=(N o00 q4y (N o5I L L))
def q4A:BT:=(N o1a (N o01 q0J (N o4G (N o01 L L) L)) (N o2r q0R (N o5o L L)))
def q4B:BT:=(N o0X (N o1I q0R (N o4u (N o7f L L) L)) q0T)
def q4C:BT:=(N o2A (N o00 (N o6X L L) L) (N o5A L L))
def q4D:BT:=(N o01 (N o01 L L) L)
def q4E:BT:=(N o0q (N o0S (N o1B q0X q4D) q0Z) (N o1g (N o1V q10 (N o00 (N o7u L L) L)) (N o00 (N o42 (N o6S L L) L) (N o00 L L))))
def q4F:BT:=(N o15 (N o00 q12 (N o00 (N o7k L L) L)) (N o01 (N o00 (N o6J L L) L) (N o01 L L)))
def q4G:BT:=(N o2I (N o4e (N o72 L L) L) (N o00 L L))
def q4H:BT:=(N o0o (N o0N (N o01 q17 (N o4n (N o78 L L) L)) q19) (N o1e (N o1T q1a q0J) (N o2u (N o40 (N o00 L L) L) (N o5r L L))))
def q4I:BT:=(N o12 (N o00 q1c (N o4x (N o01 L L) L)) q1e)
def q4J:BT:=(N o2E (N o4a (N o6Z L L) L) (N o00 L L))
def q4K:BT:=(N o0U (N o1F q1i (N o4s (N o7d L L) L)) q1k)
def q4L:BT:=(N o00 (N o45 (N o01 L L) L) (N o5w L L))
def q4M:BT:=(N o17 (N o1O q1o (N o4C (N o7m L L) L)) (N o2p (N o3V (N o6M L L) L) (N o5m L L)))
def q4N:BT:=(N o2O q0J (N o5J L L))
def q4O:BT:=(N o01 q1u (N o4l (N o76 L L) L))
def q4P:BT:=(N o19 (N o00 q1y (N o4F (N o00 L L) L)) (N o01 (N o00 (N o6N L L) L) (N o01 L L)))
def q4Q:BT:=(N o0W (N o1H q1A q4D) q1C)
def q4R:BT:=(N o00 (N o46 (N o6W L L) L) (N o5z L L))
def q4S:BT:=(N o0p (N o0b (N o1A q1G q0J) q1I) (N o01 (N o01 q1J (N o4N (N o7t L L) L)) (N o2v q0R (N o5s L L))))
def q4T:BT:=(N o14 (N o1M q1L (N o4y (N o7j L L) L)) (N o00 (N o3T (N o01 L L) L) (N o00 L L)))
def q4U:BT:=(N o2H (N o4d (N o71 L L) L) (N o5H L L))
def q4V:BT:=(N o0b (N o0M (N o00 q1R q0J) q1T) (N o1d (N o1S q1U (N o4K (N o7r L L) L)) (N o2t (N o3Z (N o6Q L L) L) (N o5q L L))))
def q4W:BT:=(N o0b (N o1J q1W (N o4w (N o00 L L) L)) q1Y)
def q4X:BT:=(N o2D (N o49 (N o01 L L) L) (N o5E L L))
def q4Y:BT:=(N o0T (N o0b q21 (N o4r (N o7c L L) L)) q23)
def q4Z:BT:=(N o2y (N o44 (N o00 L L) L) (N o5v L L))
def q50:BT:=(N o01 (N o00 q27 (N o4B (N o01 L L) L)) (N o2o (N o00 (N o6L L L) L) (N o5l L L)))
def q51:BT:=(N o0b (N o4i (N o73 L L) L) (N o00 L L))
def q52:BT:=(N o1b (N o1R q2g (N o30 (N o7p L L) L)) (N o00 (N o3Y (N o6O L L) L) (N o00 L L)))
def q53:BT:=(N o0Y (N o00 q2i (N o00 (N o7g L L) L)) q2k)
def q54:BT:=(N o2B (N o47 (N o6Y L L) L) (N o30 L L))
def q55:BT:=(N o00 (N o1C q0D (N o4q (N o7b L L) L)) q2p)
def q56:BT:=(N o2w (N o00 (N o6T L L) L) (N o5t L L))
def q57:BT:=(N o16 (N o01 q0J (N o4z (N o7l L L) L)) (N o2n q0R (N o5k L L)))
def q58:BT:=(N o2J (N o30 (N o00 L L) L) (N o01 L L))
def q59:BT:=(N o00 (N o0O (N o1z q2y (N o4o (N o79 L L) L)) q2A) (N o1f (N o1U q2B (N o4L (N o01 L L) L)) (N o00 (N o41 (N o01 L L) L) (N o00 L L))))
def q5a:BT:=(N o00 (N o1K q2D (N o00 (N o7i L L) L)) q2F)
def q5b:BT:=(N o2F (N o4b (N o00 L L) L) (N o5F L L))
def q5c:BT:=(N o00 (N o00 q2J (N o4t (N o7e L L) L)) q2L)
def q5d:BT:=(N o01 (N o00 (N o6V L L) L) (N o5x L L))
def q5e:BT:=(N o00 (N o1P q2P (N o4D (N o7n L L) L)) (N o2q (N o3W (N o00 L L) L) (N o5n L L)))
def q5f:BT:=(N o00 (N o4j (N o74 L L) L) (N o5K L L))
def tree_879_:BT:=(N b0 (N b1 (N o7v (N b7 (N o00 (N o11 (N o01 q4j (N o00 q02 (N o01 (N o7I L L) L))) q4k) (N o0n q4l (N o01 (N o01 q0a (N o4R (N o00 L L) L)) q4m))) (N o0b q4n (N o0B q4o (N o1o (N o23 q0l q4p) q4q)))) (N o00 (N o07 (N o0n (N o0L q4r (N o00 q0q (N o52 (N o7L L L) L))) q4s) (N o01 q4t (N o1m (N o21 q0x (N o00 (N o7B L L) L)) q4u))) (N o0d (N o0r q4v (N o1h (N o1W q0D (N o4O (N o01 L L) L)) q4w)) (N o0n q4x (N o01 (N o26 q0J (N o4X (N o7G L L) L)) q4z))))) (N b5 (N b9 (N o06 (N o0i (N o0K (N o1w q0M q0J) (N o29 q0O (N o00 (N o7J L L) L))) q4A) (N o0y q4B (N o00 (N o00 q0U (N o01 (N o7A L L) L)) q4C))) (N o00 q4E (N o0D q4F (N o1q (N o24 q14 (N o4W (N o00 L L) L)) q4G)))) (N o02 (N o09 q4H (N o0A q4I (N o00 (N o00 q1f (N o4U (N o7D L L) L)) q4J))) (N o00 (N o0t q4K (N o1j (N o1Y q1l (N o4P (N o7y L L) L)) q4L)) (N o0I q4M (N o1u (N o01 q1r (N o4Z (N o00 L L) L)) q4N)))))) (N b2 (N b4 (N b8 (N o01 (N o0h (N o0J q4O (N o28 q1w (N o50 (N o00 L L) L))) q4P) (N o0b q4Q (N o1k (N o1Z q1D q4p) q4R))) (N o0c q4S (N o0C q4T (N o1p (N o00 q1O (N o01 (N o7E L L) L)) q4U)))) (N o7w (N o08 q4V (N o0z q4W (N o1n (N o22 q0J (N o4T (N o7C L L) L)) q4X))) (N o0e (N o0s q4Y (N o1i (N o1X q24 (N o00 (N o7x L L) L)) q4Z)) (N o0b q50 (N o1t (N o00 q2a (N o4Y (N o7H L L) L)) q51))))) (N b6 (N b10 (N o00 (N o0j (N o00 (N o1x q2d q4D) (N o2a q0J (N o51 (N o7K L L) L))) q52) (N o00 q53 (N o1l (N o20 q2l (N o4S (N o00 L L) L)) q54))) (N o01 (N o00 q55 (N o00 (N o00 q2q q0R) q56)) (N o0E q57 (N o00 (N o25 q2v (N o00 (N o7F L L) L)) q58)))) (N o03 (N o0a q59 (N o00 q5a (N o01 (N o01 q2G (N o4V (N o00 L L) L)) q5b))) (N o0f (N o0u q5c (N o00 (N o00 q2M (N o4Q (N o7z L L) L)) q5d)) (N o00 q5e (N o1v (N o27 q2S q4p) q5f)))))))
def q5g:BT:=(N o00 (N o01 L L) (N o4k L L))
def q5h:BT:=(N o1Q (N o01 L L) (N o4E L L))
def q5i:BT:=(N o00 (N o3X L L) L)
def q5j:BT:=(N o1G (N o34 L L) (N o00 L L))
def q5k:BT:=(N o2h (N o3K L L) L)
def q5l:BT:=(N o01 (N o3q L L) L)
def q5m:BT:=(N o2z (N o01 L L) L)
def q5n:BT:=(N o00 (N o2V L L) (N o4p L L))
def q5o:BT:=(N o2c (N o01 L L) L)
def q5p:BT:=(N o00 (N o3i L L) L)
def q5q:BT:=(N o1L (N o00 L L) (N o01 L L))
def q5r:BT:=(N o2m (N o3S L L) L)
def q5s:BT:=(N o23 (N o3v L L) L)
def q5t:BT:=(N o2G (N o4c L L) L)
def q5u:BT:=(N o1y (N o2R L L) (N o4m L L))
def q5v:BT:=(N o00 (N o3B L L) L)
def q5w:BT:=(N o00 (N o3f L L) L)
def q5x:BT:=(N o2s (N o00 L L) L)
def q5y:BT:=(N o01 (N o00 L L) (N o4v L L))
def q5z:BT:=(N o2j (N o0b L L) L)
def q5A:BT:=(N o21 (N o3s L L) L)
def q5B:BT:=(N o2C (N o48 L L) L)
def q5C:BT:=(N o00 (N o31 L L) (N o00 L L))
def q5D:BT:=(N o01 (N o3G L L) L)
def q5E:BT:=(N o1W (N o0b L L) L)
def q5F:BT:=(N o2x (N o43 L L) L)
def q5G:BT:=(N o1N (N o3a L L) (N o4A L L))
def q5H:BT:=(N o00 (N o3U L L) L)
def q5I:BT:=(N o26 (N o00 L L) L)
def q5J:BT:=(N o00 (N o0b L L) L)
def q5K:BT:=(N o1w (N o2Q L L) (N o00 L L))
def q5L:BT:=(N o29 (N o3A L L) L)
def q5M:BT:=(N o01 (N o00 L L) (N o4G L L))
def q5N:BT:=(N o2r (N o01 L L) L)
def q5O:BT:=(N o1I (N o01 L L) (N o4u L L))
def q5P:BT:=(N o00 (N o3M L L) L)
def q5Q:BT:=(N o2A (N o00 L L) L)
def q5R:BT:=(N o1B (N o30 L L) (N o01 L L))
def q5S:BT:=(N o2e (N o00 L L) L)
def q5T:BT:=(N o1V (N o3k L L) L)
def q5U:BT:=(N o00 (N o42 L L) L)
def q5V:BT:=(N o00 (N o39 L L) (N o00 L L))
def q5W:BT:=(N o24 (N o01 L L) L)
def q5X:BT:=(N o2I (N o4e L L) L)
def q5Y:BT:=(N o01 (N o2T L L) (N o4n L L))
def q5Z:BT:=(N o2b (N o3D L L) L)
def q60:BT:=(N o1T (N o00 L L) L)
def q61:BT:=(N o2u (N o40 L L) L)
def q62:BT:=(N o00 (N o37 L L) (N o4x L L))
def q63:BT:=(N o2k (N o00 L L) L)
def q64:BT:=(N o00 (N o3t L L) L)
def q65:BT:=(N o2E (N o4a L L) L)
def q66:BT:=(N o1F (N o32 L L) (N o4s L L))
def q67:BT:=(N o00 (N o3I L L) L)
def q68:BT:=(N o1Y (N o00 L L) L)
def q69:BT:=(N o00 (N o45 L L) L)
def q6a:BT:=(N o1O (N o3c L L) (N o4C L L))
def q6b:BT:=(N o2p (N o3V L L) L)
def q6c:BT:=(N o01 (N o3y L L) L)
def q6d:BT:=(N o2O (N o00 L L) L)
def q6e:BT:=(N o01 (N o2P L L) (N o4l L L))
def q6f:BT:=(N o28 (N o01 L L) L)
def q6g:BT:=(N o00 (N o3d L L) (N o4F L L))
def q6h:BT:=(N o1H (N o00 L L) (N o01 L L))
def q6i:BT:=(N o2i (N o3L L L) L)
def q6j:BT:=(N o1Z (N o3r L L) L)
def q6k:BT:=(N o00 (N o46 L L) L)
def q6l:BT:=(N o1A (N o2W L L) (N o00 L L))
def q6m:BT:=(N o2d (N o3E L L) L)
def q6n:BT:=(N o01 (N o3j L L) L)
def q6o:BT:=(N o2v (N o01 L L) L)
def q6p:BT:=(N o1M (N o01 L L) (N o4y L L))
def q6q:BT:=(N o00 (N o3T L L) L)
def q6r:BT:=(N o2H (N o4d L L) L)
def q6s:BT:=(N o01 (N o3C L L) L)
def q6t:BT:=(N o1S (N o3g L L) L)
def q6u:BT:=(N o2t (N o3Z L L) L)
def q6v:BT:=(N o1J (N o36 L L) (N o4w L L))
def q6w:BT:=(N o00 (N o3Q L L) L)
def q6x:BT:=(N o22 (N o00 L L) L)
def q6y:BT:=(N o2D (N o49 L L) L)
def q6z:BT:=(N o0b (N o00 L L) (N o4r L L))
def q6A:BT:=(N o2f (N o3H L L) L)
def q6B:BT:=(N o1X (N o3o L L) L)
def q6C:BT:=(N o2y (N o44 L L) L)
def q6D:BT:=(N o00 (N o3b L L) (N o4B L L))
def q6E:BT:=(N o2o (N o00 L L) L)
def q6F:BT:=(N o00 (N o3x L L) L)
def q6G:BT:=(N o0b (N o4i L L) L)
def q6H:BT:=(N o1x (N o00 L L) (N o01 L L))
def q6I:BT:=(N o2a (N o00 L L) L)
def q6J:BT:=(N o1R (N o3e L L) L)
def q6K:BT:=(N o00 (N o3Y L L) L)
def q6L:BT:=(N o00 (N o35 L L) (N o00 L L))
def q6M:BT:=(N o01 (N o30 L L) L)
def q6N:BT:=(N o20 (N o01 L L) L)
def q6O:BT:=(N o2B (N o47 L L) L)
def q6P:BT:=(N o1C (N o0b L L) (N o4q L L))
def q6Q:BT:=(N o00 (N o3F L L) L)
def q6R:BT:=(N o00 (N o30 L L) L)
def q6S:BT:=(N o2w (N o00 L L) L)
def q6T:BT:=(N o01 (N o00 L L) (N o4z L L))
def q6U:BT:=(N o2n (N o01 L L) L)
def q6V:BT:=(N o25 (N o3w L L) L)
def q6W:BT:=(N o2J (N o30 L L) L)
def q6X:BT:=(N o1z (N o2U L L) (N o4o L L))
def q6Y:BT:=(N o1U (N o3h L L) L)
def q6Z:BT:=(N o00 (N o41 L L) L)
def q70:BT:=(N o1K (N o38 L L) (N o00 L L))
def q71:BT:=(N o2l (N o3R L L) L)
def q72:BT:=(N o01 (N o3u L L) L)
def q73:BT:=(N o2F (N o4b L L) L)
def q74:BT:=(N o00 (N o33 L L) (N o4t L L))
def q75:BT:=(N o2g (N o3J L L) L)
def q76:BT:=(N o00 (N o3p L L) L)
def q77:BT:=(N o1P (N o00 L L) (N o4D L L))
def q78:BT:=(N o2q (N o3W L L) L)
def q79:BT:=(N o27 (N o3z L L) L)
def q7a:BT:=(N o00 (N o4j L L) L)
def tree_574_:BT:=(N b0 (N b1 (N o4f (N b7 (N o00 (N o11 (N o01 q5g q0J) (N o18 q5h q5i)) (N o0n (N o0V q5j q5k) (N o01 q5l q5m))) (N o0b (N o01 (N o0n q5n q5o) (N o00 q5p q0R)) (N o0B (N o13 q5q q5r) (N o1o q5s q5t)))) (N o00 (N o07 (N o0n (N o0L q5u q5v) (N o1c q5w q5x)) (N o01 (N o0n q5y q5z) (N o1m q5A q5B))) (N o0d (N o0r (N o01 q5C q5D) (N o1h q5E q5F)) (N o0n (N o00 q5G q5H) (N o01 q5I q5J))))) (N b5 (N b9 (N o06 (N o0i (N o0K q5K q5L) (N o1a q5M q5N)) (N o0y (N o0X q5O q5P) (N o00 q0J q5Q))) (N o00 (N o0q (N o0S q5R q5S) (N o1g q5T q5U)) (N o0D (N o15 q5V q0R) (N o1q q5W q5X)))) (N o02 (N o09 (N o0o (N o0N q5Y q5Z) (N o1e q60 q61)) (N o0A (N o12 q62 q63) (N o00 q64 q65))) (N o00 (N o0t (N o0U q66 q67) (N o1j q68 q69)) (N o0I (N o17 q6a q6b) (N o1u q6c q6d)))))) (N b2 (N b4 (N b8 (N o01 (N o0h (N o0J q6e q6f) (N o19 q6g q0R)) (N o0b (N o0W q6h q6i) (N o1k q6j q6k))) (N o0c (N o0p (N o0b q6l q6m) (N o01 q6n q6o)) (N o0C (N o14 q6p q6q) (N o1p q0J q6r)))) (N o4g (N o08 (N o0b (N o0M (N o00 (N o4h L L) (N o00 L L)) q6s) (N o1d q6t q6u)) (N o0z (N o0b q6v q6w) (N o1n q6x q6y))) (N o0e (N o0s (N o0T q6z q6A) (N o1i q6B q6C)) (N o0b (N o01 q6D q6E) (N o1t q6F q6G))))) (N b6 (N b10 (N o00 (N o0j (N o00 q6H q6I) (N o1b q6J q6K)) (N o00 (N o0Y q6L q6M) (N o1l q6N q6O))) (N o01 (N o00 (N o00 q6P q6Q) (N o00 q6R q6S)) (N o0E (N o16 q6T q6U) (N o00 q6V q6W)))) (N o03 (N o0a (N o00 (N o0O q6X q0J) (N o1f q6Y q6Z)) (N o00 (N o00 q70 q71) (N o01 q72 q73))) (N o0f (N o0u (N o00 q74 q75) (N o00 q76 q0R)) (N o00 (N o00 q77 q78) (N o1v q79 q7a)))))))
def tree_172_:BT:=(N b0 (N b1 (N o0Z (N b7 (N o00 (N o11 (N o01 L L) (N o18 L L)) q3W) (N o0b (N o01 (N o0n L L) (N o00 L L)) q3Y)) (N o00 (N o07 (N o0n (N o0L L L) (N o1c L L)) q3Z) (N o0d q40 q3X))) (N b5 (N b9 (N o06 (N o0i (N o0K L L) (N o1a L L)) q41) (N o00 (N o0q (N o0S L L) (N o1g L L)) q42)) (N o02 (N o09 (N o0o (N o0N L L) (N o1e L L)) q43) (N o00 q44 (N o0I (N o17 L L) L))))) (N b2 (N b4 (N b8 (N o01 (N o0h (N o0J L L) (N o19 L L)) q45) (N o0c (N o0p (N o0b L L) (N o01 L L)) q46)) (N o10 (N o08 (N o0b (N o0M L L) (N o1d L L)) q47) (N o0e q48 q4y))) (N b6 (N b10 (N o00 (N o0j (N o00 L L) (N o1b L L)) q49) (N o01 (N o00 (N o00 L L) (N o00 L L)) (N o0E (N o16 L L) L))) (N o03 (N o0a (N o00 (N o0O L L) (N o1f L L)) q30) (N o0f q4a q0J)))))
def q7b:BT:=(N o06 (N o0i L L) L)
def q7c:BT:=(N o01 (N o0h L L) L)
def q7d:BT:=(N o00 (N o0j L L) L)
def tree_70_:BT:=(N b0 (N b1 (N o04 (N b7 (N o00 (N o0g L L) L) (N o0b L L)) (N o00 (N o07 L L) (N o0d L L))) (N b5 (N b9 q7b (N o00 L L)) (N o02 (N o09 L L) (N o00 L L)))) (N b2 (N b4 (N b8 q7c (N o0c L L)) (N o05 (N o08 L L) (N o0e L L))) (N b6 (N b10 q7d (N o01 L L)) (N o03 (N o0a L L) (N o0f L L)))))
def q7e:BT:=(N o01 q4p (N o00 L L))
def q7f:BT:=(N o1Q (N o01 L L) L)
def q7g:BT:=(N o18 q7f (N o00 L L))
def q7h:BT:=(N o1G (N o34 L L) L)
def q7i:BT:=(N o00 (N o2V L L) L)
def q7j:BT:=(N o0n q7i (N o2c L L))
def q7k:BT:=(N o00 q5p (N o01 L L))
def q7l:BT:=(N o1L (N o00 L L) L)
def q7m:BT:=(N o13 q7l (N o2m L L))
def q7n:BT:=(N o1y (N o2R L L) L)
def q7o:BT:=(N o0L q7n (N o00 L L))
def q7p:BT:=(N o1c q5w (N o2s L L))
def q7q:BT:=(N o0n q0R (N o2j L L))
def q7r:BT:=(N o00 (N o31 L L) L)
def q7s:BT:=(N o1N (N o3a L L) L)
def q7t:BT:=(N o00 q7s (N o00 L L))
def q7u:BT:=(N o01 (N o26 L L) (N o00 L L))
def q7v:BT:=(N o1w (N o2Q L L) L)
def q7w:BT:=(N o0K q7v (N o29 L L))
def q7x:BT:=(N o1a q0R (N o2r L L))
def q7y:BT:=(N o1I (N o01 L L) L)
def q7z:BT:=(N o1B (N o30 L L) L)
def q7A:BT:=(N o1g q5T (N o00 L L))
def q7B:BT:=(N o00 (N o39 L L) L)
def q7C:BT:=(N o15 q7B (N o01 L L))
def q7D:BT:=(N o01 (N o2T L L) L)
def q7E:BT:=(N o0N q7D (N o2b L L))
def q7F:BT:=(N o1e q60 (N o2u L L))
def q7G:BT:=(N o00 (N o37 L L) L)
def q7H:BT:=(N o12 q7G (N o2k L L))
def q7I:BT:=(N o1F (N o32 L L) L)
def q7J:BT:=(N o1O (N o3c L L) L)
def q7K:BT:=(N o17 q7J (N o2p L L))
def q7L:BT:=(N o1u (N o01 L L) (N o2O L L))
def q7M:BT:=(N o01 (N o2P L L) L)
def q7N:BT:=(N o0J q7M (N o28 L L))
def q7O:BT:=(N o00 (N o3d L L) L)
def q7P:BT:=(N o19 q7O (N o01 L L))
def q7Q:BT:=(N o1H (N o00 L L) L)
def q7R:BT:=(N o1A (N o2W L L) L)
def q7S:BT:=(N o0b q7R (N o2d L L))
def q7T:BT:=(N o01 q6n (N o2v L L))
def q7U:BT:=(N o1M (N o01 L L) L)
def q7V:BT:=(N o14 q7U (N o00 L L))
def q7W:BT:=(N o1d q6t (N o2t L L))
def q7X:BT:=(N o1J (N o36 L L) L)
def q7Y:BT:=(N o0b q7X (N o00 L L))
def q7Z:BT:=(N o00 (N o3b L L) L)
def q80:BT:=(N o01 q7Z (N o2o L L))
def q81:BT:=(N o1t (N o00 L L) (N o0b L L))
def q82:BT:=(N o1x (N o00 L L) L)
def q83:BT:=(N o00 q82 (N o2a L L))
def q84:BT:=(N o1b q6J (N o00 L L))
def q85:BT:=(N o00 (N o35 L L) L)
def q86:BT:=(N o0Y q85 (N o01 L L))
def q87:BT:=(N o1C (N o0b L L) L)
def q88:BT:=(N o16 q0R (N o2n L L))
def q89:BT:=(N o1z (N o2U L L) L)
def q8a:BT:=(N o0O q89 (N o00 L L))
def q8b:BT:=(N o1f q6Y (N o00 L L))
def q8c:BT:=(N o1K (N o38 L L) L)
def q8d:BT:=(N o00 q8c (N o2l L L))
def q8e:BT:=(N o00 (N o33 L L) L)
def q8f:BT:=(N o1P (N o00 L L) L)
def q8g:BT:=(N o00 q8f (N o2q L L))
def q8h:BT:=(N o1v (N o27 L L) (N o00 L L))
def tree_445_:BT:=(N b0 (N b1 (N o2X (N b7 (N o00 (N o11 q7e q7g) (N o0n (N o0V q7h (N o2h L L)) q2X)) (N o0b (N o01 q7j q7k) (N o0B q7m q32))) (N o00 (N o07 (N o0n q7o q7p) (N o01 q7q q36)) (N o0d (N o0r (N o01 q7r (N o01 L L)) q37) (N o0n q7t q7u)))) (N b5 (N b9 (N o06 (N o0i q7w q7x) (N o0y (N o0X q7y (N o00 L L)) q3d)) (N o00 (N o0q (N o0S q7z (N o2e L L)) q7A) (N o0D q7C q3g))) (N o02 (N o09 (N o0o q7E q7F) (N o0A q7H q3l)) (N o00 (N o0t (N o0U q7I (N o00 L L)) q3m) (N o0I q7K q7L))))) (N b2 (N b4 (N b8 (N o01 (N o0h q7N q7P) (N o0b (N o0W q7Q (N o2i L L)) q3t)) (N o0c (N o0p q7S q7T) (N o0C q7V q3x))) (N o2Y (N o08 (N o0b (N o0M (N o00 (N o2Z L L) L) (N o01 L L)) q7W) (N o0z q7Y q3B)) (N o0e (N o0s (N o0T q0D (N o2f L L)) q3D) (N o0b q80 q81)))) (N b6 (N b10 (N o00 (N o0j q83 q84) (N o00 q86 q3J)) (N o01 (N o00 (N o00 q87 (N o00 L L)) q3L) (N o0E q88 q3N))) (N o03 (N o0a (N o00 q8a q8b) (N o00 q8d q3S)) (N o0f (N o0u (N o00 q8e (N o2g L L)) q30) (N o00 q8g q8h))))))
def q8i:BT:=(N o07 (N o0n (N o0L L L) L) (N o01 L L))
def q8j:BT:=(N o0i (N o0K L L) L)
def q8k:BT:=(N o09 (N o0o (N o0N L L) L) (N o0A L L))
def q8l:BT:=(N o0h (N o0J L L) L)
def q8m:BT:=(N o08 (N o0b (N o0M L L) L) (N o0z L L))
def q8n:BT:=(N o0j (N o00 L L) L)
def q8o:BT:=(N o0a (N o00 (N o0O L L) L) (N o00 L L))
def tree_130_:BT:=(N b0 (N b1 (N o0P (N b7 (N o00 (N o0R (N o01 L L) L) (N o0n (N o0V L L) L)) (N o0b (N o01 (N o0n L L) L) (N o0B L L))) (N o00 q8i (N o0d (N o0r (N o01 L L) L) (N o0n L L)))) (N b5 (N b9 (N o06 q8j (N o0y (N o0X L L) L)) (N o00 (N o0q (N o0S L L) L) (N o0D L L))) (N o02 q8k (N o00 (N o0t (N o0U L L) L) (N o0I L L))))) (N b2 (N b4 (N b8 (N o01 q8l (N o0b (N o0W L L) L)) (N o0c (N o0p (N o0b L L) L) (N o0C L L))) (N o0Q q8m (N o0e (N o0s (N o0T L L) L) (N o0b L L)))) (N b6 (N b10 (N o00 q8n (N o00 (N o0Y L L) L)) (N o01 q0J (N o0E L L))) (N o03 q8o (N o0f (N o0u (N o00 L L) L) (N o00 L L))))))
def q8p:BT:=(N o01 q5I (N o00 L L))
def q8q:BT:=(N o1u q6c (N o2O L L))
def q8r:BT:=(N o1t q6F (N o0b L L))
def q8s:BT:=(N o00 q6V (N o2J L L))
def q8t:BT:=(N o1v q79 (N o00 L L))
def tree_488_:BT:=(N b0 (N b1 (N o3l (N b7 (N o00 (N o11 (N o01 q4p q0J) q7g) (N o0n (N o0V q7h q5k) (N o01 q5l (N o2z L L)))) (N o0b (N o01 (N o0n q7i q5o) q7k) (N o0B q7m (N o1o q5s (N o2G L L))))) (N o00 (N o07 (N o0n (N o0L q7n q5v) q7p) (N o01 q7q (N o1m q5A (N o2C L L)))) (N o0d (N o0r (N o01 q7r q5D) (N o1h q5E (N o2x L L))) (N o0n q7t q8p)))) (N b5 (N b9 (N o06 (N o0i (N o0K q7v q5L) q7x) (N o0y (N o0X q7y q5P) (N o00 q0J (N o2A L L)))) (N o00 (N o0q (N o0S q7z q5S) q7A) (N o0D q7C (N o1q q5W (N o2I L L))))) (N o02 (N o09 (N o0o (N o0N q7D q5Z) q7F) (N o0A q7H (N o00 q64 (N o2E L L)))) (N o00 (N o0t (N o0U q7I q67) (N o1j q68 (N o00 L L))) (N o0I q7K q8q))))) (N b2 (N b4 (N b8 (N o01 (N o0h (N o0J q7M q6f) q7P) (N o0b (N o0W q7Q q6i) (N o1k q6j (N o00 L L)))) (N o0c (N o0p (N o0b q7R q6m) q7T) (N o0C q7V (N o1p q0J (N o2H L L))))) (N o3m (N o08 (N o0b (N o0M (N o00 (N o3n L L) L) q6s) q7W) (N o0z q7Y (N o1n q6x (N o2D L L)))) (N o0e (N o0s (N o0T q0D q6A) (N o1i q6B (N o2y L L))) (N o0b q80 q8r)))) (N b6 (N b10 (N o00 (N o0j (N o00 q82 q6I) q84) (N o00 q86 (N o1l q6N (N o2B L L)))) (N o01 (N o00 (N o00 q87 q6Q) (N o00 q6R (N o2w L L))) (N o0E q88 q8s))) (N o03 (N o0a (N o00 (N o0O q89 q0J) q8b) (N o00 q8d (N o01 q72 (N o2F L L)))) (N o0f (N o0u (N o00 q8e q75) (N o00 q76 (N o01 L L))) (N o00 q8g q8t))))))
def tree_531_:BT:=(N b0 (N b1 (N o3N (N b7 (N o00 (N o11 (N o01 q4p q0J) (N o18 q7f q5i)) (N o0n (N o0V q7h q5k) (N o01 q5l q5m))) (N o0b (N o01 (N o0n q7i q5o) (N o00 q5p q0R)) (N o0B (N o13 q7l q5r) (N o1o q5s q5t)))) (N o00 (N o07 (N o0n (N o0L q7n q5v) (N o1c q5w q5x)) (N o01 (N o0n q0R q5z) (N o1m q5A q5B))) (N o0d (N o0r (N o01 q7r q5D) (N o1h q5E q5F)) (N o0n (N o00 q7s q5H) q8p)))) (N b5 (N b9 (N o06 (N o0i (N o0K q7v q5L) (N o1a q0R q5N)) (N o0y (N o0X q7y q5P) (N o00 q0J q5Q))) (N o00 (N o0q (N o0S q7z q5S) (N o1g q5T q5U)) (N o0D (N o15 q7B q0R) (N o1q q5W q5X)))) (N o02 (N o09 (N o0o (N o0N q7D q5Z) (N o1e q60 q61)) (N o0A (N o12 q7G q63) (N o00 q64 q65))) (N o00 (N o0t (N o0U q7I q67) (N o1j q68 q69)) (N o0I (N o17 q7J q6b) q8q))))) (N b2 (N b4 (N b8 (N o01 (N o0h (N o0J q7M q6f) (N o19 q7O q0R)) (N o0b (N o0W q7Q q6i) (N o1k q6j q6k))) (N o0c (N o0p (N o0b q7R q6m) (N o01 q6n q6o)) (N o0C (N o14 q7U q6q) (N o1p q0J q6r)))) (N o3O (N o08 (N o0b (N o0M (N o00 (N o3P L L) L) q6s) (N o1d q6t q6u)) (N o0z (N o0b q7X q6w) (N o1n q6x q6y))) (N o0e (N o0s (N o0T q0D q6A) (N o1i q6B q6C)) (N o0b (N o01 q7Z q6E) q8r)))) (N b6 (N b10 (N o00 (N o0j (N o00 q82 q6I) (N o1b q6J q6K)) (N o00 (N o0Y q85 q6M) (N o1l q6N q6O))) (N o01 (N o00 (N o00 q87 q6Q) (N o00 q6R q6S)) (N o0E (N o16 q0R q6U) q8s))) (N o03 (N o0a (N o00 (N o0O q89 q0J) (N o1f q6Y q6Z)) (N o00 (N o00 q8c q71) (N o01 q72 q73))) (N o0f (N o0u (N o00 q8e q75) (N o00 q76 q0R)) (N o00 (N o00 q8f q78) q8t))))))
def tree_409_:BT:=(N b0 (N b1 (N o2M (N b7 (N o00 (N o11 q7e q2W) q2Y) (N o0b (N o01 q7j q30) (N o0B q31 q32))) (N o00 (N o07 (N o0n q7o q34) (N o01 q35 q36)) (N o0d (N o0r q0h q37) (N o0n q38 q7u)))) (N b5 (N b9 (N o06 (N o0i q7w q3b) (N o0y q3c q3d)) q3h) (N o02 (N o09 (N o0o q7E q3j) (N o0A q3k q3l)) (N o00 q3n (N o0I q3o q7L))))) (N b2 (N b4 (N b8 (N o01 (N o0h q7N q3r) (N o0b q3s q3t)) (N o0c (N o0p q7S q3v) (N o0C q3w q3x))) (N o2N (N o08 (N o0b (N o0M (N o00 (N o2S L L) L) (N o01 L L)) q3z) (N o0z q3A q3B)) (N o0e (N o0s q3C q3D) (N o0b q3E q81)))) (N b6 (N b10 (N o00 (N o0j q83 q3H) (N o00 q3I q3J)) q3O) (N o03 (N o0a (N o00 q8a q3Q) (N o00 q3R q3S)) (N o0f (N o0u q3T q30) (N o00 q3U q8h))))))
def tree_47_:BT:=(N b0 (N b1 (N b3 (N b7 L L) (N o00 L L)) (N b5 (N b9 L L) (N o02 L L))) (N b2 (N b4 (N b8 L L) (N o01 L L)) (N b6 (N b10 L L) (N o03 L L))))
def heap_46_:PySem.Heap:=(Heap.mk (Array.mk [b0,b1,b2,b3,b4,b5,b6,b7,b8,b9,b10,o00,o01,o02,o03]) (Life.mk [] [] [] 0 [] [] false #[] [] 0 false false false 0 [2000,10,10] false 0 true [] [] 0 false))
def q8u:BT:=(N o2h (N o3K L L) (N o5e L L))
def q8v:BT:=(N o01 (N o3q L L) (N o4R L L))
def q8w:BT:=(N o2c (N o01 L L) (N o56 L L))
def q8x:BT:=(N o00 (N o3i L L) (N o4M L L))
def q8y:BT:=(N o23 (N o3v L L) (N o00 L L))
def q8z:BT:=(N o00 (N o3B L L) (N o52 L L))
def q8A:BT:=(N o00 (N o3f L L) (N o0b L L))
def q8B:BT:=(N o2j (N o0b L L) (N o5g L L))
def q8C:BT:=(N o21 (N o3s L L) (N o00 L L))
def q8D:BT:=(N o01 (N o3G L L) (N o0b L L))
def q8E:BT:=(N o1W (N o0b L L) (N o4O L L))
def q8F:BT:=(N o26 (N o00 L L) (N o4X L L))
def q8G:BT:=(N o29 (N o3A L L) (N o00 L L))
def q8H:BT:=(N o00 (N o3M L L) (N o00 L L))
def q8I:BT:=(N o2e (N o00 L L) (N o58 L L))
def q8J:BT:=(N o1V (N o3k L L) (N o00 L L))
def q8K:BT:=(N o24 (N o01 L L) (N o4W L L))
def q8L:BT:=(N o2b (N o3D L L) (N o54 L L))
def q8M:BT:=(N o1T (N o00 L L) (N o00 L L))
def q8N:BT:=(N o2k (N o00 L L) (N o5h L L))
def q8O:BT:=(N o00 (N o3t L L) (N o4U L L))
def q8P:BT:=(N o00 (N o3I L L) (N o00 L L))
def q8Q:BT:=(N o1Y (N o00 L L) (N o4P L L))
def q8R:BT:=(N o01 (N o3y L L) (N o4Z L L))
def q8S:BT:=(N o28 (N o01 L L) (N o50 L L))
def q8T:BT:=(N o2i (N o3L L L) (N o5f L L))
def q8U:BT:=(N o1Z (N o3r L L) (N o00 L L))
def q8V:BT:=(N o2d (N o3E L L) (N o57 L L))
def q8W:BT:=(N o01 (N o3j L L) (N o4N L L))
def q8X:BT:=(N o01 (N o3C L L) (N o53 L L))
def q8Y:BT:=(N o1S (N o3g L L) (N o4K L L))
def q8Z:BT:=(N o00 (N o3Q L L) (N o00 L L))
def q90:BT:=(N o22 (N o00 L L) (N o4T L L))
def q91:BT:=(N o2f (N o3H L L) (N o5c L L))
def q92:BT:=(N o1X (N o3o L L) (N o00 L L))
def q93:BT:=(N o00 (N o3x L L) (N o4Y L L))
def q94:BT:=(N o2a (N o00 L L) (N o51 L L))
def q95:BT:=(N o1R (N o3e L L) (N o30 L L))
def q96:BT:=(N o01 (N o30 L L) (N o01 L L))
def q97:BT:=(N o20 (N o01 L L) (N o4S L L))
def q98:BT:=(N o00 (N o3F L L) (N o30 L L))
def q99:BT:=(N o00 (N o30 L L) (N o01 L L))
def q9a:BT:=(N o25 (N o3w L L) (N o00 L L))
def q9b:BT:=(N o00 (N o00 L L) (N o55 L L))
def q9c:BT:=(N o1U (N o3h L L) (N o4L L L))
def q9d:BT:=(N o2l (N o3R L L) (N o5i L L))
def q9e:BT:=(N o01 (N o3u L L) (N o4V L L))
def q9f:BT:=(N o2g (N o3J L L) (N o5d L L))
def q9g:BT:=(N o00 (N o3p L L) (N o4Q L L))
def q9h:BT:=(N o27 (N o3z L L) (N o00 L L))
def tree_660_:BT:=(N b0 (N b1 (N o59 (N b7 (N o00 (N o11 (N o01 q5g q30) (N o18 q5h q05)) (N o0n (N o0V q5j q8u) (N o01 q8v q0c))) (N o0b (N o01 (N o0n q5n q8w) (N o00 q8x q0h)) (N o0B (N o13 q5q q0j) (N o1o q8y q5t)))) (N o00 (N o07 (N o0n (N o0L q5u q8z) (N o1c q8A q0t)) (N o01 (N o0n q5y q8B) (N o1m q8C q5B))) (N o0d (N o0r (N o01 q5C q8D) (N o1h q8E q0F)) (N o0n (N o00 q5G q0H) (N o01 q8F q5J))))) (N b5 (N b9 (N o06 (N o0i (N o0K q5K q8G) (N o1a q5M q0Q)) (N o0y (N o0X q5O q8H) (N o00 q30 q0W))) (N o00 (N o0q (N o0S q5R q8I) (N o1g q8J q11)) (N o0D (N o15 q5V q0h) (N o1q q8K q5X)))) (N o02 (N o09 (N o0o (N o0N q5Y q8L) (N o1e q8M q1b)) (N o0A (N o12 q62 q8N) (N o00 q8O q65))) (N o00 (N o0t (N o0U q66 q8P) (N o1j q8Q q1n)) (N o0I (N o17 q6a q1p) (N o1u q8R q6d)))))) (N b2 (N b4 (N b8 (N o01 (N o0h (N o0J q6e q8S) (N o19 q6g q0h)) (N o0b (N o0W q6h q8T) (N o1k q8U q1F))) (N o0c (N o0p (N o0b q6l q8V) (N o01 q8W q1K)) (N o0C (N o14 q6p q1M) (N o1p q30 q6r)))) (N o5a (N o08 (N o0b (N o0M (N o00 (N o5b L L) (N o00 L L)) q8X) (N o1d q8Y q1V)) (N o0z (N o0b q6v q8Z) (N o1n q90 q6y))) (N o0e (N o0s (N o0T q6z q91) (N o1i q92 q26)) (N o0b (N o01 q6D q28) (N o1t q93 q6G))))) (N b6 (N b10 (N o00 (N o0j (N o00 q6H q94) (N o1b q95 q2h)) (N o00 (N o0Y q6L q96) (N o1l q97 q6O))) (N o01 (N o00 (N o00 q6P q98) (N o00 q99 q2s)) (N o0E (N o16 q6T q2t) (N o00 q9a q6W)))) (N o03 (N o0a (N o00 (N o0O q6X q9b) (N o1f q9c q2C)) (N o00 (N o00 q70 q9d) (N o01 q9e q73))) (N o0f (N o0u (N o00 q74 q9f) (N o00 q9g q2O)) (N o00 (N o00 q77 q2Q) (N o1v q9h q7a)))))))
def tree_115_:BT:=(N b0 (N b1 (N o0F (N b7 (N o00 (N o0H (N o01 L L) L) (N o0n L L)) q4b) (N o00 q8i (N o0d (N o0r L L) (N o0n L L)))) (N b5 (N b9 (N o06 q8j (N o0y L L)) q4d) (N o02 q8k (N o00 (N o0t L L) (N o0I L L))))) (N b2 (N b4 (N b8 (N o01 q8l (N o0b L L)) q4f) (N o0G q8m (N o0e (N o0s L L) (N o0b L L)))) (N b6 (N b10 (N o00 q8n (N o00 L L)) q4h) (N o03 q8o (N o0f (N o0u L L) (N o00 L L))))))
def tree_710_:BT:=(N b0 (N b1 (N o5B (N b7 (N o00 (N o11 (N o01 q01 q30) q06) (N o0n (N o0V q08 q8u) (N o01 q8v q0c))) (N o0b (N o01 (N o0n q0e q8w) (N o00 q8x q0h)) (N o0B q0k (N o1o q8y q0n)))) (N o00 (N o07 (N o0n (N o0L q0p q8z) (N o1c q8A q0t)) (N o01 (N o0n q0v q8B) (N o1m q8C q0z))) (N o0d (N o0r (N o01 q0B q8D) (N o1h q8E q0F)) (N o0n q0I (N o01 q8F q0L))))) (N b5 (N b9 (N o06 (N o0i (N o0K q0N q8G) (N o1a q5M q0Q)) (N o0y (N o0X q0S q8H) (N o00 q30 q0W))) (N o00 (N o0q (N o0S q0Y q8I) (N o1g q8J q11)) (N o0D q13 (N o1q q8K q16)))) (N o02 (N o09 (N o0o (N o0N q18 q8L) (N o1e q8M q1b)) (N o0A (N o12 q1d q8N) (N o00 q8O q1h))) (N o00 (N o0t (N o0U q1j q8P) (N o1j q8Q q1n)) (N o0I q1q (N o1u q8R q1t)))))) (N b2 (N b4 (N b8 (N o01 (N o0h (N o0J q1v q8S) q1z) (N o0b (N o0W q1B q8T) (N o1k q8U q1F))) (N o0c (N o0p (N o0b q1H q8V) (N o01 q8W q1K)) (N o0C q1N (N o1p q30 q1Q)))) (N o5C (N o08 (N o0b (N o0M q1S q8X) (N o1d q8Y q1V)) (N o0z (N o0b q1X q8Z) (N o1n q90 q20))) (N o0e (N o0s (N o0T q22 q91) (N o1i q92 q26)) (N o0b q29 (N o1t q93 q2c))))) (N b6 (N b10 (N o00 (N o0j (N o00 q2e q94) (N o1b q95 q2h)) (N o00 (N o0Y q2j q96) (N o1l q97 q2n))) (N o01 (N o00 (N o00 q2o q98) (N o00 q99 q2s)) (N o0E q2u (N o00 q9a q2x)))) (N o03 (N o0a (N o00 (N o0O q2z q9b) (N o1f q9c q2C)) (N o00 (N o00 q2E q9d) (N o01 q9e q2I))) (N o0f (N o0u (N o00 q2K q9f) (N o00 q9g q2O)) (N o00 q2R (N o1v q9h q2U)))))))
def heap_880_:PySem.Heap:=(Heap.mk (Array.mk [b0,b1,b2,o7v,b4,b5,b6,b7,b8,b9,b10,o00,o7w,o02,o03,o00,o01,o06,o00,o07,o08,o09,o0a,o0b,o0c,o00,o01,o0d,o0e,o00,o0f,o11,o0h,o0i,o0j,o0n,o0b,o0o,o00,o01,o0p,o0q,o00,o0r,o0s,o0t,o0u,o0n,o0b,o0y,o00,o01,o0z,o0A,o00,o0B,o0C,o0D,o0E,o0n,o0b,o0I,o00,o01,o0J,o0K,o00,o0L,o0M,o0N,o0O,o0n,o0b,o0S,o00,o01,o0T,o0U,o00,o0V,o0W,o0X,o0Y,o0n,o0b,o12,o00,o13,o14,o15,o16,o00,o01,o17,o00,o18,o19,o1a,o1b,o1c,o1d,o1e,o1f,o00,o01,o1g,o00,o1h,o1i,o1j,o00,o01,o1k,o00,o1l,o1m,o1n,o00,o01,o1o,o1p,o1q,o00,o01,o1t,o1u,o1v,o00,o01,o1w,o1x,o1y,o00,o01,o1z,o00,o1A,o1B,o1C,o00,o0b,o1F,o00,o1G,o1H,o1I,o00,o01,o1J,o00,o1K,o1L,o1M,o00,o01,o1N,o00,o1O,o1P,o1Q,o00,o01,o1R,o00,o1S,o1T,o1U,o00,o01,o1V,o00,o1W,o1X,o1Y,o00,o01,o1Z,o00,o20,o21,o22,o00,o01,o23,o00,o24,o25,o26,o00,o01,o27,o00,o28,o29,o2a,o00,o01,o2b,o00,o2c,o2d,o2e,o00,o01,o2f,o00,o2g,o2h,o2i,o00,o01,o2j,o00,o2k,o2l,o2m,o00,o01,o2n,o00,o2o,o2p,o2q,o00,o01,o2r,o00,o2s,o2t,o2u,o00,o01,o2v,o00,o2w,o2x,o2y,o00,o01,o2z,o00,o2A,o2B,o2C,o2D,o2E,o2F,o2G,o2H,o2I,o2J,o00,o0b,o2O,o00,o01,o2P,o2Q,o00,o2R,o5D,o2T,o2U,o2V,o2W,o30,o0b,o31,o00,o32,o33,o34,o00,o01,o35,o00,o36,o37,o38,o00,o01,o39,o00,o3a,o3b,o3c,o00,o01,o3d,o00,o3e,o3f,o3g,o00,o3h,o3i,o3j,o3k,o30,o0b,o3o,o00,o3p,o3q,o3r,o00,o01,o3s,o00,o3t,o3u,o3v,o00,o01,o3w,o00,o3x,o3y,o3z,o00,o01,o3A,o00,o3B,o3C,o3D,o00,o01,o3E,o00,o3F,o3G,o3H,o3I,o3J,o3K,o3L,o3M,o30,o0b,o3Q,o00,o3R,o3S,o3T,o00,o01,o3U,o00,o3V,o3W,o3X,o00,o01,o3Y,o00,o3Z,o40,o41,o00,o01,o42,o00,o43,o44,o45,o00,o01,o46,o00,o47,o48,o49,o4a,o4b,o4c,o4d,o4e,o30,o0b,o4i,o00,o4j,o4k,o4l,o00,o01,o4m,o00,o4n,o4o,o4p,o00,o01,o4q,o00,o4r,o4s,o4t,o00,o01,o4u,o00,o4v,o4w,o4x,o00,o01,o4y,o00,o4z,o4A,o4B,o4C,o4D,o4E,o4F,o4G,o30,o0b,o4K,o00,o4L,o4M,o4N,o00,o01,o4O,o00,o4P,o4Q,o4R,o00,o01,o4S,o00,o4T,o4U,o4V,o00,o01,o4W,o00,o4X,o4Y,o4Z,o00,o01,o50,o00,o51,o52,o53,o54,o55,o56,o57,o58,o30,o0b,o5c,o00,o5d,o5e,o5f,o00,o01,o5g,o00,o5h,o5i,o5j,o00,o01,o5k,o00,o5l,o5m,o5n,o00,o01,o5o,o00,o5p,o5q,o5r,o00,o01,o5s,o00,o5t,o5u,o5v,o5w,o5x,o5y,o5z,o5A,o30,o0b,o5E,o00,o5F,o5G,o5H,o00,o01,o5I,o00,o5J,o5K,o5L,o00,o01,o5M,o00,o5N,o5O,o5P,o00,o01,o5Q,o00,o5R,o5S,o5T,o00,o01,o5U,o00,o5V,o5W,o5X,o5Y,o5Z,o60,o61,o62,o00,o01,o63,o00,o64,o65,o66,o00,o01,o69,o00,o6a,o6b,o6c,o00,o01,o6d,o00,o6e,o6f,o6g,o00,o01,o6h,o6i,o6j,o00,o01,o6k,o00,o6l,o6m,o6n,o00,o01,o6o,o00,o6p,o6q,o6r,o00,o0b,o6s,o00,o6t,o6u,o6v,o00,o01,o6w,o00,o6x,o6y,o6z,o6A,o6B,o6C,o6D,o6E,o6F,o6G,o00,o01,o6J,o00,o6K,o6L,o6M,o00,o01,o6N,o00,o6O,o6P,o6Q,o00,o01,o6R,o00,o6S,o6T,o6U,o00,o01,o6V,o00,o6W,o6X,o6Y,o00,o01,o6Z,o00,o70,o71,o72,o00,o01,o73,o00,o74,o75,o76,o00,o01,o77,o00,o78,o79,o7a,o00,o01,o7b,o00,o7c,o7d,o7e,o00,o01,o7f,o7g,o7h,o00,o01,o7i,o00,o7j,o7k,o7l,o00,o01,o7m,o7n,o7o,o00,o01,o7p,o7q,o7r,o00,o01,o7s,o7t,o7u,o00,o01,o7x,o7y,o7z,o00,o01,o7A,o00,o7B,o7C,o7D,o00,o01,o7E,o00,o7F,o7G,o7H,o00,o01,o7I,o00,o7J,o7K,o7L]) (Life.mk [] [] [] 0 [] [] false #[] [] 0 false false false 0 [2000,10,10] false 0 true [] [] 0 false))
def tree_390_:BT:=(N b0 (N b1 (N o1r (N b7 (N o00 (N o11 q2V (N o18 (N o1Q L L) L)) (N o0n (N o0V (N o2L L L) (N o2h L L)) q4D)) (N o0b (N o01 q2Z q0J) (N o0B q31 (N o1o (N o23 L L) L)))) (N o00 (N o07 (N o0n q33 (N o1c (N o00 L L) L)) (N o01 q35 (N o1m (N o21 L L) L))) (N o0d (N o0r q0h (N o1h (N o1W L L) L)) q39))) (N b5 (N b9 (N o06 (N o0i q3a (N o1a (N o01 L L) L)) (N o0y q3c q0J)) (N o00 (N o0q q3e (N o1g (N o1V L L) L)) (N o0D q3f (N o1q (N o24 L L) L)))) (N o02 (N o09 (N o0o q3i (N o1e (N o1T L L) L)) (N o0A q3k q0J)) (N o00 (N o0t (N o0U (N o2K L L) (N o00 L L)) (N o1j (N o1Y L L) L)) q3p)))) (N b2 (N b4 (N b8 (N o01 (N o0h q3q (N o19 (N o00 L L) L)) (N o0b q3s (N o1k (N o1Z L L) L))) (N o0c (N o0p q3u q4D) (N o0C q3w (N o1p (N o00 L L) L)))) (N o1E (N o08 (N o0b q3y (N o1d (N o1S L L) L)) (N o0z q3A (N o1n (N o22 L L) L))) (N o0e (N o0s q3C (N o1i (N o1X L L) L)) q3F))) (N b6 (N b10 (N o00 (N o0j q3G (N o1b (N o1R L L) L)) (N o00 q3I (N o1l (N o20 L L) L))) (N o01 (N o00 q3K q0J) (N o0E q3M (N o00 (N o25 L L) L)))) (N o03 (N o0a (N o00 q3P (N o1f (N o1U L L) L)) (N o00 q3R q4D)) (N o0f (N o0u q3T q0J) q3V)))))
def heap_39_:Frag:=[(2,o7M),(3,o7v),(15,o00),(17,o06),(18,o00),(20,o08),(21,o09),(22,o0a),(29,o00),(30,o0f),(31,o11),(32,o0h),(35,o0n),(42,o00),(43,o0r),(44,o0s),(47,o0n),(54,o00),(55,o0B),(56,o0C),(59,o0n),(66,o00),(67,o0L),(68,o0M),(71,o0n),(78,o00),(79,o0V),(80,o0W),(83,o0n),(90,o16),(91,o00),(93,o17),(94,o00),(96,o19),(97,o1a),(98,o1b),(99,o1c),(100,o1d),(103,o00),(105,o1g),(106,o00),(108,o1i),(109,o1j),(110,o00),(112,o1k),(113,o00),(115,o1m),(116,o1n),(117,o00),(120,o1p),(121,o1q),(122,o00),(125,o1u),(126,o1v),(127,o00),(130,o1x),(131,o1y),(132,o00),(134,o1z),(135,o00),(137,o1B),(138,o1C),(146,o00),(148,o1J),(149,o00),(151,o1L),(152,o1M),(153,o00),(155,o1N),(156,o00),(158,o1P),(159,o1Q),(160,o00),(162,o1R),(163,o00),(165,o1T),(166,o1U),(167,o00),(169,o1V),(170,o00),(172,o1X),(173,o1Y),(174,o00),(176,o1Z),(177,o00),(179,o21),(180,o22),(181,o00),(183,o23),(184,o00),(186,o25),(187,o26),(188,o00),(190,o27),(191,o00),(193,o29),(194,o2a),(195,o00),(197,o2b),(198,o00),(200,o2d),(201,o2e),(202,o00),(204,o2f),(205,o00),(207,o2h),(208,o2i),(209,o00),(211,o2j),(212,o00),(214,o2l),(215,o2m),(216,o00),(218,o2n),(219,o00),(221,o2p),(222,o2q),(223,o00),(225,o2r),(226,o00),(228,o2t),(229,o2u),(230,o00),(232,o2v),(233,o00),(235,o2x),(236,o2y),(237,o00),(239,o2z),(240,o00),(242,o2B),(243,o2C),(244,o2D),(245,o2E),(246,o2F),(247,o2G),(248,o2H),(258,o00),(259,o2R),(260,o5D),(261,o2T),(262,o2U),(265,o30),(272,o00),(274,o35),(275,o00),(277,o37),(278,o38),(279,o00),(281,o39),(282,o00),(284,o3b),(285,o3c),(286,o00),(288,o3d),(289,o00),(291,o3f),(292,o3g),(293,o00),(294,o3h),(295,o3i),(298,o30),(305,o00),(307,o3s),(308,o00),(310,o3u),(311,o3v),(312,o00),(314,o3w),(315,o00),(317,o3y),(318,o3z),(319,o00),(321,o3A),(322,o00),(324,o3C),(325,o3D),(326,o00),(328,o3E),(329,o00),(331,o3G),(332,o3H),(333,o3I),(334,o3J),(335,o3K),(338,o30),(345,o00),(347,o3U),(348,o00),(350,o3W),(351,o3X),(352,o00),(354,o3Y),(355,o00),(357,o40),(358,o41),(359,o00),(361,o42),(362,o00),(364,o44),(365,o45),(366,o00),(368,o46),(369,o00),(371,o48),(372,o49),(373,o4a),(374,o4b),(375,o4c),(378,o30),(385,o00),(387,o4m),(388,o00),(390,o4o),(391,o4p),(392,o00),(394,o4q),(395,o00),(397,o4s),(398,o4t),(399,o00),(401,o4u),(402,o00),(404,o4w),(405,o4x),(406,o00),(408,o4y),(409,o00),(411,o4A),(412,o4B),(413,o4C),(414,o4D),(415,o4E),(418,o30),(425,o00),(427,o4O),(428,o00),(430,o4Q),(431,o4R),(432,o00),(434,o4S),(435,o00),(437,o4U),(438,o4V),(439,o00),(441,o4W),(442,o00),(444,o4Y),(445,o4Z),(446,o00),(448,o50),(449,o00),(451,o52),(452,o53),(453,o54),(454,o55),(455,o56),(458,o30),(465,o00),(467,o5g),(468,o00),(470,o5i),(471,o5j),(472,o00),(474,o5k),(475,o00),(477,o5m),(478,o5n),(479,o00),(481,o5o),(482,o00),(484,o5q),(485,o5r),(486,o00),(488,o5s),(489,o00),(491,o5u),(492,o5v),(493,o5w),(494,o5x),(495,o5y),(498,o30),(505,o00),(507,o5I),(508,o00),(510,o5K),(511,o5L),(512,o00),(514,o5M),(515,o00),(517,o5O),(518,o5P),(519,o00),(521,o5Q),(522,o00),(524,o5S),(525,o5T),(526,o00),(528,o5U),(529,o00),(531,o5W),(532,o5X),(533,o5Y),(534,o5Z),(535,o60),(538,o00),(540,o63),(541,o00),(543,o65),(544,o66),(545,o00),(547,o69),(548,o00),(550,o6b),(551,o6c),(552,o00),(554,o6d),(555,o00),(557,o6f),(558,o6g),(559,o00),(562,o6i),(563,o6j),(564,o00),(566,o6k),(567,o00),(569,o6m),(570,o6n),(571,o00),(573,o6o),(574,o00),(576,o6q),(577,o6r),(585,o00),(587,o6w),(588,o00),(590,o6y),(591,o6z),(592,o6A),(593,o6B),(594,o6C),(595,o6D),(596,o6E),(599,o00),(601,o6J),(602,o00),(604,o6L),(605,o6M),(606,o00),(608,o6N),(609,o00),(611,o6P),(612,o6Q),(613,o00),(615,o6R),(616,o00),(618,o6T),(619,o6U),(620,o00),(622,o6V),(623,o00),(625,o6X),(626,o6Y),(627,o00),(629,o6Z),(630,o00),(632,o71),(633,o72),(641,o00),(643,o77),(644,o00),(646,o79),(647,o7a),(648,o00),(650,o7b),(651,o00),(653,o7d),(654,o7e),(655,o00),(658,o7g),(659,o7h),(660,o00),(662,o7i),(663,o00),(665,o7k),(666,o7l),(667,o00),(670,o7n),(671,o7o),(672,o00),(675,o7q),(676,o7r),(677,o00),(680,o7t),(681,o7u),(682,o00),(685,o7y),(686,o7z),(687,o00),(689,o7A),(690,o00),(692,o7C),(693,o7D),(694,o00),(696,o7E),(697,o00),(699,o7G),(700,o7H),(701,o00),(703,o7I),(704,o00),(706,o7K),(707,o7L)]
def tree_617_:BT:=(N b0 (N b1 (N o4H (N b7 (N o00 (N o11 (N o01 q5g q30) (N o18 q5h q5i)) (N o0n (N o0V q5j q5k) (N o01 q8v q5m))) (N o0b (N o01 (N o0n q5n q8w) (N o00 q8x q0R)) (N o0B (N o13 q5q q5r) (N o1o q8y q5t)))) (N o00 (N o07 (N o0n (N o0L q5u q8z) (N o1c q8A q5x)) (N o01 (N o0n q5y q5z) (N o1m q8C q5B))) (N o0d (N o0r (N o01 q5C q5D) (N o1h q8E q5F)) (N o0n (N o00 q5G q5H) (N o01 q8F q5J))))) (N b5 (N b9 (N o06 (N o0i (N o0K q5K q8G) (N o1a q5M q5N)) (N o0y (N o0X q5O q5P) (N o00 q30 q5Q))) (N o00 (N o0q (N o0S q5R q8I) (N o1g q8J q5U)) (N o0D (N o15 q5V q0R) (N o1q q8K q5X)))) (N o02 (N o09 (N o0o (N o0N q5Y q8L) (N o1e q8M q61)) (N o0A (N o12 q62 q63) (N o00 q8O q65))) (N o00 (N o0t (N o0U q66 q67) (N o1j q8Q q69)) (N o0I (N o17 q6a q6b) (N o1u q8R q6d)))))) (N b2 (N b4 (N b8 (N o01 (N o0h (N o0J q6e q8S) (N o19 q6g q0R)) (N o0b (N o0W q6h q6i) (N o1k q8U q6k))) (N o0c (N o0p (N o0b q6l q8V) (N o01 q8W q6o)) (N o0C (N o14 q6p q6q) (N o1p q30 q6r)))) (N o4I (N o08 (N o0b (N o0M (N o00 (N o4J L L) (N o00 L L)) q8X) (N o1d q8Y q6u)) (N o0z (N o0b q6v q6w) (N o1n q90 q6y))) (N o0e (N o0s (N o0T q6z q6A) (N o1i q92 q6C)) (N o0b (N o01 q6D q6E) (N o1t q93 q6G))))) (N b6 (N b10 (N o00 (N o0j (N o00 q6H q94) (N o1b q95 q6K)) (N o00 (N o0Y q6L q6M) (N o1l q97 q6O))) (N o01 (N o00 (N o00 q6P q6Q) (N o00 q99 q6S)) (N o0E (N o16 q6T q6U) (N o00 q9a q6W)))) (N o03 (N o0a (N o00 (N o0O q6X q9b) (N o1f q9c q6Z)) (N o00 (N o00 q70 q71) (N o01 q9e q73))) (N o0f (N o0u (N o00 q74 q75) (N o00 q9g q0R)) (N o00 (N o00 q77 q78) (N o1v q9h q7a)))))))
def tree_851_:BT:=(N b0 (N b1 (N o6H (N b7 (N o00 (N o11 (N o01 q4j q03) q4k) (N o0n q4l (N o01 q0b q4m))) (N o0b q4n (N o0B q4o (N o1o q0m q4q)))) (N o00 (N o07 (N o0n (N o0L q4r q0r) q4s) (N o01 q4t (N o1m q0y q4u))) (N o0d (N o0r q4v (N o1h q0E q4w)) (N o0n q4x (N o01 q0K q4z))))) (N b5 (N b9 (N o06 (N o0i (N o0K (N o1w q0M q0J) q0P) q4A) (N o0y q4B (N o00 q0V q4C))) (N o00 q4E (N o0D q4F (N o1q q15 q4G)))) (N o02 (N o09 q4H (N o0A q4I (N o00 q1g q4J))) (N o00 (N o0t q4K (N o1j q1m q4L)) (N o0I q4M (N o1u q1s q4N)))))) (N b2 (N b4 (N b8 (N o01 (N o0h (N o0J q4O q1x) q4P) (N o0b q4Q (N o1k q1E q4R))) (N o0c q4S (N o0C q4T (N o1p q1P q4U)))) (N o6I (N o08 q4V (N o0z q4W (N o1n q1Z q4X))) (N o0e (N o0s q4Y (N o1i q25 q4Z)) (N o0b q50 (N o1t q2b q51))))) (N b6 (N b10 (N o00 (N o0j (N o00 (N o1x q2d q4D) q2f) q52) (N o00 q53 (N o1l q2m q54))) (N o01 (N o00 q55 (N o00 q2r q56)) (N o0E q57 (N o00 q2w q58)))) (N o03 (N o0a q59 (N o00 q5a (N o01 q2H q5b))) (N o0f (N o0u q5c (N o00 q2N q5d)) (N o00 q5e (N o1v q2T q5f)))))))
def tree_85_:BT:=(N b0 (N b1 (N o0k (N b7 (N o00 (N o0m L L) L) q4y) (N o00 (N o07 (N o0n L L) L) q4c)) (N b5 (N b9 q7b (N o00 (N o0q L L) L)) (N o02 (N o09 (N o0o L L) L) q4e))) (N b2 (N b4 (N b8 q7c (N o0c (N o0p L L) L)) (N o0l (N o08 (N o0b L L) L) q4g)) (N b6 (N b10 q7d q0R) (N o03 (N o0a (N o00 L L) L) q4i))))
end
end
noncomputable section
def tree_766 (A:AT):Params→BT:=fun P=>@tree_766_ A ⟨P⟩
def tree_305 (A:AT):Params→BT:=fun P=>@tree_305_ A ⟨P⟩
def tree_191 (A:AT):Params→BT:=fun P=>@tree_191_ A ⟨P⟩
def tree_100 (A:AT):Params→BT:=fun P=>@tree_100_ A ⟨P⟩
def tree_879 (A:AT):Params→BT:=fun P=>@tree_879_ A ⟨P⟩
def tree_574 (A:AT):Params→BT:=fun P=>@tree_574_ A ⟨P⟩
def tree_172 (A:AT):Params→BT:=fun P=>@tree_172_ A ⟨P⟩
def tree_70 (A:AT):Params→BT:=fun P=>@tree_70_ A ⟨P⟩
def tree_445 (A:AT):Params→BT:=fun P=>@tree_445_ A ⟨P⟩
def tree_130 (A:AT):Params→BT:=fun P=>@tree_130_ A ⟨P⟩
def tree_488 (A:AT):Params→BT:=fun P=>@tree_488_ A ⟨P⟩
def tree_531 (A:AT):Params→BT:=fun P=>@tree_531_ A ⟨P⟩
def tree_409 (A:AT):Params→BT:=fun P=>@tree_409_ A ⟨P⟩
def tree_47 (A:AT):Params→BT:=fun P=>@tree_47_ A ⟨P⟩
def heap_46 (A:AT):Params→PySem.Heap:=fun P=>@heap_46_ A ⟨P⟩
def tree_660 (A:AT):Params→BT:=fun P=>@tree_660_ A ⟨P⟩
def tree_115 (A:AT):Params→BT:=fun P=>@tree_115_ A ⟨P⟩
def tree_710 (A:AT):Params→BT:=fun P=>@tree_710_ A ⟨P⟩
def heap_880 (A:AT):Params→PySem.Heap:=fun P=>@heap_880_ A ⟨P⟩
def tree_390 (A:AT):Params→BT:=fun P=>@tree_390_ A ⟨P⟩
def heap_39 (A:AT):Params→Frag:=fun P=>@heap_39_ A ⟨P⟩
def tree_617 (A:AT):Params→BT:=fun P=>@tree_617_ A ⟨P⟩
def tree_851 (A:AT):Params→BT:=fun P=>@tree_851_ A ⟨P⟩
def tree_85 (A:AT):Params→BT:=fun P=>@tree_85_ A ⟨P⟩
end
theorem trig:(PySem.Challenge.pw_bellsaway_k16_fits_as_texts.main.body.length == 0)=(PySem.Challenge.pw_bellsaway_k16_fits_as_texts.main.body.length == 0):=rfl
theorem trig2:(!(PySem.Challenge.pw_bellsaway_k16_fits_as_texts.main.body.length == 0))=true:=by k_qdec
noncomputable def a0:List Str:=[Str.ofString "Kind",Str.ofString "/claim/cut.py",Str.ofString "self",Str.ofString "kind",Str.ofString "place",Str.ofString "from_weight",Str.ofString "__module__",Str.ofString "bellsaway.wording",Str.ofString "__firstlineno__",Str.ofString "__init__",Str.ofString "__static_attributes__",Str.ofString "__dict__",Str.ofString "__weakref__",Str.ofString "__doc__",Str.ofString "take_one_of",Str.ofString "Words.take_one_of",Str.ofString "word",Str.ofString "__name__",Str.ofString "bellsaway.words",Str.ofString "__package__",Str.ofString "__loader__",Str.ofString "__spec__",Str.ofString "__annotations__",Str.ofString "__builtins__",Str.ofString "__file__",Str.ofString "__cached__",Str.ofString "_wall",Str.ofString "BellError",Str.ofString "NoFit",Str.ofString "NoWish",Str.ofString "NoTime",Str.ofString "NoRow",Str.ofString "NoText",Str.ofString "is_whole",Str.ofString "is_whole_from",Str.ofString "LETTERS",Str.ofString "abcdefghijklmnopqrstuvwxyz",Str.ofString "MOST_LETTERS",Str.ofString "is_name",Str.ofString "FIGURES",Str.ofString "0123456789",Str.ofString "MOST_FIGURES",Str.ofString "are_unlike_names",Str.ofString "is_figures",Str.ofString "is_number",Str.ofString "Words",Str.ofString "Words.__init__",Str.ofString "look",Str.ofString "Words.look",Str.ofString "take_number",Str.ofString "Words.take_number",Str.ofString "takes",Str.ofString "Words.takes",Str.ofString "read_fit",Str.ofString "expect",Str.ofString "Words.expect",Str.ofString "<module>",Str.ofString "take",Str.ofString "Words.take",Str.ofString "line",Str.ofString "Least.__init__",Str.ofString "note_turns",Str.ofString "Least.note_turns",Str.ofString "bellsaway.fits",Str.ofString "words",Str.ofString "opened",Str.ofString "__qualname__",Str.ofString "Least",Str.ofString "fits_it",Str.ofString "weight_bits",Str.ofString "bellsaway.errors",Str.ofString "fit_from",Str.ofString "closed",Str.ofString "Either.__init__",Str.ofString "fits",Str.ofString "fit",Str.ofString "kinds",Str.ofString "places",Str.ofString "weights",Str.ofString "NoText.__init__",Str.ofString "last",Str.ofString "Kind.note_turns",Str.ofString "take_name",Str.ofString "Words.take_name",Str.ofString "Opened",Str.ofString "names",Str.ofString "show_fit",Str.ofString "Place.__init__",Str.ofString "_law_tree",Str.ofString "law_bellsaway_k16_fits_as_texts",Str.ofString "is_closed_here",Str.ofString "Any.fits_it",Str.ofString "Not.weight_bits",Str.ofString "_law_cell",Str.ofString "expect_end",Str.ofString "Words.expect_end",Str.ofString "check_fits",Str.ofString "Both",Str.ofString "Fit",Str.ofString "Any",Str.ofString "Kind.weight_bits",Str.ofString "fit_of",Str.ofString "_law_text",Str.ofString "Place.weight_bits",Str.ofString "take_count",Str.ofString "Words.take_count",Str.ofString "is_ended",Str.ofString "take_names",Str.ofString "take_some",Str.ofString "take_rest",Str.ofString "law",Str.ofString "Either.fits_it",Str.ofString "Place",Str.ofString "Words.take_names",Str.ofString "Both.fits_it",Str.ofString "Not.__init__",Str.ofString "_law_name",Str.ofString "Place.note_turns",Str.ofString "bellsaway.wholes",Str.ofString "_law_state",Str.ofString "_law_more",Str.ofString "_law_kind",Str.ofString "_law_names",Str.ofString "_law_k",Str.ofString "_law_name_here",Str.ofString "Any.weight_bits",Str.ofString "Kind.__init__",Str.ofString "Not.note_turns",Str.ofString "Both.__init__",Str.ofString "Not",Str.ofString "Either",Str.ofString "check_names",Str.ofString "bellsaway.happenings",Str.ofString "Words.is_ended",Str.ofString "text",Str.ofString "_law_made",Str.ofString "Kind.fits_it",Str.ofString "read_whole",Str.ofString "sign",Str.ofString "Least.weight_bits",Str.ofString "Not.fits_it",Str.ofString "inner",Str.ofString "check_fit",Str.ofString "k",Str.ofString "happening",Str.ofString "__main__",Str.ofString "thing",Str.ofString "_law_chain",Str.ofString "Words.take_rest",Str.ofString "_law_next",Str.ofString "plain_fit_from",Str.ofString "Either.note_turns",Str.ofString "Both.weight_bits",Str.ofString "_law_leaf",Str.ofString "choices",Str.ofString "_law_cell_at",Str.ofString "Place.fits_it",Str.ofString "least",Str.ofString "Words.take_some",Str.ofString "Opened.__init__",Str.ofString "_law_same",Str.ofString "_law_refused",Str.ofString "part_from",Str.ofString "found",Str.ofString "_law_begin",Str.ofString "_law_text_here",Str.ofString "_law_found",Str.ofString "e",Str.ofString "_law_script",Str.ofString "Both.note_turns",Str.ofString "Any.note_turns",Str.ofString "Either.weight_bits",Str.ofString "Least.fits_it",Str.ofString "weight",Str.ofString "_law_base",Str.ofString "_law_number",Str.ofString "_law_tree_here",Str.ofString "_law_fit",Str.ofString "_law_words",Str.ofString "_law_at",Str.ofString "_law_odd",Str.ofString "at",Str.ofString "bracket",Str.ofString "count"]
noncomputable def a1:List Str:=[⟨⟨[75,105,110,100]⟩⟩,⟨⟨[47,99,108,97,105,109,47,99,117,116,46,112,121]⟩⟩,⟨⟨[115,101,108,102]⟩⟩,⟨⟨[107,105,110,100]⟩⟩,⟨⟨[112,108,97,99,101]⟩⟩,⟨⟨[102,114,111,109,95,119,101,105,103,104,116]⟩⟩,⟨⟨[95,95,109,111,100,117,108,101,95,95]⟩⟩,⟨⟨[98,101,108,108,115,97,119,97,121,46,119,111,114,100,105,110,103]⟩⟩,⟨⟨[95,95,102,105,114,115,116,108,105,110,101,110,111,95,95]⟩⟩,⟨⟨[95,95,105,110,105,116,95,95]⟩⟩,⟨⟨[95,95,115,116,97,116,105,99,95,97,116,116,114,105,98,117,116,101,115,95,95]⟩⟩,⟨⟨[95,95,100,105,99,116,95,95]⟩⟩,⟨⟨[95,95,119,101,97,107,114,101,102,95,95]⟩⟩,⟨⟨[95,95,100,111,99,95,95]⟩⟩,⟨⟨[116,97,107,101,95,111,110,101,95,111,102]⟩⟩,⟨⟨[87,111,114,100,115,46,116,97,107,101,95,111,110,101,95,111,102]⟩⟩,⟨⟨[119,111,114,100]⟩⟩,⟨⟨[95,95,110,97,109,101,95,95]⟩⟩,⟨⟨[98,101,108,108,115,97,119,97,121,46,119,111,114,100,115]⟩⟩,⟨⟨[95,95,112,97,99,107,97,103,101,95,95]⟩⟩,⟨⟨[95,95,108,111,97,100,101,114,95,95]⟩⟩,⟨⟨[95,95,115,112,101,99,95,95]⟩⟩,⟨⟨[95,95,97,110,110,111,116,97,116,105,111,110,115,95,95]⟩⟩,⟨⟨[95,95,98,117,105,108,116,105,110,115,95,95]⟩⟩,⟨⟨[95,95,102,105,108,101,95,95]⟩⟩,⟨⟨[95,95,99,97,99,104,101,100,95,95]⟩⟩,⟨⟨[95,119,97,108,108]⟩⟩,⟨⟨[66,101,108,108,69,114,114,111,114]⟩⟩,⟨⟨[78,111,70,105,116]⟩⟩,⟨⟨[78,111,87,105,115,104]⟩⟩,⟨⟨[78,111,84,105,109,101]⟩⟩,⟨⟨[78,111,82,111,119]⟩⟩,⟨⟨[78,111,84,101,120,116]⟩⟩,⟨⟨[105,115,95,119,104,111,108,101]⟩⟩,⟨⟨[105,115,95,119,104,111,108,101,95,102,114,111,109]⟩⟩,⟨⟨[76,69,84,84,69,82,83]⟩⟩,⟨⟨[97,98,99,100,101,102,103,104,105,106,107,108,109,110,111,112,113,114,115,116,117,118,119,120,121,122]⟩⟩,⟨⟨[77,79,83,84,95,76,69,84,84,69,82,83]⟩⟩,⟨⟨[105,115,95,110,97,109,101]⟩⟩,⟨⟨[70,73,71,85,82,69,83]⟩⟩,⟨⟨[48,49,50,51,52,53,54,55,56,57]⟩⟩,⟨⟨[77,79,83,84,95,70,73,71,85,82,69,83]⟩⟩,⟨⟨[97,114,101,95,117,110,108,105,107,101,95,110,97,109,101,115]⟩⟩,⟨⟨[105,115,95,102,105,103,117,114,101,115]⟩⟩,⟨⟨[105,115,95,110,117,109,98,101,114]⟩⟩,⟨⟨[87,111,114,100,115]⟩⟩,⟨⟨[87,111,114,100,115,46,95,95,105,110,105,116,95,95]⟩⟩,⟨⟨[108,111,111,107]⟩⟩,⟨⟨[87,111,114,100,115,46,108,111,111,107]⟩⟩,⟨⟨[116,97,107,101,95,110,117,109,98,101,114]⟩⟩,⟨⟨[87,111,114,100,115,46,116,97,107,101,95,110,117,109,98,101,114]⟩⟩,⟨⟨[116,97,107,101,115]⟩⟩,⟨⟨[87,111,114,100,115,46,116,97,107,101,115]⟩⟩,⟨⟨[114,101,97,100,95,102,105,116]⟩⟩,⟨⟨[101,120,112,101,99,116]⟩⟩,⟨⟨[87,111,114,100,115,46,101,120,112,101,99,116]⟩⟩,⟨⟨[60,109,111,100,117,108,101,62]⟩⟩,⟨⟨[116,97,107,101]⟩⟩,⟨⟨[87,111,114,100,115,46,116,97,107,101]⟩⟩,⟨⟨[108,105,110,101]⟩⟩,⟨⟨[76,101,97,115,116,46,95,95,105,110,105,116,95,95]⟩⟩,⟨⟨[110,111,116,101,95,116,117,114,110,115]⟩⟩,⟨⟨[76,101,97,115,116,46,110,111,116,101,95,116,117,114,110,115]⟩⟩,⟨⟨[98,101,108,108,115,97,119,97,121,46,102,105,116,115]⟩⟩,⟨⟨[119,111,114,100,115]⟩⟩,⟨⟨[111,112,101,110,101,100]⟩⟩,⟨⟨[95,95,113,117,97,108,110,97,109,101,95,95]⟩⟩,⟨⟨[76,101,97,115,116]⟩⟩,⟨⟨[102,105,116,115,95,105,116]⟩⟩,⟨⟨[119,101,105,103,104,116,95,98,105,116,115]⟩⟩,⟨⟨[98,101,108,108,115,97,119,97,121,46,101,114,114,111,114,115]⟩⟩,⟨⟨[102,105,116,95,102,114,111,109]⟩⟩,⟨⟨[99,108,111,115,101,100]⟩⟩,⟨⟨[69,105,116,104,101,114,46,95,95,105,110,105,116,95,95]⟩⟩,⟨⟨[102,105,116,115]⟩⟩,⟨⟨[102,105,116]⟩⟩,⟨⟨[107,105,110,100,115]⟩⟩,⟨⟨[112,108,97,99,101,115]⟩⟩,⟨⟨[119,101,105,103,104,116,115]⟩⟩,⟨⟨[78,111,84,101,120,116,46,95,95,105,110,105,116,95,95]⟩⟩,⟨⟨[108,97,115,116]⟩⟩,⟨⟨[75,105,110,100,46,110,111,116,101,95,116,117,114,110,115]⟩⟩,⟨⟨[116,97,107,101,95,110,97,109,101]⟩⟩,⟨⟨[87,111,114,100,115,46,116,97,107,101,95,110,97,109,101]⟩⟩,⟨⟨[79,112,101,110,101,100]⟩⟩,⟨⟨[110,97,109,101,115]⟩⟩,⟨⟨[115,104,111,119,95,102,105,116]⟩⟩,⟨⟨[80,108,97,99,101,46,95,95,105,110,105,116,95,95]⟩⟩,⟨⟨[95,108,97,119,95,116,114,101,101]⟩⟩,⟨⟨[108,97,119,95,98,101,108,108,115,97,119,97,121,95,107,49,54,95,102,105,116,115,95,97,115,95,116,101,120,116,115]⟩⟩,⟨⟨[105,115,95,99,108,111,115,101,100,95,104,101,114,101]⟩⟩,⟨⟨[65,110,121,46,102,105,116,115,95,105,116]⟩⟩,⟨⟨[78,111,116,46,119,101,105,103,104,116,95,98,105,116,115]⟩⟩,⟨⟨[95,108,97,119,95,99,101,108,108]⟩⟩,⟨⟨[101,120,112,101,99,116,95,101,110,100]⟩⟩,⟨⟨[87,111,114,100,115,46,101,120,112,101,99,116,95,101,110,100]⟩⟩,⟨⟨[99,104,101,99,107,95,102,105,116,115]⟩⟩,⟨⟨[66,111,116,104]⟩⟩,⟨⟨[70,105,116]⟩⟩,⟨⟨[65,110,121]⟩⟩,⟨⟨[75,105,110,100,46,119,101,105,103,104,116,95,98,105,116,115]⟩⟩,⟨⟨[102,105,116,95,111,102]⟩⟩,⟨⟨[95,108,97,119,95,116,101,120,116]⟩⟩,⟨⟨[80,108,97,99,101,46,119,101,105,103,104,116,95,98,105,116,115]⟩⟩,⟨⟨[116,97,107,101,95,99,111,117,110,116]⟩⟩,⟨⟨[87,111,114,100,115,46,116,97,107,101,95,99,111,117,110,116]⟩⟩,⟨⟨[105,115,95,101,110,100,101,100]⟩⟩,⟨⟨[116,97,107,101,95,110,97,109,101,115]⟩⟩,⟨⟨[116,97,107,101,95,115,111,109,101]⟩⟩,⟨⟨[116,97,107,101,95,114,101,115,116]⟩⟩,⟨⟨[108,97,119]⟩⟩,⟨⟨[69,105,116,104,101,114,46,102,105,116,115,95,105,116]⟩⟩,⟨⟨[80,108,97,99,101]⟩⟩,⟨⟨[87,111,114,100,115,46,116,97,107,101,95,110,97,109,101,115]⟩⟩,⟨⟨[66,111,116,104,46,102,105,116,115,95,105,116]⟩⟩,⟨⟨[78,111,116,46,95,95,105,110,105,116,95,95]⟩⟩,⟨⟨[95,108,97,119,95,110,97,109,101]⟩⟩,⟨⟨[80,108,97,99,101,46,110,111,116,101,95,116,117,114,110,115]⟩⟩,⟨⟨[98,101,108,108,115,97,119,97,121,46,119,104,111,108,101,115]⟩⟩,⟨⟨[95,108,97,119,95,115,116,97,116,101]⟩⟩,⟨⟨[95,108,97,119,95,109,111,114,101]⟩⟩,⟨⟨[95,108,97,119,95,107,105,110,100]⟩⟩,⟨⟨[95,108,97,119,95,110,97,109,101,115]⟩⟩,⟨⟨[95,108,97,119,95,107]⟩⟩,⟨⟨[95,108,97,119,95,110,97,109,101,95,104,101,114,101]⟩⟩,⟨⟨[65,110,121,46,119,101,105,103,104,116,95,98,105,116,115]⟩⟩,⟨⟨[75,105,110,100,46,95,95,105,110,105,116,95,95]⟩⟩,⟨⟨[78,111,116,46,110,111,116,101,95,116,117,114,110,115]⟩⟩,⟨⟨[66,111,116,104,46,95,95,105,110,105,116,95,95]⟩⟩,⟨⟨[78,111,116]⟩⟩,⟨⟨[69,105,116,104,101,114]⟩⟩,⟨⟨[99,104,101,99,107,95,110,97,109,101,115]⟩⟩,⟨⟨[98,101,108,108,115,97,119,97,121,46,104,97,112,112,101,110,105,110,103,115]⟩⟩,⟨⟨[87,111,114,100,115,46,105,115,95,101,110,100,101,100]⟩⟩,⟨⟨[116,101,120,116]⟩⟩,⟨⟨[95,108,97,119,95,109,97,100,101]⟩⟩,⟨⟨[75,105,110,100,46,102,105,116,115,95,105,116]⟩⟩,⟨⟨[114,101,97,100,95,119,104,111,108,101]⟩⟩,⟨⟨[115,105,103,110]⟩⟩,⟨⟨[76,101,97,115,116,46,119,101,105,103,104,116,95,98,105,116,115]⟩⟩,⟨⟨[78,111,116,46,102,105,116,115,95,105,116]⟩⟩,⟨⟨[105,110,110,101,114]⟩⟩,⟨⟨[99,104,101,99,107,95,102,105,116]⟩⟩,⟨⟨[107]⟩⟩,⟨⟨[104,97,112,112,101,110,105,110,103]⟩⟩,⟨⟨[95,95,109,97,105,110,95,95]⟩⟩,⟨⟨[116,104,105,110,103]⟩⟩,⟨⟨[95,108,97,119,95,99,104,97,105,110]⟩⟩,⟨⟨[87,111,114,100,115,46,116,97,107,101,95,114,101,115,116]⟩⟩,⟨⟨[95,108,97,119,95,110,101,120,116]⟩⟩,⟨⟨[112,108,97,105,110,95,102,105,116,95,102,114,111,109]⟩⟩,⟨⟨[69,105,116,104,101,114,46,110,111,116,101,95,116,117,114,110,115]⟩⟩,⟨⟨[66,111,116,104,46,119,101,105,103,104,116,95,98,105,116,115]⟩⟩,⟨⟨[95,108,97,119,95,108,101,97,102]⟩⟩,⟨⟨[99,104,111,105,99,101,115]⟩⟩,⟨⟨[95,108,97,119,95,99,101,108,108,95,97,116]⟩⟩,⟨⟨[80,108,97,99,101,46,102,105,116,115,95,105,116]⟩⟩,⟨⟨[108,101,97,115,116]⟩⟩,⟨⟨[87,111,114,100,115,46,116,97,107,101,95,115,111,109,101]⟩⟩,⟨⟨[79,112,101,110,101,100,46,95,95,105,110,105,116,95,95]⟩⟩,⟨⟨[95,108,97,119,95,115,97,109,101]⟩⟩,⟨⟨[95,108,97,119,95,114,101,102,117,115,101,100]⟩⟩,⟨⟨[112,97,114,116,95,102,114,111,109]⟩⟩,⟨⟨[102,111,117,110,100]⟩⟩,⟨⟨[95,108,97,119,95,98,101,103,105,110]⟩⟩,⟨⟨[95,108,97,119,95,116,101,120,116,95,104,101,114,101]⟩⟩,⟨⟨[95,108,97,119,95,102,111,117,110,100]⟩⟩,⟨⟨[101]⟩⟩,⟨⟨[95,108,97,119,95,115,99,114,105,112,116]⟩⟩,⟨⟨[66,111,116,104,46,110,111,116,101,95,116,117,114,110,115]⟩⟩,⟨⟨[65,110,121,46,110,111,116,101,95,116,117,114,110,115]⟩⟩,⟨⟨[69,105,116,104,101,114,46,119,101,105,103,104,116,95,98,105,116,115]⟩⟩,⟨⟨[76,101,97,115,116,46,102,105,116,115,95,105,116]⟩⟩,⟨⟨[119,101,105,103,104,116]⟩⟩,⟨⟨[95,108,97,119,95,98,97,115,101]⟩⟩,⟨⟨[95,108,97,119,95,110,117,109,98,101,114]⟩⟩,⟨⟨[95,108,97,119,95,116,114,101,101,95,104,101,114,101]⟩⟩,⟨⟨[95,108,97,119,95,102,105,116]⟩⟩,⟨⟨[95,108,97,119,95,119,111,114,100,115]⟩⟩,⟨⟨[95,108,97,119,95,97,116]⟩⟩,⟨⟨[95,108,97,119,95,111,100,100]⟩⟩,⟨⟨[97,116]⟩⟩,⟨⟨[98,114,97,99,107,101,116]⟩⟩,⟨⟨[99,111,117,110,116]⟩⟩]
noncomputable def t0:List String:=["builtin_function_or_method","object.__init_subclass__","code","tuple","dict","__main__.__loader__#opaque","function","super","type.__prepare__","type","frame","ValueError","Exception","BaseException","object","ValueError.__new__","object.__new__","getset_descriptor","function.__dict__","function.__dict__#set","ExceptionGroup.__weakref__"]
noncomputable def t1:List String:=[SL.s11030030927630378310x26,SL.s4860613602091757760x24,SL.s5856160107412720595x4,SL.s2766695959194262286x5,SL.s14018661285674007319x4,SL.s7097527257260152453x26,SL.s7174869446012820540x8,SL.s4290257624100764138x5,SL.s10062305145149207511x16,SL.s17162191345867700912x4,SL.s658472552662922059x5,SL.s6070975301684473832x10,SL.s5946037652744460706x9,SL.s4278001404047624695x13,SL.s2742458400755230247x6,SL.s4209523147560561109x18,SL.s11443829558043349243x14,SL.s14755015743595814543x17,SL.s6511155373996960695x17,SL.s12411053484034534018x21,SL.s10220274742760427390x26]
theorem cc {α:Type}{x y:α}{l m:List α}(h:x=y) (k:l=m):x::l=y::m:=by rw [h,k]
theorem ea:a0=a1:=by
 iterate 184 refine cc (by kernel_rfl) ?_
 exact rfl
theorem et:t0=t1:=(cc SL.e11030030927630378310x26 (cc SL.e4860613602091757760x24 (cc SL.e5856160107412720595x4 (cc SL.e2766695959194262286x5 (cc SL.e14018661285674007319x4 (cc SL.e7097527257260152453x26 (cc SL.e7174869446012820540x8 (cc SL.e4290257624100764138x5 (cc SL.e10062305145149207511x16 (cc SL.e17162191345867700912x4 (cc SL.e658472552662922059x5 (cc SL.e6070975301684473832x10 (cc SL.e5946037652744460706x9 (cc SL.e4278001404047624695x13 (cc SL.e2742458400755230247x6 (cc SL.e4209523147560561109x18 (cc SL.e11443829558043349243x14 (cc SL.e14755015743595814543x17 (cc SL.e6511155373996960695x17 (cc SL.e12411053484034534018x21 (cc SL.e10220274742760427390x26 rfl)))))))))))))))))))))
noncomputable def A0:AT:=⟨PySem.Challenge.pw_bellsaway_k16_fits_as_texts,a0,t0⟩
noncomputable def B0:AT:=⟨Fast.tw17388688634637147281,a1,t1⟩
theorem ab:A0=B0:=by
 unfold A0 B0
 rw [ea,et,Fast.te17388688634637147281]
end Hd
namespace PySem.W.Fast
open Hd
noncomputable def tw6479081045032131360:Params→PySem.W.BT:=tree_766 B0
theorem te6479081045032131360:tree_766 A0=tw6479081045032131360:=congrArg tree_766 Hd.ab
noncomputable def tw1212940135404376162:Params→PySem.W.BT:=tree_305 B0
theorem te1212940135404376162:tree_305 A0=tw1212940135404376162:=congrArg tree_305 Hd.ab
noncomputable def tw17091120465357034275:Params→PySem.W.BT:=tree_191 B0
theorem te17091120465357034275:tree_191 A0=tw17091120465357034275:=congrArg tree_191 Hd.ab
noncomputable def tw3923781740511071876:Params→PySem.W.BT:=tree_100 B0
theorem te3923781740511071876:tree_100 A0=tw3923781740511071876:=congrArg tree_100 Hd.ab
noncomputable def tw2809835766164532935:Params→PySem.W.BT:=tree_879 B0
theorem te2809835766164532935:tree_879 A0=tw2809835766164532935:=congrArg tree_879 Hd.ab
noncomputable def tw6168187895420005128:Params→PySem.W.BT:=tree_574 B0
theorem te6168187895420005128:tree_574 A0=tw6168187895420005128:=congrArg tree_574 Hd.ab
noncomputable def tw18017812465854010409:Params→PySem.W.BT:=tree_172 B0
theorem te18017812465854010409:tree_172 A0=tw18017812465854010409:=congrArg tree_172 Hd.ab
noncomputable def tw5947644807667036970:Params→PySem.W.BT:=tree_70 B0
theorem te5947644807667036970:tree_70 A0=tw5947644807667036970:=congrArg tree_70 Hd.ab
noncomputable def tw14304397999861927788:Params→PySem.W.BT:=tree_445 B0
theorem te14304397999861927788:tree_445 A0=tw14304397999861927788:=congrArg tree_445 Hd.ab
noncomputable def tw3184974961105002670:Params→PySem.W.BT:=tree_130 B0
theorem te3184974961105002670:tree_130 A0=tw3184974961105002670:=congrArg tree_130 Hd.ab
noncomputable def tw3265629598747646255:Params→PySem.W.BT:=tree_488 B0
theorem te3265629598747646255:tree_488 A0=tw3265629598747646255:=congrArg tree_488 Hd.ab
noncomputable def tw5300038224087252272:Params→PySem.W.BT:=tree_531 B0
theorem te5300038224087252272:tree_531 A0=tw5300038224087252272:=congrArg tree_531 Hd.ab
noncomputable def tw18266203405186011635:Params→PySem.W.BT:=tree_409 B0
theorem te18266203405186011635:tree_409 A0=tw18266203405186011635:=congrArg tree_409 Hd.ab
noncomputable def tw17856292661052478228:Params→PySem.W.BT:=tree_47 B0
theorem te17856292661052478228:tree_47 A0=tw17856292661052478228:=congrArg tree_47 Hd.ab
noncomputable def tw14596479182660838998:Params→PySem.Heap:=heap_46 B0
theorem te14596479182660838998:heap_46 A0=tw14596479182660838998:=congrArg heap_46 Hd.ab
noncomputable def tw12189054888876639958:Params→PySem.W.BT:=tree_660 B0
theorem te12189054888876639958:tree_660 A0=tw12189054888876639958:=congrArg tree_660 Hd.ab
noncomputable def tw8258350182215868439:Params→PySem.W.BT:=tree_115 B0
theorem te8258350182215868439:tree_115 A0=tw8258350182215868439:=congrArg tree_115 Hd.ab
noncomputable def tw16185984910989458711:Params→PySem.W.BT:=tree_710 B0
theorem te16185984910989458711:tree_710 A0=tw16185984910989458711:=congrArg tree_710 Hd.ab
noncomputable def tw16144756439670223864:Params→PySem.Heap:=heap_880 B0
theorem te16144756439670223864:heap_880 A0=tw16144756439670223864:=congrArg heap_880 Hd.ab
noncomputable def tw2557027282152497597:Params→PySem.W.BT:=tree_390 B0
theorem te2557027282152497597:tree_390 A0=tw2557027282152497597:=congrArg tree_390 Hd.ab
noncomputable def tw15338994458279144734:Params→PySem.W.Frag:=heap_39 B0
theorem te15338994458279144734:heap_39 A0=tw15338994458279144734:=congrArg heap_39 Hd.ab
noncomputable def tw4867993184086696991:Params→PySem.W.BT:=tree_617 B0
theorem te4867993184086696991:tree_617 A0=tw4867993184086696991:=congrArg tree_617 Hd.ab
noncomputable def tw17661182406738151519:Params→PySem.W.BT:=tree_851 B0
theorem te17661182406738151519:tree_851 A0=tw17661182406738151519:=congrArg tree_851 Hd.ab
noncomputable def tw1362940888712847007:Params→PySem.W.BT:=tree_85 B0
theorem te1362940888712847007:tree_85 A0=tw1362940888712847007:=congrArg tree_85 Hd.ab
end PySem.W.Fast
namespace Bw
open PySem L2 PySem.W
theorem BD0 {K:Frag}{C B N:Addr}{nm q:Str}{bs:List Value}{sn:List Str}{sub:List Value}{ab:Bool}{col:Option Bool}{dd:Option Addr}{k0 k1 k2 k3 k5:Option Value}
  (l:K.lookup C=some ⟨.type "type",dd,.cls ⟨nm,bs,[.ref C,.ref B,.type "ValueError",.type "Exception",.type "BaseException",.type "object"],N,q,true,sn,sub,ab,col,false⟩,#[k0,k1,k2,k3,some (.builtin "ValueError.__new__"),k5]⟩)
  (sa:findIn K (.ref C) "__setattr__"=some (some (.builtin "object.__setattr__"))):∃ cd,ExcS K C cd:=⟨_,by unfold clsIn; rw [l],rfl,rfl,sa⟩
theorem BF1 {l:OpenLaw}{w:World}{K:Frag}{h:Heap}{mg:Str→Option Value}{fa f0 f1 f2 f3 f4 f5 f6 f7 f8 f9 f10 f11 f12 f13 f14 f15 f16 f17 f18 f19 f20 f21 f22 f23 f24 f25 f26 f27 f28 f29 f30 f31 f32 f33 f34 f35 f36 f37 f38 f39 f40 f41 f42 z0 z1 z2 z3 z4 z5 z6 z7 z8 z9 z10 z11 z12 z13 z14 z15:Addr}{t0 t1 t2 t3:Tok}(X:K.In h) (G:h.Ns mainGlobals mg) (hfa:mg "law"=some (.ref fa))
  {od0 an0:Option Addr}{sl0:Array (Option Value)}{oc0 kV0 dc0 pm0 cd0 ct0:Value}
  (a0:findIn K (.ref z5) "__init__"=some (some (.ref f0)))
  (i0:isFn K (.ref f0)=true)
  {T0:Addr}{doc0:Value}{dod0:Option Addr}{dn0:Nat}{dsl0:Array (Option Value)}{dt0_0:Tok}
  (l0:K.lookup f0=some ⟨oc0,od0,.func (fnOf "__init__" "NoText.__init__" (aV bC) (aQ bC) (aE bC) (.ref T0) kV0 dc0 pm0 an0 cd0 ct0),sl0⟩)
  (d0:K.lookup T0=some ⟨doc0,dod0,.seq #[.int 0 dt0_0] dn0,dsl0⟩)
  (c0:codeIn K cd0 "NoText.__init__"=true)
  {od1 an1:Option Addr}{sl1:Array (Option Value)}{oc1 kV1 dc1 pm1 cd1 ct1:Value}
  (a1:nsIn K mainGlobals "is_whole"=some (some (.ref f1)))
  (l1:K.lookup f1=some ⟨oc1,od1,.func (fnOf "is_whole" "is_whole" (aV eU) (aQ eU) (aE eU) .none kV1 dc1 pm1 an1 cd1 ct1),sl1⟩)
  (c1:codeIn K cd1 "is_whole"=true)
  (k1:keepIn K (.ref f1)=true)
  {od2 an2:Option Addr}{sl2:Array (Option Value)}{oc2 kV2 dc2 pm2 cd2 ct2:Value}
  (a2:nsIn K mainGlobals "is_whole_from"=some (some (.ref f2)))
  (l2:K.lookup f2=some ⟨oc2,od2,.func (fnOf "is_whole_from" "is_whole_from" (aV cI) (aQ cI) (aE cI) .none kV2 dc2 pm2 an2 cd2 ct2),sl2⟩)
  (c2:codeIn K cd2 "is_whole_from"=true)
  (k2:keepIn K (.ref f2)=true)
  {od3 an3:Option Addr}{sl3:Array (Option Value)}{oc3 kV3 dc3 pm3 cd3 ct3:Value}
  (a3:nsIn K mainGlobals "is_name"=some (some (.ref f3)))
  (l3:K.lookup f3=some ⟨oc3,od3,.func (fnOf "is_name" "is_name" (aV gB) (aQ gB) (aE gB) .none kV3 dc3 pm3 an3 cd3 ct3),sl3⟩)
  (c3:codeIn K cd3 "is_name"=true)
  (k3:keepIn K (.ref f3)=true)
  {od4 an4:Option Addr}{sl4:Array (Option Value)}{oc4 kV4 dc4 pm4 cd4 ct4:Value}
  (a4:nsIn K mainGlobals "are_unlike_names"=some (some (.ref f4)))
  (l4:K.lookup f4=some ⟨oc4,od4,.func (fnOf "are_unlike_names" "are_unlike_names" (aV bP) (aQ bP) (aE bP) .none kV4 dc4 pm4 an4 cd4 ct4),sl4⟩)
  (c4:codeIn K cd4 "are_unlike_names"=true)
  (k4:keepIn K (.ref f4)=true)
  {od5 an5:Option Addr}{sl5:Array (Option Value)}{oc5 kV5 dc5 pm5 cd5 ct5:Value}
  (a5:nsIn K mainGlobals "is_figures"=some (some (.ref f5)))
  (l5:K.lookup f5=some ⟨oc5,od5,.func (fnOf "is_figures" "is_figures" (aV dJ) (aQ dJ) (aE dJ) .none kV5 dc5 pm5 an5 cd5 ct5),sl5⟩)
  (c5:codeIn K cd5 "is_figures"=true)
  (k5:keepIn K (.ref f5)=true)
  {od6 an6:Option Addr}{sl6:Array (Option Value)}{oc6 kV6 dc6 pm6 cd6 ct6:Value}
  (a6:nsIn K mainGlobals "is_number"=some (some (.ref f6)))
  (l6:K.lookup f6=some ⟨oc6,od6,.func (fnOf "is_number" "is_number" (aV dY) (aQ dY) (aE dY) .none kV6 dc6 pm6 an6 cd6 ct6),sl6⟩)
  (c6:codeIn K cd6 "is_number"=true)
  (k6:keepIn K (.ref f6)=true)
  {od7 an7:Option Addr}{sl7:Array (Option Value)}{oc7 kV7 dc7 pm7 cd7 ct7:Value}
  (a7:findIn K (.ref z6) "__init__"=some (some (.ref f7)))
  (i7:isFn K (.ref f7)=true)
  (l7:K.lookup f7=some ⟨oc7,od7,.func (fnOf "__init__" "Words.__init__" (aV bY) (aQ bY) (aE bY) .none kV7 dc7 pm7 an7 cd7 ct7),sl7⟩)
  (c7:codeIn K cd7 "Words.__init__"=true)
  (k7:keepIn K (.ref f7)=true)
  {od8 an8:Option Addr}{sl8:Array (Option Value)}{oc8 kV8 dc8 pm8 cd8 ct8:Value}
  (a8:findIn K (.ref z6) "is_ended"=some (some (.ref f8)))
  (i8:isFn K (.ref f8)=true)
  (l8:K.lookup f8=some ⟨oc8,od8,.func (fnOf "is_ended" "Words.is_ended" (aV bZ) (aQ bZ) (aE bZ) .none kV8 dc8 pm8 an8 cd8 ct8),sl8⟩)
  (c8:codeIn K cd8 "Words.is_ended"=true)
  (k8:keepIn K (.ref f8)=true)
  {od9 an9:Option Addr}{sl9:Array (Option Value)}{oc9 kV9 dc9 pm9 cd9 ct9:Value}
  (a9:findIn K (.ref z6) "look"=some (some (.ref f9)))
  (i9:isFn K (.ref f9)=true)
  (l9:K.lookup f9=some ⟨oc9,od9,.func (fnOf "look" "Words.look" (aV dL) (aQ dL) (aE dL) .none kV9 dc9 pm9 an9 cd9 ct9),sl9⟩)
  (c9:codeIn K cd9 "Words.look"=true)
  (k9:keepIn K (.ref f9)=true)
  {od10 an10:Option Addr}{sl10:Array (Option Value)}{oc10 kV10 dc10 pm10 cd10 ct10:Value}
  (a10:findIn K (.ref z6) "take"=some (some (.ref f10)))
  (i10:isFn K (.ref f10)=true)
  (l10:K.lookup f10=some ⟨oc10,od10,.func (fnOf "take" "Words.take" (aV dM) (aQ dM) (aE dM) .none kV10 dc10 pm10 an10 cd10 ct10),sl10⟩)
  (c10:codeIn K cd10 "Words.take"=true)
  (k10:keepIn K (.ref f10)=true)
  {od11 an11:Option Addr}{sl11:Array (Option Value)}{oc11 kV11 dc11 pm11 cd11 ct11:Value}
  (a11:findIn K (.ref z6) "expect_end"=some (some (.ref f11)))
  (i11:isFn K (.ref f11)=true)
  (l11:K.lookup f11=some ⟨oc11,od11,.func (fnOf "expect_end" "Words.expect_end" (aV bQ) (aQ bQ) (aE bQ) .none kV11 dc11 pm11 an11 cd11 ct11),sl11⟩)
  (c11:codeIn K cd11 "Words.expect_end"=true)
  (k11:keepIn K (.ref f11)=true)
  {od12 an12:Option Addr}{sl12:Array (Option Value)}{oc12 kV12 dc12 pm12 cd12 ct12:Value}
  (a12:findIn K (.ref z6) "take_number"=some (some (.ref f12)))
  (i12:isFn K (.ref f12)=true)
  (l12:K.lookup f12=some ⟨oc12,od12,.func (fnOf "take_number" "Words.take_number" (aV bL) (aQ bL) (aE bL) .none kV12 dc12 pm12 an12 cd12 ct12),sl12⟩)
  (c12:codeIn K cd12 "Words.take_number"=true)
  (k12:keepIn K (.ref f12)=true)
  {od13 an13:Option Addr}{sl13:Array (Option Value)}{oc13 kV13 dc13 pm13 cd13 ct13:Value}
  (a13:findIn K (.ref z6) "take_names"=some (some (.ref f13)))
  (i13:isFn K (.ref f13)=true)
  (l13:K.lookup f13=some ⟨oc13,od13,.func (fnOf "take_names" "Words.take_names" (aV bR) (aQ bR) (aE bR) .none kV13 dc13 pm13 an13 cd13 ct13),sl13⟩)
  (c13:codeIn K cd13 "Words.take_names"=true)
  (k13:keepIn K (.ref f13)=true)
  {od14 an14:Option Addr}{sl14:Array (Option Value)}{oc14 kV14 dc14 pm14 cd14 ct14:Value}
  (a14:findIn K (.ref z9) "__init__"=some (some (.ref f14)))
  (i14:isFn K (.ref f14)=true)
  (l14:K.lookup f14=some ⟨oc14,od14,.func (fnOf "__init__" "Kind.__init__" (aV cJ) (aQ cJ) (aE cJ) .none kV14 dc14 pm14 an14 cd14 ct14),sl14⟩)
  (c14:codeIn K cd14 "Kind.__init__"=true)
  (k14:keepIn K (.ref f14)=true)
  {od15 an15:Option Addr}{sl15:Array (Option Value)}{oc15 kV15 dc15 pm15 cd15 ct15:Value}
  (a15:findIn K (.ref z10) "__init__"=some (some (.ref f15)))
  (i15:isFn K (.ref f15)=true)
  (l15:K.lookup f15=some ⟨oc15,od15,.func (fnOf "__init__" "Place.__init__" (aV cB) (aQ cB) (aE cB) .none kV15 dc15 pm15 an15 cd15 ct15),sl15⟩)
  (c15:codeIn K cd15 "Place.__init__"=true)
  (k15:keepIn K (.ref f15)=true)
  {od16 an16:Option Addr}{sl16:Array (Option Value)}{oc16 kV16 dc16 pm16 cd16 ct16:Value}
  (a16:findIn K (.ref z11) "__init__"=some (some (.ref f16)))
  (i16:isFn K (.ref f16)=true)
  (l16:K.lookup f16=some ⟨oc16,od16,.func (fnOf "__init__" "Least.__init__" (aV cC) (aQ cC) (aE cC) .none kV16 dc16 pm16 an16 cd16 ct16),sl16⟩)
  (c16:codeIn K cd16 "Least.__init__"=true)
  (k16:keepIn K (.ref f16)=true)
  {od17 an17:Option Addr}{sl17:Array (Option Value)}{oc17 kV17 dc17 pm17 cd17 ct17:Value}
  (a17:findIn K (.ref z12) "__init__"=some (some (.ref f17)))
  (i17:isFn K (.ref f17)=true)
  (l17:K.lookup f17=some ⟨oc17,od17,.func (fnOf "__init__" "Not.__init__" (aV cR) (aQ cR) (aE cR) .none kV17 dc17 pm17 an17 cd17 ct17),sl17⟩)
  (c17:codeIn K cd17 "Not.__init__"=true)
  (k17:keepIn K (.ref f17)=true)
  {od18 an18:Option Addr}{sl18:Array (Option Value)}{oc18 kV18 dc18 pm18 cd18 ct18:Value}
  (a18:findIn K (.ref z13) "__init__"=some (some (.ref f18)))
  (i18:isFn K (.ref f18)=true)
  (l18:K.lookup f18=some ⟨oc18,od18,.func (fnOf "__init__" "Both.__init__" (aV cK) (aQ cK) (aE cK) .none kV18 dc18 pm18 an18 cd18 ct18),sl18⟩)
  (c18:codeIn K cd18 "Both.__init__"=true)
  (k18:keepIn K (.ref f18)=true)
  {od19 an19:Option Addr}{sl19:Array (Option Value)}{oc19 kV19 dc19 pm19 cd19 ct19:Value}
  (a19:findIn K (.ref z14) "__init__"=some (some (.ref f19)))
  (i19:isFn K (.ref f19)=true)
  (l19:K.lookup f19=some ⟨oc19,od19,.func (fnOf "__init__" "Either.__init__" (aV bV) (aQ bV) (aE bV) .none kV19 dc19 pm19 an19 cd19 ct19),sl19⟩)
  (c19:codeIn K cd19 "Either.__init__"=true)
  (k19:keepIn K (.ref f19)=true)
  {od20 an20:Option Addr}{sl20:Array (Option Value)}{oc20 kV20 dc20 pm20 cd20 ct20:Value}
  (a20:nsIn K mainGlobals "check_names"=some (some (.ref f20)))
  (l20:K.lookup f20=some ⟨oc20,od20,.func (fnOf "check_names" "check_names" (aV cY) (aQ cY) (aE cY) .none kV20 dc20 pm20 an20 cd20 ct20),sl20⟩)
  (c20:codeIn K cd20 "check_names"=true)
  (k20:keepIn K (.ref f20)=true)
  {od21 an21:Option Addr}{sl21:Array (Option Value)}{oc21 kV21 dc21 pm21 cd21 ct21:Value}
  (a21:nsIn K mainGlobals "check_fit"=some (some (.ref f21)))
  (l21:K.lookup f21=some ⟨oc21,od21,.func (fnOf "check_fit" "check_fit" (aV dZ) (aQ dZ) (aE dZ) .none kV21 dc21 pm21 an21 cd21 ct21),sl21⟩)
  (c21:codeIn K cd21 "check_fit"=true)
  (k21:keepIn K (.ref f21)=true)
  {od22 an22:Option Addr}{sl22:Array (Option Value)}{oc22 kV22 dc22 pm22 cd22 ct22:Value}
  (a22:nsIn K mainGlobals "check_fits"=some (some (.ref f22)))
  (l22:K.lookup f22=some ⟨oc22,od22,.func (fnOf "check_fits" "check_fits" (aV dN) (aQ dN) (aE dN) .none kV22 dc22 pm22 an22 cd22 ct22),sl22⟩)
  (c22:codeIn K cd22 "check_fits"=true)
  (k22:keepIn K (.ref f22)=true)
  {od23 an23:Option Addr}{sl23:Array (Option Value)}{oc23 kV23 dc23 pm23 cd23 ct23:Value}
  (a23:nsIn K mainGlobals "show_fit"=some (some (.ref f23)))
  (l23:K.lookup f23=some ⟨oc23,od23,.func (fnOf "show_fit" "show_fit" (aV eV) (aQ eV) (aE eV) .none kV23 dc23 pm23 an23 cd23 ct23),sl23⟩)
  (c23:codeIn K cd23 "show_fit"=true)
  (k23:keepIn K (.ref f23)=true)
  {od24 an24:Option Addr}{sl24:Array (Option Value)}{oc24 kV24 dc24 pm24 cd24 ct24:Value}
  (a24:nsIn K mainGlobals "read_fit"=some (some (.ref f24)))
  (l24:K.lookup f24=some ⟨oc24,od24,.func (fnOf "read_fit" "read_fit" (aV eW) (aQ eW) (aE eW) .none kV24 dc24 pm24 an24 cd24 ct24),sl24⟩)
  (c24:codeIn K cd24 "read_fit"=true)
  (k24:keepIn K (.ref f24)=true)
  {od25 an25:Option Addr}{sl25:Array (Option Value)}{oc25 kV25 dc25 pm25 cd25 ct25:Value}
  (a25:nsIn K mainGlobals "read_whole"=some (some (.ref f25)))
  (l25:K.lookup f25=some ⟨oc25,od25,.func (fnOf "read_whole" "read_whole" (aV dO) (aQ dO) (aE dO) .none kV25 dc25 pm25 an25 cd25 ct25),sl25⟩)
  (c25:codeIn K cd25 "read_whole"=true)
  (k25:keepIn K (.ref f25)=true)
  {od26 an26:Option Addr}{sl26:Array (Option Value)}{oc26 kV26 dc26 pm26 cd26 ct26:Value}
  (a26:findIn K (.ref z15) "__init__"=some (some (.ref f26)))
  (i26:isFn K (.ref f26)=true)
  (l26:K.lookup f26=some ⟨oc26,od26,.func (fnOf "__init__" "Opened.__init__" (aV bW) (aQ bW) (aE bW) .none kV26 dc26 pm26 an26 cd26 ct26),sl26⟩)
  (c26:codeIn K cd26 "Opened.__init__"=true)
  (k26:keepIn K (.ref f26)=true)
  {od27 an27:Option Addr}{sl27:Array (Option Value)}{oc27 kV27 dc27 pm27 cd27 ct27:Value}
  (a27:nsIn K mainGlobals "fit_from"=some (some (.ref f27)))
  (l27:K.lookup f27=some ⟨oc27,od27,.func (fnOf "fit_from" "fit_from" (aV eY) (aQ eY) (aE eY) .none kV27 dc27 pm27 an27 cd27 ct27),sl27⟩)
  (c27:codeIn K cd27 "fit_from"=true)
  (k27:keepIn K (.ref f27)=true)
  {od28 an28:Option Addr}{sl28:Array (Option Value)}{oc28 kV28 dc28 pm28 cd28 ct28:Value}
  (a28:nsIn K mainGlobals "plain_fit_from"=some (some (.ref f28)))
  (l28:K.lookup f28=some ⟨oc28,od28,.func (fnOf "plain_fit_from" "plain_fit_from" (aV cD) (aQ cD) (aE cD) .none kV28 dc28 pm28 an28 cd28 ct28),sl28⟩)
  (c28:codeIn K cd28 "plain_fit_from"=true)
  (k28:keepIn K (.ref f28)=true)
  {od29 an29:Option Addr}{sl29:Array (Option Value)}{oc29 kV29 dc29 pm29 cd29 ct29:Value}
  (a29:nsIn K mainGlobals "closed"=some (some (.ref f29)))
  (l29:K.lookup f29=some ⟨oc29,od29,.func (fnOf "closed" "closed" (aV iK) (aQ iK) (aE iK) .none kV29 dc29 pm29 an29 cd29 ct29),sl29⟩)
  (c29:codeIn K cd29 "closed"=true)
  (k29:keepIn K (.ref f29)=true)
  {od30 an30:Option Addr}{sl30:Array (Option Value)}{oc30 kV30 dc30 pm30 cd30 ct30:Value}
  (a30:nsIn K mainGlobals "is_closed_here"=some (some (.ref f30)))
  (l30:K.lookup f30=some ⟨oc30,od30,.func (fnOf "is_closed_here" "is_closed_here" (aV cE) (aQ cE) (aE cE) .none kV30 dc30 pm30 an30 cd30 ct30),sl30⟩)
  (c30:codeIn K cd30 "is_closed_here"=true)
  (k30:keepIn K (.ref f30)=true)
  {od31 an31:Option Addr}{sl31:Array (Option Value)}{oc31 kV31 dc31 pm31 cd31 ct31:Value}
  (a31:nsIn K mainGlobals "fit_of"=some (some (.ref f31)))
  (l31:K.lookup f31=some ⟨oc31,od31,.func (fnOf "fit_of" "fit_of" (aV iL) (aQ iL) (aE iL) .none kV31 dc31 pm31 an31 cd31 ct31),sl31⟩)
  (c31:codeIn K cd31 "fit_of"=true)
  (k31:keepIn K (.ref f31)=true)
  {od32 an32:Option Addr}{sl32:Array (Option Value)}{oc32 kV32 dc32 pm32 cd32 ct32:Value}
  (a32:nsIn K mainGlobals "_law_begin"=some (some (.ref f32)))
  (l32:K.lookup f32=some ⟨oc32,od32,.func (fnOf "_law_begin" "_law_begin" (aV eA) (aQ eA) (aE eA) .none kV32 dc32 pm32 an32 cd32 ct32),sl32⟩)
  (c32:codeIn K cd32 "_law_begin"=true)
  (k32:keepIn K (.ref f32)=true)
  {od33 an33:Option Addr}{sl33:Array (Option Value)}{oc33 kV33 dc33 pm33 cd33 ct33:Value}
  (a33:nsIn K mainGlobals "_law_next"=some (some (.ref f33)))
  (l33:K.lookup f33=some ⟨oc33,od33,.func (fnOf "_law_next" "_law_next" (aV eZ) (aQ eZ) (aE eZ) .none kV33 dc33 pm33 an33 cd33 ct33),sl33⟩)
  (c33:codeIn K cd33 "_law_next"=true)
  (k33:keepIn K (.ref f33)=true)
  {od34 an34:Option Addr}{sl34:Array (Option Value)}{oc34 kV34 dc34 pm34 cd34 ct34:Value}
  (a34:nsIn K mainGlobals "_law_name"=some (some (.ref f34)))
  (l34:K.lookup f34=some ⟨oc34,od34,.func (fnOf "_law_name" "_law_name" (aV fA) (aQ fA) (aE fA) .none kV34 dc34 pm34 an34 cd34 ct34),sl34⟩)
  (c34:codeIn K cd34 "_law_name"=true)
  (k34:keepIn K (.ref f34)=true)
  {od35 an35:Option Addr}{sl35:Array (Option Value)}{oc35 kV35 dc35 pm35 cd35 ct35:Value}
  (a35:nsIn K mainGlobals "_law_leaf"=some (some (.ref f35)))
  (l35:K.lookup f35=some ⟨oc35,od35,.func (fnOf "_law_leaf" "_law_leaf" (aV fB) (aQ fB) (aE fB) .none kV35 dc35 pm35 an35 cd35 ct35),sl35⟩)
  (c35:codeIn K cd35 "_law_leaf"=true)
  (k35:keepIn K (.ref f35)=true)
  {od36 an36:Option Addr}{sl36:Array (Option Value)}{oc36 kV36 dc36 pm36 cd36 ct36:Value}
  (a36:nsIn K mainGlobals "_law_tree"=some (some (.ref f36)))
  (l36:K.lookup f36=some ⟨oc36,od36,.func (fnOf "_law_tree" "_law_tree" (aV fC) (aQ fC) (aE fC) .none kV36 dc36 pm36 an36 cd36 ct36),sl36⟩)
  (c36:codeIn K cd36 "_law_tree"=true)
  (k36:keepIn K (.ref f36)=true)
  {od37 an37:Option Addr}{sl37:Array (Option Value)}{oc37 kV37 dc37 pm37 cd37 ct37:Value}
  (a37:nsIn K mainGlobals "_law_made"=some (some (.ref f37)))
  (l37:K.lookup f37=some ⟨oc37,od37,.func (fnOf "_law_made" "_law_made" (aV fD) (aQ fD) (aE fD) .none kV37 dc37 pm37 an37 cd37 ct37),sl37⟩)
  (c37:codeIn K cd37 "_law_made"=true)
  (k37:keepIn K (.ref f37)=true)
  {od38 an38:Option Addr}{sl38:Array (Option Value)}{oc38 kV38 dc38 pm38 cd38 ct38:Value}
  (a38:nsIn K mainGlobals "_law_text"=some (some (.ref f38)))
  (l38:K.lookup f38=some ⟨oc38,od38,.func (fnOf "_law_text" "_law_text" (aV fE) (aQ fE) (aE fE) .none kV38 dc38 pm38 an38 cd38 ct38),sl38⟩)
  (c38:codeIn K cd38 "_law_text"=true)
  (k38:keepIn K (.ref f38)=true)
  {od39 an39:Option Addr}{sl39:Array (Option Value)}{oc39 kV39 dc39 pm39 cd39 ct39:Value}
  (a39:nsIn K mainGlobals "_law_same"=some (some (.ref f39)))
  (l39:K.lookup f39=some ⟨oc39,od39,.func (fnOf "_law_same" "_law_same" (aV fG) (aQ fG) (aE fG) .none kV39 dc39 pm39 an39 cd39 ct39),sl39⟩)
  (c39:codeIn K cd39 "_law_same"=true)
  (k39:keepIn K (.ref f39)=true)
  {od40 an40:Option Addr}{sl40:Array (Option Value)}{oc40 kV40 dc40 pm40 cd40 ct40:Value}
  (a40:nsIn K mainGlobals "_law_chain"=some (some (.ref f40)))
  (l40:K.lookup f40=some ⟨oc40,od40,.func (fnOf "_law_chain" "_law_chain" (aV eB) (aQ eB) (aE eB) .none kV40 dc40 pm40 an40 cd40 ct40),sl40⟩)
  (c40:codeIn K cd40 "_law_chain"=true)
  (k40:keepIn K (.ref f40)=true)
  {od41 an41:Option Addr}{sl41:Array (Option Value)}{oc41 kV41 dc41 pm41 cd41 ct41:Value}
  (a41:nsIn K mainGlobals "_law_refused"=some (some (.ref f41)))
  (l41:K.lookup f41=some ⟨oc41,od41,.func (fnOf "_law_refused" "_law_refused" (aV cZ) (aQ cZ) (aE cZ) .none kV41 dc41 pm41 an41 cd41 ct41),sl41⟩)
  (c41:codeIn K cd41 "_law_refused"=true)
  (k41:keepIn K (.ref f41)=true)
  {od42 an42:Option Addr}{sl42:Array (Option Value)}{oc42 kV42 dc42 pm42 cd42 ct42:Value}
  (a42:nsIn K mainGlobals "law"=some (some (.ref f42)))
  (l42:K.lookup f42=some ⟨oc42,od42,.func (fnOf "law" "law" (aV pR) (aQ pR) (aE pR) .none kV42 dc42 pm42 an42 cd42 ct42),sl42⟩)
  (c42:codeIn K cd42 "law"=true)
  (k42:keepIn K (.ref f42)=true)
  (y0:nsIn K mainGlobals "len"=some none)
  (y1:nsIn K mainGlobals "int"=some none)
  (y2:nsIn K mainGlobals "bool"=some none)
  (y3:nsIn K mainGlobals "str"=some none)
  (y4:nsIn K mainGlobals "tuple"=some none)
  (y5:nsIn K mainGlobals "list"=some none)
  (y6:nsIn K mainGlobals "all"=some none)
  (y7:nsIn K mainGlobals "isinstance"=some none)
  (y8:nsIn K mainGlobals "range"=some none)
  (y9:nsIn K mainGlobals "set"=some none)
  (y10:nsIn K mainGlobals "ValueError"=some none)
  (y11:nsIn K mainGlobals "LETTERS"=some (some (.str "abcdefghijklmnopqrstuvwxyz" t0)))
  (y12:nsIn K mainGlobals "MOST_LETTERS"=some (some (.int 8 t1)))
  (y13:nsIn K mainGlobals "FIGURES"=some (some (.str "0123456789" t2)))
  (y14:nsIn K mainGlobals "MOST_FIGURES"=some (some (.int 60 t3)))
  (y15:nsIn K mainGlobals "BellError"=some (some (.ref z0)))
  (y16:nsIn K mainGlobals "NoFit"=some (some (.ref z1)))
  (y17:nsIn K mainGlobals "NoWish"=some (some (.ref z2)))
  (y18:nsIn K mainGlobals "NoTime"=some (some (.ref z3)))
  (y19:nsIn K mainGlobals "NoRow"=some (some (.ref z4)))
  (y20:nsIn K mainGlobals "NoText"=some (some (.ref z5)))
  (y21:nsIn K mainGlobals "Words"=some (some (.ref z6)))
  (y22:nsIn K mainGlobals "Fit"=some (some (.ref z7)))
  (y23:nsIn K mainGlobals "Any"=some (some (.ref z8)))
  (y24:nsIn K mainGlobals "Kind"=some (some (.ref z9)))
  (y25:nsIn K mainGlobals "Place"=some (some (.ref z10)))
  (y26:nsIn K mainGlobals "Least"=some (some (.ref z11)))
  (y27:nsIn K mainGlobals "Not"=some (some (.ref z12)))
  (y28:nsIn K mainGlobals "Both"=some (some (.ref z13)))
  (y29:nsIn K mainGlobals "Either"=some (some (.ref z14)))
  (y30:nsIn K mainGlobals "Opened"=some (some (.ref z15)))
  (y31:nsIn K mainGlobals "fit_from"=some (some (.ref f27)))
  (y32_0:findIn K (.ref z5) "__getattribute__"=some (some (.builtin "BaseException.__getattribute__")))
  (y32_1:findIn K (.ref z5) "__getattr__"=some none)
  (y32_2:findIn K (.ref z5) "__class__"=some (some (.builtin "object.__class__")))
  (y32_3:mroIn K z5 (.type "BaseException")=some true)
  (y32_4:mroIn K z5 (.type "object")=some true)
  (y32_5:isClsIn K z5=true)
  (y33:excIn K z1 vbm "ValueError.__new__"=true)
  (y34:exmOne K (.ref z1) (.ref z0)=some true)
  (y35:exmOne K (.ref z5) (.ref z0)=some true)
  (y36:hasDictIn K z5=true)
  (y37:mroIn K z5 (.type "object")=some true)
  (y38:findIn K (.ref z5) "line"=some none)
  (y40_0:plainGet K z8 Str.empty=true)
  (y40_1:hasDictIn K z8=true)
  (y40_2:plainOver K z8=true)
  (y40_3:findIn K (.ref z8) "__setattr__"=some (some (.builtin "object.__setattr__")))
  (y40_4:findIn K (.ref z8) "__class__"=some (some (.builtin "object.__class__")))
  (y40_5:specialIn K (.builtin "object.__class__") "__get__"=some (some (.builtin "getset_descriptor.__get__")))
  (y40_6:takesIn K (.builtin "object.__class__")=some true)
  (y40_7:mroIn K z8 (.type "object")=some true)
  (y41_0:plainGet K z9 Str.empty=true)
  (y41_1:hasDictIn K z9=true)
  (y41_2:plainOver K z9=true)
  (y41_3:findIn K (.ref z9) "__setattr__"=some (some (.builtin "object.__setattr__")))
  (y41_4:findIn K (.ref z9) "__class__"=some (some (.builtin "object.__class__")))
  (y41_5:specialIn K (.builtin "object.__class__") "__get__"=some (some (.builtin "getset_descriptor.__get__")))
  (y41_6:takesIn K (.builtin "object.__class__")=some true)
  (y41_7:mroIn K z9 (.type "object")=some true)
  (y42:findIn K (.ref z9) "names"=some none)
  (y43_0:plainGet K z10 Str.empty=true)
  (y43_1:hasDictIn K z10=true)
  (y43_2:plainOver K z10=true)
  (y43_3:findIn K (.ref z10) "__setattr__"=some (some (.builtin "object.__setattr__")))
  (y43_4:findIn K (.ref z10) "__class__"=some (some (.builtin "object.__class__")))
  (y43_5:specialIn K (.builtin "object.__class__") "__get__"=some (some (.builtin "getset_descriptor.__get__")))
  (y43_6:takesIn K (.builtin "object.__class__")=some true)
  (y43_7:mroIn K z10 (.type "object")=some true)
  (y44:findIn K (.ref z10) "names"=some none)
  (y45_0:plainGet K z11 Str.empty=true)
  (y45_1:hasDictIn K z11=true)
  (y45_2:plainOver K z11=true)
  (y45_3:findIn K (.ref z11) "__setattr__"=some (some (.builtin "object.__setattr__")))
  (y45_4:findIn K (.ref z11) "__class__"=some (some (.builtin "object.__class__")))
  (y45_5:specialIn K (.builtin "object.__class__") "__get__"=some (some (.builtin "getset_descriptor.__get__")))
  (y45_6:takesIn K (.builtin "object.__class__")=some true)
  (y45_7:mroIn K z11 (.type "object")=some true)
  (y46:findIn K (.ref z11) "weight"=some none)
  (y47_0:plainGet K z12 Str.empty=true)
  (y47_1:hasDictIn K z12=true)
  (y47_2:plainOver K z12=true)
  (y47_3:findIn K (.ref z12) "__setattr__"=some (some (.builtin "object.__setattr__")))
  (y47_4:findIn K (.ref z12) "__class__"=some (some (.builtin "object.__class__")))
  (y47_5:specialIn K (.builtin "object.__class__") "__get__"=some (some (.builtin "getset_descriptor.__get__")))
  (y47_6:takesIn K (.builtin "object.__class__")=some true)
  (y47_7:mroIn K z12 (.type "object")=some true)
  (y48:findIn K (.ref z12) "fit"=some none)
  (y49_0:plainGet K z13 Str.empty=true)
  (y49_1:hasDictIn K z13=true)
  (y49_2:plainOver K z13=true)
  (y49_3:findIn K (.ref z13) "__setattr__"=some (some (.builtin "object.__setattr__")))
  (y49_4:findIn K (.ref z13) "__class__"=some (some (.builtin "object.__class__")))
  (y49_5:specialIn K (.builtin "object.__class__") "__get__"=some (some (.builtin "getset_descriptor.__get__")))
  (y49_6:takesIn K (.builtin "object.__class__")=some true)
  (y49_7:mroIn K z13 (.type "object")=some true)
  (y50:findIn K (.ref z13) "fits"=some none)
  (y51_0:plainGet K z14 Str.empty=true)
  (y51_1:hasDictIn K z14=true)
  (y51_2:plainOver K z14=true)
  (y51_3:findIn K (.ref z14) "__setattr__"=some (some (.builtin "object.__setattr__")))
  (y51_4:findIn K (.ref z14) "__class__"=some (some (.builtin "object.__class__")))
  (y51_5:specialIn K (.builtin "object.__class__") "__get__"=some (some (.builtin "getset_descriptor.__get__")))
  (y51_6:takesIn K (.builtin "object.__class__")=some true)
  (y51_7:mroIn K z14 (.type "object")=some true)
  (y52:findIn K (.ref z14) "fits"=some none)
  (y53_0:plainGet K z6 Str.empty=true)
  (y53_1:hasDictIn K z6=true)
  (y53_2:plainOver K z6=true)
  (y53_3:findIn K (.ref z6) "__setattr__"=some (some (.builtin "object.__setattr__")))
  (y53_4:findIn K (.ref z6) "__class__"=some (some (.builtin "object.__class__")))
  (y53_5:specialIn K (.builtin "object.__class__") "__get__"=some (some (.builtin "getset_descriptor.__get__")))
  (y53_6:takesIn K (.builtin "object.__class__")=some true)
  (y53_7:mroIn K z6 (.type "object")=some true)
  (y54:findIn K (.ref z6) "words"=some none)
  (y55:findIn K (.ref z6) "at"=some none)
  (y56_0:plainGet K z15 Str.empty=true)
  (y56_1:hasDictIn K z15=true)
  (y56_2:plainOver K z15=true)
  (y56_3:findIn K (.ref z15) "__setattr__"=some (some (.builtin "object.__setattr__")))
  (y56_4:findIn K (.ref z15) "__class__"=some (some (.builtin "object.__class__")))
  (y56_5:specialIn K (.builtin "object.__class__") "__get__"=some (some (.builtin "getset_descriptor.__get__")))
  (y56_6:takesIn K (.builtin "object.__class__")=some true)
  (y56_7:mroIn K z15 (.type "object")=some true)
  (y57:findIn K (.ref z15) "sign"=some none)
  (y58:findIn K (.ref z15) "inner"=some none)
  (y59:kitOne K (.ref z8) (.ref z7)=some true)
  (y60:kitOne K (.ref z9) (.ref z7)=some true)
  (y61:kitOne K (.ref z10) (.ref z7)=some true)
  (y62:kitOne K (.ref z11) (.ref z7)=some true)
  (y63:kitOne K (.ref z12) (.ref z7)=some true)
  (y64:kitOne K (.ref z13) (.ref z7)=some true)
  (y65:kitOne K (.ref z14) (.ref z7)=some true)
  (y66:kitOne K (.ref z8) (.ref z8)=some true)
  (y67:kitOne K (.ref z8) (.ref z9)=some false)
  (y68:kitOne K (.ref z8) (.ref z10)=some false)
  (y69:kitOne K (.ref z8) (.ref z11)=some false)
  (y70:kitOne K (.ref z8) (.ref z12)=some false)
  (y71:kitOne K (.ref z8) (.ref z13)=some false)
  (y72:kitOne K (.ref z8) (.ref z14)=some false)
  (y73:kitOne K (.ref z9) (.ref z8)=some false)
  (y74:kitOne K (.ref z9) (.ref z9)=some true)
  (y75:kitOne K (.ref z9) (.ref z10)=some false)
  (y76:kitOne K (.ref z9) (.ref z11)=some false)
  (y77:kitOne K (.ref z9) (.ref z12)=some false)
  (y78:kitOne K (.ref z9) (.ref z13)=some false)
  (y79:kitOne K (.ref z9) (.ref z14)=some false)
  (y80:kitOne K (.ref z10) (.ref z8)=some false)
  (y81:kitOne K (.ref z10) (.ref z9)=some false)
  (y82:kitOne K (.ref z10) (.ref z10)=some true)
  (y83:kitOne K (.ref z10) (.ref z11)=some false)
  (y84:kitOne K (.ref z10) (.ref z12)=some false)
  (y85:kitOne K (.ref z10) (.ref z13)=some false)
  (y86:kitOne K (.ref z10) (.ref z14)=some false)
  (y87:kitOne K (.ref z11) (.ref z8)=some false)
  (y88:kitOne K (.ref z11) (.ref z9)=some false)
  (y89:kitOne K (.ref z11) (.ref z10)=some false)
  (y90:kitOne K (.ref z11) (.ref z11)=some true)
  (y91:kitOne K (.ref z11) (.ref z12)=some false)
  (y92:kitOne K (.ref z11) (.ref z13)=some false)
  (y93:kitOne K (.ref z11) (.ref z14)=some false)
  (y94:kitOne K (.ref z12) (.ref z8)=some false)
  (y95:kitOne K (.ref z12) (.ref z9)=some false)
  (y96:kitOne K (.ref z12) (.ref z10)=some false)
  (y97:kitOne K (.ref z12) (.ref z11)=some false)
  (y98:kitOne K (.ref z12) (.ref z12)=some true)
  (y99:kitOne K (.ref z12) (.ref z13)=some false)
  (y100:kitOne K (.ref z12) (.ref z14)=some false)
  (y101:kitOne K (.ref z13) (.ref z8)=some false)
  (y102:kitOne K (.ref z13) (.ref z9)=some false)
  (y103:kitOne K (.ref z13) (.ref z10)=some false)
  (y104:kitOne K (.ref z13) (.ref z11)=some false)
  (y105:kitOne K (.ref z13) (.ref z12)=some false)
  (y106:kitOne K (.ref z13) (.ref z13)=some true)
  (y107:kitOne K (.ref z13) (.ref z14)=some false)
  (y108:kitOne K (.ref z14) (.ref z8)=some false)
  (y109:kitOne K (.ref z14) (.ref z9)=some false)
  (y110:kitOne K (.ref z14) (.ref z10)=some false)
  (y111:kitOne K (.ref z14) (.ref z11)=some false)
  (y112:kitOne K (.ref z14) (.ref z12)=some false)
  (y113:kitOne K (.ref z14) (.ref z13)=some false)
  (y114:kitOne K (.ref z14) (.ref z14)=some true)
  (y115_0:makesIn K z8=true)
  (y115_1:findIn K (.ref z8) "__init__"=some (some (.builtin "object.__init__")))
  (y115_2:keepIn K (.ref z8)=true)
  (y116:kitAny K (.ref z5) ([.ref z1,.ref z4,.ref z3,.ref z2]:List Value)=some false)
  (y117:kitOne K (.ref z5) (.type "ValueError")=some true)
  (y118:kitOne K (.ref z5) (.ref z5)=some true)
  {nmXNoText qXNoText:Str}{NXNoText:Addr}{bsXNoText:List Value}{snXNoText:List Str}{subXNoText:List Value}{abXNoText:Bool}{colXNoText:Option Bool}{ddXNoText:Option Addr}{kx0NoText kx1NoText kx2NoText kx3NoText kx5NoText:Option Value}
  (lxNoText:K.lookup z5=some ⟨.type "type",ddXNoText,.cls ⟨nmXNoText,bsXNoText,[.ref z5,.ref z0,.type "ValueError",.type "Exception",.type "BaseException",.type "object"],NXNoText,qXNoText,true,snXNoText,subXNoText,abXNoText,colXNoText,false⟩,#[kx0NoText,kx1NoText,kx2NoText,kx3NoText,some (.builtin "ValueError.__new__"),kx5NoText]⟩)
  (xbNoText:excIn K z0 vbm "ValueError.__new__"=true)
  (sxNoText:findIn K (.ref z5) "__setattr__"=some (some (.builtin "object.__setattr__")))
  (mkWords:makesIn K z6=true)
  (kcWords:keepIn K (.ref z6)=true)
  (mkKind:makesIn K z9=true)
  (kcKind:keepIn K (.ref z9)=true)
  (mkPlace:makesIn K z10=true)
  (kcPlace:keepIn K (.ref z10)=true)
  (mkLeast:makesIn K z11=true)
  (kcLeast:keepIn K (.ref z11)=true)
  (mkNot:makesIn K z12=true)
  (kcNot:keepIn K (.ref z12)=true)
  (mkBoth:makesIn K z13=true)
  (kcBoth:keepIn K (.ref z13)=true)
  (mkEither:makesIn K z14=true)
  (kcEither:keepIn K (.ref z14)=true)
  (mkOpened:makesIn K z15=true)
  (kcOpened:keepIn K (.ref z15)=true) :
  ∃ (a:Ad) (fd:FuncData),(∀ (s:Shared) (v:Value),BindsTo s fd ⟨[v],[]⟩ [("_law_script",v)])∧∀ base:Heap,K.In base→base.Ns mainGlobals mg→FnOk l.prog w K mg base CX0 17 fa fd ["_law_script"] (zT K a):=by
 have e:=hfa.symm.trans (mg_of X G a42)
 cases e
 have B:Bt K mg ⟨z0,z1,z2,z3,z4,z5,z6,z7,z8,z9,z10,z11,z12,z13,z14,z15,f27,t0,t1,t2,t3⟩:=⟨mg_none_of X G y0,mg_none_of X G y1,mg_none_of X G y2,mg_none_of X G y3,mg_none_of X G y4,mg_none_of X G y5,mg_none_of X G y6,mg_none_of X G y7,mg_none_of X G y8,mg_none_of X G y9,mg_none_of X G y10,mg_of X G y11,mg_of X G y12,mg_of X G y13,mg_of X G y14,mg_of X G y15,mg_of X G y16,mg_of X G y17,mg_of X G y18,mg_of X G y19,mg_of X G y20,mg_of X G y21,mg_of X G y22,mg_of X G y23,mg_of X G y24,mg_of X G y25,mg_of X G y26,mg_of X G y27,mg_of X G y28,mg_of X G y29,mg_of X G y30,mg_of X G y31,⟨y32_0,y32_1,y32_2,y32_3,y32_4,y32_5⟩,y33,y34,y35,y36,y37,y38,BD0 lxNoText sxNoText,⟨⟨y40_0,y40_1,y40_2,y40_3⟩,y40_4,y40_5,y40_6,y40_7⟩,⟨⟨y41_0,y41_1,y41_2,y41_3⟩,y41_4,y41_5,y41_6,y41_7⟩,y42,⟨⟨y43_0,y43_1,y43_2,y43_3⟩,y43_4,y43_5,y43_6,y43_7⟩,y44,⟨⟨y45_0,y45_1,y45_2,y45_3⟩,y45_4,y45_5,y45_6,y45_7⟩,y46,⟨⟨y47_0,y47_1,y47_2,y47_3⟩,y47_4,y47_5,y47_6,y47_7⟩,y48,⟨⟨y49_0,y49_1,y49_2,y49_3⟩,y49_4,y49_5,y49_6,y49_7⟩,y50,⟨⟨y51_0,y51_1,y51_2,y51_3⟩,y51_4,y51_5,y51_6,y51_7⟩,y52,⟨⟨y53_0,y53_1,y53_2,y53_3⟩,y53_4,y53_5,y53_6,y53_7⟩,y54,y55,⟨⟨y56_0,y56_1,y56_2,y56_3⟩,y56_4,y56_5,y56_6,y56_7⟩,y57,y58,y59,y60,y61,y62,y63,y64,y65,y66,y67,y68,y69,y70,y71,y72,y73,y74,y75,y76,y77,y78,y79,y80,y81,y82,y83,y84,y85,y86,y87,y88,y89,y90,y91,y92,y93,y94,y95,y96,y97,y98,y99,y100,y101,y102,y103,y104,y105,y106,y107,y108,y109,y110,y111,y112,y113,y114,⟨y115_0,y115_1,y115_2⟩,y116,y117,y118⟩
 have F0:=AN4 (st:=bC) l0 c0
 have b0_0:Binds K _ ["self","line"] [.int 0 dt0_0]:=AT2 (fd:=fnOf "__init__" "NoText.__init__" (aV bC) (aQ bC) (aE bC) (.ref T0) kV0 dc0 pm0 an0 cd0 ct0) 1 rfl fun s us X hl=>match us,hl with | [_],_=>by first | exact .of_eq rfl | exact binds_K X rfl d0 rfl rfl rfl
 have F1:=bG (st:=eU) l1 c1 k1
 have b1:=F1.binds (ps:=["thing"]) fun _ _ _ _ _ _ us hl=>match us,hl with | [_],_=>rfl
 have F2:=bG (st:=cI) l2 c2 k2
 have b2:=F2.binds (ps:=["thing","least"]) fun _ _ _ _ _ _ us hl=>match us,hl with | [_,_],_=>rfl
 have F3:=bG (st:=gB) l3 c3 k3
 have b3:=F3.binds (ps:=["thing"]) fun _ _ _ _ _ _ us hl=>match us,hl with | [_],_=>rfl
 have F4:=bG (st:=bP) l4 c4 k4
 have b4:=F4.binds (ps:=["thing"]) fun _ _ _ _ _ _ us hl=>match us,hl with | [_],_=>rfl
 have F5:=bG (st:=dJ) l5 c5 k5
 have b5:=F5.binds (ps:=["word"]) fun _ _ _ _ _ _ us hl=>match us,hl with | [_],_=>rfl
 have F6:=bG (st:=dY) l6 c6 k6
 have b6:=F6.binds (ps:=["word"]) fun _ _ _ _ _ _ us hl=>match us,hl with | [_],_=>rfl
 have F7:=bG (st:=bY) l7 c7 k7
 have b7:=F7.binds (ps:=["self","text"]) fun _ _ _ _ _ _ us hl=>match us,hl with | [_,_],_=>rfl
 have F8:=bG (st:=bZ) l8 c8 k8
 have b8:=F8.binds (ps:=["self"]) fun _ _ _ _ _ _ us hl=>match us,hl with | [_],_=>rfl
 have F9:=bG (st:=dL) l9 c9 k9
 have b9:=F9.binds (ps:=["self"]) fun _ _ _ _ _ _ us hl=>match us,hl with | [_],_=>rfl
 have F10:=bG (st:=dM) l10 c10 k10
 have b10:=F10.binds (ps:=["self"]) fun _ _ _ _ _ _ us hl=>match us,hl with | [_],_=>rfl
 have F11:=bG (st:=bQ) l11 c11 k11
 have b11:=F11.binds (ps:=["self"]) fun _ _ _ _ _ _ us hl=>match us,hl with | [_],_=>rfl
 have F12:=bG (st:=bL) l12 c12 k12
 have b12:=F12.binds (ps:=["self"]) fun _ _ _ _ _ _ us hl=>match us,hl with | [_],_=>rfl
 have F13:=bG (st:=bR) l13 c13 k13
 have b13:=F13.binds (ps:=["self"]) fun _ _ _ _ _ _ us hl=>match us,hl with | [_],_=>rfl
 have F14:=bG (st:=cJ) l14 c14 k14
 have b14:=F14.binds (ps:=["self","names"]) fun _ _ _ _ _ _ us hl=>match us,hl with | [_,_],_=>rfl
 have F15:=bG (st:=cB) l15 c15 k15
 have b15:=F15.binds (ps:=["self","names"]) fun _ _ _ _ _ _ us hl=>match us,hl with | [_,_],_=>rfl
 have F16:=bG (st:=cC) l16 c16 k16
 have b16:=F16.binds (ps:=["self","weight"]) fun _ _ _ _ _ _ us hl=>match us,hl with | [_,_],_=>rfl
 have F17:=bG (st:=cR) l17 c17 k17
 have b17:=F17.binds (ps:=["self","fit"]) fun _ _ _ _ _ _ us hl=>match us,hl with | [_,_],_=>rfl
 have F18:=bG (st:=cK) l18 c18 k18
 have b18:=F18.binds (ps:=["self","fits"]) fun _ _ _ _ _ _ us hl=>match us,hl with | [_,_],_=>rfl
 have F19:=bG (st:=bV) l19 c19 k19
 have b19:=F19.binds (ps:=["self","fits"]) fun _ _ _ _ _ _ us hl=>match us,hl with | [_,_],_=>rfl
 have F20:=bG (st:=cY) l20 c20 k20
 have b20:=F20.binds (ps:=["names"]) fun _ _ _ _ _ _ us hl=>match us,hl with | [_],_=>rfl
 have F21:=bG (st:=dZ) l21 c21 k21
 have b21:=F21.binds (ps:=["fit"]) fun _ _ _ _ _ _ us hl=>match us,hl with | [_],_=>rfl
 have F22:=bG (st:=dN) l22 c22 k22
 have b22:=F22.binds (ps:=["fits"]) fun _ _ _ _ _ _ us hl=>match us,hl with | [_],_=>rfl
 have F23:=bG (st:=eV) l23 c23 k23
 have b23:=F23.binds (ps:=["fit"]) fun _ _ _ _ _ _ us hl=>match us,hl with | [_],_=>rfl
 have F24:=bG (st:=eW) l24 c24 k24
 have b24:=F24.binds (ps:=["text"]) fun _ _ _ _ _ _ us hl=>match us,hl with | [_],_=>rfl
 have F25:=bG (st:=dO) l25 c25 k25
 have b25:=F25.binds (ps:=["text","part_from"]) fun _ _ _ _ _ _ us hl=>match us,hl with | [_,_],_=>rfl
 have F26:=bG (st:=bW) l26 c26 k26
 have b26:=F26.binds (ps:=["self","sign"]) fun _ _ _ _ _ _ us hl=>match us,hl with | [_,_],_=>rfl
 have F27:=bG (st:=eY) l27 c27 k27
 have b27:=F27.binds (ps:=["words"]) fun _ _ _ _ _ _ us hl=>match us,hl with | [_],_=>rfl
 have F28:=bG (st:=cD) l28 c28 k28
 have b28:=F28.binds (ps:=["words","opened"]) fun _ _ _ _ _ _ us hl=>match us,hl with | [_,_],_=>rfl
 have F29:=bG (st:=iK) l29 c29 k29
 have b29:=F29.binds (ps:=["fit","words","opened"]) fun _ _ _ _ _ _ us hl=>match us,hl with | [_,_,_],_=>rfl
 have F30:=bG (st:=cE) l30 c30 k30
 have b30:=F30.binds (ps:=["bracket","words"]) fun _ _ _ _ _ _ us hl=>match us,hl with | [_,_],_=>rfl
 have F31:=bG (st:=iL) l31 c31 k31
 have b31:=F31.binds (ps:=["opened"]) fun _ _ _ _ _ _ us hl=>match us,hl with | [_],_=>rfl
 have F32:=bG (st:=eA) l32 c32 k32
 have b32:=F32.binds (ps:=["_law_cell"]) fun _ _ _ _ _ _ us hl=>match us,hl with | [_],_=>rfl
 have F33:=bG (st:=eZ) l33 c33 k33
 have b33:=F33.binds (ps:=["_law_state","_law_base"]) fun _ _ _ _ _ _ us hl=>match us,hl with | [_,_],_=>rfl
 have F34:=bG (st:=fA) l34 c34 k34
 have b34:=F34.binds (ps:=["_law_state"]) fun _ _ _ _ _ _ us hl=>match us,hl with | [_],_=>rfl
 have F35:=bG (st:=fB) l35 c35 k35
 have b35:=F35.binds (ps:=["_law_state","_law_more"]) fun _ _ _ _ _ _ us hl=>match us,hl with | [_,_],_=>rfl
 have F36:=bG (st:=fC) l36 c36 k36
 have b36:=F36.binds (ps:=["_law_state","_law_deep","_law_more"]) fun _ _ _ _ _ _ us hl=>match us,hl with | [_,_,_],_=>rfl
 have F37:=bG (st:=fD) l37 c37 k37
 have b37:=F37.binds (ps:=["_law_tree_here"]) fun _ _ _ _ _ _ us hl=>match us,hl with | [_],_=>rfl
 have F38:=bG (st:=fE) l38 c38 k38
 have b38:=F38.binds (ps:=["_law_tree_here"]) fun _ _ _ _ _ _ us hl=>match us,hl with | [_],_=>rfl
 have F39:=bG (st:=fG) l39 c39 k39
 have b39:=F39.binds (ps:=["_law_fit","_law_tree_here"]) fun _ _ _ _ _ _ us hl=>match us,hl with | [_,_],_=>rfl
 have F40:=bG (st:=eB) l40 c40 k40
 have b40:=F40.binds (ps:=["_law_state"]) fun _ _ _ _ _ _ us hl=>match us,hl with | [_],_=>rfl
 have F41:=bG (st:=cZ) l41 c41 k41
 have b41:=F41.binds (ps:=["_law_text_here"]) fun _ _ _ _ _ _ us hl=>match us,hl with | [_],_=>rfl
 have F42:=bG (st:=pR) l42 c42 k42
 have b42:=F42.binds (ps:=["_law_script"]) fun _ _ _ _ _ _ us hl=>match us,hl with | [_],_=>rfl
 refine ⟨(⟨z0,z1,z2,z3,z4,z5,z6,z7,z8,z9,z10,z11,z12,z13,z14,z15,f27,t0,t1,t2,t3⟩:Ad),fnOf "law" "law" (aV pR) (aQ pR) (aE pR) .none kV42 dc42 pm42 an42 cd42 ct42,fun s v=>.of_eq rfl,fun base _ _=>?_⟩
 have G_NoText___init__:FnOk l.prog w K mg base (CXF l.prog w) 1 _ _ _ _:=FnOk.up (kB B  F0)
 have CI_NoText:CalI l.prog w K mg base "NoText" z5 "line" 1 (.int 0):=⟨z0,f0,_,_,_,G_NoText___init__,b0_0,⟨_,rfl⟩,⟨⟨_,_,_,_,_,_,_,_,_,_,_,_,_,_,_,lxNoText⟩,xbNoText,a0,i0⟩,B.NoText⟩
 have CIH_NoText:CalIH l.prog w K mg base "NoText" z5 "line" 1 (.int 0):=⟨z0,f0,_,_,_,wD (P:=l.prog) (w:=w) (base:=base) B F0,b0_0,⟨_,rfl⟩,⟨⟨_,_,_,_,_,_,_,_,_,_,_,_,_,_,_,lxNoText⟩,xbNoText,a0,i0⟩,B.NoText⟩
 have G_is_whole:FnOk l.prog w K mg base (CXF l.prog w) 1 _ _ _ _:=FnOk.up (tM B  F1)
 have C_is_whole:CalX l.prog w K mg base _ _ 1 _:=⟨_,_,G_is_whole,b1,k1,mg_of X G a1⟩
 have G_is_name:FnOk l.prog w K mg base (CXF l.prog w) 1 _ _ _ _:=FnOk.up (wC B  F3)
 have C_is_name:CalX l.prog w K mg base _ _ 1 _:=⟨_,_,G_is_name,b3,k3,mg_of X G a3⟩
 have G_is_figures:FnOk l.prog w K mg base (CXF l.prog w) 1 _ _ _ _:=FnOk.up (pS B  F5)
 have C_is_figures:CalX l.prog w K mg base _ _ 1 _:=⟨_,_,G_is_figures,b5,k5,mg_of X G a5⟩
 have G_Words_is_ended:FnOk l.prog w K mg base (CXF l.prog w) 1 _ _ _ _:=FnOk.up (kR B  F8)
 have G_Words_look:FnOk l.prog w K mg base (CXF l.prog w) 1 _ _ _ _:=FnOk.up (pT B  F9)
 have G_check_fit:FnOk l.prog w K mg base (CXF l.prog w) 1 _ _ _ _:=FnOk.up (rP B  F21)
 have C_check_fit:CalX l.prog w K mg base _ _ 1 _:=⟨_,_,G_check_fit,b21,k21,mg_of X G a21⟩
 have G_Opened___init__:FnOk l.prog w K mg base (CXF l.prog w) 1 _ _ _ _:=FnOk.up (kD B  F26)
 have CC_Opened:CalC l.prog w K mg base "Opened" z15 ["self","sign"] 1 (dW K _):=⟨_,_,G_Opened___init__,b26,⟨mkOpened,a26,i26,kcOpened⟩,B.Opened⟩
 have G_law_begin:FnOk l.prog w K mg base (CXF l.prog w) 1 _ _ _ _:=FnOk.up (rR B  F32)
 have C_law_begin:CalX l.prog w K mg base _ _ 1 _:=⟨_,_,G_law_begin,b32,k32,mg_of X G a32⟩
 have G_law_next:FnOk l.prog w K mg base (CXF l.prog w) 1 _ _ _ _:=FnOk.up (tR B  F33)
 have C_law_next:CalX l.prog w K mg base _ _ 1 _:=⟨_,_,G_law_next,b33,k33,mg_of X G a33⟩
 have G_is_whole_from:FnOk l.prog w K mg base (CXF l.prog w) 2 _ _ _ _:=FnOk.up (lL B C_is_whole F2)
 have C_is_whole_from:CalX l.prog w K mg base _ _ 2 _:=⟨_,_,G_is_whole_from,b2,k2,mg_of X G a2⟩
 have G_are_unlike_names:FnOk l.prog w K mg base (CXF l.prog w) 2 _ _ _ _:=FnOk.up (jG B C_is_name F4)
 have C_are_unlike_names:CalX l.prog w K mg base _ _ 2 _:=⟨_,_,G_are_unlike_names,b4,k4,mg_of X G a4⟩
 have G_is_number:FnOk l.prog w K mg base (CXF l.prog w) 2 _ _ _ _:=FnOk.up (rN B C_is_figures F6)
 have C_is_number:CalX l.prog w K mg base _ _ 2 _:=⟨_,_,G_is_number,b6,k6,mg_of X G a6⟩
 have CM_look:∀ C sp,tL K (⟨z0,z1,z2,z3,z4,z5,z6,z7,z8,z9,z10,z11,z12,z13,z14,z15,f27,t0,t1,t2,t3⟩:Ad) C sp→CalM l.prog w K mg base C "look" ["self"] 1 sp:=by
  rintro C sp ⟨rfl,rfl⟩
  exact ⟨⟨_,_,FnOk.lift G_Words_look (by decide),b9,⟨a9,i9,k9⟩,B.ck_Words.cl⟩⟩
 have G_Words_take:FnOk l.prog w K mg base (CXF l.prog w) 2 _ _ _ _:=FnOk.up (pU B CM_look F10)
 have G_Not___init__:FnOk l.prog w K mg base (CXF l.prog w) 2 _ _ _ _:=FnOk.up (mZ B C_check_fit F17)
 have CC_Not:CalC l.prog w K mg base "Not" z12 ["self","fit"] 2 (dU K _):=⟨_,_,G_Not___init__,b17,⟨mkNot,a17,i17,kcNot⟩,B.Not⟩
 have G_check_fits:FnOk l.prog w K mg base (CXF l.prog w) 2 _ _ _ _:=FnOk.up (pW B C_check_fit F22)
 have C_check_fits:CalX l.prog w K mg base _ _ 2 _:=⟨_,_,G_check_fits,b22,k22,mg_of X G a22⟩
 have G_law_name:FnOk l.prog w K mg base (CXF l.prog w) 2 _ _ _ _:=FnOk.up (tS B C_law_next F34)
 have C_law_name:CalX l.prog w K mg base _ _ 2 _:=⟨_,_,G_law_name,b34,k34,mg_of X G a34⟩
 have G_Words___init__:FnOk l.prog w K mg base (CXF l.prog w) 3 _ _ _ _:=kQ B CI_NoText F7
 have CC_Words:CalC l.prog w K mg base "Words" z6 ["self","text"] 3 (eC K _):=⟨_,_,G_Words___init__,b7,⟨mkWords,a7,i7,kcWords⟩,B.Words⟩
 have CM_is_ended:∀ C sp,mX K (⟨z0,z1,z2,z3,z4,z5,z6,z7,z8,z9,z10,z11,z12,z13,z14,z15,f27,t0,t1,t2,t3⟩:Ad) C sp→CalM l.prog w K mg base C "is_ended" ["self"] 1 sp:=by
  rintro C sp ⟨rfl,rfl⟩
  exact ⟨⟨_,_,FnOk.lift G_Words_is_ended (by decide),b8,⟨a8,i8,k8⟩,B.ck_Words.cl⟩⟩
 have G_Words_expect_end:FnOk l.prog w K mg base (CXF l.prog w) 3 _ _ _ _:=jE B CM_is_ended CI_NoText F11
 have CM_take:∀ C sp,mY K (⟨z0,z1,z2,z3,z4,z5,z6,z7,z8,z9,z10,z11,z12,z13,z14,z15,f27,t0,t1,t2,t3⟩:Ad) C sp→CalM l.prog w K mg base C "take" ["self"] 2 sp:=by
  rintro C sp ⟨rfl,rfl⟩
  exact ⟨⟨_,_,FnOk.lift G_Words_take (by decide),b10,⟨a10,i10,k10⟩,B.ck_Words.cl⟩⟩
 have G_Words_take_number:FnOk l.prog w K mg base (CXF l.prog w) 3 _ _ _ _:=iO B CM_take C_is_number CI_NoText F12
 have G_Words_take_names:FnOk l.prog w K mg base (CXF l.prog w) 3 _ _ _ _:=FnOk.up (jF B C_is_name CM_look CM_take F13)
 have G_Least___init__:FnOk l.prog w K mg base (CXF l.prog w) 3 _ _ _ _:=kT B C_is_whole_from F16
 have CC_Least:CalC l.prog w K mg base "Least" z11 ["self","weight"] 3 (dB K _):=⟨_,_,G_Least___init__,b16,⟨mkLeast,a16,i16,kcLeast⟩,B.Least⟩
 have G_Both___init__:FnOk l.prog w K mg base (CXF l.prog w) 3 _ _ _ _:=FnOk.up (lN B C_check_fits F18)
 have CC_Both:CalC l.prog w K mg base "Both" z13 ["self","fits"] 3 (dH K _):=⟨_,_,G_Both___init__,b18,⟨mkBoth,a18,i18,kcBoth⟩,B.Both⟩
 have G_Either___init__:FnOk l.prog w K mg base (CXF l.prog w) 3 _ _ _ _:=FnOk.up (kC B C_check_fits F19)
 have CC_Either:CalC l.prog w K mg base "Either" z14 ["self","fits"] 3 (cU K _):=⟨_,_,G_Either___init__,b19,⟨mkEither,a19,i19,kcEither⟩,B.Either⟩
 have G_check_names:FnOk l.prog w K mg base (CXF l.prog w) 3 _ _ _ _:=nL B C_are_unlike_names F20
 have C_check_names:CalX l.prog w K mg base _ _ 3 _:=⟨_,_,G_check_names,b20,k20,mg_of X G a20⟩
 have G_is_closed_here:FnOk l.prog w K mg base (CXF l.prog w) 3 _ _ _ _:=kU B CM_take CI_NoText F30
 have C_is_closed_here:CalX l.prog w K mg base _ _ 3 _:=⟨_,_,G_is_closed_here,b30,k30,mg_of X G a30⟩
 have G_law_leaf:FnOk l.prog w K mg base (CXF l.prog w) 3 _ _ _ _:=FnOk.up (tT B C_law_next C_law_name F35)
 have C_law_leaf:CalX l.prog w K mg base _ _ 3 _:=⟨_,_,G_law_leaf,b35,k35,mg_of X G a35⟩
 have G_Kind___init__:FnOk l.prog w K mg base (CXF l.prog w) 4 _ _ _ _:=lM B C_check_names F14
 have CC_Kind:CalC l.prog w K mg base "Kind" z9 ["self","names"] 4 (dG K _):=⟨_,_,G_Kind___init__,b14,⟨mkKind,a14,i14,kcKind⟩,B.Kind⟩
 have G_Place___init__:FnOk l.prog w K mg base (CXF l.prog w) 4 _ _ _ _:=kS B C_check_names F15
 have CC_Place:CalC l.prog w K mg base "Place" z10 ["self","names"] 4 (dA K _):=⟨_,_,G_Place___init__,b15,⟨mkPlace,a15,i15,kcPlace⟩,B.Place⟩
 have G_law_chain:FnOk l.prog w K mg base (CXF l.prog w) 4 _ _ _ _:=FnOk.up (rS B C_law_leaf C_law_next F40)
 have C_law_chain:CalX l.prog w K mg base _ _ 4 _:=⟨_,_,G_law_chain,b40,k40,mg_of X G a40⟩
 have G_fit_of:FnOk l.prog w K mg base (CXF l.prog w) 5 _ _ _ _:=zW B CC_Not CC_Both CC_Either CI_NoText F31
 have C_fit_of:CalX l.prog w K mg base _ _ 5 _:=⟨_,_,G_fit_of,b31,k31,mg_of X G a31⟩
 have CM_take_names:∀ C sp,kA K (⟨z0,z1,z2,z3,z4,z5,z6,z7,z8,z9,z10,z11,z12,z13,z14,z15,f27,t0,t1,t2,t3⟩:Ad) C sp→CalM l.prog w K mg base C "take_names" ["self"] 3 sp:=by
  rintro C sp ⟨rfl,rfl⟩
  exact ⟨⟨_,_,FnOk.lift G_Words_take_names (by decide),b13,⟨a13,i13,k13⟩,B.ck_Words.cl⟩⟩
 have CM_take_number:∀ C sp,iT K (⟨z0,z1,z2,z3,z4,z5,z6,z7,z8,z9,z10,z11,z12,z13,z14,z15,f27,t0,t1,t2,t3⟩:Ad) C sp→CalM l.prog w K mg base C "take_number" ["self"] 3 sp:=by
  rintro C sp ⟨rfl,rfl⟩
  exact ⟨⟨_,_,FnOk.lift G_Words_take_number (by decide),b12,⟨a12,i12,k12⟩,B.ck_Words.cl⟩⟩
 have G_plain_fit_from:FnOk l.prog w K mg base (CXF l.prog w) 6 _ _ _ _:=kW B CM_take CC_Kind CC_Place CC_Least CC_Opened CM_take_names CM_take_number CI_NoText F28
 have C_plain_fit_from:CalX l.prog w K mg base _ _ 6 _:=⟨_,_,G_plain_fit_from,b28,k28,mg_of X G a28⟩
 have G_closed:FnOk l.prog w K mg base (CXF l.prog w) 6 _ _ _ _:=zZ B C_fit_of C_is_closed_here F29
 have C_closed:CalX l.prog w K mg base _ _ 6 _:=⟨_,_,G_closed,b29,k29,mg_of X G a29⟩
 have G_fit_from:FnOk l.prog w K mg base (CXF l.prog w) 7 _ _ _ _:=tO B C_closed C_plain_fit_from F27
 have C_fit_from:CalX l.prog w K mg base _ _ 7 _:=⟨_,_,G_fit_from,b27,k27,mg_of X G a27⟩
 have CF_fit_from:CalF l.prog w K mg base f27 ["words"] 7 (jC K _):=⟨_,G_fit_from,b27,k27⟩
 have C_law_tree:CalX l.prog w K mg base "_law_tree" ["_law_state","_law_deep","_law_more"] 7 (eF K _ 4):=mL (spf:=eF K _) (n0:=3) rH b36 k36 (mg_of X G a36) (fun d n hn C=>FnOk.up (tU (P:=l.prog) (w:=w) (base:=base) hn B C_law_next C_law_leaf C F36)) 4 (by decide)
 have CM_expect_end:∀ C sp,jZ K (⟨z0,z1,z2,z3,z4,z5,z6,z7,z8,z9,z10,z11,z12,z13,z14,z15,f27,t0,t1,t2,t3⟩:Ad) C sp→CalM l.prog w K mg base C "expect_end" ["self"] 3 sp:=by
  rintro C sp ⟨rfl,rfl⟩
  exact ⟨⟨_,_,FnOk.lift G_Words_expect_end (by decide),b11,⟨a11,i11,k11⟩,B.ck_Words.cl⟩⟩
 have G_read_whole:FnOk l.prog w K mg base (qQ l.prog w false) 8 _ _ _ _:=pX B CC_Words CM_expect_end CIH_NoText CF_fit_from F25
 have C_read_whole:CalW l.prog w K mg base _ _ 8 _:=⟨_,_,G_read_whole,b25,k25,mg_of X G a25⟩
 have G_read_fit:FnOk l.prog w K mg base (qQ l.prog w false) 9 _ _ _ _:=tP B C_read_whole F24
 have C_read_fit:CalW l.prog w K mg base _ _ 9 _:=⟨_,_,G_read_fit,b24,k24,mg_of X G a24⟩
 have G_law_refused:FnOk l.prog w K mg base (CXF l.prog w) 10 _ _ _ _:=FnOk.up (nM B C_read_fit F41)
 have C_law_refused:CalX l.prog w K mg base _ _ 10 _:=⟨_,_,G_law_refused,b41,k41,mg_of X G a41⟩
 have C_show_fit:CalX l.prog w K mg base "show_fit" ["fit"] 11 (eE K _ 11):=mL (spf:=eE K _) (n0:=0) rM b23 k23 (mg_of X G a23) (fun d n hn C=>FnOk.up (tQ (P:=l.prog) (w:=w) (base:=base) hn B C F23)) 11 (by decide)
 have C_law_text:CalX l.prog w K mg base "_law_text" ["_law_tree_here"] 11 (eH K _ 11):=mL (spf:=eH K _) (n0:=0) rK b38 k38 (mg_of X G a38) (fun d n hn C=>FnOk.up (tX (P:=l.prog) (w:=w) (base:=base) hn B C F38)) 11 (by decide)
 have C_law_same:CalX l.prog w K mg base "_law_same" ["_law_fit","_law_tree_here"] 11 (eI K _ 11):=mL (spf:=eI K _) (n0:=0) rL b39 k39 (mg_of X G a39) (fun d n hn C=>FnOk.up (tY (P:=l.prog) (w:=w) (base:=base) hn B C F39)) 11 (by decide)
 have C_law_made:CalX l.prog w K mg base "_law_made" ["_law_tree_here"] 16 (eG K _ 11):=mL (spf:=eG K _) (n0:=5) rJ b37 k37 (mg_of X G a37) (fun d n hn C=>FnOk.up (tV (P:=l.prog) (w:=w) (base:=base) hn B CC_Either CC_Kind CC_Place CC_Least CC_Not CC_Both C F37)) 11 (by decide)
 exact AV5 (P:=l.prog) (w:=w) (base:=base) B C_law_begin C_law_tree C_law_text C_law_made C_read_fit C_law_next C_law_chain C_show_fit C_law_same C_law_refused F42
theorem BG8 {l:OpenLaw}{q:Program}{loose:List Str}{XP:(Str→Option Value)→Heap→Prop}{YP:World→Heap→Prop}{d:DefRec}{K:Params→Frag}(hn:l.most=some 63) (hdf:d.params.defaults=[])
  (hY:∀ (w:World) (h:Heap),YP w h→(K w.params).In h)
  (F:∀ (w:World) (mg:Str→Option Value) (fa:Addr) (h:Heap),(K w.params).In h→h.Ns mainGlobals mg→mg d.name=some (.ref fa) →
   ∃ fd:FuncData,(∀ (s:Shared) (u:Value),BindsTo s fd ⟨[u],[]⟩ [("_law_script",u)])∧∀ base:Heap,(K w.params).In base→base.Ns mainGlobals mg→FnOk l.prog w (K w.params) mg base CX0 17 fa fd ["_law_script"] (spL (K w.params))) :
  WalkO q loose XP YP l.row.toRowW d [] (fun f vs=>PySem.call f vs) :=
 L2.AY3 (n:=63) (k:=17) (x:="_law_script") (CX:=fun _=>CX0) (sp:=fun w=>spL (K w.params)) hn (by decide) hdf ⟨rfl,by decide,by decide⟩ hY F (fun _ _ a ns hl _ hS=>⟨a,ns,rfl,hS,hl,fun _=>rfl⟩) fun _ _ _ _ _ z=>z
theorem BD1 {P:Program}{w:World}{K:Frag}{mg:Str→Option Value}{fa:Addr}(h:∃ (a:Ad) (fd:FuncData),(∀ (s:Shared) (v:Value),BindsTo s fd ⟨[v],[]⟩ [("_law_script",v)])∧∀ base:Heap,K.In base→base.Ns mainGlobals mg→FnOk P w K mg base CX0 17 fa fd ["_law_script"] (zT K a)) :
  ∃ fd:FuncData,(∀ (s:Shared) (v:Value),BindsTo s fd ⟨[v],[]⟩ [("_law_script",v)])∧∀ base:Heap,K.In base→base.Ns mainGlobals mg→FnOk P w K mg base CX0 17 fa fd ["_law_script"] (spL K):=by
 obtain ⟨a,fd,b,q⟩:=h
 exact ⟨fd,b,fun base x y=>q base x y⟩
end Bw
open PySem PySem.W PyProof.Rows
set_option maxRecDepth 100000 in
set_option maxHeartbeats 0 in
theorem PySem.Challenge.cw_bellsaway_k16_fits_as_texts_holds : PySem.Challenge.rw_bellsaway_k16_fits_as_texts.Holds := by
 w_on; o_law; k_head; (case hw=>w_witness2)
 k_fill
 refine Bw.BG8 (l:=PySem.Challenge.rw_bellsaway_k16_fits_as_texts) rfl rfl (fun w h Y=>PySem.W.kIn_of Y) ?F
 case F =>
  intro w mg fa h KX G hmg
  refine Bw.BD1 ?Z
  refine' Bw.BF1 KX G hmg ?a0 ?i0 ?l0 ?d0 ?c0 ?a1 ?l1 ?c1 ?k1 ?a2 ?l2 ?c2 ?k2 ?a3 ?l3 ?c3 ?k3 ?a4 ?l4 ?c4 ?k4 ?a5 ?l5 ?c5 ?k5 ?a6 ?l6 ?c6 ?k6 ?a7 ?i7 ?l7 ?c7 ?k7 ?a8 ?i8 ?l8 ?c8 ?k8 ?a9 ?i9 ?l9 ?c9 ?k9 ?a10 ?i10 ?l10 ?c10 ?k10 ?a11 ?i11 ?l11 ?c11 ?k11 ?a12 ?i12 ?l12 ?c12 ?k12 ?a13 ?i13 ?l13 ?c13 ?k13 ?a14 ?i14 ?l14 ?c14 ?k14 ?a15 ?i15 ?l15 ?c15 ?k15 ?a16 ?i16 ?l16 ?c16 ?k16 ?a17 ?i17 ?l17 ?c17 ?k17 ?a18 ?i18 ?l18 ?c18 ?k18 ?a19 ?i19 ?l19 ?c19 ?k19 ?a20 ?l20 ?c20 ?k20 ?a21 ?l21 ?c21 ?k21 ?a22 ?l22 ?c22 ?k22 ?a23 ?l23 ?c23 ?k23 ?a24 ?l24 ?c24 ?k24 ?a25 ?l25 ?c25 ?k25 ?a26 ?i26 ?l26 ?c26 ?k26 ?a27 ?l27 ?c27 ?k27 ?a28 ?l28 ?c28 ?k28 ?a29 ?l29 ?c29 ?k29 ?a30 ?l30 ?c30 ?k30 ?a31 ?l31 ?c31 ?k31 ?a32 ?l32 ?c32 ?k32 ?a33 ?l33 ?c33 ?k33 ?a34 ?l34 ?c34 ?k34 ?a35 ?l35 ?c35 ?k35 ?a36 ?l36 ?c36 ?k36 ?a37 ?l37 ?c37 ?k37 ?a38 ?l38 ?c38 ?k38 ?a39 ?l39 ?c39 ?k39 ?a40 ?l40 ?c40 ?k40 ?a41 ?l41 ?c41 ?k41 ?a42 ?l42 ?c42 ?k42 ?y0 ?y1 ?y2 ?y3 ?y4 ?y5 ?y6 ?y7 ?y8 ?y9 ?y10 ?y11 ?y12 ?y13 ?y14 ?y15 ?y16 ?y17 ?y18 ?y19 ?y20 ?y21 ?y22 ?y23 ?y24 ?y25 ?y26 ?y27 ?y28 ?y29 ?y30 ?y31 ?y32_0 ?y32_1 ?y32_2 ?y32_3 ?y32_4 ?y32_5 ?y33 ?y34 ?y35 ?y36 ?y37 ?y38 ?y40_0 ?y40_1 ?y40_2 ?y40_3 ?y40_4 ?y40_5 ?y40_6 ?y40_7 ?y41_0 ?y41_1 ?y41_2 ?y41_3 ?y41_4 ?y41_5 ?y41_6 ?y41_7 ?y42 ?y43_0 ?y43_1 ?y43_2 ?y43_3 ?y43_4 ?y43_5 ?y43_6 ?y43_7 ?y44 ?y45_0 ?y45_1 ?y45_2 ?y45_3 ?y45_4 ?y45_5 ?y45_6 ?y45_7 ?y46 ?y47_0 ?y47_1 ?y47_2 ?y47_3 ?y47_4 ?y47_5 ?y47_6 ?y47_7 ?y48 ?y49_0 ?y49_1 ?y49_2 ?y49_3 ?y49_4 ?y49_5 ?y49_6 ?y49_7 ?y50 ?y51_0 ?y51_1 ?y51_2 ?y51_3 ?y51_4 ?y51_5 ?y51_6 ?y51_7 ?y52 ?y53_0 ?y53_1 ?y53_2 ?y53_3 ?y53_4 ?y53_5 ?y53_6 ?y53_7 ?y54 ?y55 ?y56_0 ?y56_1 ?y56_2 ?y56_3 ?y56_4 ?y56_5 ?y56_6 ?y56_7 ?y57 ?y58 ?y59 ?y60 ?y61 ?y62 ?y63 ?y64 ?y65 ?y66 ?y67 ?y68 ?y69 ?y70 ?y71 ?y72 ?y73 ?y74 ?y75 ?y76 ?y77 ?y78 ?y79 ?y80 ?y81 ?y82 ?y83 ?y84 ?y85 ?y86 ?y87 ?y88 ?y89 ?y90 ?y91 ?y92 ?y93 ?y94 ?y95 ?y96 ?y97 ?y98 ?y99 ?y100 ?y101 ?y102 ?y103 ?y104 ?y105 ?y106 ?y107 ?y108 ?y109 ?y110 ?y111 ?y112 ?y113 ?y114 ?y115_0 ?y115_1 ?y115_2 ?y116 ?y117 ?y118 ?lxNoText ?xbNoText ?sxNoText ?mkWords ?kcWords ?mkKind ?kcKind ?mkPlace ?kcPlace ?mkLeast ?kcLeast ?mkNot ?kcNot ?mkBoth ?kcBoth ?mkEither ?kcEither ?mkOpened ?kcOpened
  (case y0=>k_is)
  (case y1=>k_is)
  (case y2=>k_is)
  (case y3=>k_is)
  (case y4=>k_is)
  (case y5=>k_is)
  (case y6=>k_is)
  (case y7=>k_is)
  (case y8=>k_is)
  (case y9=>k_is)
  (case y10=>k_is)
  (case y11=>k_is)
  (case y12=>k_is)
  (case y13=>k_is)
  (case y14=>k_is)
  (case y15=>k_is)
  (case y16=>k_is)
  (case y17=>k_is)
  (case y18=>k_is)
  (case y19=>k_is)
  (case y20=>k_is)
  (case y21=>k_is)
  (case y22=>k_is)
  (case y23=>k_is)
  (case y24=>k_is)
  (case y25=>k_is)
  (case y26=>k_is)
  (case y27=>k_is)
  (case y28=>k_is)
  (case y29=>k_is)
  (case y30=>k_is)
  (case y31=>k_is)
  (case a0=>k_is)
  (case i0=>k_is)
  (case l0=>k_is)
  (case d0=>k_is)
  (case c0=>k_is)
  (case a1=>k_is)
  (case l1=>k_is)
  (case c1=>k_is)
  (case k1=>k_is)
  (case a2=>k_is)
  (case l2=>k_is)
  (case c2=>k_is)
  (case k2=>k_is)
  (case a3=>k_is)
  (case l3=>k_is)
  (case c3=>k_is)
  (case k3=>k_is)
  (case a4=>k_is)
  (case l4=>k_is)
  (case c4=>k_is)
  (case k4=>k_is)
  (case a5=>k_is)
  (case l5=>k_is)
  (case c5=>k_is)
  (case k5=>k_is)
  (case a6=>k_is)
  (case l6=>k_is)
  (case c6=>k_is)
  (case k6=>k_is)
  (case a7=>k_is)
  (case i7=>k_is)
  (case l7=>k_is)
  (case c7=>k_is)
  (case k7=>k_is)
  (case a8=>k_is)
  (case i8=>k_is)
  (case l8=>k_is)
  (case c8=>k_is)
  (case k8=>k_is)
  (case a9=>k_is)
  (case i9=>k_is)
  (case l9=>k_is)
  (case c9=>k_is)
  (case k9=>k_is)
  (case a10=>k_is)
  (case i10=>k_is)
  (case l10=>k_is)
  (case c10=>k_is)
  (case k10=>k_is)
  (case a11=>k_is)
  (case i11=>k_is)
  (case l11=>k_is)
  (case c11=>k_is)
  (case k11=>k_is)
  (case a12=>k_is)
  (case i12=>k_is)
  (case l12=>k_is)
  (case c12=>k_is)
  (case k12=>k_is)
  (case a13=>k_is)
  (case i13=>k_is)
  (case l13=>k_is)
  (case c13=>k_is)
  (case k13=>k_is)
  (case a14=>k_is)
  (case i14=>k_is)
  (case l14=>k_is)
  (case c14=>k_is)
  (case k14=>k_is)
  (case a15=>k_is)
  (case i15=>k_is)
  (case l15=>k_is)
  (case c15=>k_is)
  (case k15=>k_is)
  (case a16=>k_is)
  (case i16=>k_is)
  (case l16=>k_is)
  (case c16=>k_is)
  (case k16=>k_is)
  (case a17=>k_is)
  (case i17=>k_is)
  (case l17=>k_is)
  (case c17=>k_is)
  (case k17=>k_is)
  (case a18=>k_is)
  (case i18=>k_is)
  (case l18=>k_is)
  (case c18=>k_is)
  (case k18=>k_is)
  (case a19=>k_is)
  (case i19=>k_is)
  (case l19=>k_is)
  (case c19=>k_is)
  (case k19=>k_is)
  (case a20=>k_is)
  (case l20=>k_is)
  (case c20=>k_is)
  (case k20=>k_is)
  (case a21=>k_is)
  (case l21=>k_is)
  (case c21=>k_is)
  (case k21=>k_is)
  (case a22=>k_is)
  (case l22=>k_is)
  (case c22=>k_is)
  (case k22=>k_is)
  (case a23=>k_is)
  (case l23=>k_is)
  (case c23=>k_is)
  (case k23=>k_is)
  (case a24=>k_is)
  (case l24=>k_is)
  (case c24=>k_is)
  (case k24=>k_is)
  (case a25=>k_is)
  (case l25=>k_is)
  (case c25=>k_is)
  (case k25=>k_is)
  (case a26=>k_is)
  (case i26=>k_is)
  (case l26=>k_is)
  (case c26=>k_is)
  (case k26=>k_is)
  (case a27=>k_is)
  (case l27=>k_is)
  (case c27=>k_is)
  (case k27=>k_is)
  (case a28=>k_is)
  (case l28=>k_is)
  (case c28=>k_is)
  (case k28=>k_is)
  (case a29=>k_is)
  (case l29=>k_is)
  (case c29=>k_is)
  (case k29=>k_is)
  (case a30=>k_is)
  (case l30=>k_is)
  (case c30=>k_is)
  (case k30=>k_is)
  (case a31=>k_is)
  (case l31=>k_is)
  (case c31=>k_is)
  (case k31=>k_is)
  (case a32=>k_is)
  (case l32=>k_is)
  (case c32=>k_is)
  (case k32=>k_is)
  (case a33=>k_is)
  (case l33=>k_is)
  (case c33=>k_is)
  (case k33=>k_is)
  (case a34=>k_is)
  (case l34=>k_is)
  (case c34=>k_is)
  (case k34=>k_is)
  (case a35=>k_is)
  (case l35=>k_is)
  (case c35=>k_is)
  (case k35=>k_is)
  (case a36=>k_is)
  (case l36=>k_is)
  (case c36=>k_is)
  (case k36=>k_is)
  (case a37=>k_is)
  (case l37=>k_is)
  (case c37=>k_is)
  (case k37=>k_is)
  (case a38=>k_is)
  (case l38=>k_is)
  (case c38=>k_is)
  (case k38=>k_is)
  (case a39=>k_is)
  (case l39=>k_is)
  (case c39=>k_is)
  (case k39=>k_is)
  (case a40=>k_is)
  (case l40=>k_is)
  (case c40=>k_is)
  (case k40=>k_is)
  (case a41=>k_is)
  (case l41=>k_is)
  (case c41=>k_is)
  (case k41=>k_is)
  (case a42=>k_is)
  (case l42=>k_is)
  (case c42=>k_is)
  (case k42=>k_is)
  (case y32_0=>k_is)
  (case y32_1=>k_is)
  (case y32_2=>k_is)
  (case y32_3=>k_is)
  (case y32_4=>k_is)
  (case y32_5=>k_is)
  (case y33=>k_exc)
  (case y34=>kts_exm)
  (case y35=>kts_exm)
  (case y36=>k_is)
  (case y37=>k_is)
  (case y38=>k_is)
  (case y40_0=>k_is)
  (case y40_1=>k_is)
  (case y40_2=>k_is)
  (case y40_3=>k_is)
  (case y40_4=>k_is)
  (case y40_5=>k_is)
  (case y40_6=>k_is)
  (case y40_7=>k_is)
  (case y41_0=>k_is)
  (case y41_1=>k_is)
  (case y41_2=>k_is)
  (case y41_3=>k_is)
  (case y41_4=>k_is)
  (case y41_5=>k_is)
  (case y41_6=>k_is)
  (case y41_7=>k_is)
  (case y42=>k_is)
  (case y43_0=>k_is)
  (case y43_1=>k_is)
  (case y43_2=>k_is)
  (case y43_3=>k_is)
  (case y43_4=>k_is)
  (case y43_5=>k_is)
  (case y43_6=>k_is)
  (case y43_7=>k_is)
  (case y44=>k_is)
  (case y45_0=>k_is)
  (case y45_1=>k_is)
  (case y45_2=>k_is)
  (case y45_3=>k_is)
  (case y45_4=>k_is)
  (case y45_5=>k_is)
  (case y45_6=>k_is)
  (case y45_7=>k_is)
  (case y46=>k_is)
  (case y47_0=>k_is)
  (case y47_1=>k_is)
  (case y47_2=>k_is)
  (case y47_3=>k_is)
  (case y47_4=>k_is)
  (case y47_5=>k_is)
  (case y47_6=>k_is)
  (case y47_7=>k_is)
  (case y48=>k_is)
  (case y49_0=>k_is)
  (case y49_1=>k_is)
  (case y49_2=>k_is)
  (case y49_3=>k_is)
  (case y49_4=>k_is)
  (case y49_5=>k_is)
  (case y49_6=>k_is)
  (case y49_7=>k_is)
  (case y50=>k_is)
  (case y51_0=>k_is)
  (case y51_1=>k_is)
  (case y51_2=>k_is)
  (case y51_3=>k_is)
  (case y51_4=>k_is)
  (case y51_5=>k_is)
  (case y51_6=>k_is)
  (case y51_7=>k_is)
  (case y52=>k_is)
  (case y53_0=>k_is)
  (case y53_1=>k_is)
  (case y53_2=>k_is)
  (case y53_3=>k_is)
  (case y53_4=>k_is)
  (case y53_5=>k_is)
  (case y53_6=>k_is)
  (case y53_7=>k_is)
  (case y54=>k_is)
  (case y55=>k_is)
  (case y56_0=>k_is)
  (case y56_1=>k_is)
  (case y56_2=>k_is)
  (case y56_3=>k_is)
  (case y56_4=>k_is)
  (case y56_5=>k_is)
  (case y56_6=>k_is)
  (case y56_7=>k_is)
  (case y57=>k_is)
  (case y58=>k_is)
  (case y59=>kit_is)
  (case y60=>kit_is)
  (case y61=>kit_is)
  (case y62=>kit_is)
  (case y63=>kit_is)
  (case y64=>kit_is)
  (case y65=>kit_is)
  (case y66=>kit_is)
  (case y67=>kit_is)
  (case y68=>kit_is)
  (case y69=>kit_is)
  (case y70=>kit_is)
  (case y71=>kit_is)
  (case y72=>kit_is)
  (case y73=>kit_is)
  (case y74=>kit_is)
  (case y75=>kit_is)
  (case y76=>kit_is)
  (case y77=>kit_is)
  (case y78=>kit_is)
  (case y79=>kit_is)
  (case y80=>kit_is)
  (case y81=>kit_is)
  (case y82=>kit_is)
  (case y83=>kit_is)
  (case y84=>kit_is)
  (case y85=>kit_is)
  (case y86=>kit_is)
  (case y87=>kit_is)
  (case y88=>kit_is)
  (case y89=>kit_is)
  (case y90=>kit_is)
  (case y91=>kit_is)
  (case y92=>kit_is)
  (case y93=>kit_is)
  (case y94=>kit_is)
  (case y95=>kit_is)
  (case y96=>kit_is)
  (case y97=>kit_is)
  (case y98=>kit_is)
  (case y99=>kit_is)
  (case y100=>kit_is)
  (case y101=>kit_is)
  (case y102=>kit_is)
  (case y103=>kit_is)
  (case y104=>kit_is)
  (case y105=>kit_is)
  (case y106=>kit_is)
  (case y107=>kit_is)
  (case y108=>kit_is)
  (case y109=>kit_is)
  (case y110=>kit_is)
  (case y111=>kit_is)
  (case y112=>kit_is)
  (case y113=>kit_is)
  (case y114=>kit_is)
  (case y115_0=>k_is)
  (case y115_1=>k_is)
  (case y115_2=>k_is)
  (case y116=>kit_is)
  (case y117=>kit_is)
  (case y118=>kit_is)
  (case lxNoText=>k_is)
  (case xbNoText=>k_exc)
  (case sxNoText=>k_is)
  (case mkWords=>k_is)
  (case kcWords=>k_is)
  (case mkKind=>k_is)
  (case kcKind=>k_is)
  (case mkPlace=>k_is)
  (case kcPlace=>k_is)
  (case mkLeast=>k_is)
  (case kcLeast=>k_is)
  (case mkNot=>k_is)
  (case kcNot=>k_is)
  (case mkBoth=>k_is)
  (case kcBoth=>k_is)
  (case mkEither=>k_is)
  (case kcEither=>k_is)
  (case mkOpened=>k_is)
  (case kcOpened=>k_is)
