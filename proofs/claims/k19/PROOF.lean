import PyProof.Rows.All
import Wide.All
import OpenK.AllK
import Wide.FinOn
import Lean
import PyProof.EqAt
import PyProof.EqKinds
import PyProof.TupleCall
import PySem.Challenge.RW_bellsaway_k19_texts_of_fits_spoilt
set_option Elab.async false
set_option linter.all false
set_option maxRecDepth 100000
namespace L2
open PySem PySem.Spec PyProof.Rows PySem.W
abbrev Key:=Sum Int Str
def BD9:Key->Value->Bool
 | .inl k,v=>Value.isInt k v
 | .inr x,v=>Value.isStrOf x v
def BS5 (w:World):Key->Int
 | .inl k=>hashInt k
 | .inr x=>hashStr w x
theorem cQ:∀ {k:Key}{v:Value},BD9 k v=true->(∃ i t,k=Sum.inl i/\v=Value.int i t)\/(∃ x t,k=Sum.inr x/\v=Value.str x t)
 | .inl i,v,h=>by
  obtain ⟨t,e⟩:=Value.isInt_shape (k:=i) (v:=v) h
  exact .inl ⟨i,t,rfl,e⟩
 | .inr x,v,h=>by
  obtain ⟨t,e⟩:=Value.isStrOf_shape (x:=x) (v:=v) h
  exact .inr ⟨x,t,rfl,e⟩
theorem BE0 (a b:Int):decide ((Sum.inl a:Key)=Sum.inl b)=(a == b):=by
 by_cases e:a=b
 ·subst e; simp
 ·have h:¬ (Sum.inl a:Key)=Sum.inl b:=fun q=>e (Sum.inl.inj q)
  rw [decide_eq_false h]
  exact (beq_eq_false_iff_ne.mpr e).symm
theorem BE1 (a b:Str):decide ((Sum.inr a:Key)=Sum.inr b)=decide (a=b):=by
 by_cases e:a=b
 ·subst e; simp
 ·have h:¬ (Sum.inr a:Key)=Sum.inr b:=fun q=>e (Sum.inr.inj q)
  rw [decide_eq_false h,decide_eq_false e]
theorem BE2 (a:Int)(b:Str):decide ((Sum.inl a:Key)=Sum.inr b)=false:=decide_eq_false (fun q=>nomatch q)
theorem BE3 (a:Str)(b:Int):decide ((Sum.inr a:Key)=Sum.inl b)=false:=decide_eq_false (fun q=>nomatch q)
def AD7 (prog:Program)(w:World):PySem.KeyKind prog w Key where
 is:=BD9
 hash:=BS5 w
 inj:=fun v a b ha hb=>by
  rcases cQ ha with ⟨i,t,rfl,rfl⟩ | ⟨x,t,rfl,rfl⟩
  ·rcases cQ hb with ⟨j,u,rfl,e⟩ | ⟨y,u,rfl,e⟩
   ·injection e with e1 _; rw [e1]
   ·exact nomatch e
  ·rcases cQ hb with ⟨j,u,rfl,e⟩ | ⟨y,u,rfl,e⟩
   ·exact nomatch e
   ·injection e with e1 _; rw [e1]
 byValue:=fun k v h=>by
  rcases cQ h with ⟨i,t,rfl,rfl⟩ | ⟨x,t,rfl,rfl⟩ <;> rfl
 pyHash:=fun hv h=>by
  rcases cQ hv with ⟨i,t,rfl,rfl⟩ | ⟨x,t,rfl,rfl⟩
  ·exact wpAny_pyHash_int h
  ·exact wpAny_pyHash_str h
 eqBool:=fun hu hv h=>by
  rcases cQ hu with ⟨i,t,rfl,rfl⟩ | ⟨x,t,rfl,rfl⟩
  ·rcases cQ hv with ⟨j,u,rfl,rfl⟩ | ⟨y,u,rfl,rfl⟩
   ·rw [BE0] at h; exact wpAny_eqBool_int h
   ·rw [BE2] at h; exact SeqAt.EqAt.int_str i t y u _ _ _ _ h
  ·rcases cQ hv with ⟨j,u,rfl,rfl⟩ | ⟨y,u,rfl,rfl⟩
   ·rw [BE3] at h; exact SeqAt.EqAt.str_int x t j u _ _ _ _ h
   ·rw [BE1] at h; exact wpAny_eqBool_str h
 «strs»:=fun k x t v h=>by
  rcases cQ h with ⟨i,u,rfl,e⟩ | ⟨y,u,rfl,e⟩
  ·exact nomatch e
  ·injection e with e1 _
   subst e1
   cases v <;> rfl
inductive V where
 | non | bl (b:Bool) | int (i:Int) | str (x:Str) | byt (b:Array UInt8) | flt (b:UInt64) | ref (a:Addr) | ty (n:String)
 deriving DecidableEq
def RelV:V->Value->Prop
 | .non,u=>u=Value.none
 | .bl b,u=>u=Value.bool b
 | .int i,u=>∃ t,u=Value.int i t
 | .str x,u=>∃ t,u=Value.str x t
 | .byt b,u=>∃ t,u=Value.bytes b t
 | .flt b,u=>∃ t,u=Value.float b t
 | .ref a,u=>u=Value.ref a
 | .ty n,u=>u=Value.type n
abbrev Vals:List V->List Value->Prop:=Paired RelV
theorem Vals.length {xs:List V}{us:List Value}(r:Vals xs us):xs.length=us.length:=Paired.length r
theorem Vals.get:∀ {xs:List V}{us:List Value}{i:Nat}{x:V},Vals xs us->xs[i]?=some x->∃ u,us[i]?=some u/\RelV x u
 | _,_,_,_,.nil,e=>by simp at e
 | _,_,0,_,.cons r _,e=>by simp at e; subst e; exact ⟨_,rfl,r⟩
 | _,_,i+1,x,.cons _ t,e=>by
  obtain ⟨u,h1,h2⟩:=Vals.get (i:=i) (x:=x) t (by simpa using e)
  exact ⟨u,by simpa using h1,h2⟩
theorem Vals.set {x:V}{u:Value}(r:RelV x u):∀ {xs:List V}{us:List Value}(i:Nat),Vals xs us->Vals (xs.set i x) (us.set i u)
 | _,_,_,.nil=>.nil
 | _,_,0,.cons _ t=>.cons r t
 | _,_,i+1,.cons q t=>.cons q (Vals.set r i t)
theorem Vals.append:∀ {xs ys:List V}{us ws:List Value},Vals xs us->Vals ys ws->Vals (xs++ys) (us++ws)
 | _,_,_,_,.nil,s=>s
 | _,_,_,_,.cons r t,s=>.cons r (Vals.append t s)
theorem Vals.take:∀ {xs:List V}{us:List Value}(n:Nat),Vals xs us->Vals (xs.take n) (us.take n)
 | _,_,0,_=>.nil
 | _,_,_+1,.nil=>.nil
 | _,_,n+1,.cons r t=>.cons r (Vals.take n t)
theorem Vals.drop:∀ {xs:List V}{us:List Value}(n:Nat),Vals xs us->Vals (xs.drop n) (us.drop n)
 | _,_,0,r=>r
 | _,_,_+1,.nil=>.nil
 | _,_,n+1,.cons _ t=>Vals.drop n t
def RelO:Option V->Option Value->Prop
 | some v,some u=>RelV v u
 | none,none=>True
 | _,_=>False
def KV {κ:Type}:List (κ × V)->List (κ × Value)->Prop:=Paired fun (p:κ × V) (q:κ × Value)=>p.1=q.1/\RelV p.2 q.2
def kV:Key->V
 | .inl i=>.int i
 | .inr x=>.str x
inductive HO where
  | lst (xs:List V)
  | tup (xs:List V)
  | dK (kvs:List (Key × V)) | dT (kvs:List (List Key × V))
  | set (S:Int->Bool) (n:Nat)
  | ins (C dx:Addr) (fs:List (Str × V))
  | own (x:Addr)
  | xd (fs:List (Str × V))
  | met (f x:Addr)
  | rng (lo hi:Int)
  | frz (o:Obj) (u:HO)
  | tbl (ps:Array Value)
  | ext (φ:Heap->Prop)
abbrev Hp:=Addr->Option HO
def upd (H:Hp)(a:Addr)(o:HO):Hp:=fun b=>if b=a then some o else H b
theorem aA {H:Hp}{a:Addr}{o:HO}:upd H a o a=some o:=by unfold upd; rw [if_pos rfl]
theorem aN {H:Hp}{a b:Addr}{o:HO}(h:b≠a):upd H a o b=H b:=by unfold upd; rw [if_neg h]
theorem pF {H:Hp}{a b:Addr}{o u:HO}(h:H a=some o)(h':H b=some u)(d:o≠u):a≠b:=by
 intro e; subst e; rw [h] at h'; exact d (Option.some.inj h')
theorem aP {H:Hp}{a b:Addr}{o:HO}(h:H a=some o)(h':H b=none):a≠b:=by
 intro e; subst e; rw [h] at h'; cases h'
section
variable (P:Program) (w:World)
def ObjOk (H:Hp)(h:Heap)(a:Addr):HO->Prop
 | .lst xs=>xs.length<=sizeLine/\∃ (its:List Value) (n:Nat),Vals xs its/\h.get? a=some { cls:=.type "list",data:=.seq its.toArray n }
 | .tup xs=>xs.length<=sizeLine/\∃ its:List Value,Vals xs its/\IsTup h a its.toArray
 | .dK kvs=>kvs.length<=sizeLine/\(a == sysModules)=false/\∃ vs,KV kvs vs/\h.DictOf (AD7 P w) a vs
 | .dT kvs=>kvs.length<=sizeLine/\(a == sysModules)=false/\∃ xs:List (List Key × Addr × Value),
   Paired (fun (p:List Key × V) (q:List Key × Addr × Value)=>p.1=q.1/\H q.2.1=some (.tup (p.1.map kV))/\RelV p.2 q.2.2) kvs xs /\
   ∃ o es ep,h.get? a=some o/\o.ExactDict/\o.data=.dict es ep/\es.toList=xs.map (entryOfKey (tupleKind (AD7 P w)))/\(xs.map (·.1)).Nodup
 | .set S n=>h.SetOf (intKind P w) a S n
 | .ins C dx fs=>H dx=some (.own a)/\fs.length<=1000/\dx≠a/\h.get? a=some (instObj C dx) /\
   ∃ mA,h.Ns1 dx mA/\(∀ f,RelO (fs.lookup f) (mA f))/\PySem.Within mA (fs.map (·.1))
 | .own _=>∃ o,h.get? a=some o
 | .xd fs=>∃ mA,h.Ns1 a mA/\∀ f,RelO (fs.lookup f) (mA f)
 | .rng lo hi=>∃ t u v,h.get? a=some { cls:=.type "range",data:=.fields #[.int lo t,.int hi u,.int 1 v] }
 | .frz o u=>h.get? a=some o/\ObjOk H h a u
 | .tbl ps=>h.get? a=some { cls:=.none,data:=.fields ps }
 | .met f x=>h.get? a=some (methodObj (.ref f) (.ref x))
 | .ext φ=>φ h/\(∃ o,h.get? a=some o)/\∀ h1 h2:Heap,φ h1->(∀ o,h1.get? a=some o->h2.get? a=some o)->φ h2
def HOk (H:Hp)(h:Heap):Prop:=∀ a o,H a=some o->ObjOk P w H h a o
end
section
variable {P:Program}{w:World}{H H':Hp}{h h':Heap}{a:Addr}{o:HO}
theorem ObjOk.lt (x:ObjOk P w H h a o):a < h.objs.size:=by
 cases o with
 | lst xs=>obtain ⟨_,_,_,_,e⟩:=x; exact Heap.lt_size e
 | tup xs=>obtain ⟨_,_,_,p⟩:=x; exact p.lt
 | dK kvs=>obtain ⟨_,_,_,_,o,_,_,e,_⟩:=x; exact Heap.lt_size e
 | dT kvs=>obtain ⟨_,_,_,_,o,_,_,e,_⟩:=x; exact Heap.lt_size e
 | set S n=>obtain ⟨o,_,_,_,e,_⟩:=x; exact Heap.lt_size e
 | ins C dx fs=>obtain ⟨_,_,_,e,_⟩:=x; exact Heap.lt_size e
 | own y=>obtain ⟨_,e⟩:=x; exact Heap.lt_size e
 | xd fs=>obtain ⟨_,⟨_,_,_,e,_⟩,_⟩:=x; exact Heap.lt_size e
 | rng lo hi=>obtain ⟨_,_,_,e⟩:=x; exact Heap.lt_size e
 | frz ob u=>obtain ⟨e,_⟩:=x; exact Heap.lt_size e
 | tbl ps=>exact Heap.lt_size (show h.get? a=some _ from x)
 | met f y=>exact Heap.lt_size (show h.get? a=some _ from x)
 | ext φ=>obtain ⟨_,⟨_,e⟩,_⟩:=x; exact Heap.lt_size e
theorem Paired.mapP {α β:Type}{F G:α->β->Prop}:∀ {l₁:List α}{l₂:List β},Paired F l₁ l₂->(∀ a b,F a b->G a b)->Paired G l₁ l₂
 | _,_,.nil,_=>.nil
 | _,_,.cons r t,f=>.cons (f _ _ r) (Paired.mapP t f)
theorem ObjOk.stay (x:ObjOk P w H h a o)(k:∀ b u,(b=a\/H b=some (.own a))->h.get? b=some u->h'.get? b=some u)(ho:∀ b,H b=some (.own a)->H' b=some (.own a))(ht:∀ b xs,H b=some (.tup xs)->H' b=some (.tup xs)):ObjOk P w H' h' a o:=by
 induction o with
 | lst xs=>obtain ⟨z,its,n,r,e⟩:=x; exact ⟨z,its,n,r,k _ _ (.inl rfl) e⟩
 | tup xs=>obtain ⟨z,its,r,ob,e,c⟩:=x; exact ⟨z,its,r,ob,k _ _ (.inl rfl) e,c⟩
 | dK kvs=>obtain ⟨z,y,vs,r,ob,es,ep,e,c⟩:=x; exact ⟨z,y,vs,r,ob,es,ep,k _ _ (.inl rfl) e,c⟩
 | dT kvs =>
  obtain ⟨z,y,xs,r,ob,es,ep,e,c⟩:=x
  exact ⟨z,y,xs,Paired.mapP r fun p q z=>⟨z.1,ht _ _ z.2.1,z.2.2⟩,ob,es,ep,k _ _ (.inl rfl) e,c⟩
 | set S n=>obtain ⟨ob,es,ep,t,e,c⟩:=x; exact ⟨ob,es,ep,t,k _ _ (.inl rfl) e,c⟩
 | ins C dx fs =>
  obtain ⟨d,z,ne,e,mA,⟨od,es,ep,e2,c⟩,r⟩:=x
  exact ⟨ho _ d,z,ne,k _ _ (.inl rfl) e,mA,⟨od,es,ep,k _ _ (.inr d) e2,c⟩,r⟩
 | own y=>obtain ⟨ob,e⟩:=x; exact ⟨ob,k _ _ (.inl rfl) e⟩
 | xd fs=>obtain ⟨mA,⟨od,es,ep,e,c⟩,r⟩:=x; exact ⟨mA,⟨od,es,ep,k _ _ (.inl rfl) e,c⟩,r⟩
 | rng lo hi=>obtain ⟨t,u,v,e⟩:=x; exact ⟨t,u,v,k _ _ (.inl rfl) e⟩
 | frz ob u ih=>obtain ⟨e,q⟩:=x; exact ⟨k _ _ (.inl rfl) e,ih q⟩
 | tbl ps =>
  have e:h.get? a=some { cls:=.none,data:=.fields ps }:=x
  show h'.get? a=some { cls:=.none,data:=.fields ps }
  exact k a _ (.inl rfl) e
 | met f y =>
  have e:h.get? a=some (methodObj (.ref f) (.ref y)):=x
  show h'.get? a=some (methodObj (.ref f) (.ref y))
  exact k a _ (.inl rfl) e
 | ext φ=>obtain ⟨p,⟨o,e⟩,st⟩:=x; exact ⟨st _ _ p fun o q=>k _ _ (.inl rfl) q,⟨o,k _ _ (.inl rfl) e⟩,st⟩
theorem HOk.lt (x:HOk P w H h)(e:H a=some o):a < h.objs.size:=(x a o e).lt
theorem HOk.fresh (x:HOk P w H h)(e:h.objs.size<=a):H a=none:=by
 cases q:H a with
 | none=>rfl
 | some u=>exact absurd (Nat.lt_of_lt_of_le (x.lt q) e) (Nat.lt_irrefl _)
theorem HOk.kept (x:HOk P w H h)(k:∀ b u,h.get? b=some u->h'.get? b=some u):HOk P w H h':=fun a o e =>
 (x a o e).stay (fun b u _ q=>k b u q) (fun _ q=>q) fun _ _ q=>q
theorem HOk.laid (x:HOk P w H h)(k:∀ b u,h.get? b=some u->h'.get? b=some u)(hp:h.objs.size<=a)(new:ObjOk P w (upd H a o) h' a o):HOk P w (upd H a o) h':=fun b u e=>by
 have hn:=x.fresh hp
 by_cases hb:b=a
 ·subst hb; rw [aA] at e; cases e; exact new
 ·rw [aN hb] at e
  exact (x b u e).stay (fun c v _ q=>k c v q) (fun c q=>by rw [aN (aP q hn)]; exact q) fun c xs q=>by rw [aN (aP q hn)]; exact q
end
def Rd (H:Hp)(a:Addr)(u:HO):Prop:=H a=some u\/∃ o,H a=some (.frz o u)
theorem Rd.of {H:Hp}{a:Addr}{u:HO}(h:H a=some u):Rd H a u:=.inl h
theorem Rd.ok {P:Program}{w:World}{H:Hp}{h:Heap}{a:Addr}{u:HO}(r:Rd H a u)(x:HOk P w H h):ObjOk P w H h a u:=by
 rcases r with r | ⟨o,r⟩
 ·exact x a u r
 ·obtain ⟨_,q⟩:=x a _ r
  exact q
def Mut:Option HO->Prop
 | some (.lst _)=>True
 | some (.dK _)=>True
 | some (.dT _)=>True
 | some (.set _ _)=>True
 | some (.ins _ _ _)=>True
 | some (.ext _)=>True
 | _=>False
section
variable {P:Program}{w:World}{H:Hp}{h h':Heap}{x e:Addr}{o':HO}
theorem HOk.write (ok:HOk P w H h)(mu:Mut (H x))(he:e=x\/H e=some (.own x))(k:∀ b u,b≠e->h.get? b=some u->h'.get? b=some u)(heo:∃ u,h'.get? e=some u)(new:ObjOk P w (upd H x o') h' x o'):HOk P w (upd H x o') h':=fun b u q=>by
 have nown:∀ c y,H c=some (.own y)->c≠x:=fun c y r z=>by subst z; rw [r] at mu; exact mu
 have ntup:∀ c xs,H c=some (.tup xs)->c≠x:=fun c xs r z=>by subst z; rw [r] at mu; exact mu
 by_cases hb:b=x
 ·subst hb; rw [aA] at q; cases q; exact new
 ·rw [aN hb] at q
  by_cases hbe:b=e
  ·have q':H b=some (.own x):=by
    rcases he with z | z
    ·exact absurd (hbe.trans z) hb
    ·rw [hbe]; exact z
   rw [q] at q'; cases q'
   obtain ⟨v,hv⟩:=heo
   exact ⟨v,by rw [hbe]; exact hv⟩
  ·refine (ok b u q).stay (fun c v hc r=>k c v ?_ r) (fun c r=>by rw [aN (nown c b r)]; exact r) fun c xs r=>by rw [aN (ntup c xs r)]; exact r
   rcases hc with rfl | hc
   ·exact hbe
   ·rintro rfl
    rcases he with z | z
    ·exact nown c b hc z
    ·rw [hc] at z; cases z; exact hb rfl
end
structure Un (fs ex:List Addr) (H H':Hp) (h h':Heap):Prop where
 keep:∀ b o,h.get? b=some o->H b=none->b ∉ fs->b ∉ ex->h'.get? b=some o
 slot:∀ b o,h.get? b=some o->H b=none->b∈fs->b ∉ ex->∃ sl,h'.get? b=some { o with slots:=sl }
 free:∀ b o,h.get? b=some o->H b=none->b ∉ ex->H' b=none
 there:∀ b o,h.get? b=some o->b ∉ ex->∃ o',h'.get? b=some o'
 tups:∀ b xs,H b=some (.tup xs)->H' b=some (.tup xs)
 frzs:∀ b o u,H b=some (.frz o u)->H' b=some (.frz o u)
 tbls:∀ b ps,H b=some (.tbl ps)->∃ more,H' b=some (.tbl (ps++more))
section
variable {fs fs' ex ex':List Addr}{H H1 H2:Hp}{h h1 h2 h':Heap}{a x e:Addr}{o:HO}
theorem Un.any (u:Un fs ex H H1 h h1){b:Addr}{ob:Obj}(q:h.get? b=some ob)(n:H b=none)(hx:b ∉ ex):∃ sl,h1.get? b=some { ob with slots:=sl }:=by
 by_cases hb:b∈fs
 ·exact u.slot b ob q n hb hx
 ·exact ⟨ob.slots,u.keep b ob q n hb hx⟩
theorem Un.kept (k:∀ b u,h.get? b=some u->h'.get? b=some u):Un fs ex H H h h' :=
 ⟨fun b ob q _ _ _=>k b ob q,fun b ob q _ _ _=>⟨ob.slots,k b ob q⟩,fun _ _ _ n _=>n,fun b ob q _=>⟨ob,k b ob q⟩,fun _ _ q=>q,fun _ _ _ q=>q,fun _ ps q=>⟨#[],by rw [q]; simp⟩⟩
theorem Un.refl:Un fs ex H H h h:=Un.kept fun _ _ q=>q
theorem Un.laid (k:∀ b u,h.get? b=some u->h'.get? b=some u)(hp:h.objs.size<=a)(hn:H a=none):Un fs ex H (upd H a o) h h' where
 keep:=fun b u q _ _ _=>k b u q
 slot:=fun b u q _ _ _=>⟨u.slots,k b u q⟩
 free:=fun b u q n _=>by rw [aN (Nat.ne_of_lt (Nat.lt_of_lt_of_le (Heap.lt_size q) hp))]; exact n
 there:=fun b u q _=>⟨u,k b u q⟩
 tups:=fun b xs q=>by rw [aN (aP q hn)]; exact q
 frzs:=fun b u xs q=>by rw [aN (aP q hn)]; exact q
 tbls:=fun b ps q=>⟨#[],by rw [aN (aP q hn),q]; simp⟩
theorem Un.write (mu:Mut (H x))(he:e=x\/H e=some (.own x))(k:∀ b u,b≠e->h.get? b=some u->h'.get? b=some u)(heo:∃ u,h'.get? e=some u):Un fs ex H (upd H x o) h h':=by
 have hx:∀ b,H b=none->b≠x:=fun b n z=>by subst z; rw [n] at mu; exact mu
 have hb:∀ b,H b=none->b≠e:=fun b n z=>by
  subst z
  rcases he with r | r
  ·exact hx b n r
  ·rw [n] at r; cases r
 have hm:∀ b u,H b=some u->¬ Mut (some u)->b≠x:=fun b u q nm z=>by subst z; rw [q] at mu; exact nm mu
 refine ⟨fun b u q n _ _=>k b u (hb b n) q,fun b u q n _ _=>⟨u.slots,k b u (hb b n) q⟩,fun b u q n _=>by rw [aN (hx b n)]; exact n,fun b u q _=>?_,
  fun b xs q=>by rw [aN (hm b _ q fun z=>z)]; exact q,fun b u xs q=>by rw [aN (hm b _ q fun z=>z)]; exact q,fun b ps q=>⟨#[],by rw [aN (hm b _ q fun z=>z),q]; simp⟩⟩
 by_cases hbe:b=e
 ·subst hbe; exact heo
 ·exact ⟨u,k b u hbe q⟩
theorem Un.mono (u:Un fs ex H H1 h h1)(hs:∀ b∈fs,b∈fs')(hx:∀ b∈ex,b∈ex'):Un fs' ex' H H1 h h1 :=
 ⟨fun b ob q n hb he=>u.keep b ob q n (fun z=>hb (hs b z)) fun z=>he (hx b z),fun _ _ q n _ he=>u.any q n fun z=>he (hx _ z),fun b ob q n he=>u.free b ob q n fun z=>he (hx b z),fun b ob q he=>u.there b ob q fun z=>he (hx b z),u.tups,u.frzs,u.tbls⟩
end
def trk (h:Heap)(H:Hp):List Addr:=(List.range h.objs.size).filter fun a=>(H a).isSome
def AM9 (h:Heap)(H:Hp):Heap:=hideAll h (trk h H)
theorem AD8 (h:Heap)(H:Hp):(AM9 h H).objs.size=h.objs.size:=hideAll_size _ _
theorem AN0 {h:Heap}{H:Hp}{b:Addr}{o:Obj}(e:h.get? b=some o)(n:H b=none):(AM9 h H).get? b=some o :=
 hideAll_get _ e fun hm=>by
  have q:(H b).isSome=true:=(List.mem_filter.mp hm).2
  rw [n] at q; simp at q
theorem AV3 {h:Heap}{H:Hp}{b:Addr}{o:Obj}(e:(AM9 h H).get? b=some o):h.get? b=some o/\H b=none:=by
 have e':h.get? b=some o:=of_hideAll (trk h H) e
 refine ⟨e',?_⟩
 cases q:H b with
 | none=>rfl
 | some x =>
  have hm:b∈trk h H:=List.mem_filter.mpr ⟨List.mem_range.mpr (Heap.lt_size e'),by simp [q]⟩
  have z:(AM9 h H).get? b=none:=hideAll_none (trk h H) hm
  rw [z] at e; cases e
def AV4 (g h:Heap)(L:Addr):List (Addr × Obj):=(List.range h.objs.size).filterMap fun a=>if a=L\/(g.get? a).isSome=true then none else (h.get? a).map fun o=>(a,o)
def rest (g h:Heap)(L d:Addr):List (Addr × Obj):=(AV4 g h L).filter fun p=>decide (p.1≠d)
structure Mod (K:Frag) (mg:Str->Option Value) (base:Heap):Prop where
 kin:K.In base
 glob:base.Ns mainGlobals mg
 blt:∃ mb,base.Ns builtinsNs mb/\∀ x:Str,x≠"__name__"->mb x=bootBuiltins x
 nolimit:base.NoLimit
structure Cx where
 prog:Program
 w:World
 K:Frag
 mg:Str->Option Value
 base:Heap
 A:Around
 N:List Str
 s₀:Shared
 H₀:Hp
 env:Env
 outer:List Env
 stack:List Env
 ex:List Addr
 fn:Str->Bool
 calm:Bool
 pn:List (Addr × Obj)
 xe:Value->Shared->Prop
def frs (l:List Env):List Addr:=l.filterMap (·.frame)
abbrev Cx.fs (X:Cx):List Addr:=frs X.outer
def Vis (sc:Scope)(x:Str):Prop:=sc.names.lookup x=some .local\/sc.names.lookup x=some .cell\/sc.names.lookup x=some .free
def Loc (sc:Scope)(x:Str):Prop:=sc.names.lookup x=some .local\/sc.names.lookup x=some .cell
def BS6 (env:Env)(h:Heap)(m:Str->Option Value)(x:Str)(u:Value):Prop :=
 (env.kindOf x=some .local/\m x=some u)\/((env.kindOf x=some .cell\/env.kindOf x=some .free)/\∃ c,env.cells.lookup x=some c/\h.IsCell c (some u))
structure Cx.Ok (X:Cx):Prop where
 mod:Mod X.K X.mg X.base
 kind:X.env.scope.kind=.function
 glob:X.env.globals=mainGlobals
 blt:X.env.builtins=builtinsNs
 above:X.s₀.heap.objs.size<=X.env.locals
 inj:∀ x y c,X.env.cells.lookup x=some c->X.env.cells.lookup y=some c->x=y
 has:∀ x,(X.env.kindOf x=some .cell\/X.env.kindOf x=some .free)->∃ c,X.env.cells.lookup x=some c
 cab:∀ x c,X.fn x=true->X.env.cells.lookup x=some c->X.s₀.heap.objs.size<=c
 hd:X.calm=true->X.A.handled=none
 frames:X.A.frames=some X.stack
 stk:X.stack=X.outer\/(X.stack=X.env::X.outer/\X.env.frame=some X.env.locals)
 exf:∀ b∈X.ex,b≠X.env.locals/\∀ x c,X.env.cells.lookup x=some c->c≠b
 bs:∀ b o,X.base.get? b=some o->X.s₀.heap.get? b=some o/\X.H₀ b=none
 bsz:X.base.objs.size<=X.s₀.heap.objs.size
 noex:∀ b o,X.base.get? b=some o->b ∉ X.ex
 exfs:∀ b∈X.ex,b ∉ X.fs
 funs:X.s₀.heap.FunFrames X.base X.outer
 frf:∀ b∈X.fs,X.H₀ b=none
structure Inv (X:Cx) (pins:List (Addr × Obj)) (σ:List (Option V)) (H:Hp) (s:Shared):Prop where
 ok:X.Ok
 os:s.os=X.s₀.os
 bare:AllBare s.gens
 base:Un X.fs X.ex X.H₀ H X.s₀.heap s.heap
 loc:∃ m,s.heap.Ns X.env.locals m/\∀ (i:Nat) (x:Str) (v:V),X.N[i]?=some x->σ[i]?=some (some v)->Vis X.env.scope x->∃ u,RelV v u/\BS6 X.env s.heap m x u
 cell:∀ x c,X.env.cells.lookup x=some c->∃ v,s.heap.IsCell c v
 free:H X.env.locals=none
 freeC:∀ x c,X.env.cells.lookup x=some c->H c=none
 pin:∀ p∈X.pn++pins,s.heap.get? p.1=some p.2/\H p.1=none/\p.1≠X.env.locals/\p.1 ∉ X.fs/\∀ v,p.2.data≠.cell v
 hok:HOk X.prog X.w H s.heap
 len:σ.length=X.N.length
section
variable {X:Cx}{pins:List (Addr × Obj)}{σ:List (Option V)}{H H':Hp}{s:Shared}{h':Heap}
theorem Cx.Ok.nofr (ok:X.Ok){b:Addr}{o:Obj}(e:X.base.get? b=some o):b ∉ X.fs:=fun hb=>by
 have:=(ok.funs.mem hb).1
 rw [e] at this; cases this
theorem Inv.bs (I:Inv X pins σ H s):∀ b o,X.base.get? b=some o->s.heap.get? b=some o/\H b=none:=fun b o e =>
 ⟨I.base.keep b o (I.ok.bs b o e).1 (I.ok.bs b o e).2 (I.ok.nofr e) (I.ok.noex b o e),I.base.free b o (I.ok.bs b o e).1 (I.ok.bs b o e).2 (I.ok.noex b o e)⟩
theorem Inv.bk (I:Inv X pins σ H s):∀ b o,X.base.get? b=some o->s.heap.get? b=some o:=fun b o e=>(I.bs b o e).1
theorem Inv.mod (I:Inv X pins σ H s):Mod X.K X.mg X.base:=I.ok.mod
theorem Inv.kIn (I:Inv X pins σ H s):X.K.In s.heap:=I.ok.mod.kin.keeps I.bk
theorem Inv.nolimit (I:Inv X pins σ H s):s.heap.NoLimit:=I.ok.mod.nolimit.keeps I.bk
theorem Inv.fr (I:Inv X pins σ H s):∃ m,Fr X.base X.env.locals s.heap m :=
 let ⟨m,hn,_⟩:=I.loc
 ⟨m,hn,I.bk,Nat.le_trans I.ok.bsz I.ok.above⟩
theorem Inv.lt (I:Inv X pins σ H s):X.env.locals < s.heap.objs.size:=let ⟨_,hn,_⟩:=I.loc; hn.lt
theorem Inv.sz (I:Inv X pins σ H s):X.s₀.heap.objs.size<=s.heap.objs.size:=Nat.le_trans I.ok.above (Nat.le_of_lt I.lt)
theorem Inv.nofs (I:Inv X pins σ H s){a:Addr}(h:s.heap.objs.size<=a):a ∉ X.fs:=fun hb=>by
 obtain ⟨_,o,ho,_⟩:=I.ok.funs.mem hb
 exact absurd (Nat.lt_of_lt_of_le (Heap.lt_size ho) (Nat.le_trans I.sz h)) (Nat.lt_irrefl _)
theorem Inv.cne (I:Inv X pins σ H s):∀ x c,X.env.cells.lookup x=some c->c≠X.env.locals:=fun x c e z=>by
 obtain ⟨v,o,ho,hd⟩:=I.cell x c e
 obtain ⟨m,⟨o',es,ep,ho',hd',_⟩,_⟩:=I.loc
 rw [z,ho'] at ho; cases ho; rw [hd'] at hd; cases hd
theorem Inv.funs (I:Inv X pins σ H s):s.heap.FunFrames X.base X.outer:=by
 have all:∀ (l:List Env),(∀ b∈frs l,b∈X.fs)->X.s₀.heap.FunFrames X.base l->s.heap.FunFrames X.base l:=by
  intro l
  induction l with
  | nil=>intro _ _; trivial
  | cons env r ih =>
   intro hs hl
   obtain ⟨hk,⟨L,o,hf,hn,ho,hd⟩,hr⟩:=hl
   have hL:L∈X.fs:=hs L (by unfold frs; rw [List.filterMap_cons,hf]; exact List.mem_cons_self)
   obtain ⟨sl,e⟩:=I.base.slot L o ho (I.ok.frf L hL) hL fun z=>I.ok.exfs L z hL
   exact ⟨hk,⟨L,_,hf,hn,e,hd⟩,ih (fun b hb=>hs b (by unfold frs; rw [List.filterMap_cons,hf]; exact List.mem_cons_of_mem _ hb)) hr⟩
 exact all X.outer (fun _ hb=>hb) I.ok.funs
theorem Inv.stack (I:Inv X pins σ H s):s.heap.FunFrames X.base X.stack:=by
 rcases I.ok.stk with e | ⟨e,hf⟩
 ·rw [e]; exact I.funs
 ·rw [e]
  obtain ⟨m,hn,_⟩:=I.loc
  refine .cons (by rw [I.ok.kind]; decide) hf hn ?_ I.funs
  exact Heap.get?_none_of_le (Nat.le_trans I.ok.bsz I.ok.above)
theorem Inv.stkSub (I:Inv X pins σ H s):∀ b∈frs X.stack,b∈X.env.locals::X.fs:=fun b hb=>by
 rcases I.ok.stk with e | ⟨e,hf⟩
 ·rw [e] at hb; exact List.mem_cons_of_mem _ hb
 ·rw [e] at hb
  unfold frs at hb
  rw [List.filterMap_cons,hf] at hb
  exact hb
theorem Inv.stkFree (I:Inv X pins σ H s):∀ b∈frs X.stack,H b=none:=fun b hb=>by
 rcases List.mem_cons.mp (I.stkSub b hb) with e | hb
 ·rw [e]; exact I.free
 ·obtain ⟨_,o,ho,_⟩:=I.ok.funs.mem hb
  exact I.base.free b o ho (I.ok.frf b hb) fun z=>I.ok.exfs b z hb
theorem Inv.step {g':Array GenState}{t':Nat}{d':Drawn}{ch:List Addr}(I:Inv X pins σ H s)(hch:∀ b∈ch,(b∈X.ex\/X.s₀.heap.objs.size<=b)/\b≠X.env.locals/\(∀ x c,X.env.cells.lookup x=some c->c≠b)/\∀ p∈X.pn++pins,p.1≠b)(keep:∀ b o,b≠X.env.locals->b ∉ X.fs->b ∉ ch->s.heap.get? b=some o->H b=none->h'.get? b=some o)(slot:∀ b o,b≠X.env.locals->b∈X.fs->b ∉ ch->s.heap.get? b=some o->H b=none->∃ sl,h'.get? b=some { o with slots:=sl })(free:∀ b o,b ∉ ch->s.heap.get? b=some o->H b=none->H' b=none)(there:∀ b o,b ∉ ch->s.heap.get? b=some o->∃ o',h'.get? b=some o')(tups:∀ b xs,H b=some (.tup xs)->H' b=some (.tup xs))(frzs:∀ b o u,H b=some (.frz o u)->H' b=some (.frz o u))(tbls:∀ b ps,H b=some (.tbl ps)->∃ more,H' b=some (.tbl (ps++more)))(ns:∀ m,s.heap.Ns X.env.locals m->h'.Ns X.env.locals m)(hok:HOk X.prog X.w H' h')(hg:AllBare g') :
  Inv X pins σ H' { s with heap:=h',gens:=g',drawn:=d',toks:=t' }:=by
 have neL:∀ b o,X.s₀.heap.get? b=some o->b≠X.env.locals:=fun b o e=>Nat.ne_of_lt (Nat.lt_of_lt_of_le (Heap.lt_size e) I.ok.above)
 have neC:∀ b o,X.s₀.heap.get? b=some o->b ∉ X.ex->b ∉ ch:=fun b o e hx hb=>by
  rcases (hch b hb).1 with z | z
  ·exact hx z
  ·exact absurd (Nat.lt_of_lt_of_le (Heap.lt_size e) z) (Nat.lt_irrefl _)
 have cellK:∀ x c,X.env.cells.lookup x=some c->∀ v,s.heap.IsCell c v->h'.IsCell c v:=fun x c e v ⟨o,ho,hd⟩=>by
  have nch:c ∉ ch:=fun z=>(hch c z).2.2.1 x c e rfl
  by_cases hc:c∈X.fs
  ·obtain ⟨sl,q⟩:=slot c o (I.cne x c e) hc nch ho (I.freeC x c e)
   exact ⟨_,q,hd⟩
  ·exact ⟨o,keep c o (I.cne x c e) hc nch ho (I.freeC x c e),hd⟩
 refine ⟨I.ok,I.os,hg,⟨fun b o e n hb hx=>?_,fun b o e n hb hx=>?_,fun b o e n hx=>?_,fun b o e hx=>?_,fun b xs e=>tups b xs (I.base.tups b xs e),fun b o xs e=>frzs b o xs (I.base.frzs b o xs e),fun b ps e=>?_⟩,?_,fun x c e=>?_,?_,fun x c e=>?_,fun p hp=>?_,hok,I.len⟩
 ·exact keep b o (neL b o e) hb (neC b o e hx) (I.base.keep b o e n hb hx) (I.base.free b o e n hx)
 ·obtain ⟨sl,e1⟩:=I.base.slot b o e n hb hx
  obtain ⟨sl',e2⟩:=slot b _ (neL b o e) hb (neC b o e hx) e1 (I.base.free b o e n hx)
  exact ⟨sl',e2⟩
 ·obtain ⟨o',e1⟩:=I.base.there b o e hx
  exact free b o' (neC b o e hx) e1 (I.base.free b o e n hx)
 ·obtain ⟨o',e1⟩:=I.base.there b o e hx
  exact there b o' (neC b o e hx) e1
 ·obtain ⟨m1,e1⟩:=I.base.tbls b ps e
  obtain ⟨m2,e2⟩:=tbls b _ e1
  exact ⟨m1++m2,by rw [e2,Array.append_assoc]⟩
 ·obtain ⟨m,hn,hl⟩:=I.loc
  refine ⟨m,ns m hn,fun i x v e1 e2 e3=>?_⟩
  obtain ⟨u,r,l⟩:=hl i x v e1 e2 e3
  refine ⟨u,r,?_⟩
  rcases l with l | ⟨k,c,e,z⟩
  ·exact .inl l
  ·exact .inr ⟨k,c,e,cellK x c e _ z⟩
 ·obtain ⟨v,z⟩:=I.cell x c e
  exact ⟨v,cellK x c e v z⟩
 ·obtain ⟨m,⟨o,_,_,ho,_⟩,_⟩:=I.loc
  exact free _ o (fun z=>(hch _ z).2.1 rfl) ho I.free
 ·obtain ⟨v,o,ho,hd⟩:=I.cell x c e
  exact free c o (fun z=>(hch c z).2.2.1 x c e rfl) ho (I.freeC x c e)
 ·obtain ⟨e,n,ne,nf,d⟩:=I.pin p hp
  have nch:p.1 ∉ ch:=fun z=>(hch p.1 z).2.2.2 p hp rfl
  exact ⟨keep p.1 p.2 ne nf nch e n,free p.1 p.2 nch e n,ne,nf,d⟩
theorem Inv.un {t':Nat}(I:Inv X pins σ H s)(u:Un X.fs [] H H' s.heap h')(hok:HOk X.prog X.w H' h'):Inv X pins σ H' { s with heap:=h',toks:=t' }:=by
 obtain ⟨m,⟨o,es,ep,ho,r⟩,_⟩:=id I.loc
 obtain ⟨sl,hL⟩:=u.any ho I.free (by simp)
 exact I.step (g':=s.gens) (d':=s.drawn) (ch:=[]) (fun _ z=>nomatch z) (fun b o _ hb _ e n=>u.keep b o e n hb (by simp)) (fun b o _ hb _ e n=>u.slot b o e n hb (by simp)) (fun b o _ e n=>u.free b o e n (by simp)) (fun b o _ e=>u.there b o e (by simp)) u.tups u.frzs u.tbls (fun m' hm=>by
  obtain ⟨o',es',ep',ho',r'⟩:=hm
  rw [ho] at ho'; cases ho'
  exact ⟨_,es',ep',hL,r'⟩) hok I.bare
theorem Inv.call {g':Array GenState}{t':Nat}{d':Drawn}{ch:List Addr}(I:Inv X pins σ H s)(u:Un (frs X.stack) ch H H' s.heap h')(hok:HOk X.prog X.w H' h')(hg:AllBare g')(hch:∀ b∈ch,(b∈X.ex\/X.s₀.heap.objs.size<=b)/\b≠X.env.locals/\(∀ x c,X.env.cells.lookup x=some c->c≠b)/\∀ p∈X.pn++pins,p.1≠b) :
  Inv X pins σ H' { s with heap:=h',gens:=g',drawn:=d',toks:=t' }:=by
 obtain ⟨m,⟨o,es,ep,ho,r⟩,_⟩:=id I.loc
 obtain ⟨sl,hL⟩:=u.any ho I.free fun z=>(hch _ z).2.1 rfl
 exact I.step (ch:=ch) hch (fun b o hL hb hc e n=>u.keep b o e n (fun z=>(List.mem_cons.mp (I.stkSub b z)).elim hL hb) hc) (fun b o _ _ hc e n=>u.any e n hc) (fun b o hc e n=>u.free b o e n hc) (fun b o hc e=>u.there b o e hc) u.tups u.frzs u.tbls (fun m' hm=>by
  obtain ⟨o',es',ep',ho',r'⟩:=hm
  rw [ho] at ho'; cases ho'
  exact ⟨_,es',ep',hL,r'⟩) hok hg
theorem Inv.turned {t':Nat}{it:Addr}(I:Inv X pins σ H s)(k:∀ b o,b≠it->s.heap.get? b=some o->h'.get? b=some o)(hn:H it=none)(hL:it≠X.env.locals)(h1:it∈X.ex\/X.s₀.heap.objs.size<=it)(h2:∀ x c,X.env.cells.lookup x=some c->c≠it)(h3:∀ p∈X.pn++pins,p.1≠it):Inv X pins σ H { s with heap:=h',toks:=t' }:=by
 have nit:∀ b u,H b=some u->b≠it:=fun b u e z=>by rw [z,hn] at e; cases e
 refine I.step (g':=s.gens) (d':=s.drawn) (ch:=[it]) (fun b hb=>?_) (fun b o _ _ hc e _=>k b o (fun z=>hc (by simp [z])) e) (fun b o _ _ hc e _=>⟨o.slots,k b o (fun z=>hc (by simp [z])) e⟩) (fun _ _ _ _ n=>n)
  (fun b o hc e=>⟨o,k b o (fun z=>hc (by simp [z])) e⟩) (fun _ _ e=>e) (fun _ _ _ e=>e) (fun b ps e=>⟨#[],by rw [e]; simp⟩) (fun m hm=>?_) (fun b u e=>?_) I.bare
 ·have e:b=it:=by simpa using hb
  subst e
  exact ⟨h1,hL,h2,h3⟩
 ·obtain ⟨o,es,ep,ho,r⟩:=hm
  exact ⟨o,es,ep,k _ o (Ne.symm hL) ho,r⟩
 ·refine (I.hok b u e).stay (fun c v hc q=>k c v ?_ q) (fun _ q=>q) fun _ _ q=>q
  rcases hc with z | z
  ·rw [z]; exact nit b u e
  ·exact nit c _ z
theorem Inv.tok (I:Inv X pins σ H s)(t:Nat):Inv X pins σ H { s with toks:=t }:=I.un (h':=s.heap) (t':=t) Un.refl I.hok
theorem Inv.kept {t':Nat}(I:Inv X pins σ H s)(k:∀ b u,s.heap.get? b=some u->h'.get? b=some u):Inv X pins σ H { s with heap:=h',toks:=t' }:=I.un (Un.kept k) (I.hok.kept k)
theorem Inv.laid {a:Addr}{o:HO}{t':Nat}(I:Inv X pins σ H s)(k:∀ b u,s.heap.get? b=some u->h'.get? b=some u)(hp:s.heap.objs.size<=a)(new:ObjOk X.prog X.w (upd H a o) h' a o) :
  Inv X pins σ (upd H a o) { s with heap:=h',toks:=t' }:=I.un (Un.laid k hp (I.hok.fresh hp)) (I.hok.laid k hp new)
theorem Inv.write {x e:Addr}{o:HO}{t':Nat}(I:Inv X pins σ H s)(mu:Mut (H x))(he:e=x\/H e=some (.own x))(k:∀ b u,b≠e->s.heap.get? b=some u->h'.get? b=some u)(heo:∃ u,h'.get? e=some u)(new:ObjOk X.prog X.w (upd H x o) h' x o):Inv X pins σ (upd H x o) { s with heap:=h',toks:=t' }:=I.un (Un.write mu he k heo) (I.hok.write mu he k heo new)
theorem Inv.pins_of {pins':List (Addr × Obj)}(I:Inv X pins σ H s)(h:∀ p∈pins',s.heap.get? p.1=some p.2/\H p.1=none/\p.1≠X.env.locals/\p.1 ∉ X.fs/\∀ v,p.2.data≠.cell v):Inv X pins' σ H s :=
 ⟨I.ok,I.os,I.bare,I.base,I.loc,I.cell,I.free,I.freeC,fun p hp=>(List.mem_append.mp hp).elim (fun z=>I.pin p (List.mem_append_left _ z)) (h p),I.hok,I.len⟩
theorem sE {N:List Str}(hN:N.Nodup){i j:Nat}{x:Str}(a:N[i]?=some x)(b:N[j]?=some x):i=j:=by
 obtain ⟨h1,e1⟩:=List.getElem?_eq_some_iff.mp a
 obtain ⟨h2,e2⟩:=List.getElem?_eq_some_iff.mp b
 exact (List.getElem_inj hN).mp (e1.trans e2.symm)
theorem uJ {M:Model}{A:Around}{E:Value->Shared->Prop}{i:Nat}{x:Str}{v:V}{u:Value}{Q:Unit->Shared->Prop}(I:Inv X pins σ H s)(hN:X.N.Nodup)(hi:X.N[i]?=some x)(hx:Loc X.env.scope x)(r:RelV v u)(h:∀ s',Inv X pins (σ.set i (some v)) H s'->(∃ a,Heap.SameBut a s.heap s'.heap/\(a=X.env.locals\/X.env.cells.lookup x=some a))->Q () s')(hf:X.fn x=true\/X.env.scope.names.lookup x=some .local:=by first | exact .inl rfl | exact .inr rfl | assumption):wpAny M A (storeName X.env x u) Q E s:=by
 obtain ⟨m,hn,hl⟩:=id I.loc
 have hcls:(X.env.scope.kind == .class || (X.env.scope.kind == .module && X.env.locals != X.env.globals))=false:=by rw [I.ok.kind]; rfl
 have hiσ:i < σ.length:=by rw [I.len]; exact (List.getElem?_eq_some_iff.mp hi).1
 have cne:=I.cne
 have tracked:∀ {a:Addr}{h':Heap},(∃ o,s.heap.get? a=some o/\H a=none)->Heap.SameBut a s.heap h'->HOk X.prog X.w H h':=fun {a h'} ha hs b ob e=>by
  obtain ⟨_,_,hfree⟩:=ha
  refine (I.hok b ob e).stay (fun c w' hc q=>(hs.2 c ?_).trans q) (fun _ q=>q) fun _ _ q=>q
  rintro rfl
  rcases hc with rfl | hc
  ·rw [hfree] at e; cases e
  ·rw [hfree] at hc; cases hc
 rcases hx with hk | hk
 ·refine wpAny_storeName_local hk hn (fun h' hn' hs=>?_) hcls
  obtain ⟨oL,_,_,hoL,_⟩:=id hn
  refine h _ ⟨I.ok,I.os,I.bare,⟨fun b o e n hb hx=>?_,fun b o e n hb hx=>?_,I.base.free,fun b o e hx=>?_,I.base.tups,I.base.frzs,I.base.tbls⟩,⟨_,hn',fun j y v' e1 e2 e3=>?_⟩,fun y c e=>?_,I.free,I.freeC,fun p hp=>?_,tracked ⟨oL,hoL,I.free⟩ hs,by simpa using I.len⟩ ⟨_,hs,.inl rfl⟩
  ·exact (hs.2 b (Nat.ne_of_lt (Nat.lt_of_lt_of_le (Heap.lt_size e) I.ok.above))).trans (I.base.keep b o e n hb hx)
  ·obtain ⟨sl,e1⟩:=I.base.slot b o e n hb hx
   exact ⟨sl,(hs.2 b (Nat.ne_of_lt (Nat.lt_of_lt_of_le (Heap.lt_size e) I.ok.above))).trans e1⟩
  ·obtain ⟨o',e1⟩:=I.base.there b o e hx
   exact ⟨o',(hs.2 b (Nat.ne_of_lt (Nat.lt_of_lt_of_le (Heap.lt_size e) I.ok.above))).trans e1⟩
  ·by_cases hj:j=i
   ·subst hj
    rw [hi] at e1; cases e1
    rw [List.getElem?_set_self hiσ] at e2
    cases e2
    exact ⟨u,r,.inl ⟨hk,by simp⟩⟩
   ·rw [List.getElem?_set_ne (Ne.symm hj)] at e2
    obtain ⟨u',r',q⟩:=hl j y v' e1 e2 e3
    refine ⟨u',r',?_⟩
    rcases q with ⟨k,e⟩ | ⟨k,c,e,z⟩
    ·refine .inl ⟨k,?_⟩
     have:y≠x:=fun e=>hj (sE hN e1 (e ▸ hi))
     simp [this,e]
    ·exact .inr ⟨k,c,e,z.sameBut hs (cne y c e)⟩
  ·obtain ⟨w',z⟩:=I.cell y c e
   exact ⟨w',z.sameBut hs (cne y c e)⟩
  ·obtain ⟨e,n,ne,nf,d⟩:=I.pin p hp
   exact ⟨(hs.2 p.1 ne).trans e,n,ne,nf,d⟩
 ·have hfn:X.fn x=true:=by
   rcases hf with z | z
   ·exact z
   ·rw [z] at hk; cases hk
  obtain ⟨c,hc⟩:=I.ok.has x (.inl hk)
  obtain ⟨w',z⟩:=I.cell x c hc
  refine wpAny_storeName_cell I.ok.kind hk hc z (fun h' hc' hs=>?_)
  obtain ⟨oc,hoc,hocd⟩:=id z
  refine h { s with heap:=h' } ⟨I.ok,I.os,I.bare,⟨fun b o e n hb hx=>?_,fun b o e n hb hx=>?_,I.base.free,fun b o e hx=>?_,I.base.tups,I.base.frzs,I.base.tbls⟩,⟨m,hn.sameBut hs (Ne.symm (cne x c hc)),fun j y v' e1 e2 e3=>?_⟩,fun y c' e=>?_,I.free,I.freeC,fun p hp=>?_,tracked ⟨oc,hoc,I.freeC x c hc⟩ hs,by simpa using I.len⟩ ⟨c,hs,.inr hc⟩
  ·exact (hs.2 b (Nat.ne_of_lt (Nat.lt_of_lt_of_le (Heap.lt_size e) (I.ok.cab x c hfn hc)))).trans (I.base.keep b o e n hb hx)
  ·obtain ⟨sl,e1⟩:=I.base.slot b o e n hb hx
   exact ⟨sl,(hs.2 b (Nat.ne_of_lt (Nat.lt_of_lt_of_le (Heap.lt_size e) (I.ok.cab x c hfn hc)))).trans e1⟩
  ·obtain ⟨o',e1⟩:=I.base.there b o e hx
   exact ⟨o',(hs.2 b (Nat.ne_of_lt (Nat.lt_of_lt_of_le (Heap.lt_size e) (I.ok.cab x c hfn hc)))).trans e1⟩
  ·by_cases hj:j=i
   ·subst hj
    rw [hi] at e1; cases e1
    rw [List.getElem?_set_self hiσ] at e2
    cases e2
    exact ⟨u,r,.inr ⟨.inl hk,c,hc,hc'⟩⟩
   ·rw [List.getElem?_set_ne (Ne.symm hj)] at e2
    obtain ⟨u',r',q⟩:=hl j y v' e1 e2 e3
    refine ⟨u',r',?_⟩
    rcases q with q | ⟨k,c',e,z'⟩
    ·exact .inl q
    ·refine .inr ⟨k,c',e,z'.sameBut hs ?_⟩
     rintro rfl
     exact hj (sE hN e1 (I.ok.inj _ _ _ e hc ▸ hi))
  ·by_cases hcc:c'=c
   ·subst hcc; exact ⟨_,hc'⟩
   ·obtain ⟨w2,z2⟩:=I.cell y c' e
    exact ⟨w2,z2.sameBut hs hcc⟩
  ·obtain ⟨e,n,ne,nf,d⟩:=I.pin p hp
   refine ⟨(hs.2 p.1 ?_).trans e,n,ne,nf,d⟩
   intro q
   rw [q,hoc] at e
   have q':oc=p.2:=Option.some.inj e
   exact d w' (by rw [<- q']; exact hocd)
theorem lK {M:Model}{A:Around}{E:Value->Shared->Prop}{i:Nat}{x:Str}{v:V}{u:Value}{Q:Unit->Shared->Prop}(I:Inv X pins σ H s)(hN:X.N.Nodup)(hi:X.N[i]?=some x)(hx:Loc X.env.scope x)(r:RelV v u)(h:∀ s',Inv X pins (σ.set i (some v)) H s'->Q () s')(hf:X.fn x=true\/X.env.scope.names.lookup x=some .local:=by first | exact .inl rfl | exact .inr rfl | assumption):wpAny M A (storeName X.env x u) Q E s :=
 uJ I hN hi hx r (fun s' I' _=>h s' I') hf
theorem Inv.call' {s':Shared}{ch:List Addr}(I:Inv X pins σ H s)(ho:s'.os=s.os)(u:Un (frs X.stack) ch H H' s.heap s'.heap)(hok:HOk X.prog X.w H' s'.heap)(hg:AllBare s'.gens)(hch:∀ b∈ch,(b∈X.ex\/X.s₀.heap.objs.size<=b)/\b≠X.env.locals/\(∀ x c,X.env.cells.lookup x=some c->c≠b)/\∀ p∈X.pn++pins,p.1≠b):Inv X pins σ H' s':=by
 obtain ⟨h',g',d',t',o'⟩:=s'
 have e:o'=s.os:=ho
 subst e
 exact I.call (g':=g') (t':=t') (d':=d') u hok hg hch
end
abbrev XK:=Value->Option Addr->Hp->Prop
abbrev St:=List (Option V)
abbrev VK:=V->Hp->Prop
abbrev TE:=St->Hp->VK->Prop
abbrev TT:=St->Hp->(Bool->Hp->Prop)->Prop
abbrev TA:=St->Hp->(List V->Hp->Prop)->Prop
structure Ends where
 nx:St->Hp->Prop
 rt:VK
 bk:St->Hp->Prop:=fun _ _=>False
 ct:St->Hp->Prop:=fun _ _=>False
abbrev TS:=Ends->St->Hp->Prop
def EP (X:Cx)(pins:List (Addr × Obj))(σ:St)(Q:VK)(u:Value)(s':Shared):Prop:=∃ v H',Inv X pins σ H' s'/\RelV v u/\Q v H'
def TP (X:Cx)(pins:List (Addr × Obj))(σ:St)(Q:Bool->Hp->Prop)(b:Bool)(s':Shared):Prop:=∃ H',Inv X pins σ H' s'/\Q b H'
def AP (X:Cx)(pins:List (Addr × Obj))(σ:St)(Q:List V->Hp->Prop)(us:List Value)(s':Shared):Prop:=∃ vs H',Inv X pins σ H' s'/\Vals vs us/\Q vs H'
def SP (X:Cx)(pins:List (Addr × Obj))(D:Ends)(f:Flow)(s':Shared):Prop :=
 match f with
 | .next=>∃ σ' H',Inv X pins σ' H' s'/\D.nx σ' H'
 | .brk=>∃ σ' H',Inv X pins σ' H' s'/\D.bk σ' H'
 | .cont=>∃ σ' H',Inv X pins σ' H' s'/\D.ct σ' H'
 | .ret u=>∃ v σ' H',Inv X pins σ' H' s'/\RelV v u/\D.rt v H'
def PE (X:Cx)(e:Expr)(t:TE):Prop :=
 ∀ (pins:List (Addr × Obj)) (s:Shared) (σ:St) (H:Hp) (Q:VK),Inv X pins σ H s->t σ H Q->wpAny (model X.prog X.w) X.A (eval e X.env) (EP X pins σ Q) X.xe s
def PT (X:Cx)(e:Expr)(t:TT):Prop :=
 ∀ (pins:List (Addr × Obj)) (s:Shared) (σ:St) (H:Hp) (Q:Bool->Hp->Prop),Inv X pins σ H s->t σ H Q->wpAny (model X.prog X.w) X.A (isTrue e X.env (eval e X.env)) (TP X pins σ Q) X.xe s
def PW (X:Cx)(e:Expr)(t:TT):Prop :=
 ∀ (whole:Sem Value) (pins:List (Addr × Obj)) (s:Shared) (σ:St) (H:Hp) (Q:Bool->Hp->Prop),Inv X pins σ H s->t σ H Q->wpAny (model X.prog X.w) X.A (isTrue e X.env whole) (TP X pins σ Q) X.xe s
theorem PW.pt {X:Cx}{e:Expr}{t:TT}(h:PW X e t):PT X e t:=h _
def PA (X:Cx)(es:List Expr)(t:TA):Prop :=
 ∀ (pos:Pos) (pins:List (Addr × Obj)) (s:Shared) (σ:St) (H:Hp) (Q:List V->Hp->Prop),Inv X pins σ H s->t σ H Q->wpAny (model X.prog X.w) X.A (spliced (backTo pos (starEach es X.env))) (AP X pins σ Q) X.xe s
def PS (X:Cx)(st:Stmt)(t:TS):Prop :=
 ∀ (pins:List (Addr × Obj)) (s:Shared) (σ:St) (H:Hp) (D:Ends),Inv X pins σ H s->t D σ H->wpAny (model X.prog X.w) X.A (exec st X.env) (SP X pins D) X.xe s
def PSs (X:Cx)(st:List Stmt)(t:TS):Prop :=
 ∀ (pins:List (Addr × Obj)) (s:Shared) (σ:St) (H:Hp) (D:Ends),Inv X pins σ H s->t D σ H->wpAny (model X.prog X.w) X.A (execs st X.env) (SP X pins D) X.xe s
theorem thn {α:Type}{t:Sem α}{Q Q':α->Shared->Prop}{M:Model}{A:Around}{E:Value->Shared->Prop}{s:Shared}(h:wpAny M A t Q E s)(hQ:∀ a s,Q a s->Q' a s):wpAny M A t Q' E s:=wpAny_mono h hQ fun _ _ x=>x
section
variable {X:Cx}
def BL1 (i:Nat):TE:=fun σ H Q=>∃ v,σ[i]?=some (some v)/\Q v H
def tC (v:V):TE:=fun _ H Q=>Q v H
theorem AS2 {i:Nat}{x:Str}{pos:Pos}(hN:X.N[i]?=some x)(hv:Vis X.env.scope x)(hd:(x == ("__debug__":Str))=false:=by decide)(hcd:(x == ("__classdict__":Str))=false:=by decide):PE X (.Name x pos) (BL1 i):=by
 intro pins s σ H Q I h
 obtain ⟨v,e,h⟩:=h
 obtain ⟨m,hn,hl⟩:=I.loc
 obtain ⟨u,r,l⟩:=hl i x v hN e hv
 have fin:EP X pins σ Q u s:=⟨v,H,I,r,h⟩
 rcases l with ⟨hk,hm⟩ | ⟨hk,c,hc,hcell⟩
 ·exact wpAny_Name (wpAny_loadName_local I.ok.kind hk hn hm fin) hd
 ·rcases hk with hk | hk
  ·exact wpAny_Name (wpAny_loadName_cell I.ok.kind hk hc hcell fin) hd
  ·exact wpAny_Name (wpAny_loadName_free I.ok.kind hk hc hcell fin hcd) hd
theorem aM {i j pos}:PE X (.Constant (.int i) j pos) (tC (.int i)):=fun _ _ _ H _ I h=>wpAny_Constant_int ⟨.int i,H,I.tok _,⟨_,rfl⟩,h⟩
theorem lL {b j pos}:PE X (.Constant (.bool b) j pos) (tC (.bl b)):=fun _ _ _ H _ I h=>Constant_bool ⟨.bl b,H,I,rfl,h⟩
theorem jL {j pos}:PE X (.Constant .none j pos) (tC .non):=fun _ _ _ H _ I h=>Constant_none ⟨.non,H,I,rfl,h⟩
theorem aK {x j pos}:PE X (.Constant (.str x) j pos) (tC (.str x)):=fun _ _ _ H _ I h=>Calls.Constant_str ⟨.str x,H,I.tok _,⟨_,rfl⟩,h⟩
def Gl (X:Cx)(x:Str):Prop:=X.env.kindOf x=some .globalImplicit
theorem iD {E:Value->Shared->Prop}{pins:List (Addr × Obj)}{s:Shared}{σ:St}{H:Hp}{x:Str}{u:Value}{pos:Pos}{Q:Value->Shared->Prop}(I:Inv X pins σ H s)(hg:Gl X x)(hm:X.mg x=some u)(h:Q u s)(hd:(x == ("__debug__":Str))=false:=by decide):wpAny (model X.prog X.w) X.A (eval (.Name x pos) X.env) Q E s :=
 Calls.Name_function_global I.ok.kind hg (Calls.loadGlobal_global (by rw [I.ok.glob]; exact I.mod.glob.keeps I.bk) hm h) hd
theorem yZ {E:Value->Shared->Prop}{pins:List (Addr × Obj)}{s:Shared}{σ:St}{H:Hp}{x:Str}{u:Value}{pos:Pos}{Q:Value->Shared->Prop}(I:Inv X pins σ H s)(hg:Gl X x)(hm:X.mg x=none)(hv:bootBuiltins x=some u)(h:Q u s)(hn:x≠"__name__":=by decide)(hd:(x == ("__debug__":Str))=false:=by decide):wpAny (model X.prog X.w) X.A (eval (.Name x pos) X.env) Q E s:=by
 obtain ⟨mb,h1,h2⟩:=I.mod.blt
 exact Calls.Name_function_global I.ok.kind hg (Calls.loadGlobal_builtin (by rw [I.ok.glob]; exact I.mod.glob.keeps I.bk) hm (by rw [I.ok.blt]; exact h1.keeps I.bk) ((h2 x hn).trans hv) h) hd
theorem cR {x:Str}{v:V}{u:Value}{pos:Pos}(hg:Gl X x)(hm:X.mg x=some u)(r:RelV v u)(hd:(x == ("__debug__":Str))=false:=by decide):PE X (.Name x pos) (tC v) :=
 fun _ _ _ H _ I h=>iD I hg hm ⟨v,H,I,r,h⟩ hd
theorem iW {x:Str}{v:V}{u:Value}{pos:Pos}(hg:Gl X x)(hm:X.mg x=none)(hv:bootBuiltins x=some u)(r:RelV v u)(hn:x≠"__name__":=by decide)(hd:(x == ("__debug__":Str))=false:=by decide):PE X (.Name x pos) (tC v) :=
 fun _ _ _ H _ I h=>yZ I hg hm hv ⟨v,H,I,r,h⟩ hn hd
variable {a b:Expr}{ta tb:TE}{pos:Pos}
def PC (X:Cx)(op:CmpOp)(a b:Expr)(t:TE):Prop :=
 ∀ (pins:List (Addr × Obj)) (s:Shared) (σ:St) (H:Hp) (Q:VK),Inv X pins σ H s->t σ H Q ->
  wpAny (model X.prog X.w) X.A (eval a X.env) (fun v s₁=>wpAny (model X.prog X.w) X.A (eval b X.env) (fun u s₂=>wpAny (model X.prog X.w) X.A (compareOp op v u) (EP X pins σ Q) X.xe s₂) X.xe s₁) X.xe s
theorem AN1 (b:Expr){op:CmpOp}(h:op≠.In)(h2:op≠.NotIn):behindInMarks op b=false:=by
 have e1:(op == CmpOp.In)=false:=by cases op <;> first | rfl | exact absurd rfl h
 have e2:(op == CmpOp.NotIn)=false:=by cases op <;> first | rfl | exact absurd rfl h2
 cases b <;> simp [behindInMarks,e1,e2]
def BQ1 (ta:TE):TE:=fun σ H Q=>ta σ H fun x H1=>Q (.bl (decide (x=.non))) H1
def BE4 (ta:TE):TE:=fun σ H Q=>ta σ H fun x H1=>Q (.bl (!decide (x=.non))) H1
theorem RelV.none_iff {x:V}{v:Value}(r:RelV x v):(v == Value.none)=decide (x=.non):=by
 cases x with
 | non=>cases r; rfl
 | bl _=>cases r; rfl
 | int _=>obtain ⟨t,rfl⟩:=r; rfl
 | str _=>obtain ⟨t,rfl⟩:=r; rfl
 | byt _=>obtain ⟨t,rfl⟩:=r; rfl
 | flt _=>obtain ⟨t,rfl⟩:=r; rfl
 | ref _=>cases r; rfl
 | ty _=>cases r; rfl
theorem uK {j pos'}(ha:PE X a ta):PC X .Is a (.Constant .none j pos') (BQ1 ta):=by
 intro pins s σ H Q I h
 refine thn (ha pins s σ H _ I h) fun v s1 ⟨x,H1,I1,r1,q1⟩=>?_
 exact Constant_none (is_none_gen ⟨.bl _,H1,I1,by rw [r1.none_iff]; rfl,q1⟩)
theorem sF {j pos'}(ha:PE X a ta):PC X .IsNot a (.Constant .none j pos') (BE4 ta):=by
 intro pins s σ H Q I h
 refine thn (ha pins s σ H _ I h) fun v s1 ⟨x,H1,I1,r1,q1⟩=>?_
 exact Constant_none (isnot_none_gen ⟨.bl _,H1,I1,by rw [r1.none_iff]; rfl,q1⟩)
def tB (t:TE):TT:=fun σ H Q=>t σ H fun x H1=>∃ c,x=.bl c/\Q c H1
theorem lM {op:CmpOp}{t:TE}(h:PC X op a b t)(h1:behindInMarks op b=false:=by first | exact AN1 _ (by decide) (by decide) | rfl):PT X (.Compare a [op] [b] pos) (tB t):=by
 intro pins s σ H Q I hw
 refine wpAny_isTrue_Compare1 (thn (h pins s σ H _ I hw) fun v s1 h1=>thn h1 fun u s2 h2=>thn h2 fun c s3 ⟨x,H1,I1,r1,q1⟩=>?_) h1
 obtain ⟨d,rfl,q⟩:=q1
 cases r1
 exact wpAny_truthy_bool ⟨H1,I1,q⟩
theorem cP {e:Expr}{t:TE}(h:PE X e t)(he:∀ whole,isTrue e X.env whole=(do let v <- whole; standAt e.pos; holding [v] (truthy v)):=by intro _; rfl):PT X e (tB t):=by
 intro pins s σ H Q I hw
 refine isTrue_plain (thn (h pins s σ H _ I hw) fun v s1 ⟨x,H1,I1,r1,q1⟩=>?_) (he _)
 obtain ⟨d,rfl,q⟩:=q1
 cases r1
 exact wpAny_truthy_bool ⟨H1,I1,q⟩
variable {tA tB':TT}{rest:List Expr}
def BQ2 (t u:TT):TT:=fun σ H Q=>t σ H fun c H1=>if c=true then u σ H1 Q else Q false H1
def tOr (t u:TT):TT:=fun σ H Q=>t σ H fun c H1=>if c=true then Q true H1 else u σ H1 Q
def BQ3 (t:TT):TT:=fun σ H Q=>t σ H fun c H1=>Q (!c) H1
theorem kR (ha:PT X a tA):PW X (.BoolOp .And [a] pos) tA:=by
 intro wh pins s σ H Q I h
 refine isTrue_and (thn (ha pins s σ H Q I h) fun c s1 e=>?_)
 cases c with
 | true=>exact isTrue_and_nil e
 | false=>exact e
theorem eC (ha:PT X a tA):PW X (.BoolOp .Or [a] pos) tA:=by
 intro wh pins s σ H Q I h
 refine isTrue_or (thn (ha pins s σ H Q I h) fun c s1 e=>?_)
 cases c with
 | false=>exact isTrue_or_nil e
 | true=>exact e
theorem nW (ha:PT X a tA)(hb:PW X (.BoolOp .And (b::rest) pos) tB'):PW X (.BoolOp .And (a::b::rest) pos) (BQ2 tA tB'):=by
 intro wh pins s σ H Q I h
 refine isTrue_and (thn (ha pins s σ H _ I h) fun c s1 ⟨H1,I1,q1⟩=>?_)
 cases c with
 | true=>exact hb wh pins s1 σ H1 Q I1 q1
 | false=>exact ⟨H1,I1,q1⟩
theorem iE (ha:PT X a tA)(hb:PW X (.BoolOp .Or (b::rest) pos) tB'):PW X (.BoolOp .Or (a::b::rest) pos) (tOr tA tB'):=by
 intro wh pins s σ H Q I h
 refine isTrue_or (thn (ha pins s σ H _ I h) fun c s1 ⟨H1,I1,q1⟩=>?_)
 cases c with
 | true=>exact ⟨H1,I1,q1⟩
 | false=>exact hb wh pins s1 σ H1 Q I1 q1
theorem gI (ha:PT X a tA):PT X (.UnaryOp .Not a pos) (BQ3 tA):=by
 intro pins s σ H Q I h
 exact isTrue_not (ha pins s σ H (fun c H1=>Q (!c) H1) I h)
def BE5 (ta tb:TE):TE:=fun σ H Q=>ta σ H fun x H1=>∃ c,x=.bl c/\if c=true then tb σ H1 Q else Q (.bl false) H1
def BQ4 (ta tb:TE):TE:=fun σ H Q=>ta σ H fun x H1=>∃ c,x=.bl c/\if c=true then Q (.bl true) H1 else tb σ H1 Q
def BE6 (ta:TE):TE:=fun σ H Q=>ta σ H fun x H1=>∃ c,x=.bl c/\Q (.bl (!c)) H1
theorem nX {op}{t:TE}(h:PE X a t):PE X (.BoolOp op [a] pos) t:=fun pins s σ H Q I hw=>BoolOp_one (h pins s σ H Q I hw)
theorem pG (ha:PE X a ta)(hb:PE X (.BoolOp .And (b::rest) pos) tb):PE X (.BoolOp .And (a::b::rest) pos) (BE5 ta tb):=by
 intro pins s σ H Q I h
 refine BoolOp_and (thn (ha pins s σ H _ I h) fun v s1 ⟨x,H1,I1,r1,q1⟩=>?_)
 obtain ⟨c,rfl,q1⟩:=q1
 cases r1
 refine wpAny_truthy_bool ?_
 cases c with
 | true=>exact hb pins s1 σ H1 Q I1 q1
 | false=>exact ⟨.bl false,H1,I1,rfl,q1⟩
theorem BE7 (ha:PE X a ta)(hb:PE X (.BoolOp .Or (b::rest) pos) tb):PE X (.BoolOp .Or (a::b::rest) pos) (BQ4 ta tb):=by
 intro pins s σ H Q I h
 refine BoolOp_or (thn (ha pins s σ H _ I h) fun v s1 ⟨x,H1,I1,r1,q1⟩=>?_)
 obtain ⟨c,rfl,q1⟩:=q1
 cases r1
 refine wpAny_truthy_bool ?_
 cases c with
 | false=>exact hb pins s1 σ H1 Q I1 q1
 | true=>exact ⟨.bl true,H1,I1,rfl,q1⟩
theorem AD9 (ha:PE X a ta):PE X (.UnaryOp .Not a pos) (BE6 ta):=by
 intro pins s σ H Q I h
 refine UnaryOp_ (thn (ha pins s σ H _ I h) fun v s1 ⟨x,H1,I1,r1,q1⟩=>?_)
 obtain ⟨c,rfl,q1⟩:=q1
 cases r1
 exact not_of (wpAny_truthy_bool ⟨.bl (!c),H1,I1,rfl,q1⟩)
def tIf (t:TT)(ta tb:TE):TE:=fun σ H Q=>t σ H fun c H1=>if c=true then ta σ H1 Q else tb σ H1 Q
theorem AN2 {c:Expr}(hc:PT X c tA)(ha:PE X a ta)(hb:PE X b tb):PE X (.IfExp c a b pos) (tIf tA ta tb):=by
 intro pins s σ H Q I h
 refine wpAny_IfExp (thn (hc pins s σ H _ I h) fun d s1 ⟨H1,I1,q1⟩=>?_)
 cases d with
 | true=>exact ha pins s1 σ H1 Q I1 q1
 | false=>exact hb pins s1 σ H1 Q I1 q1
end
def SqL (K:Frag)(H:Hp)(a:Addr)(xs:List V):Prop :=
 Rd H a (.lst xs) \/
  ∃ (o:Obj) (its:Array Value) (n:Nat),K.lookup a=some o/\o.cls=.type "list"/\o.dict=none/\o.data=.seq its n/\its.size<=sizeLine/\Vals xs its.toList
def SqT (K:Frag)(H:Hp)(a:Addr)(xs:List V):Prop :=
 Rd H a (.tup xs) \/
  ∃ (o:Obj) (its:Array Value) (n:Nat),K.lookup a=some o/\o.cls=.type "tuple"/\o.data=.seq its n/\its.size<=sizeLine/\Vals xs its.toList
def BS7:Value->Option V
 | .none=>some .non
 | .bool b=>some (.bl b)
 | .int i _=>some (.int i)
 | .str x _=>some (.str x)
 | .bytes b _=>some (.byt b)
 | .float b _=>some (.flt b)
 | .ref a=>some (.ref a)
 | .type n=>some (.ty n)
 | _=>none
theorem RelV.abs {x:V}{u:Value}(r:RelV x u):BS7 u=some x:=by
 cases x with
 | non=>cases r; rfl
 | bl _=>cases r; rfl
 | int _=>obtain ⟨t,rfl⟩:=r; rfl
 | str _=>obtain ⟨t,rfl⟩:=r; rfl
 | byt _=>obtain ⟨t,rfl⟩:=r; rfl
 | flt _=>obtain ⟨t,rfl⟩:=r; rfl
 | ref _=>cases r; rfl
 | ty _=>cases r; rfl
theorem RelV.inj {x y:V}{u:Value}(r:RelV x u)(q:RelV y u):x=y:=Option.some.inj (r.abs.symm.trans q.abs)
theorem Vals.inj:∀ {xs ys:List V}{us:List Value},Vals xs us->Vals ys us->xs=ys
 | _,_,_,.nil,.nil=>rfl
 | _,_,_,.cons r t,.cons r' t'=>by rw [r.inj r',Vals.inj t t']
section
variable {X:Cx}{pins:List (Addr × Obj)}{σ:St}{H:Hp}{s:Shared}{a:Addr}{xs ys:List V}
theorem SqL.of {K:Frag}(h:H a=some (.lst xs)):SqL K H a xs:=.inl (.inl h)
theorem SqT.of {K:Frag}(h:H a=some (.tup xs)):SqT K H a xs:=.inl (.inl h)
theorem Inv.list (I:Inv X pins σ H s)(h:SqL X.K H a xs):∃ its:List Value,Vals xs its/\PlainL s.heap a its.toArray/\xs.length<=sizeLine:=by
 rcases h with h | ⟨o,its,n,hk,hc,hd,hs,hz,r⟩
 ·obtain ⟨z,its,n,r,e⟩:=h.ok I.hok
  exact ⟨its,r,⟨_,n,e,rfl,rfl,rfl⟩,z⟩
 ·refine ⟨its.toList,r,⟨o,n,I.kIn a o hk,hc,hd,by simpa using hs⟩,?_⟩
  have e:=r.length
  simp only [Array.length_toList] at e
  omega
theorem Inv.tuple (I:Inv X pins σ H s)(h:SqT X.K H a xs):∃ its:List Value,Vals xs its/\IsTup s.heap a its.toArray/\xs.length<=sizeLine:=by
 rcases h with h | ⟨o,its,n,hk,hc,hs,hz,r⟩
 ·obtain ⟨z,its,r,p⟩:=h.ok I.hok
  exact ⟨its,r,p,z⟩
 ·refine ⟨its.toList,r,⟨o,I.kIn a o hk,hc,n,by simpa using hs⟩,?_⟩
  have e:=r.length
  simp only [Array.length_toList] at e
  omega
theorem Inv.list_inj (I:Inv X pins σ H s)(h:SqL X.K H a xs)(h':SqL X.K H a ys):xs=ys:=by
 obtain ⟨its,r,⟨o,n,e,_,_,d⟩,_⟩:=I.list h
 obtain ⟨its',r',⟨o',n',e',_,_,d'⟩,_⟩:=I.list h'
 rw [e] at e'; cases e'
 rw [d] at d'
 injection d' with d1 _
 have:its=its':=by simpa using congrArg Array.toList d1
 subst this
 exact r.inj r'
theorem Inv.tuple_inj (I:Inv X pins σ H s)(h:SqT X.K H a xs)(h':SqT X.K H a ys):xs=ys:=by
 obtain ⟨its,r,⟨o,e,_,n,d⟩,_⟩:=I.tuple h
 obtain ⟨its',r',⟨o',e',_,n',d'⟩,_⟩:=I.tuple h'
 rw [e] at e'; cases e'
 rw [d] at d'
 injection d' with d1 _
 have:its=its':=by simpa using congrArg Array.toList d1
 subst this
 exact r.inj r'
end
abbrev Cx.wish (X:Cx)(E:Value->Shared->Prop):Cx:={ X with xe:=E }
abbrev Cx.nox (X:Cx):Cx:=X.wish fun _ _=>False
theorem Cx.Ok.wish {X:Cx}(ok:X.Ok)(E:Value->Shared->Prop):(X.wish E).Ok :=
 ⟨ok.mod,ok.kind,ok.glob,ok.blt,ok.above,ok.inj,ok.has,ok.cab,ok.hd,ok.frames,ok.stk,ok.exf,ok.bs,ok.bsz,ok.noex,ok.exfs,ok.funs,ok.frf⟩
theorem Cx.Ok.unwish {X:Cx}{E:Value->Shared->Prop}(ok:(X.wish E).Ok):X.Ok :=
 ⟨ok.mod,ok.kind,ok.glob,ok.blt,ok.above,ok.inj,ok.has,ok.cab,ok.hd,ok.frames,ok.stk,ok.exf,ok.bs,ok.bsz,ok.noex,ok.exfs,ok.funs,ok.frf⟩
section
variable {X:Cx}{pins:List (Addr × Obj)}{σ:St}{H:Hp}{s:Shared}{E:Value->Shared->Prop}
theorem Inv.wish (I:Inv X pins σ H s)(E:Value->Shared->Prop):Inv (X.wish E) pins σ H s:=⟨I.ok.wish E,I.os,I.bare,I.base,I.loc,I.cell,I.free,I.freeC,I.pin,I.hok,I.len⟩
theorem Inv.unwish (I:Inv (X.wish E) pins σ H s):Inv X pins σ H s:=⟨I.ok.unwish,I.os,I.bare,I.base,I.loc,I.cell,I.free,I.freeC,I.pin,I.hok,I.len⟩
theorem SP.unwish {D:Ends}{f:Flow}{s':Shared}(h:SP (X.wish E) pins D f s'):SP X pins D f s':=by
 cases f with
 | next=>obtain ⟨σ',H',I,q⟩:=h; exact ⟨σ',H',I.unwish,q⟩
 | brk=>obtain ⟨σ',H',I,q⟩:=h; exact ⟨σ',H',I.unwish,q⟩
 | cont=>obtain ⟨σ',H',I,q⟩:=h; exact ⟨σ',H',I.unwish,q⟩
 | ret u=>obtain ⟨v,σ',H',I,r,q⟩:=h; exact ⟨v,σ',H',I.unwish,r,q⟩
theorem PSs.nox {st:List Stmt}{t:TS}(h:PSs X.nox st t):PSs X st t:=fun pins s σ H D I hw =>
 wpAny_mono (h pins s σ H D (I.wish _) hw) (fun _ _ q=>q.unwish) fun _ _ z=>False.elim z
end
section
variable {X:Cx}{st:Stmt}{rest:List Stmt}{t u:TS}{e:Expr}{te:TE}{pos:Pos}
def AV5:TS:=fun D σ H=>D.nx σ H
def BL2 (t u:TS):TS:=fun D σ H=>t { D with nx:=u D } σ H
theorem AV6:PSs X [] AV5:=fun _ _ σ H _ I h=>wpAny_execs_nil ⟨σ,H,I,h⟩
theorem AN3 (h1:PS X st t)(h2:PSs X rest u):PSs X (st::rest) (BL2 t u):=by
 intro pins s σ H D I h
 refine wpAny_execs_cons (thn (h1 pins s σ H { D with nx:=u D } I h) fun f s1 q=>?_)
 cases f with
 | next =>
  obtain ⟨σ',H',I',q⟩:=q
  exact h2 pins s1 σ' H' D I' q
 | ret v=>exact q
 | brk=>exact q
 | cont=>exact q
theorem iX (h1:PS X st t):PSs X [st] t:=by
 intro pins s σ H D I h
 refine wpAny_execs_cons (thn (h1 pins s σ H D I h) fun f s1 q=>?_)
 cases f with
 | next=>exact wpAny_execs_nil q
 | ret v=>exact q
 | brk=>exact q
 | cont=>exact q
def AS3:TS:=fun D σ H=>D.bk σ H
theorem AN4:PS X (.Break pos) AS3:=fun _ _ σ H _ I h=>wpAny_Break ⟨σ,H,I,h⟩
theorem Inv.quiet {pins:List (Addr × Obj)}{σ:St}{H:Hp}{s:Shared}(I:Inv X pins σ H s):interactive X.env=false:=by simp [interactive,I.ok.kind]
def BE8 (te:TE):TS:=fun D σ H=>te σ H fun _ H1=>D.nx σ H1
theorem dJ (he:PE X e te)(hs:swapsWith e none pos.line X.env=pure false:=by rfl):PS X (.Expr e pos) (BE8 te):=by
 intro pins s σ H D I h
 exact wpAny_Expr_any (thn (he pins s σ H _ I h) fun v s1 ⟨x,H1,I1,r1,q1⟩=>⟨σ,H1,I1,q1⟩) I.quiet hs
def BK3 (te:TE):TS:=fun D σ H=>te σ H D.rt
theorem BE9 (he:PE X e te):PS X (.Return (some e) pos) (BK3 te):=by
 intro pins s σ H D I h
 exact wpAny_Return_some (thn (he pins s σ H _ I h) fun v s1 ⟨x,H1,I1,r1,q1⟩=>⟨x,σ,H1,I1,r1,q1⟩)
def BL3:TS:=fun D _ H=>D.rt .non H
def BL4 (c:TT)(t u:TS):TS:=fun D σ H=>c σ H fun b H1=>if b=true then t D σ H1 else u D σ H1
theorem BL5 {c:Expr}{a b:List Stmt}{tc:TT}(hc:PT X c tc)(ha:PSs X a t)(hb:PSs X b u):PS X (.If c a b pos) (BL4 tc t u):=by
 intro pins s σ H D I h
 refine wpAny_If (thn (hc pins s σ H _ I h) fun d s1 ⟨H1,I1,q1⟩=>?_)
 cases d with
 | true=>exact ha pins s1 σ H1 D I1 q1
 | false=>exact hb pins s1 σ H1 D I1 q1
def AS4:TS:=fun _ _ _=>False
theorem uL {sts:List Stmt}:PSs X sts AS4:=fun _ _ _ _ _ _ h=>h.elim
end
abbrev TG:=V->St->Hp->(St->Hp->Prop)->Prop
abbrev TGs:=List V->St->Hp->(St->Hp->Prop)->Prop
def PG (X:Cx)(target:Expr)(t:TG):Prop :=
 ∀ (pins:List (Addr × Obj)) (s:Shared) (σ:St) (H:Hp) (v:V) (u:Value) (Q:St->Hp->Prop),Inv X pins σ H s->RelV v u->t v σ H Q ->
  wpAny (model X.prog X.w) X.A (assign target X.env u) (fun _ s'=>∃ σ' H',Inv X pins σ' H' s'/\Q σ' H') X.xe s
def PGs (X:Cx)(ts:List Expr)(t:TGs):Prop :=
 ∀ (pins:List (Addr × Obj)) (s:Shared) (σ:St) (H:Hp) (vs:List V) (us:List Value) (Q:St->Hp->Prop),Inv X pins σ H s->Vals vs us->t vs σ H Q ->
  wpAny (model X.prog X.w) X.A (assignInOrder ((assignEach ts X.env).map (·.2)) us) (fun _ s'=>∃ σ' H',Inv X pins σ' H' s'/\Q σ' H') X.xe s
abbrev BK4:=V->V->V->Hp->(Hp->Prop)->Prop
def BQ5 (X:Cx)(t:BK4):Prop :=
 ∀ (pins:List (Addr × Obj)) (s:Shared) (σ:St) (H:Hp) (o i v:V) (ov iv u:Value) (Q:Hp->Prop),Inv X pins σ H s->RelV o ov->RelV i iv->RelV v u->t o i v H Q ->
  wpAny (model X.prog X.w) X.A (setItem ov iv u) (fun _ s'=>∃ H',Inv X pins σ H' s'/\Q H') X.xe s
section
variable {X:Cx}{pos:Pos}
def wL (i:Nat):TG:=fun v σ H Q=>Q (σ.set i (some v)) H
theorem bO {i:Nat}{x:Str}(hN:X.N.Nodup)(hi:X.N[i]?=some x)(hx:Loc X.env.scope x)(hf:X.fn x=true\/X.env.scope.names.lookup x=some .local:=by first | exact .inl rfl | exact .inr rfl | assumption):PG X (.Name x pos) (wL i):=by
 intro pins s σ H v u Q I r h
 exact wpAny_assign_Name (lK I hN hi hx r (fun s' I'=>⟨_,H,I',h⟩) hf)
def BQ6:TGs:=fun vs σ H Q=>vs=[]/\Q σ H
def BF0 (t:TG)(u:TGs):TGs:=fun vs σ H Q=>∃ v r,vs=v::r/\t v σ H fun σ' H'=>u r σ' H' Q
theorem sG:PGs X [] BQ6:=by
 intro pins s σ H vs us Q I r h
 obtain ⟨e,h⟩:=h
 subst e
 cases r
 exact assignInOrder_nil ⟨σ,H,I,h⟩
theorem gY {e:Expr}{es:List Expr}{t:TG}{u:TGs}(h1:PG X e t)(h2:PGs X es u)(hs:(assignEach (e::es) X.env).map (·.2)=assign e X.env::(assignEach es X.env).map (·.2):=by rfl):PGs X (e::es) (BF0 t u):=by
 intro pins s σ H vs us Q I r h
 obtain ⟨v,vr,e1,h⟩:=h
 subst e1
 cases r with
 | cons r rr =>
  rw [hs]
  refine assignInOrder_cons (thn (h1 pins s σ H _ _ _ I r h) fun _ s1 ⟨σ1,H1,I1,q1⟩=>?_)
  exact h2 pins s1 σ1 H1 _ _ Q I1 rr q1
def BQ7 (K:Frag)(n:Nat)(t:TGs):TG:=fun v σ H Q=>∃ a xs,v=.ref a/\SqT K H a xs/\xs.length=n/\t xs σ H Q
theorem zA {es:List Expr}{k:Nat}{t:TGs}{n:Nat}(hc:X.calm=true)(h:PGs X es t)(hn:(assignEach es X.env).length=n:=by rfl)(hst:(assignEach es X.env).findIdx? (·.1)=none:=by rfl):PG X (.Tuple es k pos) (BQ7 X.K n t):=by
 intro pins s σ H v u Q I r hw
 obtain ⟨a,xs,e1,hq,hl,hw⟩:=hw
 subst e1
 cases r
 obtain ⟨its,rv,ht,hz⟩:=I.tuple hq
 refine assign_Tuple_tuple (I.ok.hd hc) ht (by simp [hn,<- hl,rv.length]) hst fun h' hx=>?_
 have I1:Inv X pins σ H { s with heap:=h' }:=I.kept (t':=s.toks) fun b o e=>hx b o (Nat.ne_of_lt (Heap.lt_size e)) e
 exact h pins _ σ H xs _ Q I1 (by simpa using rv) hw
def BQ8 (to ti:TE)(t:BK4):TG:=fun v σ H Q=>to σ H fun o H1=>ti σ H1 fun i H2=>t o i v H2 fun H3=>Q σ H3
theorem zB {o i:Expr}{to ti:TE}{t:BK4}(ho:PE X o to)(hi:PE X i ti)(hs:BQ5 X t)(ha:∀ v,assign (.Subscript o i pos) X.env v=(do
   let ov <- holding [v] (eval o X.env)
   let iv <- holding [v,ov] (eval i X.env)
   standAt pos
   holding [v,ov,iv] (setItem ov iv v)
   release [v,ov,iv] []):=by intro _; rfl):PG X (.Subscript o i pos) (BQ8 to ti t):=by
 intro pins s σ H v u Q I r h
 rw [ha]
 refine wpAny_bind (wpAny_holding (thn (ho pins s σ H _ I h) fun ov s1 ⟨x,H1,I1,r1,q1⟩=>?_))
 refine wpAny_bind (wpAny_holding (thn (hi pins s1 σ H1 _ I1 q1) fun iv s2 ⟨y,H2,I2,r2,q2⟩=>?_))
 refine wpAny_bind (wpAny_standAt (wpAny_bind (wpAny_holding (thn (hs pins s2 σ H2 x y v ov iv u _ I2 r1 r2 r q2) fun _ s3 ⟨H3,I3,q3⟩=>?_))))
 exact wpAny_release ⟨σ,H3,I3,q3⟩
def AV7 (te:TE)(g:TG):TS:=fun D σ H=>te σ H fun x H1=>g x σ H1 D.nx
theorem nY {tg e:Expr}{te:TE}{g:TG}(he:PE X e te)(hg:PG X tg g)(hs:swapsWithSole [tg] e pos.line X.env=pure false:=by rfl)(hw:swappedStores [tg] e X.env=pure none:=by rfl)(h1:(assignEach [tg] X.env).map (·.2)=[assign tg X.env]:=by rfl):PS X (.Assign [tg] e pos) (AV7 te g):=by
 intro pins s σ H D I h
 refine wpAny_Assign_stores (thn (he pins s σ H _ I h) fun v s1 ⟨x,H1,I1,r1,q1⟩=>?_) hs hw
 rw [h1]
 exact thn (hg pins s1 σ H1 x v _ I1 r1 q1) fun _ s2 q=>q
theorem BF1 {i:Nat}{x:Str}{e:Expr}{te:TE}{pos':Pos}(hN:X.N.Nodup)(hi:X.N[i]?=some x)(hx:Loc X.env.scope x)(he:PE X e te)(hs:swapsWith e (some (.Name x pos')) pos.line X.env=pure false:=by rfl)(hf:X.fn x=true\/X.env.scope.names.lookup x=some .local:=by first | exact .inl rfl | exact .inr rfl | assumption) :
  PS X (.Assign [.Name x pos'] e pos) (AV7 te (wL i)):=by
 intro pins s σ H D I h
 refine wpAny_Assign_Name (thn (he pins s σ H _ I h) fun v s1 ⟨y,H1,I1,r1,q1⟩=>?_) hs
 exact lK I1 hN hi hx r1 (fun s2 I2=>⟨_,H1,I2,q1⟩) hf
end
section
variable {X:Cx}{pos:Pos}
def AS5 (c:TT)(tb:TS):TS:=fun D σ H=>∃ W:Nat->St->Hp->Prop,(∃ m,W m σ H)/\∀ m σ H,W m σ H ->
 c σ H fun b H1=>if b=true then ∃ N:St->Hp->Prop,(∀ σ' H',N σ' H'->∃ m',m' < m/\W m' σ' H')/\tb { D with nx:=N,ct:=N,bk:=D.nx } σ H1 else D.nx σ H1
theorem jX {c:Expr}{body:List Stmt}{tc:TT}{tb:TS}(hp:PassesOwn (model X.prog X.w) X.A X.env X.xe)(hc:PT X c tc)(hb:PSs X body tb):PS X (.While c body [] pos) (AS5 tc tb):=by
 intro pins s σ H D I h
 obtain ⟨W,⟨m0,w0⟩,turn⟩:=h
 refine wpAny_While (codeAny_whileLoop (fun n s'=>∃ σ' H',Inv X pins σ' H' s'/\W n σ' H') ?_ m0 ⟨σ,H,I,w0⟩)
 rintro n s1 ⟨σ1,H1,I1,w1⟩
 refine wpAny_passesOwn hp (thn (hc pins s1 σ1 H1 _ I1 (turn n σ1 H1 w1)) fun b s2 ⟨H2,I2,q2⟩=>?_)
 cases b with
 | true =>
  obtain ⟨N,hN,q2⟩:=q2
  rw [if_pos rfl]
  refine wpAny_passesOwn hp (thn (hb pins s2 σ1 H2 _ I2 q2) fun f s3 q3=>?_)
  cases f with
  | next =>
   obtain ⟨σ3,H3,I3,n3⟩:=q3
   obtain ⟨m',hm,w3⟩:=hN σ3 H3 n3
   exact ⟨m',hm,σ3,H3,I3,w3⟩
  | cont =>
   obtain ⟨σ3,H3,I3,n3⟩:=q3
   obtain ⟨m',hm,w3⟩:=hN σ3 H3 n3
   exact ⟨m',hm,σ3,H3,I3,w3⟩
  | brk=>exact q3
  | ret v=>exact q3
 | false =>
  rw [if_neg Bool.false_ne_true]
  exact wpAny_execs_nil ⟨σ1,H2,I2,q2⟩
end
structure It where
 go:Nat->Hp->Prop
 yld:Nat->Hp->V->Hp->Prop
 stop:Nat->Hp->Prop
def AS6 (X:Cx)(pins:List (Addr × Obj))(H:Hp)(b:Addr):Prop :=
 H b=none/\b≠X.env.locals/\b ∉ X.fs/\(b∈X.ex\/X.s₀.heap.objs.size<=b)/\(∀ x c,X.env.cells.lookup x=some c->c≠b)/\∀ p∈X.pn++pins,p.1≠b
theorem Inv.fpOk {X:Cx}{pins:List (Addr × Obj)}{σ:St}{H H':Hp}{s:Shared}{b:Addr}(I:Inv X pins σ H s)(hb:s.heap.objs.size<=b)(hn:H' b=none):AS6 X pins H' b:=by
 refine ⟨hn,Nat.ne_of_gt (Nat.lt_of_lt_of_le I.lt hb),I.nofs hb,.inr (Nat.le_trans I.sz hb),fun x c e z=>?_,fun p hp z=>?_⟩
 ·obtain ⟨v,q⟩:=I.cell x c e
  exact absurd (Nat.lt_of_lt_of_le q.lt (by rw [z]; exact hb)) (Nat.lt_irrefl _)
 ·exact absurd (Nat.lt_of_lt_of_le (Heap.lt_size (I.pin p hp).1) (by rw [z]; exact hb)) (Nat.lt_irrefl _)
structure Turn (P:Program) (w:World) (K:Frag) (tg:Expr) (J:It) (fp:List Addr) (it:Addr) (tn:Nat->Heap->Prop):Prop where
 mem:it∈fp
 obj:∀ i h,tn i h->∀ b∈fp,∃ o,h.get? b=some o/\∀ v,o.data≠.cell v
 keep:∀ i h h',tn i h->(∀ b∈fp,∀ o,h.get? b=some o->h'.get? b=some o)->tn i h'
 item:∀ (X:Cx),X.prog=P->X.w=w->X.K=K->X.calm=true->∀ (i:Nat) (pins:List (Addr × Obj)) (s:Shared) (σ:St) (H:Hp) (E:Value->Shared->Prop),Inv X pins σ H s->(∀ b∈fp,AS6 X pins H b)->tn i s.heap->J.go i H ->
  wpAny (model P w) X.A (pyNext (.ref it)) (fun r s1=>∃ u,r=some u /\
   wpAny (model P w) X.A (letOwnedTupleGo tg (.ref it) u) (fun _ s2=>∃ x H',Inv X pins σ H' s2/\RelV x u/\J.yld i H x H'/\tn (i+1) s2.heap/\∀ b∈fp,H' b=none) E s1) E s
 done:∀ (X:Cx),X.prog=P->X.w=w->X.K=K->X.calm=true->∀ (i:Nat) (pins:List (Addr × Obj)) (s:Shared) (σ:St) (H:Hp) (E:Value->Shared->Prop),Inv X pins σ H s->(∀ b∈fp,AS6 X pins H b)->tn i s.heap->J.stop i H ->
  wpAny (model P w) X.A (pyNext (.ref it)) (fun r s1=>r=none/\Inv X pins σ H s1) E s
 self:∀ (A:Around) (i:Nat) (s:Shared) (Q:Value->Shared->Prop) (E:Value->Shared->Prop),tn i s.heap->Q (.ref it) s->wpAny (model P w) A (pyIter (.ref it)) Q E s
abbrev TI:=St->Hp->(It->Hp->Prop)->Prop
def PIE (X:Cx)(pins:List (Addr × Obj))(σ:St)(tg:Expr)(R:It->Hp->Prop)(itv:Value)(s2:Shared):Prop :=
 ∃ (it:Addr) (fp:List Addr) (tn:Nat->Heap->Prop) (J:It) (H':Hp),itv=.ref it/\Inv X pins σ H' s2/\Turn X.prog X.w X.K tg J fp it tn/\tn 0 s2.heap/\(∀ b∈fp,AS6 X pins H' b)/\R J H'
def PI (X:Cx)(tg iter:Expr)(wi:TI):Prop :=
 ∀ (pins:List (Addr × Obj)) (s:Shared) (σ:St) (H:Hp) (R:It->Hp->Prop),Inv X pins σ H s->wi σ H R ->
  wpAny (model X.prog X.w) X.A (eval iter X.env) (fun v s1=>wpAny (model X.prog X.w) X.A (pyIter v) (PIE X pins σ tg R) X.xe s1) X.xe s
theorem AN5 {M:Model}{A:Around}{E:Value->Shared->Prop}{s:Shared}{tg:Expr}{it:Addr}{u:Value}{o:Obj}{n:String}{vs:Array Value}{Q:Unit->Shared->Prop}(ho:s.heap.get? it=some o)(hc:o.cls=.type n)(hd:o.data=.fields vs)(hn:["enumerate","zip","dict_itemiterator","dict_reverseitemiterator","odict_iterator","itertools.zip_longest","itertools.pairwise"].contains n=false)(hQ:Q () s):wpAny M A (letOwnedTupleGo tg (.ref it) u) Q E s:=by
  unfold letOwnedTupleGo
  cases tg <;> first
    | exact wpAny_pure hQ
    | (cases u <;> first
        | exact wpAny_pure hQ
        | (refine wpAny_bind (wpAny_load ho ?_)
           rw [hc,hd]
           show wpAny M A (if (["enumerate","zip","dict_itemiterator","dict_reverseitemiterator","odict_iterator","itertools.zip_longest","itertools.pairwise"].contains n && vs[0]? == some (rawInt _))=true then _ else _) Q E s
           rw [if_neg (by intro h; rw [hn,Bool.false_and] at h; cases h)]
           exact wpAny_pure hQ))
def Itl (K:Frag)(a:Addr):It :=
 ⟨fun i H=>∃ xs x,SqL K H a xs/\xs[i]?=some x,fun i H x H'=>H'=H/\∀ xs,SqL K H a xs->xs[i]?=some x,fun i H=>∃ xs,SqL K H a xs/\xs.length<=i⟩
def Itt (K:Frag)(a:Addr):It :=
 ⟨fun i H=>∃ xs x,SqT K H a xs/\xs[i]?=some x,fun i H x H'=>H'=H/\∀ xs,SqT K H a xs->xs[i]?=some x,fun i H=>∃ xs,SqT K H a xs/\xs.length<=i⟩
def Itr (lo:Int)(n:Nat):It:=⟨fun i _=>i < n,fun i H x H'=>H'=H/\x=.int (lo+i),fun i _=>n<=i⟩
theorem AE0 {P:Program}{w:World}{K:Frag}{tg:Expr}(a it:Addr):Turn P w K tg (Itl K a) [it] it (fun i h=>h.IsListIter it a i) where
 mem:=by simp
 obj:=fun i h st b hb=>by
  have e:b=it:=by simpa using hb
  subst e
  obtain ⟨o,e,c,d⟩:=st
  exact ⟨o,e,fun v z=>by rw [d] at z; cases z⟩
 keep:=fun i h h' st k=>st.at fun o e=>k it (by simp) o e
 item:=by
  intro X hP hw hK hc i pins s σ H E I hf st hg
  subst hP hw hK
  obtain ⟨xs,x,hq,hx⟩:=hg
  obtain ⟨its,rv,p,hz⟩:=I.list hq
  obtain ⟨u,hu,ru⟩:=rv.get hx
  obtain ⟨f0,f1,f2,f3,f4,f5⟩:=hf it (by simp)
  refine wpAny_pyNext_list_item st p.isList (x:=u) (by simpa using hu) fun h' st' sb=>?_
  have I1:Inv X pins σ H { s with heap:=h' }:=I.turned (t':=s.toks) (fun b o hb e=>(sb.2 b hb).trans e) f0 f1 f3 f4 f5
  obtain ⟨o,e,c,d⟩:=id st'
  exact ⟨u,rfl,AN5 (s:={ s with heap:=h' }) e c d (by decide) ⟨x,H,I1,ru,⟨rfl,fun ys hy=>by rw [I.list_inj hy hq]; exact hx⟩,st',fun b hb=>(hf b hb).1⟩⟩
 done:=by
  intro X hP hw hK hc i pins s σ H E I hf st hg
  subst hP hw hK
  obtain ⟨xs,hq,hx⟩:=hg
  obtain ⟨its,rv,p,hz⟩:=I.list hq
  obtain ⟨f0,f1,f2,f3,f4,f5⟩:=hf it (by simp)
  have hl:=rv.length
  exact wpAny_pyNext_list_end (I.ok.hd hc) st p.isList (by simp; omega) fun h' eb=>⟨rfl,I.turned (t':=s.toks) (fun b o hb e=>eb b o hb e) f0 f1 f3 f4 f5⟩
 self:=fun _ _ _ _ _ st h=>wpAny_pyIter_listiter st h
theorem AB1 {P:Program}{w:World}{K:Frag}{tg:Expr}(a it:Addr):Turn P w K tg (Itt K a) [it] it (fun i h=>h.IsTupleIter it a i) where
 mem:=by simp
 obj:=fun i h st b hb=>by
  have e:b=it:=by simpa using hb
  subst e
  obtain ⟨o,e,c,d⟩:=st
  exact ⟨o,e,fun v z=>by rw [d] at z; cases z⟩
 keep:=fun i h h' st k=>st.at fun o e=>k it (by simp) o e
 item:=by
  intro X hP hw hK hc i pins s σ H E I hf st hg
  subst hP hw hK
  obtain ⟨xs,x,hq,hx⟩:=hg
  obtain ⟨its,rv,p,hz⟩:=I.tuple hq
  obtain ⟨u,hu,ru⟩:=rv.get hx
  obtain ⟨f0,f1,f2,f3,f4,f5⟩:=hf it (by simp)
  refine wpAny_pyNext_tuple_item st (show s.heap.IsTuple a its.toArray from p) (x:=u) (by simpa using hu) fun h' st' sb=>?_
  have I1:Inv X pins σ H { s with heap:=h' }:=I.turned (t':=s.toks) (fun b o hb e=>(sb.2 b hb).trans e) f0 f1 f3 f4 f5
  obtain ⟨o,e,c,d⟩:=id st'
  exact ⟨u,rfl,AN5 (s:={ s with heap:=h' }) e c d (by decide) ⟨x,H,I1,ru,⟨rfl,fun ys hy=>by rw [I.tuple_inj hy hq]; exact hx⟩,st',fun b hb=>(hf b hb).1⟩⟩
 done:=by
  intro X hP hw hK hc i pins s σ H E I hf st hg
  subst hP hw hK
  obtain ⟨xs,hq,hx⟩:=hg
  obtain ⟨its,rv,p,hz⟩:=I.tuple hq
  obtain ⟨f0,f1,f2,f3,f4,f5⟩:=hf it (by simp)
  have hl:=rv.length
  exact wpAny_pyNext_tuple_end (I.ok.hd hc) st (show s.heap.IsTuple a its.toArray from p) (by simp; omega) fun h' eb=>⟨rfl,I.turned (t':=s.toks) (fun b o hb e=>eb b o hb e) f0 f1 f3 f4 f5⟩
 self:=fun _ _ _ _ _ st h=>wpAny_pyIter_tupleiter st h
theorem AB2 {P:Program}{w:World}{K:Frag}{tg:Expr}(it:Addr)(lo:Int)(n:Nat):Turn P w K tg (Itr lo n) [it] it (fun i h=>IsRangeIter h it (lo+(i:Nat) * 1) ((n:Int) - (i:Nat)) 1) where
 mem:=by simp
 obj:=fun i h st b hb=>by
  have e:b=it:=by simpa using hb
  subst e
  exact ⟨_,st,fun v z=>by
   have z':Data.fields _=Data.cell v:=z
   cases z'⟩
 keep:=fun i h h' st k=>k it (by simp) _ st
 item:=by
  intro X hP hw hK hc i pins s σ H E I hf st hg
  subst hP hw hK
  obtain ⟨f0,f1,f2,f3,f4,f5⟩:=hf it (by simp)
  have W:=Walks.range (prog:=X.prog) (w:=X.w) (I.ok.hd hc) it lo 1 n
  refine W.item i s _ _ hg st fun v h' tk hv st' kk=>?_
  obtain ⟨t,rfl⟩:=hv
  have I1:Inv X pins σ H { s with heap:=h',toks:=tk }:=I.turned (fun b o hb e=>kk b o (by simpa using hb) e) f0 f1 f3 f4 f5
  refine ⟨_,rfl,AN5 (s:={ s with heap:=h',toks:=tk }) (n:="range_iterator") st' rfl rfl (by decide) ⟨.int (lo+i),H,I1,⟨t,?_⟩,⟨rfl,rfl⟩,st',fun b hb=>(hf b hb).1⟩⟩
  rw [Int.mul_one]
 done:=by
  intro X hP hw hK hc i pins s σ H E I hf st hg
  subst hP hw hK
  obtain ⟨f0,f1,f2,f3,f4,f5⟩:=hf it (by simp)
  exact wpAny_pyNext_range_end (I.ok.hd hc) st (by have:n<=i:=hg; omega) fun h' eb=>⟨rfl,I.turned (t':=s.toks) (fun b o hb e=>eb b o hb e) f0 f1 f3 f4 f5⟩
 self:=fun _ _ _ _ _ st h=>wpAny_pyIter_rangeiter st h
section
variable {X:Cx}{tg:Expr}
def AV8 (K:Frag)(tl:TE):TI:=fun σ H R=>tl σ H fun x H1=>∃ a,x=.ref a/\(∃ xs,SqL K H1 a xs)/\R (Itl K a) H1
def BL6 (K:Frag)(tl:TE):TI:=fun σ H R=>tl σ H fun x H1=>∃ a,x=.ref a/\(∃ xs,SqT K H1 a xs)/\R (Itt K a) H1
theorem mT {l:Expr}{tl:TE}(hl:PE X l tl):PI X tg l (AV8 X.K tl):=by
 intro pins s σ H R I h
 refine thn (hl pins s σ H _ I h) fun v s1 ⟨x,H1,I1,r1,q1⟩=>?_
 obtain ⟨a,e,⟨xs,hq⟩,q⟩:=q1
 subst e
 cases r1
 obtain ⟨its,rv,p,hz⟩:=I1.list hq
 refine wpAny_pyIter_list p.isList ?_
 refine ⟨s1.heap.objs.size,[s1.heap.objs.size],_,_,H1,rfl,I1.kept (t':=s1.toks) fun b o e=>Heap.get?_push_of_some _ e,AE0 a _,⟨_,Heap.get?_push_size _ rfl,rfl,rfl⟩,fun b hb=>?_,q⟩
 have e:b=s1.heap.objs.size:=by simpa using hb
 subst e
 exact I1.fpOk (Nat.le_refl _) (I1.hok.fresh (Nat.le_refl _))
theorem BF2 {l:Expr}{tl:TE}(hl:PE X l tl):PI X tg l (BL6 X.K tl):=by
 intro pins s σ H R I h
 refine thn (hl pins s σ H _ I h) fun v s1 ⟨x,H1,I1,r1,q1⟩=>?_
 obtain ⟨a,e,⟨xs,hq⟩,q⟩:=q1
 subst e
 cases r1
 obtain ⟨its,rv,p,hz⟩:=I1.tuple hq
 refine wpAny_pyIter_tuple (show s1.heap.IsTuple a its.toArray from p) ?_
 refine ⟨s1.heap.objs.size,[s1.heap.objs.size],_,_,H1,rfl,I1.kept (t':=s1.toks) fun b o e=>Heap.get?_push_of_some _ e,AB1 a _,⟨_,Heap.get?_push_size _ rfl,rfl,rfl⟩,fun b hb=>?_,q⟩
 have e:b=s1.heap.objs.size:=by simpa using hb
 subst e
 exact I1.fpOk (Nat.le_refl _) (I1.hok.fresh (Nat.le_refl _))
theorem AN6 {pins:List (Addr × Obj)}{σ:St}{H:Hp}{s:Shared}{R:It->Hp->Prop}{E:Value->Shared->Prop}{lo hi:Int}{t u v:Tok}{tk:Nat}(I:Inv X pins σ H s)(h1:-(2 ^ 62)<=lo)(h2:lo < 2 ^ 62)(h3:-(2 ^ 62)<=hi)(h4:hi < 2 ^ 62)(q:R (Itr lo (hi - lo).toNat) H):wpAny (model X.prog X.w) X.A (pyIter (.ref s.heap.objs.size)) (PIE X pins σ tg R) E { s with heap:=s.heap.push { cls:=.type "range",data:=.fields #[.int lo t,.int hi u,.int 1 v] },toks:=tk }:=by
 refine wpAny_pyIter_range (IsRange.new ..) (small_one h1 h2 h3 h4) ?_
 have I1:Inv X pins σ H { s with heap:=s.heap.push { cls:=.type "range",data:=.fields #[.int lo t,.int hi u,.int 1 v] },toks:=tk }:=I.kept fun b o e=>Heap.get?_push_of_some _ e
 refine ⟨(s.heap.push { cls:=.type "range",data:=.fields #[.int lo t,.int hi u,.int 1 v] }).objs.size,[(s.heap.push { cls:=.type "range",data:=.fields #[.int lo t,.int hi u,.int 1 v] }).objs.size],_,_,H,rfl,
  I1.kept (t':=tk) fun b o e=>Heap.get?_push_of_some _ e,AB2 _ lo (hi - lo).toNat,?_,fun b hb=>?_,q⟩
 ·have e1:lo+((0:Nat):Int) * 1=lo:=by simp
  have e2:(((hi - lo).toNat:Nat):Int) - ((0:Nat):Int)=Builtin.Range.rangeSize lo hi 1:=by rw [rangeSize_one]; split <;> omega
  show IsRangeIter _ _ (lo+((0:Nat):Int) * 1) ((((hi - lo).toNat:Nat):Int) - ((0:Nat):Int)) 1
  rw [e1,e2]
  exact Heap.get?_push_size _ rfl
 ·have e:b=(s.heap.push { cls:=.type "range",data:=.fields #[.int lo t,.int hi u,.int 1 v] }).objs.size:=by simpa using hb
  subst e
  exact I1.fpOk (Nat.le_refl _) (I1.hok.fresh (Nat.le_refl _))
def AV9 (ta:TA):TI:=fun σ H R=>ta σ H fun vs H1=>∃ j:Int,vs=[.int j]/\-(2 ^ 62)<=j/\j < 2 ^ 62/\R (Itr 0 j.toNat) H1
def BF3 (ta:TA):TI:=fun σ H R=>ta σ H fun vs H1=>∃ i j:Int,vs=[.int i,.int j]/\(-(2 ^ 62)<=i/\i < 2 ^ 62/\-(2 ^ 62)<=j/\j < 2 ^ 62)/\R (Itr i (j - i).toNat) H1
theorem gJ {a:Expr}{ta:TA}{p pos:Pos}(hg:Gl X "range")(hm:X.mg "range"=none)(ha:PA X [a] ta)(hs:starEach [a] X.env=[(false,eval a X.env)]:=by rfl):PI X tg (.Call (.Name "range" p) [a] [] pos) (AV9 ta):=by
 intro pins s σ H R I h
 refine Call_ (yZ I hg hm boot_range (PyProof.Rows.callWith_type1 (thn (ha pos pins s σ H _ I h) fun us s1 ⟨vs,H1,I1,r1,q1⟩=>?_) hs rfl))
 obtain ⟨j,e,q1,q2,q⟩:=q1
 subst e
 cases r1 with
 | cons r rr =>
  cases rr
  obtain ⟨t,rfl⟩:=r
  exact call_range_1 (AN6 I1 (by omega) (by omega) q1 q2 (by simpa using q))
def BD4 (wi:TI)(g:TG)(tb:TS):TS:=fun D σ H=>wi σ H fun J H1=>∃ W:Nat->Nat->St->Hp->Prop,(∃ m,W 0 m σ H1)/\∀ i m σ H,W i m σ H ->
 (J.stop i H/\D.nx σ H)\/(J.go i H/\∃ N:St->Hp->Prop,(∀ σ' H',N σ' H'->∃ m',m' < m/\W (i+1) m' σ' H')/\∀ x H',J.yld i H x H'->g x σ H' fun σ2 H2=>tb { D with nx:=N,ct:=N,bk:=D.nx } σ2 H2)
def lN (fp:List Addr)(h:Heap):List (Addr × Obj):=fp.filterMap fun b=>(h.get? b).map fun o=>(b,o)
theorem jY {fp:List Addr}{h:Heap}{b:Addr}{o:Obj}(hb:b∈fp)(e:h.get? b=some o):(b,o)∈lN fp h:=List.mem_filterMap.mpr ⟨b,hb,by rw [e]; rfl⟩
theorem uM {fp:List Addr}{h:Heap}{p:Addr × Obj}(hp:p∈lN fp h):p.1∈fp/\h.get? p.1=some p.2:=by
 obtain ⟨b,hb,e⟩:=List.mem_filterMap.mp hp
 cases q:h.get? b with
 | none=>rw [q] at e; cases e
 | some o =>
  rw [q] at e
  have e':(b,o)=p:=Option.some.inj e
  subst e'
  exact ⟨hb,q⟩
theorem Inv.pinned {pins:List (Addr × Obj)}{σ:St}{H:Hp}{s:Shared}{fp:List Addr}(I:Inv X pins σ H s)(hf:∀ b∈fp,AS6 X pins H b)(ho:∀ b∈fp,∃ o,s.heap.get? b=some o/\∀ v,o.data≠.cell v):Inv X (pins++lN fp s.heap) σ H s :=
 I.pins_of fun p hp=>(List.mem_append.mp hp).elim (fun z=>I.pin p (List.mem_append_right _ z)) fun z=>by
  obtain ⟨hb,e⟩:=uM z
  obtain ⟨f0,f1,f2,_⟩:=hf p.1 hb
  obtain ⟨o,e',d⟩:=ho p.1 hb
  rw [e] at e'; cases e'
  exact ⟨e,f0,f1,f2,d⟩
theorem Inv.unpinned {pins pl:List (Addr × Obj)}{σ:St}{H:Hp}{s:Shared}(I:Inv X (pins++pl) σ H s):Inv X pins σ H s:=I.pins_of fun p hp=>I.pin p (List.mem_append_right _ (List.mem_append_left _ hp))
theorem uN {iter:Expr}{body:List Stmt}{wi:TI}{g:TG}{tb:TS}{pos:Pos}(hp:PassesOwn (model X.prog X.w) X.A X.env X.xe)(hc:X.calm=true)(hi:PI X tg iter wi)(hg:PG X tg g)(hb:PSs X body tb)(hs:∀ x,foldedSetIterable iter X.env x=pure x:=by intro _; rfl):PS X (.For tg iter body [] pos) (BD4 wi g tb):=by
 intro pins s σ H D I h
 refine wpAny_For (thn (hi pins s σ H _ I h) fun v s1 h1=>thn h1 fun itv s2 h2=>?_) hs
 obtain ⟨it,fp,tn,J,H2,e,I2,T,st2,f2,W,⟨m0,w0⟩,turn⟩:=h2
 subst e
 -- what stays true of the iterator's objects through the loop
 have stat:∀ {H':Hp},(∀ b∈fp,H' b=none)->∀ b∈fp,AS6 X pins H' b:=fun hn b hb=>⟨hn b hb,(f2 b hb).2⟩
 refine codeAny_forLoop_any (fun n s'=>∃ i σ' H',Inv X pins σ' H' s'/\tn i s'.heap/\(∀ b∈fp,H' b=none)/\W i n σ' H') ?_ m0 ⟨0,σ,H2,I2,st2,fun b hb=>(f2 b hb).1,w0⟩
 rintro n s3 ⟨i,σ3,H3,I3,st3,fr3,w3⟩
 rcases turn i n σ3 H3 w3 with ⟨stop,qn⟩ | ⟨go,N,hN,step⟩
 ·refine wpAny_passesOwn hp (thn (T.done X rfl rfl rfl hc i pins s3 σ3 H3 X.xe I3 (stat fr3) st3 stop) fun r s4 ⟨hr,I4⟩=>?_)
  subst hr
  exact wpAny_execs_nil ⟨σ3,H3,I4,qn⟩
 ·refine wpAny_passesOwn hp (thn (T.item X rfl rfl rfl hc i pins s3 σ3 H3 X.xe I3 (stat fr3) st3 go) fun r s4 ⟨u,hr,h4⟩=>?_)
  subst hr
  refine wpAny_passesOwn hp (thn h4 fun _ s5 ⟨x,H5,I5,r5,y5,st5,fr5⟩=>?_)
  have I5':=I5.pinned (stat fr5) (T.obj _ _ st5)
  refine wpAny_passesOwn hp (thn (hg _ s5 σ3 H5 x u _ I5' r5 (step x H5 y5)) fun _ s6 ⟨σ6,H6,I6,q6⟩=>?_)
  refine wpAny_passesOwn hp (thn (hb _ s6 σ6 H6 _ I6 q6) fun f s7 q7=>?_)
  have again:∀ {σ7:St}{H7:Hp},Inv X (pins++lN fp s5.heap) σ7 H7 s7->N σ7 H7->∃ m,m < n/\∃ i σ' H',Inv X pins σ' H' s7/\tn i s7.heap/\(∀ b∈fp,H' b=none)/\W i m σ' H':=fun {σ7 H7} I7 n7=>by
   obtain ⟨m',hm,w7⟩:=hN σ7 H7 n7
   refine ⟨m',hm,i+1,σ7,H7,I7.unpinned,T.keep _ _ _ st5 fun b hb o e=>(I7.pin (b,o) (List.mem_append_right _ (List.mem_append_right _ (jY hb e)))).1,fun b hb=>?_,w7⟩
   obtain ⟨o,e,d⟩:=T.obj _ _ st5 b hb
   exact (I7.pin (b,o) (List.mem_append_right _ (List.mem_append_right _ (jY hb e)))).2.1
  cases f with
  | next=>obtain ⟨σ7,H7,I7,n7⟩:=q7; exact again I7 n7
  | cont=>obtain ⟨σ7,H7,I7,n7⟩:=q7; exact again I7 n7
  | brk=>obtain ⟨σ7,H7,I7,q7⟩:=q7; exact ⟨σ7,H7,I7.unpinned,q7⟩
  | ret v=>obtain ⟨x7,σ7,H7,I7,r7,q7⟩:=q7; exact ⟨x7,σ7,H7,I7.unpinned,r7,q7⟩
end
theorem AN7 {K:Frag}{a:Addr}{xs:List V}{g:TG}{tb:TS}{D:Ends}{σ:St}{H:Hp}(Pv:Nat->St->Hp->Prop)(h0:Pv 0 σ H)(hl:∀ i σ H,i<=xs.length->Pv i σ H->SqL K H a xs)(hs:∀ i x σ H,xs[i]?=some x->Pv i σ H->g x σ H fun σ2 H2=>tb { D with nx:=Pv (i+1),ct:=Pv (i+1),bk:=D.nx } σ2 H2)(hd:∀ σ H,Pv xs.length σ H->D.nx σ H) :
  ∃ W:Nat->Nat->St->Hp->Prop,(∃ m,W 0 m σ H)/\∀ i m σ H,W i m σ H ->
   ((Itl K a).stop i H/\D.nx σ H)\/((Itl K a).go i H/\∃ N:St->Hp->Prop,(∀ σ' H',N σ' H'->∃ m',m' < m/\W (i+1) m' σ' H')/\∀ x H',(Itl K a).yld i H x H'->g x σ H' fun σ2 H2=>tb { D with nx:=N,ct:=N,bk:=D.nx } σ2 H2):=by
 refine ⟨fun i m σ H=>m=xs.length - i/\i<=xs.length/\Pv i σ H,⟨xs.length,by simp,Nat.zero_le _,h0⟩,?_⟩
 rintro i m σ H ⟨rfl,hi,p⟩
 have q:=hl i σ H hi p
 by_cases hlt:i < xs.length
 ·refine .inr ⟨⟨xs,xs[i],q,by simp [hlt]⟩,Pv (i+1),fun σ' H' p'=>⟨xs.length - (i+1),by omega,rfl,hlt,p'⟩,fun x H' y=>?_⟩
  obtain ⟨e,y⟩:=y
  subst e
  exact hs i x σ _ (y xs q) p
 ·have e:i=xs.length:=by omega
  subst e
  exact .inl ⟨⟨xs,q,Nat.le_refl _⟩,hd σ H p⟩
theorem AW0 {K:Frag}{a:Addr}{xs:List V}{g:TG}{tb:TS}{D:Ends}{σ:St}{H:Hp}(Pv:Nat->St->Hp->Prop)(h0:Pv 0 σ H)(hl:∀ i σ H,i<=xs.length->Pv i σ H->SqT K H a xs)(hs:∀ i x σ H,xs[i]?=some x->Pv i σ H->g x σ H fun σ2 H2=>tb { D with nx:=Pv (i+1),ct:=Pv (i+1),bk:=D.nx } σ2 H2)(hd:∀ σ H,Pv xs.length σ H->D.nx σ H) :
  ∃ W:Nat->Nat->St->Hp->Prop,(∃ m,W 0 m σ H)/\∀ i m σ H,W i m σ H ->
   ((Itt K a).stop i H/\D.nx σ H)\/((Itt K a).go i H/\∃ N:St->Hp->Prop,(∀ σ' H',N σ' H'->∃ m',m' < m/\W (i+1) m' σ' H')/\∀ x H',(Itt K a).yld i H x H'->g x σ H' fun σ2 H2=>tb { D with nx:=N,ct:=N,bk:=D.nx } σ2 H2):=by
 refine ⟨fun i m σ H=>m=xs.length - i/\i<=xs.length/\Pv i σ H,⟨xs.length,by simp,Nat.zero_le _,h0⟩,?_⟩
 rintro i m σ H ⟨rfl,hi,p⟩
 have q:=hl i σ H hi p
 by_cases hlt:i < xs.length
 ·refine .inr ⟨⟨xs,xs[i],q,by simp [hlt]⟩,Pv (i+1),fun σ' H' p'=>⟨xs.length - (i+1),by omega,rfl,hlt,p'⟩,fun x H' y=>?_⟩
  obtain ⟨e,y⟩:=y
  subst e
  exact hs i x σ _ (y xs q) p
 ·have e:i=xs.length:=by omega
  subst e
  exact .inl ⟨⟨xs,q,Nat.le_refl _⟩,hd σ H p⟩
theorem AE1 {lo:Int}{n:Nat}{g:TG}{tb:TS}{D:Ends}{σ:St}{H:Hp}(Pv:Nat->St->Hp->Prop)(h0:Pv 0 σ H)(hs:∀ i σ H,i < n->Pv i σ H->g (.int (lo+i)) σ H fun σ2 H2=>tb { D with nx:=Pv (i+1),ct:=Pv (i+1),bk:=D.nx } σ2 H2)(hd:∀ σ H,Pv n σ H->D.nx σ H) :
  ∃ W:Nat->Nat->St->Hp->Prop,(∃ m,W 0 m σ H)/\∀ i m σ H,W i m σ H ->
   ((Itr lo n).stop i H/\D.nx σ H)\/((Itr lo n).go i H/\∃ N:St->Hp->Prop,(∀ σ' H',N σ' H'->∃ m',m' < m/\W (i+1) m' σ' H')/\∀ x H',(Itr lo n).yld i H x H'->g x σ H' fun σ2 H2=>tb { D with nx:=N,ct:=N,bk:=D.nx } σ2 H2):=by
 refine ⟨fun i m σ H=>m=n - i/\i<=n/\Pv i σ H,⟨n,by simp,Nat.zero_le _,h0⟩,?_⟩
 rintro i m σ H ⟨rfl,hi,p⟩
 by_cases hlt:i < n
 ·refine .inr ⟨hlt,Pv (i+1),fun σ' H' p'=>⟨n - (i+1),by omega,rfl,hlt,p'⟩,fun x H' y=>?_⟩
  obtain ⟨e,y⟩:=y
  subst e y
  exact hs i σ _ hlt p
 ·have e:i=n:=by omega
  subst e
  exact .inl ⟨Nat.le_refl _,hd σ H p⟩
abbrev R2:=V->V->Hp->VK->Prop
def OpR (X:Cx)(f:Value->Value->Sem Value)(r:R2):Prop :=
 ∀ (pins:List (Addr × Obj)) (s:Shared) (σ:St) (H:Hp) (x y:V) (v u:Value) (Q:VK),Inv X pins σ H s->RelV x v->RelV y u->r x y H Q ->
  wpAny (model X.prog X.w) X.A (f v u) (EP X pins σ Q) X.xe s
def UnR (X:Cx)(f:Value->Sem Value)(r:V->Hp->VK->Prop):Prop :=
 ∀ (pins:List (Addr × Obj)) (s:Shared) (σ:St) (H:Hp) (x:V) (v:Value) (Q:VK),Inv X pins σ H s->RelV x v->r x H Q ->
  wpAny (model X.prog X.w) X.A (f v) (EP X pins σ Q) X.xe s
def CallR (X:Cx)(f:Value)(r:List V->Hp->VK->Prop):Prop :=
 ∀ (pins:List (Addr × Obj)) (s:Shared) (σ:St) (H:Hp) (xs:List V) (us:List Value) (Q:VK),Inv X pins σ H s->Vals xs us->r xs H Q ->
  wpAny (model X.prog X.w) X.A (call f us) (EP X pins σ Q) X.xe s
def tOp (r:R2)(ta tb:TE):TE:=fun σ H Q=>ta σ H fun x H1=>tb σ H1 fun y H2=>r x y H2 Q
def tUn (r:V->Hp->VK->Prop)(ta:TE):TE:=fun σ H Q=>ta σ H fun x H1=>r x H1 Q
def rI (C:Int->Int->Prop)(g:Int->Int->V):R2:=fun x y H Q=>∃ i j,x=.int i/\y=.int j/\C i j/\Q (g i j) H
def rI0 (g:Int->Int->V):R2:=fun x y H Q=>∃ i j,x=.int i/\y=.int j/\Q (g i j) H
def rU (g:Int->V):V->Hp->VK->Prop:=fun x H Q=>∃ i,x=.int i/\Q (g i) H
section
variable {X:Cx}{a b c:Expr}{ta tb tc:TE}{pos:Pos}
theorem BL7 (ha:PE X a ta)(hb:PE X b tb){pins:List (Addr × Obj)}{s:Shared}{σ:St}{H:Hp}{R:V->V->Hp->Prop}(I:Inv X pins σ H s)(h:ta σ H fun x H1=>tb σ H1 fun y H2=>R x y H2){Q:Value->Shared->Prop}{f:Value->Value->Sem Value}(hf:∀ v u s2 x y H2,Inv X pins σ H2 s2->RelV x v->RelV y u->R x y H2->wpAny (model X.prog X.w) X.A (f v u) Q X.xe s2) :
  wpAny (model X.prog X.w) X.A (eval a X.env) (fun v s₁=>wpAny (model X.prog X.w) X.A (eval b X.env) (fun u s₂=>wpAny (model X.prog X.w) X.A (f v u) Q X.xe s₂) X.xe s₁) X.xe s:=by
 refine thn (ha pins s σ H _ I h) fun v s1 ⟨x,H1,I1,r1,q1⟩=>?_
 refine thn (hb pins s1 σ H1 _ I1 q1) fun u s2 ⟨y,H2,I2,r2,q2⟩=>?_
 exact hf v u s2 x y H2 I2 r1 r2 q2
theorem bE {op:Operator}{r:R2}(ho:OpR X (binaryOp op) r)(ha:PE X a ta)(hb:PE X b tb):PE X (.BinOp a op b pos) (tOp r ta tb):=by
 intro pins s σ H Q I h
 exact wpAny_BinOp (BL7 ha hb I h fun v u s2 x y H2 I2 rx ry q=>ho pins s2 σ H2 x y v u Q I2 rx ry q)
theorem AW1 {op:UnaryOp}{r:V->Hp->VK->Prop}(ho:UnR X (unaryOp op) r)(ha:PE X a ta):PE X (.UnaryOp op a pos) (tUn r ta):=by
 intro pins s σ H Q I h
 exact UnaryOp_ (thn (ha pins s σ H _ I h) fun v s1 ⟨x,H1,I1,r1,q1⟩=>ho pins s1 σ H1 x v Q I1 r1 q1)
theorem opI {f:Value->Value->Sem Value}{C:Int->Int->Prop}{g:Int->Int->Int}(rule:∀ (i j:Int) (t u:Tok) (s:Shared) (Q:Value->Shared->Prop) (E:Value->Shared->Prop),C i j->Q (.int (g i j) s.toks) { s with toks:=s.toks+1 }->wpAny (model X.prog X.w) X.A (f (.int i t) (.int j u)) Q E s) :
  OpR X f (rI C fun i j=>.int (g i j)):=by
 intro pins s σ H x y v u Q I rx ry h
 obtain ⟨i,j,rfl,rfl,hc,q⟩:=h
 obtain ⟨t,rfl⟩:=rx
 obtain ⟨t',rfl⟩:=ry
 exact rule i j t t' s _ _ hc ⟨.int (g i j),H,I.tok _,⟨_,rfl⟩,q⟩
theorem BQ9 {f:Value->Value->Sem Value}{g:Int->Int->Int}(rule:∀ (i j:Int) (t u:Tok) (s:Shared) (Q:Value->Shared->Prop) (E:Value->Shared->Prop),Q (.int (g i j) s.toks) { s with toks:=s.toks+1 }->wpAny (model X.prog X.w) X.A (f (.int i t) (.int j u)) Q E s) :
  OpR X f (rI0 fun i j=>.int (g i j)):=by
 intro pins s σ H x y v u Q I rx ry h
 obtain ⟨i,j,rfl,rfl,q⟩:=h
 obtain ⟨t,rfl⟩:=rx
 obtain ⟨t',rfl⟩:=ry
 exact rule i j t t' s _ _ ⟨.int (g i j),H,I.tok _,⟨_,rfl⟩,q⟩
theorem BK5 {f:Value->Value->Sem Value}{g:Int->Int->Bool}(rule:∀ (i j:Int) (t u:Tok) (s:Shared) (Q:Value->Shared->Prop) (E:Value->Shared->Prop),Q (.bool (g i j)) s->wpAny (model X.prog X.w) X.A (f (.int i t) (.int j u)) Q E s) :
  OpR X f (rI0 fun i j=>.bl (g i j)):=by
 intro pins s σ H x y v u Q I rx ry h
 obtain ⟨i,j,rfl,rfl,q⟩:=h
 obtain ⟨t,rfl⟩:=rx
 obtain ⟨t',rfl⟩:=ry
 exact rule i j t t' s _ _ ⟨.bl (g i j),H,I,rfl,q⟩
def BS8 (i j:Int):Prop:=0<=j/\j<=1000000/\i.natAbs < 2 ^ 64
def CMul (i j:Int):Prop:=(-(2 ^ 64) < i/\i < 2 ^ 64)\/(-(2 ^ 64) < j/\j < 2 ^ 64)
theorem CMul.ok {i j:Int}(h:CMul i j):IntMulOk i j:=by
 rcases h with ⟨h1,h2⟩ | ⟨h1,h2⟩
 ·exact .of_left (intBits_le_64 h1 h2)
 ·exact .of_right (intBits_le_64 h1 h2)
theorem bZ:OpR X (binaryOp .Add) (rI0 fun i j=>.int (i+j)):=BQ9 fun _ _ _ _ _ _ _ q=>add_int q
theorem AE2:OpR X (binaryOp .Sub) (rI0 fun i j=>.int (i - j)):=BQ9 fun _ _ _ _ _ _ _ q=>sub_int q
theorem rE:OpR X (binaryOp .Mult) (rI CMul fun i j=>.int (i * j)):=opI fun _ _ _ _ _ _ _ hc q=>mul_int q hc.ok
theorem kJ:OpR X (binaryOp .Mod) (rI (fun _ j=>0 < j) fun i j=>.int (i % j)):=opI fun i j _ _ _ _ _ hc q=>by
 have h1:(0:Int) < j:=hc
 exact mod_int' (by omega) (by rw [Int.fmod_eq_emod_of_nonneg i (by omega)]; exact q)
theorem BF4:OpR X (binaryOp .Pow) (rI BS8 fun i j=>.int (i ^ j.toNat)):=opI fun _ _ _ _ _ _ _ hc q=>pow_int_small hc.1 hc.2.1 hc.2.2 q
theorem unI {f:Value->Sem Value}{g:Int->Int}(rule:∀ (i:Int) (t:Tok) (s:Shared) (Q:Value->Shared->Prop) (E:Value->Shared->Prop),Q (.int (g i) s.toks) { s with toks:=s.toks+1 }->wpAny (model X.prog X.w) X.A (f (.int i t)) Q E s) :
  UnR X f (rU fun i=>.int (g i)):=by
 intro pins s σ H x v Q I rx h
 obtain ⟨i,rfl,q⟩:=h
 obtain ⟨t,rfl⟩:=rx
 exact rule i t s _ _ ⟨.int (g i),H,I.tok _,⟨_,rfl⟩,q⟩
theorem AE3:UnR X (unaryOp .USub) (rU fun i=>.int (-i)):=unI fun _ _ _ _ _ q=>neg_int q
end
def AN8:V->V->Bool
 | .non,.non=>true | .non,.int _=>true | .int _,.non=>true | .non,.bl _=>true | .bl _,.non=>true | .non,.str _=>true | .str _,.non=>true
 | .int _,.int _=>true | .bl _,.bl _=>true | .str _,.str _=>true | .byt _,.byt _=>true
 | .int _,.str _=>true | .str _,.int _=>true | .bl _,.str _=>true | .str _,.bl _=>true
 | _,_=>false
def rEq:R2:=fun x y H Q=>AN8 x y=true/\Q (.bl (decide (x=y))) H
def rNe:R2:=fun x y H Q=>AN8 x y=true/\Q (.bl (!decide (x=y))) H
theorem AE4 {i j:Int}:decide (V.int i=V.int j)=(i == j):=by
 rw [Bool.eq_iff_iff]
 simp
theorem AS7 {i j:Bool}:decide (V.bl i=V.bl j)=(i == j):=by
 rw [Bool.eq_iff_iff]
 simp
theorem AE5 {i j:Str}:decide (V.str i=V.str j)=(i == j):=by
 rw [Bool.eq_iff_iff]
 simp
theorem AE6 {i j:Array UInt8}:decide (V.byt i=V.byt j)=(i.toList == j.toList):=by
 rw [Bool.eq_iff_iff]
 cases i
 cases j
 simp
section
variable {X:Cx}{a b c:Expr}{ta tb tc:TE}{pos:Pos}
theorem bX {pins:List (Addr × Obj)}{σ:St}{H:Hp}{s:Shared}{Q:VK}{k k':Bool}(I:Inv X pins σ H s)(q:Q (.bl k) H)(e:k=k'):EP X pins σ Q (.bool k') s:=by
 subst e
 exact ⟨.bl k,H,I,rfl,q⟩
theorem bY:OpR X (compareOp .Eq) rEq:=by
 intro pins s σ H x y v u Q I rx ry h
 obtain ⟨hs,q⟩:=h
 cases x with
 | non =>
  cases rx
  cases y with
  | non=>cases ry; exact PySem.EqNone.eq_none_none (bX I q (by simp))
  | bl j=>cases ry; exact PySem.EqNone.eq_none_bool (bX I q (by simp))
  | int j=>obtain ⟨t',rfl⟩:=ry; exact PySem.EqNone.eq_none_int (bX I q (by simp))
  | str j=>obtain ⟨t',rfl⟩:=ry; exact PySem.EqNone.eq_none_str (bX I q (by simp))
  | _=>exact absurd (show false=true from hs) Bool.false_ne_true
 | bl i =>
  cases rx
  cases y with
  | non=>cases ry; exact PySem.EqNone.eq_bool_none (bX I q (by simp))
  | bl j=>cases ry; exact eq_bool (bX I q AS7)
  | str j=>obtain ⟨t',rfl⟩:=ry; exact PySem.EqMixed.eq_bool_str (bX I q (by simp))
  | _=>exact absurd (show false=true from hs) Bool.false_ne_true
 | int i =>
  obtain ⟨t,rfl⟩:=rx
  cases y with
  | non=>cases ry; exact PySem.EqNone.eq_int_none (bX I q (by simp))
  | int j=>obtain ⟨t',rfl⟩:=ry; exact eq_int (bX I q AE4)
  | str j=>obtain ⟨t',rfl⟩:=ry; exact PySem.EqMixed.eq_int_str (bX I q (by simp))
  | _=>exact absurd (show false=true from hs) Bool.false_ne_true
 | str i =>
  obtain ⟨t,rfl⟩:=rx
  cases y with
  | non=>cases ry; exact PySem.EqNone.eq_str_none (bX I q (by simp))
  | bl j=>cases ry; exact PySem.EqMixed.eq_str_bool (bX I q (by simp))
  | int j=>obtain ⟨t',rfl⟩:=ry; exact PySem.EqMixed.eq_str_int (bX I q (by simp))
  | str j=>obtain ⟨t',rfl⟩:=ry; exact eq_str (bX I q AE5)
  | _=>exact absurd (show false=true from hs) Bool.false_ne_true
 | byt i =>
  obtain ⟨t,rfl⟩:=rx
  cases y with
  | byt j=>obtain ⟨t',rfl⟩:=ry; exact eq_bytes (bX I q AE6)
  | _=>exact absurd (show false=true from hs) Bool.false_ne_true
 | _=>cases y <;> exact absurd (show false=true from hs) Bool.false_ne_true
theorem uO:OpR X (compareOp .NotEq) rNe:=by
 intro pins s σ H x y v u Q I rx ry h
 obtain ⟨hs,q⟩:=h
 cases x with
 | non =>
  cases rx
  cases y with
  | non=>cases ry; exact PySem.EqNone.ne_none_none (bX I q (by simp))
  | bl j=>cases ry; exact PySem.EqNone.ne_none_bool (bX I q (by simp))
  | int j=>obtain ⟨t',rfl⟩:=ry; exact PySem.EqNone.ne_none_int (bX I q (by simp))
  | str j=>obtain ⟨t',rfl⟩:=ry; exact PySem.EqNone.ne_none_str (bX I q (by simp))
  | _=>exact absurd (show false=true from hs) Bool.false_ne_true
 | bl i =>
  cases rx
  cases y with
  | non=>cases ry; exact PySem.EqNone.ne_bool_none (bX I q (by simp))
  | bl j=>cases ry; exact ne_bool (bX I q (congrArg not AS7))
  | str j=>obtain ⟨t',rfl⟩:=ry; exact PySem.EqMixed.ne_bool_str (bX I q (by simp))
  | _=>exact absurd (show false=true from hs) Bool.false_ne_true
 | int i =>
  obtain ⟨t,rfl⟩:=rx
  cases y with
  | non=>cases ry; exact PySem.EqNone.ne_int_none (bX I q (by simp))
  | int j=>obtain ⟨t',rfl⟩:=ry; exact ne_int (bX I q (congrArg not AE4))
  | str j=>obtain ⟨t',rfl⟩:=ry; exact PySem.EqMixed.ne_int_str (bX I q (by simp))
  | _=>exact absurd (show false=true from hs) Bool.false_ne_true
 | str i =>
  obtain ⟨t,rfl⟩:=rx
  cases y with
  | non=>cases ry; exact PySem.EqNone.ne_str_none (bX I q (by simp))
  | bl j=>cases ry; exact PySem.EqMixed.ne_str_bool (bX I q (by simp))
  | int j=>obtain ⟨t',rfl⟩:=ry; exact PySem.EqMixed.ne_str_int (bX I q (by simp))
  | str j=>obtain ⟨t',rfl⟩:=ry; exact ne_str (bX I q (congrArg not AE5))
  | _=>exact absurd (show false=true from hs) Bool.false_ne_true
 | byt i =>
  obtain ⟨t,rfl⟩:=rx
  cases y with
  | byt j=>obtain ⟨t',rfl⟩:=ry; exact ne_bytes (bX I q (congrArg not AE6))
  | _=>exact absurd (show false=true from hs) Bool.false_ne_true
 | _=>cases y <;> exact absurd (show false=true from hs) Bool.false_ne_true
theorem qQ:OpR X (compareOp .Lt) (rI0 fun i j=>.bl (decide (i < j))):=BK5 fun _ _ _ _ _ _ _ q=>lt_int q
theorem AW2:OpR X (compareOp .LtE) (rI0 fun i j=>.bl (decide (i<=j))):=BK5 fun _ _ _ _ _ _ _ q=>le_int q
theorem uP:OpR X (compareOp .Gt) (rI0 fun i j=>.bl (decide (j < i))):=BK5 fun _ _ _ _ _ _ _ q=>gt_int q
theorem BF5:OpR X (compareOp .GtE) (rI0 fun i j=>.bl (decide (j<=i))):=BK5 fun _ _ _ _ _ _ _ q=>ge_int q
theorem uQ:OpR X (compareOp .In) (fun x y H Q=>∃ i j,x=.str i/\y=.str j/\Q (.bl (!(Builtin.Str.occurrences j i 0 j.length 1).isEmpty)) H):=by
 intro pins s σ H x y v u Q I rx ry h
 obtain ⟨i,j,rfl,rfl,q⟩:=h
 obtain ⟨t,rfl⟩:=rx
 obtain ⟨t',rfl⟩:=ry
 exact in_str (bX I q rfl)
theorem OpR.or {f:Value->Value->Sem Value}{r r':R2}(h:OpR X f r)(h':OpR X f r'):OpR X f (fun x y H Q=>r x y H Q\/r' x y H Q):=by
 intro pins s σ H x y v u Q I rx ry q
 rcases q with q | q
 ·exact h pins s σ H x y v u Q I rx ry q
 ·exact h' pins s σ H x y v u Q I rx ry q
theorem aW (b:Expr){op:CmpOp}(h:op≠.In:=by decide)(h2:op≠.NotIn:=by decide):behindInMarks op b=false:=by
 have e1:(op == CmpOp.In)=false:=by cases op <;> first | rfl | exact absurd rfl h
 have e2:(op == CmpOp.NotIn)=false:=by cases op <;> first | rfl | exact absurd rfl h2
 cases b <;> simp [behindInMarks,e1,e2]
theorem cS {op:CmpOp}{r:R2}(ho:OpR X (compareOp op) r)(ha:PE X a ta)(hb:PE X b tb)(hm:behindInMarks op b=false):PE X (.Compare a [op] [b] pos) (tOp r ta tb):=by
 intro pins s σ H Q I h
 exact wpAny_Compare1 (BL7 ha hb I h fun v u s2 x y H2 I2 rx ry q=>ho pins s2 σ H2 x y v u Q I2 rx ry q) hm
def BF6 (t:TE):TT:=fun σ H Q=>t σ H fun x H'=>∃ k,x=.bl k/\Q k H'
theorem aQ {op:CmpOp}{r:R2}(ho:OpR X (compareOp op) r)(ha:PE X a ta)(hb:PE X b tb)(hm:behindInMarks op b=false):PT X (.Compare a [op] [b] pos) (BF6 (tOp r ta tb)):=by
 intro pins s σ H Q I h
 refine wpAny_isTrue_Compare1 (thn (ha pins s σ H _ I h) fun v s1 ⟨x,H1,I1,r1,q1⟩=>thn (hb pins s1 σ H1 _ I1 q1) fun u s2 ⟨y,H2,I2,r2,q2⟩ =>
  thn (ho pins s2 σ H2 x y v u _ I2 r1 r2 q2) fun c s3 ⟨z,H3,I3,r3,k,e,q3⟩=>?_) hm
 subst e
 cases r3
 exact wpAny_truthy_bool ⟨H3,I3,q3⟩
def AS8 (r r':R2)(ta tb tc:TE):TE:=fun σ H Q=>ta σ H fun x H1=>tb σ H1 fun y H2=>r x y H2 fun z H3=>∃ k,z=.bl k /\
 (if k=true then tc σ H3 fun w' H4=>r' y w' H4 Q else Q (.bl false) H3)
theorem AN9 {op op':CmpOp}{r r':R2}(ho:OpR X (compareOp op) r)(ho':OpR X (compareOp op') r')(ha:PE X a ta)(hb:PE X b tb)(hc:PE X c tc)(hm:lastMarks [op,op'] [b,c]=false:=by with_unfolding_all rfl):PE X (.Compare a [op,op'] [b,c] pos) (AS8 r r' ta tb tc):=by
 intro pins s σ H Q I h
 refine Compare_chain (thn (ha pins s σ H _ I h) fun v s1 ⟨x,H1,I1,r1,q1⟩=>chain_link (thn (hb pins s1 σ H1 _ I1 q1) fun u s2 ⟨y,H2,I2,r2,q2⟩ =>
  thn (ho pins s2 σ H2 x y v u _ I2 r1 r2 q2) fun d s3 ⟨z,H3,I3,r3,k,e,q3⟩=>?_)) hm
 subst e
 cases r3
 refine wpAny_truthy_bool ?_
 cases k with
 | false=>exact ite_ff ⟨.bl false,H3,I3,rfl,q3⟩
 | true=>exact ite_tt (chain_last (thn (hc pins s3 σ H3 _ I3 q3) fun w' s4 ⟨z',H4,I4,r4,q4⟩=>ho' pins s4 σ H4 y z' u w' Q I4 r2 r4 q4))
theorem rF:(sizeLine:Nat) < 2 ^ 63:=by rw [sizeLine_eq]; decide
theorem bR:OpR X (binaryOp .Add) (fun x y H Q=>∃ i j,x=.str i/\y=.str j/\i.length+j.length<=sizeLine/\Q (.str (i++j)) H):=by
 intro pins s σ H x y v u Q I rx ry h
 obtain ⟨i,j,rfl,rfl,hz,q⟩:=h
 obtain ⟨t,rfl⟩:=rx
 obtain ⟨t',rfl⟩:=ry
 exact add_str (fun t' tk=>⟨.str (i++j),H,I.tok _,⟨_,rfl⟩,q⟩) hz
theorem qR {x:V}{us:List Value}(r:Vals [x] us):∃ u,us=[u]/\RelV x u:=by
 cases r with
 | cons r1 r2=>cases r2; exact ⟨_,rfl,r1⟩
theorem AW3 {x y:V}{us:List Value}(r:Vals [x,y] us):∃ u w',us=[u,w']/\RelV x u/\RelV y w':=by
 cases r with
 | cons r1 r2 =>
  cases r2 with
  | cons r3 r4=>cases r4; exact ⟨_,_,rfl,r1,r3⟩
theorem lO:CallR X (.type "int") (fun xs H Q=>(∃ i,xs=[.int i]/\Q (.int i) H)\/∃ k,xs=[.bl k]/\Q (.int (if k then 1 else 0)) H):=by
 intro pins s σ H xs us Q I r h
 rcases h with ⟨i,rfl,q⟩ | ⟨k,rfl,q⟩
 ·obtain ⟨u,rfl,t,rfl⟩:=qR r
  exact call_int_int ⟨.int i,H,I,⟨_,rfl⟩,q⟩
 ·obtain ⟨u,rfl,r1⟩:=qR r
  cases r1
  exact call_int_bool ⟨.int (if k then 1 else 0),H,I.tok _,⟨_,rfl⟩,q⟩
theorem nZ:CallR X (.type "str") (fun xs H Q=>∃ i,xs=[.int i]/\i.natAbs.log2 < 1920/\Q (.str (toString i)) H):=by
 intro pins s σ H xs us Q I r h
 obtain ⟨i,rfl,hz,q⟩:=h
 obtain ⟨u,rfl,t,rfl⟩:=qR r
 exact PySem.P.str_of_int hz ⟨.str _,H,I.tok _,⟨_,rfl⟩,q⟩
end
structure ObjM (h:Heap) (x dx C:Addr) (mA:Str->Option Value):Prop where
 obj:h.get? x=some (instObj C dx)
 ns:h.Ns1 dx mA
 ne:dx≠x
theorem uR {h:Heap}{dx:Addr}{mA:Str->Option Value}(n:h.Ns1 dx mA):∃ od,h.get? dx=some od/\∀ name,lookIn name od=some (mA name):=by
 obtain ⟨o,es,ep,ho,hd,hk,_,hm⟩:=n
 refine ⟨o,ho,fun name=>?_⟩
 have e:=hm name
 unfold nsFind findBy at e
 rw [<- Array.find?_toList] at e
 unfold lookIn
 rw [hd]
 dsimp only
 split
 ·rename_i y q
  rw [q] at e
  exact congrArg some e
 ·rename_i q
  rw [q] at e
  have a:es.toList.any (·.refKey)=false:=by
   rw [List.any_eq_false]
   intro y hy
   obtain ⟨z,t,hkey⟩:=hk y (Array.mem_toList_iff.mp hy)
   simp [DictEntry.refKey,hkey]
  have a':¬ es.toList.any (·.refKey)=true:=by rw [a]; exact Bool.false_ne_true
  rw [if_neg a']
  exact congrArg some e
theorem ObjM.look {h:Heap}{x dx C:Addr}{mA:Str->Option Value}(I:ObjM h x dx C mA):∃ od,InstAt h x (instObj C dx) C (some od)/\∀ name,lookIn name od=some (mA name) :=
 let ⟨od,ho,hl⟩:=uR I.ns
 ⟨od,⟨I.obj,rfl,rfl,ho⟩,hl⟩
section
variable {prog:Program}{w:World}{A:Around}{E:Value->Shared->Prop}{s:Shared}{K:Frag}{x dx C f:Addr}{mA:Str->Option Value}{name:Str}{v:Value}
theorem AW4 {expr:Bool}{Q:Value->Shared->Prop}(X:K.In s.heap)(I:ObjM s.heap x dx C mA)(hg:plainGet K C name=true)(hh:hasDictIn K C=true)(ha:findIn K (.ref C) name=some none)(hv:mA name=some v)(hv':handedIn v=true)(h:Q v { s with toks:=s.toks+1 }) :
  wpAny (model prog w) A (getAttr (.ref x) name expr) Q E s:=by
 obtain ⟨od,J,hl⟩:=I.look
 exact get_value X J (plainGet_of hg).1 (findObj_own hh ha rfl (by rw [hl,hv])) hv' h
theorem AO0 {pl:Sem Bool}{Q:Value × List Value->Shared->Prop}(X:K.In s.heap)(I:ObjM s.heap x dx C mA)(hg:plainGet K C name=true)(hf:findIn K (.ref C) name=some (some (.ref f)))(ht:isFn K (.ref f)=true)(hv:mA name=none)(h:Q (.ref f,[.ref x]) s) :
  wpAny (model prog w) A (getMethod (.ref x) name pl) Q E s:=by
 obtain ⟨od,J,hl⟩:=I.look
 exact method_fn X J (plainGet_of hg).1 (plainGet_of hg).2 hf (beq_iff_eq.mp ht) (by show (lookIn name od).map (·.isSome)=some false; rw [hl,hv]; rfl) h
theorem AW5 {ns:List Str}{Q:Unit->Shared->Prop}(X:K.In s.heap)(I:ObjM s.heap x dx C mA)(hs:findIn K (.ref C) "__setattr__"=some (some (.builtin "object.__setattr__")))(hp:plainOver K C=true)(ht:takerIn K C name=some none)(hh:hasDictIn K C=true)(hw:PySem.Within mA ns)(hsz:ns.length<=sizeLine)(h:∀ h',ObjM h' x dx C (fun y=>if y=name then some v else mA y)->Heap.SameBut dx s.heap h'->Q () { s with heap:=h',toks:=s.toks+2 }) :
  wpAny (model prog w) A (setAttr (.ref x) name v) Q E s:=by
 obtain ⟨od,J,hl⟩:=I.look
 refine set_plain X J hs (osa_open (s:={ s with toks:=s.toks+1 }) (r:=none) X J hp ht fun b=>?_)
 obtain ⟨cd,hc,hd'⟩:=any_some hh
 have hx:s.heap.get? x=some ⟨.ref C,some dx,.plain,#[]⟩:=I.obj
 refine wpAny_bind (wpAny_pure (wpAny_bind (wpAny_bind (wpAny_loadPart hx (wpAny_bind (Looks.here (s:={ s with toks:=s.toks+1 }) (looks_clsIn X hc) ?_))))))
 rw [hd']
 refine wpAny_pure (a:=some dx) (wpAny_bind (wpAny_pure (wpAny_bind ?_)))
 refine wpAny_nsSet1 (s:={ s with toks:=s.toks+1 }) I.ns fun h' hn2 hs2=>?_
 obtain ⟨oD,esD,epD,hoD,hdD,hcD⟩:=hn2.count (PySem.Within.cons name v hw)
 refine wpAny_bind (wpAny_lookBehind hoD (by rw [hdD]; exact pastItsLine_dict (Nat.le_trans hcD (by rw [List.length_cons]; omega))) ?_)
 exact wpAny_pure (h _ ⟨(hs2.2 _ (Ne.symm I.ne)).trans I.obj,hn2,I.ne⟩ hs2)
theorem AO1 {R:Result->Shared->Prop}{vs:List Value}{kw:List (Str × Value)}(X:K.In s.heap)(hm:makesIn K C=true)(hi:findIn K (.ref C) "__init__"=some (some (.ref f)))(hf:typeIn K (.ref f)=some (.type "function"))(h:codeAny (model prog w) (A.under (.builtin "type.__call__" ⟨.ref C::vs,kw⟩)) (.call (.ref f) ⟨.ref (s.heap.objs.size+1)::vs,kw⟩) (InitBack (s.heap.objs.size+1) R)
   { s with heap:=(s.heap.push emptyDict).push (instObj C s.heap.objs.size) }) :
  codeAny (model prog w) A (.call (.ref C) ⟨vs,kw⟩) R s:=by
 obtain ⟨hh,g,d,t,os⟩:=s
 exact make_core (makes_of X hm) (looks_findIn X hi) (fun self=>bind_fn X self hf) (.inl rfl) h
theorem AE7 {R:Result->Shared->Prop}(X:K.In s.heap)(hm:makesIn K C=true)(hi:findIn K (.ref C) "__init__"=some (some (.builtin "object.__init__")))(hb:∀ self,Looks (model prog w) s.heap (bindSpecial (.builtin "object.__init__") self) (.builtin "object.__init__",[self]))(h:codeAny (model prog w) (A.under (.builtin "type.__call__" ⟨[.ref C],[]⟩)) (.call (.builtin "object.__init__") ⟨[.ref (s.heap.objs.size+1)],[]⟩) (InitBack (s.heap.objs.size+1) R)
   { s with heap:=(s.heap.push emptyDict).push (instObj C s.heap.objs.size) }) :
  codeAny (model prog w) A (.call (.ref C) ⟨[],[]⟩) R s:=by
 obtain ⟨hh,g,d,t,os⟩:=s
 exact make_core (makes_of X hm) (looks_findIn X hi) hb (.inr ⟨rfl,rfl⟩) h
end
def rG (f:Str)(v:V):List (Str × V)->List (Str × V)
 | []=>[(f,v)]
 | (g,x)::r=>if g=f then (g,v)::r else (g,x)::rG f v r
theorem pH (f g:Str)(v:V):∀ fs:List (Str × V),(rG f v fs).lookup g=if g=f then some v else fs.lookup g
 | []=>by
  show List.lookup g [(f,v)]=_
  by_cases h:g=f
  ·have hb:(g == f)=true:=beq_iff_eq.mpr h
   simp only [List.lookup,hb,if_pos h]
  ·have hb:(g == f)=false:=beq_eq_false_iff_ne.mpr h
   simp only [List.lookup,hb,if_neg h]
 | (k,x)::r=>by
  have ih:=pH f g v r
  rw [show rG f v ((k,x)::r)=(if k=f then (k,v)::r else (k,x)::rG f v r) from rfl]
  by_cases hk:k=f
  ·rw [if_pos hk]
   by_cases h:g=k
   ·have hb:(g == k)=true:=beq_iff_eq.mpr h
    simp only [List.lookup,hb,if_pos (h.trans hk)]
   ·have hb:(g == k)=false:=beq_eq_false_iff_ne.mpr h
    simp only [List.lookup,hb,if_neg (fun e:g=f=>h (e.trans hk.symm))]
  ·rw [if_neg hk]
   by_cases h:g=k
   ·have hb:(g == k)=true:=beq_iff_eq.mpr h
    simp only [List.lookup,hb,if_neg (fun e:g=f=>hk (h.symm.trans e))]
   ·have hb:(g == k)=false:=beq_eq_false_iff_ne.mpr h
    simp only [List.lookup,hb]
    exact ih
theorem pI (f:Str)(v:V):∀ fs:List (Str × V),f∈(rG f v fs).map (·.1)/\∀ g,g∈fs.map (·.1)->g∈(rG f v fs).map (·.1)
 | []=>⟨by simp [rG],fun g h=>by simp at h⟩
 | (k,x)::r=>by
  obtain ⟨i1,i2⟩:=pI f v r
  rw [show rG f v ((k,x)::r)=(if k=f then (k,v)::r else (k,x)::rG f v r) from rfl]
  by_cases hk:k=f
  ·rw [if_pos hk]
   subst hk
   exact ⟨by simp,fun g h=>by simpa using h⟩
  ·rw [if_neg hk]
   refine ⟨?_,fun g h=>?_⟩
   ·rw [List.map_cons]
    exact List.mem_cons_of_mem _ i1
   ·rw [List.map_cons] at h ⊢
    rcases List.mem_cons.mp h with e | e
    ·exact List.mem_cons.mpr (.inl e)
    ·exact List.mem_cons_of_mem _ (i2 g e)
theorem pJ (f:Str)(v:V):∀ fs:List (Str × V),(rG f v fs).length<=fs.length+1
 | []=>by simp [rG]
 | (k,x)::r=>by
  have ih:=pJ f v r
  rw [show rG f v ((k,x)::r)=(if k=f then (k,v)::r else (k,x)::rG f v r) from rfl]
  by_cases hk:k=f
  ·rw [if_pos hk,List.length_cons,List.length_cons]; omega
  ·rw [if_neg hk,List.length_cons,List.length_cons]; omega
theorem RelO.some_of {v:V}{o:Option Value}(r:RelO (some v) o):∃ u,o=some u/\RelV v u:=by
 cases o with
 | none=>exact (show False from r).elim
 | some u=>exact ⟨u,rfl,r⟩
theorem RelO.none_of {o:Option Value}(r:RelO none o):o=none:=by
 cases o with
 | none=>rfl
 | some u=>exact (show False from r).elim
theorem uS {v:V}{u:Value}(r:RelV v u):handedIn u=true:=by
 cases v with
 | non=>cases (show u=Value.none from r); rfl
 | bl b=>cases (show u=Value.bool b from r); rfl
 | int i=>obtain ⟨t,e⟩:=(show ∃ t,u=Value.int i t from r); cases e; rfl
 | str x=>obtain ⟨t,e⟩:=(show ∃ t,u=Value.str x t from r); cases e; rfl
 | byt b=>obtain ⟨t,e⟩:=(show ∃ t,u=Value.bytes b t from r); cases e; rfl
 | flt b=>obtain ⟨t,e⟩:=(show ∃ t,u=Value.float b t from r); cases e; rfl
 | ref a=>cases (show u=Value.ref a from r); rfl
 | ty n=>cases (show u=Value.type n from r); rfl
section
variable {P:Program}{w:World}{H H':Hp}{h h':Heap}{a C dx:Addr}{fs fs':List (Str × V)}
theorem pK (hok:HOk P w H h)(e:H a=some (.ins C dx fs)):∃ mA,ObjM h a dx C mA/\(∀ f,RelO (fs.lookup f) (mA f))/\PySem.Within mA (fs.map (·.1))/\fs.length<=1000/\H dx=some (.own a):=by
 obtain ⟨d,z,ne,ob,mA,n,r,q⟩:=(show ObjOk P w H h a (.ins C dx fs) from hok a _ e)
 exact ⟨mA,⟨ob,n,ne⟩,r,q,z,d⟩
end
structure Cls (K:Frag) (C:Addr):Prop where
 pg:plainGet K C Str.empty=true
 hd:hasDictIn K C=true
 po:plainOver K C=true
 sa:findIn K (.ref C) "__setattr__"=some (some (.builtin "object.__setattr__"))
theorem Cls.get {K:Frag}{C:Addr}(c:Cls K C)(f:Str):plainGet K C f=true:=c.pg
def NoAttr (K:Frag)(C:Addr)(f:Str):Prop:=findIn K (.ref C) f=some none
theorem NoAttr.taker {K:Frag}{C:Addr}{f:Str}(n:NoAttr K C f):takerIn K C f=some none:=by
 unfold takerIn
 rw [show findIn K (.ref C) f=some none from n]
 rfl
structure Con (K:Frag) (C:Addr) (f:Str) (v:V) (u:Value):Prop where
 at_:findIn K (.ref C) f=some (some u)
 rel:RelV v u
 get:specialIn K u "__get__"=some none
 cp:copiedNames.contains f=false
structure Meth (K:Frag) (C:Addr) (m:Str) (f:Addr):Prop where
 at_:findIn K (.ref C) m=some (some (.ref f))
 fn:isFn K (.ref f)=true
 kp:keepIn K (.ref f)=true
section
variable {X:Cx}{pins:List (Addr × Obj)}{σ:St}{H:Hp}{s:Shared}{a C dx:Addr}{fs:List (Str × V)}{f:Str}{v:V}{A:Around}{E:Value->Shared->Prop}
theorem rH {b:Bool}{Q:Value->Shared->Prop}(I:Inv X pins σ H s)(e:H a=some (.ins C dx fs))(c:Cls X.K C)(n:NoAttr X.K C f)(l:fs.lookup f=some v)(h:∀ u s',Inv X pins σ H s'->RelV v u->Q u s'):wpAny (model X.prog X.w) A (getAttr (.ref a) f b) Q E s:=by
 obtain ⟨mA,O,r,_,_,_⟩:=pK I.hok e
 obtain ⟨u,hu,ru⟩:=RelO.some_of (v:=v) (o:=mA f) (by rw [<- l]; exact r f)
 exact AW4 I.kIn O (c.get f) c.hd n hu (uS ru) (h u _ (I.tok _) ru)
theorem AB3 {m:Str}{g:Addr}{pl:Sem Bool}{Q:Value × List Value->Shared->Prop}(I:Inv X pins σ H s)(e:H a=some (.ins C dx fs))(c:Cls X.K C)(k:Meth X.K C m g)(l:fs.lookup m=none)(h:Q (.ref g,[.ref a]) s):wpAny (model X.prog X.w) A (getMethod (.ref a) m pl) Q E s:=by
 obtain ⟨mA,O,r,_,_,_⟩:=pK I.hok e
 have hn:mA m=none:=RelO.none_of (by rw [<- l]; exact r m)
 exact AO0 I.kIn O (c.get m) k.at_ k.fn hn h
theorem rJ {y:V}{u:Value}{Q:Unit->Shared->Prop}(I:Inv X pins σ H s)(e:H a=some (.ins C dx fs))(c:Cls X.K C)(n:NoAttr X.K C f)(hl:fs.length < 1000)(ry:RelV y u)(h:∀ s',Inv X pins σ (upd H a (.ins C dx (rG f y fs))) s'->Q () s'):wpAny (model X.prog X.w) A (setAttr (.ref a) f u) Q E s:=by
 obtain ⟨mA,O,r,wi,_,ho⟩:=pK I.hok e
 have hz:(fs.map (·.1)).length<=sizeLine:=by rw [List.length_map,sizeLine_eq]; omega
 refine AW5 I.kIn O c.sa c.po n.taker c.hd wi hz fun h' O' sb=>h _ ?_
 have hd:∃ o,h'.get? dx=some o:=let ⟨o,_,_,e',_⟩:=O'.ns; ⟨o,e'⟩
 refine I.write (x:=a) (e:=dx) (by rw [e]; exact True.intro) (.inr ho) (fun b q hb z=>(sb.2 b hb).trans z) hd ?_
 refine ⟨by rw [aN O.ne]; exact ho,?_,O.ne,O'.obj,_,O'.ns,fun g=>?_,fun g hg=>?_⟩
 ·have:=pJ f y fs; omega
 ·show RelO ((rG f y fs).lookup g) (if g=f then some u else mA g)
  rw [pH]
  by_cases q:g=f
  ·rw [if_pos q,if_pos q]; exact ry
  ·rw [if_neg q,if_neg q]; exact r g
 ·by_cases q:g=f
  ·rw [q]; exact (pI f y fs).1
  ·refine (pI f y fs).2 g (wi g fun z=>hg ?_)
   show (if g=f then some u else mA g)=none
   rw [if_neg q]; exact z
theorem Inv.made (I:Inv X pins σ H s):Inv X pins σ (upd (upd H s.heap.objs.size (.own (s.heap.objs.size+1))) (s.heap.objs.size+1) (.ins C s.heap.objs.size []))
  { s with heap:=(s.heap.push emptyDict).push (instObj C s.heap.objs.size) }:=by
 have e1:(s.heap.push emptyDict).get? s.heap.objs.size=some emptyDict:=Heap.get?_push_size s.heap rfl
 have e2:((s.heap.push emptyDict).push (instObj C s.heap.objs.size)).get? (s.heap.objs.size+1)=some (instObj C s.heap.objs.size):=by
  have:=Heap.get?_push_size (s.heap.push emptyDict) (o:=instObj C s.heap.objs.size) rfl
  rwa [Heap.size_push] at this
 have e3:(s.heap.push emptyDict).Ns s.heap.objs.size (fun _=>none):=⟨emptyDict,#[],_,e1,rfl,(fun e he=>absurd he (by simp)),fun _=>rfl⟩
 have I1:=I.laid (a:=s.heap.objs.size) (o:=.own (s.heap.objs.size+1)) (h':=s.heap.push emptyDict) (t':=s.toks) (fun b u q=>Heap.get?_push_of_some _ q) (Nat.le_refl _) ⟨_,e1⟩
 refine I1.laid (a:=s.heap.objs.size+1) (o:=.ins C s.heap.objs.size []) (t':=s.toks) (fun b u q=>Heap.get?_push_of_some _ q) (Nat.le_of_eq (Heap.size_push _ _)) ?_
 have ne:s.heap.objs.size≠s.heap.objs.size+1:=Nat.ne_of_lt (Nat.lt_succ_self _)
 refine ⟨by rw [aN ne,aA],Nat.zero_le _,ne,e2,fun _=>none,(Heap.Ns1.of_empty e3).at fun o q=>Heap.get?_push_of_some _ q,fun _=>True.intro,fun y hy=>absurd rfl hy⟩
theorem AE8 {prog:Program}{w:World}{env:Env}{e:Expr}{f:Str}{pos:Pos}{s:Shared}{Q:Value->Shared->Prop}(hb:attributeBase e f env (eval e env)=eval e env)(h:wpAny (model prog w) A (eval e env) (fun o s₁=>wpAny (model prog w) A (getAttr o f true) Q E s₁) E s):wpAny (model prog w) A (eval (.Attribute e f pos) env) Q E s :=
 Attribute_any_ h (by rw [arm_eval_Attribute,hb])
end
def BL8 (K:Frag)(ta:TE)(f:Str):TE:=fun σ H Q=>ta σ H fun x H1=>∃ a C dx fs v,x=.ref a/\H1 a=some (.ins C dx fs)/\Cls K C/\NoAttr K C f/\fs.lookup f=some v/\Q v H1
def BR0 (K:Frag)(ta tv:TE)(f:Str):TS:=fun D σ H=>tv σ H fun y H1=>ta σ H1 fun x H2=>∃ a C dx fs,x=.ref a/\H2 a=some (.ins C dx fs)/\Cls K C/\NoAttr K C f/\fs.length < 1000 /\
 D.nx σ (upd H2 a (.ins C dx (rG f y fs)))
def BR1 (X:Cx)(op:Operator)(rd:V->V->Hp->VK->Prop):Prop :=
 ∀ (pins:List (Addr × Obj)) (s:Shared) (σ:St) (H:Hp) (x y:V) (u v:Value) (Q:VK),Inv X pins σ H s->RelV x u->RelV y v->rd x y H Q->wpAny (model X.prog X.w) X.A (inplaceOp op u v) (EP X pins σ Q) X.xe s
def AE9 (K:Frag)(ta tv:TE)(rd:V->V->Hp->VK->Prop)(f:Str):TS:=fun D σ H=>ta σ H fun x H1=>∃ a C dx fs v,x=.ref a/\H1 a=some (.ins C dx fs)/\Cls K C/\NoAttr K C f/\fs.lookup f=some v /\
 tv σ H1 fun y H2=>rd v y H2 fun z H3=>∃ dx' fs',H3 a=some (.ins C dx' fs')/\fs'.length < 1000/\D.nx σ (upd H3 a (.ins C dx' (rG f z fs')))
section
variable {X:Cx}{o e value:Expr}{f:Str}{pos pos' tpos:Pos}{ta tv:TE}
theorem cH (he:PE X e ta)(hb:attributeBase e f X.env (eval e X.env)=eval e X.env):PE X (.Attribute e f pos) (BL8 X.K ta f):=by
 intro pins s σ H Q I h
 refine AE8 hb (thn (he pins s σ H _ I h) fun u s1 ⟨x,H1,I1,rx,a,C,dx,fs,v,ex,ea,c,n,l,q⟩=>?_)
 subst ex
 obtain rfl:u=Value.ref a:=rx
 exact rH I1 ea c n l fun u' s2 I2 ru=>⟨v,H1,I2,ru,q⟩
theorem jQ (ha:PE X o ta)(hv:PE X value tv)(hs:swapsWith value (some (.Attribute o f pos')) pos.line X.env=pure false):PS X (.Assign [.Attribute o f pos'] value pos) (BR0 X.K ta tv f):=by
 intro pins s σ H D I h
 refine plainObj_wpAny_Assign_Attribute (thn (hv pins s σ H _ I h) fun u s1 ⟨y,H1,I1,ry,q⟩=>thn (ha pins s1 σ H1 _ I1 q) fun ov s2 ⟨x,H2,I2,rx,a,C,dx,fs,ex,ea,c,n,l,q2⟩=>?_) hs
 subst ex
 obtain rfl:ov=Value.ref a:=rx
 exact rJ I2 ea c n l ry fun s3 I3=>⟨σ,_,I3,q2⟩
theorem AF0 {op:Operator}{rd:V->V->Hp->VK->Prop}(ha:PE X o ta)(hv:PE X value tv)(hop:BR1 X op rd):PS X (.AugAssign (.Attribute o f tpos) op value pos) (AE9 X.K ta tv rd f):=by
 intro pins s σ H D I h
 refine wpAny_AugAssign_AttributeAny (thn (ha pins s σ H _ I h) fun ov s1 ⟨x,H1,I1,rx,a,C,dx,fs,v,ex,ea,c,n,l,q⟩=>?_)
 subst ex
 obtain rfl:ov=Value.ref a:=rx
 refine rH I1 ea c n l fun u s2 I2 ru=>thn (hv pins s2 σ H1 _ I2 q) fun w3 s3 ⟨y,H2,I3,ry,q3⟩=>thn (hop pins s3 σ H2 v y u w3 _ I3 ru ry q3) fun w4 s4 ⟨z,H3,I4,rz,dx',fs',ea',l',q4⟩=>?_
 exact rJ I4 ea' c n l' rz fun s5 I5=>⟨σ,_,I5,q4⟩
def BR2:V->V->Hp->VK->Prop:=fun x y H Q=>∃ i j,x=.int i/\y=.int j/\Q (.int (i+j)) H
theorem BF7:BR1 X .Add BR2:=by
 rintro pins s σ H x y u v Q I rx ry ⟨i,j,rfl,rfl,q⟩
 obtain ⟨t,rfl⟩:=(show ∃ t,u=Value.int i t from rx)
 obtain ⟨t',rfl⟩:=(show ∃ t',v=Value.int j t' from ry)
 exact PyProof.Rows.iadd_int ⟨.int (i+j),H,I.tok _,⟨_,rfl⟩,q⟩
end
section
variable {X:Cx}{pins:List (Addr × Obj)}{σ:St}{H:Hp}{s:Shared}{A:Around}{E:Value->Shared->Prop}{Q:Value->Shared->Prop}{c:Value}{b:Bool}
inductive TyOf (K:Frag) (H:Hp):V->Value->Prop where
 | non:TyOf K H .non (.type "NoneType")
 | bl (x:Bool):TyOf K H (.bl x) (.type "bool")
 | int (i:Int):TyOf K H (.int i) (.type "int")
 | str (x:Str):TyOf K H (.str x) (.type "str")
 | flt (x:UInt64):TyOf K H (.flt x) (.type "float")
 | lst {a:Addr}{xs:List V}(e:H a=some (.lst xs)):TyOf K H (.ref a) (.type "list")
 | frz {a:Addr}{o:Obj}{xs:List V}(e:H a=some (.frz o (.lst xs))):TyOf K H (.ref a) (.type "list")
 | tup {a:Addr}{xs:List V}(e:H a=some (.tup xs)):TyOf K H (.ref a) (.type "tuple")
 | dK {a:Addr}{kvs:List (Key × V)}(e:H a=some (.dK kvs)):TyOf K H (.ref a) (.type "dict")
 | dT {a:Addr}{kvs:List (List Key × V)}(e:H a=some (.dT kvs)):TyOf K H (.ref a) (.type "dict")
 | ins {a C dx:Addr}{fs:List (Str × V)}(e:H a=some (.ins C dx fs)) (cl:Cls K C) (ha:findIn K (.ref C) "__class__"=some (some (.builtin "object.__class__")))
   (hn:specialIn K (.builtin "object.__class__") "__get__"=some (some (.builtin "getset_descriptor.__get__"))) (htk:takesIn K (.builtin "object.__class__")=some true)
   (hm:mroIn K C (.type "object")=some true):TyOf K H (.ref a) (.ref C)
theorem pL {x:V}{u t:Value}(I:Inv X pins σ H s)(rx:RelV x u)(ty:TyOf X.K H x t)(e:kitOne X.K t c=some b)(h:∀ tk,Q (.bool b) { s with toks:=tk }) :
  wpAny (model X.prog X.w) A (call (.builtin "isinstance") [u,c]) Q E s:=by
 cases ty with
 | non=>cases (show u=Value.none from rx); exact kia_one kitx_none I.kIn True.intro e (fun z=>nomatch z) h
 | bl y=>cases (show u=Value.bool y from rx); exact kia_one kitx_bool I.kIn True.intro e (fun z=>nomatch z) h
 | int i=>obtain ⟨t,q⟩:=(show ∃ t,u=Value.int i t from rx); cases q; exact kia_one kitx_int I.kIn True.intro e (fun z=>nomatch z) h
 | str y=>obtain ⟨t,q⟩:=(show ∃ t,u=Value.str y t from rx); cases q; exact kia_one kitx_str I.kIn True.intro e (fun z=>nomatch z) h
 | flt y=>obtain ⟨t,q⟩:=(show ∃ t,u=Value.float y t from rx); cases q; exact kia_one kitx_float I.kIn True.intro e (fun z=>nomatch z) h
 | @lst a xs ea =>
  cases (show u=Value.ref a from rx)
  obtain ⟨_,_,n,_,h1⟩:=(show ObjOk X.prog X.w H s.heap a (.lst xs) from I.hok a _ ea)
  exact kia_one kitx_list I.kIn ⟨_,h1,rfl⟩ e (fun z=>nomatch z) h
 | @frz a ob xs ea =>
  cases (show u=Value.ref a from rx)
  obtain ⟨_,_,_,n,_,h1⟩:=(show ObjOk X.prog X.w H s.heap a (.frz ob (.lst xs)) from I.hok a _ ea)
  exact kia_one kitx_list I.kIn ⟨_,h1,rfl⟩ e (fun z=>nomatch z) h
 | @tup a xs ea =>
  cases (show u=Value.ref a from rx)
  obtain ⟨_,_,_,p⟩:=(show ObjOk X.prog X.w H s.heap a (.tup xs) from I.hok a _ ea)
  obtain ⟨o,h1,h2,_⟩:=p
  exact kia_one kitx_tuple I.kIn ⟨o,h1,h2⟩ e (fun z=>nomatch z) h
 | @dK a kvs ea =>
  cases (show u=Value.ref a from rx)
  obtain ⟨_,_,vs,_,p⟩:=(show ObjOk X.prog X.w H s.heap a (.dK kvs) from I.hok a _ ea)
  obtain ⟨o,es,ep,h1,h2,_⟩:=p
  exact kia_one kitx_dict I.kIn ⟨o,h1,h2.1⟩ e (fun z=>nomatch z) h
 | @dT a kvs ea =>
  cases (show u=Value.ref a from rx)
  obtain ⟨_,_,xs,_,o,es,ep,h1,h2,_⟩:=(show ObjOk X.prog X.w H s.heap a (.dT kvs) from I.hok a _ ea)
  exact kia_one kitx_dict I.kIn ⟨o,h1,h2.1⟩ e (fun z=>nomatch z) h
 | @ins a C dx fs ea cl ha hn htk hm =>
  cases (show u=Value.ref a from rx)
  obtain ⟨mA,O,_⟩:=pK I.hok ea
  obtain ⟨od,J,_⟩:=O.look
  exact kia_one (kitx_own (cl.get _) cl.hd ha hn htk hm) I.kIn J e (fun z=>nomatch z) h
end
structure Room (k:Nat) (A:Around):Prop where
 hd:A.handled=none
 dp:A.depth+3 * k+5 < recursionLimit
 un:A.units+16 * k+200 < cLine
theorem Room.mono {j k:Nat}{A:Around}(r:Room k A)(h:j<=k):Room j A:=⟨r.hd,by have:=r.dp; omega,by have:=r.un; omega⟩
theorem Room.deeper {k:Nat}{A:Around}(r:Room (k+1) A)(env:Env):Room k (A.deeper env) :=
 ⟨r.hd,by have:=r.dp; show A.depth+1+3 * k+5 < _; omega,by have:=r.un; show A.units+3+16 * k+200 < _; omega⟩
theorem rK {A:Around}{C:Addr}{us:List Value}{kw:List (Str × Value)}:(A.under (.builtin "type.__call__" ⟨.ref C::us,kw⟩)).depth=A.depth+1:=by
 first | rfl | simp [Around.under,Code.weight,Code.isCreation,Code.isGuard,Code.isCaller,Code.frames,Code.isFrame,guardIds]
theorem rL {A:Around}{C:Addr}{us:List Value}{kw:List (Str × Value)}:(A.under (.builtin "type.__call__" ⟨.ref C::us,kw⟩)).units=A.units+1:=by
 first | rfl | simp [Around.under,Code.cUnits,Code.frames,Code.isFrame]
theorem Room.make {k:Nat}{A:Around}(r:Room (k+1) A)(C:Addr)(us:List Value)(kw:List (Str × Value)):Room k (A.under (.builtin "type.__call__" ⟨.ref C::us,kw⟩)) :=
 ⟨r.hd,by have:=r.dp; rw [rK]; omega,by have:=r.un; rw [rL]; omega⟩
theorem Room.depth {k:Nat}{A:Around}(r:Room k A):A.depth < recursionLimit:=by have:=r.dp; omega
theorem Room.units {k:Nat}{A:Around}(r:Room k A):A.units+64 < cLine:=by have:=r.un; omega
def BK6:TA:=fun _ H Q=>Q [] H
def AO2 (ta:TE)(tr:TA):TA:=fun σ H Q=>ta σ H fun x H1=>tr σ H1 fun xs H2=>Q (x::xs) H2
section
variable {X:Cx}{e:Expr}{es:List Expr}{te:TE}{t:TA}{pos:Pos}
theorem BF8:PA X [] BK6:=fun _ _ _ _ H Q I h=>Calls.spliced_nil ⟨[],H,I,.nil,h⟩
theorem AW6 (ha:PE X e te)(hr:PA X es t)(hs:starEach (e::es) X.env=(false,eval e X.env)::starEach es X.env:=by rfl):PA X (e::es) (AO2 te t):=by
 intro pos pins s σ H Q I h
 rw [hs]
 show wpAny _ _ (spliced ((false,eval e X.env)::backTo pos (starEach es X.env))) _ _ s
 refine Calls.spliced_cons (thn (ha pins s σ H _ I h) fun u s1 ⟨x,H1,I1,r1,q1⟩=>?_)
 exact thn (hr pos pins s1 σ H1 _ I1 q1) fun us s2 ⟨xs,H2,I2,r2,q2⟩=>⟨x::xs,H2,I2,.cons r1 r2,q2⟩
def BR3 (t:TA):TE:=fun σ H Q=>t σ H fun xs H1=>xs.length<=sizeLine/\∀ p,H1 p=none->Q (.ref p) (upd H1 p (.tup xs))
def BL9 (t:TA):TE:=fun σ H Q=>t σ H fun xs H1=>xs.length<=sizeLine/\∀ p,H1 p=none->Q (.ref p) (upd H1 p (.lst xs))
theorem cV {x1}(h:PA X es t):PE X (.Tuple es x1 pos) (BR3 t):=by
 intro pins s σ H Q I hq
 refine wpAny_Tuple_spliced (thn (h pos pins s σ H _ I hq) fun us s1 ⟨xs,H1,I1,r,z,q⟩=>⟨by rw [<- r.length]; exact z,?_⟩)
 have hf:H1 s1.heap.objs.size=none:=I1.hok.fresh (Nat.le_refl _)
 refine ⟨.ref s1.heap.objs.size,upd H1 s1.heap.objs.size (.tup xs),I1.laid (t':=s1.toks) (fun b u e=>Heap.get?_push_of_some _ e) (Nat.le_refl _) ?_,rfl,q _ hf⟩
 exact ⟨z,us,r,⟨_,Heap.get?_push_size _ rfl,rfl,_,rfl⟩⟩
theorem gK (h:PA X es t):PE X (.List es pos) (BL9 t):=by
 intro pins s σ H Q I hq
 refine wpAny_List_spliced (thn (h pos pins s σ H _ I hq) fun us s1 ⟨xs,H1,I1,r,z,q⟩=>⟨by rw [<- r.length]; exact z,?_⟩)
 have hf:H1 s1.heap.objs.size=none:=I1.hok.fresh (Nat.le_refl _)
 refine ⟨.ref s1.heap.objs.size,upd H1 s1.heap.objs.size (.lst xs),I1.laid (t':=s1.toks) (fun b u e=>Heap.get?_push_of_some _ e) (Nat.le_refl _) ?_,rfl,q _ hf⟩
 exact ⟨z,us,0,r,Heap.get?_push_size _ rfl⟩
end
abbrev Sp:=List V->Hp->VK->XK->Prop
abbrev CXT:=List Env->Hp->Shared->XK->Value->Shared->Prop
structure Env0 (P:Program) (w:World) (K:Frag) (mg:Str->Option Value) (base:Heap) (A:Around) (outer:List Env) (s:Shared) (H:Hp):Prop where
 frames:A.frames=some outer
 mod:Mod K mg base
 bs:∀ b o,base.get? b=some o->s.heap.get? b=some o/\H b=none
 bsz:base.objs.size<=s.heap.objs.size
 funs:s.heap.FunFrames base outer
 frf:∀ b∈frs outer,H b=none
 hok:HOk P w H s.heap
 bare:AllBare s.gens
def CE (outer:List Env)(P:Program)(w:World)(H:Hp)(s:Shared)(Q:VK)(u:Value)(s':Shared):Prop :=
 ∃ v H',s'.os=s.os/\AllBare s'.gens/\Un (frs outer) [] H H' s.heap s'.heap/\HOk P w H' s'.heap/\RelV v u/\Q v H'
def CR (CX:CXT)(outer:List Env)(P:Program)(w:World)(H:Hp)(s:Shared)(Q:VK)(E:XK)(r:Result)(s':Shared):Prop :=
 match r with
 | .ok (.ret u)=>CE outer P w H s Q u s'
 | .ok _=>False
 | .error e=>CX outer H s E e s'
structure FnOk (P:Program) (w:World) (K:Frag) (mg:Str->Option Value) (base:Heap) (CX:CXT) (k:Nat) (f:Addr) (fd:FuncData) (ps:List Str) (sp:Sp):Prop where
 len:∀ vs H Q E,sp vs H Q E->vs.length=ps.length
 run:∀ (A:Around) (outer:List Env) (s:Shared) (H:Hp) (args:Args) (us:List Value) (vs:List V) (Q:VK) (E:XK),Room k A->Env0 P w K mg base A outer s H->BindsTo s fd args (ps.zip us)->Vals vs us->sp vs H Q E ->
  codeAny (model P w) A (.call (.ref f) args) (CR CX outer P w H s Q E) s
theorem FnOk.mono {P:Program}{w:World}{K:Frag}{mg:Str->Option Value}{base:Heap}{CX:CXT}{j k:Nat}{f:Addr}{fd:FuncData}{ps:List Str}{sp:Sp}(F:FnOk P w K mg base CX j f fd ps sp)(h:j<=k) :
  FnOk P w K mg base CX k f fd ps sp:=⟨F.len,fun A outer s H args us vs Q E hr=>F.run A outer s H args us vs Q E (hr.mono h)⟩
theorem FnOk.imp {P:Program}{w:World}{K:Frag}{mg:Str->Option Value}{base:Heap}{CX:CXT}{k:Nat}{f:Addr}{fd:FuncData}{ps:List Str}{sp sp':Sp}(F:FnOk P w K mg base CX k f fd ps sp)(h:∀ vs H Q E,sp' vs H Q E->sp vs H Q E):FnOk P w K mg base CX k f fd ps sp' :=
 ⟨fun vs H Q E q=>F.len vs H Q E (h _ _ _ _ q),fun A outer s H args us vs Q E hr he hb hv hs=>F.run A outer s H args us vs Q E hr he hb hv (h _ _ _ _ hs)⟩
theorem Env0.make {P:Program}{w:World}{K:Frag}{mg:Str->Option Value}{base:Heap}{A:Around}{outer:List Env}{s:Shared}{H:Hp}(e:Env0 P w K mg base A outer s H)(C:Addr)(us:List Value)(kw:List (Str × Value)) :
  Env0 P w K mg base (A.under (.builtin "type.__call__" ⟨.ref C::us,kw⟩)) outer s H:=⟨by first | exact e.frames | (simpa [Around.under,Code.envs,Code.isFrame,pushEnvs] using e.frames),e.mod,e.bs,e.bsz,e.funs,e.frf,e.hok,e.bare⟩
section
variable {X:Cx}{pins:List (Addr × Obj)}{σ:St}{H:Hp}{s s':Shared}
theorem Inv.env0 (I:Inv X pins σ H s):Env0 X.prog X.w X.K X.mg X.base X.A X.stack s H :=
 ⟨I.ok.frames,I.ok.mod,I.bs,Nat.le_trans I.ok.bsz I.sz,I.stack,I.stkFree,I.hok,I.bare⟩
theorem Inv.after {Q:VK}{u:Value}(I:Inv X pins σ H s)(h:CE X.stack X.prog X.w H s Q u s'):EP X pins σ Q u s':=by
 obtain ⟨v,H',os,bare,un,hok,r,q⟩:=h
 obtain ⟨hh,g,d,t,os'⟩:=s'
 obtain rfl:os'=s.os:=os
 exact ⟨v,H',I.call (h':=hh) (g':=g) (d':=d) (t':=t) (ch:=[]) un hok bare (fun b z=>absurd z (by simp)),r,q⟩
end
def AF1 (sp:Sp)(dvs:List V)(E:XK)(t:TA):TE:=fun σ H Q=>t σ H fun vs H1=>sp (vs++dvs) H1 Q E
def AW7 (C:Addr)(sp:Sp)(dvs:List V)(E:XK)(t:TA):TE:=fun σ H Q=>t σ H fun vs H1=>∀ x dx,H1 x=none->H1 dx=none->dx≠x ->
 sp (.ref x::(vs++dvs)) (upd (upd H1 dx (.own x)) x (.ins C dx [])) (fun v H2=>v=.non/\Q (.ref x) H2) E
def Binds (K:Frag)(fd:FuncData)(ps:List Str)(ds:List Value):Prop :=
 ∀ (s:Shared) (us:List Value),K.In s.heap->(us++ds).length=ps.length->BindsTo s fd ⟨us,[]⟩ (ps.zip (us++ds))
theorem Binds.all {K:Frag}{fd:FuncData}{ps:List Str}(h:∀ us:List Value,us.length=ps.length->bindArgs fd ⟨us,[]⟩=pure (ps.zip us)):Binds K fd ps []:=fun s us _ hl=>by
 rw [List.append_nil] at hl ⊢
 exact .of_eq (h us hl)
def kK (CX:CXT)(X:Cx)(E:XK):Prop:=∀ (pins:List (Addr × Obj)) (σ:St) (H:Hp) (s:Shared) (e:Value) (s':Shared),Inv X pins σ H s->CX X.stack H s E e s'->X.xe e s'
section
variable {X:Cx}{CX:CXT}{k:Nat}{f C:Addr}{fd:FuncData}{ps:List Str}{sp:Sp}{dvs:List V}{ds:List Value}{E:XK}{x m:Str}{p pos apos:Pos}{e o:Expr}{es:List Expr}{ta:TE}{t:TA}
theorem AS9 {pins:List (Addr × Obj)}{σ:St}{H:Hp}{s:Shared}{Q:VK}{us:List Value}{vs:List V}(F:FnOk X.prog X.w X.K X.mg X.base CX k f fd ps sp)(hr:Room k X.A)(hb:Binds X.K fd ps ds)(hd:Vals dvs ds)(hx:kK CX X E)(I:Inv X pins σ H s)(r:Vals vs us)(h:sp (vs++dvs) H Q E):wpAny (model X.prog X.w) X.A (call (.ref f) us) (EP X pins σ Q) X.xe s:=by
 have r2:Vals (vs++dvs) (us++ds):=r.append hd
 have hl:(us++ds).length=ps.length:=by rw [<- r2.length]; exact F.len _ _ _ _ h
 refine wpAny_call (codeAny_mono (F.run X.A X.stack s H ⟨us,[]⟩ (us++ds) (vs++dvs) Q E hr I.env0 (hb s us I.kIn hl) r2 h) fun r s' hq=>?_)
 cases r with
 | error e=>exact hx pins σ H s e s' I hq
 | ok fl =>
  cases fl with
  | ret u=>exact I.after hq
  | next=>exact False.elim hq
  | brk=>exact False.elim hq
  | cont=>exact False.elim hq
theorem wM (F:FnOk X.prog X.w X.K X.mg X.base CX k f fd ps sp)(hr:Room k X.A)(hg:Gl X x)(hm:X.mg x=some (.ref f))(hk:keepIn X.K (.ref f)=true)(hb:Binds X.K fd ps ds)(hd:Vals dvs ds)(hx:kK CX X E)(ha:PA X (e::es) t)(hdb:(x == ("__debug__":Str))=false:=by decide)(he:starEach (e::es) X.env=(false,eval e X.env)::starEach es X.env:=by rfl)(hpl:(backTo pos (starEach es X.env)).any (·.1)=false:=by rfl) :
  PE X (.Call (.Name x p) (e::es) [] pos) (AF1 sp dvs E t):=by
 intro pins s σ H Q I h
 refine wpAny_Call_Name_kw (iD I hg hm ?_ hdb)
 refine callWith_K (h₀:=X.base) I.ok.mod.kin hk (thn (ha pos pins s σ H _ I h) fun us s1 ⟨vs,H1,I1,r,q⟩=>⟨I1.kIn,?_⟩) he hpl
 exact AS9 F hr hb hd hx I1 r q
structure Mk (K:Frag) (C f:Addr):Prop where
 makes:makesIn K C=true
 init:findIn K (.ref C) "__init__"=some (some (.ref f))
 fn:isFn K (.ref f)=true
 kp:keepIn K (.ref C)=true
theorem AO3 {pins:List (Addr × Obj)}{σ:St}{H:Hp}{s:Shared}{Q:VK}{us:List Value}{vs:List V}(M:Mk X.K C f)(F:FnOk X.prog X.w X.K X.mg X.base CX k f fd ps sp)(hr:Room (k+1) X.A)(hb:Binds X.K fd ps ds)(hd:Vals dvs ds)(hx:kK CX X E)(I:Inv X pins σ H s)(r:Vals vs us)(h:∀ x dx,H x=none->H dx=none->dx≠x->sp (.ref x::(vs++dvs)) (upd (upd H dx (.own x)) x (.ins C dx [])) (fun v H2=>v=.non/\Q (.ref x) H2) E) :
  wpAny (model X.prog X.w) X.A (call (.ref C) us) (EP X pins σ Q) X.xe s:=by
 have hq:=h (s.heap.objs.size+1) s.heap.objs.size (I.hok.fresh (Nat.le_succ _)) (I.hok.fresh (Nat.le_refl _)) (Nat.ne_of_lt (Nat.lt_succ_self _))
 have I2:=Inv.made (C:=C) I
 have r2:Vals (V.ref (s.heap.objs.size+1)::(vs++dvs)) (Value.ref (s.heap.objs.size+1)::(us++ds)):=.cons rfl (r.append hd)
 have hl:(Value.ref (s.heap.objs.size+1)::us++ds).length=ps.length:=by
  have e:=r2.length
  rw [F.len _ _ _ _ hq] at e
  exact e.symm
 refine wpAny_call (AO1 (f:=f) I.kIn M.makes M.init (beq_iff_eq.mp M.fn) (codeAny_mono (F.run _ X.stack _ _ ⟨Value.ref (s.heap.objs.size+1)::us,[]⟩ (Value.ref (s.heap.objs.size+1)::(us++ds)) _ _ E (hr.make C us [])
  (I2.env0.make C us []) (hb _ (Value.ref (s.heap.objs.size+1)::us) I2.kIn hl) r2 hq) fun r s' hq'=>?_))
 cases r with
 | error e=>exact hx pins σ _ _ e s' I2 hq'
 | ok fl =>
  cases fl with
  | ret u =>
   obtain ⟨v,H',I3,rv,ev,q3⟩:=I2.after hq'
   subst ev
   exact ⟨rv,⟨V.ref (s.heap.objs.size+1),H',I3,rfl,q3⟩⟩
  | next=>exact False.elim hq'
  | brk=>exact False.elim hq'
  | cont=>exact False.elim hq'
theorem AW8 (M:Mk X.K C f)(F:FnOk X.prog X.w X.K X.mg X.base CX k f fd ps sp)(hr:Room (k+1) X.A)(hg:Gl X x)(hm:X.mg x=some (.ref C))(hb:Binds X.K fd ps ds)(hd:Vals dvs ds)(hx:kK CX X E)(ha:PA X (e::es) t)(hdb:(x == ("__debug__":Str))=false:=by decide)(he:starEach (e::es) X.env=(false,eval e X.env)::starEach es X.env:=by rfl)(hpl:(backTo pos (starEach es X.env)).any (·.1)=false:=by rfl) :
  PE X (.Call (.Name x p) (e::es) [] pos) (AW7 C sp dvs E t):=by
 intro pins s σ H Q I h
 refine wpAny_Call_Name_kw (iD I hg hm ?_ hdb)
 refine callWith_K (h₀:=X.base) I.ok.mod.kin M.kp (thn (ha pos pins s σ H _ I h) fun us s1 ⟨vs,H1,I1,r,q⟩=>⟨I1.kIn,?_⟩) he hpl
 exact AO3 M F hr hb hd hx I1 r q
end
section
variable {X:Cx}{CX:CXT}{k:Nat}{f C:Addr}{fd:FuncData}{ps ks:List Str}{sp:Sp}{E:XK}{x m:Str}{p pos apos kpos:Pos}{e o:Expr}{es:List Expr}{kws:List Keyword}{te ta:TE}{t tk:TA}{nm:Option Str}
structure KBinds (K:Frag) (fd:FuncData) (ps ks:List Str) (g:List Value->List Value->List Value) (gV:List V->List V->List V):Prop where
 to:∀ (s:Shared) (us ws:List Value),K.In s.heap->(g us ws).length=ps.length->BindsTo s fd ⟨us,ks.zip ws⟩ (ps.zip (g us ws))
 rel:∀ {vs:List V}{us:List Value}{zs:List V}{ws:List Value},Vals vs us->Vals zs ws->Vals (gV vs zs) (g us ws)
variable {g:List Value->List Value->List Value}{gV:List V->List V->List V}
end
structure FnScope (N P:List Str) (sc:Scope):Prop where
 kind:sc.kind=.function
 co:sc.isCoroutine=false
 gen:sc.isGenerator=false
 nd:N.Nodup
 pre:N.take P.length=P
 par:∀ x∈P,sc.names.lookup x=some .local\/sc.names.lookup x=some .cell
 nofree:∀ y∈sc.names,y.2≠.free
theorem uT {kindOf:Str->Option NameKind}{x:Str}:∀ {binds:List (Str × Value)}{m:Str->Option Value},(∀ v,(x,v) ∉ binds)->bindL kindOf binds m x=m x
 | [],_,_=>rfl
 | (n,v)::r,m,h=>by
  unfold bindL
  rw [uT fun w hw=>h w (List.mem_cons_of_mem _ hw)]
  split
  ·have:x≠n:=by rintro rfl; exact h v List.mem_cons_self
   simp [this]
  ·rfl
theorem uU {kindOf:Str->Option NameKind}{x:Str}:∀ {binds:List (Str × Value)}{m:Str->Option Value},(∀ v,(x,v) ∉ binds)->bindC kindOf binds m x=m x
 | [],_,_=>rfl
 | (n,v)::r,m,h=>by
  unfold bindC
  rw [uU fun w hw=>h w (List.mem_cons_of_mem _ hw)]
  split
  ·rfl
  ·have:x≠n:=by rintro rfl; exact h v List.mem_cons_self
   simp [this]
theorem uV {kindOf:Str->Option NameKind}{x:Str}{v:Value}:∀ {P:List Str}{vs:List Value}{i:Nat}{m:Str->Option Value},P.Nodup->P[i]?=some x->vs[i]?=some v->kindOf x=some .local ->
  bindL kindOf (P.zip vs) m x=some v
 | [],_,_,_,_,h,_,_=>by simp at h
 | _::_,[],_,_,_,_,h,_=>by simp at h
 | p::P,w::vs,0,m,nd,h1,h2,hk=>by
  simp at h1 h2; subst h1; subst h2
  show bindL kindOf ((p,w)::P.zip vs) m p=_
  unfold bindL
  rw [uT fun v hv=>(List.nodup_cons.mp nd).1 (List.of_mem_zip hv).1,if_pos hk]
  simp
 | p::P,w::vs,i+1,m,nd,h1,h2,hk=>by
  show bindL kindOf ((p,w)::P.zip vs) m x=_
  unfold bindL
  exact uV (i:=i) (List.nodup_cons.mp nd).2 (by simpa using h1) (by simpa using h2) hk
theorem uW {kindOf:Str->Option NameKind}{x:Str}{v:Value}:∀ {P:List Str}{vs:List Value}{i:Nat}{m:Str->Option Value},P.Nodup->P[i]?=some x->vs[i]?=some v->kindOf x≠some .local ->
  bindC kindOf (P.zip vs) m x=some v
 | [],_,_,_,_,h,_,_=>by simp at h
 | _::_,[],_,_,_,_,h,_=>by simp at h
 | p::P,w::vs,0,m,nd,h1,h2,hk=>by
  simp at h1 h2; subst h1; subst h2
  show bindC kindOf ((p,w)::P.zip vs) m p=_
  unfold bindC
  rw [uU fun v hv=>(List.nodup_cons.mp nd).1 (List.of_mem_zip hv).1,if_neg hk]
  simp
 | p::P,w::vs,i+1,m,nd,h1,h2,hk=>by
  show bindC kindOf ((p,w)::P.zip vs) m x=_
  unfold bindC
  exact uW (i:=i) (List.nodup_cons.mp nd).2 (by simpa using h1) (by simpa using h2) hk
def start (N:List Str)(vs:List V):St:=vs.map some++List.replicate (N.length - vs.length) none
def AF2 (CX:CXT)(P:Program)(w:World)(K:Frag)(mg:Str->Option Value)(base:Heap)(N:List Str)(qual:Str)(scope:Scope)(f:Addr)(cd:Value)(A:Around)(outer:List Env)(s:Shared)(H:Hp)(E:XK):Cx where
 prog:=P
 w:=w
 K:=K
 mg:=mg
 base:=base
 A:=A.deeper (envOfC qual scope s.heap.objs.size f cd)
 N:=N
 s₀:=s
 H₀:=H
 env:=envOfC qual scope s.heap.objs.size f cd
 outer:=outer
 stack:=envOfC qual scope s.heap.objs.size f cd::outer
 ex:=[]
 calm:=true
 fn:=fun _=>true
 pn:=[]
 xe:=fun e s'=>wpAny (model P w) (A.deeper (envOfC qual scope s.heap.objs.size f cd)) (leaving (envOfC qual scope s.heap.objs.size f cd) e) (fun _ s''=>CX outer H s E e s'') (fun e' s''=>CX outer H s E e' s'') s'
theorem zC {sc:Scope}{n:Nat}{x:Str}(h:sc.names.lookup x=some .cell):∃ c,(cellsFrom n sc.names []).lookup x=some c:=by
 have q:=cellsFrom_some sc.names n [] (.inl h)
 exact Option.isSome_iff_exists.mp q
theorem uX {CX:CXT}{P:Program}{w:World}{K:Frag}{mg:Str->Option Value}{base:Heap}{N ps:List Str}{qual:Str}{scope:Scope}{f:Addr}{cd:Value}{A:Around}{outer:List Env}{s s1:Shared}{H:Hp}{E:XK}{us:List Value}{vs:List V}(S:FnScope N ps scope)(hd:A.handled=none)(e0:Env0 P w K mg base A outer s H)(hl:vs.length=ps.length)(r:Vals vs us)(x:InCallC s s.heap.objs.size (bindL (envOfC qual scope s.heap.objs.size f cd).kindOf (ps.zip us) fun _=>none) (cellsFrom (s.heap.objs.size+1) scope.names []) (bindC (envOfC qual scope s.heap.objs.size f cd).kindOf (ps.zip us) fun _=>none) s1) :
  Inv (AF2 CX P w K mg base N qual scope f cd A outer s H E) [] (start N vs) H s1:=by
 have hpl:ps.length<=N.length:=by have:=congrArg List.length S.pre; rw [List.length_take] at this; omega
 obtain ⟨h1,tk,rfl,hk⟩:=x.done
 have noA:∀ b:Addr,b ∉ (AF2 CX P w K mg base N qual scope f cd A outer s H E).ex:=fun b z=>absurd (show b∈([]:List Addr) from z) (by simp)
 refine ⟨⟨e0.mod,S.kind,rfl,rfl,Nat.le_refl _,fun y z c h1 h2=>?_,fun y hy=>?_,fun y c _ h=>?_,fun _=>hd,Around.frames_deeper e0.frames,.inr ⟨rfl,rfl⟩,fun b z=>absurd z (noA b),e0.bs,e0.bsz,fun b _ _=>noA b,fun b z=>absurd z (noA b),e0.funs,e0.frf⟩,
  rfl,e0.bare,Un.kept hk,⟨_,x.toInCall.ns,fun i y v h1 h2 h3=>?_⟩,fun y c h=>⟨_,x.cell y c h⟩,e0.hok.fresh (Nat.le_refl _),fun y c h=>?_,fun p hp=>absurd (show p∈([]:List (Addr × Obj)) from hp) (by simp),e0.hok.kept hk,?_⟩
 ·exact name_of_addr x.apart (PySem.mem_of_lookup h1) (PySem.mem_of_lookup h2)
 ·have hy:scope.names.lookup y=some .cell\/scope.names.lookup y=some .free:=hy
  rcases hy with hy | hy
  ·exact zC hy
  ·exact absurd rfl (S.nofree _ (PySem.mem_of_lookup hy))
 ·exact Nat.le_of_lt (x.above y c (PySem.mem_of_lookup h))
 ·have hi:i < vs.length:=by
   unfold start at h2
   by_cases hi:i < vs.length
   ·exact hi
   ·rw [List.getElem?_append_right (by simpa using hi)] at h2
    rw [List.getElem?_replicate] at h2
    split at h2 <;> cases h2
  have ha:vs[i]?=some v:=by
   unfold start at h2
   rw [List.getElem?_append_left (by simpa using hi),List.getElem?_map] at h2
   cases e:vs[i]? with
   | none=>rw [e] at h2; cases h2
   | some a=>rw [e] at h2; cases h2; rfl
  obtain ⟨u,hu,rv⟩:=r.get ha
  have hp:ps[i]?=some y:=by
   rw [<- S.pre,List.getElem?_take_of_lt (by omega)]; exact h1
  have ndP:ps.Nodup:=by rw [<- S.pre]; exact S.nd.sublist (List.take_sublist _ _)
  refine ⟨u,rv,?_⟩
  rcases S.par y (List.mem_of_getElem? hp) with k | k
  ·exact .inl ⟨k,uV ndP hp hu k⟩
  ·obtain ⟨c,e⟩:=zC (n:=s.heap.objs.size+1) k
   refine .inr ⟨.inl k,c,e,?_⟩
   have q:=x.cell y c e
   rw [uW ndP hp hu (by show scope.names.lookup y≠_; rw [k]; decide)] at q
   exact q
 ·exact e0.hok.fresh (Nat.le_of_lt (x.above y c (PySem.mem_of_lookup h)))
 ·unfold start
  show _=N.length
  rw [List.length_append,List.length_map,List.length_replicate]
  omega
theorem AO4 {CX:CXT}{P:Program}{w:World}{K:Frag}{mg:Str->Option Value}{base:Heap}{k:Nat}{f:Addr}{name qual:Str}{params:Arguments}{body:List Stmt}{scope:Scope}{dV kV doc pm cdv ct oc:Value}{an od:Option Addr}{osl:Array (Option Value)}{N ps:List Str}{sp:Sp}(lk:K.lookup f=some ⟨oc,od,.func (fnOf name qual params body scope dV kV doc pm an cdv ct),osl⟩)(hcd:codeIn K cdv qual=true)(S:FnScope N ps scope)(len:∀ vs H Q E,sp vs H Q E->vs.length=ps.length)(hbody:∀ (A:Around) (outer:List Env) (s:Shared) (H:Hp) (vs:List V) (Q:VK) (E:XK),Room k (A.deeper (envOfC qual scope s.heap.objs.size f cdv))->sp vs H Q E ->
   ∃ t,PSs (AF2 CX P w K mg base N qual scope f cdv A outer s H E) body t/\t { nx:=fun _ H'=>Q .non H',rt:=Q } (start N vs) H) :
  FnOk P w K mg base CX (k+1) f (fnOf name qual params body scope dV kV doc pm an cdv ct) ps sp:=by
 refine ⟨len,fun A outer s H args us vs Q E hr e0 hb r hsp=>?_⟩
 have hl:=len _ _ _ _ hsp
 have KX:K.In s.heap:=e0.mod.kin.keeps fun b o e=>(e0.bs b o e).1
 have lim:s.heap.NoLimit:=e0.mod.nolimit.keeps fun b o e=>(e0.bs b o e).1
 have hkind:∀ y∈ps.zip us,scope.names.lookup y.1=some .local\/(scope.names.lookup y.1=some .cell/\((cellsFrom (s.heap.objs.size+1) scope.names []).lookup y.1).isSome=true):=fun ⟨n,v⟩ hy=>by
  rcases S.par n (List.of_mem_zip hy).1 with q | q
  ·exact .inl q
  ·exact .inr ⟨q,cellsFrom_some _ _ _ (.inl q)⟩
 refine codeAny_call_function hr.depth (KX _ _ lk) rfl S.co S.gen rfl (codeRec_of KX hcd) (hb _ _ _ _ ?_)
 refine wpAny_newFunctionEnv_cells S.kind hkind fun env he s1 x=>?_
 subst he
 refine ⟨lim.keeps x.toInCall.keep,codeAny_func ?_⟩
 obtain ⟨t,ht,hq⟩:=hbody A outer s H vs Q E (hr.deeper _) hsp
 have I:Inv (AF2 CX P w K mg base N qual scope f cdv A outer s H E) [] (start N vs) H s1:=uX S hr.hd e0 hl r x
 refine wpAny_mono (ht [] s1 (start N vs) H _ I hq) (fun fl s' hs=>?_) fun e s' hs=>hs
 have fin:∀ {σ':St}{H':Hp}{v:V}{u:Value},Inv (AF2 CX P w K mg base N qual scope f cdv A outer s H E) [] σ' H' s'->RelV v u->Q v H'->CE outer P w H s Q u s' :=
  fun {σ' H' v u} J rv q=>⟨v,H',J.os,J.bare,J.base,J.hok,rv,q⟩
 cases fl with
 | ret u =>
  obtain ⟨v,σ',H',J,rv,q⟩:=hs
  exact fin J rv q
 | next =>
  obtain ⟨σ',H',J,q⟩:=hs
  exact fin (v:=V.non) (u:=Value.none) J rfl q
 | brk =>
  obtain ⟨_,_,_,q⟩:=hs
  exact False.elim q
 | cont =>
  obtain ⟨_,_,_,q⟩:=hs
  exact False.elim q
section
variable {X:Cx}{x:Str}{p pos:Pos}{e:Expr}{es:List Expr}{t:TA}{id T:String}{r:List V->Hp->VK->Prop}
def tCB (r:List V->Hp->VK->Prop)(t:TA):TE:=fun σ H Q=>t σ H fun vs H1=>r vs H1 Q
theorem aU (hc:CallR X (.builtin id) r)(hg:Gl X x)(hm:X.mg x=none)(hv:bootBuiltins x=some (.builtin id))(ha:PA X (e::es) t)(hn:x≠"__name__":=by decide)(hdb:(x == ("__debug__":Str))=false:=by decide)(he:starEach (e::es) X.env=(false,eval e X.env)::starEach es X.env:=by rfl)(hpl:(backTo pos (starEach es X.env)).any (·.1)=false:=by rfl):PE X (.Call (.Name x p) (e::es) [] pos) (tCB r t):=by
 intro pins s σ H Q I h
 refine wpAny_Call_Name_kw (yZ I hg hm hv ?_ hn hdb)
 exact PyProof.Rows.callWith_builtin1 (thn (ha pos pins s σ H _ I h) fun us s1 ⟨vs,H1,I1,r1,q1⟩=>hc pins s1 σ H1 vs us Q I1 r1 q1) he hpl
theorem bH (hc:CallR X (.type T) r)(hg:Gl X x)(hm:X.mg x=none)(hv:bootBuiltins x=some (.type T))(ha:PA X (e::es) t)(hn:x≠"__name__":=by decide)(hdb:(x == ("__debug__":Str))=false:=by decide)(he:starEach (e::es) X.env=(false,eval e X.env)::starEach es X.env:=by rfl)(hpl:(backTo pos (starEach es X.env)).any (·.1)=false:=by rfl):PE X (.Call (.Name x p) (e::es) [] pos) (tCB r t):=by
 intro pins s σ H Q I h
 refine wpAny_Call_Name_kw (yZ I hg hm hv ?_ hn hdb)
 exact PyProof.Rows.callWith_type1 (thn (ha pos pins s σ H _ I h) fun us s1 ⟨vs,H1,I1,r1,q1⟩=>hc pins s1 σ H1 vs us Q I1 r1 q1) he hpl
end
end L2
namespace HT
open PySem PyProof.Rows PySem.W
section
open PySem.SeqAt
open PySem.AutoSeq1 (wpAny_loadPart')
open PySem.MeetsSeq PySem.MeetsSeq2 PySem.MeetsSeq3
end
section
variable {prog:Program}{w:World}{A:Around}{E:Value->Shared->Prop}{s:Shared}
def sIx (n d:Nat):Option Int->Nat
 | none=>d
 | some v=>if v < 0 then (v+(n:Int)).toNat else min v.toNat n
theorem sIx_none (n d:Nat):sIx n d none=d:=rfl
theorem sIx_nat (n d k:Nat):sIx n d (some (k:Int))=min k n:=by
 show (if (k:Int) < 0 then ((k:Int)+(n:Int)).toNat else min (k:Int).toNat n)=min k n
 rw [if_neg (by omega),Int.toNat_natCast]
end
end HT
namespace L2
open PySem PySem.Spec PyProof.Rows PySem.W
abbrev TO:=St->Hp->(Option Int->Hp->Prop)->Prop
def PO (X:Cx)(e:Option Expr)(t:TO):Prop :=
 ∀ (pins:List (Addr × Obj)) (s:Shared) (σ:St) (H:Hp) (Q:Option Int->Hp->Prop),Inv X pins σ H s->t σ H Q ->
  wpAny (model X.prog X.w) X.A (evalPart e X.env) (fun u s'=>∃ o H',Inv X pins σ H' s'/\IsPart u o/\Q o H') X.xe s
def AF3:TO:=fun _ H Q=>Q none H
def BF9 (t:TE):TO:=fun σ H Q=>t σ H fun x H1=>∃ i,x=.int i/\Q (some i) H1
section
variable {X:Cx}{e:Expr}{te:TE}{lo hi:Option Expr}{tl th:TO}{pos p2:Pos}
theorem dL:PO X none AF3:=by
 intro pins s σ H Q I h
 rw [evalPart_none]
 exact wpAny_pure ⟨none,H,I,.none,h⟩
theorem cU (h:PE X e te):PO X (some e) (BF9 te):=by
 intro pins s σ H Q I hw
 rw [evalPart_some]
 refine thn (h pins s σ H _ I hw) fun u s1 ⟨x,H1,I1,r1,q1⟩=>?_
 obtain ⟨i,rfl,q⟩:=q1
 obtain ⟨t,rfl⟩:=r1
 exact ⟨some i,H1,I1,.int i t,q⟩
def SlR (X:Cx)(r:V->Option Int->Option Int->Hp->VK->Prop):Prop :=
 ∀ (pins:List (Addr × Obj)) (s:Shared) (σ:St) (H:Hp) (x:V) (v vl vu:Value) (lo hi:Option Int) (sl:Addr) (Q:VK),Inv X pins σ H s->RelV x v->s.heap.IsSliceOf sl vl vu .none->IsPart vl lo->IsPart vu hi->r x lo hi H Q ->
  ∃ T id,typeLookup (.type T) "__getitem__"=pure (some (.builtin id))/\s.TypeIs v T/\wpAny (model X.prog X.w) X.A (getItem v (.ref sl)) (EP X pins σ Q) X.xe s
theorem SlR.or {r r':V->Option Int->Option Int->Hp->VK->Prop}(h:SlR X r)(h':SlR X r'):SlR X (fun x lo hi H Q=>r x lo hi H Q\/r' x lo hi H Q):=by
 intro pins s σ H x v vl vu lo hi sl Q I rx hs pl pu q
 rcases q with q | q
 ·exact h pins s σ H x v vl vu lo hi sl Q I rx hs pl pu q
 ·exact h' pins s σ H x v vl vu lo hi sl Q I rx hs pl pu q
def tSl (r:V->Option Int->Option Int->Hp->VK->Prop)(te:TE)(tl th:TO):TE:=fun σ H Q=>te σ H fun x H1=>tl σ H1 fun l H2=>th σ H2 fun u H3=>r x l u H3 Q
theorem cI {r:V->Option Int->Option Int->Hp->VK->Prop}(hr:SlR X r)(he:PE X e te)(hl:PO X lo tl)(hu:PO X hi th):PE X (.Subscript e (.Slice lo hi none p2) pos) (tSl r te tl th):=by
 intro pins s σ H Q I h
 refine Subscript_ (thn (he pins s σ H _ I h) fun v s1 ⟨x,H1,I1,r1,q1⟩=>?_)
 refine wpAny_Slice (thn (hl pins s1 σ H1 _ I1 q1) fun vl s2 ⟨l,H2,I2,pl,q2⟩=>thn (hu pins s2 σ H2 _ I2 q2) fun vu s3 ⟨u,H3,I3,pu,q3⟩=>?_)
 rw [evalPart_none]
 refine wpAny_pure ?_
 have I4:Inv X pins σ H3 { s3 with heap:=s3.heap.push { cls:=.type "slice",data:=.fields #[vl,vu,.none] } }:=I3.kept (t':=s3.toks) fun b ob q=>Heap.get?_push_of_some _ q
 obtain ⟨T,id,hT,ht,hg⟩:=hr pins { s3 with heap:=s3.heap.push { cls:=.type "slice",data:=.fields #[vl,vu,.none] } } σ H3 x v vl vu l u s3.heap.objs.size Q I4 r1 (Heap.IsSliceOf.new ..) pl pu q3
 show wpAny (model X.prog X.w) X.A (subscriptTail e (.Slice lo hi none p2) v (.ref s3.heap.objs.size)) (EP X pins σ Q) X.xe { s3 with heap:=s3.heap.push { cls:=.type "slice",data:=.fields #[vl,vu,.none] } }
 exact tail_any (ops:=[.ref s3.heap.objs.size,v]) ht hT hg (by with_unfolding_all rfl)
def AB4 (xs:List V)(lo hi:Option Int):List V:=(xs.drop (HT.sIx xs.length 0 lo)).take (HT.sIx xs.length xs.length hi - HT.sIx xs.length 0 lo)
theorem wN (xs:List V)(lo hi:Option Int):(AB4 xs lo hi).length<=xs.length:=by
 unfold AB4
 rw [List.length_take,List.length_drop]
 omega
end
def ixN (n:Nat)(i:Int):Option Nat:=if 0<=i then (if i < n then some i.toNat else none) else if -(n:Int)<=i then some (i+n).toNat else none
def atI {α:Type}(xs:List α)(i:Int):Option α:=(ixN xs.length i).bind fun j=>xs[j]?
theorem AF4 {n:Nat}{i:Int}{j:Nat}(h:ixN n i=some j):seqIndex? i n=some j/\j < n/\-(n:Int)<=i/\i < n:=by
 unfold ixN at h
 by_cases h0:0<=i
 ·rw [if_pos h0] at h
  by_cases h1:i < n
  ·rw [if_pos h1] at h
   have e:i.toNat=j:=Option.some.inj h
   exact ⟨by rw [seqIndex_of h0 h1,e],by omega,by omega,h1⟩
  ·rw [if_neg h1] at h; cases h
 ·rw [if_neg h0] at h
  by_cases h1:-(n:Int)<=i
  ·rw [if_pos h1] at h
   have e:(i+n).toNat=j:=Option.some.inj h
   exact ⟨by rw [seqIndex_neg (by omega) h1,e],by omega,h1,by omega⟩
  ·rw [if_neg h1] at h; cases h
theorem wO {α:Type}{xs:List α}{i:Int}{v:α}(h:atI xs i=some v):∃ j,seqIndex? i xs.length=some j/\xs[j]?=some v/\j < xs.length/\-(xs.length:Int)<=i/\i < xs.length:=by
 unfold atI at h
 cases e:ixN xs.length i with
 | none=>rw [e] at h; cases h
 | some j =>
  rw [e] at h
  obtain ⟨h1,h2,h3,h4⟩:=AF4 e
  exact ⟨j,h1,h,h2,h3,h4⟩
theorem iF {α:Type}{xs:List α}{j:Nat}{v:α}(h:xs[j]?=some v):atI xs (j:Int)=some v:=by
 have hj:j < xs.length:=(List.getElem?_eq_some_iff.mp h).1
 have e:ixN xs.length (j:Int)=some j:=by
  unfold ixN
  rw [if_pos (by omega),if_pos (by omega)]; simp
 unfold atI; rw [e]; exact h
def AF5 (b:Expr):Prop:=∀ o i,subscripted b false o i=operate [o,i] (getItem o i)
def IxR (X:Cx)(r:R2):Prop :=
 ∀ (value slice:Expr) (pins:List (Addr × Obj)) (s:Shared) (σ:St) (H:Hp) (x y:V) (v u:Value) (Q:VK),Inv X pins σ H s->RelV x v->RelV y u->r x y H Q ->
  subscripted slice false v u=operate [v,u] (getItem v u)->wpAny (model X.prog X.w) X.A (subscriptTail value slice v u) (EP X pins σ Q) X.xe s
def MtR (X:Cx)(id:String)(r:V->List V->Hp->VK->Prop):Prop :=
 ∀ (pins:List (Addr × Obj)) (s:Shared) (σ:St) (H:Hp) (x:V) (xs:List V) (v:Value) (us:List Value) (Q:VK),Inv X pins σ H s->RelV x v->Vals xs us->r x xs H Q ->
  wpAny (model X.prog X.w) X.A (call (.builtin id) (v::us)) (EP X pins σ Q) X.xe s
section
variable {X:Cx}{a b:Expr}{ta tb:TE}{pos:Pos}
theorem IxR.or {r r':R2}(h:IxR X r)(h':IxR X r'):IxR X (fun x y H Q=>r x y H Q\/r' x y H Q):=by
 intro value slice pins s σ H x y v u Q I rx ry q hs
 rcases q with q | q
 ·exact h value slice pins s σ H x y v u Q I rx ry q hs
 ·exact h' value slice pins s σ H x y v u Q I rx ry q hs
theorem MtR.or {id:String}{r r':V->List V->Hp->VK->Prop}(h:MtR X id r)(h':MtR X id r'):MtR X id (fun x xs H Q=>r x xs H Q\/r' x xs H Q):=by
 intro pins s σ H x xs v us Q I rx rs q
 rcases q with q | q
 ·exact h pins s σ H x xs v us Q I rx rs q
 ·exact h' pins s σ H x xs v us Q I rx rs q
theorem bN {r:R2}(hr:IxR X r)(ha:PE X a ta)(hb:PE X b tb)(hs:AF5 b):PE X (.Subscript a b pos) (tOp r ta tb):=by
 intro pins s σ H Q I h
 exact Subscript_ (BL7 ha hb I h fun v u s2 x y H2 I2 rx ry q=>hr a b pins s2 σ H2 x y v u Q I2 rx ry q (hs _ _))
def BM0 (K:Frag):R2:=fun x y H Q=>∃ p xs i v,x=.ref p/\y=.int i/\SqL K H p xs/\atI xs i=some v/\Q v H
def BM1 (K:Frag):R2:=fun x y H Q=>∃ p xs i v,x=.ref p/\y=.int i/\SqT K H p xs/\atI xs i=some v/\Q v H
def BR4:R2:=fun x y H Q=>∃ z i c,x=.str z/\y=.int i/\z.length<=sizeLine/\atI z.cps.toList i=some c/\Q (.str ⟨#[c]⟩) H
theorem bJ:IxR X (BM0 X.K):=by
 intro value slice pins s σ H x y v u Q I rx ry h hs
 obtain ⟨p,xs,i,z,rfl,rfl,hq,he,q⟩:=h
 cases rx
 obtain ⟨t,rfl⟩:=ry
 obtain ⟨its,r,pl,hz⟩:=I.list hq
 obtain ⟨j,h1,h2,h3,h4,h5⟩:=wO he
 obtain ⟨w,ew,rw'⟩:=r.get h2
 have hl:=r.length
 have hn:=rF
 have fin:EP X pins σ Q w s:=⟨z,H,I,rw',q⟩
 by_cases h0:0<=i
 ·have hj:i.toNat=j:=by
   rw [seqIndex_of h0 h5] at h1
   exact Option.some.inj h1
  exact item_listR pl.isList h0 (by omega) (by rw [hj]; simpa using ew) fin hs
 ·have hj:(i+(its.toArray.size:Int)).toNat=j:=by
   rw [seqIndex_neg (by omega) h4] at h1
   rw [List.size_toArray,<- hl]
   exact Option.some.inj h1
  exact subscriptTail_builtinR (x:=w) pl.isList.typeIs slot_list_getitem.lookup
   (wpAny_getItem_list_neg (Q:=fun r s'=>r=w/\EP X pins σ Q r s') pl.isList (by omega) (by rw [List.size_toArray] <;> omega) (by omega) (by rw [hj]; simpa using ew) ⟨rfl,fin⟩) hs
theorem dG:IxR X (BM1 X.K):=by
 intro value slice pins s σ H x y v u Q I rx ry h hs
 obtain ⟨p,xs,i,z,rfl,rfl,hq,he,q⟩:=h
 cases rx
 obtain ⟨t,rfl⟩:=ry
 obtain ⟨its,r,pl,hz⟩:=I.tuple hq
 obtain ⟨j,h1,h2,h3,h4,h5⟩:=wO he
 obtain ⟨w,ew,rw'⟩:=r.get h2
 have hl:=r.length
 have hn:=rF
 have fin:EP X pins σ Q w s:=⟨z,H,I,rw',q⟩
 exact subscriptTail_builtinR (x:=w) pl.typeIs slot_tuple_getitem.lookup
  (getItem_tuple (j:=j) (Q:=fun r s'=>r=w/\EP X pins σ Q r s') pl (by omega) (by omega) (by rw [List.size_toArray,<- hl]; exact h1) (by simpa using ew) ⟨rfl,fin⟩) hs
theorem AF6:IxR X BR4:=by
 intro value slice pins s σ H x y v u Q I rx ry h hs
 obtain ⟨z,i,c,rfl,rfl,hz,he,q⟩:=h
 obtain ⟨t,rfl⟩:=rx
 obtain ⟨t',rfl⟩:=ry
 obtain ⟨j,h1,h2,h3,h4,h5⟩:=wO he
 have hl:z.cps.toList.length=z.length:=by simp [Str.length]
 rw [hl] at h1 h4 h5
 have hn:=rF
 exact tail_any (typeIs_str s z t) slot_str_getitem.lookup (getItem_str (c:=c) (by
  have e1:decide (i < -(2 ^ 63:Int))=false:=decide_eq_false (by omega)
  have e2:decide (i >= 2 ^ 63)=false:=decide_eq_false (by omega)
  rw [e1,e2,Bool.or_false]) (by rw [h1]; simpa using h2) ⟨.str ⟨#[c]⟩,H,I.tok _,⟨_,rfl⟩,q⟩) hs
theorem AB5 (its:List Value)(n j:Nat)(u:Value):Obj.mapSeq (·.setIfInBounds j u) { cls:=.type "list",data:=.seq its.toArray n }={ cls:=.type "list",data:=.seq (its.set j u).toArray n }:=by
 simp [Obj.mapSeq]
theorem Inv.lst {pins:List (Addr × Obj)}{σ:St}{H:Hp}{s:Shared}{p:Addr}{xs:List V}(I:Inv X pins σ H s)(h:H p=some (.lst xs)) :
  ∃ (its:List Value) (n:Nat),Vals xs its/\s.heap.get? p=some { cls:=.type "list",data:=.seq its.toArray n }/\xs.length<=sizeLine:=by
 obtain ⟨z,its,n,r,e⟩:=I.hok p _ h
 exact ⟨its,n,r,e,z⟩
theorem Inv.lstUpd {pins:List (Addr × Obj)}{σ:St}{H:Hp}{s:Shared}{p:Addr}{xs ys:List V}{its its':List Value}{n n':Nat}{f:Obj->Obj}(I:Inv X pins σ H s)(h:H p=some (.lst xs))(ho:s.heap.get? p=some { cls:=.type "list",data:=.seq its.toArray n })(hf:f { cls:=.type "list",data:=.seq its.toArray n }={ cls:=.type "list",data:=.seq its'.toArray n' })(r:Vals ys its')(hz:ys.length<=sizeLine)(t:Nat) :
  Inv X pins σ (upd H p (.lst ys)) { s with heap:=s.heap.update p f,toks:=t }:=by
 have e:(s.heap.update p f).get? p=some { cls:=.type "list",data:=.seq its'.toArray n' }:=by
  rw [Heap.get?_update_self f ho (by rw [hf] <;> rfl),hf]
 refine I.write (x:=p) (e:=p) (by rw [h]; trivial) (.inl rfl) (fun b u hb q=>(Heap.get?_update_other _ _ (Ne.symm hb)).trans q) ⟨_,e⟩ ?_
 exact ⟨hz,its',n',r,e⟩
def BG0:V->V->V->Hp->(Hp->Prop)->Prop:=fun o i v H Q=>∃ p xs k j,o=.ref p/\i=.int k/\H p=some (.lst xs)/\ixN xs.length k=some j/\Q (upd H p (.lst (xs.set j v)))
theorem oY:BQ5 X BG0:=by
 intro pins s σ H o i v ov iv u Q I ro ri rv h
 obtain ⟨p,xs,k,j,rfl,rfl,hp,hj,q⟩:=h
 cases ro
 obtain ⟨t,rfl⟩:=ri
 obtain ⟨its,n,r,ho,hz⟩:=I.lst hp
 obtain ⟨h1,h2,h3,h4⟩:=AF4 hj
 have hl:=r.length
 have hn:=rF
 have I':Inv X pins σ (upd H p (.lst (xs.set j v))) { s with heap:=s.heap.update p (Obj.mapSeq (·.setIfInBounds j u)) } :=
  I.lstUpd hp ho (AB5 its n j u) (r.set rv j) (by rw [List.length_set]; exact hz) s.toks
 by_cases h0:0<=k
 ·have hk:k.toNat=j:=by
   rw [seqIndex_of h0 h4] at h1
   exact Option.some.inj h1
  exact ki_setAt ho h0 (by omega) (by rw [List.size_toArray,<- hl]; exact h4) (by rw [hk]; exact ⟨_,I',q⟩)
 ·have hk:(k+(its.toArray.size:Int)).toNat=j:=by
   rw [seqIndex_neg (by omega) h3] at h1
   rw [List.size_toArray,<- hl]
   exact Option.some.inj h1
  exact ki_setBack ho (by omega) (by rw [List.size_toArray,<- hl]; exact h3) (by omega) (by rw [hk]; exact ⟨_,I',q⟩)
theorem uY (lo hi:Option Int)(n:Nat):(sliceBounds lo hi none n).1=((HT.sIx n 0 lo:Nat):Int)/\(sliceBounds lo hi none n).2.1=((HT.sIx n n hi:Nat):Int)/\(sliceBounds lo hi none n).2.2=1:=by
 refine ⟨?_,?_,rfl⟩
 ·cases lo with
  | none=>simp [sliceBounds,HT.sIx]
  | some i =>
   simp only [sliceBounds,HT.sIx,Option.getD_none,show (1:Int) > 0 by decide,if_true]
   by_cases h:i < 0
   ·simp only [h,if_true] <;> omega
   ·simp only [h,if_false] <;> omega
 ·cases hi with
  | none=>simp [sliceBounds,HT.sIx]
  | some i =>
   simp only [sliceBounds,HT.sIx,Option.getD_none,show (1:Int) > 0 by decide,if_true]
   by_cases h:i < 0
   ·simp only [h,if_true] <;> omega
   ·simp only [h,if_false] <;> omega
theorem sH (its:List Value)(lo hi:Option Int):slicePick its.toArray lo hi none=((its.drop (HT.sIx its.length 0 lo)).take (HT.sIx its.length its.length hi - HT.sIx its.length 0 lo)).toArray:=by
 obtain ⟨h1,h2,h3⟩:=uY lo hi its.toArray.size
 unfold slicePick
 rw [h1,h2,h3]
 simp only [sliceRange_one,pick_run,List.size_toArray] <;> rfl
def BR5 (K:Frag):V->Option Int->Option Int->Hp->VK->Prop:=fun x lo hi H Q=>∃ a xs,x=.ref a/\SqL K H a xs/\∀ p,H p=none->Q (.ref p) (upd H p (.lst (AB4 xs lo hi)))
theorem eG:SlR X (BR5 X.K):=by
 intro pins s σ H x v vl vu lo hi sl Q I rx hs pl pu h
 obtain ⟨a,xs,rfl,hx,q⟩:=h
 cases rx
 obtain ⟨its,r,ht,hz⟩:=I.list hx
 have hlen:=r.length
 refine ⟨"list",_,slot_list_getitem.lookup,ht.isList.typeIs,?_⟩
 refine wpAny_getItem_list_slice ht.isList hs pl pu .none (by simp) ?_ (by rw [List.size_toArray] <;> omega)
 rw [sH,<- hlen]
 refine ⟨.ref s.heap.objs.size,_,I.laid (t':=s.toks) (o:=.lst (AB4 xs lo hi)) (fun b ob q=>Heap.get?_push_of_some _ q) (Nat.le_refl _) ?_,rfl,q _ (I.hok.fresh (Nat.le_refl _))⟩
 exact ⟨Nat.le_trans (wN xs lo hi) hz,_,0,(r.drop (HT.sIx xs.length 0 lo)).take (HT.sIx xs.length xs.length hi - HT.sIx xs.length 0 lo),Heap.get?_push_size _ rfl⟩
def sI:V->Bool
 | .non=>true
 | .bl _=>true
 | .int _=>true
 | .str _=>true
 | _=>false
def eqV:V->V->Bool
 | .non,.non=>true
 | .bl a,.bl b=>a == b
 | .bl a,.int b=>(if a then 1 else 0) == b
 | .int a,.bl b=>a == (if b then 1 else 0)
 | .int a,.int b=>a == b
 | .str a,.str b=>a == b
 | _,_=>false
theorem BG1 {A:Around}{s:Shared}{y x:V}{u v:Value}(ry:RelV y u)(rx:RelV x v)(fy:sI y=true)(fx:sI x=true):SeqAt.EqAt A s u v (eqV y x):=by
 cases y with
 | non =>
  cases ry
  cases x with
  | non=>cases rx; exact SeqAt.EqAt.same _
  | bl b=>cases rx; exact SeqAt.EqAt.none_bool b
  | int b=>obtain ⟨t,rfl⟩:=rx; exact SeqAt.EqAt.none_int b t
  | str b=>obtain ⟨t,rfl⟩:=rx; exact SeqAt.EqAt.none_str b t
  | _=>exact absurd (show false=true from fx) Bool.false_ne_true
 | bl a =>
  cases ry
  cases x with
  | non=>cases rx; exact SeqAt.EqAt.bool_none a
  | bl b=>cases rx; exact SeqAt.EqAt.bool_bool a b
  | int b=>obtain ⟨t,rfl⟩:=rx; exact SeqAt.EqAt.bool_int a b t
  | str b=>obtain ⟨t,rfl⟩:=rx; exact SeqAt.EqAt.bool_str a b t
  | _=>exact absurd (show false=true from fx) Bool.false_ne_true
 | int a =>
  obtain ⟨t',rfl⟩:=ry
  cases x with
  | non=>cases rx; exact SeqAt.EqAt.int_none a t'
  | bl b=>cases rx; exact SeqAt.EqAt.int_bool a t' b
  | int b=>obtain ⟨t,rfl⟩:=rx; exact SeqAt.EqAt.int_int a t' b t
  | str b=>obtain ⟨t,rfl⟩:=rx; exact SeqAt.EqAt.int_str a t' b t
  | _=>exact absurd (show false=true from fx) Bool.false_ne_true
 | str a =>
  obtain ⟨t',rfl⟩:=ry
  cases x with
  | non=>cases rx; exact SeqAt.EqAt.str_none a t'
  | bl b=>cases rx; exact SeqAt.EqAt.str_bool a t' b
  | int b=>obtain ⟨t,rfl⟩:=rx; exact SeqAt.EqAt.str_int a t' b t
  | str b=>obtain ⟨t,rfl⟩:=rx; exact SeqAt.EqAt.str_str a t' b t
  | _=>exact absurd (show false=true from fx) Bool.false_ne_true
 | _=>exact absurd (show false=true from fy) Bool.false_ne_true
def eqU (x:V)(u:Value):Bool:=match u with
 | .none=>eqV .non x
 | .bool b=>eqV (.bl b) x
 | .int i _=>eqV (.int i) x
 | .str z _=>eqV (.str z) x
 | _=>false
theorem AT0 {x y:V}{u:Value}(r:RelV y u)(f:sI y=true):eqU x u=eqV y x:=by
 cases y with
 | non=>cases r; rfl
 | bl b=>cases r; rfl
 | int i=>obtain ⟨t,rfl⟩:=r; rfl
 | str z=>obtain ⟨t,rfl⟩:=r; rfl
 | _=>exact absurd (show false=true from f) Bool.false_ne_true
theorem wP {x:V}:∀ {xs:List V}{us:List Value},Vals xs us->xs.all sI=true->us.any (eqU x)=xs.any fun y=>eqV y x
 | _,_,.nil,_=>rfl
 | y::xs,u::us,.cons r t,f=>by
  rw [List.all_cons,Bool.and_eq_true] at f
  rw [List.any_cons,List.any_cons,AT0 r f.1,wP t f.2]
theorem sJ {A:Around}{s:Shared}{x:V}{v:Value}(rx:RelV x v)(fx:sI x=true):∀ {xs:List V}{us:List Value},Vals xs us->xs.all sI=true->∀ u∈us,SeqAt.EqAt A s u v (eqU x u)
 | _,_,.nil,_=>fun u hu=>by cases hu
 | y::xs,u::us,.cons r t,f=>fun u' hu=>by
  rw [List.all_cons,Bool.and_eq_true] at f
  rcases List.mem_cons.mp hu with rfl | hu
  ·rw [AT0 r f.1]; exact BG1 r rx f.1 fx
  ·exact sJ rx fx t f.2 u' hu
def inV (x:V)(xs:List V):Bool:=xs.any fun y=>eqV y x
def rIn (K:Frag)(neg:Bool):R2:=fun x y H Q=>∃ p xs,y=.ref p/\(SqL K H p xs\/SqT K H p xs)/\sI x=true/\xs.all sI=true/\Q (.bl (if neg then !inV x xs else inV x xs)) H
theorem gZ:OpR X (compareOp .NotIn) (rIn X.K true):=by
 intro pins s σ H x y v u Q I rx ry h
 obtain ⟨p,xs,rfl,hq,fx,fs,q⟩:=h
 cases ry
 rcases hq with hq | hq
 ·obtain ⟨its,r,pl,hz⟩:=I.list hq
  refine SeqAt.notIn_listAt (eqU x) pl.isList (fun w hw=>sJ rx fx r fs w (by simpa using hw)) ⟨.bl _,H,I,rfl,?_⟩
  rw [show its.toArray.any (eqU x)=its.any (eqU x) by simp,wP r fs]
  exact q
 ·obtain ⟨its,r,pl,hz⟩:=I.tuple hq
  refine SeqAt.notIn_tupleAt (eqU x) pl (fun w hw=>sJ rx fx r fs w (by simpa using hw)) ⟨.bl _,H,I,rfl,?_⟩
  rw [show its.toArray.any (eqU x)=its.any (eqU x) by simp,wP r fs]
  exact q
theorem oA:OpR X (compareOp .NotIn) (fun x y H Q=>∃ i j,x=.str i/\y=.str j/\Q (.bl (!(!(Builtin.Str.occurrences j i 0 j.length 1).isEmpty))) H):=by
 intro pins s σ H x y v u Q I rx ry h
 obtain ⟨i,j,rfl,rfl,q⟩:=h
 obtain ⟨t,rfl⟩:=rx
 obtain ⟨t',rfl⟩:=ry
 exact notIn_str ⟨.bl _,H,I,rfl,q⟩
theorem bB:CallR X (.builtin "len") (fun xs H Q=>∃ p ys,xs=[.ref p]/\(SqL X.K H p ys\/SqT X.K H p ys)/\Q (.int ys.length) H):=by
 intro pins s σ H xs us Q I r h
 obtain ⟨p,ys,rfl,hq,q⟩:=h
 obtain ⟨u,rfl,rx⟩:=qR r
 cases rx
 have hn:=rF
 rcases hq with hq | hq
 ·obtain ⟨its,r',pl,hz⟩:=I.list hq
  have hlen:=r'.length
  exact Calls.call_len_list pl.isList (by simp only [List.size_toArray] <;> omega) ⟨.int ys.length,H,I.tok _,⟨s.toks+1,by rw [List.size_toArray,hlen]⟩,q⟩
 ·obtain ⟨its,r',pl,hz⟩:=I.tuple hq
  have hlen:=r'.length
  exact len_tuple pl (by simp only [List.size_toArray] <;> omega) ⟨.int ys.length,H,I.tok _,⟨s.toks+1,by rw [List.size_toArray,hlen]⟩,q⟩
theorem cY:CallR X (.builtin "len") (fun xs H Q=>∃ z,xs=[.str z]/\z.length<=sizeLine/\Q (.int z.length) H):=by
 intro pins s σ H xs us Q I r h
 obtain ⟨z,rfl,hz,q⟩:=h
 obtain ⟨u,rfl,t,rfl⟩:=qR r
 have hn:=rF
 exact len_str (by omega) ⟨.int z.length,H,I.tok _,⟨_,rfl⟩,q⟩
theorem CallR.or {f:Value}{r r':List V->Hp->VK->Prop}(h:CallR X f r)(h':CallR X f r'):CallR X f (fun xs H Q=>r xs H Q\/r' xs H Q):=by
 intro pins s σ H xs us Q I rs q
 rcases q with q | q
 ·exact h pins s σ H xs us Q I rs q
 ·exact h' pins s σ H xs us Q I rs q
theorem dN:CallR X (.type "list") (fun xs H Q=>∃ p ys,xs=[.ref p]/\(SqL X.K H p ys\/SqT X.K H p ys)/\∀ l,H l=none->Q (.ref l) (upd H l (.lst ys))):=by
 intro pins s σ H xs us Q I r h
 obtain ⟨p,ys,rfl,hq,q⟩:=h
 obtain ⟨u,rfl,rx⟩:=qR r
 cases rx
 have fin:∀ (its:List Value),Vals ys its->ys.length<=sizeLine->∀ (h':Heap) (c':Nat),(∀ b o',s.heap.get? b=some o'->h'.get? b=some o') ->
   h'.get? s.heap.objs.size=some { cls:=.type "list",dict:=none,data:=.seq its.toArray c',slots:=#[] }->EP X pins σ Q (.ref s.heap.objs.size) { s with heap:=h' }:=fun its r' hz h' c' kp e =>
  ⟨.ref s.heap.objs.size,_,I.laid (t':=s.toks) kp (Nat.le_refl _) (show ObjOk X.prog X.w _ h' _ (.lst ys) from ⟨hz,its,c',r',e⟩),rfl,q _ (I.hok.fresh (Nat.le_refl _))⟩
 rcases hq with hq | hq
 ·obtain ⟨its,r',pl,hz⟩:=I.list hq
  have hlen:=r'.length
  obtain ⟨o,ho,hc,n,hd⟩:=pl.isList
  exact call_list_seq p (.inl rfl) ho hc hd (fun h' c' kp e=>fin its r' hz h' c' kp e) (by simp only [List.size_toArray] <;> omega)
 ·obtain ⟨its,r',pl,hz⟩:=I.tuple hq
  have hlen:=r'.length
  obtain ⟨o,ho,hc,n,hd⟩:=pl
  exact call_list_seq p (.inr rfl) ho hc hd (fun h' c' kp e=>fin its r' hz h' c' kp e) (by simp only [List.size_toArray] <;> omega)
theorem fM:CallR X (.type "tuple") (fun xs H Q=>∃ p ys,xs=[.ref p]/\((SqL X.K H p ys/\∀ l,H l=none->Q (.ref l) (upd H l (.tup ys)))\/(SqT X.K H p ys/\Q (.ref p) H))):=by
 intro pins s σ H xs us Q I r h
 obtain ⟨p,ys,rfl,h⟩:=h
 obtain ⟨u,rfl,rx⟩:=qR r
 cases rx
 rcases h with ⟨hq,q⟩ | ⟨hq,q⟩
 ·obtain ⟨its,r',pl,hz⟩:=I.list hq
  have hlen:=r'.length
  refine call_tuple_list pl.isList (fun h' kp=>?_) (by simp only [List.size_toArray] <;> omega)
  have I1:Inv X pins σ H { s with heap:=h' }:=I.kept (t':=s.toks) kp
  have I2:Inv X pins σ (upd H h'.objs.size (.tup ys)) { s with heap:=h'.push { cls:=.type "tuple",data:=.seq its.toArray } } :=
   I1.laid (t':=s.toks) (fun b o e=>Heap.get?_push_of_some _ e) (Nat.le_refl _) (show ObjOk X.prog X.w _ _ _ (.tup ys) from ⟨hz,its,r',IsTup.new _ _⟩)
  exact ⟨.ref h'.objs.size,_,I2,rfl,q _ (I1.hok.fresh (Nat.le_refl _))⟩
 ·obtain ⟨its,r',pl,hz⟩:=I.tuple hq
  exact call_tuple_same pl ⟨.ref p,H,I,rfl,q⟩
def tyV (K:Frag)(T:String)(x:V)(H:Hp):Prop:=match x with
 | .str _=>T="str"
 | .int _=>T="int"
 | .ref p=>(T="list"/\∃ xs,SqL K H p xs)\/(T="tuple"/\∃ o,K.lookup p=some o/\o.cls=.type "tuple"/\o.dict=none) \/
   (T="dict"/\((∃ kvs,H p=some (.dK kvs))\/∃ kvs,H p=some (.dT kvs)))\/(T="set"/\∃ S n,H p=some (.set S n))
 | _=>False
theorem AT1 {pins:List (Addr × Obj)}{σ:St}{H:Hp}{s:Shared}{T:String}{x:V}{v:Value}(I:Inv X pins σ H s)(r:RelV x v)(ty:tyV X.K T x H) :
  s.TypeIs v T/\∀ a,v=.ref a->∃ ob,s.heap.get? a=some ob/\ob.dict=none:=by
 cases x with
 | str z =>
  obtain ⟨t,rfl⟩:=r
  cases (show T="str" from ty)
  exact ⟨typeIs_str s z t,fun _ e=>nomatch e⟩
 | int i =>
  obtain ⟨t,rfl⟩:=r
  cases (show T="int" from ty)
  exact ⟨typeIs_int s i t,fun _ e=>nomatch e⟩
 | ref p =>
  cases r
  rcases ty with ⟨rfl,xs,hq⟩ | ⟨rfl,o,hk,hc,hd⟩ | ⟨rfl,hk⟩ | ⟨rfl,S,n,hk⟩
  ·obtain ⟨its,_,pl,_⟩:=I.list hq
   refine ⟨pl.isList.typeIs,fun a e=>?_⟩
   cases e
   obtain ⟨o,n,e,c,hd,_⟩:=pl
   exact ⟨o,e,hd⟩
  ·refine ⟨⟨o,I.kIn p o hk,hc⟩,fun a e=>?_⟩
   cases e
   exact ⟨o,I.kIn _ o hk,hd⟩
  ·have z:∃ o,s.heap.get? p=some o/\o.ExactDict:=by
    rcases hk with ⟨kvs,hk⟩ | ⟨kvs,hk⟩
    ·obtain ⟨_,_,_,_,o,_,_,e,ex,_⟩:=I.hok p _ hk
     exact ⟨o,e,ex⟩
    ·obtain ⟨_,_,_,_,o,_,_,e,ex,_⟩:=I.hok p _ hk
     exact ⟨o,e,ex⟩
   obtain ⟨o,e,ex⟩:=z
   refine ⟨⟨o,e,ex.1⟩,fun a e2=>?_⟩
   cases e2
   exact ⟨o,e,ex.2.1⟩
  ·obtain ⟨o,_,_,_,e,ex,_⟩:=I.hok p _ hk
   refine ⟨⟨o,e,ex.1⟩,fun a e2=>?_⟩
   cases e2
   exact ⟨o,e,ex.2.1⟩
 | _=>exact False.elim ty
def BR6 (K:Frag)(T:String)(r:V->List V->Hp->VK->Prop)(to:TE):TE:=fun σ H Q=>to σ H fun x H1=>tyV K T x H1/\r x [] H1 Q
def tBM (K:Frag)(T:String)(r:V->List V->Hp->VK->Prop)(to:TE)(t:TA):TE:=fun σ H Q=>to σ H fun x H1=>tyV K T x H1/\t σ H1 fun xs H2=>r x xs H2 Q
variable {o e:Expr}{es:List Expr}{to:TE}{t:TA}{name:Str}{apos cpos:Pos}{T id:String}{r:V->List V->Hp->VK->Prop}
theorem BG2 (pa:PlainAttrs T)(slot:Slot T name id)(hty:typeOf (.builtin id)=pure (.type "method_descriptor"))(hm:MtR X id r)(ho:PE X o to)(hbase:attributeBase o name X.env (eval o X.env)=eval o X.env:=by rfl)(hline:(apos.endLine == cpos.line)=true:=by rfl):PE X (.Call (.Attribute o name apos) [] [] cpos) (BR6 X.K T r to):=by
 intro pins s σ H Q I h
 refine wpAny_Call_method0_late hbase hline (thn (ho pins s σ H _ I h) fun v s1 ⟨x,H1,I1,r1,ty,q1⟩=>?_)
 obtain ⟨h1,h2⟩:=AT1 I1 r1 ty
 exact ⟨T,id,pa,slot,hty,h1,h2,Calls.callWith_builtin rfl (PySem.evalArgs_none (hm pins s1 σ H1 x [] v [] Q I1 r1 .nil q1))⟩
theorem iY (pa:PlainAttrs T)(slot:Slot T name id)(hty:typeOf (.builtin id)=pure (.type "method_descriptor"))(hm:MtR X id r)(ho:PE X o to)(ha:PA X (e::es) t)(hbase:attributeBase o name X.env (eval o X.env)=eval o X.env:=by rfl)(hfew:((backTo cpos (starEach (e::es) X.env)).all (fun x=>!x.1) && (backToKw cpos (keywordEach [] X.env)).all (fun x=>x.1.isSome)
   && decide ((e::es).length+([]:List Keyword).length+(if ([]:List Keyword).isEmpty then 0 else 1) < 30))=true:=by rfl)(hline:(apos.endLine == cpos.line)=true:=by rfl)(hs:starEach (e::es) X.env=(false,eval e X.env)::starEach es X.env:=by rfl)(hplain:(backTo cpos (starEach es X.env)).any (·.1)=false:=by rfl) :
  PE X (.Call (.Attribute o name apos) (e::es) [] cpos) (tBM X.K T r to t):=by
 intro pins s σ H Q I h
 refine wpAny_Call_method_late hbase hfew hline rfl (thn (ho pins s σ H _ I h) fun v s1 ⟨x,H1,I1,r1,ty,q1⟩=>?_)
 obtain ⟨h1,h2⟩:=AT1 I1 r1 ty
 refine ⟨T,id,pa,slot,hty,h1,h2,?_⟩
 have hA:=ha cpos pins s1 σ H1 _ I1 q1
 rw [hs] at hA ⊢
 refine Calls.callWith_builtin (by show (false || (backTo cpos (starEach es X.env)).any (·.1))=false; rw [hplain] <;> rfl) (Calls.evalArgs_plain ?_)
 exact thn hA fun us s2 ⟨vs,H2,I2,r2,q2⟩=>hm pins s2 σ H2 x vs v us Q I2 r1 r2 q2
/- xs.append(e),list.index on a module's tuple .. are MtR facts of 06m -/
end
def MtM (X:Cx)(id:String)(r:V->List V->Hp->VK->Prop):Prop :=
 ∀ (pins:List (Addr × Obj)) (s:Shared) (σ:St) (H:Hp) (x:V) (xs:List V) (v:Value) (us:List Value) (Q:VK),Inv X pins σ H s->RelV x v->Vals xs us->r x xs H Q ->
  wpAny (model X.prog X.w) X.A (call (.builtin id) (v::us)) (EP X pins σ Q) X.xe s
theorem Vals.one:∀ {x:V}{us:List Value},Vals [x] us->∃ u,us=[u]/\RelV x u
 | _,_,.cons r .nil=>⟨_,rfl,r⟩
theorem Vals.two:∀ {x y:V}{us:List Value},Vals [x,y] us->∃ u v,us=[u,v]/\RelV x u/\RelV y v
 | _,_,_,.cons r (.cons q .nil)=>⟨_,_,rfl,r,q⟩
theorem Vals.zero:∀ {us:List Value},Vals [] us->us=[]
 | _,.nil=>rfl
theorem Vals.dropLast {xs:List V}{us:List Value}(h:Vals xs us):Vals xs.dropLast us.dropLast:=by
 induction h with
 | nil=>exact .nil
 | cons r t ih =>
  cases t with
  | nil=>exact .nil
  | cons q t'=>exact .cons r ih
theorem Vals.reverse {xs:List V}{us:List Value}(h:Vals xs us):Vals xs.reverse us.reverse:=by
 induction h with
 | nil=>exact .nil
 | cons r t ih=>rw [List.reverse_cons,List.reverse_cons]; exact Vals.append ih (.cons r .nil)
theorem AB6 {α:Type}(l:List α):l.eraseIdx (l.length - 1)=l.dropLast:=by
 induction l with
 | nil=>rfl
 | cons a r ih =>
  cases r with
  | nil=>rfl
  | cons b r =>
   have e:(a::b::r).length - 1=((b::r).length - 1)+1:=by
    have h1:(a::b::r).length=r.length+2:=rfl
    have h2:(b::r).length=r.length+1:=rfl
    omega
   rw [e,List.eraseIdx_cons_succ,ih]
   all_goals rfl
section
variable {X:Cx}{pins:List (Addr × Obj)}{σ:St}{H:Hp}{s:Shared}{l b:Addr}{xs ys zs:List V}
theorem Inv.lset {its its':List Value}{n:Nat}{f:Array Value->Array Value}{t':Nat}(I:Inv X pins σ H s)(hH:H l=some (.lst xs))(e:s.heap.get? l=some { cls:=.type "list",data:=.seq its.toArray n })(hf:f its.toArray=its'.toArray)(hv:Vals ys its')(hz:ys.length<=sizeLine) :
  Inv X pins σ (upd H l (.lst ys)) { s with heap:=s.heap.update l (Obj.mapSeq f),toks:=t' }:=by
 have q:=PySem.IsL.update e f
 rw [hf] at q
 refine I.write (x:=l) (e:=l) (by rw [hH]; exact trivial) (.inl rfl) (fun b' u hb hu=>(Heap.get?_update_other s.heap (Obj.mapSeq f) (Ne.symm hb)).trans hu) ⟨_,q⟩ ?_
 exact ⟨hz,its',_,hv,q⟩
theorem Inv.lnew {its:List Value}{t':Nat}(I:Inv X pins σ H s)(hv:Vals ys its)(hz:ys.length<=sizeLine) :
  Inv X pins σ (upd H s.heap.objs.size (.lst ys)) { s with heap:=s.heap.push { cls:=.type "list",data:=.seq its.toArray },toks:=t' } :=
 I.laid (fun _ _ q=>Heap.get?_push_of_some _ q) (Nat.le_refl _) ⟨hz,its,0,hv,Heap.get?_push_size _ rfl⟩
theorem Inv.fresh (I:Inv X pins σ H s):H s.heap.objs.size=none:=I.hok.fresh (Nat.le_refl _)
theorem Inv.lstM (I:Inv X pins σ H s)(hH:H l=some (.lst xs)):xs.length<=sizeLine/\∃ (its:List Value) (n:Nat),Vals xs its/\xs.length=its.length/\s.heap.get? l=some { cls:=.type "list",data:=.seq its.toArray n }:=by
 obtain ⟨z,its,n,r,e⟩:=I.hok l _ hH
 exact ⟨z,its,n,r,r.length,e⟩
end
section
variable {X:Cx}
def AW9:V->List V->Hp->VK->Prop:=fun x vs H Q=>∃ l xs y,x=.ref l/\vs=[y]/\H l=some (.lst xs)/\xs.length < sizeLine/\Q .non (upd H l (.lst (xs++[y])))
theorem gL:MtM X "list.append" AW9:=by
 intro pins s σ H x vs v us Q I rx rv h
 obtain ⟨l,xs,y,rfl,rfl,hH,hz,q⟩:=h
 cases rx
 obtain ⟨u,rfl,ru⟩:=rv.one
 obtain ⟨z,its,n,r,hl,e⟩:=I.lstM hH
 refine call_meets F.slot_list_append ⟨_,e,rfl⟩ F.entry_list_append (F.args_list_append_2 _ _) (PySem.list_append l its.toArray n u (by rw [List.size_toArray]; omega)) ⟨e,?_⟩
 refine ⟨.non,_,I.lset (its':=its++[u]) hH e (by simp) (r.append (.cons ru .nil)) ?_,rfl,q⟩
 rw [List.length_append,List.length_singleton]
 omega
def BR7:V->List V->Hp->VK->Prop:=fun x vs H Q=>∃ l xs y,x=.ref l/\vs=[]/\H l=some (.lst xs)/\xs[xs.length - 1]?=some y/\Q y (upd H l (.lst xs.dropLast))
theorem BG3:MtM X "list.pop" BR7:=by
 intro pins s σ H x vs v us Q I rx rv h
 obtain ⟨l,xs,y,rfl,rfl,hH,hy,q⟩:=h
 cases rx
 have hus:=rv.zero
 subst hus
 obtain ⟨z,its,n,r,hl,e⟩:=I.lstM hH
 obtain ⟨u,hu,ru⟩:=r.get hy
 have hy':its.toArray[its.toArray.size - 1]?=some u:=by
  show its.toArray[its.length - 1]?=some u
  rw [<- Array.getElem?_toList,<- hl]
  exact hu
 refine call_meets F.slot_list_pop ⟨_,e,rfl⟩ F.entry_list_pop (F.args_list_pop_1 _) (MeetsSeq.list_pop_last l its.toArray n u hy' (by rw [List.size_toArray]; omega)) ⟨e,?_⟩
 refine ⟨y,_,I.lset (its':=its.dropLast) hH e ?_ r.dropLast ?_,ru,q⟩
 ·show its.toArray.eraseIdxIfInBounds (its.toArray.size - 1)=its.dropLast.toArray
  rw [List.size_toArray,List.eraseIdxIfInBounds_toArray,AB6]
 ·rw [List.length_dropLast]
  omega
def BR8:R2:=fun x y H Q=>∃ l b xs zs,x=.ref l/\y=.ref b/\H l=some (.lst xs)/\H b=some (.lst zs)/\xs.length+zs.length<=sizeLine/\∀ p,H p=none->Q (.ref p) (upd H p (.lst (xs++zs)))
theorem hJ:OpR X (binaryOp .Add) BR8:=by
 intro pins s σ H x y v u Q I rx ry h
 obtain ⟨l,b,xs,zs,rfl,rfl,hH,hB,hz,q⟩:=h
 cases rx
 cases ry
 obtain ⟨z,its,n,r,hl,e⟩:=I.lstM hH
 obtain ⟨z2,its2,n2,r2,hl2,e2⟩:=I.lstM hB
 refine PySem.P.add_list e e2 ?_ (by rw [List.size_toArray,List.size_toArray]; omega)
 have ea:its.toArray++its2.toArray=(its++its2).toArray:=by simp
 rw [ea]
 exact ⟨.ref _,_,I.lnew (t':=s.toks) (r.append r2) (by rw [List.length_append]; omega),rfl,q _ I.fresh⟩
end
section
variable {prog:Program}{w:World}{A:Around}{E:Value->Shared->Prop}{s:Shared}
end
section
variable {X:Cx}
end
end L2
namespace Att
open PySem PySem.W PySem.Calls PyProof.Rows
theorem ints_of_wellAll {P:Params}{h:Heap}:∀ (ns:List Int) (vs:List Value),WellAll P h vs (ns.map WData.int)->IntsAre vs ns:=by
 intro ns
 induction ns with
 | nil =>
  intro vs w
  rw [List.map_nil] at w
  cases w
  exact .nil
 | cons n ns ih =>
  intro vs w
  rw [List.map_cons] at w
  cases w with
  | cons a b =>
   cases a
   exact .cons _ _ (ih _ b)
theorem script_of {l:OpenLaw}{n:Nat}(hn:l.most=some n){P:Params}{h:Heap}{args:List WData}{vals:List Value}(hpre:l.row.toRowW.claim.pre args=true)(hwl:WellAll P h vals args) :
  ∃ a vs ns,vals=[Value.ref a]/\args=[WData.list (ns.map WData.int)]/\h.get? a=some { cls:=.type "list",data:=.seq vs.toArray }/\IntsAre vs ns/\ns.length<=n:=by
 have hsh:WShape.hasAll [] args [.list .int]=true:=(pre_splitW hpre).1
 have hc:l.pre.holds [] { args:=args }=true:=(pre_splitW hpre).2
 obtain ⟨d,r,rfl,h1,h2⟩:=hasAllW_cons hsh
 obtain rfl:=hasAllW_nil h2
 obtain ⟨xs,rfl,h3⟩:=hasW_list h1
 obtain ⟨ns,rfl⟩:=items_int h3
 have hlen:ns.length<=n:=by
  unfold OpenLaw.pre at hc
  have h4:(WTm.not (.lt (.lit (.int (n:Int))) (.len (.arg 0)))).holds [] { args:=[.list (ns.map .int)] }=true:=by
   have h4:=(holds_andW hc).1
   rw [hn] at h4
   exact h4
  have h5:=condW_of h4 (w_not (w_lt w_lit (w_len_list (w_arg rfl))))
  rw [List.length_map] at h5
  refine Nat.le_of_not_lt fun q=>?_
  have q':(n:Int) < ((ns.length:Nat):Int):=by omega
  first
   | (rw [decide_eq_true q'] at h5; exact absurd h5 (by decide))
   | (simp at h5; omega)
 cases hwl with
 | cons w1 w2 =>
  cases w2
  cases w1 with
  | list ho hall=>exact ⟨_,_,ns,rfl,rfl,ho,ints_of_wellAll ns _ hall,hlen⟩
theorem post_true (l:OpenLaw)(args:List WData):l.row.toRowW.claim.post args (.bool true) args=true :=
 postW_of (r:=l.row.toRowW) (X:=(true == true))
  (show WShape.has [] (.bool true) .bool=true by first | rfl | decide | simp [WShape.has,WShape.arms,WShape.armsAll])
  (show (WTm.eq .res (.lit (.bool true))).value [] { args:=args,res:=some (.bool true),after:=args }=some (.bool (true == true)) from w_eq_bool (w_res rfl) w_lit) rfl
theorem attach_call {l:OpenLaw}{n:Nat}{q:Program}{loose:List Str}{XP:(Str->Option Value)->Heap->Prop}{YP:World->Heap->Prop}{d:DefRec}(hn:l.most=some n)(hdf:d.params.defaults=[])(call:∀ (w:World) (s₀ s₁:Shared) (mg mb:Str->Option Value) (fa:Addr) (o:Obj) (pm cd doc:Value) (a:Addr) (vs:List Value) (ns:List Int),
   Ground q loose [] XP w s₀ mg mb s₁.heap->YP w s₁.heap ->
   s₁.heap.get? fa=some o->o.data=.func (docDef d.name d.params d.body d.scope pm cd doc)->s₁.heap.CodeRec cd d.name->mg d.name=some (.ref fa) ->
   s₁.heap.get? a=some { cls:=.type "list",data:=.seq vs.toArray }->IntsAre vs ns->ns.length<=n->s₁.gens=#[] ->
   codeAny (model l.prog w) callerA (.call (.ref fa) ⟨[.ref a],[]⟩) (fun r s'=>r=.ok (.ret (.bool true))/\OldK s₁.heap s'.heap/\s'.os=s₁.os/\AllBare s'.gens) s₁) :
  WalkO q loose XP YP l.row.toRowW d [] (fun f vs=>PySem.call f vs):=by
 intro w s₀ s₁ mg mb G Y fa o pm cd doc dV kV ho hd hcd hD hmg hg args vals as hpre hlay hrd hwl hlo
 obtain rfl:dV=.none:=Dflts.none hD hdf
 obtain rfl:kV=.none:=Dflts.noKw hD
 obtain ⟨a,vs,ns,rfl,rfl,hobj,hints,hlen⟩:=script_of hn hpre hwl
 refine enter_call (codeAny_mono (call w s₀ s₁ mg mb fa o pm cd doc a vs ns G Y ho (fd_plain hd) hcd hmg hobj hints hlen hg) fun r s' hq=>?_)
 obtain ⟨rfl,h2,h3,h4⟩:=hq
 exact ⟨.inl ⟨.bool true,.bool true,[],rfl,fun _=>rfl,.bool true,post_true l _,fun _=>⟨List.Pairwise.nil,fun _ hm=>(nomatch hm)⟩⟩,h2,h3,h4⟩
section
variable {prog:Program}{w:World}{A:Around}{E:Value->Shared->Prop}{s:Shared}{K:Frag}
def ledger (h:Heap)(L d:Addr):List (Addr × Obj):=(List.range h.objs.size).filterMap fun a=>if a=L\/a=d then none else (h.get? a).map fun o=>(a,o)
end
end Att
namespace L2
open PySem PySem.Spec PyProof.Rows PySem.W
theorem uZ:∀ {vs:List Value}{ns:List Int},IntsAre vs ns->Vals (ns.map V.int) vs
 | _,_,.nil=>.nil
 | _,_,.cons n t h=>.cons ⟨t,rfl⟩ (uZ h)
def BM2 (H:Hp):Prop:=∀ b,H b=none\/∃ o xs,H b=some (.frz o (.lst xs))
theorem AO5 {P:Program}{w:World}{K:Frag}{mg mb:Str->Option Value}{CX:CXT}{k:Nat}{fa a:Addr}{fd:FuncData}{x:Str}{sp:Sp}{s₁:Shared}{vs:List Value}{ns:List Int}(KX:K.In s₁.heap)(hns:s₁.heap.Ns mainGlobals mg)(hb:s₁.heap.Ns builtinsNs mb)(hbb:∀ x:Str,x≠"__name__"->mb x=bootBuiltins x)(hlim:s₁.heap.NoLimit)(hg:s₁.gens=#[])(ha:s₁.heap.get? a=some { cls:=.type "list",data:=.seq vs.toArray })(hi:IntsAre vs ns)(hl:ns.length<=sizeLine)(hr:Room k callerA)(F:∀ base:Heap,K.In base->base.Ns mainGlobals mg->FnOk P w K mg base CX k fa fd [x] sp)(hbind:∀ (s:Shared) (u:Value),BindsTo s fd ⟨[u],[]⟩ [(x,u)])(hsp:∀ H:Hp,BM2 H->SqL K H a (ns.map V.int)->sp [.ref a] H (fun v _=>v=.bl true) fun _ _ _=>False)(hCX:∀ H e s',CX [] H s₁ (fun _ _ _=>False) e s'->False) :
  codeAny (model P w) callerA (.call (.ref fa) ⟨[.ref a],[]⟩) (fun r s'=>r=.ok (.ret (.bool true))/\OldK s₁.heap s'.heap/\s'.os=s₁.os/\AllBare s'.gens) s₁:=by
 have rv:=uZ hi
 have lenV:=hi.length
 -- from an abstract heap in which nothing but the script may be tracked
 have core:∀ H:Hp,BM2 H->SqL K H a (ns.map V.int)->HOk P w H s₁.heap->(∀ b,H b≠none->b=a)->(H a≠none->K.lookup a=none) ->
   codeAny (model P w) callerA (.call (.ref fa) ⟨[.ref a],[]⟩) (fun r s'=>r=.ok (.ret (.bool true))/\OldK s₁.heap s'.heap/\s'.os=s₁.os/\AllBare s'.gens) s₁:=by
  intro H hO hS hok hA hK
  have base_of:∀ {b:Addr}{o:Obj},s₁.heap.get? b=some o->H b=none->(AM9 s₁.heap H).get? b=some o:=fun e n=>AN0 e n
  have noA:∀ {b:Addr}{o:Obj}{es:Array DictEntry}{ep:Nat},s₁.heap.get? b=some o->o.data=.dict es ep->H b=none:=fun {b o es ep} e d=>by
   cases q:H b with
   | none=>rfl
   | some u =>
    have e':b=a:=hA b (by rw [q]; simp)
    subst e'
    rw [ha] at e; cases e
    have d':Data.seq vs.toArray _=Data.dict es ep:=d
    cases d'
  have nsK:∀ {b:Addr}{m:Str->Option Value},s₁.heap.Ns b m->(AM9 s₁.heap H).Ns b m:=fun {b m} ⟨o,es,ep,e,d,r⟩=>⟨o,es,ep,base_of e (noA e d),d,r⟩
  have hKb:K.In (AM9 s₁.heap H):=fun b o e=>base_of (KX b o e) (by
   cases q:H b with
   | none=>rfl
   | some u =>
    have e':b=a:=hA b (by rw [q]; simp)
    subst e'
    rw [hK (by rw [q]; simp)] at e; cases e)
  have hM:Mod K mg (AM9 s₁.heap H):=⟨hKb,nsK hns,⟨mb,nsK hb,hbb⟩,let ⟨mc,h1,h2⟩:=hlim; ⟨mc,nsK h1,h2⟩⟩
  have e0:Env0 P w K mg (AM9 s₁.heap H) callerA [] s₁ H:=⟨rfl,hM,fun b o e=>AV3 e,Nat.le_of_eq (AD8 _ _),trivial,fun b hb=>absurd (show b∈([]:List Addr) from hb) (by simp),hok,.of_eq hg⟩
  refine codeAny_mono ((F _ hKb (nsK hns)).run callerA [] s₁ H ⟨[.ref a],[]⟩ [.ref a] [.ref a] _ _ hr e0 (hbind s₁ (.ref a)) (.cons rfl .nil) (hsp H hO hS)) fun r s' h=>?_
  cases r with
  | error e=>exact (hCX H e s' h).elim
  | ok fl =>
   cases fl with
   | next=>exact False.elim h
   | brk=>exact False.elim h
   | cont=>exact False.elim h
   | ret u =>
    obtain ⟨v,H',os,bare,un,hok',r',q⟩:=h
    have q':v=.bl true:=q
    subst q'
    obtain rfl:u=Value.bool true:=r'
    refine ⟨rfl,OldK.of_keep fun b o e=>?_,os,bare⟩
    cases q:H b with
    | none=>exact un.keep b o e q (by intro z; exact absurd (show b∈([]:List Addr) from z) (by simp)) (by simp)
    | some u =>
     rcases hO b with z | ⟨ob,xs,z⟩
     ·rw [q] at z; cases z
     ·have z2:=un.frzs b ob _ z
      obtain ⟨e1,_⟩:=hok b _ z
      obtain ⟨e2,_⟩:=hok' b _ z2
      rw [e] at e1; cases e1
      exact e2
 cases hk:K.lookup a with
 | some o =>
  -- the script is one of the module's own objects
  have e:=KX a o hk
  rw [ha] at e
  cases e
  refine core (fun _=>none) (fun _=>.inl rfl) (.inr ⟨_,vs.toArray,_,hk,rfl,rfl,rfl,by rw [List.size_toArray,lenV]; exact hl,by simpa using rv⟩) (fun b u z=>by have z':(none:Option HO)=some u:=z; cases z') (fun b z=>absurd rfl z) fun z=>absurd rfl z
 | none =>
  refine core (fun b=>if b=a then some (.frz { cls:=.type "list",data:=.seq vs.toArray } (.lst (ns.map V.int))) else none) (fun b=>?_) (.inl (.inr ⟨{ cls:=.type "list",data:=.seq vs.toArray },if_pos rfl⟩)) (fun b u z=>?_) (fun b z=>?_) fun _=>hk
  ·by_cases hb:b=a
   ·exact .inr ⟨_,_,if_pos hb⟩
   ·exact .inl (if_neg hb)
  ·by_cases hb:b=a
   ·have z':=(if_pos hb).symm.trans z
    cases z'
    subst hb
    exact ⟨ha,by rw [List.length_map]; exact hl,vs,_,rv,ha⟩
   ·have z':=(if_neg hb).symm.trans z
    cases z'
  ·by_cases hb:b=a
   ·exact hb
   ·exact absurd (if_neg hb) z
theorem BM3 {l:OpenLaw}{n k:Nat}{q:Program}{loose:List Str}{XP:(Str->Option Value)->Heap->Prop}{YP:World->Heap->Prop}{d:DefRec}{K:Params->Frag}{CX:World->CXT}{sp:World->Sp}{x:Str}(hn:l.most=some n)(hn2:n<=sizeLine)(hdf:d.params.defaults=[])(hr:Room k callerA)(hY:∀ (w:World) (h:Heap),YP w h->(K w.params).In h)(F:∀ (w:World) (mg:Str->Option Value) (fa:Addr) (h:Heap),(K w.params).In h->h.Ns mainGlobals mg->mg d.name=some (.ref fa) ->
   ∃ fd:FuncData,(∀ (s:Shared) (u:Value),BindsTo s fd ⟨[u],[]⟩ [(x,u)]) /\
    ∀ base:Heap,(K w.params).In base->base.Ns mainGlobals mg->FnOk l.prog w (K w.params) mg base (CX w) k fa fd [x] (sp w))(hsp:∀ (w:World) (H:Hp) (a:Addr) (ns:List Int),ns.length<=n->BM2 H->SqL (K w.params) H a (ns.map V.int)->sp w [.ref a] H (fun v _=>v=.bl true) fun _ _ _=>False)(hCX:∀ (w:World) (H:Hp) (s:Shared) (e:Value) (s':Shared),CX w [] H s (fun _ _ _=>False) e s'->False) :
  WalkO q loose XP YP l.row.toRowW d [] (fun f vs=>PySem.call f vs):=by
 refine Att.attach_call hn hdf fun w s₀ s₁ mg mb fa o pm cd doc a vs ns G Y ho hd hcd hmg hobj hints hlen hg=>?_
 have KX:=hY w _ Y
 obtain ⟨fd,hb,hF⟩:=F w mg fa _ KX G.T.g hmg
 exact AO5 KX G.T.g G.T.b G.T.builtins G.T.nolimit hg hobj hints (Nat.le_trans hlen hn2) hr hF hb (fun H hO hS=>hsp w H a ns hlen hO hS) fun H e s'=>hCX w H s₁ e s'
def aL (s:Stmt)(j:Nat):Stmt:=match s with
 | .ClassDef _ _ _ body _ _ _ _ _ _ _=>body.getD j (.Pass ⟨0,0,0,0⟩)
 | _=>.Pass ⟨0,0,0,0⟩
def aX (s:Stmt):Arguments:=match s with
 | .FunctionDef _ a _ _ _ _ _ _ _ _=>a
 | _=>{ posonlyargs:=[],args:=[],vararg:=none,kwonlyargs:=[],kw_defaults:=[],kwarg:=none,defaults:=[] }
def aV (s:Stmt):List Stmt:=match s with
 | .FunctionDef _ _ b _ _ _ _ _ _ _=>b
 | _=>[]
def aF (s:Stmt):Scope:=match s with
 | .FunctionDef _ _ _ _ _ _ sc _ _ _=>sc
 | _=>{ kind:=.function,names:=[],isGenerator:=false,isCoroutine:=false }
abbrev CX0:CXT:=fun _ _ _ _ _ _=>False
abbrev E0:XK:=fun _ _ _=>False
structure Fun (K:Frag) (x qual:Str) (st:Stmt) (f:Addr) (fd:FuncData):Prop where
 ex:∃ (oc:Value) (od:Option Addr) (kV doc pm:Value) (an:Option Addr) (cdv ct:Value) (osl:Array (Option Value)),
  fd=fnOf x qual (aX st) (aV st) (aF st) .none kV doc pm an cdv ct/\K.lookup f=some ⟨oc,od,.func fd,osl⟩/\codeIn K cdv qual=true
 kp:keepIn K (.ref f)=true
section
variable {P:Program}{w:World}{K:Frag}{mg:Str->Option Value}{base:Heap}
theorem Fun.ok {x qual:Str}{st:Stmt}{f:Addr}{fd:FuncData}{N ps:List Str}{k:Nat}{sp:Sp}(F:Fun K x qual st f fd)(S:FnScope N ps (aF st))(len:∀ vs H Q E,sp vs H Q E->vs.length=ps.length)(hbody:∀ (cdv:Value) (A:Around) (outer:List Env) (s:Shared) (H:Hp) (vs:List V) (Q:VK) (E:XK),Room k (A.deeper (envOfC qual (aF st) s.heap.objs.size f cdv))->sp vs H Q E ->
   ∃ t,PSs (AF2 CX0 P w K mg base N qual (aF st) f cdv A outer s H E).nox (aV st) t/\t { nx:=fun _ H'=>Q .non H',rt:=Q } (start N vs) H):FnOk P w K mg base CX0 (k+1) f fd ps sp:=by
 obtain ⟨oc,od,kV,doc,pm,an,cdv,ct,osl,rfl,lk,hcd⟩:=F.ex
 refine AO4 lk hcd S len fun A outer s H vs Q E hr hsp=>?_
 obtain ⟨t,h,q⟩:=hbody cdv A outer s H vs Q E hr hsp
 exact ⟨t,h.nox,q⟩
theorem Fun.binds {x qual:Str}{st:Stmt}{f:Addr}{fd:FuncData}{ps:List Str}(F:Fun K x qual st f fd)(h:∀ (kV doc pm:Value) (an:Option Addr) (cdv ct:Value) (us:List Value),us.length=ps.length->bindArgs (fnOf x qual (aX st) (aV st) (aF st) .none kV doc pm an cdv ct) ⟨us,[]⟩=pure (ps.zip us)):Binds K fd ps []:=by
 obtain ⟨oc,od,kV,doc,pm,an,cdv,ct,osl,rfl,lk,hcd⟩:=F.ex
 exact .all (h kV doc pm an cdv ct)
theorem bF {x qual:Str}{st:Stmt}{f:Addr}{oc:Value}{od an:Option Addr}{osl:Array (Option Value)}{kV doc pm cdv ct:Value}(l:K.lookup f=some ⟨oc,od,.func (fnOf x qual (aX st) (aV st) (aF st) .none kV doc pm an cdv ct),osl⟩)(c:codeIn K cdv qual=true)(k:keepIn K (.ref f)=true):Fun K x qual st f (fnOf x qual (aX st) (aV st) (aF st) .none kV doc pm an cdv ct):=⟨⟨oc,od,kV,doc,pm,an,cdv,ct,osl,rfl,l,c⟩,k⟩
end
theorem AF7 {n:Nat}(h:n<=1000):n < sizeLine:=Nat.lt_of_le_of_lt h (by decide)
section
variable {X:Cx}
theorem pv (i:Nat){x:Str}{pos:Pos}(hN:X.N[i]?=some x:=by rfl)(hv:Vis X.env.scope x:=by first | exact Or.inl rfl | exact Or.inr (Or.inl rfl) | exact Or.inr (Or.inr rfl))(hd:(x == ("__debug__":Str))=false:=by decide)(hcd:(x == ("__classdict__":Str))=false:=by decide):PE X (.Name x pos) (BL1 i):=AS2 hN hv hd hcd
end
def Same (H H':Hp):Prop:=∀ b o,H b=some o->H' b=some o
theorem Same.trans {H H1 H2:Hp}(a:Same H H1)(b:Same H1 H2):Same H H2:=fun c o h=>b c o (a c o h)
theorem Same.free {H H':Hp}(e:Same H H'){l:Addr}(h:H' l=Option.none):H l=Option.none:=by
 cases q:H l with
 | none=>rfl
 | some o =>
  rw [e l o q] at h
  cases h
theorem Same.seq {K:Frag}{H H':Hp}{a:Addr}{xs:List V}(e:Same H H')(h:SqL K H a xs):SqL K H' a xs:=by
 rcases h with (h | ⟨o,h⟩) | h
 ·exact .inl (.inl (e _ _ h))
 ·exact .inl (.inr ⟨o,e _ _ h⟩)
 ·exact .inr h
end L2
namespace Bw
open PySem PySem.Spec PyProof.Rows L2 PySem.W
section
variable {X:Cx}
def BM4 (i j:Int):Prop:=0 < j/\j < 2 ^ 62
theorem jZ:OpR X (binaryOp .FloorDiv) (rI BM4 fun i j=>.int (i / j)):=opI fun i j _ _ _ _ _ hc q=>by
 have h1:(0:Int) < j:=hc.1
 have h2:j < 2 ^ 62:=hc.2
 refine floordiv_int (by omega) (by rw [Int.fdiv_eq_ediv_of_nonneg i (by omega)]; exact q) (.inl (PyProof.noPylong_of_log2 ?_))
 have h0:j.natAbs≠0:=by omega
 have:j.natAbs.log2 < 62:=(Nat.log2_lt h0).mpr (by omega)
 omega
def okV (H:Hp):V->Prop
 | .non=>True
 | .bl _=>True
 | .int _=>True
 | .str _=>True
 | .ref a=>(∃ xs,H a=some (.lst xs))\/∃ xs,H a=some (.tup xs)
 | _=>False
def AF8:V->Bool
 | .int _=>true
 | .bl _=>true
 | _=>false
def wQ:V->Bool
 | .bl _=>true
 | _=>false
def vA (H:Hp):V->Bool
 | .ref a=>match H a with
  | some (.tup _)=>true
  | _=>false
 | _=>false
theorem okV.ty {K:Frag}{H:Hp}{x:V}(h:okV H x):∃ T,TyOf K H x (.type T)/\kitOne K (.type T) (.type "int")=some (AF8 x)/\kitOne K (.type T) (.type "bool")=some (wQ x)/\kitOne K (.type T) (.type "tuple")=some (vA H x):=by
 cases x with
 | non=>exact ⟨_,.non,by kernel_rfl,by kernel_rfl,by kernel_rfl⟩
 | bl b=>exact ⟨_,.bl b,by kernel_rfl,by kernel_rfl,by kernel_rfl⟩
 | int i=>exact ⟨_,.int i,by kernel_rfl,by kernel_rfl,by kernel_rfl⟩
 | str i=>exact ⟨_,.str i,by kernel_rfl,by kernel_rfl,by kernel_rfl⟩
 | ref a =>
  rcases h with ⟨xs,e⟩ | ⟨xs,e⟩
  ·have q:vA H (.ref a)=false:=by simp [vA,e]
   rw [q]
   exact ⟨_,.lst e,by kernel_rfl,by kernel_rfl,by kernel_rfl⟩
  ·have q:vA H (.ref a)=true:=by simp [vA,e]
   rw [q]
   exact ⟨_,.tup e,by kernel_rfl,by kernel_rfl,by kernel_rfl⟩
 | _=>exact h.elim
theorem AX0 {pins:List (Addr × Obj)}{σ:L2.St}{H:Hp}{s:Shared}{x:V}{c T:String}{b:Bool}{us:List Value}{Q:VK}(I:Inv X pins σ H s)(r:Vals [x,.ty c] us)(ty:TyOf X.K H x (.type T))(e:kitOne X.K (.type T) (.type c)=some b)(q:Q (.bl b) H) :
  wpAny (model X.prog X.w) X.A (call (.builtin "isinstance") us) (EP X pins σ Q) X.xe s:=by
 obtain ⟨u,w',rfl,rx,rc⟩:=AW3 r
 cases (show w'=Value.type c from rc)
 exact pL I rx ty e fun tk=>⟨.bl b,H,I.tok _,rfl,q⟩
end
structure Cal (P:Program) (w:World) (K:Frag) (mg:Str->Option Value) (base:Heap) (x:Str) (ps:List Str) (k:Nat) (sp:Sp):Prop where
 ex:∃ f fd,FnOk P w K mg base CX0 k f fd ps sp/\Binds K fd ps []/\keepIn K (.ref f)=true/\mg x=some (.ref f)
theorem aE {H:Hp}{p:Addr}(h:H p=none)(o:HO):Same H (upd H p o):=fun b u q=>by rw [aN (aP q h)]; exact q
def But (w:Addr)(H H':Hp):Prop:=∀ b o,b≠w->H b=some o->H' b=some o
theorem But.refl (w:Addr)(H:Hp):But w H H:=fun _ _ _ h=>h
theorem But.trans {w:Addr}{H H1 H2:Hp}(a:But w H H1)(b:But w H1 H2):But w H H2:=fun c o n h=>b c o n (a c o n h)
theorem But.upd {w:Addr}{H:Hp}(o:HO):But w H (upd H w o):=fun b u n h=>by rw [aN n]; exact h
theorem Same.but {w:Addr}{H H':Hp}(h:Same H H'):But w H H':=fun b o _ e=>h b o e
def Well (H:Hp)(w:Addr):Prop:=∃ a b c d:Int,H w=some (.lst [.int a,.int b,.int c,.int d])
theorem Well.same {H H':Hp}{w:Addr}(W:Well H w)(s:Same H H'):Well H' w:=by
 obtain ⟨a,b,c,d,h⟩:=W
 exact ⟨a,b,c,d,s _ _ h⟩
theorem Well.ne {H:Hp}{w p:Addr}(W:Well H w)(h:H p=none):p≠w:=by
 obtain ⟨a,b,c,d,e⟩:=W
 exact (aP e h).symm
theorem Well.neL {H:Hp}{w p:Addr}{xs:List V}(W:Well H w)(h:H p=some (.tup xs)):p≠w:=by
 obtain ⟨a,b,c,d,e⟩:=W
 exact (pF e h (by intro z; cases z)).symm
theorem BG4 {ns:List Int}{i:Nat}{x:V}(h:(ns.map V.int)[i]?=some x):∃ c,x=.int c:=by
 rw [List.getElem?_map] at h
 cases e:ns[i]? with
 | none=>rw [e] at h; cases h
 | some c=>rw [e] at h; exact ⟨c,(Option.some.inj h).symm⟩
theorem sz8 {n:Nat}(h:n<=1000):n<=sizeLine:=Nat.le_of_lt (AF7 h)
section
variable {K:Frag}{ta tb tc te:TE}{tA tB':TT}{t u:TS}{tr:TA}{D:Ends}{σ:L2.St}{H:Hp}{Q:VK}{QB:Bool->Hp->Prop}{QA:List V->Hp->Prop}{v x y z:V}{i j:Nat}{g:TG}{QS:L2.St->Hp->Prop}
theorem AX1:BL2 t u D σ H=t { D with nx:=u D } σ H:=rfl
theorem AF9:AV5 D σ H=D.nx σ H:=rfl
theorem AX2:BL4 tA t u D σ H=tA σ H (fun b H1=>if b=true then t D σ H1 else u D σ H1):=rfl
theorem AX3:BK3 te D σ H=te σ H D.rt:=rfl
theorem AG0:BL3 D σ H=D.rt .non H:=rfl
theorem AG1:BE8 te D σ H=te σ H (fun _ H1=>D.nx σ H1):=rfl
theorem AX4:AV7 te g D σ H=te σ H (fun x H1=>g x σ H1 D.nx):=rfl
theorem wR:wL i v σ H QS=QS (σ.set i (some v)) H:=rfl
theorem AG2 {ts:BK4}:BQ8 ta tb ts v σ H QS=ta σ H (fun o H1=>tb σ H1 (fun i H2=>ts o i v H2 (fun H3=>QS σ H3))):=rfl
theorem AX5:BL1 i σ H Q=∃ v,σ[i]?=some (some v)/\Q v H:=rfl
theorem w_c:tC v σ H Q=Q v H:=rfl
theorem BM5 {r:R2}:tOp r ta tb σ H Q=ta σ H (fun x H1=>tb σ H1 (fun y H2=>r x y H2 Q)):=rfl
theorem BM6 {r:V->Hp->VK->Prop}:tUn r ta σ H Q=ta σ H (fun x H1=>r x H1 Q):=rfl
theorem BM7 {f:Int->V}:rU f x H Q=∃ i,x=.int i/\Q (f i) H:=rfl
theorem AX6 {f:Int->Int->V}:rI0 f x y H Q=∃ i j,x=.int i/\y=.int j/\Q (f i j) H:=rfl
theorem BM8 {C:Int->Int->Prop}{f:Int->Int->V}:rI C f x y H Q=∃ i j,x=.int i/\y=.int j/\C i j/\Q (f i j) H:=rfl
theorem AG3:BF6 te σ H QB=te σ H (fun x H'=>∃ k,x=.bl k/\QB k H'):=rfl
theorem w_b:L2.tB te σ H QB=te σ H (fun x H1=>∃ c,x=.bl c/\QB c H1):=rfl
theorem AX7:BQ2 tA tB' σ H QB=tA σ H (fun c H1=>if c=true then tB' σ H1 QB else QB false H1):=rfl
theorem BM9:tOr tA tB' σ H QB=tA σ H (fun c H1=>if c=true then QB true H1 else tB' σ H1 QB):=rfl
theorem w_not:BQ3 tA σ H QB=tA σ H (fun c H1=>QB (!c) H1):=rfl
theorem AG4:BE5 ta tb σ H Q=ta σ H (fun x H1=>∃ c,x=.bl c/\if c=true then tb σ H1 Q else Q (.bl false) H1):=rfl
theorem AX8:BQ4 ta tb σ H Q=ta σ H (fun x H1=>∃ c,x=.bl c/\if c=true then Q (.bl true) H1 else tb σ H1 Q):=rfl
theorem AG5:BE6 ta σ H Q=ta σ H (fun x H1=>∃ c,x=.bl c/\Q (.bl (!c)) H1):=rfl
theorem BN0:tIf tA ta tb σ H Q=tA σ H (fun c H1=>if c=true then ta σ H1 Q else tb σ H1 Q):=rfl
theorem AG6:AO2 ta tr σ H QA=ta σ H (fun x H1=>tr σ H1 (fun xs H2=>QA (x::xs) H2)):=rfl
theorem AX9:BK6 σ H QA=QA [] H:=rfl
theorem AY0:BR3 tr σ H Q=tr σ H (fun xs H1=>xs.length<=sizeLine/\∀ p,H1 p=none->Q (.ref p) (L2.upd H1 p (.tup xs))):=rfl
theorem AY1:BL9 tr σ H Q=tr σ H (fun xs H1=>xs.length<=sizeLine/\∀ p,H1 p=none->Q (.ref p) (L2.upd H1 p (.lst xs))):=rfl
theorem AG7 {sp:Sp}{dvs:List V}{E:XK}:AF1 sp dvs E tr σ H Q=tr σ H (fun vs H1=>sp (vs++dvs) H1 Q E):=rfl
theorem BN1 {r:List V->Hp->VK->Prop}:tCB r tr σ H Q=tr σ H (fun vs H1=>r vs H1 Q):=rfl
theorem BN2:rEq x y H Q=(AN8 x y=true/\Q (.bl (decide (x=y))) H):=rfl
theorem BN3:rNe x y H Q=(AN8 x y=true/\Q (.bl (!decide (x=y))) H):=rfl
theorem BN4 {a b:Int}:AN8 (.int a) (.int b)=true:=rfl
theorem BN5 {a b:Bool}:AN8 (.bl a) (.bl b)=true:=rfl
theorem BN6 {a b:Str}:AN8 (.str a) (.str b)=true:=rfl
theorem BN7 {a:Int}:AN8 (.int a) .non=true:=rfl
theorem BN8 {a:Bool}:AN8 (.bl a) .non=true:=rfl
theorem AY2:BQ1 ta σ H Q=ta σ H (fun x H1=>Q (.bl (decide (x=.non))) H1):=rfl
theorem AG8:BE4 ta σ H Q=ta σ H (fun x H1=>Q (.bl (!decide (x=.non))) H1):=rfl
theorem wS {r r':R2}:AS8 r r' ta tb tc σ H Q=ta σ H (fun x H1=>tb σ H1 (fun y H2=>r x y H2 (fun z H3=>∃ k,z=.bl k/\(if k=true then tc σ H3 (fun w' H4=>r' y w' H4 Q) else Q (.bl false) H3)))):=rfl
theorem BN9 {r:V->Option Int->Option Int->Hp->VK->Prop}{tl th:TO}:tSl r te tl th σ H Q=te σ H (fun x H1=>tl σ H1 (fun l H2=>th σ H2 (fun u H3=>r x l u H3 Q))):=rfl
theorem AG9 {QO:Option Int->Hp->Prop}:BF9 te σ H QO=te σ H (fun x H1=>∃ i,x=.int i/\QO (some i) H1):=rfl
theorem sK {QO:Option Int->Hp->Prop}:AF3 σ H QO=QO none H:=rfl
theorem w_K {CX:CXT}{P:Program}{w:World}{mg:Str->Option Value}{base:Heap}{N:List Str}{qual:Str}{sc:Scope}{f:Addr}{cd:Value}{A:Around}{outer:List Env}{s:Shared}{H:Hp}{E:XK}:(AF2 CX P w K mg base N qual sc f cd A outer s H E).K=K:=rfl
def ForL (K:Frag)(a:Addr)(g:TG)(tb:TS)(D:Ends)(σ:L2.St)(H:Hp):Prop:=∃ W:Nat->Nat->L2.St->Hp->Prop,(∃ m,W 0 m σ H)/\∀ i m σ H,W i m σ H ->
 ((Itl K a).stop i H/\D.nx σ H)\/((Itl K a).go i H/\∃ N:L2.St->Hp->Prop,(∀ σ' H',N σ' H'->∃ m',m' < m/\W (i+1) m' σ' H')/\∀ x H',(Itl K a).yld i H x H'->g x σ H' fun σ2 H2=>tb { D with nx:=N,ct:=N,bk:=D.nx } σ2 H2)
def ForR (lo:Int)(n:Nat)(g:TG)(tb:TS)(D:Ends)(σ:L2.St)(H:Hp):Prop:=∃ W:Nat->Nat->L2.St->Hp->Prop,(∃ m,W 0 m σ H)/\∀ i m σ H,W i m σ H ->
 ((Itr lo n).stop i H/\D.nx σ H)\/((Itr lo n).go i H/\∃ N:L2.St->Hp->Prop,(∀ σ' H',N σ' H'->∃ m',m' < m/\W (i+1) m' σ' H')/\∀ x H',(Itr lo n).yld i H x H'->g x σ H' fun σ2 H2=>tb { D with nx:=N,ct:=N,bk:=D.nx } σ2 H2)
theorem AH0:BD4 (AV8 K ta) g t D σ H=ta σ H (fun x H1=>∃ a,x=.ref a/\(∃ xs,SqL K H1 a xs)/\ForL K a g t D σ H1):=rfl
theorem AH1:BD4 (AV9 tr) g t D σ H=tr σ H (fun vs H1=>∃ j:Int,vs=[.int j]/\-(2 ^ 62)<=j/\j < 2 ^ 62/\ForR 0 j.toNat g t D σ H1):=rfl
theorem AH2:BD4 (BF3 tr) g t D σ H=tr σ H (fun vs H1=>∃ i j:Int,vs=[.int i,.int j]/\(-(2 ^ 62)<=i/\i < 2 ^ 62/\-(2 ^ 62)<=j/\j < 2 ^ 62)/\ForR i (j - i).toNat g t D σ H1):=rfl
theorem ForL.by {a:Addr}{xs:List V}(Pv:Nat->L2.St->Hp->Prop)(h0:Pv 0 σ H)(hl:∀ i σ H,i<=xs.length->Pv i σ H->SqL K H a xs)(hs:∀ i x σ H,xs[i]?=some x->Pv i σ H->g x σ H fun σ2 H2=>t { D with nx:=Pv (i+1),ct:=Pv (i+1),bk:=D.nx } σ2 H2)(hd:∀ σ H,Pv xs.length σ H->D.nx σ H):ForL K a g t D σ H:=AN7 Pv h0 hl hs hd
theorem ForR.by {lo:Int}{n:Nat}(Pv:Nat->L2.St->Hp->Prop)(h0:Pv 0 σ H)(hs:∀ i σ H,i < n->Pv i σ H->g (.int (lo+i)) σ H fun σ2 H2=>t { D with nx:=Pv (i+1),ct:=Pv (i+1),bk:=D.nx } σ2 H2)(hd:∀ σ H,Pv n σ H->D.nx σ H):ForR lo n g t D σ H:=AE1 Pv h0 hs hd
theorem whl (Pv:L2.St->Hp->Prop)(μ:L2.St->Hp->Nat)(h0:Pv σ H)(hs:∀ σ H,Pv σ H->tA σ H fun b H1=>if b=true then ∃ N:L2.St->Hp->Prop,(∀ σ' H',N σ' H'->∃ m',m' < μ σ H/\(m'=μ σ' H'/\Pv σ' H'))/\t { D with nx:=N,ct:=N,bk:=D.nx } σ H1 else D.nx σ H1):AS5 tA t D σ H:=by
 refine ⟨fun m σ H=>m=μ σ H/\Pv σ H,⟨_,rfl,h0⟩,?_⟩
 rintro m σ H ⟨rfl,p⟩
 exact hs σ H p
theorem ixl {p:Addr}{xs:List V}{k:Int}(hS:SqL K H p xs)(hv:atI xs k=some v)(q:Q v H):BM0 K (.ref p) (.int k) H Q:=⟨p,xs,k,v,rfl,rfl,hS,hv,q⟩
theorem ixt {p:Addr}{xs:List V}{k:Int}(hS:SqT K H p xs)(hv:atI xs k=some v)(q:Q v H):BM1 K (.ref p) (.int k) H Q:=⟨p,xs,k,v,rfl,rfl,hS,hv,q⟩
theorem BR9 {p:Addr}{xs:List V}{k:Int}{QH:Hp->Prop}(h:H p=some (.lst xs))(hj:ixN xs.length k=some j)(q:QH (L2.upd H p (.lst (xs.set j v)))):BG0 (.ref p) (.int k) v H QH:=⟨p,xs,k,j,rfl,rfl,h,hj,q⟩
end
def AY3:R2:=fun x y H Q=>∃ c d:Bool,x=.bl c/\y=.bl d/\Q (.bl (c != d)) H
theorem sL {x y:V}{H:Hp}{Q:VK}:AY3 x y H Q=∃ c d:Bool,x=.bl c/\y=.bl d/\Q (.bl (c != d)) H:=rfl
def BK7 (lo c:Int)(n:Nat):It:=⟨fun i _=>i < n,fun i H x H'=>H'=H/\x=.int (lo+i * c),fun i _=>n<=i⟩
def BS0 (i j c:Int):Nat:=if i < j then ((j - i - 1) / c+1).toNat else 0
def BO0 (ta:TA):TI:=fun σ H R=>ta σ H fun vs H1=>∃ i j c:Int,vs=[.int i,.int j,.int c]/\(-(2 ^ 60)<=i/\i < 2 ^ 60/\-(2 ^ 60)<=j/\j < 2 ^ 60/\0 < c/\c < 2 ^ 30)/\R (BK7 i c (BS0 i j c)) H1
def ForR3 (lo c:Int)(n:Nat)(g:TG)(tb:TS)(D:Ends)(σ:L2.St)(H:Hp):Prop:=∃ W:Nat->Nat->L2.St->Hp->Prop,(∃ m,W 0 m σ H)/\∀ i m σ H,W i m σ H ->
 ((BK7 lo c n).stop i H/\D.nx σ H)\/((BK7 lo c n).go i H/\∃ N:L2.St->Hp->Prop,(∀ σ' H',N σ' H'->∃ m',m' < m/\W (i+1) m' σ' H')/\∀ x H',(BK7 lo c n).yld i H x H'->g x σ H' fun σ2 H2=>tb { D with nx:=N,ct:=N,bk:=D.nx } σ2 H2)
theorem AH3 {tr:TA}{g:TG}{t:TS}{D:Ends}{σ:L2.St}{H:Hp}:BD4 (BO0 tr) g t D σ H=tr σ H (fun vs H1=>∃ i j c:Int,vs=[.int i,.int j,.int c]/\(-(2 ^ 60)<=i/\i < 2 ^ 60/\-(2 ^ 60)<=j/\j < 2 ^ 60/\0 < c/\c < 2 ^ 30)/\ForR3 i c (BS0 i j c) g t D σ H1):=rfl
theorem ForR3.by {lo c:Int}{n:Nat}{g:TG}{t:TS}{D:Ends}{σ:L2.St}{H:Hp}(Pv:Nat->L2.St->Hp->Prop)(h0:Pv 0 σ H)(hs:∀ i σ H,i < n->Pv i σ H->g (.int (lo+i * c)) σ H fun σ2 H2=>t { D with nx:=Pv (i+1),ct:=Pv (i+1),bk:=D.nx } σ2 H2)(hd:∀ σ H,Pv n σ H->D.nx σ H):ForR3 lo c n g t D σ H:=by
  refine ⟨fun i m σ H=>m=n - i/\i<=n/\Pv i σ H,⟨n,by simp,Nat.zero_le _,h0⟩,?_⟩
  rintro i m σ H ⟨rfl,hi,p⟩
  by_cases hlt:i < n
  · refine .inr ⟨hlt,Pv (i+1),fun σ' H' p'=>⟨n - (i+1),by omega,rfl,hlt,p'⟩,fun x H' y=>?_⟩
    obtain ⟨e,y⟩:=y
    subst e y
    exact hs i σ _ hlt p
  · have e:i=n:=by omega
    subst e
    exact .inl ⟨Nat.le_refl _,hd σ H p⟩
structure QOk (H:Hp) (p:Addr) (s e:Int):Prop where
 at_:H p=some (.tup [.int s,.int e])
 s0:0<=s
 s1:s<=1439
 e0:0<=e
 e1:e<=1439
 ne:s≠e
theorem QOk.same {H H':Hp}{p:Addr}{s e:Int}(q:QOk H p s e)(h:Same H H'):QOk H' p s e:=⟨h _ _ q.at_,q.s0,q.s1,q.e0,q.e1,q.ne⟩
theorem QOk.but {H H':Hp}{w p:Addr}{s e:Int}(q:QOk H p s e)(W:Well H w)(h:But w H H'):QOk H' p s e:=⟨h _ _ (W.neL q.at_) q.at_,q.s0,q.s1,q.e0,q.e1,q.ne⟩
theorem AT2 {n:Nat}{i:Int}(h0:0<=i)(h1:i < n):ixN n i=some i.toNat:=by
 unfold ixN
 rw [if_pos h0,if_pos h1]
end Bw
set_option maxHeartbeats 1000000
namespace Bw
open PySem PySem.Spec PyProof.Rows L2 PySem.W
def C2 (o o':Obj):Prop:=∀ vs,o.data=.fields vs->∃ vs',o'.data=.fields vs'/\vs'[2]?=vs[2]?
theorem C2.refl (o:Obj):C2 o o:=fun vs e=>⟨vs,e,rfl⟩
theorem C2.trans {a b c:Obj}(x:C2 a b)(y:C2 b c):C2 a c:=fun vs e=>by
 obtain ⟨v1,e1,q1⟩:=x vs e
 obtain ⟨v2,e2,q2⟩:=y v1 e1
 exact ⟨v2,e2,q2.trans q1⟩
def AY4 (f:Obj->Obj):Prop:=∀ o,(f o).dict=o.dict/\((f o).isFreed=o.isFreed)/\C2 o (f o)
def DK (h h':Heap):Prop:=∀ b o,h.get? b=some o->∃ o',h'.get? b=some o'/\o'.dict=o.dict/\C2 o o'
theorem DK.refl (h:Heap):DK h h:=fun _ o e=>⟨o,e,rfl,C2.refl o⟩
theorem DK.trans {h1 h2 h3:Heap}(a:DK h1 h2)(b:DK h2 h3):DK h1 h3:=fun c o e=>by
 obtain ⟨o1,e1,d1,c1⟩:=a c o e
 obtain ⟨o2,e2,d2,c2⟩:=b c o1 e1
 exact ⟨o2,e2,d2.trans d1,c1.trans c2⟩
def KD {α:Type}:Sem α->Prop
 | .pure _=>True
 | .raise _=>True
 | .unsupported _=>True
 | .finish _=>True
 | .rule _ k=>KD (k ())
 | .at _ k=>KD (k ())
 | .load _ _ k=>∀ o,KD (k o)
 | .update _ _ f k=>AY4 f/\KD (k ())
 | .alloc _ k=>∀ b,KD (k b)
 | .loadIfAlive _ k=>∀ o,KD (k o)
 | .point _ k=>KD (k ())
 | .register _ _=>True
 | .fresh k=>∀ t,KD (k t)
 | .ask k=>∀ x,KD (k x)
 | .choose _ _ k=>∀ n,KD (k n)
 | .os _ _ k=>∀ x,KD (k x)
 | .call _ _ _ _ _=>False
 | .handled _ k=>∀ x,KD (k x)
 | .newGen _ k=>∀ n,KD (k n)
 | .genState _ k=>∀ x,KD (k x)
 | .resume _ _ _ _=>False
 | .yield _ _ _ _=>True
 | .stack k=>∀ x,KD (k x)
 | .fork _ _=>True
 | .thread k=>∀ n,KD (k n)
 | .await _ _ _ _ _=>True
theorem KD.bind {α β:Type}{t:Sem α}{f:α->Sem β}(h:KD t)(k:∀ x,KD (f x)):KD (t >>= f):=by
 show KD (t.bind f)
 induction t with
 | pure x=>exact k x
 | raise _ | unsupported _ | finish _=>trivial
 | rule _ _ ih | «at» _ _ ih | point _ _ ih=>exact ih _ h
 | load _ _ _ ih | alloc _ _ ih | loadIfAlive _ _ ih | fresh _ ih | ask _ ih | choose _ _ _ ih | os _ _ _ ih | handled _ _ ih | newGen _ _ ih | genState _ _ ih | stack _ ih | thread _ ih=>exact fun x=>ih x (h x)
 | update _ _ _ _ ih=>exact ⟨h.1,ih _ h.2⟩
 | register _ _ _ | yield _ _ _ _ _ | fork _ _ _ | await _ _ _ _ _ _=>trivial
 | call _ _ _ _ _ _ | resume _ _ _ _ _=>exact h.elim
theorem AH4 {h:Heap}{a:Addr}{f:Obj->Obj}(s:AY4 f):DK h (h.update a f):=fun b o e=>by
 by_cases c:b=a
 ·subst c
  refine ⟨f o,Heap.get?_update_self f e ?_,(s o).1,(s o).2.2⟩
  rw [(s o).2.1]
  unfold Heap.get? at e
  split at e
  ·cases e
  ·rename_i hn
   obtain ⟨cl,dd,da,sl⟩:=o
   cases da with
   | freed=>exact absurd e (fun z=>hn _ _ _ z)
   | _=>rfl
 ·exact ⟨o,by rw [Heap.get?_update_other _ _ (fun z=>c z.symm)]; exact e,rfl,C2.refl o⟩
theorem AY5 {h:Heap}{o:Obj}:DK h (h.push o):=fun b q e=>⟨q,Heap.get?_push_of_some _ e,rfl,C2.refl q⟩
theorem BO1 {M:Model}{Γ:PySem.Ctx}{α:Type}{t:Sem α}{Q:α->Pos->Shared->Prop}{E:Value->Pos->Shared->Prop}(k:KD t):∀ {h0:Heap}{p:Pos}{s:Shared},DK h0 s.heap->Sem.wp M Γ t Q E p s ->
  Sem.wp M Γ t (fun x p' s'=>Q x p' s'/\DK h0 s'.heap) (fun v p' s'=>E v p' s'/\DK h0 s'.heap) p s:=by
 induction t with
 | pure x=>exact fun d w=>⟨w,d⟩
 | raise v=>exact fun d w=>⟨w,d⟩
 | unsupported _ | finish _ | register _ _ _ | yield _ _ _ _ _ | fork _ _ _ | await _ _ _ _ _ _=>exact fun _ w=>w
 | rule _ _ ih | «at» _ _ ih | point _ _ ih=>exact fun d w=>ih _ k d w
 | load _ _ _ ih=>exact fun d ⟨o,e,w⟩=>⟨o,e,ih _ (k o) d w⟩
 | alloc _ _ ih=>exact fun d w=>ih _ (k _) (d.trans AY5) w
 | loadIfAlive _ _ ih | fresh _ ih | ask _ ih | os _ _ _ ih | handled _ _ ih | newGen _ _ ih | stack _ ih | thread _ ih=>exact fun d w=>ih _ (k _) d w
 | choose _ _ _ ih=>exact fun d ⟨n,w⟩=>⟨n,ih _ (k _) d w⟩
 | genState _ _ ih=>exact fun d ⟨o,e,w⟩=>⟨o,e,ih _ (k _) d w⟩
 | update _ _ _ _ ih=>exact fun d ⟨e,w⟩=>⟨e,ih _ k.2 (d.trans (AH4 k.1)) w⟩
 | call _ _ _ _ _ _ | resume _ _ _ _ _=>exact k.elim
theorem lP {M:Model}{A:Around}{α:Type}{t:Sem α}{Q:α->Shared->Prop}{E:Value->Shared->Prop}{s:Shared}(k:KD t)(h:wpAny M A t Q E s) :
  wpAny M A t (fun x s'=>Q x s'/\DK s.heap s'.heap) (fun v s'=>E v s'/\DK s.heap s'.heap) s:=fun Γ p hΓ=>BO1 k (DK.refl _) (h Γ p hΓ)
section
variable {M:Model}{A:Around}{E:Value->Shared->Prop}{env:Env}
variable {nm q:Str}{C N:Addr}{bs bm:List Value}{hdct:Bool}{sn:List Str}{sub:List Value}{ab:Bool}{col:Option Bool}{dd:Option Addr}{k0 k1 k2 k3 k5:Option Value}{newId:String}
theorem iZ {s:Shared}{x:Sem Value}{Q:Flow->Shared->Prop}(hbase:bm.contains (.type "BaseException")=true)(hh:A.handled=none)(h:wpAny M A x (fun v s₁=>∃ e oe vs,v=.ref e/\s₁.heap.get? C=some (excClassObj nm q C N bs bm hdct sn sub ab col dd k0 k1 k2 k3 k5 newId) /\
   s₁.heap.get? e=some oe/\oe.cls=.ref C/\oe.data=.fields vs/\vs[1]?=some .none/\E (.ref e) s₁) E s) :
  wpAny M A (raiseStmt env (some x) none) Q E s:=by
 have hcB:(Value.ref C::bm).contains (.type "BaseException")=true:=by rw [List.contains_cons,hbase,Bool.or_true]
 unfold raiseStmt
 refine wpAny_bind (wpAny_mono h (fun v s₁ h₁=>?_) fun _ _ x=>x)
 obtain ⟨e,oe,vs,rfl,hC,he,hcl,hda,hv1,hE⟩:=h₁
 obtain ⟨hp,g,d,tk,os⟩:=s₁
 obtain ⟨oc,od,odt,osl⟩:=oe
 dsimp only at hcl hda
 subst hcl hda
 repeat (first | with_reducible refine wpAny_loadPart_at he ?_ | with_reducible refine wpAny_loadPart_at hC ?_ | (with_reducible refine wpAny_isSubtype_exc hC ?_; rw [hcB]) | wp_step)
 rw [hv1]
 repeat (first | wp_step)
 exact wpAny_raiseNew_none hh hE
end
theorem BG5 {f:Array Value->Array Value}(hf:∀ vs,(f vs)[2]?=vs[2]?):AY4 (Obj.mapFields f):=fun o=>by
 obtain ⟨oc,od,odt,osl⟩:=o
 cases odt with
 | fields vs=>exact ⟨rfl,rfl,fun ws e=>by cases e; exact ⟨_,rfl,hf _⟩⟩
 | _=>exact ⟨rfl,rfl,C2.refl _⟩
theorem wT {a:Addr}:KD (load a):=fun _=>trivial
theorem wU {v:Value}:KD (fieldsOf v):=by
 unfold fieldsOf
 split
 ·refine KD.bind wT fun o=>?_
  split <;> trivial
 ·trivial
theorem oZ {v:Value}{i:Nat}:KD (field v i):=by
 unfold field
 refine KD.bind wU fun vs=>?_
 split <;> trivial
theorem jA {v x:Value}{i:Nat}(hi:i≠2:=by decide):KD (setField v i x):=by
 unfold setField
 split
 ·unfold updateField
  refine KD.bind wT fun o=>?_
  split
  ·split
   ·exact ⟨BG5 fun vs=>by rw [Array.getElem?_setIfInBounds_ne hi],trivial⟩
   ·trivial
  ·trivial
 ·trivial
theorem jR {v:Value}{f:Option Addr}:KD (setFlight v f):=by
 unfold setFlight
 refine KD.bind oZ fun tb=>?_
 split
 ·exact jA (by decide)
 ·trivial
theorem AO6:KD underTheClaimsCaller:=by
 unfold underTheClaimsCaller
 first
  | exact KD.bind (fun _=>trivial) fun _=>trivial
  | (repeat (first | exact fun _=>trivial | trivial | refine KD.bind ?_ fun _=>?_ | split))
theorem AH5 {env:Env}{outer:List Env}:KD (behindIsImport env outer):=by
 unfold behindIsImport
 split
 ·trivial
 split
 ·trivial
 exact KD.bind oZ fun _=>trivial
theorem wV {env:Env}{b:Bool}{outer:List Env}:KD (keptBack env b outer):=by
 unfold keptBack
 split
 ·split
  ·trivial
  ·exact KD.bind AO6 fun _=>trivial
 ·trivial
theorem zD:∀ {l:List Env},KD (readyFrames l)
 | []=>trivial
 | env::outer=>by
  unfold readyFrames
  split
  ·refine KD.bind wT fun o=>?_
   split
   ·trivial
   ·refine KD.bind AH5 fun b=>KD.bind wV fun v=>KD.bind ⟨fun o=>?_,trivial⟩ fun _=>zD
    refine ⟨rfl,?_,fun vs e=>⟨vs,e,rfl⟩⟩
    obtain ⟨oc,od,odt,osl⟩:=o
    cases odt <;> rfl
  ·trivial
theorem rM {env:Env}:KD (PySem.frameOf env):=by
 unfold PySem.frameOf
 refine KD.bind (show KD frameEnvs from KD.bind (t:=stack) (fun _=>trivial) fun _=>trivial) fun l=>KD.bind ?_ fun r=>?_
 ·unfold frameObject
  split
  ·trivial
  ·exact KD.bind zD fun _=>trivial
 ·split <;> trivial
theorem zE {f:Addr}{b:Bool}:KD (entryPlaceOf f b):=by
 unfold entryPlaceOf
 refine KD.bind (t:=stack) (fun _=>trivial) fun l=>?_
 split <;> trivial
theorem AY6 {n:String}{dt:Data}:KD (newObjAsIs (.type n) dt):=by
 unfold newObjAsIs
 refine KD.bind (t:=alloc _) (fun _=>trivial) fun _=>?_
 trivial
theorem zF {a b c d e:Value}{l:List Value}:KD (EntryCells.newEntry a b c d e l):=by
 unfold EntryCells.newEntry newFields newObj
 dsimp only
 generalize ([a,b,c,d,e]++if l.isEmpty=true then List.replicate 6 Value.none else l).toArray=z
 split
 ·trivial
 ·exact AY6
theorem AH6 {v:Value}{env:Env}:KD (noteFrame v env):=by
 unfold noteFrame
 split
 ·refine KD.bind oZ fun hd=>?_
  dsimp only
  split
  ·refine KD.bind oZ fun x=>?_
   split
   ·trivial
   ·exact KD.bind (jA (by decide)) fun _=>KD.bind rM fun _=>KD.bind zE fun _=>KD.bind zF fun _=>jA (by decide)
  ·exact KD.bind rM fun _=>KD.bind zE fun _=>KD.bind zF fun _=>jA (by decide)
 ·trivial
theorem rN {v:Value}{env:Env}:KD (leaving env v):=KD.bind AH6 fun _=>jR
abbrev vbm:List Value:=[.type "ValueError",.type "Exception",.type "BaseException",.type "object"]
theorem zG {P:Program}{w:World}{H:Hp}{h:Heap}{a:Addr}{o:HO}(x:ObjOk P w H h a o):∃ ob,h.get? a=some ob:=by
 cases o with
 | lst xs=>exact ⟨_,x.2.choose_spec.choose_spec.2⟩
 | tup xs=>exact let ⟨_,_,_,ob,e,_⟩:=x; ⟨ob,e⟩
 | dK kvs=>exact let ⟨_,_,_,_,ob,_,_,e,_⟩:=x; ⟨ob,e⟩
 | dT kvs=>exact let ⟨_,_,_,_,ob,_,_,e,_⟩:=x; ⟨ob,e⟩
 | set S n=>exact let ⟨ob,_,_,_,e,_⟩:=x; ⟨ob,e⟩
 | ins C dx fs=>exact let ⟨_,_,_,e,_⟩:=x; ⟨_,e⟩
 | own y=>exact x
 | xd fs=>exact let ⟨_,⟨ob,_,_,e,_⟩,_⟩:=x; ⟨ob,e⟩
 | rng lo hi=>exact let ⟨_,_,_,e⟩:=x; ⟨_,e⟩
 | frz ob u=>exact ⟨ob,x.1⟩
 | tbl ps=>exact ⟨_,show h.get? a=some _ from x⟩
 | met f y=>exact ⟨_,show h.get? a=some _ from x⟩
 | ext φ=>exact x.2.1
section
variable {M:Model}{A:Around}{E:Value->Shared->Prop}{s:Shared}
theorem AB7 {base:Heap}{env:Env}{outer:List Env}{L e:Addr}{cls a0:Value}{Q:Unit->Shared->Prop}(hfr:A.frames=some (env::outer))(hf:env.frame=some L)(hfl:Heap.FlyingW base (env::outer) e cls a0 s.heap)(hQ:∀ h',Heap.FlyingW base outer e cls a0 h'->s.heap.UpToSlots h'->DK s.heap h'->Q () { s with heap:=h' }):wpAny M A (leaving env (.ref e)) Q E s :=
 wpAny_mono (lP rN (wpAny_leaves_onW (Q:=fun _ s'=>∃ h',s'={ s with heap:=h' }/\Heap.FlyingW base outer e cls a0 h'/\s.heap.UpToSlots h') (E:=E) hfr hf hfl fun h' a b=>⟨h',rfl,a,b⟩))
  (fun _ s' ⟨⟨h',e1,a,b⟩,dk⟩=>by subst e1; exact hQ h' a b dk) fun _ _ x=>x.1
theorem vB {base:Heap}{env:Env}{outer:List Env}{L e:Addr}{cls a0:Value}{Q:Unit->Shared->Prop}(hfr:A.frames=some (env::outer))(hf:env.frame=some L)(hfl:Heap.FlyingW base (env::outer) e cls a0 s.heap)(hQ:∀ h',Heap.HeldW base (env::outer) e cls a0 L h'->s.heap.UpToSlots h'->DK s.heap h'->Q () { s with heap:=h' }):wpAny M A (noteFrame (.ref e) env) Q E s :=
 wpAny_mono (lP AH6 (wpAny_looks_onW (Q:=fun _ s'=>∃ h',s'={ s with heap:=h' }/\Heap.HeldW base (env::outer) e cls a0 L h'/\s.heap.UpToSlots h') (E:=E) hfr hf hfl fun h' a b=>⟨h',rfl,a,b⟩))
  (fun _ s' ⟨⟨h',e1,a,b⟩,dk⟩=>by subst e1; exact hQ h' a b dk) fun _ _ x=>x.1
theorem AT3 {base:Heap}{l:List Env}{e L:Addr}{cls a0:Value}{Q:Unit->Shared->Prop}(hh:Heap.HeldW base l e cls a0 L s.heap)(hQ:∀ h',Heap.FlyingW base l e cls a0 h'->s.heap.UpToSlots h'->DK s.heap h'->Q () { s with heap:=h' }):wpAny M A (setFlight (.ref e) none) Q E s :=
 wpAny_mono (lP jR (wpAny_landsW (Q:=fun _ s'=>∃ h',s'={ s with heap:=h' }/\Heap.FlyingW base l e cls a0 h'/\s.heap.UpToSlots h') (E:=E) hh fun h' a b=>⟨h',rfl,a,b⟩))
  (fun _ s' ⟨⟨h',e1,a,b⟩,dk⟩=>by subst e1; exact hQ h' a b dk) fun _ _ x=>x.1
theorem oB {base:Heap}{l:List Env}{e:Addr}{cls a0:Value}{Q:Unit->Shared->Prop}(hh:Heap.FlyingW base l e cls a0 s.heap)(hQ:∀ h',Heap.FlyingW base l e cls a0 h'->s.heap.UpToSlots h'->DK s.heap h'->Q () { s with heap:=h' }):wpAny M A (setFlight (.ref e) none) Q E s :=
 wpAny_mono (lP jR (lands_againW (Q:=fun _ s'=>∃ h',s'={ s with heap:=h' }/\Heap.FlyingW base l e cls a0 h'/\s.heap.UpToSlots h') (E:=E) hh fun h' a b=>⟨h',rfl,a,b⟩))
  (fun _ s' ⟨⟨h',e1,a,b⟩,dk⟩=>by subst e1; exact hQ h' a b dk) fun _ _ x=>x.1
theorem sM {base:Heap}{env:Env}{outer:List Env}{L e:Addr}{oe:Obj}{vs:Array Value}{a0:Value}{Q:Unit->Shared->Prop}(hfr:A.frames=some (env::outer))(hl:s.heap.FunFrames base (env::outer))(hf:env.frame=some L)(he:s.heap.get? e=some oe)(hkb:base.StaysIn s.heap)(hen:base.get? e=none)(hd:oe.data=.fields vs)(h1:vs[1]?=some .none)(h0:vs[0]?=some a0)(hQ:∀ h',Heap.FlyingW base outer e oe.cls a0 h'->s.heap.UpToSlots h'->DK s.heap h'->Q () { s with heap:=h' }):wpAny M A (leaving env (.ref e)) Q E s :=
 wpAny_mono (lP rN (wpAny_leaving_firstW (Q:=fun _ s'=>∃ h',s'={ s with heap:=h' }/\Heap.FlyingW base outer e oe.cls a0 h'/\s.heap.UpToSlots h') (E:=E) hfr hl hf he hkb hen hd h1 h0
  fun h' hL=>let ⟨k1,⟨_,_,k2⟩,k3,k4⟩:=hL; ⟨h',rfl,⟨k1,hen,k2,k3⟩,k4⟩))
  (fun _ s' ⟨⟨h',e1,a,b⟩,dk⟩=>by subst e1; exact hQ h' a b dk) fun _ _ x=>x.1
end
def uI (P:Program)(w:World)(c:Bool):CXT:=fun outer H s E e s' =>
 ∃ (x:Addr) (cls a0:Value) (dx:Option Addr) (H':Hp) (B:Heap),e=.ref x/\s'.os=s.os/\AllBare s'.gens/\Un (frs outer) [] H H' s.heap s'.heap/\HOk P w H' s'.heap/\Heap.FlyingW B outer x cls a0 s'.heap /\
  (∀ b u,H' b=some u->∃ o,B.get? b=some o)/\(∀ b o,s.heap.get? b=some o->H b=none->b ∉ frs outer->B.get? b=some o)/\(∀ b o,s.heap.get? b=some o->b ∉ frs outer->∃ o',B.get? b=some o')/\(∃ oe,s'.heap.get? x=some oe/\oe.dict=dx/\(c=true->∃ vs,oe.data=.fields vs/\vs[2]?=some .none))/\E cls dx H'
abbrev CXF (P:Program)(w:World):CXT:=uI P w true
theorem zH {P:Program}{w:World}{c:Bool}{outer:List Env}{H:Hp}{s s':Shared}{E:XK}{e:Value}(h:uI P w c outer H s E e s'):uI P w false outer H s E e s':=by
 obtain ⟨x,cls,a0,dx,H',B,rfl,os,bare,un,hok,fl,cT,cO,cA,⟨oe,hoe,hdx,_⟩,hE⟩:=h
 exact ⟨x,cls,a0,dx,H',B,rfl,os,bare,un,hok,fl,cT,cO,cA,⟨oe,hoe,hdx,fun z=>nomatch z⟩,hE⟩
theorem BD5 {P:Program}{w:World}{outer:List Env}{H H':Hp}{h0 g h2 B:Heap}(un:Un (frs outer) [] H H' h0 g)(hok:HOk P w H' g)(sg:B.StaysIn g)(fr:g.FunFrames B outer)(cT:∀ b u,H' b=some u->∃ o,B.get? b=some o)(cO:∀ b o,h0.get? b=some o->H b=none->b ∉ frs outer->B.get? b=some o)(cA:∀ b o,h0.get? b=some o->b ∉ frs outer->∃ o',B.get? b=some o')(sh:B.StaysIn h2)(up:g.UpToSlots h2):Un (frs outer) [] H H' h0 h2/\HOk P w H' h2:=by
 have nf:∀ b∈frs outer,∀ o,g.get? b=some o->∀ vs,o.data≠.fields vs:=fun b hb o ho vs hd=>by
  obtain ⟨_,o',ho',hn⟩:=fr.mem hb
  rw [ho] at ho'
  cases ho'
  exact hn vs hd
 refine ⟨⟨fun b o q n hb _=>sh b o (cO b o q n hb),fun b o q n hb hx=>?_,un.free,fun b o q hx=>?_,un.tups,un.frzs,un.tbls⟩,fun b u e=>?_⟩
 ·obtain ⟨sl,e1⟩:=un.slot b o q n hb hx
  obtain ⟨sl2,e2⟩:=up b _ e1 (nf b hb _ e1)
  exact ⟨sl2,e2⟩
 ·by_cases hb:b∈frs outer
  ·obtain ⟨o',e1⟩:=un.there b o q hx
   obtain ⟨sl2,e2⟩:=up b _ e1 (nf b hb _ e1)
   exact ⟨_,e2⟩
  ·obtain ⟨o',e1⟩:=cA b o q hb
   exact ⟨o',sh _ _ e1⟩
 ·refine (hok b u e).stay (fun c v hc r=>?_) (fun _ q=>q) fun _ _ q=>q
  have tr:∃ u',H' c=some u':=by
   rcases hc with rfl | hc
   ·exact ⟨_,e⟩
   ·exact ⟨_,hc⟩
  obtain ⟨u',hu⟩:=tr
  obtain ⟨o',e1⟩:=cT c u' hu
  have e2:=sg _ _ e1
  rw [r] at e2
  cases e2
  exact sh _ _ e1
section
variable {X:Cx}{pins:List (Addr × Obj)}{σ:L2.St}{H H':Hp}{s:Shared}{h2 B:Heap}
theorem AT4 (I:Inv X pins σ H s)(hex:X.ex=[])(un:Un (frs X.stack) [] H H' s.heap h2)(cO:∀ b o,s.heap.get? b=some o->H b=none->b ∉ frs X.stack->B.get? b=some o)(cA:∀ b o,s.heap.get? b=some o->b ∉ frs X.stack->∃ o',B.get? b=some o') :
  Un (frs X.outer) [] X.H₀ H' X.s₀.heap h2/\(∀ b o,X.s₀.heap.get? b=some o->X.H₀ b=none->b ∉ frs X.outer->B.get? b=some o)/\∀ b o,X.s₀.heap.get? b=some o->b ∉ frs X.outer->∃ o',B.get? b=some o':=by
 have nx:∀ b:Addr,b ∉ X.ex:=fun b z=>by rw [hex] at z; cases z
 have nl:∀ b o,X.s₀.heap.get? b=some o->b ∉ frs X.outer->b ∉ frs X.stack:=fun b o q hb z=>by
  rcases List.mem_cons.mp (I.stkSub b z) with e | e
  ·exact absurd (Nat.lt_of_lt_of_le (Heap.lt_size q) I.ok.above) (by rw [e]; exact Nat.lt_irrefl _)
  ·exact hb e
 have ne:∀ b:Addr,b ∉ ([]:List Addr):=fun b=>by simp
 refine ⟨⟨fun b o q n hb _=>?_,fun b o q n hb _=>?_,fun b o q n _=>?_,fun b o q _=>?_,fun b xs q=>un.tups b xs (I.base.tups b xs q),fun b o u q=>un.frzs b o u (I.base.frzs b o u q),fun b ps q=>?_⟩,fun b o q n hb=>?_,fun b o q hb=>?_⟩
 ·exact un.keep b o (I.base.keep b o q n hb (nx b)) (I.base.free b o q n (nx b)) (nl b o q hb) (ne b)
 ·obtain ⟨sl,e1⟩:=I.base.slot b o q n hb (nx b)
  obtain ⟨sl2,e2⟩:=un.any e1 (I.base.free b o q n (nx b)) (ne b)
  exact ⟨sl2,e2⟩
 ·obtain ⟨o',e1⟩:=I.base.there b o q (nx b)
  exact un.free b o' e1 (I.base.free b o q n (nx b)) (ne b)
 ·obtain ⟨o',e1⟩:=I.base.there b o q (nx b)
  exact un.there b o' e1 (ne b)
 ·obtain ⟨m1,e1⟩:=I.base.tbls b ps q
  obtain ⟨m2,e2⟩:=un.tbls b _ e1
  exact ⟨m1++m2,by rw [e2,Array.append_assoc]⟩
 ·exact cO b o (I.base.keep b o q n hb (nx b)) (I.base.free b o q n (nx b)) (nl b o q hb)
 ·obtain ⟨o',e1⟩:=I.base.there b o q (nx b)
  exact cA b o' e1 (nl b o q hb)
theorem kS {c:Bool}{s':Shared}{e:Addr}{oe:Obj}{vs:Array Value}{a0:Value}{E:XK}{F:Value->Shared->Prop}(I:Inv X pins σ H s)(hst:X.stack=X.env::X.outer)(hf:X.env.frame=some X.env.locals)(hex:X.ex=[])(os:s'.os=s.os)(bare:AllBare s'.gens)(un:Un (frs X.stack) [] H H' s.heap s'.heap)(hok:HOk X.prog X.w H' s'.heap)(fe:s.heap.get? e=none)(nH:H' e=none)(he:s'.heap.get? e=some oe)(hd:oe.data=.fields vs)(h1:vs[1]?=some .none)(h0:vs[0]?=some a0)(hch:c=true->vs[2]?=some .none)(hE:E oe.cls oe.dict H') :
  wpAny (model X.prog X.w) X.A (leaving X.env (.ref e)) (fun _ s''=>uI X.prog X.w c X.outer X.H₀ X.s₀ E (.ref e) s'') F s':=by
 have I3:Inv X pins σ H' s':=I.call' (ch:=[]) os un hok bare (fun b z=>absurd z (by simp))
 have hin:∀ env∈X.stack,∀ a,env.frame=some a->a∈e::frs X.stack:=fun env he a ha=>List.mem_cons_of_mem _ (List.mem_filterMap.mpr ⟨env,he,ha⟩)
 have hl:s'.heap.FunFrames (hideAll s'.heap (e::frs X.stack)) X.stack:=funFrames_hide I3.stack hin
 have hkb:(hideAll s'.heap (e::frs X.stack)).StaysIn s'.heap:=fun b o q=>of_hideAll _ q
 have hen:(hideAll s'.heap (e::frs X.stack)).get? e=none:=hideAll_none _ (List.mem_cons_self ..)
 have nb:∀ b o,s.heap.get? b=some o->b≠e:=fun b o q z=>by rw [z,fe] at q; cases q
 refine sM (base:=hideAll s'.heap (e::frs X.stack)) (outer:=X.outer) (L:=X.env.locals) (by rw [<- hst]; exact I.ok.frames) (by rw [<- hst]; exact hl) hf he hkb hen hd h1 h0 fun h2 fl up dk=>?_
 have cT:∀ b u,H' b=some u->∃ o,(hideAll s'.heap (e::frs X.stack)).get? b=some o:=fun b u q=>by
  obtain ⟨o,ho⟩:=zG (hok b u q)
  refine ⟨o,hideAll_get _ ho fun z=>?_⟩
  rcases List.mem_cons.mp z with y | y
  ·rw [y,nH] at q; cases q
  ·rw [I3.stkFree b y] at q; cases q
 have cO:∀ b o,s.heap.get? b=some o->H b=none->b ∉ frs X.stack->(hideAll s'.heap (e::frs X.stack)).get? b=some o:=fun b o q n hb =>
  hideAll_get _ (un.keep b o q n hb (by simp)) fun z=>(List.mem_cons.mp z).elim (nb b o q) hb
 have cA:∀ b o,s.heap.get? b=some o->b ∉ frs X.stack->∃ o',(hideAll s'.heap (e::frs X.stack)).get? b=some o':=fun b o q hb=>by
  obtain ⟨o',q'⟩:=un.there b o q (by simp)
  exact ⟨o',hideAll_get _ q' fun z=>(List.mem_cons.mp z).elim (nb b o q) hb⟩
 obtain ⟨un1,hok1⟩:=BD5 (P:=X.prog) (w:=X.w) (H:=H) (H':=H') (h0:=s.heap) (g:=s'.heap) un hok hkb hl cT cO cA fl.1 up
 obtain ⟨un2,cO2,cA2⟩:=AT4 I hex un1 cO cA
 obtain ⟨oe',he',hd',c2⟩:=dk e oe he
 exact ⟨e,oe.cls,a0,oe.dict,H',_,rfl,os.trans I.os,bare,un2,hok1,fl,cT,cO2,cA2,⟨oe',he',hd',fun z=>by obtain ⟨vs',q1,q2⟩:=c2 vs hd; exact ⟨vs',q1,q2.trans (hch z)⟩⟩,hE⟩
theorem AB8 {c:Bool}{h':Heap}{e:Addr}{cls:Value}{args:List Value}{E:XK}{F:Value->Shared->Prop}(I:Inv X pins σ H s)(hst:X.stack=X.env::X.outer)(hf:X.env.frame=some X.env.locals)(hex:X.ex=[])(hx:Heap.MadeExcOf s.heap h' e cls args)(hE:E cls none H) :
  wpAny (model X.prog X.w) X.A (leaving X.env (.ref e)) (fun _ s''=>uI X.prog X.w c X.outer X.H₀ X.s₀ E (.ref e) s'') F { s with heap:=h' }:=by
 obtain ⟨t,he,_,_⟩:=hx.there
 have nH:H e=none:=by
  cases z:H e with
  | none=>rfl
  | some u =>
   obtain ⟨o,ho⟩:=zG (I.hok e u z)
   rw [hx.new] at ho
   cases ho
 have hok:HOk X.prog X.w H h':=fun b u q=>(I.hok b u q).stay (fun c v _ r=>hx.keeps _ _ r) (fun _ q=>q) fun _ _ q=>q
 exact kS (s':={ s with heap:=h' }) I hst hf hex rfl I.bare ⟨fun b o q _ _ _=>hx.keeps _ _ q,fun b o q _ _ _=>⟨o.slots,hx.keeps _ _ q⟩,fun _ _ _ n _=>n,fun b o q _=>⟨o,hx.keeps _ _ q⟩,fun _ _ q=>q,fun _ _ _ q=>q,fun b ps q=>⟨#[],by rw [Array.append_empty]; exact q⟩⟩ hok hx.new nH he rfl rfl rfl (fun _=>rfl) hE
theorem mU {c:Bool}{s':Shared}{e:Value}{E:XK}{F:Value->Shared->Prop}(I:Inv X pins σ H s)(hst:X.stack=X.env::X.outer)(hf:X.env.frame=some X.env.locals)(hex:X.ex=[])(hx:uI X.prog X.w c X.stack H s E e s') :
  wpAny (model X.prog X.w) X.A (leaving X.env e) (fun _ s''=>uI X.prog X.w c X.outer X.H₀ X.s₀ E e s'') F s':=by
 obtain ⟨x,cls,a0,dx,H',B,rfl,os,bare,un,hok,fl,cT,cO,cA,⟨oe,hoe,hdx⟩,hE⟩:=hx
 have fl':=fl
 rw [hst] at fl'
 refine AB7 (base:=B) (outer:=X.outer) (by rw [<- hst]; exact I.ok.frames) hf fl' fun h2 fl2 up dk=>?_
 obtain ⟨un1,hok1⟩:=BD5 (P:=X.prog) (w:=X.w) un hok fl.1 fl.2.2.1 cT cO cA fl2.1 up
 obtain ⟨un2,cO2,cA2⟩:=AT4 I hex un1 cO cA
 obtain ⟨oe2,hoe2,hd2,c2⟩:=dk x oe hoe
 exact ⟨x,cls,a0,dx,H',B,rfl,os.trans I.os,bare,un2,hok1,fl2,cT,cO2,cA2,⟨oe2,hoe2,hd2.trans hdx.1,fun z=>by obtain ⟨vs,q1,q2⟩:=hdx.2 z; obtain ⟨vs',q3,q4⟩:=c2 vs q1; exact ⟨vs',q3,q4.trans q2⟩⟩,hE⟩
end
abbrev rO (c:Bool)(P:Program)(w:World)(K:Frag)(mg:Str->Option Value)(base:Heap)(N:List Str)(qual:Str)(sc:Scope)(f:Addr)(cdv:Value)(A:Around)(outer:List Env)(s:Shared)(H:Hp)(E:XK):Cx :=
 AF2 (uI P w c) P w K mg base N qual sc f cdv A outer s H E
abbrev cxX (P:Program)(w:World)(K:Frag)(mg:Str->Option Value)(base:Heap)(N:List Str)(qual:Str)(sc:Scope)(f:Addr)(cdv:Value)(A:Around)(outer:List Env)(s:Shared)(H:Hp)(E:XK):Cx :=
 AF2 (CXF P w) P w K mg base N qual sc f cdv A outer s H E
section
variable {P:Program}{w:World}{K:Frag}{mg:Str->Option Value}{base:Heap}{N:List Str}{qual:Str}{sc:Scope}{f:Addr}{cdv:Value}{A:Around}{outer:List Env}{s:Shared}{H:Hp}{E:XK}
theorem BG6 {c:Bool}:kK (uI P w c) (rO c P w K mg base N qual sc f cdv A outer s H E) E:=fun pins σ H1 s1 e s' I hx=>mU I rfl rfl rfl hx
theorem AT5:kK (CXF P w) (rO false P w K mg base N qual sc f cdv A outer s H E) E:=fun pins σ H1 s1 e s' I hx=>mU I rfl rfl rfl (zH hx)
theorem kH:kK (CXF P w) (cxX P w K mg base N qual sc f cdv A outer s H E) E:=fun pins σ H1 s1 e s' I hx=>mU I rfl rfl rfl hx
theorem AT6 {pins:List (Addr × Obj)}{σ:L2.St}{H1:Hp}{s1:Shared}{h':Heap}{e:Addr}{cls:Value}{args:List Value}(I:Inv (cxX P w K mg base N qual sc f cdv A outer s H E) pins σ H1 s1)(hx:Heap.MadeExcOf s1.heap h' e cls args)(hE:E cls none H1):(cxX P w K mg base N qual sc f cdv A outer s H E).xe (.ref e) { s1 with heap:=h' }:=AB8 I rfl rfl rfl hx hE
theorem zI {X:Cx}{c:Bool}:kK (uI P w c) X E0:=fun pins σ H1 s1 e s' I hx=>by
 obtain ⟨_,_,_,_,_,_,_,_,_,_,_,_,_,_,_,_,hE⟩:=hx
 exact hE.elim
theorem FnOk.up {k:Nat}{fd:FuncData}{ps:List Str}{sp:Sp}{CX:CXT}(F:FnOk P w K mg base CX0 k f fd ps sp):FnOk P w K mg base CX k f fd ps sp :=
 ⟨F.len,fun A outer s H args us vs Q E hr he hb hv hs=>codeAny_mono (F.run A outer s H args us vs Q E hr he hb hv hs) fun r s' q=>by
  cases r with
  | ok fl=>cases fl <;> exact q
  | error e=>exact (show False from q).elim⟩
theorem Fun.okW {x qual:Str}{st:Stmt}{fd:FuncData}{ps:List Str}{k:Nat}{sp:Sp}(F:Fun K x qual st f fd)(S:FnScope N ps (aF st))(len:∀ vs H Q E,sp vs H Q E->vs.length=ps.length)(hbody:∀ (cdv:Value) (A:Around) (outer:List Env) (s:Shared) (H:Hp) (vs:List V) (Q:VK) (E:XK),Room k (A.deeper (envOfC qual (aF st) s.heap.objs.size f cdv))->sp vs H Q E ->
   ∃ t,PSs (rO false P w K mg base N qual (aF st) f cdv A outer s H E) (aV st) t/\t { nx:=fun _ H'=>Q .non H',rt:=Q } (L2.start N vs) H):FnOk P w K mg base (uI P w false) (k+1) f fd ps sp:=by
 obtain ⟨oc,od,kV,doc,pm,an,cdv,ct,osl,rfl,lk,hcd⟩:=F.ex
 exact AO4 lk hcd S len fun A outer s H vs Q E hr hsp=>hbody cdv A outer s H vs Q E hr hsp
theorem Fun.okX {x qual:Str}{st:Stmt}{fd:FuncData}{ps:List Str}{k:Nat}{sp:Sp}(F:Fun K x qual st f fd)(S:FnScope N ps (aF st))(len:∀ vs H Q E,sp vs H Q E->vs.length=ps.length)(hbody:∀ (cdv:Value) (A:Around) (outer:List Env) (s:Shared) (H:Hp) (vs:List V) (Q:VK) (E:XK),Room k (A.deeper (envOfC qual (aF st) s.heap.objs.size f cdv))->sp vs H Q E ->
   ∃ t,PSs (cxX P w K mg base N qual (aF st) f cdv A outer s H E) (aV st) t/\t { nx:=fun _ H'=>Q .non H',rt:=Q } (L2.start N vs) H):FnOk P w K mg base (CXF P w) (k+1) f fd ps sp:=by
 obtain ⟨oc,od,kV,doc,pm,an,cdv,ct,osl,rfl,lk,hcd⟩:=F.ex
 exact AO4 lk hcd S len fun A outer s H vs Q E hr hsp=>hbody cdv A outer s H vs Q E hr hsp
end
theorem wW {K:Frag}{h:Heap}{C:Addr}{bmB:List Value}{nw:String}(Z:K.In h)(q:excIn K C bmB nw=true) :
  ∃ bm N nm qn bs hd sn sub ab col dd k0 k1 k2 k3 k5 mN,h.get? C=some (excClassObj nm qn C N bs bm hd sn sub ab col dd k0 k1 k2 k3 k5 nw)/\h.Ns N mN/\mN "__init__"=none/\OwnTail h bmB bm:=by
 unfold excIn at q
 split at q
 ·rename_i dd cd sl lk
  split at q
  ·rename_i C' bm k0 k1 k2 k3 n k5 hm hs
   simp only [Bool.and_eq_true,beq_iff_eq,Bool.not_eq_true'] at q
   obtain ⟨⟨⟨⟨⟨z1,z2⟩,z3⟩,z4⟩,z5⟩,z6⟩:=q
   subst z1 z2
   obtain ⟨nm,bs,mro,ns,qn,hd,sn,sub,ab,col,del⟩:=cd
   dsimp only at hm z3 z5 z6
   subst hm z3
   obtain ⟨l⟩:=sl
   dsimp only at hs
   subst hs
   exact ⟨bm,ns,nm,qn,bs,hd,sn,sub,ab,col,dd,k0,k1,k2,k3,k5,h.nsMap ns,Z _ _ lk,.of_isNs (isNs_of_in Z z5),nsMap_none_of_in Z z5 z6,tail_of_in Z z4⟩
  ·exact absurd q Bool.false_ne_true
 ·exact absurd q Bool.false_ne_true
def AT7 (R:Hp->Prop):TS:=fun _ _ H=>R H
theorem zJ {X:Cx}{x:Str}{C:Addr}{m:Str}{j:Nat}{np ap cpos pos:Pos}{R:Hp->Prop}(hc:X.calm=true)(hg:Gl X x)(hm:X.mg x=some (.ref C))(q:excIn X.K C vbm "ValueError.__new__"=true)(hxe:∀ pins σ H s h' e args,Inv X pins σ H s->Heap.MadeExcOf s.heap h' e (.ref C) args->R H->X.xe (.ref e) { s with heap:=h' })(hd:(x == ("__debug__":Str))=false:=by decide) :
  PS X (.Raise (some (.Call (.Name x np) [.Constant (.str m) j ap] [] cpos)) none pos) (AT7 R):=by
 intro pins s σ H D I h
 obtain ⟨bm,N,nm,qn,bs,hd',sn,sub,ab,col,dd,k0,k1,k2,k3,k5,mN,hC,hN,hni,T⟩:=wW I.kIn q
 refine wpAny_Raise_call_subT (C:=C) (nm:=nm) (q:=qn) (N:=N) (bs:=bs) (bm:=bm) (hdct:=hd') (sn:=sn) (sub:=sub) (ab:=ab) (col:=col) (dd:=dd) (k0:=k0) (k1:=k1) (k2:=k2) (k3:=k3) (k5:=k5) PySem.F.excBase_ValueError (mN:=mN) (T.hasType PySem.F.excBase_ValueError.hasBase) (I.ok.hd hc) rfl hni (iD I hg hm ⟨rfl,?_⟩ hd)
 refine Calls.evalArgs_plain (Calls.spliced_cons (Calls.Constant_str (k:=j) (pos:=ap) (Calls.spliced_nil ?_)))
 exact ⟨rfl,sz8 (show 1<=1000 by decide),hC,hN,T,fun h' e hm=>hxe pins σ H _ h' e _ (I.tok _) hm h⟩
section
variable {X:Cx}{pins:List (Addr × Obj)}{σ:L2.St}{H H':Hp}{s:Shared}
abbrev cxE (X:Cx)(v:Value):Cx:={ X with A:=X.A.mark (some v),calm:=false }
theorem pA (I:Inv X pins σ H s)(v:Value):Inv (cxE X v) pins σ H s :=
 ⟨⟨I.ok.mod,I.ok.kind,I.ok.glob,I.ok.blt,I.ok.above,I.ok.inj,I.ok.has,I.ok.cab,(fun z=>nomatch z),I.ok.frames,I.ok.stk,I.ok.exf,I.ok.bs,I.ok.bsz,I.ok.noex,I.ok.exfs,I.ok.funs,I.ok.frf⟩,I.os,I.bare,I.base,I.loc,I.cell,I.free,I.freeC,I.pin,I.hok,I.len⟩
theorem kA {v:Value}(ok:X.Ok)(I:Inv (cxE X v) pins σ H s):Inv X pins σ H s :=
 ⟨ok,I.os,I.bare,I.base,I.loc,I.cell,I.free,I.freeC,I.pin,I.hok,I.len⟩
theorem BK8 {M:Model}{A:Around}{E:Value->Shared->Prop}{n:Str}{i:Nat}{pos:Pos}{Q:Unit->Shared->Prop}(I:Inv X pins σ H s)(hN:X.N.Nodup)(hi:X.N[i]?=some n)(hl:X.env.kindOf n=some .local)(h:∀ s',Inv X pins (σ.set i none) H s'->Q () s'):wpAny M A (do bindName X.env n .none; unbindBehindTheSuite X.env n pos) Q E s:=by
 obtain ⟨m,hn,hl'⟩:=id I.loc
 have hiσ:i < σ.length:=by rw [I.len]; exact (List.getElem?_eq_some_iff.mp hi).1
 refine wpAny_nameGoes_keeps hl hn (by rw [I.ok.kind]; rfl) fun h' v hn' hs=>h _ ?_
 have ltL:∀ b o,X.s₀.heap.get? b=some o->b≠X.env.locals:=fun b o e=>Nat.ne_of_lt (Nat.lt_of_lt_of_le (Heap.lt_size e) I.ok.above)
 have hok:HOk X.prog X.w H h':=fun b ob e=>by
  refine (I.hok b ob e).stay (fun c w' hc q=>(hs.2 c ?_).trans q) (fun _ q=>q) fun _ _ q=>q
  intro z
  rcases hc with y | y
  ·rw [<- y,z,I.free] at e; cases e
  ·rw [z,I.free] at y; cases y
 refine ⟨I.ok,I.os,I.bare,⟨fun b o e k hb hx=>?_,fun b o e k hb hx=>?_,I.base.free,fun b o e hx=>?_,I.base.tups,I.base.frzs,I.base.tbls⟩,⟨_,hn',fun j y v' e1 e2 e3=>?_⟩,fun y c e=>?_,I.free,I.freeC,fun p hp=>?_,hok,?_⟩
 ·exact (hs.2 b (ltL b o e)).trans (I.base.keep b o e k hb hx)
 ·obtain ⟨sl,q⟩:=I.base.slot b o e k hb hx
  exact ⟨sl,(hs.2 b (ltL b o e)).trans q⟩
 ·obtain ⟨o',q⟩:=I.base.there b o e hx
  exact ⟨o',(hs.2 b (ltL b o e)).trans q⟩
 ·by_cases hj:j=i
  ·rw [hj,List.getElem?_set_self hiσ] at e2
   cases e2
  ·rw [List.getElem?_set_ne (Ne.symm hj)] at e2
   obtain ⟨u,r,q⟩:=hl' j y v' e1 e2 e3
   refine ⟨u,r,?_⟩
   rcases q with ⟨k,e⟩ | ⟨k,c,e,z⟩
   ·have ny:y≠n:=fun z=>hj (sE hN e1 (z ▸ hi))
    exact .inl ⟨k,by show (if y=n then v else m y)=some u; rw [if_neg ny]; exact e⟩
   ·exact .inr ⟨k,c,e,z.sameBut hs (I.cne y c e)⟩
 ·obtain ⟨w',z⟩:=I.cell y c e
  exact ⟨w',z.sameBut hs (I.cne y c e)⟩
 ·obtain ⟨e,k,ne,nf,d⟩:=I.pin p hp
  exact ⟨(hs.2 p.1 ne).trans e,k,ne,nf,d⟩
 ·rw [List.length_set]; exact I.len
def AO7 (x:Addr)(cls:Value)(h:Heap):Prop:=∃ ob,h.get? x=some ob/\ob.cls=cls
def excAtD (x:Addr)(cls:Value)(dx:Option Addr)(h:Heap):Prop:=∃ ob,h.get? x=some ob/\ob.cls=cls/\ob.dict=dx/\∃ vs,ob.data=.fields vs
def hU (x:Addr)(cls:Value)(dx:Option Addr):HO:=.ext (excAtD x cls dx)
def BS9 (K:Frag)(CB:Addr)(i:Nat)(sp:Sp)(t:TA)(ts:TS):TS:=fun D σ H=>t σ H fun vs H1=>sp vs H1 (fun _ H2=>D.nx σ H2) fun cls dx H2=>exmOne K cls (.ref CB)=some true /\
 ∀ x,H2 x=none->ts { nx:=fun σ' H3=>D.nx (σ'.set i none) H3,rt:=D.rt,bk:=fun σ' H3=>D.bk (σ'.set i none) H3,ct:=fun σ' H3=>D.ct (σ'.set i none) H3 } (σ.set i (some (.ref x))) (L2.upd H2 x (hU x cls dx))
end
end Bw
set_option maxHeartbeats 400000
namespace Bw
open PySem PySem.Spec PyProof.Rows L2 PySem.W
section
variable {prog:Program}{w:World}{A:Around}{E:Value->Shared->Prop}{K:Frag}{h:Heap}{g:Array GenState}{d:Drawn}{t:Nat}{os:OsState}{x C:Addr}
structure ExcK (K:Frag) (C:Addr):Prop where
 ga:findIn K (.ref C) "__getattribute__"=some (some (.builtin "BaseException.__getattribute__"))
 gt:findIn K (.ref C) "__getattr__"=some none
 cl:findIn K (.ref C) "__class__"=some (some (.builtin "object.__class__"))
 mB:mroIn K C (.type "BaseException")=some true
 mO:mroIn K C (.type "object")=some true
 cls:(clsIn K C).isSome=true
theorem excAtD.at {cls:Value}{dx:Option Addr}(p:excAtD x cls dx h):AO7 x cls h:=let ⟨ob,a,b,_⟩:=p; ⟨ob,a,b⟩
theorem BG7 {cls:Value}(p:AO7 x cls h)(M:Model):Looks M h (typeOf (.ref x)) cls:=by
 obtain ⟨ob,h1,h2⟩:=p
 exact h2 ▸ (Looks.ld h1).andThen .now
theorem AY7 {M:Model}(Z:K.In h)(F:ExcK K C)(p:AO7 x (.ref C) h):Looks M h (isInstance (.ref x) (.type "BaseException")) true:=(BG7 p M).andThen (looks_mroIn Z F.mB)
theorem AY8:builtinKind "BaseException.__getattribute__"=some .slot:=by decide +kernel
theorem AO8:splitId "BaseException.__getattribute__"=some ("BaseException","__getattribute__"):=by decide +kernel
theorem AH7 {M:Model}{nameV:Value}{Q:Unit->Shared->Prop}(Z:K.In h)(F:ExcK K C)(p:AO7 x (.ref C) h)(hq:Q () ⟨h,g,d,t,os⟩) :
  wpAny M A (checkBuiltinCall "BaseException.__getattribute__" ⟨[.ref x,nameV],[]⟩) Q E ⟨h,g,d,t,os⟩:=by
 have ha:=PySem.F.args_bexc_ga (.ref x) nameV
 simp only [checkBuiltinCall,AY8,AO8]
 refine wpAny_bind ((AY7 (M:=M) Z F p).here (s:=⟨h,g,d,t,os⟩) ?_)
 repeat wp_step
 exact hq
end
section
variable {X:Cx}
end
structure CalX (P:Program) (w:World) (K:Frag) (mg:Str->Option Value) (base:Heap) (x:Str) (ps:List Str) (k:Nat) (sp:Sp):Prop where
 ex:∃ f fd,FnOk P w K mg base (CXF P w) k f fd ps sp/\Binds K fd ps []/\keepIn K (.ref f)=true/\mg x=some (.ref f)
theorem aZ {X:Cx}{x:Str}{ps:List Str}{k:Nat}{sp:Sp}{e:Expr}{es:List Expr}{t:TA}{p pos:Pos}(C:CalX X.prog X.w X.K X.mg X.base x ps k sp)(hr:Room k X.A)(hg:Gl X x)(ha:PA X (e::es) t)(hdb:(x == ("__debug__":Str))=false:=by decide)(he:starEach (e::es) X.env=(false,eval e X.env)::starEach es X.env:=by rfl)(hpl:(backTo pos (starEach es X.env)).any (·.1)=false:=by rfl) :
  PE X (.Call (.Name x p) (e::es) [] pos) (AF1 sp [] E0 t):=by
 obtain ⟨f,fd,F,b,kp,m⟩:=C.ex
 exact wM F hr hg m kp b .nil zI ha hdb he hpl
theorem jB {P:Program}{w:World}{K:Frag}{mg:Str->Option Value}{base:Heap}{N:List Str}{qual:Str}{sc:Scope}{f:Addr}{cdv:Value}{A:Around}{outer:List Env}{s:Shared}{H:Hp}{E:XK}{x:Str}{ps:List Str}{k:Nat}{sp:Sp}{e:Expr}{es:List Expr}{t:TA}{p pos:Pos}(C:CalX P w K mg base x ps k sp)(hr:Room k (cxX P w K mg base N qual sc f cdv A outer s H E).A)(hg:Gl (cxX P w K mg base N qual sc f cdv A outer s H E) x)(ha:PA (cxX P w K mg base N qual sc f cdv A outer s H E) (e::es) t)(hdb:(x == ("__debug__":Str))=false:=by decide)(he:starEach (e::es) (cxX P w K mg base N qual sc f cdv A outer s H E).env=(false,eval e (cxX P w K mg base N qual sc f cdv A outer s H E).env)::starEach es (cxX P w K mg base N qual sc f cdv A outer s H E).env:=by rfl)(hpl:(backTo pos (starEach es (cxX P w K mg base N qual sc f cdv A outer s H E).env)).any (·.1)=false:=by rfl) :
  PE (cxX P w K mg base N qual sc f cdv A outer s H E) (.Call (.Name x p) (e::es) [] pos) (AF1 sp [] E t):=by
 obtain ⟨f',fd,F,b,kp,m⟩:=C.ex
 exact wM F hr hg m kp b .nil kH ha hdb he hpl
structure CalW (P:Program) (w:World) (K:Frag) (mg:Str->Option Value) (base:Heap) (x:Str) (ps:List Str) (k:Nat) (sp:Sp):Prop where
 ex:∃ f fd,FnOk P w K mg base (uI P w false) k f fd ps sp/\Binds K fd ps []/\keepIn K (.ref f)=true/\mg x=some (.ref f)
theorem AY9 {P:Program}{w:World}{K:Frag}{mg:Str->Option Value}{base:Heap}{N:List Str}{qual:Str}{sc:Scope}{f:Addr}{cdv:Value}{A:Around}{outer:List Env}{s:Shared}{H:Hp}{E:XK}{x:Str}{ps:List Str}{k:Nat}{sp:Sp}{e:Expr}{es:List Expr}{t:TA}{p pos:Pos}(C:CalW P w K mg base x ps k sp)(hr:Room k (rO false P w K mg base N qual sc f cdv A outer s H E).A)(hg:Gl (rO false P w K mg base N qual sc f cdv A outer s H E) x)(ha:PA (rO false P w K mg base N qual sc f cdv A outer s H E) (e::es) t)(hdb:(x == ("__debug__":Str))=false:=by decide)(he:starEach (e::es) (rO false P w K mg base N qual sc f cdv A outer s H E).env=(false,eval e (rO false P w K mg base N qual sc f cdv A outer s H E).env)::starEach es (rO false P w K mg base N qual sc f cdv A outer s H E).env:=by rfl)(hpl:(backTo pos (starEach es (rO false P w K mg base N qual sc f cdv A outer s H E).env)).any (·.1)=false:=by rfl) :
  PE (rO false P w K mg base N qual sc f cdv A outer s H E) (.Call (.Name x p) (e::es) [] pos) (AF1 sp [] E t):=by
 obtain ⟨f',fd,F,b,kp,m⟩:=C.ex
 exact wM F hr hg m kp b .nil BG6 ha hdb he hpl
theorem wX {R:Hp->Prop}{D:Ends}{σ:L2.St}{H:Hp}:AT7 R D σ H=R H:=rfl
theorem AZ0 {K:Frag}{CB:Addr}{i:Nat}{sp:Sp}{t:TA}{ts:TS}{D:Ends}{σ:L2.St}{H:Hp}:BS9 K CB i sp t ts D σ H=t σ H (fun vs H1=>sp vs H1 (fun _ H2=>D.nx σ H2) fun cls dx H2=>exmOne K cls (.ref CB)=some true /\
 ∀ x,H2 x=none->ts { nx:=fun σ' H3=>D.nx (σ'.set i none) H3,rt:=D.rt,bk:=fun σ' H3=>D.bk (σ'.set i none) H3,ct:=fun σ' H3=>D.ct (σ'.set i none) H3 } (σ.set i (some (.ref x))) (L2.upd H2 x (hU x cls dx))):=rfl
theorem BO2 {K:Frag}{P:Program}{w:World}{mg:Str->Option Value}{base:Heap}{N:List Str}{qual:Str}{sc:Scope}{f:Addr}{cd:Value}{A:Around}{outer:List Env}{s:Shared}{H:Hp}{E:XK}:(cxX P w K mg base N qual sc f cd A outer s H E).K=K:=rfl
theorem BO3 {K:Frag}{P:Program}{w:World}{mg:Str->Option Value}{base:Heap}{N:List Str}{qual:Str}{sc:Scope}{f:Addr}{cd:Value}{A:Around}{outer:List Env}{s:Shared}{H:Hp}{E:XK}{c:Bool}:(rO c P w K mg base N qual sc f cd A outer s H E).K=K:=rfl
theorem pM {xs:List V}{i:Int}(h0:0<=i)(h:i < xs.length):∃ z∈xs,atI xs i=some z:=by
 have hk:i.toNat < xs.length:=by omega
 have ek:i=((i.toNat:Nat):Int):=by omega
 refine ⟨xs[i.toNat],List.getElem_mem hk,?_⟩
 have q:atI xs ((i.toNat:Nat):Int)=some xs[i.toNat]:=iF (List.getElem?_eq_getElem hk)
 rwa [<- ek] at q
end Bw
set_option maxHeartbeats 1000000
namespace Bw
open PySem PySem.Spec PyProof.Rows L2 PySem.W
section
variable {X:Cx}
def BS1 (X:Cx)(pins:List (Addr × Obj))(σ:L2.St)(E:XK)(e:Value)(s':Shared):Prop:=∃ H1 s1,Inv X pins σ H1 s1/\uI X.prog X.w false X.stack H1 s1 E e s'
def PBE (X:Cx)(e:Expr)(t:XK->TE):Prop :=
 ∀ (pins:List (Addr × Obj)) (s:Shared) (σ:L2.St) (H:Hp) (Q:VK) (E:XK),Inv X pins σ H s->t E σ H Q->wpAny (model X.prog X.w) X.A (eval e X.env) (EP X pins σ Q) (BS1 X pins σ E) s
def PBS (X:Cx)(st:Stmt)(t:XK->TS):Prop :=
 ∀ (pins:List (Addr × Obj)) (s:Shared) (σ:L2.St) (H:Hp) (D:Ends) (E:XK),Inv X pins σ H s->t E D σ H->wpAny (model X.prog X.w) X.A (exec st X.env) (SP X pins D) (BS1 X pins σ E) s
def AH8 (sp:Sp)(dvs:List V)(t:TA):XK->TE:=fun E σ H Q=>t σ H fun vs H1=>sp (vs++dvs) H1 Q E
def BG8 (C:Addr)(sp:Sp)(dvs:List V)(t:TA):XK->TE:=fun E σ H Q=>t σ H fun vs H1=>∀ x dx,H1 x=none->H1 dx=none->dx≠x ->
 sp (.ref x::(vs++dvs)) (upd (upd H1 dx (.own x)) x (.ins C dx [])) (fun v H2=>v=.non/\Q (.ref x) H2) E
theorem AO9 {c:Bool}{x:Str}{k:Nat}{f:Addr}{fd:FuncData}{ps:List Str}{sp:Sp}{ds:List Value}{dvs:List V}{e:Expr}{es:List Expr}{t:TA}{p pos:Pos}(hnx:∀ v s,¬ X.xe v s)(F:FnOk X.prog X.w X.K X.mg X.base (uI X.prog X.w c) k f fd ps sp)(hr:Room k X.A)(hg:Gl X x)(hm:X.mg x=some (.ref f))(hk:keepIn X.K (.ref f)=true)(hb:Binds X.K fd ps ds)(hd:Vals dvs ds)(ha:PA X (e::es) t)(hdb:(x == ("__debug__":Str))=false:=by decide)(he:starEach (e::es) X.env=(false,eval e X.env)::starEach es X.env:=by rfl)(hpl:(backTo pos (starEach es X.env)).any (·.1)=false:=by rfl) :
  PBE X (.Call (.Name x p) (e::es) [] pos) (AH8 sp dvs t):=by
 intro pins s σ H Q E I h
 refine wpAny_Call_Name_kw (iD I hg hm ?_ hdb)
 refine callWith_K (h₀:=X.base) I.ok.mod.kin hk (wpAny_mono (ha pos pins s σ H _ I h) (fun us s1 q1=>?_) fun _ _ z=>(hnx _ _ z).elim) he hpl
 obtain ⟨vs,H1,I1,r,q⟩:=q1
 refine ⟨I1.kIn,?_⟩
 have r2:=r.append hd
 have hlen:(us++ds).length=ps.length:=by rw [<- r2.length]; exact F.len _ _ _ _ q
 refine wpAny_call (codeAny_mono (F.run X.A X.stack s1 H1 ⟨us,[]⟩ (us++ds) (vs++dvs) _ _ hr I1.env0 (hb s1 us I1.kIn hlen) r2 q) fun res s' hq=>?_)
 cases res with
 | ok fl =>
  cases fl with
  | ret u=>exact I1.after hq
  | next=>exact False.elim hq
  | brk=>exact False.elim hq
  | cont=>exact False.elim hq
 | error ev=>exact ⟨H1,s1,I1,zH hq⟩
theorem AZ1 {i:Nat}{x:Str}{e:Expr}{t:XK->TE}{pos pos':Pos}(hN:X.N.Nodup)(hi:X.N[i]?=some x)(hx:Loc X.env.scope x)(he:PBE X e t)(hs:swapsWith e (some (.Name x pos')) pos.line X.env=pure false:=by rfl)(hf:X.fn x=true\/X.env.scope.names.lookup x=some .local:=by first | exact .inl rfl | exact .inr rfl | assumption):PBS X (.Assign [.Name x pos'] e pos) (fun E=>AV7 (t E) (wL i)):=by
 intro pins s σ H D E I h
 refine wpAny_Assign_Name (thn (he pins s σ H _ E I h) fun v s1 ⟨y,H1,I1,r1,q1⟩=>?_) hs
 exact lK I1 hN hi hx r1 (fun s2 I2=>⟨_,H1,I2,q1⟩) hf
def BG9 (K:Frag)(CB:Addr)(i:Nat)(tb:XK->TS)(ts:TS):TS:=fun D σ H=>tb (fun cls dx H2=>exmOne K cls (.ref CB)=some true /\
 ∀ x,H2 x=none->ts { nx:=fun σ' H3=>D.nx (σ'.set i none) H3,rt:=D.rt,bk:=fun σ' H3=>D.bk (σ'.set i none) H3,ct:=fun σ' H3=>D.ct (σ'.set i none) H3 } (σ.set i (some (.ref x))) (L2.upd H2 x (hU x cls dx))) D σ H
theorem AZ2 {cn n:Str}{i:Nat}{CB:Addr}{st:Stmt}{tb:XK->TS}{b₀:Stmt}{suite:List Stmt}{ts:TS}{cp hpos tpos:Pos}(hst:X.stack=X.env::X.outer)(hf:X.env.frame=some X.env.locals)(hnx:∀ v s,¬ X.xe v s)(hb:PBS X st tb)(hgC:Gl X cn)(hmC:X.mg cn=some (.ref CB))(hN:X.N.Nodup)(hi:X.N[i]?=some n)(hl:X.env.scope.names.lookup n=some .local)(hs:∀ v:Value,PSs (cxE X v) (b₀::suite) ts)(hdc:(cn == ("__debug__":Str))=false:=by decide) :
  PS X (.Try [st] [.ExceptHandler (some (.Name cn cp)) (some n) (b₀::suite) hpos] [] [] tpos) (BG9 X.K CB i tb ts):=by
 intro pins s σ H D I h
 refine wpAny_Try_except (wpAny_execs_cons (wpAny_mono (hb pins s σ H _ _ I h) (fun fl s' q=>?_) fun ev s' hq=>?_))
 ·cases fl with
  | next=>exact wpAny_execs_nil (wpAny_execs_nil q)
  | brk=>exact q
  | cont=>exact q
  | ret u=>exact q
 obtain ⟨H1,s1,I1,hq1⟩:=hq
 obtain ⟨x',cls,a0,dx,H2,B,rfl,os,bare,un,hok,fl,cT,cO,cA,⟨oe0,hoe0,hdx0⟩,hm1,hE⟩:=hq1
 have fl':=fl
 rw [hst] at fl'
 refine vB (base:=B) (outer:=X.outer) (L:=X.env.locals) (by rw [<- hst]; exact I1.ok.frames) hf fl' fun h4 held4 up4 dk4=>?_
 refine AT3 held4 fun h5 fl5 up5 dk5=>?_
 rw [<- hst] at fl5
 obtain ⟨un5,hok5⟩:=BD5 (P:=X.prog) (w:=X.w) un hok fl.1 fl.2.2.1 cT cO cA fl5.1 (up4.trans up5)
 have I5:Inv X pins σ H2 { s' with heap:=h5 }:=I1.call' (s':={ s' with heap:=h5 }) (ch:=[]) os un5 hok5 bare (fun b z=>absurd z (by simp))
 have X5:=pA I5 (.ref x')
 have ty5:Looks (model X.prog X.w) h5 (typeOf (.ref x')) cls:=by
  obtain ⟨ob,hob,hc⟩:=fl5.there
  subst hc
  exact (Looks.ld hob).andThen .now
 refine wpAny_handleBy_cons (codeAny_handlers_test (iD X5 hgC hmC ((exm_one I5.kIn ty5 hm1).here ?_) hdc)) (by intro z; cases z)
 refine codeAny_handlers_suite_as ?_
 refine oB fl5 fun h6 fl6 up6 dk6=>?_
 obtain ⟨un6,hok6⟩:=BD5 (P:=X.prog) (w:=X.w) un5 hok5 fl5.1 fl5.2.2.1 cT cO cA fl6.1 up6
 obtain ⟨ob,vs6,hob,hcl,hdt6,_⟩:=fl6.first
 have hdx:ob.dict=dx:=by
  obtain ⟨o1,g1,d1,_⟩:=dk4 x' oe0 hoe0
  obtain ⟨o2,g2,d2,_⟩:=dk5 x' o1 g1
  obtain ⟨o3,g3,d3,_⟩:=dk6 x' o2 g2
  rw [hob] at g3
  cases g3
  rw [d3,d2,d1,hdx0.1]
 have nH:H2 x'=none:=by
  cases z:H2 x' with
  | none=>rfl
  | some u =>
   obtain ⟨o,ho⟩:=cT x' u z
   rw [fl.2.1] at ho
   cases ho
 have nS:∀ o,s1.heap.get? x'≠some o:=fun o ho=>by
  by_cases hx':x'∈frs X.stack
  ·obtain ⟨_,o',ho',hn'⟩:=fl6.2.2.1.mem hx'
   obtain ⟨oe,ws,hoe,_,hoed,_⟩:=fl6.first
   rw [hoe] at ho'
   cases ho'
   exact hn' _ hoed
  ·obtain ⟨o',ho'⟩:=cA x' o ho hx'
   rw [fl.2.1] at ho'
   cases ho'
 have hT:∀ b u,H2 b=some u->L2.upd H2 x' (hU x' cls dx) b=some u:=fun b u z=>by rw [aN (aP z nH)]; exact z
 have un7:Un (frs X.stack) [] H1 (L2.upd H2 x' (hU x' cls dx)) s1.heap h6 :=
  ⟨un6.keep,un6.slot,fun b o q n hx=>by
   have nb:b≠x':=fun z=>nS o (by rw [<- z]; exact q)
   rw [aN nb]
   exact un6.free b o q n hx,un6.there,fun b xs z=>hT _ _ (un6.tups b xs z),fun b o u z=>hT _ _ (un6.frzs b o u z),fun b ps z=>by
   obtain ⟨m1,e1⟩:=un6.tbls b ps z
   exact ⟨m1,hT _ _ e1⟩⟩
 have hok7:HOk X.prog X.w (L2.upd H2 x' (hU x' cls dx)) h6:=fun b u z=>by
  by_cases hbx:b=x'
  ·subst hbx
   rw [aA] at z
   cases z
   exact ⟨⟨ob,hob,hcl,hdx,vs6,hdt6⟩,⟨ob,hob⟩,fun h1 h2 ⟨o1,q1,q2⟩ k=>⟨o1,k _ q1,q2⟩⟩
  ·rw [aN hbx] at z
   exact (hok6 b u z).stay (fun _ _ _ q=>q) (fun c q=>hT _ _ q) fun c xs q=>hT _ _ q
 have I6:Inv X pins σ (L2.upd H2 x' (hU x' cls dx)) { s' with heap:=h6 }:=I1.call' (s':={ s' with heap:=h6 }) (ch:=[]) os un7 hok7 bare (fun b z=>absurd z (by simp))
 refine lK (X:=cxE X (.ref x')) (pA I6 (.ref x')) hN hi (.inl hl) (v:=.ref x') rfl (fun s7 I7=>?_) (.inr hl)
 refine wpAny_mono (hs (.ref x') pins s7 _ _ _ I7 (hE x' nH)) (fun f8 s8 q8=>?_) fun _ _ z=>(hnx _ _ z).elim
 cases f8 with
 | next =>
  obtain ⟨σ8,H8,I8,q8⟩:=q8
  exact BK8 (kA I1.ok I8) hN hi hl fun s9 I9=>⟨_,H8,I9,q8⟩
 | brk =>
  obtain ⟨σ8,H8,I8,q8⟩:=q8
  exact BK8 (kA I1.ok I8) hN hi hl fun s9 I9=>⟨_,H8,I9,q8⟩
 | cont =>
  obtain ⟨σ8,H8,I8,q8⟩:=q8
  exact BK8 (kA I1.ok I8) hN hi hl fun s9 I9=>⟨_,H8,I9,q8⟩
 | ret u =>
  obtain ⟨v,σ8,H8,I8,r8,q8⟩:=q8
  exact BK8 (kA I1.ok I8) hN hi hl fun s9 I9=>⟨v,_,H8,I9,r8,q8⟩
end
theorem kB {α:Type}{x:Str}{c:α}:∀ {l:List (Str × α)},l.lookup x=some c->(x,c)∈l
 | [],h=>by simp at h
 | (n,k)::r,h=>by
  rw [List.lookup_cons] at h
  cases hx:x == n with
  | true =>
   rw [hx] at h
   have e:x=n:=by simpa using hx
   have e2:k=c:=by simpa using h
   subst e e2
   exact List.mem_cons_self
  | false =>
   rw [hx] at h
   exact List.mem_cons_of_mem _ (kB h)
theorem rP {α:Type}{x:Str}{c:α}:∀ {l:List (Str × α)},(x,c)∈l->∃ c',l.lookup x=some c'
 | [],h=>by cases h
 | (n,k)::r,h=>by
  rw [List.lookup_cons]
  cases hx:x == n with
  | true=>exact ⟨k,rfl⟩
  | false =>
   rcases List.mem_cons.mp h with e | e
   ·cases e
    simp at hx
   ·exact rP e
theorem kT {env:Env}:∀ (names:List (Str × NameKind)) (acc:List (Str × Addr)),(∀ y∈names,y.2=.free->∃ c,env.cells.lookup y.1=some c) ->
  ∃ cl:List (Str × Addr),(forIn (m:=Sem) names acc fun (x:Str × NameKind) r =>
    if (x.2 == NameKind.free)=true then do let a <- cellOf env x.1; pure (ForInStep.yield ((x.1,a)::r)) else pure (ForInStep.yield r))=pure cl /\
   (∀ p∈cl,p∈acc\/env.cells.lookup p.1=some p.2)/\(∀ p∈acc,p∈cl)/\∀ x,(x,NameKind.free)∈names->∃ c,(x,c)∈cl
 | [],acc,_=>⟨acc,rfl,fun p hp=>.inl hp,fun p hp=>hp,fun x hx=>by cases hx⟩
 | (n,k)::r,acc,h=>by
  by_cases hk:k=.free
  ·subst hk
   obtain ⟨c,hc⟩:=h (n,.free) List.mem_cons_self rfl
   obtain ⟨cl,e,h1,h2,h3⟩:=kT r ((n,c)::acc) fun y hy=>h y (List.mem_cons_of_mem _ hy)
   have hc':cellOf env n=pure c:=by unfold cellOf; rw [hc]
   refine ⟨cl,?_,fun p hp=>?_,fun p hp=>h2 p (List.mem_cons_of_mem _ hp),fun x hx=>?_⟩
   ·rw [List.forIn_cons]
    simp only [beq_self_eq_true,if_true,hc',pure_bind]
    exact e
   ·rcases h1 p hp with z | z
    ·rcases List.mem_cons.mp z with rfl | z
     ·exact .inr hc
     ·exact .inl z
    ·exact .inr z
   ·rcases List.mem_cons.mp hx with z | z
    ·cases z
     exact ⟨c,h2 _ List.mem_cons_self⟩
    ·exact h3 x z
  ·obtain ⟨cl,e,h1,h2,h3⟩:=kT r acc fun y hy=>h y (List.mem_cons_of_mem _ hy)
   have hb:(k == NameKind.free)=false:=by simpa using hk
   refine ⟨cl,?_,h1,h2,fun x hx=>?_⟩
   ·rw [List.forIn_cons]
    simp only [hb,Bool.false_eq_true,if_false,pure_bind]
    exact e
   ·rcases List.mem_cons.mp hx with z | z
    ·cases z
     exact absurd rfl hk
    ·exact h3 x z
theorem AB9 {env:Env}{scope:Scope}(h:∀ y∈scope.names,y.2=.free->∃ c,env.cells.lookup y.1=some c) :
  ∃ cl,closureFor scope env=pure cl/\(∀ x c,cl.lookup x=some c->env.cells.lookup x=some c)/\∀ x,(x,NameKind.free)∈scope.names->∃ c,cl.lookup x=some c:=by
 obtain ⟨cl,e,h1,h2,h3⟩:=kT (env:=env) scope.names [] h
 refine ⟨cl,?_,fun x c hx=>?_,fun x hx=>?_⟩
 ·unfold closureFor
  simp only [bind_pure]
  exact e
 ·rcases h1 _ (kB hx) with z | z
  ·cases z
  ·exact z
 ·obtain ⟨c,hc⟩:=h3 x hx
  exact rP hc
theorem pN {scope:Scope}{env:Env}{x:Str}{k:NameKind}(h:(relabel scope env).names.lookup x=some k):(x,k)∈scope.names\/(k=.cell/\(x,NameKind.free)∈scope.names):=by
 obtain ⟨⟨n,k'⟩,hm,e⟩:=List.mem_map.mp (kB h)
 dsimp only at e
 split at e
 ·rename_i hc
  simp only [Bool.and_eq_true,beq_iff_eq] at hc
  obtain ⟨⟨rfl,_⟩,_⟩:=hc
  cases e
  exact .inr ⟨rfl,hm⟩
 ·cases e
  exact .inl hm
abbrev blk (X:Cx)(N:List Str)(scope:Scope)(cl:List (Str × Addr))(C:Addr)(s:Shared)(H:Hp)(fp:List Addr):Cx :=
 { prog:=X.prog,w:=X.w,K:=X.K,mg:=X.mg,base:=X.base,A:=X.A,N:=N,s₀:=s,H₀:=H,env:=compEnvC scope cl C X.env,outer:=X.stack,stack:=X.stack,ex:=fp,fn:=fun _=>false,calm:=X.calm,pn:=[],xe:=fun _ _=>False }
def wY (ix:List (Option Nat))(σ:L2.St):L2.St:=ix.map fun o=>o.bind fun j=>(σ[j]?).getD none
def PTs (X:Cx)(ifs:List Expr)(t:TT):Prop :=
 ∀ (pins:List (Addr × Obj)) (s:Shared) (σ:L2.St) (H:Hp) (Q:Bool->Hp->Prop),Inv X pins σ H s->t σ H Q ->
  wpAny (model X.prog X.w) X.A (forIn ifs true fun c r=>if r=true then do let ok <- isTrue c X.env (eval c X.env); pure (ForInStep.yield ok) else pure (ForInStep.yield r)) (TP X pins σ Q) X.xe s
def BS2:TT:=fun _ H Q=>Q true H
theorem iG {X:Cx}:PTs X [] BS2:=fun pins s σ H Q I h=>wpAny_tests_nil ⟨H,I,h⟩
theorem wZ {X:Cx}{c:Expr}{t:TT}(h:PT X c t):PTs X [c] t:=fun pins s σ H Q I q=>wpAny_tests_one (h pins s σ H Q I q)
def qS (wi:TI)(ix:List (Option Nat))(g:TG)(tt:TT)(te:TE):TE:=fun σ H Q=>wi σ H fun J H1=>∃ W:Nat->Nat->List V->L2.St->Hp->Prop,(∃ m,W 0 m [] (wY ix σ) H1)/\∀ i m acc σ H,W i m acc σ H ->
 (J.stop i H/\∀ D,H D=none->Q (.ref D) (upd H D (.lst acc))) \/
 (J.go i H/\acc.length < sizeLine/\∃ N:List V->L2.St->Hp->Prop,(∀ acc' σ' H',N acc' σ' H'->∃ m',m' < m/\W (i+1) m' acc' σ' H') /\
  ∀ x H',J.yld i H x H'->g x σ H' fun σ2 H2=>tt σ2 H2 fun b H3=>if b=true then te σ2 H3 fun y H4=>N (acc++[y]) σ2 H4 else N acc σ2 H3)
section
variable {prog:Program}{w:World}{A:Around}{R:Result->Shared->Prop}{s:Shared}
theorem mV {elt target iter:Expr}{ifs:List Expr}{scope:Scope}{pos:Pos}{it acc:Value}{env:Env}(I:Nat->Shared->Prop)(turn:∀ n s,I n s->wpAny (model prog w) A (pyNext it) (fun r s₁=>match r with
   | none=>R (.ok .next) s₁
   | some v=>wpAny (model prog w) A (letOwnedTupleGo target it v) (fun _ s₁=>wpAny (model prog w) A (assign target env v) (fun _ s₂ =>
     wpAny (model prog w) A (forIn ifs true fun c r=>if r=true then do let ok <- isTrue c env (eval c env); pure (ForInStep.yield ok) else pure (ForInStep.yield r)) (fun ok s₃ =>
      if ok=true then wpAny (model prog w) A (eval elt env) (fun x s₄ =>
       wpAny (model prog w) A (call (.builtin "list.append") [acc,x]) (fun _ s₅=>∃ m,m < n/\I m s₅) (fun _ _=>False) s₄) (fun _ _=>False) s₃
      else ∃ m,m < n/\I m s₃) (fun _ _=>False) s₂) (fun _ _=>False) s₁) (fun _ _=>False) s₁) (fun _ _=>False) s)(n:Nat)(h:I n s) :
  codeAny (model prog w) A (.compLoop (.ListComp elt [⟨target,iter,ifs,0⟩] scope pos) 0 it acc env) R s:=by
 refine codeAny_loop rfl I (fun n s hI=>?_) n h
 show wpAny _ A ((compTurn (.ListComp elt [⟨target,iter,ifs,0⟩] scope pos) 0 it acc env).onRaise (fun x=>do noteFrame x env; theTreesLotGoes x)) _ _ s
 refine wpAny_noted ?_
 rw [compTurn_list]
 refine wpAny_bind (wpAny_standAt (wpAny_bind (wpAny_mono (turn n s hI) (fun r s₁ h₁=>?_) fun _ _ h'=>h'.elim)))
 cases r with
 | none=>exact wpAny_pure h₁
 | some v =>
  refine wpAny_bind (wpAny_mono h₁ (fun _ s₁ h₁=>?_) fun _ _ h'=>h'.elim)
  refine wpAny_bind (wpAny_mono h₁ (fun _ s₂ h₂=>wpAny_bind (wpAny_mono h₂ (fun ok s₃ h₃=>?_) fun _ _ h'=>h'.elim)) fun _ _ h'=>h'.elim)
  cases ok with
  | false=>exact wpAny_pure ⟨rfl,h₃⟩
  | true =>
   exact wpAny_bind (wpAny_bind (wpAny_mono h₃ (fun x s₄ h₄=>wpAny_bind (wpAny_mono h₄ (fun _ s₅ h₅=>wpAny_pure (wpAny_pure ⟨rfl,h₅⟩)) fun _ _ h'=>h'.elim)) fun _ _ h'=>h'.elim))
end
section
variable {X:Cx}{pins:List (Addr × Obj)}{σ:L2.St}{H:Hp}{s:Shared}{N:List Str}{scope:Scope}{cl:List (Str × Addr)}{C:Addr}{fp:List Addr}
theorem BH0 (I:Inv X pins σ H s)(hkind:scope.kind=.function)(hcell:∀ y∈scope.names,y.2≠.cell)(h1:∀ x c,cl.lookup x=some c->X.env.cells.lookup x=some c)(h2:∀ x,(x,NameKind.free)∈scope.names->∃ c,cl.lookup x=some c)(hC:s.heap.objs.size<=C)(hf:∀ b∈fp,AS6 X pins H b)(hb:∀ b∈fp,b < s.heap.objs.size):(blk X N scope cl C s H fp).Ok where
 mod:=I.ok.mod
 kind:=hkind
 glob:=I.ok.glob
 blt:=I.ok.blt
 above:=hC
 inj:=fun x y c a b=>I.ok.inj x y c (h1 x c a) (h1 y c b)
 has:=fun x hx=>by
  have:(x,NameKind.free)∈scope.names:=by
   rcases hx with z | z
   ·rcases pN z with q | ⟨_,q⟩
    ·exact absurd rfl (hcell _ q)
    ·exact q
   ·rcases pN z with q | ⟨e,q⟩
    ·exact q
    ·cases e
  exact h2 x this
 cab:=fun x c hx=>by cases hx
 hd:=I.ok.hd
 frames:=I.ok.frames
 stk:=.inl rfl
 exf:=fun b hm=>⟨Nat.ne_of_lt (Nat.lt_of_lt_of_le (hb b hm) hC),fun x c e=>(hf b hm).2.2.2.2.1 x c (h1 x c e)⟩
 bs:=I.bs
 bsz:=Nat.le_trans I.ok.bsz I.sz
 noex:=fun b o e hm=>by
  rcases (hf b hm).2.2.2.1 with z | z
  ·exact I.ok.noex b o e z
  ·exact absurd (Nat.lt_of_lt_of_le (Heap.lt_size e) (Nat.le_trans I.ok.bsz z)) (Nat.lt_irrefl _)
 exfs:=fun b hm hs=>(List.mem_cons.mp (I.stkSub b hs)).elim (hf b hm).2.1 (hf b hm).2.2.1
 funs:=I.stack
 frf:=I.stkFree
end
theorem gM {env:Env}:∀ {names:List (Str × NameKind)}{x:Str},names.lookup x=some .free ->
  (names.map fun (n,k)=>if (k == NameKind.free && env.scope.kind == .function && env.kindOf n == some .cell) then (n,NameKind.cell) else (n,k)).lookup x=some .cell \/
  (names.map fun (n,k)=>if (k == NameKind.free && env.scope.kind == .function && env.kindOf n == some .cell) then (n,NameKind.cell) else (n,k)).lookup x=some .free
 | [],_,h=>by simp at h
 | (n,k)::r,x,h=>by
  have ih:=@gM env r x
  rw [List.map_cons]
  cases hx:x == n with
  | true =>
   simp only [List.lookup_cons,hx] at h
   cases h
   by_cases hc:(NameKind.free == NameKind.free && env.scope.kind == .function && env.kindOf n == some .cell)=true
   ·left; simp only [hc,if_true,List.lookup_cons,hx]
   ·right; simp only [Bool.not_eq_true] at hc; simp only [hc,Bool.false_eq_true,if_false,List.lookup_cons,hx]
  | false =>
   simp only [List.lookup_cons,hx] at h
   by_cases hc:(k == NameKind.free && env.scope.kind == .function && env.kindOf n == some .cell)=true
   ·simp only [hc,if_true,List.lookup_cons,hx]; exact ih h
   ·simp only [Bool.not_eq_true] at hc; simp only [hc,Bool.false_eq_true,if_false,List.lookup_cons,hx]; exact ih h
section
variable {X:Cx}
structure Gone (X:Cx) (pins:List (Addr × Obj)) (H:Hp) (C:Addr):Prop where
 n:H C=none
 l:C≠X.env.locals
 y:X.s₀.heap.objs.size<=C
 c:∀ x c,X.env.cells.lookup x=some c->c≠C
 p:∀ p∈X.pn++pins,p.1≠C
theorem Gone.inv {pins:List (Addr × Obj)}{σ:L2.St}{H:Hp}{s:Shared}{C:Addr}{h':Heap}(G:Gone X pins H C)(I:Inv X pins σ H s)(hs:Heap.SameBut C s.heap h'):Inv X pins σ H { s with heap:=h' } :=
 I.turned (t':=s.toks) (fun b o hb e=>(hs.2 b hb).trans e) G.n G.l (.inr G.y) G.c G.p
theorem zK {elt iter tg:Expr}{ifs:List Expr}{scope:Scope}{pos ppos:Pos}{wi:TI}{g:TG}{tt:TT}{te:TE}{use:Option (Value->Sem Unit)}{Q':Value->Shared->Prop}{pins:List (Addr × Obj)}{s:Shared}{σ:L2.St}{H:Hp}{Q:VK}(N:List Str)(ix:List (Option Nat))(hc:X.calm=true)(hkind:scope.kind=.function)(hcell:∀ y∈scope.names,y.2≠.cell)(hnames:∀ y∈scope.names,y.2=.local->scope.names.lookup y.1=some .local)(hfree:∀ y∈scope.names,y.2=.free->X.env.kindOf y.1=some .cell\/X.env.kindOf y.1=some .free)(hlen:ix.length=N.length)(hcap:∀ (i j:Nat) (x:Str),ix[i]?=some (some j)->N[i]?=some x->X.N[j]?=some x/\scope.names.lookup x=some .free)(hi:PI X tg iter wi)(hb:∀ cl C s H fp,PG (blk X N scope cl C s H fp) tg g/\PTs (blk X N scope cl C s H fp) ifs tt/\PE (blk X N scope cl C s H fp) elt te)(hs:∀ x,foldedSetIterable iter X.env x=pure x)(I:Inv X pins σ H s)(h:qS wi ix g tt te σ H Q)(hend:∀ (D C:Addr) (H':Hp) (s4:Shared) (mC:Str->Option Value),Inv X pins σ H' s4->s4.heap.Ns C mC->Gone X pins H' C->Q (.ref D) H'->compPost (model X.prog X.w) X.A X.xe use Q' (.ref D) C (.ok .next) s4) :
  wpAny (model X.prog X.w) X.A (comprehension (.ListComp elt [⟨tg,iter,ifs,0⟩] scope pos) scope X.env ppos (newList []) false (eval iter X.env) use) Q' X.xe s:=by
 obtain ⟨cl,hclos,hcl1,hcl2⟩:=AB9 (env:=X.env) (scope:=scope) fun y hy e=>I.ok.has _ (hfree y hy e)
 refine wpAny_comprehension_free rfl hs hclos hkind hnames (thn (hi pins s σ H _ I h) fun v s1 h1=>thn h1 fun itv s2 h2=>?_)
 obtain ⟨it,fp,tn,J,H2,e,I2,T,st2,f2,W,⟨m0,w0⟩,turn⟩:=h2
 subst e
 refine wpAny_newObj_type (wpAny_newFunctionEnv hcell (by intro y hy; simp at hy) (fun h₁ hns₁ hsb₁=>?_) hkind)
 dsimp only at hns₁ hsb₁ ⊢
 generalize hH2:s2.heap.push { cls:=.type "list",dict:=none,data:=.seq ([]:List Value).toArray }=HH at hns₁ hsb₁ ⊢
 have hC:HH.objs.size=s2.heap.objs.size+1:=by rw [<- hH2,Heap.size_push]
 have hDC:s2.heap.objs.size≠HH.objs.size:=by rw [hC]; exact Nat.ne_of_lt (Nat.lt_succ_self _)
 have hCle:s2.heap.objs.size<=HH.objs.size:=by rw [hC]; exact Nat.le_succ _
 have below:∀ b,b < s2.heap.objs.size->b≠HH.objs.size/\b≠s2.heap.objs.size:=fun b hb=>⟨by rw [hC]; exact Nat.ne_of_lt (Nat.lt_succ_of_lt hb),Nat.ne_of_lt hb⟩
 have hfp:∀ b∈fp,b < s2.heap.objs.size:=fun b hm=>by
  obtain ⟨o,e,_⟩:=T.obj _ _ st2 b hm
  exact Heap.lt_size e
 have old:∀ b o,s2.heap.get? b=some o->h₁.get? b=some o:=fun b o e=>hsb₁.extBut b o (below b (Heap.lt_size e)).1 (Heap.get?_push_of_some _ (hH2 ▸ Heap.get?_push_of_some _ e))
 have hacc:h₁.get? s2.heap.objs.size=some { cls:=.type "list",data:=.seq ([]:List Value).toArray }:=hsb₁.extBut _ _ hDC (Heap.get?_push_of_some _ (hH2 ▸ Heap.get?_push_size _ rfl))
 generalize hD:s2.heap.objs.size=D at hDC hCle hacc ⊢
 generalize hCC:HH.objs.size=C at hns₁ hsb₁ hDC hCle ⊢
 have hDle:s2.heap.objs.size<=D:=by rw [hD]; exact Nat.le_refl _
 have hCle':s2.heap.objs.size<=C:=by rw [hD]; exact hCle
 obtain ⟨bg,bt,be⟩:=hb cl C s2 H2 fp
 have ok:=BH0 (N:=N) I2 hkind hcell hcl1 hcl2 hCle' f2 hfp
 have notY:∀ b,s2.heap.objs.size<=b->b ∉ frs X.stack:=fun b hle hm=>by
  rcases List.mem_cons.mp (I2.stkSub b hm) with z | z
  ·exact absurd (Nat.lt_of_lt_of_le I2.lt (z ▸ hle)) (Nat.lt_irrefl _)
  ·exact I2.nofs hle z
 -- the block's invariant at its entry
 have I4:Inv (blk X N scope cl C s2 H2 fp) [(D,{ cls:=.type "list",data:=.seq ([]:List Value).toArray })] (wY ix σ) H2 { s2 with heap:=h₁,toks:=s2.toks+([]:List (Str × Value)).length }:=by
  refine ⟨ok,rfl,I2.bare,Un.kept old,⟨_,hns₁,fun i x v e1 e2 e3=>?_⟩,fun x c e=>?_,I2.hok.fresh hCle',fun x c e=>I2.freeC x c (hcl1 x c e),fun p hp=>?_,I2.hok.kept old,?_⟩
  ·have q:∃ j,ix[i]?=some (some j)/\σ[j]?=some (some v):=by
    unfold wY at e2
    rw [List.getElem?_map] at e2
    cases z:ix[i]? with
    | none=>rw [z] at e2; cases e2
    | some o =>
     rw [z] at e2
     cases o with
     | none=>cases e2
     | some j =>
      refine ⟨j,rfl,?_⟩
      have e2':(σ[j]?).getD none=some v:=Option.some.inj e2
      cases z2:σ[j]? with
      | none=>rw [z2] at e2'; cases e2'
      | some w'=>rw [z2] at e2'; exact congrArg some e2'
   obtain ⟨j,q1,q2⟩:=q
   obtain ⟨n1,n2⟩:=hcap i j x q1 e1
   obtain ⟨m,hn,hl⟩:=I2.loc
   have hmem:=kB n2
   have hkx:=hfree _ hmem rfl
   have hvis:Vis X.env.scope x:=by
    rcases hkx with z | z
    ·exact .inr (.inl z)
    ·exact .inr (.inr z)
   obtain ⟨u,ru,lk⟩:=hl j x v n1 q2 hvis
   refine ⟨u,ru,.inr ⟨gM n2,?_⟩⟩
   obtain ⟨c,hcc⟩:=hcl2 x hmem
   rcases lk with ⟨k,_⟩ | ⟨_,c',e',z⟩
   ·rcases hkx with z | z <;> · rw [k] at z; cases z
   ·rw [hcl1 x c hcc] at e'
    cases e'
    obtain ⟨o,ho,hd⟩:=z
    exact ⟨c,hcc,o,old _ _ ho,hd⟩
  ·obtain ⟨v,o,ho,hd⟩:=I2.cell x c (hcl1 x c e)
   exact ⟨v,o,old _ _ ho,hd⟩
  ·have e:p=(D,{ cls:=.type "list",data:=.seq ([]:List Value).toArray }):=by simpa using hp
   subst e
   exact ⟨hacc,I2.hok.fresh hDle,hDC,notY D hDle,fun v z=>by cases z⟩
  ·unfold wY
   rw [List.length_map]
   exact hlen
 have stat:∀ {pl:List (Addr × Obj)}{H':Hp},(∀ p∈pl,p.1 ∉ fp)->(∀ b∈fp,H' b=none)->∀ b∈fp,AS6 (blk X N scope cl C s2 H2 fp) pl H' b:=fun {pl H'} hpl hn b hm =>
  ⟨hn b hm,(ok.exf b hm).1,ok.exfs b hm,.inl hm,(ok.exf b hm).2,fun p hp e=>hpl p (by simpa using hp) (e ▸ hm)⟩
 have nfp:D ∉ fp:=fun hm=>absurd (Nat.lt_of_lt_of_le (hfp D hm) hDle) (Nat.lt_irrefl _)
 have nfpP:∀ (o:Obj),∀ p∈[(D,o)],p.1 ∉ fp:=fun o p hp=>by
  have e:p=(D,o):=by simpa using hp
  subst e
  exact nfp
 have loop:∀ s3:Shared,s3={ s2 with heap:=h₁,toks:=s2.toks+([]:List (Str × Value)).length } ->
   codeAny (model X.prog X.w) X.A (.compLoop (.ListComp elt [⟨tg,iter,ifs,0⟩] scope pos) 0 (.ref it) (.ref D) (compEnvC scope cl C X.env)) (compPost (model X.prog X.w) X.A X.xe use Q' (.ref D) C) s3:=by
  rintro s3 rfl
  refine mV (fun n s'=>∃ i σ' H' acc its nn,Inv (blk X N scope cl C s2 H2 fp) [(D,{ cls:=.type "list",data:=.seq its nn })] σ' H' s'/\Vals acc its.toList/\tn i s'.heap/\(∀ b∈fp,H' b=none)/\acc.length<=sizeLine/\W i n acc σ' H') ?_ m0
   ⟨0,wY ix σ,H2,[],#[],0,I4,.nil,T.keep _ _ _ st2 fun b _ o e=>old b o e,fun b hm=>(f2 b hm).1,Nat.zero_le _,w0⟩
  rintro n s3 ⟨i,σ3,H3,acc,its,nn,I3,rv,st3,fr3,hz,w3⟩
  rcases turn i n acc σ3 H3 w3 with ⟨stop,qn⟩ | ⟨go,hlt,NN,hN,step⟩
  ·refine thn (T.done (blk X N scope cl C s2 H2 fp) rfl rfl rfl hc i _ s3 σ3 H3 (fun _ _=>False) I3 (stat (nfpP _) fr3) st3 stop) fun r s4 ⟨hr,I5⟩=>?_
   subst hr
   obtain ⟨eD,nD,_⟩:=I5.pin (D,{ cls:=.type "list",data:=.seq its nn }) (by simp)
   obtain ⟨mC,hnC,_⟩:=I5.loc
   -- back in the def's own frame
   have hne:∀ b u,H3 b=some u->b≠D:=fun b u q z=>by rw [z,nD] at q; cases q
   have un:Un (frs X.stack) fp H2 (upd H3 D (.lst acc)) s2.heap s4.heap:=by
    have b:=I5.base
    have neD:∀ b o,s2.heap.get? b=some o->b≠D:=fun b o e=>Nat.ne_of_lt (Nat.lt_of_lt_of_le (Heap.lt_size e) hDle)
    refine ⟨b.keep,b.slot,fun b' o q n' hx=>?_,b.there,fun b' xs q=>?_,fun b' o u q=>?_,fun b' ps q=>?_⟩
    ·rw [aN (neD b' o q)]
     exact b.free b' o q n' hx
    ·have q':=b.tups b' xs q
     rw [aN (hne _ _ q')]
     exact q'
    ·have q':=b.frzs b' o u q
     rw [aN (hne _ _ q')]
     exact q'
    ·obtain ⟨more,q'⟩:=b.tbls b' ps q
     exact ⟨more,by rw [aN (hne _ _ q')]; exact q'⟩
   have hokD:HOk X.prog X.w (upd H3 D (.lst acc)) s4.heap:=fun b u e=>by
    by_cases hbD:b=D
    ·subst hbD
     rw [aA] at e
     cases e
     exact ⟨hz,its.toList,nn,rv,by simpa using eD⟩
    ·rw [aN hbD] at e
     refine (I5.hok b u e).stay (fun _ _ _ q=>q) (fun c r=>?_) fun c xs r=>?_
     ·rw [aN (fun z=>by rw [z,nD] at r; cases r)]; exact r
     ·rw [aN (fun z=>by rw [z,nD] at r; cases r)]; exact r
   have IX:Inv X pins σ (upd H3 D (.lst acc)) s4:=I2.call' I5.os un hokD I5.bare fun b hm=>⟨(f2 b hm).2.2.2.1,(f2 b hm).2.1,(f2 b hm).2.2.2.2.1,(f2 b hm).2.2.2.2.2⟩
   refine hend D C _ s4 mC IX hnC ⟨?_,Nat.ne_of_gt (Nat.lt_of_lt_of_le I2.lt hCle'),Nat.le_trans I2.sz hCle',fun x c e z=>?_,fun p hp z=>?_⟩ (qn D nD)
   ·rw [aN (Ne.symm hDC)]
    exact I5.free
   ·obtain ⟨v,o,ho,_⟩:=I2.cell x c e
    exact absurd (Nat.lt_of_lt_of_le (Heap.lt_size ho) (z ▸ hCle')) (Nat.lt_irrefl _)
   ·exact absurd (Nat.lt_of_lt_of_le (Heap.lt_size (I2.pin p hp).1) (z ▸ hCle')) (Nat.lt_irrefl _)
  ·refine thn (T.item (blk X N scope cl C s2 H2 fp) rfl rfl rfl hc i _ s3 σ3 H3 (fun _ _=>False) I3 (stat (nfpP _) fr3) st3 go) fun r s4 ⟨u,hr,h4⟩=>?_
   subst hr
   refine thn h4 fun _ s5 ⟨x,H5,I5,r5,y5,st5,fr5⟩=>?_
   have I5':=I5.pinned (stat (nfpP _) fr5) (T.obj _ _ st5)
   refine thn (bg _ s5 σ3 H5 x u _ I5' r5 (step x H5 y5)) fun _ s6 ⟨σ6,H6,I6,q6⟩=>?_
   refine thn (bt _ s6 σ6 H6 _ I6 q6) fun b s7 ⟨H7,I7,q7⟩=>?_
   have after:∀ {o:Obj}{σ8:L2.St}{H8:Hp}{s8:Shared},Inv (blk X N scope cl C s2 H2 fp) ([(D,o)]++lN fp s5.heap) σ8 H8 s8->tn (i+1) s8.heap/\∀ b∈fp,H8 b=none:=fun {o σ8 H8 s8} I8=>by
    refine ⟨T.keep _ _ _ st5 fun b hb o e=>(I8.pin (b,o) (List.mem_append_right _ (List.mem_append_right _ (jY hb e)))).1,fun b hb=>?_⟩
    obtain ⟨o,e,d⟩:=T.obj _ _ st5 b hb
    exact (I8.pin (b,o) (List.mem_append_right _ (List.mem_append_right _ (jY hb e)))).2.1
   cases b with
   | false =>
    simp only [Bool.false_eq_true,if_false] at q7 ⊢
    obtain ⟨m',hm,w7⟩:=hN acc σ6 H7 q7
    exact ⟨m',hm,i+1,σ6,H7,acc,its,nn,I7.unpinned,rv,(after I7).1,(after I7).2,hz,w7⟩
   | true =>
    simp only [if_true] at q7 ⊢
    refine thn (be _ s7 σ6 H7 _ I7 q7) fun yv s8 ⟨y,H8,I8,r8,q8⟩=>?_
    obtain ⟨eD,nD,_⟩:=I8.pin (D,{ cls:=.type "list",data:=.seq its nn }) (by simp)
    have hl:acc.length=its.size:=by have:=rv.length; simpa using this
    refine wpAny_list_append_plain (hsz:=by omega) ⟨nn,eD⟩ fun h9 ⟨n9,e9⟩ hs9=>?_
    obtain ⟨m',hm,w9⟩:=hN _ _ _ q8
    have J1:Inv (blk X N scope cl C s2 H2 fp) (lN fp s5.heap) σ6 H8 s8:=I8.pins_of fun p hp=>I8.pin p (List.mem_append_right _ (List.mem_append_right _ hp))
    have nc:∀ x c,cl.lookup x=some c->c≠D:=fun x c e z=>by
     obtain ⟨v,o,ho,_⟩:=I2.cell x c (hcl1 x c e)
     exact absurd (Nat.lt_of_lt_of_le (Heap.lt_size ho) (z ▸ hDle)) (Nat.lt_irrefl _)
    have J2:Inv (blk X N scope cl C s2 H2 fp) (lN fp s5.heap) σ6 H8 { s8 with heap:=h9 }:=J1.turned (t':=s8.toks) (fun b o hb e=>hs9.extBut b o hb e) nD hDC (.inr hDle) nc fun p hp z=>by
     have hp':p∈lN fp s5.heap:=by simpa using hp
     exact nfp (z ▸ (uM hp').1)
    have J3:Inv (blk X N scope cl C s2 H2 fp) ([(D,{ cls:=.type "list",data:=.seq (its.push yv) n9 })]++lN fp s5.heap) σ6 H8 { s8 with heap:=h9 }:=J2.pins_of fun p hp=>by
     rcases List.mem_append.mp hp with hp | hp
     ·have e:p=(D,{ cls:=.type "list",data:=.seq (its.push yv) n9 }):=by simpa using hp
      subst e
      exact ⟨e9,nD,hDC,notY D hDle,fun v z=>by cases z⟩
     ·exact J2.pin p (List.mem_append_right _ hp)
    refine ⟨m',hm,i+1,σ6,H8,acc++[y],its.push yv,n9,J3.unpinned,?_,(after J3).1,(after J3).2,by rw [List.length_append,List.length_singleton]; omega,w9⟩
    rw [Array.toList_push]
    exact rv.append (.cons r8 .nil)
 exact codeAny_compStart_list (loop _ rfl) (T.self _ 0 _ _ _ (T.keep _ _ _ st2 fun b _ o e=>old b o e) (loop _ rfl))
theorem AZ3 {elt iter tg:Expr}{ifs:List Expr}{scope:Scope}{pos:Pos}{wi:TI}{g:TG}{tt:TT}{te:TE}(N:List Str)(ix:List (Option Nat))(hc:X.calm=true)(hkind:scope.kind=.function)(hcell:∀ y∈scope.names,y.2≠.cell)(hnames:∀ y∈scope.names,y.2=.local->scope.names.lookup y.1=some .local)(hfree:∀ y∈scope.names,y.2=.free->X.env.kindOf y.1=some .cell\/X.env.kindOf y.1=some .free)(hlen:ix.length=N.length)(hcap:∀ (i j:Nat) (x:Str),ix[i]?=some (some j)->N[i]?=some x->X.N[j]?=some x/\scope.names.lookup x=some .free)(hi:PI X tg iter wi)(hb:∀ cl C s H fp,PG (blk X N scope cl C s H fp) tg g/\PTs (blk X N scope cl C s H fp) ifs tt/\PE (blk X N scope cl C s H fp) elt te)(hs:∀ x,foldedSetIterable iter X.env x=pure x:=by intro _; rfl):PE X (.ListComp elt [⟨tg,iter,ifs,0⟩] scope pos) (qS wi ix g tt te):=by
 intro pins s σ H Q I h
 rw [eval_ListComp]
 exact zK (use:=none) N ix hc hkind hcell hnames hfree hlen hcap hi hb hs I h fun D C H' s4 mC I4 hn G q=>⟨mC,hn,fun h' hs'=>⟨.ref D,H',G.inv I4 hs',rfl,q⟩⟩
theorem AZ4 {i:Nat}{y:Str}{elt iter tg:Expr}{ifs:List Expr}{scope:Scope}{pos py spos:Pos}{wi:TI}{g:TG}{tt:TT}{te:TE}(N:List Str)(ix:List (Option Nat))(hc:X.calm=true)(hkind:scope.kind=.function)(hcell:∀ y∈scope.names,y.2≠.cell)(hnames:∀ y∈scope.names,y.2=.local->scope.names.lookup y.1=some .local)(hfree:∀ y∈scope.names,y.2=.free->X.env.kindOf y.1=some .cell\/X.env.kindOf y.1=some .free)(hlen:ix.length=N.length)(hcap:∀ (i j:Nat) (x:Str),ix[i]?=some (some j)->N[i]?=some x->X.N[j]?=some x/\scope.names.lookup x=some .free)(hN:X.N.Nodup)(hin:X.N[i]?=some y)(hy:X.env.scope.names.lookup y=some .local)(hi:PI X tg iter wi)(hb:∀ cl C s H fp,PG (blk X N scope cl C s H fp) tg g/\PTs (blk X N scope cl C s H fp) ifs tt/\PE (blk X N scope cl C s H fp) elt te)(hsw:swapsWith (.ListComp elt [⟨tg,iter,ifs,0⟩] scope pos) (some (.Name y py)) spos.line X.env=pure true:=by rfl)(hs:∀ x,foldedSetIterable iter X.env x=pure x:=by intro _; rfl):PS X (.Assign [.Name y py] (.ListComp elt [⟨tg,iter,ifs,0⟩] scope pos) spos) (AV7 (qS wi ix g tt te) (wL i)):=by
 intro pins s σ H D I h
 rw [exec_Assign_Name_used _ _ _ _ hsw]
 refine wpAny_bind (wpAny_standAt (wpAny_bind ?_))
 show wpAny _ X.A (do let _ <- comprehension (.ListComp elt [⟨tg,iter,ifs,0⟩] scope pos) scope X.env _ (newList []) false (eval iter X.env) (some (assign (.Name y py) X.env))) _ _ s
 refine wpAny_bind (thn (zK (use:=some (assign (.Name y py) X.env)) (Q':=fun _ s'=>SP X pins D .next s') (Q:=fun v H'=>D.nx (σ.set i (some v)) H') N ix hc hkind hcell hnames hfree hlen hcap hi hb hs I h fun Dd C H' s4 mC I4 hn G q=>?_) fun _ s' hq=>wpAny_pure (wpAny_pure hq))
 show wpAny _ X.A (assign (.Name y py) X.env (.ref Dd)) _ _ _
 refine wpAny_assign_Name (uJ (v:=.ref Dd) I4 hN hin (.inl hy) rfl (fun s5 I5 ⟨a,sb,ha⟩=>?_) (.inr hy))
 have hCa:C≠a:=by
  rcases ha with z | z
  ·rw [z]; exact G.l
  ·exact fun e=>G.c _ _ z e.symm
 exact ⟨mC,hn.sameBut sb hCa,fun h' hs'=>⟨_,H',G.inv I5 hs',q⟩⟩
end
theorem AH9 {K:Frag}{a:Addr}{xs:List V}{g:TG}{tt:TT}{te:TE}{σ:L2.St}{H:Hp}{Q:VK}(Pv:Nat->List V->L2.St->Hp->Prop)(hz:xs.length<=sizeLine)(h0:Pv 0 [] σ H)(hl:∀ i acc σ H,i<=xs.length->Pv i acc σ H->SqL K H a xs)(hs:∀ i x acc σ H,xs[i]?=some x->Pv i acc σ H->g x σ H fun σ2 H2=>tt σ2 H2 fun b H3=>if b=true then te σ2 H3 fun y H4=>Pv (i+1) (acc++[y]) σ2 H4 else Pv (i+1) acc σ2 H3)(hacc:∀ i acc σ H,Pv i acc σ H->acc.length<=i)(hd:∀ acc σ H,Pv xs.length acc σ H->∀ D,H D=none->Q (.ref D) (upd H D (.lst acc))) :
  ∃ W:Nat->Nat->List V->L2.St->Hp->Prop,(∃ m,W 0 m [] σ H)/\∀ i m acc σ H,W i m acc σ H ->
   ((Itl K a).stop i H/\∀ D,H D=none->Q (.ref D) (upd H D (.lst acc))) \/
   ((Itl K a).go i H/\acc.length < sizeLine/\∃ N:List V->L2.St->Hp->Prop,(∀ acc' σ' H',N acc' σ' H'->∃ m',m' < m/\W (i+1) m' acc' σ' H') /\
    ∀ x H',(Itl K a).yld i H x H'->g x σ H' fun σ2 H2=>tt σ2 H2 fun b H3=>if b=true then te σ2 H3 fun y H4=>N (acc++[y]) σ2 H4 else N acc σ2 H3):=by
 refine ⟨fun i m acc σ H=>m=xs.length - i/\i<=xs.length/\Pv i acc σ H,⟨xs.length,by simp,Nat.zero_le _,h0⟩,?_⟩
 rintro i m acc σ H ⟨rfl,hi,p⟩
 have q:=hl i acc σ H hi p
 have ha:=hacc i acc σ H p
 by_cases hlt:i < xs.length
 ·refine .inr ⟨⟨xs,xs[i],q,by simp [hlt]⟩,by omega,Pv (i+1),fun acc' σ' H' p'=>⟨xs.length - (i+1),by omega,rfl,hlt,p'⟩,fun x H' y=>?_⟩
  obtain ⟨e,y⟩:=y
  subst e
  exact hs i x acc σ _ (y xs q) p
 ·have e:i=xs.length:=by omega
  subst e
  exact .inl ⟨⟨xs,q,Nat.le_refl _⟩,hd acc σ H p⟩
theorem AC0 {lo:Int}{n:Nat}{g:TG}{tt:TT}{te:TE}{σ:L2.St}{H:Hp}{Q:VK}(Pv:Nat->List V->L2.St->Hp->Prop)(hz:n<=sizeLine)(h0:Pv 0 [] σ H)(hs:∀ i acc σ H,i < n->Pv i acc σ H->g (.int (lo+i)) σ H fun σ2 H2=>tt σ2 H2 fun b H3=>if b=true then te σ2 H3 fun y H4=>Pv (i+1) (acc++[y]) σ2 H4 else Pv (i+1) acc σ2 H3)(hacc:∀ i acc σ H,Pv i acc σ H->acc.length<=i)(hd:∀ acc σ H,Pv n acc σ H->∀ D,H D=none->Q (.ref D) (upd H D (.lst acc))) :
  ∃ W:Nat->Nat->List V->L2.St->Hp->Prop,(∃ m,W 0 m [] σ H)/\∀ i m acc σ H,W i m acc σ H ->
   ((Itr lo n).stop i H/\∀ D,H D=none->Q (.ref D) (upd H D (.lst acc))) \/
   ((Itr lo n).go i H/\acc.length < sizeLine/\∃ N:List V->L2.St->Hp->Prop,(∀ acc' σ' H',N acc' σ' H'->∃ m',m' < m/\W (i+1) m' acc' σ' H') /\
    ∀ x H',(Itr lo n).yld i H x H'->g x σ H' fun σ2 H2=>tt σ2 H2 fun b H3=>if b=true then te σ2 H3 fun y H4=>N (acc++[y]) σ2 H4 else N acc σ2 H3):=by
 refine ⟨fun i m acc σ H=>m=n - i/\i<=n/\Pv i acc σ H,⟨n,by simp,Nat.zero_le _,h0⟩,?_⟩
 rintro i m acc σ H ⟨rfl,hi,p⟩
 have ha:=hacc i acc σ H p
 by_cases hlt:i < n
 ·refine .inr ⟨hlt,by omega,Pv (i+1),fun acc' σ' H' p'=>⟨n - (i+1),by omega,rfl,hlt,p'⟩,fun x H' y=>?_⟩
  obtain ⟨e,y⟩:=y
  subst e y
  exact hs i acc σ _ hlt p
 ·have e:i=n:=by omega
  subst e
  exact .inl ⟨Nat.le_refl _,hd acc σ H p⟩
def BH1 (XN:List Str)(scope:Scope):List Str->List (Option Nat)->Bool
 | _,[]=>true
 | [],_=>true
 | _::r,none::s=>BH1 XN scope r s
 | x::r,some j::s=>decide (XN[j]?=some x) && decide (scope.names.lookup x=some .free) && BH1 XN scope r s
theorem sN {XN:List Str}{scope:Scope}:∀ {N:List Str}{ix:List (Option Nat)},BH1 XN scope N ix=true->∀ (i j:Nat) (x:Str),ix[i]?=some (some j)->N[i]?=some x->XN[j]?=some x/\scope.names.lookup x=some .free
 | [],[],_,i,j,x,h1,_=>by simp at h1
 | _::_,[],_,i,j,x,h1,_=>by simp at h1
 | [],_::_,_,i,j,x,_,h2=>by simp at h2
 | y::r,none::s,h,i,j,x,h1,h2=>by
  cases i with
  | zero=>simp at h1
  | succ i=>exact sN (N:=r) (ix:=s) h i j x (by simpa using h1) (by simpa using h2)
 | y::r,some k::s,h,i,j,x,h1,h2=>by
  have h':(decide (XN[k]?=some y) && decide (scope.names.lookup y=some .free) && BH1 XN scope r s)=true:=h
  rw [Bool.and_eq_true,Bool.and_eq_true,decide_eq_true_eq,decide_eq_true_eq] at h'
  cases i with
  | zero =>
   simp at h1 h2
   subst h1 h2
   exact h'.1
  | succ i=>exact sN h'.2 i j x (by simpa using h1) (by simpa using h2)
def zL (XN:List Str)(sc scope:Scope)(N:List Str)(ix:List (Option Nat)):Bool :=
 decide (scope.kind=.function) && decide (∀ y∈scope.names,y.2≠.cell) && decide (∀ y∈scope.names,y.2=.local->scope.names.lookup y.1=some .local) &&
  decide (∀ y∈scope.names,y.2=.free->sc.names.lookup y.1=some .cell\/sc.names.lookup y.1=some .free) && decide (ix.length=N.length) && BH1 XN scope N ix
section
variable {X:Cx}
theorem dI {elt iter tg:Expr}{ifs:List Expr}{scope:Scope}{pos:Pos}{wi:TI}{g:TG}{tt:TT}{te:TE}(N:List Str)(ix:List (Option Nat))(hc:X.calm=true)(hk:zL X.N X.env.scope scope N ix=true)(hi:PI X tg iter wi)(hb:∀ cl C s H fp,PG (blk X N scope cl C s H fp) tg g/\PTs (blk X N scope cl C s H fp) ifs tt/\PE (blk X N scope cl C s H fp) elt te)(hs:∀ x,foldedSetIterable iter X.env x=pure x:=by intro _; rfl):PE X (.ListComp elt [⟨tg,iter,ifs,0⟩] scope pos) (qS wi ix g tt te):=by
 unfold zL at hk
 simp only [Bool.and_eq_true,decide_eq_true_eq] at hk
 obtain ⟨⟨⟨⟨⟨h1,h2⟩,h3⟩,h4⟩,h5⟩,h6⟩:=hk
 exact AZ3 N ix hc h1 h2 h3 h4 h5 (sN h6) hi hb hs
theorem AP0 {i:Nat}{y:Str}{elt iter tg:Expr}{ifs:List Expr}{scope:Scope}{pos py spos:Pos}{wi:TI}{g:TG}{tt:TT}{te:TE}(N:List Str)(ix:List (Option Nat))(hc:X.calm=true)(hk:zL X.N X.env.scope scope N ix=true)(hN:X.N.Nodup)(hin:X.N[i]?=some y)(hy:X.env.scope.names.lookup y=some .local)(hi:PI X tg iter wi)(hb:∀ cl C s H fp,PG (blk X N scope cl C s H fp) tg g/\PTs (blk X N scope cl C s H fp) ifs tt/\PE (blk X N scope cl C s H fp) elt te)(hsw:swapsWith (.ListComp elt [⟨tg,iter,ifs,0⟩] scope pos) (some (.Name y py)) spos.line X.env=pure true:=by rfl)(hs:∀ x,foldedSetIterable iter X.env x=pure x:=by intro _; rfl):PS X (.Assign [.Name y py] (.ListComp elt [⟨tg,iter,ifs,0⟩] scope pos) spos) (AV7 (qS wi ix g tt te) (wL i)):=by
 unfold zL at hk
 simp only [Bool.and_eq_true,decide_eq_true_eq] at hk
 obtain ⟨⟨⟨⟨⟨h1,h2⟩,h3⟩,h4⟩,h5⟩,h6⟩:=hk
 exact AZ4 N ix hc h1 h2 h3 h4 h5 (sN h6) hN hin hy hi hb hsw hs
end
section
variable {X:Cx}
theorem rQ {pins:List (Addr × Obj)}{σ:L2.St}{H:Hp}{s:Shared}{Q:VK}{u:Str}{t:Tok}{k:Nat}(I:Inv X pins σ H s)(q:Q (.str u) H):EP X pins σ Q (.str u t) { s with toks:=k }:=⟨.str u,H,I.tok k,⟨t,rfl⟩,q⟩
def BO4:V->Option Int->Option Int->Hp->VK->Prop:=fun x lo hi H Q=>∃ u,x=.str u/\u.length<=sizeLine/\Q (.str (Txt.slice u lo hi)) H
theorem zM:SlR X BO4:=by
 intro pins s σ H x v vl vu lo hi sl Q I rx hs pl pu h
 obtain ⟨u,rfl,hz,q⟩:=h
 obtain ⟨t,rfl⟩:=rx
 refine ⟨"str",_,PySem.F.slot_str_getitem.lookup,typeIs_str _ _ _,?_⟩
 obtain ⟨os,hos,hcs,hds⟩:=hs
 cases pl with
 | none =>
  cases pu with
  | none=>exact wpAny_getItem_str_slice (l:=none) (u:=none) (st:=none) ⟨os,hos,hcs,hds⟩ rfl (post_val_or_str ⟨Nat.le_trans (Txt.slice_le u _ _) hz,fun t' k=>rQ I q⟩)
  | int j tj=>exact wpAny_getItem_str_slice (l:=none) (u:=some (j,tj)) (st:=none) ⟨os,hos,hcs,hds⟩ rfl (post_val_or_str ⟨Nat.le_trans (Txt.slice_le u _ _) hz,fun t' k=>rQ I q⟩)
 | int i ti =>
  cases pu with
  | none=>exact wpAny_getItem_str_slice (l:=some (i,ti)) (u:=none) (st:=none) ⟨os,hos,hcs,hds⟩ rfl (post_val_or_str ⟨Nat.le_trans (Txt.slice_le u _ _) hz,fun t' k=>rQ I q⟩)
  | int j tj=>exact wpAny_getItem_str_slice (l:=some (i,ti)) (u:=some (j,tj)) (st:=none) ⟨os,hos,hcs,hds⟩ rfl (post_val_or_str ⟨Nat.le_trans (Txt.slice_le u _ _) hz,fun t' k=>rQ I q⟩)
def BO5:V->List V->Hp->VK->Prop:=fun x xs H Q=>∃ u l ts,x=.str u/\xs=[.ref l]/\H l=some (.lst (ts.map V.str))/\JoinOk u ts=true/\Q (.str (Txt.join u ts)) H
theorem sO:∀ {ts:List Str}{us:List Value},Vals (ts.map V.str) us->∃ l:List (Str × Tok),us=strValues l/\l.map (·.1)=ts
 | [],_,r=>by
  rw [List.map_nil] at r
  cases r
  exact ⟨[],rfl,rfl⟩
 | a::ts,_,r=>by
  rw [List.map_cons] at r
  cases r with
  | cons r1 r2 =>
   obtain ⟨t,rfl⟩:=r1
   obtain ⟨l,rfl,e⟩:=sO r2
   exact ⟨(a,t)::l,rfl,by rw [List.map_cons,e]⟩
theorem kU:MtR X "str.join" BO5:=by
 intro pins s σ H x xs v us Q I rx rv h
 obtain ⟨u,l,ts,rfl,rfl,hl,hz,q⟩:=h
 obtain ⟨t,rfl⟩:=rx
 cases rv with
 | cons r1 r2 =>
  cases r2
  cases r1
  obtain ⟨_,its,n,r,e⟩:=I.hok l _ hl
  obtain ⟨ll,rfl,e2⟩:=sO r
  exact SC.join (D:=l) (l:=ll) ⟨_,e,rfl,n,rfl⟩ e2 hz fun t' k=>rQ I q
end
section
variable {K:Frag}{ta te:TE}{tr:TA}{wi:TI}{ix:List (Option Nat)}{g:TG}{tt:TT}{σ:L2.St}{H:Hp}{Q:VK}{QB:Bool->Hp->Prop}
def CompL (K:Frag)(a:Addr)(g:TG)(tt:TT)(te:TE)(Q:VK)(σ:L2.St)(H:Hp):Prop:=∃ W:Nat->Nat->List V->L2.St->Hp->Prop,(∃ m,W 0 m [] σ H)/\∀ i m acc σ H,W i m acc σ H ->
 ((Itl K a).stop i H/\∀ D,H D=none->Q (.ref D) (L2.upd H D (.lst acc))) \/
 ((Itl K a).go i H/\acc.length < sizeLine/\∃ N:List V->L2.St->Hp->Prop,(∀ acc' σ' H',N acc' σ' H'->∃ m',m' < m/\W (i+1) m' acc' σ' H') /\
  ∀ x H',(Itl K a).yld i H x H'->g x σ H' fun σ2 H2=>tt σ2 H2 fun b H3=>if b=true then te σ2 H3 fun y H4=>N (acc++[y]) σ2 H4 else N acc σ2 H3)
def CompR (lo:Int)(n:Nat)(g:TG)(tt:TT)(te:TE)(Q:VK)(σ:L2.St)(H:Hp):Prop:=∃ W:Nat->Nat->List V->L2.St->Hp->Prop,(∃ m,W 0 m [] σ H)/\∀ i m acc σ H,W i m acc σ H ->
 ((Itr lo n).stop i H/\∀ D,H D=none->Q (.ref D) (L2.upd H D (.lst acc))) \/
 ((Itr lo n).go i H/\acc.length < sizeLine/\∃ N:List V->L2.St->Hp->Prop,(∀ acc' σ' H',N acc' σ' H'->∃ m',m' < m/\W (i+1) m' acc' σ' H') /\
  ∀ x H',(Itr lo n).yld i H x H'->g x σ H' fun σ2 H2=>tt σ2 H2 fun b H3=>if b=true then te σ2 H3 fun y H4=>N (acc++[y]) σ2 H4 else N acc σ2 H3)
theorem xA:qS (AV8 K ta) ix g tt te σ H Q=ta σ H (fun x H1=>∃ a,x=.ref a/\(∃ xs,SqL K H1 a xs)/\CompL K a g tt te Q (wY ix σ) H1):=rfl
theorem xB:qS (AV9 tr) ix g tt te σ H Q=tr σ H (fun vs H1=>∃ j:Int,vs=[.int j]/\-(2 ^ 62)<=j/\j < 2 ^ 62/\CompR 0 j.toNat g tt te Q (wY ix σ) H1):=rfl
theorem xC:qS (BF3 tr) ix g tt te σ H Q=tr σ H (fun vs H1=>∃ i j:Int,vs=[.int i,.int j]/\(-(2 ^ 62)<=i/\i < 2 ^ 62/\-(2 ^ 62)<=j/\j < 2 ^ 62)/\CompR i (j - i).toNat g tt te Q (wY ix σ) H1):=rfl
theorem AZ5:BS2 σ H QB=QB true H:=rfl
theorem xD:wY [] σ=[]:=rfl
theorem xE:wY (none::ix) σ=none::wY ix σ:=rfl
theorem xF {j:Nat}:wY (some j::ix) σ=((σ[j]?).getD none)::wY ix σ:=rfl
theorem BO6 {T:String}{r:V->List V->Hp->VK->Prop}:tBM K T r ta tr σ H Q=ta σ H (fun x H1=>tyV K T x H1/\tr σ H1 (fun xs H2=>r x xs H2 Q)):=rfl
theorem AZ6 {T:String}{r:V->List V->Hp->VK->Prop}:BR6 K T r ta σ H Q=ta σ H (fun x H1=>tyV K T x H1/\r x [] H1 Q):=rfl
theorem AZ7 {u:Str}:tyV K "str" (.str u) H=True:=by simp [tyV]
theorem AI0 {u v:Str}:(∃ i j,V.str u=.str i/\V.str v=.str j/\i.length+j.length<=sizeLine/\Q (.str (i++j)) H)=(u.length+v.length<=sizeLine/\Q (.str (u++v)) H):=by simp
theorem AZ8 {u:Str}{lo hi:Option Int}:BO4 (.str u) lo hi H Q=(u.length<=sizeLine/\Q (.str (Txt.slice u lo hi)) H):=by simp [BO4]
theorem AI1 {X:Cx}{N:List Str}{scope:Scope}{cl:List (Str × Addr)}{C:Addr}{s:Shared}{fp:List Addr}:(blk X N scope cl C s H fp).K=X.K:=rfl
theorem CompL.by {a:Addr}{xs:List V}(Pv:Nat->List V->L2.St->Hp->Prop)(hz:xs.length<=sizeLine)(h0:Pv 0 [] σ H)(hl:∀ i acc σ H,i<=xs.length->Pv i acc σ H->SqL K H a xs)(hs:∀ i x acc σ H,xs[i]?=some x->Pv i acc σ H->g x σ H fun σ2 H2=>tt σ2 H2 fun b H3=>if b=true then te σ2 H3 fun y H4=>Pv (i+1) (acc++[y]) σ2 H4 else Pv (i+1) acc σ2 H3)(hacc:∀ i acc σ H,Pv i acc σ H->acc.length<=i)(hd:∀ acc σ H,Pv xs.length acc σ H->∀ D,H D=none->Q (.ref D) (L2.upd H D (.lst acc))):CompL K a g tt te Q σ H:=AH9 Pv hz h0 hl hs hacc hd
theorem CompR.by {lo:Int}{n:Nat}(Pv:Nat->List V->L2.St->Hp->Prop)(hz:n<=sizeLine)(h0:Pv 0 [] σ H)(hs:∀ i acc σ H,i < n->Pv i acc σ H->g (.int (lo+i)) σ H fun σ2 H2=>tt σ2 H2 fun b H3=>if b=true then te σ2 H3 fun y H4=>Pv (i+1) (acc++[y]) σ2 H4 else Pv (i+1) acc σ2 H3)(hacc:∀ i acc σ H,Pv i acc σ H->acc.length<=i)(hd:∀ acc σ H,Pv n acc σ H->∀ D,H D=none->Q (.ref D) (L2.upd H D (.lst acc))):CompR lo n g tt te Q σ H:=AC0 Pv hz h0 hs hacc hd
theorem ixs {u:Str}{k:Int}{c:Nat}(hz:u.length<=sizeLine)(hv:atI u.cps.toList k=some c)(q:Q (.str ⟨#[c]⟩) H):BR4 (.str u) (.int k) H Q:=⟨u,k,c,rfl,rfl,hz,hv,q⟩
end
theorem qT {X:Cx}{x:Str}(h:X.env.kindOf x=some .globalImplicit):Gl X x:=h
def BO7 (xs:List Str):TA:=fun _ H Q=>Q (xs.map V.str) H
theorem AI2 {xs:List Str}{σ:L2.St}{H:Hp}{Q:List V->Hp->Prop}:BO7 xs σ H Q=Q (xs.map V.str) H:=rfl
def Well3 (H:Hp)(w:Addr):Prop:=∃ a b c:Int,H w=some (.lst [.int a,.int b,.int c])
theorem Well3.same {H H':Hp}{w:Addr}(W:Well3 H w)(s:Same H H'):Well3 H' w:=by
 obtain ⟨a,b,c,h⟩:=W
 exact ⟨a,b,c,s _ _ h⟩
theorem Well3.ne {H:Hp}{w p:Addr}(W:Well3 H w)(h:H p=none):p≠w:=by
 obtain ⟨a,b,c,e⟩:=W
 exact (aP e h).symm
def aY (u:Str):Prop:=1<=u.length/\u.length<=8/\∀ c∈u.cps.toList,97<=c/\c<=122
instance (u:Str):Decidable (aY u):=by unfold aY; infer_instance
def letters:Str:="abcdefghijklmnopqrstuvwxyz"
theorem AI3 {i:Int}(h0:0<=i)(h1:i < 26):∃ c,atI letters.cps.toList i=some c/\97<=c/\c<=122:=by
 have h:∀ k:Fin 26,∃ c,c < 123/\atI letters.cps.toList ((k.val:Nat):Int)=some c/\97<=c/\c<=122:=by
  intro k
  refine ⟨97+k.val,?_⟩
  revert k
  decide +kernel
 obtain ⟨c,_,e,q⟩:=h ⟨i.toNat,by omega⟩
 have e2:((i.toNat:Nat):Int)=i:=by omega
 rw [e2] at e
 exact ⟨c,e,q⟩
def w8:Str:="bcdefghi"
def axz:Str:="axz"
theorem AZ9 {r:Int}(h0:0<=r)(h1:r < 8):(Txt.slice w8 none (some (1+r))).length=(r+1).toNat:=by
 have h:∀ k:Fin 8,(Txt.slice w8 none (some (1+((k.val:Nat):Int)))).length=k.val+1:=by decide +kernel
 have q:=h ⟨r.toNat,by omega⟩
 have e2:((r.toNat:Nat):Int)=r:=by omega
 rw [e2] at q
 rw [q]
 show r.toNat+1=(r+1).toNat
 omega
theorem AP1 {r a k:Int}(h0:0<=r)(h1:r < 8)(a0:0<=a)(a1:a < r+1)(k0:0<=k)(k1:k < 3):∃ c,atI axz.cps.toList k=some c /\
  aY (Txt.slice (Txt.slice w8 none (some (1+r))) none (some a)++⟨#[c]⟩++Txt.slice (Txt.slice w8 none (some (1+r))) (some (a+1)) none):=by
 have h:∀ (r a:Fin 8) (k:Fin 3),a.val < r.val+1->∃ c∈[97,120,122],atI axz.cps.toList ((k.val:Nat):Int)=some c /\
  aY (Txt.slice (Txt.slice w8 none (some (1+((r.val:Nat):Int)))) none (some ((a.val:Nat):Int))++⟨#[c]⟩++Txt.slice (Txt.slice w8 none (some (1+((r.val:Nat):Int)))) (some (((a.val:Nat):Int)+1)) none):=by decide +kernel
 obtain ⟨c,_,q⟩:=h ⟨r.toNat,by omega⟩ ⟨a.toNat,by omega⟩ ⟨k.toNat,by omega⟩ (by show a.toNat < r.toNat+1; omega)
 have e1:((r.toNat:Nat):Int)=r:=by omega
 have e2:((a.toNat:Nat):Int)=a:=by omega
 have e3:((k.toNat:Nat):Int)=k:=by omega
 rw [e1,e2,e3] at q
 exact ⟨c,q⟩
theorem pO (u:Str)(h:u.length<=8)(l r:Option Int):(Txt.slice u l r).length<=8:=Nat.le_trans (Txt.slice_le u l r) h
theorem zN:∀ ts:List Str,(∀ t∈ts,∃ c,t=⟨#[c]⟩/\97<=c/\c<=122)->(Str.join Str.empty ts).length=ts.length/\∀ c∈(Str.join Str.empty ts).cps.toList,97<=c/\c<=122
 | [],_=>⟨rfl,fun c hc=>by cases hc⟩
 | [x],h=>by
  obtain ⟨c,rfl,q⟩:=h x List.mem_cons_self
  refine ⟨rfl,fun c' hc=>?_⟩
  have e:c'=c:=by simpa [Str.join] using hc
  subst e
  exact q
 | x::y::r,h=>by
  obtain ⟨i1,i2⟩:=zN (y::r) fun t ht=>h t (List.mem_cons_of_mem _ ht)
  obtain ⟨c,rfl,q⟩:=h x List.mem_cons_self
  show ((⟨#[c]⟩:Str)++Str.empty++Str.join Str.empty (y::r)).length=_/\∀ c'∈((⟨#[c]⟩:Str)++Str.empty++Str.join Str.empty (y::r)).cps.toList,_
  refine ⟨?_,fun c' hc=>?_⟩
  ·rw [Str.length_append,Str.length_append,i1]
   show 1+0+(y::r).length=(y::r).length+1
   omega
  ·have hc':c'∈((#[c]++#[])++(Str.join Str.empty (y::r)).cps).toList:=hc
   rw [Array.toList_append] at hc'
   rcases List.mem_append.mp hc' with z | z
   ·have e:c'=c:=by simpa using z
    subst e
    exact q
   ·exact i2 c' z
theorem AI4 {ts:List Str}(h:∀ t∈ts,∃ c,t=⟨#[c]⟩/\97<=c/\c<=122)(h1:1<=ts.length)(h8:ts.length<=8):JoinOk Str.empty ts=true/\aY (Txt.join Str.empty ts):=by
 obtain ⟨i1,i2⟩:=zN ts h
 have hj:Txt.join Str.empty ts=Str.join Str.empty ts:=StrLaws.glued_eq_join _ _
 refine ⟨?_,?_⟩
 ·unfold JoinOk Builtin.Str.tooLong
  rw [StrLaws.joinTotal]
  have hs:∀ l:List Str,(∀ t∈l,∃ c,t=⟨#[c]⟩/\97<=c/\c<=122)->(l.map (·.length)).sum=l.length:=by
   intro l
   induction l with
   | nil=>intro _; rfl
   | cons x r ih =>
    intro hl
    obtain ⟨c,rfl,_⟩:=hl x List.mem_cons_self
    rw [List.map_cons,List.sum_cons,ih fun t ht=>hl t (List.mem_cons_of_mem _ ht),List.length_cons]
    show 1+r.length=r.length+1
    omega
  rw [hs ts h]
  have e:Str.empty.length=0:=rfl
  rw [e]
  have z:(1000:Nat) < sizeLine:=by decide
  rw [Bool.not_eq_true',decide_eq_false_iff_not]
  omega
 ·rw [hj]
  exact ⟨by omega,by omega,i2⟩
structure CalC (P:Program) (w:World) (K:Frag) (mg:Str->Option Value) (base:Heap) (x:Str) (C:Addr) (ps:List Str) (k:Nat) (sp:Sp):Prop where
 ex:∃ f fd,FnOk P w K mg base (CXF P w) k f fd ps sp/\Binds K fd ps []/\Mk K C f/\mg x=some (.ref C)
structure CalM (P:Program) (w:World) (K:Frag) (mg:Str->Option Value) (base:Heap) (C:Addr) (m:Str) (ps:List Str) (k:Nat) (sp:Sp):Prop where
 ex:∃ f fd,FnOk P w K mg base (CXF P w) k f fd ps sp/\Binds K fd ps []/\Meth K C m f/\Cls K C
section
variable {X:Cx}{x m:Str}{C:Addr}{ps:List Str}{k:Nat}{sp:Sp}{e o:Expr}{es:List Expr}{ta:TE}{t:TA}{p pos apos:Pos}{E:XK}
theorem oC (c:CalC X.prog X.w X.K X.mg X.base x C ps k sp)(hx:kK (CXF X.prog X.w) X E)(hr:Room (k+1) X.A)(hg:Gl X x)(ha:PA X (e::es) t)(hdb:(x == ("__debug__":Str))=false:=by decide)(he:starEach (e::es) X.env=(false,eval e X.env)::starEach es X.env:=by rfl)(hpl:(backTo pos (starEach es X.env)).any (·.1)=false:=by rfl) :
  PE X (.Call (.Name x p) (e::es) [] pos) (AW7 C sp [] E t):=by
 obtain ⟨f,fd,F,b,M,hm⟩:=c.ex
 exact AW8 M F hr hg hm b .nil hx ha hdb he hpl
def AT8 (Mm:Addr->Sp->Prop)(m:Str)(E:XK)(ta:TE)(t:TA):TE:=fun σ H Q=>ta σ H fun x H1=>∃ a C dx fs sp,x=.ref a/\H1 a=some (.ins C dx fs)/\fs.lookup m=none/\Mm C sp /\
 t σ H1 fun vs H2=>sp (x::vs) H2 Q E
theorem xG {Mm:Addr->Sp->Prop}{σ:L2.St}{H:Hp}{Q:VK}:AT8 Mm m E ta t σ H Q=ta σ H (fun x H1=>∃ a C dx fs sp,x=.ref a/\H1 a=some (.ins C dx fs)/\fs.lookup m=none/\Mm C sp /\
 t σ H1 fun vs H2=>sp (x::vs) H2 Q E):=rfl
theorem cW {pl:Sem Bool}{Mm:Addr->Sp->Prop}(he:PE X o ta)(hM:∀ C sp,Mm C sp->CalM X.prog X.w X.K X.mg X.base C m ps k sp)(hx:kK (CXF X.prog X.w) X E)(hr:Room k X.A)(ht:eval (.Call (.Attribute o m apos) [] [] pos) X.env=(do
   let ov <- eval o X.env
   standAt apos.atName
   let (f,first) <- holding [ov] (getMethod ov m pl)
   callWith pos f first (backTo pos (starEach [] X.env)) (backToKw pos (keywordEach [] X.env))):=by rfl) :
  PE X (.Call (.Attribute o m apos) [] [] pos) (AT8 Mm m E ta BK6):=by
 intro pins s σ H Q I h
 refine methodCall_KW (pl:=pl) (thn (he pins s σ H _ I h) fun u s1 ⟨x,H1,I1,rx,a,C,dx,fs,sp,ex,ea,l,hC,q⟩=>?_) ht
 subst ex
 obtain rfl:u=Value.ref a:=rx
 obtain ⟨f,fd,F,b,hm,c⟩:=(hM C sp hC).ex
 refine AB3 I1 ea c hm l ?_
 exact callWith_K0 (first:=[.ref a]) I1.kIn hm.kp (AS9 (us:=[.ref a]) (vs:=[.ref a]) F hr b .nil hx I1 (.cons rfl .nil) q)
structure MkN (K:Frag) (C:Addr):Prop where
 makes:makesIn K C=true
 init:findIn K (.ref C) "__init__"=some (some (.builtin "object.__init__"))
 kp:keepIn K (.ref C)=true
def AT9 (C:Addr):TE:=fun _ H Q=>∀ x dx,H x=none->H dx=none->dx≠x->Q (.ref x) (L2.upd (L2.upd H dx (.own x)) x (.ins C dx []))
theorem xH {σ:L2.St}{H:Hp}{Q:VK}:AT9 C σ H Q=∀ x dx,H x=none->H dx=none->dx≠x->Q (.ref x) (L2.upd (L2.upd H dx (.own x)) x (.ins C dx [])):=rfl
theorem BA0 (M:MkN X.K C)(hg:Gl X x)(hm:X.mg x=some (.ref C))(hdb:(x == ("__debug__":Str))=false:=by decide):PE X (.Call (.Name x p) [] [] pos) (AT9 C):=by
 intro pins s σ H Q I h
 refine wpAny_Call_Name_kw (iD I hg hm ?_ hdb)
 refine callWith_K0 I.kIn M.kp ?_
 have hq:=h (s.heap.objs.size+1) s.heap.objs.size (I.hok.fresh (Nat.le_succ _)) (I.hok.fresh (Nat.le_refl _)) (Nat.ne_of_lt (Nat.lt_succ_self _))
 have I2:=Inv.made (C:=C) I
 have Y:=makes_of (M:=model X.prog X.w) I.kIn M.makes
 refine wpAny_call (AE7 I.kIn M.makes M.init (fun self=>Looks.of_pure (oi_bind self)) ?_)
 obtain ⟨hh,g,d,tt,os⟩:=s
 have t1:Looks (model X.prog X.w) ((hh.push emptyDict).push (instObj C hh.objs.size)) (typeOf (.ref (hh.objs.size+1))) (.ref C):=by
  obtain ⟨mA,O,_⟩:=pK (a:=hh.objs.size+1) (C:=C) (dx:=hh.objs.size) (fs:=[]) I2.hok aA
  obtain ⟨od,J,_⟩:=O.look
  exact J.type
 have t2:Looks (model X.prog X.w) ((hh.push emptyDict).push (instObj C hh.objs.size)) (isInstance (.ref (hh.objs.size+1)) (.type "object")) true :=
  t1.andThen (Y.top.keeps fun b o e=>Heap.get?_push_of_some _ (Heap.get?_push_of_some _ e))
 refine codeAny_call_builtin oi_plain entry_oi (@check_slot (model X.prog X.w) _ _ _ "object.__init__" "object" "__init__" (.ref (hh.objs.size+1)) [] [] _ oi_kind oi_split t2 (oi_args (.ref (hh.objs.size+1))) ?_)
 rw [oi_run]
 exact wpAny_pure (And.intro rfl ⟨V.ref (hh.objs.size+1),_,I2,rfl,hq⟩)
end
def BH2 (K:Frag):List V->Hp->VK->Prop:=fun xs H Q=>∃ (x:V) (c:Addr) (t:Value) (b:Bool),xs=[x,.ref c]/\TyOf K H x t/\kitOne K t (.ref c)=some b/\Q (.bl b) H
theorem AI5 {X:Cx}:CallR X (.builtin "isinstance") (BH2 X.K):=by
 intro pins s σ H xs us Q I r h
 obtain ⟨x,c,t,b,rfl,ty,e,q⟩:=h
 obtain ⟨u,w',rfl,rx,rc⟩:=AW3 r
 cases (show w'=Value.ref c from rc)
 exact pL I rx ty e fun tk=>⟨.bl b,H,I.tok _,rfl,q⟩
section
variable {X:Cx}
end
section
variable {K:Frag}{C:Addr}{sp:Sp}{dvs:List V}{E:XK}{ta tv:TE}{t:TA}{f:Str}{σ:L2.St}{H:Hp}{Q:VK}{D:Ends}{n:Nat}{ts:TGs}{v:V}{QS:L2.St->Hp->Prop}{g:TG}
theorem AI6:AW7 C sp dvs E t σ H Q=t σ H (fun vs H1=>∀ x dx,H1 x=none->H1 dx=none->dx≠x ->
 sp (.ref x::(vs++dvs)) (L2.upd (L2.upd H1 dx (.own x)) x (.ins C dx [])) (fun v H2=>v=.non/\Q (.ref x) H2) E):=rfl
theorem BA1:BL8 K ta f σ H Q=ta σ H (fun x H1=>∃ a C dx fs v,x=.ref a/\H1 a=some (.ins C dx fs)/\Cls K C/\NoAttr K C f/\fs.lookup f=some v/\Q v H1):=rfl
theorem AI7:BQ7 K n ts v σ H QS=∃ a xs,v=.ref a/\SqT K H a xs/\xs.length=n/\ts xs σ H QS:=rfl
theorem xI {vs:List V}:BF0 g ts vs σ H QS=∃ v r,vs=v::r/\g v σ H (fun σ' H'=>ts r σ' H' QS):=rfl
theorem AI8:BR0 K ta tv f D σ H=tv σ H (fun y H1=>ta σ H1 (fun x H2=>∃ a C dx fs,x=.ref a/\H2 a=some (.ins C dx fs)/\Cls K C/\NoAttr K C f/\fs.length < 1000 /\
 D.nx σ (L2.upd H2 a (.ins C dx (rG f y fs))))):=rfl
theorem AI9 {vs:List V}:BQ6 vs σ H QS=(vs=[]/\QS σ H):=rfl
end
section
variable {X:Cx}{x:Str}{ps:List Str}{k:Nat}{sp:Sp}{p pos:Pos}
end
theorem FnOk.lift {P:Program}{w:World}{K:Frag}{mg:Str->Option Value}{base:Heap}{CX:CXT}{j k:Nat}{f:Addr}{fd:FuncData}{ps:List Str}{sp:Sp}(F:FnOk P w K mg base CX j f fd ps sp)(h:j<=k):FnOk P w K mg base CX k f fd ps sp :=
 ⟨F.len,fun A outer s H args us vs Q E hr he hb hv hs=>F.run A outer s H args us vs Q E (hr.mono h) he hb hv hs⟩
theorem cZ {H:Hp}{x dx:Addr}{o o':HO}(hx:H x=none)(hd:H dx=none):Same H (L2.upd (L2.upd H dx o) x o'):=fun b u q=>by
 rw [aN (aP q hx),aN (aP q hd)]
 exact q
structure ClsK (K:Frag) (C:Addr):Prop where
 cl:Cls K C
 ha:findIn K (.ref C) "__class__"=some (some (.builtin "object.__class__"))
 hn:specialIn K (.builtin "object.__class__") "__get__"=some (some (.builtin "getset_descriptor.__get__"))
 ht:takesIn K (.builtin "object.__class__")=some true
 hm:mroIn K C (.type "object")=some true
theorem ClsK.ty {K:Frag}{C:Addr}(c:ClsK K C){H:Hp}{a dx:Addr}{fs:List (Str × V)}(e:H a=some (.ins C dx fs)):TyOf K H (.ref a) (.ref C):=.ins e c.cl c.ha c.hn c.ht c.hm
theorem dX {X:Cx}{K:Frag}(hK:X.K=K):CallR X (.builtin "isinstance") (BH2 K):=by
 subst hK
 exact AI5
def vC:Expr->Bool
 | .Starred _ _=>true
 | _=>false
theorem aB:∀ (e:Expr) (es:List Expr) (env:Env),vC e=false->starEach (e::es) env=(false,eval e env)::starEach es env:=by
 intro e es env h
 cases e <;> first | rfl | (cases h)
def zO:List Expr->Bool
 | []=>true
 | e::r=>!vC e && zO r
theorem aG {pos:Pos}{env:Env}:∀ {es:List Expr},zO es=true->(backTo pos (starEach es env)).any (·.1)=false
 | [],_=>rfl
 | e::r,h=>by
  have h':(!vC e)=true/\zO r=true:=by simpa [zO] using h
  rw [aB e r env (by simpa using h'.1)]
  have ih:=aG (pos:=pos) (env:=env) h'.2
  have e1:backTo pos ((false,eval e env)::starEach r env)=(false,eval e env)::backTo pos (starEach r env):=rfl
  rw [e1,List.any_cons,ih]
  rfl
theorem BT0 {X:Cx}{e:Expr}{es:List Expr}{te:TE}{t:TA}(ha:PE X e te)(hr:PA X es t)(hs:vC e=false:=by rfl):PA X (e::es) (AO2 te t):=AW6 ha hr (aB e es X.env hs)
structure QA (X:Cx) (es:List Expr) (t:TA):Prop where
 h:PA X es t
theorem aD {X:Cx}:QA X [] BK6:=⟨BF8⟩
theorem aO {X:Cx}{e:Expr}{es:List Expr}{te:TE}{t:TA}(ha:PE X e te)(hr:QA X es t)(hs:vC e=false:=by rfl):QA X (e::es) (AO2 te t):=⟨BT0 ha hr.h hs⟩
theorem aJ {X:Cx}{es:List Expr}{t:TA}(h:QA X es t):PA X es t:=h.h
def AJ0:V->Bool
 | .int _=>true
 | _=>false
def AP2 (x:V)(lo:Int):Bool:=match x with
 | .int i=>decide (lo<=i)
 | _=>false
theorem okV.same {H H':Hp}{x:V}(h:okV H x)(s:Same H H'):okV H' x:=by
 cases x with
 | ref a =>
  rcases h with ⟨xs,e⟩ | ⟨xs,e⟩
  ·exact .inl ⟨xs,s _ _ e⟩
  ·exact .inr ⟨xs,s _ _ e⟩
 | non=>trivial
 | bl _=>trivial
 | int _=>trivial
 | str _=>trivial
 | _=>exact h.elim
theorem okV.lst {H:Hp}{p:Addr}{xs:List V}(h:H p=some (.lst xs)):okV H (.ref p):=.inl ⟨_,h⟩
theorem okV.tup {H:Hp}{p:Addr}{xs:List V}(h:H p=some (.tup xs)):okV H (.ref p):=.inr ⟨_,h⟩
def BO8 (t u:TS):TS:=fun D σ H=>∃ M:L2.St->Hp->Prop,t { D with nx:=M } σ H/\∀ σ' H',M σ' H'->u D σ' H'
theorem BA2 {t u:TS}{D:Ends}{σ:L2.St}{H:Hp}:BO8 t u D σ H=∃ M:L2.St->Hp->Prop,t { D with nx:=M } σ H/\∀ σ' H',M σ' H'->u D σ' H':=rfl
theorem BA3 {X:Cx}{st:Stmt}{rest:List Stmt}{t u:TS}(h1:PS X st t)(h2:PSs X rest u):PSs X (st::rest) (BO8 t u):=by
 intro pins s σ H D I h
 obtain ⟨M,ha,hb⟩:=h
 refine wpAny_execs_cons (thn (h1 pins s σ H { D with nx:=M } I ha) fun f s1 q=>?_)
 cases f with
 | next =>
  obtain ⟨σ',H',I',q⟩:=q
  exact h2 pins s1 σ' H' D I' (hb _ _ q)
 | ret v=>exact q
 | brk=>exact q
 | cont=>exact q
def hV (u:Str):Bool:=u.cps.all (· < 128)
def Its (u:Str):It:=⟨fun i _=>i < u.cps.size,fun i H x H'=>H'=H/\∃ c,u.cps[i]?=some c/\x=.str ⟨#[c]⟩,fun i _=>u.cps.size<=i⟩
theorem AP3 {P:Program}{w:World}{K:Frag}{tg:Expr}(u:Str)(t:Tok)(it:Addr):Turn P w K tg (Its u) [it] it (fun i h=>h.IsStrIter it "str_ascii_iterator" u t i) where
 mem:=by simp
 obj:=fun i h st b hb=>by
  have e:b=it:=by simpa using hb
  subst e
  obtain ⟨o,e,c,d⟩:=st
  exact ⟨o,e,fun v z=>by rw [d] at z; cases z⟩
 keep:=fun i h h' st k=>by
  obtain ⟨o,e,c,d⟩:=st
  exact ⟨o,k it (by simp) o e,c,d⟩
 item:=by
  intro X hP hw hK hc i pins s σ H E I hf st hg
  subst hP hw hK
  have hx:u.cps[i]?=some u.cps[i]:=Array.getElem?_eq_getElem hg
  obtain ⟨f0,f1,f2,f3,f4,f5⟩:=hf it (by simp)
  refine wpAny_pyNext_ascii_item st hx fun h' st' sb=>?_
  have I1:Inv X pins σ H { s with heap:=h',toks:=s.toks+1 }:=I.turned (t':=s.toks+1) (fun b o hb e=>(sb.2 b hb).trans e) f0 f1 f3 f4 f5
  obtain ⟨o,e,c,d⟩:=id st'
  exact ⟨_,rfl,AN5 (s:={ s with heap:=h',toks:=s.toks+1 }) e c d (by decide) ⟨.str ⟨#[u.cps[i]]⟩,H,I1,⟨_,rfl⟩,⟨rfl,_,hx,rfl⟩,st',fun b hb=>(hf b hb).1⟩⟩
 done:=by
  intro X hP hw hK hc i pins s σ H E I hf st hg
  subst hP hw hK
  obtain ⟨f0,f1,f2,f3,f4,f5⟩:=hf it (by simp)
  exact wpAny_pyNext_ascii_end (I.ok.hd hc) st (Array.getElem?_eq_none hg) fun h' eb=>⟨rfl,I.turned (t':=s.toks) (fun b o hb e=>eb b o hb e) f0 f1 f3 f4 f5⟩
 self:=fun _ _ _ _ _ st h=>wpAny_pyIter_striter_ascii st h
def BS3 (tl:TE):TI:=fun σ H R=>tl σ H fun x H1=>∃ u,x=.str u/\hV u=true/\R (Its u) H1
theorem zP {X:Cx}{tg l:Expr}{tl:TE}(hl:PE X l tl):PI X tg l (BS3 tl):=by
 intro pins s σ H R I h
 refine thn (hl pins s σ H _ I h) fun v s1 ⟨x,H1,I1,r1,q1⟩=>?_
 obtain ⟨u,e,hp,q⟩:=q1
 subst e
 obtain ⟨t,rfl⟩:=r1
 refine wpAny_pyIter_ascii hp ?_
 refine ⟨s1.heap.objs.size,[s1.heap.objs.size],_,_,H1,rfl,I1.kept (t':=s1.toks) fun b o e=>Heap.get?_push_of_some _ e,AP3 u t _,⟨_,Heap.get?_push_size _ rfl,rfl,rfl⟩,fun b hb=>?_,q⟩
 have e:b=s1.heap.objs.size:=by simpa using hb
 subst e
 exact I1.fpOk (Nat.le_refl _) (I1.hok.fresh (Nat.le_refl _))
section
variable {K:Frag}{ta te:TE}{ix:List (Option Nat)}{g:TG}{tt:TT}{σ:L2.St}{H:Hp}{Q:VK}
def CompS (u:Str)(g:TG)(tt:TT)(te:TE)(Q:VK)(σ:L2.St)(H:Hp):Prop:=∃ W:Nat->Nat->List V->L2.St->Hp->Prop,(∃ m,W 0 m [] σ H)/\∀ i m acc σ H,W i m acc σ H ->
 ((Its u).stop i H/\∀ D,H D=none->Q (.ref D) (L2.upd H D (.lst acc))) \/
 ((Its u).go i H/\acc.length < sizeLine/\∃ N:List V->L2.St->Hp->Prop,(∀ acc' σ' H',N acc' σ' H'->∃ m',m' < m/\W (i+1) m' acc' σ' H') /\
  ∀ x H',(Its u).yld i H x H'->g x σ H' fun σ2 H2=>tt σ2 H2 fun b H3=>if b=true then te σ2 H3 fun y H4=>N (acc++[y]) σ2 H4 else N acc σ2 H3)
theorem xJ:qS (BS3 ta) ix g tt te σ H Q=ta σ H (fun x H1=>∃ u,x=.str u/\hV u=true/\CompS u g tt te Q (wY ix σ) H1):=rfl
theorem CompS.by {u:Str}(Pv:Nat->List V->L2.St->Hp->Prop)(hz:u.cps.size<=sizeLine)(h0:Pv 0 [] σ H)(hs:∀ i c acc σ H,u.cps[i]?=some c->Pv i acc σ H->g (.str ⟨#[c]⟩) σ H fun σ2 H2=>tt σ2 H2 fun b H3=>if b=true then te σ2 H3 fun y H4=>Pv (i+1) (acc++[y]) σ2 H4 else Pv (i+1) acc σ2 H3)(hacc:∀ i acc σ H,Pv i acc σ H->acc.length<=i)(hd:∀ acc σ H,Pv u.cps.size acc σ H->∀ D,H D=none->Q (.ref D) (L2.upd H D (.lst acc))):CompS u g tt te Q σ H:=by
  refine ⟨fun i m acc σ H=>m=u.cps.size - i/\i<=u.cps.size/\Pv i acc σ H,⟨u.cps.size,by simp,Nat.zero_le _,h0⟩,?_⟩
  rintro i m acc σ H ⟨rfl,hi,p⟩
  have ha:=hacc i acc σ H p
  by_cases hlt:i < u.cps.size
  · refine .inr ⟨hlt,by omega,Pv (i+1),fun acc' σ' H' p'=>⟨u.cps.size - (i+1),by omega,rfl,hlt,p'⟩,fun x H' y=>?_⟩
    obtain ⟨e,c,hc,y⟩:=y
    subst e y
    exact hs i c acc σ _ hc p
  · have e:i=u.cps.size:=by omega
    subst e
    exact .inl ⟨Nat.le_refl _,hd acc σ H p⟩
end
theorem zQ:∀ {bs:List Bool}{its:List Value},Vals (bs.map V.bl) its->∀ (i:Nat) (v:Value),its[i]?=some v->∃ b:Bool,bs[i]?=some b/\v=Value.bool b
 | [],_,r,i,v,h=>by
  rw [List.map_nil] at r
  cases r
  simp at h
 | b::bs,_,r,i,v,h=>by
  rw [List.map_cons] at r
  cases r with
  | cons r1 r2 =>
   cases i with
   | zero =>
    simp at h
    subst h
    exact ⟨b,rfl,r1⟩
   | succ i=>exact zQ r2 i v (by simpa using h)
theorem sP {X:Cx}(hc:X.calm=true):CallR X (.builtin "all") (fun xs H Q=>∃ (a:Addr) (bs:List Bool),xs=[.ref a]/\SqL X.K H a (bs.map V.bl)/\Q (.bl (bs.all id)) H):=by
 intro pins s σ H xs us Q I r h
 obtain ⟨a,bs,rfl,hS,q⟩:=h
 obtain ⟨u,rfl,ru⟩:=qR r
 cases ru
 obtain ⟨its,rv,pl,hz⟩:=I.list hS
 have hl:s.heap.IsList a its.toArray:=pl.isList
 have hlt:a < s.heap.objs.size:=by obtain ⟨_,e,_⟩:=hl; exact Heap.lt_size e
 refine call_all_walk (wpAny_pyIter_list hl ?_)
 refine ⟨s.heap.objs.size,[s.heap.objs.size,a],[s.heap.objs.size],its.toArray.size,_,_,fun i=>(bs[i]?).getD true,rfl,Walks.list (A:=X.A.in1) (I.ok.hd hc) _ a (Nat.ne_of_lt hlt) its.toArray,
  ⟨⟨_,Heap.get?_push_size _ rfl,rfl,rfl⟩,hl.push _⟩,fun i v s' Q' E' hP hQ=>?_,fun h' tk hk=>?_⟩
 ·obtain ⟨b,e,rfl⟩:=zQ rv i v (by simpa using hP)
  simp only [e,Option.getD_some] at hQ
  exact wpAny_truthy_bool hQ
 ·have hn:its.toArray.size=bs.length:=by
   have:=rv.length
   rw [List.length_map] at this
   simpa using this.symm
  have e:((List.range its.toArray.size).all fun i=>(bs[i]?).getD true)=bs.all id:=by
   rw [hn,Bool.eq_iff_iff,List.all_eq_true,List.all_eq_true]
   constructor
   ·intro z b hb
    obtain ⟨i,hi,rfl⟩:=List.getElem_of_mem hb
    have:=z i (List.mem_range.mpr hi)
    simpa [List.getElem?_eq_getElem hi] using this
   ·intro z i hi
    have hi':=List.mem_range.mp hi
    simp only [List.getElem?_eq_getElem hi',Option.getD_some]
    exact z _ (List.getElem_mem hi')
  rw [e]
  refine ⟨.bl _,H,I.kept (t':=tk) fun b o eb=>hk b o (fun hm=>by rw [List.mem_singleton.mp hm] at eb; exact Nat.lt_irrefl _ (Heap.lt_size eb)) (Heap.get?_push_of_some _ eb),rfl,q⟩
def okN (H:Hp):V->Prop
 | .non=>True
 | .bl _=>True
 | .int _=>True
 | .str u=>hV u=true/\u.length<=1000
 | .ref a=>(∃ xs,H a=some (.lst xs))\/(∃ xs,H a=some (.tup xs))\/∃ kvs,H a=some (.dK kvs)
 | _=>False
def pP:V->Bool
 | .str _=>true
 | _=>false
theorem okN.ty {K:Frag}{H:Hp}{x:V}(h:okN H x):∃ T,TyOf K H x (.type T)/\kitOne K (.type T) (.type "str")=some (pP x):=by
 cases x with
 | non=>exact ⟨_,.non,by kernel_rfl⟩
 | bl b=>exact ⟨_,.bl b,by kernel_rfl⟩
 | int i=>exact ⟨_,.int i,by kernel_rfl⟩
 | str i=>exact ⟨_,.str i,by kernel_rfl⟩
 | ref a =>
  rcases h with ⟨xs,e⟩ | ⟨xs,e⟩ | ⟨xs,e⟩
  ·exact ⟨_,.lst e,by kernel_rfl⟩
  ·exact ⟨_,.tup e,by kernel_rfl⟩
  ·exact ⟨_,.dK e,by kernel_rfl⟩
 | _=>exact h.elim
theorem vD {X:Cx}:CallR X (.builtin "isinstance") (fun xs H Q=>∃ x,xs=[x,.ty "str"]/\okN H x/\Q (.bl (pP x)) H):=by
 intro pins s σ H xs us Q I r h
 obtain ⟨x,rfl,ok,q⟩:=h
 obtain ⟨T,ty,e⟩:=ok.ty (K:=X.K)
 exact AX0 I r ty e q
theorem okN.same {H H':Hp}{x:V}(h:okN H x)(s:Same H H'):okN H' x:=by
 cases x with
 | ref a =>
  rcases h with ⟨xs,e⟩ | ⟨xs,e⟩ | ⟨xs,e⟩
  ·exact .inl ⟨xs,s _ _ e⟩
  ·exact .inr (.inl ⟨xs,s _ _ e⟩)
  ·exact .inr (.inr ⟨xs,s _ _ e⟩)
 | non=>trivial
 | bl _=>trivial
 | int _=>trivial
 | str _=>exact h
 | _=>exact h.elim
theorem okN.but {H H':Hp}{x:V}{w:Addr}(h:okN H x)(W:Well3 H' w)(s:But w H H'):okN H' x:=by
 cases x with
 | ref a =>
  by_cases ha:a=w
  ·obtain ⟨b,c,d,q⟩:=W
   exact .inl ⟨_,by rw [ha]; exact q⟩
  ·rcases h with ⟨xs,e⟩ | ⟨xs,e⟩ | ⟨xs,e⟩
   ·exact .inl ⟨xs,s _ _ ha e⟩
   ·exact .inr (.inl ⟨xs,s _ _ ha e⟩)
   ·exact .inr (.inr ⟨xs,s _ _ ha e⟩)
 | non=>trivial
 | bl _=>trivial
 | int _=>trivial
 | str _=>exact h
 | _=>exact h.elim
def jC:V->Bool
 | .str u=>decide (aY u)
 | _=>false
theorem rR {c:Nat}(h:c < 128):(!(Builtin.Str.occurrences letters ⟨#[c]⟩ 0 letters.length 1).isEmpty)=decide (97<=c/\c<=122):=by
 have q:∀ k:Fin 128,(!(Builtin.Str.occurrences letters ⟨#[k.val]⟩ 0 letters.length 1).isEmpty)=decide (97<=k.val/\k.val<=122):=by decide +kernel
 exact q ⟨c,h⟩
def LetS (u:Str):Prop:=∀ c∈u.cps.toList,97<=c/\c<=122
def Sm (u:Str):Prop:=hV u=true/\u.length<=100
theorem plain_iff {u:Str}:hV u=true ↔ ∀ c∈u.cps.toList,c < 128:=by
 unfold hV
 rw [Array.all_eq_true']
 constructor
 ·intro h c hc
  have:=h c (by simpa using hc)
  simpa using this
 ·intro h c hc
  have:=h c (by simpa using hc)
  simpa using this
theorem LetS.plain {u:Str}(h:LetS u):hV u=true:=plain_iff.mpr fun c hc=>by have:=h c hc; omega
theorem AP4 {u:Str}(h:aY u):LetS u:=h.2.2
theorem sQ {u:Str}(h:aY u):Sm u:=⟨(AP4 h).plain,by have:=h.2.1; omega⟩
theorem AJ1 {u:Str}{l r:Option Int}{c:Nat}(h:c∈(Txt.slice u l r).cps.toList):c∈u.cps.toList:=by
 unfold Txt.slice at h
 split at h
 ·exact h
 ·simp only [List.mem_filterMap] at h
  obtain ⟨i,_,e⟩:=h
  exact Array.mem_toList_iff.mpr (Array.mem_of_getElem? e)
theorem rS (u v:Str):(u++v).cps.toList=u.cps.toList++v.cps.toList:=by
 show (u.cps++v.cps).toList=_
 rw [Array.toList_append]
def badC (u:Str):Prop:=∃ c∈u.cps.toList,¬ (97<=c/\c<=122)
instance (u:Str):Decidable (badC u):=by unfold badC; infer_instance
theorem badC.no {u:Str}(h:badC u):¬ aY u:=fun g=>by
 obtain ⟨c,hc,n⟩:=h
 exact n (g.2.2 c hc)
theorem badC.l {u:Str}(h:badC u)(v:Str):badC (u++v):=by
 obtain ⟨c,hc,n⟩:=h
 exact ⟨c,by rw [rS]; exact List.mem_append.mpr (.inl hc),n⟩
theorem badC.r {v:Str}(h:badC v)(u:Str):badC (u++v):=by
 obtain ⟨c,hc,n⟩:=h
 exact ⟨c,by rw [rS]; exact List.mem_append.mpr (.inr hc),n⟩
theorem AP5 {u:Str}(h:hV u=true):(u.cps.toList.map fun c=>!(Builtin.Str.occurrences letters ⟨#[c]⟩ 0 letters.length 1).isEmpty).all id=decide (∀ c∈u.cps.toList,97<=c/\c<=122):=by
 rw [Bool.eq_iff_iff,List.all_eq_true,decide_eq_true_eq]
 constructor
 ·intro z c hc
  have q:=z _ (List.mem_map.mpr ⟨c,hc,rfl⟩)
  rw [rR (plain_iff.mp h c hc)] at q
  simpa using q
 ·intro z b hb
  obtain ⟨c,hc,rfl⟩:=List.mem_map.mp hb
  rw [rR (plain_iff.mp h c hc)]
  simpa using z c hc
theorem sR {u:Str}(g:aY u):PyData.strOk u=true:=by
 unfold PyData.strOk
 rw [Array.all_eq_true']
 intro c hc
 have:=g.2.2 c (by simpa using hc)
 simp only [decide_eq_true_eq]
 omega
section
variable {X:Cx}{x:Str}{C:Addr}{ps:List Str}{k:Nat}{sp:Sp}{e:Expr}{es:List Expr}{t:TA}{p pos:Pos}
variable {K:Frag}{σ:L2.St}{H:Hp}{Q:VK}{D:Ends}{CB:Addr}{i:Nat}{tb:XK->TS}{ts:TS}{E:XK}{dvs:List V}
theorem AJ2:BG9 K CB i tb ts D σ H=tb (fun cls dx H2=>exmOne K cls (.ref CB)=some true /\
 ∀ x,H2 x=none->ts { nx:=fun σ' H3=>D.nx (σ'.set i none) H3,rt:=D.rt,bk:=fun σ' H3=>D.bk (σ'.set i none) H3,ct:=fun σ' H3=>D.ct (σ'.set i none) H3 } (σ.set i (some (.ref x))) (L2.upd H2 x (hU x cls dx))) D σ H:=rfl
theorem xK:BG8 C sp dvs t E σ H Q=t σ H (fun vs H1=>∀ x dx,H1 x=none->H1 dx=none->dx≠x ->
 sp (.ref x::(vs++dvs)) (L2.upd (L2.upd H1 dx (.own x)) x (.ins C dx [])) (fun v H2=>v=.non/\Q (.ref x) H2) E):=rfl
def BA4:TE:=fun _ H0 Q0=>∀ d,H0 d=none->Q0 (.ref d) (L2.upd H0 d (.dK []))
theorem sS:BA4 σ H Q=∀ d,H d=none->Q (.ref d) (L2.upd H d (.dK [])):=rfl
end
structure QE (X:Cx) (e:Expr) (t:TE):Prop where
 h:PE X e t
structure QS (X:Cx) (st:Stmt) (t:TS):Prop where
 h:PS X st t
structure QSs (X:Cx) (sts:List Stmt) (t:TS):Prop where
 h:PSs X sts t
section
variable {X:Cx}{e a b c:Expr}{es:List Expr}{st:Stmt}{rest sa sb:List Stmt}{te ta tb:TE}{tl:TA}{tc:TT}{t u:TS}{pos pos':Pos}{x:Str}{i:Nat}
theorem aR (h:PE X e te):QE X e te:=⟨h⟩
theorem bQ (h:PS X st t):QS X st t:=⟨h⟩
theorem iM (h:QSs X rest t):PSs X rest t:=h.h
theorem gN (h:QA X es tl):QE X (.List es pos) (BL9 tl):=⟨gK h.h⟩
theorem pQ {op:Operator}{r:R2}(ho:OpR X (binaryOp op) r)(ha:QE X a ta)(hb:QE X b tb):QE X (.BinOp a op b pos) (tOp r ta tb):=⟨bE ho ha.h hb.h⟩
theorem BH3 {r:R2}(hr:IxR X r)(ha:QE X a ta)(hb:QE X b tb)(hs:AF5 b):QE X (.Subscript a b pos) (tOp r ta tb):=⟨bN hr ha.h hb.h hs⟩
theorem aT (he:QE X e te):QS X (.Return (some e) pos) (BK3 te):=⟨BE9 he.h⟩
theorem bC (hN:X.N.Nodup)(hi:X.N[i]?=some x)(hx:Loc X.env.scope x)(he:QE X e te)(hs:swapsWith e (some (.Name x pos')) pos.line X.env=pure false)(hf:X.fn x=true\/X.env.scope.names.lookup x=some .local:=by first | exact .inl rfl | exact .inr rfl | assumption) :
  QS X (.Assign [.Name x pos'] e pos) (AV7 te (wL i)):=⟨BF1 hN hi hx he.h hs hf⟩
theorem bG (hc:PT X c tc)(ha:QSs X sa t)(hb:QSs X sb u):QS X (.If c sa sb pos) (BL4 tc t u):=⟨BL5 hc ha.h hb.h⟩
theorem aS:QSs X [] AV5:=⟨AV6⟩
theorem aH (h:QS X st t):QSs X [st] t:=⟨iX h.h⟩
theorem aC (h1:QS X st t)(h2:QSs X rest u):QSs X (st::rest) (BL2 t u):=⟨AN3 h1.h h2.h⟩
theorem BA5 (h1:QS X st t)(h2:QSs X rest u):QSs X (st::rest) (BO8 t u):=⟨BA3 h1.h h2.h⟩
theorem kL (h:PSs X rest t):QSs X rest t:=⟨h⟩
end
mutual
inductive RD (H:Hp):V->PyData->Prop
 | non:RD H .non .none
 | bl (b:Bool):RD H (.bl b) (.bool b)
 | int (i:Int):RD H (.int i) (.int i)
 | str (x:Str):RD H (.str x) (.str x)
 | lst {p:Addr}{xs:List V}{ds:List PyData}:H p=some (.lst xs)->RDs H xs ds->RD H (.ref p) (.list ds)
 | tup {p:Addr}{xs:List V}{ds:List PyData}:H p=some (.tup xs)->RDs H xs ds->RD H (.ref p) (.tuple ds)
inductive RDs (H:Hp):List V->List PyData->Prop
 | nil:RDs H [] []
 | cons {v:V}{d:PyData}{vs:List V}{ds:List PyData}:RD H v d->RDs H vs ds->RDs H (v::vs) (d::ds)
end
section
variable {X:Cx}{pins:List (Addr × Obj)}{σ:L2.St}{H:Hp}{s:Shared}
mutual
theorem RD.reads (I:Inv X pins σ H s):∀ {v:V}{d:PyData},RD H v d->∀ {u:Value},RelV v u->∃ as,Reads s.heap u d as
 | _,_,.non,u,r=>by cases (show u=Value.none from r); exact ⟨_,.none⟩
 | _,_,.bl b,u,r=>by cases (show u=Value.bool b from r); exact ⟨_,.bool b⟩
 | _,_,.int i,u,r=>by obtain ⟨t,rfl⟩:=(show ∃ t,u=Value.int i t from r); exact ⟨_,.int i t⟩
 | _,_,.str i,u,r=>by obtain ⟨t,rfl⟩:=(show ∃ t,u=Value.str i t from r); exact ⟨_,.str i t⟩
 | _,_,.lst h hs,u,r=>by
  cases (show u=Value.ref _ from r)
  obtain ⟨its,r1,⟨o1,n1,p1,c1,_,d1⟩,_⟩:=I.list (SqL.of h)
  obtain ⟨as,ra⟩:=RDs.reads I hs r1
  exact ⟨_,Reads.list p1 c1 d1 (by simpa using ra)⟩
 | _,_,.tup h hs,u,r=>by
  cases (show u=Value.ref _ from r)
  obtain ⟨its,r1,⟨o1,p1,c1,n1,d1⟩,_⟩:=I.tuple (SqT.of h)
  obtain ⟨as,ra⟩:=RDs.reads I hs r1
  exact ⟨_,Reads.tuple p1 c1 d1 (by simpa using ra)⟩
theorem RDs.reads (I:Inv X pins σ H s):∀ {vs:List V}{ds:List PyData},RDs H vs ds->∀ {us:List Value},Vals vs us->∃ as,ReadsAll s.heap us ds as
 | _,_,.nil,_,.nil=>⟨_,.nil⟩
 | _,_,.cons h hs,_,.cons r rs=>by
  obtain ⟨as,ra⟩:=RD.reads I h r
  obtain ⟨bs,rb⟩:=RDs.reads I hs rs
  exact ⟨_,.cons ra rb⟩
end
end
mutual
theorem zR:∀ d:PyData,PyData.canLay0 d=true->SeqAt.noMix d d=true
 | .none,_=>by simp [SeqAt.noMix]
 | .bool _,_=>by simp [SeqAt.noMix]
 | .int _,_=>by simp [SeqAt.noMix]
 | .str _,_=>by simp [SeqAt.noMix]
 | .list xs,h=>by
  simp only [SeqAt.noMix]
  exact mixs_self xs (by simpa [PyData.canLay0] using h)
 | .tuple xs,h=>by
  simp only [SeqAt.noMix]
  exact mixs_self xs (by simpa [PyData.canLay0] using h)
 | .dict _,h=>by simp [PyData.canLay0] at h
theorem mixs_self:∀ ds:List PyData,PyData.canLayAll0 ds=true->SeqAt.noMixAll ds ds=true
 | [],_=>by simp [SeqAt.noMixAll]
 | d::r,h=>by
  have h':PyData.canLay0 d=true/\PyData.canLayAll0 r=true:=by simpa [PyData.canLayAll0] using h
  simp only [SeqAt.noMixAll,zR d h'.1,mixs_self r h'.2,Bool.and_self]
end
theorem AP6 {d:PyData}(h:SeqAt.shaped d=true):PyData.eqv d d=true:=by
 have hc:PyData.canLay0 d=true:=by
  have h':(PyData.canLay0 d && decide (PyData.depth d<=64))=true:=h
  rw [Bool.and_eq_true] at h'
  exact h'.1
 rw [<- SeqAt.same_eq_eqv d d (zR d hc)]
 exact same_self d
section
variable {X:Cx}
def BK9 (b:Bool):R2:=fun x y H Q=>∃ (d d':PyData),RD H x d/\RD H y d'/\SeqAt.shaped d=true/\SeqAt.shaped d'=true/\Q (.bl (PyData.eqv d d' == b)) H
theorem zS (hu:X.A.units+64 < cLine):OpR X (compareOp .Eq) (BK9 true):=by
 intro pins s σ H x y v u Q I rx ry h
 obtain ⟨d,d',h1,h2,s1,s2,q⟩:=h
 obtain ⟨as,r1⟩:=h1.reads I rx
 obtain ⟨bs,r2⟩:=h2.reads I ry
 refine eq_dataH r1 r2 s1 s2 hu ⟨.bl _,H,I,rfl,?_⟩
 have e:(PyData.eqv d d' == true)=PyData.eqv d d':=by cases PyData.eqv d d' <;> rfl
 rw [e] at q
 exact q
theorem AJ3 (hu:X.A.units+64 < cLine):OpR X (compareOp .NotEq) (BK9 false):=by
 intro pins s σ H x y v u Q I rx ry h
 obtain ⟨d,d',h1,h2,s1,s2,q⟩:=h
 obtain ⟨as,r1⟩:=h1.reads I rx
 obtain ⟨bs,r2⟩:=h2.reads I ry
 refine ne_dataH r1 r2 s1 s2 hu ⟨.bl _,H,I,rfl,?_⟩
 have e:(PyData.eqv d d' == false)=!PyData.eqv d d':=by cases PyData.eqv d d' <;> rfl
 rw [e] at q
 exact q
theorem eqd {H:Hp}{x y:V}{d:PyData}{b:Bool}{Q:VK}(h1:RD H x d)(h2:RD H y d)(s:SeqAt.shaped d=true)(q:Q (.bl b) H):BK9 b x y H Q:=by
 refine ⟨d,d,h1,h2,s,s,?_⟩
 rw [AP6 s]
 cases b <;> exact q
end
theorem BH4 {X:Cx}{K:Frag}(hK:X.K=K):IxR X (BM0 K):=by
 subst hK
 exact bJ
theorem AJ4 {X:Cx}{K:Frag}(hK:X.K=K):IxR X (BM1 K):=by
 subst hK
 exact dG
theorem BH5 {X:Cx}{K:Frag}{e:Expr}{f:Str}{ta:TE}{pos:Pos}(hK:X.K=K)(he:PE X e ta)(hb:attributeBase e f X.env (eval e X.env)=eval e X.env):PE X (.Attribute e f pos) (BL8 K ta f):=by
 subst hK
 exact cH he hb
def BT1:TE:=fun _ _ _=>False
theorem BA6 {σ:L2.St}{H:Hp}{Q:VK}:BT1 σ H Q=False:=rfl
theorem xL {D:Ends}{σ:L2.St}{H:Hp}:AS4 D σ H=False:=rfl
structure CalD (P:Program) (w:World) (K:Frag) (mg:Str->Option Value) (base:Heap) (x:Str) (C:Addr) (ps:List Str) (k:Nat) (dvs:List V) (sp:Sp):Prop where
 ex:∃ f fd ds,FnOk P w K mg base (CXF P w) k f fd ps sp/\Binds K fd ps ds/\Vals dvs ds/\Mk K C f/\mg x=some (.ref C)
section
variable {X:Cx}{x m:Str}{C:Addr}{ps:List Str}{k:Nat}{sp:Sp}{e o:Expr}{es:List Expr}{ta:TE}{t:TA}{p pos apos:Pos}{E:XK}{dvs:List V}
end
structure FunA (K:Frag) (x qual:Str) (st:Stmt) (f:Addr) (fd:FuncData):Prop where
 ex:∃ (oc:Value) (od:Option Addr) (dV kV doc pm:Value) (an:Option Addr) (cdv ct:Value) (osl:Array (Option Value)),
  fd=fnOf x qual (aX st) (aV st) (aF st) dV kV doc pm an cdv ct/\K.lookup f=some ⟨oc,od,.func fd,osl⟩/\codeIn K cdv qual=true
section
variable {P:Program}{w:World}{K:Frag}{mg:Str->Option Value}{base:Heap}{N:List Str}{f:Addr}
theorem FunA.ok {x qual:Str}{st:Stmt}{fd:FuncData}{ps:List Str}{k:Nat}{sp:Sp}(F:FunA K x qual st f fd)(S:FnScope N ps (aF st))(len:∀ vs H Q E,sp vs H Q E->vs.length=ps.length)(hbody:∀ (cdv:Value) (A:Around) (outer:List Env) (s:Shared) (H:Hp) (vs:List V) (Q:VK) (E:XK),Room k (A.deeper (envOfC qual (aF st) s.heap.objs.size f cdv))->sp vs H Q E ->
   ∃ t,PSs (AF2 CX0 P w K mg base N qual (aF st) f cdv A outer s H E).nox (aV st) t/\t { nx:=fun _ H'=>Q .non H',rt:=Q } (L2.start N vs) H):FnOk P w K mg base CX0 (k+1) f fd ps sp:=by
 obtain ⟨oc,od,dV,kV,doc,pm,an,cdv,ct,osl,rfl,lk,hcd⟩:=F.ex
 refine AO4 lk hcd S len fun A outer s H vs Q E hr hsp=>?_
 obtain ⟨t,h,q⟩:=hbody cdv A outer s H vs Q E hr hsp
 exact ⟨t,h.nox,q⟩
theorem BA7 {x qual:Str}{st:Stmt}{oc:Value}{od an:Option Addr}{osl:Array (Option Value)}{dV kV doc pm cdv ct:Value}(l:K.lookup f=some ⟨oc,od,.func (fnOf x qual (aX st) (aV st) (aF st) dV kV doc pm an cdv ct),osl⟩)(c:codeIn K cdv qual=true):FunA K x qual st f (fnOf x qual (aX st) (aV st) (aF st) dV kV doc pm an cdv ct):=⟨⟨oc,od,dV,kV,doc,pm,an,cdv,ct,osl,rfl,l,c⟩⟩
theorem BH6 {fd:FuncData}{ps:List Str}{ds:List Value}(n:Nat)(hn:n+ds.length=ps.length)(h:∀ (s:Shared) (us:List Value),K.In s.heap->us.length=n->BindsTo s fd ⟨us,[]⟩ (ps.zip (us++ds))):Binds K fd ps ds:=fun s us X hl=>h s us X (by
 rw [List.length_append] at hl
 omega)
end
def below (s e t:Int):Int:=(t - s) / 1440 * ((e - s) % 1440)+(if (e - s) % 1440 < (t - s) % 1440 then (e - s) % 1440 else (t - s) % 1440)
theorem lQ {H:Hp}:∀ us:List Str,RDs H (us.map V.str) (us.map PyData.str)
 | []=>.nil
 | u::r=>.cons (.str u) (lQ r)
theorem sT:∀ {us:List Str},(∀ u∈us,PyData.strOk u=true)->PyData.canLayAll0 (us.map PyData.str)=true/\PyData.depthAll (us.map PyData.str)=0
 | [],_=>⟨by simp [PyData.canLayAll0],by simp [PyData.depthAll]⟩
 | u::r,h=>by
  obtain ⟨a,b⟩:=sT (us:=r) fun v hv=>h v (List.mem_cons_of_mem _ hv)
  exact ⟨by simp [PyData.canLayAll0,PyData.canLay0,h u List.mem_cons_self,a],by simp [PyData.depthAll,PyData.depth,b]⟩
theorem gO {ds:List PyData}{n:Nat}(hn:n<=60)(h:PyData.canLayAll0 ds=true/\PyData.depthAll ds=n):SeqAt.shaped (.list ds)=true/\SeqAt.shaped (.tuple ds)=true:=by
 have h1:=h.1
 have h2:=h.2
 constructor
 ·show (PyData.canLay0 (.list ds) && decide (PyData.depth (.list ds)<=64))=true
  rw [Bool.and_eq_true]
  exact ⟨by simp only [PyData.canLay0]; exact h1,decide_eq_true (by simp only [PyData.depth]; omega)⟩
 ·show (PyData.canLay0 (.tuple ds) && decide (PyData.depth (.tuple ds)<=64))=true
  rw [Bool.and_eq_true]
  exact ⟨by simp only [PyData.canLay0]; exact h1,decide_eq_true (by simp only [PyData.depth]; omega)⟩
theorem BA8 (xs:List PyData):PyData.eqv (.list xs) (.list [])=xs.isEmpty:=by cases xs <;> simp [PyData.eqv,PyData.eqvAll]
def BO9 (K:Frag)(te:TE):TE:=fun σ H Q=>te σ H fun x H1=>∃ a xs,x=.ref a/\SqL K H1 a xs/\∀ p,H1 p=none->Q (.ref p) (L2.upd H1 p (.lst xs.reverse))
theorem AJ5 {K:Frag}{te:TE}{σ:L2.St}{H:Hp}{Q:VK}:BO9 K te σ H Q=te σ H (fun x H1=>∃ a xs,x=.ref a/\SqL K H1 a xs/\∀ p,H1 p=none->Q (.ref p) (L2.upd H1 p (.lst xs.reverse))):=rfl
def jM (l:List Str):List Str:=l.foldl (fun a x=>if x∈a then a else a++[x]) []
theorem lR (l:List Str)(x:Str):jM (l++[x])=if x∈jM l then jM l else jM l++[x]:=by
 unfold jM; rw [List.foldl_append]; rfl
theorem vE {l:List Str}{i:Nat}(h:i < l.length):jM (l.take (i+1))=if l.getD i Str.empty∈jM (l.take i) then jM (l.take i) else jM (l.take i)++[l.getD i Str.empty]:=by
 rw [<- lR,List.take_succ,List.getElem?_eq_getElem h]
 simp [List.getD,List.getElem?_eq_getElem h]
theorem sU {p:List Str->Prop}(h0:p [])(h1:∀ l x,p l->p (l++[x]))(l:List Str):p l:=by
 have q:∀ m:List Str,p m.reverse:=fun m=>by
  induction m with
  | nil=>exact h0
  | cons a m ih=>rw [List.reverse_cons]; exact h1 _ _ ih
 have:=q l.reverse
 rwa [List.reverse_reverse] at this
theorem zT (x:Str)(l:List Str):x∈jM l ↔ x∈l:=by
 refine sU (p:=fun l=>x∈jM l ↔ x∈l) (by simp [jM]) (fun l y ih=>?_) l
 ·show x∈jM (l++[y]) ↔ x∈l++[y]
  rw [lR]
  split
  ·rename_i h
   rw [ih]
   constructor
   ·intro z; exact List.mem_append_left _ z
   ·intro z
    rcases List.mem_append.mp z with z | z
    ·exact z
    ·have e:x=y:=by simpa using z
     subst e
     exact ih.mp h
  ·simp [ih]
theorem xM (l:List Str):(jM l).length<=l.length:=by
 refine sU (p:=fun l=>(jM l).length<=l.length) (by simp [jM]) (fun l y ih=>?_) l
 ·show (jM (l++[y])).length<=(l++[y]).length
  rw [lR]
  split <;> simp <;> omega
theorem zU (l:List Str):(jM l).length=l.length ↔ l.Nodup:=by
 refine sU (p:=fun l=>(jM l).length=l.length ↔ l.Nodup) (by simp [jM]) (fun l y ih=>?_) l
 ·show (jM (l++[y])).length=(l++[y]).length ↔ (l++[y]).Nodup
  have h:=xM l
  rw [lR]
  by_cases m:y∈jM l
  ·rw [if_pos m,List.length_append,List.length_singleton]
   constructor
   ·intro z; omega
   ·intro z
    have:=(zT y l).mp m
    rw [List.nodup_append] at z
    exact absurd rfl (z.2.2 y this y (List.mem_singleton.mpr rfl))
  ·rw [if_neg m,List.length_append,List.length_append,List.length_singleton]
   have n:y ∉ l:=fun z=>m ((zT y l).mpr z)
   constructor
   ·intro z
    rw [List.nodup_append]
    refine ⟨ih.mp (by omega),by simp,fun a ha b hb e=>?_⟩
    have:b=y:=by simpa using hb
    subst this; subst e; exact n ha
   ·intro z
    rw [List.nodup_append] at z
    have:=ih.mpr z.1
    omega
abbrev AU0 (l:List Str):Str->Bool:=fun k=>decide (k∈jM l)
section
variable {prog:Program}{w:World}{A:Around}{R:Result->Shared->Prop}{I:Addr}{fp wr:List Addr}{G:Array GenState->Array GenState->Prop}{P:Nat->Value->Prop}{St:Nat->Shared->Prop}
theorem AP7 {l:List Str}(W:WalksS prog w A.in1 I fp wr G l.length P St)(S:Addr)(hS0:S ∉ fp)(hv:∀ i v,P i v->∃ t,v=.str (l.getD i Str.empty) t)(hb:l.length+1 < scanBound):∀ (k i:Nat) (s:Shared) (q:∀ s',Moved (S::wr) G s s'->s'.heap.SetOf (strKind prog w) S (AU0 l) (jM l).length->R (.ok (.ret .none)) s'),
   l.length - i=k->i<=l.length->St i s->s.heap.SetOf (strKind prog w) S (AU0 (l.take i)) (jM (l.take i)).length ->
   codeAny (model prog w) A (.builtin "set.update.loop" ⟨[.ref S,.ref I],[]⟩) R s:=by
 have nw:S ∉ wr:=fun h=>hS0 (W.sub _ h)
 have up:∀ b∈wr,b∈S::wr:=fun b hb=>List.mem_cons_of_mem _ hb
 have move:∀ {s s':Shared}{T:Str->Bool}{n:Nat},Moved wr G s s'->s.heap.SetOf (strKind prog w) S T n->s'.heap.SetOf (strKind prog w) S T n:=fun hm z=>by
  obtain ⟨o,es,ep,t,ho,z⟩:=z
  exact ⟨o,es,ep,t,hm.heap S _ nw ho,z⟩
 intro k
 induction k with
 | zero =>
  intro i s q hk hi hst z
  have e:i=l.length:=by omega
  subst e
  rw [List.take_length] at z
  refine codeAny_builtin PyProof.Rows.F.entry_set_update_loop ?_
  rw [Around.under_plainId PyProof.Rows.F.plain_set_update_loop _]; show wpAny _ A.in1 (pyNext (.ref I) >>= _) _ _ s
  refine wpAny_bind (W.done s _ _ hst fun s' hm=>?_)
  show wpAny _ A.in1 (ret Value.none) _ _ s'; exact wpAny_pure (q s' (hm.mono up) (move hm z))
 | succ k ih =>
  intro i s q hk hi hst z
  have lt:i < l.length:=by omega
  refine codeAny_builtin PyProof.Rows.F.entry_set_update_loop ?_
  rw [Around.under_plainId PyProof.Rows.F.plain_set_update_loop _]; show wpAny _ A.in1 (pyNext (.ref I) >>= _) _ _ s
  refine wpAny_bind (W.item i s _ _ lt hst fun v s' hP hst' hm=>?_)
  obtain ⟨t,rfl⟩:=hv i v hP
  have z':=move hm z
  show wpAny _ A.in1 (holding [Value.str (l.getD i Str.empty) t] (setAdd S (.str (l.getD i Str.empty) t)) >>= _) _ _ s'
  refine wpAny_bind (wpAny_holding ?_); unfold setAdd
  refine wpAny_holding (wpAny_bind ((strKind prog w).pyHash (k:=l.getD i Str.empty) (strKind_is _ _ _ _) ?_))
  have room:(jM (l.take i)).length+1 < scanBound:=by
   have h1:=xM (l.take i)
   have h2:(l.take i).length<=l.length:=by rw [List.length_take]; omega
   omega
  refine wpAny_setAddHashed_of (knd:=strKind prog w) (s:={ s' with toks:=s'.toks+1 }) (strKind_is _ _ _ _) rfl z' room fun h' sb z2=>?_
  have z3:h'.SetOf (strKind prog w) S (AU0 (l.take (i+1))) (jM (l.take (i+1))).length:=by
   refine SetOf_congr z2 (fun k'=>?_) ?_
   ·show (decide (k'∈jM (l.take i)) || decide (k'=l.getD i Str.empty))=decide (k'∈jM (l.take (i+1)))
    rw [vE lt]
    generalize l.getD i Str.empty=y
    split
    ·rename_i m
     by_cases e:k'=y
     ·subst e; simp [m]
     ·simp [e]
    ·by_cases e:k'=y
     ·subst e; simp
     ·simp [e]
   ·rw [vE lt]
    generalize l.getD i Str.empty=y
    by_cases m:y∈jM (l.take i)
    ·rw [if_pos m,if_pos (by simpa using m)]
    ·rw [if_neg m,if_neg (by simpa using m),List.length_append]; rfl
  refine wpAny_pure ⟨plainId_quiet PyProof.Rows.F.plain_set_update_loop _,ih (i+1) _ (fun s'' hm'' z4=>?_) (by omega) lt (W.frame _ s' _ _ hst' (Nat.le_succ _) fun b hb o e=>?_) z3⟩
  ·refine q s'' (Moved.trans W.gtrans ((hm.mono up).then_heap (Nat.le_succ _) fun b o hb e=>?_) hm'') z4
   rw [sb.2 b (fun h:b=S=>hb (by rw [h]; exact List.mem_cons_self))]; exact e
  ·rw [sb.2 b (fun h:b=S=>hS0 (by rw [<- h]; exact hb))]; exact e
end
abbrev fB (led:Bool):Obj:={ cls:=.type "set",dict:=none,data:=.set #[] 0 (.fresh 0 0 led) }
theorem BT2 {its:List Value}{l:List Str}(h:Vals (l.map V.str) its)(i:Nat)(v:Value)(e:its[i]?=some v):∃ t,v=.str (l.getD i Str.empty) t:=by
 induction l generalizing its i with
 | nil=>cases h; simp at e
 | cons x l ih =>
  cases h with
  | cons r1 r2 =>
   cases i with
   | zero =>
    obtain ⟨t,rfl⟩:=r1
    have:v=.str x t:=by simpa using e.symm
    exact ⟨t,by rw [this]; rfl⟩
   | succ i=>exact ih r2 i (by simpa using e)
section
variable {prog:Program}{w:World}{A:Around}{E:Value->Shared->Prop}{s:Shared}
set_option maxHeartbeats 4000000 in
theorem AP8 {a:Addr}{its:List Value}{l:List Str}{Q:Value->Shared->Prop}(hh:A.handled=none)(hl:s.heap.IsList a its.toArray)(hv:Vals (l.map V.str) its)(hb:l.length+1 < scanBound)(q:∀ (h':Heap) (tk:Nat),h'.SetOf (strKind prog w) s.heap.objs.size (AU0 l) (jM l).length->(∀ b o,s.heap.get? b=some o->h'.get? b=some o)->Q (.ref s.heap.objs.size) { s with heap:=h',toks:=tk }) :
  wpAny (model prog w) A (call (.type "set") [.ref a]) Q E s:=by
 have hn:its.toArray.size=l.length:=by have:=hv.length; rw [List.length_map] at this; simpa using this.symm
 obtain ⟨c,tl,hmro⟩:=PySem.F.called_set.mro
 have hmade:=PySem.F.called_set.made; have hsub:=PySem.F.called_set.sub
 refine wpAny_call (codeAny_of_tree ?_); show wpAny _ _ (callAny (.type "set") _) _ _ _
 refine wpAny_pure ⟨Code.quiet_builtin _ (by decide +kernel),codeAny_builtin PySem.F.entry_type_call ?_⟩
 rw [Around.under_plain (weight_type_call_type "set" [.ref a] []) rfl]
 have h1:=PySem.F.called_set.notType; have h2:=PySem.F.called_set.canCreate
 have hct:=PySem.F.typeCall_set_1 (.ref a)
 repeat (any_goals (first | assumption | wp_step))
 refine codeAny_mono (PySem.code_set_new_1 (.ref a) (E:=E) (Q₁:=fun obj s₁=>∃ led:Bool,obj=.ref s.heap.objs.size/\s₁={ s with heap:=s.heap.push (fB led) }) fun led=>⟨led,rfl,rfl⟩) fun r s₁ hr=>?_
 match r,hr with
 | .error e,hr=>exact hr
 | .ok (.ret obj),hr =>
  obtain ⟨led,rfl,rfl⟩:=hr
  have hS:(s.heap.push (fB led)).get? s.heap.objs.size=some (fB led):=Heap.get?_push_size _ rfl
  have hT:Shared.TypeIs { s with heap:=s.heap.push (fB led) } (.ref s.heap.objs.size) "set":=⟨_,hS,rfl⟩
  have hli:=PySem.F.called_set.init.lookup; have hbi:=PySem.F.called_set.init.bind (.ref s.heap.objs.size)
  repeat (any_goals (first | assumption | wp_step))
  refine codeAny_mono (codeAny_call_builtin (R:=wants (fun r s₂=>r=.none/\∃ h' tk,s₂={ s with heap:=h',toks:=tk }/\h'.SetOf (strKind prog w) s.heap.objs.size (AU0 l) (jM l).length /\
    (∀ b o,s.heap.get? b=some o->h'.get? b=some o)) E) PySem.F.called_set.init.plain PySem.F.entry_set_init (PySem.check_set_init_1 hT ?_)) fun r₂ s₂ hr₂=>?_
  ·obtain ⟨⟨oc,od,odt,osl⟩,hol,hcl,nl,hdl⟩:=hl
   simp only at hcl hdl; subst hcl; subst hdl
   have hol':(s.heap.push (fB led)).get? a=some { cls:=.type "list",dict:=od,data:=.seq its.toArray nl,slots:=osl }:=Heap.get?_push_of_some _ hol
   have n1:=PySem.F.sub_list_set; have n2:=PySem.F.sub_list_frozenset
   have n3:(Value.type "list" == Value.type "dict")=false:=by decide
   have hl1:(s.heap.push (fB led)).IsList a its.toArray:=⟨_,hol',rfl,nl,rfl⟩
   unfold Builtin.«set.__init__» noKeywords Builtin.Frozenset.updateFrom
   generalize hPI:pyIter=PI
   wp_walk
   subst hPI
   refine wpAny_pyIter_list hl1 (wpAny_bind (wpAny_runValue ?_))
   have lt:a < s.heap.objs.size:=Heap.lt_size hol
   have hh3:A.in1.in1.in1.handled=none:=by simp [hh]
   have ne1:a≠(s.heap.push (fB led)).objs.size:=by rw [Heap.size_push]; exact Nat.ne_of_lt (Nat.lt_succ_of_lt lt)
   have ne2:s.heap.objs.size ∉ [(s.heap.push (fB led)).objs.size,a]:=by
    rw [Heap.size_push]; intro z
    rcases List.mem_cons.mp z with z | z
    ·exact absurd z (Nat.ne_of_lt (Nat.lt_succ_self _))
    ·exact absurd (List.mem_singleton.mp z) (Nat.ne_of_gt lt)
   have W:=(Walks.list (prog:=prog) (w:=w) hh3 _ a ne1 its.toArray).toS
   rw [hn] at W
   refine AP7 W s.heap.objs.size ne2 (fun i v hv'=>BT2 hv i v (by simpa using hv')) hb (l.length - 0) 0 _ (fun s' hm z=>?_) (by omega) (Nat.zero_le _) ⟨⟨_,Heap.get?_push_size _ rfl,rfl,rfl⟩,hl1.push _⟩ ?_
   ·obtain ⟨h',g',d',tk',os'⟩:=s'
    have eg:g'=s.gens:=hm.gens
    have ed:d'=s.drawn:=hm.drawn
    have eo:os'=s.os:=hm.os
    subst eg; subst ed; subst eo
    show wpAny _ _ _ _ _ _
    refine wpAny_pure ?_
    show wpAny _ _ (ret Value.none) _ _ _
    refine wpAny_pure ⟨rfl,h',tk',rfl,z,fun b o e=>?_⟩
    have bl:=Heap.lt_size e
    refine hm.heap b o (fun y=>?_) (Heap.get?_push_of_some _ (Heap.get?_push_of_some _ e))
    rcases List.mem_cons.mp y with y | y
    ·exact absurd y (Nat.ne_of_lt bl)
    ·have:=List.mem_singleton.mp y; rw [Heap.size_push] at this; exact absurd this (Nat.ne_of_lt (Nat.lt_succ_of_lt bl))
   ·have hg:((s.heap.push (fB led)).push { cls:=.type "list_iterator",data:=.fields #[.ref a,.int 0 0] }).get? s.heap.objs.size=some (fB led):=Heap.get?_push_of_some _ hS
    exact SetOf_congr ((setObjOf_fresh (knd:=strKind prog w) led).setOf hg (by unfold scanBound; omega)) (fun k=>by simp [AU0,jM]) rfl
  ·match r₂,hr₂ with
   | .error e,hr₂=>exact hr₂
   | .ok (.ret r),hr₂ =>
    obtain ⟨rfl,h',tk,rfl,z,kp⟩:=hr₂
    repeat (any_goals (first | assumption | wp_step))
    exact q _ _ z kp
end
def vF (P:Program)(w:World)(a:Addr)(l:List Str):HO:=.ext fun h=>h.SetOf (strKind P w) a (AU0 l) (jM l).length
theorem BA9 {P:Program}{w:World}{H:Hp}{h:Heap}{a:Addr}{l:List Str}(z:h.SetOf (strKind P w) a (AU0 l) (jM l).length):ObjOk P w H h a (vF P w a l):=by
 refine ⟨z,?_,fun h1 h2 z1 k=>?_⟩
 ·obtain ⟨o,_,_,_,e,_⟩:=z; exact ⟨o,e⟩
 ·obtain ⟨o,es,ep,t,e,z1⟩:=z1; exact ⟨o,es,ep,t,k o e,z1⟩
theorem vG {X:Cx}(hc:X.calm=true):CallR X (.type "set") (fun xs H Q=>∃ (a:Addr) (l:List Str),xs=[.ref a]/\SqL X.K H a (l.map V.str)/\l.length<=1000/\∀ p,H p=none->Q (.ref p) (upd H p (vF X.prog X.w p l))):=by
 intro pins s σ H xs us Q I r h
 obtain ⟨a,l,rfl,hS,hz,q⟩:=h
 obtain ⟨u,rfl,ru⟩:=qR r
 cases ru
 obtain ⟨its,rv,pl,_⟩:=I.list hS
 refine AP8 (I.ok.hd hc) pl.isList rv (by unfold scanBound; omega) fun h' tk z kp=>?_
 exact ⟨.ref s.heap.objs.size,_,I.laid (t':=tk) kp (Nat.le_refl _) (BA9 z),rfl,q _ (I.hok.fresh (Nat.le_refl _))⟩
theorem vH {X:Cx}:CallR X (.builtin "len") (fun xs H Q=>∃ (a:Addr) (l:List Str),xs=[.ref a]/\H a=some (vF X.prog X.w a l)/\Q (.int (jM l).length) H):=by
 intro pins s σ H xs us Q I r h
 obtain ⟨a,l,rfl,e,q⟩:=h
 obtain ⟨u,rfl,ru⟩:=qR r
 cases ru
 obtain ⟨⟨o,es,ep,t,ho,hex,hd,_,_,hb,hf,hn⟩,_⟩:=I.hok a _ e
 rw [<- hn] at q
 exact call_len_set ho hex hd hf (by unfold scanBound at hb; omega) ⟨.int es.size,H,I.tok _,⟨_,rfl⟩,q⟩
theorem TyOf.same {K:Frag}{H H':Hp}{x:V}{t:Value}(h:TyOf K H x t)(s:Same H H'):TyOf K H' x t:=by
 cases h with
 | non=>exact .non
 | bl x=>exact .bl x
 | int i=>exact .int i
 | str x=>exact .str x
 | flt x=>exact .flt x
 | lst e=>exact .lst (s _ _ e)
 | frz e=>exact .frz (s _ _ e)
 | tup e=>exact .tup (s _ _ e)
 | dK e=>exact .dK (s _ _ e)
 | dT e=>exact .dT (s _ _ e)
 | ins e cl ha hn ht hm=>exact .ins (s _ _ e) cl ha hn ht hm
def BP0 (K:Frag)(T:String):List V->Hp->VK->Prop:=fun xs H Q=>∃ (x:V) (t:Value) (b:Bool),xs=[x,.ty T]/\TyOf K H x t/\kitOne K t (.type T)=some b/\Q (.bl b) H
theorem jS {X:Cx}{K:Frag}{T:String}(hK:X.K=K):CallR X (.builtin "isinstance") (BP0 K T):=by
 subst hK
 intro pins s σ H xs us Q I r h
 obtain ⟨x,t,b,rfl,ty,e,q⟩:=h
 obtain ⟨u,w',rfl,rx,rc⟩:=AW3 r
 cases (show w'=Value.type T from rc)
 exact pL I rx ty e fun tk=>⟨.bl b,H,I.tok _,rfl,q⟩
section
variable {X:Cx}
def BT3 (c:TT)(t u:XK->TS):XK->TS:=fun E D σ H=>c σ H fun b H1=>if b=true then t E D σ H1 else u E D σ H1
theorem BB0 {c:TT}{t u:XK->TS}{E:XK}{D:Ends}{σ:L2.St}{H:Hp}:BT3 c t u E D σ H=c σ H (fun b H1=>if b=true then t E D σ H1 else u E D σ H1):=rfl
end
section
variable {X:Cx}{CX:CXT}{k:Nat}{f C:Addr}{fd:FuncData}{ps ks:List Str}{sp:Sp}{E:XK}{x:Str}{p pos:Pos}{e:Expr}{es:List Expr}{kws:List Keyword}{t tk:TA}
 {g:List Value->List Value->List Value}{gV:List V->List V->List V}
def BH7 (C:Addr)(sp:Sp)(gV:List V->List V->List V)(E:XK)(t tk:TA):TE:=fun σ H Q=>t σ H fun vs H1=>tk σ H1 fun zs H2=>∀ x dx,H2 x=none->H2 dx=none->dx≠x ->
 sp (gV (.ref x::vs) zs) (L2.upd (L2.upd H2 dx (.own x)) x (.ins C dx [])) (fun v H3=>v=.non/\Q (.ref x) H3) E
theorem xN {σ:L2.St}{H:Hp}{Q:VK}:BH7 C sp gV E t tk σ H Q=t σ H (fun vs H1=>tk σ H1 fun zs H2=>∀ x dx,H2 x=none->H2 dx=none->dx≠x ->
 sp (gV (.ref x::vs) zs) (L2.upd (L2.upd H2 dx (.own x)) x (.ins C dx [])) (fun v H3=>v=.non/\Q (.ref x) H3) E):=rfl
end
structure CalK (P:Program) (w:World) (K:Frag) (mg:Str->Option Value) (base:Heap) (x:Str) (C:Addr) (ps ks:List Str) (k:Nat) (gV:List V->List V->List V) (sp:Sp):Prop where
 ex:∃ f fd g,FnOk P w K mg base (CXF P w) k f fd ps sp/\KBinds K fd ps ks g gV/\Mk K C f/\mg x=some (.ref C)
section
variable {X:Cx}{x:Str}{C:Addr}{ps ks:List Str}{k:Nat}{sp:Sp}{e:Expr}{es:List Expr}{t tk:TA}{p pos:Pos}{E:XK}{kws:List Keyword}{gV:List V->List V->List V}
end
section
variable {P:Program}{w:World}{K:Frag}{mg:Str->Option Value}{base:Heap}{f:Addr}{fd:FuncData}{ps:List Str}{x:Str}{CX:CXT}{k:Nat}
theorem FnOk.nev {sp:Sp}(h:∀ vs H Q E,¬ sp vs H Q E):FnOk P w K mg base CX k f fd ps sp:=⟨fun _ _ _ _ z=>(h _ _ _ _ z).elim,fun _ _ _ _ _ _ _ _ _ _ _ _ _ z=>(h _ _ _ _ z).elim⟩
theorem AU1 {spf:Nat->Sp}{n0:Nat}(h0:∀ vs H Q E,¬ spf 0 vs H Q E)(b:Binds K fd ps [])(kp:keepIn K (.ref f)=true)(hm:mg x=some (.ref f))(step:∀ d n,n0<=n->CalX P w K mg base x ps n (spf d)->FnOk P w K mg base (CXF P w) (n+1) f fd ps (spf (d+1))):∀ d,FnOk P w K mg base (CXF P w) (n0+d) f fd ps (spf d)
 | 0=>FnOk.nev h0
 | d+1=>step d (n0+d) (Nat.le_add_right _ _) ⟨f,fd,AU1 h0 b kp hm step d,b,kp,hm⟩
theorem sV {spf:Nat->Sp}{n0:Nat}(h0:∀ vs H Q E,¬ spf 0 vs H Q E)(b:Binds K fd ps [])(kp:keepIn K (.ref f)=true)(hm:mg x=some (.ref f))(step:∀ d n,n0<=n->CalX P w K mg base x ps n (spf d)->FnOk P w K mg base (CXF P w) (n+1) f fd ps (spf (d+1)))(d:Nat){n:Nat}(hn:n0+d<=n):CalX P w K mg base x ps n (spf d) :=
 ⟨f,fd,FnOk.lift (AU1 h0 b kp hm step d) hn,b,kp,hm⟩
end
section
variable {K:Frag}{σ:L2.St}{H:Hp}{Q:VK}{g:TG}{tt:TT}{te ta:TE}{ix:List (Option Nat)}{t:TS}{D:Ends}
theorem AP9 {K:Frag}{a:Addr}{xs:List V}{g:TG}{tt:TT}{te:TE}{σ:L2.St}{H:Hp}{Q:VK}(Pv:Nat->List V->L2.St->Hp->Prop)(hz:xs.length<=sizeLine)(h0:Pv 0 [] σ H)(hl:∀ i acc σ H,i<=xs.length->Pv i acc σ H->SqT K H a xs)(hs:∀ i x acc σ H,xs[i]?=some x->Pv i acc σ H->g x σ H fun σ2 H2=>tt σ2 H2 fun b H3=>if b=true then te σ2 H3 fun y H4=>Pv (i+1) (acc++[y]) σ2 H4 else Pv (i+1) acc σ2 H3)(hacc:∀ i acc σ H,Pv i acc σ H->acc.length<=i)(hd:∀ acc σ H,Pv xs.length acc σ H->∀ D,H D=none->Q (.ref D) (L2.upd H D (.lst acc))) :
  ∃ W:Nat->Nat->List V->L2.St->Hp->Prop,(∃ m,W 0 m [] σ H)/\∀ i m acc σ H,W i m acc σ H ->
   ((Itt K a).stop i H/\∀ D,H D=none->Q (.ref D) (L2.upd H D (.lst acc))) \/
   ((Itt K a).go i H/\acc.length < sizeLine/\∃ N:List V->L2.St->Hp->Prop,(∀ acc' σ' H',N acc' σ' H'->∃ m',m' < m/\W (i+1) m' acc' σ' H') /\
    ∀ x H',(Itt K a).yld i H x H'->g x σ H' fun σ2 H2=>tt σ2 H2 fun b H3=>if b=true then te σ2 H3 fun y H4=>N (acc++[y]) σ2 H4 else N acc σ2 H3):=by
 refine ⟨fun i m acc σ H=>m=xs.length - i/\i<=xs.length/\Pv i acc σ H,⟨xs.length,by simp,Nat.zero_le _,h0⟩,?_⟩
 rintro i m acc σ H ⟨rfl,hi,p⟩
 have q:=hl i acc σ H hi p
 have ha:=hacc i acc σ H p
 by_cases hlt:i < xs.length
 ·refine .inr ⟨⟨xs,xs[i],q,by simp [hlt]⟩,by omega,Pv (i+1),fun acc' σ' H' p'=>⟨xs.length - (i+1),by omega,rfl,hlt,p'⟩,fun x H' y=>?_⟩
  obtain ⟨e,y⟩:=y
  subst e
  exact hs i x acc σ _ (y xs q) p
 ·have e:i=xs.length:=by omega
  subst e
  exact .inl ⟨⟨xs,q,Nat.le_refl _⟩,hd acc σ H p⟩
def CompT (K:Frag)(a:Addr)(g:TG)(tt:TT)(te:TE)(Q:VK)(σ:L2.St)(H:Hp):Prop:=∃ W:Nat->Nat->List V->L2.St->Hp->Prop,(∃ m,W 0 m [] σ H)/\∀ i m acc σ H,W i m acc σ H ->
 ((Itt K a).stop i H/\∀ D,H D=none->Q (.ref D) (L2.upd H D (.lst acc))) \/
 ((Itt K a).go i H/\acc.length < sizeLine/\∃ N:List V->L2.St->Hp->Prop,(∀ acc' σ' H',N acc' σ' H'->∃ m',m' < m/\W (i+1) m' acc' σ' H') /\
  ∀ x H',(Itt K a).yld i H x H'->g x σ H' fun σ2 H2=>tt σ2 H2 fun b H3=>if b=true then te σ2 H3 fun y H4=>N (acc++[y]) σ2 H4 else N acc σ2 H3)
theorem xO:qS (BL6 K ta) ix g tt te σ H Q=ta σ H (fun x H1=>∃ a,x=.ref a/\(∃ xs,SqT K H1 a xs)/\CompT K a g tt te Q (wY ix σ) H1):=rfl
theorem CompT.by {a:Addr}{xs:List V}(Pv:Nat->List V->L2.St->Hp->Prop)(hz:xs.length<=sizeLine)(h0:Pv 0 [] σ H)(hl:∀ i acc σ H,i<=xs.length->Pv i acc σ H->SqT K H a xs)(hs:∀ i x acc σ H,xs[i]?=some x->Pv i acc σ H->g x σ H fun σ2 H2=>tt σ2 H2 fun b H3=>if b=true then te σ2 H3 fun y H4=>Pv (i+1) (acc++[y]) σ2 H4 else Pv (i+1) acc σ2 H3)(hacc:∀ i acc σ H,Pv i acc σ H->acc.length<=i)(hd:∀ acc σ H,Pv xs.length acc σ H->∀ D,H D=none->Q (.ref D) (L2.upd H D (.lst acc))):CompT K a g tt te Q σ H:=AP9 Pv hz h0 hl hs hacc hd
def ForT (K:Frag)(a:Addr)(g:TG)(tb:TS)(D:Ends)(σ:L2.St)(H:Hp):Prop:=∃ W:Nat->Nat->L2.St->Hp->Prop,(∃ m,W 0 m σ H)/\∀ i m σ H,W i m σ H ->
   ((Itt K a).stop i H/\D.nx σ H)\/((Itt K a).go i H/\∃ N:L2.St->Hp->Prop,(∀ σ' H',N σ' H'->∃ m',m' < m/\W (i+1) m' σ' H')/\∀ x H',(Itt K a).yld i H x H'->g x σ H' fun σ2 H2=>tb { D with nx:=N,ct:=N,bk:=D.nx } σ2 H2)
theorem AJ6:BD4 (BL6 K ta) g t D σ H=ta σ H (fun x H1=>∃ a,x=.ref a/\(∃ xs,SqT K H1 a xs)/\ForT K a g t D σ H1):=rfl
theorem ForT.by {a:Addr}{xs:List V}(Pv:Nat->L2.St->Hp->Prop)(h0:Pv 0 σ H)(hl:∀ i σ H,i<=xs.length->Pv i σ H->SqT K H a xs)(hs:∀ i x σ H,xs[i]?=some x->Pv i σ H->g x σ H fun σ2 H2=>t { D with nx:=Pv (i+1),ct:=Pv (i+1),bk:=D.nx } σ2 H2)(hd:∀ σ H,Pv xs.length σ H->D.nx σ H):ForT K a g t D σ H:=AW0 Pv h0 hl hs hd
end
inductive All2 {α β:Type}(R:α->β->Prop):List α->List β->Prop
 | nil:All2 R [] []
 | cons {a:α}{b:β}{as:List α}{bs:List β}(h:R a b) (r:All2 R as bs):All2 R (a::as) (b::bs)
section
variable {α β:Type}{R S:α->β->Prop}{as:List α}{bs:List β}
theorem All2.len (h:All2 R as bs):as.length=bs.length:=by
 induction h with
 | nil=>rfl
 | cons _ _ ih=>rw [List.length_cons,List.length_cons,ih]
theorem All2.imp (h:All2 R as bs)(k:∀ a b,a∈as->R a b->S a b):All2 S as bs:=by
 induction h with
 | nil=>exact .nil
 | cons h _ ih=>exact .cons (k _ _ List.mem_cons_self h) (ih fun a b m=>k a b (List.mem_cons_of_mem _ m))
theorem All2.snoc {a:α}{b:β}(h:All2 R as bs)(k:R a b):All2 R (as++[a]) (bs++[b]):=by
 induction h with
 | nil=>exact .cons k .nil
 | cons h _ ih=>exact .cons h ih
theorem All2.get (h:All2 R as bs):∀ {i:Nat}{b:β},bs[i]?=some b->∃ a,as[i]?=some a/\R a b:=by
 induction h with
 | nil=>intro i b e; simp at e
 | cons h _ ih =>
  intro i b e
  cases i with
  | zero=>cases e; exact ⟨_,rfl,h⟩
  | succ i=>exact ih e
end
mutual
inductive Tr where
 | any
 | kind (us:List Str)
 | place (us:List Str)
 | weight (n:Int)
 | not (t:Tr)
 | both (ts:Trs)
 | either (ts:Trs)
inductive Trs where
 | nil
 | cons (t:Tr) (ts:Trs)
end
def Trs.ofL:List Tr->Trs
 | []=>.nil
 | t::ts=>.cons t (Trs.ofL ts)
mutual
def Tr.ev (k p:Str)(w:Int):Tr->Bool
 | .any=>true
 | .kind us=>decide (k∈us)
 | .place us=>decide (p∈us)
 | .weight n=>decide (n<=w)
 | .not t=>!Tr.ev k p w t
 | .both ts=>(Trs.ev k p w ts).all id
 | .either ts=>(Trs.ev k p w ts).any id
def Trs.ev (k p:Str)(w:Int):Trs->List Bool
 | .nil=>[]
 | .cons t ts=>Tr.ev k p w t::Trs.ev k p w ts
end
mutual
def Tr.dp:Tr->Nat
 | .any=>0
 | .kind _=>0
 | .place _=>0
 | .weight _=>0
 | .not t=>Tr.dp t+1
 | .both ts=>Trs.dp ts+1
 | .either ts=>Trs.dp ts+1
def Trs.dp:Trs->Nat
 | .nil=>0
 | .cons t ts=>max (Tr.dp t) (Trs.dp ts)
end
mutual
def Tr.cnt:Tr->Nat
 | .any=>1
 | .kind us=>us.length
 | .place us=>us.length
 | .weight _=>1
 | .not t=>Tr.cnt t
 | .both ts=>Trs.cnt ts
 | .either ts=>Trs.cnt ts
def Trs.cnt:Trs->Nat
 | .nil=>0
 | .cons t ts=>Tr.cnt t+Trs.cnt ts
end
def BL0 (us:List Str):Prop:=us≠[]/\us.length<=6/\(∀ u∈us,aY u)/\us.Nodup
def Trs.toL:Trs->List Tr
 | .nil=>[]
 | .cons t ts=>t::ts.toL
mutual
def Tr.ok:Tr->Prop
 | .any=>True
 | .kind us=>BL0 us
 | .place us=>BL0 us
 | .weight n=>0<=n/\n < 1000000
 | .not t=>Tr.ok t
 | .both ts=>2<=ts.toL.length/\ts.toL.length<=6/\Trs.ok ts
 | .either ts=>2<=ts.toL.length/\ts.toL.length<=6/\Trs.ok ts
def Trs.ok:Trs->Prop
 | .nil=>True
 | .cons t ts=>Tr.ok t/\Trs.ok ts
end
theorem bI:∀ ts:List Tr,(Trs.ofL ts).toL=ts
 | []=>rfl
 | t::ts=>by rw [Trs.ofL,Trs.toL,bI ts]
theorem pR:∀ {ts:Trs}{t:Tr},t∈ts.toL->t.dp<=ts.dp
 | .nil,t,h=>by cases h
 | .cons s ts,t,h=>by
  rw [Trs.toL] at h
  rw [Trs.dp]
  rcases List.mem_cons.mp h with rfl | h
  ·exact Nat.le_max_left _ _
  ·exact Nat.le_trans (pR h) (Nat.le_max_right _ _)
theorem lS {n:Nat}:∀ {ts:Trs},(∀ t∈ts.toL,t.dp<=n)->ts.dp<=n
 | .nil,_=>Nat.zero_le _
 | .cons s ts,h=>by
  rw [Trs.toL] at h
  rw [Trs.dp]
  exact Nat.max_le.mpr ⟨h s List.mem_cons_self,lS fun t m=>h t (List.mem_cons_of_mem _ m)⟩
theorem trs_ok:∀ {ts:Trs},ts.ok ↔ ∀ t∈ts.toL,t.ok
 | .nil=>⟨fun _ t h=>(by cases h),fun _=>trivial⟩
 | .cons s ts=>by
  rw [Trs.toL,Trs.ok,trs_ok]
  exact ⟨fun h t m=>by
   rcases List.mem_cons.mp m with rfl | m
   ·exact h.1
   ·exact h.2 t m,fun h=>⟨h s List.mem_cons_self,fun t m=>h t (List.mem_cons_of_mem _ m)⟩⟩
theorem sW {n:Nat}:∀ {ts:Trs},(∀ t∈ts.toL,t.cnt<=n)->ts.cnt<=n * ts.toL.length
 | .nil,_=>Nat.zero_le _
 | .cons s ts,h=>by
  rw [Trs.toL] at h
  rw [Trs.toL,Trs.cnt,List.length_cons,Nat.mul_succ]
  have h1:=h s List.mem_cons_self
  have h2:=sW (ts:=ts) fun t m=>h t (List.mem_cons_of_mem _ m)
  omega
def Tr.tag:Tr->Nat
 | .any=>0
 | .kind _=>1
 | .place _=>2
 | .weight _=>3
 | .not _=>4
 | .both _=>5
 | .either _=>6
mutual
def Tr.At (H:Hp):Tr->V->Prop
 | .any,v=>∃ p,v=.ref p/\H p=some (.tup [.str "any"])
 | .kind us,v=>∃ p l,v=.ref p/\H p=some (.tup [.str "kind",.ref l])/\H l=some (.tup (us.map V.str))
 | .place us,v=>∃ p l,v=.ref p/\H p=some (.tup [.str "place",.ref l])/\H l=some (.tup (us.map V.str))
 | .weight n,v=>∃ p,v=.ref p/\H p=some (.tup [.str "weight",.int n])
 | .not t,v=>∃ p y,v=.ref p/\H p=some (.tup [.str "not",y])/\Tr.At H t y
 | .both ts,v=>∃ p l xs,v=.ref p/\H p=some (.tup [.str "both",.ref l])/\H l=some (.tup xs)/\Trs.At H ts xs
 | .either ts,v=>∃ p l xs,v=.ref p/\H p=some (.tup [.str "either",.ref l])/\H l=some (.tup xs)/\Trs.At H ts xs
def Trs.At (H:Hp):Trs->List V->Prop
 | .nil,xs=>xs=[]
 | .cons t ts,xs=>∃ y ys,xs=y::ys/\Tr.At H t y/\Trs.At H ts ys
end
theorem trs_at {H:Hp}:∀ {ts:Trs}{xs:List V},Trs.At H ts xs ↔ All2 (Tr.At H) ts.toL xs
 | .nil,xs=>by
  rw [Trs.At,Trs.toL]
  exact ⟨fun h=>h ▸ .nil,fun h=>by cases h; rfl⟩
 | .cons t ts,xs=>by
  rw [Trs.At,Trs.toL]
  constructor
  ·rintro ⟨y,ys,rfl,h1,h2⟩
   exact .cons h1 (trs_at.mp h2)
  ·intro h
   cases h with
   | cons h1 h2=>exact ⟨_,_,rfl,h1,trs_at.mpr h2⟩
def BH8 (H H':Hp):Prop:=∀ b xs,H b=some (.tup xs)->H' b=some (.tup xs)
theorem AJ7 {H H':Hp}(s:Same H H'):BH8 H H':=fun b _ e=>s b _ e
mutual
theorem Tr.At.keep {H H':Hp}(s:BH8 H H'):∀ {t:Tr}{v:V},Tr.At H t v->Tr.At H' t v
 | .any,v,h=>by rw [Tr.At] at h ⊢; obtain ⟨p,e,h⟩:=h; exact ⟨p,e,s _ _ h⟩
 | .kind us,v,h=>by rw [Tr.At] at h ⊢; obtain ⟨p,l,e,h,k⟩:=h; exact ⟨p,l,e,s _ _ h,s _ _ k⟩
 | .place us,v,h=>by rw [Tr.At] at h ⊢; obtain ⟨p,l,e,h,k⟩:=h; exact ⟨p,l,e,s _ _ h,s _ _ k⟩
 | .weight n,v,h=>by rw [Tr.At] at h ⊢; obtain ⟨p,e,h⟩:=h; exact ⟨p,e,s _ _ h⟩
 | .not t,v,h=>by rw [Tr.At] at h ⊢; obtain ⟨p,y,e,h,k⟩:=h; exact ⟨p,y,e,s _ _ h,Tr.At.keep s k⟩
 | .both ts,v,h=>by rw [Tr.At] at h ⊢; obtain ⟨p,l,xs,e,h,k,m⟩:=h; exact ⟨p,l,xs,e,s _ _ h,s _ _ k,Trs.At.keep s m⟩
 | .either ts,v,h=>by rw [Tr.At] at h ⊢; obtain ⟨p,l,xs,e,h,k,m⟩:=h; exact ⟨p,l,xs,e,s _ _ h,s _ _ k,Trs.At.keep s m⟩
theorem Trs.At.keep {H H':Hp}(s:BH8 H H'):∀ {ts:Trs}{xs:List V},Trs.At H ts xs->Trs.At H' ts xs
 | .nil,xs,h=>by rw [Trs.At] at h ⊢; exact h
 | .cons t ts,xs,h=>by rw [Trs.At] at h ⊢; obtain ⟨y,ys,e,h1,h2⟩:=h; exact ⟨y,ys,e,Tr.At.keep s h1,Trs.At.keep s h2⟩
end
theorem Tr.At.same {H H':Hp}{t:Tr}{v:V}(h:Tr.At H t v)(s:Same H H'):Tr.At H' t v:=h.keep (AJ7 s)
theorem AQ0 {H H':Hp}{w:Addr}(W:Well3 H w)(s:But w H H'):BH8 H H':=fun b xs e=>s b _ (fun z=>by
 obtain ⟨x,y,u,q⟩:=W
 rw [z,q] at e
 cases e) e
theorem Tr.At.but3 {H H':Hp}{w:Addr}{t:Tr}{v:V}(h:Tr.At H t v)(W:Well3 H w)(s:But w H H'):Tr.At H' t v:=h.keep (AQ0 W s)
structure FC where
 Any:Addr
 Kind:Addr
 Place:Addr
 Least:Addr
 Not:Addr
 Both:Addr
 Either:Addr
def Tr.cls (c:FC):Tr->Addr
 | .any=>c.Any
 | .kind _=>c.Kind
 | .place _=>c.Place
 | .weight _=>c.Least
 | .not _=>c.Not
 | .both _=>c.Both
 | .either _=>c.Either
mutual
def Tr.Fit (c:FC)(H:Hp):Tr->V->Prop
 | .any,v=>∃ p dx,v=.ref p/\H p=some (.ins c.Any dx [])
 | .kind us,v=>∃ p dx l,v=.ref p/\H p=some (.ins c.Kind dx [("names",.ref l)])/\H l=some (.lst (us.map V.str))
 | .place us,v=>∃ p dx l,v=.ref p/\H p=some (.ins c.Place dx [("names",.ref l)])/\H l=some (.lst (us.map V.str))
 | .weight n,v=>∃ p dx,v=.ref p/\H p=some (.ins c.Least dx [("weight",.int n)])
 | .not t,v=>∃ p dx y,v=.ref p/\H p=some (.ins c.Not dx [("fit",y)])/\Tr.Fit c H t y
 | .both ts,v=>∃ p dx l xs,v=.ref p/\H p=some (.ins c.Both dx [("fits",.ref l)])/\H l=some (.lst xs)/\Trs.Fit c H ts xs
 | .either ts,v=>∃ p dx l xs,v=.ref p/\H p=some (.ins c.Either dx [("fits",.ref l)])/\H l=some (.lst xs)/\Trs.Fit c H ts xs
def Trs.Fit (c:FC)(H:Hp):Trs->List V->Prop
 | .nil,xs=>xs=[]
 | .cons t ts,xs=>∃ y ys,xs=y::ys/\Tr.Fit c H t y/\Trs.Fit c H ts ys
end
theorem trs_fit {c:FC}{H:Hp}:∀ {ts:Trs}{xs:List V},Trs.Fit c H ts xs ↔ All2 (Tr.Fit c H) ts.toL xs
 | .nil,xs=>by
  rw [Trs.Fit,Trs.toL]
  exact ⟨fun h=>h ▸ .nil,fun h=>by cases h; rfl⟩
 | .cons t ts,xs=>by
  rw [Trs.Fit,Trs.toL]
  constructor
  ·rintro ⟨y,ys,rfl,h1,h2⟩
   exact .cons h1 (trs_fit.mp h2)
  ·intro h
   cases h with
   | cons h1 h2=>exact ⟨_,_,rfl,h1,trs_fit.mpr h2⟩
mutual
theorem Tr.Fit.same {c:FC}{H H':Hp}(s:Same H H'):∀ {t:Tr}{v:V},Tr.Fit c H t v->Tr.Fit c H' t v
 | .any,v,h=>by rw [Tr.Fit] at h ⊢; obtain ⟨p,d,e,h⟩:=h; exact ⟨p,d,e,s _ _ h⟩
 | .kind us,v,h=>by rw [Tr.Fit] at h ⊢; obtain ⟨p,d,l,e,h,k⟩:=h; exact ⟨p,d,l,e,s _ _ h,s _ _ k⟩
 | .place us,v,h=>by rw [Tr.Fit] at h ⊢; obtain ⟨p,d,l,e,h,k⟩:=h; exact ⟨p,d,l,e,s _ _ h,s _ _ k⟩
 | .weight n,v,h=>by rw [Tr.Fit] at h ⊢; obtain ⟨p,d,e,h⟩:=h; exact ⟨p,d,e,s _ _ h⟩
 | .not t,v,h=>by rw [Tr.Fit] at h ⊢; obtain ⟨p,d,y,e,h,k⟩:=h; exact ⟨p,d,y,e,s _ _ h,Tr.Fit.same s k⟩
 | .both ts,v,h=>by rw [Tr.Fit] at h ⊢; obtain ⟨p,d,l,xs,e,h,k,m⟩:=h; exact ⟨p,d,l,xs,e,s _ _ h,s _ _ k,Trs.Fit.same s m⟩
 | .either ts,v,h=>by rw [Tr.Fit] at h ⊢; obtain ⟨p,d,l,xs,e,h,k,m⟩:=h; exact ⟨p,d,l,xs,e,s _ _ h,s _ _ k,Trs.Fit.same s m⟩
theorem Trs.Fit.same {c:FC}{H H':Hp}(s:Same H H'):∀ {ts:Trs}{xs:List V},Trs.Fit c H ts xs->Trs.Fit c H' ts xs
 | .nil,xs,h=>by rw [Trs.Fit] at h ⊢; exact h
 | .cons t ts,xs,h=>by rw [Trs.Fit] at h ⊢; obtain ⟨y,ys,e,h1,h2⟩:=h; exact ⟨y,ys,e,Tr.Fit.same s h1,Trs.Fit.same s h2⟩
end
theorem Tr.Fit.ins {c:FC}{H:Hp}{t:Tr}{v:V}(h:Tr.Fit c H t v):∃ p dx fs,v=.ref p/\H p=some (.ins (t.cls c) dx fs)/\fs.lookup ("fits_it":Str)=none:=by
 cases t with
 | any=>rw [Tr.Fit] at h; obtain ⟨p,d,e,h⟩:=h; exact ⟨p,d,_,e,h,rfl⟩
 | kind us=>rw [Tr.Fit] at h; obtain ⟨p,d,l,e,h,_⟩:=h; exact ⟨p,d,_,e,h,rfl⟩
 | place us=>rw [Tr.Fit] at h; obtain ⟨p,d,l,e,h,_⟩:=h; exact ⟨p,d,_,e,h,rfl⟩
 | weight n=>rw [Tr.Fit] at h; obtain ⟨p,d,e,h⟩:=h; exact ⟨p,d,_,e,h,rfl⟩
 | not t=>rw [Tr.Fit] at h; obtain ⟨p,d,y,e,h,_⟩:=h; exact ⟨p,d,_,e,h,rfl⟩
 | both ts=>rw [Tr.Fit] at h; obtain ⟨p,d,l,xs,e,h,_⟩:=h; exact ⟨p,d,_,e,h,rfl⟩
 | either ts=>rw [Tr.Fit] at h; obtain ⟨p,d,l,xs,e,h,_⟩:=h; exact ⟨p,d,_,e,h,rfl⟩
def DtAt (H:Hp)(n:Nat)(x:V):Prop:=∃ d,RD H x d/\PyData.canLay0 d=true/\PyData.depth d<=n
theorem DtAt.mono {H:Hp}{n m:Nat}{x:V}(h:DtAt H n x)(k:n<=m):DtAt H m x:=let ⟨d,r,c,e⟩:=h; ⟨d,r,c,Nat.le_trans e k⟩
theorem dts {H:Hp}{n:Nat}:∀ {xs:List V},(∀ x∈xs,DtAt H n x)->∃ ds,RDs H xs ds/\PyData.canLayAll0 ds=true/\PyData.depthAll ds<=n/\ds.length=xs.length
 | [],_=>⟨[],.nil,by simp [PyData.canLayAll0],by simp [PyData.depthAll],rfl⟩
 | x::xs,h=>by
  obtain ⟨d,r,c,e⟩:=h x List.mem_cons_self
  obtain ⟨ds,rs,cs,es,ls⟩:=dts (xs:=xs) fun y m=>h y (List.mem_cons_of_mem _ m)
  exact ⟨d::ds,.cons r rs,by simp only [PyData.canLayAll0,c,cs,Bool.and_self],by simp only [PyData.depthAll]; exact Nat.max_le.mpr ⟨e,es⟩,by rw [List.length_cons,List.length_cons,ls]⟩
theorem jT {H:Hp}{n:Nat}{p:Addr}{xs:List V}(h:H p=some (.tup xs))(hx:∀ x∈xs,DtAt H n x):DtAt H (n+1) (.ref p):=by
 obtain ⟨ds,rs,cs,es,_⟩:=dts hx
 exact ⟨.tuple ds,.tup h rs,by simp only [PyData.canLay0]; exact cs,by simp only [PyData.depth]; omega⟩
theorem kM {H:Hp}{n:Nat}{u:Str}(h:PyData.strOk u=true):DtAt H n (.str u):=⟨.str u,.str u,by simp only [PyData.canLay0]; exact h,by simp only [PyData.depth]; omega⟩
theorem BH9 {H:Hp}{n:Nat}{i:Int}:DtAt H n (.int i):=⟨.int i,.int i,by simp only [PyData.canLay0],by simp only [PyData.depth]; omega⟩
theorem xP {H:Hp}{n:Nat}{us:List Str}(h:∀ u∈us,aY u):∀ x∈us.map V.str,DtAt H n x:=fun x hx=>by
 obtain ⟨u,hu,rfl⟩:=List.mem_map.mp hx
 exact kM (sR (h u hu))
theorem rT {H:Hp}{n:Nat}{x y:V}(h1:DtAt H n x)(h2:DtAt H n y):∀ z∈[x,y],DtAt H n z:=fun z hz=>by
 simp only [List.mem_cons,List.not_mem_nil,or_false] at hz
 rcases hz with rfl | rfl
 ·exact h1
 ·exact h2
mutual
theorem Tr.At.dt {H:Hp}:∀ {t:Tr}{v:V},t.ok->t.At H v->DtAt H (2 * t.dp+2) v
 | .any,v,ho,h=>by
  rw [Tr.At] at h
  rw [Tr.dp]
  obtain ⟨p,rfl,h⟩:=h
  exact jT h fun x hx=>by rw [List.mem_singleton.mp hx]; exact kM (by decide +kernel)
 | .kind us,v,ho,h=>by
  rw [Tr.At] at h
  rw [Tr.ok] at ho
  rw [Tr.dp]
  obtain ⟨p,l,rfl,h,k⟩:=h
  exact jT h (rT (kM (by decide +kernel)) (jT k (xP ho.2.2.1)))
 | .place us,v,ho,h=>by
  rw [Tr.At] at h
  rw [Tr.ok] at ho
  rw [Tr.dp]
  obtain ⟨p,l,rfl,h,k⟩:=h
  exact jT h (rT (kM (by decide +kernel)) (jT k (xP ho.2.2.1)))
 | .weight n,v,ho,h=>by
  rw [Tr.At] at h
  rw [Tr.dp]
  obtain ⟨p,rfl,h⟩:=h
  exact jT h (rT (kM (by decide +kernel)) BH9)
 | .not t,v,ho,h=>by
  rw [Tr.At] at h
  rw [Tr.ok] at ho
  rw [Tr.dp]
  obtain ⟨p,y,rfl,h,k⟩:=h
  exact (jT h (rT (kM (by decide +kernel)) (Tr.At.dt ho k))).mono (by omega)
 | .both ts,v,ho,h=>by
  rw [Tr.At] at h
  rw [Tr.ok] at ho
  rw [Tr.dp]
  obtain ⟨p,l,xs,rfl,h,k,m⟩:=h
  exact (jT h (rT (kM (by decide +kernel)) (jT k (Trs.At.dt ho.2.2 m)))).mono (by omega)
 | .either ts,v,ho,h=>by
  rw [Tr.At] at h
  rw [Tr.ok] at ho
  rw [Tr.dp]
  obtain ⟨p,l,xs,rfl,h,k,m⟩:=h
  exact (jT h (rT (kM (by decide +kernel)) (jT k (Trs.At.dt ho.2.2 m)))).mono (by omega)
theorem Trs.At.dt {H:Hp}:∀ {ts:Trs}{xs:List V},ts.ok->ts.At H xs->∀ x∈xs,DtAt H (2 * ts.dp+2) x
 | .nil,xs,_,h=>by
  rw [Trs.At] at h
  rw [h]
  intro x hx
  cases hx
 | .cons t ts,xs,ho,h=>by
  rw [Trs.At] at h
  rw [Trs.ok] at ho
  rw [Trs.dp]
  obtain ⟨y,ys,rfl,h1,h2⟩:=h
  intro x hx
  rcases List.mem_cons.mp hx with rfl | hx
  ·exact (Tr.At.dt ho.1 h1).mono (by omega)
  ·exact (Trs.At.dt ho.2 h2 x hx).mono (by omega)
end
theorem sX {H:Hp}{p q:Addr}{xs:List V}{n:Nat}{b:Bool}{Q:VK}(h1:H p=some (.lst xs))(h2:H q=some (.lst []))(hn:n<=60)(hx:∀ x∈xs,DtAt H n x)(k:Q (.bl (xs.isEmpty == b)) H):BK9 b (.ref p) (.ref q) H Q:=by
 obtain ⟨ds,rs,cs,es,ls⟩:=dts hx
 refine ⟨_,_,.lst h1 rs,.lst h2 .nil,(gO (Nat.le_trans es hn) ⟨cs,rfl⟩).1,(gO (Nat.zero_le _) ⟨by simp [PyData.canLayAll0],by simp [PyData.depthAll]⟩).1,?_⟩
 rw [BA8]
 have:ds.isEmpty=xs.isEmpty:=by
  cases ds <;> cases xs <;> first | rfl | cases ls
 rw [this]
 exact k
def ThAt (H:Hp)(x:V)(k p:Str)(w:Int):Prop:=∃ tp,x=.ref tp/\H tp=some (.tup [.str k,.str p,.int w])/\aY k/\aY p/\0<=w/\w < 1000000
theorem ThAt.same {H H':Hp}{x:V}{k p:Str}{w:Int}(h:ThAt H x k p w)(s:Same H H'):ThAt H' x k p w:=by
 obtain ⟨tp,e,h,r⟩:=h
 exact ⟨tp,e,s _ _ h,r⟩
section
variable {prog:Program}{w:World}{A:Around}{E:Value->Shared->Prop}
end
section
variable {X:Cx}{pos:Pos}
def BT4 (K:Frag)(n:Nat)(t:TGs):TG:=fun v σ H Q=>∃ a xs,v=.ref a/\SqL K H a xs/\xs.length=n/\t xs σ H Q
theorem AJ8 {K:Frag}{n:Nat}{t:TGs}{v:V}{σ:L2.St}{H:Hp}{QS:L2.St->Hp->Prop}:BT4 K n t v σ H QS=∃ a xs,v=.ref a/\SqL K H a xs/\xs.length=n/\t xs σ H QS:=rfl
end
mutual
def Tr.okl:Tr->Prop
 | .any=>True
 | .kind us=>BL0 us
 | .place us=>BL0 us
 | .weight n=>0<=n/\n < 1000000
 | .not t=>Tr.okl t
 | .both ts=>Trs.okl ts
 | .either ts=>Trs.okl ts
def Trs.okl:Trs->Prop
 | .nil=>True
 | .cons t ts=>Tr.okl t/\Trs.okl ts
end
mutual
theorem Tr.ok.l:∀ {t:Tr},t.ok->t.okl
 | .any,_=>trivial
 | .kind us,h=>by rw [Tr.ok] at h; rw [Tr.okl]; exact h
 | .place us,h=>by rw [Tr.ok] at h; rw [Tr.okl]; exact h
 | .weight n,h=>by rw [Tr.ok] at h; rw [Tr.okl]; exact h
 | .not t,h=>by rw [Tr.ok] at h; rw [Tr.okl]; exact Tr.ok.l h
 | .both ts,h=>by rw [Tr.ok] at h; rw [Tr.okl]; exact Trs.ok.l h.2.2
 | .either ts,h=>by rw [Tr.ok] at h; rw [Tr.okl]; exact Trs.ok.l h.2.2
theorem Trs.ok.l:∀ {ts:Trs},ts.ok->ts.okl
 | .nil,_=>trivial
 | .cons t ts,h=>by rw [Trs.ok] at h; rw [Trs.okl]; exact ⟨Tr.ok.l h.1,Trs.ok.l h.2⟩
end
open Builtin Builtin.ObjectAttr
def AJ9:List Value->Bool
 | .ref _::r=>AJ9 r
 | l=>l == vbm
theorem rV (self:Value):∀ {l:List Value},AJ9 l=true->refuseLoop self "__setattr__" l=pure ()
 | [],e=>by cases e
 | .ref c::r,e=>by rw [refuseLoop_ref]; exact rV self e
 | .type n::r,e=>by rw [beq_iff_eq.mp e]; exact PySem.F.store_ValueError.passes self
 | .none::r,e=>by cases beq_iff_eq.mp e
 | .bool _::r,e=>by cases beq_iff_eq.mp e
 | .int _ _::r,e=>by cases beq_iff_eq.mp e
 | .str _ _::r,e=>by cases beq_iff_eq.mp e
 | .bytes _ _::r,e=>by cases beq_iff_eq.mp e
 | .float _ _::r,e=>by cases beq_iff_eq.mp e
 | .builtin _::r,e=>by cases beq_iff_eq.mp e
 | .notImplemented::r,e=>by cases beq_iff_eq.mp e
 | .ellipsis::r,e=>by cases beq_iff_eq.mp e
structure ExcS (K:Frag) (C:Addr) (cd:ClassData):Prop where
 at_:clsIn K C=some cd
 mro:AJ9 cd.mro=true
 hd:cd.hasDict=true
 sa:findIn K (.ref C) "__setattr__"=some (some (.builtin "object.__setattr__"))
section
variable {prog:Program}{w:World}{A:Around}{E:Value->Shared->Prop}{s:Shared}{K:Frag}{x C:Addr}{cd:ClassData}{name:Str}{v:Value}
theorem BB1 {R:Result->Shared->Prop}{ox:Obj}{od:Option Obj}{tk:Tok}(X:K.In s.heap)(I:InstAt s.heap x ox C od)(F:ExcS K C cd)(hO:mroIn K C (.type "object")=some true)(ha:findIn K (.ref C) name=some none)(h:wpAny (model prog w) A.in1 (storeInOwnDict (.ref x) (.ref C) (.str name tk) name v false)
   (fun fin s'=>match fin with | .done f=>R (.ok f) s' | .again c'=>c'.quiet=true/\codeAny (model prog w) A c' R s') (fun e s'=>R (.error e) s') s) :
  codeAny (model prog w) A (.call (.builtin "object.__setattr__") ⟨[.ref x,.str name tk,v],[]⟩) R s:=by
 have SF:=PySem.F.store_object
 have sub:Looks (model prog w) s.heap (isInstance (.ref x) (.type "object")) true:=I.type.andThen (looks_mroIn X hO)
 refine codeAny_call_builtin SF.slot.plain SF.entry (@check_slot (model prog w) _ _ s "object.__setattr__" "object" "__setattr__" (.ref x) [.str name tk,v] [] _ SF.kind SF.split sub (SF.args (.ref x) (.str name tk) v) ?_)
 have hm:Looks (model prog w) s.heap (mroOf (.ref C)) cd.mro:=(looks_clsIn X F.at_).andThen .now
 have L3:Looks (model prog w) s.heap (storeTaker? none) none:=.now
 rw [osa_eq,refuse_eq]
 refine wpAny_bind (wpAny_bind (I.type.here (wpAny_bind (hm.here ?_))))
 rw [rV _ F.mro]
 refine wpAny_pure (wpAny_bind (I.type.here (wpAny_bind ((looks_findIn X ha).here (wpAny_bind (L3.here ?_))))))
 exact h
theorem BT5 {ox:Obj}{vs:Array Value}{Q:Unit->Shared->Prop}(X:K.In s.heap)(hx:s.heap.get? x=some ox)(hcl:ox.cls=.ref C)(hdt:ox.data=.fields vs)(hdn:ox.dict=none)(F:ExcS K C cd)(hO:mroIn K C (.type "object")=some true)(ha:findIn K (.ref C) name=some none)(h:∀ h' t',h'.get? x=some { ox with dict:=some s.heap.objs.size }->h'.Ns1 s.heap.objs.size (fun y=>if y=name then some v else none)->(∀ b o,b≠x->s.heap.get? b=some o->h'.get? b=some o)->Q () { s with heap:=h',toks:=t' }) :
  wpAny (model prog w) A (setAttr (.ref x) name v) Q E s:=by
 obtain ⟨oc,od0,odt,osl⟩:=ox
 dsimp only at hcl hdt hdn
 subst hcl hdt hdn
 have I:InstAt s.heap x ⟨.ref C,none,.fields vs,osl⟩ C none:=⟨hx,rfl,rfl,trivial⟩
 refine set_plain X I F.sa (BB1 (s:={ s with toks:=s.toks+1 }) X I F hO ha ?_)
 have hxs:x≠s.heap.objs.size:=Nat.ne_of_lt (Heap.lt_size hx)
 have hx₁:(s.heap.push { cls:=.type "dict",data:=.dict #[] }).get? x=some ⟨.ref C,none,.fields vs,osl⟩:=Heap.get?_push_of_some _ hx
 refine wpAny_bind (wpAny_pure (wpAny_bind (wpAny_bind (wpAny_loadPart hx (wpAny_bind (Looks.here (s:={ s with toks:=s.toks+1 }) (looks_clsIn X F.at_) ?_))))))
 rw [F.hd]
 dsimp only
 refine wpAny_bind (wpAny_alloc' ?_)
 refine wpAny_bind (wpAny_update' hx₁ ?_)
 refine wpAny_pure ?_
 have hgd:((s.heap.push { cls:=.type "dict",data:=.dict #[] }).update x fun o=>{ cls:=o.cls,dict:=some s.heap.objs.size,data:=o.data,slots:=o.slots }).get? s.heap.objs.size
   = some { cls:=.type "dict",data:=.dict #[] } :=
  (Heap.get?_update_ne _ _ _ _ hxs.symm).trans (Heap.get?_push_at rfl rfl)
 have hnd:((s.heap.push { cls:=.type "dict",data:=.dict #[] }).update x fun o=>{ cls:=o.cls,dict:=some s.heap.objs.size,data:=o.data,slots:=o.slots }).Ns s.heap.objs.size (fun _=>none) :=
  ⟨_,#[],_,hgd,rfl,fun e he=>absurd he (by simp),fun _=>rfl⟩
 show wpAny _ _ (storeInDict s.heap.objs.size (.str name _) name v) _ _ _
 unfold storeInDict newKeyGuard
 refine wpAny_bind (wpAny_pure (wpAny_bind (wpAny_nsSet1 (Heap.Ns1.of_empty hnd) fun h' hn' hs=>?_)))
 obtain ⟨oD,esD,epD,hoD,hdD,hcD⟩:=hn'.count (Within.cons name v Within.nil)
 refine wpAny_bind (wpAny_lookBehind hoD (by rw [hdD]; exact pastItsLine_dict (Nat.le_trans hcD (by rw [List.length_cons,List.length_nil,sizeLine_eq]; omega))) ?_)
 refine wpAny_pure (h h' _ ?_ hn' fun b o hbx hb=>?_)
 ·refine (hs.2 x hxs).trans (Heap.get?_update_self _ hx₁ rfl)
 ·exact (hs.2 b (Nat.ne_of_lt (Heap.lt_size hb))).trans ((Heap.get?_update_ne _ _ _ _ hbx).trans (Heap.get?_push_of_some _ hb))
end
end Bw
namespace Bw
open PySem PySem.Spec PyProof.Rows L2 PySem.W
open Builtin Builtin.ObjectAttr
section
variable {prog:Program}{w:World}{A:Around}{E:Value->Shared->Prop}{K:Frag}{h:Heap}{g:Array GenState}{d:Drawn}{t:Nat}{os:OsState}{x C:Addr}{name:Str}{v:Value}{ox od:Obj}
theorem AK0 {tk:Tok}{Q:Fin->Shared->Prop}(Z:K.In h)(I:InstAt h x ox C (some od))(hf:findObj K C (some od) name=some (.value v))(hq:Q (.done (.ret v)) ⟨h,g,d,t,os⟩) :
  wpAny (model prog w) A (Builtin.«object.__getattribute__» ⟨[.ref x,.str name tk],[]⟩) Q E ⟨h,g,d,t,os⟩:=by
 have L0:=I.type (M:=model prog w)
 have L1:=looks_find (M:=model prog w) Z I hf
 refine wpAny_bind (wpAny_pure (wpAny_bind (wpAny_pure (wpAny_bind (L0.at (wpAny_bind (L1.at ?_)))))))
 exact wpAny_pure hq
theorem AK1 {M:Model}{nameV:Value}{Q:Unit->Shared->Prop}(Z:K.In h)(F:ExcK K C)(I:InstAt h x ox C (some od))(hq:Q () ⟨h,g,d,t,os⟩) :
  wpAny M A (checkBuiltinCall "BaseException.__getattribute__" ⟨[.ref x,nameV],[]⟩) Q E ⟨h,g,d,t,os⟩:=AH7 Z F ⟨ox,I.at_,I.cls⟩ hq
theorem AQ1 {tk:Tok}{R:Result->Shared->Prop}(Z:K.In h)(F:ExcK K C)(I:InstAt h x ox C (some od))(hf:findObj K C (some od) name=some (.value v))(hq:R (.ok (.ret v)) ⟨h,g,d,t,os⟩) :
  codeAny (model prog w) A (.call (.builtin "BaseException.__getattribute__") ⟨[.ref x,.str name tk],[]⟩) R ⟨h,g,d,t,os⟩ :=
 codeAny_call_builtin PySem.F.excAttr_ValueError.ga.plain PySem.F.entry_bexc_ga (AK1 Z F I (AK0 Z I hf hq))
theorem BI0 {tk:Tok}{fill expr:Bool}{Q:Value->Shared->Prop}(Z:K.In h)(F:ExcK K C)(I:InstAt h x ox C (some od))(hf:findObj K C (some od) name=some (.value v))(hv:handedIn v=true)(hq:Q v ⟨h,g,d,t,os⟩) :
  wpAny (model prog w) A (getAttrBy (.ref x) (.str name tk) fill expr) Q E ⟨h,g,d,t,os⟩:=by
 have L0:=I.type (M:=model prog w)
 have L1:=looks_findIn (M:=model prog w) Z F.ga
 have L2:=looks_findIn (M:=model prog w) Z F.gt
 have f3:=PySem.F.excAttr_ValueError.ga.bind (.ref x)
 have f9:=handedOut_of hv
 have hx0:(expr && onTheHeap (Value.builtin "BaseException.__getattribute__"))=false:=by cases expr <;> rfl
 have hx2:(Value.builtin "BaseException.__getattribute__" == Value.builtin "object.__getattribute__")=false:=by decide +kernel
 have hx1:(onTheHeap (Value.ref C) && Value.builtin "BaseException.__getattribute__" == Value.builtin "object.__getattribute__")=false:=by rw [hx2]; rfl
 repeat (any_goals (first | assumption | (with_reducible refine Looks.at (by assumption) ?_) | wp_step))
 refine AQ1 Z F I hf ?_
 repeat (any_goals (first | assumption | wp_step))
theorem AQ2 {expr:Bool}{Q:Value->Shared->Prop}(Z:K.In h)(F:ExcK K C)(I:InstAt h x ox C (some od))(hf:findObj K C (some od) name=some (.value v))(hv:handedIn v=true)(hq:Q v ⟨h,g,d,t+1,os⟩) :
  wpAny (model prog w) A (getAttr (.ref x) name expr) Q E ⟨h,g,d,t,os⟩:=by
 unfold getAttr
 repeat (any_goals (first | assumption | with_reducible apply BI0 Z F I hf hv | wp_step))
end
end Bw
namespace Bw
open PySem PySem.Spec PyProof.Rows L2 PySem.W
def vI (x C:Addr)(dx:Option Addr)(h:Heap):Prop:=∃ ob a0,h.get? x=some ob/\ob.cls=.ref C/\ob.dict=dx/\ob.data=.fields #[a0,.none,.none,.none,.bool false,.none]
def fN (x C:Addr)(dx:Option Addr):HO:=.ext (vI x C dx)
section
variable {P:Program}{w:World}{H:Hp}{h:Heap}
theorem AK2 {x C:Addr}{dx:Option Addr}(p:vI x C dx h):ObjOk P w H h x (fN x C dx) :=
 let ⟨ob,a0,e,r⟩:=p; ⟨p,⟨ob,e⟩,fun h1 h2 ⟨o1,b0,q1,q2⟩ k=>⟨o1,b0,k _ q1,q2⟩⟩
end
section
variable {X:Cx}{pins:List (Addr × Obj)}{σ:L2.St}{H:Hp}{s:Shared}{o value:Expr}{ta tv:TE}{f:Str}{pos pos':Pos}{A:Around}{E:Value->Shared->Prop}
theorem BB2 {a C:Addr}{cd:ClassData}{y:V}{u:Value}{Q:Unit->Shared->Prop}(I:Inv X pins σ H s)(ea:H a=some (fN a C none))(F:ExcS X.K C cd)(hO:mroIn X.K C (.type "object")=some true)(n:NoAttr X.K C f)(ry:RelV y u)(h:∀ dx s',H dx=none->dx≠a->Inv X pins σ (upd (upd H dx (.xd [(f,y)])) a (fN a C (some dx))) s'->Q () s'):wpAny (model X.prog X.w) A (setAttr (.ref a) f u) Q E s:=by
 obtain ⟨⟨ob,a0,hob,hcl,hdn,hdt⟩,_,_⟩:=(show ObjOk X.prog X.w H s.heap a (.ext (vI a C none)) from I.hok a _ ea)
 refine BT5 I.kIn hob hcl hdt hdn F hO n fun h' t' hx' hn' hk=>?_
 have nd:H s.heap.objs.size=none:=I.hok.fresh (Nat.le_refl _)
 have da:s.heap.objs.size≠a:=fun z=>absurd (Heap.lt_size hob) (by rw [z]; exact Nat.lt_irrefl _)
 have nb:∀ b o',s.heap.get? b=some o'->b≠s.heap.objs.size:=fun b o' q=>Nat.ne_of_lt (Heap.lt_size q)
 have na:∀ b,H b=none->b≠a:=fun b q z=>by rw [z,ea] at q; cases q
 have up:∀ b v,H b=some v->b≠a->upd (upd H s.heap.objs.size (.xd [(f,y)])) a (fN a C (some s.heap.objs.size)) b=some v:=fun b v q z=>by rw [aN z,aN (aP q nd)]; exact q
 refine h s.heap.objs.size _ nd da (I.un (t':=t') (H':=upd (upd H s.heap.objs.size (.xd [(f,y)])) a (fN a C (some s.heap.objs.size))) ⟨fun b o' q k _ _=>hk b o' (na b k) q,fun b o' q k _ _=>⟨o'.slots,hk b o' (na b k) q⟩,fun b o' q k _=>?_,fun b o' q _=>?_,fun b xs q=>up b _ q fun z=>?_,fun b o' u' q=>up b _ q fun z=>?_,fun b ps q=>⟨#[],?_⟩⟩ fun b v q=>?_)
 ·rw [aN (na b k),aN (nb b o' q)]; exact k
 ·by_cases z:b=a
  ·rw [z]; exact ⟨_,hx'⟩
  ·exact ⟨o',hk b o' z q⟩
 ·rw [z,ea] at q; cases q
 ·rw [z,ea] at q; cases q
 ·rw [Array.append_empty]
  exact up b _ q fun z=>by rw [z,ea] at q; cases q
 ·by_cases z:b=a
  ·subst z
   rw [aA] at q
   cases q
   exact AK2 ⟨_,a0,hx',hcl,rfl,hdt⟩
  ·rw [aN z] at q
   by_cases z2:b=s.heap.objs.size
   ·subst z2
    rw [aA] at q
    cases q
    refine ⟨_,hn',fun g=>?_⟩
    by_cases zg:g=f
    ·subst zg
     rw [if_pos rfl,List.lookup_cons,beq_self_eq_true]
     exact ry
    ·rw [if_neg zg,List.lookup_cons,show (g == f)=false from beq_eq_false_iff_ne.mpr zg]
     exact trivial
   ·rw [aN z2] at q
    refine (I.hok b v q).stay (fun c u' hc r=>hk c u' (fun zc=>?_) r) (fun c r=>up c _ r fun zc=>?_) fun c xs r=>up c _ r fun zc=>?_
    ·rcases hc with y' | y'
     ·exact z (y'.symm.trans zc)
     ·rw [zc,ea] at y'; cases y'
    ·rw [zc,ea] at r; cases r
    ·rw [zc,ea] at r; cases r
def BI1 (K:Frag)(ta tv:TE)(f:Str):TS:=fun D σ H=>tv σ H fun y H1=>ta σ H1 fun x H2=>∃ a C cd,x=.ref a/\H2 a=some (fN a C none)/\ExcS K C cd/\mroIn K C (.type "object")=some true/\NoAttr K C f /\
 ∀ dx,H2 dx=none->dx≠a->D.nx σ (upd (upd H2 dx (.xd [(f,y)])) a (fN a C (some dx)))
theorem AK3 (ha:PE X o ta)(hv:PE X value tv)(hs:swapsWith value (some (.Attribute o f pos')) pos.line X.env=pure false:=by rfl):PS X (.Assign [.Attribute o f pos'] value pos) (BI1 X.K ta tv f):=by
 intro pins s σ H D I h
 refine plainObj_wpAny_Assign_Attribute (thn (hv pins s σ H _ I h) fun u s1 ⟨y,H1,I1,ry,q⟩=>thn (ha pins s1 σ H1 _ I1 q) fun ov s2 ⟨x,H2,I2,rx,a,C,cd,ex,ea,F,hO,n,q2⟩=>?_) hs
 subst ex
 obtain rfl:ov=Value.ref a:=rx
 exact BB2 I2 ea F hO n ry fun dx s3 e1 e2 I3=>⟨σ,_,I3,q2 dx e1 e2⟩
def BB3 (K:Frag)(ta:TE)(f:Str):TE:=fun σ H Q=>ta σ H fun x H1=>∃ a C dx fs v,x=.ref a/\H1 a=some (hU a (.ref C) (some dx))/\H1 dx=some (.xd fs)/\ExcK K C/\hasDictIn K C=true/\NoAttr K C f/\fs.lookup f=some v/\Q v H1
theorem BB4 {e:Expr}(he:PE X e ta)(hb:attributeBase e f X.env (eval e X.env)=eval e X.env:=by rfl):PE X (.Attribute e f pos) (BB3 X.K ta f):=by
 intro pins s σ H Q I h
 refine AE8 hb (thn (he pins s σ H _ I h) fun u s1 ⟨x,H1,I1,rx,a,C,dx,fs,v,ex,ea,ed,F,hh,n,l,q⟩=>?_)
 subst ex
 obtain rfl:u=Value.ref a:=rx
 obtain ⟨⟨ob,hob,hcl,hdx,vs,hdt⟩,_,_⟩:=(show ObjOk X.prog X.w H1 s1.heap a (.ext (excAtD a (.ref C) (some dx))) from I1.hok a _ ea)
 obtain ⟨mA,hn,r⟩:=(show ObjOk X.prog X.w H1 s1.heap dx (.xd fs) from I1.hok dx _ ed)
 obtain ⟨u,hu,ru⟩:=RelO.some_of (v:=v) (o:=mA f) (by rw [<- l]; exact r f)
 obtain ⟨hh',g,d,t,os⟩:=s1
 obtain ⟨od,J,hl⟩:∃ od,InstAt hh' a ob C (some od)/\lookIn f od=some (mA f):=by
  obtain ⟨od,ho,hl⟩:=uR hn
  refine ⟨od,⟨hob,hcl,?_,?_⟩,hl f⟩
  ·unfold notCls
   rw [hdt]
  ·rw [hdx]
   exact ho
 exact AQ2 I1.kIn F J (findObj_own hh n rfl (by rw [hl,hu])) (uS ru) ⟨v,H1,I1.tok _,ru,q⟩
end
section
variable {prog:Program}{w:World}{A:Around}{E:Value->Shared->Prop}{h:Heap}{g:Array GenState}{d:Drawn}{t:Nat}{os:OsState}{K:Frag}
variable {nm q:Str}{C N:Addr}{bs bm bmB:List Value}{hdct:Bool}{sn:List Str}{sub:List Value}{ab:Bool}{col:Option Bool}{dd:Option Addr}{k0 k1 k2 k3 k5:Option Value}{B newId initId:String}
theorem pS (F:ExcBaseFacts B newId initId bmB)(T:OwnTail h bmB bm){rest:List Value}{fI:Addr}{Q:Fin->Shared->Prop}(hC:h.get? C=some (excClassObj nm q C N bs bm hdct sn sub ab col dd k0 k1 k2 k3 k5 newId))(Z:K.In h)(hi:findIn K (.ref C) "__init__"=some (some (.ref fI)))(hf:typeIn K (.ref fI)=some (.type "function"))(hq:∀ h' e,Heap.MadeExcOf h h' e (.ref C) rest ->
   wpAny (model prog w) A (call (.ref fI) (.ref e::rest)) (fun r s'=>r=.none/\Q (.done (.ret (.ref e))) s') E ⟨h',g,d,t,os⟩)(hrest:rest.length<=sizeLine:=by size_fits) :
  wpAny (model prog w) A (Builtin.«type.__call__» ⟨.ref C::rest,[]⟩) Q E ⟨h,g,d,t,os⟩:=by
 repeat (first | with_reducible refine wpAny_loadPart_at hC ?_ | with_reducible refine wpAny_madeBy_exc hC ?_ | wp_step)
 refine codeAny_call_builtin_code (Code.quiet_builtin _ F.quiet) (wpAny_check_new_subT F T hC ?_)
 refine codeAny_exc_new_subT F T hC ?_ hrest
 show wpAny _ _ _ _ _ _
 have hC₁:=Heap.get?_push_of_some { cls:=.ref C,data:=.fields #[.ref h.objs.size,.none,.none,.none,.bool false,.none] }
  (Heap.get?_push_of_some { cls:=.type "tuple",data:=.seq rest.toArray } hC)
 have Z₁:K.In ((h.push { cls:=.type "tuple",data:=.seq rest.toArray }).push { cls:=.ref C,data:=.fields #[.ref h.objs.size,.none,.none,.none,.bool false,.none] }):=fun a o l=>Heap.get?_push_of_some _ (Heap.get?_push_of_some _ (Z a o l))
 have hget:((h.push { cls:=.type "tuple",data:=.seq rest.toArray }).push
   { cls:=.ref C,data:=.fields #[.ref h.objs.size,.none,.none,.none,.bool false,.none] }).get? (h.objs.size+1)=some
   { cls:=.ref C,data:=.fields #[.ref h.objs.size,.none,.none,.none,.bool false,.none] }:=by heap_get
 have hcC:(Value.ref C::bm).contains (.ref C)=true:=by simp
 have T₁:=T.keeps (h':=(h.push { cls:=.type "tuple",data:=.seq rest.toArray }).push { cls:=.ref C,data:=.fields #[.ref h.objs.size,.none,.none,.none,.bool false,.none] })
  fun b o e=>Heap.get?_push_of_some _ (Heap.get?_push_of_some _ e)
 unfold isInstance
 repeat (first | with_reducible refine wpAny_loadPart_at hget ?_ | (with_reducible refine wpAny_isSubtype_exc hC₁ ?_; rw [hcC]) | wp_step)
 show wpAny _ _ (typeLookup (.ref C) _) _ _ _
 refine (looks_findIn (M:=model prog w) Z₁ hi).at ?_
 refine wpAny_holding (wpAny_bind ?_)
 unfold bindSpecial
 refine wpAny_bind ((looks_typeIn (M:=model prog w) Z₁ hf).at ?_)
 rw [if_pos (by decide)]
 refine wpAny_pure (wpAny_bind (wpAny_mono (hq _ (h.objs.size+1) ⟨fun b o hb=>Heap.get?_push_of_some _ (Heap.get?_push_of_some _ hb),Heap.get?_none_of_le (Nat.le_succ _),h.objs.size,hget,Heap.get?_none_of_le (Nat.le_refl _),?_⟩) (fun r s' hr=>?_) fun _ _ x=>x))
 ·exact Heap.get?_push_of_some _ (Heap.get?_push_at rfl rfl)
 ·obtain ⟨rfl,hQ⟩:=hr
  wp_walk
  exact hQ
theorem rW (F:ExcBaseFacts B newId initId bmB)(T:OwnTail h bmB bm){rest:List Value}{fI:Addr}{Q:Value->Shared->Prop}(hC:h.get? C=some (excClassObj nm q C N bs bm hdct sn sub ab col dd k0 k1 k2 k3 k5 newId))(Z:K.In h)(hi:findIn K (.ref C) "__init__"=some (some (.ref fI)))(hf:typeIn K (.ref fI)=some (.type "function"))(hq:∀ h' e,Heap.MadeExcOf h h' e (.ref C) rest ->
   wpAny (model prog w) (A.under (.builtin "type.__call__" ⟨.ref C::rest,[]⟩)) (call (.ref fI) (.ref e::rest)) (fun r s'=>r=.none/\Q (.ref e) s') E ⟨h',g,d,t,os⟩)(hrest:rest.length<=sizeLine:=by size_fits) :
  wpAny (model prog w) A (call (.ref C) rest) Q E ⟨h,g,d,t,os⟩:=by
 have f1:=tc_lookup
 have f2:=tc_bind (.ref C)
 have hT:(⟨h,g,d,t,os⟩:Shared).TypeIs (.ref C) "type":=⟨_,hC,rfl⟩
 refine wpAny_call (codeAny_of_tree ?_)
 show wpAny _ _ (callAny (.ref C) _) _ _ _
 repeat (any_goals (first | assumption | with_reducible refine wpAny_loadPart_at hC ?_ | wp_step))
 refine ⟨rfl,?_⟩
 refine codeAny_call_builtin_at (Code.quiet_builtin _ (by decide +kernel)) entry_typeCall (wpAny_check_type_call_sub hC (pS (hrest:=hrest) F T hC Z hi hf fun h' e hm=>?_))
 exact hq h' e hm
end
section
variable {prog:Program}{w:World}{A:Around}{E:Value->Shared->Prop}{s:Shared}{env:Env}
variable {nm q:Str}{C N:Addr}{bs bm bmB:List Value}{hdct:Bool}{sn:List Str}{sub:List Value}{ab:Bool}{col:Option Bool}{dd:Option Addr}{k0 k1 k2 k3 k5:Option Value}{B newId initId:String}
theorem oI (F:ExcBaseFacts B newId initId bmB){x:Str}{np cpos pos:Pos}{args:List Expr}{Q:Flow->Shared->Prop}{fI:Addr}{K:Frag}(hbase:bm.contains (.type "BaseException")=true)(hh:A.handled=none)(hplain:(backTo cpos (starEach args env)).any (·.1)=false)(hi:findIn K (.ref C) "__init__"=some (some (.ref fI)))(hf:typeIn K (.ref fI)=some (.type "function"))(h:wpAny (model prog w) A (eval (.Name x np) env) (fun f s₁=>f=.ref C/\wpAny (model prog w) A (evalArgs (.ref C) true (backTo cpos (starEach args env)) [])
   (fun a s₂=>a.kw=[]/\a.pos.length<=sizeLine/\s₂.heap.get? C=some (excClassObj nm q C N bs bm hdct sn sub ab col dd k0 k1 k2 k3 k5 newId)/\K.In s₂.heap/\OwnTail s₂.heap bmB bm /\
    ∀ h' e,Heap.MadeExcOf s₂.heap h' e (.ref C) a.pos->wpAny (model prog w) (A.under (.builtin "type.__call__" ⟨.ref C::a.pos,[]⟩)) (call (.ref fI) (.ref e::a.pos))
     (fun r s₃=>r=.none/\s₃.heap.get? C=some (excClassObj nm q C N bs bm hdct sn sub ab col dd k0 k1 k2 k3 k5 newId)/\(∃ oe vs,s₃.heap.get? e=some oe/\oe.cls=.ref C/\oe.data=.fields vs/\vs[1]?=some .none)/\E (.ref e) s₃) E { s₂ with heap:=h' }) E s₁) E s) :
  wpAny (model prog w) A (exec (.Raise (some (.Call (.Name x np) args [] cpos)) none pos) env) Q E s:=by
 rw [arm_exec_Raise]
 first
  | refine wpAny_bind (wpAny_standAt (iZ (C:=C) (nm:=nm) (q:=q) (N:=N) (bs:=bs) (bm:=bm) (hdct:=hdct) (sn:=sn) (sub:=sub) (ab:=ab) (col:=col) (dd:=dd) (k0:=k0) (k1:=k1) (k2:=k2) (k3:=k3) (k5:=k5) (newId:=newId) hbase hh (wpAny_bind (wpAny_mono (wpAny_Call_ofName (wpAny_mono h (fun f s₁ h₁=>?_) fun _ _ x=>x)) (fun v s₃ h₃=>wpAny_bind (wpAny_standAt (wpAny_pure h₃))) fun _ _ x=>x))))
  | (simp only [evalOpt,Option.map]; refine wpAny_bind (wpAny_standAt (iZ (C:=C) (nm:=nm) (q:=q) (N:=N) (bs:=bs) (bm:=bm) (hdct:=hdct) (sn:=sn) (sub:=sub) (ab:=ab) (col:=col) (dd:=dd) (k0:=k0) (k1:=k1) (k2:=k2) (k3:=k3) (k5:=k5) (newId:=newId) hbase hh (wpAny_bind (wpAny_mono (wpAny_Call_ofName (wpAny_mono h (fun f s₁ h₁=>?_) fun _ _ x=>x)) (fun v s₃ h₃=>wpAny_bind (wpAny_standAt (wpAny_pure h₃))) fun _ _ x=>x)))))
  | (refine wpAny_bind (wpAny_standAt (iZ (C:=C) (nm:=nm) (q:=q) (N:=N) (bs:=bs) (bm:=bm) (hdct:=hdct) (sn:=sn) (sub:=sub) (ab:=ab) (col:=col) (dd:=dd) (k0:=k0) (k1:=k1) (k2:=k2) (k3:=k3) (k5:=k5) (newId:=newId) hbase hh ?_)); refine wpAny_bind (wpAny_mono (wpAny_Call_ofName (wpAny_mono h (fun f s₁ h₁=>?_) fun _ _ x=>x)) (fun v s₃ h₃=>wpAny_bind (wpAny_standAt (wpAny_pure h₃))) fun _ _ x=>x))
 obtain ⟨rfl,h₁⟩:=h₁
 unfold callWith
 refine wpAny_bind (wpAny_holding (wpAny_mono h₁ (fun a s₂ h₂=>wpAny_bind (wpAny_standAt ?_)) fun _ _ x=>x))
 obtain ⟨apos,akw⟩:=a
 obtain ⟨hkw,hlen,hC,Z,T,h₂⟩:=h₂
 obtain rfl:akw=[]:=hkw
 obtain ⟨hp,g,d,tk,os⟩:=s₂
 simp only [hplain]
 refine wpAny_bind (wpAny_keeperOf_exc hC ?_)
 refine wpAny_bind (rW (hrest:=hlen) F T hC Z hi hf fun h' e hm=>wpAny_mono (h₂ h' e hm) (fun r s₃ h₃=>?_) fun _ _ x=>x)
 obtain ⟨hr,hC3,⟨oe,vs,he,hcl,hda,hv1⟩,hE⟩:=h₃
 exact ⟨hr,wpAny_bind (wpAny_holding (wpAny_point (wpAny_pure ⟨e,oe,vs,rfl,hC3,he,hcl,hda,hv1,hE⟩)))⟩
end
def zV (C:Addr)(f:Str):Sp:=fun vs H Q _=>∃ e y,vs=[.ref e,y]/\H e=some (fN e C none)/\∀ dx,H dx=none->dx≠e->Q .non (upd (upd H dx (.xd [(f,y)])) e (fN e C (some dx)))
structure ExcI (K:Frag) (C B fI:Addr):Prop where
 ex:∃ nm q N bs hd sn sub ab col dd k0 k1 k2 k3 k5,K.lookup C=some (excClassObj nm q C N bs (.ref B::vbm) hd sn sub ab col dd k0 k1 k2 k3 k5 "ValueError.__new__")
 base:excIn K B vbm "ValueError.__new__"=true
 init:findIn K (.ref C) "__init__"=some (some (.ref fI))
 fn:isFn K (.ref fI)=true
def xQ (f:Str)(v:V)(R:Addr->Hp->Prop):TS:=fun _ _ H=>∀ dx,H dx=none->R dx (upd H dx (.xd [(f,v)]))
theorem AK4 {X:Cx}{x:Str}{C B fI:Addr}{k:Nat}{fd:FuncData}{f p:Str}{v:V}{u:Value}{np cpos pos:Pos}{R:Addr->Hp->Prop}(hc:X.calm=true)(hg:Gl X x)(hm:X.mg x=some (.ref C))(q:ExcI X.K C B fI)(F:FnOk X.prog X.w X.K X.mg X.base (CXF X.prog X.w) k fI fd ["self",p] (zV C f))(hr:Room (k+1) X.A)(hb:Binds X.K fd ["self",p] [u])(hv:RelV v u)(hxe:∀ pins σ H H' s s' e oe vs a0,Inv X pins σ H s->s'.os=s.os->AllBare s'.gens->Un (frs X.stack) [] H H' s.heap s'.heap->HOk X.prog X.w H' s'.heap->s.heap.get? e=none->H' e=none ->
   s'.heap.get? e=some oe->oe.data=.fields vs->vs[1]?=some .none->vs[0]?=some a0->vs[2]?=some .none->oe.cls=.ref C->(∃ dx,oe.dict=some dx/\R dx H')->X.xe (.ref e) s')(hd:(x == ("__debug__":Str))=false:=by decide):PS X (.Raise (some (.Call (.Name x np) [] [] cpos)) none pos) (xQ f v R):=by
 intro pins s σ H D I h
 obtain ⟨nm,qn,N,bs,hd',sn,sub,ab,col,dd,k0,k1,k2,k3,k5,lk⟩:=q.ex
 obtain ⟨bm',N',nm',qn',bs',hd'',sn',sub',ab',col',dd',j0,j1,j2,j3,j5,mN',hB,hN',hni',T'⟩:=wW I.kIn q.base
 have T:OwnTail s.heap vbm (.ref B::vbm):=.own (cd:=_) hB hN' hni' .base
 refine oI (C:=C) (nm:=nm) (q:=qn) (N:=N) (bs:=bs) (bm:=.ref B::vbm) (bmB:=vbm) (hdct:=hd') (sn:=sn) (sub:=sub) (ab:=ab) (col:=col) (dd:=dd) (k0:=k0) (k1:=k1) (k2:=k2) (k3:=k3) (k5:=k5) (K:=X.K) (fI:=fI) PySem.F.excBase_ValueError (by rfl) (I.ok.hd hc) rfl q.init (beq_iff_eq.mp q.fn) (iD I hg hm ⟨rfl,?_⟩ hd)
 refine PySem.evalArgs_none ?_
 refine ⟨rfl,sz8 (show 0<=1000 by decide),I.kIn _ _ lk,I.kIn,T,fun h' e hx=>?_⟩
 obtain ⟨tt,he,_,_⟩:=hx.there
 have nH:H e=none:=by
  cases z:H e with
  | none=>rfl
  | some w' =>
   obtain ⟨o,ho⟩:=zG (I.hok e w' z)
   rw [hx.new] at ho
   cases ho
 have nb:∀ b o,s.heap.get? b=some o->b≠e:=fun b o z y=>by rw [y,hx.new] at z; cases z
 have up:∀ b w',H b=some w'->upd H e (fN e C none) b=some w':=fun b w' z=>by rw [aN (aP z nH)]; exact z
 have I1:Inv X pins σ (upd H e (fN e C none)) { s with heap:=h' }:=I.un (t':=s.toks) ⟨fun b o z _ _ _=>hx.keeps _ _ z,fun b o z _ _ _=>⟨o.slots,hx.keeps _ _ z⟩,fun b o z n _=>by rw [aN (nb b o z)]; exact n,fun b o z _=>⟨o,hx.keeps _ _ z⟩,fun b xs z=>up _ _ z,fun b o w' z=>up _ _ z,fun b ps z=>⟨#[],by rw [Array.append_empty]; exact up _ _ z⟩⟩ fun b w' z=>by
  by_cases y:b=e
  ·subst y
   rw [aA] at z
   cases z
   exact AK2 ⟨_,.ref tt,he,rfl,rfl,rfl⟩
  ·rw [aN y] at z
   exact (I.hok b w' z).stay (fun c v' _ r=>hx.keeps _ _ r) (fun c r=>up _ _ r) fun c xs r=>up _ _ r
 refine wpAny_call (codeAny_mono (F.run _ X.stack _ _ ⟨[Value.ref e],[]⟩ [Value.ref e,u] [V.ref e,v] (fun v' H2=>v'=.non/\∃ dx,H dx=none/\dx≠e/\H2=upd (upd (upd H e (fN e C none)) dx (.xd [(f,v)])) e (fN e C (some dx))) E0 (hr.make C [] []) (I1.env0.make C [] [])
  (hb _ [Value.ref e] I1.kIn rfl) (.cons rfl (.cons hv .nil)) ⟨e,v,rfl,aA,fun dx e1 e2=>⟨rfl,dx,by rw [aN e2] at e1; exact e1,e2,rfl⟩⟩) fun r s3 hq=>?_)
 cases r with
 | error ev =>
  obtain ⟨_,_,_,_,_,_,_,_,_,_,_,_,_,_,_,_,hE⟩:=hq
  exact hE.elim
 | ok fl =>
  cases fl with
  | next=>exact False.elim hq
  | brk=>exact False.elim hq
  | cont=>exact False.elim hq
  | ret u3 =>
   obtain ⟨v3,H2,os,bare,un,hok,r3,rfl,dx,hdx,hde,rfl⟩:=hq
   have I3:Inv X pins σ _ s3:=I1.call' (ch:=[]) os un hok bare (fun b z=>absurd z (by simp))
   obtain ⟨⟨ob,a0,hob,hcl,hdi,hdt⟩,_,_⟩:=(show ObjOk X.prog X.w _ s3.heap e (.ext (vI e C (some dx))) from hok e _ aA)
   have eq2:∀ b,b≠e->upd (upd (upd H e (fN e C none)) dx (.xd [(f,v)])) e (fN e C (some dx)) b=upd H dx (.xd [(f,v)]) b:=fun b z=>by
    rw [aN z]
    by_cases y:b=dx
    ·rw [y,aA,aA]
    ·rw [aN y,aN y,aN z]
   have nH2:upd H dx (.xd [(f,v)]) e=none:=by rw [aN (Ne.symm hde)]; exact nH
   have ne1:∀ b w',H b=some w'->b≠e:=fun b w' z=>aP z nH
   have un':Un (frs X.stack) [] H (upd H dx (.xd [(f,v)])) s.heap s3.heap :=
    ⟨fun b o z n hb' _=>un.keep b o (hx.keeps _ _ z) (by rw [aN (nb b o z)]; exact n) hb' (by simp),fun b o z n hb' _=>un.slot b o (hx.keeps _ _ z) (by rw [aN (nb b o z)]; exact n) hb' (by simp),
     fun b o z n _=>(eq2 b (nb b o z)).symm.trans (un.free b o (hx.keeps _ _ z) (by rw [aN (nb b o z)]; exact n) (by simp)),fun b o z _=>un.there b o (hx.keeps _ _ z) (by simp),
     fun b xs z=>(eq2 b (ne1 b _ z)).symm.trans (un.tups b xs (up _ _ z)),fun b o w' z=>(eq2 b (ne1 b _ z)).symm.trans (un.frzs b o w' (up _ _ z)),fun b ps z=>by
     obtain ⟨m1,e1⟩:=un.tbls b ps (up _ _ z)
     exact ⟨m1,(eq2 b (ne1 b _ z)).symm.trans e1⟩⟩
   have hok':HOk X.prog X.w (upd H dx (.xd [(f,v)])) s3.heap:=fun b w' z=>by
    have be:b≠e:=fun y=>by rw [y,nH2] at z; cases z
    refine (hok b w' ((eq2 b be).trans z)).stay (fun _ _ _ r=>r) (fun c r=>?_) fun c xs r=>?_
    ·have ce:c≠e:=fun y=>by rw [y,aA] at r; cases r
     exact (eq2 c ce).symm.trans r
    ·have ce:c≠e:=fun y=>by rw [y,aA] at r; cases r
     exact (eq2 c ce).symm.trans r
   refine ⟨(show u3=Value.none from r3),I3.kIn _ _ lk,⟨ob,_,hob,hcl,hdt,rfl⟩,?_⟩
   exact hxe pins σ H _ s s3 e ob _ a0 I os bare un' hok' hx.new nH2 hob hdt rfl rfl rfl hcl ⟨dx,hdi,h dx hdx⟩
structure CalI (P:Program) (w:World) (K:Frag) (mg:Str->Option Value) (base:Heap) (x:Str) (C:Addr) (f:Str) (k:Nat) (v:V):Prop where
 ex:∃ (B fI:Addr) (fd:FuncData) (p:Str) (u:Value),FnOk P w K mg base (CXF P w) k fI fd ["self",p] (zV C f)/\Binds K fd ["self",p] [u]/\RelV v u/\ExcI K C B fI/\mg x=some (.ref C)
section
variable {X:Cx}
theorem iN {x:Str}{C:Addr}{k:Nat}{f:Str}{v:V}{np cpos pos:Pos}{R:Addr->Hp->Prop}(c:CalI X.prog X.w X.K X.mg X.base x C f k v)(hc:X.calm=true)(hg:Gl X x)(hr:Room (k+1) X.A)(hxe:∀ pins σ H H' s s' e oe vs a0,Inv X pins σ H s->s'.os=s.os->AllBare s'.gens->Un (frs X.stack) [] H H' s.heap s'.heap->HOk X.prog X.w H' s'.heap->s.heap.get? e=none->H' e=none ->
   s'.heap.get? e=some oe->oe.data=.fields vs->vs[1]?=some .none->vs[0]?=some a0->vs[2]?=some .none->oe.cls=.ref C->(∃ dx,oe.dict=some dx/\R dx H')->X.xe (.ref e) s')(hd:(x == ("__debug__":Str))=false:=by decide):PS X (.Raise (some (.Call (.Name x np) [] [] cpos)) none pos) (xQ f v R):=by
 obtain ⟨B,fI,fd,p,u,F,b,r,q,m⟩:=c.ex
 exact AK4 hc hg m q F hr b r hxe hd
theorem BB5 {K:Frag}{e:Expr}{ta:TE}{f:Str}{pos:Pos}(hK:X.K=K)(he:PE X e ta)(hb:attributeBase e f X.env (eval e X.env)=eval e X.env):PE X (.Attribute e f pos) (BB3 K ta f):=by
 subst hK
 exact BB4 he hb
end
section
variable {P:Program}{w:World}{K:Frag}{mg:Str->Option Value}{base:Heap}{N:List Str}{qual:Str}{sc:Scope}{f:Addr}{cdv:Value}{A:Around}{outer:List Env}{s:Shared}{H:Hp}{E:XK}{C:Addr}
theorem mW {c:Bool}:∀ pins σ H1 H' s1 s' e oe vs a0,Inv (rO c P w K mg base N qual sc f cdv A outer s H E) pins σ H1 s1->s'.os=s1.os->AllBare s'.gens->Un (frs (rO c P w K mg base N qual sc f cdv A outer s H E).stack) [] H1 H' s1.heap s'.heap->HOk P w H' s'.heap->s1.heap.get? e=none->H' e=none ->
   s'.heap.get? e=some oe->oe.data=.fields vs->vs[1]?=some .none->vs[0]?=some a0->vs[2]?=some .none->oe.cls=.ref C->(∃ dx,oe.dict=some dx/\E (.ref C) (some dx) H')->(rO c P w K mg base N qual sc f cdv A outer s H E).xe (.ref e) s' :=
 fun pins σ H1 H' s1 s' e oe vs a0 I os bare un hok fe nH he hd h1 h0 hch hcl ⟨dx,hdi,hE⟩=>kS I rfl rfl rfl os bare un hok fe nH he hd h1 h0 (fun _=>hch) (by rw [hcl,hdi]; exact hE)
end
section
variable {K:Frag}{σ:L2.St}{H:Hp}{Q:VK}{D:Ends}{ta tv:TE}{f:Str}{v:V}{R:Addr->Hp->Prop}
theorem sY:xQ f v R D σ H=∀ dx,H dx=none->R dx (L2.upd H dx (.xd [(f,v)])):=rfl
theorem xR:BI1 K ta tv f D σ H=tv σ H fun y H1=>ta σ H1 fun x H2=>∃ a C cd,x=.ref a/\H2 a=some (fN a C none)/\ExcS K C cd/\mroIn K C (.type "object")=some true/\NoAttr K C f /\
 ∀ dx,H2 dx=none->dx≠a->D.nx σ (L2.upd (L2.upd H2 dx (.xd [(f,y)])) a (fN a C (some dx))):=rfl
theorem AK5:BB3 K ta f σ H Q=ta σ H fun x H1=>∃ a C dx fs v,x=.ref a/\H1 a=some (hU a (.ref C) (some dx))/\H1 dx=some (.xd fs)/\ExcK K C/\hasDictIn K C=true/\NoAttr K C f/\fs.lookup f=some v/\Q v H1:=rfl
end
section
open Builtin Builtin.Str
variable {prog:Program}{w:World}{A:Around}{E:Value->Shared->Prop}{s:Shared}{x y:Str}{t u:Tok}{Q:Value->Shared->Prop}
theorem AC1 (hy:(y.length == 0)=false)(hsz:x.length+2<=sizeLine)(h:∀ (l:List (Str × Tok)) (k:Nat),l.map (·.1)=Txt.split x y->Q (.ref s.heap.objs.size) { s with heap:=s.heap.push { cls:=.type "list",data:=.seq (strValues l).toArray },toks:=k }) :
  wpAny (model prog w) A (call (.builtin "str.split") [.str x t,.str y u]) Q E s:=by
 have hn:(partsBetween x (occurrences x y 0 x.length (x.length+1)) y.length).length<=sizeLine:=by
  have e:=StrLaws.occ_length_le x y 0 x.length (x.length+1)
  rw [length_partsBetween]; omega
 cases c1:(decide (x.length < y.length) || decide (strKind x < strKind y)) with
 | true=>exact call_meets F.slot_str_split (typeIs_str _ _ _) F.entry_str_split (F.args_str_split_2 _ _) (meets_str_split_cannot_occur x y t u c1) (h [(x,t)] s.toks (if_pos c1).symm)
 | false =>
  cases c2:(occurrences x y 0 x.length (x.length+1)).isEmpty with
  | true=>exact call_meets F.slot_str_split (typeIs_str _ _ _) F.entry_str_split (F.args_str_split_2 _ _) (meets_str_split_not_found x y t u c1 hy c2) (h [(x,t)] s.toks ((if_neg (ne_true_of_eq_false c1)).trans (if_pos c2)).symm)
  | false =>
   refine call_meets F.slot_str_split (typeIs_str _ _ _) F.entry_str_split (F.args_str_split_2 _ _) (meets_str_split_sep x y t u c1 hy c2 (by omega) hn) ?_
   show wants Q E _ { s with toks:=_,heap:=s.heap.push { cls:=.type "list",data:=.seq (strsFrom s.toks (partsBetween x (occurrences x y 0 x.length (x.length+1)) y.length)).toArray } }
   rw [strsFrom_eq]; exact h (numbered s.toks _) _ ((numbered_texts _ _).trans ((if_neg (ne_true_of_eq_false c1)).trans (if_neg (ne_true_of_eq_false c2))).symm)
end
section
variable {X:Cx}
theorem pT:∀ {l:List (Str × Tok)}{ts:List Str},l.map (·.1)=ts->Vals (ts.map V.str) (strValues l)
 | [],_,e=>by subst e; exact .nil
 | (a,t)::l,_,e=>by subst e; exact .cons ⟨t,rfl⟩ (pT rfl)
def AU2:V->List V->Hp->VK->Prop:=fun x xs H Q=>∃ u y,x=.str u/\xs=[.str y]/\(y.length == 0)=false/\u.length+2<=sizeLine/\(Txt.split u y).length<=sizeLine/\∀ l,H l=none->Q (.ref l) (upd H l (.lst ((Txt.split u y).map V.str)))
theorem zW:MtR X "str.split" AU2:=by
 intro pins s σ H x xs v us Q I rx rv h
 obtain ⟨u,y,rfl,rfl,hy,hz,hz2,q⟩:=h
 obtain ⟨t,rfl⟩:=rx
 obtain ⟨u',rfl,t',rfl⟩:=Vals.one rv
 refine AC1 hy hz fun l k e=>?_
 exact ⟨.ref _,_,I.lnew (t':=k) (pT e) (by rw [List.length_map]; exact hz2),rfl,q _ I.fresh⟩
def AK6:V->List V->Hp->VK->Prop:=fun x xs H Q=>∃ u y,x=.str u/\xs=[.str y]/\Q (.bl (Txt.startswith u y)) H
theorem lT:MtR X "str.startswith" AK6:=by
 intro pins s σ H x xs v us Q I rx rv h
 obtain ⟨u,y,rfl,rfl,q⟩:=h
 obtain ⟨t,rfl⟩:=rx
 obtain ⟨u',rfl,t',rfl⟩:=Vals.one rv
 exact SC.startswith ⟨.bl _,H,I,rfl,q⟩
theorem lU:CallR X (.type "int") (fun xs H Q=>∃ u n,xs=[.str u]/\PySem.intText? u=some n/\u.length<=640/\Q (.int n) H):=by
 intro pins s σ H xs us Q I r h
 obtain ⟨u,n,rfl,e,hl,q⟩:=h
 obtain ⟨u',rfl,t,rfl⟩:=Vals.one r
 exact KIN.call_text e hl ⟨.int n,H,I.tok _,⟨_,rfl⟩,q⟩
theorem sZ {K:Frag}{σ:L2.St}{H:Hp}{D:Ends}{ta tv:TE}{rd:V->V->Hp->VK->Prop}{f:Str}:AE9 K ta tv rd f D σ H=ta σ H fun x H1=>∃ a C dx fs v,x=.ref a/\H1 a=some (.ins C dx fs)/\Cls K C/\NoAttr K C f/\fs.lookup f=some v /\
 tv σ H1 fun y H2=>rd v y H2 fun z H3=>∃ dx' fs',H3 a=some (.ins C dx' fs')/\fs'.length < 1000/\D.nx σ (upd H3 a (.ins C dx' (rG f z fs'))):=rfl
theorem AK7 {x y:V}{H:Hp}{Q:VK}:BR2 x y H Q=∃ i j,x=.int i/\y=.int j/\Q (.int (i+j)) H:=rfl
end
theorem jD (x y:Str):(x++y).cps.toList=x.cps.toList++y.cps.toList:=by
 show (x.cps++y.cps).toList=_
 simp
theorem jE {x y:Str}(h:x.cps.toList=y.cps.toList):x=y:=Str.ext' (Array.toList_inj.mp h)
theorem zX {c:Nat}:∀ {a b r s:List Nat},c ∉ a->c ∉ b->a++c::r=b++c::s->a=b/\r=s
 | [],[],r,s,_,_,h=>⟨rfl,(List.cons.inj h).2⟩
 | [],y::b,r,s,_,hb,h=>by
  have e:=(List.cons.inj h).1
  exact absurd (by rw [<- e]; exact List.mem_cons_self) hb
 | x::a,[],r,s,ha,_,h=>by
  have e:=(List.cons.inj h).1
  exact absurd (by rw [e]; exact List.mem_cons_self) ha
 | x::a,y::b,r,s,ha,hb,h=>by
  obtain ⟨e1,e2⟩:=List.cons.inj h
  obtain ⟨q1,q2⟩:=zX (fun z=>ha (List.mem_cons_of_mem _ z)) (fun z=>hb (List.mem_cons_of_mem _ z)) e2
  exact ⟨by rw [e1,q1],q2⟩
theorem zY {c:Nat}{a b r:List Nat}(ha:c ∉ a)(h:a=b++c::r):False:=ha (by rw [h]; simp)
theorem zZ {c:Nat}:∀ {as bs:List Str},as≠[]->bs≠[]->(∀ a∈as,c ∉ a.cps.toList)->(∀ b∈bs,c ∉ b.cps.toList)->Str.join ⟨#[c]⟩ as=Str.join ⟨#[c]⟩ bs->as=bs
 | [],_,h,_,_,_,_=>absurd rfl h
 | _,[],_,h,_,_,_=>absurd rfl h
 | [a],[b],_,_,_,_,h=>by
  have e:a=b:=h
  rw [e]
 | [a],b::b'::r,_,_,ha,hb,h=>by
  have e:=congrArg (fun z:Str=>z.cps.toList) (show a=b++⟨#[c]⟩++Str.join ⟨#[c]⟩ (b'::r) from h)
  simp only [jD] at e
  exact (zY (ha a List.mem_cons_self) (by rw [e,List.append_assoc]; rfl)).elim
 | a::a'::r,[b],_,_,ha,hb,h=>by
  have e:=congrArg (fun z:Str=>z.cps.toList) (show b=a++⟨#[c]⟩++Str.join ⟨#[c]⟩ (a'::r) from h.symm)
  simp only [jD] at e
  exact (zY (hb b List.mem_cons_self) (by rw [e,List.append_assoc]; rfl)).elim
 | a::a'::r,b::b'::q,_,_,ha,hb,h=>by
  have e:=congrArg (fun z:Str=>z.cps.toList) (show a++⟨#[c]⟩++Str.join ⟨#[c]⟩ (a'::r)=b++⟨#[c]⟩++Str.join ⟨#[c]⟩ (b'::q) from h)
  simp only [jD,List.append_assoc] at e
  obtain ⟨e1,e2⟩:=zX (ha a List.mem_cons_self) (hb b List.mem_cons_self) (show _++c::_=_++c::_ from e)
  have e3:=zZ (c:=c) (as:=a'::r) (bs:=b'::q) (by simp) (by simp) (fun z hz=>ha z (List.mem_cons_of_mem _ hz)) (fun z hz=>hb z (List.mem_cons_of_mem _ hz)) (jE e2)
  rw [jE e1,e3]
theorem AQ3 (x y:Str):Txt.split x y≠[]:=by
 intro h
 have e:=StrLaws.join_split x y
 unfold Txt.split at h
 split at h
 ·cases h
 ·split at h
  ·cases h
  ·obtain ⟨p,r,q⟩:=StrLaws.partsFrom_ne x y.length 0 (Builtin.Str.occurrences x y 0 x.length (x.length+1))
   rw [StrLaws.partsBetween_eq,q] at h
   cases h
theorem AC2 {c:Nat}{as:List Str}(hn:as≠[])(h:∀ a∈as,c ∉ a.cps.toList):Txt.split (Str.join ⟨#[c]⟩ as) ⟨#[c]⟩=as :=
 zZ (AQ3 _ _) hn (StrLaws.split_free _ c) h (StrLaws.join_split _ _)
theorem pB {c:Nat}:∀ {as bs:List Str},as≠[]->bs≠[]->Str.join ⟨#[c]⟩ (as++bs)=Str.join ⟨#[c]⟩ as++⟨#[c]⟩++Str.join ⟨#[c]⟩ bs
 | [],_,h,_=>absurd rfl h
 | [a],[],_,h=>absurd rfl h
 | [a],b::r,_,_=>rfl
 | a::a'::r,bs,_,h=>by
  show a++⟨#[c]⟩++Str.join ⟨#[c]⟩ ((a'::r)++bs)=a++⟨#[c]⟩++Str.join ⟨#[c]⟩ (a'::r)++⟨#[c]⟩++Str.join ⟨#[c]⟩ bs
  rw [pB (c:=c) (as:=a'::r) (bs:=bs) (by simp) h]
  apply jE
  simp only [jD,List.append_assoc]
section
variable {prog:Program}{w:World}{A:Around}{E:Value->Shared->Prop}
theorem tD:entryFor table "proto.unchain"=some Builtin.«proto.unchain»:=entryFor_of_fast (by kernel_rfl)
theorem tE {s:Shared}{e x:Addr}{oe ox:Obj}{vs xs:Array Value}{α:Type}{Q:α->Shared->Prop}(hh:A.handled=some (.ref x))(hne:x≠e)(hx:s.heap.get? x=some ox)(hxd:ox.data=.fields xs)(hx2:xs[2]?=some .none)(he:s.heap.get? e=some oe)(hd:oe.data=.fields vs)(hsz:2 < vs.size)(h:E (.ref e) { s with heap:=s.heap.update e (Obj.mapFields (·.setIfInBounds 2 (.ref x))) }):wpAny (model prog w) A (raiseNew (.ref e):Sem α) Q E s:=by
 unfold raiseNew
 refine wpAny_bind (wpAny_handled ?_)
 rw [hh]
 dsimp only
 have hb:(Value.ref x != Value.ref e)=true:=by
  rw [bne_iff_ne]
  intro z
  cases z
  exact hne rfl
 rw [if_pos hb]
 refine wpAny_bind (wpAny_holding (runValue_entry tD ?_))
 unfold Builtin.«proto.unchain»
 dsimp only
 refine wpAny_bind (wpAny_field hx hxd hx2 ?_)
 rw [if_pos (by rfl)]
 refine wpAny_bind (wpAny_pure (wpAny_pure ⟨_,rfl,?_⟩))
 have u:=fun (Q':Unit->Shared->Prop) (q:Q' () _)=>wpAny_setField (M:=model prog w) (A:=A) (E:=E) (i:=2) (x:=.ref x) he hd hsz q
 exact wpAny_bind (u _ (wpAny_throw h))
variable {env:Env}{nm q:Str}{C N y:Addr}{bs bm:List Value}{hdct:Bool}{sn:List Str}{sub:List Value}{ab:Bool}{col:Option Bool}{dd:Option Addr}{k0 k1 k2 k3 k5:Option Value}{newId:String}
theorem qU {s:Shared}{x c:Sem Value}{Q:Flow->Shared->Prop}(hbase:bm.contains (.type "BaseException")=true)(hh:A.handled=some (.ref y))(hc:∀ (s':Shared) (Q':Value->Shared->Prop),Q' .none s'->wpAny (model prog w) A c Q' E s')(h:wpAny (model prog w) A x (fun v s₁=>∃ e oc od osl a0 oy ys,v=.ref e/\y≠e/\s₁.heap.get? C=some (excClassObj nm q C N bs bm hdct sn sub ab col dd k0 k1 k2 k3 k5 newId) /\
   s₁.heap.get? e=some ⟨.ref C,od,.fields #[a0,.none,.none,.none,.bool false,.none],osl⟩/\oc=Value.ref C/\s₁.heap.get? y=some oy/\oy.data=.fields ys/\ys[2]?=some .none /\
   ∀ h',(∀ b,b≠e->h'.get? b=s₁.heap.get? b)->h'.get? e=some ⟨.ref C,od,.fields #[a0,.none,.ref y,.none,.bool true,.none],osl⟩->E (.ref e) { s₁ with heap:=h' }) E s) :
  wpAny (model prog w) A (raiseStmt env (some x) (some c)) Q E s:=by
 have hcB:(Value.ref C::bm).contains (.type "BaseException")=true:=by rw [List.contains_cons,hbase,Bool.or_true]
 unfold raiseStmt
 refine wpAny_bind (wpAny_mono h (fun v s₁ h₁=>?_) fun _ _ x=>x)
 obtain ⟨e,oc,od,osl,a0,oy,ys,rfl,hne,hC,he,_,hy,hyd,hy2,hE⟩:=h₁
 obtain ⟨hp,g,d,tk,os⟩:=s₁
 have hCe:C≠e:=fun z=>by rw [z,he] at hC; cases hC
 refine wpAny_bind (wpAny_holding (hc _ _ (wpAny_bind (wpAny_pure ?_))))
 dsimp only at he hC hy hE ⊢
 repeat (first | with_reducible refine wpAny_loadPart_at he ?_ | with_reducible refine wpAny_loadPart_at hC ?_ | (with_reducible refine wpAny_isSubtype_exc hC ?_; rw [hcB]) | wp_step)
 have e3:=Heap.get?_update_self (Obj.mapFields fun x=>x.setIfInBounds 3 .none) he rfl
 have e4:=Heap.get?_update_self (Obj.mapFields fun x=>x.setIfInBounds 4 (.bool true)) e3 rfl
 have oth:∀ b,b≠e->((hp.update e (Obj.mapFields fun x=>x.setIfInBounds 3 Value.none)).update e (Obj.mapFields fun x=>x.setIfInBounds 4 (Value.bool true))).get? b=hp.get? b:=fun b hb=>by
  rw [Heap.get?_update_other _ _ (Ne.symm hb),Heap.get?_update_other _ _ (Ne.symm hb)]
 refine tE hh hne ((oth y hne).trans hy) hyd hy2 e4 rfl (show 2 < 6 by decide) ?_
 exact hE _ (fun b hb=>by rw [Heap.get?_update_other _ _ (Ne.symm hb)]; exact oth b hb) (Heap.get?_update_self _ e4 rfl)
variable {bmB:List Value}{B initId:String}
theorem AC3 {s:Shared}(F:ExcBaseFacts B newId initId bmB){x:Str}{np cpos cp pos:Pos}{j:Nat}{Q:Flow->Shared->Prop}{fI:Addr}{K:Frag}(hbase:bm.contains (.type "BaseException")=true)(hh:A.handled=some (.ref y))(hi:findIn K (.ref C) "__init__"=some (some (.ref fI)))(hf:typeIn K (.ref fI)=some (.type "function"))(h:wpAny (model prog w) A (eval (.Name x np) env) (fun f s₂=>f=.ref C/\s₂.heap.get? C=some (excClassObj nm q C N bs bm hdct sn sub ab col dd k0 k1 k2 k3 k5 newId)/\K.In s₂.heap/\OwnTail s₂.heap bmB bm /\
    ∀ h' e,Heap.MadeExcOf s₂.heap h' e (.ref C) []->wpAny (model prog w) (A.under (.builtin "type.__call__" ⟨[.ref C],[]⟩)) (call (.ref fI) [.ref e])
     (fun r s₃=>r=.none/\∃ od osl a0 oy ys,y≠e/\s₃.heap.get? C=some (excClassObj nm q C N bs bm hdct sn sub ab col dd k0 k1 k2 k3 k5 newId) /\
      s₃.heap.get? e=some ⟨.ref C,od,.fields #[a0,.none,.none,.none,.bool false,.none],osl⟩/\s₃.heap.get? y=some oy/\oy.data=.fields ys/\ys[2]?=some .none /\
      ∀ h',(∀ b,b≠e->h'.get? b=s₃.heap.get? b)->h'.get? e=some ⟨.ref C,od,.fields #[a0,.none,.ref y,.none,.bool true,.none],osl⟩->E (.ref e) { s₃ with heap:=h' }) E { s₂ with heap:=h' }) E s) :
  wpAny (model prog w) A (exec (.Raise (some (.Call (.Name x np) [] [] cpos)) (some (.Constant .none j cp)) pos) env) Q E s:=by
 rw [arm_exec_Raise]
 refine wpAny_bind (wpAny_standAt (qU (C:=C) (nm:=nm) (q:=q) (N:=N) (bs:=bs) (bm:=bm) (hdct:=hdct) (sn:=sn) (sub:=sub) (ab:=ab) (col:=col) (dd:=dd) (k0:=k0) (k1:=k1) (k2:=k2) (k3:=k3) (k5:=k5) (newId:=newId) hbase hh (fun s' Q' q=>wpAny_bind (wpAny_Constant_none (wpAny_bind (wpAny_standAt (wpAny_pure q)))))
  (wpAny_bind (wpAny_mono (wpAny_Call_ofName (wpAny_mono h (fun f s₂ h₂=>?_) fun _ _ x=>x)) (fun v s₃ h₃=>wpAny_bind (wpAny_standAt (wpAny_pure h₃))) fun _ _ x=>x))))
 obtain ⟨rfl,hC,Z,T,h₂⟩:=h₂
 unfold callWith
 refine wpAny_bind (wpAny_holding (PySem.evalArgs_none ?_))
 refine wpAny_bind (wpAny_standAt ?_)
 obtain ⟨hp,g,d,tk,os⟩:=s₂
 refine wpAny_bind (wpAny_keeperOf_exc hC ?_)
 refine wpAny_bind (rW (hrest:=by decide) F T hC Z hi hf fun h' e hm=>wpAny_mono (h₂ h' e hm) (fun r s₃ h₃=>?_) fun _ _ x=>x)
 obtain ⟨hr,od,osl,a0,oy,ys,hne,hC3,he,hy,hyd,hy2,hE⟩:=h₃
 exact ⟨hr,wpAny_bind (wpAny_holding (wpAny_point (wpAny_pure ⟨e,.ref C,od,osl,a0,oy,ys,rfl,hne,hC3,he,rfl,hy,hyd,hy2,hE⟩)))⟩
end
structure RoomH (k:Nat) (A:Around):Prop where
 dp:A.depth+3 * k+5 < recursionLimit
 un:A.units+16 * k+200 < cLine
theorem Room.held {k:Nat}{A:Around}(r:Room k A)(v:Option Value):RoomH k (A.mark v):=⟨r.dp,r.un⟩
theorem RoomH.make {k:Nat}{A:Around}(r:RoomH (k+1) A)(C:Addr)(us:List Value)(kw:List (Str × Value)):RoomH k (A.under (.builtin "type.__call__" ⟨.ref C::us,kw⟩)) :=
 ⟨by have:=r.dp; rw [rK]; omega,by have:=r.un; rw [rL]; omega⟩
structure FnOkH (P:Program) (w:World) (K:Frag) (mg:Str->Option Value) (base:Heap) (CX:CXT) (k:Nat) (f:Addr) (fd:FuncData) (ps:List Str) (sp:Sp):Prop where
 len:∀ vs H Q E,sp vs H Q E->vs.length=ps.length
 run:∀ (A:Around) (outer:List Env) (s:Shared) (H:Hp) (args:Args) (us:List Value) (vs:List V) (Q:VK) (E:XK),RoomH k A->Env0 P w K mg base A outer s H->BindsTo s fd args (ps.zip us)->Vals vs us->sp vs H Q E ->
  codeAny (model P w) A (.call (.ref f) args) (CR CX outer P w H s Q E) s
abbrev BB6 (CX:CXT)(P:Program)(w:World)(K:Frag)(mg:Str->Option Value)(base:Heap)(N:List Str)(qual:Str)(sc:Scope)(f:Addr)(cdv:Value)(A:Around)(outer:List Env)(s:Shared)(H:Hp)(E:XK):Cx :=
 { AF2 CX P w K mg base N qual sc f cdv A outer s H E with calm:=false }
theorem BI2 {CX:CXT}{P:Program}{w:World}{K:Frag}{mg:Str->Option Value}{base:Heap}{k:Nat}{f:Addr}{x qual:Str}{st:Stmt}{fd:FuncData}{N ps:List Str}{sp:Sp}(F:FunA K x qual st f fd)(S:FnScope N ps (aF st))(len:∀ vs H Q E,sp vs H Q E->vs.length=ps.length)(hbody:∀ (cdv:Value) (A:Around) (outer:List Env) (s:Shared) (H:Hp) (vs:List V) (Q:VK) (E:XK),sp vs H Q E ->
   ∃ t,PSs (BB6 CX P w K mg base N qual (aF st) f cdv A outer s H E) (aV st) t/\t { nx:=fun _ H'=>Q .non H',rt:=Q } (L2.start N vs) H):FnOkH P w K mg base CX (k+1) f fd ps sp:=by
 obtain ⟨oc,od,dV,kV,doc,pm,an,cdv,ct,osl,rfl,lk,hcd⟩:=F.ex
 refine ⟨len,fun A outer s H args us vs Q E hr e0 hb r hsp=>?_⟩
 have hl:=len _ _ _ _ hsp
 have KX:K.In s.heap:=e0.mod.kin.keeps fun b o e=>(e0.bs b o e).1
 have hkind:∀ y∈ps.zip us,(aF st).names.lookup y.1=some .local\/((aF st).names.lookup y.1=some .cell/\((cellsFrom (s.heap.objs.size+1) (aF st).names []).lookup y.1).isSome=true):=fun ⟨n,v⟩ hy=>by
  rcases S.par n (List.of_mem_zip hy).1 with q | q
  ·exact .inl q
  ·exact .inr ⟨q,cellsFrom_some _ _ _ (.inl q)⟩
 refine codeAny_call_function (by have:=hr.dp; omega) (KX _ _ lk) rfl S.co S.gen rfl (codeRec_of KX hcd) (hb _ _ _ _ ?_)
 refine wpAny_newFunctionEnv_cells S.kind hkind fun env he s1 x=>?_
 subst he
 refine ⟨(e0.mod.nolimit.keeps fun b o e=>(e0.bs b o e).1).keeps x.toInCall.keep,codeAny_func ?_⟩
 obtain ⟨t,ht,hq⟩:=hbody cdv A outer s H vs Q E hsp
 have I0:=uX (CX:=CX) (E:=E) (A:={ A with handled:=none }) S rfl ⟨e0.frames,e0.mod,e0.bs,e0.bsz,e0.funs,e0.frf,e0.hok,e0.bare⟩ hl r x
 have I:Inv (BB6 CX P w K mg base N qual (aF st) f cdv A outer s H E) [] (L2.start N vs) H s1 :=
  ⟨⟨I0.ok.mod,I0.ok.kind,I0.ok.glob,I0.ok.blt,I0.ok.above,I0.ok.inj,I0.ok.has,I0.ok.cab,(fun z=>nomatch z),I0.ok.frames,I0.ok.stk,I0.ok.exf,I0.ok.bs,I0.ok.bsz,I0.ok.noex,I0.ok.exfs,I0.ok.funs,I0.ok.frf⟩,I0.os,I0.bare,I0.base,I0.loc,I0.cell,I0.free,I0.freeC,I0.pin,I0.hok,I0.len⟩
 refine wpAny_mono (ht [] s1 (L2.start N vs) H _ I hq) (fun fl s' hs=>?_) fun e s' hs=>hs
 have fin:∀ {σ':L2.St}{H':Hp}{v:V}{u:Value},Inv (BB6 CX P w K mg base N qual (aF st) f cdv A outer s H E) [] σ' H' s'->RelV v u->Q v H'->CE outer P w H s Q u s' :=
  fun {σ' H' v u} J rv q=>⟨v,H',J.os,J.bare,J.base,J.hok,rv,q⟩
 cases fl with
 | ret u=>exact let ⟨v,σ',H',J,rv,q⟩:=hs; fin J rv q
 | next=>exact let ⟨σ',H',J,q⟩:=hs; fin (v:=V.non) (u:=Value.none) J rfl q
 | brk=>exact let ⟨_,_,_,q⟩:=hs; False.elim q
 | cont=>exact let ⟨_,_,_,q⟩:=hs; False.elim q
structure CalF (P:Program) (w:World) (K:Frag) (mg:Str->Option Value) (base:Heap) (f:Addr) (ps:List Str) (k:Nat) (sp:Sp):Prop where
 ex:∃ fd,FnOk P w K mg base (CXF P w) k f fd ps sp/\Binds K fd ps []/\keepIn K (.ref f)=true
structure CalIH (P:Program) (w:World) (K:Frag) (mg:Str->Option Value) (base:Heap) (x:Str) (C:Addr) (f:Str) (k:Nat) (v:V):Prop where
 ex:∃ (B fI:Addr) (fd:FuncData) (p:Str) (u:Value),FnOkH P w K mg base (CXF P w) k fI fd ["self",p] (zV C f)/\Binds K fd ["self",p] [u]/\RelV v u/\ExcI K C B fI/\mg x=some (.ref C)
section
variable {X:Cx}{pins:List (Addr × Obj)}{σ:L2.St}{H:Hp}{s:Shared}
theorem BI3 (I:Inv X pins σ H s)(E:Value->Shared->Prop):Inv { X with xe:=E } pins σ H s :=
 ⟨⟨I.ok.mod,I.ok.kind,I.ok.glob,I.ok.blt,I.ok.above,I.ok.inj,I.ok.has,I.ok.cab,I.ok.hd,I.ok.frames,I.ok.stk,I.ok.exf,I.ok.bs,I.ok.bsz,I.ok.noex,I.ok.exfs,I.ok.funs,I.ok.frf⟩,I.os,I.bare,I.base,I.loc,I.cell,I.free,I.freeC,I.pin,I.hok,I.len⟩
theorem AU3 {E:Value->Shared->Prop}(I:Inv { X with xe:=E } pins σ H s):Inv X pins σ H s :=
 ⟨⟨I.ok.mod,I.ok.kind,I.ok.glob,I.ok.blt,I.ok.above,I.ok.inj,I.ok.has,I.ok.cab,I.ok.hd,I.ok.frames,I.ok.stk,I.ok.exf,I.ok.bs,I.ok.bsz,I.ok.noex,I.ok.exfs,I.ok.funs,I.ok.frf⟩,I.os,I.bare,I.base,I.loc,I.cell,I.free,I.freeC,I.pin,I.hok,I.len⟩
def BP1 (X:Cx)(C:Addr)(R:Addr->Hp->Prop):Prop:=∀ pins σ H H' s s' e oe vs a0,Inv X pins σ H s->s'.os=s.os->AllBare s'.gens->Un (frs X.stack) [] H H' s.heap s'.heap->HOk X.prog X.w H' s'.heap->s.heap.get? e=none->H' e=none ->
   s'.heap.get? e=some oe->oe.data=.fields vs->vs[1]?=some .none->vs[0]?=some a0->oe.cls=.ref C->(∃ dx,oe.dict=some dx/\R dx H')->X.xe (.ref e) s'
theorem AC4 {x:Str}{C y:Addr}{k:Nat}{f:Str}{v:V}{np cpos cp pos:Pos}{j:Nat}{R:Addr->Hp->Prop}{Q:Flow->Shared->Prop}{oy:Obj}{ys:Array Value}(c:CalIH X.prog X.w X.K X.mg X.base x C f k v)(hg:Gl X x)(hr:Room (k+1) X.A)(hxe:BP1 X C R)(I:Inv X pins σ H s)(hy:s.heap.get? y=some oy)(hyd:oy.data=.fields ys)(hy2:ys[2]?=some .none)(hyH:H y=none)(hyf:y ∉ frs X.stack)(h:∀ dx,H dx=none->R dx (upd H dx (.xd [(f,v)])))(hd:(x == ("__debug__":Str))=false:=by decide) :
  wpAny (model X.prog X.w) (X.A.mark (some (.ref y))) (exec (.Raise (some (.Call (.Name x np) [] [] cpos)) (some (.Constant .none j cp)) pos) X.env) Q X.xe s:=by
 obtain ⟨B,fI,fd,p,u,F,hb,hv,q,hm⟩:=c.ex
 obtain ⟨nm,qn,N,bs,hd',sn,sub,ab,col,dd,k0,k1,k2,k3,k5,lk⟩:=q.ex
 obtain ⟨bm',N',nm',qn',bs',hd'',sn',sub',ab',col',dd',j0,j1,j2,j3,j5,mN',hB,hN',hni',T'⟩:=wW I.kIn q.base
 have T:OwnTail s.heap vbm (.ref B::vbm):=.own (cd:=_) hB hN' hni' .base
 refine AC3 (C:=C) (nm:=nm) (q:=qn) (N:=N) (bs:=bs) (bm:=.ref B::vbm) (bmB:=vbm) (hdct:=hd') (sn:=sn) (sub:=sub) (ab:=ab) (col:=col) (dd:=dd) (k0:=k0) (k1:=k1) (k2:=k2) (k3:=k3) (k5:=k5) (K:=X.K) (fI:=fI) PySem.F.excBase_ValueError (by rfl) rfl q.init (beq_iff_eq.mp q.fn) (iD (X:=cxE X (.ref y)) (pA I (.ref y)) hg hm ?_ hd)
 refine ⟨rfl,I.kIn _ _ lk,I.kIn,T,fun h' e hx=>?_⟩
 obtain ⟨tt,he,_,_⟩:=hx.there
 have nH:H e=none:=by
  cases z:H e with
  | none=>rfl
  | some w' =>
   obtain ⟨o,ho⟩:=zG (I.hok e w' z)
   rw [hx.new] at ho
   cases ho
 have nb:∀ b o,s.heap.get? b=some o->b≠e:=fun b o z y=>by rw [y,hx.new] at z; cases z
 have up:∀ b w',H b=some w'->upd H e (fN e C none) b=some w':=fun b w' z=>by rw [aN (aP z nH)]; exact z
 have I1:Inv X pins σ (upd H e (fN e C none)) { s with heap:=h' }:=I.un (t':=s.toks) ⟨fun b o z _ _ _=>hx.keeps _ _ z,fun b o z _ _ _=>⟨o.slots,hx.keeps _ _ z⟩,fun b o z n _=>by rw [aN (nb b o z)]; exact n,fun b o z _=>⟨o,hx.keeps _ _ z⟩,fun b xs z=>up _ _ z,fun b o w' z=>up _ _ z,fun b ps z=>⟨#[],by rw [Array.append_empty]; exact up _ _ z⟩⟩ fun b w' z=>by
  by_cases y:b=e
  ·subst y
   rw [aA] at z
   cases z
   exact AK2 ⟨_,.ref tt,he,rfl,rfl,rfl⟩
  ·rw [aN y] at z
   exact (I.hok b w' z).stay (fun c v' _ r=>hx.keeps _ _ r) (fun c r=>up _ _ r) fun c xs r=>up _ _ r
 have e1:=I1.env0
 have e2:=(show Env0 X.prog X.w X.K X.mg X.base (X.A.mark (some (.ref y))) X.stack { s with heap:=h' } (upd H e (fN e C none)) from ⟨e1.frames,e1.mod,e1.bs,e1.bsz,e1.funs,e1.frf,e1.hok,e1.bare⟩)
 refine wpAny_call (codeAny_mono (F.run _ X.stack _ _ ⟨[Value.ref e],[]⟩ [Value.ref e,u] [V.ref e,v] (fun v' H2=>v'=.non/\∃ dx,H dx=none/\dx≠e/\H2=upd (upd (upd H e (fN e C none)) dx (.xd [(f,v)])) e (fN e C (some dx))) E0 ((Room.held hr (some (.ref y))).make C [] []) (e2.make C [] [])
  (hb _ [Value.ref e] I1.kIn rfl) (.cons rfl (.cons hv .nil)) ⟨e,v,rfl,aA,fun dx e1 e2=>⟨rfl,dx,by rw [aN e2] at e1; exact e1,e2,rfl⟩⟩) fun r s3 hq=>?_)
 cases r with
 | error ev =>
  obtain ⟨_,_,_,_,_,_,_,_,_,_,_,_,_,_,_,_,hE⟩:=hq
  exact hE.elim
 | ok fl =>
  cases fl with
  | next=>exact False.elim hq
  | brk=>exact False.elim hq
  | cont=>exact False.elim hq
  | ret u3 =>
   obtain ⟨v3,H2,os,bare,un,hok,r3,rfl,dx,hdx,hde,rfl⟩:=hq
   have I3:Inv X pins σ _ s3:=I1.call' (ch:=[]) os un hok bare (fun b z=>absurd z (by simp))
   obtain ⟨⟨ob,a0,hob,hcl,hdi,hdt⟩,_,_⟩:=(show ObjOk X.prog X.w _ s3.heap e (.ext (vI e C (some dx))) from hok e _ aA)
   have eq2:∀ b,b≠e->upd (upd (upd H e (fN e C none)) dx (.xd [(f,v)])) e (fN e C (some dx)) b=upd H dx (.xd [(f,v)]) b:=fun b z=>by
    rw [aN z]
    by_cases y:b=dx
    ·rw [y,aA,aA]
    ·rw [aN y,aN y,aN z]
   have nH2:upd H dx (.xd [(f,v)]) e=none:=by rw [aN (Ne.symm hde)]; exact nH
   have ne1:∀ b w',H b=some w'->b≠e:=fun b w' z=>aP z nH
   have hye:y≠e:=nb y oy hy
   have hy3:s3.heap.get? y=some oy:=un.keep y oy (hx.keeps _ _ hy) (by rw [aN hye]; exact hyH) hyf (by simp)
   obtain ⟨oc,od,odt,osl⟩:=ob
   dsimp only at hcl hdi hdt
   subst hcl hdt
   refine ⟨(show u3=Value.none from r3),od,osl,a0,oy,ys,hye,I3.kIn _ _ lk,hob,hy3,hyd,hy2,fun h4 k4 e4=>?_⟩
   have keep4:∀ b o,b≠e->s3.heap.get? b=some o->h4.get? b=some o:=fun b o n z=>(k4 b n).trans z
   have un':Un (frs X.stack) [] H (upd H dx (.xd [(f,v)])) s.heap h4 :=
    ⟨fun b o z n hb' _=>keep4 _ _ (nb b o z) (un.keep b o (hx.keeps _ _ z) (by rw [aN (nb b o z)]; exact n) hb' (by simp)),fun b o z n hb' _=>by
      obtain ⟨sl,q⟩:=un.slot b o (hx.keeps _ _ z) (by rw [aN (nb b o z)]; exact n) hb' (by simp)
      exact ⟨sl,keep4 _ _ (nb b o z) q⟩,
     fun b o z n _=>(eq2 b (nb b o z)).symm.trans (un.free b o (hx.keeps _ _ z) (by rw [aN (nb b o z)]; exact n) (by simp)),fun b o z _=>by
      obtain ⟨o',q⟩:=un.there b o (hx.keeps _ _ z) (by simp)
      exact ⟨o',keep4 _ _ (nb b o z) q⟩,
     fun b xs z=>(eq2 b (ne1 b _ z)).symm.trans (un.tups b xs (up _ _ z)),fun b o w' z=>(eq2 b (ne1 b _ z)).symm.trans (un.frzs b o w' (up _ _ z)),fun b ps z=>by
     obtain ⟨m1,e1⟩:=un.tbls b ps (up _ _ z)
     exact ⟨m1,(eq2 b (ne1 b _ z)).symm.trans e1⟩⟩
   have hok':HOk X.prog X.w (upd H dx (.xd [(f,v)])) h4:=fun b w' z=>by
    have be:b≠e:=fun y=>by rw [y,nH2] at z; cases z
    refine (hok b w' ((eq2 b be).trans z)).stay (fun c o hc r=>keep4 c o ?_ r) (fun c r=>?_) fun c xs r=>?_
    ·rcases hc with rfl | hc
     ·exact be
     ·intro y
      rw [y,aA] at hc
      cases hc
    ·have ce:c≠e:=fun y=>by rw [y,aA] at r; cases r
     exact (eq2 c ce).symm.trans r
    ·have ce:c≠e:=fun y=>by rw [y,aA] at r; cases r
     exact (eq2 c ce).symm.trans r
   exact hxe pins σ H _ s { s3 with heap:=h4 } e _ _ a0 I os bare un' hok' hx.new nH2 e4 rfl rfl rfl rfl ⟨dx,hdi,h dx hdx⟩
def BI4 (K:Frag)(CB:Addr)(i j:Nat)(fF:Addr)(sp:Sp)(t:TA)(f:Str)(v:V)(R:Addr->Hp->Prop):TS:=fun D σ H=>σ[j]?=some (some (.ref fF))/\t σ H fun vs H1=>sp vs H1 (fun y H2=>D.nx (σ.set i (some y)) H2)
 fun cls _ H2=>exmOne K cls (.ref CB)=some true/\∀ dx,H2 dx=none->R dx (upd H2 dx (.xd [(f,v)]))
theorem BB7 {i j jj k k':Nat}{fn xn cn rn f:Str}{fF CB C:Addr}{ps:List Str}{sp:Sp}{e:Expr}{es:List Expr}{t:TA}{v:V}{R:Addr->Hp->Prop}{p1 p2 p3 p4 cp np cpos ap rpos hpos tpos:Pos}(hst:X.stack=X.env::X.outer)(hf:X.env.frame=some X.env.locals)(CF:CalF X.prog X.w X.K X.mg X.base fF ps k sp)(hr:Room k X.A)(hNf:X.N[j]?=some fn)(hvf:Vis X.env.scope fn)(ha:∀ E',PA { X with xe:=E' } (e::es) t)(hN:X.N.Nodup)(hi:X.N[i]?=some xn)(hx:Loc X.env.scope xn)(hfn:X.fn xn=true)(hgC:Gl X cn)(hmC:X.mg cn=some (.ref CB))(CI:CalIH X.prog X.w X.K X.mg X.base rn C f k' v)(hgr:Gl X rn)(hr':Room (k'+1) X.A)(hp:∀ u,PassesOwnAt (model X.prog X.w) (X.A.mark (some u)) X.A X.env X.xe)(hxe:BP1 X C R)(hdf:(fn == ("__debug__":Str))=false:=by decide)(hcf:(fn == ("__classdict__":Str))=false:=by decide)(hdc:(cn == ("__debug__":Str))=false:=by decide)(hdr:(rn == ("__debug__":Str))=false:=by decide)(he:starEach (e::es) X.env=(false,eval e X.env)::starEach es X.env:=by rfl)(hpl:(backTo p3 (starEach es X.env)).any (·.1)=false:=by rfl)(hsw:swapsWith (.Call (.Name fn p2) (e::es) [] p3) (some (.Name xn p1)) p4.line X.env=pure false:=by rfl) :
  PS X (.Try [.Assign [.Name xn p1] (.Call (.Name fn p2) (e::es) [] p3) p4] [.ExceptHandler (some (.Name cn cp)) none [.Raise (some (.Call (.Name rn np) [] [] cpos)) (some (.Constant .none jj ap)) rpos] hpos] [] [] tpos) (BI4 X.K CB i j fF sp t f v R):=by
 intro pins s σ H D I h
 obtain ⟨hσ,h⟩:=h
 obtain ⟨fd,F,hb,hk⟩:=CF.ex
 have body:wpAny (model X.prog X.w) X.A (exec (.Assign [.Name xn p1] (.Call (.Name fn p2) (e::es) [] p3) p4) X.env) (SP X pins D) (fun ev s'=>∃ H1 s1,Inv X pins σ H1 s1/\CXF X.prog X.w X.stack H1 s1 (fun cls _ H2=>exmOne X.K cls (.ref CB)=some true/\∀ dx,H2 dx=none->R dx (upd H2 dx (.xd [(f,v)]))) ev s') s:=by
  refine wpAny_Assign_Name (wpAny_Call_Name_kw ?_) hsw
  refine wpAny_mono (AS2 (X:={ X with xe:=fun _ _=>False }) hNf hvf hdf hcf pins s σ H (fun z Hz=>z=.ref fF/\Hz=H) (BI3 I _) ⟨_,hσ,rfl,rfl⟩) (fun u s1 q1=>?_) fun _ _ z=>z.elim
  obtain ⟨z,Hz,I1',rz,rfl,rfl⟩:=q1
  have I1:=AU3 I1'
  cases rz
  refine callWith_K (h₀:=X.base) I1.ok.mod.kin hk (wpAny_mono (ha (fun _ _=>False) p3 pins s1 σ Hz _ I1' h) (fun us s2 q2=>?_) fun _ _ z=>z.elim) he hpl
  obtain ⟨vs,H2,I2',r,q⟩:=q2
  have I2:=AU3 I2'
  refine ⟨I2.kIn,?_⟩
  have r2:Vals (vs++[]) (us++[]):=by rw [List.append_nil,List.append_nil]; exact r
  have q':sp (vs++[]) H2 (fun y H2=>D.nx (σ.set i (some y)) H2) (fun cls _ H2=>exmOne X.K cls (.ref CB)=some true/\∀ dx,H2 dx=none->R dx (upd H2 dx (.xd [(f,v)]))):=by rw [List.append_nil]; exact q
  have hlen:(us++[]).length=ps.length:=by rw [<- r2.length]; exact F.len _ _ _ _ q'
  refine wpAny_call (codeAny_mono (F.run X.A X.stack s2 H2 ⟨us,[]⟩ (us++[]) (vs++[]) _ _ hr I2.env0 (hb s2 us I2.kIn hlen) r2 q') fun res s' hq=>?_)
  cases res with
  | ok fl =>
   cases fl with
   | ret u =>
    obtain ⟨y,H3,I3,r3,q3⟩:=I2.after hq
    exact lK I3 hN hi hx r3 (fun s4 I4=>⟨_,H3,I4,q3⟩) (.inl hfn)
   | next=>exact False.elim hq
   | brk=>exact False.elim hq
   | cont=>exact False.elim hq
  | error ev=>exact ⟨H2,s2,I2,hq⟩
 refine wpAny_Try_except (wpAny_execs_cons (wpAny_mono body (fun fl s' q=>?_) fun ev s' hq=>?_))
 ·cases fl with
  | next=>exact wpAny_execs_nil (wpAny_execs_nil q)
  | brk=>exact q
  | cont=>exact q
  | ret u=>exact q
 obtain ⟨H1,s1,I1,hq1⟩:=hq
 obtain ⟨x',cls,a0,dx,H2,B,rfl,os,bare,un,hok,fl,cT,cO,cA,⟨oe0,hoe0,hdx0,hc2⟩,hm1,hE⟩:=hq1
 obtain ⟨vs0,hvs0,hvs2⟩:=hc2 rfl
 have fl':=fl
 rw [hst] at fl'
 refine vB (base:=B) (outer:=X.outer) (L:=X.env.locals) (by rw [<- hst]; exact I1.ok.frames) hf fl' fun h4 held4 up4 dk4=>?_
 refine AT3 held4 fun h5 fl5 up5 dk5=>?_
 rw [<- hst] at fl5
 obtain ⟨un5,hok5⟩:=BD5 (P:=X.prog) (w:=X.w) un hok fl.1 fl.2.2.1 cT cO cA fl5.1 (up4.trans up5)
 have I5:Inv X pins σ H2 { s' with heap:=h5 }:=I1.call' (s':={ s' with heap:=h5 }) (ch:=[]) os un5 hok5 bare (fun b z=>absurd z (by simp))
 have X5:=pA I5 (.ref x')
 have ty5:Looks (model X.prog X.w) h5 (typeOf (.ref x')) cls:=by
  obtain ⟨ob,hob,hc⟩:=fl5.there
  subst hc
  exact (Looks.ld hob).andThen .now
 refine wpAny_handleBy_cons (codeAny_handlers_test (iD X5 hgC hmC ((exm_one I5.kIn ty5 hm1).here ?_) hdc)) (by intro z; cases z)
 refine codeAny_handlers_suite ?_
 refine oB fl5 fun h6 fl6 up6 dk6=>?_
 obtain ⟨un6,hok6⟩:=BD5 (P:=X.prog) (w:=X.w) un5 hok5 fl5.1 fl5.2.2.1 cT cO cA fl6.1 up6
 obtain ⟨o1,g1,d1,z1⟩:=dk4 x' oe0 hoe0
 obtain ⟨o2,g2,d2,z2⟩:=dk5 x' o1 g1
 obtain ⟨o3,g3,d3,z3⟩:=dk6 x' o2 g2
 obtain ⟨vs3,hvs3,hvs4⟩:=(z1.trans (z2.trans z3)) vs0 hvs0
 have nH:H2 x'=none:=by
  cases z:H2 x' with
  | none=>rfl
  | some u =>
   obtain ⟨o,ho⟩:=cT x' u z
   rw [fl.2.1] at ho
   cases ho
 have nF:x' ∉ frs X.stack:=fun hx'=>by
  obtain ⟨_,o',ho',hn'⟩:=fl6.2.2.1.mem hx'
  obtain ⟨oe,ws,hoe,_,hoed,_⟩:=fl6.first
  rw [hoe] at ho'
  cases ho'
  exact hn' _ hoed
 have I6:Inv X pins σ H2 { s' with heap:=h6 }:=I1.call' (s':={ s' with heap:=h6 }) (ch:=[]) os un6 hok6 bare (fun b z=>absurd z (by simp))
 refine wpAny_execs_cons (wpAny_mono (AC4 (Q:=fun _ _=>False) CI hgr hr' hxe I6 g3 hvs3 (hvs4.trans hvs2) nH nF hE hdr) (fun _ _ z=>z.elim) (hp (.ref x')))
end
section
variable {P:Program}{w:World}{K:Frag}{mg:Str->Option Value}{base:Heap}{N:List Str}{qual:Str}{sc:Scope}{f:Addr}{cdv:Value}{A:Around}{outer:List Env}{s:Shared}{H:Hp}{E:XK}{C:Addr}
theorem BP2:BP1 (rO false P w K mg base N qual sc f cdv A outer s H E) C (fun dx H9=>E (.ref C) (some dx) H9) :=
 fun pins σ H1 H' s1 s' e oe vs a0 I os bare un hok fe nH he hd h1 h0 hcl ⟨dx,hdi,hE⟩=>kS I rfl rfl rfl os bare un hok fe nH he hd h1 h0 (fun z=>nomatch z) (by rw [hcl,hdi]; exact hE)
theorem AQ4:∀ u,PassesOwnAt (model P w) ((rO false P w K mg base N qual sc f cdv A outer s H E).A.mark (some u)) (rO false P w K mg base N qual sc f cdv A outer s H E).A (rO false P w K mg base N qual sc f cdv A outer s H E).env (rO false P w K mg base N qual sc f cdv A outer s H E).xe:=fun _=>PassesOwnAt.leaving
end
theorem AK8 {K:Frag}{CB:Addr}{i j:Nat}{fF:Addr}{sp:Sp}{t:TA}{f:Str}{v:V}{R:Addr->Hp->Prop}{D:Ends}{σ:L2.St}{H:Hp}:BI4 K CB i j fF sp t f v R D σ H=(σ[j]?=some (some (.ref fF))/\t σ H fun vs H1=>sp vs H1 (fun y H2=>D.nx (σ.set i (some y)) H2)
 fun cls _ H2=>exmOne K cls (.ref CB)=some true/\∀ dx,H2 dx=none->R dx (upd H2 dx (.xd [(f,v)]))):=rfl
abbrev sp1:Str:=⟨#[32]⟩
def kW (n:Int):Str:=((toString n:String):Str)
mutual
def Tr.ws:Tr->List Str
 | .any=>[("any":Str)]
 | .kind us=>("kind":Str)::us
 | .place us=>("place":Str)::us
 | .weight n=>[("weight":Str),kW n]
 | .not t=>("not":Str)::t.ws
 | .both ts=>("(":Str)::(ts.ws "&"++[(")":Str)])
 | .either ts=>("(":Str)::(ts.ws "|"++[(")":Str)])
def Trs.ws (s:Str):Trs->List Str
 | .nil=>[]
 | .cons t .nil=>t.ws
 | .cons t (.cons t' ts)=>t.ws++s::Trs.ws s (.cons t' ts)
end
theorem kN (s:Str)(t:Tr):Trs.ws s (.cons t .nil)=t.ws:=by rw [Trs.ws.eq_def]
theorem iH (s:Str)(t t':Tr)(ts:Trs):Trs.ws s (.cons t (.cons t' ts))=t.ws++s::Trs.ws s (.cons t' ts):=by rw [Trs.ws.eq_def]
theorem oE:∀ t:Tr,t.ws≠[]
 | .any=>by rw [Tr.ws]; exact List.cons_ne_nil _ _
 | .kind us=>by rw [Tr.ws]; exact List.cons_ne_nil _ _
 | .place us=>by rw [Tr.ws]; exact List.cons_ne_nil _ _
 | .weight n=>by rw [Tr.ws]; exact List.cons_ne_nil _ _
 | .not t=>by rw [Tr.ws]; exact List.cons_ne_nil _ _
 | .both ts=>by rw [Tr.ws]; exact List.cons_ne_nil _ _
 | .either ts=>by rw [Tr.ws]; exact List.cons_ne_nil _ _
mutual
def Tr.tx:Tr->Str
 | .any=>"any"
 | .kind us=>Str.join sp1 (("kind":Str)::us)
 | .place us=>Str.join sp1 (("place":Str)::us)
 | .weight n=>("weight ":Str)++kW n
 | .not t=>("not ":Str)++t.tx
 | .both ts=>("( ":Str)++Str.join (" & ":Str) ts.tx++(" )":Str)
 | .either ts=>("( ":Str)++Str.join (" | ":Str) ts.tx++(" )":Str)
def Trs.tx:Trs->List Str
 | .nil=>[]
 | .cons t ts=>t.tx::ts.tx
end
theorem gP:∀ ts:Trs,ts.tx=ts.toL.map Tr.tx
 | .nil=>rfl
 | .cons t ts=>by rw [Trs.tx,Trs.toL,List.map_cons,gP ts]
mutual
def Tr.wf:Tr->Prop
 | .any=>True
 | .kind us=>us≠[]/\(∀ u∈us,aY u)/\us.Nodup
 | .place us=>us≠[]/\(∀ u∈us,aY u)/\us.Nodup
 | .weight n=>0<=n/\n < 1000000
 | .not t=>t.wf
 | .both ts=>2<=ts.toL.length/\ts.wf
 | .either ts=>2<=ts.toL.length/\ts.wf
def Trs.wf:Trs->Prop
 | .nil=>True
 | .cons t ts=>t.wf/\ts.wf
end
mutual
theorem Tr.ok.wf:∀ {t:Tr},t.ok->t.wf
 | .any,_=>by rw [Tr.wf]; trivial
 | .kind us,h=>by rw [Tr.ok] at h; rw [Tr.wf]; exact ⟨h.1,h.2.2.1,h.2.2.2⟩
 | .place us,h=>by rw [Tr.ok] at h; rw [Tr.wf]; exact ⟨h.1,h.2.2.1,h.2.2.2⟩
 | .weight n,h=>by rw [Tr.ok] at h; rw [Tr.wf]; exact h
 | .not t,h=>by rw [Tr.ok] at h; rw [Tr.wf]; exact Tr.ok.wf h
 | .both ts,h=>by rw [Tr.ok] at h; rw [Tr.wf]; exact ⟨h.1,Trs.ok.wf h.2.2⟩
 | .either ts,h=>by rw [Tr.ok] at h; rw [Tr.wf]; exact ⟨h.1,Trs.ok.wf h.2.2⟩
theorem Trs.ok.wf:∀ {ts:Trs},ts.ok->ts.wf
 | .nil,_=>by rw [Trs.wf]; trivial
 | .cons t ts,h=>by rw [Trs.ok] at h; rw [Trs.wf]; exact ⟨Tr.ok.wf h.1,Trs.ok.wf h.2⟩
end
theorem trs_wf:∀ {ts:Trs},ts.wf ↔ ∀ t∈ts.toL,t.wf
 | .nil=>⟨fun _ t h=>(by cases h),fun _=>by rw [Trs.wf]; trivial⟩
 | .cons s ts=>by
  rw [Trs.toL,Trs.wf,trs_wf]
  exact ⟨fun h t m=>by
   rcases List.mem_cons.mp m with rfl | m
   ·exact h.1
   ·exact h.2 t m,fun h=>⟨h s List.mem_cons_self,fun t m=>h t (List.mem_cons_of_mem _ m)⟩⟩
theorem fO {a:Str}{r:List Str}(h:r≠[]):Str.join sp1 (a::r)=a++sp1++Str.join sp1 r:=by
 cases r with
 | nil=>exact absurd rfl h
 | cons b r=>rfl
theorem tF (s:Str):∀ {ts:Trs},ts.toL≠[]->ts.ws s≠[]
 | .nil,h=>absurd rfl h
 | .cons t .nil,_=>by rw [kN]; exact oE t
 | .cons t (.cons t' ts),_=>by rw [iH]; simp
theorem AC5 {ts:Trs}(h:2<=ts.toL.length):ts.toL≠[]:=fun z=>by rw [z] at h; simp at h
mutual
theorem AK9:∀ t:Tr,t.wf->t.tx=Str.join sp1 t.ws
 | .any,_=>rfl
 | .kind us,_=>rfl
 | .place us,_=>rfl
 | .weight n,_=>by
  rw [Tr.tx,Tr.ws,fO (by simp)]
  exact jE (by simp only [jD]; rfl)
 | .not t,h=>by
  rw [Tr.wf] at h
  rw [Tr.tx,Tr.ws,fO (oE t),AK9 t h]
  exact jE (by simp only [jD]; rfl)
 | .both ts,h=>by
  rw [Tr.wf] at h
  have hn:=AC5 h.1
  rw [Tr.tx,Tr.ws,fO (by simp),pB (tF _ hn) (by simp),txs_ws "&" " & " rfl ts h.2 hn]
  exact jE (by simp only [jD,List.append_assoc]; rfl)
 | .either ts,h=>by
  rw [Tr.wf] at h
  have hn:=AC5 h.1
  rw [Tr.tx,Tr.ws,fO (by simp),pB (tF _ hn) (by simp),txs_ws "|" " | " rfl ts h.2 hn]
  exact jE (by simp only [jD,List.append_assoc]; rfl)
theorem txs_ws (s s3:Str)(e:s3=sp1++s++sp1):∀ ts:Trs,ts.wf->ts.toL≠[]->Str.join s3 ts.tx=Str.join sp1 (ts.ws s)
 | .nil,_,h=>absurd rfl h
 | .cons t .nil,h,_=>by
  rw [Trs.wf] at h
  rw [Trs.tx,Trs.tx,kN]
  exact AK9 t h.1
 | .cons t (.cons t' ts),h,_=>by
  rw [Trs.wf] at h
  have i:=txs_ws s s3 e (.cons t' ts) h.2 (by rw [Trs.toL]; simp)
  have hn:Trs.ws s (.cons t' ts)≠[]:=tF s (by rw [Trs.toL]; simp)
  rw [iH,pB (oE t) (by simp),fO hn,<- i,<- AK9 t h.1,Trs.tx,Trs.tx]
  show t.tx++s3++Str.join s3 (t'.tx::ts.tx)=_
  rw [e]
  exact jE (by simp only [jD,List.append_assoc])
end
def mS (u:Str):Bool:=decide (1<=u.length/\u.length<=60/\∀ c∈u.cps.toList,48<=c/\c<=57) && (decide (u="0") || !Txt.startswith u "0")
def pC (u:Str):Bool:=if Txt.startswith u "-"=true then mS (Txt.slice u (some 1) none) && !decide (u="-0") else mS u
def pD (u:Str):Int:=(PySem.intText? u).getD 0
theorem iO (x:Str)(c:Nat):Txt.startswith x ⟨#[c]⟩=decide (x.cps.toList.head?=some c):=by
 obtain ⟨⟨l⟩⟩:=x
 cases l with
 | nil=>rfl
 | cons a l =>
  unfold Txt.startswith Builtin.Str.subAt
  have e:(⟨#[c]⟩:Str).length=1:=rfl
  rw [e,Bool.eq_iff_iff]
  simp only [Bool.and_eq_true,decide_eq_true_eq,beq_iff_eq]
  constructor
  ·rintro ⟨_,h⟩
   have h2:=congrArg Array.toList h
   simp at h2
   simp [h2]
  ·intro h
   simp at h
   refine ⟨by show 0+1<=(a::l).length; simp,?_⟩
   apply Array.toList_inj.mp
   simp [h]
theorem pU:∀ m:Nat,0 < m->(Nat.toDigits 10 m).head?≠some '0'/\Nat.toDigits 10 m≠[]:=by
 intro m
 induction m using Nat.strongRecOn with
 | _ m ih =>
  intro h0
  by_cases h:m < 10
  ·rw [Nat.toDigits_of_lt_base h]
   have q:∀ k:Nat,k < 10->0 < k->Nat.digitChar k≠'0':=by decide
   exact ⟨by simpa using q m h h0,by simp⟩
  ·have hm:m % 10 < 10:=Nat.mod_lt m (by decide)
   have t:Nat.toDigits 10 (m / 10)++Nat.toDigits 10 (m % 10)=Nat.toDigits 10 (10 * (m / 10)+m % 10):=Nat.toDigits_append_toDigits (by decide) (by omega) hm
   rw [Nat.div_add_mod] at t
   obtain ⟨i1,i2⟩:=ih (m / 10) (by omega) (by omega)
   rw [<- t]
   refine ⟨?_,by simp [i2]⟩
   cases e:Nat.toDigits 10 (m / 10) with
   | nil=>exact absurd e i2
   | cons a l=>rw [e] at i1; simpa using i1
theorem pV {n:Int}(h:0<=n):(kW n).cps.toList=(Nat.toDigits 10 n.toNat).map Char.toNat:=by
 obtain ⟨m,rfl⟩:=Int.eq_ofNat_of_zero_le h
 exact KIN.signs_num m
theorem tG {n:Int}(h:0<=n):∀ c∈(kW n).cps.toList,48<=c/\c<=57:=by
 intro c hc
 rw [pV h] at hc
 obtain ⟨ch,hch,e⟩:=List.mem_map.mp hc
 have r:=PyProof.Rows.digit_range (Nat.isDigit_of_mem_toDigits (by decide) (by decide) hch)
 rw [<- e]
 exact r
theorem xS {n:Int}(h0:0<=n)(h1:n < 1000000):1<=(kW n).length/\(kW n).length<=10:=by
 have hl:=KT.len_num h0 (show n < 10 ^ 10 by omega)
 refine ⟨?_,hl⟩
 have e:(kW n).length=(kW n).cps.toList.length:=by simp [Str.length]
 rw [e,pV h0,List.length_map]
 by_cases z:n=0
 ·subst z; decide
 ·exact List.length_pos_iff.mpr (pU n.toNat (by omega)).2
theorem AQ5 {n:Int}(h0:0<=n)(hn:n≠0):(kW n).cps.toList.head?≠some 48:=by
 rw [pV h0]
 obtain ⟨i1,i2⟩:=pU n.toNat (by omega)
 cases e:Nat.toDigits 10 n.toNat with
 | nil=>exact absurd e i2
 | cons a l =>
  rw [e] at i1
  intro h
  simp at h i1
  exact i1 (Char.ext (UInt32.toNat_inj.mp h))
theorem AA0 {n:Int}(h0:0<=n)(h1:n < 1000000):pC (kW n)=true/\PySem.intText? (kW n)=some n/\pD (kW n)=n:=by
 have e:=KIN.num_reads h0 (show n < 10 ^ 10 by omega)
 refine ⟨?_,e,?_⟩
 ·obtain ⟨l1,l2⟩:=xS h0 h1
  have hd:=tG h0
  have ns:Txt.startswith (kW n) "-"=false:=by
   show Txt.startswith (kW n) ⟨#[45]⟩=false
   rw [iO]
   refine decide_eq_false fun h=>?_
   cases q:(kW n).cps.toList with
   | nil=>rw [q] at h; cases h
   | cons a l =>
    have:=hd a (by rw [q]; exact List.mem_cons_self)
    rw [q] at h
    simp at h
    omega
  unfold pC mS
  rw [ns,if_neg (by decide),Bool.and_eq_true]
  refine ⟨decide_eq_true ⟨l1,by omega,hd⟩,?_⟩
  by_cases z:n=0
  ·subst z; decide +kernel
  ·rw [Bool.or_eq_true]
   right
   show (!Txt.startswith (kW n) ⟨#[48]⟩)=true
   rw [iO,decide_eq_false (AQ5 h0 z)]
   rfl
 ·unfold pD
  rw [show PySem.intText? (kW n)=some n from e]
  rfl
structure Fm where
 sg:Str
 inn:List Tr
def plainF:List Str->List Fm->Option (Tr × List Str × List Fm)
 | [],_=>none
 | w::r,S =>
  if w="not"\/w="(" then plainF r (⟨w,[]⟩::S)
  else if w="any" then some (.any,r,S)
  else if w="kind" then (if r.takeWhile (fun u=>decide (aY u))≠[]/\(r.takeWhile (fun u=>decide (aY u))).Nodup then some (.kind (r.takeWhile fun u=>decide (aY u)),r.dropWhile (fun u=>decide (aY u)),S) else none)
  else if w="place" then (if r.takeWhile (fun u=>decide (aY u))≠[]/\(r.takeWhile (fun u=>decide (aY u))).Nodup then some (.place (r.takeWhile fun u=>decide (aY u)),r.dropWhile (fun u=>decide (aY u)),S) else none)
  else if w="weight" then (match r with
   | []=>none
   | n::r'=>if pC n=true/\0<=pD n then some (.weight (pD n),r',S) else none)
  else none
def closeF:List Fm->Tr->List Str->Option ((Tr × List Str) ⊕ (List Str × List Fm))
 | [],t,r=>some (.inl (t,r))
 | f::S,t,r =>
  if f.sg="not" then closeF S (.not t) r
  else match r with
   | []=>none
   | w::r' =>
    if w=")" then (if f.sg="&" then closeF S (.both (Trs.ofL (f.inn++[t]))) r' else if f.sg="|" then closeF S (.either (Trs.ofL (f.inn++[t]))) r' else none)
    else if (w="&"\/w="|")/\(f.sg="("\/f.sg=w) then some (.inr (r',⟨w,f.inn++[t]⟩::S)) else none
theorem bL (w:Str)(r:List Str)(S:List Fm):plainF (w::r) S=(
  if w="not"\/w="(" then plainF r (⟨w,[]⟩::S)
  else if w="any" then some (.any,r,S)
  else if w="kind" then (if r.takeWhile (fun u=>decide (aY u))≠[]/\(r.takeWhile (fun u=>decide (aY u))).Nodup then some (.kind (r.takeWhile fun u=>decide (aY u)),r.dropWhile (fun u=>decide (aY u)),S) else none)
  else if w="place" then (if r.takeWhile (fun u=>decide (aY u))≠[]/\(r.takeWhile (fun u=>decide (aY u))).Nodup then some (.place (r.takeWhile fun u=>decide (aY u)),r.dropWhile (fun u=>decide (aY u)),S) else none)
  else if w="weight" then (match r with
   | []=>none
   | n::r'=>if pC n=true/\0<=pD n then some (.weight (pD n),r',S) else none)
  else none):=by rw [plainF.eq_def]
theorem cJ (f:Fm)(S:List Fm)(t:Tr)(r:List Str):closeF (f::S) t r=(
  if f.sg="not" then closeF S (.not t) r
  else match r with
   | []=>none
   | w::r' =>
    if w=")" then (if f.sg="&" then closeF S (.both (Trs.ofL (f.inn++[t]))) r' else if f.sg="|" then closeF S (.either (Trs.ofL (f.inn++[t]))) r' else none)
    else if (w="&"\/w="|")/\(f.sg="("\/f.sg=w) then some (.inr (r',⟨w,f.inn++[t]⟩::S)) else none):=by rw [closeF.eq_def]
def BB8:Nat->List Str->List Fm->Option (Tr × List Str)
 | 0,_,_=>none
 | n+1,r,S=>match plainF r S with
  | none=>none
  | some (t,r',S')=>match closeF S' t r' with
   | none=>none
   | some (.inl x)=>some x
   | some (.inr (r2,S2))=>BB8 n r2 S2
def iP (r:List Str)(S:List Fm):Option (Tr × List Str):=BB8 (r.length+1) r S
def BT6 (u:Str):Prop:=u ∉ ([("not":Str),"(","any","kind","place","weight",")","&","|"]:List Str)/\¬ aY u/\pC u=false
def Eats (r r':List Str):Prop:=∃ p,r=p++r'/\∀ x∈p,¬ BT6 x
theorem Eats.refl (r:List Str):Eats r r:=⟨[],rfl,fun x h=>by cases h⟩
theorem Eats.trans {a b c:List Str}(x:Eats a b)(y:Eats b c):Eats a c:=by
 obtain ⟨p,rfl,hp⟩:=x
 obtain ⟨q,rfl,hq⟩:=y
 exact ⟨p++q,by rw [List.append_assoc],fun z hz=>(List.mem_append.mp hz).elim (hp z) (hq z)⟩
theorem Eats.one {w:Str}{r:List Str}(h:w∈([("not":Str),"(","any","kind","place","weight",")","&","|"]:List Str)):Eats (w::r) r:=⟨[w],rfl,fun x hx=>by rw [List.mem_singleton.mp hx]; exact fun z=>z.1 h⟩
theorem Eats.num {w:Str}{r:List Str}(h:pC w=true):Eats (w::r) r:=⟨[w],rfl,fun x hx=>by rw [List.mem_singleton.mp hx]; exact fun z=>by have q:=z.2.2; rw [h] at q; cases q⟩
theorem lV {α:Type}{p:α->Bool}{x:α}:∀ {l:List α},x∈l.takeWhile p->p x=true
 | [],h=>by cases h
 | a::l,h=>by
  rw [List.takeWhile_cons] at h
  split at h
  ·rename_i ha
   rcases List.mem_cons.mp h with rfl | h
   ·exact ha
   ·exact lV h
  ·cases h
theorem Eats.names (r:List Str):Eats r (r.dropWhile fun u=>decide (aY u)):=⟨r.takeWhile fun u=>decide (aY u),List.takeWhile_append_dropWhile.symm,fun x hx=>fun z=>z.2.1 (of_decide_eq_true (p:=aY x) (lV (p:=fun u=>decide (aY u)) hx))⟩
theorem Eats.len {a b:List Str}(x:Eats a b):b.length<=a.length:=by
 obtain ⟨p,rfl,_⟩:=x
 rw [List.length_append]
 omega
theorem mX:∀ {r:List Str}{S:List Fm}{t:Tr}{r':List Str}{S':List Fm},plainF r S=some (t,r',S')->Eats r r'/\r'.length < r.length
 | [],S,t,r',S',h=>by cases h
 | w::r,S,t,r',S',h=>by
  rw [bL] at h
  split at h
  ·rename_i hw
   obtain ⟨a,b⟩:=mX h
   exact ⟨(Eats.one (by rcases hw with rfl | rfl <;> simp)).trans a,by rw [List.length_cons]; omega⟩
  split at h
  ·rename_i hw
   cases h
   exact ⟨Eats.one (by rw [hw]; simp),by rw [List.length_cons]; omega⟩
  split at h
  ·rename_i hw
   split at h
   ·cases h
    exact ⟨(Eats.one (by rw [hw]; simp)).trans (Eats.names r),by have:=(Eats.names r).len; rw [List.length_cons]; omega⟩
   ·cases h
  split at h
  ·rename_i hw
   split at h
   ·cases h
    exact ⟨(Eats.one (by rw [hw]; simp)).trans (Eats.names r),by have:=(Eats.names r).len; rw [List.length_cons]; omega⟩
   ·cases h
  split at h
  ·rename_i hw
   cases r with
   | nil=>cases h
   | cons n r =>
    dsimp only at h
    split at h
    ·rename_i hn
     cases h
     exact ⟨(Eats.one (by rw [hw]; simp)).trans (Eats.num hn.1),by rw [List.length_cons,List.length_cons]; omega⟩
    ·cases h
  ·cases h
def BP3 (r:List Str):(Tr × List Str) ⊕ (List Str × List Fm)->Prop
 | .inl x=>Eats r x.2
 | .inr x=>Eats r x.1/\x.1.length < r.length
theorem iQ:∀ {S:List Fm}{t:Tr}{r:List Str}{x:(Tr × List Str) ⊕ (List Str × List Fm)},closeF S t r=some x->BP3 r x
 | [],t,r,x,h=>by cases h; exact Eats.refl r
 | f::S,t,r,x,h=>by
  rw [cJ] at h
  split at h
  ·exact iQ h
  cases r with
  | nil=>cases h
  | cons w r =>
   dsimp only at h
   have up:∀ {y},BP3 r y->w∈([("not":Str),"(","any","kind","place","weight",")","&","|"]:List Str)->BP3 (w::r) y:=fun {y} hy hw=>by
    cases y with
    | inl y=>exact (Eats.one hw).trans hy
    | inr y=>exact ⟨(Eats.one hw).trans hy.1,by have:=hy.2; rw [List.length_cons]; omega⟩
   split at h
   ·rename_i hw
    split at h
    ·exact up (iQ h) (by rw [hw]; simp)
    split at h
    ·exact up (iQ h) (by rw [hw]; simp)
    ·cases h
   split at h
   ·rename_i hw
    cases h
    exact ⟨Eats.one (by rcases hw.1 with rfl | rfl <;> simp),by show r.length < (w::r).length; rw [List.length_cons]; omega⟩
   ·cases h
theorem vJ:∀ {n m:Nat}{r:List Str}{S:List Fm},r.length < n->r.length < m->BB8 n r S=BB8 m r S
 | 0,m,r,S,h,_=>absurd h (Nat.not_lt_zero _)
 | n,0,r,S,_,h=>absurd h (Nat.not_lt_zero _)
 | n+1,m+1,r,S,h1,h2=>by
  rw [BB8,BB8]
  cases e:plainF r S with
  | none=>rfl
  | some x =>
   obtain ⟨t,r',S'⟩:=x
   dsimp only
   have l1:=(mX e).2
   cases e2:closeF S' t r' with
   | none=>rfl
   | some y =>
    cases y with
    | inl y=>rfl
    | inr y =>
     have l2:=(iQ e2).2
     exact vJ (by omega) (by omega)
def after (S:List Fm)(t:Tr)(r:List Str):Option (Tr × List Str):=match closeF S t r with
 | none=>none
 | some (.inl x)=>some x
 | some (.inr (r2,S2))=>iP r2 S2
theorem iI (r:List Str)(S:List Fm):iP r S=match plainF r S with
  | none=>none
  | some (t,r',S')=>after S' t r':=by
 rw [iP,BB8]
 cases e:plainF r S with
 | none=>rfl
 | some x =>
  obtain ⟨t,r',S'⟩:=x
  dsimp only
  have l1:=(mX e).2
  rw [after]
  cases e2:closeF S' t r' with
  | none=>rfl
  | some y =>
   cases y with
   | inl y=>rfl
   | inr y =>
    have l2:=(iQ e2).2
    exact vJ (by omega) (Nat.lt_succ_self _)
def BT7:List Str->Prop
 | []=>True
 | w::_=>¬ aY w
theorem BD6 {us r:List Str}(h:∀ u∈us,aY u)(hr:BT7 r):(us++r).takeWhile (fun u=>decide (aY u))=us/\(us++r).dropWhile (fun u=>decide (aY u))=r:=by
 induction us with
 | nil =>
  cases r with
  | nil=>exact ⟨rfl,rfl⟩
  | cons w r =>
   have e:decide (aY w)=false:=decide_eq_false hr
   rw [List.nil_append,List.takeWhile_cons,List.dropWhile_cons,e]
   exact ⟨rfl,rfl⟩
 | cons u us ih =>
  have e:decide (aY u)=true:=decide_eq_true (h u List.mem_cons_self)
  obtain ⟨i1,i2⟩:=ih fun v hv=>h v (List.mem_cons_of_mem _ hv)
  rw [List.cons_append,List.takeWhile_cons,List.dropWhile_cons,e,if_pos rfl,if_pos rfl,i1,i2]
  exact ⟨rfl,rfl⟩
theorem tH (H:Hp):Same H H:=fun _ _ z=>z
def Out (M:List Addr)(H:Hp):Hp:=fun b=>if b∈M then none else H b
theorem jN {M:List Addr}{H:Hp}{b:Addr}{o:HO}(n:b ∉ M)(h:H b=some o):Out M H b=some o:=by
 unfold Out; rw [if_neg n]; exact h
theorem tI {M:List Addr}{H:Hp}:Same (Out M H) H:=fun b o h=>by
 unfold Out at h
 split at h
 ·cases h
 ·exact h
theorem kC {M M':List Addr}{H H':Hp}(h:∀ b o,b ∉ M->H b=some o->b ∉ M'/\H' b=some o):Same (Out M H) (Out M' H'):=fun b o e=>by
 unfold Out at e
 split at e
 ·cases e
 ·rename_i n
  exact jN (h b o n e).1 (h b o n e).2
theorem pE {M:List Addr}{H H':Hp}(S:Same H H'):Same (Out M H) (Out M H'):=kC fun b o n e=>⟨n,S b o e⟩
structure OF where
 r:Addr
 d:Addr
 il:Addr
 sg:Str
 vs:List V
 inn:List Tr
def OF.fm (f:OF):Fm:=⟨f.sg,f.inn⟩
def OF.app (f:OF)(v:V)(t:Tr):OF:={ f with vs:=f.vs++[v],inn:=f.inn++[t] }
def OF.sign (f:OF)(s:Str):OF:={ f with sg:=s }
def dH (wl:Addr)(i:Nat):List (Str × V):=[("words",.ref wl),("at",.int (i:Int))]
def jF (s:Str)(il:Addr):List (Str × V):=[("sign",.str s),("inner",.ref il)]
theorem vK {s:Str}{il wl:Addr}{i:Nat}:jF s il≠dH wl i:=fun z=>absurd (Prod.mk.inj (List.cons.inj z).1).1 (by decide)
def tJ (wp op:Addr)(fs:List OF):List Addr:=wp::op::(fs.map (·.r)++fs.map (·.il))
structure WAt (C:Addr) (H:Hp) (wp dw wl:Addr) (ts:List Str) (i:Nat):Prop where
 w:H wp=some (.ins C dw (dH wl i))
 l:H wl=some (.lst (ts.map V.str))
theorem WAt.same {C:Addr}{H H':Hp}{wp dw wl:Addr}{ts:List Str}{i:Nat}(h:WAt C H wp dw wl ts i)(S:Same H H'):WAt C H' wp dw wl ts i:=⟨S _ _ h.w,S _ _ h.l⟩
theorem WAt.ne {C:Addr}{H:Hp}{wp dw wl:Addr}{ts:List Str}{i:Nat}(h:WAt C H wp dw wl ts i):wl≠wp:=pF h.l h.w (by intro z; cases z)
theorem WAt.take {C:Addr}{H:Hp}{wp dw wl:Addr}{ts:List Str}{i:Nat}(h:WAt C H wp dw wl ts i)(j:Nat):WAt C (upd H wp (.ins C dw (dH wl j))) wp dw wl ts j:=⟨aA,by rw [aN h.ne]; exact h.l⟩
structure PSt (Cw Co:Addr) (c:FC) (H:Hp) (wp dw wl:Addr) (ts:List Str) (i:Nat) (op:Addr) (fs:List OF) (G:Hp):Prop where
 W:WAt Cw H wp dw wl ts i
 O:H op=some (.lst (fs.reverse.map fun f=>V.ref f.r))
 F:∀ f∈fs,H f.r=some (.ins Co f.d (jF f.sg f.il))/\H f.il=some (.lst f.vs)
 N:(wl::op::fs.map (·.il)).Nodup
 R:(fs.map (·.r)).Nodup
 T:∀ f∈fs,All2 (Tr.Fit c (Out (tJ wp op fs) H)) f.inn f.vs
 K:But wp G H
 Z:∀ b∈tJ wp op fs,b≠wp->G b=none
section
variable {Cw Co:Addr}{c:FC}{H H':Hp}{wp dw wl:Addr}{ts:List Str}{i:Nat}{op:Addr}{fs:List OF}{f:OF}{G:Hp}
theorem mem_muts {b:Addr}:b∈tJ wp op fs ↔ b=wp\/b=op\/(∃ f∈fs,f.r=b)\/∃ f∈fs,f.il=b:=by
 unfold tJ
 simp only [List.mem_cons,List.mem_append,List.mem_map]
theorem PSt.there (h:PSt Cw Co c H wp dw wl ts i op fs G){b:Addr}(hb:b∈tJ wp op fs):∃ o,H b=some o:=by
 rcases mem_muts.mp hb with rfl | rfl | ⟨f,hf,rfl⟩ | ⟨f,hf,rfl⟩
 ·exact ⟨_,h.W.w⟩
 ·exact ⟨_,h.O⟩
 ·exact ⟨_,(h.F f hf).1⟩
 ·exact ⟨_,(h.F f hf).2⟩
theorem PSt.new (h:PSt Cw Co c H wp dw wl ts i op fs G){b:Addr}(hb:H b=none):b ∉ tJ wp op fs:=fun z=>by
 obtain ⟨o,e⟩:=h.there z
 rw [hb] at e
 cases e
theorem PSt.same (h:PSt Cw Co c H wp dw wl ts i op fs G)(S:Same H H'):PSt Cw Co c H' wp dw wl ts i op fs G :=
 ⟨h.W.same S,S _ _ h.O,fun f hf=>⟨S _ _ (h.F f hf).1,S _ _ (h.F f hf).2⟩,h.N,h.R,fun f hf=>(h.T f hf).imp fun t v _ q=>q.same (pE S),h.K.trans (Same.but S),h.Z⟩
theorem PSt.words {j:Nat}(h:PSt Cw Co c H wp dw wl ts i op fs G)(B:But wp H H')(w':WAt Cw H' wp dw wl ts j):PSt Cw Co c H' wp dw wl ts j op fs G:=by
 have nw:∀ b o,H b=some o->o≠.ins Cw dw (dH wl i)->H' b=some o:=fun b o e n=>B b o (pF e h.W.w n) e
 refine ⟨w',nw _ _ h.O (by intro z; cases z),fun f hf=>⟨nw _ _ (h.F f hf).1 (fun z=>vK (HO.ins.inj z).2.2),nw _ _ (h.F f hf).2 (by intro z; cases z)⟩,h.N,h.R,fun f hf=>(h.T f hf).imp fun t v _ q=>q.same (kC fun b o n e=>⟨n,B b o (fun z=>n (by rw [z]; exact List.mem_cons_self)) e⟩),h.K.trans B,h.Z⟩
theorem PSt.take (h:PSt Cw Co c H wp dw wl ts i op fs G)(j:Nat):PSt Cw Co c (upd H wp (.ins Cw dw (dH wl j))) wp dw wl ts j op fs G:=h.words (But.upd _) (h.W.take j)
theorem PSt.ow (h:PSt Cw Co c H wp dw wl ts i op fs G):op≠wp/\op≠wl/\(∀ f∈fs,op≠f.il/\op≠f.r/\f.r≠wp/\f.r≠wl/\f.il≠wp/\f.il≠wl):=by
 obtain ⟨n1,n2⟩:=List.nodup_cons.mp h.N
 obtain ⟨n3,n4⟩:=List.nodup_cons.mp n2
 refine ⟨pF h.O h.W.w (by intro z; cases z),fun z=>n1 (by rw [z]; exact List.mem_cons_self),fun f hf=>⟨fun z=>n3 (by rw [z]; exact List.mem_map.mpr ⟨f,hf,rfl⟩),pF h.O (h.F f hf).1 (by intro z; cases z),pF (h.F f hf).1 h.W.w (fun z=>vK (HO.ins.inj z).2.2),pF (h.F f hf).1 h.W.l (by intro z; cases z),pF (h.F f hf).2 h.W.w (by intro z; cases z),fun z=>n1 (List.mem_cons_of_mem _ (by rw [<- z]; exact List.mem_map.mpr ⟨f,hf,rfl⟩))⟩⟩
theorem PSt.free (h:PSt Cw Co c H wp dw wl ts i op fs G){b:Addr}(hb:H b=none):G b=none:=by
 cases e:G b with
 | none=>rfl
 | some o =>
  have q:=h.K b o (fun z=>by rw [z,h.W.w] at hb; cases hb) e
  rw [hb] at q
  cases q
theorem PSt.kupd (h:PSt Cw Co c H wp dw wl ts i op fs G){p:Addr}{o:HO}(hp:p∈tJ wp op fs)(hn:p≠wp){H1:Hp}(S:Same H H1):But wp G (upd H1 p o):=fun b u n e=>by
 rw [aN (fun z=>by rw [z,h.Z p hp hn] at e; cases e)]
 exact S _ _ (h.K b u n e)
theorem PSt.push {H1:Hp}{r d il:Addr}{sg:Str}(h:PSt Cw Co c H wp dw wl ts i op fs G)(S:Same H H1)(hr:H r=none)(hil:H il=none)(h1:H1 r=some (.ins Co d (jF sg il)))(h2:H1 il=some (.lst [])) :
  PSt Cw Co c (upd H1 op (.lst ((fs.reverse.map fun f=>V.ref f.r)++[.ref r]))) wp dw wl ts i op (⟨r,d,il,sg,[],[]⟩::fs) G:=by
 obtain ⟨o1,o2,o3⟩:=h.ow
 have nr:∀ b,(∃ o,H b=some o)->b≠r/\b≠il:=fun b ⟨o,e⟩=>⟨aP e hr,aP e hil⟩
 have k:=h.same S
 have no:=nr op ⟨_,h.O⟩
 refine ⟨⟨by rw [aN o1.symm]; exact k.W.w,by rw [aN o2.symm]; exact k.W.l⟩,?_,fun f hf=>?_,?_,?_,fun f hf=>?_,h.kupd (mem_muts.mpr (.inr (.inl rfl))) o1 S,fun b hb hn=>?_⟩
 ·rw [aA,List.reverse_cons,List.map_append]; rfl
 ·rcases List.mem_cons.mp hf with rfl | hf
  ·exact ⟨by rw [aN no.1.symm]; exact h1,by rw [aN no.2.symm]; exact h2⟩
  ·exact ⟨by rw [aN (o3 f hf).2.1.symm]; exact (k.F f hf).1,by rw [aN (o3 f hf).1.symm]; exact (k.F f hf).2⟩
 ·obtain ⟨n1,n2⟩:=List.nodup_cons.mp h.N
  obtain ⟨n3,n4⟩:=List.nodup_cons.mp n2
  have nl:=nr wl ⟨_,h.W.l⟩
  rw [List.map_cons]
  refine List.nodup_cons.mpr ⟨?_,List.nodup_cons.mpr ⟨?_,List.nodup_cons.mpr ⟨?_,n4⟩⟩⟩
  ·intro z
   rcases List.mem_cons.mp z with z | z
   ·exact o2 z.symm
   rcases List.mem_cons.mp z with z | z
   ·exact nl.2 z
   ·exact n1 (List.mem_cons_of_mem _ z)
  ·intro z
   rcases List.mem_cons.mp z with z | z
   ·exact no.2 z
   ·exact n3 z
  ·intro z
   obtain ⟨f,hf,e⟩:=List.mem_map.mp z
   exact (nr f.il ⟨_,(h.F f hf).2⟩).2 e
 ·rw [List.map_cons]
  refine List.nodup_cons.mpr ⟨fun z=>?_,h.R⟩
  obtain ⟨f,hf,e⟩:=List.mem_map.mp z
  exact (nr f.r ⟨_,(h.F f hf).1⟩).1 e
 ·rcases List.mem_cons.mp hf with rfl | hf
  ·exact .nil
  ·refine (h.T f hf).imp fun t v _ q=>q.same (kC fun b o n e=>⟨fun z=>?_,?_⟩)
   ·rcases mem_muts.mp z with z | z | ⟨g,hg,z⟩ | ⟨g,hg,z⟩
    ·exact n (mem_muts.mpr (.inl z))
    ·exact n (mem_muts.mpr (.inr (.inl z)))
    ·rcases List.mem_cons.mp hg with rfl | hg
     ·exact (nr b ⟨_,e⟩).1 z.symm
     ·exact n (mem_muts.mpr (.inr (.inr (.inl ⟨g,hg,z⟩))))
    ·rcases List.mem_cons.mp hg with rfl | hg
     ·exact (nr b ⟨_,e⟩).2 z.symm
     ·exact n (mem_muts.mpr (.inr (.inr (.inr ⟨g,hg,z⟩))))
   ·rw [aN (fun z=>n (mem_muts.mpr (.inr (.inl z))))]
    exact S b o e
 ·rcases mem_muts.mp hb with z | z | ⟨g,hg,z⟩ | ⟨g,hg,z⟩
  ·exact absurd z hn
  ·exact h.Z b (mem_muts.mpr (.inr (.inl z))) hn
  ·rcases List.mem_cons.mp hg with rfl | hg
   ·rw [<- z]; exact h.free hr
   ·exact h.Z b (mem_muts.mpr (.inr (.inr (.inl ⟨g,hg,z⟩)))) hn
  ·rcases List.mem_cons.mp hg with rfl | hg
   ·rw [<- z]; exact h.free hil
   ·exact h.Z b (mem_muts.mpr (.inr (.inr (.inr ⟨g,hg,z⟩)))) hn
theorem AL0 {M:List Addr}{p:Addr}{o:HO}(h:p∈M):Same (Out M H) (Out M (upd H p o)):=kC fun b u n e=>⟨n,by rw [aN (fun z=>n (by rw [z]; exact h))]; exact e⟩
theorem AU4 (h:PSt Cw Co c H wp dw wl ts i op (f::fs) G):(∀ g∈fs,g.r≠f.r/\g.il≠f.il/\g.r≠f.il/\g.il≠f.r)/\f.r≠f.il:=by
 obtain ⟨n1,n2⟩:=List.nodup_cons.mp h.N
 obtain ⟨n3,n4⟩:=List.nodup_cons.mp n2
 rw [List.map_cons] at n4
 have n5:=(List.nodup_cons.mp n4).1
 have r5:=h.R
 rw [List.map_cons] at r5
 have r6:=(List.nodup_cons.mp r5).1
 have hf:=h.F f List.mem_cons_self
 refine ⟨fun g hg=>?_,pF hf.1 hf.2 (by intro z; cases z)⟩
 have hG:=h.F g (List.mem_cons_of_mem _ hg)
 exact ⟨fun z=>r6 (by rw [<- z]; exact List.mem_map.mpr ⟨g,hg,rfl⟩),fun z=>n5 (by rw [<- z]; exact List.mem_map.mpr ⟨g,hg,rfl⟩),pF hG.1 hf.2 (by intro z; cases z),pF hG.2 hf.1 (by intro z; cases z)⟩
theorem PSt.inner {v:V}{t:Tr}(h:PSt Cw Co c H wp dw wl ts i op (f::fs) G)(hv:Tr.Fit c (Out (tJ wp op (f::fs)) H) t v):PSt Cw Co c (upd H f.il (.lst (f.vs++[v]))) wp dw wl ts i op (f.app v t::fs) G:=by
 obtain ⟨o1,o2,o3⟩:=h.ow
 obtain ⟨t1,t2⟩:=AU4 h
 obtain ⟨p1,p2,p3,p4,p5,p6⟩:=o3 f List.mem_cons_self
 have mi:f.il∈tJ wp op (f::fs):=mem_muts.mpr (.inr (.inr (.inr ⟨f,List.mem_cons_self,rfl⟩)))
 have So:=AL0 (H:=H) (o:=.lst (f.vs++[v])) mi
 refine ⟨⟨by rw [aN p5.symm]; exact h.W.w,by rw [aN p6.symm]; exact h.W.l⟩,by rw [aN p1]; have e:=h.O; rw [List.reverse_cons,List.map_append] at e ⊢; exact e,fun g hg=>?_,h.N,h.R,fun g hg=>?_,h.kupd mi p5 (tH _),h.Z⟩
 ·rcases List.mem_cons.mp hg with rfl | hg
  ·exact ⟨by rw [show (f.app v t).r=f.r from rfl,aN t2]; exact (h.F f List.mem_cons_self).1,aA⟩
  ·have q:=t1 g hg
   have k:=h.F g (List.mem_cons_of_mem _ hg)
   exact ⟨by rw [aN q.2.2.1]; exact k.1,by rw [aN q.2.1]; exact k.2⟩
 ·rcases List.mem_cons.mp hg with rfl | hg
  ·exact ((h.T f List.mem_cons_self).imp fun t v _ q=>q.same So).snoc (hv.same So)
  ·exact (h.T g (List.mem_cons_of_mem _ hg)).imp fun t v _ q=>q.same So
theorem PSt.sign {s:Str}(h:PSt Cw Co c H wp dw wl ts i op (f::fs) G):PSt Cw Co c (upd H f.r (.ins Co f.d (jF s f.il))) wp dw wl ts i op (f.sign s::fs) G:=by
 obtain ⟨o1,o2,o3⟩:=h.ow
 obtain ⟨t1,t2⟩:=AU4 h
 obtain ⟨p1,p2,p3,p4,p5,p6⟩:=o3 f List.mem_cons_self
 have mi:f.r∈tJ wp op (f::fs):=mem_muts.mpr (.inr (.inr (.inl ⟨f,List.mem_cons_self,rfl⟩)))
 have So:=AL0 (H:=H) (o:=.ins Co f.d (jF s f.il)) mi
 refine ⟨⟨by rw [aN p3.symm]; exact h.W.w,by rw [aN p4.symm]; exact h.W.l⟩,by rw [aN p2]; have e:=h.O; rw [List.reverse_cons,List.map_append] at e ⊢; exact e,fun g hg=>?_,h.N,h.R,fun g hg=>?_,h.kupd mi p3 (tH _),h.Z⟩
 ·rcases List.mem_cons.mp hg with rfl | hg
  ·exact ⟨aA,by rw [show (f.sign s).il=f.il from rfl,aN t2.symm]; exact (h.F f List.mem_cons_self).2⟩
  ·have q:=t1 g hg
   have k:=h.F g (List.mem_cons_of_mem _ hg)
   exact ⟨by rw [aN q.1]; exact k.1,by rw [aN q.2.2.2]; exact k.2⟩
 ·rcases List.mem_cons.mp hg with rfl | hg
  ·exact (h.T f List.mem_cons_self).imp fun t v _ q=>q.same So
  ·exact (h.T g (List.mem_cons_of_mem _ hg)).imp fun t v _ q=>q.same So
theorem AA1 (h:PSt Cw Co c H wp dw wl ts i op (f::fs) G):Same (Out (tJ wp op (f::fs)) H) (Out (tJ wp op fs) (upd H op (.lst (fs.reverse.map fun f=>V.ref f.r)))) :=
 kC fun b o n e=>⟨fun z=>n (mem_muts.mpr (by
  rcases mem_muts.mp z with z | z | ⟨g,hg,z⟩ | ⟨g,hg,z⟩
  ·exact .inl z
  ·exact .inr (.inl z)
  ·exact .inr (.inr (.inl ⟨g,List.mem_cons_of_mem _ hg,z⟩))
  ·exact .inr (.inr (.inr ⟨g,List.mem_cons_of_mem _ hg,z⟩)))),by rw [aN (fun z=>n (mem_muts.mpr (.inr (.inl z))))]; exact e⟩
theorem PSt.pop (h:PSt Cw Co c H wp dw wl ts i op (f::fs) G):PSt Cw Co c (upd H op (.lst (fs.reverse.map fun f=>V.ref f.r))) wp dw wl ts i op fs G:=by
 obtain ⟨o1,o2,o3⟩:=h.ow
 refine ⟨⟨by rw [aN o1.symm]; exact h.W.w,by rw [aN o2.symm]; exact h.W.l⟩,aA,fun g hg=>?_,?_,?_,fun g hg=>(h.T g (List.mem_cons_of_mem _ hg)).imp fun t v _ q=>q.same (AA1 h),h.kupd (mem_muts.mpr (.inr (.inl rfl))) o1 (tH _),fun b hb hn=>h.Z b (mem_muts.mpr (by
  rcases mem_muts.mp hb with z | z | ⟨g,hg,z⟩ | ⟨g,hg,z⟩
  ·exact .inl z
  ·exact .inr (.inl z)
  ·exact .inr (.inr (.inl ⟨g,List.mem_cons_of_mem _ hg,z⟩))
  ·exact .inr (.inr (.inr ⟨g,List.mem_cons_of_mem _ hg,z⟩)))) hn⟩
 ·have k:=h.F g (List.mem_cons_of_mem _ hg)
  have q:=o3 g (List.mem_cons_of_mem _ hg)
  exact ⟨by rw [aN q.2.1.symm]; exact k.1,by rw [aN q.1.symm]; exact k.2⟩
 ·have n:=h.N
  rw [List.map_cons] at n
  obtain ⟨n1,n2⟩:=List.nodup_cons.mp n
  obtain ⟨n3,n4⟩:=List.nodup_cons.mp n2
  refine List.nodup_cons.mpr ⟨fun z=>n1 ?_,List.nodup_cons.mpr ⟨fun z=>n3 (List.mem_cons_of_mem _ z),(List.nodup_cons.mp n4).2⟩⟩
  rcases List.mem_cons.mp z with z | z
  ·exact List.mem_cons.mpr (.inl z)
  ·exact List.mem_cons_of_mem _ (List.mem_cons_of_mem _ z)
 ·have r:=h.R
  rw [List.map_cons] at r
  exact (List.nodup_cons.mp r).2
end
def lW (u:Str):Prop:=hV u=true/\u.length<=100/\(pC u=true->∃ n,PySem.intText? u=some n)
def tokG (u:Str):Prop:=32 ∉ u.cps.toList/\10 ∉ u.cps.toList/\u.length<=20/\lW u
instance (u:Str):Decidable (32 ∉ u.cps.toList):=inferInstance
theorem AU5 {u:Str}{c:Nat}(hc:c∈u.cps.toList)(h:¬ (48<=c/\c<=57)):mS u=false:=by
 unfold mS
 rw [decide_eq_false fun z=>h (z.2.2 c hc)]
 rfl
theorem BI5 {u:Str}{c:Nat}(hc:u.cps.toList.head?=some c)(h:¬ (48<=c/\c<=57))(h2:c≠45):pC u=false:=by
 unfold pC
 have e:Txt.startswith u "-"=false:=by
  show Txt.startswith u ⟨#[45]⟩=false
  rw [iO,hc]
  exact decide_eq_false fun z=>h2 (Option.some.inj z)
 rw [e,if_neg (by decide)]
 refine AU5 (c:=c) ?_ h
 cases q:u.cps.toList with
 | nil=>rw [q] at hc; cases hc
 | cons a l=>rw [q] at hc; rw [<- Option.some.inj hc]; exact List.mem_cons_self
theorem AA2 {u:Str}(g:aY u):pC u=false:=by
 cases q:u.cps.toList with
 | nil =>
  have h:=g.1
  have e:u.length=u.cps.toList.length:=by simp [Str.length]
  rw [e,q] at h
  exact absurd h (by decide)
 | cons a l =>
  have r:=g.2.2 a (by rw [q]; exact List.mem_cons_self)
  exact BI5 (c:=a) (by rw [q]; rfl) (by omega) (by omega)
theorem AQ6 {u:Str}(g:aY u):tokG u:=by
 refine ⟨fun z=>?_,fun z=>?_,by have:=g.2.1; omega,(sQ g).1,(sQ g).2,fun z=>?_⟩
 ·have:=g.2.2 32 z; omega
 ·have:=g.2.2 10 z; omega
 ·rw [AA2 g] at z; cases z
theorem BB9 {n:Int}(h0:0<=n)(h1:n < 1000000):tokG (kW n):=by
 have hd:=tG h0
 have hl:=xS h0 h1
 refine ⟨fun z=>?_,fun z=>?_,by omega,?_,by omega,fun _=>⟨n,(AA0 h0 h1).2.1⟩⟩
 ·have:=hd 32 z; omega
 ·have:=hd 10 z; omega
 ·rw [plain_iff]
  intro c hc
  have:=hd c hc
  omega
theorem tok_open:tokG "(":=⟨by decide +kernel,by decide +kernel,by decide +kernel,by decide +kernel,by decide +kernel,fun z=>absurd z (by decide +kernel)⟩
theorem tok_shut:tokG ")":=⟨by decide +kernel,by decide +kernel,by decide +kernel,by decide +kernel,by decide +kernel,fun z=>absurd z (by decide +kernel)⟩
theorem tok_and:tokG "&":=⟨by decide +kernel,by decide +kernel,by decide +kernel,by decide +kernel,by decide +kernel,fun z=>absurd z (by decide +kernel)⟩
theorem tok_or:tokG "|":=⟨by decide +kernel,by decide +kernel,by decide +kernel,by decide +kernel,by decide +kernel,fun z=>absurd z (by decide +kernel)⟩
theorem AA3:tokG "":=⟨by decide +kernel,by decide +kernel,by decide +kernel,by decide +kernel,by decide +kernel,fun z=>absurd z (by decide +kernel)⟩
theorem all_cons {p:Str->Prop}{a:Str}{l:List Str}(h:p a)(k:∀ x∈l,p x):∀ x∈a::l,p x:=fun x hx=>by
 rcases List.mem_cons.mp hx with rfl | hx
 ·exact h
 ·exact k x hx
theorem fC {p:Str->Prop}{l m:List Str}(h:∀ x∈l,p x)(k:∀ x∈m,p x):∀ x∈l++m,p x:=fun x hx=>(List.mem_append.mp hx).elim (h x) (k x)
theorem jG {p:Str->Prop}:∀ x∈([]:List Str),p x:=fun x hx=>by cases hx
def BD7 (u:Str):Prop:=u.length<=200000/\(Txt.split u sp1).length<=1000/\∀ x∈Txt.split u sp1,lW x
theorem AU6 {k:Nat}:∀ {ws:List Str},(∀ x∈ws,x.length<=k)->(ws.map (·.length)).sum<=ws.length * k
 | [],_=>Nat.zero_le _
 | a::l,h=>by
  have h1:=h a List.mem_cons_self
  have h2:=AU6 (ws:=l) fun x hx=>h x (List.mem_cons_of_mem _ hx)
  rw [List.map_cons,List.sum_cons,List.length_cons,Nat.succ_mul]
  omega
theorem AL1 {s:Str}{ts:List Str}(h:(ts.map (·.length)).sum+ts.length * s.length<=sizeLine):JoinOk s ts=true:=by
 unfold JoinOk
 rw [StrLaws.joinTotal]
 unfold Builtin.Str.tooLong
 rw [decide_eq_false (by omega)]
 rfl
theorem szM {n:Nat}(h:n<=1000000):n<=sizeLine:=Nat.le_trans h (by decide)
theorem fD {ts:List Str}{i:Nat}(h:i < ts.length):ts.drop i=ts.getD i ""::ts.drop (i+1):=by
 rw [List.drop_eq_getElem_cons h,List.getD_eq_getElem?_getD,List.getElem?_eq_getElem h]
 rfl
theorem gQ {ts:List Str}{i:Nat}(h:ts.length<=i):ts.getD i ""=""/\ts.drop i=[]:=by
 rw [List.getD_eq_getElem?_getD,List.getElem?_eq_none h]
 exact ⟨rfl,List.drop_eq_nil_of_le h⟩
theorem AA4 {ts:List Str}(h:∀ x∈ts,lW x)(i:Nat):lW (ts.getD i ""):=by
 by_cases c:i < ts.length
 ·rw [List.getD_eq_getElem?_getD,List.getElem?_eq_getElem c]
  exact h _ (List.getElem_mem c)
 ·rw [(gQ (by omega)).1]
  exact AA3.2.2.2
def BP4:R2:=fun x y H Q=>∃ u n,x=.str u/\y=.int n/\1<=n/\1<=u.length/\u.length * n.toNat<=sizeLine/\Q (.str ⟨(List.replicate n.toNat u.cps).foldl (·++·) #[]⟩) H
theorem tK {x:V}{xs:List V}{H:Hp}{Q:VK}:AK6 x xs H Q=∃ u y,x=.str u/\xs=[.str y]/\Q (.bl (Txt.startswith u y)) H:=rfl
theorem xT {x:V}{xs:List V}{H:Hp}{Q:VK}:AU2 x xs H Q=∃ u y,x=.str u/\xs=[.str y]/\(y.length == 0)=false/\u.length+2<=sizeLine/\(Txt.split u y).length<=sizeLine/\∀ l,H l=none->Q (.ref l) (upd H l (.lst ((Txt.split u y).map V.str))):=rfl
theorem AL2 {x y:V}{H:Hp}{Q:VK}:BP4 x y H Q=∃ u n,x=.str u/\y=.int n/\1<=n/\1<=u.length/\u.length * n.toNat<=sizeLine/\Q (.str ⟨(List.replicate n.toNat u.cps).foldl (·++·) #[]⟩) H:=rfl
mutual
theorem pW:∀ {t:Tr},t.wf->1<=t.cnt/\t.ws.length+1<=(3+t.dp) * t.cnt
 | .any,_=>by rw [Tr.cnt,Tr.ws,Tr.dp]; exact ⟨by decide,by decide⟩
 | .kind us,h=>by
  rw [Tr.wf] at h
  have:=List.length_pos_iff.mpr h.1
  rw [Tr.cnt,Tr.ws,Tr.dp,List.length_cons]
  omega
 | .place us,h=>by
  rw [Tr.wf] at h
  have:=List.length_pos_iff.mpr h.1
  rw [Tr.cnt,Tr.ws,Tr.dp,List.length_cons]
  omega
 | .weight n,_=>by rw [Tr.cnt,Tr.ws,Tr.dp]; exact ⟨by decide,by show 2+1<=_; omega⟩
 | .not t,h=>by
  rw [Tr.wf] at h
  obtain ⟨i1,i2⟩:=pW h
  rw [Tr.cnt,Tr.ws,Tr.dp,List.length_cons]
  refine ⟨i1,?_⟩
  have e:(3+(t.dp+1)) * t.cnt=(3+t.dp) * t.cnt+t.cnt:=by rw [<- Nat.add_assoc,Nat.succ_mul]
  omega
 | .both ts,h=>by
  rw [Tr.wf] at h
  obtain ⟨i1,i2⟩:=wss_len3 "&" h.2 (AC5 h.1)
  have h1:=h.1
  rw [Tr.cnt,Tr.ws,Tr.dp,List.length_cons,List.length_append,List.length_singleton]
  refine ⟨by omega,?_⟩
  have e:(3+(ts.dp+1)) * ts.cnt=(3+ts.dp) * ts.cnt+ts.cnt:=by rw [<- Nat.add_assoc,Nat.succ_mul]
  omega
 | .either ts,h=>by
  rw [Tr.wf] at h
  obtain ⟨i1,i2⟩:=wss_len3 "|" h.2 (AC5 h.1)
  have h1:=h.1
  rw [Tr.cnt,Tr.ws,Tr.dp,List.length_cons,List.length_append,List.length_singleton]
  refine ⟨by omega,?_⟩
  have e:(3+(ts.dp+1)) * ts.cnt=(3+ts.dp) * ts.cnt+ts.cnt:=by rw [<- Nat.add_assoc,Nat.succ_mul]
  omega
theorem wss_len3 (s:Str):∀ {ts:Trs},ts.wf->ts.toL≠[]->ts.toL.length<=ts.cnt/\(ts.ws s).length+1<=(3+ts.dp) * ts.cnt
 | .nil,_,h=>absurd rfl h
 | .cons t .nil,h,_=>by
  rw [Trs.wf] at h
  obtain ⟨i1,i2⟩:=pW h.1
  have e1:(Trs.cons t .nil).dp=t.dp:=by rw [Trs.dp,Trs.dp]; exact Nat.max_eq_left (Nat.zero_le _)
  have e2:(Trs.cons t .nil).cnt=t.cnt:=by rw [Trs.cnt,Trs.cnt]; rfl
  have e3:(Trs.cons t .nil).toL.length=1:=rfl
  rw [kN,e1,e2,e3]
  omega
 | .cons t (.cons t' ts),h,_=>by
  rw [Trs.wf] at h
  obtain ⟨i1,i2⟩:=pW h.1
  obtain ⟨j1,j2⟩:=wss_len3 s (ts:=.cons t' ts) h.2 (by rw [Trs.toL]; simp)
  have e1:(Trs.cons t (.cons t' ts)).dp=max t.dp (Trs.cons t' ts).dp:=by rw [Trs.dp]
  have e2:(Trs.cons t (.cons t' ts)).cnt=t.cnt+(Trs.cons t' ts).cnt:=by rw [Trs.cnt]
  have e3:(Trs.cons t (.cons t' ts)).toL.length=(Trs.cons t' ts).toL.length+1:=rfl
  rw [iH,e1,e2,e3,List.length_append,List.length_cons,Nat.mul_add (3+max t.dp (Trs.cons t' ts).dp)]
  have m1:(3+t.dp) * t.cnt<=(3+max t.dp (Trs.cons t' ts).dp) * t.cnt:=Nat.mul_le_mul_right _ (by have:=Nat.le_max_left t.dp (Trs.cons t' ts).dp; omega)
  have m2:(3+(Trs.cons t' ts).dp) * (Trs.cons t' ts).cnt<=(3+max t.dp (Trs.cons t' ts).dp) * (Trs.cons t' ts).cnt:=Nat.mul_le_mul_right _ (by have:=Nat.le_max_right t.dp (Trs.cons t' ts).dp; omega)
  refine ⟨by omega,?_⟩
  generalize (3+max t.dp (Trs.cons t' ts).dp) * t.cnt=x at *
  generalize (3+max t.dp (Trs.cons t' ts).dp) * (Trs.cons t' ts).cnt=y at *
  generalize (3+t.dp) * t.cnt=x' at *
  generalize (3+(Trs.cons t' ts).dp) * (Trs.cons t' ts).cnt=y' at *
  omega
end
theorem xU {s:Str}{t:Tr}:∀ {ts:Trs},t∈ts.toL->t.ws.length<=(ts.ws s).length
 | .nil,h=>by cases h
 | .cons u .nil,h=>by
  rw [kN]
  rcases List.mem_cons.mp h with rfl | h
  ·exact Nat.le_refl _
  ·cases h
 | .cons u (.cons u' ts),h=>by
  rw [iH,List.length_append,List.length_cons]
  rcases List.mem_cons.mp h with rfl | h
  ·omega
  ·have:=xU (s:=s) (ts:=.cons u' ts) h
   omega
theorem tL {s:Str}:∀ {ts:Trs},ts.toL.length<=(ts.ws s).length
 | .nil=>Nat.zero_le _
 | .cons u .nil=>by rw [kN]; exact List.length_pos_iff.mpr (oE u)
 | .cons u (.cons u' ts)=>by
  have:=tL (s:=s) (ts:=.cons u' ts)
  have q:=List.length_pos_iff.mpr (oE u)
  have e:(Trs.cons u (.cons u' ts)).toL.length=(Trs.cons u' ts).toL.length+1:=rfl
  rw [iH,List.length_append,List.length_cons,e]
  omega
mutual
theorem AQ7:∀ t:Tr,t.dp+1<=t.ws.length
 | .any=>by rw [Tr.dp,Tr.ws]; decide
 | .kind us=>by rw [Tr.dp,Tr.ws,List.length_cons]; omega
 | .place us=>by rw [Tr.dp,Tr.ws,List.length_cons]; omega
 | .weight n=>by rw [Tr.dp,Tr.ws]; show 1<=2; decide
 | .not t=>by
  have:=AQ7 t
  rw [Tr.dp,Tr.ws,List.length_cons]
  omega
 | .both ts=>by
  have:=dps_ws "&" ts
  rw [Tr.dp,Tr.ws,List.length_cons,List.length_append,List.length_singleton]
  omega
 | .either ts=>by
  have:=dps_ws "|" ts
  rw [Tr.dp,Tr.ws,List.length_cons,List.length_append,List.length_singleton]
  omega
theorem dps_ws (s:Str):∀ ts:Trs,ts.dp<=(ts.ws s).length
 | .nil=>by rw [Trs.dp]; exact Nat.zero_le _
 | .cons t .nil=>by
  have:=AQ7 t
  rw [kN,Trs.dp,Trs.dp]
  omega
 | .cons t (.cons t' ts)=>by
  have:=AQ7 t
  have q:=dps_ws s (.cons t' ts)
  rw [iH,Trs.dp,List.length_append,List.length_cons]
  omega
end
def cb (ws:List Str):Nat:=(ws.filter fun w:Str=>decide (w="("\/w="not")).length
theorem dY (a b:List Str):cb (a++b)=cb a+cb b:=by unfold cb; rw [List.filter_append,List.length_append]
theorem BI6 {w:Str}(h:w="("\/w="not")(r:List Str):cb (w::r)=1+cb r:=by
 rw [<- List.singleton_append,dY]
 rcases h with rfl | rfl <;> rfl
theorem rX (a:List Str):cb a<=a.length:=List.length_filter_le _ _
theorem AL3 (w:Str):cb [w]<=1:=rX [w]
theorem BI7 {a b:List Str}(h:a.Sublist b):cb a<=cb b:=(h.filter _).length_le
theorem pX {ts:List Str}{i k:Nat}(h:i<=k):cb (ts.drop k)<=cb (ts.drop i):=by
 have e:ts.drop k=(ts.drop i).drop (k - i):=by rw [List.drop_drop]; congr 1; omega
 rw [e]
 exact BI7 (List.drop_sublist _ _)
theorem rY (ts:List Str)(k:Nat):cb (ts.take k)+cb (ts.drop k)=cb ts:=by rw [<- dY,List.take_append_drop]
theorem AU7 (ts:List Str)(k:Nat)(u:Str):cb (ts.set k u)<=cb ts+1:=by
 by_cases h:k < ts.length
 ·have e:ts.set k u=ts.take k++([u]++ts.drop (k+1)):=by rw [List.set_eq_take_append_cons_drop,if_pos h]; rfl
  have m:=pX (ts:=ts) (show k<=k+1 by omega)
  have c:=rY ts k
  have o:=AL3 u
  rw [e,dY,dY]
  omega
 ·rw [List.set_eq_of_length_le (by omega)]
  omega
mutual
theorem AQ8:∀ {t:Tr},t.wf->cb t.ws<=(1+t.dp) * t.cnt
 | .any,_=>by rw [Tr.cnt,Tr.ws,Tr.dp]; decide
 | .kind us,h=>by
  have e:cb (("kind":Str)::us)=cb us:=rfl
  have:=rX us
  rw [Tr.cnt,Tr.ws,Tr.dp,e]
  omega
 | .place us,h=>by
  have e:cb (("place":Str)::us)=cb us:=rfl
  have:=rX us
  rw [Tr.cnt,Tr.ws,Tr.dp,e]
  omega
 | .weight n,h=>by
  rw [Tr.wf] at h
  have e:cb [("weight":Str),kW n]=cb [kW n]:=rfl
  have:=AL3 (kW n)
  rw [Tr.cnt,Tr.ws,Tr.dp,e]
  omega
 | .not t,h=>by
  rw [Tr.wf] at h
  have i1:=(pW h).1
  have i2:=AQ8 h
  have e:cb (("not":Str)::t.ws)=1+cb t.ws:=by rw [<- List.singleton_append,dY]; rfl
  have e2:(1+(t.dp+1)) * t.cnt=(1+t.dp) * t.cnt+t.cnt:=by rw [<- Nat.add_assoc,Nat.succ_mul]
  rw [Tr.cnt,Tr.ws,Tr.dp,e]
  omega
 | .both ts,h=>by
  rw [Tr.wf] at h
  have i1:=(wss_len3 "&" h.2 (AC5 h.1)).1
  have i2:=cbs_ws "&" rfl h.2
  have h1:=h.1
  have e:cb (("(":Str)::(ts.ws "&"++[(")":Str)]))=1+cb (ts.ws "&"):=by rw [<- List.singleton_append,dY,dY]; rfl
  have e2:(1+(ts.dp+1)) * ts.cnt=(1+ts.dp) * ts.cnt+ts.cnt:=by rw [<- Nat.add_assoc,Nat.succ_mul]
  rw [Tr.cnt,Tr.ws,Tr.dp,e]
  omega
 | .either ts,h=>by
  rw [Tr.wf] at h
  have i1:=(wss_len3 "|" h.2 (AC5 h.1)).1
  have i2:=cbs_ws "|" rfl h.2
  have h1:=h.1
  have e:cb (("(":Str)::(ts.ws "|"++[(")":Str)]))=1+cb (ts.ws "|"):=by rw [<- List.singleton_append,dY,dY]; rfl
  have e2:(1+(ts.dp+1)) * ts.cnt=(1+ts.dp) * ts.cnt+ts.cnt:=by rw [<- Nat.add_assoc,Nat.succ_mul]
  rw [Tr.cnt,Tr.ws,Tr.dp,e]
  omega
theorem cbs_ws (s:Str)(hs:cb [s]=0):∀ {ts:Trs},ts.wf->cb (ts.ws s)<=(1+ts.dp) * ts.cnt
 | .nil,_=>by rw [Trs.ws]; exact Nat.zero_le _
 | .cons t .nil,h=>by
  rw [Trs.wf] at h
  have i2:=AQ8 h.1
  have e1:(Trs.cons t .nil).dp=t.dp:=by rw [Trs.dp,Trs.dp]; exact Nat.max_eq_left (Nat.zero_le _)
  have e2:(Trs.cons t .nil).cnt=t.cnt:=by rw [Trs.cnt,Trs.cnt]; rfl
  rw [kN,e1,e2]
  exact i2
 | .cons t (.cons t' ts),h=>by
  rw [Trs.wf] at h
  have i2:=AQ8 h.1
  have j2:=cbs_ws s hs (ts:=.cons t' ts) h.2
  have e1:(Trs.cons t (.cons t' ts)).dp=max t.dp (Trs.cons t' ts).dp:=by rw [Trs.dp]
  have e2:(Trs.cons t (.cons t' ts)).cnt=t.cnt+(Trs.cons t' ts).cnt:=by rw [Trs.cnt]
  have e3:cb (t.ws++s::Trs.ws s (.cons t' ts))=cb t.ws+cb (Trs.ws s (.cons t' ts)):=by rw [dY,<- List.singleton_append,dY,hs,Nat.zero_add]
  rw [iH,e1,e2,e3,Nat.mul_add (1+max t.dp (Trs.cons t' ts).dp)]
  have m1:(1+t.dp) * t.cnt<=(1+max t.dp (Trs.cons t' ts).dp) * t.cnt:=Nat.mul_le_mul_right _ (by have:=Nat.le_max_left t.dp (Trs.cons t' ts).dp; omega)
  have m2:(1+(Trs.cons t' ts).dp) * (Trs.cons t' ts).cnt<=(1+max t.dp (Trs.cons t' ts).dp) * (Trs.cons t' ts).cnt:=Nat.mul_le_mul_right _ (by have:=Nat.le_max_right t.dp (Trs.cons t' ts).dp; omega)
  exact Nat.add_le_add (Nat.le_trans i2 m1) (Nat.le_trans j2 m2)
end
def BP5 (u:Str):Prop:=32 ∉ u.cps.toList/\u.length<=30/\lW u
theorem tokG.h {u:Str}(h:tokG u):BP5 u:=⟨h.1,by have:=h.2.2.1; omega,h.2.2.2⟩
def wOk (x:Str):Prop:=BP5 x/\((pC x=true/\0<=pD x) ↔ mS x=true)/\(mS x=true->0<=pD x/\pD x < 1000000/\kW (pD x)=x)
theorem wOk.no {x:Str}(h:BP5 x)(n:pC x=false)(f:mS x=false):wOk x:=⟨h,by rw [n,f]; exact ⟨fun z=>absurd z.1 (by decide),fun z=>absurd z (by decide)⟩,fun z=>by rw [f] at z; cases z⟩
theorem AQ9 {u:Str}(g:aY u):mS u=false:=by
 cases q:u.cps.toList with
 | nil =>
  have h:=g.1
  have e:u.length=u.cps.toList.length:=by simp [Str.length]
  rw [e,q] at h
  exact absurd h (by decide)
 | cons a l =>
  have r:=g.2.2 a (by rw [q]; exact List.mem_cons_self)
  exact AU5 (c:=a) (by rw [q]; exact List.mem_cons_self) (by omega)
theorem wOk.name {u:Str}(g:aY u):wOk u:=.no (AQ6 g).h (AA2 g) (AQ9 g)
theorem wOk.num {n:Int}(h0:0<=n)(h1:n < 1000000):wOk (kW n):=by
 obtain ⟨e1,e2,e3⟩:=AA0 h0 h1
 have hd:=tG h0
 have l1:=(xS h0 h1).1
 have ns:Txt.startswith (kW n) "-"=false:=by
  show Txt.startswith (kW n) ⟨#[45]⟩=false
  rw [iO]
  refine decide_eq_false fun h=>?_
  cases q:(kW n).cps.toList with
  | nil=>rw [q] at h; cases h
  | cons a l =>
   have:=hd a (by rw [q]; exact List.mem_cons_self)
   rw [q] at h
   simp at h
   omega
 have ef:mS (kW n)=true:=by
  have z:=e1
  unfold pC at z
  rw [ns,if_neg (by decide)] at z
  exact z
 refine ⟨(BB9 h0 h1).h,?_,fun _=>?_⟩
 ·rw [e1,ef,e3]
  exact ⟨fun _=>rfl,fun _=>⟨rfl,h0⟩⟩
 ·rw [e3]
  exact ⟨h0,h1,rfl⟩
mutual
theorem vL:∀ {t:Tr},t.wf->∀ x∈t.ws,wOk x
 | .any,_=>by rw [Tr.ws]; exact all_cons (.name (by decide)) jG
 | .kind us,h=>by rw [Tr.wf] at h; rw [Tr.ws]; exact all_cons (.name (by decide)) fun x hx=>.name (h.2.1 x hx)
 | .place us,h=>by rw [Tr.wf] at h; rw [Tr.ws]; exact all_cons (.name (by decide)) fun x hx=>.name (h.2.1 x hx)
 | .weight n,h=>by rw [Tr.wf] at h; rw [Tr.ws]; exact all_cons (.name (by decide)) (all_cons (.num h.1 h.2) jG)
 | .not t,h=>by rw [Tr.wf] at h; rw [Tr.ws]; exact all_cons (.name (by decide)) (vL h)
 | .both ts,h=>by rw [Tr.wf] at h; rw [Tr.ws]; exact all_cons (.no tok_open.h (by decide +kernel) (by decide +kernel)) (fC (wss_wok (.no tok_and.h (by decide +kernel) (by decide +kernel)) h.2) (all_cons (.no tok_shut.h (by decide +kernel) (by decide +kernel)) jG))
 | .either ts,h=>by rw [Tr.wf] at h; rw [Tr.ws]; exact all_cons (.no tok_open.h (by decide +kernel) (by decide +kernel)) (fC (wss_wok (.no tok_or.h (by decide +kernel) (by decide +kernel)) h.2) (all_cons (.no tok_shut.h (by decide +kernel) (by decide +kernel)) jG))
theorem wss_wok {s:Str}(hs:wOk s):∀ {ts:Trs},ts.wf->∀ x∈ts.ws s,wOk x
 | .nil,_=>by rw [Trs.ws]; exact jG
 | .cons t .nil,h=>by rw [Trs.wf] at h; rw [kN]; exact vL h.1
 | .cons t (.cons t' ts),h=>by rw [Trs.wf] at h; rw [iH]; exact fC (vL h.1) (all_cons hs (wss_wok hs h.2))
end
def words30:List Str:=["(",")","&","|","any","kind","place","weight","not","a","fire","0","7","999999","-1","-0","05","+5","5.0","Any","kinds","abcdefghi","a1","a-b","",":",";","(any","any)","&&"]
def BP6 (x:Str):Bool:=decide (32 ∉ x.cps.toList) && decide (x.length<=30) && hV x && (if pC x=true then (PySem.intText? x).isSome else true) && ((pC x && decide (0<=pD x)) == mS x) && (if mS x=true then decide (0<=pD x) && decide (pD x < 1000000) && decide (kW (pD x)=x) else true)
theorem BC0 {x:Str}(h:BP6 x=true):wOk x:=by
 unfold BP6 at h
 simp only [Bool.and_eq_true,decide_eq_true_eq,beq_iff_eq] at h
 obtain ⟨⟨⟨⟨⟨h1,h2⟩,h3⟩,h4⟩,h5⟩,h6⟩:=h
 refine ⟨⟨h1,h2,h3,by omega,fun z=>?_⟩,?_,fun z=>?_⟩
 ·rw [if_pos z] at h4
  exact Option.isSome_iff_exists.mp h4
 ·rw [<- h5,Bool.and_eq_true,decide_eq_true_eq]
 ·rw [if_pos z] at h6
  simp only [Bool.and_eq_true,decide_eq_true_eq] at h6
  exact ⟨h6.1.1,h6.1.2,h6.2⟩
theorem AC6:∀ x∈words30,wOk x:=by
 have q:words30.all BP6=true:=by decide +kernel
 exact fun x hx=>BC0 (List.all_eq_true.mp q x hx)
theorem BC1 (S:List Fm):iP [] S=none:=by rw [iI]; rfl
theorem BC2 (r:List Str)(S:List Fm):iP (("any":Str)::r) S=after S .any r:=by rw [iI]; rfl
theorem AA5 {w:Str}(r:List Str)(S:List Fm)(h:w="not"\/w="("):iP (w::r) S=iP r (⟨w,[]⟩::S):=by rw [iI,iI,bL,if_pos h]
theorem AL4 (S:List Fm)(t:Tr)(r:List Str):after (⟨"not",[]⟩::S) t r=after S (.not t) r:=by
 rw [after,cJ,if_pos rfl]
 rfl
theorem AR0 (r:List Str)(S:List Fm):iP (("kind":Str)::r) S=if r.takeWhile (fun u=>decide (aY u))≠[]/\(r.takeWhile (fun u=>decide (aY u))).Nodup then after S (.kind (r.takeWhile fun u=>decide (aY u))) (r.dropWhile fun u=>decide (aY u)) else none:=by
 rw [iI,bL,if_neg (by decide),if_neg (by decide),if_pos rfl]
 by_cases c:r.takeWhile (fun u=>decide (aY u))≠[]/\(r.takeWhile (fun u=>decide (aY u))).Nodup
 ·rw [if_pos c,if_pos c]
 ·rw [if_neg c,if_neg c]
theorem AL5 (r:List Str)(S:List Fm):iP (("place":Str)::r) S=if r.takeWhile (fun u=>decide (aY u))≠[]/\(r.takeWhile (fun u=>decide (aY u))).Nodup then after S (.place (r.takeWhile fun u=>decide (aY u))) (r.dropWhile fun u=>decide (aY u)) else none:=by
 rw [iI,bL,if_neg (by decide),if_neg (by decide),if_neg (by decide),if_pos rfl]
 by_cases c:r.takeWhile (fun u=>decide (aY u))≠[]/\(r.takeWhile (fun u=>decide (aY u))).Nodup
 ·rw [if_pos c,if_pos c]
 ·rw [if_neg c,if_neg c]
theorem BC3 (S:List Fm):iP [("weight":Str)] S=none:=by
 rw [iI,bL,if_neg (by decide),if_neg (by decide),if_neg (by decide),if_neg (by decide),if_pos rfl]
theorem BI8 {n:Str}(r:List Str)(S:List Fm)(h:wOk n):iP (("weight":Str)::n::r) S=if mS n=true then after S (.weight (pD n)) r else none:=by
 rw [iI,bL,if_neg (by decide),if_neg (by decide),if_neg (by decide),if_neg (by decide),if_pos rfl]
 dsimp only
 by_cases c:mS n=true
 ·rw [if_pos (h.2.1.mpr c),if_pos c]
 ·rw [if_neg (fun z=>c (h.2.1.mp z)),if_neg c]
theorem AA6 {w:Str}(r:List Str)(S:List Fm)(h:w ∉ ([("not":Str),"(","any","kind","place","weight"]:List Str)):iP (w::r) S=none:=by
 simp only [List.mem_cons,List.not_mem_nil,or_false,not_or] at h
 obtain ⟨h1,h2,h3,h4,h5,h6⟩:=h
 rw [iI,bL,if_neg (fun z=>z.elim h1 h2),if_neg h3,if_neg h4,if_neg h5,if_neg h6]
theorem AA7 {sg:Str}{inn:List Tr}(h:sg≠"not")(S:List Fm)(t:Tr):after (⟨sg,inn⟩::S) t []=none/\∀ r,after (⟨sg,inn⟩::S) t ((")":Str)::r)=(if sg="&" then after S (.both (Trs.ofL (inn++[t]))) r else if sg="|" then after S (.either (Trs.ofL (inn++[t]))) r else none)/\∀ w:Str,w≠")"->after (⟨sg,inn⟩::S) t (w::r)=if (w="&"\/w="|")/\(sg="("\/sg=w) then iP r (⟨w,inn++[t]⟩::S) else none:=by
 refine ⟨?_,fun r=>⟨?_,fun w hw=>?_⟩⟩
 ·rw [after,cJ,if_neg h]
 ·rw [after,cJ,if_neg h]
  dsimp only
  rw [if_pos rfl]
  by_cases c:sg="&"
  ·rw [if_pos c,if_pos c,after]
  ·rw [if_neg c,if_neg c]
   by_cases d:sg="|"
   ·rw [if_pos d,if_pos d,after]
   ·rw [if_neg d,if_neg d]
 ·rw [after,cJ,if_neg h]
  dsimp only
  rw [if_neg hw]
  by_cases c:(w="&"\/w="|")/\(sg="("\/sg=w)
  ·rw [if_pos c,if_pos c]
  ·rw [if_neg c,if_neg c]
def RdR (H:Hp)(ws:List Str)(F:List Fm->Option (Tr × List Str))(ts:List Str)(i:Nat)(x:V)(j:Int):Prop :=
 (x=.non/\∀ S,F S=none)\/∃ (t:Tr) (k:Nat),j=(k:Int)/\i < k/\k<=ts.length/\t.At H x/\t.wf/\ws=t.ws++ts.drop k/\∀ S,F S=after S t (ts.drop k)
theorem tM {ts:List Str}{i:Nat}(h:i < ts.length):ts.drop i=ts.getD i ""::ts.drop (i+1):=by
 rw [List.drop_eq_getElem_cons h]
 congr 1
 simp [List.getD,List.getElem?_eq_getElem h]
theorem AR1 {X:Cx}{x:Str}{k:Nat}{ps:List Str}{sp:Sp}{e:Expr}{es:List Expr}{t:TA}{p pos:Pos}(C:CalW X.prog X.w X.K X.mg X.base x ps k sp)(hnx:∀ v s,¬ X.xe v s)(hr:Room k X.A)(hg:Gl X x)(ha:PA X (e::es) t)(hdb:(x == ("__debug__":Str))=false:=by decide)(he:starEach (e::es) X.env=(false,eval e X.env)::starEach es X.env:=by rfl)(hpl:(backTo pos (starEach es X.env)).any (·.1)=false:=by rfl) :
  PBE X (.Call (.Name x p) (e::es) [] pos) (AH8 sp [] t):=by
 obtain ⟨f,fd,F,b,kp,m⟩:=C.ex
 exact AO9 hnx F hr hg m kp b .nil ha hdb he hpl
theorem xV {sp:Sp}{dvs:List V}{t:TA}{E:XK}{σ:L2.St}{H:Hp}{Q:VK}:AH8 sp dvs t E σ H Q=t σ H fun vs H1=>sp (vs++dvs) H1 Q E:=rfl
theorem fP {X:Cx}{ss:List Stmt}{D:Ends}{σ:L2.St}{H:Hp}(h:∃ t,QSs X ss t/\t D σ H):∃ t,PSs X ss t/\t D σ H:=let ⟨t,a,b⟩:=h; ⟨t,a.h,b⟩
theorem BC4 {D:Ends}{σ:L2.St}{H:Hp}:AS3 D σ H=D.bk σ H:=rfl
section
variable {P:Program}{w:World}{K:Frag}{mg:Str->Option Value}{base:Heap}
theorem AU8 {x y:Str}{f g:Addr}{fd gd:FuncData}{ps qs:List Str}{spf spg:Nat->Sp}{n0:Nat}(h0:∀ vs H Q E,¬ spf 0 vs H Q E)(b:Binds K fd ps [])(kp:keepIn K (.ref f)=true)(hm:mg x=some (.ref f))(b2:Binds K gd qs [])(kp2:keepIn K (.ref g)=true)(hm2:mg y=some (.ref g))(step2:∀ d n,n0<=n->CalX P w K mg base x ps n (spf d)->FnOk P w K mg base (CXF P w) (n+1) g gd qs (spg d))(step:∀ d n,n0<=n->CalX P w K mg base y qs (n+1) (spg d)->CalX P w K mg base x ps n (spf d)->FnOk P w K mg base (CXF P w) (n+2) f fd ps (spf (d+1))):∀ d,FnOk P w K mg base (CXF P w) (n0+2 * d) f fd ps (spf d)
 | 0=>FnOk.nev h0
 | d+1=>by
  have c:CalX P w K mg base x ps (n0+2 * d) (spf d):=⟨f,fd,AU8 h0 b kp hm b2 kp2 hm2 step2 step d,b,kp,hm⟩
  exact step d (n0+2 * d) (Nat.le_add_right _ _) ⟨g,gd,step2 d (n0+2 * d) (Nat.le_add_right _ _) c,b2,kp2,hm2⟩ c
end
end Bw
set_option maxHeartbeats 8000000
namespace Bw
open PySem L2 PySem.W
local macro_rules | `(tactic| walk_at "sc") => `(tactic| exact ⟨rfl,rfl,rfl,by decide +kernel,rfl,by decide +kernel,by decide +kernel⟩)
local macro_rules | `(tactic| nofun) => `(tactic| try simp only [AX1, AF9, AX2, AX3, AG0, AG1, AX4, wR, AG2, AX5, w_c, BM5, BM6, BM7, AX6, BM8, AG3, w_b, AX7, BM9, w_not, AG4, AX8, AG5, BN0, AG6, AX9, AY0, AY1, AG7, BN1, BN2, BN3, AY2, AG8, wS, BN9, AG9, sK, AH0, AH1, AH2, w_K, AH3, sL, wX, AZ0, BO2, BA2, xA, xB, xC, AZ5, xD, xE, xF, BO6, AZ6, AZ7, AI0, AZ8, AI1, AI2, xG, xH, AI6, BA1, AI7, xI, AI9, AI8, xJ, AJ2, xK, sS, AL2, tK, xT, xV, BC4, sY, xR, AK5, sZ, AK7, AK8, BO3, xO, AJ6, AJ5, AJ8, BB0, xN, BA6, xL, Option.getD_some,  exists_const, false_or, or_false, exists_false, BN4, BN5, BN6, BN7, BN8, L2.start, List.map_cons, List.map_nil, List.length_cons, List.length_nil, List.replicate, List.replicate_zero, List.replicate_succ, Nat.reduceAdd, Nat.reduceSub, Nat.reduceLeDiff, List.cons_append, List.nil_append, List.append_nil, List.set_cons_zero, List.set_cons_succ, List.getElem?_cons_zero, List.getElem?_cons_succ, Option.some.injEq, V.int.injEq, V.bl.injEq, V.ref.injEq, V.str.injEq, V.ty.injEq, List.cons.injEq, and_true, true_and, exists_eq_left, exists_eq_left', exists_and_left, exists_eq, exists_eq', and_self, decide_eq_true_eq, Bool.not_eq_true', decide_eq_false_iff_not, Bool.true_eq_false, Bool.false_eq_true, if_true, if_false, ite_true, ite_false, false_and, and_false, and_assoc, reduceCtorEq])
local macro_rules | `(tactic| exists $[$es:term],*) => `(tactic| try simp only [$[$es:term],*, AX1, AF9, AX2, AX3, AG0, AG1, AX4, wR, AG2, AX5, w_c, BM5, BM6, BM7, AX6, BM8, AG3, w_b, AX7, BM9, w_not, AG4, AX8, AG5, BN0, AG6, AX9, AY0, AY1, AG7, BN1, BN2, BN3, AY2, AG8, wS, BN9, AG9, sK, AH0, AH1, AH2, w_K, AH3, sL, wX, AZ0, BO2, BA2, xA, xB, xC, AZ5, xD, xE, xF, BO6, AZ6, AZ7, AI0, AZ8, AI1, AI2, xG, xH, AI6, BA1, AI7, xI, AI9, AI8, xJ, AJ2, xK, sS, AL2, tK, xT, xV, BC4, sY, xR, AK5, sZ, AK7, AK8, BO3, xO, AJ6, AJ5, AJ8, BB0, xN, BA6, xL, Option.getD_some,  exists_const, false_or, or_false, exists_false, BN4, BN5, BN6, BN7, BN8, L2.start, List.map_cons, List.map_nil, List.length_cons, List.length_nil, List.replicate, List.replicate_zero, List.replicate_succ, Nat.reduceAdd, Nat.reduceSub, Nat.reduceLeDiff, List.cons_append, List.nil_append, List.append_nil, List.set_cons_zero, List.set_cons_succ, List.getElem?_cons_zero, List.getElem?_cons_succ, Option.some.injEq, V.int.injEq, V.bl.injEq, V.ref.injEq, V.str.injEq, V.ty.injEq, List.cons.injEq, and_true, true_and, exists_eq_left, exists_eq_left', exists_and_left, exists_eq, exists_eq', and_self, decide_eq_true_eq, Bool.not_eq_true', decide_eq_false_iff_not, Bool.true_eq_false, Bool.false_eq_true, if_true, if_false, ite_true, ite_false, false_and, and_false, and_assoc, reduceCtorEq])
def top (i:Nat):Stmt:=PySem.Challenge.pw_bellsaway_k19_texts_of_fits_spoilt.main.body.getD i (.Pass ⟨0,0,0,0⟩)
abbrev bD:Stmt:=aL (top 4) 0
theorem hX:FnScope ["self","line"] ["self","line"] (aF bD):=by walk_at "sc"
abbrev fR:Stmt:=top 6
theorem xW:FnScope ["thing"] ["thing"] (aF fR):=by walk_at "sc"
abbrev cK:Stmt:=top 7
theorem oJ:FnScope ["thing","least"] ["thing","least"] (aF cK):=by walk_at "sc"
abbrev iR:Stmt:=top 11
theorem AC7:FnScope ["thing"] ["thing"] (aF iR):=by walk_at "sc"
abbrev bS:Stmt:=top 15
theorem kX:FnScope ["thing"] ["thing"] (aF bS):=by walk_at "sc"
abbrev dO:Stmt:=top 16
theorem tN:FnScope ["word"] ["word"] (aF dO):=by walk_at "sc"
abbrev eH:Stmt:=top 17
theorem vM:FnScope ["word"] ["word"] (aF eH):=by walk_at "sc"
abbrev cB:Stmt:=aL (top 18) 0
theorem mY:FnScope ["self","text"] ["self","text"] (aF cB):=by walk_at "sc"
abbrev cC:Stmt:=aL (top 18) 1
theorem mZ:FnScope ["self"] ["self"] (aF cC):=by walk_at "sc"
abbrev dP:Stmt:=aL (top 18) 2
theorem tO:FnScope ["self"] ["self"] (aF dP):=by walk_at "sc"
abbrev dQ:Stmt:=aL (top 18) 3
theorem sc_Words_take:FnScope ["self","word"] ["self"] (aF dQ):=by walk_at "sc"
abbrev bT:Stmt:=aL (top 18) 6
theorem kY:FnScope ["self"] ["self"] (aF bT):=by walk_at "sc"
abbrev bM:Stmt:=aL (top 18) 7
theorem sc_Words_take_number:FnScope ["self","word"] ["self"] (aF bM):=by walk_at "sc"
abbrev bU:Stmt:=aL (top 18) 11
theorem sc_Words_take_names:FnScope ["self","names"] ["self"] (aF bU):=by walk_at "sc"
abbrev cL:Stmt:=aL (top 22) 0
theorem oK:FnScope ["self","names"] ["self","names"] (aF cL):=by walk_at "sc"
abbrev cD:Stmt:=aL (top 23) 0
theorem nA:FnScope ["self","names"] ["self","names"] (aF cD):=by walk_at "sc"
abbrev cE:Stmt:=aL (top 24) 0
theorem nB:FnScope ["self","weight"] ["self","weight"] (aF cE):=by walk_at "sc"
abbrev cX:Stmt:=aL (top 25) 0
theorem pY:FnScope ["self","fit"] ["self","fit"] (aF cX):=by walk_at "sc"
abbrev cM:Stmt:=aL (top 26) 0
theorem oM:FnScope ["self","fits"] ["self","fits"] (aF cM):=by walk_at "sc"
abbrev bV:Stmt:=aL (top 27) 0
theorem lX:FnScope ["self","fits"] ["self","fits"] (aF bV):=by walk_at "sc"
abbrev dB:Stmt:=top 28
theorem qV:FnScope ["names"] ["names"] (aF dB):=by walk_at "sc"
abbrev eI:Stmt:=top 29
theorem vN:FnScope ["fit"] ["fit"] (aF eI):=by walk_at "sc"
abbrev dR:Stmt:=top 30
theorem sc_check_fits:FnScope ["fits","fit"] ["fits"] (aF dR):=by walk_at "sc"
abbrev fS:Stmt:=top 32
theorem xX:FnScope ["fit"] ["fit"] (aF fS):=by walk_at "sc"
abbrev fT:Stmt:=top 33
theorem xY:FnScope ["text"] ["text"] (aF fT):=by walk_at "sc"
abbrev dS:Stmt:=top 34
theorem sc_read_whole:FnScope ["text","part_from","words","found"] ["text","part_from"] (aF dS):=by walk_at "sc"
abbrev bW:Stmt:=aL (top 35) 0
theorem lY:FnScope ["self","sign"] ["self","sign"] (aF bW):=by walk_at "sc"
abbrev fU:Stmt:=top 36
theorem sc_fit_from:FnScope ["words","opened","fit"] ["words"] (aF fU):=by walk_at "sc"
abbrev cF:Stmt:=top 37
theorem sc_plain_fit_from:FnScope ["words","opened","word"] ["words","opened"] (aF cF):=by walk_at "sc"
abbrev kD:Stmt:=top 38
theorem sc_closed:FnScope ["fit","words","opened","last"] ["fit","words","opened"] (aF kD):=by walk_at "sc"
abbrev cG:Stmt:=top 39
theorem sc_is_closed_here:FnScope ["bracket","words","word"] ["bracket","words"] (aF cG):=by walk_at "sc"
abbrev kE:Stmt:=top 40
theorem AL6:FnScope ["opened"] ["opened"] (aF kE):=by walk_at "sc"
abbrev eJ:Stmt:=top 43
theorem vO:FnScope ["_law_cell"] ["_law_cell"] (aF eJ):=by walk_at "sc"
abbrev fV:Stmt:=top 44
theorem sc_law_next:FnScope ["_law_state","_law_base","_law_found","_law_number"] ["_law_state","_law_base"] (aF fV):=by walk_at "sc"
abbrev fW:Stmt:=top 45
theorem sc_law_name:FnScope ["_law_state","_law_letters","_law_way","_law_some","_law_word_here","_law_at"] ["_law_state"] (aF fW):=by walk_at "sc"
abbrev fX:Stmt:=top 46
theorem sc_law_leaf:FnScope ["_law_state","_law_more","_law_kind","_law_names_here","_law_k","_law_name_here"] ["_law_state","_law_more"] (aF fX):=by walk_at "sc"
abbrev fY:Stmt:=top 47
theorem sc_law_tree:FnScope ["_law_state","_law_deep","_law_more","_law_kind","_law_parts"] ["_law_state","_law_deep","_law_more"] (aF fY):=by walk_at "sc"
abbrev fZ:Stmt:=top 48
theorem sc_law_text:FnScope ["_law_tree_here","_law_sign"] ["_law_tree_here"] (aF fZ):=by walk_at "sc"
abbrev gA:Stmt:=top 49
theorem sc_law_same:FnScope ["_law_fit","_law_tree_here","_law_kinds","_law_words"] ["_law_fit","_law_tree_here"] (aF gA):=by walk_at "sc"
abbrev gB:Stmt:=top 50
theorem sc_law_word:FnScope ["_law_state","_law_some"] ["_law_state"] (aF gB):=by walk_at "sc"
abbrev dC:Stmt:=top 51
theorem sc_law_changed:FnScope ["_law_words","_law_state","_law_way","_law_at","_law_other","_law_rest","_law_turned"] ["_law_words","_law_state"] (aF dC):=by walk_at "sc"
abbrev dU:Stmt:=top 52
theorem sc_law_spoilt:FnScope ["_law_words","_law_state","_law_k"] ["_law_words","_law_state"] (aF dU):=by walk_at "sc"
abbrev dD:Stmt:=top 53
theorem qW:FnScope ["_law_word_here"] ["_law_word_here"] (aF dD):=by walk_at "sc"
abbrev cN:Stmt:=top 54
theorem oN:FnScope ["_law_word_here"] ["_law_word_here"] (aF cN):=by walk_at "sc"
abbrev eK:Stmt:=top 55
theorem sc_law_names:FnScope ["_law_words","_law_at","_law_names_here"] ["_law_words","_law_at"] (aF eK):=by walk_at "sc"
abbrev dE:Stmt:=top 56
theorem sc_law_several:FnScope ["_law_words","_law_at","_law_parts","_law_sign","_law_part"] ["_law_words","_law_at"] (aF dE):=by walk_at "sc"
abbrev gC:Stmt:=top 57
theorem sc_law_read:FnScope ["_law_words","_law_at","_law_word_here","_law_names_here","_law_inner"] ["_law_words","_law_at"] (aF gC):=by walk_at "sc"
abbrev gD:Stmt:=top 58
theorem sc_law_told:FnScope ["_law_text_here","_law_found","_law_line","e"] ["_law_text_here"] (aF gD):=by walk_at "sc"
abbrev tP:Stmt:=top 59
theorem sc_law:FnScope ["_law_script","_law_cell","_law_state","_law_words","_law_due","_law_at","_law_text_here","_law_k","_law_found","_law_line"] ["_law_script"] (aF tP):=by walk_at "sc"
structure Ad where
 BellError:Addr
 NoFit:Addr
 NoText:Addr
 Words:Addr
 Fit:Addr
 Any:Addr
 Kind:Addr
 Place:Addr
 Least:Addr
 Not:Addr
 Both:Addr
 Either:Addr
 Opened:Addr
 fit_from:Addr
 t0:Tok
 t1:Tok
 t2:Tok
 t3:Tok
structure Bt (K:Frag) (mg:Str->Option Value) (a:Ad):Prop where
 len:mg "len"=none
 int:mg "int"=none
 bool:mg "bool"=none
 str:mg "str"=none
 tuple:mg "tuple"=none
 list:mg "list"=none
 all:mg "all"=none
 isinstance:mg "isinstance"=none
 range:mg "range"=none
 set:mg "set"=none
 ValueError:mg "ValueError"=none
 LETTERS:mg "LETTERS"=some (.str "abcdefghijklmnopqrstuvwxyz" a.t0)
 MOST_LETTERS:mg "MOST_LETTERS"=some (.int 8 a.t1)
 FIGURES:mg "FIGURES"=some (.str "0123456789" a.t2)
 MOST_FIGURES:mg "MOST_FIGURES"=some (.int 60 a.t3)
 BellError:mg "BellError"=some (.ref a.BellError)
 NoFit:mg "NoFit"=some (.ref a.NoFit)
 NoText:mg "NoText"=some (.ref a.NoText)
 Words:mg "Words"=some (.ref a.Words)
 Fit:mg "Fit"=some (.ref a.Fit)
 Any:mg "Any"=some (.ref a.Any)
 Kind:mg "Kind"=some (.ref a.Kind)
 Place:mg "Place"=some (.ref a.Place)
 Least:mg "Least"=some (.ref a.Least)
 Not:mg "Not"=some (.ref a.Not)
 Both:mg "Both"=some (.ref a.Both)
 Either:mg "Either"=some (.ref a.Either)
 Opened:mg "Opened"=some (.ref a.Opened)
 fit_from:mg "fit_from"=some (.ref a.fit_from)
 excK_NoText:ExcK K a.NoText
 exc_NoFit:excIn K a.NoFit vbm "ValueError.__new__"=true
 exm_NoFit:exmOne K (.ref a.NoFit) (.ref a.BellError)=some true
 exm_NoText:exmOne K (.ref a.NoText) (.ref a.BellError)=some true
 xhd:hasDictIn K a.NoText=true
 xmo:mroIn K a.NoText (.type "object")=some true
 xna:NoAttr K a.NoText "line"
 xs:∃ cd,ExcS K a.NoText cd
 ck_Any:ClsK K a.Any
 ck_Kind:ClsK K a.Kind
 na_Kind_names:NoAttr K a.Kind "names"
 ck_Place:ClsK K a.Place
 na_Place_names:NoAttr K a.Place "names"
 ck_Least:ClsK K a.Least
 na_Least_weight:NoAttr K a.Least "weight"
 ck_Not:ClsK K a.Not
 na_Not_fit:NoAttr K a.Not "fit"
 ck_Both:ClsK K a.Both
 na_Both_fits:NoAttr K a.Both "fits"
 ck_Either:ClsK K a.Either
 na_Either_fits:NoAttr K a.Either "fits"
 ck_Words:ClsK K a.Words
 na_Words_words:NoAttr K a.Words "words"
 na_Words_at:NoAttr K a.Words "at"
 ck_Opened:ClsK K a.Opened
 na_Opened_sign:NoAttr K a.Opened "sign"
 na_Opened_inner:NoAttr K a.Opened "inner"
 is_Any_Fit:kitOne K (.ref a.Any) (.ref a.Fit)=some true
 is_Kind_Fit:kitOne K (.ref a.Kind) (.ref a.Fit)=some true
 is_Place_Fit:kitOne K (.ref a.Place) (.ref a.Fit)=some true
 is_Least_Fit:kitOne K (.ref a.Least) (.ref a.Fit)=some true
 is_Not_Fit:kitOne K (.ref a.Not) (.ref a.Fit)=some true
 is_Both_Fit:kitOne K (.ref a.Both) (.ref a.Fit)=some true
 is_Either_Fit:kitOne K (.ref a.Either) (.ref a.Fit)=some true
 is_Any_Any:kitOne K (.ref a.Any) (.ref a.Any)=some true
 is_Any_Kind:kitOne K (.ref a.Any) (.ref a.Kind)=some false
 is_Any_Place:kitOne K (.ref a.Any) (.ref a.Place)=some false
 is_Any_Least:kitOne K (.ref a.Any) (.ref a.Least)=some false
 is_Any_Not:kitOne K (.ref a.Any) (.ref a.Not)=some false
 is_Any_Both:kitOne K (.ref a.Any) (.ref a.Both)=some false
 is_Any_Either:kitOne K (.ref a.Any) (.ref a.Either)=some false
 is_Kind_Any:kitOne K (.ref a.Kind) (.ref a.Any)=some false
 is_Kind_Kind:kitOne K (.ref a.Kind) (.ref a.Kind)=some true
 is_Kind_Place:kitOne K (.ref a.Kind) (.ref a.Place)=some false
 is_Kind_Least:kitOne K (.ref a.Kind) (.ref a.Least)=some false
 is_Kind_Not:kitOne K (.ref a.Kind) (.ref a.Not)=some false
 is_Kind_Both:kitOne K (.ref a.Kind) (.ref a.Both)=some false
 is_Kind_Either:kitOne K (.ref a.Kind) (.ref a.Either)=some false
 is_Place_Any:kitOne K (.ref a.Place) (.ref a.Any)=some false
 is_Place_Kind:kitOne K (.ref a.Place) (.ref a.Kind)=some false
 is_Place_Place:kitOne K (.ref a.Place) (.ref a.Place)=some true
 is_Place_Least:kitOne K (.ref a.Place) (.ref a.Least)=some false
 is_Place_Not:kitOne K (.ref a.Place) (.ref a.Not)=some false
 is_Place_Both:kitOne K (.ref a.Place) (.ref a.Both)=some false
 is_Place_Either:kitOne K (.ref a.Place) (.ref a.Either)=some false
 is_Least_Any:kitOne K (.ref a.Least) (.ref a.Any)=some false
 is_Least_Kind:kitOne K (.ref a.Least) (.ref a.Kind)=some false
 is_Least_Place:kitOne K (.ref a.Least) (.ref a.Place)=some false
 is_Least_Least:kitOne K (.ref a.Least) (.ref a.Least)=some true
 is_Least_Not:kitOne K (.ref a.Least) (.ref a.Not)=some false
 is_Least_Both:kitOne K (.ref a.Least) (.ref a.Both)=some false
 is_Least_Either:kitOne K (.ref a.Least) (.ref a.Either)=some false
 is_Not_Any:kitOne K (.ref a.Not) (.ref a.Any)=some false
 is_Not_Kind:kitOne K (.ref a.Not) (.ref a.Kind)=some false
 is_Not_Place:kitOne K (.ref a.Not) (.ref a.Place)=some false
 is_Not_Least:kitOne K (.ref a.Not) (.ref a.Least)=some false
 is_Not_Not:kitOne K (.ref a.Not) (.ref a.Not)=some true
 is_Not_Both:kitOne K (.ref a.Not) (.ref a.Both)=some false
 is_Not_Either:kitOne K (.ref a.Not) (.ref a.Either)=some false
 is_Both_Any:kitOne K (.ref a.Both) (.ref a.Any)=some false
 is_Both_Kind:kitOne K (.ref a.Both) (.ref a.Kind)=some false
 is_Both_Place:kitOne K (.ref a.Both) (.ref a.Place)=some false
 is_Both_Least:kitOne K (.ref a.Both) (.ref a.Least)=some false
 is_Both_Not:kitOne K (.ref a.Both) (.ref a.Not)=some false
 is_Both_Both:kitOne K (.ref a.Both) (.ref a.Both)=some true
 is_Both_Either:kitOne K (.ref a.Both) (.ref a.Either)=some false
 is_Either_Any:kitOne K (.ref a.Either) (.ref a.Any)=some false
 is_Either_Kind:kitOne K (.ref a.Either) (.ref a.Kind)=some false
 is_Either_Place:kitOne K (.ref a.Either) (.ref a.Place)=some false
 is_Either_Least:kitOne K (.ref a.Either) (.ref a.Least)=some false
 is_Either_Not:kitOne K (.ref a.Either) (.ref a.Not)=some false
 is_Either_Both:kitOne K (.ref a.Either) (.ref a.Both)=some false
 is_Either_Either:kitOne K (.ref a.Either) (.ref a.Either)=some true
 mk_Any:MkN K a.Any
 exmTT:exmOne K (.ref a.NoText) (.ref a.NoText)=some true
def okI (K:Frag)(H:Hp)(x:V):Prop:=∃ t,TyOf K H x t/\kitOne K t (.type "int")=some (AF8 x)/\kitOne K t (.type "bool")=some (wQ x)
def okK (K:Frag)(c:Value)(H:Hp)(x:V)(b:Bool):Prop:=∃ t,TyOf K H x t/\kitOne K t c=some b
abbrev noL (K:Frag)(H:Hp)(x:V):Prop:=∃ t,TyOf K H x t/\kitOne K t (.type "list")=some false
theorem okI.same {K:Frag}{H H':Hp}{x:V}(h:okI K H x)(s:Same H H'):okI K H' x:=let ⟨t,y,r⟩:=h; ⟨t,TyOf.same y s,r⟩
theorem okK.same {K:Frag}{c:Value}{H H':Hp}{x:V}{b:Bool}(h:okK K c H x b)(s:Same H H'):okK K c H' x b:=let ⟨t,y,r⟩:=h; ⟨t,TyOf.same y s,r⟩
def AL7:V->Str
 | .str u=>u
 | _=>Str.empty
def rZ (xs:List V):Bool:=xs.all jC && decide ((xs.map AL7).Nodup)
theorem AL8 {x:V}(h:jC x=true):x=.str (AL7 x):=by cases x <;> first | rfl | cases h
theorem AL9:∀ {xs:List V},xs.all jC=true->xs=(xs.map AL7).map V.str
 | [],_=>rfl
 | x::xs,h=>by
  simp only [List.all_cons,Bool.and_eq_true] at h
  rw [List.map_cons,List.map_cons,<- AL8 h.1,<- AL9 h.2]
def BT8 (K:Frag)(H:Hp)(x:V)(b:Bool):Prop:=(∃ p xs,x=.ref p/\H p=some (.lst xs)/\xs.length<=1000/\(∀ y∈xs,okN H y)/\b=rZ xs)\/(b=false/\noL K H x)
def qX (t:TS):TS:=t
theorem AU9 {t:TS}{D:Ends}{σ:L2.St}{H:Hp}:qX t D σ H=t D σ H:=rfl
theorem AA8 {t:TE}{nx:L2.St->Hp->Prop}{rt:VK}{bk ct:L2.St->Hp->Prop}{σ:L2.St}{H:Hp}(h:t σ H rt):qX (BK3 t) { nx:=nx,rt:=rt,bk:=bk,ct:=ct } σ H:=h
local macro_rules | `(tactic| walk_at "hr") => `(tactic| (first | refine AA8 ?_ | (dsimp only; refine AA8 ?_)))
local macro_rules | `(tactic| walk_at "ho") => `(tactic| (first | rw [AU9] | (dsimp only; rw [AU9])))
theorem aI {X:Cx}{b:List Stmt}{t:TS}(h:QSs X b t):QSs X b (qX t):=h
theorem hZ {H H':Hp}{x dx:Addr}{o o':HO}(hx:H x=none)(hd:H dx=none)(b:But x (upd (upd H dx o) x o') H'):Same H H':=fun c u e=>b c u (aP e hx) (cZ hx hd c u e)
abbrev fc (a:Ad):FC:=⟨a.Any,a.Kind,a.Place,a.Least,a.Not,a.Both,a.Either⟩
def IsX (a:Ad)(cls:Value):Prop:=cls=.ref a.NoFit\/cls=.ref a.NoText
def FrOk (k i:Nat)(f:OF):Prop:=((f.sg="not"/\f.inn=[])\/(f.sg="("/\f.inn=[])\/((f.sg="&"\/f.sg="|")/\f.inn≠[]))/\f.inn.length+k<=i
def mkF (sg:Str)(inn:List Tr):Option Tr:=if sg="not" then inn.head?.map Tr.not else if sg="&" then some (.both (Trs.ofL inn)) else if sg="|" then some (.either (Trs.ofL inn)) else none
def xZ (wp:Addr)(H:Hp):Nat:=match H wp with
 | some (.ins _ _ fs)=>(match fs.lookup ("at":Str) with | some (.int i)=>i.toNat | _=>0)
 | _=>0
theorem vP {C:Addr}{H:Hp}{wp dw wl:Addr}{ts:List Str}{i:Nat}(h:WAt C H wp dw wl ts i):xZ wp H=i:=by
 unfold xZ
 rw [h.w]
 show (i:Int).toNat=i
 omega
def qY (op:Addr)(H:Hp):Nat:=match H op with
 | some (.lst xs)=>xs.length
 | _=>0
theorem AA9 {H:Hp}{op:Addr}{xs:List V}(h:H op=some (.lst xs)):qY op H=xs.length:=by unfold qY; rw [h]
theorem BC5 {H:Hp}{u:Str}(h:lW u):okN H (.str u):=⟨h.1,by have:=h.2.1; omega⟩
abbrev iA (K:Frag)(a:Ad):Sp:=zV a.NoText "line"
def pZ (K:Frag)(a:Ad):Sp:=fun vs H Q E=>∃ x,vs=[x]/\okI K H x/\Q (.bl (AJ0 x)) H
def jO (K:Frag)(a:Ad):Sp:=fun vs H Q E=>∃ x lo,vs=[x,.int lo]/\okI K H x/\Q (.bl (AP2 x lo)) H
def nC (K:Frag)(a:Ad):Sp:=fun vs H Q E=>∃ x,vs=[x]/\okN H x/\∀ H',Same H H'->Q (.bl (jC x)) H'
def gR (K:Frag)(a:Ad):Sp:=fun vs H Q E=>∃ (x:V) (b:Bool),vs=[x]/\BT8 K H x b/\∀ H',Same H H'->Q (.bl b) H'
def lZ (K:Frag)(a:Ad):Sp:=fun vs H Q E=>∃ (u:Str),vs=[.str u]/\hV u=true/\u.length<=1000/\∀ H',Same H H'->Q (.bl (mS u)) H'
def oF (K:Frag)(a:Ad):Sp:=fun vs H Q E=>∃ (u:Str),vs=[.str u]/\hV u=true/\u.length<=1000/\∀ H',Same H H'->Q (.bl (pC u)) H'
def eL (K:Frag)(a:Ad):Sp:=fun vs H Q E=>∃ (p dx:Addr) (x:V),vs=[.ref p,x]/\H p=some (.ins a.Words dx [])/\((∃ u,x=.str u/\u.length<=200000/\(Txt.split u sp1).length<=1000/\∀ wl H',H wl=none->But p H H'->WAt a.Words H' p dx wl (Txt.split u sp1) 0->Q .non H')\/(okK K (.type "str") H x false/\∀ y H',Same H H'->H' y=some (.xd [("line",.int 0)])->E (.ref a.NoText) (some y) H'))
def iS (K:Frag)(a:Ad):Sp:=fun vs H Q E=>∃ (wp dw wl:Addr) (ts:List Str) (i:Nat),vs=[.ref wp]/\WAt a.Words H wp dw wl ts i/\Q (.bl (decide ((i:Int)=(ts.length:Int)))) H
def mD (K:Frag)(a:Ad):Sp:=fun vs H Q E=>∃ (wp dw wl:Addr) (ts:List Str) (i:Nat),vs=[.ref wp]/\WAt a.Words H wp dw wl ts i/\Q (.str (ts.getD i "")) H
def mE (K:Frag)(a:Ad):Sp:=fun vs H Q E=>∃ (wp dw wl:Addr) (ts:List Str) (i:Nat),vs=[.ref wp]/\WAt a.Words H wp dw wl ts i/\Q (.str (ts.getD i "")) (upd H wp (.ins a.Words dw (dH wl (i+1))))
def gS (K:Frag)(a:Ad):Sp:=fun vs H Q E=>∃ (wp dw wl:Addr) (ts:List Str) (i:Nat),vs=[.ref wp]/\WAt a.Words H wp dw wl ts i/\((i=ts.length/\Q .non H)\/(i≠ts.length/\∀ y H',Same H H'->H' y=some (.xd [("line",.int 0)])->E (.ref a.NoText) (some y) H'))
def fL (K:Frag)(a:Ad):Sp:=fun vs H Q E=>∃ (wp dw wl:Addr) (ts:List Str) (i:Nat),vs=[.ref wp]/\WAt a.Words H wp dw wl ts i/\lW (ts.getD i "")/\((pC (ts.getD i "")=true/\∀ H',But wp H H'->WAt a.Words H' wp dw wl ts (i+1)->Q (.int (pD (ts.getD i ""))) H')\/(pC (ts.getD i "")=false/\∀ y H',But wp H H'->E (.ref a.NoText) (some y) H'))
def gT (K:Frag)(a:Ad):Sp:=fun vs H Q E=>∃ (wp dw wl:Addr) (ts:List Str) (i:Nat),vs=[.ref wp]/\WAt a.Words H wp dw wl ts i/\(∀ x∈ts,lW x)/\ts.length<=1000/\∀ l H',But wp H H'->H l=none->H' l=some (.lst (((ts.drop i).takeWhile fun u=>decide (aY u)).map V.str))->WAt a.Words H' wp dw wl ts (i+((ts.drop i).takeWhile fun u=>decide (aY u)).length)->Q (.ref l) H'
def fE (K:Frag)(a:Ad):Sp:=fun vs H Q E=>∃ (p dx l:Addr) (us:List Str),vs=[.ref p,.ref l]/\H p=some (.ins a.Kind dx [])/\H l=some (.lst (us.map V.str))/\((∀ u∈us,aY u)/\us.length<=1000)/\(((us≠[]/\us.Nodup)/\∀ l' H',But p H H'->H l'=none->H' l'=some (.lst (us.map V.str))->H' p=some (.ins a.Kind dx [("names",.ref l')])->Q .non H')\/(¬ (us≠[]/\us.Nodup)/\∀ H',Same H H'->E (.ref a.NoFit) none H'))
def eM (K:Frag)(a:Ad):Sp:=fun vs H Q E=>∃ (p dx l:Addr) (us:List Str),vs=[.ref p,.ref l]/\H p=some (.ins a.Place dx [])/\H l=some (.lst (us.map V.str))/\((∀ u∈us,aY u)/\us.length<=1000)/\(((us≠[]/\us.Nodup)/\∀ l' H',But p H H'->H l'=none->H' l'=some (.lst (us.map V.str))->H' p=some (.ins a.Place dx [("names",.ref l')])->Q .non H')\/(¬ (us≠[]/\us.Nodup)/\∀ H',Same H H'->E (.ref a.NoFit) none H'))
def eN (K:Frag)(a:Ad):Sp:=fun vs H Q E=>∃ (p dx:Addr) (n:Int),vs=[.ref p,.int n]/\H p=some (.ins a.Least dx [])/\((0<=n/\Q .non (upd H p (.ins a.Least dx [("weight",.int n)])))\/(¬ 0<=n/\E (.ref a.NoFit) none H))
def gU (K:Frag)(a:Ad):Sp:=fun vs H Q E=>∃ (p dx:Addr) (v:V) (t:Tr),vs=[.ref p,v]/\H p=some (.ins a.Not dx [])/\t.Fit (fc a) H v/\Q .non (upd H p (.ins a.Not dx [("fit",v)]))
def fG (K:Frag)(a:Ad):Sp:=fun vs H Q E=>∃ (p dx l:Addr) (xs:List V) (ts:List Tr),vs=[.ref p,.ref l]/\H p=some (.ins a.Both dx [])/\H l=some (.lst xs)/\All2 (Tr.Fit (fc a) H) ts xs/\2<=xs.length/\xs.length<=1000/\∀ l' H',But p H H'->H l'=none->H' l'=some (.lst xs)->H' p=some (.ins a.Both dx [("fits",.ref l')])->Q .non H'
def dZ (K:Frag)(a:Ad):Sp:=fun vs H Q E=>∃ (p dx l:Addr) (xs:List V) (ts:List Tr),vs=[.ref p,.ref l]/\H p=some (.ins a.Either dx [])/\H l=some (.lst xs)/\All2 (Tr.Fit (fc a) H) ts xs/\2<=xs.length/\xs.length<=1000/\∀ l' H',But p H H'->H l'=none->H' l'=some (.lst xs)->H' p=some (.ins a.Either dx [("fits",.ref l')])->Q .non H'
def iJ (K:Frag)(a:Ad):Sp:=fun vs H Q E=>∃ (l:Addr) (us:List Str),vs=[.ref l]/\H l=some (.lst (us.map V.str))/\((∀ u∈us,aY u)/\us.length<=1000)/\(((us≠[]/\us.Nodup)/\∀ H',Same H H'->Q .non H')\/(¬ (us≠[]/\us.Nodup)/\∀ H',Same H H'->E (.ref a.NoFit) none H'))
def jU (K:Frag)(a:Ad):Sp:=fun vs H Q E=>∃ (v:V) (t:Tr),vs=[v]/\t.Fit (fc a) H v/\Q .non H
def jH (K:Frag)(a:Ad):Sp:=fun vs H Q E=>∃ (l:Addr) (xs:List V) (ts:List Tr),vs=[.ref l]/\H l=some (.lst xs)/\All2 (Tr.Fit (fc a) H) ts xs/\2<=xs.length/\xs.length<=1000/\Q .non H
def eO (K:Frag)(a:Ad)(d:Nat):Sp:=fun vs H Q E=>∃ (v:V) (t:Tr),t.dp < d/\vs=[v]/\t.Fit (fc a) H v/\t.wf/\t.tx.length<=100000/\∀ H',Same H H'->Q (.str t.tx) H'
def qA (K:Frag)(a:Ad):Sp:=fun vs H Q E=>∃ x:V,vs=[x]/\((∃ u t,x=.str u/\BD7 u/\iP (Txt.split u sp1) []=some (t,[])/\∀ v H',Same H H'->t.Fit (fc a) H' v->Q v H')\/(((∃ u,x=.str u/\BD7 u/\∀ t,iP (Txt.split u sp1) []≠some (t,[]))\/okK K (.type "str") H x false)/\∀ y H',Same H H'->H' y=some (.xd [("line",.int 0)])->E (.ref a.NoText) (some y) H'))
def mF (K:Frag)(a:Ad):Sp:=fun vs H Q E=>∃ x:V,vs=[x,.ref a.fit_from]/\((∃ u t,x=.str u/\BD7 u/\iP (Txt.split u sp1) []=some (t,[])/\∀ v H',Same H H'->t.Fit (fc a) H' v->Q v H')\/(((∃ u,x=.str u/\BD7 u/\∀ t,iP (Txt.split u sp1) []≠some (t,[]))\/okK K (.type "str") H x false)/\∀ y H',Same H H'->H' y=some (.xd [("line",.int 0)])->E (.ref a.NoText) (some y) H'))
def eA (K:Frag)(a:Ad):Sp:=fun vs H Q E=>∃ (p dx:Addr) (s:Str),vs=[.ref p,.str s]/\H p=some (.ins a.Opened dx [])/\∀ il H',H il=none->But p H H'->H' il=some (.lst [])->H' p=some (.ins a.Opened dx (jF s il))->Q .non H'
def kZ (K:Frag)(a:Ad):Sp:=fun vs H Q E=>∃ (wp dw wl:Addr) (ts:List Str) (i:Nat),vs=[.ref wp]/\WAt a.Words H wp dw wl ts i/\(∀ x∈ts,lW x)/\ts.length<=1000/\i<=ts.length/\(∀ t r,iP (ts.drop i) []=some (t,r)->∀ v H' j,r=ts.drop j->i < j->j<=ts.length->But wp H H'->WAt a.Words H' wp dw wl ts j->t.Fit (fc a) (Out [wp] H') v->Q v H')/\(iP (ts.drop i) []=none->∀ cls y H',IsX a cls->But wp H H'->E cls y H')
def iT (K:Frag)(a:Ad):Sp:=fun vs H Q E=>∃ (wp dw wl op:Addr) (ts:List Str) (i:Nat) (fs:List OF) (G:Hp),vs=[.ref wp,.ref op]/\PSt a.Words a.Opened (fc a) H wp dw wl ts i op fs G/\(∀ x∈ts,lW x)/\ts.length<=1000/\i<=ts.length/\fs.length<=i/\(∀ f∈fs,FrOk 1 i f)/\(∀ t r Sf,plainF (ts.drop i) (fs.map OF.fm)=some (t,r,Sf)->∀ v H' j fs',r=ts.drop j->i < j->j<=ts.length->PSt a.Words a.Opened (fc a) H' wp dw wl ts j op fs' G->fs'.map OF.fm=Sf->(∀ f∈fs',FrOk 2 j f)->fs'.length<=j->t.Fit (fc a) (Out (tJ wp op fs') H') v->Q v H')/\(plainF (ts.drop i) (fs.map OF.fm)=none->∀ cls y H',IsX a cls->But wp G H'->E cls y H')
def vQ (K:Frag)(a:Ad):Sp:=fun vs H Q E=>∃ (v:V) (t:Tr) (wp dw wl op:Addr) (ts:List Str) (i:Nat) (fs:List OF) (G:Hp),vs=[v,.ref wp,.ref op]/\PSt a.Words a.Opened (fc a) H wp dw wl ts i op fs G/\(∀ x∈ts,lW x)/\ts.length<=1000/\i<=ts.length/\fs.length<=i/\(∀ f∈fs,FrOk 2 i f)/\t.Fit (fc a) (Out (tJ wp op fs) H) v/\(∀ t' r,closeF (fs.map OF.fm) t (ts.drop i)=some (.inl (t',r))->∀ v' H' j,r=ts.drop j->i<=j->j<=ts.length->PSt a.Words a.Opened (fc a) H' wp dw wl ts j op [] G->t'.Fit (fc a) (Out (tJ wp op []) H') v'->Q v' H')/\(∀ r Sf,closeF (fs.map OF.fm) t (ts.drop i)=some (.inr (r,Sf))->∀ H' j fs',r=ts.drop j->i<=j->j<=ts.length->PSt a.Words a.Opened (fc a) H' wp dw wl ts j op fs' G->fs'.map OF.fm=Sf->(∀ f∈fs',FrOk 1 j f)->fs'.length<=j->Q .non H')/\(closeF (fs.map OF.fm) t (ts.drop i)=none->∀ cls y H',IsX a cls->But wp G H'->E cls y H')
def iU (K:Frag)(a:Ad):Sp:=fun vs H Q E=>∃ (wp dw wl op:Addr) (ts:List Str) (i:Nat) (f:OF) (fs:List OF) (G:Hp),vs=[.ref f.r,.ref wp]/\PSt a.Words a.Opened (fc a) H wp dw wl ts i op (f::fs) G/\(∀ H',PSt a.Words a.Opened (fc a) H' wp dw wl ts (i+1) op (f::fs) G->ts.getD i ""=")"->Q (.bl true) H')/\(∀ H',PSt a.Words a.Opened (fc a) H' wp dw wl ts (i+1) op (f.sign (ts.getD i "")::fs) G->ts.getD i ""≠")"->(ts.getD i ""="&"\/ts.getD i ""="|")/\(f.sg="("\/f.sg=ts.getD i "")->Q (.bl false) H')/\(ts.getD i ""≠")"->¬ ((ts.getD i ""="&"\/ts.getD i ""="|")/\(f.sg="("\/f.sg=ts.getD i ""))->∀ y H',But wp G H'->E (.ref a.NoText) (some y) H')
def qB (K:Frag)(a:Ad):Sp:=fun vs H Q E=>∃ (r d il:Addr) (sg:Str) (xs:List V) (inn:List Tr) (M:List Addr),vs=[.ref r]/\H r=some (.ins a.Opened d (jF sg il))/\H il=some (.lst xs)/\All2 (Tr.Fit (fc a) (Out M H)) inn xs/\(∀ b,H b=none->b ∉ M)/\xs.length<=1000/\(sg="not"->inn≠[])/\(sg="&"\/sg="|"->2<=inn.length)/\((∃ t,mkF sg inn=some t/\∀ v H',Same H H'->t.Fit (fc a) (Out M H') v->Q v H')\/(mkF sg inn=none/\∀ y H',Same H H'->H' y=some (.xd [("line",.int 0)])->E (.ref a.NoText) (some y) H'))
def oG (K:Frag)(a:Ad):Sp:=fun vs H Q E=>∃ c:Int,vs=[.int c]/\∀ p a b c,H p=none->Q (.ref p) (upd H p (.lst [.int a,.int b,.int c]))
def dA (K:Frag)(a:Ad):Sp:=fun vs H Q E=>∃ (w:Addr) (m:Int),vs=[.ref w,.int m]/\Well3 H w/\0 < m/\m < 2 ^ 62/\∀ (r:Int) (H':Hp),0<=r->r < m->Well3 H' w->But w H H'->Q (.int r) H'
def qC (K:Frag)(a:Ad):Sp:=fun vs H Q E=>∃ w:Addr,vs=[.ref w]/\Well3 H w/\∀ (u:Str) (H':Hp),aY u->Well3 H' w->But w H H'->Q (.str u) H'
def qD (K:Frag)(a:Ad):Sp:=fun vs H Q E=>∃ (w:Addr) (m:Int),vs=[.ref w,.int m]/\Well3 H w/\0<=m/\m<=2/\∀ (v:V) (t:Tr) (H':Hp),t.At H' v->t.ok->t.dp=0->t.cnt<=3->Well3 H' w->But w H H'->Q v H'
def eP (K:Frag)(a:Ad)(d:Nat):Sp:=fun vs H Q E=>∃ (w:Addr) (i:Nat) (m:Int),i < d/\vs=[.ref w,.int i,.int m]/\Well3 H w/\i<=3/\0<=m/\m<=2/\∀ (v:V) (t:Tr) (H':Hp),t.At H' v->t.ok->t.dp<=i->t.cnt<=3 * 3 ^ i->Well3 H' w->But w H H'->Q v H'
def eQ (K:Frag)(a:Ad)(d:Nat):Sp:=fun vs H Q E=>∃ (v:V) (t:Tr),t.dp < d/\vs=[v]/\t.At H v/\t.ok/\t.tx.length<=100000/\∀ H',Same H H'->Q (.str t.tx) H'
def eR (K:Frag)(a:Ad)(d:Nat):Sp:=fun vs H Q E=>∃ (v u:V) (t:Tr),t.dp < d/\vs=[v,u]/\t.Fit (fc a) H v/\t.At H u/\t.wf/\t.ws.length<=200/\∀ H',Same H H'->Q (.bl true) H'
def lA (K:Frag)(a:Ad):Sp:=fun vs H Q E=>∃ w:Addr,vs=[.ref w]/\Well3 H w/\∀ (u:Str) (H':Hp),wOk u->Well3 H' w->But w H H'->Q (.str u) H'
def kO (K:Frag)(a:Ad):Sp:=fun vs H Q E=>∃ (l w:Addr) (ts:List Str),vs=[.ref l,.ref w]/\H l=some (.lst (ts.map V.str))/\l≠w/\Well3 H w/\ts≠[]/\ts.length<=900/\(∀ x∈ts,wOk x)/\∀ (l':Addr) (ts':List Str) (H':Hp),H' l'=some (.lst (ts'.map V.str))->l'≠w->ts'.length<=ts.length+1->cb ts'<=cb ts+2->(∀ x∈ts',wOk x)->Well3 H' w->But w H H'->Q (.ref l') H'
def mG (K:Frag)(a:Ad):Sp:=fun vs H Q E=>∃ (l w:Addr) (ts:List Str),vs=[.ref l,.ref w]/\H l=some (.lst (ts.map V.str))/\l≠w/\Well3 H w/\ts≠[]/\ts.length<=134/\cb ts<=81/\(∀ x∈ts,wOk x)/\∀ (l':Addr) (ts':List Str) (H':Hp),H' l'=some (.lst (ts'.map V.str))->l'≠w->ts'.length<=137->cb ts'<=87->(∀ x∈ts',wOk x)->Well3 H' w->But w H H'->Q (.ref l') H'
def kP (K:Frag)(a:Ad):Sp:=fun vs H Q E=>∃ u:Str,vs=[.str u]/\lW u/\∀ H',Same H H'->Q (.bl (decide (aY u))) H'
def jP (K:Frag)(a:Ad):Sp:=fun vs H Q E=>∃ u:Str,vs=[.str u]/\lW u/\∀ H',Same H H'->Q (.bl (mS u)) H'
def oH (K:Frag)(a:Ad):Sp:=fun vs H Q E=>∃ (l:Addr) (ts:List Str) (i:Nat),vs=[.ref l,.int i]/\H l=some (.lst (ts.map V.str))/\ts.length<=1000/\i<=ts.length/\(∀ x∈ts,lW x)/\∀ r H',Same H H'->H r=none->H' r=some (.lst (((ts.drop i).takeWhile fun u=>decide (aY u)).map V.str))->Q (.ref r) H'
def iK (K:Frag)(a:Ad)(d:Nat):Sp:=fun vs H Q E=>∃ (l:Addr) (ts:List Str) (i:Nat),cb (ts.drop i) < d/\vs=[.ref l,.int i]/\H l=some (.lst (ts.map V.str))/\i<=ts.length/\ts.length<=200/\(∀ x∈ts,wOk x)/\∀ p x j H',Same H H'->H' p=some (.tup [x,.int j])->RdR H' (("(":Str)::ts.drop i) (fun S=>iP (ts.drop i) (⟨"(",[]⟩::S)) ts i x j->Q (.ref p) H'
def dM (K:Frag)(a:Ad)(d:Nat):Sp:=fun vs H Q E=>∃ (l:Addr) (ts:List Str) (i:Nat),cb (ts.drop i) < d/\vs=[.ref l,.int i]/\H l=some (.lst (ts.map V.str))/\i<=ts.length/\ts.length<=200/\(∀ x∈ts,wOk x)/\∀ p x j H',Same H H'->H' p=some (.tup [x,.int j])->RdR H' (ts.drop i) (iP (ts.drop i)) ts i x j->Q (.ref p) H'
def qE (K:Frag)(a:Ad):Sp:=fun vs H Q E=>∃ u:Str,vs=[.str u]/\BD7 u/\((∃ t,iP (Txt.split u sp1) []=some (t,[])/\∀ p v H',Same H H'->H' p=some (.tup [v,.int (-1)])->t.Fit (fc a) H' v->Q (.ref p) H')\/((∀ t,iP (Txt.split u sp1) []≠some (t,[]))/\∀ p H',Same H H'->H' p=some (.tup [.non,.int 0])->Q (.ref p) H'))
def spL (K:Frag):Sp:=fun vs H Q _=>∃ (a:Addr) (ns:List Int),vs=[.ref a]/\SqL K H a (ns.map V.int)/\ns.length<=63/\∀ H',Q (.bl true) H'
abbrev AM0 (K:Frag)(_:Ad):Sp:=spL K
theorem vR {K:Frag}{a:Ad}:∀ vs H Q E,¬ eP K a 0 vs H Q E:=by
 rintro vs H Q E ⟨w,i,m,h,_⟩
 exact absurd h (Nat.not_lt_zero _)
theorem vS {K:Frag}{a:Ad}:∀ vs H Q E,¬ eQ K a 0 vs H Q E:=by
 rintro vs H Q E ⟨v,t,h,_⟩
 exact absurd h (Nat.not_lt_zero _)
theorem vT {K:Frag}{a:Ad}:∀ vs H Q E,¬ eR K a 0 vs H Q E:=by
 rintro vs H Q E ⟨v,u,t,h,_⟩
 exact absurd h (Nat.not_lt_zero _)
theorem vU {K:Frag}{a:Ad}:∀ vs H Q E,¬ eO K a 0 vs H Q E:=by
 rintro vs H Q E ⟨v,t,h,_⟩
 exact absurd h (Nat.not_lt_zero _)
theorem vV {K:Frag}{a:Ad}:∀ vs H Q E,¬ dM K a 0 vs H Q E:=by
 rintro vs H Q E ⟨l,ts,i,h,_⟩
 exact absurd h (Nat.not_lt_zero _)
def mH (K:Frag)(a:Ad)(C:Addr)(sp:Sp):Prop:=C=a.Words/\sp=gS K a
def qF (K:Frag)(a:Ad)(C:Addr)(sp:Sp):Prop:=C=a.Words/\sp=iS K a
def yA (K:Frag)(a:Ad)(C:Addr)(sp:Sp):Prop:=C=a.Words/\sp=mD K a
def qG (K:Frag)(a:Ad)(C:Addr)(sp:Sp):Prop:=C=a.Words/\sp=mE K a
def mI (K:Frag)(a:Ad)(C:Addr)(sp:Sp):Prop:=C=a.Words/\sp=gT K a
def kQ (K:Frag)(a:Ad)(C:Addr)(sp:Sp):Prop:=C=a.Words/\sp=fL K a
section
variable {P:Program}{w:World}{K:Frag}{mg:Str->Option Value}{base:Heap}{f:Addr}{fd:FuncData}{a:Ad}
theorem sA {H:Hp}{w:Addr}{m:Int}{Q:VK}{E:XK}(W:Well3 H w)(h0:0 < m)(h1:m < 2 ^ 62)(q:∀ (r:Int) (H':Hp),0<=r->r < m->Well3 H' w->But w H H'->Q (.int r) H'):dA K a [.ref w,.int m] H Q E:=⟨w,m,rfl,W,h0,h1,q⟩
theorem yB (B:Bt K mg a)(F:Fun K "is_whole" "is_whole" fR f fd):FnOk P w K mg base CX0 1 f fd ["thing"] (pZ K a):=by
 refine F.ok xW (fun vs H Q E h=>?_) (fun cdv A outer s H vs Q E hr h=>?_)
 ·obtain ⟨x,rfl,_⟩:=h
  rfl
 obtain ⟨x,rfl,⟨t,ty,ki,kb⟩,q⟩:=h
 refine fP ⟨_,(aH (aT (aR (pG (aU (jS (K:=K) (T:="int") rfl) rfl B.isinstance PyProof.Rows.boot_isinstance (aJ (aO (pv 0) (aO (iW (v:=.ty "int") rfl B.int PyProof.Rows.boot_int rfl) aD))) (he:=aB _ _ _ rfl) (hpl:=aG rfl)) (nX (AD9 (aU (jS (K:=K) (T:="bool") rfl) rfl B.isinstance PyProof.Rows.boot_isinstance (aJ (aO (pv 0) (aO (iW (v:=.ty "bool") rfl B.bool PyProof.Rows.boot_bool rfl) aD))) (he:=aB _ _ _ rfl) (hpl:=aG rfl)))))))),?_⟩
 nofun
 refine ⟨x,t,_,rfl,ty,ki,?_⟩
 nofun
 cases x <;> try simp only [AF8,AJ0,AX1,AF9,AX2,AX3,AG0,AG1,AX4,wR,AG2,AX5,w_c,BM5,BM6,BM7,AX6,BM8,AG3,w_b,AX7,BM9,w_not,AG4,AX8,AG5,BN0,AG6,AX9,AY0,AY1,AG7,BN1,BN2,BN3,AY2,AG8,wS,BN9,AG9,sK,AH0,AH1,AH2,w_K,AH3,sL,wX,AZ0,BO2,BA2,xA,xB,xC,AZ5,xD,xE,xF,BO6,AZ6,AZ7,AI0,AZ8,AI1,AI2,xG,xH,AI6,BA1,AI7,xI,AI9,AI8,xJ,AJ2,xK,sS,AL2,tK,xT,xV,BC4,sY,xR,AK5,sZ,AK7,AK8,BO3,xO,AJ6,AJ5,AJ8,BB0,xN,BA6,xL,Option.getD_some, exists_const,false_or,or_false,exists_false,BN4,BN5,BN6,BN7,BN8,L2.start,List.map_cons,List.map_nil,List.length_cons,List.length_nil,List.replicate,List.replicate_zero,List.replicate_succ,Nat.reduceAdd,Nat.reduceSub,Nat.reduceLeDiff,List.cons_append,List.nil_append,List.append_nil,List.set_cons_zero,List.set_cons_succ,List.getElem?_cons_zero,List.getElem?_cons_succ,Option.some.injEq,V.int.injEq,V.bl.injEq,V.ref.injEq,V.str.injEq,V.ty.injEq,List.cons.injEq,and_true,true_and,exists_eq_left,exists_eq_left',exists_and_left,exists_eq,exists_eq',and_self,decide_eq_true_eq,Bool.not_eq_true',decide_eq_false_iff_not,Bool.true_eq_false,Bool.false_eq_true,if_true,if_false,ite_true,ite_false,false_and,and_false,and_assoc,reduceCtorEq] at * <;> first | exact q | exact ⟨_,t,_,rfl,ty,kb,q⟩ | (refine ⟨_,t,_,rfl,ty,kb,?_⟩; simpa [wQ] using q)
theorem oO (B:Bt K mg a)(nM:CalX P w K mg base "is_whole" ["thing"] 1 (pZ K a))(F:Fun K "is_whole_from" "is_whole_from" cK f fd):FnOk P w K mg base CX0 2 f fd ["thing","least"] (jO K a):=by
 refine F.ok oJ (fun vs H Q E h=>?_) (fun cdv A outer s H vs Q E hr h=>?_)
 ·obtain ⟨x,lo,rfl,_⟩:=h
  rfl
 obtain ⟨x,lo,rfl,ox,q⟩:=h
 refine fP ⟨_,(aH (aT (aR (pG (aZ nM (hr.mono (by decide)) rfl (aJ (aO (pv 0) aD)) (he:=aB _ _ _ rfl) (hpl:=aG rfl)) (nX (cS AW2 (pv 1) (pv 0) (aW _))))))),?_⟩
 nofun
 refine ⟨x,rfl,ox,?_⟩
 cases x <;> simp_all [AJ0,AP2]
theorem AC8 (B:Bt K mg a)(F:Fun K "is_name" "is_name" iR f fd):FnOk P w K mg base CX0 1 f fd ["thing"] (nC K a):=by
 refine F.ok AC7 (fun vs H Q E h=>?_) (fun cdv A outer s H vs Q E hr h=>?_)
 ·obtain ⟨x,rfl,_⟩:=h
  rfl
 obtain ⟨x,rfl,ox,q⟩:=h
 refine fP ⟨_,(aC (bG (L2.PW.pt (iE (gI (cP (aU vD rfl B.isinstance PyProof.Rows.boot_isinstance (aJ (aO (pv 0) (aO (iW (v:=.ty "str") rfl B.str PyProof.Rows.boot_str rfl) aD))) (he:=aB _ _ _ rfl) (hpl:=aG rfl)))) (iE (aQ qQ (aU cY rfl B.len PySem.boot_len (aJ (aO (pv 0) aD))) aM (aW _)) (eC (aQ uP (aU cY rfl B.len PySem.boot_len (aJ (aO (pv 0) aD))) (cR (v:=.int 8) rfl B.MOST_LETTERS ⟨_,rfl⟩) (aW _)))))) (aH (aT (aR lL))) aS) (aH (aT (aR (aU (sP rfl) rfl B.all PyProof.Rows.boot_all (aJ (aO (dI ["sign"] [none] rfl (by kernel_rfl) (zP (pv 0)) (fun cl C s H fp=>⟨(bO (i:=0) (by decide:List.Nodup (["sign"]:List Str)) rfl (Or.inl (by kernel_rfl)) (Or.inr (by kernel_rfl))),iG,(cS uQ (pv 0 (hv:=Or.inl (by kernel_rfl))) (cR (v:=.str "abcdefghijklmnopqrstuvwxyz") (qT (by kernel_rfl)) B.LETTERS ⟨_,rfl⟩) (by with_unfolding_all rfl))⟩)) aD)) (he:=aB _ _ _ rfl) (hpl:=aG rfl)))))),?_⟩
 cases x with
 | str u =>
  obtain ⟨hp,hl⟩:=id ox
  exists pP
  refine ⟨ox,sz8 hl,?_⟩
  by_cases h1:((u.length:Nat):Int) < 1
  ·rw [if_pos h1]
   have e:jC (.str u)=false:=decide_eq_false fun g=>by have:=g.1; omega
   rw [e] at q
   exact q _ fun _ _ z=>z
  rw [if_neg h1]
  refine ⟨sz8 hl,?_⟩
  by_cases h2:(8:Int) < ((u.length:Nat):Int)
  ·rw [if_pos h2]
   have e:jC (.str u)=false:=decide_eq_false fun g=>by have:=g.2.1; omega
   rw [e] at q
   exact q _ fun _ _ z=>z
  rw [if_neg h2]
  refine ⟨hp,?_⟩
  refine CompS.by (fun i acc σ H'=>acc=(u.cps.toList.take i).map (fun c=>V.bl (!(Builtin.Str.occurrences letters ⟨#[c]⟩ 0 letters.length 1).isEmpty))/\(∃ v,σ=[v])/\H'=H) (sz8 hl) ⟨rfl,⟨_,rfl⟩,rfl⟩ ?_ ?_ ?_
  ·rintro i c acc σ H' hc ⟨rfl,⟨v,rfl⟩,rfl⟩
   have hc':u.cps.toList[i]?=some c:=by simpa using hc
   have ea:(u.cps.toList.take i).map (fun c=>V.bl (!(Builtin.Str.occurrences letters ⟨#[c]⟩ 0 letters.length 1).isEmpty))++[V.bl (!(Builtin.Str.occurrences letters ⟨#[c]⟩ 0 letters.length 1).isEmpty)]=(u.cps.toList.take (i+1)).map (fun c=>V.bl (!(Builtin.Str.occurrences letters ⟨#[c]⟩ 0 letters.length 1).isEmpty)):=by
    rw [List.take_succ,hc',List.map_append]
    rfl
   nofun
   first | exact ea | exact ⟨ea,⟨_,rfl⟩,rfl⟩
  ·rintro i acc σ H' ⟨rfl,_,_⟩
   rw [List.length_map,List.length_take]
   omega
  ·rintro acc σ H' ⟨rfl,⟨v,rfl⟩,rfl⟩ D hD
   have e:(u.cps.toList.take u.cps.size).map (fun c=>V.bl (!(Builtin.Str.occurrences letters ⟨#[c]⟩ 0 letters.length 1).isEmpty))=(u.cps.toList.map fun c=>!(Builtin.Str.occurrences letters ⟨#[c]⟩ 0 letters.length 1).isEmpty).map V.bl:=by
    rw [List.take_of_length_le (by simp),List.map_map]
    rfl
   rw [e]
   refine ⟨D,rfl,_,SqL.of aA,?_⟩
   have e2:jC (.str u)=decide (∀ c∈u.cps.toList,97<=c/\c<=122):=by
    rw [Bool.eq_iff_iff]
    refine ⟨fun g=>?_,fun g=>?_⟩
    ·have g':aY u:=of_decide_eq_true g
     exact decide_eq_true g'.2.2
    ·exact decide_eq_true (p:=aY u) ⟨by omega,by omega,of_decide_eq_true g⟩
   rw [AP5 hp,<- e2]
   exact q _ (aE hD _)
 | non =>
  exists pP
  exact ⟨ox,q _ fun _ _ z=>z⟩
 | bl b =>
  exists pP
  exact ⟨ox,q _ fun _ _ z=>z⟩
 | int b =>
  exists pP
  exact ⟨ox,q _ fun _ _ z=>z⟩
 | ref b =>
  exists pP
  exact ⟨ox,q _ fun _ _ z=>z⟩
 | _=>exact ox.elim
theorem mJ (B:Bt K mg a)(F:FunA K "__init__" "NoText.__init__" bD f fd):FnOk P w K mg base CX0 1 f fd ["self","line"] (iA K a):=by
 refine FunA.ok F hX (fun vs H Q E h=>?_) (fun cdv A outer s H vs Q E hr h=>?_)
 ·obtain ⟨e,y,rfl,_⟩:=h
  rfl
 obtain ⟨e,y,rfl,he,q⟩:=h
 refine fP ⟨_,(aH (bQ (AK3 (pv 0) (pv 1) rfl))),?_⟩
 nofun
 obtain ⟨cdR,xs⟩:=B.xs
 exact ⟨_,he,_,xs,B.xmo,B.xna,q⟩
theorem AC9 (B:Bt K mg a)(F:FunA K "__init__" "NoText.__init__" bD f fd):FnOkH P w K mg base (CXF P w) 1 f fd ["self","line"] (iA K a):=by
 refine BI2 F hX (fun vs H Q E h=>?_) (fun cdv A outer s H vs Q E h=>?_)
 ·obtain ⟨e,y,rfl,_⟩:=h
  rfl
 obtain ⟨e,y,rfl,he,q⟩:=h
 refine ⟨_,(iM (aH (bQ (AK3 (pv 0) (pv 1) rfl)))),?_⟩
 nofun
 obtain ⟨cdR,xs⟩:=B.xs
 exact ⟨_,he,_,xs,B.xmo,B.xna,q⟩
def figs:Str:="0123456789"
theorem yC {c:Nat}(h:c < 128):(!(Builtin.Str.occurrences figs ⟨#[c]⟩ 0 figs.length 1).isEmpty)=decide (48<=c/\c<=57):=by
 have q:∀ k:Fin 128,(!(Builtin.Str.occurrences figs ⟨#[k.val]⟩ 0 figs.length 1).isEmpty)=decide (48<=k.val/\k.val<=57):=by decide +kernel
 exact q ⟨c,h⟩
theorem AR2 {u:Str}(h:hV u=true):(u.cps.toList.map fun c=>!(Builtin.Str.occurrences figs ⟨#[c]⟩ 0 figs.length 1).isEmpty).all id=decide (∀ c∈u.cps.toList,48<=c/\c<=57):=by
 rw [Bool.eq_iff_iff,List.all_eq_true,decide_eq_true_eq]
 constructor
 ·intro z c hc
  have q:=z _ (List.mem_map.mpr ⟨c,hc,rfl⟩)
  rw [yC (plain_iff.mp h c hc)] at q
  simpa using q
 ·intro z x hx
  obtain ⟨c,hc,rfl⟩:=List.mem_map.mp hx
  rw [yC (plain_iff.mp h c hc)]
  exact decide_eq_true (z c hc)
theorem tQ (B:Bt K mg a)(F:Fun K "is_figures" "is_figures" dO f fd):FnOk P w K mg base CX0 1 f fd ["word"] (lZ K a):=by
 refine F.ok tN (fun vs H Q E h=>?_) (fun cdv A outer s H vs Q E hr h=>?_)
 ·obtain ⟨u,rfl,_⟩:=h
  rfl
 obtain ⟨u,rfl,hp,hl,q⟩:=h
 refine fP ⟨_,(aC (bG (L2.PW.pt (iE (aQ qQ (aU cY rfl B.len PySem.boot_len (aJ (aO (pv 0) aD))) aM (aW _)) (iE (aQ uP (aU cY rfl B.len PySem.boot_len (aJ (aO (pv 0) aD))) (cR (v:=.int 60) rfl B.MOST_FIGURES ⟨_,rfl⟩) (aW _)) (eC (gI (cP (aU (sP rfl) rfl B.all PyProof.Rows.boot_all (aJ (aO (dI ["sign"] [none] rfl (by kernel_rfl) (zP (pv 0)) (fun cl C s H fp=>⟨(bO (i:=0) (by decide:List.Nodup (["sign"]:List Str)) rfl (Or.inl (by kernel_rfl)) (Or.inr (by kernel_rfl))),iG,(cS uQ (pv 0 (hv:=Or.inl (by kernel_rfl))) (cR (v:=.str "0123456789") (qT (by kernel_rfl)) B.FIGURES ⟨_,rfl⟩) (by with_unfolding_all rfl))⟩)) aD)) (he:=aB _ _ _ rfl) (hpl:=aG rfl)))))))) (aH (aT (aR lL))) aS) (aH (aT (aR (BE7 (cS bY (pv 0) aK (aW _)) (nX (AD9 (iY PySem.F.plainAttrs_str PySem.F.slot_str_startswith PySem.F.type_str_startswith lT (pv 0) (aJ (aO aK aD)))))))))),?_⟩
 have e0:¬ (1<=u.length/\u.length<=60/\∀ c∈u.cps.toList,48<=c/\c<=57)->mS u=false:=fun z=>by unfold mS; rw [decide_eq_false z]; rfl
 nofun
 refine ⟨sz8 hl,?_⟩
 by_cases h1:((u.length:Nat):Int) < 1
 ·rw [if_pos h1]
  rw [e0 (fun z=>by have:=z.1; omega)] at q
  exact q _ fun _ _ z=>z
 rw [if_neg h1]
 refine ⟨sz8 hl,?_⟩
 by_cases h2:(60:Int) < ((u.length:Nat):Int)
 ·rw [if_pos h2]
  rw [e0 (fun z=>by have:=z.2.1; omega)] at q
  exact q _ fun _ _ z=>z
 rw [if_neg h2]
 refine ⟨hp,?_⟩
 refine CompS.by (fun i acc σ H'=>acc=(u.cps.toList.take i).map (fun c=>V.bl (!(Builtin.Str.occurrences figs ⟨#[c]⟩ 0 figs.length 1).isEmpty))/\(∃ v,σ=[v])/\H'=H) (sz8 hl) ⟨rfl,⟨_,rfl⟩,rfl⟩ ?_ ?_ ?_
 ·rintro i c acc σ H' hc ⟨rfl,⟨v,rfl⟩,rfl⟩
  have hc':u.cps.toList[i]?=some c:=by simpa using hc
  have ea:(u.cps.toList.take i).map (fun c=>V.bl (!(Builtin.Str.occurrences figs ⟨#[c]⟩ 0 figs.length 1).isEmpty))++[V.bl (!(Builtin.Str.occurrences figs ⟨#[c]⟩ 0 figs.length 1).isEmpty)]=(u.cps.toList.take (i+1)).map (fun c=>V.bl (!(Builtin.Str.occurrences figs ⟨#[c]⟩ 0 figs.length 1).isEmpty)):=by
   rw [List.take_succ,hc',List.map_append]
   rfl
  nofun
  first | exact ea | exact ⟨ea,⟨_,rfl⟩,rfl⟩
 ·rintro i acc σ H' ⟨rfl,_,_⟩
  rw [List.length_map,List.length_take]
  omega
 ·rintro acc σ H' ⟨rfl,⟨v,rfl⟩,rfl⟩ D hD
  have e:(u.cps.toList.take u.cps.size).map (fun c=>V.bl (!(Builtin.Str.occurrences figs ⟨#[c]⟩ 0 figs.length 1).isEmpty))=(u.cps.toList.map fun c=>(!(Builtin.Str.occurrences figs ⟨#[c]⟩ 0 figs.length 1).isEmpty)).map V.bl:=by
   rw [List.take_of_length_le (by simp),List.map_map]
   rfl
  rw [e]
  refine ⟨D,rfl,_,SqL.of aA,?_⟩
  have S2:=aE hD (.lst ((u.cps.toList.map fun c=>(!(Builtin.Str.occurrences figs ⟨#[c]⟩ 0 figs.length 1).isEmpty)).map V.bl))
  generalize upd H' D (.lst ((u.cps.toList.map fun c=>(!(Builtin.Str.occurrences figs ⟨#[c]⟩ 0 figs.length 1).isEmpty)).map V.bl))=H2 at *
  rw [AR2 hp]
  by_cases c:∀ c∈u.cps.toList,48<=c/\c<=57
  ·rw [decide_eq_true c]
   have e2:mS u=(decide (u="0") || !Txt.startswith u "0"):=by unfold mS; rw [decide_eq_true ⟨by omega,by omega,c⟩,Bool.true_and]
   exists Bool.not_true
   rw [e2] at q
   by_cases z:u="0"
   ·rw [decide_eq_true z,Bool.true_or] at q
    rw [if_pos z]
    exact q _ S2
   ·rw [decide_eq_false z,Bool.false_or] at q
    rw [if_neg z]
    exact q _ S2
  ·rw [decide_eq_false c]
   rw [e0 (fun z=>c z.2.2)] at q
   exists Bool.not_false
   exact q _ S2
theorem vW (B:Bt K mg a)(iC:CalX P w K mg base "is_figures" ["word"] 1 (lZ K a))(F:Fun K "is_number" "is_number" eH f fd):FnOk P w K mg base CX0 2 f fd ["word"] (oF K a):=by
 refine F.ok vM (fun vs H Q E h=>?_) (fun cdv A outer s H vs Q E hr h=>?_)
 ·obtain ⟨u,rfl,_⟩:=h
  rfl
 obtain ⟨u,rfl,hp,hl,q⟩:=h
 refine fP ⟨_,(aC (bG (cP (iY PySem.F.plainAttrs_str PySem.F.slot_str_startswith PySem.F.type_str_startswith lT (pv 0) (aJ (aO aK aD)))) (aH (aT (aR (pG (aZ iC (hr.mono (by decide)) rfl (aJ (aO (cI zM (pv 0) (cU aM) dL) aD)) (he:=aB _ _ _ rfl) (hpl:=aG rfl)) (nX (cS uO (pv 0) aK (aW _))))))) aS) (aH (aT (aR (aZ iC (hr.mono (by decide)) rfl (aJ (aO (pv 0) aD)) (he:=aB _ _ _ rfl) (hpl:=aG rfl)))))),?_⟩
 nofun
 cases c:Txt.startswith u "-" with
 | true =>
  have e:pC u=(mS (Txt.slice u (some 1) none) && !decide (u="-0")):=by unfold pC; rw [if_pos c]
  rw [e] at q
  rw [if_pos rfl]
  refine ⟨sz8 hl,_,rfl,?_,Nat.le_trans (Txt.slice_le u _ _) hl,fun H1 S1=>?_⟩
  ·rw [plain_iff]
   intro c hc
   exact plain_iff.mp hp c (AJ1 hc)
  cases d:mS (Txt.slice u (some 1) none) with
  | true =>
   rw [d,Bool.true_and] at q
   nofun
   exact q _ S1
  | false =>
   rw [d,Bool.false_and] at q
   nofun
   exact q _ S1
 | false =>
  have e:pC u=mS u:=by unfold pC; rw [if_neg (by rw [c]; decide)]
  rw [e] at q
  rw [if_neg (by decide)]
  exact ⟨u,rfl,hp,hl,q⟩
theorem nE (B:Bt K mg a)(bK:CalI P w K mg base "NoText" a.NoText "line" 1 (.int 0))(F:Fun K "__init__" "Words.__init__" cB f fd):FnOk P w K mg base (CXF P w) 3 f fd ["self","text"] (eL K a):=by
 refine Fun.okX F mY (fun vs H Q E h=>?_) (fun cdv A outer s H vs Q E hr h=>?_)
 ·obtain ⟨p,dx,x,rfl,_⟩:=h
  rfl
 obtain ⟨p,dx,x,rfl,hp,q⟩:=h
 refine fP ⟨_,(aC (bG (gI (cP (aU (jS (K:=K) (T:="str") rfl) rfl B.isinstance PyProof.Rows.boot_isinstance (aJ (aO (pv 1) (aO (iW (v:=.ty "str") rfl B.str PyProof.Rows.boot_str rfl) aD))) (he:=aB _ _ _ rfl) (hpl:=aG rfl)))) (kL (iX (iN (R:=fun dx H9=>E (.ref a.NoText) (some dx) H9) bK rfl rfl (hr.mono (by decide)) mW))) aS) (aC (bQ (jQ (pv 0) (iY PySem.F.plainAttrs_str PySem.F.slot_str_split PySem.F.type_str_split zW (pv 1) (aJ (aO aK aD))) rfl)) (aH (bQ (jQ (pv 0) aM rfl))))),?_⟩
 nofun
 rcases q with ⟨u,rfl,hl,hz,q⟩ | ⟨⟨t,ty,e⟩,q⟩
 ·refine ⟨_,_,true,rfl,.str u,by kernel_rfl,?_⟩
  exists Bool.not_true
  refine ⟨by decide,Nat.le_trans (by omega) (show (200002:Nat)<=sizeLine by decide),by exact sz8 hz,fun l hl1=>?_⟩
  have nl:p≠l:=aP hp hl1
  have hp1:upd H l (.lst ((Txt.split u sp1).map V.str)) p=some (.ins a.Words dx []):=by rw [aN nl]; exact hp
  refine ⟨_,_,_,hp1,B.ck_Words.cl,B.na_Words_words,by decide,_,_,_,aA,B.ck_Words.cl,B.na_Words_at,(show 1 < 1000 by decide),?_⟩
  refine q l _ hl1 (fun b o n e=>?_) ⟨aA,?_⟩
  ·rw [aN n,aN n,aN (aP e hl1)]
   exact e
  ·rw [aN nl.symm,aN nl.symm]
   exact aA
 ·refine ⟨_,_,false,rfl,ty,e,?_⟩
  exists Bool.not_false
  exact fun y hy=>q y _ (aE hy _) aA
theorem nG (B:Bt K mg a)(F:Fun K "is_ended" "Words.is_ended" cC f fd):FnOk P w K mg base CX0 1 f fd ["self"] (iS K a):=by
 refine F.ok mZ (fun vs H Q E h=>?_) (fun cdv A outer s H vs Q E hr h=>?_)
 ·obtain ⟨wp,dw,wl,ts,i,rfl,_⟩:=h
  rfl
 obtain ⟨wp,dw,wl,ts,i,rfl,W,q⟩:=h
 refine fP ⟨_,(aH (aT (aR (cS bY (cH (pv 0) rfl) (aU bB rfl B.len PySem.boot_len (aJ (aO (cH (pv 0) rfl) aD))) (aW _))))),?_⟩
 nofun
 refine ⟨_,_,_,W.w,B.ck_Words.cl,B.na_Words_at,.int i,rfl,?_⟩
 nofun
 refine ⟨_,_,_,W.w,B.ck_Words.cl,B.na_Words_words,.ref wl,rfl,?_⟩
 refine ⟨wl,rfl,_,.inl (SqL.of W.l),?_⟩
 exists List.length_map
 exact q
theorem tR (B:Bt K mg a)(F:Fun K "look" "Words.look" dP f fd):FnOk P w K mg base CX0 1 f fd ["self"] (mD K a):=by
 refine F.ok tO (fun vs H Q E h=>?_) (fun cdv A outer s H vs Q E hr h=>?_)
 ·obtain ⟨wp,dw,wl,ts,i,rfl,_⟩:=h
  rfl
 obtain ⟨wp,dw,wl,ts,i,rfl,W,q⟩:=h
 refine fP ⟨_,(aH (aT (aR (AN2 (aQ qQ (cH (pv 0) rfl) (aU bB rfl B.len PySem.boot_len (aJ (aO (cH (pv 0) rfl) aD))) (aW _)) (bN bJ (cH (pv 0) rfl) (cH (pv 0) rfl) (fun _ _=>rfl)) aK)))),?_⟩
 nofun
 refine ⟨_,_,_,W.w,B.ck_Words.cl,B.na_Words_at,.int i,rfl,?_⟩
 nofun
 refine ⟨_,_,_,W.w,B.ck_Words.cl,B.na_Words_words,.ref wl,rfl,?_⟩
 refine ⟨wl,rfl,_,.inl (SqL.of W.l),?_⟩
 exists List.length_map
 by_cases c:i < ts.length
 ·rw [if_pos (by omega)]
  refine ⟨_,_,_,W.w,B.ck_Words.cl,B.na_Words_words,.ref wl,rfl,?_⟩
  nofun
  refine ⟨_,_,_,W.w,B.ck_Words.cl,B.na_Words_at,.int i,rfl,?_⟩
  refine ixl (SqL.of W.l) (v:=.str (ts.getD i "")) ?_ q
  refine iF ?_
  rw [List.getElem?_map,List.getD_eq_getElem?_getD,List.getElem?_eq_getElem c]
  rfl
 ·rw [if_neg (by omega)]
  rw [(gQ (by omega)).1] at q
  exact q
theorem tS (B:Bt K mg a)(nN:∀ C sp,yA K a C sp->CalM P w K mg base C "look" ["self"] 1 sp)(F:Fun K "take" "Words.take" dQ f fd):FnOk P w K mg base CX0 2 f fd ["self"] (mE K a):=by
 refine F.ok sc_Words_take (fun vs H Q E h=>?_) (fun cdv A outer s H vs Q E hr h=>?_)
 ·obtain ⟨wp,dw,wl,ts,i,rfl,_⟩:=h
  rfl
 obtain ⟨wp,dw,wl,ts,i,rfl,W,q⟩:=h
 refine fP ⟨_,(aC (bC (i:=1) sc_Words_take.nd rfl (Or.inl rfl) (aR (cW (pv 0) nN zI (hr.mono (by decide)))) (by kernel_rfl)) (aC (bQ (AF0 (pv 0) aM BF7)) (aH (aT (aR (pv 1)))))),?_⟩
 nofun
 refine ⟨_,_,_,W.w,rfl,_,⟨rfl,rfl⟩,wp,dw,wl,ts,i,rfl,W,?_⟩
 nofun
 refine ⟨_,_,_,W.w,B.ck_Words.cl,B.na_Words_at,.int i,rfl,?_⟩
 nofun
 refine ⟨_,_,W.w,(show 2 < 1000 by decide),?_⟩
 exact q
theorem lB (B:Bt K mg a)(lE:∀ C sp,qF K a C sp->CalM P w K mg base C "is_ended" ["self"] 1 sp)(bK:CalI P w K mg base "NoText" a.NoText "line" 1 (.int 0))(F:Fun K "expect_end" "Words.expect_end" bT f fd):FnOk P w K mg base (CXF P w) 3 f fd ["self"] (gS K a):=by
 refine Fun.okX F kY (fun vs H Q E h=>?_) (fun cdv A outer s H vs Q E hr h=>?_)
 ·obtain ⟨wp,dw,wl,ts,i,rfl,_⟩:=h
  rfl
 obtain ⟨wp,dw,wl,ts,i,rfl,W,q⟩:=h
 refine fP ⟨_,(aH (bG (gI (cP (cW (pv 0) lE kH (hr.mono (by decide))))) (kL (iX (iN (R:=fun dx H9=>E (.ref a.NoText) (some dx) H9) bK rfl rfl (hr.mono (by decide)) mW))) aS)),?_⟩
 nofun
 refine ⟨_,_,_,W.w,rfl,_,⟨rfl,rfl⟩,wp,dw,wl,ts,i,rfl,W,?_⟩
 nofun
 rcases q with ⟨e,q⟩ | ⟨e,q⟩
 ·rw [if_neg (by omega)]
  exact q
 ·rw [if_pos (by omega)]
  exact fun y hy=>q y _ (aE hy _) aA
theorem kI (B:Bt K mg a)(eV:∀ C sp,qG K a C sp->CalM P w K mg base C "take" ["self"] 2 sp)(lF:CalX P w K mg base "is_number" ["word"] 2 (oF K a))(bK:CalI P w K mg base "NoText" a.NoText "line" 1 (.int 0))(F:Fun K "take_number" "Words.take_number" bM f fd):FnOk P w K mg base (CXF P w) 3 f fd ["self"] (fL K a):=by
 refine Fun.okX F sc_Words_take_number (fun vs H Q E h=>?_) (fun cdv A outer s H vs Q E hr h=>?_)
 ·obtain ⟨wp,dw,wl,ts,i,rfl,_⟩:=h
  rfl
 obtain ⟨wp,dw,wl,ts,i,rfl,W,ht,q⟩:=h
 refine fP ⟨_,(aC (bC (i:=1) sc_Words_take_number.nd rfl (Or.inl rfl) (aR (cW (pv 0) eV kH (hr.mono (by decide)))) (by kernel_rfl)) (aC (bG (gI (cP (jB lF (hr.mono (by decide)) rfl (aJ (aO (pv 1) aD)) (he:=aB _ _ _ rfl) (hpl:=aG rfl)))) (kL (iX (iN (R:=fun dx H9=>E (.ref a.NoText) (some dx) H9) bK rfl rfl (hr.mono (by decide)) mW))) aS) (aH (aT (aR (bH lU rfl B.int PyProof.Rows.boot_int (aJ (aO (pv 1) aD)))))))),?_⟩
 nofun
 refine ⟨_,_,_,W.w,rfl,_,⟨rfl,rfl⟩,wp,dw,wl,ts,i,rfl,W,?_⟩
 have W1:=W.take (i+1)
 have B1:But wp H (upd H wp (.ins a.Words dw (dH wl (i+1)))):=But.upd _
 generalize upd H wp (.ins a.Words dw (dH wl (i+1)))=H1 at *
 nofun
 refine ⟨_,rfl,ht.1,by have:=ht.2.1; omega,fun H2 S2=>?_⟩
 nofun
 rcases q with ⟨e,q⟩ | ⟨e,q⟩
 ·exists e,Bool.not_true
  obtain ⟨n,hn⟩:=ht.2.2 e
  have e2:pD (ts.getD i "")=n:=by unfold pD; rw [hn]; rfl
  refine ⟨n,hn,by have:=ht.2.1; omega,?_⟩
  rw [<- e2]
  exact q _ (B1.trans (Same.but S2)) (W1.same S2)
 ·exists e,Bool.not_false
  exact fun y hy=>q y _ (B1.trans (Same.but (S2.trans (aE hy _))))
theorem sB {ts:List Str}{i k:Nat}(h:k=i)(c:aY (ts.getD i "")):((ts.drop i).takeWhile fun u=>decide (aY u))=ts.getD i ""::((ts.drop (i+1)).takeWhile fun u=>decide (aY u)):=by
 by_cases hi:i < ts.length
 ·rw [fD hi,List.takeWhile_cons,decide_eq_true c,if_pos rfl]
 ·rw [(gQ (by omega)).1] at c
  exact absurd c (by decide)
theorem vX {ts:List Str}{i:Nat}(c:¬ aY (ts.getD i "")):((ts.drop i).takeWhile fun u=>decide (aY u))=[]:=by
 by_cases hi:i < ts.length
 ·rw [fD hi,List.takeWhile_cons,decide_eq_false c]
  rfl
 ·rw [(gQ (by omega)).2]
  rfl
def BI9 (a:Ad)(H:Hp)(wp dw wl l:Addr)(ts:List Str)(i:Nat)(σ:L2.St)(H1:Hp):Prop:=∃ (us:List Str) (k:Nat),σ=[some (.ref wp),some (.ref l)]/\But wp H H1/\WAt a.Words H1 wp dw wl ts k/\H1 l=some (.lst (us.map V.str))/\us.length<=k/\k=i+us.length/\k<=i+ts.length/\(i<=ts.length->k<=ts.length)/\us++((ts.drop k).takeWhile fun u=>decide (aY u))=((ts.drop i).takeWhile fun u=>decide (aY u))
theorem BC6 {ts:List Str}{i:Nat}(c:aY (ts.getD i "")):i < ts.length:=by
 by_cases hi:i < ts.length
 ·exact hi
 ·rw [(gQ (by omega)).1] at c
  exact absurd c (by decide)
theorem lC (B:Bt K mg a)(iV:CalX P w K mg base "is_name" ["thing"] 1 (nC K a))(nN:∀ C sp,yA K a C sp->CalM P w K mg base C "look" ["self"] 1 sp)(eV:∀ C sp,qG K a C sp->CalM P w K mg base C "take" ["self"] 2 sp)(F:Fun K "take_names" "Words.take_names" bU f fd):FnOk P w K mg base CX0 3 f fd ["self"] (gT K a):=by
 refine F.ok sc_Words_take_names (fun vs H Q E h=>?_) (fun cdv A outer s H vs Q E hr h=>?_)
 ·obtain ⟨wp,dw,wl,ts,i,rfl,_⟩:=h
  rfl
 obtain ⟨wp,dw,wl,ts,i,rfl,W,hT,hl,q⟩:=h
 refine fP ⟨_,(aC (bC (i:=1) sc_Words_take_names.nd rfl (Or.inl rfl) (gN aD) (by kernel_rfl)) (aC (bQ (jX PassesOwn.never (cP (aZ iV (hr.mono (by decide)) rfl (aJ (aO (cW (pv 0) nN zI (hr.mono (by decide))) aD)) (he:=aB _ _ _ rfl) (hpl:=aG rfl))) (iM (aH (bQ (dJ (iY PySem.F.plainAttrs_list PySem.F.slot_list_append PySem.F.type_list_append gL (pv 1) (aJ (aO (cW (pv 0) eV zI (hr.mono (by decide))) aD))))))))) (aH (aT (aR (pv 1)))))),?_⟩
 nofun
 refine ⟨Nat.zero_le _,fun l hl0=>?_⟩
 have S0:=aE hl0 (.lst [])
 have nl:l≠wp:=fun z=>by rw [z,W.w] at hl0; cases hl0
 have nl2:l≠wl:=fun z=>by rw [z,W.l] at hl0; cases hl0
 refine whl (BI9 a H wp dw wl l ts i) (fun _ H1=>3000+i - xZ wp H1) ⟨[],i,rfl,Same.but S0,W.same S0,aA,Nat.zero_le _,rfl,by omega,fun h=>h,by rw [List.nil_append]⟩ ?_
 rintro σ H1 ⟨us,k,rfl,B1,W1,e1,l1,ek,lk,lk2,eq⟩
 nofun
 refine ⟨_,_,_,W1.w,rfl,_,⟨rfl,rfl⟩,wp,dw,wl,ts,k,rfl,W1,?_⟩
 refine ⟨_,rfl,BC5 (AA4 hT k),fun H2 S2=>?_⟩
 have B2:=B1.trans (Same.but S2)
 have W2:=W1.same S2
 have e2:=S2 _ _ e1
 nofun
 by_cases c:aY (ts.getD k "")
 ·have cn:jC (.str (ts.getD k ""))=true:=decide_eq_true c
  rw [cn,if_pos rfl]
  have kl:=BC6 c
  refine ⟨fun σ' H'=>BI9 a H wp dw wl l ts i σ' H'/\3000+i - xZ wp H' < 3000+i - xZ wp H1,fun σ' H' h=>⟨_,h.2,rfl,h.1⟩,?_⟩
  nofun
  refine ⟨.inl ⟨rfl,_,SqL.of e2⟩,?_⟩
  nofun
  refine ⟨_,_,_,W2.w,rfl,_,⟨rfl,rfl⟩,wp,dw,wl,ts,k,rfl,W2,?_⟩
  have W3:=W2.take (k+1)
  have B3:But wp H (upd H2 wp (.ins a.Words dw (dH wl (k+1)))):=B2.trans (But.upd _)
  have e3:upd H2 wp (.ins a.Words dw (dH wl (k+1))) l=some (.lst (us.map V.str)):=by rw [aN nl]; exact e2
  generalize upd H2 wp (.ins a.Words dw (dH wl (k+1)))=H3 at *
  refine ⟨l,_,_,rfl,rfl,e3,?_,?_⟩
  ·rw [List.length_map]
   exact Nat.lt_of_le_of_lt (show us.length<=1000 by omega) (by decide)
  have W4:WAt a.Words (upd H3 l (.lst (us.map V.str++[.str (ts.getD k "")]))) wp dw wl ts (k+1):=⟨by rw [aN nl.symm]; exact W3.w,by rw [aN nl2.symm]; exact W3.l⟩
  refine ⟨⟨us++[ts.getD k ""],k+1,rfl,fun b o n e=>?_,W4,by rw [aA,List.map_append]; rfl,by rw [List.length_append,List.length_singleton]; omega,by rw [List.length_append,List.length_singleton]; omega,by omega,fun _=>by omega,?_⟩,?_⟩
  ·rw [aN (aP e hl0)]
   exact B3 b o n e
  ·rw [List.append_assoc,List.singleton_append,<- sB rfl c]
   exact eq
  ·rw [vP W4,vP W1]
   omega
 ·have cn:jC (.str (ts.getD k ""))=false:=decide_eq_false c
  rw [cn,if_neg (by decide)]
  rw [vX c,List.append_nil] at eq
  rw [<- eq] at q
  nofun
  refine q l H2 B2 hl0 e2 ?_
  rw [<- ek]
  exact W2
theorem qH (u:Str):∀ us:List Str,inV (.str u) (us.map V.str)=decide (u∈us)
 | []=>rfl
 | v::us=>by
  have e:inV (.str u) ((v::us).map V.str)=(eqV (.str v) (.str u) || inV (.str u) (us.map V.str)):=rfl
  rw [e,qH u us]
  have e2:eqV (.str v) (.str u)=decide (v=u):=by
   first | rfl | (unfold eqV; by_cases c:v=u <;> simp [c])
  rw [e2]
  by_cases c:v=u
  ·simp [c]
  ·have c':¬ u=v:=fun z=>c z.symm
   simp [c,c']
theorem vY:∀ us:List Str,(us.map V.str).all sI=true
 | []=>rfl
 | v::us=>by rw [List.map_cons,List.all_cons,vY us]; rfl
theorem lD (B:Bt K mg a)(iV:CalX P w K mg base "is_name" ["thing"] 1 (nC K a))(F:Fun K "are_unlike_names" "are_unlike_names" bS f fd):FnOk P w K mg base CX0 2 f fd ["thing"] (gR K a):=by
 refine F.ok kX (fun vs H Q E h=>?_) (fun cdv A outer s H vs Q E hr h=>?_)
 ·obtain ⟨x,b,rfl,_⟩:=h
  rfl
 obtain ⟨x,b,rfl,hx,q⟩:=h
 refine fP ⟨_,(aC (bG (L2.PW.pt (iE (gI (cP (aU (jS (K:=K) (T:="list") rfl) rfl B.isinstance PyProof.Rows.boot_isinstance (aJ (aO (pv 0) (aO (iW (v:=.ty "list") rfl B.list PyProof.Rows.boot_list rfl) aD))) (he:=aB _ _ _ rfl) (hpl:=aG rfl)))) (eC (gI (cP (aU (sP rfl) rfl B.all PyProof.Rows.boot_all (aJ (aO (dI ["name"] [none] rfl (by kernel_rfl) (mT (pv 0)) (fun cl C s H fp=>⟨(bO (i:=0) (by decide:List.Nodup (["name"]:List Str)) rfl (Or.inl (by kernel_rfl)) (Or.inr (by kernel_rfl))),iG,(aZ iV (hr.mono (by decide)) (qT (by kernel_rfl)) (aJ (aO (pv 0 (hv:=Or.inl (by kernel_rfl))) aD)) (he:=aB _ _ _ rfl) (hpl:=aG rfl))⟩)) aD)) (he:=aB _ _ _ rfl) (hpl:=aG rfl))))))) (aH (aT (aR lL))) aS) (aH (aT (aR (cS bY (aU vH rfl B.len PySem.boot_len (aJ (aO (bH (vG rfl) rfl B.set PyProof.Rows.boot_set (aJ (aO (pv 0) aD))) aD))) (aU bB rfl B.len PySem.boot_len (aJ (aO (pv 0) aD))) (aW _)))))),?_⟩
 nofun
 rcases hx with ⟨p,xs,rfl,hp,hl,hn,rfl⟩ | ⟨rfl,t,ty,e⟩
 ·refine ⟨_,_,true,rfl,.lst hp,by kernel_rfl,?_⟩
  exists Bool.not_true
  refine ⟨⟨xs,SqL.of hp⟩,?_⟩
  refine CompL.by (xs:=xs) (fun i acc σ H'=>acc=((xs.take i).map jC).map V.bl/\(∃ v,σ=[v])/\Same H H') (sz8 (by omega)) ⟨rfl,⟨_,rfl⟩,fun _ _ z=>z⟩ (fun i acc σ H' _ h=>SqL.of (h.2.2 _ _ hp)) ?_ ?_ ?_
  ·rintro i y acc σ H' hy ⟨rfl,⟨v,rfl⟩,S1⟩
   have ea:((xs.take i).map jC).map V.bl++[V.bl (jC y)]=((xs.take (i+1)).map jC).map V.bl:=by
    rw [List.take_succ,hy,List.map_append,List.map_append]
    rfl
   nofun
   refine ⟨y,rfl,(hn y (List.mem_of_getElem? hy)).same S1,fun H2 S2=>?_⟩
   first | exact ⟨ea,⟨_,rfl⟩,S1.trans S2⟩ | exact ⟨ea,S1.trans S2⟩
  ·rintro i acc σ H' ⟨rfl,_,_⟩
   rw [List.length_map,List.length_map,List.length_take]
   omega
  ·rintro acc σ H' ⟨rfl,⟨v,rfl⟩,S1⟩ D hD
   rw [List.take_length]
   have S2:=S1.trans (aE hD (.lst ((xs.map jC).map V.bl)))
   refine ⟨D,rfl,_,SqL.of aA,?_⟩
   have eall:(xs.map jC).all id=xs.all jC:=by rw [List.all_map]; rfl
   rw [eall]
   generalize upd H' D (.lst ((xs.map jC).map V.bl))=H2 at *
   by_cases ha:xs.all jC=true
   ·exists ha,Bool.not_true
    have es:=AL9 ha
    have hz:(xs.map AL7).length=xs.length:=List.length_map ..
    refine ⟨xs.map AL7,by rw [<- es]; exact SqL.of (S2 _ _ hp),by omega,fun p3 h3=>?_⟩
    have S3:=aE h3 (vF P w p3 (xs.map AL7))
    refine ⟨xs.map AL7,aA,?_⟩
    nofun
    refine ⟨xs,.inl (SqL.of (S3 _ _ (S2 _ _ hp))),?_⟩
    nofun
    have hq:=q _ (S2.trans S3)
    have ed:rZ xs=decide ((((jM (xs.map AL7)).length:Nat):Int)=((xs.length:Nat):Int)):=by
     unfold rZ
     rw [ha,Bool.true_and]
     have:=zU (xs.map AL7)
     rw [hz] at this
     by_cases c:(xs.map AL7).Nodup
     ·rw [decide_eq_true c,decide_eq_true (by have:=this.mpr c; omega)]
     ·rw [decide_eq_false c,decide_eq_false (fun z=>c (this.mp (by omega)))]
    rw [ed] at hq
    exact hq
   ·have ha':=Bool.eq_false_iff.mpr ha
    exists ha',Bool.not_false
    have hq:=q _ S2
    unfold rZ at hq
    rw [ha',Bool.false_and] at hq
    exact hq
 ·refine ⟨x,t,false,rfl,ty,e,?_⟩
  exists Bool.not_false
  exact q _ fun _ _ z=>z
theorem qZ (B:Bt K mg a)(eB:CalX P w K mg base "are_unlike_names" ["thing"] 2 (gR K a))(F:Fun K "check_names" "check_names" dB f fd):FnOk P w K mg base (CXF P w) 3 f fd ["names"] (iJ K a):=by
 refine Fun.okX F qV (fun vs H Q E h=>?_) (fun cdv A outer s H vs Q E hr h=>?_)
 ·obtain ⟨l,us,rfl,_⟩:=h
  rfl
 obtain ⟨l,us,rfl,hl,⟨hg,l9⟩,q⟩:=h
 refine fP ⟨_,(aH (bG (L2.PW.pt (iE (gI (cP (jB eB (hr.mono (by decide)) rfl (aJ (aO (pv 0) aD)) (he:=aB _ _ _ rfl) (hpl:=aG rfl)))) (eC (aQ bY (aU bB rfl B.len PySem.boot_len (aJ (aO (pv 0) aD))) aM (aW _))))) (kL (iX (zJ (R:=fun H9=>E (.ref a.NoFit) none H9) rfl rfl B.NoFit B.exc_NoFit (fun _ _ _ _ _ _ _ I hx hE=>AT6 I hx hE)))) aS)),?_⟩
 nofun
 have hB:rZ (us.map V.str)=decide us.Nodup:=by
  unfold rZ
  have e1:(us.map V.str).all jC=true:=by
   rw [List.all_map,List.all_eq_true]
   intro u hu
   exact decide_eq_true (hg u hu)
  have e2:(us.map V.str).map AL7=us:=by rw [List.map_map]; exact List.map_id us
  rw [e1,e2,Bool.true_and]
 have hN:∀ y∈us.map V.str,okN H y:=fun y hy=>by
  obtain ⟨u,hu,rfl⟩:=List.mem_map.mp hy
  exact ⟨(sQ (hg u hu)).1,by have:=(sQ (hg u hu)).2; omega⟩
 refine ⟨_,_,rfl,.inl ⟨l,_,rfl,hl,by rw [List.length_map]; omega,hN,rfl⟩,fun H1 S1=>?_⟩
 rw [hB]
 by_cases nd:us.Nodup
 ·exists decide_eq_true nd,Bool.not_true
  refine ⟨_,.inl (SqL.of (S1 _ _ hl)),?_⟩
  exists List.length_map
  by_cases ne:us=[]
  ·rcases q with ⟨c,_⟩ | ⟨_,q⟩
   ·exact absurd ne c.1
   ·rw [if_pos (by rw [ne]; rfl)]
    exact q _ S1
  ·have l0:us.length≠0:=fun z=>ne (List.eq_nil_of_length_eq_zero z)
   rw [if_neg (by omega)]
   rcases q with ⟨_,q⟩ | ⟨c,_⟩
   ·exact q _ S1
   ·exact absurd ⟨ne,nd⟩ c
 ·exists decide_eq_false nd,Bool.not_false
  rcases q with ⟨c,_⟩ | ⟨_,q⟩
  ·exact absurd c.2 nd
  ·exact q _ S1
theorem vZ (B:Bt K mg a)(F:Fun K "check_fit" "check_fit" eI f fd):FnOk P w K mg base CX0 1 f fd ["fit"] (jU K a):=by
 refine F.ok vN (fun vs H Q E h=>?_) (fun cdv A outer s H vs Q E hr h=>?_)
 ·obtain ⟨v,t,rfl,_⟩:=h
  rfl
 obtain ⟨v,t,rfl,h,q⟩:=h
 refine fP ⟨_,(aH (bG (gI (cP (aU (dX (K:=K) rfl) rfl B.isinstance PyProof.Rows.boot_isinstance (aJ (aO (pv 0) (aO (cR (v:=.ref _) rfl B.Fit rfl) aD))) (he:=aB _ _ _ rfl) (hpl:=aG rfl)))) (kL uL) aS)),?_⟩
 nofun
 obtain ⟨p,dx,fs,rfl,hp,_⟩:=h.ins
 have hk:ClsK K (t.cls (fc a))/\kitOne K (.ref (t.cls (fc a))) (.ref a.Fit)=some true:=by
  cases t with
  | any=>exact ⟨B.ck_Any,B.is_Any_Fit⟩
  | kind us=>exact ⟨B.ck_Kind,B.is_Kind_Fit⟩
  | place us=>exact ⟨B.ck_Place,B.is_Place_Fit⟩
  | weight n=>exact ⟨B.ck_Least,B.is_Least_Fit⟩
  | not t=>exact ⟨B.ck_Not,B.is_Not_Fit⟩
  | both ts=>exact ⟨B.ck_Both,B.is_Both_Fit⟩
  | either ts=>exact ⟨B.ck_Either,B.is_Either_Fit⟩
 refine ⟨_,_,_,true,rfl,hk.1.ty hp,hk.2,?_⟩
 exists Bool.not_true
 exact q
theorem tT (B:Bt K mg a)(eY:CalX P w K mg base "check_fit" ["fit"] 1 (jU K a))(F:Fun K "check_fits" "check_fits" dR f fd):FnOk P w K mg base CX0 2 f fd ["fits"] (jH K a):=by
 refine F.ok sc_check_fits (fun vs H Q E h=>?_) (fun cdv A outer s H vs Q E hr h=>?_)
 ·obtain ⟨l,xs,ts,rfl,_⟩:=h
  rfl
 obtain ⟨l,xs,ts,rfl,hl,hf,l2,l100,q⟩:=h
 refine fP ⟨_,(aC (bG (L2.PW.pt (iE (gI (cP (aU (jS (K:=K) (T:="list") rfl) rfl B.isinstance PyProof.Rows.boot_isinstance (aJ (aO (pv 0) (aO (iW (v:=.ty "list") rfl B.list PyProof.Rows.boot_list rfl) aD))) (he:=aB _ _ _ rfl) (hpl:=aG rfl)))) (eC (aQ qQ (aU bB rfl B.len PySem.boot_len (aJ (aO (pv 0) aD))) aM (aW _))))) (kL uL) aS) (aH (bQ (uN PassesOwn.never rfl (mT (pv 0)) (bO (i:=1) sc_check_fits.nd rfl (Or.inl rfl)) (iM (aH (bQ (dJ (aZ eY (hr.mono (by decide)) rfl (aJ (aO (pv 1) aD)) (he:=aB _ _ _ rfl) (hpl:=aG rfl)))))))))),?_⟩
 nofun
 refine ⟨_,_,true,rfl,.lst hl,by kernel_rfl,?_⟩
 exists Bool.not_true
 refine ⟨_,.inl (SqL.of hl),?_⟩
 rw [if_neg (by omega)]
 refine ⟨⟨_,SqL.of hl⟩,?_⟩
 refine ForL.by (xs:=xs) (fun _ σ H1=>(∃ v,σ=[some (.ref l),v])/\H1=H) ⟨⟨_,rfl⟩,rfl⟩ (fun i σ H1 _ h=>by rw [h.2]; exact SqL.of hl) ?_ ?_
 ·rintro i y σ H1 hy ⟨⟨v,rfl⟩,rfl⟩
  obtain ⟨t,_,ht⟩:=hf.get hy
  nofun
  refine ⟨y,t,rfl,ht,?_⟩
  first | exact ⟨⟨_,rfl⟩,rfl⟩ | trivial
 ·rintro σ H1 ⟨⟨v,rfl⟩,rfl⟩
  first | exact q | (nofun; exact q)
theorem oP (B:Bt K mg a)(dF:CalX P w K mg base "check_names" ["names"] 3 (iJ K a))(F:Fun K "__init__" "Kind.__init__" cL f fd):FnOk P w K mg base (CXF P w) 4 f fd ["self","names"] (fE K a):=by
 refine Fun.okX F oK (fun vs H Q E h=>?_) (fun cdv A outer s H vs Q E hr h=>?_)
 ·obtain ⟨p,dx,l,us,rfl,_⟩:=h
  rfl
 obtain ⟨p,dx,l,us,rfl,hp,hl,hok,q⟩:=h
 refine fP ⟨_,(aC (bQ (dJ (jB dF (hr.mono (by decide)) rfl (aJ (aO (pv 1) aD)) (he:=aB _ _ _ rfl) (hpl:=aG rfl)))) (aH (bQ (jQ (pv 0) (bH dN rfl B.list PyProof.Rows.boot_list (aJ (aO (pv 1) aD))) rfl)))),?_⟩
 nofun
 refine ⟨l,us,rfl,hl,hok,?_⟩
 rcases q with ⟨c,q⟩ | ⟨c,q⟩
 ·refine .inl ⟨c,fun H1 S1=>?_⟩
  nofun
  refine ⟨_,.inl (SqL.of (S1 _ _ hl)),fun p2 h2=>?_⟩
  have S2:=aE h2 (.lst (us.map V.str))
  refine ⟨_,_,_,S2 _ _ (S1 _ _ hp),B.ck_Kind.cl,B.na_Kind_names,by decide,?_⟩
  refine q p2 _ (fun b o n e=>?_) (S1.free h2) ?_ aA
  ·rw [aN n]
   exact S2 _ _ (S1 _ _ e)
  ·rw [aN (aP (S1 _ _ hp) h2).symm]
   exact aA
 ·exact .inr ⟨c,q⟩
theorem nI (B:Bt K mg a)(dF:CalX P w K mg base "check_names" ["names"] 3 (iJ K a))(F:Fun K "__init__" "Place.__init__" cD f fd):FnOk P w K mg base (CXF P w) 4 f fd ["self","names"] (eM K a):=by
 refine Fun.okX F nA (fun vs H Q E h=>?_) (fun cdv A outer s H vs Q E hr h=>?_)
 ·obtain ⟨p,dx,l,us,rfl,_⟩:=h
  rfl
 obtain ⟨p,dx,l,us,rfl,hp,hl,hok,q⟩:=h
 refine fP ⟨_,(aC (bQ (dJ (jB dF (hr.mono (by decide)) rfl (aJ (aO (pv 1) aD)) (he:=aB _ _ _ rfl) (hpl:=aG rfl)))) (aH (bQ (jQ (pv 0) (bH dN rfl B.list PyProof.Rows.boot_list (aJ (aO (pv 1) aD))) rfl)))),?_⟩
 nofun
 refine ⟨l,us,rfl,hl,hok,?_⟩
 rcases q with ⟨c,q⟩ | ⟨c,q⟩
 ·refine .inl ⟨c,fun H1 S1=>?_⟩
  nofun
  refine ⟨_,.inl (SqL.of (S1 _ _ hl)),fun p2 h2=>?_⟩
  have S2:=aE h2 (.lst (us.map V.str))
  refine ⟨_,_,_,S2 _ _ (S1 _ _ hp),B.ck_Place.cl,B.na_Place_names,by decide,?_⟩
  refine q p2 _ (fun b o n e=>?_) (S1.free h2) ?_ aA
  ·rw [aN n]
   exact S2 _ _ (S1 _ _ e)
  ·rw [aN (aP (S1 _ _ hp) h2).symm]
   exact aA
 ·exact .inr ⟨c,q⟩
theorem nJ (B:Bt K mg a)(gW:CalX P w K mg base "is_whole_from" ["thing","least"] 2 (jO K a))(F:Fun K "__init__" "Least.__init__" cE f fd):FnOk P w K mg base (CXF P w) 3 f fd ["self","weight"] (eN K a):=by
 refine Fun.okX F nB (fun vs H Q E h=>?_) (fun cdv A outer s H vs Q E hr h=>?_)
 ·obtain ⟨p,dx,n,rfl,_⟩:=h
  rfl
 obtain ⟨p,dx,n,rfl,hp,q⟩:=h
 refine fP ⟨_,(aC (bG (gI (cP (jB gW (hr.mono (by decide)) rfl (aJ (aO (pv 1) (aO aM aD))) (he:=aB _ _ _ rfl) (hpl:=aG rfl)))) (kL (iX (zJ (R:=fun H9=>E (.ref a.NoFit) none H9) rfl rfl B.NoFit B.exc_NoFit (fun _ _ _ _ _ _ _ I hx hE=>AT6 I hx hE)))) aS) (aH (bQ (jQ (pv 0) (pv 1) rfl)))),?_⟩
 nofun
 refine ⟨_,_,rfl,⟨_,.int n,by kernel_rfl,by kernel_rfl⟩,?_⟩
 rcases q with ⟨n0,q⟩ | ⟨n0,q⟩
 ·have e:AP2 (.int n) 0=true:=decide_eq_true n0
  exists e
  exact ⟨_,_,_,hp,B.ck_Least.cl,B.na_Least_weight,by decide,q⟩
 ·have e:AP2 (.int n) 0=false:=decide_eq_false n0
  exists e
  exact q
theorem qI (B:Bt K mg a)(eY:CalX P w K mg base "check_fit" ["fit"] 1 (jU K a))(F:Fun K "__init__" "Not.__init__" cX f fd):FnOk P w K mg base CX0 2 f fd ["self","fit"] (gU K a):=by
 refine F.ok pY (fun vs H Q E h=>?_) (fun cdv A outer s H vs Q E hr h=>?_)
 ·obtain ⟨p,dx,v,t,rfl,_⟩:=h
  rfl
 obtain ⟨p,dx,v,t,rfl,hp,hf,q⟩:=h
 refine fP ⟨_,(aC (bQ (dJ (aZ eY (hr.mono (by decide)) rfl (aJ (aO (pv 1) aD)) (he:=aB _ _ _ rfl) (hpl:=aG rfl)))) (aH (bQ (jQ (pv 0) (pv 1) rfl)))),?_⟩
 nofun
 refine ⟨v,t,rfl,hf,?_⟩
 nofun
 exact ⟨_,_,_,hp,B.ck_Not.cl,B.na_Not_fit,by decide,q⟩
theorem oQ (B:Bt K mg a)(dW:CalX P w K mg base "check_fits" ["fits"] 2 (jH K a))(F:Fun K "__init__" "Both.__init__" cM f fd):FnOk P w K mg base CX0 3 f fd ["self","fits"] (fG K a):=by
 refine F.ok oM (fun vs H Q E h=>?_) (fun cdv A outer s H vs Q E hr h=>?_)
 ·obtain ⟨p,dx,l,xs,ts,rfl,_⟩:=h
  rfl
 obtain ⟨p,dx,l,xs,ts,rfl,hp,hl,hf,l2,l100,q⟩:=h
 refine fP ⟨_,(aC (bQ (dJ (aZ dW (hr.mono (by decide)) rfl (aJ (aO (pv 1) aD)) (he:=aB _ _ _ rfl) (hpl:=aG rfl)))) (aH (bQ (jQ (pv 0) (bH dN rfl B.list PyProof.Rows.boot_list (aJ (aO (pv 1) aD))) rfl)))),?_⟩
 nofun
 refine ⟨l,xs,ts,rfl,hl,hf,l2,l100,?_⟩
 nofun
 refine ⟨_,.inl (SqL.of hl),fun p2 h2=>?_⟩
 have S2:=aE h2 (.lst xs)
 refine ⟨_,_,_,S2 _ _ hp,B.ck_Both.cl,B.na_Both_fits,by decide,?_⟩
 refine q p2 _ (fun b o n e=>?_) h2 ?_ aA
 ·rw [aN n]
  exact S2 _ _ e
 ·rw [aN (aP hp h2).symm]
  exact aA
theorem mK (B:Bt K mg a)(dW:CalX P w K mg base "check_fits" ["fits"] 2 (jH K a))(F:Fun K "__init__" "Either.__init__" bV f fd):FnOk P w K mg base CX0 3 f fd ["self","fits"] (dZ K a):=by
 refine F.ok lX (fun vs H Q E h=>?_) (fun cdv A outer s H vs Q E hr h=>?_)
 ·obtain ⟨p,dx,l,xs,ts,rfl,_⟩:=h
  rfl
 obtain ⟨p,dx,l,xs,ts,rfl,hp,hl,hf,l2,l100,q⟩:=h
 refine fP ⟨_,(aC (bQ (dJ (aZ dW (hr.mono (by decide)) rfl (aJ (aO (pv 1) aD)) (he:=aB _ _ _ rfl) (hpl:=aG rfl)))) (aH (bQ (jQ (pv 0) (bH dN rfl B.list PyProof.Rows.boot_list (aJ (aO (pv 1) aD))) rfl)))),?_⟩
 nofun
 refine ⟨l,xs,ts,rfl,hl,hf,l2,l100,?_⟩
 nofun
 refine ⟨_,.inl (SqL.of hl),fun p2 h2=>?_⟩
 have S2:=aE h2 (.lst xs)
 refine ⟨_,_,_,S2 _ _ hp,B.ck_Either.cl,B.na_Either_fits,by decide,?_⟩
 refine q p2 _ (fun b o n e=>?_) h2 ?_ aA
 ·rw [aN n]
  exact S2 _ _ e
 ·rw [aN (aP hp h2).symm]
  exact aA
theorem mL (B:Bt K mg a)(F:Fun K "__init__" "Opened.__init__" bW f fd):FnOk P w K mg base CX0 1 f fd ["self","sign"] (eA K a):=by
 refine F.ok lY (fun vs H Q E h=>?_) (fun cdv A outer s H vs Q E hr h=>?_)
 ·obtain ⟨p,dx,s,rfl,_⟩:=h
  rfl
 obtain ⟨p,dx,s,rfl,hp,q⟩:=h
 refine fP ⟨_,(aC (bQ (jQ (pv 0) (pv 1) rfl)) (aH (bQ (jQ (pv 0) (gK (aJ aD)) rfl)))),?_⟩
 nofun
 refine ⟨_,_,_,hp,B.ck_Opened.cl,B.na_Opened_sign,by decide,?_⟩
 refine ⟨Nat.zero_le _,fun il hil=>?_⟩
 have nl:il≠p:=fun z=>by rw [z,aA] at hil; cases hil
 have h0:H il=none:=by rw [aN nl] at hil; exact hil
 have e1:upd (upd H p (.ins a.Opened dx (rG "sign" (.str s) []))) il (.lst []) p=some (.ins a.Opened dx [("sign",.str s)]):=by rw [aN nl.symm]; exact aA
 refine ⟨_,_,_,e1,B.ck_Opened.cl,B.na_Opened_inner,(show 1 < 1000 by decide),?_⟩
 refine q il _ h0 (fun b o n e=>?_) (by rw [aN nl]; exact aA) aA
 rw [aN n,aN (aP e h0),aN n]
 exact e
theorem nK (B:Bt K mg a)(eV:∀ C sp,qG K a C sp->CalM P w K mg base C "take" ["self"] 2 sp)(bK:CalI P w K mg base "NoText" a.NoText "line" 1 (.int 0))(F:Fun K "is_closed_here" "is_closed_here" cG f fd):FnOk P w K mg base (CXF P w) 3 f fd ["bracket","words"] (iU K a):=by
 refine Fun.okX F sc_is_closed_here (fun vs H Q E h=>?_) (fun cdv A outer s H vs Q E hr h=>?_)
 ·obtain ⟨wp,dw,wl,op,ts,i,f,fs,G,rfl,_⟩:=h
  rfl
 obtain ⟨wp,dw,wl,op,ts,i,f,fs,G,rfl,hP,q1,q2,q3⟩:=h
 refine fP ⟨_,(aC (bC (i:=2) sc_is_closed_here.nd rfl (Or.inl rfl) (aR (cW (pv 1) eV kH (hr.mono (by decide)))) (by kernel_rfl)) (aC (bG (aQ bY (pv 2) aK (aW _)) (aH (aT (aR lL))) aS) (aC (bG (L2.PW.pt (iE (aQ gZ (pv 2) (cV (aJ (aO aK (aO aK aD)))) (by with_unfolding_all rfl)) (eC (aQ gZ (cH (pv 0) rfl) (cV (aJ (aO aK (aO (pv 2) aD)))) (by with_unfolding_all rfl))))) (kL (iX (iN (R:=fun dx H9=>E (.ref a.NoText) (some dx) H9) bK rfl rfl (hr.mono (by decide)) mW))) aS) (aC (bQ (jQ (pv 0) (pv 2) rfl)) (aH (aT (aR lL))))))),?_⟩
 have hf:=hP.F f List.mem_cons_self
 have hP1:=hP.take (i+1)
 have B1:But wp H (upd H wp (.ins a.Words dw (dH wl (i+1)))):=But.upd _
 nofun
 refine ⟨_,_,_,hP.W.w,rfl,_,⟨rfl,rfl⟩,wp,dw,wl,ts,i,rfl,hP.W,?_⟩
 generalize upd H wp (.ins a.Words dw (dH wl (i+1)))=H1 at *
 generalize ts.getD i ""=x at *
 nofun
 by_cases c1:x=")"
 ·rw [if_pos c1]
  exact q1 _ hP1 c1
 rw [if_neg c1]
 refine ⟨sz8 (by decide),fun p1 h1=>?_⟩
 have S1:=aE h1 (.tup [.str "&",.str "|"])
 refine ⟨p1,_,rfl,.inr (SqT.of aA),rfl,rfl,?_⟩
 have hP2:=hP1.same S1
 generalize upd H1 p1 (.tup [.str "&",.str "|"])=H2 at *
 have ei:inV (.str x) [.str "&",.str "|"]=decide (x="&"\/x="|"):=by
  rw [show ([.str "&",.str "|"]:List V)=([("&":Str),"|"]:List Str).map V.str from rfl,qH]
  simp
 rw [ei]
 by_cases c2:x="&"\/x="|"
 ·exists decide_eq_true c2,Bool.not_true
  refine ⟨_,_,_,(hP2.F f List.mem_cons_self).1,B.ck_Opened.cl,B.na_Opened_sign,.str f.sg,rfl,?_⟩
  refine ⟨sz8 (by decide),fun p2 h2=>?_⟩
  have S2:=aE h2 (.tup [.str "(",.str x])
  refine ⟨p2,_,rfl,.inr (SqT.of aA),rfl,rfl,?_⟩
  have hP3:=hP2.same S2
  generalize upd H2 p2 (.tup [.str "(",.str x])=H3 at *
  have ej:inV (.str f.sg) [.str "(",.str x]=decide (f.sg="("\/f.sg=x):=by
   rw [show ([.str "(",.str x]:List V)=([("(":Str),x]:List Str).map V.str from rfl,qH]
   simp
  rw [ej]
  by_cases c3:f.sg="("\/f.sg=x
  ·exists decide_eq_true c3,Bool.not_true
   refine ⟨_,_,_,(hP3.F f List.mem_cons_self).1,B.ck_Opened.cl,B.na_Opened_sign,(show 2 < 1000 by decide),?_⟩
   exact q2 _ hP3.sign c1 ⟨c2,c3⟩
  ·exists decide_eq_false c3,Bool.not_false
   exact fun y hy=>q3 c1 (fun z=>c3 z.2) y _ (hP3.K.trans (Same.but (aE hy _)))
 ·exists decide_eq_false c2,Bool.not_false
  exact fun y hy=>q3 c1 (fun z=>c2 z.1) y _ (hP2.K.trans (Same.but (aE hy _)))
theorem AM1 (B:Bt K mg a)(AM7:CalC P w K mg base "Not" a.Not ["self","fit"] 2 (gU K a))(yT:CalC P w K mg base "Both" a.Both ["self","fits"] 3 (fG K a))(qK:CalC P w K mg base "Either" a.Either ["self","fits"] 3 (dZ K a))(bK:CalI P w K mg base "NoText" a.NoText "line" 1 (.int 0))(F:Fun K "fit_of" "fit_of" kE f fd):FnOk P w K mg base (CXF P w) 5 f fd ["opened"] (qB K a):=by
 refine Fun.okX F AL6 (fun vs H Q E h=>?_) (fun cdv A outer s H vs Q E hr h=>?_)
 ·obtain ⟨r,d,il,sg,xs,inn,M,rfl,_⟩:=h
  rfl
 obtain ⟨r,d,il,sg,xs,inn,M,rfl,hr1,hil,hA,hM,hz,h0,h2,q⟩:=h
 refine fP ⟨_,(aC (bG (aQ bY (cH (pv 0) rfl) aK (aW _)) (aH (aT (aR (oC AM7 kH (hr.mono (by decide)) rfl (aJ (aO (bN bJ (cH (pv 0) rfl) aM (fun _ _=>rfl)) aD)) (he:=aB _ _ _ rfl) (hpl:=aG rfl))))) aS) (aC (bG (aQ bY (cH (pv 0) rfl) aK (aW _)) (aH (aT (aR (oC yT kH (hr.mono (by decide)) rfl (aJ (aO (cH (pv 0) rfl) aD)) (he:=aB _ _ _ rfl) (hpl:=aG rfl))))) aS) (aC (bG (aQ bY (cH (pv 0) rfl) aK (aW _)) (aH (aT (aR (oC qK kH (hr.mono (by decide)) rfl (aJ (aO (cH (pv 0) rfl) aD)) (he:=aB _ _ _ rfl) (hpl:=aG rfl))))) aS) (kL (iX (iN (R:=fun dx H9=>E (.ref a.NoText) (some dx) H9) bK rfl rfl (hr.mono (by decide)) mW)))))),?_⟩
 have ln:=hA.len
 nofun
 refine ⟨_,_,_,hr1,B.ck_Opened.cl,B.na_Opened_sign,.str sg,rfl,?_⟩
 nofun
 by_cases c1:sg="not"
 ·rw [if_pos c1]
  refine ⟨_,_,_,hr1,B.ck_Opened.cl,B.na_Opened_inner,.ref il,rfl,?_⟩
  cases hA with
  | nil=>exact absurd rfl (h0 c1)
  | @cons t v ts vs ht hr2 =>
   refine ixl (SqL.of hil) (v:=v) (show atI (v::vs) ((0:Nat):Int)=some v from iF rfl) ?_
   intro x dx hx hd ne
   have M0:=cZ (o:=.own x) (o':=.ins a.Not dx []) hx hd
   refine ⟨x,dx,v,t,rfl,aA,(ht.same tI).same M0,?_⟩
   nofun
   have SS:Same H (upd (upd (upd H dx (.own x)) x (.ins a.Not dx [])) x (.ins a.Not dx [("fit",v)])):=fun b o e=>by rw [aN (aP e hx)]; exact M0 b o e
   have em:mkF sg (t::ts)=some (.not t):=by unfold mkF; rw [if_pos c1]; rfl
   rcases q with ⟨t',e,q⟩ | ⟨e,_⟩
   ·rw [em] at e
    cases e
    exact q (.ref x) _ SS (by rw [Tr.Fit]; exact ⟨x,dx,v,rfl,jN (hM x hx) aA,ht.same (pE SS)⟩)
   ·rw [em] at e; cases e
 rw [if_neg c1]
 refine ⟨_,_,_,hr1,B.ck_Opened.cl,B.na_Opened_sign,.str sg,rfl,?_⟩
 nofun
 by_cases c2:sg="&"
 ·rw [if_pos c2]
  have em:mkF sg inn=some (.both (Trs.ofL inn)):=by unfold mkF; rw [if_neg c1,if_pos c2]
  refine ⟨_,_,_,hr1,B.ck_Opened.cl,B.na_Opened_inner,.ref il,rfl,?_⟩
  have l2:=h2 (.inl c2)
  intro x dx hx hd ne
  have M0:=cZ (o:=.own x) (o':=.ins a.Both dx []) hx hd
  refine ⟨x,dx,il,xs,inn,rfl,aA,M0 _ _ hil,hA.imp (fun t v _ h=>(h.same tI).same M0),by omega,hz,fun l' H' Bx hl' e1 e2=>?_⟩
  nofun
  have SS:=hZ hx hd Bx
  rcases q with ⟨t',e,q⟩ | ⟨e,_⟩
  ·rw [em] at e
   cases e
   exact q (.ref x) _ SS (by rw [Tr.Fit]; exact ⟨x,dx,l',xs,rfl,jN (hM x hx) e2,jN (hM l' (M0.free hl')) e1,trs_fit.mpr (by rw [bI]; exact hA.imp fun t v _ h=>h.same (pE SS))⟩)
  ·rw [em] at e; cases e
 rw [if_neg c2]
 refine ⟨_,_,_,hr1,B.ck_Opened.cl,B.na_Opened_sign,.str sg,rfl,?_⟩
 nofun
 by_cases c3:sg="|"
 ·rw [if_pos c3]
  have em:mkF sg inn=some (.either (Trs.ofL inn)):=by unfold mkF; rw [if_neg c1,if_neg c2,if_pos c3]
  refine ⟨_,_,_,hr1,B.ck_Opened.cl,B.na_Opened_inner,.ref il,rfl,?_⟩
  have l2:=h2 (.inr c3)
  intro x dx hx hd ne
  have M0:=cZ (o:=.own x) (o':=.ins a.Either dx []) hx hd
  refine ⟨x,dx,il,xs,inn,rfl,aA,M0 _ _ hil,hA.imp (fun t v _ h=>(h.same tI).same M0),by omega,hz,fun l' H' Bx hl' e1 e2=>?_⟩
  nofun
  have SS:=hZ hx hd Bx
  rcases q with ⟨t',e,q⟩ | ⟨e,_⟩
  ·rw [em] at e
   cases e
   exact q (.ref x) _ SS (by rw [Tr.Fit]; exact ⟨x,dx,l',xs,rfl,jN (hM x hx) e2,jN (hM l' (M0.free hl')) e1,trs_fit.mpr (by rw [bI]; exact hA.imp fun t v _ h=>h.same (pE SS))⟩)
  ·rw [em] at e; cases e
 rw [if_neg c3]
 have em:mkF sg inn=none:=by unfold mkF; rw [if_neg c1,if_neg c2,if_neg c3]
 rcases q with ⟨t',e,_⟩ | ⟨_,q⟩
 ·rw [em] at e; cases e
 ·exact fun y hy=>q y _ (aE hy _) aA
theorem sC {p:Str->Bool}:∀ l:List Str,l.dropWhile p=l.drop (l.takeWhile p).length
 | []=>rfl
 | a::l=>by
  rw [List.dropWhile_cons,List.takeWhile_cons]
  cases p a with
  | true=>exact sC l
  | false=>rfl
theorem tU {p:Str->Bool}:∀ l:List Str,(l.takeWhile p).length<=l.length
 | []=>Nat.zero_le _
 | a::l=>by
  rw [List.takeWhile_cons]
  cases p a with
  | true=>exact Nat.succ_le_succ (tU l)
  | false=>exact Nat.zero_le _
theorem FrOk.up {k i j:Nat}{f:OF}(h:FrOk k i f){k':Nat}(e:k'+i<=k+j):FrOk k' j f:=⟨h.1,by have:=h.2; omega⟩
def AR3 (a:Ad)(wp dw wl op:Addr)(ts:List Str)(i:Nat)(G:Hp)(R:Option (Tr × List Str × List Fm))(σ:L2.St)(H1:Hp):Prop:=∃ (k:Nat) (fs:List OF),σ=[some (.ref wp),some (.ref op),some (.str (ts.getD k ""))]/\PSt a.Words a.Opened (fc a) H1 wp dw wl ts (k+1) op fs G/\i<=k/\k<=ts.length/\(∀ f∈fs,FrOk 1 k f)/\fs.length<=k/\plainF (ts.drop k) (fs.map OF.fm)=R
theorem eU {ts:List Str}{k:Nat}{wd:Str}(c:ts.getD k ""=wd)(h:wd≠""):k < ts.length:=by
 by_cases z:k < ts.length
 ·exact z
 ·rw [(gQ (by omega)).1] at c
  exact absurd c.symm h
theorem BJ0 {ts:List Str}{S:List Fm}{k:Nat}(c:ts.getD k ""="any"):plainF (ts.drop k) S=some (.any,ts.drop (k+1),S):=by
 rw [fD (eU c (by decide)),bL,c,if_neg (by decide),if_pos rfl]
theorem yD {ts:List Str}{k:Nat}{p:Str->Bool}:(ts.drop k).dropWhile p=ts.drop (k+((ts.drop k).takeWhile p).length):=by
 rw [sC,List.drop_drop]
theorem BC7 {ts:List Str}{S:List Fm}{k:Nat}(c:ts.getD k ""="kind"):plainF (ts.drop k) S=if ((ts.drop (k+1)).takeWhile fun u=>decide (aY u))≠[]/\((ts.drop (k+1)).takeWhile fun u=>decide (aY u)).Nodup then some (.kind ((ts.drop (k+1)).takeWhile fun u=>decide (aY u)),ts.drop (k+1+((ts.drop (k+1)).takeWhile fun u=>decide (aY u)).length),S) else none:=by
 rw [fD (eU c (by decide)),bL,c,if_neg (by decide),if_neg (by decide),if_pos rfl,yD]
theorem AR4 {ts:List Str}{S:List Fm}{k:Nat}(c:ts.getD k ""="place"):plainF (ts.drop k) S=if ((ts.drop (k+1)).takeWhile fun u=>decide (aY u))≠[]/\((ts.drop (k+1)).takeWhile fun u=>decide (aY u)).Nodup then some (.place ((ts.drop (k+1)).takeWhile fun u=>decide (aY u)),ts.drop (k+1+((ts.drop (k+1)).takeWhile fun u=>decide (aY u)).length),S) else none:=by
 rw [fD (eU c (by decide)),bL,c,if_neg (by decide),if_neg (by decide),if_neg (by decide),if_pos rfl,yD]
theorem AM2 {ts:List Str}{S:List Fm}{k:Nat}(c:ts.getD k ""="weight"):plainF (ts.drop k) S=if pC (ts.getD (k+1) "")=true/\0<=pD (ts.getD (k+1) "") then some (.weight (pD (ts.getD (k+1) "")),ts.drop (k+2),S) else none:=by
 rw [fD (eU c (by decide)),bL,c,if_neg (by decide),if_neg (by decide),if_neg (by decide),if_neg (by decide),if_pos rfl]
 by_cases z:k+1 < ts.length
 ·rw [fD z]
 ·rw [(gQ (by omega)).1,(gQ (by omega)).2,if_neg (fun z=>absurd z.1 (by decide +kernel))]
theorem BC8 {ts:List Str}{S:List Fm}{k:Nat}(c1:¬ ts.getD k ""="not")(c2:¬ ts.getD k ""="(")(c3:¬ ts.getD k ""="any")(c4:¬ ts.getD k ""="kind")(c5:¬ ts.getD k ""="place")(c6:¬ ts.getD k ""="weight"):plainF (ts.drop k) S=none:=by
 by_cases z:k < ts.length
 ·rw [fD z,bL,if_neg (fun z=>z.elim c1 c2),if_neg c3,if_neg c4,if_neg c5,if_neg c6]
 ·rw [(gQ (by omega)).2]
  rfl
theorem nL (B:Bt K mg a)(eV:∀ C sp,qG K a C sp->CalM P w K mg base C "take" ["self"] 2 sp)(yU:CalC P w K mg base "Kind" a.Kind ["self","names"] 4 (fE K a))(tZ:CalC P w K mg base "Place" a.Place ["self","names"] 4 (eM K a))(uA:CalC P w K mg base "Least" a.Least ["self","weight"] 3 (eN K a))(qL:CalC P w K mg base "Opened" a.Opened ["self","sign"] 1 (eA K a))(fQ:∀ C sp,mI K a C sp->CalM P w K mg base C "take_names" ["self"] 3 sp)(iL:∀ C sp,kQ K a C sp->CalM P w K mg base C "take_number" ["self"] 3 sp)(bK:CalI P w K mg base "NoText" a.NoText "line" 1 (.int 0))(F:Fun K "plain_fit_from" "plain_fit_from" cF f fd):FnOk P w K mg base (CXF P w) 6 f fd ["words","opened"] (iT K a):=by
 refine Fun.okX F sc_plain_fit_from (fun vs H Q E h=>?_) (fun cdv A outer s H vs Q E hr h=>?_)
 ·obtain ⟨wp,dw,wl,op,ts,i,fs,G,rfl,_⟩:=h
  rfl
 obtain ⟨wp,dw,wl,op,ts,i,fs,G,rfl,hP,hT,hl,hi,hfl,hF,good,fail⟩:=h
 refine fP ⟨_,(aC (bC (i:=2) sc_plain_fit_from.nd rfl (Or.inl rfl) (aR (cW (pv 0) eV kH (hr.mono (by decide)))) (by kernel_rfl)) (aC (bQ (jX PassesOwn.leaving (L2.PW.pt (iE (aQ bY (pv 2) aK (aW _)) (eC (aQ bY (pv 2) aK (aW _))))) (iM (aC (bQ (dJ (iY PySem.F.plainAttrs_list PySem.F.slot_list_append PySem.F.type_list_append gL (pv 1) (aJ (aO (oC qL kH (hr.mono (by decide)) rfl (aJ (aO (pv 2) aD)) (he:=aB _ _ _ rfl) (hpl:=aG rfl)) aD))))) (aH (bC (i:=2) sc_plain_fit_from.nd rfl (Or.inl rfl) (aR (cW (pv 0) eV kH (hr.mono (by decide)))) (by kernel_rfl))))))) (aC (bG (aQ bY (pv 2) aK (aW _)) (aH (aT (aR (BA0 B.mk_Any rfl B.Any)))) aS) (aC (bG (aQ bY (pv 2) aK (aW _)) (aH (aT (aR (oC yU kH (hr.mono (by decide)) rfl (aJ (aO (cW (pv 0) fQ kH (hr.mono (by decide))) aD)) (he:=aB _ _ _ rfl) (hpl:=aG rfl))))) aS) (aC (bG (aQ bY (pv 2) aK (aW _)) (aH (aT (aR (oC tZ kH (hr.mono (by decide)) rfl (aJ (aO (cW (pv 0) fQ kH (hr.mono (by decide))) aD)) (he:=aB _ _ _ rfl) (hpl:=aG rfl))))) aS) (aC (bG (aQ bY (pv 2) aK (aW _)) (aH (aT (aR (oC uA kH (hr.mono (by decide)) rfl (aJ (aO (cW (pv 0) iL kH (hr.mono (by decide))) aD)) (he:=aB _ _ _ rfl) (hpl:=aG rfl))))) aS) (kL (iX (iN (R:=fun dx H9=>E (.ref a.NoText) (some dx) H9) bK rfl rfl (hr.mono (by decide)) mW))))))))),?_⟩
 generalize hR:plainF (ts.drop i) (fs.map OF.fm)=R at good fail
 nofun
 refine ⟨_,_,_,hP.W.w,rfl,_,⟨rfl,rfl⟩,wp,dw,wl,ts,i,rfl,hP.W,?_⟩
 have hP1:=hP.take (i+1)
 generalize upd H wp (.ins a.Words dw (dH wl (i+1)))=H1 at *
 nofun
 refine whl (AR3 a wp dw wl op ts i G R) (fun _ H1=>3000 - xZ wp H1) ⟨i,fs,rfl,hP1,Nat.le_refl _,hi,hF,hfl,hR⟩ ?_
 clear hP hP1 hF hR hfl
 rintro σ H2 ⟨k,fs,rfl,hP,hik,hk,hF,hfl,hR⟩
 nofun
 have push:∀ wd:Str,ts.getD k ""=wd->(wd="not"\/wd="(")->(∀ x dx il H3,H2 x=none->H2 il=none->Same H2 H3->H3 il=some (.lst [])->H3 x=some (.ins a.Opened dx (jF wd il))->AR3 a wp dw wl op ts i G R [some (.ref wp),some (.ref op),some (.str (ts.getD (k+1) ""))] (upd (upd H3 op (.lst ((fs.reverse.map fun f=>V.ref f.r)++[.ref x]))) wp (.ins a.Words dw (dH wl (k+2))))/\3000 - xZ wp (upd (upd H3 op (.lst ((fs.reverse.map fun f=>V.ref f.r)++[.ref x]))) wp (.ins a.Words dw (dH wl (k+2)))) < 3000 - xZ wp H2):=by
  intro wd e1 e2 x dx il H3 hx hil S3 eil ex
  have kl:k < ts.length:=by
   by_cases z:k < ts.length
   ·exact z
   ·rw [(gQ (by omega)).1] at e1
    rw [<- e1] at e2
    exact absurd e2 (by decide)
  have hP3:=(hP.push S3 hx hil ex eil).take (k+2)
  refine ⟨⟨k+1,_,rfl,hP3,by omega,by omega,fun f hf=>?_,by rw [List.length_cons]; omega,?_⟩,?_⟩
  ·rcases List.mem_cons.mp hf with rfl | hf
   ·exact ⟨e2.elim (fun z=>.inl ⟨z,rfl⟩) (fun z=>.inr (.inl ⟨z,rfl⟩)),by show 0+1<=k+1; omega⟩
   ·exact (hF f hf).up (by omega)
  ·rw [<- hR,fD kl,bL,if_pos (by rw [e1]; exact e2),e1]
   rfl
  ·rw [vP hP3.W,vP hP.W]
   omega
 by_cases c1:ts.getD k ""="not"
 ·rw [if_pos c1]
  refine ⟨fun σ' H'=>AR3 a wp dw wl op ts i G R σ' H'/\3000 - xZ wp H' < 3000 - xZ wp H2,fun σ' H' h=>⟨_,h.2,rfl,h.1⟩,.inl ⟨rfl,_,SqL.of hP.O⟩,fun x dx hx hd ne=>?_⟩
  have M0:=cZ (o:=.own x) (o':=.ins a.Opened dx []) hx hd
  refine ⟨x,dx,_,rfl,aA,fun il H3 hil B3 e1 e2=>⟨rfl,?_⟩⟩
  have S3:=hZ hx hd B3
  have hP3:=hP.push S3 hx (M0.free hil) e2 e1
  refine ⟨op,_,_,rfl,rfl,S3 _ _ hP.O,?_,_,_,_,hP3.W.w,rfl,_,⟨rfl,rfl⟩,wp,dw,wl,ts,k+1,rfl,hP3.W,?_⟩
  ·rw [List.length_map,List.length_reverse]
   exact Nat.lt_of_le_of_lt (show fs.length<=1000 by omega) (by decide)
  rw [c1] at e2
  exact push _ c1 (.inl rfl) x dx il H3 hx (M0.free hil) S3 e1 e2
 rw [if_neg c1]
 by_cases c2:ts.getD k ""="("
 ·rw [if_pos c2]
  refine ⟨fun σ' H'=>AR3 a wp dw wl op ts i G R σ' H'/\3000 - xZ wp H' < 3000 - xZ wp H2,fun σ' H' h=>⟨_,h.2,rfl,h.1⟩,.inl ⟨rfl,_,SqL.of hP.O⟩,fun x dx hx hd ne=>?_⟩
  have M0:=cZ (o:=.own x) (o':=.ins a.Opened dx []) hx hd
  refine ⟨x,dx,_,rfl,aA,fun il H3 hil B3 e1 e2=>⟨rfl,?_⟩⟩
  have S3:=hZ hx hd B3
  have hP3:=hP.push S3 hx (M0.free hil) e2 e1
  refine ⟨op,_,_,rfl,rfl,S3 _ _ hP.O,?_,_,_,_,hP3.W.w,rfl,_,⟨rfl,rfl⟩,wp,dw,wl,ts,k+1,rfl,hP3.W,?_⟩
  ·rw [List.length_map,List.length_reverse]
   exact Nat.lt_of_le_of_lt (show fs.length<=1000 by omega) (by decide)
  rw [c2] at e2
  exact push _ c2 (.inr rfl) x dx il H3 hx (M0.free hil) S3 e1 e2
 rw [if_neg c2]
 by_cases c3:ts.getD k ""="any"
 ·rw [if_pos c3]
  rw [BJ0 c3] at hR
  have kl:=eU c3 (by decide)
  intro x dx hx hd ne
  exact good _ _ _ hR.symm (.ref x) _ (k+1) fs rfl (by omega) (by omega) (hP.same (cZ hx hd)) rfl (fun f hf=>(hF f hf).up (by omega)) (by omega) (by rw [Tr.Fit]; exact ⟨x,dx,rfl,jN (hP.new hx) aA⟩)
 rw [if_neg c3]
 by_cases c4:ts.getD k ""="kind"
 ·rw [if_pos c4]
  rw [BC7 c4] at hR
  refine ⟨_,_,_,hP.W.w,rfl,_,⟨rfl,rfl⟩,wp,dw,wl,ts,k+1,rfl,hP.W,hT,hl,fun l H3 B3 hl0 el W3=>?_⟩
  have hP3:=hP.words B3 W3
  have tl:=tU (p:=fun u=>decide (aY u)) (ts.drop (k+1))
  rw [List.length_drop] at tl
  have kl:=eU c4 (by decide)
  have hg:∀ u∈((ts.drop (k+1)).takeWhile fun u=>decide (aY u)),aY u:=fun u hu=>of_decide_eq_true (p:=aY u) (lV (p:=fun u=>decide (aY u)) hu)
  generalize ((ts.drop (k+1)).takeWhile fun u=>decide (aY u))=us at *
  intro x dx hx hd ne
  have M0:=cZ (o:=.own x) (o':=.ins a.Kind dx []) hx hd
  refine ⟨x,dx,l,us,rfl,aA,M0 _ _ el,⟨hg,by omega⟩,?_⟩
  by_cases c:us≠[]/\us.Nodup
  ·rw [if_pos c] at hR
   refine .inl ⟨c,fun l' H' Bx hl' e1 e2=>⟨rfl,?_⟩⟩
   have SS:=hZ hx hd Bx
   exact good _ _ _ hR.symm (.ref x) _ (k+1+us.length) fs rfl (by omega) (by omega) (hP3.same SS) rfl (fun f hf=>(hF f hf).up (by omega)) (by omega) (by rw [Tr.Fit]; exact ⟨x,dx,l',rfl,jN (hP3.new hx) e2,jN (hP3.new (M0.free hl')) e1⟩)
  ·rw [if_neg c] at hR
   exact .inr ⟨c,fun H' S'=>fail hR.symm _ _ _ (.inl rfl) (hP3.K.trans (Same.but (M0.trans S')))⟩
 rw [if_neg c4]
 by_cases c5:ts.getD k ""="place"
 ·rw [if_pos c5]
  rw [AR4 c5] at hR
  refine ⟨_,_,_,hP.W.w,rfl,_,⟨rfl,rfl⟩,wp,dw,wl,ts,k+1,rfl,hP.W,hT,hl,fun l H3 B3 hl0 el W3=>?_⟩
  have hP3:=hP.words B3 W3
  have tl:=tU (p:=fun u=>decide (aY u)) (ts.drop (k+1))
  rw [List.length_drop] at tl
  have kl:=eU c5 (by decide)
  have hg:∀ u∈((ts.drop (k+1)).takeWhile fun u=>decide (aY u)),aY u:=fun u hu=>of_decide_eq_true (p:=aY u) (lV (p:=fun u=>decide (aY u)) hu)
  generalize ((ts.drop (k+1)).takeWhile fun u=>decide (aY u))=us at *
  intro x dx hx hd ne
  have M0:=cZ (o:=.own x) (o':=.ins a.Place dx []) hx hd
  refine ⟨x,dx,l,us,rfl,aA,M0 _ _ el,⟨hg,by omega⟩,?_⟩
  by_cases c:us≠[]/\us.Nodup
  ·rw [if_pos c] at hR
   refine .inl ⟨c,fun l' H' Bx hl' e1 e2=>⟨rfl,?_⟩⟩
   have SS:=hZ hx hd Bx
   exact good _ _ _ hR.symm (.ref x) _ (k+1+us.length) fs rfl (by omega) (by omega) (hP3.same SS) rfl (fun f hf=>(hF f hf).up (by omega)) (by omega) (by rw [Tr.Fit]; exact ⟨x,dx,l',rfl,jN (hP3.new hx) e2,jN (hP3.new (M0.free hl')) e1⟩)
  ·rw [if_neg c] at hR
   exact .inr ⟨c,fun H' S'=>fail hR.symm _ _ _ (.inl rfl) (hP3.K.trans (Same.but (M0.trans S')))⟩
 rw [if_neg c5]
 by_cases c6:ts.getD k ""="weight"
 ·rw [if_pos c6]
  rw [AM2 c6] at hR
  have kl:=eU c6 (by decide)
  refine ⟨_,_,_,hP.W.w,rfl,_,⟨rfl,rfl⟩,wp,dw,wl,ts,k+1,rfl,hP.W,AA4 hT _,?_⟩
  by_cases hn:pC (ts.getD (k+1) "")=true
  ·have kl2:=eU (ts:=ts) (k:=k+1) rfl (fun z=>by rw [z] at hn; exact absurd hn (by decide +kernel))
   refine .inl ⟨hn,fun H3 B3 W3=>?_⟩
   have hP3:=hP.words B3 W3
   intro x dx hx hd ne
   have M0:=cZ (o:=.own x) (o':=.ins a.Least dx []) hx hd
   refine ⟨x,dx,_,rfl,aA,?_⟩
   by_cases n0:0<=pD (ts.getD (k+1) "")
   ·rw [if_pos ⟨hn,n0⟩] at hR
    have SS:Same H3 (upd (upd (upd H3 dx (.own x)) x (.ins a.Least dx [])) x (.ins a.Least dx [("weight",.int (pD (ts.getD (k+1) "")))])):=fun b o e=>by rw [aN (aP e hx)]; exact M0 b o e
    exact .inl ⟨n0,rfl,good _ _ _ hR.symm (.ref x) _ (k+2) fs rfl (by omega) (by omega) (hP3.same SS) rfl (fun f hf=>(hF f hf).up (by omega)) (by omega) (by rw [Tr.Fit]; exact ⟨x,dx,rfl,jN (hP3.new hx) aA⟩)⟩
   ·rw [if_neg (fun z=>n0 z.2)] at hR
    exact .inr ⟨n0,fail hR.symm _ _ _ (.inl rfl) (hP3.K.trans (Same.but M0))⟩
  ·rw [if_neg (fun z=>hn z.1)] at hR
   exact .inr ⟨by simpa using hn,fun y H3 B3=>fail hR.symm _ _ _ (.inr rfl) (hP.K.trans B3)⟩
 rw [if_neg c6]
 rw [BC8 c1 c2 c3 c4 c5 c6] at hR
 exact fun y hy=>fail hR.symm _ _ _ (.inr rfl) (hP.K.trans (Same.but (aE hy _)))
theorem BC9 {xs:List V}{x:V}:atI (xs++[x]) (-1)=some x:=by
 unfold atI ixN
 rw [if_neg (by decide)]
 have e:(xs++[x]).length=xs.length+1:=by rw [List.length_append,List.length_singleton]
 rw [e]
 rw [if_pos (by omega)]
 show (xs++[x])[((-1:Int)+((xs.length+1:Nat):Int)).toNat]?=some x
 rw [show ((-1:Int)+((xs.length+1:Nat):Int)).toNat=xs.length by omega]
 simp
theorem BJ1 {f:Fm}{S:List Fm}{t:Tr}{r:List Str}(c:f.sg="not"):closeF (f::S) t r=closeF S (.not t) r:=by rw [cJ,if_pos c]
theorem BD0 {ts:List Str}{f:Fm}{S:List Fm}{t:Tr}{k:Nat}(c:¬ f.sg="not")(e:ts.getD k ""=")"):closeF (f::S) t (ts.drop k)=if f.sg="&" then closeF S (.both (Trs.ofL (f.inn++[t]))) (ts.drop (k+1)) else if f.sg="|" then closeF S (.either (Trs.ofL (f.inn++[t]))) (ts.drop (k+1)) else none:=by
 rw [cJ,if_neg c,fD (eU e (by decide))]
 dsimp only
 rw [if_pos e]
theorem BJ2 {ts:List Str}{f:Fm}{S:List Fm}{t:Tr}{k:Nat}(c:¬ f.sg="not")(n:ts.getD k ""≠")")(e:(ts.getD k ""="&"\/ts.getD k ""="|")/\(f.sg="("\/f.sg=ts.getD k "")):k < ts.length/\closeF (f::S) t (ts.drop k)=some (.inr (ts.drop (k+1),⟨ts.getD k "",f.inn++[t]⟩::S)):=by
 have kl:k < ts.length:=e.1.elim (fun z=>eU z (by decide)) fun z=>eU z (by decide)
 refine ⟨kl,?_⟩
 rw [cJ,if_neg c,fD kl]
 dsimp only
 rw [if_neg n,if_pos e]
theorem BJ3 {ts:List Str}{f:Fm}{S:List Fm}{t:Tr}{k:Nat}(c:¬ f.sg="not")(n:ts.getD k ""≠")")(e:¬ ((ts.getD k ""="&"\/ts.getD k ""="|")/\(f.sg="("\/f.sg=ts.getD k ""))):closeF (f::S) t (ts.drop k)=none:=by
 by_cases kl:k < ts.length
 ·rw [cJ,if_neg c,fD kl]
  dsimp only
  rw [if_neg n,if_neg e]
 ·rw [cJ,if_neg c,(gQ (by omega)).2]
def BD1 (a:Ad)(wp dw wl op:Addr)(ts:List Str)(i:Nat)(G:Hp)(R:Option ((Tr × List Str) ⊕ (List Str × List Fm)))(σ:L2.St)(H1:Hp):Prop:=∃ (k:Nat) (fs:List OF) (t:Tr) (v:V) (lv:Option V),σ=[some v,some (.ref wp),some (.ref op),lv]/\PSt a.Words a.Opened (fc a) H1 wp dw wl ts k op fs G/\i<=k/\k<=ts.length/\(∀ f∈fs,FrOk 2 k f)/\fs.length<=k/\t.Fit (fc a) (Out (tJ wp op fs) H1) v/\closeF (fs.map OF.fm) t (ts.drop k)=R
theorem AM3 (B:Bt K mg a)(uB:CalX P w K mg base "fit_of" ["opened"] 5 (qB K a))(fJ:CalX P w K mg base "is_closed_here" ["bracket","words"] 3 (iU K a))(F:Fun K "closed" "closed" kD f fd):FnOk P w K mg base (CXF P w) 6 f fd ["fit","words","opened"] (vQ K a):=by
 refine Fun.okX F sc_closed (fun vs H Q E h=>?_) (fun cdv A outer s H vs Q E hr h=>?_)
 ·obtain ⟨v,t,wp,dw,wl,op,ts,i,fs,G,rfl,_⟩:=h
  rfl
 obtain ⟨v,t,wp,dw,wl,op,ts,i,fs,G,rfl,hP,hT,hl,hi,hfl,hF,hv,good,more,fail⟩:=h
 refine fP ⟨_,(aC (bQ (jX PassesOwn.leaving (aQ uP (aU bB rfl B.len PySem.boot_len (aJ (aO (pv 2) aD))) aM (aW _)) (iM (aC (bC (i:=3) sc_closed.nd rfl (Or.inl rfl) (aR (bN bJ (pv 2) (AW1 AE3 aM) (fun _ _=>rfl))) (by kernel_rfl)) (aC (bQ (dJ (iY PySem.F.plainAttrs_list PySem.F.slot_list_append PySem.F.type_list_append gL (cH (pv 3) rfl) (aJ (aO (pv 0) aD))))) (aC (bG (L2.PW.pt (nW (aQ uO (cH (pv 3) rfl) aK (aW _)) (kR (gI (cP (jB fJ (hr.mono (by decide)) rfl (aJ (aO (pv 3) (aO (pv 1) aD))) (he:=aB _ _ _ rfl) (hpl:=aG rfl))))))) (aH (aT (aR jL))) aS) (aC (bQ (dJ (BG2 PySem.F.plainAttrs_list PySem.F.slot_list_pop PySem.F.type_list_pop BG3 (pv 2)))) (aH (bC (i:=0) sc_closed.nd rfl (Or.inl rfl) (aR (jB uB (hr.mono (by decide)) rfl (aJ (aO (pv 3) aD)) (he:=aB _ _ _ rfl) (hpl:=aG rfl))) (by kernel_rfl)))))))))) (aH (aT (aR (pv 0))))),?_⟩
 generalize hR:closeF (fs.map OF.fm) t (ts.drop i)=R at good more fail
 nofun
 refine whl (BD1 a wp dw wl op ts i G R) (fun _ H1=>qY op H1) ⟨i,fs,t,v,none,rfl,hP,Nat.le_refl _,hi,hF,hfl,hv,hR⟩ ?_
 clear hP hF hR hfl hv
 rintro σ H2 ⟨k,fs,t,v,lv,rfl,hP,hik,hk,hF,hfl,hv,hR⟩
 nofun
 refine ⟨_,.inl (SqL.of hP.O),?_⟩
 exists List.length_map,List.length_reverse
 cases fs with
 | nil =>
  rw [if_neg (by decide)]
  exact good _ _ hR.symm v H2 k rfl hik hk hP hv
 | cons f fs =>
 rw [if_pos (by rw [List.length_cons]; omega)]
 have mem:f∈f::fs:=List.mem_cons_self
 have hf:=hP.F f mem
 have hFf:=hF f mem
 have hP1:=hP.inner hv
 have O':H2 op=some (.lst ((fs.reverse.map fun f=>V.ref f.r)++[.ref f.r])):=by
  have e:=hP.O
  rw [List.reverse_cons,List.map_append] at e
  exact e
 have lv:=(hP.T f mem).len
 have fin:∀ (k':Nat) (H4:Hp),PSt a.Words a.Opened (fc a) H4 wp dw wl ts k' op (f.app v t::fs) G->k<=k'->k'<=ts.length->(mkF f.sg (f.inn++[t])=none->R=none)->(∀ t',mkF f.sg (f.inn++[t])=some t'->closeF (fs.map OF.fm) t' (ts.drop k')=R) ->
   (tyV K "list" (V.ref op) H4/\BR7 (V.ref op) [] H4 fun _ H1=>qB K a [.ref f.r] H1 (fun x H1=>BD1 a wp dw wl op ts i G R [some x,some (V.ref wp),some (V.ref op),some (.ref f.r)] H1/\qY op H1 < qY op H2) E):=by
  intro k' H4 hP4 hk1 hk2 e1 e2
  have mem4:f.app v t∈f.app v t::fs:=List.mem_cons_self
  have O4:H4 op=some (.lst ((fs.reverse.map fun f=>V.ref f.r)++[.ref f.r])):=by
   have e:=hP4.O
   rw [List.reverse_cons,List.map_append] at e
   exact e
  refine ⟨.inl ⟨rfl,_,SqL.of O4⟩,op,_,.ref f.r,rfl,rfl,O4,by simp,?_⟩
  rw [List.dropLast_concat]
  have hP5:=hP4.pop
  obtain ⟨o1,o2,o3⟩:=hP4.ow
  have q3:=o3 _ mem4
  have hA5:=(hP4.T _ mem4).imp fun t v _ h=>h.same (AA1 hP4)
  have hr5:upd H4 op (.lst (fs.reverse.map fun f=>V.ref f.r)) f.r=some (.ins a.Opened f.d (jF f.sg f.il)):=by
   rw [aN (show f.r≠op from q3.2.1.symm)]
   exact (hP4.F _ mem4).1
  have hi5:upd H4 op (.lst (fs.reverse.map fun f=>V.ref f.r)) f.il=some (.lst (f.vs++[v])):=by
   rw [aN (show f.il≠op from q3.1.symm)]
   exact (hP4.F _ mem4).2
  have li:=hFf.2
  refine ⟨f.r,f.d,f.il,f.sg,f.vs++[v],f.inn++[t],tJ wp op fs,rfl,hr5,hi5,hA5,fun b hb=>hP5.new hb,by rw [List.length_append,List.length_singleton,<- lv]; omega,fun _=>by simp,fun z=>?_,?_⟩
  ·rw [List.length_append,List.length_singleton]
   rcases hFf.1 with ⟨y,_⟩ | ⟨y,_⟩ | ⟨_,y⟩
   ·rw [y] at z; exact absurd z (by decide)
   ·rw [y] at z; exact absurd z (by decide)
   ·have:=List.length_pos_iff.mpr y
    omega
  cases em:mkF f.sg (f.inn++[t]) with
  | none=>exact .inr ⟨rfl,fun y H' S' _=>fail (e1 em) _ _ _ (.inr rfl) (hP5.K.trans (Same.but S'))⟩
  | some t' =>
   refine .inl ⟨t',rfl,fun v' H' S' hv'=>⟨⟨k',fs,t',v',_,rfl,hP5.same S',by omega,hk2,fun g hg=>(hF g (List.mem_cons_of_mem _ hg)).up (by omega),by rw [List.length_cons] at hfl; omega,hv',e2 t' em⟩,?_⟩⟩
   rw [AA9 (hP5.same S').O,AA9 O',List.length_append,List.length_map,List.length_reverse,List.length_singleton]
   omega
 refine ⟨fun σ' H'=>BD1 a wp dw wl op ts i G R σ' H'/\qY op H' < qY op H2,fun σ' H' h=>⟨_,h.2,rfl,h.1⟩,ixl (SqL.of O') BC9 ?_⟩
 refine ⟨f.r,rfl,_,_,_,hf.1,B.ck_Opened.cl,B.na_Opened_inner,.ref f.il,rfl,.inl ⟨rfl,_,SqL.of hf.2⟩,f.il,_,_,rfl,rfl,hf.2,?_,?_⟩
 ·have li:=hFf.2
  exact Nat.lt_of_le_of_lt (show f.vs.length<=1000 by omega) (by decide)
 have mem1:f.app v t∈f.app v t::fs:=List.mem_cons_self
 refine ⟨f.r,rfl,_,_,_,(hP1.F _ mem1).1,B.ck_Opened.cl,B.na_Opened_sign,.str f.sg,rfl,rfl,?_⟩
 generalize upd H2 f.il (.lst (f.vs++[v]))=H3 at *
 rw [List.map_cons] at hR
 by_cases c:f.sg="not"
 ·rw [if_neg (fun z=>z (by rw [c]))]
  rw [BJ1 (f:=f.fm) c] at hR
  have e0:f.inn=[]:=by
   rcases hFf.1 with ⟨_,y⟩ | ⟨_,y⟩ | ⟨y,_⟩
   ·exact y
   ·exact y
   ·rw [c] at y; exact absurd y (by decide)
  have em:mkF f.sg (f.inn++[t])=some (.not t):=by rw [e0]; unfold mkF; rw [if_pos c]; rfl
  exact fin k H3 hP1 (Nat.le_refl _) hk (fun z=>by rw [em] at z; cases z) (fun t' z=>by rw [em] at z; cases z; exact hR)
 rw [if_pos (fun z=>c (V.str.inj z))]
 refine ⟨wp,dw,wl,op,ts,k,f.app v t,fs,G,rfl,hP1,fun H4 hP4 e=>⟨true,rfl,?_⟩,fun H4 hP4 n e=>⟨false,rfl,?_⟩,fun n e y H4 B4=>?_⟩
 ·rw [if_neg (by decide)]
  rw [BD0 (f:=f.fm) c e,show f.fm.sg=f.sg from rfl] at hR
  have kl:=eU e (by decide)
  refine fin (k+1) H4 hP4 (by omega) (by omega) (fun z=>?_) (fun t' z=>?_)
  ·unfold mkF at z
   rw [if_neg c] at z
   by_cases c2:f.sg="&"
   ·rw [if_pos c2] at z; cases z
   rw [if_neg c2] at z
   by_cases c3:f.sg="|"
   ·rw [if_pos c3] at z; cases z
   rw [if_neg c2,if_neg c3] at hR
   exact hR.symm
  ·unfold mkF at z
   rw [if_neg c] at z
   by_cases c2:f.sg="&"
   ·rw [if_pos c2] at z hR
    cases z
    exact hR
   rw [if_neg c2] at z
   by_cases c3:f.sg="|"
   ·rw [if_pos c3] at z
    rw [if_neg c2,if_pos c3] at hR
    cases z
    exact hR
   rw [if_neg c3] at z
   cases z
 ·rw [if_pos rfl]
  obtain ⟨kl,eq⟩:=BJ2 (f:=f.fm) (S:=fs.map OF.fm) (t:=t) c n e
  rw [eq] at hR
  refine more _ _ hR.symm H4 (k+1) _ rfl (by omega) (by omega) hP4 rfl (fun g hg=>?_) (by rw [List.length_cons] at hfl ⊢; omega)
  rcases List.mem_cons.mp hg with rfl | hg
  ·refine ⟨.inr (.inr ⟨e.1,by show f.inn++[t]≠[]; simp⟩),?_⟩
   have li:=hFf.2
   show (f.inn++[t]).length+1<=k+1
   rw [List.length_append,List.length_singleton]
   omega
  ·exact (hF g (List.mem_cons_of_mem _ hg)).up (by omega)
 ·rw [BJ3 (f:=f.fm) c n e] at hR
  exact fail hR.symm _ _ _ (.inr rfl) B4
def BJ4 (a:Ad)(wp dw wl op:Addr)(ts:List Str)(i:Nat)(G:Hp)(R:Option (Tr × List Str))(σ:L2.St)(H1:Hp):Prop:=∃ (k:Nat) (fs:List OF) (fv:V),σ=[some (.ref wp),some (.ref op),some fv]/\PSt a.Words a.Opened (fc a) H1 wp dw wl ts k op fs G/\i<=k/\k<=ts.length/\fs.length<=k/\((fv=.non/\(∀ f∈fs,FrOk 1 k f)/\iP (ts.drop k) (fs.map OF.fm)=R)\/(∃ t,fs=[]/\i < k/\t.Fit (fc a) (Out (tJ wp op []) H1) fv/\R=some (t,ts.drop k)))
theorem PSt.start {Cw Co:Addr}{c:FC}{H:Hp}{wp dw wl op:Addr}{ts:List Str}{i:Nat}(W:WAt Cw H wp dw wl ts i)(ho:H op=none):PSt Cw Co c (upd H op (.lst [])) wp dw wl ts i op [] H:=by
 have n1:wp≠op:=aP W.w ho
 have n2:wl≠op:=aP W.l ho
 refine ⟨⟨by rw [aN n1]; exact W.w,by rw [aN n2]; exact W.l⟩,aA,fun f hf=>(by cases hf),?_,List.nodup_nil,fun f hf=>(by cases hf),Same.but (aE ho _),fun b hb hn=>?_⟩
 ·refine List.nodup_cons.mpr ⟨fun z=>n2 ?_,List.nodup_cons.mpr ⟨fun z=>(by cases z),List.nodup_nil⟩⟩
  rcases List.mem_cons.mp z with z | z
  ·exact z
  ·cases z
 ·rcases mem_muts.mp hb with z | z | ⟨g,hg,_⟩ | ⟨g,hg,_⟩
  ·exact absurd z hn
  ·rw [z]; exact ho
  ·cases hg
  ·cases hg
theorem BJ5 {H:Hp}{wp op:Addr}:Same (Out (tJ wp op []) H) (Out [wp] H):=kC fun b o n e=>⟨fun z=>n (mem_muts.mpr (.inl (List.mem_singleton.mp z))),e⟩
theorem yE (B:Bt K mg a)(uC:CalX P w K mg base "closed" ["fit","words","opened"] 6 (vQ K a))(fK:CalX P w K mg base "plain_fit_from" ["words","opened"] 6 (iT K a))(F:Fun K "fit_from" "fit_from" fU f fd):FnOk P w K mg base (CXF P w) 7 f fd ["words"] (kZ K a):=by
 refine Fun.okX F sc_fit_from (fun vs H Q E h=>?_) (fun cdv A outer s H vs Q E hr h=>?_)
 ·obtain ⟨wp,dw,wl,ts,i,rfl,_⟩:=h
  rfl
 obtain ⟨wp,dw,wl,ts,i,rfl,W,hT,hl,hi,good,fail⟩:=h
 refine fP ⟨_,(aC (bC (i:=1) sc_fit_from.nd rfl (Or.inl rfl) (gN aD) (by kernel_rfl)) (aC (bC (i:=2) sc_fit_from.nd rfl (Or.inl rfl) (aR jL) (by kernel_rfl)) (aC (bQ (jX PassesOwn.leaving (lM (uK (pv 2))) (iM (aH (bC (i:=2) sc_fit_from.nd rfl (Or.inl rfl) (aR (jB uC (hr.mono (by decide)) rfl (aJ (aO (jB fK (hr.mono (by decide)) rfl (aJ (aO (pv 0) (aO (pv 1) aD))) (he:=aB _ _ _ rfl) (hpl:=aG rfl)) (aO (pv 0) (aO (pv 1) aD)))) (he:=aB _ _ _ rfl) (hpl:=aG rfl))) (by kernel_rfl)))))) (aH (aT (aR (pv 2))))))),?_⟩
 generalize hR:iP (ts.drop i) []=R at good fail
 nofun
 refine ⟨Nat.zero_le _,fun op hop=>?_⟩
 have hP0:=PSt.start (Co:=a.Opened) (c:=fc a) W hop
 refine whl (BJ4 a wp dw wl op ts i H R) (fun _ H1=>3000 - xZ wp H1) ⟨i,[],.non,rfl,hP0,Nat.le_refl _,hi,Nat.zero_le _,.inl ⟨rfl,(fun f hf=>by cases hf),hR⟩⟩ ?_
 clear hP0 hR
 rintro σ H2 ⟨k,fs,fv,rfl,hP,hik,hk,hfl,hc⟩
 nofun
 rcases hc with ⟨rfl,hF,hR⟩ | ⟨t,rfl,hik2,hv,hR⟩
 ·rw [if_pos rfl]
  refine ⟨fun σ' H'=>BJ4 a wp dw wl op ts i H R σ' H'/\3000 - xZ wp H' < 3000 - xZ wp H2,fun σ' H' h=>⟨_,h.2,rfl,h.1⟩,?_⟩
  rw [iI] at hR
  refine ⟨wp,dw,wl,op,ts,k,fs,H,rfl,hP,hT,hl,hk,hfl,hF,fun t r Sf e v H3 j fs' er hj1 hj2 hP3 eS hF3 hl3 hv3=>?_,fun e cls y H3 hx B3=>?_⟩
  ·rw [e] at hR
   dsimp only at hR
   subst er eS
   unfold after at hR
   refine ⟨v,t,wp,dw,wl,op,ts,j,fs',H,rfl,hP3,hT,hl,hj2,hl3,hF3,hv3,fun t' r' e' v' H4 j' er' hj3 hj4 hP4 hv4=>?_,fun r' Sf' e' H4 j' fs4 er' hj3 hj4 hP4 eS4 hF4 hl4=>?_,fun e' cls y H4 hx B4=>?_⟩
   ·rw [e'] at hR
    subst er'
    refine ⟨⟨j',[],v',rfl,hP4,by omega,hj4,Nat.zero_le _,.inr ⟨t',rfl,by omega,hv4,hR.symm⟩⟩,?_⟩
    rw [vP hP4.W,vP hP.W]
    omega
   ·rw [e'] at hR
    subst er' eS4
    refine ⟨⟨j',fs4,.non,rfl,hP4,by omega,hj4,hl4,.inl ⟨rfl,hF4,hR⟩⟩,?_⟩
    rw [vP hP4.W,vP hP.W]
    omega
   ·rw [e'] at hR
    exact fail hR.symm cls y H4 hx B4
  ·rw [e] at hR
   exact fail hR.symm cls y H3 hx B3
 ·obtain ⟨p,_,_,rfl,_⟩:=id hv.ins
  rw [if_neg (by intro z; cases z)]
  exact good _ _ hR (.ref p) H2 k rfl hik2 hk hP.K hP.W (hv.same BJ5)
theorem tV (B:Bt K mg a)(uD:CalC P w K mg base "Words" a.Words ["self","text"] 3 (eL K a))(jI:∀ C sp,mH K a C sp->CalM P w K mg base C "expect_end" ["self"] 3 sp)(nO:CalIH P w K mg base "NoText" a.NoText "line" 1 (.int 0))(lG:CalF P w K mg base a.fit_from ["words"] 7 (kZ K a))(F:Fun K "read_whole" "read_whole" dS f fd):FnOk P w K mg base (uI P w false) 8 f fd ["text","part_from"] (mF K a):=by
 refine Fun.okW F sc_read_whole (fun vs H Q E h=>?_) (fun cdv A outer s H vs Q E hr h=>?_)
 ·obtain ⟨xv,rfl,_⟩:=h
  rfl
 obtain ⟨xv,rfl,q⟩:=h
 refine fP ⟨_,(aC (bC (i:=2) sc_read_whole.nd rfl (Or.inl rfl) (aR (oC uD AT5 (hr.mono (by decide)) rfl (aJ (aO (pv 0) aD)) (he:=aB _ _ _ rfl) (hpl:=aG rfl))) (by kernel_rfl)) (aC (bQ (BB7 (i:=3) (j:=1) rfl rfl lG (hr.mono (by decide)) rfl (Or.inl rfl) (fun _=>(aJ (aO (pv 2) aD))) sc_read_whole.nd rfl (Or.inl rfl) rfl rfl B.BellError nO rfl (hr.mono (by decide)) AQ4 BP2)) (aC (bQ (dJ (cW (pv 2) jI AT5 (hr.mono (by decide))))) (aH (aT (aR (pv 3))))))),?_⟩
 nofun
 intro x dx hx hd ne
 have M0:=cZ (o:=.own x) (o':=.ins a.Words dx []) hx hd
 refine ⟨x,dx,xv,rfl,aA,?_⟩
 rcases q with ⟨u,t,rfl,ht,e,q⟩ | ⟨h,q⟩
 ·refine .inl ⟨u,rfl,ht.1,ht.2.1,fun wl H1 hwl B1 W1=>⟨rfl,?_⟩⟩
  have S1:=hZ hx hd B1
  refine ⟨x,dx,wl,_,0,rfl,W1,ht.2.2,ht.2.1,Nat.zero_le _,fun t' r e' v H2 j er hj1 hj2 B2 W2 hv=>?_,fun e'=>?_⟩
  ·rw [List.drop_zero,e] at e'
   cases e'
   have hj:j=(Txt.split u sp1).length:=by
    have l:=congrArg List.length er
    rw [List.length_drop,List.length_nil] at l
    omega
   refine ⟨_,_,_,W2.w,rfl,_,⟨rfl,rfl⟩,x,dx,wl,_,j,rfl,W2,.inl ⟨hj,?_⟩⟩
   exact q v H2 (fun b o e=>B2 b o (aP e hx) (S1 b o e)) (hv.same tI)
  ·rw [List.drop_zero,e] at e'
   cases e'
 ·rcases h with ⟨u,rfl,ht,n⟩ | h
  ·refine .inl ⟨u,rfl,ht.1,ht.2.1,fun wl H1 hwl B1 W1=>⟨rfl,?_⟩⟩
   have S1:=hZ hx hd B1
   refine ⟨x,dx,wl,_,0,rfl,W1,ht.2.2,ht.2.1,Nat.zero_le _,fun t' r e' v H2 j er hj1 hj2 B2 W2 hv=>?_,fun e' cls y H2 hc B2=>⟨?_,fun y2 hy2=>?_⟩⟩
   ·rw [List.drop_zero] at e'
    have hj:j≠(Txt.split u sp1).length:=fun z=>by
     rw [z,List.drop_length] at er
     rw [er] at e'
     exact n t' e'
    refine ⟨_,_,_,W2.w,rfl,_,⟨rfl,rfl⟩,x,dx,wl,_,j,rfl,W2,.inr ⟨hj,fun y H3 S3 e3=>?_⟩⟩
    exact q y H3 (fun b o e=>S3 b o (B2 b o (aP e hx) (S1 b o e))) e3
   ·rcases hc with rfl | rfl
    ·exact B.exm_NoFit
    ·exact B.exm_NoText
   ·exact q y2 _ (fun b o e=>aE hy2 _ b o (B2 b o (aP e hx) (S1 b o e))) aA
  ·exact .inr ⟨h.same M0,fun y H' S' e=>q y H' (M0.trans S') e⟩
theorem yF (B:Bt K mg a)(jV:CalW P w K mg base "read_whole" ["text","part_from"] 8 (mF K a))(F:Fun K "read_fit" "read_fit" fT f fd):FnOk P w K mg base (uI P w false) 9 f fd ["text"] (qA K a):=by
 refine Fun.okW F xY (fun vs H Q E h=>?_) (fun cdv A outer s H vs Q E hr h=>?_)
 ·obtain ⟨x,rfl,_⟩:=h
  rfl
 obtain ⟨x,rfl,q⟩:=h
 refine fP ⟨_,(aH (aT (aR (AY9 jV (hr.mono (by decide)) rfl (aJ (aO (pv 0) (aO (cR (v:=.ref _) rfl B.fit_from rfl) aD))) (he:=aB _ _ _ rfl) (hpl:=aG rfl))))),?_⟩
 nofun
 exact ⟨x,rfl,q⟩
theorem iB {s:Str}:∀ {ts:List Str},ts≠[]->(Str.join s ts).length+s.length=(ts.map (·.length)).sum+ts.length * s.length
 | [],h=>absurd rfl h
 | [a],_=>by
  show a.length+s.length=_
  simp only [List.map_cons,List.map_nil,List.sum_cons,List.sum_nil,List.length_cons,List.length_nil]
  omega
 | a::b::r,_=>by
  have i:=iB (s:=s) (ts:=b::r) (by simp)
  show (a++s++Str.join s (b::r)).length+s.length=_
  rw [Str.length_append,Str.length_append,List.map_cons,List.sum_cons,List.length_cons,Nat.succ_mul]
  omega
theorem kF {s:Str}{ts:List Str}(hn:ts≠[])(h:(Str.join s ts).length<=200000)(hs:s.length<=100):JoinOk s ts=true:=by
 refine AL1 ?_
 rw [<- iB hn]
 exact szM (by omega)
theorem tW (s:Str)(ts:List Str):Txt.join s ts=Str.join s ts:=StrLaws.glued_eq_join s ts
theorem wA {n:Int}(h0:0<=n)(h1:n < 1000000):n.natAbs.log2 < 1920:=by
 by_cases z:n.natAbs=0
 ·rw [z]; decide
 ·rw [Nat.log2_lt z]
  exact Nat.lt_of_lt_of_le (show n.natAbs < 2 ^ 20 by omega) (Nat.pow_le_pow_right (by decide) (by decide))
theorem qJ {s:Str}:∀ {ts:List Str}{x:Str},x∈ts->x.length<=(Str.join s ts).length
 | [],x,h=>by cases h
 | [a],x,h=>by rw [List.mem_singleton.mp h]; exact Nat.le_refl _
 | a::b::r,x,h=>by
  show x.length<=(a++s++Str.join s (b::r)).length
  rw [Str.length_append,Str.length_append]
  rcases List.mem_cons.mp h with rfl | h
  ·omega
  ·have:=qJ (s:=s) h
   omega
theorem yG {d n:Nat}(hn:0<=n)(B:Bt K mg a)(eZ:CalX P w K mg base "show_fit" ["fit"] n (eO K a d))(F:Fun K "show_fit" "show_fit" fS f fd):FnOk P w K mg base CX0 (n+1) f fd ["fit"] (eO K a (d+1)):=by
 refine F.ok xX (fun vs H Q E h=>?_) (fun cdv A outer s H vs Q E hr h=>?_)
 ·obtain ⟨v,t,hd0,rfl,_⟩:=h
  rfl
 obtain ⟨v,t,hd0,rfl,hf,hw,hx,q⟩:=h
 refine fP ⟨_,(aC (bG (cP (aU (dX (K:=K) rfl) rfl B.isinstance PyProof.Rows.boot_isinstance (aJ (aO (pv 0) (aO (cR (v:=.ref _) rfl B.Kind rfl) aD))) (he:=aB _ _ _ rfl) (hpl:=aG rfl))) (aH (aT (aR (iY PySem.F.plainAttrs_str PySem.F.slot_str_join PySem.F.type_str_join kU aK (aJ (aO (bE hJ (gK (aJ (aO aK aD))) (cH (pv 0) rfl)) aD)))))) aS) (aC (bG (cP (aU (dX (K:=K) rfl) rfl B.isinstance PyProof.Rows.boot_isinstance (aJ (aO (pv 0) (aO (cR (v:=.ref _) rfl B.Place rfl) aD))) (he:=aB _ _ _ rfl) (hpl:=aG rfl))) (aH (aT (aR (iY PySem.F.plainAttrs_str PySem.F.slot_str_join PySem.F.type_str_join kU aK (aJ (aO (bE hJ (gK (aJ (aO aK aD))) (cH (pv 0) rfl)) aD)))))) aS) (aC (bG (cP (aU (dX (K:=K) rfl) rfl B.isinstance PyProof.Rows.boot_isinstance (aJ (aO (pv 0) (aO (cR (v:=.ref _) rfl B.Least rfl) aD))) (he:=aB _ _ _ rfl) (hpl:=aG rfl))) (aH (aT (aR (bE bR aK (bH nZ rfl B.str PyProof.Rows.boot_str (aJ (aO (cH (pv 0) rfl) aD))))))) aS) (aC (bG (cP (aU (dX (K:=K) rfl) rfl B.isinstance PyProof.Rows.boot_isinstance (aJ (aO (pv 0) (aO (cR (v:=.ref _) rfl B.Not rfl) aD))) (he:=aB _ _ _ rfl) (hpl:=aG rfl))) (aH (aT (aR (bE bR aK (aZ eZ (hr.mono (by omega)) rfl (aJ (aO (cH (pv 0) rfl) aD)) (he:=aB _ _ _ rfl) (hpl:=aG rfl)))))) aS) (aC (bG (cP (aU (dX (K:=K) rfl) rfl B.isinstance PyProof.Rows.boot_isinstance (aJ (aO (pv 0) (aO (cR (v:=.ref _) rfl B.Both rfl) aD))) (he:=aB _ _ _ rfl) (hpl:=aG rfl))) (aH (aT (aR (bE bR (bE bR aK (iY PySem.F.plainAttrs_str PySem.F.slot_str_join PySem.F.type_str_join kU aK (aJ (aO (dI ["part"] [none] rfl (by kernel_rfl) (mT (cH (pv 0) rfl)) (fun cl C s H fp=>⟨(bO (i:=0) (by decide:List.Nodup (["part"]:List Str)) rfl (Or.inl (by kernel_rfl)) (Or.inr (by kernel_rfl))),iG,(aZ eZ (hr.mono (by omega)) (qT (by kernel_rfl)) (aJ (aO (pv 0 (hv:=Or.inl (by kernel_rfl))) aD)) (he:=aB _ _ _ rfl) (hpl:=aG rfl))⟩)) aD)))) aK)))) aS) (aC (bG (cP (aU (dX (K:=K) rfl) rfl B.isinstance PyProof.Rows.boot_isinstance (aJ (aO (pv 0) (aO (cR (v:=.ref _) rfl B.Either rfl) aD))) (he:=aB _ _ _ rfl) (hpl:=aG rfl))) (aH (aT (aR (bE bR (bE bR aK (iY PySem.F.plainAttrs_str PySem.F.slot_str_join PySem.F.type_str_join kU aK (aJ (aO (dI ["part"] [none] rfl (by kernel_rfl) (mT (cH (pv 0) rfl)) (fun cl C s H fp=>⟨(bO (i:=0) (by decide:List.Nodup (["part"]:List Str)) rfl (Or.inl (by kernel_rfl)) (Or.inr (by kernel_rfl))),iG,(aZ eZ (hr.mono (by omega)) (qT (by kernel_rfl)) (aJ (aO (pv 0 (hv:=Or.inl (by kernel_rfl))) aD)) (he:=aB _ _ _ rfl) (hpl:=aG rfl))⟩)) aD)))) aK)))) aS) (aH (aT (aR aK))))))))),?_⟩
 cases t with
 | any =>
  rw [Tr.Fit] at hf
  rw [Tr.wf] at hw
  rw [Tr.tx] at q hx
  obtain ⟨p,dx,rfl,hp⟩:=hf
  nofun
  refine ⟨_,_,_,false,rfl,B.ck_Any.ty hp,B.is_Any_Kind,?_⟩
  nofun
  refine ⟨_,_,_,false,rfl,B.ck_Any.ty hp,B.is_Any_Place,?_⟩
  nofun
  refine ⟨_,_,_,false,rfl,B.ck_Any.ty hp,B.is_Any_Least,?_⟩
  nofun
  refine ⟨_,_,_,false,rfl,B.ck_Any.ty hp,B.is_Any_Not,?_⟩
  nofun
  refine ⟨_,_,_,false,rfl,B.ck_Any.ty hp,B.is_Any_Both,?_⟩
  nofun
  refine ⟨_,_,_,false,rfl,B.ck_Any.ty hp,B.is_Any_Either,?_⟩
  nofun
  exact q _ fun _ _ z=>z
 | kind us =>
  rw [Tr.Fit] at hf
  rw [Tr.wf] at hw
  rw [Tr.tx] at q hx
  obtain ⟨p,dx,ln,rfl,hp,hn⟩:=hf
  nofun
  refine ⟨_,_,_,true,rfl,B.ck_Kind.ty hp,B.is_Kind_Kind,?_⟩
  nofun
  refine ⟨sz8 (by decide),fun p1 h1=>?_⟩
  have S1:=aE h1 (.lst [.str "kind"])
  refine ⟨_,_,_,S1 _ _ hp,B.ck_Kind.cl,B.na_Kind_names,.ref ln,rfl,?_⟩
  have jl:=iB (s:=sp1) (ts:=("kind":Str)::us) (by simp)
  refine ⟨p1,ln,_,_,rfl,rfl,aA,S1 _ _ hn,szM ?_,fun p2 h2=>?_⟩
  ·rw [List.length_map]
   have e1:sp1.length=1:=rfl
   rw [e1,List.length_cons] at jl
   show 1+us.length<=1000000
   omega
  have S2:=aE h2 (.lst ([.str "kind"]++us.map V.str))
  refine ⟨sp1,p2,("kind":Str)::us,rfl,rfl,aA,kF (by simp) (by omega) (by decide),?_⟩
  rw [tW]
  exact q _ (S1.trans S2)
 | place us =>
  rw [Tr.Fit] at hf
  rw [Tr.wf] at hw
  rw [Tr.tx] at q hx
  obtain ⟨p,dx,ln,rfl,hp,hn⟩:=hf
  nofun
  refine ⟨_,_,_,false,rfl,B.ck_Place.ty hp,B.is_Place_Kind,?_⟩
  nofun
  refine ⟨_,_,_,true,rfl,B.ck_Place.ty hp,B.is_Place_Place,?_⟩
  nofun
  refine ⟨sz8 (by decide),fun p1 h1=>?_⟩
  have S1:=aE h1 (.lst [.str "place"])
  refine ⟨_,_,_,S1 _ _ hp,B.ck_Place.cl,B.na_Place_names,.ref ln,rfl,?_⟩
  have jl:=iB (s:=sp1) (ts:=("place":Str)::us) (by simp)
  refine ⟨p1,ln,_,_,rfl,rfl,aA,S1 _ _ hn,szM ?_,fun p2 h2=>?_⟩
  ·rw [List.length_map]
   have e1:sp1.length=1:=rfl
   rw [e1,List.length_cons] at jl
   show 1+us.length<=1000000
   omega
  have S2:=aE h2 (.lst ([.str "place"]++us.map V.str))
  refine ⟨sp1,p2,("place":Str)::us,rfl,rfl,aA,kF (by simp) (by omega) (by decide),?_⟩
  rw [tW]
  exact q _ (S1.trans S2)
 | weight n =>
  rw [Tr.Fit] at hf
  rw [Tr.wf] at hw
  rw [Tr.tx] at q hx
  obtain ⟨p,dx,rfl,hp⟩:=hf
  nofun
  refine ⟨_,_,_,false,rfl,B.ck_Least.ty hp,B.is_Least_Kind,?_⟩
  nofun
  refine ⟨_,_,_,false,rfl,B.ck_Least.ty hp,B.is_Least_Place,?_⟩
  nofun
  refine ⟨_,_,_,true,rfl,B.ck_Least.ty hp,B.is_Least_Least,?_⟩
  nofun
  refine ⟨_,_,_,hp,B.ck_Least.cl,B.na_Least_weight,.int n,rfl,n,rfl,wA hw.1 hw.2,?_,q _ fun _ _ z=>z⟩
  have e:=Str.length_append (("weight ":Str)) (kW n)
  rw [e] at hx
  exact szM (by show (("weight ":Str)).length+(kW n).length<=1000000; omega)
 | not t =>
  rw [Tr.Fit] at hf
  rw [Tr.wf] at hw
  rw [Tr.tx] at q hx
  obtain ⟨p,dx,y,rfl,hp,hy⟩:=hf
  nofun
  refine ⟨_,_,_,false,rfl,B.ck_Not.ty hp,B.is_Not_Kind,?_⟩
  nofun
  refine ⟨_,_,_,false,rfl,B.ck_Not.ty hp,B.is_Not_Place,?_⟩
  nofun
  refine ⟨_,_,_,false,rfl,B.ck_Not.ty hp,B.is_Not_Least,?_⟩
  nofun
  refine ⟨_,_,_,true,rfl,B.ck_Not.ty hp,B.is_Not_Not,?_⟩
  nofun
  rw [Tr.dp] at hd0
  rw [Str.length_append] at hx
  refine ⟨_,_,_,hp,B.ck_Not.cl,B.na_Not_fit,y,rfl,y,t,by omega,rfl,hy,hw,by omega,fun H' S'=>⟨_,rfl,szM (by omega),q _ S'⟩⟩
 | both ts =>
  rw [Tr.Fit] at hf
  rw [Tr.wf] at hw
  rw [Tr.tx] at q hx
  obtain ⟨p,dx,ln,xs,rfl,hp,hn,hs⟩:=hf
  nofun
  refine ⟨_,_,_,false,rfl,B.ck_Both.ty hp,B.is_Both_Kind,?_⟩
  nofun
  refine ⟨_,_,_,false,rfl,B.ck_Both.ty hp,B.is_Both_Place,?_⟩
  nofun
  refine ⟨_,_,_,false,rfl,B.ck_Both.ty hp,B.is_Both_Least,?_⟩
  nofun
  refine ⟨_,_,_,false,rfl,B.ck_Both.ty hp,B.is_Both_Not,?_⟩
  nofun
  refine ⟨_,_,_,true,rfl,B.ck_Both.ty hp,B.is_Both_Both,?_⟩
  nofun
  rw [Tr.dp] at hd0
  rw [Str.length_append,Str.length_append] at hx
  have hA:=trs_fit.mp hs
  have ln6:=hA.len
  have tne:ts.tx≠[]:=fun z=>by
   have l:=congrArg List.length z
   rw [gP,List.length_map,List.length_nil] at l
   omega
  have jl:=iB (s:=(" & ":Str)) tne
  have lt:ts.tx.length=ts.toL.length:=by rw [gP,List.length_map]
  have e3:((" & ":Str)).length=3:=rfl
  rw [lt,e3] at jl
  have le:xs.length<=1000000:=by omega
  refine ⟨_,_,_,hp,B.ck_Both.cl,B.na_Both_fits,.ref ln,rfl,?_⟩
  refine ⟨ln,rfl,⟨xs,SqL.of hn⟩,?_⟩
  refine CompL.by (xs:=xs) (fun i acc σ H'=>acc=((ts.toL.take i).map Tr.tx).map V.str/\(∃ v,σ=[v])/\Same H H') (szM le) ⟨rfl,⟨_,rfl⟩,fun _ _ z=>z⟩ (fun i acc σ H' _ h=>SqL.of (h.2.2 _ _ hn)) ?_ ?_ ?_
  ·rintro i y acc σ H' hy ⟨rfl,⟨v,rfl⟩,S1⟩
   obtain ⟨t,e,ht⟩:=hA.get hy
   have mt:=List.mem_of_getElem? e
   have dt:=pR mt
   have ea:((ts.toL.take i).map Tr.tx).map V.str++[V.str t.tx]=((ts.toL.take (i+1)).map Tr.tx).map V.str:=by
    rw [List.take_succ,e,List.map_append,List.map_append]
    rfl
   have lx:=qJ (s:=(" & ":Str)) (ts:=ts.tx) (x:=t.tx) (by rw [gP]; exact List.mem_map.mpr ⟨t,mt,rfl⟩)
   nofun
   refine ⟨y,t,by omega,rfl,ht.same S1,trs_wf.mp hw.2 t mt,by omega,fun H2 S2=>?_⟩
   first | exact ⟨ea,⟨_,rfl⟩,S1.trans S2⟩ | exact ⟨ea,S1.trans S2⟩
  ·rintro i acc σ H' ⟨rfl,_,_⟩
   rw [List.length_map,List.length_map,List.length_take]
   omega
  ·rintro acc σ H' ⟨rfl,⟨v,rfl⟩,S1⟩ D hD
   rw [<- ln6,List.take_length,<- gP]
   refine ⟨(" & ":Str),D,ts.tx,rfl,rfl,aA,kF tne (by omega) (by decide),?_⟩
   rw [tW]
   refine ⟨_,rfl,szM (by omega),szM (by rw [Str.length_append]; omega),?_⟩
   exact q _ (S1.trans (aE hD _))
 | either ts =>
  rw [Tr.Fit] at hf
  rw [Tr.wf] at hw
  rw [Tr.tx] at q hx
  obtain ⟨p,dx,ln,xs,rfl,hp,hn,hs⟩:=hf
  nofun
  refine ⟨_,_,_,false,rfl,B.ck_Either.ty hp,B.is_Either_Kind,?_⟩
  nofun
  refine ⟨_,_,_,false,rfl,B.ck_Either.ty hp,B.is_Either_Place,?_⟩
  nofun
  refine ⟨_,_,_,false,rfl,B.ck_Either.ty hp,B.is_Either_Least,?_⟩
  nofun
  refine ⟨_,_,_,false,rfl,B.ck_Either.ty hp,B.is_Either_Not,?_⟩
  nofun
  refine ⟨_,_,_,false,rfl,B.ck_Either.ty hp,B.is_Either_Both,?_⟩
  nofun
  refine ⟨_,_,_,true,rfl,B.ck_Either.ty hp,B.is_Either_Either,?_⟩
  nofun
  rw [Tr.dp] at hd0
  rw [Str.length_append,Str.length_append] at hx
  have hA:=trs_fit.mp hs
  have ln6:=hA.len
  have tne:ts.tx≠[]:=fun z=>by
   have l:=congrArg List.length z
   rw [gP,List.length_map,List.length_nil] at l
   omega
  have jl:=iB (s:=(" | ":Str)) tne
  have lt:ts.tx.length=ts.toL.length:=by rw [gP,List.length_map]
  have e3:((" | ":Str)).length=3:=rfl
  rw [lt,e3] at jl
  have le:xs.length<=1000000:=by omega
  refine ⟨_,_,_,hp,B.ck_Either.cl,B.na_Either_fits,.ref ln,rfl,?_⟩
  refine ⟨ln,rfl,⟨xs,SqL.of hn⟩,?_⟩
  refine CompL.by (xs:=xs) (fun i acc σ H'=>acc=((ts.toL.take i).map Tr.tx).map V.str/\(∃ v,σ=[v])/\Same H H') (szM le) ⟨rfl,⟨_,rfl⟩,fun _ _ z=>z⟩ (fun i acc σ H' _ h=>SqL.of (h.2.2 _ _ hn)) ?_ ?_ ?_
  ·rintro i y acc σ H' hy ⟨rfl,⟨v,rfl⟩,S1⟩
   obtain ⟨t,e,ht⟩:=hA.get hy
   have mt:=List.mem_of_getElem? e
   have dt:=pR mt
   have ea:((ts.toL.take i).map Tr.tx).map V.str++[V.str t.tx]=((ts.toL.take (i+1)).map Tr.tx).map V.str:=by
    rw [List.take_succ,e,List.map_append,List.map_append]
    rfl
   have lx:=qJ (s:=(" | ":Str)) (ts:=ts.tx) (x:=t.tx) (by rw [gP]; exact List.mem_map.mpr ⟨t,mt,rfl⟩)
   nofun
   refine ⟨y,t,by omega,rfl,ht.same S1,trs_wf.mp hw.2 t mt,by omega,fun H2 S2=>?_⟩
   first | exact ⟨ea,⟨_,rfl⟩,S1.trans S2⟩ | exact ⟨ea,S1.trans S2⟩
  ·rintro i acc σ H' ⟨rfl,_,_⟩
   rw [List.length_map,List.length_map,List.length_take]
   omega
  ·rintro acc σ H' ⟨rfl,⟨v,rfl⟩,S1⟩ D hD
   rw [<- ln6,List.take_length,<- gP]
   refine ⟨(" | ":Str),D,ts.tx,rfl,rfl,aA,kF tne (by omega) (by decide),?_⟩
   rw [tW]
   refine ⟨_,rfl,szM (by omega),szM (by rw [Str.length_append]; omega),?_⟩
   exact q _ (S1.trans (aE hD _))
theorem wB (B:Bt K mg a)(F:Fun K "_law_begin" "_law_begin" eJ f fd):FnOk P w K mg base CX0 1 f fd ["_law_cell"] (oG K a):=by
 refine F.ok vO (fun vs H Q E h=>?_) (fun cdv A outer s H vs Q E hr h=>?_)
 ·obtain ⟨c,rfl,_⟩:=h
  rfl
 obtain ⟨c,rfl,q⟩:=h
 refine fP ⟨_,(aH (aT (gN (aO (bE rE (bE jZ (pv 0) aM) (bE AE2 aM (bE kJ (pv 0) aM))) (aO (bE kJ (pv 0) aM) (aO aM aD)))))),?_⟩
 nofun
 exact ⟨⟨by decide,by decide⟩,by decide,.inr ⟨by omega,by omega⟩,by decide,by decide,fun p hp=>q p _ _ _ hp⟩
theorem yH (B:Bt K mg a)(F:Fun K "_law_next" "_law_next" fV f fd):FnOk P w K mg base CX0 1 f fd ["_law_state","_law_base"] (dA K a):=by
 refine F.ok sc_law_next (fun vs H Q E h=>?_) (fun cdv A outer s H vs Q E hr h=>?_)
 ·obtain ⟨wl,m,rfl,_⟩:=h
  rfl
 obtain ⟨wl,m,rfl,⟨a,b,c,hw⟩,m0,m1,q⟩:=h
 refine fP ⟨_,(aC (bG (aQ uP (bN bJ (pv 0) aM (fun _ _=>rfl)) aM (aW _)) (aC (bC (i:=2) sc_law_next.nd rfl (Or.inl rfl) (aR (bE kJ (bN bJ (pv 0) aM (fun _ _=>rfl)) (pv 1))) (by kernel_rfl)) (aC (bQ (nY (bE jZ (bN bJ (pv 0) aM (fun _ _=>rfl)) (pv 1)) (zB (pv 0) aM oY))) (aH (aT (aR (pv 2)))))) aS) (aC (bQ (nY (bE bZ (bN bJ (pv 0) aM (fun _ _=>rfl)) aM) (zB (pv 0) aM oY))) (aC (bC (i:=3) sc_law_next.nd rfl (Or.inl rfl) (aR (bE kJ (bE rE (bE bZ (bE bZ (bN bJ (pv 0) aM (fun _ _=>rfl)) (bE rE aM (bN bJ (pv 0) aM (fun _ _=>rfl)))) aM) aM) aM)) (by kernel_rfl)) (aC (bC (i:=3) sc_law_next.nd rfl (Or.inl rfl) (aR (bE kJ (bE rE (pv 3) (bE bZ (bE jZ (pv 3) aM) aM)) aM)) (by kernel_rfl)) (aC (bC (i:=3) sc_law_next.nd rfl (Or.inl rfl) (aR (bE kJ (bE rE (pv 3) (bE bZ (bE jZ (pv 3) aM) aM)) aM)) (by kernel_rfl)) (aH (aT (aR (bE kJ (bE jZ (pv 3) aM) (pv 1)))))))))),?_⟩
 have em:∀ x k:Int,0 < k->0<=x % k/\x % k < k:=fun x k h=>⟨Int.emod_nonneg _ (by omega),Int.emod_lt_of_pos _ h⟩
 nofun
 refine ixl (SqL.of hw) (v:=.int a) rfl ?_
 nofun
 split
 ·refine ixl (SqL.of hw) (v:=.int a) rfl ?_
  nofun
  refine ⟨m0,?_⟩
  refine ixl (SqL.of hw) (v:=.int a) rfl ?_
  nofun
  refine ⟨⟨m0,m1⟩,?_⟩
  refine BR9 hw (j:=0) rfl ?_
  exact q _ _ (em a m m0).1 (em a m m0).2 ⟨_,_,_,aA⟩ (But.upd _)
 ·refine ixl (SqL.of hw) (v:=.int c) rfl ?_
  nofun
  refine BR9 hw (j:=2) rfl ?_
  refine ixl (SqL.of aA) (v:=.int b) rfl ?_
  refine ixl (SqL.of aA) (v:=.int (c+1)) rfl ?_
  nofun
  generalize hn1:(b+7919 * (c+1)+1) * 48271 % 2147483647=n1
  have b1:0<=n1/\n1 < 2147483647:=hn1 ▸ em _ _ (by decide)
  generalize hn2:n1 * (n1 / 1009+69621) % 2147483647=n2
  have b2:0<=n2/\n2 < 2147483647:=hn2 ▸ em _ _ (by decide)
  refine ⟨.inl ⟨by decide,by decide⟩,.inr ⟨by decide,by decide⟩,by decide,⟨by decide,by decide⟩,.inl ⟨by omega,by omega⟩,by decide,⟨by decide,by decide⟩,.inl ⟨by omega,by omega⟩,by decide,⟨by decide,by decide⟩,m0,?_⟩
  exact q _ _ (em _ m m0).1 (em _ m m0).2 ⟨_,_,_,aA⟩ (But.upd _)
theorem yI (B:Bt K mg a)(bA:CalX P w K mg base "_law_next" ["_law_state","_law_base"] 1 (dA K a))(F:Fun K "_law_name" "_law_name" fW f fd):FnOk P w K mg base CX0 2 f fd ["_law_state"] (qC K a):=by
 refine F.ok sc_law_name (fun vs H Q E h=>?_) (fun cdv A outer s H vs Q E hr h=>?_)
 ·obtain ⟨wl,rfl,_⟩:=h
  rfl
 obtain ⟨wl,rfl,W,q⟩:=h
 refine fP ⟨_,(aC (bC (i:=1) sc_law_name.nd rfl (Or.inr rfl) (aR aK) (by kernel_rfl)) (aC (bC (i:=2) sc_law_name.nd rfl (Or.inl rfl) (aR (aZ bA (hr.mono (by decide)) rfl (aJ (aO (pv 0) (aO aM aD))) (he:=aB _ _ _ rfl) (hpl:=aG rfl))) (by kernel_rfl)) (aC (bG (aQ bY (pv 2) aM (aW _)) (aC (bC (i:=3) sc_law_name.nd rfl (Or.inl rfl) (gN (aO aK (aO aK (aO aK (aO aK (aO aK (aO aK (aO aK (aO aK (aO aK (aO aK (aO aK (aO aK (aO aK aD)))))))))))))) (by kernel_rfl)) (aH (aT (BH3 bJ (pQ hJ (aR (pv 3)) (gN (aO aK (aO aK (aO aK aD))))) (aR (aZ bA (hr.mono (by decide)) rfl (aJ (aO (pv 0) (aO aM aD))) (he:=aB _ _ _ rfl) (hpl:=aG rfl))) (fun _ _=>rfl))))) aS) (aC (bG (aQ bY (pv 2) aM (aW _)) (aC (bC (i:=4) sc_law_name.nd rfl (Or.inl rfl) (aR (cI zM aK dL (cU (bE bZ aM (aZ bA (hr.mono (by decide)) rfl (aJ (aO (pv 0) (aO aM aD))) (he:=aB _ _ _ rfl) (hpl:=aG rfl)))))) (by kernel_rfl)) (aC (bC (i:=5) sc_law_name.nd rfl (Or.inl rfl) (aR (aZ bA (hr.mono (by decide)) rfl (aJ (aO (pv 0) (aO (aU cY rfl B.len PySem.boot_len (aJ (aO (pv 4) aD))) aD))) (he:=aB _ _ _ rfl) (hpl:=aG rfl))) (by kernel_rfl)) (aH (aT (aR (bE bR (bE bR (cI zM (pv 4) dL (cU (pv 5))) (bN AF6 aK (aZ bA (hr.mono (by decide)) rfl (aJ (aO (pv 0) (aO aM aD))) (he:=aB _ _ _ rfl) (hpl:=aG rfl)) (fun _ _=>rfl))) (cI zM (pv 4) (cU (bE bZ (pv 5) aM)) dL))))))) aS) (aH (aT (aR (iY PySem.F.plainAttrs_str PySem.F.slot_str_join PySem.F.type_str_join kU aK (aJ (aO (dI ["_law_k","_law_letters","_law_state"] [none,some 1,some 0] rfl (by kernel_rfl) (gJ rfl B.range (aJ (aO (bE bZ aM (aZ bA (hr.mono (by decide)) rfl (aJ (aO (pv 0) (aO aM aD))) (he:=aB _ _ _ rfl) (hpl:=aG rfl))) aD))) (fun cl C s H fp=>⟨(bO (i:=0) (by decide:List.Nodup (["_law_k","_law_letters","_law_state"]:List Str)) rfl (Or.inl (by kernel_rfl)) (Or.inr (by kernel_rfl))),iG,(bN AF6 (pv 1 (hv:=Or.inr (Or.inl (by kernel_rfl)))) (aZ bA (hr.mono (by decide)) (qT (by kernel_rfl)) (aJ (aO (pv 2 (hv:=Or.inr (Or.inl (by kernel_rfl)))) (aO aM aD))) (he:=aB _ _ _ rfl) (hpl:=aG rfl)) (fun _ _=>rfl))⟩)) aD)))))))))),?_⟩
 nofun
 refine sA W (by decide) (by decide) fun r1 H1 a1 b1 W1 B1=>?_
 nofun
 by_cases h0:r1=0
 ·rw [if_pos h0]
  refine ⟨sz8 (by decide),fun p hp=>?_⟩
  have S1:=aE hp (.lst [.str "any",.str "kind",.str "place",.str "weight",.str "not",.str "by",.str "now",.str "hour",.str "day",.str "never",.str "sure",.str "raise",.str "zone"])
  have e1:upd H1 p (.lst [.str "any",.str "kind",.str "place",.str "weight",.str "not",.str "by",.str "now",.str "hour",.str "day",.str "never",.str "sure",.str "raise",.str "zone"]) p=some (.lst [.str "any",.str "kind",.str "place",.str "weight",.str "not",.str "by",.str "now",.str "hour",.str "day",.str "never",.str "sure",.str "raise",.str "zone"]):=aA
  generalize upd H1 p (.lst [.str "any",.str "kind",.str "place",.str "weight",.str "not",.str "by",.str "now",.str "hour",.str "day",.str "never",.str "sure",.str "raise",.str "zone"])=H2 at *
  refine ⟨sz8 (by decide),fun p2 hp2=>?_⟩
  have S2:=aE hp2 (.lst [.str "quiet",.str "a",.str "to"])
  have e2:upd H2 p2 (.lst [.str "quiet",.str "a",.str "to"]) p2=some (.lst [.str "quiet",.str "a",.str "to"]):=aA
  have e1':=S2 _ _ e1
  generalize upd H2 p2 (.lst [.str "quiet",.str "a",.str "to"])=H3 at *
  refine ⟨p,p2,[.str "any",.str "kind",.str "place",.str "weight",.str "not",.str "by",.str "now",.str "hour",.str "day",.str "never",.str "sure",.str "raise",.str "zone"],[.str "quiet",.str "a",.str "to"],rfl,rfl,e1',e2,sz8 (by decide),fun p3 hp3=>?_⟩
  have S3:=aE hp3 (.lst ([.str "any",.str "kind",.str "place",.str "weight",.str "not",.str "by",.str "now",.str "hour",.str "day",.str "never",.str "sure",.str "raise",.str "zone"]++[.str "quiet",.str "a",.str "to"]))
  have e3:upd H3 p3 (.lst ([.str "any",.str "kind",.str "place",.str "weight",.str "not",.str "by",.str "now",.str "hour",.str "day",.str "never",.str "sure",.str "raise",.str "zone"]++[.str "quiet",.str "a",.str "to"])) p3=some (.lst ([.str "any",.str "kind",.str "place",.str "weight",.str "not",.str "by",.str "now",.str "hour",.str "day",.str "never",.str "sure",.str "raise",.str "zone"]++[.str "quiet",.str "a",.str "to"])):=aA
  have n3:=(W1.same (S1.trans S2)).ne hp3
  generalize upd H3 p3 (.lst ([.str "any",.str "kind",.str "place",.str "weight",.str "not",.str "by",.str "now",.str "hour",.str "day",.str "never",.str "sure",.str "raise",.str "zone"]++[.str "quiet",.str "a",.str "to"]))=H4 at *
  have SS:=S1.trans (S2.trans S3)
  refine sA (W1.same SS) (by decide) (by decide) fun r4 H5 a4 b4 W5 B5=>?_
  have e5:=B5 p3 _ n3 e3
  obtain ⟨v,hv,ev⟩:=pM (xs:=([.str "any",.str "kind",.str "place",.str "weight",.str "not",.str "by",.str "now",.str "hour",.str "day",.str "never",.str "sure",.str "raise",.str "zone"]:List V)++[.str "quiet",.str "a",.str "to"]) a4 (by simp only [List.length_append,List.length_cons,List.length_nil]; omega)
  refine ixl (SqL.of e5) ev ?_
  obtain ⟨u,rfl,g⟩:∃ u,v=.str u/\aY u:=by
   simp only [List.cons_append,List.nil_append,List.mem_cons,List.not_mem_nil,or_false] at hv
   rcases hv with rfl | rfl | rfl | rfl | rfl | rfl | rfl | rfl | rfl | rfl | rfl | rfl | rfl | rfl | rfl | rfl <;> exact ⟨_,rfl,by decide +kernel⟩
  exact q u H5 g W5 (B1.trans ((Same.but SS).trans B5))
 rw [if_neg h0]
 by_cases h1:r1=1
 ·rw [if_pos h1]
  refine sA W1 (by decide) (by decide) fun r2 H2 a2 b2 W2 B2=>?_
  nofun
  have e8:Str.ofString "bcdefghi"=w8:=rfl
  have e3:Str.ofString "axz"=axz:=rfl
  rw [e8]
  have hw:=AZ9 a2 b2
  have hl:(Txt.slice w8 none (some (1+r2))).length<=8:=pO w8 (by decide) _ _
  refine ⟨sz8 (by decide),sz8 (by omega),?_⟩
  refine sA W2 (by rw [hw]; omega) (by rw [hw]; omega) fun r3 H3 a3 b3 W3 B3=>?_
  have b3':r3 < r2+1:=by rw [hw] at b3; omega
  nofun
  refine ⟨sz8 (by omega),?_⟩
  refine sA W3 (by decide) (by decide) fun r4 H4 a4 b4 W4 B4=>?_
  obtain ⟨c,ec,gd⟩:=AP1 a2 b2 a3 b3' a4 b4
  refine ixs (u:=axz) (sz8 (by decide)) ec ?_
  nofun
  have l1:=pO (Txt.slice w8 none (some (1+r2))) hl none (some r3)
  have l2:=pO (Txt.slice w8 none (some (1+r2))) hl (some (r3+1)) none
  have l3:(⟨#[c]⟩:Str).length=1:=rfl
  refine ⟨sz8 (by rw [l3]; omega),sz8 (by omega),sz8 (by rw [Str.length_append,l3]; omega),?_⟩
  exact q _ H4 gd W4 (B1.trans (B2.trans (B3.trans B4)))
 ·rw [if_neg h1]
  refine sA W1 (by decide) (by decide) fun r2 H2 a2 b2 W2 B2=>?_
  nofun
  refine ⟨by omega,by omega,?_⟩
  refine CompR.by (fun i acc σ H'=>(∃ ts:List Str,acc=ts.map V.str/\ts.length=i/\∀ t∈ts,∃ c,t=⟨#[c]⟩/\97<=c/\c<=122)/\(∃ v,σ=[v,some (.str letters),some (.ref wl)])/\Well3 H' wl/\But wl H2 H') (sz8 (by omega)) ⟨⟨[],rfl,rfl,fun t ht=>by cases ht⟩,⟨_,rfl⟩,W2,But.refl _ _⟩ ?_ ?_ ?_
  ·rintro i acc σ H' hi ⟨⟨ts,rfl,hl,ht⟩,⟨v,rfl⟩,W3,B3⟩
   nofun
   refine sA W3 (by decide) (by decide) fun r3 H3 a3 b3 W4 B4=>?_
   obtain ⟨c,ec,c0,c1⟩:=AI3 a3 b3
   refine ixs (u:=letters) (sz8 (by decide)) ec ?_
   have new:∃ us:List Str,ts.map V.str++[V.str ⟨#[c]⟩]=us.map V.str/\us.length=i+1/\∀ t∈us,∃ c,t=⟨#[c]⟩/\97<=c/\c<=122:=by
    refine ⟨ts++[⟨#[c]⟩],by rw [List.map_append]; rfl,by rw [List.length_append,hl]; rfl,fun t h=>?_⟩
    rcases List.mem_append.mp h with z | z
    ·exact ht t z
    ·rw [List.mem_singleton.mp z]
     exact ⟨c,rfl,c0,c1⟩
   first | exact ⟨new,⟨_,rfl⟩,W4,B3.trans B4⟩ | exact ⟨new,W4,B3.trans B4⟩
  ·rintro i acc σ H' ⟨⟨ts,rfl,hl,_⟩,_⟩
   rw [List.length_map,hl]
   exact Nat.le_refl _
  ·rintro acc σ H' ⟨⟨ts,rfl,hl,ht⟩,⟨v,rfl⟩,W3,B3⟩ D hD
   have hn:ts.length=(1+r2).toNat:=hl
   obtain ⟨j1,j2⟩:=AI4 ht (by omega) (by omega)
   have n0:=W3.ne hD
   have S9:=aE hD (.lst (ts.map V.str))
   refine ⟨Str.empty,D,ts,rfl,rfl,aA,j1,?_⟩
   exact q _ _ j2 (W3.same S9) (B1.trans (B2.trans (B3.trans (Same.but S9))))
theorem yJ (B:Bt K mg a)(bA:CalX P w K mg base "_law_next" ["_law_state","_law_base"] 1 (dA K a))(kG:CalX P w K mg base "_law_name" ["_law_state"] 2 (qC K a))(F:Fun K "_law_leaf" "_law_leaf" fX f fd):FnOk P w K mg base CX0 3 f fd ["_law_state","_law_more"] (qD K a):=by
 refine F.ok sc_law_leaf (fun vs H Q E h=>?_) (fun cdv A outer s H vs Q E hr h=>?_)
 ·obtain ⟨wl,m,rfl,_⟩:=h
  rfl
 obtain ⟨wl,m,rfl,W,m0,m5,q⟩:=h
 refine fP ⟨_,(aC (bC (i:=2) sc_law_leaf.nd rfl (Or.inl rfl) (aR (aZ bA (hr.mono (by decide)) rfl (aJ (aO (pv 0) (aO aM aD))) (he:=aB _ _ _ rfl) (hpl:=aG rfl))) (by kernel_rfl)) (aC (bG (aQ bY (pv 2) aM (aW _)) (aH (aT (aR (cV (aJ (aO aK aD)))))) aS) (aC (bG (aQ qQ (pv 2) aM (aW _)) (aH (aT (aR (cV (aJ (aO aK (aO (bN bJ (gK (aJ (aO (aZ bA (hr.mono (by decide)) rfl (aJ (aO (pv 0) (aO aM aD))) (he:=aB _ _ _ rfl) (hpl:=aG rfl)) (aO (aZ bA (hr.mono (by decide)) rfl (aJ (aO (pv 0) (aO (bE BF4 aM aM) aD))) (he:=aB _ _ _ rfl) (hpl:=aG rfl)) aD)))) (bE jZ (aZ bA (hr.mono (by decide)) rfl (aJ (aO (pv 0) (aO aM aD))) (he:=aB _ _ _ rfl) (hpl:=aG rfl)) aM) (fun _ _=>rfl)) aD))))))) aS) (aC (bC (i:=3) sc_law_leaf.nd rfl (Or.inl rfl) (gN (aO (aZ kG (hr.mono (by decide)) rfl (aJ (aO (pv 0) aD)) (he:=aB _ _ _ rfl) (hpl:=aG rfl)) aD)) (by kernel_rfl)) (aC (bQ (uN PassesOwn.never rfl (gJ rfl B.range (aJ (aO (aZ bA (hr.mono (by decide)) rfl (aJ (aO (pv 0) (aO (bE bZ aM (pv 1)) aD))) (he:=aB _ _ _ rfl) (hpl:=aG rfl)) aD))) (bO (i:=4) sc_law_leaf.nd rfl (Or.inl rfl)) (iM (aC (bC (i:=5) sc_law_leaf.nd rfl (Or.inl rfl) (aR (aZ kG (hr.mono (by decide)) rfl (aJ (aO (pv 0) aD)) (he:=aB _ _ _ rfl) (hpl:=aG rfl))) (by kernel_rfl)) (aH (bG (aQ gZ (pv 5) (pv 3) (by with_unfolding_all rfl)) (aH (bQ (dJ (iY PySem.F.plainAttrs_list PySem.F.slot_list_append PySem.F.type_list_append gL (pv 3) (aJ (aO (pv 5) aD)))))) aS)))))) (aH (aT (aR (cV (aJ (aO (bN bJ (gK (aJ (aO aK (aO aK aD)))) (bE kJ (pv 2) aM) (fun _ _=>rfl)) (aO (bH fM rfl B.tuple PyProof.Rows.boot_tuple (aJ (aO (pv 3) aD))) aD)))))))))))),?_⟩
 nofun
 refine sA W (by decide) (by decide) fun kd H1 k0 k1 W1 B1=>?_
 nofun
 by_cases c0:kd=0
 ·rw [if_pos c0]
  refine ⟨sz8 (by decide),fun p hp=>?_⟩
  exact q (.ref p) .any _ (by rw [Tr.At]; exact ⟨p,rfl,aA⟩) (by rw [Tr.ok]; trivial) (by rw [Tr.dp]) (by rw [Tr.cnt]; decide) (W1.same (aE hp _)) (B1.trans (Same.but (aE hp _)))
 rw [if_neg c0]
 by_cases c3:kd < 3
 ·rw [if_pos c3]
  refine sA W1 (by decide) (by decide) fun r1 H2 a1 b1 W2 B2=>?_
  nofun
  refine ⟨⟨by decide,by decide,by decide⟩,?_⟩
  refine sA W2 (by decide) (by decide) fun r2 H3 a2 b2 W3 B3=>?_
  have b2':r2 < 1000000:=by first | exact b2 | simpa using b2
  refine ⟨sz8 (by decide),fun p hp=>?_⟩
  have S4:=aE hp (.lst [.int r1,.int r2])
  have np:=W3.ne hp
  refine sA (W3.same S4) (by decide) (by decide) fun r3 H5 a3 b3 W5 B5=>?_
  have e5:=B5 p _ np aA
  nofun
  obtain ⟨v,hv,ev⟩:=pM (xs:=[.int r1,.int r2]) (i:=r3 / 2) (by omega) (by simp only [List.length_cons,List.length_nil]; omega)
  obtain ⟨nn,rfl,n0,n1⟩:∃ nn:Int,v=.int nn/\0<=nn/\nn < 1000000:=by
   simp only [List.mem_cons,List.not_mem_nil,or_false] at hv
   rcases hv with rfl | rfl
   ·exact ⟨r1,rfl,a1,by omega⟩
   ·exact ⟨r2,rfl,a2,b2'⟩
  refine ⟨⟨by decide,by decide⟩,ixl (SqL.of e5) ev ?_⟩
  refine ⟨sz8 (by decide),fun p6 h6=>?_⟩
  exact q (.ref p6) (.weight nn) _ (by rw [Tr.At]; exact ⟨p6,rfl,aA⟩) (by rw [Tr.ok]; exact ⟨n0,n1⟩) (by rw [Tr.dp]) (by rw [Tr.cnt]; decide) (W5.same (aE h6 _)) (B1.trans (B2.trans (B3.trans ((Same.but S4).trans (B5.trans (Same.but (aE h6 _)))))))
 rw [if_neg c3]
 refine ⟨wl,rfl,W1,fun u0 H2 g0 W2 B2=>?_⟩
 nofun
 refine ⟨sz8 (by decide),fun pf hf=>?_⟩
 have nw:=W2.ne hf
 have S1:=aE hf (.lst [.str u0])
 have W3:=W2.same S1
 have e1:upd H2 pf (.lst [.str u0]) pf=some (.lst ([u0].map V.str)):=aA
 generalize upd H2 pf (.lst [.str u0])=H3 at *
 refine sA W3 (by omega) (by omega) fun r H4 a2 b2 W4 B4=>?_
 have e2:=B4 pf _ nw e1
 nofun
 refine ⟨by omega,by omega,?_⟩
 refine ForR.by (fun i σ H'=>(∃ us:List Str,us.length<=i+1/\us≠[]/\(∀ u∈us,aY u)/\us.Nodup/\H' pf=some (.lst (us.map V.str)))/\(∃ v8 v9,σ=[some (.ref wl),some (.int m),some (.int kd),some (.ref pf),v8,v9])/\Well3 H' wl/\But wl H2 H') ⟨⟨[u0],Nat.le_refl _,(by intro z; cases z),(fun u hu=>by rw [List.mem_singleton.mp hu]; exact g0),(by simp),e2⟩,⟨_,_,rfl⟩,W4,(Same.but S1).trans B4⟩ ?_ ?_
 ·rintro i σ H9 hi ⟨⟨us,ul,une,ug,un,ue⟩,⟨v8,v9,rfl⟩,W9,B9⟩
  nofun
  refine ⟨wl,rfl,W9,fun u H3 g W3 B3=>?_⟩
  have ue3:=B3 pf _ nw ue
  nofun
  refine ⟨pf,_,rfl,.inl (SqL.of ue3),rfl,vY us,?_⟩
  rw [qH]
  by_cases c:u∈us
  ·exists decide_eq_true c,Bool.not_true
   exact ⟨⟨us,by omega,une,ug,un,ue3⟩,W3,B9.trans B3⟩
  ·exists decide_eq_false c,Bool.not_false
   refine ⟨.inl ⟨rfl,_,SqL.of ue3⟩,pf,_,_,rfl,rfl,ue3,?_,?_⟩
   ·rw [List.length_map]
    exact Nat.lt_of_le_of_lt (by omega:us.length<=1000) (by decide)
   ·have W12:Well3 (upd H3 pf (.lst (us.map V.str++[.str u]))) wl:=by
     obtain ⟨x1,x2,x3,e⟩:=W3
     exact ⟨x1,x2,x3,by rw [aN (fun z=>nw z.symm)]; exact e⟩
    refine ⟨⟨us++[u],by rw [List.length_append,List.length_singleton]; omega,(by simp),fun y hy=>?_,?_,by rw [aA,List.map_append]; rfl⟩,W12,fun b o nb e=>?_⟩
    ·rcases List.mem_append.mp hy with z | z
     ·exact ug y z
     ·rw [List.mem_singleton.mp z]; exact g
    ·rw [List.nodup_append]
     exact ⟨un,by simp,fun x hx y hy e=>c (by rw [List.mem_singleton.mp hy] at e; rw [<- e]; exact hx)⟩
    ·rw [aN (aP e hf)]
     exact B3 b o nb (B9 b o nb e)
 ·rintro σ H9 ⟨⟨us,ul,une,ug,un,ue⟩,⟨v8,v9,rfl⟩,W9,B9⟩
  nofun
  refine ⟨sz8 (by decide),fun p1 h1=>?_⟩
  have T1:=aE h1 (.lst [.str "kind",.str "place"])
  have f1:upd H9 p1 (.lst [.str "kind",.str "place"]) p1=some (.lst [.str "kind",.str "place"]):=aA
  have ue1:=T1 _ _ ue
  generalize upd H9 p1 (.lst [.str "kind",.str "place"])=G1 at *
  refine ⟨by decide,?_⟩
  rcases (by omega:kd % 2=0\/kd % 2=1) with hk | hk
  ·rw [hk]
   refine ixl (SqL.of f1) (v:=.str "kind") rfl ?_
   nofun
   refine ⟨_,.inl ⟨SqL.of ue1,fun p3 h3=>?_⟩⟩
   have T3:=aE h3 (.tup (us.map V.str))
   refine ⟨sz8 (by decide),fun p4 h4=>?_⟩
   have SS:=T1.trans (T3.trans (aE h4 (.tup [.str "kind",.ref p3])))
   refine q (.ref p4) (.kind us) _ (by rw [Tr.At]; exact ⟨p4,p3,rfl,aA,aE h4 _ _ _ aA⟩) (by rw [Tr.ok]; exact ⟨une,by omega,ug,un⟩) (by rw [Tr.dp]) (by rw [Tr.cnt]; omega) (W9.same SS) (B1.trans (B2.trans (B9.trans (Same.but SS))))
  ·rw [hk]
   refine ixl (SqL.of f1) (v:=.str "place") rfl ?_
   nofun
   refine ⟨_,.inl ⟨SqL.of ue1,fun p3 h3=>?_⟩⟩
   have T3:=aE h3 (.tup (us.map V.str))
   refine ⟨sz8 (by decide),fun p4 h4=>?_⟩
   have SS:=T1.trans (T3.trans (aE h4 (.tup [.str "place",.ref p3])))
   refine q (.ref p4) (.place us) _ (by rw [Tr.At]; exact ⟨p4,p3,rfl,aA,aE h4 _ _ _ aA⟩) (by rw [Tr.ok]; exact ⟨une,by omega,ug,un⟩) (by rw [Tr.dp]) (by rw [Tr.cnt]; omega) (W9.same SS) (B1.trans (B2.trans (B9.trans (Same.but SS))))
theorem yK {d n:Nat}(hn:3<=n)(B:Bt K mg a)(bA:CalX P w K mg base "_law_next" ["_law_state","_law_base"] 1 (dA K a))(nP:CalX P w K mg base "_law_leaf" ["_law_state","_law_more"] 3 (qD K a))(gE:CalX P w K mg base "_law_tree" ["_law_state","_law_deep","_law_more"] n (eP K a d))(F:Fun K "_law_tree" "_law_tree" fY f fd):FnOk P w K mg base CX0 (n+1) f fd ["_law_state","_law_deep","_law_more"] (eP K a (d+1)):=by
 refine F.ok sc_law_tree (fun vs H Q E h=>?_) (fun cdv A outer s H vs Q E hr h=>?_)
 ·obtain ⟨wl,i,m,hi,rfl,_⟩:=h
  rfl
 obtain ⟨wl,i,m,hi,rfl,W,i3,m0,m5,q⟩:=h
 refine fP ⟨_,(aC (bC (i:=3) sc_law_tree.nd rfl (Or.inl rfl) (aR (aZ bA (hr.mono (by omega)) rfl (aJ (aO (pv 0) (aO aM aD))) (he:=aB _ _ _ rfl) (hpl:=aG rfl))) (by kernel_rfl)) (aC (bG (L2.PW.pt (iE (aQ bY (pv 1) aM (aW _)) (eC (aQ qQ (pv 3) aM (aW _))))) (aH (aT (aR (aZ nP (hr.mono (by omega)) rfl (aJ (aO (pv 0) (aO (bE rE (pv 2) (bH lO rfl B.int PyProof.Rows.boot_int (aJ (aO (cS uP (pv 1) aM (aW _)) aD)))) aD))) (he:=aB _ _ _ rfl) (hpl:=aG rfl))))) aS) (aC (bG (aQ bY (pv 3) aM (aW _)) (aH (aT (aR (cV (aJ (aO aK (aO (aZ gE (hr.mono (by omega)) rfl (aJ (aO (pv 0) (aO (bE AE2 (pv 1) aM) (aO (pv 2) aD)))) (he:=aB _ _ _ rfl) (hpl:=aG rfl)) aD))))))) aS) (aC (bQ (AP0 (i:=4) ["_law_k","_law_state","_law_more","_law_deep"] [none,some 0,some 2,some 1] rfl (by kernel_rfl) sc_law_tree.nd rfl rfl (gJ rfl B.range (aJ (aO (bE bZ aM (bH lO rfl B.int PyProof.Rows.boot_int (aJ (aO (pG (cS uP (pv 1) aM (aW _)) (nX (cS uP (pv 3) aM (aW _)))) aD)))) aD))) (fun cl C s H fp=>⟨(bO (i:=0) (by decide:List.Nodup (["_law_k","_law_state","_law_more","_law_deep"]:List Str)) rfl (Or.inl (by kernel_rfl)) (Or.inr (by kernel_rfl))),iG,(aZ gE (hr.mono (by omega)) (qT (by kernel_rfl)) (aJ (aO (pv 1 (hv:=Or.inr (Or.inl (by kernel_rfl)))) (aO (bE AE2 (pv 3 (hv:=Or.inr (Or.inl (by kernel_rfl)))) aM) (aO (pv 2 (hv:=Or.inr (Or.inl (by kernel_rfl)))) aD)))) (he:=aB _ _ _ rfl) (hpl:=aG rfl))⟩))) (aH (aT (aR (cV (aJ (aO (bN bJ (gK (aJ (aO aK (aO aK aD)))) (bE kJ (pv 3) aM) (fun _ _=>rfl)) (aO (bH fM rfl B.tuple PyProof.Rows.boot_tuple (aJ (aO (pv 4) aD))) aD))))))))))),?_⟩
 nofun
 refine sA W (by decide) (by decide) fun kd H1 k0 k1 W1 B1=>?_
 nofun
 by_cases c0:(i:Int)=0
 ·rw [if_pos c0]
  refine ⟨.inl ⟨by omega,by omega⟩,wl,_,rfl,W1,?_,?_,fun v t H' hA ho hd hc W' B'=>?_⟩
  ·split <;> omega
  ·split <;> omega
  have p3:1<=3 ^ i:=Nat.one_le_pow _ _ (by decide)
  exact q v t H' hA ho (by omega) (by omega) W' (B1.trans B')
 rw [if_neg c0]
 by_cases c3:kd < 3
 ·rw [if_pos c3]
  refine ⟨.inl ⟨by omega,by omega⟩,wl,_,rfl,W1,?_,?_,fun v t H' hA ho hd hc W' B'=>?_⟩
  ·split <;> omega
  ·split <;> omega
  have p3:1<=3 ^ i:=Nat.one_le_pow _ _ (by decide)
  exact q v t H' hA ho (by omega) (by omega) W' (B1.trans B')
 rw [if_neg c3]
 obtain ⟨j,rfl⟩:∃ j,i=j+1:=⟨i - 1,by omega⟩
 by_cases c4:kd=3
 ·rw [if_pos c4]
  refine ⟨wl,j,m,by omega,by rw [show ((j+1:Nat):Int) - 1=(j:Int) by omega],W1,by omega,m0,m5,fun v t H' hA ho hd hc W' B'=>?_⟩
  refine ⟨sz8 (by decide),fun p hp=>?_⟩
  have S':=aE hp (.tup [.str "not",v])
  exact q (.ref p) (.not t) _ (by rw [Tr.At]; exact ⟨p,v,rfl,aA,hA.same S'⟩) (by rw [Tr.ok]; exact ho) (by rw [Tr.dp]; omega) (by rw [Tr.cnt,Nat.pow_succ]; omega) (W'.same S') (B1.trans (B'.trans (Same.but S')))
 rw [if_neg c4]
 by_cases c5:(2:Int) < ((j+1:Nat):Int)
 ·rw [if_pos c5]
  by_cases c6:5 < kd
  ·rw [if_pos c6]
   refine ⟨by decide,by decide,?_⟩
   refine CompR.by (n:=3) (fun i' acc σ H'=>∃ ts:List Tr,All2 (Tr.At H') ts acc/\ts.length=i'/\(∀ t∈ts,t.ok/\t.dp<=j/\t.cnt<=3 * 3 ^ j)/\(∃ v,σ=[v,some (.ref wl),some (.int m),some (.int ((j+1:Nat):Int))])/\Well3 H' wl/\But wl H1 H') (sz8 (by decide)) ⟨[],.nil,rfl,(fun t ht=>absurd ht List.not_mem_nil),⟨_,rfl⟩,W1,But.refl _ _⟩ ?_ ?_ ?_
   ·rintro i' acc σ H' hi' ⟨ts,hA,hl,ht,⟨v,rfl⟩,W',B'⟩
    nofun
    refine ⟨wl,j,m,by omega,by rw [show ((j+1:Nat):Int) - 1=(j:Int) by omega],W',by omega,m0,m5,fun v2 t2 H2 hA2 ho2 hd2 hc2 W2 B2=>?_⟩
    have new:∃ ts:List Tr,All2 (Tr.At H2) ts (acc++[v2])/\ts.length=i'+1/\(∀ t∈ts,t.ok/\t.dp<=j/\t.cnt<=3 * 3 ^ j):=⟨ts++[t2],(hA.imp fun t y _ h=>h.but3 W' B2).snoc hA2,by rw [List.length_append,hl]; rfl,fun t m2=>by
     rcases List.mem_append.mp m2 with m2 | m2
     ·exact ht t m2
     ·rw [List.mem_singleton.mp m2]; exact ⟨ho2,hd2,hc2⟩⟩
    obtain ⟨ts2,n1,n2,n3⟩:=new
    first | exact ⟨ts2,n1,n2,n3,⟨_,rfl⟩,W2,B'.trans B2⟩ | exact ⟨ts2,n1,n2,n3,W2,B'.trans B2⟩
   ·rintro i' acc σ H' ⟨ts,hA,hl,_⟩
    rw [<- hA.len]
    omega
   rintro acc σ H2 ⟨ts,hA,hl,ht,⟨v,rfl⟩,W2,B2⟩ pl hpl
   have T0:=aE hpl (.lst acc)
   have e0:upd H2 pl (.lst acc) pl=some (.lst acc):=aA
   generalize upd H2 pl (.lst acc)=G0 at *
   nofun
   refine ⟨sz8 (by decide),fun p1 h1=>?_⟩
   have T1:=aE h1 (.lst [.str "both",.str "either"])
   have f1:upd G0 p1 (.lst [.str "both",.str "either"]) p1=some (.lst [.str "both",.str "either"]):=aA
   have e1:=T1 _ _ e0
   generalize upd G0 p1 (.lst [.str "both",.str "either"])=G1 at *
   refine ⟨by decide,?_⟩
   have okT:2<=(Trs.ofL ts).toL.length/\(Trs.ofL ts).toL.length<=6/\(Trs.ofL ts).ok:=by
    rw [bI]
    exact ⟨by omega,by omega,trs_ok.mpr (by rw [bI]; exact fun t h=>(ht t h).1)⟩
   have dpT:(Trs.ofL ts).dp<=j:=lS (by rw [bI]; exact fun t h=>(ht t h).2.1)
   have cnT:(Trs.ofL ts).cnt<=3 * 3 ^ (j+1):=by
    have h:=sW (n:=3 * 3 ^ j) (ts:=Trs.ofL ts) (by rw [bI]; exact fun t h=>(ht t h).2.2)
    rw [bI,hl] at h
    refine Nat.le_trans h ?_
    rw [Nat.pow_succ,<- Nat.mul_assoc]
    exact Nat.mul_le_mul_left _ (by decide)
   rcases (by omega:kd % 2=0\/kd % 2=1) with hk | hk
   ·rw [hk]
    refine ixl (SqL.of f1) (v:=.str "both") rfl ?_
    nofun
    refine ⟨_,.inl ⟨SqL.of e1,fun p3 h3=>?_⟩⟩
    have T3:=aE h3 (.tup acc)
    refine ⟨sz8 (by decide),fun p4 h4=>?_⟩
    have SS:=T0.trans (T1.trans (T3.trans (aE h4 (.tup [.str "both",.ref p3]))))
    exact q (.ref p4) (.both (Trs.ofL ts)) _ (by rw [Tr.At]; exact ⟨p4,p3,acc,rfl,aA,aE h4 _ _ _ aA,trs_at.mpr (by rw [bI]; exact hA.imp fun t y _ h=>h.same SS)⟩) (by rw [Tr.ok]; exact okT) (by rw [Tr.dp]; omega) (by rw [Tr.cnt]; exact cnT) (W2.same SS) (B1.trans (B2.trans (Same.but SS)))
   ·rw [hk]
    refine ixl (SqL.of f1) (v:=.str "either") rfl ?_
    nofun
    refine ⟨_,.inl ⟨SqL.of e1,fun p3 h3=>?_⟩⟩
    have T3:=aE h3 (.tup acc)
    refine ⟨sz8 (by decide),fun p4 h4=>?_⟩
    have SS:=T0.trans (T1.trans (T3.trans (aE h4 (.tup [.str "either",.ref p3]))))
    exact q (.ref p4) (.either (Trs.ofL ts)) _ (by rw [Tr.At]; exact ⟨p4,p3,acc,rfl,aA,aE h4 _ _ _ aA,trs_at.mpr (by rw [bI]; exact hA.imp fun t y _ h=>h.same SS)⟩) (by rw [Tr.ok]; exact okT) (by rw [Tr.dp]; omega) (by rw [Tr.cnt]; exact cnT) (W2.same SS) (B1.trans (B2.trans (Same.but SS)))
  ·rw [if_neg c6]
   refine ⟨by decide,by decide,?_⟩
   refine CompR.by (n:=2) (fun i' acc σ H'=>∃ ts:List Tr,All2 (Tr.At H') ts acc/\ts.length=i'/\(∀ t∈ts,t.ok/\t.dp<=j/\t.cnt<=3 * 3 ^ j)/\(∃ v,σ=[v,some (.ref wl),some (.int m),some (.int ((j+1:Nat):Int))])/\Well3 H' wl/\But wl H1 H') (sz8 (by decide)) ⟨[],.nil,rfl,(fun t ht=>absurd ht List.not_mem_nil),⟨_,rfl⟩,W1,But.refl _ _⟩ ?_ ?_ ?_
   ·rintro i' acc σ H' hi' ⟨ts,hA,hl,ht,⟨v,rfl⟩,W',B'⟩
    nofun
    refine ⟨wl,j,m,by omega,by rw [show ((j+1:Nat):Int) - 1=(j:Int) by omega],W',by omega,m0,m5,fun v2 t2 H2 hA2 ho2 hd2 hc2 W2 B2=>?_⟩
    have new:∃ ts:List Tr,All2 (Tr.At H2) ts (acc++[v2])/\ts.length=i'+1/\(∀ t∈ts,t.ok/\t.dp<=j/\t.cnt<=3 * 3 ^ j):=⟨ts++[t2],(hA.imp fun t y _ h=>h.but3 W' B2).snoc hA2,by rw [List.length_append,hl]; rfl,fun t m2=>by
     rcases List.mem_append.mp m2 with m2 | m2
     ·exact ht t m2
     ·rw [List.mem_singleton.mp m2]; exact ⟨ho2,hd2,hc2⟩⟩
    obtain ⟨ts2,n1,n2,n3⟩:=new
    first | exact ⟨ts2,n1,n2,n3,⟨_,rfl⟩,W2,B'.trans B2⟩ | exact ⟨ts2,n1,n2,n3,W2,B'.trans B2⟩
   ·rintro i' acc σ H' ⟨ts,hA,hl,_⟩
    rw [<- hA.len]
    omega
   rintro acc σ H2 ⟨ts,hA,hl,ht,⟨v,rfl⟩,W2,B2⟩ pl hpl
   have T0:=aE hpl (.lst acc)
   have e0:upd H2 pl (.lst acc) pl=some (.lst acc):=aA
   generalize upd H2 pl (.lst acc)=G0 at *
   nofun
   refine ⟨sz8 (by decide),fun p1 h1=>?_⟩
   have T1:=aE h1 (.lst [.str "both",.str "either"])
   have f1:upd G0 p1 (.lst [.str "both",.str "either"]) p1=some (.lst [.str "both",.str "either"]):=aA
   have e1:=T1 _ _ e0
   generalize upd G0 p1 (.lst [.str "both",.str "either"])=G1 at *
   refine ⟨by decide,?_⟩
   have okT:2<=(Trs.ofL ts).toL.length/\(Trs.ofL ts).toL.length<=6/\(Trs.ofL ts).ok:=by
    rw [bI]
    exact ⟨by omega,by omega,trs_ok.mpr (by rw [bI]; exact fun t h=>(ht t h).1)⟩
   have dpT:(Trs.ofL ts).dp<=j:=lS (by rw [bI]; exact fun t h=>(ht t h).2.1)
   have cnT:(Trs.ofL ts).cnt<=3 * 3 ^ (j+1):=by
    have h:=sW (n:=3 * 3 ^ j) (ts:=Trs.ofL ts) (by rw [bI]; exact fun t h=>(ht t h).2.2)
    rw [bI,hl] at h
    refine Nat.le_trans h ?_
    rw [Nat.pow_succ,<- Nat.mul_assoc]
    exact Nat.mul_le_mul_left _ (by decide)
   rcases (by omega:kd % 2=0\/kd % 2=1) with hk | hk
   ·rw [hk]
    refine ixl (SqL.of f1) (v:=.str "both") rfl ?_
    nofun
    refine ⟨_,.inl ⟨SqL.of e1,fun p3 h3=>?_⟩⟩
    have T3:=aE h3 (.tup acc)
    refine ⟨sz8 (by decide),fun p4 h4=>?_⟩
    have SS:=T0.trans (T1.trans (T3.trans (aE h4 (.tup [.str "both",.ref p3]))))
    exact q (.ref p4) (.both (Trs.ofL ts)) _ (by rw [Tr.At]; exact ⟨p4,p3,acc,rfl,aA,aE h4 _ _ _ aA,trs_at.mpr (by rw [bI]; exact hA.imp fun t y _ h=>h.same SS)⟩) (by rw [Tr.ok]; exact okT) (by rw [Tr.dp]; omega) (by rw [Tr.cnt]; exact cnT) (W2.same SS) (B1.trans (B2.trans (Same.but SS)))
   ·rw [hk]
    refine ixl (SqL.of f1) (v:=.str "either") rfl ?_
    nofun
    refine ⟨_,.inl ⟨SqL.of e1,fun p3 h3=>?_⟩⟩
    have T3:=aE h3 (.tup acc)
    refine ⟨sz8 (by decide),fun p4 h4=>?_⟩
    have SS:=T0.trans (T1.trans (T3.trans (aE h4 (.tup [.str "either",.ref p3]))))
    exact q (.ref p4) (.either (Trs.ofL ts)) _ (by rw [Tr.At]; exact ⟨p4,p3,acc,rfl,aA,aE h4 _ _ _ aA,trs_at.mpr (by rw [bI]; exact hA.imp fun t y _ h=>h.same SS)⟩) (by rw [Tr.ok]; exact okT) (by rw [Tr.dp]; omega) (by rw [Tr.cnt]; exact cnT) (W2.same SS) (B1.trans (B2.trans (Same.but SS)))
 ·rw [if_neg c5]
  first | refine ⟨by decide,by decide,?_⟩ | (nofun; refine ⟨by decide,by decide,?_⟩)
  refine CompR.by (n:=2) (fun i' acc σ H'=>∃ ts:List Tr,All2 (Tr.At H') ts acc/\ts.length=i'/\(∀ t∈ts,t.ok/\t.dp<=j/\t.cnt<=3 * 3 ^ j)/\(∃ v,σ=[v,some (.ref wl),some (.int m),some (.int ((j+1:Nat):Int))])/\Well3 H' wl/\But wl H1 H') (sz8 (by decide)) ⟨[],.nil,rfl,(fun t ht=>absurd ht List.not_mem_nil),⟨_,rfl⟩,W1,But.refl _ _⟩ ?_ ?_ ?_
  ·rintro i' acc σ H' hi' ⟨ts,hA,hl,ht,⟨v,rfl⟩,W',B'⟩
   nofun
   refine ⟨wl,j,m,by omega,by rw [show ((j+1:Nat):Int) - 1=(j:Int) by omega],W',by omega,m0,m5,fun v2 t2 H2 hA2 ho2 hd2 hc2 W2 B2=>?_⟩
   have new:∃ ts:List Tr,All2 (Tr.At H2) ts (acc++[v2])/\ts.length=i'+1/\(∀ t∈ts,t.ok/\t.dp<=j/\t.cnt<=3 * 3 ^ j):=⟨ts++[t2],(hA.imp fun t y _ h=>h.but3 W' B2).snoc hA2,by rw [List.length_append,hl]; rfl,fun t m2=>by
    rcases List.mem_append.mp m2 with m2 | m2
    ·exact ht t m2
    ·rw [List.mem_singleton.mp m2]; exact ⟨ho2,hd2,hc2⟩⟩
   obtain ⟨ts2,n1,n2,n3⟩:=new
   first | exact ⟨ts2,n1,n2,n3,⟨_,rfl⟩,W2,B'.trans B2⟩ | exact ⟨ts2,n1,n2,n3,W2,B'.trans B2⟩
  ·rintro i' acc σ H' ⟨ts,hA,hl,_⟩
   rw [<- hA.len]
   omega
  rintro acc σ H2 ⟨ts,hA,hl,ht,⟨v,rfl⟩,W2,B2⟩ pl hpl
  have T0:=aE hpl (.lst acc)
  have e0:upd H2 pl (.lst acc) pl=some (.lst acc):=aA
  generalize upd H2 pl (.lst acc)=G0 at *
  nofun
  refine ⟨sz8 (by decide),fun p1 h1=>?_⟩
  have T1:=aE h1 (.lst [.str "both",.str "either"])
  have f1:upd G0 p1 (.lst [.str "both",.str "either"]) p1=some (.lst [.str "both",.str "either"]):=aA
  have e1:=T1 _ _ e0
  generalize upd G0 p1 (.lst [.str "both",.str "either"])=G1 at *
  refine ⟨by decide,?_⟩
  have okT:2<=(Trs.ofL ts).toL.length/\(Trs.ofL ts).toL.length<=6/\(Trs.ofL ts).ok:=by
   rw [bI]
   exact ⟨by omega,by omega,trs_ok.mpr (by rw [bI]; exact fun t h=>(ht t h).1)⟩
  have dpT:(Trs.ofL ts).dp<=j:=lS (by rw [bI]; exact fun t h=>(ht t h).2.1)
  have cnT:(Trs.ofL ts).cnt<=3 * 3 ^ (j+1):=by
   have h:=sW (n:=3 * 3 ^ j) (ts:=Trs.ofL ts) (by rw [bI]; exact fun t h=>(ht t h).2.2)
   rw [bI,hl] at h
   refine Nat.le_trans h ?_
   rw [Nat.pow_succ,<- Nat.mul_assoc]
   exact Nat.mul_le_mul_left _ (by decide)
  rcases (by omega:kd % 2=0\/kd % 2=1) with hk | hk
  ·rw [hk]
   refine ixl (SqL.of f1) (v:=.str "both") rfl ?_
   nofun
   refine ⟨_,.inl ⟨SqL.of e1,fun p3 h3=>?_⟩⟩
   have T3:=aE h3 (.tup acc)
   refine ⟨sz8 (by decide),fun p4 h4=>?_⟩
   have SS:=T0.trans (T1.trans (T3.trans (aE h4 (.tup [.str "both",.ref p3]))))
   exact q (.ref p4) (.both (Trs.ofL ts)) _ (by rw [Tr.At]; exact ⟨p4,p3,acc,rfl,aA,aE h4 _ _ _ aA,trs_at.mpr (by rw [bI]; exact hA.imp fun t y _ h=>h.same SS)⟩) (by rw [Tr.ok]; exact okT) (by rw [Tr.dp]; omega) (by rw [Tr.cnt]; exact cnT) (W2.same SS) (B1.trans (B2.trans (Same.but SS)))
  ·rw [hk]
   refine ixl (SqL.of f1) (v:=.str "either") rfl ?_
   nofun
   refine ⟨_,.inl ⟨SqL.of e1,fun p3 h3=>?_⟩⟩
   have T3:=aE h3 (.tup acc)
   refine ⟨sz8 (by decide),fun p4 h4=>?_⟩
   have SS:=T0.trans (T1.trans (T3.trans (aE h4 (.tup [.str "either",.ref p3]))))
   exact q (.ref p4) (.either (Trs.ofL ts)) _ (by rw [Tr.At]; exact ⟨p4,p3,acc,rfl,aA,aE h4 _ _ _ aA,trs_at.mpr (by rw [bI]; exact hA.imp fun t y _ h=>h.same SS)⟩) (by rw [Tr.ok]; exact okT) (by rw [Tr.dp]; omega) (by rw [Tr.cnt]; exact cnT) (W2.same SS) (B1.trans (B2.trans (Same.but SS)))
def BJ6:V->List V->Hp->VK->Prop:=fun x xs H Q=>∃ u l ts,x=.str u/\xs=[.ref l]/\H l=some (.tup (ts.map V.str))/\(ts.map (·.length)).sum+ts.length * u.length<=16777216/\Q (.str (Txt.join u ts)) H
theorem AR5 {X:Cx}:MtR X "str.join" BJ6:=by
 intro pins s σ H x xs v us Q I rx rv h
 obtain ⟨u,l,ts,rfl,rfl,hl,hz,q⟩:=h
 obtain ⟨t,rfl⟩:=rx
 cases rv with
 | cons r1 r2 =>
  cases r2
  cases r1
  obtain ⟨_,its,r,pl⟩:=I.hok l _ hl
  obtain ⟨ll,rfl,e2⟩:=sO r
  refine PyProof.Rows.join_tuple pl (ys:=ts) ?_ hz ?_
  ·rw [<- e2]
   exact PyProof.Rows.strsAre_of_values ll
  ·exact fun t' k=>rQ I q
theorem yL {H:Hp}:∀ bs:List Bool,RDs H (bs.map V.bl) (bs.map PyData.bool)
 | []=>.nil
 | b::bs=>.cons (.bl b) (yL bs)
theorem tX:∀ bs:List Bool,PyData.canLayAll0 (bs.map PyData.bool)=true/\PyData.depthAll (bs.map PyData.bool)=0
 | []=>⟨by simp [PyData.canLayAll0],by simp [PyData.depthAll]⟩
 | b::bs=>by
  obtain ⟨i1,i2⟩:=tX bs
  exact ⟨by simp [PyData.canLayAll0,PyData.canLay0] at i1 ⊢; exact i1,by simp [PyData.depthAll,PyData.depth] at i2 ⊢; exact i2⟩
theorem yM {d n:Nat}(hn:0<=n)(B:Bt K mg a)(gF:CalX P w K mg base "_law_text" ["_law_tree_here"] n (eQ K a d))(F:Fun K "_law_text" "_law_text" fZ f fd):FnOk P w K mg base CX0 (n+1) f fd ["_law_tree_here"] (eQ K a (d+1)):=by
 refine F.ok sc_law_text (fun vs H Q E h=>?_) (fun cdv A outer s H vs Q E hr h=>?_)
 ·obtain ⟨v,t,hd0,rfl,_⟩:=h
  rfl
 obtain ⟨v,t,hd0,rfl,hA,ho,hx,q⟩:=h
 refine fP ⟨_,(aC (bG (aQ bY (bN dG (pv 0) aM (fun _ _=>rfl)) aK (aW _)) (aH (aT (aR aK))) aS) (aC (bG (L2.PW.pt (iE (aQ bY (bN dG (pv 0) aM (fun _ _=>rfl)) aK (aW _)) (eC (aQ bY (bN dG (pv 0) aM (fun _ _=>rfl)) aK (aW _))))) (aH (aT (aR (bE bR (bE bR (bN dG (pv 0) aM (fun _ _=>rfl)) aK) (iY PySem.F.plainAttrs_str PySem.F.slot_str_join PySem.F.type_str_join AR5 aK (aJ (aO (bN dG (pv 0) aM (fun _ _=>rfl)) aD))))))) aS) (aC (bG (aQ bY (bN dG (pv 0) aM (fun _ _=>rfl)) aK (aW _)) (aH (aT (aR (bE bR aK (bH nZ rfl B.str PyProof.Rows.boot_str (aJ (aO (bN dG (pv 0) aM (fun _ _=>rfl)) aD))))))) aS) (aC (bG (aQ bY (bN dG (pv 0) aM (fun _ _=>rfl)) aK (aW _)) (aH (aT (aR (bE bR aK (aZ gF (hr.mono (by omega)) rfl (aJ (aO (bN dG (pv 0) aM (fun _ _=>rfl)) aD)) (he:=aB _ _ _ rfl) (hpl:=aG rfl)))))) aS) (aC (bC (i:=1) sc_law_text.nd rfl (Or.inl rfl) (BH3 bJ (gN (aO aK (aO aK aD))) (aR (bH lO rfl B.int PyProof.Rows.boot_int (aJ (aO (cS bY (bN dG (pv 0) aM (fun _ _=>rfl)) aK (aW _)) aD)))) (fun _ _=>rfl)) (by kernel_rfl)) (aH (aT (aR (bE bR (bE bR aK (iY PySem.F.plainAttrs_str PySem.F.slot_str_join PySem.F.type_str_join kU (pv 1) (aJ (aO (dI ["_law_part"] [none] rfl (by kernel_rfl) (BF2 (bN dG (pv 0) aM (fun _ _=>rfl))) (fun cl C s H fp=>⟨(bO (i:=0) (by decide:List.Nodup (["_law_part"]:List Str)) rfl (Or.inl (by kernel_rfl)) (Or.inr (by kernel_rfl))),iG,(aZ gF (hr.mono (by omega)) (qT (by kernel_rfl)) (aJ (aO (pv 0 (hv:=Or.inl (by kernel_rfl))) aD)) (he:=aB _ _ _ rfl) (hpl:=aG rfl))⟩)) aD)))) aK))))))))),?_⟩
 cases t with
 | any =>
  rw [Tr.At] at hA
  rw [Tr.ok] at ho
  rw [Tr.tx] at q hx
  obtain ⟨p,rfl,hp⟩:=hA
  nofun
  refine ixt (SqT.of hp) (v:=.str "any") rfl ?_
  nofun
  exact q _ fun _ _ z=>z
 | kind us =>
  rw [Tr.At] at hA
  rw [Tr.ok] at ho
  rw [Tr.tx] at q hx
  obtain ⟨p,l0,rfl,hp,hl⟩:=hA
  nofun
  refine ixt (SqT.of hp) (v:=.str "kind") rfl ?_
  nofun
  rw [if_neg (by decide)]
  refine ixt (SqT.of hp) (v:=.str "kind") rfl ?_
  nofun
  refine ixt (SqT.of hp) (v:=.str "kind") rfl ?_
  nofun
  have jl:=iB (s:=sp1) (ts:=us) ho.1
  have e1:sp1.length=1:=rfl
  rw [fO ho.1,Str.length_append,Str.length_append] at hx
  rw [fO ho.1] at q
  refine ⟨by decide,ixt (SqT.of hp) (v:=.ref l0) rfl ⟨sp1,l0,us,rfl,rfl,hl,by rw [<- jl]; omega,?_⟩⟩
  rw [tW]
  refine ⟨_,rfl,szM (by show (("kind":Str)++sp1).length+_<=1000000; rw [Str.length_append]; omega),?_⟩
  exact q _ fun _ _ z=>z
 | place us =>
  rw [Tr.At] at hA
  rw [Tr.ok] at ho
  rw [Tr.tx] at q hx
  obtain ⟨p,l0,rfl,hp,hl⟩:=hA
  nofun
  refine ixt (SqT.of hp) (v:=.str "place") rfl ?_
  nofun
  rw [if_neg (by decide)]
  refine ixt (SqT.of hp) (v:=.str "place") rfl ?_
  nofun
  rw [if_neg (by decide)]
  refine ixt (SqT.of hp) (v:=.str "place") rfl ?_
  nofun
  refine ixt (SqT.of hp) (v:=.str "place") rfl ?_
  nofun
  have jl:=iB (s:=sp1) (ts:=us) ho.1
  have e1:sp1.length=1:=rfl
  rw [fO ho.1,Str.length_append,Str.length_append] at hx
  rw [fO ho.1] at q
  refine ⟨by decide,ixt (SqT.of hp) (v:=.ref l0) rfl ⟨sp1,l0,us,rfl,rfl,hl,by rw [<- jl]; omega,?_⟩⟩
  rw [tW]
  refine ⟨_,rfl,szM (by show (("place":Str)++sp1).length+_<=1000000; rw [Str.length_append]; omega),?_⟩
  exact q _ fun _ _ z=>z
 | weight n =>
  rw [Tr.At] at hA
  rw [Tr.ok] at ho
  rw [Tr.tx] at q hx
  obtain ⟨p,rfl,hp⟩:=hA
  nofun
  refine ixt (SqT.of hp) (v:=.str "weight") rfl ?_
  nofun
  rw [if_neg (by decide)]
  refine ixt (SqT.of hp) (v:=.str "weight") rfl ?_
  nofun
  rw [if_neg (by decide)]
  refine ixt (SqT.of hp) (v:=.str "weight") rfl ?_
  nofun
  rw [if_neg (by decide)]
  refine ixt (SqT.of hp) (v:=.str "weight") rfl ?_
  nofun
  refine ixt (SqT.of hp) (v:=.int n) rfl ⟨n,rfl,wA ho.1 ho.2,?_,q _ fun _ _ z=>z⟩
  rw [Str.length_append] at hx
  exact szM (by show (("weight ":Str)).length+(kW n).length<=1000000; omega)
 | not t =>
  rw [Tr.At] at hA
  rw [Tr.ok] at ho
  rw [Tr.tx] at q hx
  obtain ⟨p,y,rfl,hp,hy⟩:=hA
  nofun
  refine ixt (SqT.of hp) (v:=.str "not") rfl ?_
  nofun
  rw [if_neg (by decide)]
  refine ixt (SqT.of hp) (v:=.str "not") rfl ?_
  nofun
  rw [if_neg (by decide)]
  refine ixt (SqT.of hp) (v:=.str "not") rfl ?_
  nofun
  rw [if_neg (by decide)]
  refine ixt (SqT.of hp) (v:=.str "not") rfl ?_
  nofun
  rw [if_neg (by decide)]
  refine ixt (SqT.of hp) (v:=.str "not") rfl ?_
  nofun
  rw [Tr.dp] at hd0
  rw [Str.length_append] at hx
  exact ixt (SqT.of hp) (v:=y) rfl ⟨y,t,by omega,rfl,hy,ho,by omega,fun H' S'=>⟨_,rfl,szM (by omega),q _ S'⟩⟩
 | both ts =>
  rw [Tr.At] at hA
  rw [Tr.ok] at ho
  rw [Tr.tx] at q hx
  obtain ⟨p,l0,xs,rfl,hp,hl,hs⟩:=hA
  nofun
  refine ixt (SqT.of hp) (v:=.str "both") rfl ?_
  nofun
  rw [if_neg (by decide)]
  refine ixt (SqT.of hp) (v:=.str "both") rfl ?_
  nofun
  rw [if_neg (by decide)]
  refine ixt (SqT.of hp) (v:=.str "both") rfl ?_
  nofun
  rw [if_neg (by decide)]
  refine ixt (SqT.of hp) (v:=.str "both") rfl ?_
  nofun
  rw [if_neg (by decide)]
  refine ixt (SqT.of hp) (v:=.str "both") rfl ?_
  nofun
  rw [if_neg (by decide)]
  rw [Tr.dp] at hd0
  rw [Str.length_append,Str.length_append] at hx
  have hA:=trs_at.mp hs
  have ln6:=hA.len
  have tne:ts.tx≠[]:=fun z=>by
   have l:=congrArg List.length z
   rw [gP,List.length_map,List.length_nil] at l
   omega
  refine ⟨sz8 (by decide),fun p1 h1=>?_⟩
  have S0:=aE h1 (.lst [.str " & ",.str " | "])
  have f1:upd H p1 (.lst [.str " & ",.str " | "]) p1=some (.lst [.str " & ",.str " | "]):=aA
  generalize upd H p1 (.lst [.str " & ",.str " | "])=H1 at *
  refine ixt (SqT.of (S0 _ _ hp)) (v:=.str "both") rfl ⟨rfl,?_⟩
  refine ixl (SqL.of f1) (v:=.str " & ") rfl ?_
  refine ⟨(show "str"="str" from rfl),?_⟩
  refine ixt (SqT.of (S0 _ _ hp)) (v:=.ref l0) rfl ⟨l0,rfl,⟨xs,SqT.of (S0 _ _ hl)⟩,?_⟩
  refine CompT.by (xs:=xs) (fun i acc σ H'=>acc=((ts.toL.take i).map Tr.tx).map V.str/\(∃ v,σ=[v])/\Same H H') (sz8 (by omega)) ⟨rfl,⟨_,rfl⟩,S0⟩ (fun i acc σ H' _ h=>SqT.of (h.2.2 _ _ hl)) ?_ ?_ ?_
  ·rintro i y acc σ H' hy ⟨rfl,⟨v,rfl⟩,S1⟩
   obtain ⟨t,e,ht⟩:=hA.get hy
   have mt:=List.mem_of_getElem? e
   have dt:=pR mt
   have ea:((ts.toL.take i).map Tr.tx).map V.str++[V.str t.tx]=((ts.toL.take (i+1)).map Tr.tx).map V.str:=by
    rw [List.take_succ,e,List.map_append,List.map_append]
    rfl
   have lx:=qJ (s:=(" & ":Str)) (ts:=ts.tx) (x:=t.tx) (by rw [gP]; exact List.mem_map.mpr ⟨t,mt,rfl⟩)
   nofun
   refine ⟨y,t,by omega,rfl,ht.same S1,trs_ok.mp ho.2.2 t mt,by omega,fun H2 S2=>?_⟩
   first | exact ⟨ea,⟨_,rfl⟩,S1.trans S2⟩ | exact ⟨ea,S1.trans S2⟩
  ·rintro i acc σ H' ⟨rfl,_,_⟩
   rw [List.length_map,List.length_map,List.length_take]
   omega
  ·rintro acc σ H' ⟨rfl,⟨v,rfl⟩,S1⟩ D hD
   rw [<- ln6,List.take_length,<- gP]
   refine ⟨(" & ":Str),D,ts.tx,rfl,rfl,aA,kF tne (by omega) (by decide),?_⟩
   rw [tW]
   refine ⟨_,rfl,szM (by omega),szM (by rw [Str.length_append]; omega),?_⟩
   exact q _ (S1.trans (aE hD _))
 | either ts =>
  rw [Tr.At] at hA
  rw [Tr.ok] at ho
  rw [Tr.tx] at q hx
  obtain ⟨p,l0,xs,rfl,hp,hl,hs⟩:=hA
  nofun
  refine ixt (SqT.of hp) (v:=.str "either") rfl ?_
  nofun
  rw [if_neg (by decide)]
  refine ixt (SqT.of hp) (v:=.str "either") rfl ?_
  nofun
  rw [if_neg (by decide)]
  refine ixt (SqT.of hp) (v:=.str "either") rfl ?_
  nofun
  rw [if_neg (by decide)]
  refine ixt (SqT.of hp) (v:=.str "either") rfl ?_
  nofun
  rw [if_neg (by decide)]
  refine ixt (SqT.of hp) (v:=.str "either") rfl ?_
  nofun
  rw [if_neg (by decide)]
  rw [Tr.dp] at hd0
  rw [Str.length_append,Str.length_append] at hx
  have hA:=trs_at.mp hs
  have ln6:=hA.len
  have tne:ts.tx≠[]:=fun z=>by
   have l:=congrArg List.length z
   rw [gP,List.length_map,List.length_nil] at l
   omega
  refine ⟨sz8 (by decide),fun p1 h1=>?_⟩
  have S0:=aE h1 (.lst [.str " & ",.str " | "])
  have f1:upd H p1 (.lst [.str " & ",.str " | "]) p1=some (.lst [.str " & ",.str " | "]):=aA
  generalize upd H p1 (.lst [.str " & ",.str " | "])=H1 at *
  refine ixt (SqT.of (S0 _ _ hp)) (v:=.str "either") rfl ⟨rfl,?_⟩
  refine ixl (SqL.of f1) (v:=.str " | ") rfl ?_
  refine ⟨(show "str"="str" from rfl),?_⟩
  refine ixt (SqT.of (S0 _ _ hp)) (v:=.ref l0) rfl ⟨l0,rfl,⟨xs,SqT.of (S0 _ _ hl)⟩,?_⟩
  refine CompT.by (xs:=xs) (fun i acc σ H'=>acc=((ts.toL.take i).map Tr.tx).map V.str/\(∃ v,σ=[v])/\Same H H') (sz8 (by omega)) ⟨rfl,⟨_,rfl⟩,S0⟩ (fun i acc σ H' _ h=>SqT.of (h.2.2 _ _ hl)) ?_ ?_ ?_
  ·rintro i y acc σ H' hy ⟨rfl,⟨v,rfl⟩,S1⟩
   obtain ⟨t,e,ht⟩:=hA.get hy
   have mt:=List.mem_of_getElem? e
   have dt:=pR mt
   have ea:((ts.toL.take i).map Tr.tx).map V.str++[V.str t.tx]=((ts.toL.take (i+1)).map Tr.tx).map V.str:=by
    rw [List.take_succ,e,List.map_append,List.map_append]
    rfl
   have lx:=qJ (s:=(" | ":Str)) (ts:=ts.tx) (x:=t.tx) (by rw [gP]; exact List.mem_map.mpr ⟨t,mt,rfl⟩)
   nofun
   refine ⟨y,t,by omega,rfl,ht.same S1,trs_ok.mp ho.2.2 t mt,by omega,fun H2 S2=>?_⟩
   first | exact ⟨ea,⟨_,rfl⟩,S1.trans S2⟩ | exact ⟨ea,S1.trans S2⟩
  ·rintro i acc σ H' ⟨rfl,_,_⟩
   rw [List.length_map,List.length_map,List.length_take]
   omega
  ·rintro acc σ H' ⟨rfl,⟨v,rfl⟩,S1⟩ D hD
   rw [<- ln6,List.take_length,<- gP]
   refine ⟨(" | ":Str),D,ts.tx,rfl,rfl,aA,kF tne (by omega) (by decide),?_⟩
   rw [tW]
   refine ⟨_,rfl,szM (by omega),szM (by rw [Str.length_append]; omega),?_⟩
   exact q _ (S1.trans (aE hD _))
def AV0:Tr->Str
 | .any=>"any"
 | .kind _=>"kind"
 | .place _=>"place"
 | .weight _=>"weight"
 | .not _=>"not"
 | .both _=>"both"
 | .either _=>"either"
theorem Tr.At.word {H:Hp}{t:Tr}{u:V}(h:t.At H u):∃ pt rest,u=.ref pt/\H pt=some (.tup (.str (AV0 t)::rest)):=by
 cases t with
 | any=>rw [Tr.At] at h; obtain ⟨p,rfl,hp⟩:=h; exact ⟨p,_,rfl,hp⟩
 | kind us=>rw [Tr.At] at h; obtain ⟨p,_,rfl,hp,_⟩:=h; exact ⟨p,_,rfl,hp⟩
 | place us=>rw [Tr.At] at h; obtain ⟨p,_,rfl,hp,_⟩:=h; exact ⟨p,_,rfl,hp⟩
 | weight n=>rw [Tr.At] at h; obtain ⟨p,rfl,hp⟩:=h; exact ⟨p,_,rfl,hp⟩
 | not t=>rw [Tr.At] at h; obtain ⟨p,_,rfl,hp,_⟩:=h; exact ⟨p,_,rfl,hp⟩
 | both ts=>rw [Tr.At] at h; obtain ⟨p,_,_,rfl,hp,_⟩:=h; exact ⟨p,_,rfl,hp⟩
 | either ts=>rw [Tr.At] at h; obtain ⟨p,_,_,rfl,hp,_⟩:=h; exact ⟨p,_,rfl,hp⟩
abbrev ws7:List Str:=["any","kind","place","weight","not","both","either"]
def bl7 (t:Tr):List Bool:=[decide (t.tag=0),decide (t.tag=1),decide (t.tag=2),decide (t.tag=3),decide (t.tag=4),decide (t.tag=5),decide (t.tag=6)]
theorem BJ7 (t:Tr):ws7.map (fun w=>decide (w=AV0 t))=bl7 t:=by cases t <;> rfl
theorem bP {x:V}{xs:List V}:atI (x::xs) 0=some x:=show atI (x::xs) ((0:Nat):Int)=some x from iF rfl
theorem yN {d n:Nat}(hn:0<=n)(B:Bt K mg a)(gG:CalX P w K mg base "_law_same" ["_law_fit","_law_tree_here"] n (eR K a d))(F:Fun K "_law_same" "_law_same" gA f fd):FnOk P w K mg base CX0 (n+1) f fd ["_law_fit","_law_tree_here"] (eR K a (d+1)):=by
 refine F.ok sc_law_same (fun vs H Q E h=>?_) (fun cdv A outer s H vs Q E hr h=>?_)
 ·obtain ⟨v,u,t,hd0,rfl,_⟩:=h
  rfl
 obtain ⟨v,u,t,hd0,rfl,hf,hA,ho,hl,q⟩:=h
 refine fP ⟨_,(aI (aC (bC (i:=2) sc_law_same.nd rfl (Or.inl rfl) (gN (aO (aU (dX (K:=K) rfl) rfl B.isinstance PyProof.Rows.boot_isinstance (aJ (aO (pv 0) (aO (cR (v:=.ref _) rfl B.Any rfl) aD))) (he:=aB _ _ _ rfl) (hpl:=aG rfl)) (aO (aU (dX (K:=K) rfl) rfl B.isinstance PyProof.Rows.boot_isinstance (aJ (aO (pv 0) (aO (cR (v:=.ref _) rfl B.Kind rfl) aD))) (he:=aB _ _ _ rfl) (hpl:=aG rfl)) (aO (aU (dX (K:=K) rfl) rfl B.isinstance PyProof.Rows.boot_isinstance (aJ (aO (pv 0) (aO (cR (v:=.ref _) rfl B.Place rfl) aD))) (he:=aB _ _ _ rfl) (hpl:=aG rfl)) (aO (aU (dX (K:=K) rfl) rfl B.isinstance PyProof.Rows.boot_isinstance (aJ (aO (pv 0) (aO (cR (v:=.ref _) rfl B.Least rfl) aD))) (he:=aB _ _ _ rfl) (hpl:=aG rfl)) aD))))) (by kernel_rfl)) (aI (aC (bC (i:=2) sc_law_same.nd rfl (Or.inl rfl) (pQ hJ (aR (pv 2)) (gN (aO (aU (dX (K:=K) rfl) rfl B.isinstance PyProof.Rows.boot_isinstance (aJ (aO (pv 0) (aO (cR (v:=.ref _) rfl B.Not rfl) aD))) (he:=aB _ _ _ rfl) (hpl:=aG rfl)) (aO (aU (dX (K:=K) rfl) rfl B.isinstance PyProof.Rows.boot_isinstance (aJ (aO (pv 0) (aO (cR (v:=.ref _) rfl B.Both rfl) aD))) (he:=aB _ _ _ rfl) (hpl:=aG rfl)) (aO (aU (dX (K:=K) rfl) rfl B.isinstance PyProof.Rows.boot_isinstance (aJ (aO (pv 0) (aO (cR (v:=.ref _) rfl B.Either rfl) aD))) (he:=aB _ _ _ rfl) (hpl:=aG rfl)) aD))))) (by kernel_rfl)) (aI (aC (bC (i:=3) sc_law_same.nd rfl (Or.inl rfl) (gN (aO aK (aO aK (aO aK (aO aK (aO aK (aO aK (aO aK aD)))))))) (by kernel_rfl)) (aI (aC (bG (aQ (AJ3 hr.units) (pv 2) (dI ["_law_word_here","_law_tree_here"] [none,some 1] rfl (by kernel_rfl) (mT (pv 3)) (fun cl C s H fp=>⟨(bO (i:=0) (by decide:List.Nodup (["_law_word_here","_law_tree_here"]:List Str)) rfl (Or.inl (by kernel_rfl)) (Or.inr (by kernel_rfl))),iG,(cS bY (pv 0 (hv:=Or.inl (by kernel_rfl))) (bN (AJ4 (K:=K) rfl) (pv 1 (hv:=Or.inr (Or.inl (by kernel_rfl)))) aM (fun _ _=>rfl)) (aW _))⟩)) (aW _)) (aI (aH (aT (aR lL)))) aS) (aI (aC (bG (L2.PW.pt (iE (aQ bY (bN dG (pv 1) aM (fun _ _=>rfl)) aK (aW _)) (eC (aQ bY (bN dG (pv 1) aM (fun _ _=>rfl)) aK (aW _))))) (aI (aH (aT (aR (cS (zS hr.units) (cH (pv 0) rfl) (bH dN rfl B.list PyProof.Rows.boot_list (aJ (aO (bN dG (pv 1) aM (fun _ _=>rfl)) aD))) (aW _)))))) aS) (aI (aC (bG (aQ bY (bN dG (pv 1) aM (fun _ _=>rfl)) aK (aW _)) (aI (aH (aT (aR (pG (aU (jS (K:=K) (T:="int") rfl) rfl B.isinstance PyProof.Rows.boot_isinstance (aJ (aO (cH (pv 0) rfl) (aO (iW (v:=.ty "int") rfl B.int PyProof.Rows.boot_int rfl) aD))) (he:=aB _ _ _ rfl) (hpl:=aG rfl)) (pG (AD9 (aU (jS (K:=K) (T:="bool") rfl) rfl B.isinstance PyProof.Rows.boot_isinstance (aJ (aO (cH (pv 0) rfl) (aO (iW (v:=.ty "bool") rfl B.bool PyProof.Rows.boot_bool rfl) aD))) (he:=aB _ _ _ rfl) (hpl:=aG rfl))) (nX (cS bY (cH (pv 0) rfl) (bN dG (pv 1) aM (fun _ _=>rfl)) (aW _))))))))) aS) (aI (aC (bG (aQ bY (bN dG (pv 1) aM (fun _ _=>rfl)) aK (aW _)) (aI (aH (aT (aR (aZ gG (hr.mono (by omega)) rfl (aJ (aO (cH (pv 0) rfl) (aO (bN dG (pv 1) aM (fun _ _=>rfl)) aD))) (he:=aB _ _ _ rfl) (hpl:=aG rfl)))))) aS) (aI (aC (bG (aQ bY (bN dG (pv 1) aM (fun _ _=>rfl)) aK (aW _)) (aI (aH (aT (aR lL)))) aS) (aI (aC (bG (L2.PW.pt (iE (gI (cP (aU (jS (K:=K) (T:="list") rfl) rfl B.isinstance PyProof.Rows.boot_isinstance (aJ (aO (cH (pv 0) rfl) (aO (iW (v:=.ty "list") rfl B.list PyProof.Rows.boot_list rfl) aD))) (he:=aB _ _ _ rfl) (hpl:=aG rfl)))) (eC (aQ uO (aU bB rfl B.len PySem.boot_len (aJ (aO (cH (pv 0) rfl) aD))) (aU bB rfl B.len PySem.boot_len (aJ (aO (bN dG (pv 1) aM (fun _ _=>rfl)) aD))) (aW _))))) (aI (aH (aT (aR lL)))) aS) (aI (aH (aT (aR (cS (zS hr.units) (dI ["_law_k","_law_fit","_law_tree_here"] [none,some 0,some 1] rfl (by kernel_rfl) (gJ rfl B.range (aJ (aO (aU bB rfl B.len PySem.boot_len (aJ (aO (bN dG (pv 1) aM (fun _ _=>rfl)) aD))) aD))) (fun cl C s H fp=>⟨(bO (i:=0) (by decide:List.Nodup (["_law_k","_law_fit","_law_tree_here"]:List Str)) rfl (Or.inl (by kernel_rfl)) (Or.inr (by kernel_rfl))),(wZ (gI (cP (aZ gG (hr.mono (by omega)) (qT (by kernel_rfl)) (aJ (aO (bN (BH4 (K:=K) rfl) (BH5 (K:=K) rfl (pv 1 (hv:=Or.inr (Or.inl (by kernel_rfl)))) rfl) (pv 0 (hv:=Or.inl (by kernel_rfl))) (fun _ _=>rfl)) (aO (bN (AJ4 (K:=K) rfl) (bN (AJ4 (K:=K) rfl) (pv 2 (hv:=Or.inr (Or.inl (by kernel_rfl)))) aM (fun _ _=>rfl)) (pv 0 (hv:=Or.inl (by kernel_rfl))) (fun _ _=>rfl)) aD))) (he:=aB _ _ _ rfl) (hpl:=aG rfl))))),(pv 0 (hv:=Or.inl (by kernel_rfl)))⟩)) (gK (aJ aD)) (aW _)))))))))))))))))))))))),?_⟩
 obtain ⟨p,dx,fs,rfl,hp,_⟩:=id hf.ins
 obtain ⟨pt,rest,rfl,tp⟩:=hA.word
 have ck:ClsK K (t.cls (fc a)):=by cases t <;> first | exact B.ck_Any | exact B.ck_Kind | exact B.ck_Place | exact B.ck_Least | exact B.ck_Not | exact B.ck_Both | exact B.ck_Either
 have ki:kitOne K (.ref (t.cls (fc a))) (.ref a.Any)=some (decide (t.tag=0))/\kitOne K (.ref (t.cls (fc a))) (.ref a.Kind)=some (decide (t.tag=1))/\kitOne K (.ref (t.cls (fc a))) (.ref a.Place)=some (decide (t.tag=2))/\kitOne K (.ref (t.cls (fc a))) (.ref a.Least)=some (decide (t.tag=3))/\kitOne K (.ref (t.cls (fc a))) (.ref a.Not)=some (decide (t.tag=4))/\kitOne K (.ref (t.cls (fc a))) (.ref a.Both)=some (decide (t.tag=5))/\kitOne K (.ref (t.cls (fc a))) (.ref a.Either)=some (decide (t.tag=6)):=by
  cases t with
  | any=>exact ⟨B.is_Any_Any,B.is_Any_Kind,B.is_Any_Place,B.is_Any_Least,B.is_Any_Not,B.is_Any_Both,B.is_Any_Either⟩
  | kind us=>exact ⟨B.is_Kind_Any,B.is_Kind_Kind,B.is_Kind_Place,B.is_Kind_Least,B.is_Kind_Not,B.is_Kind_Both,B.is_Kind_Either⟩
  | place us=>exact ⟨B.is_Place_Any,B.is_Place_Kind,B.is_Place_Place,B.is_Place_Least,B.is_Place_Not,B.is_Place_Both,B.is_Place_Either⟩
  | weight n=>exact ⟨B.is_Least_Any,B.is_Least_Kind,B.is_Least_Place,B.is_Least_Least,B.is_Least_Not,B.is_Least_Both,B.is_Least_Either⟩
  | not t=>exact ⟨B.is_Not_Any,B.is_Not_Kind,B.is_Not_Place,B.is_Not_Least,B.is_Not_Not,B.is_Not_Both,B.is_Not_Either⟩
  | both ts=>exact ⟨B.is_Both_Any,B.is_Both_Kind,B.is_Both_Place,B.is_Both_Least,B.is_Both_Not,B.is_Both_Both,B.is_Both_Either⟩
  | either ts=>exact ⟨B.is_Either_Any,B.is_Either_Kind,B.is_Either_Place,B.is_Either_Least,B.is_Either_Not,B.is_Either_Both,B.is_Either_Either⟩
 obtain ⟨k0,k1,k2,k3,k4,k5,k6⟩:=ki
 nofun
 walk_at "ho"
 nofun
 refine ⟨_,_,_,_,rfl,ck.ty hp,k0,?_⟩
 nofun
 refine ⟨_,_,_,_,rfl,ck.ty hp,k1,?_⟩
 nofun
 refine ⟨_,_,_,_,rfl,ck.ty hp,k2,?_⟩
 nofun
 refine ⟨_,_,_,_,rfl,ck.ty hp,k3,?_⟩
 nofun
 refine ⟨sz8 (by decide),fun p1 h1=>?_⟩
 have S1:=aE h1 (.lst [.bl (decide (t.tag=0)),.bl (decide (t.tag=1)),.bl (decide (t.tag=2)),.bl (decide (t.tag=3))])
 have e1:upd H p1 (.lst [.bl (decide (t.tag=0)),.bl (decide (t.tag=1)),.bl (decide (t.tag=2)),.bl (decide (t.tag=3))]) p1=some (.lst [.bl (decide (t.tag=0)),.bl (decide (t.tag=1)),.bl (decide (t.tag=2)),.bl (decide (t.tag=3))]):=aA
 generalize upd H p1 (.lst [.bl (decide (t.tag=0)),.bl (decide (t.tag=1)),.bl (decide (t.tag=2)),.bl (decide (t.tag=3))])=H1 at *
 walk_at "ho"
 nofun
 refine ⟨_,_,_,_,rfl,ck.ty (S1 _ _ hp),k4,?_⟩
 nofun
 refine ⟨_,_,_,_,rfl,ck.ty (S1 _ _ hp),k5,?_⟩
 nofun
 refine ⟨_,_,_,_,rfl,ck.ty (S1 _ _ hp),k6,?_⟩
 nofun
 refine ⟨sz8 (by decide),fun p2 h2=>?_⟩
 have S2:=aE h2 (.lst [.bl (decide (t.tag=4)),.bl (decide (t.tag=5)),.bl (decide (t.tag=6))])
 refine ⟨p1,p2,_,_,rfl,rfl,S2 _ _ e1,aA,sz8 (show 7<=1000 by decide),fun p3 h3=>?_⟩
 have S3:=aE h3 (.lst ((bl7 t).map V.bl))
 have e3:upd (upd H1 p2 (.lst [.bl (decide (t.tag=4)),.bl (decide (t.tag=5)),.bl (decide (t.tag=6))])) p3 (.lst ((bl7 t).map V.bl)) p3=some (.lst ((bl7 t).map V.bl)):=aA
 have S4:=S1.trans (S2.trans S3)
 clear S2
 show qX _ _ _ (upd (upd H1 p2 (.lst [.bl (decide (t.tag=4)),.bl (decide (t.tag=5)),.bl (decide (t.tag=6))])) p3 (.lst ((bl7 t).map V.bl)))
 generalize upd (upd H1 p2 (.lst [.bl (decide (t.tag=4)),.bl (decide (t.tag=5)),.bl (decide (t.tag=6))])) p3 (.lst ((bl7 t).map V.bl))=H3 at *
 walk_at "ho"
 nofun
 refine ⟨sz8 (by decide),fun p4 h4=>?_⟩
 have S5:=aE h4 (.lst (ws7.map V.str))
 have e4:upd H3 p4 (.lst (ws7.map V.str)) p4=some (.lst (ws7.map V.str)):=aA
 have e5:=S5 _ _ e3
 have SA:=S4.trans S5
 show qX _ _ _ (upd H3 p4 (.lst (ws7.map V.str)))
 generalize upd H3 p4 (.lst (ws7.map V.str))=H4 at *
 clear S4 S5 S3 S1 e1 e3
 walk_at "ho"
 nofun
 refine ⟨⟨_,SqL.of e4⟩,?_⟩
 refine CompL.by (xs:=ws7.map V.str) (fun i acc σ H'=>acc=((ws7.take i).map (fun w=>decide (w=AV0 t))).map V.bl/\(∃ v,σ=[v,some (.ref pt)])/\H'=H4) (sz8 (by decide)) ⟨rfl,⟨_,rfl⟩,rfl⟩ (fun i acc σ H' _ h=>by rw [h.2.2]; exact SqL.of e4) ?_ ?_ ?_
 ·rintro i y acc σ H' hy ⟨rfl,⟨v,rfl⟩,rfl⟩
  rw [List.getElem?_map] at hy
  obtain ⟨x,ex,rfl⟩:∃ x,ws7[i]?=some x/\y=.str x:=by
   cases z:ws7[i]? with
   | none=>rw [z] at hy; cases hy
   | some x=>rw [z] at hy; cases hy; exact ⟨x,rfl,rfl⟩
  have ea:((ws7.take i).map (fun w=>decide (w=AV0 t))).map V.bl++[V.bl (decide (x=AV0 t))]=((ws7.take (i+1)).map (fun w=>decide (w=AV0 t))).map V.bl:=by
   rw [List.take_succ,ex,List.map_append,List.map_append]
   rfl
  nofun
  refine ixt (SqT.of (SA _ _ tp)) (v:=.str (AV0 t)) bP ?_
  nofun
  first | exact ⟨ea,⟨_,rfl⟩,rfl⟩ | exact ea | exact ⟨ea,rfl⟩ | trace_state
 ·rintro i acc σ H' ⟨rfl,_,_⟩
  rw [List.length_map,List.length_map,List.length_take]
  exact Nat.min_le_left _ _
 rintro acc σ H' ⟨rfl,⟨v,rfl⟩,rfl⟩ D hD
 have eT:(ws7.take (ws7.map V.str).length).map (fun w=>decide (w=AV0 t))=bl7 t:=by
  rw [List.length_map,List.take_length]
  exact BJ7 t
 rw [eT]
 have S6:=aE hD (.lst ((bl7 t).map V.bl))
 refine eqd (.lst (S6 _ _ e5) (yL _)) (.lst aA (yL _)) (gO (Nat.zero_le _) (tX _)).1 ?_
 have SA:=SA.trans S6
 have hf:=hf.same SA
 have hA:=hA.same SA
 generalize upd H' D (.lst ((bl7 t).map V.bl))=H5 at *
 clear S6 e4 e5 eT ck k0 k1 k2 k3 k4 k5 k6 tp hp
 nofun
 cases t with
 | any =>
  rw [Tr.Fit] at hf
  rw [Tr.At] at hA
  rw [Tr.wf] at ho
  rw [Tr.ws] at hl
  obtain ⟨p,dx,e0,hp⟩:=hf
  cases e0
  obtain ⟨pt,e1,tp⟩:=hA
  cases e1
  walk_at "ho"
  nofun
  refine ixt (SqT.of tp) (v:=.str "any") bP ?_
  nofun
  rw [if_neg (by decide)]
  refine ixt (SqT.of tp) (v:=.str "any") bP ?_
  nofun
  rw [if_neg (by decide)]
  walk_at "ho"
  nofun
  refine ixt (SqT.of tp) (v:=.str "any") bP ?_
  nofun
  rw [if_neg (by decide)]
  walk_at "ho"
  nofun
  refine ixt (SqT.of tp) (v:=.str "any") bP ?_
  nofun
  rw [if_neg (by decide)]
  walk_at "ho"
  nofun
  refine ixt (SqT.of tp) (v:=.str "any") bP ?_
  nofun
  walk_at "hr"
  nofun
  exact q _ SA
 | kind us =>
  rw [Tr.Fit] at hf
  rw [Tr.At] at hA
  rw [Tr.wf] at ho
  rw [Tr.ws] at hl
  obtain ⟨p,dx,ln,e0,hp,hn⟩:=hf
  cases e0
  obtain ⟨pt,tl,e1,tp,htl⟩:=hA
  cases e1
  walk_at "ho"
  nofun
  refine ixt (SqT.of tp) (v:=.str "kind") bP ?_
  nofun
  walk_at "hr"
  nofun
  refine ⟨_,_,_,hp,B.ck_Kind.cl,B.na_Kind_names,.ref ln,rfl,?_⟩
  refine ixt (SqT.of tp) (v:=.ref tl) rfl ?_
  refine ⟨tl,rfl,_,.inr (SqT.of htl),fun l2 hl2=>?_⟩
  have S2:=aE hl2 (.lst (us.map V.str))
  have gsh:=(gO (Nat.zero_le _) (sT (us:=us) fun u hu=>sR (ho.2.1 u hu))).1
  exact eqd (.lst (S2 _ _ hn) (lQ us)) (.lst aA (lQ us)) gsh (q _ (SA.trans S2))
 | place us =>
  rw [Tr.Fit] at hf
  rw [Tr.At] at hA
  rw [Tr.wf] at ho
  rw [Tr.ws] at hl
  obtain ⟨p,dx,ln,e0,hp,hn⟩:=hf
  cases e0
  obtain ⟨pt,tl,e1,tp,htl⟩:=hA
  cases e1
  walk_at "ho"
  nofun
  refine ixt (SqT.of tp) (v:=.str "place") bP ?_
  nofun
  rw [if_neg (by decide)]
  refine ixt (SqT.of tp) (v:=.str "place") bP ?_
  nofun
  walk_at "hr"
  nofun
  refine ⟨_,_,_,hp,B.ck_Place.cl,B.na_Place_names,.ref ln,rfl,?_⟩
  refine ixt (SqT.of tp) (v:=.ref tl) rfl ?_
  refine ⟨tl,rfl,_,.inr (SqT.of htl),fun l2 hl2=>?_⟩
  have S2:=aE hl2 (.lst (us.map V.str))
  have gsh:=(gO (Nat.zero_le _) (sT (us:=us) fun u hu=>sR (ho.2.1 u hu))).1
  exact eqd (.lst (S2 _ _ hn) (lQ us)) (.lst aA (lQ us)) gsh (q _ (SA.trans S2))
 | weight n =>
  rw [Tr.Fit] at hf
  rw [Tr.At] at hA
  rw [Tr.wf] at ho
  rw [Tr.ws] at hl
  obtain ⟨p,dx,e0,hp⟩:=hf
  cases e0
  obtain ⟨pt,e1,tp⟩:=hA
  cases e1
  walk_at "ho"
  nofun
  refine ixt (SqT.of tp) (v:=.str "weight") bP ?_
  nofun
  rw [if_neg (by decide)]
  refine ixt (SqT.of tp) (v:=.str "weight") bP ?_
  nofun
  rw [if_neg (by decide)]
  walk_at "ho"
  nofun
  refine ixt (SqT.of tp) (v:=.str "weight") bP ?_
  nofun
  walk_at "hr"
  nofun
  refine ⟨_,_,_,hp,B.ck_Least.cl,B.na_Least_weight,.int n,rfl,?_⟩
  refine ⟨_,_,true,rfl,.int n,by kernel_rfl,?_⟩
  nofun
  refine ⟨_,_,_,hp,B.ck_Least.cl,B.na_Least_weight,.int n,rfl,?_⟩
  refine ⟨_,_,false,rfl,.int n,by kernel_rfl,?_⟩
  exists Bool.not_false
  refine ⟨_,_,_,hp,B.ck_Least.cl,B.na_Least_weight,.int n,rfl,?_⟩
  refine ixt (SqT.of tp) (v:=.int n) rfl ⟨rfl,?_⟩
  rw [decide_eq_true rfl]
  exact q _ SA
 | not t =>
  rw [Tr.Fit] at hf
  rw [Tr.At] at hA
  rw [Tr.wf] at ho
  rw [Tr.ws] at hl
  obtain ⟨p,dx,y,e0,hp,hy⟩:=hf
  cases e0
  obtain ⟨pt,ty,e1,tp,hty⟩:=hA
  cases e1
  walk_at "ho"
  nofun
  refine ixt (SqT.of tp) (v:=.str "not") bP ?_
  nofun
  rw [if_neg (by decide)]
  refine ixt (SqT.of tp) (v:=.str "not") bP ?_
  nofun
  rw [if_neg (by decide)]
  walk_at "ho"
  nofun
  refine ixt (SqT.of tp) (v:=.str "not") bP ?_
  nofun
  rw [if_neg (by decide)]
  walk_at "ho"
  nofun
  refine ixt (SqT.of tp) (v:=.str "not") bP ?_
  nofun
  walk_at "hr"
  nofun
  rw [Tr.dp] at hd0
  refine ⟨_,_,_,hp,B.ck_Not.cl,B.na_Not_fit,y,rfl,?_⟩
  refine ixt (SqT.of tp) (v:=ty) rfl ?_
  exact ⟨y,ty,t,by omega,rfl,hy,hty,ho,by rw [List.length_cons] at hl; omega,fun H' S'=>q _ (SA.trans S')⟩
 | both ts =>
  rw [Tr.Fit] at hf
  rw [Tr.At] at hA
  rw [Tr.wf] at ho
  rw [Tr.ws] at hl
  obtain ⟨p,dx,ln,xs,e0,hp,hn,hs⟩:=hf
  cases e0
  obtain ⟨pt,tl,tx,e1,tp,htl,hts⟩:=hA
  cases e1
  walk_at "ho"
  nofun
  refine ixt (SqT.of tp) (v:=.str "both") bP ?_
  nofun
  rw [if_neg (by decide)]
  refine ixt (SqT.of tp) (v:=.str "both") bP ?_
  nofun
  rw [if_neg (by decide)]
  walk_at "ho"
  nofun
  refine ixt (SqT.of tp) (v:=.str "both") bP ?_
  nofun
  rw [if_neg (by decide)]
  walk_at "ho"
  nofun
  refine ixt (SqT.of tp) (v:=.str "both") bP ?_
  nofun
  rw [if_neg (by decide)]
  walk_at "ho"
  nofun
  refine ixt (SqT.of tp) (v:=.str "both") bP ?_
  nofun
  rw [if_neg (by decide)]
  walk_at "ho"
  nofun
  rw [Tr.dp] at hd0
  have hF:=trs_fit.mp hs
  have hT:=trs_at.mp hts
  have l1:=hF.len
  have l2:=hT.len
  rw [List.length_cons,List.length_append,List.length_singleton] at hl
  have l3:ts.toL.length<=200:=by have:=tL (s:="&") (ts:=ts); omega
  refine ⟨_,_,_,hp,B.ck_Both.cl,B.na_Both_fits,.ref ln,rfl,?_⟩
  refine ⟨_,_,true,rfl,.lst hn,by kernel_rfl,?_⟩
  nofun
  refine ⟨_,_,_,hp,B.ck_Both.cl,B.na_Both_fits,.ref ln,rfl,ln,rfl,_,.inl (SqL.of hn),?_⟩
  refine ixt (SqT.of tp) (v:=.ref tl) rfl ⟨tl,rfl,_,.inr (SqT.of htl),?_⟩
  rw [if_neg (by omega)]
  walk_at "hr"
  nofun
  refine ixt (SqT.of tp) (v:=.ref tl) rfl ⟨tl,rfl,_,.inr (SqT.of htl),?_⟩
  refine ⟨by omega,by omega,?_⟩
  refine CompR.by (fun i acc σ H'=>acc=[]/\(∃ v,σ=[v,some (.ref p),some (.ref pt)])/\Same H5 H') (sz8 (by omega)) ⟨rfl,⟨_,rfl⟩,fun _ _ z=>z⟩ ?_ ?_ ?_
  ·rintro i acc σ H' hi ⟨rfl,⟨v,rfl⟩,S7⟩
   have hi:i < tx.length:=by omega
   obtain ⟨t,e,ht⟩:=hT.get (List.getElem?_eq_getElem hi)
   obtain ⟨t',e',ht'⟩:=hF.get (List.getElem?_eq_getElem (show i < xs.length by omega))
   rw [e] at e'
   cases e'
   have mt:=List.mem_of_getElem? e
   have dt:=pR mt
   nofun
   refine ⟨_,_,_,S7 _ _ hp,B.ck_Both.cl,B.na_Both_fits,.ref ln,rfl,?_⟩
   refine ixl (SqL.of (S7 _ _ hn)) (by rw [Int.zero_add]; exact iF (List.getElem?_eq_getElem (show i < xs.length by omega))) ?_
   refine ixt (SqT.of (S7 _ _ tp)) (v:=.ref tl) rfl ?_
   refine ixt (SqT.of (S7 _ _ htl)) (by rw [Int.zero_add]; exact iF (List.getElem?_eq_getElem hi)) ?_
   refine ⟨_,_,t,by omega,rfl,ht'.same S7,ht.same S7,trs_wf.mp ho.2 t mt,(by have:=xU (s:="&") mt; omega),fun H8 S8=>?_⟩
   exists Bool.not_true
   first | exact S7.trans S8 | exact ⟨rfl,⟨_,rfl⟩,S7.trans S8⟩ | exact ⟨⟨_,rfl⟩,S7.trans S8⟩
  ·rintro i acc σ H' ⟨rfl,_,_⟩
   exact Nat.zero_le _
  ·rintro acc σ H' ⟨rfl,⟨v,rfl⟩,S7⟩ D2 hD2
   refine ⟨Nat.zero_le _,fun p9 h9=>?_⟩
   exact eqd (.lst (aE h9 _ _ _ aA) .nil) (.lst aA .nil) (gO (Nat.zero_le _) (tX [])).1 (q _ (SA.trans (S7.trans ((aE hD2 _).trans (aE h9 _)))))
 | either ts =>
  rw [Tr.Fit] at hf
  rw [Tr.At] at hA
  rw [Tr.wf] at ho
  rw [Tr.ws] at hl
  obtain ⟨p,dx,ln,xs,e0,hp,hn,hs⟩:=hf
  cases e0
  obtain ⟨pt,tl,tx,e1,tp,htl,hts⟩:=hA
  cases e1
  walk_at "ho"
  nofun
  refine ixt (SqT.of tp) (v:=.str "either") bP ?_
  nofun
  rw [if_neg (by decide)]
  refine ixt (SqT.of tp) (v:=.str "either") bP ?_
  nofun
  rw [if_neg (by decide)]
  walk_at "ho"
  nofun
  refine ixt (SqT.of tp) (v:=.str "either") bP ?_
  nofun
  rw [if_neg (by decide)]
  walk_at "ho"
  nofun
  refine ixt (SqT.of tp) (v:=.str "either") bP ?_
  nofun
  rw [if_neg (by decide)]
  walk_at "ho"
  nofun
  refine ixt (SqT.of tp) (v:=.str "either") bP ?_
  nofun
  rw [if_neg (by decide)]
  walk_at "ho"
  nofun
  rw [Tr.dp] at hd0
  have hF:=trs_fit.mp hs
  have hT:=trs_at.mp hts
  have l1:=hF.len
  have l2:=hT.len
  rw [List.length_cons,List.length_append,List.length_singleton] at hl
  have l3:ts.toL.length<=200:=by have:=tL (s:="|") (ts:=ts); omega
  refine ⟨_,_,_,hp,B.ck_Either.cl,B.na_Either_fits,.ref ln,rfl,?_⟩
  refine ⟨_,_,true,rfl,.lst hn,by kernel_rfl,?_⟩
  nofun
  refine ⟨_,_,_,hp,B.ck_Either.cl,B.na_Either_fits,.ref ln,rfl,ln,rfl,_,.inl (SqL.of hn),?_⟩
  refine ixt (SqT.of tp) (v:=.ref tl) rfl ⟨tl,rfl,_,.inr (SqT.of htl),?_⟩
  rw [if_neg (by omega)]
  walk_at "hr"
  nofun
  refine ixt (SqT.of tp) (v:=.ref tl) rfl ⟨tl,rfl,_,.inr (SqT.of htl),?_⟩
  refine ⟨by omega,by omega,?_⟩
  refine CompR.by (fun i acc σ H'=>acc=[]/\(∃ v,σ=[v,some (.ref p),some (.ref pt)])/\Same H5 H') (sz8 (by omega)) ⟨rfl,⟨_,rfl⟩,fun _ _ z=>z⟩ ?_ ?_ ?_
  ·rintro i acc σ H' hi ⟨rfl,⟨v,rfl⟩,S7⟩
   have hi:i < tx.length:=by omega
   obtain ⟨t,e,ht⟩:=hT.get (List.getElem?_eq_getElem hi)
   obtain ⟨t',e',ht'⟩:=hF.get (List.getElem?_eq_getElem (show i < xs.length by omega))
   rw [e] at e'
   cases e'
   have mt:=List.mem_of_getElem? e
   have dt:=pR mt
   nofun
   refine ⟨_,_,_,S7 _ _ hp,B.ck_Either.cl,B.na_Either_fits,.ref ln,rfl,?_⟩
   refine ixl (SqL.of (S7 _ _ hn)) (by rw [Int.zero_add]; exact iF (List.getElem?_eq_getElem (show i < xs.length by omega))) ?_
   refine ixt (SqT.of (S7 _ _ tp)) (v:=.ref tl) rfl ?_
   refine ixt (SqT.of (S7 _ _ htl)) (by rw [Int.zero_add]; exact iF (List.getElem?_eq_getElem hi)) ?_
   refine ⟨_,_,t,by omega,rfl,ht'.same S7,ht.same S7,trs_wf.mp ho.2 t mt,(by have:=xU (s:="|") mt; omega),fun H8 S8=>?_⟩
   exists Bool.not_true
   first | exact S7.trans S8 | exact ⟨rfl,⟨_,rfl⟩,S7.trans S8⟩ | exact ⟨⟨_,rfl⟩,S7.trans S8⟩
  ·rintro i acc σ H' ⟨rfl,_,_⟩
   exact Nat.zero_le _
  ·rintro acc σ H' ⟨rfl,⟨v,rfl⟩,S7⟩ D2 hD2
   refine ⟨Nat.zero_le _,fun p9 h9=>?_⟩
   exact eqd (.lst (aE h9 _ _ _ aA) .nil) (.lst aA .nil) (gO (Nat.zero_le _) (tX [])).1 (q _ (SA.trans (S7.trans ((aE hD2 _).trans (aE h9 _)))))
theorem wC {ws:List Str}{k:Int}(h0:0<=k)(h1:k<=ws.length):AB4 (ws.map V.str) none (some k)=(ws.take k.toNat).map V.str:=by
 obtain ⟨j,rfl⟩:∃ j:Nat,k=j:=⟨k.toNat,by omega⟩
 unfold AB4
 rw [HT.sIx_none,HT.sIx_nat,List.drop_zero,Nat.sub_zero,List.length_map,Nat.min_eq_left (by omega),<- List.map_take]
 rfl
theorem wD {ws:List Str}{k:Int}(h0:0<=k)(h1:k<=ws.length):AB4 (ws.map V.str) (some k) none=(ws.drop k.toNat).map V.str:=by
 obtain ⟨j,rfl⟩:∃ j:Nat,k=j:=⟨k.toNat,by omega⟩
 unfold AB4
 rw [HT.sIx_none,HT.sIx_nat,List.length_map,Nat.min_eq_left (by omega),List.take_of_length_le (by rw [List.length_drop,List.length_map]; exact Nat.le_refl _),<- List.map_drop]
 rfl
theorem AM4 {ws:List Str}{k:Int}(h0:0<=k)(h1:k < ws.length):AB4 (ws.map V.str) (some k) (some (k+1))=((ws.drop k.toNat).take 1).map V.str:=by
 obtain ⟨j,rfl⟩:∃ j:Nat,k=j:=⟨k.toNat,by omega⟩
 unfold AB4
 rw [show ((j:Int)+1)=((j+1:Nat):Int) by omega,HT.sIx_nat,HT.sIx_nat,List.length_map,Nat.min_eq_left (by omega),Nat.min_eq_left (by omega),<- List.map_drop,<- List.map_take,Nat.add_sub_cancel_left]
 rfl
theorem AR6 (ns:List Int)(lo hi:Option Int):∃ ms:List Int,AB4 (ns.map V.int) lo hi=ms.map V.int/\ms.length<=ns.length:=by
 unfold AB4
 rw [List.length_map,<- List.map_drop,<- List.map_take]
 exact ⟨_,rfl,by rw [List.length_take,List.length_drop]; omega⟩
def w15:List Str:=["(",")","&","|","any","kind","place","weight","not","a","fire","0","7","999999","-1"]
def w14:List Str:=["-0","05","+5","5.0","Any","kinds","abcdefghi","a1","a-b","",":",";","(any","any)"]
theorem yO (B:Bt K mg a)(bA:CalX P w K mg base "_law_next" ["_law_state","_law_base"] 1 (dA K a))(F:Fun K "_law_word" "_law_word" gB f fd):FnOk P w K mg base CX0 2 f fd ["_law_state"] (lA K a):=by
 refine F.ok sc_law_word (fun vs H Q E h=>?_) (fun cdv A outer s H vs Q E hr h=>?_)
 ·obtain ⟨wl,rfl,_⟩:=h
  rfl
 obtain ⟨wl,rfl,W,q⟩:=h
 refine fP ⟨_,(aI (aC (bC (i:=1) sc_law_word.nd rfl (Or.inl rfl) (gN (aO aK (aO aK (aO aK (aO aK (aO aK (aO aK (aO aK (aO aK (aO aK (aO aK (aO aK (aO aK (aO aK (aO aK (aO aK aD)))))))))))))))) (by kernel_rfl)) (aI (aC (bC (i:=1) sc_law_word.nd rfl (Or.inl rfl) (pQ hJ (aR (pv 1)) (gN (aO aK (aO aK (aO aK (aO aK (aO aK (aO aK (aO aK (aO aK (aO aK (aO aK (aO aK (aO aK (aO aK (aO aK aD)))))))))))))))) (by kernel_rfl)) (aI (aC (bQ (dJ (iY PySem.F.plainAttrs_list PySem.F.slot_list_append PySem.F.type_list_append gL (pv 1) (aJ (aO aK aD))))) (aI (aH (aT (aR (bN bJ (pv 1) (aZ bA (hr.mono (by decide)) rfl (aJ (aO (pv 0) (aO aM aD))) (he:=aB _ _ _ rfl) (hpl:=aG rfl)) (fun _ _=>rfl)))))))))))),?_⟩
 nofun
 walk_at "ho"
 nofun
 refine ⟨sz8 (by decide),fun p1 h1=>?_⟩
 have S1:=aE h1 (.lst (w15.map V.str))
 have e1:upd H p1 (.lst (w15.map V.str)) p1=some (.lst (w15.map V.str)):=aA
 show qX _ _ _ (upd H p1 (.lst (w15.map V.str)))
 have W1:=W.same S1
 generalize upd H p1 (.lst (w15.map V.str))=H1 at *
 walk_at "ho"
 nofun
 refine ⟨sz8 (by decide),fun p2 h2=>?_⟩
 have S2:=aE h2 (.lst (w14.map V.str))
 refine ⟨p1,p2,w15.map V.str,w14.map V.str,rfl,rfl,S2 _ _ e1,aA,sz8 (by decide),fun p3 h3=>?_⟩
 have S3:Same (upd H1 p2 (.lst (w14.map V.str))) (upd (upd H1 p2 (.lst (w14.map V.str))) p3 (.lst (w15.map V.str++w14.map V.str))):=aE h3 _
 have n3:=(W1.same S2).ne h3
 have e3:upd (upd H1 p2 (.lst (w14.map V.str))) p3 (.lst (w15.map V.str++w14.map V.str)) p3=some (.lst (w15.map V.str++w14.map V.str)):=aA
 have S0:=S1.trans (S2.trans S3)
 have f3:H p3=none:=Same.free (S1.trans S2) h3
 show qX _ _ _ (upd (upd H1 p2 (.lst (w14.map V.str))) p3 (.lst (w15.map V.str++w14.map V.str)))
 have W3:=W.same S0
 generalize upd (upd H1 p2 (.lst (w14.map V.str))) p3 (.lst (w15.map V.str++w14.map V.str))=H3 at *
 clear S1 S2 S3 e1 W1 h1 h2 h3
 walk_at "ho"
 nofun
 refine ⟨.inl ⟨rfl,_,SqL.of e3⟩,p3,_,_,rfl,rfl,e3,by decide,?_⟩
 have e4:upd H3 p3 (.lst (w15.map V.str++w14.map V.str++[.str "&&"])) p3=some (.lst (words30.map V.str)):=aA
 have B4:But wl H (upd H3 p3 (.lst (w15.map V.str++w14.map V.str++[.str "&&"]))):=fun b o n e=>by rw [aN (aP e f3)]; exact S0 b o e
 have W4:Well3 (upd H3 p3 (.lst (w15.map V.str++w14.map V.str++[.str "&&"]))) wl:=let ⟨a,b,c,e⟩:=W3; ⟨a,b,c,by rw [aN n3.symm]; exact e⟩
 generalize upd H3 p3 (.lst (w15.map V.str++w14.map V.str++[.str "&&"]))=H4 at *
 walk_at "hr"
 nofun
 refine sA W4 (by decide) (by decide) fun r H5 r0 r1 W5 B5=>?_
 obtain ⟨x,hx,ex⟩:=pM (xs:=words30.map V.str) r0 r1
 refine ixl (SqL.of (B5 _ _ n3 e4)) ex ?_
 obtain ⟨u,hu,rfl⟩:=List.mem_map.mp hx
 exact q u _ (AC6 u hu) W5 (B4.trans B5)
def flt (lo hi:Nat)(l:List Nat):List V:=(l.filter fun c=>!decide (lo<=c/\c<=hi)).map fun c=>V.str ⟨#[c]⟩
theorem AM5 (lo hi:Nat)(l:List Nat):(flt lo hi l).isEmpty=decide (∀ c∈l,lo<=c/\c<=hi):=by
 rw [Bool.eq_iff_iff,decide_eq_true_eq,flt,List.isEmpty_iff,List.map_eq_nil_iff,List.filter_eq_nil_iff]
 constructor
 ·intro h c hc
  have:=h c hc
  simpa using this
 ·intro h c hc
  simpa using h c hc
theorem AB0 {lo hi i c:Nat}{l:List Nat}(h:l[i]?=some c):flt lo hi (l.take (i+1))=if lo<=c/\c<=hi then flt lo hi (l.take i) else flt lo hi (l.take i)++[V.str ⟨#[c]⟩]:=by
 unfold flt
 rw [List.take_succ,h,List.filter_append,List.map_append]
 by_cases k:lo<=c/\c<=hi
 ·rw [if_pos k]
  simp [k]
 ·rw [if_neg k]
  simp only [Option.toList_some,List.filter_cons,List.filter_nil,decide_eq_false k,Bool.not_false,if_true]
  rfl
theorem AV1 {H:Hp}{lo hi:Nat}{l:List Nat}(h:∀ c∈l,c < 128):∀ x∈flt lo hi l,DtAt H 0 x:=fun x hx=>by
 obtain ⟨c,hc,rfl⟩:=List.mem_map.mp hx
 refine kM ?_
 unfold PyData.strOk
 have:=h c (List.mem_filter.mp hc).1
 rw [Array.all_eq_true']
 intro d hd
 have e:d=c:=by simpa using hd
 simp only [decide_eq_true_eq]
 omega
def lets:Str:="abcdefghijklmnopqrstuvwxyz"
theorem BD2 {c:Nat}(h:c < 128):(!(Builtin.Str.occurrences lets ⟨#[c]⟩ 0 lets.length 1).isEmpty)=decide (97<=c/\c<=122):=by
 have q:∀ k:Fin 128,(!(Builtin.Str.occurrences lets ⟨#[k.val]⟩ 0 lets.length 1).isEmpty)=decide (97<=k.val/\k.val<=122):=by decide +kernel
 exact q ⟨c,h⟩
theorem rA (B:Bt K mg a)(F:Fun K "_law_is_name" "_law_is_name" dD f fd):FnOk P w K mg base CX0 1 f fd ["_law_word_here"] (kP K a):=by
 refine F.ok qW (fun vs H Q E h=>?_) (fun cdv A outer s H vs Q E hr h=>?_)
 ·obtain ⟨u,rfl,_⟩:=h
  rfl
 obtain ⟨u,rfl,ht,q⟩:=h
 refine fP ⟨_,(aH (aT (aR (pG (AN9 AW2 AW2 aM (aU cY rfl B.len PySem.boot_len (aJ (aO (pv 0) aD))) aM) (nX (cS (zS hr.units) (dI ["_law_sign"] [none] rfl (by kernel_rfl) (zP (pv 0)) (fun cl C s H fp=>⟨(bO (i:=0) (by decide:List.Nodup (["_law_sign"]:List Str)) rfl (Or.inl (by kernel_rfl)) (Or.inr (by kernel_rfl))),(wZ (aQ oA (pv 0 (hv:=Or.inl (by kernel_rfl))) aK (by with_unfolding_all rfl))),(pv 0 (hv:=Or.inl (by kernel_rfl)))⟩)) (gK (aJ aD)) (aW _))))))),?_⟩
 have l1:((u.length:Nat):Int)=u.length:=rfl
 nofun
 have hl:=ht.2.1
 refine ⟨sz8 (by omega),?_⟩
 by_cases c1:(1:Int)<=((u.length:Nat):Int)
 case neg =>
  rw [if_neg c1]
  rw [decide_eq_false (fun z:aY u=>c1 (by have:=z.1; omega))] at q
  exact q _ fun _ _ z=>z
 rw [if_pos c1]
 by_cases c2:((u.length:Nat):Int)<=8
 case neg =>
  rw [if_neg c2]
  rw [decide_eq_false (fun z:aY u=>c2 (by have:=z.2.1; omega))] at q
  exact q _ fun _ _ z=>z
 rw [if_pos c2]
 refine ⟨ht.1,?_⟩
 refine CompS.by (fun i acc σ H'=>acc=flt 97 122 (u.cps.toList.take i)/\(∃ v,σ=[v])/\H'=H) (sz8 (by have:=ht.2.1; exact Nat.le_trans this (by decide))) ⟨rfl,⟨_,rfl⟩,rfl⟩ ?_ ?_ ?_
 ·rintro i c acc σ H' hc ⟨rfl,⟨v,rfl⟩,rfl⟩
  have hc':u.cps.toList[i]?=some c:=by simpa using hc
  have m:c∈u.cps.toList:=List.mem_of_getElem? hc'
  have ea:=AB0 (lo:=97) (hi:=122) hc'
  have eo:(!(Builtin.Str.occurrences ("abcdefghijklmnopqrstuvwxyz":Str) ⟨#[c]⟩ 0 ("abcdefghijklmnopqrstuvwxyz":Str).length 1).isEmpty)=decide (97<=c/\c<=122):=BD2 (plain_iff.mp ht.1 c m)
  nofun
  rw [eo]
  by_cases k:97<=c/\c<=122
  ·rw [if_pos k] at ea
   rw [decide_eq_true k]
   exists Bool.not_true
   first | exact ea.symm | exact ⟨ea.symm,⟨_,rfl⟩,rfl⟩ | trace_state
  ·rw [if_neg k] at ea
   rw [decide_eq_false k]
   exists Bool.not_false
   first | exact ea.symm | exact ⟨ea.symm,⟨_,rfl⟩,rfl⟩ | trace_state
 ·rintro i acc σ H' ⟨rfl,_,_⟩
  unfold flt
  rw [List.length_map]
  exact Nat.le_trans (List.length_filter_le _ _) (by rw [List.length_take]; exact Nat.min_le_left _ _)
 rintro acc σ H' ⟨rfl,⟨v,rfl⟩,rfl⟩ D hD
 have et:u.cps.toList.take u.cps.size=u.cps.toList:=List.take_of_length_le (by simp)
 rw [et]
 have dt:∀ (H:Hp),∀ x∈flt 97 122 u.cps.toList,DtAt H 0 x:=fun H=>AV1 (plain_iff.mp ht.1)
 have em:=AM5 97 122 u.cps.toList
 have S1:=aE hD (.lst (flt 97 122 u.cps.toList))
 have e1:upd H' D (.lst (flt 97 122 u.cps.toList)) D=some (.lst (flt 97 122 u.cps.toList)):=aA
 generalize upd H' D (.lst (flt 97 122 u.cps.toList))=H1 at *
 refine ⟨Nat.zero_le _,fun p hp=>?_⟩
 have S2:=aE hp (.lst [])
 refine sX (S2 _ _ e1) aA (Nat.zero_le _) (dt _) ?_
 rw [em]
 have eg:decide (aY u)=decide (∀ c∈u.cps.toList,97<=c/\c<=122):=decide_eq_decide.mpr ⟨fun g=>g.2.2,fun g=>⟨by omega,by omega,g⟩⟩
 rw [eg] at q
 have qq:=q _ (S1.trans S2)
 cases z:decide (∀ c∈u.cps.toList,97<=c/\c<=122) with
 | true=>rw [z] at qq; exact qq
 | false=>rw [z] at qq; exact qq
theorem oR (B:Bt K mg a)(F:Fun K "_law_is_weight" "_law_is_weight" cN f fd):FnOk P w K mg base CX0 1 f fd ["_law_word_here"] (jP K a):=by
 refine F.ok oN (fun vs H Q E h=>?_) (fun cdv A outer s H vs Q E hr h=>?_)
 ·obtain ⟨u,rfl,_⟩:=h
  rfl
 obtain ⟨u,rfl,ht,q⟩:=h
 refine fP ⟨_,(aI (aC (bG (L2.PW.pt (iE (aQ bY (pv 0) aK (aW _)) (iE (aQ uP (aU cY rfl B.len PySem.boot_len (aJ (aO (pv 0) aD))) aM (aW _)) (eC (aQ (AJ3 hr.units) (dI ["_law_sign"] [none] rfl (by kernel_rfl) (zP (pv 0)) (fun cl C s H fp=>⟨(bO (i:=0) (by decide:List.Nodup (["_law_sign"]:List Str)) rfl (Or.inl (by kernel_rfl)) (Or.inr (by kernel_rfl))),(wZ (aQ oA (pv 0 (hv:=Or.inl (by kernel_rfl))) aK (by with_unfolding_all rfl))),(pv 0 (hv:=Or.inl (by kernel_rfl)))⟩)) (gK (aJ aD)) (aW _)))))) (aI (aH (aT (aR lL)))) aS) (aI (aH (aT (aR (BE7 (cS bY (pv 0) aK (aW _)) (nX (cS uO (bN AF6 (pv 0) aM (fun _ _=>rfl)) aK (aW _)))))))))),?_⟩
 have e0:¬ (1<=u.length/\u.length<=60/\∀ c∈u.cps.toList,48<=c/\c<=57)->mS u=false:=fun z=>by unfold mS; rw [decide_eq_false z]; rfl
 have hl:=ht.2.1
 nofun
 walk_at "ho"
 nofun
 by_cases c0:u=""
 ·rw [if_pos c0]
  walk_at "hr"
  nofun
  rw [e0 (fun z=>by rw [c0] at z; exact absurd z.1 (by decide))] at q
  exact q _ fun _ _ z=>z
 rw [if_neg c0]
 refine ⟨sz8 (by omega),?_⟩
 by_cases c1:(60:Int) < ((u.length:Nat):Int)
 ·rw [if_pos c1]
  walk_at "hr"
  nofun
  rw [e0 (fun z=>by have:=z.2.1; omega)] at q
  exact q _ fun _ _ z=>z
 rw [if_neg c1]
 refine ⟨ht.1,?_⟩
 refine CompS.by (fun i acc σ H'=>acc=flt 48 57 (u.cps.toList.take i)/\(∃ v,σ=[v])/\H'=H) (sz8 (by have:=ht.2.1; exact Nat.le_trans this (by decide))) ⟨rfl,⟨_,rfl⟩,rfl⟩ ?_ ?_ ?_
 ·rintro i c acc σ H' hc ⟨rfl,⟨v,rfl⟩,rfl⟩
  have hc':u.cps.toList[i]?=some c:=by simpa using hc
  have m:c∈u.cps.toList:=List.mem_of_getElem? hc'
  have ea:=AB0 (lo:=48) (hi:=57) hc'
  have eo:(!(Builtin.Str.occurrences ("0123456789":Str) ⟨#[c]⟩ 0 ("0123456789":Str).length 1).isEmpty)=decide (48<=c/\c<=57):=yC (plain_iff.mp ht.1 c m)
  nofun
  rw [eo]
  by_cases k:48<=c/\c<=57
  ·rw [if_pos k] at ea
   rw [decide_eq_true k]
   exists Bool.not_true
   first | exact ea.symm | exact ⟨ea.symm,⟨_,rfl⟩,rfl⟩ | trace_state
  ·rw [if_neg k] at ea
   rw [decide_eq_false k]
   exists Bool.not_false
   first | exact ea.symm | exact ⟨ea.symm,⟨_,rfl⟩,rfl⟩ | trace_state
 ·rintro i acc σ H' ⟨rfl,_,_⟩
  unfold flt
  rw [List.length_map]
  exact Nat.le_trans (List.length_filter_le _ _) (by rw [List.length_take]; exact Nat.min_le_left _ _)
 rintro acc σ H' ⟨rfl,⟨v,rfl⟩,rfl⟩ D hD
 have et:u.cps.toList.take u.cps.size=u.cps.toList:=List.take_of_length_le (by simp)
 rw [et]
 have dt:∀ (H:Hp),∀ x∈flt 48 57 u.cps.toList,DtAt H 0 x:=fun H=>AV1 (plain_iff.mp ht.1)
 have em:=AM5 48 57 u.cps.toList
 have S1:=aE hD (.lst (flt 48 57 u.cps.toList))
 have e1:upd H' D (.lst (flt 48 57 u.cps.toList)) D=some (.lst (flt 48 57 u.cps.toList)):=aA
 generalize upd H' D (.lst (flt 48 57 u.cps.toList))=H1 at *
 refine ⟨Nat.zero_le _,fun p hp=>?_⟩
 have S2:=aE hp (.lst [])
 refine sX (S2 _ _ e1) aA (Nat.zero_le _) (dt _) ?_
 rw [em]
 have SA:=S1.trans S2
 generalize upd H1 p (.lst [])=H2 at *
 refine ⟨_,rfl,?_⟩
 by_cases k:∀ c∈u.cps.toList,48<=c/\c<=57
 case neg =>
  rw [decide_eq_false k,if_pos (by decide)]
  walk_at "hr"
  nofun
  rw [e0 (fun z=>k z.2.2)] at q
  exact q _ SA
 rw [decide_eq_true k,if_neg (by decide)]
 obtain ⟨d,hd⟩:∃ d,u.cps.toList.head?=some d:=by
  cases z:u.cps.toList with
  | nil=>exact absurd (jE (y:="") (by rw [z]; rfl)) c0
  | cons a l=>exact ⟨a,rfl⟩
 have l1:1<=u.length:=by
  have e:u.length=u.cps.toList.length:=by simp [Str.length]
  cases z:u.cps.toList with
  | nil=>rw [z] at hd; cases hd
  | cons a l=>rw [e,z,List.length_cons]; omega
 have ef:mS u=(decide (u="0") || !decide (d=48)):=by
  unfold mS
  rw [decide_eq_true ⟨l1,by omega,k⟩,Bool.true_and]
  show (_ || !Txt.startswith u ⟨#[48]⟩)=_
  have ed:decide (some d=some 48)=decide (d=48):=decide_eq_decide.mpr ⟨fun z=>Option.some.inj z,fun z=>by rw [z]⟩
  rw [iO,hd,ed]
 rw [ef] at q
 walk_at "hr"
 nofun
 by_cases z:u="0"
 ·rw [if_pos z]
  rw [decide_eq_true z,Bool.true_or] at q
  exact q _ SA
 rw [if_neg z]
 rw [decide_eq_false z,Bool.false_or] at q
 refine ixs (c:=d) (sz8 (by omega)) (show atI _ ((0:Nat):Int)=some d from iF (by rw [<- List.head?_eq_getElem?]; exact hd)) ⟨rfl,?_⟩
 have es:decide (V.str ⟨#[d]⟩=V.str "0")=decide (d=48):=decide_eq_decide.mpr ⟨fun y=>by
  have h:[d]=[48]:=congrArg (fun s:Str=>s.cps.toList) (V.str.inj y)
  exact (List.cons.inj h).1,fun y=>by rw [y]; rfl⟩
 rw [es]
 exact q _ SA
theorem slS {K:Frag}{H:Hp}{l:Addr}{ts us:List Str}{lo hi:Option Int}{Q:VK}(e:H l=some (.lst (ts.map V.str)))(c:AB4 (ts.map V.str) lo hi=us.map V.str)(k:∀ p H',H p=none->Same H H'->H' p=some (.lst (us.map V.str))->Q (.ref p) H'):BR5 K (.ref l) lo hi H Q :=
 ⟨l,_,rfl,SqL.of e,fun p hp=>by rw [c]; exact k p _ hp (aE hp _) aA⟩
theorem AV2 {H:Hp}{p q:Addr}{as bs:List Str}{Q:VK}(e1:H p=some (.lst (as.map V.str)))(e2:H q=some (.lst (bs.map V.str)))(hz:as.length+bs.length<=2000)(k:∀ r H',H r=none->Same H H'->H' r=some (.lst ((as++bs).map V.str))->Q (.ref r) H'):BR8 (.ref p) (.ref q) H Q :=
 ⟨p,q,_,_,rfl,rfl,e1,e2,by rw [List.length_map,List.length_map]; exact Nat.le_trans hz (by decide),fun r hr=>k r _ hr (aE hr _) (by rw [aA,List.map_append])⟩
theorem fH {ts:List Str}{P:Str->Prop}(h:∀ x∈ts,P x)(k:Nat):(∀ x∈ts.take k,P x)/\(∀ x∈ts.drop k,P x)/\∀ x∈(ts.drop k).take 1,P x :=
 ⟨fun x hx=>h x (List.mem_of_mem_take hx),fun x hx=>h x (List.mem_of_mem_drop hx),fun x hx=>h x (List.mem_of_mem_drop (List.mem_of_mem_take hx))⟩
theorem rB (B:Bt K mg a)(bA:CalX P w K mg base "_law_next" ["_law_state","_law_base"] 1 (dA K a))(gH:CalX P w K mg base "_law_word" ["_law_state"] 2 (lA K a))(F:Fun K "_law_changed" "_law_changed" dC f fd):FnOk P w K mg base CX0 3 f fd ["_law_words","_law_state"] (kO K a):=by
 refine F.ok sc_law_changed (fun vs H Q E h=>?_) (fun cdv A outer s H vs Q E hr h=>?_)
 ·obtain ⟨l,wl,ts,rfl,_⟩:=h
  rfl
 obtain ⟨l,wl,ts,rfl,el,nl,W,hne,hn,hw,q⟩:=h
 refine fP ⟨_,(aI (aC (bC (i:=2) sc_law_changed.nd rfl (Or.inl rfl) (aR (aZ bA (hr.mono (by decide)) rfl (aJ (aO (pv 1) (aO aM aD))) (he:=aB _ _ _ rfl) (hpl:=aG rfl))) (by kernel_rfl)) (aI (aC (bC (i:=3) sc_law_changed.nd rfl (Or.inl rfl) (aR (aZ bA (hr.mono (by decide)) rfl (aJ (aO (pv 1) (aO (aU bB rfl B.len PySem.boot_len (aJ (aO (pv 0) aD))) aD))) (he:=aB _ _ _ rfl) (hpl:=aG rfl))) (by kernel_rfl)) (aI (aC (bC (i:=4) sc_law_changed.nd rfl (Or.inl rfl) (aR (aZ bA (hr.mono (by decide)) rfl (aJ (aO (pv 1) (aO (aU bB rfl B.len PySem.boot_len (aJ (aO (pv 0) aD))) aD))) (he:=aB _ _ _ rfl) (hpl:=aG rfl))) (by kernel_rfl)) (aI (aC (bG (aQ bY (pv 2) aM (aW _)) (aI (aH (aT (pQ hJ (aR (cI eG (pv 0) dL (cU (pv 3)))) (aR (cI eG (pv 0) (cU (bE bZ (pv 3) aM)) dL)))))) aS) (aI (aC (bG (aQ bY (pv 2) aM (aW _)) (aI (aH (aT (pQ hJ (pQ hJ (aR (cI eG (pv 0) dL (cU (pv 3)))) (aR (cI eG (pv 0) (cU (pv 3)) (cU (bE bZ (pv 3) aM))))) (aR (cI eG (pv 0) (cU (pv 3)) dL)))))) aS) (aI (aC (bG (aQ bY (pv 2) aM (aW _)) (aI (aC (bC (i:=5) sc_law_changed.nd rfl (Or.inl rfl) (pQ hJ (aR (cI eG (pv 0) dL (cU (pv 3)))) (aR (cI eG (pv 0) (cU (bE bZ (pv 3) aM)) dL))) (by kernel_rfl)) (aI (aH (aT (pQ hJ (pQ hJ (aR (cI eG (pv 5) dL (cU (pv 4)))) (aR (cI eG (pv 0) (cU (pv 3)) (cU (bE bZ (pv 3) aM))))) (aR (cI eG (pv 5) (cU (pv 4)) dL)))))))) aS) (aI (aC (bG (aQ bY (pv 2) aM (aW _)) (aI (aC (bC (i:=6) sc_law_changed.nd rfl (Or.inl rfl) (aR (bH dN rfl B.list PyProof.Rows.boot_list (aJ (aO (pv 0) aD)))) (by kernel_rfl)) (aI (aC (bQ (nY (bN bJ (pv 0) (pv 4) (fun _ _=>rfl)) (zB (pv 6) (pv 3) oY))) (aI (aC (bQ (nY (bN bJ (pv 0) (pv 3) (fun _ _=>rfl)) (zB (pv 6) (pv 4) oY))) (aI (aH (aT (aR (pv 6))))))))))) aS) (aI (aH (aT (pQ hJ (pQ hJ (aR (cI eG (pv 0) dL (cU (pv 3)))) (gN (aO (aZ gH (hr.mono (by decide)) rfl (aJ (aO (pv 1) aD)) (he:=aB _ _ _ rfl) (hpl:=aG rfl)) aD))) (aR (cI eG (pv 0) (cU (bE bZ (pv 3) (bE kJ (pv 2) aM))) dL)))))))))))))))))))),?_⟩
 have l0:=List.length_pos_iff.mpr hne
 nofun
 walk_at "ho"
 nofun
 refine sA W (by decide) (by decide) fun r1 H1 a1 b1 W1 B1=>?_
 nofun
 have el1:=B1 _ _ nl el
 walk_at "ho"
 nofun
 refine ⟨_,.inl (SqL.of el1),?_⟩
 refine sA W1 (by rw [List.length_map]; omega) (by rw [List.length_map]; omega) fun at1 H2 a2 b2 W2 B2=>?_
 rw [List.length_map] at b2
 have el2:=B2 _ _ nl el1
 nofun
 walk_at "ho"
 nofun
 refine ⟨_,.inl (SqL.of el2),?_⟩
 refine sA W2 (by rw [List.length_map]; omega) (by rw [List.length_map]; omega) fun ot H3 a3 b3 W3 B3=>?_
 rw [List.length_map] at b3
 have el3:=B3 _ _ nl el2
 have BB:=B1.trans (B2.trans B3)
 clear B1 B2 B3 el el1 el2 W W1 W2
 nofun
 walk_at "ho"
 nofun
 by_cases c0:r1=0
 ·rw [if_pos c0]
  walk_at "hr"
  nofun
  refine slS el3 (wC a2 (by omega)) fun p1 J1 f1 S1 e1=>?_
  refine slS (S1 _ _ el3) (wD (by omega) (by omega)) fun p2 J2 f2 S2 e2=>?_
  refine AV2 (S2 _ _ e1) e2 (by simp only [List.length_append,List.length_take,List.length_drop]; omega) fun p3 J3 f3 S3 e3=>?_
  have SA:=S1.trans (S2.trans S3)
  exact q p3 _ _ e3 ((W3.same (S1.trans S2)).ne f3) (by simp only [List.length_append,List.length_take,List.length_drop]; omega) (by rw [dY]; have:=rY ts at1.toNat; have:=pX (ts:=ts) (show at1.toNat<=(at1+1).toNat by omega); omega) (fC (fH hw _).1 (fH hw _).2.1) (W3.same SA) (BB.trans (Same.but SA))
 rw [if_neg c0]
 walk_at "ho"
 nofun
 by_cases c1:r1=1
 ·rw [if_pos c1]
  walk_at "hr"
  nofun
  refine slS el3 (wC a2 (by omega)) fun p1 J1 f1 S1 e1=>?_
  refine slS (S1 _ _ el3) (AM4 a2 b2) fun p2 J2 f2 S2 e2=>?_
  refine AV2 (S2 _ _ e1) e2 (by simp only [List.length_append,List.length_take,List.length_drop]; omega) fun p3 J3 f3 S3 e3=>?_
  have S0:=S1.trans (S2.trans S3)
  refine slS (S0 _ _ el3) (wD a2 (by omega)) fun p4 J4 f4 S4 e4=>?_
  refine AV2 (S4 _ _ e3) e4 (by simp only [List.length_append,List.length_take,List.length_drop]; omega) fun p5 J5 f5 S5 e5=>?_
  have SA:=S0.trans (S4.trans S5)
  exact q p5 _ _ e5 ((W3.same (S0.trans S4)).ne f5) (by simp only [List.length_append,List.length_take,List.length_drop]; omega) (by rw [dY,dY]; have:=rY ts at1.toNat; have q1:=rX ((ts.drop at1.toNat).take 1); rw [List.length_take] at q1; omega) (fC (fC (fH hw _).1 (fH hw _).2.2) (fH hw _).2.1) (W3.same SA) (BB.trans (Same.but SA))
 rw [if_neg c1]
 walk_at "ho"
 nofun
 by_cases c2:r1=2
 ·rw [if_pos c2]
  walk_at "ho"
  nofun
  refine slS el3 (wC a2 (by omega)) fun p1 J1 f1 S1 e1=>?_
  refine slS (S1 _ _ el3) (wD (by omega) (by omega)) fun p2 J2 f2 S2 e2=>?_
  refine AV2 (S2 _ _ e1) e2 (by simp only [List.length_append,List.length_take,List.length_drop]; omega) fun p3 J3 f3 S3 e3=>?_
  have S0:=S1.trans (S2.trans S3)
  have hr9:∀ x∈ts.take at1.toNat++ts.drop (at1+1).toNat,wOk x:=fC (fH hw _).1 (fH hw _).2.1
  have lr9:(ts.take at1.toNat++ts.drop (at1+1).toNat).length=ts.length - 1:=by simp only [List.length_append,List.length_take,List.length_drop]; omega
  have cr:cb (ts.take at1.toNat++ts.drop (at1+1).toNat)<=cb ts:=(by rw [dY]; have:=rY ts at1.toNat; have:=pX (ts:=ts) (show at1.toNat<=(at1+1).toNat by omega); omega)
  generalize ts.take at1.toNat++ts.drop (at1+1).toNat=rs at *
  have el4:=S0 _ _ el3
  have W4:=W3.same S0
  have BC:=BB.trans (Same.but S0)
  clear S1 S2 S3 S0 el3 W3 BB e1 e2
  walk_at "hr"
  nofun
  refine slS e3 (wC a3 (by omega)) fun p4 J4 f4 S4 e4=>?_
  refine slS (S4 _ _ el4) (AM4 a2 b2) fun p5 J5 f5 S5 e5=>?_
  refine AV2 (S5 _ _ e4) e5 (by simp only [List.length_append,List.length_take,List.length_drop]; omega) fun p6 J6 f6 S6 e6=>?_
  have S7:=S4.trans (S5.trans S6)
  refine slS (S7 _ _ e3) (wD a3 (by omega)) fun p7 J7 f7 S8 e7=>?_
  refine AV2 (S8 _ _ e6) e7 (by simp only [List.length_append,List.length_take,List.length_drop]; omega) fun p8 J8 f8 S9 e8=>?_
  have SA:=S7.trans (S8.trans S9)
  exact q p8 _ _ e8 ((W4.same (S7.trans S8)).ne f8) (by simp only [List.length_append,List.length_take,List.length_drop]; omega) (by rw [dY,dY]; have:=rY rs ot.toNat; have q1:=rX ((ts.drop at1.toNat).take 1); rw [List.length_take] at q1; omega) (fC (fC (fH hr9 _).1 (fH hw _).2.2) (fH hr9 _).2.1) (W4.same SA) (BC.trans (Same.but SA))
 rw [if_neg c2]
 walk_at "ho"
 nofun
 by_cases c3:r1=3
 ·rw [if_pos c3]
  walk_at "ho"
  nofun
  refine ⟨_,.inl (SqL.of el3),fun lt f1=>?_⟩
  have S1:=aE f1 (.lst (ts.map V.str))
  have e1:upd H3 lt (.lst (ts.map V.str)) lt=some (.lst (ts.map V.str)):=aA
  have nlt:=W3.ne f1
  have nel:l≠lt:=aP el3 f1
  have el4:=S1 _ _ el3
  have W4:=W3.same S1
  have B4:But wl H (upd H3 lt (.lst (ts.map V.str))):=BB.trans (Same.but S1)
  have fr:∀ b o,b≠wl->H b=some o->b≠lt:=fun b o n e=>aP (BB b o n e) f1
  generalize upd H3 lt (.lst (ts.map V.str))=J1 at *
  walk_at "ho"
  nofun
  obtain ⟨x,hx,ex⟩:=pM (xs:=ts.map V.str) a3 (by rw [List.length_map]; exact b3)
  obtain ⟨u,hu,rfl⟩:=List.mem_map.mp hx
  refine ixl (SqL.of el4) ex ?_
  refine ⟨lt,_,at1,at1.toNat,rfl,rfl,e1,AT2 a2 (by rw [List.length_map]; exact b2),?_⟩
  have e2:upd J1 lt (.lst ((ts.map V.str).set at1.toNat (.str u))) lt=some (.lst ((ts.set at1.toNat u).map V.str)):=by rw [aA,List.map_set]
  have el5:upd J1 lt (.lst ((ts.map V.str).set at1.toNat (.str u))) l=some (.lst (ts.map V.str)):=by rw [aN nel]; exact el4
  have W5:Well3 (upd J1 lt (.lst ((ts.map V.str).set at1.toNat (.str u)))) wl:=let ⟨a,b,c,e⟩:=W4; ⟨a,b,c,by rw [aN nlt.symm]; exact e⟩
  have B5:But wl H (upd J1 lt (.lst ((ts.map V.str).set at1.toNat (.str u)))):=fun b o n e=>by rw [aN (fr b o n e)]; exact B4 b o n e
  generalize upd J1 lt (.lst ((ts.map V.str).set at1.toNat (.str u)))=J2 at *
  walk_at "ho"
  nofun
  obtain ⟨x2,hx2,ex2⟩:=pM (xs:=ts.map V.str) a2 (by rw [List.length_map]; exact b2)
  obtain ⟨u2,hu2,rfl⟩:=List.mem_map.mp hx2
  refine ixl (SqL.of el5) ex2 ?_
  refine ⟨lt,_,ot,ot.toNat,rfl,rfl,e2,AT2 a3 (by rw [List.length_map,List.length_set]; exact b3),?_⟩
  have e3:upd J2 lt (.lst (((ts.set at1.toNat u).map V.str).set ot.toNat (.str u2))) lt=some (.lst (((ts.set at1.toNat u).set ot.toNat u2).map V.str)):=by rw [aA,<- List.map_set]
  have W6:Well3 (upd J2 lt (.lst (((ts.set at1.toNat u).map V.str).set ot.toNat (.str u2)))) wl:=let ⟨a,b,c,e⟩:=W5; ⟨a,b,c,by rw [aN nlt.symm]; exact e⟩
  have B6:But wl H (upd J2 lt (.lst (((ts.set at1.toNat u).map V.str).set ot.toNat (.str u2)))):=fun b o n e=>by rw [aN (fr b o n e)]; exact B5 b o n e
  generalize upd J2 lt (.lst (((ts.set at1.toNat u).map V.str).set ot.toNat (.str u2)))=J3 at *
  walk_at "hr"
  nofun
  exact q lt _ _ e3 nlt (by rw [List.length_set,List.length_set]; omega) (by have:=AU7 ts at1.toNat u; have:=AU7 (ts.set at1.toNat u) ot.toNat u2; omega) (fun x hx=>by
   rcases List.mem_or_eq_of_mem_set hx with z | rfl
   ·rcases List.mem_or_eq_of_mem_set z with z | rfl
    ·exact hw x z
    ·exact hw _ hu
   ·exact hw _ hu2) W6 B6
 rw [if_neg c3]
 walk_at "hr"
 nofun
 refine slS el3 (wC a2 (by omega)) fun p1 J1 f1 S1 e1=>?_
 refine ⟨wl,rfl,W3.same S1,fun u J2 hu W2 B2=>?_⟩
 have n1:=W3.ne f1
 have e2:=B2 _ _ n1 e1
 have el4:=B2 _ _ nl (S1 _ _ el3)
 refine ⟨by decide,fun p3 f3=>?_⟩
 have S3:=aE f3 (.lst [.str u])
 have e3:upd J2 p3 (.lst [.str u]) p3=some (.lst ([u].map V.str)):=aA
 generalize upd J2 p3 (.lst [.str u])=J3 at *
 refine AV2 (S3 _ _ e2) e3 (by simp only [List.length_append,List.length_take,List.length_drop,List.length_singleton]; omega) fun p4 J4 f4 S4 e4=>?_
 refine ⟨by decide,?_⟩
 have S5:=S3.trans S4
 refine slS (S5 _ _ el4) (wD (by omega) (by omega)) fun p6 J6 f6 S6 e6=>?_
 refine AV2 (S6 _ _ e4) e6 (by simp only [List.length_append,List.length_take,List.length_drop,List.length_singleton]; omega) fun p7 J7 f7 S7 e7=>?_
 have SA:=S5.trans (S6.trans S7)
 exact q p7 _ _ e7 ((W2.same (S5.trans S6)).ne f7) (by simp only [List.length_append,List.length_take,List.length_drop,List.length_singleton]; omega) (by rw [dY,dY]; have:=rY ts at1.toNat; have:=AL3 u; have:=pX (ts:=ts) (show at1.toNat<=(at1+r1 % 2).toNat by omega); omega) (fC (fC (fH hw _).1 (all_cons hu jG)) (fH hw _).2.1) (W2.same SA) ((BB.trans (Same.but S1)).trans (B2.trans (Same.but SA)))
theorem AR7 {u:Str}(h:hV u=true):PyData.strOk u=true:=by
 unfold PyData.strOk
 rw [Array.all_eq_true']
 intro d hd
 have:=plain_iff.mp h d (by simpa using hd)
 simp only [decide_eq_true_eq]
 omega
theorem BJ8 {H:Hp}{ts:List Str}(h:∀ x∈ts,wOk x):∀ x∈ts.map V.str,DtAt H 0 x:=fun x hx=>by
 obtain ⟨u,hu,rfl⟩:=List.mem_map.mp hx
 exact kM (AR7 (h u hu).1.2.2.1)
def BP7 (H:Hp)(wl:Addr)(i:Nat)(σ:L2.St)(H1:Hp):Prop:=∃ (l:Addr) (ts:List Str) (v:Option V),σ=[some (.ref l),some (.ref wl),v]/\H1 l=some (.lst (ts.map V.str))/\l≠wl/\ts.length<=134+i/\cb ts<=81+2 * i/\(∀ x∈ts,wOk x)/\Well3 H1 wl/\But wl H H1
def BJ9 (H:Hp)(l r:Addr)(ts:List Str)(i:Nat)(σ:L2.St)(H1:Hp):Prop:=∃ (us:List Str) (k:Nat),σ=[some (.ref l),some (.int k),some (.ref r)]/\H1 l=some (.lst (ts.map V.str))/\H1 r=some (.lst (us.map V.str))/\k=i+us.length/\k<=ts.length/\Same H H1/\us++((ts.drop k).takeWhile fun u=>decide (aY u))=((ts.drop i).takeWhile fun u=>decide (aY u))
theorem mM {ts:List Str}{k:Nat}(h:k < ts.length):atI (ts.map V.str) (k:Int)=some (.str (ts.getD k "")):=iF (by
 rw [List.getElem?_map,List.getD,List.getElem?_eq_getElem h]
 rfl)
theorem yP {ts:List Str}{k:Nat}(h:k < ts.length):ts.getD k ""∈ts:=by
 rw [List.getD,List.getElem?_eq_getElem h]
 exact List.getElem_mem h
theorem tY (B:Bt K mg a)(bA:CalX P w K mg base "_law_next" ["_law_state","_law_base"] 1 (dA K a))(gH:CalX P w K mg base "_law_word" ["_law_state"] 2 (lA K a))(jJ:CalX P w K mg base "_law_changed" ["_law_words","_law_state"] 3 (kO K a))(F:Fun K "_law_spoilt" "_law_spoilt" dU f fd):FnOk P w K mg base CX0 4 f fd ["_law_words","_law_state"] (mG K a):=by
 refine F.ok sc_law_spoilt (fun vs H Q E h=>?_) (fun cdv A outer s H vs Q E hr h=>?_)
 ·obtain ⟨l,wl,ts,rfl,_⟩:=h
  rfl
 obtain ⟨l,wl,ts,rfl,el,nl,W,hne,hn,hc,hw,q⟩:=h
 refine fP ⟨_,(aI (aC (bG (aQ bY (aZ bA (hr.mono (by decide)) rfl (aJ (aO (pv 1) (aO aM aD))) (he:=aB _ _ _ rfl) (hpl:=aG rfl)) aM (aW _)) (aI (aH (aT (aR (dI ["_law_k","_law_state"] [none,some 1] rfl (by kernel_rfl) (gJ rfl B.range (aJ (aO (bE bZ aM (aZ bA (hr.mono (by decide)) rfl (aJ (aO (pv 1) (aO aM aD))) (he:=aB _ _ _ rfl) (hpl:=aG rfl))) aD))) (fun cl C s H fp=>⟨(bO (i:=0) (by decide:List.Nodup (["_law_k","_law_state"]:List Str)) rfl (Or.inl (by kernel_rfl)) (Or.inr (by kernel_rfl))),iG,(aZ gH (hr.mono (by decide)) (qT (by kernel_rfl)) (aJ (aO (pv 1 (hv:=Or.inr (Or.inl (by kernel_rfl)))) aD)) (he:=aB _ _ _ rfl) (hpl:=aG rfl))⟩)))))) aS) (aI (aC (bQ (uN PassesOwn.never rfl (gJ rfl B.range (aJ (aO (bE bZ aM (aZ bA (hr.mono (by decide)) rfl (aJ (aO (pv 1) (aO aM aD))) (he:=aB _ _ _ rfl) (hpl:=aG rfl))) aD))) (bO (i:=2) sc_law_spoilt.nd rfl (Or.inl rfl)) (iM (aI (aH (bG (aQ (AJ3 hr.units) (pv 0) (gK (aJ aD)) (aW _)) (aI (aH (bC (i:=0) sc_law_spoilt.nd rfl (Or.inl rfl) (aR (aZ jJ (hr.mono (by decide)) rfl (aJ (aO (pv 0) (aO (pv 1) aD))) (he:=aB _ _ _ rfl) (hpl:=aG rfl))) (by kernel_rfl)))) aS)))))) (aI (aH (aT (aR (pv 0))))))))),?_⟩
 nofun
 walk_at "ho"
 nofun
 refine sA W (by decide) (by decide) fun r1 H1 a1 b1 W1 B1=>?_
 nofun
 by_cases c:r1=7
 ·rw [if_pos c]
  walk_at "hr"
  nofun
  refine sA W1 (by decide) (by decide) fun r2 H2 a2 b2 W2 B2=>?_
  refine ⟨_,rfl,by omega,by omega,?_⟩
  refine CompR.by (fun i acc σ H'=>(∃ us:List Str,acc=us.map V.str/\us.length=i/\∀ x∈us,wOk x)/\(∃ v,σ=[v,some (.ref wl)])/\Well3 H' wl/\But wl H2 H') (sz8 (by omega)) ⟨⟨[],rfl,rfl,jG⟩,⟨_,rfl⟩,W2,But.refl _ _⟩ ?_ ?_ ?_
  ·rintro i acc σ H' hi ⟨⟨us,rfl,hl,hu⟩,⟨v,rfl⟩,W3,B3⟩
   nofun
   refine ⟨wl,rfl,W3,fun u H3 ho W4 B4=>?_⟩
   have new:∃ us':List Str,us.map V.str++[V.str u]=us'.map V.str/\us'.length=i+1/\∀ x∈us',wOk x:=⟨us++[u],by rw [List.map_append]; rfl,by rw [List.length_append,hl]; rfl,fC hu (all_cons ho jG)⟩
   first | exact ⟨new,⟨_,rfl⟩,W4,B3.trans B4⟩ | exact ⟨new,W4,B3.trans B4⟩
  ·rintro i acc σ H' ⟨⟨us,rfl,hl,_⟩,_⟩
   rw [List.length_map,hl]
   exact Nat.le_refl _
  ·rintro acc σ H' ⟨⟨us,rfl,hl,hu⟩,⟨v,rfl⟩,W3,B3⟩ D hD
   have S9:=aE hD (.lst (us.map V.str))
   exact q D us _ aA (W3.ne hD) (by omega) (by have:=rX us; omega) hu (W3.same S9) (B1.trans (B2.trans (B3.trans (Same.but S9))))
 rw [if_neg c]
 walk_at "ho"
 nofun
 refine sA W1 (by decide) (by decide) fun r2 H2 a2 b2 W2 B2=>?_
 refine ⟨_,rfl,by omega,by omega,?_⟩
 refine ForR.by (BP7 H wl) ⟨l,ts,_,rfl,B2 _ _ nl (B1 _ _ nl el),nl,by omega,by omega,hw,W2,B1.trans B2⟩ ?_ ?_
 ·rintro i σ H3 hi ⟨l,ts,v,rfl,el,nl,hn,hc,hw,W,B⟩
  nofun
  walk_at "ho"
  nofun
  refine ⟨Nat.zero_le _,fun p hp=>?_⟩
  have S1:=aE hp (.lst [])
  refine sX (S1 _ _ el) aA (Nat.zero_le _) (BJ8 hw) ?_
  have el:=S1 _ _ el
  have W:=W.same S1
  have B:=B.trans (Same.but S1)
  generalize upd H3 p (.lst [])=H4 at *
  refine ⟨_,rfl,?_⟩
  by_cases z:ts=[]
  ·subst z
   rw [if_neg (by decide)]
   exact ⟨l,[],_,rfl,el,nl,Nat.zero_le _,Nat.zero_le _,hw,W,B⟩
  ·have e:(ts.map V.str).isEmpty=false:=by
    cases ts with
    | nil=>exact absurd rfl z
    | cons a r=>rfl
   rw [e,if_pos (by decide)]
   walk_at "ho"
   nofun
   refine ⟨l,wl,ts,rfl,el,nl,W,z,by omega,hw,fun l2 ts2 H5 e2 n2 ln2 cb2 hw2 W5 B5=>?_⟩
   nofun
   exact ⟨l2,ts2,_,rfl,e2,n2,by omega,by omega,hw2,W5,B.trans B5⟩
 ·rintro σ H3 ⟨l,ts,v,rfl,el,nl,hn,hc,hw,W,B⟩
  walk_at "hr"
  nofun
  exact q l ts _ el nl (by omega) (by omega) hw W B
theorem wE (B:Bt K mg a)(jK:CalX P w K mg base "_law_is_name" ["_law_word_here"] 1 (kP K a))(F:Fun K "_law_names" "_law_names" eK f fd):FnOk P w K mg base CX0 2 f fd ["_law_words","_law_at"] (oH K a):=by
 refine F.ok sc_law_names (fun vs H Q E h=>?_) (fun cdv A outer s H vs Q E hr h=>?_)
 ·obtain ⟨l,ts,i,rfl,_⟩:=h
  rfl
 obtain ⟨l,ts,i,rfl,el,hn,hi,ht,q⟩:=h
 refine fP ⟨_,(aC (bC (i:=2) sc_law_names.nd rfl (Or.inl rfl) (gN aD) (by kernel_rfl)) (aC (bQ (jX PassesOwn.never (L2.PW.pt (nW (aQ qQ (pv 1) (aU bB rfl B.len PySem.boot_len (aJ (aO (pv 0) aD))) (aW _)) (kR (cP (aZ jK (hr.mono (by decide)) rfl (aJ (aO (bN bJ (pv 0) (pv 1) (fun _ _=>rfl)) aD)) (he:=aB _ _ _ rfl) (hpl:=aG rfl)))))) (iM (aC (bQ (dJ (iY PySem.F.plainAttrs_list PySem.F.slot_list_append PySem.F.type_list_append gL (pv 2) (aJ (aO (bN bJ (pv 0) (pv 1) (fun _ _=>rfl)) aD))))) (aH (bC (i:=1) sc_law_names.nd rfl (Or.inl rfl) (aR (bE bZ (pv 1) aM)) (by kernel_rfl))))))) (aH (aT (aR (pv 2)))))),?_⟩
 nofun
 refine ⟨Nat.zero_le _,fun r hr0=>?_⟩
 have S0:=aE hr0 (.lst [])
 have nl:l≠r:=aP el hr0
 refine whl (BJ9 H l r ts i) (fun _ H1=>ts.length - qY r H1) ⟨[],i,rfl,S0 _ _ el,aA,rfl,hi,S0,by rw [List.nil_append]⟩ ?_
 rintro σ H1 ⟨us,k,rfl,e1,er,ek,lk,S1,eq⟩
 nofun
 refine ⟨_,.inl (SqL.of e1),?_⟩
 rw [List.length_map]
 by_cases c0:(k:Int) < (ts.length:Int)
 case neg =>
  rw [if_neg c0]
  nofun
  have c1:ts.drop k=[]:=List.drop_eq_nil_iff.mpr (by omega)
  rw [c1,List.takeWhile_nil,List.append_nil] at eq
  exact q r H1 S1 hr0 (by rw [<- eq]; exact er)
 rw [if_pos c0]
 have kl:k < ts.length:=by omega
 refine ixl (SqL.of e1) (mM kl) ?_
 refine ⟨_,rfl,ht _ (yP kl),fun H2 S2=>?_⟩
 have e2:=S2 _ _ e1
 have er2:=S2 _ _ er
 have S3:=S1.trans S2
 refine ⟨_,rfl,?_⟩
 by_cases c:aY (ts.getD k "")
 case neg =>
  rw [if_neg (by rw [decide_eq_false c]; decide)]
  rw [vX c,List.append_nil] at eq
  exact q r H2 S3 hr0 (by rw [<- eq]; exact er2)
 rw [if_pos (decide_eq_true c)]
 refine ⟨fun σ' H'=>BJ9 H l r ts i σ' H'/\ts.length - qY r H' < ts.length - qY r H1,fun σ' H' h=>⟨_,h.2,rfl,h.1⟩,.inl ⟨rfl,_,SqL.of er2⟩,?_⟩
 refine ixl (SqL.of e2) (mM kl) ?_
 refine ⟨r,_,_,rfl,rfl,er2,by rw [List.length_map]; exact Nat.lt_of_le_of_lt (show us.length<=1000 by omega) (by decide),?_⟩
 refine ⟨⟨us++[ts.getD k ""],k+1,rfl,by rw [aN nl]; exact e2,by rw [aA,List.map_append]; rfl,by rw [List.length_append,List.length_singleton]; omega,by omega,fun b o e=>by rw [aN (aP e hr0)]; exact S3 b o e,?_⟩,?_⟩
 ·rw [List.append_assoc,List.singleton_append,<- sB rfl c]
  exact eq
 ·rw [AA9 aA,AA9 er,List.length_append,List.length_map,List.length_singleton]
  omega
theorem AR8 {H:Hp}{r:Addr}{xs ys:List V}(e:H r=some (.lst xs)):BH8 H (upd H r (.lst ys)):=fun b zs z=>by
 rw [aN (fun q=>by rw [q,e] at z; cases z)]
 exact z
theorem BT9 {p q A B:Prop}[Decidable p][Decidable q](h:p\/q)(a:A):if p then A else if q then A else B:=by
 by_cases c:p
 ·rw [if_pos c]
  exact a
 ·rw [if_neg c,if_pos (h.resolve_left c)]
  exact a
def mkT (x:Str)(us:List Str):Tr:=if x="kind" then .kind us else .place us
theorem BK0 {x:Str}(ck:x="kind"\/x="place")(us:List Str):(∀ H v,(∃ p l,v=V.ref p/\H p=some (.tup [.str x,.ref l])/\H l=some (.tup (us.map V.str)))->(mkT x us).At H v)/\(us≠[]->(∀ u∈us,aY u)->us.Nodup->(mkT x us).wf)/\(mkT x us).ws=x::us:=by
 unfold mkT
 rcases ck with rfl | rfl
 ·rw [if_pos rfl]
  exact ⟨fun H v h=>by rw [Tr.At]; exact h,fun a b c=>by rw [Tr.wf]; exact ⟨a,b,c⟩,by rw [Tr.ws]⟩
 ·rw [if_neg (by decide)]
  exact ⟨fun H v h=>by rw [Tr.At]; exact h,fun a b c=>by rw [Tr.wf]; exact ⟨a,b,c⟩,by rw [Tr.ws]⟩
theorem AM6 {x:Str}(ck:x="kind"\/x="place")(r:List Str)(S:List Fm):iP (x::r) S=if r.takeWhile (fun u=>decide (aY u))≠[]/\(r.takeWhile (fun u=>decide (aY u))).Nodup then after S (mkT x (r.takeWhile fun u=>decide (aY u))) (r.dropWhile fun u=>decide (aY u)) else none:=by
 rcases ck with rfl | rfl
 ·exact AR0 r S
 ·exact AL5 r S
def AR9 (sg:Str)(ps:List Tr):List Str:=ps.flatMap fun t=>t.ws++[sg]
theorem yQ (sg:Str)(t:Tr):∀ ps:List Tr,(Trs.ofL (ps++[t])).ws sg=AR9 sg ps++t.ws
 | []=>by
  show Trs.ws sg (.cons t .nil)=_
  rw [kN]
  rfl
 | [p]=>by
  show Trs.ws sg (.cons p (.cons t .nil))=_
  rw [iH,kN]
  simp [AR9]
 | p::p'::ps=>by
  have i:=yQ sg t (p'::ps)
  show Trs.ws sg (.cons p (Trs.ofL (p'::ps++[t])))=_
  have e:Trs.ofL (p'::ps++[t])=.cons p' (Trs.ofL (ps++[t])):=rfl
  rw [e,iH,<- e,i]
  simp [AR9]
def kOf:L2.St->Nat
 | _::some (.int k)::_=>k.toNat
 | _=>0
def sgOk (sg:Str)(ps:List Tr)(sv:V):Prop:=(sg="("/\ps=[]/\sv=.non)\/((sg="&"\/sg="|")/\ps≠[]/\sv=.str sg)
theorem sgOk.ne {sg:Str}{ps:List Tr}{sv:V}(h:sgOk sg ps sv):sg≠"not":=by
 rcases h with ⟨rfl,_⟩ | ⟨rfl | rfl,_⟩ <;> decide
def BD3 (H:Hp)(l r:Addr)(ts:List Str)(i:Nat)(σ:L2.St)(H1:Hp):Prop:=∃ (k:Nat) (sg:Str) (sv:V) (ps:List Tr) (xs:List V) (vp:Option V),σ=[some (.ref l),some (.int k),some (.ref r),some sv,vp]/\H1 r=some (.lst xs)/\All2 (Tr.At H1) ps xs/\i<=k/\k<=ts.length/\ps.length<=k/\sgOk sg ps sv/\(∀ t∈ps,t.wf)/\ts.drop i=AR9 sg ps++ts.drop k/\(∀ S,iP (ts.drop i) (⟨"(",[]⟩::S)=iP (ts.drop k) (⟨sg,ps⟩::S))/\Same H H1
theorem rC {d n:Nat}(hn:2<=n)(B:Bt K mg a)(fA:CalX P w K mg base "_law_read" ["_law_words","_law_at"] n (dM K a d))(F:Fun K "_law_several" "_law_several" dE f fd):FnOk P w K mg base CX0 (n+1) f fd ["_law_words","_law_at"] (iK K a d):=by
 refine F.ok sc_law_several (fun vs H Q E h=>?_) (fun cdv A outer s H vs Q E hr h=>?_)
 ·obtain ⟨l,ts,i,hd,rfl,_⟩:=h
  rfl
 obtain ⟨l,ts,i,hd,rfl,el,hi,hn,hw,q⟩:=h
 refine fP ⟨_,(aI (aC (bC (i:=2) sc_law_several.nd rfl (Or.inl rfl) (gN aD) (by kernel_rfl)) (aI (aC (bC (i:=3) sc_law_several.nd rfl (Or.inl rfl) (aR jL) (by kernel_rfl)) (aI (aC (bQ (jX PassesOwn.never (cP lL) (iM (aI (aC (bQ (nY (aZ fA (hr.mono (by omega)) rfl (aJ (aO (pv 0) (aO (pv 1) aD))) (he:=aB _ _ _ rfl) (hpl:=aG rfl)) (zA (n:=2) rfl (gY (bO (i:=4) sc_law_several.nd rfl (Or.inl rfl)) (gY (bO (i:=1) sc_law_several.nd rfl (Or.inl rfl)) sG))))) (aI (aC (bG (L2.PW.pt (iE (lM (uK (pv 4))) (eC (aQ BF5 (pv 1) (aU bB rfl B.len PySem.boot_len (aJ (aO (pv 0) aD))) (aW _))))) (aI (aH (aT (aR (cV (aJ (aO jL (aO (pv 1) aD)))))))) aS) (aI (aC (bQ (dJ (iY PySem.F.plainAttrs_list PySem.F.slot_list_append PySem.F.type_list_append gL (pv 2) (aJ (aO (pv 4) aD))))) (aI (aC (bG (aQ bY (bN bJ (pv 0) (pv 1) (fun _ _=>rfl)) aK (aW _)) (aI (aH (bQ AN4))) aS) (aI (aC (bG (L2.PW.pt (iE (aQ gZ (bN bJ (pv 0) (pv 1) (fun _ _=>rfl)) (gK (aJ (aO aK (aO aK aD)))) (by with_unfolding_all rfl)) (eC (L2.PW.pt (nW (lM (sF (pv 3))) (kR (aQ uO (bN bJ (pv 0) (pv 1) (fun _ _=>rfl)) (pv 3) (aW _)))))))) (aI (aH (aT (aR (cV (aJ (aO jL (aO (pv 1) aD)))))))) aS) (aI (aC (bC (i:=3) sc_law_several.nd rfl (Or.inl rfl) (aR (bN bJ (pv 0) (pv 1) (fun _ _=>rfl))) (by kernel_rfl)) (aI (aH (bC (i:=1) sc_law_several.nd rfl (Or.inl rfl) (aR (bE bZ (pv 1) aM)) (by kernel_rfl))))))))))))))))))) (aI (aC (bG (lM (uK (pv 3))) (aI (aH (aT (aR (cV (aJ (aO jL (aO (pv 1) aD)))))))) aS) (aI (aH (aT (aR (cV (aJ (aO (cV (aJ (aO (bN bJ (gK (aJ (aO aK (aO aK aD)))) (bH lO rfl B.int PyProof.Rows.boot_int (aJ (aO (cS bY (pv 3) aK (aW _)) aD))) (fun _ _=>rfl)) (aO (bH fM rfl B.tuple PyProof.Rows.boot_tuple (aJ (aO (pv 2) aD))) aD)))) (aO (bE bZ (pv 1) aM) aD)))))))))))))))),?_⟩
 nofun
 walk_at "ho"
 nofun
 refine ⟨Nat.zero_le _,fun r hr0=>?_⟩
 have S0:=aE hr0 (.lst [])
 have nl:l≠r:=aP el hr0
 have er0:upd H r (.lst []) r=some (.lst []):=aA
 show qX _ _ _ (upd H r (.lst []))
 generalize upd H r (.lst [])=H0 at *
 walk_at "ho"
 nofun
 
 walk_at "ho"
 nofun
 refine whl (BD3 H l r ts i) (fun σ _=>ts.length - kOf σ) ⟨i,"(",.non,[],[],_,rfl,er0,.nil,Nat.le_refl _,hi,Nat.zero_le _,.inl ⟨rfl,rfl,rfl⟩,(fun t h=>by cases h),rfl,fun _=>rfl,S0⟩ ?_
 rintro σ H1 ⟨k,sg,sv,ps,xs,vp,rfl,er,hA,ik,kl,lp,so,hwf,eW,eF,S1⟩
 have el1:=S1 _ _ el
 nofun
 refine ⟨fun σ' H'=>BD3 H l r ts i σ' H'/\ts.length - kOf σ' < ts.length - k,fun σ' H' h=>⟨_,h.2,rfl,h.1⟩,?_⟩
 walk_at "ho"
 nofun
 refine ⟨l,ts,k,Nat.lt_of_le_of_lt (pX ik) hd,rfl,el1,kl,hn,hw,fun pr x j H2 S2 epr hR=>?_⟩
 refine ⟨pr,rfl,_,SqT.of epr,rfl,_,_,rfl,_,_,rfl,rfl,?_⟩
 have el2:=S2 _ _ el1
 have er2:=S2 _ _ er
 have hA2:All2 (Tr.At H2) ps xs:=hA.imp fun t y _ h=>h.same S2
 have SA:=S1.trans S2
 clear el1 er hA S1 S2
 rcases hR with ⟨rfl,hN⟩ | ⟨t,k2,rfl,k2l,k2n,hAt,htw,hW2,hF2⟩
 ·skip
  walk_at "ho"
  nofun
  
  walk_at "hr"
  nofun
  refine ⟨sz8 (by decide),fun p2 h2=>?_⟩
  exact q p2 _ _ _ (SA.trans (aE h2 _)) aA (.inl ⟨rfl,fun S=>(eF S).trans (hN _)⟩)
 obtain ⟨px,rest,rfl,_⟩:=hAt.word
 walk_at "ho"
 nofun
 refine ⟨_,.inl (SqL.of el2),?_⟩
 rw [List.length_map]
 by_cases c0:(ts.length:Int)<=(k2:Int)
 ·rw [if_pos c0]
  walk_at "hr"
  nofun
  refine ⟨sz8 (by decide),fun p2 h2=>?_⟩
  have e0:ts.drop k2=[]:=List.drop_eq_nil_iff.mpr (by omega)
  exact q p2 _ _ _ (SA.trans (aE h2 _)) aA (.inl ⟨rfl,fun S=>(eF S).trans (by rw [hF2,e0]; exact (AA7 so.ne S t).1)⟩)
 rw [if_neg c0]
 have k2t:k2 < ts.length:=by omega
 walk_at "ho"
 nofun
 refine ⟨.inl ⟨rfl,_,SqL.of er2⟩,r,_,_,rfl,rfl,er2,?_,?_⟩
 ·rw [<- hA2.len]
  exact Nat.lt_of_le_of_lt (show ps.length<=1000 by omega) (by decide)
 have TK:=AR8 (ys:=xs++[.ref px]) er2
 have er3:upd H2 r (.lst (xs++[.ref px])) r=some (.lst (xs++[.ref px])):=aA
 have SB:Same H (upd H2 r (.lst (xs++[.ref px]))):=fun b o e=>by rw [aN (aP e hr0)]; exact SA b o e
 have hA3:All2 (Tr.At (upd H2 r (.lst (xs++[.ref px])))) (ps++[t]) (xs++[.ref px]):=(hA2.imp fun t y _ h=>h.keep TK).snoc (hAt.keep TK)
 have el3:=SB _ _ el
 generalize upd H2 r (.lst (xs++[.ref px]))=H3 at *
 clear TK hA2 hAt SA el2 er2
 have eD:=tM k2t
 have ab:=(AA7 (inn:=ps) so.ne · t)
 have hwf3:∀ u∈ps++[t],u.wf:=fun u hu=>(List.mem_append.mp hu).elim (hwf u) fun z=>by rw [List.mem_singleton.mp z]; exact htw
 walk_at "ho"
 nofun
 refine ixl (SqL.of el3) (mM k2t) ?_
 refine ⟨rfl,?_⟩
 by_cases c1:ts.getD k2 ""=")"
 ·rw [if_pos (by rw [c1])]
  walk_at "ho"
  nofun
  
  rcases so with ⟨rfl,rfl,rfl⟩ | ⟨sgq,pne,rfl⟩
  ·skip
   walk_at "ho"
   nofun
   
   walk_at "hr"
   nofun
   refine ⟨sz8 (by decide),fun p2 h2=>?_⟩
   exact q p2 _ _ _ (SB.trans (aE h2 _)) aA (.inl ⟨rfl,fun S=>(eF S).trans (by rw [hF2,eD,c1,((ab S).2 _).1,if_neg (by decide),if_neg (by decide)])⟩)
  ·skip
   walk_at "ho"
   nofun
   
   walk_at "hr"
   nofun
   refine ⟨sz8 (by decide),fun p1 h1=>?_⟩
   have T1:=aE h1 (.lst [.str "both",.str "either"])
   have f1:upd H3 p1 (.lst [.str "both",.str "either"]) p1=some (.lst [.str "both",.str "either"]):=aA
   generalize upd H3 p1 (.lst [.str "both",.str "either"])=H4 at *
   have er4:=T1 _ _ er3
   have hA4:All2 (Tr.At H4) (ps++[t]) (xs++[.ref px]):=hA3.imp fun t y _ h=>h.same T1
   have w2:2<=(Trs.ofL (ps++[t])).toL.length:=by
    rw [bI,List.length_append,List.length_singleton]
    have:=List.length_pos_iff.mpr pne
    omega
   rcases sgq with rfl | rfl
   ·rw [if_neg (by decide)]
    refine ixl (SqL.of f1) (v:=.str "both") rfl ?_
    refine ⟨xs++[.ref px],.inl ⟨SqL.of er4,fun pt hpt=>⟨sz8 (by decide),fun pb hpb=>⟨sz8 (by decide),fun p9 hp9=>?_⟩⟩⟩⟩
    have U1:=aE hpt (.tup (xs++[.ref px]))
    have U2:=aE hpb (.tup [.str "both",.ref pt])
    have U3:=aE hp9 (.tup [.ref pb,.int ((k2:Int)+1)])
    refine q p9 _ _ _ (SB.trans (T1.trans (U1.trans (U2.trans U3)))) aA (.inr ⟨.both (Trs.ofL (ps++[t])),k2+1,rfl,by omega,by omega,?_,?_,?_,fun S=>(eF S).trans (by rw [hF2,eD,c1,((ab S).2 _).1,if_pos rfl])⟩)
    ·rw [Tr.At]
     exact ⟨pb,pt,_,rfl,U3 _ _ aA,U3 _ _ (U2 _ _ aA),trs_at.mpr (by rw [bI]; exact hA4.imp fun t y _ h=>h.same (U1.trans (U2.trans U3)))⟩
    ·rw [Tr.wf]
     exact ⟨w2,trs_wf.mpr (by rw [bI]; exact hwf3)⟩
    ·rw [Tr.ws,yQ,eW,hW2,eD,c1]
     simp only [List.append_assoc,List.cons_append,List.nil_append]
   ·rw [if_pos rfl]
    refine ixl (SqL.of f1) (v:=.str "either") rfl ?_
    refine ⟨xs++[.ref px],.inl ⟨SqL.of er4,fun pt hpt=>⟨sz8 (by decide),fun pb hpb=>⟨sz8 (by decide),fun p9 hp9=>?_⟩⟩⟩⟩
    have U1:=aE hpt (.tup (xs++[.ref px]))
    have U2:=aE hpb (.tup [.str "either",.ref pt])
    have U3:=aE hp9 (.tup [.ref pb,.int ((k2:Int)+1)])
    refine q p9 _ _ _ (SB.trans (T1.trans (U1.trans (U2.trans U3)))) aA (.inr ⟨.either (Trs.ofL (ps++[t])),k2+1,rfl,by omega,by omega,?_,?_,?_,fun S=>(eF S).trans (by rw [hF2,eD,c1,((ab S).2 _).1,if_neg (by decide),if_pos rfl])⟩)
    ·rw [Tr.At]
     exact ⟨pb,pt,_,rfl,U3 _ _ aA,U3 _ _ (U2 _ _ aA),trs_at.mpr (by rw [bI]; exact hA4.imp fun t y _ h=>h.same (U1.trans (U2.trans U3)))⟩
    ·rw [Tr.wf]
     exact ⟨w2,trs_wf.mpr (by rw [bI]; exact hwf3)⟩
    ·rw [Tr.ws,yQ,eW,hW2,eD,c1]
     simp only [List.append_assoc,List.cons_append,List.nil_append]
 rw [if_neg (fun z=>c1 (V.str.inj z))]
 walk_at "ho"
 nofun
 refine ixl (SqL.of el3) (mM k2t) ?_
 refine ⟨sz8 (by decide),fun p1 h1=>?_⟩
 have T1:=aE h1 (.lst [.str "&",.str "|"])
 refine ⟨p1,_,rfl,.inl (SqL.of aA),rfl,rfl,?_⟩
 generalize upd H3 p1 (.lst [.str "&",.str "|"])=H4 at *
 have ei:inV (.str (ts.getD k2 "")) [.str "&",.str "|"]=decide (ts.getD k2 ""="&"\/ts.getD k2 ""="|"):=by
  rw [show ([.str "&",.str "|"]:List V)=([("&":Str),"|"]:List Str).map V.str from rfl,qH]
  simp
 rw [ei]
 have el4:=T1 _ _ el3
 have er4:=T1 _ _ er3
 have hA4:All2 (Tr.At H4) (ps++[t]) (xs++[.ref px]):=hA3.imp fun t y _ h=>h.same T1
 have SC:=SB.trans T1
 refine ⟨_,rfl,?_⟩
 have bad:¬ ((ts.getD k2 ""="&"\/ts.getD k2 ""="|")/\(sg="("\/sg=ts.getD k2 ""))->∀ S,iP (ts.drop i) (⟨"(",[]⟩::S)=none:=fun z S=>(eF S).trans (by rw [hF2,eD,((ab S).2 _).2 _ c1,if_neg z])
 by_cases c2:ts.getD k2 ""="&"\/ts.getD k2 ""="|"
 case neg =>
  rw [decide_eq_false c2,if_pos (by decide)]
  walk_at "hr"
  nofun
  refine ⟨sz8 (by decide),fun p2 h2=>?_⟩
  exact q p2 _ _ _ (SC.trans (aE h2 _)) aA (.inl ⟨rfl,bad fun z=>c2 z.1⟩)
 rw [decide_eq_true c2,if_neg (by decide)]
 have fin:(sg="("\/sg=ts.getD k2 "")->(BD3 H l r ts i [some (.ref l),some (.int ((k2:Int)+1)),some (.ref r),some (.str (ts.getD k2 "")),some (.ref px)] H4/\ts.length - kOf [some (.ref l),some (.int ((k2:Int)+1)),some (.ref r),some (.str (ts.getD k2 "")),some (.ref px)] < ts.length - k):=fun c3=>by
  have ef:AR9 (ts.getD k2 "") ps=AR9 sg ps:=by
   rcases so with ⟨_,rfl,_⟩ | ⟨g,_,_⟩
   ·rfl
   ·rcases c3 with z | z
    ·rw [z] at g
     exact absurd g (by decide)
    ·rw [z]
  have e9:AR9 (ts.getD k2 "") (ps++[t])=AR9 (ts.getD k2 "") ps++(t.ws++[ts.getD k2 ""]):=by simp [AR9]
  refine ⟨⟨k2+1,ts.getD k2 "",_,ps++[t],xs++[.ref px],_,rfl,er4,hA4,by omega,by omega,by rw [List.length_append,List.length_singleton]; omega,.inr ⟨c2,by simp,rfl⟩,hwf3,?_,fun S=>(eF S).trans (by rw [hF2,eD,((ab S).2 _).2 _ c1,if_pos ⟨c2,c3⟩]),SC⟩,?_⟩
  ·rw [e9,ef,eW,hW2,eD]
   simp only [List.append_assoc,List.cons_append,List.nil_append]
  ·show ts.length - ((k2:Int)+1).toNat < ts.length - k
   omega
 rcases so with ⟨g1,g2,rfl⟩ | ⟨sgq,pne,rfl⟩
 ·rw [if_neg (fun z=>z rfl)]
  walk_at "ho"
  nofun
  refine ixl (SqL.of el4) (mM k2t) ?_
  walk_at "ho"
  nofun
  exact fin (.inl g1)
 rw [if_pos (fun z=>by cases z)]
 refine ixl (SqL.of el4) (mM k2t) ⟨rfl,?_⟩
 by_cases c3:sg=ts.getD k2 ""
 ·rw [if_neg (fun z=>z (by rw [c3]))]
  walk_at "ho"
  nofun
  refine ixl (SqL.of el4) (mM k2t) ?_
  walk_at "ho"
  nofun
  exact fin (.inr c3)
 rw [if_pos (fun z=>c3 (V.str.inj z).symm)]
 walk_at "hr"
 nofun
 refine ⟨sz8 (by decide),fun p2 h2=>?_⟩
 exact q p2 _ _ _ (SC.trans (aE h2 _)) aA (.inl ⟨rfl,bad fun z=>z.2.elim (fun y=>by rw [y] at sgq; exact absurd sgq (by decide)) c3⟩)
theorem yR {d n:Nat}(hn:2<=n)(B:Bt K mg a)(lH:CalX P w K mg base "_law_names" ["_law_words","_law_at"] 2 (oH K a))(gX:CalX P w K mg base "_law_is_weight" ["_law_word_here"] 1 (jP K a))(fA:CalX P w K mg base "_law_read" ["_law_words","_law_at"] n (dM K a d))(uE:CalX P w K mg base "_law_several" ["_law_words","_law_at"] (n+1) (iK K a d))(F:Fun K "_law_read" "_law_read" gC f fd):FnOk P w K mg base CX0 (n+2) f fd ["_law_words","_law_at"] (dM K a (d+1)):=by
 refine F.ok sc_law_read (fun vs H Q E h=>?_) (fun cdv A outer s H vs Q E hr h=>?_)
 ·obtain ⟨l,ts,i,hd,rfl,_⟩:=h
  rfl
 obtain ⟨l,ts,i,hd,rfl,el,hi,hn,hw,q⟩:=h
 refine fP ⟨_,(aI (aC (bG (aQ BF5 (pv 1) (aU bB rfl B.len PySem.boot_len (aJ (aO (pv 0) aD))) (aW _)) (aI (aH (aT (aR (cV (aJ (aO jL (aO (pv 1) aD)))))))) aS) (aI (aC (bC (i:=2) sc_law_read.nd rfl (Or.inl rfl) (aR (bN bJ (pv 0) (pv 1) (fun _ _=>rfl))) (by kernel_rfl)) (aI (aC (bG (aQ bY (pv 2) aK (aW _)) (aI (aH (aT (aR (cV (aJ (aO (cV (aJ (aO aK aD))) (aO (bE bZ (pv 1) aM) aD)))))))) aS) (aI (aC (bG (L2.PW.pt (iE (aQ bY (pv 2) aK (aW _)) (eC (aQ bY (pv 2) aK (aW _))))) (aI (aC (bC (i:=3) sc_law_read.nd rfl (Or.inl rfl) (aR (aZ lH (hr.mono (by omega)) rfl (aJ (aO (pv 0) (aO (bE bZ (pv 1) aM) aD))) (he:=aB _ _ _ rfl) (hpl:=aG rfl))) (by kernel_rfl)) (aI (aC (bG (L2.PW.pt (iE (aQ (zS hr.units) (pv 3) (gK (aJ aD)) (aW _)) (eC (aQ qQ (aU vH rfl B.len PySem.boot_len (aJ (aO (bH (vG rfl) rfl B.set PyProof.Rows.boot_set (aJ (aO (pv 3) aD))) aD))) (aU bB rfl B.len PySem.boot_len (aJ (aO (pv 3) aD))) (aW _))))) (aI (aH (aT (aR (cV (aJ (aO jL (aO (pv 1) aD)))))))) aS) (aI (aH (aT (aR (cV (aJ (aO (cV (aJ (aO (pv 2) (aO (bH fM rfl B.tuple PyProof.Rows.boot_tuple (aJ (aO (pv 3) aD))) aD)))) (aO (bE bZ (bE bZ (pv 1) aM) (aU bB rfl B.len PySem.boot_len (aJ (aO (pv 3) aD)))) aD)))))))))))) aS) (aI (aC (bG (L2.PW.pt (nW (aQ bY (pv 2) aK (aW _)) (nW (aQ qQ (bE bZ (pv 1) aM) (aU bB rfl B.len PySem.boot_len (aJ (aO (pv 0) aD))) (aW _)) (kR (cP (aZ gX (hr.mono (by omega)) rfl (aJ (aO (bN bJ (pv 0) (bE bZ (pv 1) aM) (fun _ _=>rfl)) aD)) (he:=aB _ _ _ rfl) (hpl:=aG rfl))))))) (aI (aH (aT (aR (cV (aJ (aO (cV (aJ (aO aK (aO (bH lU rfl B.int PyProof.Rows.boot_int (aJ (aO (bN bJ (pv 0) (bE bZ (pv 1) aM) (fun _ _=>rfl)) aD))) aD)))) (aO (bE bZ (pv 1) aM) aD)))))))) aS) (aI (aC (bG (aQ bY (pv 2) aK (aW _)) (aI (aC (bQ (nY (aZ fA (hr.mono (by omega)) rfl (aJ (aO (pv 0) (aO (bE bZ (pv 1) aM) aD))) (he:=aB _ _ _ rfl) (hpl:=aG rfl)) (zA (n:=2) rfl (gY (bO (i:=4) sc_law_read.nd rfl (Or.inl rfl)) (gY (bO (i:=1) sc_law_read.nd rfl (Or.inl rfl)) sG))))) (aI (aC (bG (lM (uK (pv 4))) (aI (aH (aT (aR (cV (aJ (aO jL (aO (pv 1) aD)))))))) aS) (aI (aH (aT (aR (cV (aJ (aO (cV (aJ (aO aK (aO (pv 4) aD)))) (aO (pv 1) aD)))))))))))) aS) (aI (aC (bG (aQ bY (pv 2) aK (aW _)) (aI (aH (aT (aR (aZ uE (hr.mono (by omega)) rfl (aJ (aO (pv 0) (aO (bE bZ (pv 1) aM) aD))) (he:=aB _ _ _ rfl) (hpl:=aG rfl)))))) aS) (aI (aH (aT (aR (cV (aJ (aO jL (aO (pv 1) aD)))))))))))))))))))))),?_⟩
 nofun
 walk_at "ho"
 nofun
 refine ⟨_,.inl (SqL.of el),?_⟩
 rw [List.length_map]
 by_cases c0:(ts.length:Int)<=(i:Int)
 ·rw [if_pos c0]
  walk_at "hr"
  nofun
  refine ⟨sz8 (by decide),fun p2 h2=>?_⟩
  have e0:ts.drop i=[]:=List.drop_eq_nil_iff.mpr (by omega)
  exact q p2 _ _ _ (aE h2 _) aA (.inl ⟨rfl,fun S=>by rw [e0]; exact BC1 S⟩)
 rw [if_neg c0]
 have il:i < ts.length:=by omega
 have eD:=tM il
 have hx:=hw _ (yP il)
 walk_at "ho"
 nofun
 refine ixl (SqL.of el) (mM il) ?_
 generalize ts.getD i ""=x at *
 walk_at "ho"
 nofun
 by_cases ca:x="any"
 ·rw [if_pos ca]
  walk_at "hr"
  nofun
  refine ⟨sz8 (by decide),fun p1 h1=>⟨sz8 (by decide),fun p2 h2=>?_⟩⟩
  have T1:=aE h1 (.tup [.str "any"])
  have T2:=aE h2 (.tup [.ref p1,.int ((i:Int)+1)])
  exact q p2 _ _ _ (T1.trans T2) aA (.inr ⟨.any,i+1,rfl,by omega,by omega,(by rw [Tr.At]; exact ⟨p1,rfl,T2 _ _ aA⟩),(by rw [Tr.wf]; trivial),(by rw [eD,ca]; rfl),fun S=>by rw [eD,ca]; exact BC2 _ S⟩)
 rw [if_neg ca]
 walk_at "ho"
 nofun
 by_cases ck:x="kind"\/x="place"
 ·refine BT9 ck ?_
  walk_at "ho"
  nofun
  refine ⟨l,ts,i+1,rfl,el,by omega,by omega,fun x hx=>(hw x hx).1.2.2,fun r H1 S1 r0 e1=>?_⟩
  walk_at "ho"
  nofun
  have gd:∀ u∈(ts.drop (i+1)).takeWhile fun u=>decide (aY u),aY u:=fun u hu=>of_decide_eq_true (p:=aY u) (lV (p:=fun u=>decide (aY u)) hu)
  have lu:=tU (p:=fun u=>decide (aY u)) (ts.drop (i+1))
  rw [List.length_drop] at lu
  have fk:=fun S=>(show iP (ts.drop i) S=iP (x::ts.drop (i+1)) S by rw [eD]).trans (AM6 ck (ts.drop (i+1)) S)
  have eT:=List.takeWhile_append_dropWhile (p:=fun u=>decide (aY u)) (l:=ts.drop (i+1))
  rw [yD] at fk eT
  generalize (ts.drop (i+1)).takeWhile (fun u=>decide (aY u))=us at *
  obtain ⟨m1,m2,m3⟩:=BK0 ck us
  refine ⟨Nat.zero_le _,fun p1 h1=>?_⟩
  have T1:=aE h1 (.lst [])
  refine sX (T1 _ _ e1) aA (Nat.zero_le _) (xP gd) ?_
  have e2:=T1 _ _ e1
  have SA:=S1.trans T1
  generalize upd H1 p1 (.lst [])=H2 at *
  refine ⟨_,rfl,?_⟩
  by_cases z:us=[]
  ·rw [if_pos (by rw [z]; rfl)]
   walk_at "hr"
   nofun
   refine ⟨sz8 (by decide),fun p2 h2=>?_⟩
   exact q p2 _ _ _ (SA.trans (aE h2 _)) aA (.inl ⟨rfl,fun S=>by rw [fk,if_neg (fun y=>y.1 z)]⟩)
  have ez:(us.map V.str).isEmpty=false:=by
   cases us with
   | nil=>exact absurd rfl z
   | cons a r=>rfl
  rw [ez,if_neg (by decide)]
  refine ⟨us,SqL.of e2,by omega,fun p3 h3=>?_⟩
  have T3:=aE h3 (vF P w p3 us)
  have e3:=T3 _ _ e2
  have SB:=SA.trans T3
  refine ⟨us,aA,?_⟩
  refine ⟨_,.inl (SqL.of e3),?_⟩
  rw [List.length_map]
  have ml:=xM us
  have ma:=zU us
  show if _ then qX _ _ _ (upd H2 p3 (vF P w p3 us)) else qX _ _ _ (upd H2 p3 (vF P w p3 us))
  generalize upd H2 p3 (vF P w p3 us)=H3 at *
  by_cases nd:us.Nodup
  case neg =>
   rw [if_pos (by have:(jM us).length≠us.length:=fun y=>nd (ma.mp y); omega)]
   walk_at "hr"
   nofun
   refine ⟨sz8 (by decide),fun p2 h2=>?_⟩
   exact q p2 _ _ _ (SB.trans (aE h2 _)) aA (.inl ⟨rfl,fun S=>by rw [fk,if_neg (fun y=>nd y.2)]⟩)
  rw [if_neg (by have:=ma.mpr nd; omega)]
  walk_at "hr"
  nofun
  refine ⟨_,.inl ⟨SqL.of e3,fun pt hpt=>⟨sz8 (by decide),fun pb hpb=>?_⟩⟩⟩
  have U1:=aE hpt (.tup (us.map V.str))
  have U2:=aE hpb (.tup [.str x,.ref pt])
  refine ⟨_,.inl (SqL.of (U2 _ _ (U1 _ _ e3))),sz8 (by decide),fun p9 hp9=>?_⟩
  have U3:=aE hp9 (.tup [.ref pb,.int ((i:Int)+1+((us.map V.str).length:Int))])
  refine q p9 _ _ _ (SB.trans (U1.trans (U2.trans U3))) aA (.inr ⟨mkT x us,i+1+us.length,?_,by omega,by omega,m1 _ _ ⟨pb,pt,rfl,U3 _ _ aA,U3 _ _ (U2 _ _ aA)⟩,m2 z gd nd,?_,fun S=>by rw [fk,if_pos ⟨z,nd⟩]⟩)
  ·rw [List.length_map]
   omega
  ·rw [eD,m3,List.cons_append,eT]
 rw [if_neg (fun z=>ck (.inl z)),if_neg (fun z=>ck (.inr z))]
 walk_at "ho"
 nofun
 by_cases cw:x="weight"
 ·rw [if_pos cw]
  refine ⟨_,.inl (SqL.of el),?_⟩
  rw [List.length_map]
  by_cases c1:(i:Int)+1 < (ts.length:Int)
  case neg =>
   rw [if_neg c1]
   have eE:ts.drop (i+1)=[]:=List.drop_eq_nil_iff.mpr (by omega)
   walk_at "ho"
   nofun
   
   rw [if_neg (by rw [cw]; decide)]
   walk_at "ho"
   nofun
   
   rw [if_neg (by rw [cw]; decide)]
   walk_at "hr"
   nofun
   
   refine ⟨sz8 (by decide),fun p2 h2=>?_⟩
   exact q p2 _ _ _ (aE h2 _) aA (.inl ⟨rfl,fun S=>by rw [eD,cw,eE]; exact BC3 S⟩)
  rw [if_pos c1]
  have i1:i+1 < ts.length:=by omega
  have eE:=tM i1
  have hy:=hw _ (yP i1)
  have ey:atI (ts.map V.str) ((i:Int)+1)=some (.str (ts.getD (i+1) "")):=mM i1
  generalize ts.getD (i+1) ""=y at *
  refine ixl (SqL.of el) ey ?_
  refine ⟨y,rfl,hy.1.2.2,fun H1 S1=>⟨_,rfl,?_⟩⟩
  have fw:∀ S,iP (ts.drop i) S=_:=fun S=>(show iP (ts.drop i) S=iP (("weight":Str)::y::ts.drop (i+1+1)) S by rw [eD,cw,eE]).trans (BI8 _ S hy)
  by_cases cf:mS y=true
  case neg =>
   rw [if_neg cf]
   walk_at "ho"
   nofun
   
   rw [if_neg (by rw [cw]; decide)]
   walk_at "ho"
   nofun
   
   rw [if_neg (by rw [cw]; decide)]
   walk_at "hr"
   nofun
   
   refine ⟨sz8 (by decide),fun p2 h2=>?_⟩
   exact q p2 _ _ _ (S1.trans (aE h2 _)) aA (.inl ⟨rfl,fun S=>by rw [fw,if_neg cf]⟩)
  rw [if_pos cf]
  walk_at "hr"
  nofun
  obtain ⟨m,hm⟩:=hy.1.2.2.2.2 (hy.2.1.mpr cf).1
  have hv:pD y=m:=by unfold pD; rw [hm]; rfl
  obtain ⟨y0,y1,y2⟩:=hy.2.2 cf
  have yl:=hy.1.2.1
  refine ixl (SqL.of (S1 _ _ el)) ey ⟨y,rfl,m,hm,by omega,sz8 (by decide),fun p1 h1=>⟨sz8 (by decide),fun p2 h2=>?_⟩⟩
  have T1:=aE h1 (.tup [.str "weight",.int m])
  have T2:=aE h2 (.tup [.ref p1,.int ((i:Int)+2)])
  exact q p2 _ _ _ (S1.trans (T1.trans T2)) aA (.inr ⟨.weight m,i+2,rfl,by omega,by omega,(by rw [Tr.At]; exact ⟨p1,rfl,T2 _ _ aA⟩),(by rw [Tr.wf,<- hv]; exact ⟨y0,y1⟩),(by rw [eD,cw,eE,Tr.ws,<- hv,y2]; rfl),fun S=>by rw [fw,if_pos cf,hv]⟩)
 rw [if_neg cw]
 walk_at "ho"
 nofun
 by_cases cn:x="not"
 ·rw [if_pos cn]
  walk_at "ho"
  nofun
  refine ⟨l,ts,i+1,(by rw [eD,BI6 (.inr cn)] at hd; omega),rfl,el,by omega,hn,hw,fun pr v j H1 S1 epr hR=>?_⟩
  refine ⟨pr,rfl,_,SqT.of epr,rfl,_,_,rfl,_,_,rfl,rfl,?_⟩
  have fn:∀ S,iP (ts.drop i) S=iP (ts.drop (i+1)) (⟨"not",[]⟩::S):=fun S=>by rw [eD,cn,AA5 _ _ (.inl rfl)]
  rcases hR with ⟨rfl,hN⟩ | ⟨t,k2,rfl,k2l,k2n,hAt,htw,hW2,hF2⟩
  ·skip
   walk_at "ho"
   nofun
   
   walk_at "hr"
   nofun
   refine ⟨sz8 (by decide),fun p2 h2=>?_⟩
   exact q p2 _ _ _ (S1.trans (aE h2 _)) aA (.inl ⟨rfl,fun S=>(fn S).trans (hN _)⟩)
  obtain ⟨px,rest,rfl,_⟩:=hAt.word
  walk_at "ho"
  nofun
  
  walk_at "hr"
  nofun
  refine ⟨sz8 (by decide),fun p1 h1=>⟨sz8 (by decide),fun p2 h2=>?_⟩⟩
  have T1:=aE h1 (.tup [.str "not",.ref px])
  have T2:=aE h2 (.tup [.ref p1,.int (k2:Int)])
  exact q p2 _ _ _ (S1.trans (T1.trans T2)) aA (.inr ⟨.not t,k2,rfl,by omega,k2n,(by rw [Tr.At]; exact ⟨p1,_,rfl,T2 _ _ aA,hAt.same (T1.trans T2)⟩),(by rw [Tr.wf]; exact htw),(by rw [eD,cn,hW2,Tr.ws]; rfl),fun S=>(fn S).trans (by rw [hF2,AL4])⟩)
 rw [if_neg cn]
 walk_at "ho"
 nofun
 by_cases cp:x="("
 ·rw [if_pos cp]
  walk_at "hr"
  nofun
  refine ⟨l,ts,i+1,(by rw [eD,BI6 (.inl cp)] at hd; omega),rfl,el,by omega,hn,hw,fun pr v j H1 S1 epr hR=>?_⟩
  have fn:∀ S,iP (ts.drop i) S=iP (ts.drop (i+1)) (⟨"(",[]⟩::S):=fun S=>by rw [eD,cp,AA5 _ _ (.inr rfl)]
  refine q pr v j H1 S1 epr ?_
  rcases hR with ⟨rfl,hN⟩ | ⟨t,k2,rfl,k2l,k2n,hAt,htw,hW2,hF2⟩
  ·exact .inl ⟨rfl,fun S=>(fn S).trans (hN S)⟩
  ·exact .inr ⟨t,k2,rfl,by omega,k2n,hAt,htw,(by rw [eD,cp]; exact hW2),fun S=>(fn S).trans (hF2 S)⟩
 rw [if_neg cp]
 walk_at "hr"
 nofun
 refine ⟨sz8 (by decide),fun p2 h2=>?_⟩
 exact q p2 _ _ _ (aE h2 _) aA (.inl ⟨rfl,fun S=>by
  rw [eD]
  exact AA6 _ S (by simp only [List.mem_cons,List.not_mem_nil,or_false,not_or]; exact ⟨cn,cp,ca,fun z=>ck (.inl z),fun z=>ck (.inr z),cw⟩)⟩)
theorem yS (B:Bt K mg a)(nQ:CalW P w K mg base "read_fit" ["text"] 9 (qA K a))(F:Fun K "_law_told" "_law_told" gD f fd):FnOk P w K mg base CX0 10 f fd ["_law_text_here"] (qE K a):=by
 refine F.ok sc_law_told (fun vs H Q E h=>?_) (fun cdv A outer s H vs Q E hr h=>?_)
 ·obtain ⟨u,rfl,_⟩:=h
  rfl
 obtain ⟨u,rfl,hu,h⟩:=h
 refine fP ⟨_,(aC (bC (i:=1) sc_law_told.nd rfl (Or.inl rfl) (aR jL) (by kernel_rfl)) (aC (bC (i:=2) sc_law_told.nd rfl (Or.inl rfl) (aR (AW1 AE3 aM)) (by kernel_rfl)) (aC (bQ (AZ2 (i:=3) rfl rfl (fun _ _ z=>z) (AZ1 (i:=1) sc_law_told.nd rfl (Or.inl rfl) (AR1 nQ (fun _ _ z=>z) (hr.mono (by decide)) rfl (aJ (aO (pv 0) aD)) (he:=aB _ _ _ rfl) (hpl:=aG rfl))) rfl B.NoText sc_law_told.nd rfl rfl (fun v=>(iM (aH (bC (i:=2) sc_law_told.nd rfl (Or.inl rfl) (aR (BB5 (K:=K) rfl (pv 3) rfl)) (by kernel_rfl))))))) (aH (aT (aR (cV (aJ (aO (pv 1) (aO (pv 2) aD)))))))))),?_⟩
 nofun
 rcases h with ⟨t,hf,q⟩ | ⟨hN,q⟩
 ·refine ⟨.str u,rfl,.inl ⟨u,t,rfl,hu,hf,fun v H1 S1 hv=>?_⟩⟩
  exact ⟨sz8 (by decide),fun p hp=>q p v _ (S1.trans (aE hp _)) aA (hv.same (aE hp _))⟩
 ·refine ⟨.str u,rfl,.inr ⟨.inl ⟨u,rfl,hu,hN⟩,fun y H1 S1 e1=>?_⟩⟩
  refine ⟨B.exmTT,fun ex hex=>?_⟩
  have S2:=aE hex (hU ex (.ref a.NoText) (some y))
  have eX:upd H1 ex (hU ex (.ref a.NoText) (some y)) ex=some (hU ex (.ref a.NoText) (some y)):=aA
  generalize upd H1 ex (hU ex (.ref a.NoText) (some y))=H2 at *
  exact ⟨_,_,eX,_,S2 _ _ e1,B.excK_NoText,B.xhd,B.xna,_,rfl,sz8 (by decide),fun p hp=>q p _ (S1.trans (S2.trans (aE hp _))) aA⟩
def BP8 (sc l:Addr)(xs:List V)(σ:L2.St)(H:Hp):Prop:=(∃ s1 s2 s3 s4 s5 s6 s7 s8 s9:Option V,σ=[some (.ref sc),s1,s2,s3,s4,s5,s6,s7,s8,s9])/\H l=some (.lst xs)
def DuOk (H:Hp)(ts:List Str)(x:V):Prop:=(x=.non/\∀ t,iP ts []≠some (t,[]))\/∃ t:Tr,t.At H x/\t.wf/\ts=t.ws/\iP ts []=some (t,[])
theorem DuOk.same {H H':Hp}{ts:List Str}{x:V}(h:DuOk H ts x)(s:Same H H'):DuOk H' ts x:=h.imp id fun ⟨t,a,b⟩=>⟨t,a.same s,b⟩
def BU0 (sc l wl:Addr)(ts:List Str)(xs:List V)(σ:L2.St)(H:Hp):Prop:=∃ (x:V) (s1 s2 s5 s6 s7 s8 s9:Option V),σ=[some (.ref sc),s1,s2,some (.ref wl),some x,s5,s6,s7,s8,s9]/\DuOk H ts x/\H wl=some (.lst (ts.map V.str))/\H l=some (.lst xs)
def BU1 (sc l:Addr)(u:Str)(ts:List Str)(xs:List V)(σ:L2.St)(H:Hp):Prop:=∃ (x:V) (s1 s2 s3 s5 s7 s8 s9:Option V),σ=[some (.ref sc),s1,s2,s3,some x,s5,some (.str u),s7,s8,s9]/\DuOk H ts x/\H l=some (.lst xs)
theorem BK1 {t:Tr}(h:t.ok)(hd:t.dp<=2)(hc:t.cnt<=3 * 3 ^ 2):t.ws.length<=134:=by
 have q:=(pW h.wf).2
 have m:(3+t.dp) * t.cnt<=5 * 27:=Nat.mul_le_mul (by omega) hc
 omega
theorem txw {ts:List Str}(h:∀ x∈ts,wOk x)(hl:ts.length<=200):BD7 (Str.join sp1 ts)/\(Str.join sp1 ts).length<=7000/\(ts.map (·.length)).sum+ts.length * sp1.length<=sizeLine/\((ts≠[]/\Txt.split (Str.join sp1 ts) sp1=ts)\/(ts=[]/\Txt.split (Str.join sp1 ts) sp1=[("":Str)])):=by
 have h2:=AU6 (k:=30) fun x hx=>(h x hx).1.2.1
 have h1:=StrLaws.join_length_le sp1 ts
 have e:sp1.length=1:=rfl
 rw [e] at h1
 have hle:(Str.join sp1 ts).length<=7000:=by omega
 by_cases z:ts=[]
 ·subst z
  have es:Txt.split (Str.join sp1 []) sp1=[("":Str)]:=by decide +kernel
  exact ⟨⟨by omega,by rw [es]; decide,by rw [es]; exact all_cons AA3.2.2.2 jG⟩,hle,szM (by rw [e]; omega),.inr ⟨rfl,es⟩⟩
 ·have es:=AC2 (c:=32) z fun a ha=>(h a ha).1.1
  exact ⟨⟨by omega,by rw [es]; omega,by rw [es]; exact fun x hx=>(h x hx).1.2.2⟩,hle,szM (by rw [e]; omega),.inl ⟨z,es⟩⟩
theorem BK2 (B:Bt K mg a)(lI:CalX P w K mg base "_law_begin" ["_law_cell"] 1 (oG K a))(jW:CalX P w K mg base "_law_spoilt" ["_law_words","_law_state"] 4 (mG K a))(fA:CalX P w K mg base "_law_read" ["_law_words","_law_at"] 178 (dM K a 88))(nR:CalX P w K mg base "_law_told" ["_law_text_here"] 10 (qE K a))(gF:CalX P w K mg base "_law_text" ["_law_tree_here"] 3 (eQ K a 3))(gE:CalX P w K mg base "_law_tree" ["_law_state","_law_deep","_law_more"] 6 (eP K a 3))(eZ:CalX P w K mg base "show_fit" ["fit"] 140 (eO K a 140))(gG:CalX P w K mg base "_law_same" ["_law_fit","_law_tree_here"] 140 (eR K a 140))(F:Fun K "law" "law" tP f fd):FnOk P w K mg base CX0 179 f fd ["_law_script"] (AM0 K a):=by
 refine F.ok sc_law (fun vs H Q E h=>?_) (fun cdv A outer s H vs Q E hr h=>?_)
 ·obtain ⟨sc,ns,rfl,_⟩:=h
  rfl
 obtain ⟨sc,ns,rfl,hS,h63,q⟩:=h
 refine fP ⟨_,(aC (bQ (uN PassesOwn.never rfl (mT (bE hJ (gK (aJ (aO aM aD))) (cI eG (pv 0) dL (cU aM)))) (bO (i:=1) sc_law.nd rfl (Or.inl rfl)) (iM (aI (aC (bC (i:=2) sc_law.nd rfl (Or.inl rfl) (aR (aZ lI (hr.mono (by decide)) rfl (aJ (aO (pv 1) aD)) (he:=aB _ _ _ rfl) (hpl:=aG rfl))) (by kernel_rfl)) (aI (aC (bC (i:=3) sc_law.nd rfl (Or.inl rfl) (aR (iY PySem.F.plainAttrs_str PySem.F.slot_str_split PySem.F.type_str_split zW (aZ gF (hr.mono (by decide)) rfl (aJ (aO (aZ gE (hr.mono (by decide)) rfl (aJ (aO (pv 2) (aO aM (aO aM aD)))) (he:=aB _ _ _ rfl) (hpl:=aG rfl)) aD)) (he:=aB _ _ _ rfl) (hpl:=aG rfl)) (aJ (aO aK aD)))) (by kernel_rfl)) (aI (aC (bC (i:=3) sc_law.nd rfl (Or.inl rfl) (aR (aZ jW (hr.mono (by decide)) rfl (aJ (aO (pv 3) (aO (pv 2) aD))) (he:=aB _ _ _ rfl) (hpl:=aG rfl))) (by kernel_rfl)) (aI (aC (bQ (nY (aZ fA (hr.mono (by decide)) rfl (aJ (aO (pv 3) (aO aM aD))) (he:=aB _ _ _ rfl) (hpl:=aG rfl)) (zA (n:=2) rfl (gY (bO (i:=4) sc_law.nd rfl (Or.inl rfl)) (gY (bO (i:=5) sc_law.nd rfl (Or.inl rfl)) sG))))) (aI (BA5 (bG (aQ qQ (pv 5) (aU bB rfl B.len PySem.boot_len (aJ (aO (pv 3) aD))) (aW _)) (aH (bC (i:=4) sc_law.nd rfl (Or.inl rfl) (aR jL) (by kernel_rfl))) aS) (aI (aC (bC (i:=6) sc_law.nd rfl (Or.inl rfl) (aR (iY PySem.F.plainAttrs_str PySem.F.slot_str_join PySem.F.type_str_join kU aK (aJ (aO (pv 3) aD)))) (by kernel_rfl)) (aI (aH (bQ (uN PassesOwn.never rfl (gJ rfl B.range (aJ (aO aM aD))) (bO (i:=7) sc_law.nd rfl (Or.inl rfl)) (iM (aI (aC (bQ (nY (aZ nR (hr.mono (by decide)) rfl (aJ (aO (pv 6) aD)) (he:=aB _ _ _ rfl) (hpl:=aG rfl)) (zA (n:=2) rfl (gY (bO (i:=8) sc_law.nd rfl (Or.inl rfl)) (gY (bO (i:=9) sc_law.nd rfl (Or.inl rfl)) sG))))) (aI (aC (bG (L2.PW.pt (nW (lM (uK (pv 4))) (kR (L2.PW.pt (iE (lM (sF (pv 8))) (eC (aQ uO (pv 9) aM (aW _)))))))) (aH (aT (aR lL))) aS) (aI (aC (bG (L2.PW.pt (nW (lM (sF (pv 4))) (kR (L2.PW.pt (iE (aQ uO (pv 9) (AW1 AE3 aM) (aW _)) (eC (gI (cP (aZ gG (hr.mono (by decide)) rfl (aJ (aO (pv 8) (aO (pv 4) aD))) (he:=aB _ _ _ rfl) (hpl:=aG rfl)))))))))) (aH (aT (aR lL))) aS) (aI (aH (bG (L2.PW.pt (nW (lM (sF (pv 4))) (kR (aQ uO (aZ eZ (hr.mono (by decide)) rfl (aJ (aO (pv 8) aD)) (he:=aB _ _ _ rfl) (hpl:=aG rfl)) (pv 6) (aW _))))) (aH (aT (aR lL))) aS))))))))))))))))))))))))))))) (aH (aT (aR lL)))),?_⟩
 nofun
 refine ⟨sz8 (by decide),fun p hp=>?_⟩
 refine ⟨sc,_,rfl,(aE hp _).seq hS,fun p2 hp2=>?_⟩
 obtain ⟨ms,em,lm⟩:=AR6 ns none (some 12)
 rw [em]
 refine ⟨p,p2,[.int 0],_,rfl,rfl,?_,aA,?_,fun l hl=>?_⟩
 ·rw [aN (aP aA hp2)]; exact aA
 ·simp only [List.length_cons,List.length_nil,List.length_map]
  exact sz8 (by omega)
 refine ⟨l,rfl,⟨_,SqL.of aA⟩,?_⟩
 refine ForL.by (xs:=([0]++ms).map V.int) (fun _ σ H1=>BP8 sc l (([0]++ms).map V.int) σ H1) ⟨⟨_,_,_,_,_,_,_,_,_,rfl⟩,by rw [List.map_append]; exact aA⟩ (fun i σ H1 _ h=>SqL.of h.2) ?_ ?_
 ·rintro i x σ H1 hx ⟨⟨s1,s2,s3,s4,s5,s6,s7,s8,s9,rfl⟩,h1⟩
  obtain ⟨c,rfl⟩:=BG4 hx
  generalize ([0]++ms).map V.int=xs at *
  nofun
  walk_at "ho"
  nofun
  refine ⟨c,rfl,fun pw wa wb wc hpw=>?_⟩
  have W0:Well3 (upd H1 pw (.lst [.int wa,.int wb,.int wc])) pw:=⟨_,_,_,aA⟩
  have l0:l≠pw:=aP h1 hpw
  have h2:=aE hpw (.lst [.int wa,.int wb,.int wc]) l _ h1
  generalize upd H1 pw (.lst [.int wa,.int wb,.int wc])=H2 at *
  walk_at "ho"
  nofun
  refine ⟨pw,2,2,by decide,rfl,W0,by decide,by decide,by decide,fun v t H3 hA ho hd hc W3 B3=>?_⟩
  have h3:=B3 l _ l0 h2
  have wf:=ho.wf
  have hw:=BK1 ho hd hc
  have tx:=AK9 t wf
  have tk:=txw (vL wf) (by omega)
  rw [<- tx] at tk
  have ts0:Txt.split t.tx (" ":Str)=t.ws:=by
   rcases tk.2.2.2 with z | z
   ·exact z.2
   ·exact absurd z.1 (oE t)
  refine ⟨v,t,by omega,rfl,hA,ho,by have:=tk.2.1; omega,fun H4 S4=>?_⟩
  refine ⟨rfl,?_⟩
  nofun
  refine ⟨by decide,szM (by have:=tk.2.1; omega),by rw [ts0]; exact szM (by omega),fun wl hwl=>?_⟩
  rw [ts0]
  have W4:=W3.same S4
  have nwl:=W4.ne hwl
  have S5:=aE hwl (.lst (t.ws.map V.str))
  have e5:upd H4 wl (.lst (t.ws.map V.str)) wl=some (.lst (t.ws.map V.str)):=aA
  have W5:=W4.same S5
  have h5:=S5 _ _ (S4 _ _ h3)
  have twf:=vL wf
  have tne:=oE t
  have hcb:cb t.ws<=81:=Nat.le_trans (AQ8 wf) (Nat.le_trans (Nat.mul_le_mul (show 1+t.dp<=3 by omega) hc) (by decide))
  generalize upd H4 wl (.lst (t.ws.map V.str))=H5 at *
  clear S4 S5 W4 W3 B3 h3 hA ho hd hc W0 h2 tk ts0 tx wf
  walk_at "ho"
  nofun
  refine ⟨wl,pw,t.ws,rfl,e5,nwl,W5,tne,hw,hcb,twf,fun l2 ts H6 e6 n6 hl6 hc6 hw6 W6 B6=>?_⟩
  have h6:=B6 l _ l0 h5
  clear e5 W5 B6 h5 hw twf tne nwl
  walk_at "ho"
  nofun
  refine ⟨l2,ts,0,(by rw [List.drop_zero]; omega),rfl,e6,Nat.zero_le _,by omega,hw6,fun pr x j H7 S7 epr hR=>?_⟩
  refine ⟨pr,rfl,_,SqT.of epr,rfl,_,_,rfl,_,_,rfl,rfl,?_⟩
  have e7:=S7 _ _ e6
  have h7:=S7 _ _ h6
  rw [List.drop_zero] at hR
  clear epr S7 e6 h6 W6
  walk_at "ho"
  nofun
  refine ⟨BU0 sc l l2 ts xs,?_,?_⟩
  ·refine ⟨_,.inl (SqL.of e7),?_⟩
   rw [List.length_map]
   rcases hR with ⟨rfl,hN⟩ | ⟨t,k,rfl,k0,kn,hAt,htw,hW,hF⟩
   ·have du:DuOk H7 ts .non:=.inl ⟨rfl,fun t z=>by rw [hN] at z; cases z⟩
    by_cases cj:j < (ts.length:Int)
    ·rw [if_pos cj]
     exact ⟨.non,_,_,_,_,_,_,_,rfl,du,e7,h7⟩
    ·rw [if_neg cj]
     exact ⟨.non,_,_,_,_,_,_,_,rfl,du,e7,h7⟩
   ·have af:iP ts []=some (t,ts.drop k):=hF []
    by_cases cj:(k:Int) < (ts.length:Int)
    ·rw [if_pos cj]
     refine ⟨.non,_,_,_,_,_,_,_,rfl,.inl ⟨rfl,fun t' z=>?_⟩,e7,h7⟩
     rw [af] at z
     have z2:=congrArg List.length (Prod.mk.inj (Option.some.inj z)).2
     rw [List.length_drop,List.length_nil] at z2
     omega
    ·rw [if_neg cj]
     have e0:ts.drop k=[]:=List.drop_eq_nil_iff.mpr (by omega)
     rw [e0] at af hW
     rw [List.append_nil] at hW
     exact ⟨_,_,_,_,_,_,_,_,rfl,.inr ⟨t,hAt,htw,hW,af⟩,e7,h7⟩
  clear hR e7 h7
  rintro σ H8 ⟨x,s1,s2,s5,s6,s7,s8,s9,rfl,du,e8,h8⟩
  have tk:=txw hw6 (by omega)
  walk_at "ho"
  nofun
  refine ⟨sp1,l2,ts,rfl,rfl,e8,AL1 tk.2.2.1,?_⟩
  rw [tW]
  generalize hu:Str.join sp1 ts=u at *
  walk_at "ho"
  nofun
  refine ⟨by decide,by decide,?_⟩
  refine ForR.by (fun _ σ H'=>BU1 sc l u ts xs σ H') ⟨x,_,_,_,_,_,_,_,rfl,du,h8⟩ ?_ ?_
  ·rintro i σ H9 hi ⟨x,s1,s2,s3,s5,s7,s8,s9,rfl,du,h9⟩
   nofun
   walk_at "ho"
   nofun
   refine ⟨u,rfl,tk.1,?_⟩
   rcases du with ⟨rfl,hN⟩ | ⟨t,hAt,htw,eT,hF⟩
   ·refine .inr ⟨fun t z=>?_,fun p H10 S10 ep=>?_⟩
    ·rcases tk.2.2.2 with ⟨_,e⟩ | ⟨_,e⟩
     ·rw [e] at z
      exact hN t z
     ·rw [e,AA6 _ _ (by decide)] at z
      cases z
    ·refine ⟨p,rfl,_,SqT.of ep,rfl,_,_,rfl,_,_,rfl,rfl,?_⟩
     have h10:=S10 _ _ h9
     walk_at "ho"
     nofun
     rw [if_neg (fun z=>z trivial),if_neg (fun z=>z trivial)]
     walk_at "ho"
     nofun
     
     walk_at "ho"
     nofun
     exact ⟨.non,_,_,_,_,_,_,_,rfl,.inl ⟨rfl,hN⟩,h10⟩
   ·have es:Txt.split u sp1=ts:=by
     rcases tk.2.2.2 with z | z
     ·exact z.2
     ·exact absurd (eT ▸ z.1) (oE t)
    refine .inl ⟨t,by rw [es]; exact hF,fun p v H10 S10 ep hv=>?_⟩
    refine ⟨p,rfl,_,SqT.of ep,rfl,_,_,rfl,_,_,rfl,rfl,?_⟩
    have h10:=S10 _ _ h9
    have hA10:=hAt.same S10
    obtain ⟨pv,rest,rfl,_⟩:=hAt.word
    have ln:t.ws.length<=137:=by rw [<- eT]; omega
    have dpl:=AQ7 t
    have ex:t.tx=u:=by rw [AK9 t htw,<- eT]; exact hu
    walk_at "ho"
    nofun
    
    walk_at "ho"
    nofun
    rw [if_pos (fun z=>z),if_neg (fun z=>z trivial)]
    refine ⟨v,_,t,by omega,rfl,hv,hA10,htw,by omega,fun H11 S11=>⟨_,rfl,?_⟩⟩
    rw [if_neg (by decide)]
    walk_at "ho"
    nofun
    rw [if_pos (fun z=>z)]
    refine ⟨v,t,by omega,rfl,hv.same S11,htw,by rw [ex]; have:=tk.2.1; omega,fun H12 S12=>?_⟩
    refine ⟨rfl,?_⟩
    rw [if_neg (fun z=>z (by rw [ex]))]
    exact ⟨_,_,_,_,_,_,_,_,rfl,.inr ⟨t,hA10.same (S11.trans S12),htw,eT,hF⟩,S12 _ _ (S11 _ _ h10)⟩
  ·rintro σ H9 ⟨x,s1,s2,s3,s5,s7,s8,s9,rfl,du,h9⟩
   exact ⟨⟨_,_,_,_,_,_,_,_,_,rfl⟩,h9⟩
 ·rintro σ H1 ⟨⟨s1,s2,s3,s4,s5,s6,s7,s8,s9,rfl⟩,h1⟩
  nofun
  exact q _
end
end Bw
namespace Hd
open PySem PySem.W L2
set_option maxRecDepth 100000
set_option maxHeartbeats 0
class AT where
 p:Program
 a:List Str
 t:List String
class CP where
 P:Params
section
variable [A:AT]
noncomputable def s (i:Nat):Str:=A.a.getD i Str.empty
noncomputable def t (i:Nat):String:=A.t.getD i ""
noncomputable def stm (i:Nat):Stmt:=A.p.main.body.getD i (.Pass ⟨0,0,0,0⟩)
noncomputable abbrev N:Obj->BT->BT->BT:=BT.node
noncomputable abbrev L:BT:=BT.nil
open PyData
noncomputable section
variable [c:CP]
noncomputable def ob (i:Nat)(x:Array Value):Obj:=Obj.mk (.type (t i)) none (.fields x) #[]
noncomputable def sq (i:Nat)(x:Array Value):Obj:=Obj.mk (.type (t i)) none (.seq x 0) #[]
noncomputable def fo (i n q:Nat)(x:Stmt)(k:Nat)(g:List Addr)(d e y:Value)(v:Nat)(u:Tok)(z:Addr):Obj:=Obj.mk (.type (t i)) none (.func (FuncData.mk (s n) (s q) (aX x) (FuncBody.stmts (aV x)) (aF x) k [] d e y (.str (s v) u) none (.ref z) .none 0)) #[]
noncomputable abbrev f (n:Nat)(k:Tok):Value:=.str (s n) k
noncomputable abbrev r (n:Addr):Value:=.ref n
noncomputable abbrev j (n:Int)(k:Tok):Value:=.int n k
noncomputable def d (i:Nat)(k:Tok)(v:Value):DictEntry:=DictEntry.mk (keyHash c.P (s i)) (f i k) v
noncomputable def di (x:Array DictEntry)(n:Nat):Obj:=Obj.mk (.type (t 10)) none (.dict x n) #[]
noncomputable def fn (n q:Nat)(x:Stmt):Obj:=Obj.mk .none none (.func (FuncData.mk (s n) (s q) (aX x) (FuncBody.stmts (aV x)) (aF x) 0 [] .none .none .none .none none .none .none 0)) #[]
noncomputable def fd (x:Array Value):Obj:=Obj.mk .none none (.fields x) #[]
noncomputable abbrev i (n:Int):Value:=.int n 0
noncomputable abbrev u:Value:=.none
noncomputable abbrev T (n:Nat):Value:=.type (t n)
noncomputable abbrev bi (n:Nat):Value:=.builtin (t n)
def o00:Obj:=sq 2 #[]
def o01:Obj:=fd #[]
def o02:Obj:=ob 1 #[(f 41 182),(f 41 183),(f 5 184),(i 1),(i 0),(i 0),(i 0),(i 0),(r 11),(.bool false),(i 181),(r 12),u,u,u,u,(i 185),(i 1),(f 5 186)]
def o03:Obj:=(Obj.mk (.type (t 3)) none .plain #[(some (r 13)),(some (r 3)),(some (r 3)),none,(some (f 148 164)),none,(some (r 0))])
def o04:Obj:=di #[(d 47 165 (f 104 194)),(d 49 166 .none),(d 50 167 .none),(d 51 168 (bi 11)),(d 52 169 .none),(d 53 170 (r 6)),(d 54 171 (r 4)),(d 55 173 (f 5 172)),(d 56 174 .none),(d 40 193 (r 21)),(d 57 213 (r 31))] 11
def o05:Obj:=fd #[(i 1),(i 0),(r 20),(i 5),(i 0),(r 27)]
def o06:Obj:=sq 2 #[(f 144 190)]
def o07:Obj:=fn 40 40 (stm 0)
def o08:Obj:=ob 1 #[(f 40 187),(f 40 188),(f 5 189),(i 1),(i 1),(i 0),(i 0),(i 3),(r 15),(.bool true),(i 181),(r 16),u,(r 17),(r 18),(r 19),(i 191),(i 1),(f 5 192)]
def o09:Obj:=fo 0 40 40 (stm 0) 3 [] .none .none .none 148 164 20
def o0a:Obj:=sq 2 #[(T 15)]
def o0b:Obj:=ob 4 #[(bi 12),(T 6)]
def o0c:Obj:=di #[(d 103 203 (f 104 194)),(d 111 205 (f 57 204)),(d 105 207 (j 5 206)),(d 106 208 (r 29))] 4
def o0d:Obj:=ob 1 #[(f 57 198),(f 57 199),(f 5 200),(i 5),(i 0),(i 0),(i 0),(i 0),(r 25),(.bool false),(i 181),(r 26),u,u,u,u,(i 201),(i 5),(f 5 202)]
def o0e:Obj:=(Obj.mk (.type (t 3)) none .plain #[(some (r 27)),(some (r 3)),(some (r 24)),none,(some (f 104 194)),none,(some (r 0))])
def o0f:Obj:=di #[(d 103 203 (f 104 194)),(d 105 207 (j 5 206)),(d 106 208 (r 29)),(d 107 210 (r 32)),(d 49 211 .none)] 3
def o0g:Obj:=(Obj.mk (.type (t 6)) none (.cls (ClassData.mk (s 57) [(T 15)] [(r 31),(T 15),(T 16),(T 17),(T 7)] 30 (s 57) true [] [] false none false)) #[(some (r 22)),none,(some (f 57 196)),(some (f 57 204)),(some (bi 18)),(some (.bool true))])
def o0h:Obj:=ob 13 #[(f 107 209),(r 31),(bi 14),u]
def o0i:Obj:=ob 9 #[(r 31),(r 31),(r 31)]
def o0j:Obj:=ob 4 #[(bi 5),(r 31)]
def o0k:Obj:=di #[(d 47 165 (f 104 194)),(d 49 166 .none),(d 50 167 .none),(d 51 168 (bi 11)),(d 52 169 .none),(d 53 170 (r 6)),(d 54 171 (r 4)),(d 55 173 (f 5 172)),(d 56 174 .none),(d 40 193 (r 21)),(d 57 213 (r 31)),(d 58 229 (r 44))] 12
def o0l:Obj:=fd #[(i 1),(i 0),(r 20),(i 5),(i 0),(r 27),(i 7),(i 0),(r 40)]
def o0m:Obj:=(Obj.mk (.type (t 6)) none (.cls (ClassData.mk (s 57) [(T 15)] [(r 31),(T 15),(T 16),(T 17),(T 7)] 30 (s 57) true [] [(r 44)] false none false)) #[(some (r 22)),none,(some (f 57 196)),(some (f 57 204)),(some (bi 18)),(some (.bool true))])
def o0n:Obj:=sq 2 #[(r 31)]
def o0o:Obj:=di #[(d 103 221 (f 104 194)),(d 111 223 (f 58 222)),(d 105 225 (j 7 224)),(d 106 226 (r 42))] 4
def o0p:Obj:=ob 1 #[(f 58 216),(f 58 217),(f 5 218),(i 7),(i 0),(i 0),(i 0),(i 0),(r 38),(.bool false),(i 181),(r 39),u,u,u,u,(i 219),(i 7),(f 5 220)]
def o0q:Obj:=(Obj.mk (.type (t 3)) none .plain #[(some (r 40)),(some (r 3)),(some (r 37)),none,(some (f 104 194)),none,(some (r 0))])
def o0r:Obj:=di #[(d 103 221 (f 104 194)),(d 105 225 (j 7 224)),(d 106 226 (r 42)),(d 49 227 .none)] 2
def o0s:Obj:=(Obj.mk (.type (t 6)) none (.cls (ClassData.mk (s 58) [(r 31)] [(r 44),(r 31),(T 15),(T 16),(T 17),(T 7)] 43 (s 58) true [] [] false none false)) #[(some (r 35)),none,(some (f 58 214)),(some (f 58 222)),(some (bi 18)),(some (.bool true))])
def o0t:Obj:=ob 9 #[(r 44),(r 44),(r 44)]
def o0u:Obj:=ob 4 #[(bi 5),(r 44)]
def o0v:Obj:=di #[(d 47 165 (f 2 285)),(d 49 166 .none),(d 50 167 .none),(d 51 168 (bi 11)),(d 52 169 .none),(d 53 170 (r 6)),(d 54 171 (r 4)),(d 55 173 (f 5 172)),(d 56 174 .none),(d 40 193 (r 21)),(d 57 213 (r 31)),(d 58 229 (r 44)),(d 59 255 (r 64)),(d 60 264 (r 73)),(d 61 272 (r 80)),(d 62 276 (f 63 275)),(d 64 278 (j 8 277)),(d 65 284 (r 85)),(d 66 288 (f 67 287)),(d 68 290 (j 60 289))] 20
def o0w:Obj:=fd #[(i 1),(i 0),(r 20),(i 5),(i 0),(r 27),(i 7),(i 0),(r 40),(i 9),(i 0),(r 52),(i 14),(i 0),(r 72),(i 16),(i 0),(r 79),(i 21),(i 0),(r 84)]
def o0x:Obj:=(Obj.mk (.type (t 6)) none (.cls (ClassData.mk (s 57) [(T 15)] [(r 31),(T 15),(T 16),(T 17),(T 7)] 30 (s 57) true [] [(r 44),(r 64)] false none false)) #[(some (r 22)),none,(some (f 57 196)),(some (f 57 204)),(some (bi 18)),(some (.bool true))])
def o0y:Obj:=di #[(d 103 237 (f 104 194)),(d 111 239 (f 59 238)),(d 105 241 (j 9 240)),(d 30 250 (r 61)),(d 106 252 (r 62))] 5
def o0z:Obj:=fd #[(i 11),(i 4),(r 60)]
def o0A:Obj:=ob 1 #[(f 59 232),(f 59 233),(f 5 234),(i 9),(i 0),(i 0),(i 0),(i 0),(r 50),(.bool false),(i 181),(r 51),u,u,u,u,(i 235),(i 9),(f 5 236)]
def o0B:Obj:=(Obj.mk (.type (t 3)) none .plain #[(some (r 52)),(some (r 3)),(some (r 49)),none,(some (f 104 194)),none,(some (r 0))])
def o0C:Obj:=sq 2 #[(j 0 242)]
def o0D:Obj:=sq 2 #[(f 13 246),(f 162 247)]
def o0E:Obj:=fn 30 140 (aL (stm 4) 0)
def o0F:Obj:=ob 1 #[(f 30 243),(f 140 244),(f 5 245),(i 11),(i 2),(i 0),(i 0),(i 3),(r 55),(.bool true),(i 181),(r 56),u,(r 57),(r 58),(r 59),(i 248),(i 11),(f 5 249)]
def o0G:Obj:=fo 0 30 140 (aL (stm 4) 0) 3 [] (r 54) .none .none 104 194 60
def o0H:Obj:=sq 2 #[(f 162 251)]
def o0I:Obj:=di #[(d 103 237 (f 104 194)),(d 105 241 (j 9 240)),(d 30 250 (r 61)),(d 106 252 (r 62)),(d 49 253 .none)] 2
def o0J:Obj:=(Obj.mk (.type (t 6)) none (.cls (ClassData.mk (s 59) [(r 31)] [(r 64),(r 31),(T 15),(T 16),(T 17),(T 7)] 63 (s 59) true [] [] false none false)) #[(some (r 47)),none,(some (f 59 230)),(some (f 59 238)),(some (bi 18)),(some (.bool true))])
def o0K:Obj:=ob 9 #[(r 64),(r 64),(r 64)]
def o0L:Obj:=ob 4 #[(bi 5),(r 64)]
def o0M:Obj:=sq 2 #[(f 16 261)]
def o0N:Obj:=fn 60 60 (stm 6)
def o0O:Obj:=ob 1 #[(f 60 258),(f 60 259),(f 5 260),(i 14),(i 1),(i 0),(i 0),(i 3),(r 67),(.bool true),(i 181),(r 68),u,(r 69),(r 70),(r 71),(i 262),(i 14),(f 5 263)]
def o0P:Obj:=fo 0 60 60 (stm 6) 3 [] .none .none .none 147 256 72
def o0Q:Obj:=sq 2 #[(f 16 268),(f 129 269)]
def o0R:Obj:=fn 61 61 (stm 7)
def o0S:Obj:=ob 1 #[(f 61 265),(f 61 266),(f 5 267),(i 16),(i 2),(i 0),(i 0),(i 3),(r 74),(.bool true),(i 181),(r 75),u,(r 76),(r 77),(r 78),(i 270),(i 16),(f 5 271)]
def o0T:Obj:=fo 0 61 61 (stm 7) 3 [] .none .none .none 147 256 79
def o0U:Obj:=fn 65 65 (stm 11)
def o0V:Obj:=ob 1 #[(f 65 279),(f 65 280),(f 5 281),(i 21),(i 1),(i 0),(i 0),(i 3),(r 81),(.bool true),(i 181),(r 82),u,u,u,(r 83),(i 282),(i 21),(f 5 283)]
def o0W:Obj:=fo 0 65 65 (stm 11) 3 [] .none .none .none 194 273 84
def o0X:Obj:=di #[(d 47 165 (f 2 285)),(d 49 166 .none),(d 50 167 .none),(d 51 168 (bi 11)),(d 52 169 .none),(d 53 170 (r 6)),(d 54 171 (r 4)),(d 55 173 (f 5 172)),(d 56 174 .none),(d 40 193 (r 21)),(d 57 213 (r 31)),(d 58 229 (r 44)),(d 59 255 (r 64)),(d 60 264 (r 73)),(d 61 272 (r 80)),(d 62 276 (f 63 275)),(d 64 278 (j 8 277)),(d 65 284 (r 85)),(d 66 288 (f 67 287)),(d 68 290 (j 60 289)),(d 69 296 (r 90)),(d 8 302 (r 95)),(d 34 309 (r 102))] 23
def o0Y:Obj:=fd #[(i 1),(i 0),(r 20),(i 5),(i 0),(r 27),(i 7),(i 0),(r 40),(i 9),(i 0),(r 52),(i 14),(i 0),(r 72),(i 16),(i 0),(r 79),(i 21),(i 0),(r 84),(i 28),(i 0),(r 89),(i 32),(i 0),(r 94),(i 36),(i 0),(r 101)]
def o0Z:Obj:=fn 69 69 (stm 15)
def o10:Obj:=ob 1 #[(f 69 291),(f 69 292),(f 5 293),(i 28),(i 1),(i 0),(i 0),(i 3),(r 86),(.bool true),(i 181),(r 87),u,u,u,(r 88),(i 294),(i 28),(f 5 295)]
def o11:Obj:=fo 0 69 69 (stm 15) 3 [] .none .none .none 2 285 89
def o12:Obj:=fn 8 8 (stm 16)
def o13:Obj:=ob 1 #[(f 8 297),(f 8 298),(f 5 299),(i 32),(i 1),(i 0),(i 0),(i 3),(r 91),(.bool true),(i 181),(r 92),u,u,u,(r 93),(i 300),(i 32),(f 5 301)]
def o14:Obj:=fo 0 8 8 (stm 16) 3 [] .none .none .none 2 285 94
def o15:Obj:=sq 2 #[(f 14 306)]
def o16:Obj:=fn 34 34 (stm 17)
def o17:Obj:=ob 1 #[(f 34 303),(f 34 304),(f 5 305),(i 36),(i 1),(i 0),(i 0),(i 3),(r 96),(.bool true),(i 181),(r 97),u,(r 98),(r 99),(r 100),(i 307),(i 36),(f 5 308)]
def o18:Obj:=fo 0 34 34 (stm 17) 3 [] .none .none .none 2 285 101
def o19:Obj:=di #[(d 47 165 (f 2 285)),(d 49 166 .none),(d 50 167 .none),(d 51 168 (bi 11)),(d 52 169 .none),(d 53 170 (r 6)),(d 54 171 (r 4)),(d 55 173 (f 5 172)),(d 56 174 .none),(d 40 193 (r 21)),(d 57 213 (r 31)),(d 58 229 (r 44)),(d 59 255 (r 64)),(d 60 264 (r 73)),(d 61 272 (r 80)),(d 62 276 (f 63 275)),(d 64 278 (j 8 277)),(d 65 284 (r 85)),(d 66 288 (f 67 287)),(d 68 290 (j 60 289)),(d 69 296 (r 90)),(d 8 302 (r 95)),(d 34 309 (r 102)),(d 23 437 (r 210))] 24
def o1a:Obj:=fd #[(i 1),(i 0),(r 20),(i 5),(i 0),(r 27),(i 7),(i 0),(r 40),(i 9),(i 0),(r 52),(i 14),(i 0),(r 72),(i 16),(i 0),(r 79),(i 21),(i 0),(r 84),(i 28),(i 0),(r 89),(i 32),(i 0),(r 94),(i 36),(i 0),(r 101),(i 40),(i 0),(r 108)]
def o1b:Obj:=di #[(d 103 317 (f 2 285)),(d 111 319 (f 23 318)),(d 105 321 (j 40 320)),(d 30 329 (r 116)),(d 35 336 (r 123)),(d 112 343 (r 130)),(d 113 351 (r 137)),(d 114 359 (r 144)),(d 115 367 (r 151)),(d 116 374 (r 158)),(d 117 382 (r 165)),(d 101 389 (r 172)),(d 118 396 (r 179)),(d 3 404 (r 186)),(d 119 412 (r 193)),(d 43 420 (r 200)),(d 0 427 (r 207)),(d 106 430 (r 208))] 18
def o1c:Obj:=fd #[(i 42),(i 4),(r 115),(i 48),(i 4),(r 122),(i 51),(i 4),(r 129),(i 54),(i 4),(r 136),(i 59),(i 4),(r 143),(i 62),(i 4),(r 150),(i 65),(i 4),(r 157),(i 69),(i 4),(r 164),(i 75),(i 4),(r 171),(i 78),(i 4),(r 178),(i 81),(i 4),(r 185),(i 84),(i 4),(r 192),(i 90),(i 4),(r 199),(i 93),(i 4),(r 206)]
def o1d:Obj:=ob 1 #[(f 23 312),(f 23 313),(f 5 314),(i 40),(i 0),(i 0),(i 0),(i 0),(r 106),(.bool false),(i 181),(r 107),u,u,u,u,(i 315),(i 40),(f 5 316)]
def o1e:Obj:=(Obj.mk (.type (t 3)) none .plain #[(some (r 108)),(some (r 3)),(some (r 105)),none,(some (f 2 285)),none,(some (r 0))])
def o1f:Obj:=sq 2 #[(f 13 325),(f 164 326)]
def o1g:Obj:=fn 30 33 (aL (stm 18) 0)
def o1h:Obj:=ob 1 #[(f 30 322),(f 33 323),(f 5 324),(i 42),(i 2),(i 0),(i 0),(i 3),(r 110),(.bool true),(i 181),(r 111),u,(r 112),(r 113),(r 114),(i 327),(i 42),(f 5 328)]
def o1i:Obj:=fo 0 30 33 (aL (stm 18) 0) 3 [] .none .none .none 2 285 115
def o1j:Obj:=sq 2 #[(f 13 333)]
def o1k:Obj:=fn 35 36 (aL (stm 18) 1)
def o1l:Obj:=ob 1 #[(f 35 330),(f 36 331),(f 5 332),(i 48),(i 1),(i 0),(i 0),(i 3),(r 117),(.bool true),(i 181),(r 118),u,(r 119),(r 120),(r 121),(i 334),(i 48),(f 5 335)]
def o1m:Obj:=fo 0 35 36 (aL (stm 18) 1) 3 [] .none .none .none 2 285 122
def o1n:Obj:=sq 2 #[(f 13 340)]
def o1o:Obj:=fn 112 127 (aL (stm 18) 2)
def o1p:Obj:=ob 1 #[(f 112 337),(f 127 338),(f 5 339),(i 51),(i 1),(i 0),(i 0),(i 3),(r 124),(.bool true),(i 181),(r 125),u,(r 126),(r 127),(r 128),(i 341),(i 51),(f 5 342)]
def o1q:Obj:=fo 0 112 127 (aL (stm 18) 2) 3 [] .none .none .none 2 285 129
def o1r:Obj:=sq 2 #[(f 13 347),(f 14 348)]
def o1s:Obj:=fn 113 139 (aL (stm 18) 3)
def o1t:Obj:=ob 1 #[(f 113 344),(f 139 345),(f 5 346),(i 54),(i 1),(i 0),(i 0),(i 3),(r 131),(.bool true),(i 181),(r 132),u,(r 133),(r 134),(r 135),(i 349),(i 54),(f 5 350)]
def o1u:Obj:=fo 0 113 139 (aL (stm 18) 3) 3 [] .none .none .none 2 285 136
def o1v:Obj:=sq 2 #[(f 13 355),(f 14 356)]
def o1w:Obj:=fn 114 142 (aL (stm 18) 4)
def o1x:Obj:=ob 1 #[(f 114 352),(f 142 353),(f 5 354),(i 59),(i 2),(i 0),(i 0),(i 3),(r 138),(.bool true),(i 181),(r 139),u,(r 140),(r 141),(r 142),(i 357),(i 59),(f 5 358)]
def o1y:Obj:=fo 0 114 142 (aL (stm 18) 4) 3 [] .none .none .none 2 285 143
def o1z:Obj:=sq 2 #[(f 13 363),(f 14 364)]
def o1A:Obj:=fn 115 182 (aL (stm 18) 5)
def o1B:Obj:=ob 1 #[(f 115 360),(f 182 361),(f 5 362),(i 62),(i 2),(i 0),(i 0),(i 3),(r 145),(.bool true),(i 181),(r 146),u,(r 147),(r 148),(r 149),(i 365),(i 62),(f 5 366)]
def o1C:Obj:=fo 0 115 182 (aL (stm 18) 5) 3 [] .none .none .none 2 285 150
def o1D:Obj:=sq 2 #[(f 13 371)]
def o1E:Obj:=fn 116 141 (aL (stm 18) 6)
def o1F:Obj:=ob 1 #[(f 116 368),(f 141 369),(f 5 370),(i 65),(i 1),(i 0),(i 0),(i 3),(r 152),(.bool true),(i 181),(r 153),u,(r 154),(r 155),(r 156),(i 372),(i 65),(f 5 373)]
def o1G:Obj:=fo 0 116 141 (aL (stm 18) 6) 3 [] .none .none .none 2 285 157
def o1H:Obj:=sq 2 #[(f 13 378),(f 14 379)]
def o1I:Obj:=fn 117 126 (aL (stm 18) 7)
def o1J:Obj:=ob 1 #[(f 117 375),(f 126 376),(f 5 377),(i 69),(i 1),(i 0),(i 0),(i 3),(r 159),(.bool true),(i 181),(r 160),u,(r 161),(r 162),(r 163),(i 380),(i 69),(f 5 381)]
def o1K:Obj:=fo 0 117 126 (aL (stm 18) 7) 3 [] .none .none .none 2 285 164
def o1L:Obj:=sq 2 #[(f 13 386)]
def o1M:Obj:=fn 101 102 (aL (stm 18) 8)
def o1N:Obj:=ob 1 #[(f 101 383),(f 102 384),(f 5 385),(i 75),(i 1),(i 0),(i 0),(i 3),(r 166),(.bool true),(i 181),(r 167),u,(r 168),(r 169),(r 170),(i 387),(i 75),(f 5 388)]
def o1O:Obj:=fo 0 101 102 (aL (stm 18) 8) 3 [] .none .none .none 2 285 171
def o1P:Obj:=sq 2 #[(f 13 393)]
def o1Q:Obj:=fn 118 124 (aL (stm 18) 9)
def o1R:Obj:=ob 1 #[(f 118 390),(f 124 391),(f 5 392),(i 78),(i 1),(i 0),(i 0),(i 3),(r 173),(.bool true),(i 181),(r 174),u,(r 175),(r 176),(r 177),(i 394),(i 78),(f 5 395)]
def o1S:Obj:=fo 0 118 124 (aL (stm 18) 9) 3 [] .none .none .none 2 285 178
def o1T:Obj:=sq 2 #[(f 13 400),(f 37 401)]
def o1U:Obj:=fn 3 4 (aL (stm 18) 10)
def o1V:Obj:=ob 1 #[(f 3 397),(f 4 398),(f 5 399),(i 81),(i 2),(i 0),(i 0),(i 3),(r 180),(.bool true),(i 181),(r 181),u,(r 182),(r 183),(r 184),(i 402),(i 81),(f 5 403)]
def o1W:Obj:=fo 0 3 4 (aL (stm 18) 10) 3 [] .none .none .none 2 285 185
def o1X:Obj:=sq 2 #[(f 13 408),(f 125 409)]
def o1Y:Obj:=fn 119 173 (aL (stm 18) 11)
def o1Z:Obj:=ob 1 #[(f 119 405),(f 173 406),(f 5 407),(i 84),(i 1),(i 0),(i 0),(i 3),(r 187),(.bool true),(i 181),(r 188),u,(r 189),(r 190),(r 191),(i 410),(i 84),(f 5 411)]
def o20:Obj:=fo 0 119 173 (aL (stm 18) 11) 3 [] .none .none .none 2 285 192
def o21:Obj:=sq 2 #[(f 13 416),(f 42 417)]
def o22:Obj:=fn 43 44 (aL (stm 18) 12)
def o23:Obj:=ob 1 #[(f 43 413),(f 44 414),(f 5 415),(i 90),(i 2),(i 0),(i 0),(i 3),(r 194),(.bool true),(i 181),(r 195),u,(r 196),(r 197),(r 198),(i 418),(i 90),(f 5 419)]
def o24:Obj:=fo 0 43 44 (aL (stm 18) 12) 3 [] .none .none .none 2 285 199
def o25:Obj:=sq 2 #[(f 13 424)]
def o26:Obj:=fn 0 1 (aL (stm 18) 13)
def o27:Obj:=ob 1 #[(f 0 421),(f 1 422),(f 5 423),(i 93),(i 1),(i 0),(i 0),(i 3),(r 201),(.bool true),(i 181),(r 202),u,(r 203),(r 204),(r 205),(i 425),(i 93),(f 5 426)]
def o28:Obj:=fo 0 0 1 (aL (stm 18) 13) 3 [] .none .none .none 2 285 206
def o29:Obj:=sq 2 #[(f 128 428),(f 10 429)]
def o2a:Obj:=di #[(d 103 317 (f 2 285)),(d 105 321 (j 40 320)),(d 30 329 (r 116)),(d 35 336 (r 123)),(d 112 343 (r 130)),(d 113 351 (r 137)),(d 114 359 (r 144)),(d 115 367 (r 151)),(d 116 374 (r 158)),(d 117 382 (r 165)),(d 101 389 (r 172)),(d 118 396 (r 179)),(d 3 404 (r 186)),(d 119 412 (r 193)),(d 43 420 (r 200)),(d 0 427 (r 207)),(d 106 430 (r 208)),(d 146 432 (r 211)),(d 107 434 (r 212)),(d 49 435 .none)] 4
def o2b:Obj:=(Obj.mk (.type (t 6)) none (.cls (ClassData.mk (s 23) [(T 7)] [(r 210),(T 7)] 209 (s 23) true [] [] false none false)) #[none,none,(some (f 23 310)),(some (f 23 318)),(some (bi 8)),(some (.bool true))])
def o2c:Obj:=ob 13 #[(f 146 431),(r 210),(bi 19),(bi 20)]
def o2d:Obj:=ob 13 #[(f 107 433),(r 210),(bi 14),u]
def o2e:Obj:=ob 9 #[(r 210),(r 210),(r 210)]
def o2f:Obj:=ob 4 #[(bi 5),(r 210)]
def o2g:Obj:=di #[(d 103 317 (f 2 285)),(d 111 319 (f 23 318)),(d 105 321 (j 40 320)),(d 30 329 (r 116)),(d 35 336 (r 123)),(d 112 343 (r 130)),(d 113 351 (r 137)),(d 114 359 (r 144)),(d 115 367 (r 151)),(d 116 374 (r 158)),(d 117 382 (r 165)),(d 101 389 (r 172)),(d 118 396 (r 179)),(d 3 404 (r 186))] 14
def o2h:Obj:=fd #[(i 42),(i 4),(r 115),(i 48),(i 4),(r 122),(i 51),(i 4),(r 129),(i 54),(i 4),(r 136),(i 59),(i 4),(r 143),(i 62),(i 4),(r 150),(i 65),(i 4),(r 157),(i 69),(i 4),(r 164),(i 75),(i 4),(r 171),(i 78),(i 4),(r 178),(i 81),(i 4),(r 185)]
def o2i:Obj:=di #[(d 47 165 (f 32 438)),(d 49 166 .none),(d 50 167 .none),(d 51 168 (bi 11)),(d 52 169 .none),(d 53 170 (r 6)),(d 54 171 (r 4)),(d 55 173 (f 5 172)),(d 56 174 .none),(d 40 193 (r 21)),(d 57 213 (r 31)),(d 58 229 (r 44)),(d 59 255 (r 64)),(d 60 264 (r 73)),(d 61 272 (r 80)),(d 62 276 (f 63 275)),(d 64 278 (j 8 277)),(d 65 284 (r 85)),(d 66 288 (f 67 287)),(d 68 290 (j 60 289)),(d 69 296 (r 90)),(d 8 302 (r 95)),(d 34 309 (r 102)),(d 23 437 (r 210)),(d 29 459 (r 224))] 25
def o2j:Obj:=fd #[(i 1),(i 0),(r 20),(i 5),(i 0),(r 27),(i 7),(i 0),(r 40),(i 9),(i 0),(r 52),(i 14),(i 0),(r 72),(i 16),(i 0),(r 79),(i 21),(i 0),(r 84),(i 28),(i 0),(r 89),(i 32),(i 0),(r 94),(i 36),(i 0),(r 101),(i 40),(i 0),(r 108),(i 96),(i 0),(r 220)]
def o2k:Obj:=di #[(d 103 447 (f 32 438)),(d 111 449 (f 29 448)),(d 105 451 (j 96 450)),(d 106 452 (r 222))] 4
def o2l:Obj:=ob 1 #[(f 29 442),(f 29 443),(f 5 444),(i 96),(i 0),(i 0),(i 0),(i 0),(r 218),(.bool false),(i 181),(r 219),u,u,u,u,(i 445),(i 96),(f 5 446)]
def o2m:Obj:=(Obj.mk (.type (t 3)) none .plain #[(some (r 220)),(some (r 3)),(some (r 217)),none,(some (f 32 438)),none,(some (r 0))])
def o2n:Obj:=di #[(d 103 447 (f 32 438)),(d 105 451 (j 96 450)),(d 106 452 (r 222)),(d 146 454 (r 225)),(d 107 456 (r 226)),(d 49 457 .none)] 4
def o2o:Obj:=(Obj.mk (.type (t 6)) none (.cls (ClassData.mk (s 29) [(T 7)] [(r 224),(T 7)] 223 (s 29) true [] [] false none false)) #[none,none,(some (f 29 440)),(some (f 29 448)),(some (bi 8)),(some (.bool true))])
def o2p:Obj:=ob 13 #[(f 146 453),(r 224),(bi 19),(bi 20)]
def o2q:Obj:=ob 13 #[(f 107 455),(r 224),(bi 14),u]
def o2r:Obj:=ob 9 #[(r 224),(r 224),(r 224)]
def o2s:Obj:=ob 4 #[(bi 5),(r 224)]
def o2t:Obj:=di #[(d 47 165 (f 32 438)),(d 49 166 .none),(d 50 167 .none),(d 51 168 (bi 11)),(d 52 169 .none),(d 53 170 (r 6)),(d 54 171 (r 4)),(d 55 173 (f 5 172)),(d 56 174 .none),(d 40 193 (r 21)),(d 57 213 (r 31)),(d 58 229 (r 44)),(d 59 255 (r 64)),(d 60 264 (r 73)),(d 61 272 (r 80)),(d 62 276 (f 63 275)),(d 64 278 (j 8 277)),(d 65 284 (r 85)),(d 66 288 (f 67 287)),(d 68 290 (j 60 289)),(d 69 296 (r 90)),(d 8 302 (r 95)),(d 34 309 (r 102)),(d 23 437 (r 210)),(d 29 459 (r 224)),(d 70 503 (r 259))] 26
def o2u:Obj:=fd #[(i 1),(i 0),(r 20),(i 5),(i 0),(r 27),(i 7),(i 0),(r 40),(i 9),(i 0),(r 52),(i 14),(i 0),(r 72),(i 16),(i 0),(r 79),(i 21),(i 0),(r 84),(i 28),(i 0),(r 89),(i 32),(i 0),(r 94),(i 36),(i 0),(r 101),(i 40),(i 0),(r 108),(i 96),(i 0),(r 220),(i 98),(i 0),(r 234)]
def o2v:Obj:=(Obj.mk (.type (t 6)) none (.cls (ClassData.mk (s 29) [(T 7)] [(r 224),(T 7)] 223 (s 29) true [] [(r 259)] false none false)) #[none,none,(some (f 29 440)),(some (f 29 448)),(some (bi 8)),(some (.bool true))])
def o2w:Obj:=sq 2 #[(r 224)]
def o2x:Obj:=di #[(d 103 467 (f 32 438)),(d 111 469 (f 70 468)),(d 105 471 (j 98 470)),(d 92 479 (r 242)),(d 45 489 (r 249)),(d 94 499 (r 256)),(d 106 500 (r 257))] 7
def o2y:Obj:=fd #[(i 100),(i 4),(r 241),(i 103),(i 4),(r 248),(i 106),(i 4),(r 255)]
def o2z:Obj:=ob 1 #[(f 70 462),(f 70 463),(f 5 464),(i 98),(i 0),(i 0),(i 0),(i 0),(r 232),(.bool false),(i 181),(r 233),u,u,u,u,(i 465),(i 98),(f 5 466)]
def o2A:Obj:=(Obj.mk (.type (t 3)) none .plain #[(some (r 234)),(some (r 3)),(some (r 231)),none,(some (f 32 438)),none,(some (r 0))])
def o2B:Obj:=sq 2 #[(f 13 475),(f 38 476)]
def o2C:Obj:=fn 92 93 (aL (stm 21) 0)
def o2D:Obj:=ob 1 #[(f 92 472),(f 93 473),(f 5 474),(i 100),(i 2),(i 0),(i 0),(i 3),(r 236),(.bool true),(i 181),(r 237),u,(r 238),(r 239),(r 240),(i 477),(i 100),(f 5 478)]
def o2E:Obj:=fo 0 92 93 (aL (stm 21) 0) 3 [] .none .none .none 32 438 241
def o2F:Obj:=sq 2 #[(f 13 483),(f 20 484),(f 21 485),(f 22 486)]
def o2G:Obj:=fn 45 174 (aL (stm 21) 1)
def o2H:Obj:=ob 1 #[(f 45 480),(f 174 481),(f 5 482),(i 103),(i 4),(i 0),(i 0),(i 3),(r 243),(.bool true),(i 181),(r 244),u,(r 245),(r 246),(r 247),(i 487),(i 103),(f 5 488)]
def o2I:Obj:=fo 0 45 174 (aL (stm 21) 1) 3 [] .none .none .none 32 438 248
def o2J:Obj:=sq 2 #[(f 13 493),(f 151 494),(f 152 495),(f 153 496)]
def o2K:Obj:=fn 94 120 (aL (stm 21) 2)
def o2L:Obj:=ob 1 #[(f 94 490),(f 120 491),(f 5 492),(i 106),(i 4),(i 0),(i 0),(i 3),(r 250),(.bool true),(i 181),(r 251),u,(r 252),(r 253),(r 254),(i 497),(i 106),(f 5 498)]
def o2M:Obj:=fo 0 94 120 (aL (stm 21) 2) 3 [] .none .none .none 32 438 255
def o2N:Obj:=di #[(d 103 467 (f 32 438)),(d 105 471 (j 98 470)),(d 92 479 (r 242)),(d 45 489 (r 249)),(d 94 499 (r 256)),(d 106 500 (r 257)),(d 49 501 .none)] 2
def o2O:Obj:=(Obj.mk (.type (t 6)) none (.cls (ClassData.mk (s 70) [(r 224)] [(r 259),(r 224),(T 7)] 258 (s 70) true [] [] false none false)) #[(some (r 229)),none,(some (f 70 460)),(some (f 70 468)),(some (bi 8)),(some (.bool true))])
def o2P:Obj:=ob 9 #[(r 259),(r 259),(r 259)]
def o2Q:Obj:=ob 4 #[(bi 5),(r 259)]
def o2R:Obj:=di #[(d 47 165 (f 32 438)),(d 49 166 .none),(d 50 167 .none),(d 51 168 (bi 11)),(d 52 169 .none),(d 53 170 (r 6)),(d 54 171 (r 4)),(d 55 173 (f 5 172)),(d 56 174 .none),(d 40 193 (r 21)),(d 57 213 (r 31)),(d 58 229 (r 44)),(d 59 255 (r 64)),(d 60 264 (r 73)),(d 61 272 (r 80)),(d 62 276 (f 63 275)),(d 64 278 (j 8 277)),(d 65 284 (r 85)),(d 66 288 (f 67 287)),(d 68 290 (j 60 289)),(d 69 296 (r 90)),(d 8 302 (r 95)),(d 34 309 (r 102)),(d 23 437 (r 210)),(d 29 459 (r 224)),(d 70 503 (r 259)),(d 25 556 (r 299))] 27
def o2S:Obj:=fd #[(i 1),(i 0),(r 20),(i 5),(i 0),(r 27),(i 7),(i 0),(r 40),(i 9),(i 0),(r 52),(i 14),(i 0),(r 72),(i 16),(i 0),(r 79),(i 21),(i 0),(r 84),(i 28),(i 0),(r 89),(i 32),(i 0),(r 94),(i 36),(i 0),(r 101),(i 40),(i 0),(r 108),(i 96),(i 0),(r 220),(i 98),(i 0),(r 234),(i 108),(i 0),(r 267)]
def o2T:Obj:=(Obj.mk (.type (t 6)) none (.cls (ClassData.mk (s 29) [(T 7)] [(r 224),(T 7)] 223 (s 29) true [] [(r 259),(r 299)] false none false)) #[none,none,(some (f 29 440)),(some (f 29 448)),(some (bi 8)),(some (.bool true))])
def o2U:Obj:=di #[(d 103 511 (f 32 438)),(d 111 513 (f 25 512)),(d 105 515 (j 108 514)),(d 30 523 (r 275)),(d 92 531 (r 282)),(d 45 541 (r 289)),(d 94 551 (r 296)),(d 106 553 (r 297))] 8
def o2V:Obj:=fd #[(i 110),(i 4),(r 274),(i 114),(i 4),(r 281),(i 117),(i 4),(r 288),(i 120),(i 4),(r 295)]
def o2W:Obj:=ob 1 #[(f 25 506),(f 25 507),(f 5 508),(i 108),(i 0),(i 0),(i 0),(i 0),(r 265),(.bool false),(i 181),(r 266),u,u,u,u,(i 509),(i 108),(f 5 510)]
def o2X:Obj:=(Obj.mk (.type (t 3)) none .plain #[(some (r 267)),(some (r 3)),(some (r 264)),none,(some (f 32 438)),none,(some (r 0))])
def o2Y:Obj:=sq 2 #[(f 13 519),(f 125 520)]
def o2Z:Obj:=fn 30 149 (aL (stm 22) 0)
def o30:Obj:=ob 1 #[(f 30 516),(f 149 517),(f 5 518),(i 110),(i 2),(i 0),(i 0),(i 3),(r 269),(.bool true),(i 181),(r 270),u,(r 271),(r 272),(r 273),(i 521),(i 110),(f 5 522)]
def o31:Obj:=fo 0 30 149 (aL (stm 22) 0) 3 [] .none .none .none 32 438 274
def o32:Obj:=sq 2 #[(f 13 527),(f 38 528)]
def o33:Obj:=fn 92 108 (aL (stm 22) 1)
def o34:Obj:=ob 1 #[(f 92 524),(f 108 525),(f 5 526),(i 114),(i 2),(i 0),(i 0),(i 3),(r 276),(.bool true),(i 181),(r 277),u,(r 278),(r 279),(r 280),(i 529),(i 114),(f 5 530)]
def o35:Obj:=fo 0 92 108 (aL (stm 22) 1) 3 [] .none .none .none 32 438 281
def o36:Obj:=sq 2 #[(f 13 535),(f 20 536),(f 21 537),(f 22 538)]
def o37:Obj:=fn 45 176 (aL (stm 22) 2)
def o38:Obj:=ob 1 #[(f 45 532),(f 176 533),(f 5 534),(i 117),(i 4),(i 0),(i 0),(i 3),(r 283),(.bool true),(i 181),(r 284),u,(r 285),(r 286),(r 287),(i 539),(i 117),(f 5 540)]
def o39:Obj:=fo 0 45 176 (aL (stm 22) 2) 3 [] .none .none .none 32 438 288
def o3a:Obj:=sq 2 #[(f 13 545),(f 151 546),(f 152 547),(f 153 548)]
def o3b:Obj:=fn 94 133 (aL (stm 22) 3)
def o3c:Obj:=ob 1 #[(f 94 542),(f 133 543),(f 5 544),(i 120),(i 4),(i 0),(i 0),(i 3),(r 290),(.bool true),(i 181),(r 291),u,(r 292),(r 293),(r 294),(i 549),(i 120),(f 5 550)]
def o3d:Obj:=fo 0 94 133 (aL (stm 22) 3) 3 [] .none .none .none 32 438 295
def o3e:Obj:=sq 2 #[(f 125 552)]
def o3f:Obj:=di #[(d 103 511 (f 32 438)),(d 105 515 (j 108 514)),(d 30 523 (r 275)),(d 92 531 (r 282)),(d 45 541 (r 289)),(d 94 551 (r 296)),(d 106 553 (r 297)),(d 49 554 .none)] 2
def o3g:Obj:=(Obj.mk (.type (t 6)) none (.cls (ClassData.mk (s 25) [(r 224)] [(r 299),(r 224),(T 7)] 298 (s 25) true [] [] false none false)) #[(some (r 262)),none,(some (f 25 504)),(some (f 25 512)),(some (bi 8)),(some (.bool true))])
def o3h:Obj:=ob 9 #[(r 299),(r 299),(r 299)]
def o3i:Obj:=ob 4 #[(bi 5),(r 299)]
def o3j:Obj:=di #[(d 47 165 (f 32 438)),(d 49 166 .none),(d 50 167 .none),(d 51 168 (bi 11)),(d 52 169 .none),(d 53 170 (r 6)),(d 54 171 (r 4)),(d 55 173 (f 5 172)),(d 56 174 .none),(d 40 193 (r 21)),(d 57 213 (r 31)),(d 58 229 (r 44)),(d 59 255 (r 64)),(d 60 264 (r 73)),(d 61 272 (r 80)),(d 62 276 (f 63 275)),(d 64 278 (j 8 277)),(d 65 284 (r 85)),(d 66 288 (f 67 287)),(d 68 290 (j 60 289)),(d 69 296 (r 90)),(d 8 302 (r 95)),(d 34 309 (r 102)),(d 23 437 (r 210)),(d 29 459 (r 224)),(d 70 503 (r 259)),(d 25 556 (r 299)),(d 71 609 (r 339))] 28
def o3k:Obj:=fd #[(i 1),(i 0),(r 20),(i 5),(i 0),(r 27),(i 7),(i 0),(r 40),(i 9),(i 0),(r 52),(i 14),(i 0),(r 72),(i 16),(i 0),(r 79),(i 21),(i 0),(r 84),(i 28),(i 0),(r 89),(i 32),(i 0),(r 94),(i 36),(i 0),(r 101),(i 40),(i 0),(r 108),(i 96),(i 0),(r 220),(i 98),(i 0),(r 234),(i 108),(i 0),(r 267),(i 122),(i 0),(r 307)]
def o3l:Obj:=(Obj.mk (.type (t 6)) none (.cls (ClassData.mk (s 29) [(T 7)] [(r 224),(T 7)] 223 (s 29) true [] [(r 259),(r 299),(r 339)] false none false)) #[none,none,(some (f 29 440)),(some (f 29 448)),(some (bi 8)),(some (.bool true))])
def o3m:Obj:=di #[(d 103 564 (f 32 438)),(d 111 566 (f 71 565)),(d 105 568 (j 122 567)),(d 30 576 (r 315)),(d 92 584 (r 322)),(d 45 594 (r 329)),(d 94 604 (r 336)),(d 106 606 (r 337))] 8
def o3n:Obj:=fd #[(i 124),(i 4),(r 314),(i 128),(i 4),(r 321),(i 131),(i 4),(r 328),(i 134),(i 4),(r 335)]
def o3o:Obj:=ob 1 #[(f 71 559),(f 71 560),(f 5 561),(i 122),(i 0),(i 0),(i 0),(i 0),(r 305),(.bool false),(i 181),(r 306),u,u,u,u,(i 562),(i 122),(f 5 563)]
def o3p:Obj:=(Obj.mk (.type (t 3)) none .plain #[(some (r 307)),(some (r 3)),(some (r 304)),none,(some (f 32 438)),none,(some (r 0))])
def o3q:Obj:=sq 2 #[(f 13 572),(f 125 573)]
def o3r:Obj:=fn 30 110 (aL (stm 23) 0)
def o3s:Obj:=ob 1 #[(f 30 569),(f 110 570),(f 5 571),(i 124),(i 2),(i 0),(i 0),(i 3),(r 309),(.bool true),(i 181),(r 310),u,(r 311),(r 312),(r 313),(i 574),(i 124),(f 5 575)]
def o3t:Obj:=fo 0 30 110 (aL (stm 23) 0) 3 [] .none .none .none 32 438 314
def o3u:Obj:=sq 2 #[(f 13 580),(f 38 581)]
def o3v:Obj:=fn 92 138 (aL (stm 23) 1)
def o3w:Obj:=ob 1 #[(f 92 577),(f 138 578),(f 5 579),(i 128),(i 2),(i 0),(i 0),(i 3),(r 316),(.bool true),(i 181),(r 317),u,(r 318),(r 319),(r 320),(i 582),(i 128),(f 5 583)]
def o3x:Obj:=fo 0 92 138 (aL (stm 23) 1) 3 [] .none .none .none 32 438 321
def o3y:Obj:=sq 2 #[(f 13 588),(f 20 589),(f 21 590),(f 22 591)]
def o3z:Obj:=fn 45 109 (aL (stm 23) 2)
def o3A:Obj:=ob 1 #[(f 45 585),(f 109 586),(f 5 587),(i 131),(i 4),(i 0),(i 0),(i 3),(r 323),(.bool true),(i 181),(r 324),u,(r 325),(r 326),(r 327),(i 592),(i 131),(f 5 593)]
def o3B:Obj:=fo 0 45 109 (aL (stm 23) 2) 3 [] .none .none .none 32 438 328
def o3C:Obj:=sq 2 #[(f 13 598),(f 151 599),(f 152 600),(f 153 601)]
def o3D:Obj:=fn 94 134 (aL (stm 23) 3)
def o3E:Obj:=ob 1 #[(f 94 595),(f 134 596),(f 5 597),(i 134),(i 4),(i 0),(i 0),(i 3),(r 330),(.bool true),(i 181),(r 331),u,(r 332),(r 333),(r 334),(i 602),(i 134),(f 5 603)]
def o3F:Obj:=fo 0 94 134 (aL (stm 23) 3) 3 [] .none .none .none 32 438 335
def o3G:Obj:=sq 2 #[(f 125 605)]
def o3H:Obj:=di #[(d 103 564 (f 32 438)),(d 105 568 (j 122 567)),(d 30 576 (r 315)),(d 92 584 (r 322)),(d 45 594 (r 329)),(d 94 604 (r 336)),(d 106 606 (r 337)),(d 49 607 .none)] 2
def o3I:Obj:=(Obj.mk (.type (t 6)) none (.cls (ClassData.mk (s 71) [(r 224)] [(r 339),(r 224),(T 7)] 338 (s 71) true [] [] false none false)) #[(some (r 302)),none,(some (f 71 557)),(some (f 71 565)),(some (bi 8)),(some (.bool true))])
def o3J:Obj:=ob 9 #[(r 339),(r 339),(r 339)]
def o3K:Obj:=ob 4 #[(bi 5),(r 339)]
def o3L:Obj:=di #[(d 47 165 (f 32 438)),(d 49 166 .none),(d 50 167 .none),(d 51 168 (bi 11)),(d 52 169 .none),(d 53 170 (r 6)),(d 54 171 (r 4)),(d 55 173 (f 5 172)),(d 56 174 .none),(d 40 193 (r 21)),(d 57 213 (r 31)),(d 58 229 (r 44)),(d 59 255 (r 64)),(d 60 264 (r 73)),(d 61 272 (r 80)),(d 62 276 (f 63 275)),(d 64 278 (j 8 277)),(d 65 284 (r 85)),(d 66 288 (f 67 287)),(d 68 290 (j 60 289)),(d 69 296 (r 90)),(d 8 302 (r 95)),(d 34 309 (r 102)),(d 23 437 (r 210)),(d 29 459 (r 224)),(d 70 503 (r 259)),(d 25 556 (r 299)),(d 71 609 (r 339)),(d 72 662 (r 379))] 29
def o3M:Obj:=fd #[(i 1),(i 0),(r 20),(i 5),(i 0),(r 27),(i 7),(i 0),(r 40),(i 9),(i 0),(r 52),(i 14),(i 0),(r 72),(i 16),(i 0),(r 79),(i 21),(i 0),(r 84),(i 28),(i 0),(r 89),(i 32),(i 0),(r 94),(i 36),(i 0),(r 101),(i 40),(i 0),(r 108),(i 96),(i 0),(r 220),(i 98),(i 0),(r 234),(i 108),(i 0),(r 267),(i 122),(i 0),(r 307),(i 136),(i 0),(r 347)]
def o3N:Obj:=(Obj.mk (.type (t 6)) none (.cls (ClassData.mk (s 29) [(T 7)] [(r 224),(T 7)] 223 (s 29) true [] [(r 259),(r 299),(r 339),(r 379)] false none false)) #[none,none,(some (f 29 440)),(some (f 29 448)),(some (bi 8)),(some (.bool true))])
def o3O:Obj:=di #[(d 103 617 (f 32 438)),(d 111 619 (f 72 618)),(d 105 621 (j 136 620)),(d 30 629 (r 355)),(d 92 637 (r 362)),(d 45 647 (r 369)),(d 94 657 (r 376)),(d 106 659 (r 377))] 8
def o3P:Obj:=fd #[(i 138),(i 4),(r 354),(i 143),(i 4),(r 361),(i 146),(i 4),(r 368),(i 149),(i 4),(r 375)]
def o3Q:Obj:=ob 1 #[(f 72 612),(f 72 613),(f 5 614),(i 136),(i 0),(i 0),(i 0),(i 0),(r 345),(.bool false),(i 181),(r 346),u,u,u,u,(i 615),(i 136),(f 5 616)]
def o3R:Obj:=(Obj.mk (.type (t 3)) none .plain #[(some (r 347)),(some (r 3)),(some (r 344)),none,(some (f 32 438)),none,(some (r 0))])
def o3S:Obj:=sq 2 #[(f 13 625),(f 169 626)]
def o3T:Obj:=fn 30 143 (aL (stm 24) 0)
def o3U:Obj:=ob 1 #[(f 30 622),(f 143 623),(f 5 624),(i 138),(i 2),(i 0),(i 0),(i 3),(r 349),(.bool true),(i 181),(r 350),u,(r 351),(r 352),(r 353),(i 627),(i 138),(f 5 628)]
def o3V:Obj:=fo 0 30 143 (aL (stm 24) 0) 3 [] .none .none .none 32 438 354
def o3W:Obj:=sq 2 #[(f 13 633),(f 38 634)]
def o3X:Obj:=fn 92 145 (aL (stm 24) 1)
def o3Y:Obj:=ob 1 #[(f 92 630),(f 145 631),(f 5 632),(i 143),(i 2),(i 0),(i 0),(i 3),(r 356),(.bool true),(i 181),(r 357),u,(r 358),(r 359),(r 360),(i 635),(i 143),(f 5 636)]
def o3Z:Obj:=fo 0 92 145 (aL (stm 24) 1) 3 [] .none .none .none 32 438 361
def o40:Obj:=sq 2 #[(f 13 641),(f 20 642),(f 21 643),(f 22 644)]
def o41:Obj:=fn 45 191 (aL (stm 24) 2)
def o42:Obj:=ob 1 #[(f 45 638),(f 191 639),(f 5 640),(i 146),(i 4),(i 0),(i 0),(i 3),(r 363),(.bool true),(i 181),(r 364),u,(r 365),(r 366),(r 367),(i 645),(i 146),(f 5 646)]
def o43:Obj:=fo 0 45 191 (aL (stm 24) 2) 3 [] .none .none .none 32 438 368
def o44:Obj:=sq 2 #[(f 13 651),(f 151 652),(f 152 653),(f 153 654)]
def o45:Obj:=fn 94 156 (aL (stm 24) 3)
def o46:Obj:=ob 1 #[(f 94 648),(f 156 649),(f 5 650),(i 149),(i 4),(i 0),(i 0),(i 3),(r 370),(.bool true),(i 181),(r 371),u,(r 372),(r 373),(r 374),(i 655),(i 149),(f 5 656)]
def o47:Obj:=fo 0 94 156 (aL (stm 24) 3) 3 [] .none .none .none 32 438 375
def o48:Obj:=sq 2 #[(f 169 658)]
def o49:Obj:=di #[(d 103 617 (f 32 438)),(d 105 621 (j 136 620)),(d 30 629 (r 355)),(d 92 637 (r 362)),(d 45 647 (r 369)),(d 94 657 (r 376)),(d 106 659 (r 377)),(d 49 660 .none)] 2
def o4a:Obj:=(Obj.mk (.type (t 6)) none (.cls (ClassData.mk (s 72) [(r 224)] [(r 379),(r 224),(T 7)] 378 (s 72) true [] [] false none false)) #[(some (r 342)),none,(some (f 72 610)),(some (f 72 618)),(some (bi 8)),(some (.bool true))])
def o4b:Obj:=ob 9 #[(r 379),(r 379),(r 379)]
def o4c:Obj:=ob 4 #[(bi 5),(r 379)]
def o4d:Obj:=di #[(d 47 165 (f 32 438)),(d 49 166 .none),(d 50 167 .none),(d 51 168 (bi 11)),(d 52 169 .none),(d 53 170 (r 6)),(d 54 171 (r 4)),(d 55 173 (f 5 172)),(d 56 174 .none),(d 40 193 (r 21)),(d 57 213 (r 31)),(d 58 229 (r 44)),(d 59 255 (r 64)),(d 60 264 (r 73)),(d 61 272 (r 80)),(d 62 276 (f 63 275)),(d 64 278 (j 8 277)),(d 65 284 (r 85)),(d 66 288 (f 67 287)),(d 68 290 (j 60 289)),(d 69 296 (r 90)),(d 8 302 (r 95)),(d 34 309 (r 102)),(d 23 437 (r 210)),(d 29 459 (r 224)),(d 70 503 (r 259)),(d 25 556 (r 299)),(d 71 609 (r 339)),(d 72 662 (r 379)),(d 73 715 (r 419))] 30
def o4e:Obj:=fd #[(i 1),(i 0),(r 20),(i 5),(i 0),(r 27),(i 7),(i 0),(r 40),(i 9),(i 0),(r 52),(i 14),(i 0),(r 72),(i 16),(i 0),(r 79),(i 21),(i 0),(r 84),(i 28),(i 0),(r 89),(i 32),(i 0),(r 94),(i 36),(i 0),(r 101),(i 40),(i 0),(r 108),(i 96),(i 0),(r 220),(i 98),(i 0),(r 234),(i 108),(i 0),(r 267),(i 122),(i 0),(r 307),(i 136),(i 0),(r 347),(i 151),(i 0),(r 387)]
def o4f:Obj:=(Obj.mk (.type (t 6)) none (.cls (ClassData.mk (s 29) [(T 7)] [(r 224),(T 7)] 223 (s 29) true [] [(r 259),(r 299),(r 339),(r 379),(r 419)] false none false)) #[none,none,(some (f 29 440)),(some (f 29 448)),(some (bi 8)),(some (.bool true))])
def o4g:Obj:=di #[(d 103 670 (f 32 438)),(d 111 672 (f 73 671)),(d 105 674 (j 151 673)),(d 30 682 (r 395)),(d 92 690 (r 402)),(d 45 700 (r 409)),(d 94 710 (r 416)),(d 106 712 (r 417))] 8
def o4h:Obj:=fd #[(i 153),(i 4),(r 394),(i 157),(i 4),(r 401),(i 160),(i 4),(r 408),(i 163),(i 4),(r 415)]
def o4i:Obj:=ob 1 #[(f 73 665),(f 73 666),(f 5 667),(i 151),(i 0),(i 0),(i 0),(i 0),(r 385),(.bool false),(i 181),(r 386),u,u,u,u,(i 668),(i 151),(f 5 669)]
def o4j:Obj:=(Obj.mk (.type (t 3)) none .plain #[(some (r 387)),(some (r 3)),(some (r 384)),none,(some (f 32 438)),none,(some (r 0))])
def o4k:Obj:=sq 2 #[(f 13 678),(f 9 679)]
def o4l:Obj:=fn 30 31 (aL (stm 25) 0)
def o4m:Obj:=ob 1 #[(f 30 675),(f 31 676),(f 5 677),(i 153),(i 2),(i 0),(i 0),(i 3),(r 389),(.bool true),(i 181),(r 390),u,(r 391),(r 392),(r 393),(i 680),(i 153),(f 5 681)]
def o4n:Obj:=fo 0 30 31 (aL (stm 25) 0) 3 [] .none .none .none 32 438 394
def o4o:Obj:=sq 2 #[(f 13 686),(f 38 687)]
def o4p:Obj:=fn 92 131 (aL (stm 25) 1)
def o4q:Obj:=ob 1 #[(f 92 683),(f 131 684),(f 5 685),(i 157),(i 2),(i 0),(i 0),(i 3),(r 396),(.bool true),(i 181),(r 397),u,(r 398),(r 399),(r 400),(i 688),(i 157),(f 5 689)]
def o4r:Obj:=fo 0 92 131 (aL (stm 25) 1) 3 [] .none .none .none 32 438 401
def o4s:Obj:=sq 2 #[(f 13 694),(f 20 695),(f 21 696),(f 22 697)]
def o4t:Obj:=fn 45 46 (aL (stm 25) 2)
def o4u:Obj:=ob 1 #[(f 45 691),(f 46 692),(f 5 693),(i 160),(i 4),(i 0),(i 0),(i 3),(r 403),(.bool true),(i 181),(r 404),u,(r 405),(r 406),(r 407),(i 698),(i 160),(f 5 699)]
def o4v:Obj:=fo 0 45 46 (aL (stm 25) 2) 3 [] .none .none .none 32 438 408
def o4w:Obj:=sq 2 #[(f 13 704),(f 151 705),(f 152 706),(f 153 707)]
def o4x:Obj:=fn 94 95 (aL (stm 25) 3)
def o4y:Obj:=ob 1 #[(f 94 701),(f 95 702),(f 5 703),(i 163),(i 4),(i 0),(i 0),(i 3),(r 410),(.bool true),(i 181),(r 411),u,(r 412),(r 413),(r 414),(i 708),(i 163),(f 5 709)]
def o4z:Obj:=fo 0 94 95 (aL (stm 25) 3) 3 [] .none .none .none 32 438 415
def o4A:Obj:=sq 2 #[(f 9 711)]
def o4B:Obj:=di #[(d 103 670 (f 32 438)),(d 105 674 (j 151 673)),(d 30 682 (r 395)),(d 92 690 (r 402)),(d 45 700 (r 409)),(d 94 710 (r 416)),(d 106 712 (r 417)),(d 49 713 .none)] 2
def o4C:Obj:=(Obj.mk (.type (t 6)) none (.cls (ClassData.mk (s 73) [(r 224)] [(r 419),(r 224),(T 7)] 418 (s 73) true [] [] false none false)) #[(some (r 382)),none,(some (f 73 663)),(some (f 73 671)),(some (bi 8)),(some (.bool true))])
def o4D:Obj:=ob 9 #[(r 419),(r 419),(r 419)]
def o4E:Obj:=ob 4 #[(bi 5),(r 419)]
def o4F:Obj:=di #[(d 47 165 (f 32 438)),(d 49 166 .none),(d 50 167 .none),(d 51 168 (bi 11)),(d 52 169 .none),(d 53 170 (r 6)),(d 54 171 (r 4)),(d 55 173 (f 5 172)),(d 56 174 .none),(d 40 193 (r 21)),(d 57 213 (r 31)),(d 58 229 (r 44)),(d 59 255 (r 64)),(d 60 264 (r 73)),(d 61 272 (r 80)),(d 62 276 (f 63 275)),(d 64 278 (j 8 277)),(d 65 284 (r 85)),(d 66 288 (f 67 287)),(d 68 290 (j 60 289)),(d 69 296 (r 90)),(d 8 302 (r 95)),(d 34 309 (r 102)),(d 23 437 (r 210)),(d 29 459 (r 224)),(d 70 503 (r 259)),(d 25 556 (r 299)),(d 71 609 (r 339)),(d 72 662 (r 379)),(d 73 715 (r 419)),(d 74 768 (r 459))] 31
def o4G:Obj:=fd #[(i 1),(i 0),(r 20),(i 5),(i 0),(r 27),(i 7),(i 0),(r 40),(i 9),(i 0),(r 52),(i 14),(i 0),(r 72),(i 16),(i 0),(r 79),(i 21),(i 0),(r 84),(i 28),(i 0),(r 89),(i 32),(i 0),(r 94),(i 36),(i 0),(r 101),(i 40),(i 0),(r 108),(i 96),(i 0),(r 220),(i 98),(i 0),(r 234),(i 108),(i 0),(r 267),(i 122),(i 0),(r 307),(i 136),(i 0),(r 347),(i 151),(i 0),(r 387),(i 165),(i 0),(r 427)]
def o4H:Obj:=(Obj.mk (.type (t 6)) none (.cls (ClassData.mk (s 29) [(T 7)] [(r 224),(T 7)] 223 (s 29) true [] [(r 259),(r 299),(r 339),(r 379),(r 419),(r 459)] false none false)) #[none,none,(some (f 29 440)),(some (f 29 448)),(some (bi 8)),(some (.bool true))])
def o4I:Obj:=di #[(d 103 723 (f 32 438)),(d 111 725 (f 74 724)),(d 105 727 (j 165 726)),(d 30 735 (r 435)),(d 92 743 (r 442)),(d 45 753 (r 449)),(d 94 763 (r 456)),(d 106 765 (r 457))] 8
def o4J:Obj:=fd #[(i 167),(i 4),(r 434),(i 171),(i 4),(r 441),(i 174),(i 4),(r 448),(i 177),(i 4),(r 455)]
def o4K:Obj:=ob 1 #[(f 74 718),(f 74 719),(f 5 720),(i 165),(i 0),(i 0),(i 0),(i 0),(r 425),(.bool false),(i 181),(r 426),u,u,u,u,(i 721),(i 165),(f 5 722)]
def o4L:Obj:=(Obj.mk (.type (t 3)) none .plain #[(some (r 427)),(some (r 3)),(some (r 424)),none,(some (f 32 438)),none,(some (r 0))])
def o4M:Obj:=sq 2 #[(f 13 731),(f 122 732)]
def o4N:Obj:=fn 30 39 (aL (stm 26) 0)
def o4O:Obj:=ob 1 #[(f 30 728),(f 39 729),(f 5 730),(i 167),(i 2),(i 0),(i 0),(i 3),(r 429),(.bool true),(i 181),(r 430),u,(r 431),(r 432),(r 433),(i 733),(i 167),(f 5 734)]
def o4P:Obj:=fo 0 30 39 (aL (stm 26) 0) 3 [] .none .none .none 32 438 434
def o4Q:Obj:=sq 2 #[(f 13 739),(f 38 740)]
def o4R:Obj:=fn 92 183 (aL (stm 26) 1)
def o4S:Obj:=ob 1 #[(f 92 736),(f 183 737),(f 5 738),(i 171),(i 2),(i 0),(i 0),(i 3),(r 436),(.bool true),(i 181),(r 437),u,(r 438),(r 439),(r 440),(i 741),(i 171),(f 5 742)]
def o4T:Obj:=fo 0 92 183 (aL (stm 26) 1) 3 [] .none .none .none 32 438 441
def o4U:Obj:=sq 2 #[(f 13 747),(f 20 748),(f 21 749),(f 22 750)]
def o4V:Obj:=fn 45 137 (aL (stm 26) 2)
def o4W:Obj:=ob 1 #[(f 45 744),(f 137 745),(f 5 746),(i 174),(i 4),(i 0),(i 0),(i 3),(r 443),(.bool true),(i 181),(r 444),u,(r 445),(r 446),(r 447),(i 751),(i 174),(f 5 752)]
def o4X:Obj:=fo 0 45 137 (aL (stm 26) 2) 3 [] .none .none .none 32 438 448
def o4Y:Obj:=sq 2 #[(f 13 757),(f 151 758),(f 152 759),(f 153 760)]
def o4Z:Obj:=fn 94 136 (aL (stm 26) 3)
def o50:Obj:=ob 1 #[(f 94 754),(f 136 755),(f 5 756),(i 177),(i 4),(i 0),(i 0),(i 3),(r 450),(.bool true),(i 181),(r 451),u,(r 452),(r 453),(r 454),(i 761),(i 177),(f 5 762)]
def o51:Obj:=fo 0 94 136 (aL (stm 26) 3) 3 [] .none .none .none 32 438 455
def o52:Obj:=sq 2 #[(f 122 764)]
def o53:Obj:=di #[(d 103 723 (f 32 438)),(d 105 727 (j 165 726)),(d 30 735 (r 435)),(d 92 743 (r 442)),(d 45 753 (r 449)),(d 94 763 (r 456)),(d 106 765 (r 457)),(d 49 766 .none)] 2
def o54:Obj:=(Obj.mk (.type (t 6)) none (.cls (ClassData.mk (s 74) [(r 224)] [(r 459),(r 224),(T 7)] 458 (s 74) true [] [] false none false)) #[(some (r 422)),none,(some (f 74 716)),(some (f 74 724)),(some (bi 8)),(some (.bool true))])
def o55:Obj:=ob 9 #[(r 459),(r 459),(r 459)]
def o56:Obj:=ob 4 #[(bi 5),(r 459)]
def o57:Obj:=di #[(d 47 165 (f 32 438)),(d 49 166 .none),(d 50 167 .none),(d 51 168 (bi 11)),(d 52 169 .none),(d 53 170 (r 6)),(d 54 171 (r 4)),(d 55 173 (f 5 172)),(d 56 174 .none),(d 40 193 (r 21)),(d 57 213 (r 31)),(d 58 229 (r 44)),(d 59 255 (r 64)),(d 60 264 (r 73)),(d 61 272 (r 80)),(d 62 276 (f 63 275)),(d 64 278 (j 8 277)),(d 65 284 (r 85)),(d 66 288 (f 67 287)),(d 68 290 (j 60 289)),(d 69 296 (r 90)),(d 8 302 (r 95)),(d 34 309 (r 102)),(d 23 437 (r 210)),(d 29 459 (r 224)),(d 70 503 (r 259)),(d 25 556 (r 299)),(d 71 609 (r 339)),(d 72 662 (r 379)),(d 73 715 (r 419)),(d 74 768 (r 459)),(d 75 821 (r 499)),(d 17 828 (r 508))] 33
def o58:Obj:=fd #[(i 1),(i 0),(r 20),(i 5),(i 0),(r 27),(i 7),(i 0),(r 40),(i 9),(i 0),(r 52),(i 14),(i 0),(r 72),(i 16),(i 0),(r 79),(i 21),(i 0),(r 84),(i 28),(i 0),(r 89),(i 32),(i 0),(r 94),(i 36),(i 0),(r 101),(i 40),(i 0),(r 108),(i 96),(i 0),(r 220),(i 98),(i 0),(r 234),(i 108),(i 0),(r 267),(i 122),(i 0),(r 307),(i 136),(i 0),(r 347),(i 151),(i 0),(r 387),(i 165),(i 0),(r 427),(i 179),(i 0),(r 467),(i 193),(i 0),(r 507)]
def o59:Obj:=(Obj.mk (.type (t 6)) none (.cls (ClassData.mk (s 29) [(T 7)] [(r 224),(T 7)] 223 (s 29) true [] [(r 259),(r 299),(r 339),(r 379),(r 419),(r 459),(r 499)] false none false)) #[none,none,(some (f 29 440)),(some (f 29 448)),(some (bi 8)),(some (.bool true))])
def o5a:Obj:=di #[(d 103 776 (f 32 438)),(d 111 778 (f 75 777)),(d 105 780 (j 179 779)),(d 30 788 (r 475)),(d 92 796 (r 482)),(d 45 806 (r 489)),(d 94 816 (r 496)),(d 106 818 (r 497))] 8
def o5b:Obj:=fd #[(i 181),(i 4),(r 474),(i 185),(i 4),(r 481),(i 188),(i 4),(r 488),(i 191),(i 4),(r 495)]
def o5c:Obj:=ob 1 #[(f 75 771),(f 75 772),(f 5 773),(i 179),(i 0),(i 0),(i 0),(i 0),(r 465),(.bool false),(i 181),(r 466),u,u,u,u,(i 774),(i 179),(f 5 775)]
def o5d:Obj:=(Obj.mk (.type (t 3)) none .plain #[(some (r 467)),(some (r 3)),(some (r 464)),none,(some (f 32 438)),none,(some (r 0))])
def o5e:Obj:=sq 2 #[(f 13 784),(f 122 785)]
def o5f:Obj:=fn 30 135 (aL (stm 27) 0)
def o5g:Obj:=ob 1 #[(f 30 781),(f 135 782),(f 5 783),(i 181),(i 2),(i 0),(i 0),(i 3),(r 469),(.bool true),(i 181),(r 470),u,(r 471),(r 472),(r 473),(i 786),(i 181),(f 5 787)]
def o5h:Obj:=fo 0 30 135 (aL (stm 27) 0) 3 [] .none .none .none 32 438 474
def o5i:Obj:=sq 2 #[(f 13 792),(f 38 793)]
def o5j:Obj:=fn 92 175 (aL (stm 27) 1)
def o5k:Obj:=ob 1 #[(f 92 789),(f 175 790),(f 5 791),(i 185),(i 2),(i 0),(i 0),(i 3),(r 476),(.bool true),(i 181),(r 477),u,(r 478),(r 479),(r 480),(i 794),(i 185),(f 5 795)]
def o5l:Obj:=fo 0 92 175 (aL (stm 27) 1) 3 [] .none .none .none 32 438 481
def o5m:Obj:=sq 2 #[(f 13 800),(f 20 801),(f 21 802),(f 22 803)]
def o5n:Obj:=fn 45 165 (aL (stm 27) 2)
def o5o:Obj:=ob 1 #[(f 45 797),(f 165 798),(f 5 799),(i 188),(i 4),(i 0),(i 0),(i 3),(r 483),(.bool true),(i 181),(r 484),u,(r 485),(r 486),(r 487),(i 804),(i 188),(f 5 805)]
def o5p:Obj:=fo 0 45 165 (aL (stm 27) 2) 3 [] .none .none .none 32 438 488
def o5q:Obj:=sq 2 #[(f 13 810),(f 151 811),(f 152 812),(f 153 813)]
def o5r:Obj:=fn 94 177 (aL (stm 27) 3)
def o5s:Obj:=ob 1 #[(f 94 807),(f 177 808),(f 5 809),(i 191),(i 4),(i 0),(i 0),(i 3),(r 490),(.bool true),(i 181),(r 491),u,(r 492),(r 493),(r 494),(i 814),(i 191),(f 5 815)]
def o5t:Obj:=fo 0 94 177 (aL (stm 27) 3) 3 [] .none .none .none 32 438 495
def o5u:Obj:=sq 2 #[(f 122 817)]
def o5v:Obj:=di #[(d 103 776 (f 32 438)),(d 105 780 (j 179 779)),(d 30 788 (r 475)),(d 92 796 (r 482)),(d 45 806 (r 489)),(d 94 816 (r 496)),(d 106 818 (r 497)),(d 49 819 .none)] 2
def o5w:Obj:=(Obj.mk (.type (t 6)) none (.cls (ClassData.mk (s 75) [(r 224)] [(r 499),(r 224),(T 7)] 498 (s 75) true [] [] false none false)) #[(some (r 462)),none,(some (f 75 769)),(some (f 75 777)),(some (bi 8)),(some (.bool true))])
def o5x:Obj:=ob 9 #[(r 499),(r 499),(r 499)]
def o5y:Obj:=ob 4 #[(bi 5),(r 499)]
def o5z:Obj:=sq 2 #[(f 125 825)]
def o5A:Obj:=fn 17 17 (stm 28)
def o5B:Obj:=ob 1 #[(f 17 822),(f 17 823),(f 5 824),(i 193),(i 1),(i 0),(i 0),(i 3),(r 502),(.bool true),(i 181),(r 503),u,(r 504),(r 505),(r 506),(i 826),(i 193),(f 5 827)]
def o5C:Obj:=fo 0 17 17 (stm 28) 3 [] .none .none .none 32 438 507
def o5D:Obj:=di #[(d 47 165 (f 19 844)),(d 49 166 .none),(d 50 167 .none),(d 51 168 (bi 11)),(d 52 169 .none),(d 53 170 (r 6)),(d 54 171 (r 4)),(d 55 173 (f 5 172)),(d 56 174 .none),(d 40 193 (r 21)),(d 57 213 (r 31)),(d 58 229 (r 44)),(d 59 255 (r 64)),(d 60 264 (r 73)),(d 61 272 (r 80)),(d 62 276 (f 63 275)),(d 64 278 (j 8 277)),(d 65 284 (r 85)),(d 66 288 (f 67 287)),(d 68 290 (j 60 289)),(d 69 296 (r 90)),(d 8 302 (r 95)),(d 34 309 (r 102)),(d 23 437 (r 210)),(d 29 459 (r 224)),(d 70 503 (r 259)),(d 25 556 (r 299)),(d 71 609 (r 339)),(d 72 662 (r 379)),(d 73 715 (r 419)),(d 74 768 (r 459)),(d 75 821 (r 499)),(d 17 828 (r 508)),(d 76 835 (r 515)),(d 77 843 (r 522)),(d 78 851 (r 527)),(d 79 858 (r 534)),(d 80 868 (r 541)),(d 81 898 (r 558))] 39
def o5E:Obj:=fd #[(i 1),(i 0),(r 20),(i 5),(i 0),(r 27),(i 7),(i 0),(r 40),(i 9),(i 0),(r 52),(i 14),(i 0),(r 72),(i 16),(i 0),(r 79),(i 21),(i 0),(r 84),(i 28),(i 0),(r 89),(i 32),(i 0),(r 94),(i 36),(i 0),(r 101),(i 40),(i 0),(r 108),(i 96),(i 0),(r 220),(i 98),(i 0),(r 234),(i 108),(i 0),(r 267),(i 122),(i 0),(r 307),(i 136),(i 0),(r 347),(i 151),(i 0),(r 387),(i 165),(i 0),(r 427),(i 179),(i 0),(r 467),(i 193),(i 0),(r 507),(i 196),(i 0),(r 514),(i 199),(i 0),(r 521),(i 205),(i 0),(r 526),(i 219),(i 0),(r 533),(i 221),(i 0),(r 540),(i 229),(i 0),(r 547)]
def o5F:Obj:=sq 2 #[(f 9 832)]
def o5G:Obj:=fn 76 76 (stm 29)
def o5H:Obj:=ob 1 #[(f 76 829),(f 76 830),(f 5 831),(i 196),(i 1),(i 0),(i 0),(i 3),(r 509),(.bool true),(i 181),(r 510),u,(r 511),(r 512),(r 513),(i 833),(i 196),(f 5 834)]
def o5I:Obj:=fo 0 76 76 (stm 29) 3 [] .none .none .none 32 438 514
def o5J:Obj:=sq 2 #[(f 122 839),(f 9 840)]
def o5K:Obj:=fn 77 77 (stm 30)
def o5L:Obj:=ob 1 #[(f 77 836),(f 77 837),(f 5 838),(i 199),(i 1),(i 0),(i 0),(i 3),(r 516),(.bool true),(i 181),(r 517),u,(r 518),(r 519),(r 520),(i 841),(i 199),(f 5 842)]
def o5M:Obj:=fo 0 77 77 (stm 30) 3 [] .none .none .none 32 438 521
def o5N:Obj:=fn 78 78 (stm 32)
def o5O:Obj:=ob 1 #[(f 78 846),(f 78 847),(f 5 848),(i 205),(i 1),(i 0),(i 0),(i 3),(r 523),(.bool true),(i 181),(r 524),u,u,u,(r 525),(i 849),(i 205),(f 5 850)]
def o5P:Obj:=fo 0 78 78 (stm 32) 3 [] .none .none .none 19 844 526
def o5Q:Obj:=sq 2 #[(f 164 855)]
def o5R:Obj:=fn 79 79 (stm 33)
def o5S:Obj:=ob 1 #[(f 79 852),(f 79 853),(f 5 854),(i 219),(i 1),(i 0),(i 0),(i 3),(r 528),(.bool true),(i 181),(r 529),u,(r 530),(r 531),(r 532),(i 856),(i 219),(f 5 857)]
def o5T:Obj:=fo 0 79 79 (stm 33) 3 [] .none .none .none 19 844 533
def o5U:Obj:=sq 2 #[(f 164 862),(f 192 863),(f 10 864),(f 193 865)]
def o5V:Obj:=fn 80 80 (stm 34)
def o5W:Obj:=ob 1 #[(f 80 859),(f 80 860),(f 5 861),(i 221),(i 2),(i 0),(i 0),(i 3),(r 535),(.bool true),(i 181),(r 536),u,(r 537),(r 538),(r 539),(i 866),(i 221),(f 5 867)]
def o5X:Obj:=fo 0 80 80 (stm 34) 3 [] .none .none .none 19 844 540
def o5Y:Obj:=di #[(d 103 876 (f 19 844)),(d 111 878 (f 81 877)),(d 105 880 (j 229 879)),(d 30 888 (r 555)),(d 106 891 (r 556))] 5
def o5Z:Obj:=fd #[(i 231),(i 4),(r 554)]
def o60:Obj:=ob 1 #[(f 81 871),(f 81 872),(f 5 873),(i 229),(i 0),(i 0),(i 0),(i 0),(r 545),(.bool false),(i 181),(r 546),u,u,u,u,(i 874),(i 229),(f 5 875)]
def o61:Obj:=(Obj.mk (.type (t 3)) none .plain #[(some (r 547)),(some (r 3)),(some (r 544)),none,(some (f 19 844)),none,(some (r 0))])
def o62:Obj:=sq 2 #[(f 13 884),(f 154 885)]
def o63:Obj:=fn 30 130 (aL (stm 35) 0)
def o64:Obj:=ob 1 #[(f 30 881),(f 130 882),(f 5 883),(i 231),(i 2),(i 0),(i 0),(i 3),(r 549),(.bool true),(i 181),(r 550),u,(r 551),(r 552),(r 553),(i 886),(i 231),(f 5 887)]
def o65:Obj:=fo 0 30 130 (aL (stm 35) 0) 3 [] .none .none .none 19 844 554
def o66:Obj:=sq 2 #[(f 155 889),(f 154 890)]
def o67:Obj:=di #[(d 103 876 (f 19 844)),(d 105 880 (j 229 879)),(d 30 888 (r 555)),(d 106 891 (r 556)),(d 146 893 (r 559)),(d 107 895 (r 560)),(d 49 896 .none)] 4
def o68:Obj:=(Obj.mk (.type (t 6)) none (.cls (ClassData.mk (s 81) [(T 7)] [(r 558),(T 7)] 557 (s 81) true [] [] false none false)) #[none,none,(some (f 81 869)),(some (f 81 877)),(some (bi 8)),(some (.bool true))])
def o69:Obj:=ob 13 #[(f 146 892),(r 558),(bi 19),(bi 20)]
def o6a:Obj:=ob 13 #[(f 107 894),(r 558),(bi 14),u]
def o6b:Obj:=ob 9 #[(r 558),(r 558),(r 558)]
def o6c:Obj:=ob 4 #[(bi 5),(r 558)]
def o6d:Obj:=di #[(d 47 165 (f 48 943)),(d 49 166 .none),(d 50 167 .none),(d 51 168 (bi 11)),(d 52 169 .none),(d 53 170 (r 6)),(d 54 171 (r 4)),(d 55 173 (f 5 172)),(d 56 174 .none),(d 40 193 (r 21)),(d 57 213 (r 31)),(d 58 229 (r 44)),(d 59 255 (r 64)),(d 60 264 (r 73)),(d 61 272 (r 80)),(d 62 276 (f 63 275)),(d 64 278 (j 8 277)),(d 65 284 (r 85)),(d 66 288 (f 67 287)),(d 68 290 (j 60 289)),(d 69 296 (r 90)),(d 8 302 (r 95)),(d 34 309 (r 102)),(d 23 437 (r 210)),(d 29 459 (r 224)),(d 70 503 (r 259)),(d 25 556 (r 299)),(d 71 609 (r 339)),(d 72 662 (r 379)),(d 73 715 (r 419)),(d 74 768 (r 459)),(d 75 821 (r 499)),(d 17 828 (r 508)),(d 76 835 (r 515)),(d 77 843 (r 522)),(d 78 851 (r 527)),(d 79 858 (r 534)),(d 80 868 (r 541)),(d 81 898 (r 558)),(d 82 907 (r 569)),(d 18 916 (r 576)),(d 83 926 (r 583)),(d 84 935 (r 590)),(d 85 942 (r 597)),(d 86 952 (r 604)),(d 87 959 (r 611)),(d 27 969 (r 618)),(d 24 975 (r 623)),(d 88 987 (r 630)),(d 89 993 (r 635)),(d 90 999 (r 640)),(d 91 1005 (r 645))] 52
def o6e:Obj:=fd #[(i 1),(i 0),(r 20),(i 5),(i 0),(r 27),(i 7),(i 0),(r 40),(i 9),(i 0),(r 52),(i 14),(i 0),(r 72),(i 16),(i 0),(r 79),(i 21),(i 0),(r 84),(i 28),(i 0),(r 89),(i 32),(i 0),(r 94),(i 36),(i 0),(r 101),(i 40),(i 0),(r 108),(i 96),(i 0),(r 220),(i 98),(i 0),(r 234),(i 108),(i 0),(r 267),(i 122),(i 0),(r 307),(i 136),(i 0),(r 347),(i 151),(i 0),(r 387),(i 165),(i 0),(r 427),(i 179),(i 0),(r 467),(i 193),(i 0),(r 507),(i 196),(i 0),(r 514),(i 199),(i 0),(r 521),(i 205),(i 0),(r 526),(i 219),(i 0),(r 533),(i 221),(i 0),(r 540),(i 229),(i 0),(r 547),(i 234),(i 0),(r 568),(i 240),(i 0),(r 575),(i 254),(i 0),(r 582),(i 263),(i 0),(r 589),(i 271),(i 0),(r 596),(i 280),(i 0),(r 603),(i 284),(i 0),(r 610),(i 286),(i 0),(r 617),(i 296),(i 0),(r 622),(i 307),(i 0),(r 629),(i 319),(i 0),(r 634),(i 327),(i 0),(r 639),(i 338),(i 0),(r 644)]
def o6f:Obj:=sq 2 #[(f 10 902),(f 11 903),(f 9 904)]
def o6g:Obj:=fn 82 82 (stm 36)
def o6h:Obj:=ob 1 #[(f 82 899),(f 82 900),(f 5 901),(i 234),(i 1),(i 0),(i 0),(i 3),(r 563),(.bool true),(i 181),(r 564),u,(r 565),(r 566),(r 567),(i 905),(i 234),(f 5 906)]
def o6i:Obj:=fo 0 82 82 (stm 36) 3 [] .none .none .none 19 844 568
def o6j:Obj:=sq 2 #[(f 10 911),(f 11 912),(f 14 913)]
def o6k:Obj:=fn 18 18 (stm 37)
def o6l:Obj:=ob 1 #[(f 18 908),(f 18 909),(f 5 910),(i 240),(i 2),(i 0),(i 0),(i 3),(r 570),(.bool true),(i 181),(r 571),u,(r 572),(r 573),(r 574),(i 914),(i 240),(f 5 915)]
def o6m:Obj:=fo 0 18 18 (stm 37) 3 [] .none .none .none 19 844 575
def o6n:Obj:=sq 2 #[(f 9 920),(f 10 921),(f 11 922),(f 12 923)]
def o6o:Obj:=fn 83 83 (stm 38)
def o6p:Obj:=ob 1 #[(f 83 917),(f 83 918),(f 5 919),(i 254),(i 3),(i 0),(i 0),(i 3),(r 577),(.bool true),(i 181),(r 578),u,(r 579),(r 580),(r 581),(i 924),(i 254),(f 5 925)]
def o6q:Obj:=fo 0 83 83 (stm 38) 3 [] .none .none .none 19 844 582
def o6r:Obj:=sq 2 #[(f 28 930),(f 10 931),(f 14 932)]
def o6s:Obj:=fn 84 84 (stm 39)
def o6t:Obj:=ob 1 #[(f 84 927),(f 84 928),(f 5 929),(i 263),(i 2),(i 0),(i 0),(i 3),(r 584),(.bool true),(i 181),(r 585),u,(r 586),(r 587),(r 588),(i 933),(i 263),(f 5 934)]
def o6u:Obj:=fo 0 84 84 (stm 39) 3 [] .none .none .none 19 844 589
def o6v:Obj:=sq 2 #[(f 11 939)]
def o6w:Obj:=fn 85 85 (stm 40)
def o6x:Obj:=ob 1 #[(f 85 936),(f 85 937),(f 5 938),(i 271),(i 1),(i 0),(i 0),(i 3),(r 591),(.bool true),(i 181),(r 592),u,(r 593),(r 594),(r 595),(i 940),(i 271),(f 5 941)]
def o6y:Obj:=fo 0 85 85 (stm 40) 3 [] .none .none .none 19 844 596
def o6z:Obj:=sq 2 #[(f 6 948),(f 7 949)]
def o6A:Obj:=fn 86 86 (stm 42)
def o6B:Obj:=ob 1 #[(f 86 945),(f 86 946),(f 5 947),(i 280),(i 2),(i 0),(i 0),(i 3),(r 598),(.bool true),(i 181),(r 599),u,(r 600),(r 601),(r 602),(i 950),(i 280),(f 5 951)]
def o6C:Obj:=fo 0 86 86 (stm 42) 3 [] .none .none .none 48 943 603
def o6D:Obj:=sq 2 #[(f 178 956)]
def o6E:Obj:=fn 87 87 (stm 43)
def o6F:Obj:=ob 1 #[(f 87 953),(f 87 954),(f 5 955),(i 284),(i 1),(i 0),(i 0),(i 3),(r 605),(.bool true),(i 181),(r 606),u,(r 607),(r 608),(r 609),(i 957),(i 284),(f 5 958)]
def o6G:Obj:=fo 0 87 87 (stm 43) 3 [] .none .none .none 48 943 610
def o6H:Obj:=sq 2 #[(f 96 963),(f 97 964),(f 98 965),(f 99 966)]
def o6I:Obj:=fn 27 27 (stm 44)
def o6J:Obj:=ob 1 #[(f 27 960),(f 27 961),(f 5 962),(i 286),(i 2),(i 0),(i 0),(i 3),(r 612),(.bool true),(i 181),(r 613),u,(r 614),(r 615),(r 616),(i 967),(i 286),(f 5 968)]
def o6K:Obj:=fo 0 27 27 (stm 44) 3 [] .none .none .none 48 943 617
def o6L:Obj:=fn 24 24 (stm 45)
def o6M:Obj:=ob 1 #[(f 24 970),(f 24 971),(f 5 972),(i 296),(i 1),(i 0),(i 0),(i 3),(r 619),(.bool true),(i 181),(r 620),u,u,u,(r 621),(i 973),(i 296),(f 5 974)]
def o6N:Obj:=fo 0 24 24 (stm 45) 3 [] .none .none .none 48 943 622
def o6O:Obj:=sq 2 #[(f 96 979),(f 188 980),(f 189 981),(f 160 982),(f 7 983),(f 190 984)]
def o6P:Obj:=fn 88 88 (stm 46)
def o6Q:Obj:=ob 1 #[(f 88 976),(f 88 977),(f 5 978),(i 307),(i 2),(i 0),(i 0),(i 3),(r 624),(.bool true),(i 181),(r 625),u,(r 626),(r 627),(r 628),(i 985),(i 307),(f 5 986)]
def o6R:Obj:=fo 0 88 88 (stm 46) 3 [] .none .none .none 48 943 629
def o6S:Obj:=fn 89 89 (stm 47)
def o6T:Obj:=ob 1 #[(f 89 988),(f 89 989),(f 5 990),(i 319),(i 3),(i 0),(i 0),(i 3),(r 631),(.bool true),(i 181),(r 632),u,u,u,(r 633),(i 991),(i 319),(f 5 992)]
def o6U:Obj:=fo 0 89 89 (stm 47) 3 [] .none .none .none 48 943 634
def o6V:Obj:=fn 90 90 (stm 48)
def o6W:Obj:=ob 1 #[(f 90 994),(f 90 995),(f 5 996),(i 327),(i 1),(i 0),(i 0),(i 3),(r 636),(.bool true),(i 181),(r 637),u,u,u,(r 638),(i 997),(i 327),(f 5 998)]
def o6X:Obj:=fo 0 90 90 (stm 48) 3 [] .none .none .none 48 943 639
def o6Y:Obj:=fn 91 91 (stm 49)
def o6Z:Obj:=ob 1 #[(f 91 1000),(f 91 1001),(f 5 1002),(i 338),(i 2),(i 0),(i 0),(i 3),(r 641),(.bool true),(i 181),(r 642),u,u,u,(r 643),(i 1003),(i 338),(f 5 1004)]
def o70:Obj:=fo 0 91 91 (stm 49) 3 [] .none .none .none 48 943 644
def o71:Obj:=di #[(d 47 165 (f 48 943)),(d 49 166 .none),(d 50 167 .none),(d 51 168 (bi 11)),(d 52 169 .none),(d 53 170 (r 6)),(d 54 171 (r 4)),(d 55 173 (f 5 172)),(d 56 174 .none),(d 40 193 (r 21)),(d 57 213 (r 31)),(d 58 229 (r 44)),(d 59 255 (r 64)),(d 60 264 (r 73)),(d 61 272 (r 80)),(d 62 276 (f 63 275)),(d 64 278 (j 8 277)),(d 65 284 (r 85)),(d 66 288 (f 67 287)),(d 68 290 (j 60 289)),(d 69 296 (r 90)),(d 8 302 (r 95)),(d 34 309 (r 102)),(d 23 437 (r 210)),(d 29 459 (r 224)),(d 70 503 (r 259)),(d 25 556 (r 299)),(d 71 609 (r 339)),(d 72 662 (r 379)),(d 73 715 (r 419)),(d 74 768 (r 459)),(d 75 821 (r 499)),(d 17 828 (r 508)),(d 76 835 (r 515)),(d 77 843 (r 522)),(d 78 851 (r 527)),(d 79 858 (r 534)),(d 80 868 (r 541)),(d 81 898 (r 558)),(d 82 907 (r 569)),(d 18 916 (r 576)),(d 83 926 (r 583)),(d 84 935 (r 590)),(d 85 942 (r 597)),(d 86 952 (r 604)),(d 87 959 (r 611)),(d 27 969 (r 618)),(d 24 975 (r 623)),(d 88 987 (r 630)),(d 89 993 (r 635)),(d 90 999 (r 640)),(d 91 1005 (r 645)),(d 121 1013 (r 652)),(d 163 1026 (r 659)),(d 26 1032 (r 664)),(d 100 1038 (r 669)),(d 166 1044 (r 674)),(d 15 1053 (r 681)),(d 123 1064 (r 688)),(d 167 1075 (r 695)),(d 150 1085 (r 702)),(d 168 1101 (r 709))] 62
def o72:Obj:=fd #[(i 1),(i 0),(r 20),(i 5),(i 0),(r 27),(i 7),(i 0),(r 40),(i 9),(i 0),(r 52),(i 14),(i 0),(r 72),(i 16),(i 0),(r 79),(i 21),(i 0),(r 84),(i 28),(i 0),(r 89),(i 32),(i 0),(r 94),(i 36),(i 0),(r 101),(i 40),(i 0),(r 108),(i 96),(i 0),(r 220),(i 98),(i 0),(r 234),(i 108),(i 0),(r 267),(i 122),(i 0),(r 307),(i 136),(i 0),(r 347),(i 151),(i 0),(r 387),(i 165),(i 0),(r 427),(i 179),(i 0),(r 467),(i 193),(i 0),(r 507),(i 196),(i 0),(r 514),(i 199),(i 0),(r 521),(i 205),(i 0),(r 526),(i 219),(i 0),(r 533),(i 221),(i 0),(r 540),(i 229),(i 0),(r 547),(i 234),(i 0),(r 568),(i 240),(i 0),(r 575),(i 254),(i 0),(r 582),(i 263),(i 0),(r 589),(i 271),(i 0),(r 596),(i 280),(i 0),(r 603),(i 284),(i 0),(r 610),(i 286),(i 0),(r 617),(i 296),(i 0),(r 622),(i 307),(i 0),(r 629),(i 319),(i 0),(r 634),(i 327),(i 0),(r 639),(i 338),(i 0),(r 644),(i 355),(i 0),(r 651),(i 360),(i 0),(r 658),(i 377),(i 0),(r 663),(i 384),(i 0),(r 668),(i 386),(i 0),(r 673),(i 390),(i 0),(r 680),(i 396),(i 0),(r 687),(i 413),(i 0),(r 694),(i 434),(i 0),(r 701),(i 442),(i 0),(r 708)]
def o73:Obj:=sq 2 #[(f 96 1009),(f 132 1010)]
def o74:Obj:=fn 121 121 (stm 50)
def o75:Obj:=ob 1 #[(f 121 1006),(f 121 1007),(f 5 1008),(i 355),(i 1),(i 0),(i 0),(i 3),(r 646),(.bool true),(i 181),(r 647),u,(r 648),(r 649),(r 650),(i 1011),(i 355),(f 5 1012)]
def o76:Obj:=fo 0 121 121 (stm 50) 3 [] .none .none .none 48 943 651
def o77:Obj:=sq 2 #[(f 157 1017),(f 96 1018),(f 184 1019),(f 158 1020),(f 185 1021),(f 186 1022),(f 187 1023)]
def o78:Obj:=fn 163 163 (stm 51)
def o79:Obj:=ob 1 #[(f 163 1014),(f 163 1015),(f 5 1016),(i 360),(i 2),(i 0),(i 0),(i 3),(r 653),(.bool true),(i 181),(r 654),u,(r 655),(r 656),(r 657),(i 1024),(i 360),(f 5 1025)]
def o7a:Obj:=fo 0 163 163 (stm 51) 3 [] .none .none .none 48 943 658
def o7b:Obj:=fn 26 26 (stm 52)
def o7c:Obj:=ob 1 #[(f 26 1027),(f 26 1028),(f 5 1029),(i 377),(i 2),(i 0),(i 0),(i 3),(r 660),(.bool true),(i 181),(r 661),u,u,u,(r 662),(i 1030),(i 377),(f 5 1031)]
def o7d:Obj:=fo 0 26 26 (stm 52) 3 [] .none .none .none 48 943 663
def o7e:Obj:=fn 100 100 (stm 53)
def o7f:Obj:=ob 1 #[(f 100 1033),(f 100 1034),(f 5 1035),(i 384),(i 1),(i 0),(i 0),(i 3),(r 665),(.bool true),(i 181),(r 666),u,u,u,(r 667),(i 1036),(i 384),(f 5 1037)]
def o7g:Obj:=fo 0 100 100 (stm 53) 3 [] .none .none .none 48 943 668
def o7h:Obj:=fn 166 166 (stm 54)
def o7i:Obj:=ob 1 #[(f 166 1039),(f 166 1040),(f 5 1041),(i 386),(i 1),(i 0),(i 0),(i 3),(r 670),(.bool true),(i 181),(r 671),u,u,u,(r 672),(i 1042),(i 386),(f 5 1043)]
def o7j:Obj:=fo 0 166 166 (stm 54) 3 [] .none .none .none 48 943 673
def o7k:Obj:=sq 2 #[(f 157 1048),(f 158 1049),(f 160 1050)]
def o7l:Obj:=fn 15 15 (stm 55)
def o7m:Obj:=ob 1 #[(f 15 1045),(f 15 1046),(f 5 1047),(i 390),(i 2),(i 0),(i 0),(i 3),(r 675),(.bool true),(i 181),(r 676),u,(r 677),(r 678),(r 679),(i 1051),(i 390),(f 5 1052)]
def o7n:Obj:=fo 0 15 15 (stm 55) 3 [] .none .none .none 48 943 680
def o7o:Obj:=sq 2 #[(f 157 1057),(f 158 1058),(f 170 1059),(f 171 1060),(f 172 1061)]
def o7p:Obj:=fn 123 123 (stm 56)
def o7q:Obj:=ob 1 #[(f 123 1054),(f 123 1055),(f 5 1056),(i 396),(i 2),(i 0),(i 0),(i 3),(r 682),(.bool true),(i 181),(r 683),u,(r 684),(r 685),(r 686),(i 1062),(i 396),(f 5 1063)]
def o7r:Obj:=fo 0 123 123 (stm 56) 3 [] .none .none .none 48 943 687
def o7s:Obj:=sq 2 #[(f 157 1068),(f 158 1069),(f 159 1070),(f 160 1071),(f 161 1072)]
def o7t:Obj:=fn 167 167 (stm 57)
def o7u:Obj:=ob 1 #[(f 167 1065),(f 167 1066),(f 5 1067),(i 413),(i 2),(i 0),(i 0),(i 3),(r 689),(.bool true),(i 181),(r 690),u,(r 691),(r 692),(r 693),(i 1073),(i 413),(f 5 1074)]
def o7v:Obj:=fo 0 167 167 (stm 57) 3 [] .none .none .none 48 943 694
def o7w:Obj:=sq 2 #[(f 180 1079),(f 98 1080),(f 181 1081),(f 195 1082)]
def o7x:Obj:=fn 150 150 (stm 58)
def o7y:Obj:=ob 1 #[(f 150 1076),(f 150 1077),(f 5 1078),(i 434),(i 1),(i 0),(i 0),(i 3),(r 696),(.bool true),(i 181),(r 697),u,(r 698),(r 699),(r 700),(i 1083),(i 434),(f 5 1084)]
def o7z:Obj:=fo 0 150 150 (stm 58) 3 [] .none .none .none 48 943 701
def o7A:Obj:=sq 2 #[(f 6 1089),(f 178 1090),(f 96 1091),(f 157 1092),(f 179 1093),(f 158 1094),(f 180 1095),(f 7 1096),(f 98 1097),(f 181 1098)]
def o7B:Obj:=fn 168 168 (stm 59)
def o7C:Obj:=ob 1 #[(f 168 1086),(f 168 1087),(f 5 1088),(i 442),(i 1),(i 0),(i 0),(i 3),(r 703),(.bool true),(i 181),(r 704),u,(r 705),(r 706),(r 707),(i 1099),(i 442),(f 5 1100)]
def o7D:Obj:=fo 0 168 168 (stm 59) 3 [] .none .none .none 48 943 708
def o7E:Obj:=(Obj.mk .none none (.dict #[] 0) #[])
def b0:Obj:=boot_o_0 c.P
def b1:Obj:=boot_o_1 c.P
def b2:Obj:=boot_o_2 c.P
def b3:Obj:=boot_o_3 c.P
def b4:Obj:=boot_o_4 c.P
def b5:Obj:=boot_o_5 c.P
def b6:Obj:=boot_o_6 c.P
def b7:Obj:=boot_o_7 c.P
def b8:Obj:=boot_o_8 c.P
def b9:Obj:=boot_o_9 c.P
def b10:Obj:=boot_o_10 c.P
def q00:BT:=(N o0n (N o0S L L) L)
def q01:BT:=(N o01 (N o0N L L) L)
def q02:BT:=(N o0z (N o0U L L) L)
def q03:BT:=(N o0r (N o01 L L) L)
def q04:BT:=(N o0y (N o00 L L) L)
def q05:BT:=(N o0q (N o0P L L) L)
def q06:BT:=(N o0B (N o0W L L) L)
def q07:BT:=(N o0t (N o00 L L) L)
def q08:BT:=(N o0b (N o0T L L) L)
def q09:BT:=(N o0p (N o0O L L) L)
def q0a:BT:=(N o0b (N o01 L L) L)
def q0b:BT:=(N o0A (N o0V L L) L)
def q0c:BT:=(N o0s (N o0Q L L) L)
def q0d:BT:=(N o00 (N o01 L L) L)
def q0e:BT:=(N o00 (N o00 L L) L)
def q0f:BT:=(N o0u (N o0R L L) L)
def tree_127_:BT:=(N b0 (N b1 (N o0v (N b7 (N o00 (N o0x (N o0I L L) L) q00) (N o0b q01 (N o00 L L))) (N o00 (N o07 (N o0n (N o00 L L) L) q02) (N o0d q03 (N o0E L L)))) (N b5 (N b9 (N o06 (N o0i (N o0K L L) L) q04) (N o00 q05 (N o0D L L))) (N o02 (N o09 (N o0o (N o0M L L) L) q06) (N o00 q07 (N o0G L L))))) (N b2 (N b4 (N b8 (N o01 (N o0h (N o0J L L) L) q08) (N o0c q09 (N o01 L L))) (N o0w (N o08 q0a q0b) (N o0e q0c (N o0F L L)))) (N b6 (N b10 (N o00 (N o0j (N o0L L L) L) q0d) (N o01 q0e (N o00 L L))) (N o03 (N o0a q0e (N o0C L L)) (N o0f q0f (N o0H L L))))))
def q0g:BT:=(N o06 (N o0i L L) L)
def q0h:BT:=(N o01 (N o0h L L) L)
def q0i:BT:=(N o00 (N o0j L L) L)
def tree_70_:BT:=(N b0 (N b1 (N o04 (N b7 (N o00 (N o0g L L) L) (N o0b L L)) (N o00 (N o07 L L) (N o0d L L))) (N b5 (N b9 q0g (N o00 L L)) (N o02 (N o09 L L) (N o00 L L)))) (N b2 (N b4 (N b8 q0h (N o0c L L)) (N o05 (N o08 L L) (N o0e L L))) (N b6 (N b10 q0i (N o01 L L)) (N o03 (N o0a L L) (N o0f L L)))))
def tree_146_:BT:=(N b0 (N b1 (N o0X (N b7 (N o00 (N o0x (N o0I L L) (N o14 L L)) q00) (N o0b q01 q0d)) (N o00 (N o07 (N o0n (N o00 L L) (N o00 L L)) q02) (N o0d q03 (N o0E (N o00 L L) L)))) (N b5 (N b9 (N o06 (N o0i (N o0K L L) (N o01 L L)) q04) (N o00 q05 (N o0D (N o10 L L) L))) (N o02 (N o09 (N o0o (N o0M L L) (N o17 L L)) q06) (N o00 q07 (N o0G (N o12 L L) L))))) (N b2 (N b4 (N b8 (N o01 (N o0h (N o0J L L) (N o00 L L)) q08) (N o0c q09 (N o01 (N o0Z L L) L))) (N o0Y (N o08 (N o0b (N o01 L L) (N o16 L L)) q0b) (N o0e q0c (N o0F (N o01 L L) L)))) (N b6 (N b10 (N o00 (N o0j (N o0L L L) (N o15 L L)) q0d) (N o01 q0e (N o00 (N o11 L L) L))) (N o03 (N o0a (N o00 (N o00 L L) (N o18 L L)) (N o0C (N o00 L L) L)) (N o0f q0f (N o0H (N o13 L L) L))))))
def q0j:BT:=(N o00 (N o2L L L) L)
def q0k:BT:=(N o1Y (N o00 L L) L)
def q0l:BT:=(N o00 (N o37 L L) L)
def q0m:BT:=(N o2n (N o3S L L) L)
def q0n:BT:=(N o1x (N o2Y L L) L)
def q0o:BT:=(N o28 (N o3E L L) L)
def q0p:BT:=(N o1P (N o0b L L) L)
def q0q:BT:=(N o00 (N o41 L L) L)
def q0r:BT:=(N o1s (N o0b L L) L)
def q0s:BT:=(N o23 (N o3z L L) L)
def q0t:BT:=(N o01 (N o3c L L) L)
def q0u:BT:=(N o2x (N o00 L L) L)
def q0v:BT:=(N o1C (N o00 L L) L)
def q0w:BT:=(N o00 (N o0b L L) L)
def q0x:BT:=(N o00 (N o3q L L) L)
def q0y:BT:=(N o2G (N o46 L L) L)
def q0z:BT:=(N o00 (N o2O L L) L)
def q0A:BT:=(N o01 (N o00 L L) L)
def q0B:BT:=(N o1I (N o01 L L) L)
def q0C:BT:=(N o2r (N o3V L L) L)
def q0D:BT:=(N o1z (N o31 L L) L)
def q0E:BT:=(N o2c (N o3I L L) L)
def q0F:BT:=(N o1S (N o3o L L) L)
def q0G:BT:=(N o01 (N o2W L L) L)
def q0H:BT:=(N o25 (N o01 L L) L)
def q0I:BT:=(N o1N (N o3g L L) L)
def q0J:BT:=(N o2A (N o00 L L) L)
def q0K:BT:=(N o01 (N o3Q L L) L)
def q0L:BT:=(N o00 (N o3t L L) L)
def q0M:BT:=(N o01 (N o4a L L) L)
def q0N:BT:=(N o1p (N o00 L L) L)
def q0O:BT:=(N o20 (N o3w L L) L)
def q0P:BT:=(N o1H (N o39 L L) L)
def q0Q:BT:=(N o2p (N o3T L L) L)
def q0R:BT:=(N o00 (N o2Z L L) L)
def q0S:BT:=(N o2a (N o3G L L) L)
def q0T:BT:=(N o1Q (N o00 L L) L)
def q0U:BT:=(N o2D (N o43 L L) L)
def q0V:BT:=(N o1u (N o00 L L) L)
def q0W:BT:=(N o00 (N o3B L L) L)
def q0X:BT:=(N o00 (N o3e L L) L)
def q0Y:BT:=(N o2y (N o3Y L L) L)
def q0Z:BT:=(N o01 (N o34 L L) L)
def q10:BT:=(N o2k (N o00 L L) L)
def q11:BT:=(N o1V (N o3r L L) L)
def q12:BT:=(N o2I (N o48 L L) L)
def q13:BT:=(N o1r (N o2Q L L) L)
def q14:BT:=(N o00 (N o3y L L) L)
def q15:BT:=(N o1K (N o00 L L) L)
def q16:BT:=(N o2w (N o01 L L) L)
def q17:BT:=(N o1A (N o01 L L) L)
def q18:BT:=(N o2e (N o3K L L) L)
def q19:BT:=(N o2F (N o00 L L) L)
def q1a:BT:=(N o26 (N o00 L L) L)
def q1b:BT:=(N o00 (N o3i L L) L)
def q1c:BT:=(N o01 (N o40 L L) L)
def q1d:BT:=(N o1F (N o36 L L) L)
def q1e:BT:=(N o2m (N o00 L L) L)
def q1f:BT:=(N o1X (N o01 L L) L)
def q1g:BT:=(N o00 (N o4c L L) L)
def q1h:BT:=(N o1o (N o2M L L) L)
def q1i:BT:=(N o1Z (N o3v L L) L)
def q1j:BT:=(N o01 (N o38 L L) L)
def q1k:BT:=(N o1y (N o00 L L) L)
def q1l:BT:=(N o29 (N o3F L L) L)
def q1m:BT:=(N o00 (N o3m L L) L)
def q1n:BT:=(N o2C (N o42 L L) L)
def q1o:BT:=(N o1t (N o2U L L) L)
def q1p:BT:=(N o24 (N o3A L L) L)
def q1q:BT:=(N o1L (N o3d L L) L)
def q1r:BT:=(N o00 (N o3X L L) L)
def q1s:BT:=(N o00 (N o33 L L) L)
def q1t:BT:=(N o0b (N o3O L L) L)
def q1u:BT:=(N o1U (N o00 L L) L)
def q1v:BT:=(N o2H (N o47 L L) L)
def q1w:BT:=(N o01 (N o2P L L) L)
def q1x:BT:=(N o21 (N o01 L L) L)
def q1y:BT:=(N o1J (N o3a L L) L)
def q1z:BT:=(N o2s (N o00 L L) L)
def q1A:BT:=(N o2d (N o3J L L) L)
def q1B:BT:=(N o00 (N o3p L L) L)
def q1C:BT:=(N o01 (N o44 L L) L)
def q1D:BT:=(N o1v (N o2X L L) L)
def q1E:BT:=(N o00 (N o3C L L) L)
def q1F:BT:=(N o1O (N o3h L L) L)
def q1G:BT:=(N o1E (N o01 L L) L)
def q1H:BT:=(N o2l (N o3R L L) L)
def q1I:BT:=(N o2J (N o4b L L) L)
def q1J:BT:=(N o1q (N o2N L L) L)
def q1K:BT:=(N o00 (N o3x L L) L)
def q1L:BT:=(N o2q (N o3U L L) L)
def q1M:BT:=(N o01 (N o30 L L) L)
def q1N:BT:=(N o2b (N o3H L L) L)
def q1O:BT:=(N o1R (N o3n L L) L)
def q1P:BT:=(N o2E (N o00 L L) L)
def q1Q:BT:=(N o00 (N o2V L L) L)
def q1R:BT:=(N o1M (N o3f L L) L)
def q1S:BT:=(N o2z (N o3Z L L) L)
def q1T:BT:=(N o1D (N o35 L L) L)
def q1U:BT:=(N o00 (N o3P L L) L)
def q1V:BT:=(N o1W (N o3s L L) L)
def q1W:BT:=(N o00 (N o49 L L) L)
def q1X:BT:=(N o00 (N o2w L L) L)
def q1Y:BT:=(N o22 (N o00 L L) L)
def q1Z:BT:=(N o00 (N o3b L L) L)
def q20:BT:=(N o0b (N o3W L L) L)
def q21:BT:=(N o1B (N o32 L L) L)
def q22:BT:=(N o2f (N o2w L L) L)
def q23:BT:=(N o1T (N o01 L L) L)
def q24:BT:=(N o00 (N o45 L L) L)
def q25:BT:=(N o1w (N o01 L L) L)
def q26:BT:=(N o27 (N o3D L L) L)
def q27:BT:=(N o01 (N o2w L L) L)
def q28:BT:=(N o2B (N o00 L L) L)
def q29:BT:=(N o1G (N o00 L L) L)
def q2a:BT:=(N o00 (N o3u L L) L)
def q2b:BT:=(N o1n q2a (N o2K L L))
def tree_529_:BT:=(N b0 (N b1 (N o3L (N b7 (N o00 (N o0x (N o0I q0j q0k) (N o14 q0l q0m)) (N o0n (N o0S q0n q0o) (N o01 q0p q0q))) (N o0b (N o01 (N o0N q0r q0s) (N o00 q0t q0u)) (N o00 (N o01 q0v q0w) (N o1j q0x q0y)))) (N o00 (N o07 (N o0n (N o00 q0z q0A) (N o00 q0B q0C)) (N o0z (N o0U q0D q0E) (N o1h q0F q0d))) (N o0d (N o0r (N o01 q0G q0H) (N o1c q0I q0J)) (N o0E (N o00 q0e q0K) (N o1m q0L q0M))))) (N b5 (N b9 (N o06 (N o0i (N o0K q0N q0O) (N o01 q0P q0Q)) (N o0y (N o00 q0R q0S) (N o00 q0T q0U))) (N o00 (N o0q (N o0P q0V q0W) (N o1b q0X q0Y)) (N o0D (N o10 q0Z q10) (N o1k q11 q12)))) (N o02 (N o09 (N o0o (N o0M q13 q14) (N o17 q15 q16)) (N o0B (N o0W q17 q18) (N o00 q0A q19))) (N o00 (N o0t (N o00 q0e q1a) (N o1e q1b q1c)) (N o0G (N o12 q1d q1e) (N o01 q1f q1g)))))) (N b2 (N b4 (N b8 (N o01 (N o0h (N o0J q1h q1i) (N o00 q1j (N o3N (N o00 L L) L))) (N o0b (N o0T q1k q1l) (N o1f q1m q1n))) (N o0c (N o0p (N o0O q1o q1p) (N o0b q1q q1r)) (N o01 (N o0Z q1s q1t) (N o00 q1u q1v)))) (N o3M (N o08 (N o0b (N o01 q1w q1x) (N o16 q1y q1z)) (N o0A (N o0V q0e q1A) (N o1i q1B q1C))) (N o0e (N o0s (N o0Q q1D q1E) (N o1d q1F q0d)) (N o0F (N o01 q1G q1H) (N o00 q0A q1I))))) (N b6 (N b10 (N o00 (N o0j (N o0L q1J q1K) (N o15 q0e q1L)) (N o00 (N o01 q1M q1N) (N o1g q1O q1P))) (N o01 (N o00 (N o00 q1Q q0A) (N o00 q1R q1S)) (N o00 (N o11 q1T q1U) (N o1l q1V q1W)))) (N o03 (N o0a (N o00 (N o00 q1X q1Y) (N o18 q1Z q20)) (N o0C (N o00 q21 q22) (N o01 q23 q24))) (N o0f (N o0u (N o0R q25 q26) (N o00 q27 q28)) (N o0H (N o13 q29 q0d) q2b))))))
def q2c:BT:=(N o0I (N o00 L L) (N o1Y L L))
def q2d:BT:=(N o14 (N o00 L L) L)
def q2e:BT:=(N o0S (N o1x L L) (N o28 L L))
def q2f:BT:=(N o01 (N o1P L L) L)
def q2g:BT:=(N o0N (N o1s L L) (N o23 L L))
def q2h:BT:=(N o1j (N o00 L L) L)
def q2i:BT:=(N o00 (N o01 (N o1C L L) L) q2h)
def q2j:BT:=(N o00 (N o00 L L) (N o01 L L))
def q2k:BT:=(N o00 (N o1I L L) L)
def q2l:BT:=(N o0U (N o1z L L) (N o2c L L))
def q2m:BT:=(N o1h (N o1S L L) L)
def q2n:BT:=(N o01 (N o01 L L) (N o25 L L))
def q2o:BT:=(N o0r q2n (N o1c (N o1N L L) L))
def q2p:BT:=(N o1m (N o00 L L) L)
def q2q:BT:=(N o0K (N o1p L L) (N o20 L L))
def q2r:BT:=(N o01 (N o1H L L) L)
def q2s:BT:=(N o00 (N o00 L L) (N o2a L L))
def q2t:BT:=(N o00 (N o1Q L L) L)
def q2u:BT:=(N o0P (N o1u L L) (N o00 L L))
def q2v:BT:=(N o0q q2u (N o1b (N o00 L L) L))
def q2w:BT:=(N o1k (N o1V L L) L)
def q2x:BT:=(N o0D (N o10 (N o01 L L) L) q2w)
def q2y:BT:=(N o17 (N o1K L L) L)
def q2z:BT:=(N o0W (N o1A L L) (N o2e L L))
def q2A:BT:=(N o09 (N o0o (N o0M (N o1r L L) (N o00 L L)) q2y) (N o0B q2z q0d))
def q2B:BT:=(N o00 (N o00 L L) (N o26 L L))
def q2C:BT:=(N o1e (N o00 L L) L)
def q2D:BT:=(N o12 (N o1F L L) L)
def q2E:BT:=(N o01 (N o1X L L) L)
def q2F:BT:=(N o0J (N o1o L L) (N o1Z L L))
def q2G:BT:=(N o0T (N o1y L L) (N o29 L L))
def q2H:BT:=(N o1f (N o00 L L) L)
def q2I:BT:=(N o0O (N o1t L L) (N o24 L L))
def q2J:BT:=(N o0b (N o1L L L) L)
def q2K:BT:=(N o00 (N o1U L L) L)
def q2L:BT:=(N o01 (N o0Z (N o00 L L) L) q2K)
def q2M:BT:=(N o01 (N o01 L L) (N o21 L L))
def q2N:BT:=(N o16 (N o1J L L) L)
def q2O:BT:=(N o0V (N o00 L L) (N o2d L L))
def q2P:BT:=(N o1i (N o00 L L) L)
def q2Q:BT:=(N o0Q (N o1v L L) (N o00 L L))
def q2R:BT:=(N o1d (N o1O L L) L)
def q2S:BT:=(N o01 (N o1E L L) L)
def q2T:BT:=(N o0L (N o1q L L) (N o00 L L))
def q2U:BT:=(N o15 (N o00 L L) L)
def q2V:BT:=(N o01 (N o01 L L) (N o2b L L))
def q2W:BT:=(N o1g (N o1R L L) L)
def q2X:BT:=(N o00 (N o1M L L) L)
def q2Y:BT:=(N o1l (N o1W L L) L)
def q2Z:BT:=(N o00 (N o11 (N o1D L L) L) q2Y)
def q30:BT:=(N o00 (N o00 L L) (N o22 L L))
def q31:BT:=(N o18 (N o00 L L) L)
def q32:BT:=(N o00 (N o1B L L) (N o2f L L))
def q33:BT:=(N o01 (N o1T L L) L)
def q34:BT:=(N o0a (N o00 q30 q31) (N o0C q32 q33))
def q35:BT:=(N o0R (N o1w L L) (N o27 L L))
def q36:BT:=(N o13 (N o1G L L) L)
def q37:BT:=(N o1n (N o00 L L) L)
def tree_260_:BT:=(N b0 (N b1 (N o19 (N b7 (N o00 (N o0x q2c q2d) (N o0n q2e q2f)) (N o0b (N o01 q2g q0d) q2i)) (N o00 (N o07 (N o0n q2j q2k) (N o0z q2l q2m)) (N o0d q2o (N o0E q0e q2p)))) (N b5 (N b9 (N o06 (N o0i q2q q2r) (N o0y q2s q2t)) (N o00 q2v q2x)) (N o02 q2A (N o00 (N o0t q2B q2C) (N o0G q2D q2E))))) (N b2 (N b4 (N b8 (N o01 (N o0h q2F q0d) (N o0b q2G q2H)) (N o0c (N o0p q2I q2J) q2L)) (N o1a (N o08 (N o0b q2M q2N) (N o0A q2O q2P)) (N o0e (N o0s q2Q q2R) (N o0F q2S q0d)))) (N b6 (N b10 (N o00 (N o0j q2T q2U) (N o00 q2V q2W)) (N o01 (N o00 q2j q2X) q2Z)) (N o03 q34 (N o0f (N o0u q35 q0d) (N o0H q36 q37))))))
def heap_873_:PySem.Heap:=(Heap.mk (Array.mk [b0,b1,b2,o71,b4,b5,b6,b7,b8,b9,b10,o00,o72,o02,o03,o00,o01,o06,o00,o07,o08,o09,o0a,o0b,o0c,o00,o01,o0d,o0e,o00,o0f,o0x,o0h,o0i,o0j,o0n,o0b,o0o,o00,o01,o0p,o0q,o00,o0r,o0s,o0t,o0u,o0n,o0b,o0y,o00,o0z,o0A,o0B,o0C,o00,o01,o0D,o00,o0E,o0F,o0G,o0H,o0I,o0J,o0K,o0L,o00,o01,o0M,o00,o0N,o0O,o0P,o00,o01,o0Q,o00,o0R,o0S,o0T,o00,o01,o0U,o0V,o0W,o00,o01,o0Z,o10,o11,o00,o01,o12,o13,o14,o00,o01,o15,o00,o16,o17,o18,o00,o0b,o1b,o00,o1c,o1d,o1e,o00,o01,o1f,o00,o1g,o1h,o1i,o00,o01,o1j,o00,o1k,o1l,o1m,o00,o01,o1n,o00,o1o,o1p,o1q,o00,o01,o1r,o00,o1s,o1t,o1u,o00,o01,o1v,o00,o1w,o1x,o1y,o00,o01,o1z,o00,o1A,o1B,o1C,o00,o01,o1D,o00,o1E,o1F,o1G,o00,o01,o1H,o00,o1I,o1J,o1K,o00,o01,o1L,o00,o1M,o1N,o1O,o00,o01,o1P,o00,o1Q,o1R,o1S,o00,o01,o1T,o00,o1U,o1V,o1W,o00,o01,o1X,o00,o1Y,o1Z,o20,o00,o01,o21,o00,o22,o23,o24,o00,o01,o25,o00,o26,o27,o28,o29,o2a,o2b,o2c,o2d,o2e,o2f,o00,o0b,o2k,o00,o01,o2l,o2m,o00,o2n,o59,o2p,o2q,o2r,o2s,o2w,o0b,o2x,o00,o2y,o2z,o2A,o00,o01,o2B,o00,o2C,o2D,o2E,o00,o01,o2F,o00,o2G,o2H,o2I,o00,o01,o2J,o00,o2K,o2L,o2M,o00,o2N,o2O,o2P,o2Q,o2w,o0b,o2U,o00,o2V,o2W,o2X,o00,o01,o2Y,o00,o2Z,o30,o31,o00,o01,o32,o00,o33,o34,o35,o00,o01,o36,o00,o37,o38,o39,o00,o01,o3a,o00,o3b,o3c,o3d,o3e,o3f,o3g,o3h,o3i,o2w,o0b,o3m,o00,o3n,o3o,o3p,o00,o01,o3q,o00,o3r,o3s,o3t,o00,o01,o3u,o00,o3v,o3w,o3x,o00,o01,o3y,o00,o3z,o3A,o3B,o00,o01,o3C,o00,o3D,o3E,o3F,o3G,o3H,o3I,o3J,o3K,o2w,o0b,o3O,o00,o3P,o3Q,o3R,o00,o01,o3S,o00,o3T,o3U,o3V,o00,o01,o3W,o00,o3X,o3Y,o3Z,o00,o01,o40,o00,o41,o42,o43,o00,o01,o44,o00,o45,o46,o47,o48,o49,o4a,o4b,o4c,o2w,o0b,o4g,o00,o4h,o4i,o4j,o00,o01,o4k,o00,o4l,o4m,o4n,o00,o01,o4o,o00,o4p,o4q,o4r,o00,o01,o4s,o00,o4t,o4u,o4v,o00,o01,o4w,o00,o4x,o4y,o4z,o4A,o4B,o4C,o4D,o4E,o2w,o0b,o4I,o00,o4J,o4K,o4L,o00,o01,o4M,o00,o4N,o4O,o4P,o00,o01,o4Q,o00,o4R,o4S,o4T,o00,o01,o4U,o00,o4V,o4W,o4X,o00,o01,o4Y,o00,o4Z,o50,o51,o52,o53,o54,o55,o56,o2w,o0b,o5a,o00,o5b,o5c,o5d,o00,o01,o5e,o00,o5f,o5g,o5h,o00,o01,o5i,o00,o5j,o5k,o5l,o00,o01,o5m,o00,o5n,o5o,o5p,o00,o01,o5q,o00,o5r,o5s,o5t,o5u,o5v,o5w,o5x,o5y,o00,o01,o5z,o00,o5A,o5B,o5C,o00,o01,o5F,o00,o5G,o5H,o5I,o00,o01,o5J,o00,o5K,o5L,o5M,o00,o01,o5N,o5O,o5P,o00,o01,o5Q,o00,o5R,o5S,o5T,o00,o01,o5U,o00,o5V,o5W,o5X,o00,o0b,o5Y,o00,o5Z,o60,o61,o00,o01,o62,o00,o63,o64,o65,o66,o67,o68,o69,o6a,o6b,o6c,o00,o01,o6f,o00,o6g,o6h,o6i,o00,o01,o6j,o00,o6k,o6l,o6m,o00,o01,o6n,o00,o6o,o6p,o6q,o00,o01,o6r,o00,o6s,o6t,o6u,o00,o01,o6v,o00,o6w,o6x,o6y,o00,o01,o6z,o00,o6A,o6B,o6C,o00,o01,o6D,o00,o6E,o6F,o6G,o00,o01,o6H,o00,o6I,o6J,o6K,o00,o01,o6L,o6M,o6N,o00,o01,o6O,o00,o6P,o6Q,o6R,o00,o01,o6S,o6T,o6U,o00,o01,o6V,o6W,o6X,o00,o01,o6Y,o6Z,o70,o00,o01,o73,o00,o74,o75,o76,o00,o01,o77,o00,o78,o79,o7a,o00,o01,o7b,o7c,o7d,o00,o01,o7e,o7f,o7g,o00,o01,o7h,o7i,o7j,o00,o01,o7k,o00,o7l,o7m,o7n,o00,o01,o7o,o00,o7p,o7q,o7r,o00,o01,o7s,o00,o7t,o7u,o7v,o00,o01,o7w,o00,o7x,o7y,o7z,o00,o01,o7A,o00,o7B,o7C,o7D]) (Life.mk [] [] [] 0 [] [] false #[] [] 0 false false false 0 [2000,10,10] false 0 true [] [] 0 false))
def q38:BT:=(N o2L (N o5F L L) L)
def q39:BT:=(N o1Y (N o00 L L) (N o4V L L))
def q3a:BT:=(N o37 (N o0b L L) L)
def q3b:BT:=(N o00 q3a (N o4y L L))
def q3c:BT:=(N o2n (N o3S L L) (N o00 L L))
def q3d:BT:=(N o2Y (N o5P L L) L)
def q3e:BT:=(N o1x q3d (N o00 L L))
def q3f:BT:=(N o28 (N o3E L L) (N o0b L L))
def q3g:BT:=(N o0b (N o69 L L) L)
def q3h:BT:=(N o1P q3g (N o4M L L))
def q3i:BT:=(N o00 (N o41 L L) (N o5s L L))
def q3j:BT:=(N o0b (N o00 L L) L)
def q3k:BT:=(N o1s q3j (N o4k L L))
def q3l:BT:=(N o23 (N o3z L L) (N o50 L L))
def q3m:BT:=(N o3c (N o62 L L) L)
def q3n:BT:=(N o01 q3m (N o0b L L))
def q3o:BT:=(N o2x (N o00 L L) (N o5n L L))
def q3p:BT:=(N o1C q0e (N o4t L L))
def q3q:BT:=(N o00 (N o0b L L) (N o5e L L))
def q3r:BT:=(N o00 (N o3q L L) (N o00 L L))
def q3s:BT:=(N o1j q3r (N o2G (N o46 L L) (N o01 L L)))
def q3t:BT:=(N o2O (N o5I L L) L)
def q3u:BT:=(N o01 (N o00 L L) (N o01 L L))
def q3v:BT:=(N o01 (N o60 L L) L)
def q3w:BT:=(N o1I q3v (N o4C L L))
def q3x:BT:=(N o2r (N o3V L L) (N o00 L L))
def q3y:BT:=(N o31 (N o00 L L) L)
def q3z:BT:=(N o1z q3y (N o00 L L))
def q3A:BT:=(N o2c (N o3I L L) (N o5c L L))
def q3B:BT:=(N o1S (N o3o L L) (N o4P L L))
def q3C:BT:=(N o1h q3B (N o00 (N o01 L L) (N o5w L L)))
def q3D:BT:=(N o2W (N o00 L L) L)
def q3E:BT:=(N o01 q3D (N o4n L L))
def q3F:BT:=(N o25 (N o01 L L) (N o54 L L))
def q3G:BT:=(N o3g (N o65 L L) L)
def q3H:BT:=(N o1N q3G (N o4K L L))
def q3I:BT:=(N o2A (N o00 L L) (N o01 L L))
def q3J:BT:=(N o00 (N o5V L L) L)
def q3K:BT:=(N o00 q3J (N o01 L L))
def q3L:BT:=(N o01 (N o3Q L L) (N o5h L L))
def q3M:BT:=(N o00 (N o3t L L) (N o00 L L))
def q3N:BT:=(N o1m q3M (N o01 (N o4a L L) (N o5B L L)))
def q3O:BT:=(N o00 (N o5G L L) L)
def q3P:BT:=(N o20 (N o3w L L) (N o4X L L))
def q3Q:BT:=(N o39 (N o00 L L) L)
def q3R:BT:=(N o1H q3Q (N o4A L L))
def q3S:BT:=(N o2p (N o3T L L) (N o5k L L))
def q3T:BT:=(N o2Z (N o01 L L) L)
def q3U:BT:=(N o00 q3T (N o4q L L))
def q3V:BT:=(N o2a (N o3G L L) (N o00 L L))
def q3W:BT:=(N o00 (N o6b L L) L)
def q3X:BT:=(N o1Q q3W (N o4N L L))
def q3Y:BT:=(N o2D (N o43 L L) (N o5u L L))
def q3Z:BT:=(N o00 (N o5L L L) L)
def q40:BT:=(N o1u q3Z (N o4l L L))
def q41:BT:=(N o00 (N o3B L L) (N o52 L L))
def q42:BT:=(N o3e (N o63 L L) L)
def q43:BT:=(N o00 q42 (N o00 L L))
def q44:BT:=(N o2y (N o3Y L L) (N o5p L L))
def q45:BT:=(N o34 (N o5U L L) L)
def q46:BT:=(N o01 q45 (N o4v L L))
def q47:BT:=(N o2k (N o00 L L) (N o5f L L))
def q48:BT:=(N o1V (N o3r L L) (N o4S L L))
def q49:BT:=(N o1k q48 (N o2I (N o48 L L) (N o00 L L)))
def q4a:BT:=(N o2Q (N o01 L L) L)
def q4b:BT:=(N o00 (N o3y L L) (N o00 L L))
def q4c:BT:=(N o1K q0e (N o4E L L))
def q4d:BT:=(N o2w (N o01 L L) (N o5m L L))
def q4e:BT:=(N o01 (N o5S L L) L)
def q4f:BT:=(N o1A q4e (N o4s L L))
def q4g:BT:=(N o2e (N o3K L L) (N o00 L L))
def q4h:BT:=(N o00 q3u (N o2F (N o00 L L) (N o5y L L)))
def q4i:BT:=(N o00 (N o5N L L) L)
def q4j:BT:=(N o00 q4i (N o01 L L))
def q4k:BT:=(N o26 (N o00 L L) (N o56 L L))
def q4l:BT:=(N o3i (N o67 L L) L)
def q4m:BT:=(N o00 q4l (N o00 L L))
def q4n:BT:=(N o01 (N o40 L L) (N o00 L L))
def q4o:BT:=(N o36 (N o5X L L) L)
def q4p:BT:=(N o1F q4o (N o00 L L))
def q4q:BT:=(N o2m (N o00 L L) (N o01 L L))
def q4r:BT:=(N o1X (N o01 L L) (N o4U L L))
def q4s:BT:=(N o2M (N o00 L L) L)
def q4t:BT:=(N o1Z (N o3v L L) (N o4W L L))
def q4u:BT:=(N o38 (N o5Y L L) L)
def q4v:BT:=(N o01 q4u (N o4z L L))
def q4w:BT:=(N o59 (N o00 L L) (N o5j L L))
def q4x:BT:=(N o1y q0e (N o4p L L))
def q4y:BT:=(N o29 (N o3F L L) (N o5a L L))
def q4z:BT:=(N o3m (N o6a L L) L)
def q4A:BT:=(N o00 q4z (N o00 L L))
def q4B:BT:=(N o2C (N o42 L L) (N o5t L L))
def q4C:BT:=(N o2U (N o5K L L) L)
def q4D:BT:=(N o1t q4C (N o00 L L))
def q4E:BT:=(N o24 (N o3A L L) (N o51 L L))
def q4F:BT:=(N o3d (N o00 L L) L)
def q4G:BT:=(N o1L q4F (N o4I L L))
def q4H:BT:=(N o00 (N o3X L L) (N o5o L L))
def q4I:BT:=(N o33 (N o01 L L) L)
def q4J:BT:=(N o00 q4I (N o4u L L))
def q4K:BT:=(N o0b (N o3O L L) (N o00 L L))
def q4L:BT:=(N o1U (N o00 L L) (N o4R L L))
def q4M:BT:=(N o00 q4L (N o2H (N o47 L L) (N o5z L L)))
def q4N:BT:=(N o2P (N o00 L L) L)
def q4O:BT:=(N o21 (N o01 L L) (N o4Y L L))
def q4P:BT:=(N o3a (N o61 L L) L)
def q4Q:BT:=(N o1J q4P (N o4D L L))
def q4R:BT:=(N o2s (N o00 L L) (N o01 L L))
def q4S:BT:=(N o00 (N o5R L L) L)
def q4T:BT:=(N o00 q4S (N o01 L L))
def q4U:BT:=(N o2d (N o3J L L) (N o5d L L))
def q4V:BT:=(N o00 (N o3p L L) (N o00 L L))
def q4W:BT:=(N o1i q4V (N o01 (N o44 L L) (N o5x L L)))
def q4X:BT:=(N o2X (N o01 L L) L)
def q4Y:BT:=(N o1v q4X (N o00 L L))
def q4Z:BT:=(N o00 (N o3C L L) (N o55 L L))
def q50:BT:=(N o3h (N o66 L L) L)
def q51:BT:=(N o1O q50 (N o4L L L))
def q52:BT:=(N o00 (N o01 L L) (N o5q L L))
def q53:BT:=(N o01 (N o5W L L) L)
def q54:BT:=(N o1E q53 (N o4w L L))
def q55:BT:=(N o2l (N o3R L L) (N o00 L L))
def q56:BT:=(N o00 q3u (N o2J (N o4b L L) (N o5C L L)))
def q57:BT:=(N o2N (N o5H L L) L)
def q58:BT:=(N o00 (N o3x L L) (N o00 L L))
def q59:BT:=(N o00 (N o5Z L L) L)
def q5a:BT:=(N o00 q59 (N o4B L L))
def q5b:BT:=(N o2q (N o3U L L) (N o5l L L))
def q5c:BT:=(N o30 (N o5Q L L) L)
def q5d:BT:=(N o01 q5c (N o4r L L))
def q5e:BT:=(N o2b (N o3H L L) (N o5b L L))
def q5f:BT:=(N o3n (N o6c L L) L)
def q5g:BT:=(N o1R q5f (N o4O L L))
def q5h:BT:=(N o2E (N o00 L L) (N o5v L L))
def q5i:BT:=(N o2V (N o5M L L) L)
def q5j:BT:=(N o00 q5i (N o4m L L))
def q5k:BT:=(N o01 (N o00 L L) (N o53 L L))
def q5l:BT:=(N o3f (N o64 L L) L)
def q5m:BT:=(N o1M q5l (N o4J L L))
def q5n:BT:=(N o2z (N o3Z L L) (N o00 L L))
def q5o:BT:=(N o35 (N o00 L L) L)
def q5p:BT:=(N o1D q5o (N o00 L L))
def q5q:BT:=(N o00 (N o3P L L) (N o5g L L))
def q5r:BT:=(N o1W (N o3s L L) (N o4T L L))
def q5s:BT:=(N o1l q5r (N o00 (N o49 L L) (N o5A L L)))
def q5t:BT:=(N o2w (N o5J L L) L)
def q5u:BT:=(N o00 q5t (N o01 L L))
def q5v:BT:=(N o22 (N o00 L L) (N o4Z L L))
def q5w:BT:=(N o3b (N o01 L L) L)
def q5x:BT:=(N o00 q5w (N o2w L L))
def q5y:BT:=(N o0b (N o3W L L) (N o00 L L))
def q5z:BT:=(N o32 (N o5T L L) L)
def q5A:BT:=(N o1B q5z (N o00 L L))
def q5B:BT:=(N o2f (N o2w L L) (N o01 L L))
def q5C:BT:=(N o1T (N o01 L L) (N o4Q L L))
def q5D:BT:=(N o01 q5C (N o00 (N o45 L L) (N o00 L L)))
def q5E:BT:=(N o01 (N o5O L L) L)
def q5F:BT:=(N o1w q5E (N o4o L L))
def q5G:BT:=(N o27 (N o3D L L) (N o2w L L))
def q5H:BT:=(N o2w (N o68 L L) L)
def q5I:BT:=(N o01 q5H (N o01 L L))
def q5J:BT:=(N o2B (N o00 L L) (N o5r L L))
def q5K:BT:=(N o1G q0e (N o4x L L))
def q5L:BT:=(N o00 (N o01 L L) (N o5i L L))
def q5M:BT:=(N o00 (N o3u L L) (N o00 L L))
def tree_721_:BT:=(N b0 (N b1 (N o5D (N b7 (N o00 (N o0x (N o0I (N o00 q38 (N o0b L L)) q39) (N o14 q3b q3c)) (N o0n (N o0S q3e q3f) (N o01 q3h q3i))) (N o0b (N o01 (N o0N q3k q3l) (N o00 q3n q3o)) (N o00 (N o01 q3p q3q) q3s))) (N o00 (N o07 (N o0n (N o00 (N o00 q3t (N o4i L L)) q3u) (N o00 q3w q3x)) (N o0z (N o0U q3z q3A) q3C)) (N o0d (N o0r (N o01 q3E q3F) (N o1c q3H q3I)) (N o0E (N o00 q3K q3L) q3N)))) (N b5 (N b9 (N o06 (N o0i (N o0K (N o1p q3O (N o00 L L)) q3P) (N o01 q3R q3S)) (N o0y (N o00 q3U q3V) (N o00 q3X q3Y))) (N o00 (N o0q (N o0P q40 q41) (N o1b q43 q44)) (N o0D (N o10 q46 q47) q49))) (N o02 (N o09 (N o0o (N o0M (N o1r q4a (N o00 L L)) q4b) (N o17 q4c q4d)) (N o0B (N o0W q4f q4g) q4h)) (N o00 (N o0t (N o00 q4j q4k) (N o1e q4m q4n)) (N o0G (N o12 q4p q4q) (N o01 q4r (N o00 (N o4c L L) (N o00 L L)))))))) (N b2 (N b4 (N b8 (N o01 (N o0h (N o0J (N o1o q4s (N o4g L L)) q4t) (N o00 q4v q4w)) (N o0b (N o0T q4x q4y) (N o1f q4A q4B))) (N o0c (N o0p (N o0O q4D q4E) (N o0b q4G q4H)) (N o01 (N o0Z q4J q4K) q4M))) (N o5E (N o08 (N o0b (N o01 (N o01 q4N (N o4j L L)) q4O) (N o16 q4Q q4R)) (N o0A (N o0V q4T q4U) q4W)) (N o0e (N o0s (N o0Q q4Y q4Z) (N o1d q51 q52)) (N o0F (N o01 q54 q55) q56)))) (N b6 (N b10 (N o00 (N o0j (N o0L (N o1q q57 (N o4h L L)) q58) (N o15 q5a q5b)) (N o00 (N o01 q5d q5e) (N o1g q5g q5h))) (N o01 (N o00 (N o00 q5j q5k) (N o00 q5m q5n)) (N o00 (N o11 q5p q5q) q5s))) (N o03 (N o0a (N o00 (N o00 q5u q5v) (N o18 q5x q5y)) (N o0C (N o00 q5A q5B) q5D)) (N o0f (N o0u (N o0R q5F q5G) (N o00 q5I q5J)) (N o0H (N o13 q5K q5L) (N o1n q5M (N o2K (N o2w L L) (N o01 L L)))))))))
def q5N:BT:=(N o14 (N o00 L L) (N o2n L L))
def q5O:BT:=(N o01 (N o1C L L) (N o00 L L))
def q5P:BT:=(N o00 (N o1I L L) (N o2r L L))
def q5Q:BT:=(N o01 (N o1H L L) (N o2p L L))
def q5R:BT:=(N o10 (N o01 L L) (N o2k L L))
def q5S:BT:=(N o12 (N o1F L L) (N o2m L L))
def q5T:BT:=(N o0Z (N o00 L L) (N o0b L L))
def q5U:BT:=(N o16 (N o1J L L) (N o2s L L))
def q5V:BT:=(N o01 (N o1E L L) (N o2l L L))
def q5W:BT:=(N o15 (N o00 L L) (N o2q L L))
def q5X:BT:=(N o11 (N o1D L L) (N o00 L L))
def q5Y:BT:=(N o13 (N o1G L L) (N o00 L L))
def tree_364_:BT:=(N b0 (N b1 (N o2i (N b7 (N o00 (N o0x q2c q5N) (N o0n q2e q2f)) (N o0b (N o01 q2g q0d) (N o00 q5O q2h))) (N o00 (N o07 (N o0n q2j q5P) (N o0z q2l q2m)) (N o0d q2o (N o0E q2j q2p)))) (N b5 (N b9 (N o06 (N o0i q2q q5Q) (N o0y q2s q2t)) (N o00 q2v (N o0D q5R q2w))) (N o02 q2A (N o00 (N o0t q2B q2C) (N o0G q5S q2E))))) (N b2 (N b4 (N b8 (N o01 (N o0h q2F (N o00 (N o01 L L) (N o2o L L))) (N o0b q2G q2H)) (N o0c (N o0p q2I q2J) (N o01 q5T q2K))) (N o2j (N o08 (N o0b q2M q5U) (N o0A q2O q2P)) (N o0e (N o0s q2Q q2R) (N o0F q5V q0d)))) (N b6 (N b10 (N o00 (N o0j q2T q5W) (N o00 q2V q2W)) (N o01 (N o00 q2j q2X) (N o00 q5X q2Y))) (N o03 q34 (N o0f (N o0u q35 q0d) (N o0H q5Y q37))))))
def q5Z:BT:=(N o00 q38 (N o0b (N o6W L L) L))
def q60:BT:=(N o00 (N o6l L L) L)
def q61:BT:=(N o2n (N o3S (N o6D L L) L) (N o00 L L))
def q62:BT:=(N o28 (N o3E (N o00 L L) L) (N o0b L L))
def q63:BT:=(N o00 (N o41 (N o6N L L) L) (N o5s L L))
def q64:BT:=(N o23 (N o3z (N o6q L L) L) (N o50 L L))
def q65:BT:=(N o2x q0e (N o5n L L))
def q66:BT:=(N o00 q0a (N o5e L L))
def q67:BT:=(N o3q (N o6g L L) L)
def q68:BT:=(N o2G (N o46 (N o00 L L) L) (N o01 L L))
def q69:BT:=(N o00 q3t (N o4i (N o6Y L L) L))
def q6a:BT:=(N o00 (N o6n L L) L)
def q6b:BT:=(N o2r (N o3V (N o6G L L) L) (N o00 L L))
def q6c:BT:=(N o2c (N o3I (N o6w L L) L) (N o5c L L))
def q6d:BT:=(N o3o (N o00 L L) L)
def q6e:BT:=(N o00 q0A (N o5w L L))
def q6f:BT:=(N o25 q0A (N o54 L L))
def q6g:BT:=(N o2A q0e (N o01 L L))
def q6h:BT:=(N o01 (N o3Q (N o6B L L) L) (N o5h L L))
def q6i:BT:=(N o3t (N o01 L L) L)
def q6j:BT:=(N o01 (N o4a (N o6U L L) L) (N o5B L L))
def q6k:BT:=(N o3w (N o00 L L) L)
def q6l:BT:=(N o2p (N o3T (N o6E L L) L) (N o5k L L))
def q6m:BT:=(N o2a (N o3G (N o6v L L) L) (N o00 L L))
def q6n:BT:=(N o2D (N o43 (N o01 L L) L) (N o5u L L))
def q6o:BT:=(N o00 (N o3B (N o01 L L) L) (N o52 L L))
def q6p:BT:=(N o2y (N o3Y (N o6J L L) L) (N o5p L L))
def q6q:BT:=(N o2k q0e (N o5f L L))
def q6r:BT:=(N o3r (N o6i L L) L)
def q6s:BT:=(N o2I (N o48 (N o6S L L) L) (N o00 L L))
def q6t:BT:=(N o1r q4a (N o00 (N o70 L L) L))
def q6u:BT:=(N o3y (N o6o L L) L)
def q6v:BT:=(N o01 (N o01 L L) L)
def q6w:BT:=(N o2w q6v (N o5m L L))
def q6x:BT:=(N o2e (N o3K (N o6y L L) L) (N o00 L L))
def q6y:BT:=(N o00 (N o6f L L) L)
def q6z:BT:=(N o2F (N o00 (N o6Q L L) L) (N o5y L L))
def q6A:BT:=(N o26 (N o00 (N o6t L L) L) (N o56 L L))
def q6B:BT:=(N o01 (N o40 (N o6L L L) L) (N o00 L L))
def q6C:BT:=(N o2m q0e (N o01 L L))
def q6D:BT:=(N o00 (N o4c (N o01 L L) L) (N o00 L L))
def q6E:BT:=(N o1o q4s (N o4g (N o6X L L) L))
def q6F:BT:=(N o3v (N o6m L L) L)
def q6G:BT:=(N o59 q0e (N o5j L L))
def q6H:BT:=(N o29 (N o3F (N o01 L L) L) (N o5a L L))
def q6I:BT:=(N o2C (N o42 (N o00 L L) L) (N o5t L L))
def q6J:BT:=(N o24 (N o3A (N o00 L L) L) (N o51 L L))
def q6K:BT:=(N o00 (N o3X (N o6I L L) L) (N o5o L L))
def q6L:BT:=(N o0b (N o3O (N o6z L L) L) (N o00 L L))
def q6M:BT:=(N o00 (N o6h L L) L)
def q6N:BT:=(N o2H (N o47 (N o01 L L) L) (N o5z L L))
def q6O:BT:=(N o01 q4N (N o4j (N o6Z L L) L))
def q6P:BT:=(N o2s q0e (N o01 L L))
def q6Q:BT:=(N o2d (N o3J (N o6x L L) L) (N o5d L L))
def q6R:BT:=(N o3p (N o01 L L) L)
def q6S:BT:=(N o01 (N o44 (N o6P L L) L) (N o5x L L))
def q6T:BT:=(N o00 (N o3C (N o6s L L) L) (N o55 L L))
def q6U:BT:=(N o00 q6v (N o5q L L))
def q6V:BT:=(N o2l (N o3R (N o6C L L) L) (N o00 L L))
def q6W:BT:=(N o00 (N o6j L L) L)
def q6X:BT:=(N o2J (N o4b (N o00 L L) L) (N o5C L L))
def q6Y:BT:=(N o1q q57 (N o4h (N o01 L L) L))
def q6Z:BT:=(N o3x (N o01 L L) L)
def q70:BT:=(N o2q (N o3U (N o6F L L) L) (N o5l L L))
def q71:BT:=(N o2b (N o3H (N o00 L L) L) (N o5b L L))
def q72:BT:=(N o2E (N o00 (N o6O L L) L) (N o5v L L))
def q73:BT:=(N o01 (N o00 (N o6r L L) L) (N o53 L L))
def q74:BT:=(N o2z (N o3Z (N o6K L L) L) (N o00 L L))
def q75:BT:=(N o00 (N o3P (N o6A L L) L) (N o5g L L))
def q76:BT:=(N o3s (N o00 L L) L)
def q77:BT:=(N o00 (N o49 (N o6T L L) L) (N o5A L L))
def q78:BT:=(N o22 (N o00 (N o6p L L) L) (N o4Z L L))
def q79:BT:=(N o2w (N o00 L L) L)
def q7a:BT:=(N o0b (N o3W (N o6H L L) L) (N o00 L L))
def q7b:BT:=(N o2f q79 (N o01 L L))
def q7c:BT:=(N o00 (N o45 (N o6R L L) L) (N o00 L L))
def q7d:BT:=(N o27 (N o3D (N o6u L L) L) (N o2w L L))
def q7e:BT:=(N o2B (N o00 (N o6M L L) L) (N o5r L L))
def q7f:BT:=(N o00 q6v (N o5i L L))
def q7g:BT:=(N o3u (N o6k L L) L)
def q7h:BT:=(N o2K (N o2w (N o6V L L) L) (N o01 L L))
def tree_872_:BT:=(N b0 (N b1 (N o71 (N b7 (N o00 (N o0x (N o0I q5Z (N o1Y q60 (N o4V (N o00 L L) L))) (N o14 (N o00 q3a (N o4y (N o01 L L) L)) q61)) (N o0n (N o0S (N o1x q3d (N o00 (N o77 L L) L)) q62) (N o01 (N o1P q3g (N o4M (N o7q L L) L)) q63))) (N o0b (N o01 (N o0N (N o1s q3j (N o4k (N o01 L L) L)) q64) (N o00 (N o01 q3m (N o0b (N o7l L L) L)) q65)) (N o00 (N o01 (N o1C q0e (N o4t (N o7c L L) L)) q66) (N o1j (N o00 q67 (N o00 (N o7v L L) L)) q68)))) (N o00 (N o07 (N o0n (N o00 q69 (N o01 q6a (N o01 (N o7B L L) L))) (N o00 (N o1I q3v (N o4C (N o00 L L) L)) q6b)) (N o0z (N o0U (N o1z q3y (N o00 (N o7a L L) L)) q6c) (N o1h (N o1S q6d (N o4P (N o7s L L) L)) q6e))) (N o0d (N o0r (N o01 (N o01 q3D (N o4n (N o75 L L) L)) q6f) (N o1c (N o1N q3G (N o4K (N o01 L L) L)) q6g)) (N o0E (N o00 (N o00 q3J (N o01 (N o7e L L) L)) q6h) (N o1m (N o00 q6i q0e) q6j))))) (N b5 (N b9 (N o06 (N o0i (N o0K (N o1p q3O q0e) (N o20 q6k (N o4X (N o7A L L) L))) (N o01 (N o1H q3Q (N o4A (N o7i L L) L)) q6l)) (N o0y (N o00 (N o00 q3T (N o4q (N o78 L L) L)) q6m) (N o00 (N o1Q q3W (N o4N (N o00 L L) L)) q6n))) (N o00 (N o0q (N o0P (N o1u q3Z (N o4l (N o00 L L) L)) q6o) (N o1b (N o00 q42 (N o00 (N o7n L L) L)) q6p)) (N o0D (N o10 (N o01 q45 (N o4v (N o00 L L) L)) q6q) (N o1k (N o1V q6r (N o4S (N o01 L L) L)) q6s)))) (N o02 (N o09 (N o0o (N o0M q6t (N o00 q6u (N o00 (N o7D L L) L))) (N o17 (N o1K q0e (N o4E (N o7k L L) L)) q6w)) (N o0B (N o0W (N o1A q4e (N o4s (N o01 L L) L)) q6x) (N o00 (N o01 q6y (N o01 (N o7t L L) L)) q6z))) (N o00 (N o0t (N o00 (N o00 q4i q0A) q6A) (N o1e (N o00 q4l q0e) q6B)) (N o0G (N o12 (N o1F q4o (N o00 (N o7g L L) L)) q6C) (N o01 (N o1X q0A (N o4U (N o7y L L) L)) q6D)))))) (N b2 (N b4 (N b8 (N o01 (N o0h (N o0J q6E (N o1Z q6F (N o4W (N o01 L L) L))) (N o00 (N o01 q4u (N o4z (N o7h L L) L)) q6G)) (N o0b (N o0T (N o1y q0e (N o4p (N o00 L L) L)) q6H) (N o1f (N o00 q4z (N o00 (N o7r L L) L)) q6I))) (N o0c (N o0p (N o0O (N o1t q4C (N o00 (N o73 L L) L)) q6J) (N o0b (N o1L q4F (N o4I (N o7m L L) L)) q6K)) (N o01 (N o0Z (N o00 q4I (N o4u (N o7d L L) L)) q6L) (N o00 (N o1U q6M (N o4R (N o00 L L) L)) q6N)))) (N o72 (N o08 (N o0b (N o01 q6O (N o21 q0A (N o4Y (N o7C L L) L))) (N o16 (N o1J q4P (N o4D (N o01 L L) L)) q6P)) (N o0A (N o0V (N o00 q4S q0A) q6Q) (N o1i (N o00 q6R q0e) q6S))) (N o0e (N o0s (N o0Q (N o1v q4X (N o00 (N o76 L L) L)) q6T) (N o1d (N o1O q50 (N o4L (N o7o L L) L)) q6U)) (N o0F (N o01 (N o1E q53 (N o4w (N o7f L L) L)) q6V) (N o00 (N o01 q6W (N o01 (N o7x L L) L)) q6X))))) (N b6 (N b10 (N o00 (N o0j (N o0L q6Y (N o00 q6Z q0e)) (N o15 (N o00 q59 (N o4B (N o7j L L) L)) q70)) (N o00 (N o01 (N o01 q5c (N o4r (N o79 L L) L)) q71) (N o1g (N o1R q5f (N o4O (N o01 L L) L)) q72))) (N o01 (N o00 (N o00 (N o00 q5i (N o4m (N o74 L L) L)) q73) (N o00 (N o1M q5l (N o4J (N o00 L L) L)) q74)) (N o00 (N o11 (N o1D q5o q0d) q75) (N o1l (N o1W q76 (N o4T (N o7w L L) L)) q77)))) (N o03 (N o0a (N o00 (N o00 (N o00 q5t q0A) q78) (N o18 (N o00 q5w q79) q7a)) (N o0C (N o00 (N o1B q5z (N o00 (N o7b L L) L)) q7b) (N o01 (N o1T q0A (N o4Q (N o7u L L) L)) q7c))) (N o0f (N o0u (N o0R (N o1w q5E (N o4o (N o01 L L) L)) q7d) (N o00 (N o01 q5H (N o01 (N o7p L L) L)) q7e)) (N o0H (N o13 (N o1G q0e (N o4x (N o00 L L) L)) q7f) (N o1n (N o00 q7g (N o00 (N o7z L L) L)) q7h)))))))
def tree_345_:BT:=(N b0 (N b1 (N o0X (N b7 (N o00 (N o0x (N o0I (N o00 L L) L) q2d) (N o0n (N o0S (N o1x L L) L) q2f)) (N o0b (N o01 (N o0N (N o1s L L) L) q0d) q2i)) (N o00 (N o07 (N o0n q0e q2k) (N o0z (N o0U (N o1z L L) L) q2m)) (N o0d (N o0r q6v (N o2h (N o1N L L) L)) (N o0E q0e (N o1m L L))))) (N b5 (N b9 (N o06 (N o0i (N o0K (N o1p L L) L) q2r) (N o0y q0e q2t)) (N o00 (N o0q (N o0P (N o1u L L) L) (N o2g (N o00 L L) L)) q2x)) (N o02 (N o09 (N o0o (N o0M (N o1r L L) L) q2y) (N o0B (N o0W (N o1A L L) L) q0d)) (N o00 (N o0t q0e q2C) (N o0G q2D (N o01 L L)))))) (N b2 (N b4 (N b8 (N o01 (N o0h (N o0J (N o1o L L) L) q0d) (N o0b (N o0T (N o1y L L) L) q2H)) (N o0c (N o0p (N o0O (N o1t L L) L) q2J) q2L)) (N o1a (N o08 (N o0b q6v q2N) (N o0A (N o0V (N o00 L L) L) q2P)) (N o0e (N o0s (N o0Q (N o1v L L) L) q2R) (N o0F q2S (N o00 L L))))) (N b6 (N b10 (N o00 (N o0j (N o0L (N o1q L L) L) q2U) (N o00 q6v q2W)) (N o01 (N o00 q0e q2X) q2Z)) (N o03 (N o0a (N o00 q0e q31) (N o0C (N o00 (N o1B L L) L) q33)) (N o0f (N o0u (N o0R (N o1w L L) L) q0d) (N o0H q36 (N o1n L L)))))))
def tree_47_:BT:=(N b0 (N b1 (N b3 (N b7 L L) (N o00 L L)) (N b5 (N b9 L L) (N o02 L L))) (N b2 (N b4 (N b8 L L) (N o01 L L)) (N b6 (N b10 L L) (N o03 L L))))
def heap_46_:PySem.Heap:=(Heap.mk (Array.mk [b0,b1,b2,b3,b4,b5,b6,b7,b8,b9,b10,o00,o01,o02,o03]) (Life.mk [] [] [] 0 [] [] false #[] [] 0 false false false 0 [2000,10,10] false 0 true [] [] 0 false))
def tree_806_:BT:=(N b0 (N b1 (N o6d (N b7 (N o00 (N o0x (N o0I q5Z (N o1Y q60 (N o4V L L))) (N o14 q3b q61)) (N o0n (N o0S q3e q62) (N o01 q3h q63))) (N o0b (N o01 (N o0N q3k q64) (N o00 q3n q65)) (N o00 (N o01 q3p q66) (N o1j (N o00 q67 (N o00 L L)) q68)))) (N o00 (N o07 (N o0n (N o00 q69 (N o01 q6a (N o01 L L))) (N o00 q3w q6b)) (N o0z (N o0U q3z q6c) (N o1h (N o1S q6d (N o4P L L)) q6e))) (N o0d (N o0r (N o01 q3E q6f) (N o1c q3H q6g)) (N o0E (N o00 q3K q6h) (N o1m (N o00 q6i (N o00 L L)) q6j))))) (N b5 (N b9 (N o06 (N o0i (N o0K (N o1p q3O q0e) (N o20 q6k (N o4X L L))) (N o01 q3R q6l)) (N o0y (N o00 q3U q6m) (N o00 q3X q6n))) (N o00 (N o0q (N o0P q40 q6o) (N o1b q43 q6p)) (N o0D (N o10 q46 q6q) (N o1k (N o1V q6r (N o4S L L)) q6s)))) (N o02 (N o09 (N o0o (N o0M q6t (N o00 q6u (N o00 L L))) (N o17 q4c q6w)) (N o0B (N o0W q4f q6x) (N o00 (N o01 q6y (N o01 L L)) q6z))) (N o00 (N o0t (N o00 q4j q6A) (N o1e q4m q6B)) (N o0G (N o12 q4p q6C) (N o01 (N o1X q0A (N o4U L L)) q6D)))))) (N b2 (N b4 (N b8 (N o01 (N o0h (N o0J q6E (N o1Z q6F (N o4W L L))) (N o00 q4v q6G)) (N o0b (N o0T q4x q6H) (N o1f q4A q6I))) (N o0c (N o0p (N o0O q4D q6J) (N o0b q4G q6K)) (N o01 (N o0Z q4J q6L) (N o00 (N o1U q6M (N o4R L L)) q6N)))) (N o6e (N o08 (N o0b (N o01 q6O (N o21 q0A (N o4Y L L))) (N o16 q4Q q6P)) (N o0A (N o0V q4T q6Q) (N o1i (N o00 q6R (N o00 L L)) q6S))) (N o0e (N o0s (N o0Q q4Y q6T) (N o1d q51 q6U)) (N o0F (N o01 q54 q6V) (N o00 (N o01 q6W (N o01 L L)) q6X))))) (N b6 (N b10 (N o00 (N o0j (N o0L q6Y (N o00 q6Z (N o00 L L))) (N o15 q5a q70)) (N o00 (N o01 q5d q71) (N o1g q5g q72))) (N o01 (N o00 (N o00 q5j q73) (N o00 q5m q74)) (N o00 (N o11 q5p q75) (N o1l (N o1W q76 (N o4T L L)) q77)))) (N o03 (N o0a (N o00 (N o00 q5u q78) (N o18 q5x q7a)) (N o0C (N o00 q5A q7b) (N o01 (N o1T q0A (N o4Q L L)) q7c))) (N o0f (N o0u (N o0R q5F q7d) (N o00 q5I q7e)) (N o0H (N o13 q5K q7f) (N o1n (N o00 q7g (N o00 L L)) q7h)))))))
def q7i:BT:=(N o00 (N o2L L L) (N o0b L L))
def q7j:BT:=(N o00 (N o37 L L) (N o4y L L))
def q7k:BT:=(N o1x (N o2Y L L) (N o00 L L))
def q7l:BT:=(N o1P (N o0b L L) (N o4M L L))
def q7m:BT:=(N o1s (N o0b L L) (N o4k L L))
def q7n:BT:=(N o01 (N o3c L L) (N o0b L L))
def q7o:BT:=(N o1C (N o00 L L) (N o4t L L))
def q7p:BT:=(N o00 (N o2O L L) (N o4i L L))
def q7q:BT:=(N o1I (N o01 L L) (N o4C L L))
def q7r:BT:=(N o1z (N o31 L L) (N o00 L L))
def q7s:BT:=(N o01 (N o2W L L) (N o4n L L))
def q7t:BT:=(N o1N (N o3g L L) (N o4K L L))
def q7u:BT:=(N o1p (N o00 L L) (N o00 L L))
def q7v:BT:=(N o1H (N o39 L L) (N o4A L L))
def q7w:BT:=(N o00 (N o2Z L L) (N o4q L L))
def q7x:BT:=(N o1Q (N o00 L L) (N o4N L L))
def q7y:BT:=(N o1u (N o00 L L) (N o4l L L))
def q7z:BT:=(N o00 (N o3e L L) (N o00 L L))
def q7A:BT:=(N o01 (N o34 L L) (N o4v L L))
def q7B:BT:=(N o1r (N o2Q L L) (N o00 L L))
def q7C:BT:=(N o1K (N o00 L L) (N o4E L L))
def q7D:BT:=(N o1A (N o01 L L) (N o4s L L))
def q7E:BT:=(N o00 (N o3i L L) (N o00 L L))
def q7F:BT:=(N o1F (N o36 L L) (N o00 L L))
def q7G:BT:=(N o1o (N o2M L L) (N o4g L L))
def q7H:BT:=(N o01 (N o38 L L) (N o4z L L))
def q7I:BT:=(N o1y (N o00 L L) (N o4p L L))
def q7J:BT:=(N o00 (N o3m L L) (N o00 L L))
def q7K:BT:=(N o1t (N o2U L L) (N o00 L L))
def q7L:BT:=(N o1L (N o3d L L) (N o4I L L))
def q7M:BT:=(N o00 (N o33 L L) (N o4u L L))
def q7N:BT:=(N o01 (N o2P L L) (N o4j L L))
def q7O:BT:=(N o1J (N o3a L L) (N o4D L L))
def q7P:BT:=(N o1v (N o2X L L) (N o00 L L))
def q7Q:BT:=(N o1O (N o3h L L) (N o4L L L))
def q7R:BT:=(N o1E (N o01 L L) (N o4w L L))
def q7S:BT:=(N o1q (N o2N L L) (N o4h L L))
def q7T:BT:=(N o00 (N o00 L L) (N o4B L L))
def q7U:BT:=(N o01 (N o30 L L) (N o4r L L))
def q7V:BT:=(N o1R (N o3n L L) (N o4O L L))
def q7W:BT:=(N o00 (N o2V L L) (N o4m L L))
def q7X:BT:=(N o1M (N o3f L L) (N o4J L L))
def q7Y:BT:=(N o1D (N o35 L L) (N o00 L L))
def q7Z:BT:=(N o00 (N o2w L L) (N o01 L L))
def q80:BT:=(N o00 (N o3b L L) (N o2w L L))
def q81:BT:=(N o1B (N o32 L L) (N o00 L L))
def q82:BT:=(N o1w (N o01 L L) (N o4o L L))
def q83:BT:=(N o01 (N o2w L L) (N o01 L L))
def q84:BT:=(N o1G (N o00 L L) (N o4x L L))
def q85:BT:=(N o2K (N o2w L L) L)
def tree_615_:BT:=(N b0 (N b1 (N o4F (N b7 (N o00 (N o0x (N o0I q7i q39) (N o14 q7j q0m)) (N o0n (N o0S q7k q0o) (N o01 q7l q0q))) (N o0b (N o01 (N o0N q7m q3l) (N o00 q7n q0u)) (N o00 (N o01 q7o q0w) (N o1j q3r q0y)))) (N o00 (N o07 (N o0n (N o00 q7p q3u) (N o00 q7q q0C)) (N o0z (N o0U q7r q0E) (N o1h q3B q0d))) (N o0d (N o0r (N o01 q7s q3F) (N o1c q7t q0J)) (N o0E (N o00 q2j q0K) (N o1m q3M q0M))))) (N b5 (N b9 (N o06 (N o0i (N o0K q7u q3P) (N o01 q7v q0Q)) (N o0y (N o00 q7w q0S) (N o00 q7x q0U))) (N o00 (N o0q (N o0P q7y q41) (N o1b q7z q0Y)) (N o0D (N o10 q7A q10) (N o1k q48 q12)))) (N o02 (N o09 (N o0o (N o0M q7B q4b) (N o17 q7C q16)) (N o0B (N o0W q7D q18) (N o00 q3u q19))) (N o00 (N o0t (N o00 q2j q4k) (N o1e q7E q1c)) (N o0G (N o12 q7F q1e) (N o01 q4r q1g)))))) (N b2 (N b4 (N b8 (N o01 (N o0h (N o0J q7G q4t) (N o00 q7H (N o4H (N o00 L L) L))) (N o0b (N o0T q7I q1l) (N o1f q7J q1n))) (N o0c (N o0p (N o0O q7K q4E) (N o0b q7L q1r)) (N o01 (N o0Z q7M q1t) (N o00 q4L q1v)))) (N o4G (N o08 (N o0b (N o01 q7N q4O) (N o16 q7O q1z)) (N o0A (N o0V q2j q1A) (N o1i q4V q1C))) (N o0e (N o0s (N o0Q q7P q4Z) (N o1d q7Q q0d)) (N o0F (N o01 q7R q1H) (N o00 q3u q1I))))) (N b6 (N b10 (N o00 (N o0j (N o0L q7S q58) (N o15 q7T q1L)) (N o00 (N o01 q7U q1N) (N o1g q7V q1P))) (N o01 (N o00 (N o00 q7W q5k) (N o00 q7X q1S)) (N o00 (N o11 q7Y q1U) (N o1l q5r q1W)))) (N o03 (N o0a (N o00 (N o00 q7Z q5v) (N o18 q80 q20)) (N o0C (N o00 q81 q22) (N o01 q5C q24))) (N o0f (N o0u (N o0R q82 q26) (N o00 q83 q28)) (N o0H (N o13 q84 q0d) (N o1n q5M q85)))))))
def q86:BT:=(N o0I q0j (N o1Y L L))
def q87:BT:=(N o14 q0l (N o2n L L))
def q88:BT:=(N o01 (N o1P L L) (N o00 L L))
def q89:BT:=(N o00 q0t (N o2x L L))
def q8a:BT:=(N o01 q0v (N o00 L L))
def q8b:BT:=(N o1j (N o00 L L) (N o2G L L))
def q8c:BT:=(N o00 q0z (N o01 L L))
def q8d:BT:=(N o00 q0B (N o2r L L))
def q8e:BT:=(N o1h (N o1S L L) (N o00 L L))
def q8f:BT:=(N o1c q0I (N o2A L L))
def q8g:BT:=(N o00 q0e (N o01 L L))
def q8h:BT:=(N o1m (N o00 L L) (N o01 L L))
def q8i:BT:=(N o0K q0N (N o20 L L))
def q8j:BT:=(N o01 q0P (N o2p L L))
def q8k:BT:=(N o00 (N o1Q L L) (N o2D L L))
def q8l:BT:=(N o1b q0X (N o2y L L))
def q8m:BT:=(N o10 q0Z (N o2k L L))
def q8n:BT:=(N o1k (N o1V L L) (N o2I L L))
def q8o:BT:=(N o0M q13 (N o00 L L))
def q8p:BT:=(N o17 q15 (N o2w L L))
def q8q:BT:=(N o00 (N o01 L L) (N o2F L L))
def q8r:BT:=(N o1e q1b (N o01 L L))
def q8s:BT:=(N o12 q1d (N o2m L L))
def q8t:BT:=(N o01 (N o1X L L) (N o00 L L))
def q8u:BT:=(N o0J q1h (N o1Z L L))
def q8v:BT:=(N o1f (N o00 L L) (N o2C L L))
def q8w:BT:=(N o0b q1q (N o00 L L))
def q8x:BT:=(N o0Z q1s (N o0b L L))
def q8y:BT:=(N o00 (N o1U L L) (N o2H L L))
def q8z:BT:=(N o01 q1w (N o21 L L))
def q8A:BT:=(N o16 q1y (N o2s L L))
def q8B:BT:=(N o1i (N o00 L L) (N o01 L L))
def q8C:BT:=(N o1d q1F (N o00 L L))
def q8D:BT:=(N o01 q1G (N o2l L L))
def q8E:BT:=(N o00 (N o01 L L) (N o2J L L))
def q8F:BT:=(N o0L q1J (N o00 L L))
def q8G:BT:=(N o15 q0e (N o2q L L))
def q8H:BT:=(N o1g (N o1R L L) (N o2E L L))
def q8I:BT:=(N o00 q1R (N o2z L L))
def q8J:BT:=(N o11 q1T (N o00 L L))
def q8K:BT:=(N o1l (N o1W L L) (N o00 L L))
def q8L:BT:=(N o18 q1Z (N o0b L L))
def q8M:BT:=(N o00 q21 (N o2f L L))
def q8N:BT:=(N o01 (N o1T L L) (N o00 L L))
def q8O:BT:=(N o00 (N o01 L L) (N o2B L L))
def q8P:BT:=(N o13 q29 (N o00 L L))
def q8Q:BT:=(N o1n (N o00 L L) (N o2K L L))
def tree_443_:BT:=(N b0 (N b1 (N o2R (N b7 (N o00 (N o0x q86 q87) (N o0n (N o0S q0n (N o28 L L)) q88)) (N o0b (N o01 (N o0N q0r (N o23 L L)) q89) (N o00 q8a q8b))) (N o00 (N o07 (N o0n q8c q8d) (N o0z (N o0U q0D (N o2c L L)) q8e)) (N o0d (N o0r (N o01 q0G (N o25 L L)) q8f) (N o0E q8g q8h)))) (N b5 (N b9 (N o06 (N o0i q8i q8j) (N o0y (N o00 q0R (N o2a L L)) q8k)) (N o00 (N o0q (N o0P q0V (N o00 L L)) q8l) (N o0D q8m q8n))) (N o02 (N o09 (N o0o q8o q8p) (N o0B (N o0W q17 (N o2e L L)) q8q)) (N o00 (N o0t (N o00 q0e (N o26 L L)) q8r) (N o0G q8s q8t))))) (N b2 (N b4 (N b8 (N o01 (N o0h q8u (N o00 q1j (N o2T L L))) (N o0b (N o0T q1k (N o29 L L)) q8v)) (N o0c (N o0p (N o0O q1o (N o24 L L)) q8w) (N o01 q8x q8y))) (N o2S (N o08 (N o0b q8z q8A) (N o0A (N o0V q0e (N o2d L L)) q8B)) (N o0e (N o0s (N o0Q q1D (N o00 L L)) q8C) (N o0F q8D q8E)))) (N b6 (N b10 (N o00 (N o0j q8F q8G) (N o00 (N o01 q1M (N o2b L L)) q8H)) (N o01 (N o00 (N o00 q1Q (N o01 L L)) q8I) (N o00 q8J q8K))) (N o03 (N o0a (N o00 (N o00 q1X (N o22 L L)) q8L) (N o0C q8M q8N)) (N o0f (N o0u (N o0R q25 (N o27 L L)) q8O) (N o0H q8P q8Q))))))
def tree_400_:BT:=(N b0 (N b1 (N o2t (N b7 (N o00 (N o0x q86 q5N) (N o0n q2e q88)) (N o0b (N o01 q2g (N o00 (N o01 L L) (N o2x L L))) (N o00 q5O q8b))) (N o00 (N o07 (N o0n q8c q5P) (N o0z q2l q8e)) (N o0d (N o0r q2n (N o1c (N o1N L L) (N o2A L L))) (N o0E q2j q8h)))) (N b5 (N b9 (N o06 (N o0i q8i q5Q) (N o0y q2s q8k)) (N o00 (N o0q q2u (N o1b (N o00 L L) (N o2y L L))) (N o0D q5R q8n))) (N o02 (N o09 (N o0o q8o (N o17 (N o1K L L) (N o2w L L))) (N o0B q2z q8q)) (N o00 (N o0t q2B (N o1e (N o00 L L) (N o01 L L))) (N o0G q5S q8t))))) (N b2 (N b4 (N b8 (N o01 (N o0h q8u (N o00 (N o01 L L) (N o2v L L))) (N o0b q2G q8v)) (N o0c (N o0p q2I (N o0b (N o1L L L) (N o00 L L))) (N o01 q5T q8y))) (N o2u (N o08 (N o0b q8z q5U) (N o0A q2O q8B)) (N o0e (N o0s q2Q (N o1d (N o1O L L) (N o00 L L))) (N o0F q5V q8E)))) (N b6 (N b10 (N o00 (N o0j q8F q5W) (N o00 q2V q8H)) (N o01 (N o00 q2j (N o00 (N o1M L L) (N o2z L L))) (N o00 q5X q8K))) (N o03 (N o0a (N o00 q30 (N o18 (N o00 L L) (N o0b L L))) (N o0C q32 q8N)) (N o0f (N o0u q35 q8O) (N o0H q5Y q8Q))))))
def tree_572_:BT:=(N b0 (N b1 (N o4d (N b7 (N o00 (N o0x (N o0I q7i q0k) (N o14 q7j q0m)) (N o0n (N o0S q7k q0o) (N o01 q0p q0q))) (N o0b (N o01 (N o0N q7m q0s) (N o00 q0t q0u)) (N o00 (N o01 q7o q0w) (N o1j q0x q0y)))) (N o00 (N o07 (N o0n (N o00 q7p q0A) (N o00 q7q q0C)) (N o0z (N o0U q7r q0E) (N o1h q0F q0d))) (N o0d (N o0r (N o01 q7s q0H) (N o1c q0I q0J)) (N o0E (N o00 q2j q0K) (N o1m q0L q0M))))) (N b5 (N b9 (N o06 (N o0i (N o0K q7u q0O) (N o01 q7v q0Q)) (N o0y (N o00 q7w q0S) (N o00 q0T q0U))) (N o00 (N o0q (N o0P q7y q0W) (N o1b q0X q0Y)) (N o0D (N o10 q7A q10) (N o1k q11 q12)))) (N o02 (N o09 (N o0o (N o0M q7B q14) (N o17 q7C q16)) (N o0B (N o0W q7D q18) (N o00 q0A q19))) (N o00 (N o0t (N o00 q2j q1a) (N o1e q1b q1c)) (N o0G (N o12 q7F q1e) (N o01 q1f q1g)))))) (N b2 (N b4 (N b8 (N o01 (N o0h (N o0J q7G q1i) (N o00 q7H (N o4f (N o00 L L) L))) (N o0b (N o0T q7I q1l) (N o1f q1m q1n))) (N o0c (N o0p (N o0O q7K q1p) (N o0b q1q q1r)) (N o01 (N o0Z q7M q1t) (N o00 q1u q1v)))) (N o4e (N o08 (N o0b (N o01 q7N q1x) (N o16 q7O q1z)) (N o0A (N o0V q2j q1A) (N o1i q1B q1C))) (N o0e (N o0s (N o0Q q7P q1E) (N o1d q1F q0d)) (N o0F (N o01 q7R q1H) (N o00 q0A q1I))))) (N b6 (N b10 (N o00 (N o0j (N o0L q7S q1K) (N o15 q7T q1L)) (N o00 (N o01 q7U q1N) (N o1g q1O q1P))) (N o01 (N o00 (N o00 q7W q0A) (N o00 q1R q1S)) (N o00 (N o11 q7Y q1U) (N o1l q1V q1W)))) (N o03 (N o0a (N o00 (N o00 q7Z q1Y) (N o18 q1Z q20)) (N o0C (N o00 q81 q22) (N o01 q23 q24))) (N o0f (N o0u (N o0R q82 q26) (N o00 q27 q28)) (N o0H (N o13 q84 q0d) (N o1n q2a q85)))))))
def tree_486_:BT:=(N b0 (N b1 (N o3j (N b7 (N o00 (N o0x (N o0I q0j q0k) q87) (N o0n (N o0S q0n q0o) (N o01 q0p (N o00 L L)))) (N o0b (N o01 (N o0N q0r q0s) q89) (N o00 q8a (N o1j q0x (N o2G L L))))) (N o00 (N o07 (N o0n (N o00 q0z q0A) q8d) (N o0z (N o0U q0D q0E) (N o1h q0F (N o00 L L)))) (N o0d (N o0r (N o01 q0G q0H) q8f) (N o0E q8g (N o1m q0L (N o01 L L)))))) (N b5 (N b9 (N o06 (N o0i (N o0K q0N q0O) q8j) (N o0y (N o00 q0R q0S) (N o00 q0T (N o2D L L)))) (N o00 (N o0q (N o0P q0V q0W) q8l) (N o0D q8m (N o1k q11 (N o2I L L))))) (N o02 (N o09 (N o0o (N o0M q13 q14) q8p) (N o0B (N o0W q17 q18) (N o00 q0A (N o2F L L)))) (N o00 (N o0t (N o00 q0e q1a) q8r) (N o0G q8s (N o01 q1f (N o00 L L))))))) (N b2 (N b4 (N b8 (N o01 (N o0h (N o0J q1h q1i) (N o00 q1j (N o3l L L))) (N o0b (N o0T q1k q1l) (N o1f q1m (N o2C L L)))) (N o0c (N o0p (N o0O q1o q1p) q8w) (N o01 q8x (N o00 q1u (N o2H L L))))) (N o3k (N o08 (N o0b (N o01 q1w q1x) q8A) (N o0A (N o0V q0e q1A) (N o1i q1B (N o01 L L)))) (N o0e (N o0s (N o0Q q1D q1E) q8C) (N o0F q8D (N o00 q0A (N o2J L L)))))) (N b6 (N b10 (N o00 (N o0j (N o0L q1J q1K) q8G) (N o00 (N o01 q1M q1N) (N o1g q1O (N o2E L L)))) (N o01 (N o00 (N o00 q1Q q0A) q8I) (N o00 q8J (N o1l q1V (N o00 L L))))) (N o03 (N o0a (N o00 (N o00 q1X q1Y) q8L) (N o0C q8M (N o01 q23 (N o00 L L)))) (N o0f (N o0u (N o0R q25 q26) (N o00 q27 (N o2B L L))) (N o0H q8P q2b))))))
def heap_39_:Frag:=[(2,o7E),(3,o71),(15,o00),(17,o06),(18,o00),(20,o08),(21,o09),(22,o0a),(29,o00),(30,o0f),(31,o0x),(32,o0h),(35,o0n),(42,o00),(43,o0r),(44,o0s),(47,o0n),(54,o0C),(55,o00),(57,o0D),(58,o00),(60,o0F),(61,o0G),(62,o0H),(63,o0I),(64,o0J),(67,o00),(69,o0M),(70,o00),(72,o0O),(73,o0P),(74,o00),(76,o0Q),(77,o00),(79,o0S),(80,o0T),(81,o00),(84,o0V),(85,o0W),(86,o00),(89,o10),(90,o11),(91,o00),(94,o13),(95,o14),(96,o00),(98,o15),(99,o00),(101,o17),(102,o18),(110,o00),(112,o1f),(113,o00),(115,o1h),(116,o1i),(117,o00),(119,o1j),(120,o00),(122,o1l),(123,o1m),(124,o00),(126,o1n),(127,o00),(129,o1p),(130,o1q),(131,o00),(133,o1r),(134,o00),(136,o1t),(137,o1u),(138,o00),(140,o1v),(141,o00),(143,o1x),(144,o1y),(145,o00),(147,o1z),(148,o00),(150,o1B),(151,o1C),(152,o00),(154,o1D),(155,o00),(157,o1F),(158,o1G),(159,o00),(161,o1H),(162,o00),(164,o1J),(165,o1K),(166,o00),(168,o1L),(169,o00),(171,o1N),(172,o1O),(173,o00),(175,o1P),(176,o00),(178,o1R),(179,o1S),(180,o00),(182,o1T),(183,o00),(185,o1V),(186,o1W),(187,o00),(189,o1X),(190,o00),(192,o1Z),(193,o20),(194,o00),(196,o21),(197,o00),(199,o23),(200,o24),(201,o00),(203,o25),(204,o00),(206,o27),(207,o28),(208,o29),(209,o2a),(210,o2b),(211,o2c),(212,o2d),(222,o00),(223,o2n),(224,o59),(225,o2p),(226,o2q),(229,o2w),(236,o00),(238,o2B),(239,o00),(241,o2D),(242,o2E),(243,o00),(245,o2F),(246,o00),(248,o2H),(249,o2I),(250,o00),(252,o2J),(253,o00),(255,o2L),(256,o2M),(257,o00),(258,o2N),(259,o2O),(262,o2w),(269,o00),(271,o2Y),(272,o00),(274,o30),(275,o31),(276,o00),(278,o32),(279,o00),(281,o34),(282,o35),(283,o00),(285,o36),(286,o00),(288,o38),(289,o39),(290,o00),(292,o3a),(293,o00),(295,o3c),(296,o3d),(297,o3e),(298,o3f),(299,o3g),(302,o2w),(309,o00),(311,o3q),(312,o00),(314,o3s),(315,o3t),(316,o00),(318,o3u),(319,o00),(321,o3w),(322,o3x),(323,o00),(325,o3y),(326,o00),(328,o3A),(329,o3B),(330,o00),(332,o3C),(333,o00),(335,o3E),(336,o3F),(337,o3G),(338,o3H),(339,o3I),(342,o2w),(349,o00),(351,o3S),(352,o00),(354,o3U),(355,o3V),(356,o00),(358,o3W),(359,o00),(361,o3Y),(362,o3Z),(363,o00),(365,o40),(366,o00),(368,o42),(369,o43),(370,o00),(372,o44),(373,o00),(375,o46),(376,o47),(377,o48),(378,o49),(379,o4a),(382,o2w),(389,o00),(391,o4k),(392,o00),(394,o4m),(395,o4n),(396,o00),(398,o4o),(399,o00),(401,o4q),(402,o4r),(403,o00),(405,o4s),(406,o00),(408,o4u),(409,o4v),(410,o00),(412,o4w),(413,o00),(415,o4y),(416,o4z),(417,o4A),(418,o4B),(419,o4C),(422,o2w),(429,o00),(431,o4M),(432,o00),(434,o4O),(435,o4P),(436,o00),(438,o4Q),(439,o00),(441,o4S),(442,o4T),(443,o00),(445,o4U),(446,o00),(448,o4W),(449,o4X),(450,o00),(452,o4Y),(453,o00),(455,o50),(456,o51),(457,o52),(458,o53),(459,o54),(462,o2w),(469,o00),(471,o5e),(472,o00),(474,o5g),(475,o5h),(476,o00),(478,o5i),(479,o00),(481,o5k),(482,o5l),(483,o00),(485,o5m),(486,o00),(488,o5o),(489,o5p),(490,o00),(492,o5q),(493,o00),(495,o5s),(496,o5t),(497,o5u),(498,o5v),(499,o5w),(502,o00),(504,o5z),(505,o00),(507,o5B),(508,o5C),(509,o00),(511,o5F),(512,o00),(514,o5H),(515,o5I),(516,o00),(518,o5J),(519,o00),(521,o5L),(522,o5M),(523,o00),(526,o5O),(527,o5P),(528,o00),(530,o5Q),(531,o00),(533,o5S),(534,o5T),(535,o00),(537,o5U),(538,o00),(540,o5W),(541,o5X),(549,o00),(551,o62),(552,o00),(554,o64),(555,o65),(556,o66),(557,o67),(558,o68),(559,o69),(560,o6a),(563,o00),(565,o6f),(566,o00),(568,o6h),(569,o6i),(570,o00),(572,o6j),(573,o00),(575,o6l),(576,o6m),(577,o00),(579,o6n),(580,o00),(582,o6p),(583,o6q),(584,o00),(586,o6r),(587,o00),(589,o6t),(590,o6u),(591,o00),(593,o6v),(594,o00),(596,o6x),(597,o6y),(605,o00),(607,o6D),(608,o00),(610,o6F),(611,o6G),(612,o00),(614,o6H),(615,o00),(617,o6J),(618,o6K),(619,o00),(622,o6M),(623,o6N),(624,o00),(626,o6O),(627,o00),(629,o6Q),(630,o6R),(631,o00),(634,o6T),(635,o6U),(636,o00),(639,o6W),(640,o6X),(641,o00),(644,o6Z),(645,o70),(646,o00),(648,o73),(649,o00),(651,o75),(652,o76),(653,o00),(655,o77),(656,o00),(658,o79),(659,o7a),(660,o00),(663,o7c),(664,o7d),(665,o00),(668,o7f),(669,o7g),(670,o00),(673,o7i),(674,o7j),(675,o00),(677,o7k),(678,o00),(680,o7m),(681,o7n),(682,o00),(684,o7o),(685,o00),(687,o7q),(688,o7r),(689,o00),(691,o7s),(692,o00),(694,o7u),(695,o7v),(696,o00),(698,o7w),(699,o00),(701,o7y),(702,o7z),(703,o00),(705,o7A),(706,o00),(708,o7C),(709,o7D)]
def tree_665_:BT:=(N b0 (N b1 (N o57 (N b7 (N o00 (N o0x (N o0I q7i q39) (N o14 q7j q3c)) (N o0n (N o0S q7k q3f) (N o01 q7l q3i))) (N o0b (N o01 (N o0N q7m q3l) (N o00 q7n q3o)) (N o00 (N o01 q7o q3q) q3s))) (N o00 (N o07 (N o0n (N o00 q7p q3u) (N o00 q7q q3x)) (N o0z (N o0U q7r q3A) q3C)) (N o0d (N o0r (N o01 q7s q3F) (N o1c q7t q3I)) (N o0E (N o00 q2j q3L) q3N)))) (N b5 (N b9 (N o06 (N o0i (N o0K q7u q3P) (N o01 q7v q3S)) (N o0y (N o00 q7w q3V) (N o00 q7x q3Y))) (N o00 (N o0q (N o0P q7y q41) (N o1b q7z q44)) (N o0D (N o10 q7A q47) q49))) (N o02 (N o09 (N o0o (N o0M q7B q4b) (N o17 q7C q4d)) (N o0B (N o0W q7D q4g) q4h)) (N o00 (N o0t (N o00 q2j q4k) (N o1e q7E q4n)) (N o0G (N o12 q7F q4q) (N o01 q4r q1g)))))) (N b2 (N b4 (N b8 (N o01 (N o0h (N o0J q7G q4t) (N o00 q7H q4w)) (N o0b (N o0T q7I q4y) (N o1f q7J q4B))) (N o0c (N o0p (N o0O q7K q4E) (N o0b q7L q4H)) (N o01 (N o0Z q7M q4K) q4M))) (N o58 (N o08 (N o0b (N o01 q7N q4O) (N o16 q7O q4R)) (N o0A (N o0V q2j q4U) q4W)) (N o0e (N o0s (N o0Q q7P q4Z) (N o1d q7Q q52)) (N o0F (N o01 q7R q55) q56)))) (N b6 (N b10 (N o00 (N o0j (N o0L q7S q58) (N o15 q7T q5b)) (N o00 (N o01 q7U q5e) (N o1g q7V q5h))) (N o01 (N o00 (N o00 q7W q5k) (N o00 q7X q5n)) (N o00 (N o11 q7Y q5q) q5s))) (N o03 (N o0a (N o00 (N o00 q7Z q5v) (N o18 q80 q5y)) (N o0C (N o00 q81 q5B) q5D)) (N o0f (N o0u (N o0R q82 q5G) (N o00 q83 q5J)) (N o0H (N o13 q84 q5L) (N o1n q5M q85)))))))
def tree_85_:BT:=(N b0 (N b1 (N o0k (N b7 (N o00 (N o0m L L) L) q0a) (N o00 (N o07 (N o0n L L) L) (N o0d (N o0r L L) L))) (N b5 (N b9 q0g (N o00 (N o0q L L) L)) (N o02 (N o09 (N o0o L L) L) (N o00 (N o0t L L) L)))) (N b2 (N b4 (N b8 q0h (N o0c (N o0p L L) L)) (N o0l (N o08 (N o0b L L) L) (N o0e (N o0s L L) L))) (N b6 (N b10 q0i q0A) (N o03 (N o0a (N o00 L L) L) (N o0f (N o0u L L) L)))))
end
end
noncomputable section
def tree_127 (A:AT):Params->BT:=fun P=>@tree_127_ A ⟨P⟩
def tree_70 (A:AT):Params->BT:=fun P=>@tree_70_ A ⟨P⟩
def tree_146 (A:AT):Params->BT:=fun P=>@tree_146_ A ⟨P⟩
def tree_529 (A:AT):Params->BT:=fun P=>@tree_529_ A ⟨P⟩
def tree_260 (A:AT):Params->BT:=fun P=>@tree_260_ A ⟨P⟩
def heap_873 (A:AT):Params->PySem.Heap:=fun P=>@heap_873_ A ⟨P⟩
def tree_721 (A:AT):Params->BT:=fun P=>@tree_721_ A ⟨P⟩
def tree_364 (A:AT):Params->BT:=fun P=>@tree_364_ A ⟨P⟩
def tree_872 (A:AT):Params->BT:=fun P=>@tree_872_ A ⟨P⟩
def tree_345 (A:AT):Params->BT:=fun P=>@tree_345_ A ⟨P⟩
def tree_47 (A:AT):Params->BT:=fun P=>@tree_47_ A ⟨P⟩
def heap_46 (A:AT):Params->PySem.Heap:=fun P=>@heap_46_ A ⟨P⟩
def tree_806 (A:AT):Params->BT:=fun P=>@tree_806_ A ⟨P⟩
def tree_615 (A:AT):Params->BT:=fun P=>@tree_615_ A ⟨P⟩
def tree_443 (A:AT):Params->BT:=fun P=>@tree_443_ A ⟨P⟩
def tree_400 (A:AT):Params->BT:=fun P=>@tree_400_ A ⟨P⟩
def tree_572 (A:AT):Params->BT:=fun P=>@tree_572_ A ⟨P⟩
def tree_486 (A:AT):Params->BT:=fun P=>@tree_486_ A ⟨P⟩
def heap_39 (A:AT):Params->Frag:=fun P=>@heap_39_ A ⟨P⟩
def tree_665 (A:AT):Params->BT:=fun P=>@tree_665_ A ⟨P⟩
def tree_85 (A:AT):Params->BT:=fun P=>@tree_85_ A ⟨P⟩
end
theorem trig:(PySem.Challenge.pw_bellsaway_k19_texts_of_fits_spoilt.main.body.length == 0)=(PySem.Challenge.pw_bellsaway_k19_texts_of_fits_spoilt.main.body.length == 0):=rfl
theorem trig2:(!(PySem.Challenge.pw_bellsaway_k19_texts_of_fits_spoilt.main.body.length == 0))=true:=by k_qdec
noncomputable def a0:List Str:="take_rest"::"Words.take_rest"::"bellsaway.words"::"take_one_of"::"Words.take_one_of"::"/claim/cut.py"::"_law_script"::"_law_k"::"is_figures"::"fit"::"words"::"opened"::"last"::"self"::"word"::"_law_names"::"thing"::"check_names"::"plain_fit_from"::"bellsaway.wording"::"kinds"::"places"::"weights"::"Words"::"_law_name"::"Kind"::"_law_spoilt"::"_law_next"::"bracket"::"Fit"::"__init__"::"Not.__init__"::"bellsaway.fits"::"Words.__init__"::"is_number"::"is_ended"::"Words.is_ended"::"choices"::"happening"::"Both.__init__"::"_wall"::"<module>"::"count"::"take_some"::"Words.take_some"::"note_turns"::"Not.note_turns"::"__name__"::"law_bellsaway_k19_texts_of_fits_spoilt"::"__doc__"::"__package__"::"__loader__"::"__spec__"::"__annotations__"::"__builtins__"::"__file__"::"__cached__"::"BellError"::"NoFit"::"NoText"::"is_whole"::"is_whole_from"::"LETTERS"::"abcdefghijklmnopqrstuvwxyz"::"MOST_LETTERS"::"is_name"::"FIGURES"::"0123456789"::"MOST_FIGURES"::"are_unlike_names"::"Any"::"Place"::"Least"::"Not"::"Both"::"Either"::"check_fit"::"check_fits"::"show_fit"::"read_fit"::"read_whole"::"Opened"::"fit_from"::"closed"::"is_closed_here"::"fit_of"::"_law_cell_at"::"_law_begin"::"_law_leaf"::"_law_tree"::"_law_text"::"_law_same"::"fits_it"::"Any.fits_it"::"weight_bits"::"Not.weight_bits"::"_law_state"::"_law_base"::"_law_found"::"_law_number"::"_law_is_name"::"take_count"::"Words.take_count"::"__module__"::"bellsaway.errors"::"__firstlineno__"::"__static_attributes__"::"__weakref__"::"Kind.fits_it"::"Place.note_turns"::"Place.__init__"::"__qualname__"::"look"::"take"::"takes"::"expect"::"expect_end"::"take_number"::"take_name"::"take_names"::"Any.weight_bits"::"_law_word"::"fits"::"_law_several"::"Words.take_name"::"names"::"Words.take_number"::"Words.look"::"at"::"least"::"Opened.__init__"::"Not.fits_it"::"_law_some"::"Kind.weight_bits"::"Place.weight_bits"::"Either.__init__"::"Both.weight_bits"::"Both.note_turns"::"Place.fits_it"::"Words.take"::"NoText.__init__"::"Words.expect_end"::"Words.takes"::"Least.__init__"::"k"::"Least.fits_it"::"__dict__"::"bellsaway.wholes"::"__main__"::"Kind.__init__"::"_law_told"::"kind"::"place"::"from_weight"::"sign"::"inner"::"Least.weight_bits"::"_law_words"::"_law_at"::"_law_word_here"::"_law_names_here"::"_law_inner"::"line"::"_law_changed"::"text"::"Either.note_turns"::"_law_is_weight"::"_law_read"::"law"::"weight"::"_law_parts"::"_law_sign"::"_law_part"::"Words.take_names"::"Any.note_turns"::"Either.fits_it"::"Kind.note_turns"::"Either.weight_bits"::"_law_cell"::"_law_due"::"_law_text_here"::"_law_line"::"Words.expect"::"Both.fits_it"::["_law_way","_law_other","_law_rest","_law_turned","_law_more","_law_kind","_law_name_here","Least.note_turns","part_from","found","bellsaway.happenings","e"]
noncomputable def a1:List Str:=[⟨⟨[116,97,107,101,95,114,101,115,116]⟩⟩,⟨⟨[87,111,114,100,115,46,116,97,107,101,95,114,101,115,116]⟩⟩,⟨⟨[98,101,108,108,115,97,119,97,121,46,119,111,114,100,115]⟩⟩,⟨⟨[116,97,107,101,95,111,110,101,95,111,102]⟩⟩,⟨⟨[87,111,114,100,115,46,116,97,107,101,95,111,110,101,95,111,102]⟩⟩,⟨⟨[47,99,108,97,105,109,47,99,117,116,46,112,121]⟩⟩,⟨⟨[95,108,97,119,95,115,99,114,105,112,116]⟩⟩,⟨⟨[95,108,97,119,95,107]⟩⟩,⟨⟨[105,115,95,102,105,103,117,114,101,115]⟩⟩,⟨⟨[102,105,116]⟩⟩,⟨⟨[119,111,114,100,115]⟩⟩,⟨⟨[111,112,101,110,101,100]⟩⟩,⟨⟨[108,97,115,116]⟩⟩,⟨⟨[115,101,108,102]⟩⟩,⟨⟨[119,111,114,100]⟩⟩,⟨⟨[95,108,97,119,95,110,97,109,101,115]⟩⟩,⟨⟨[116,104,105,110,103]⟩⟩,⟨⟨[99,104,101,99,107,95,110,97,109,101,115]⟩⟩,⟨⟨[112,108,97,105,110,95,102,105,116,95,102,114,111,109]⟩⟩,⟨⟨[98,101,108,108,115,97,119,97,121,46,119,111,114,100,105,110,103]⟩⟩,⟨⟨[107,105,110,100,115]⟩⟩,⟨⟨[112,108,97,99,101,115]⟩⟩,⟨⟨[119,101,105,103,104,116,115]⟩⟩,⟨⟨[87,111,114,100,115]⟩⟩,⟨⟨[95,108,97,119,95,110,97,109,101]⟩⟩,⟨⟨[75,105,110,100]⟩⟩,⟨⟨[95,108,97,119,95,115,112,111,105,108,116]⟩⟩,⟨⟨[95,108,97,119,95,110,101,120,116]⟩⟩,⟨⟨[98,114,97,99,107,101,116]⟩⟩,⟨⟨[70,105,116]⟩⟩,⟨⟨[95,95,105,110,105,116,95,95]⟩⟩,⟨⟨[78,111,116,46,95,95,105,110,105,116,95,95]⟩⟩,⟨⟨[98,101,108,108,115,97,119,97,121,46,102,105,116,115]⟩⟩,⟨⟨[87,111,114,100,115,46,95,95,105,110,105,116,95,95]⟩⟩,⟨⟨[105,115,95,110,117,109,98,101,114]⟩⟩,⟨⟨[105,115,95,101,110,100,101,100]⟩⟩,⟨⟨[87,111,114,100,115,46,105,115,95,101,110,100,101,100]⟩⟩,⟨⟨[99,104,111,105,99,101,115]⟩⟩,⟨⟨[104,97,112,112,101,110,105,110,103]⟩⟩,⟨⟨[66,111,116,104,46,95,95,105,110,105,116,95,95]⟩⟩,⟨⟨[95,119,97,108,108]⟩⟩,⟨⟨[60,109,111,100,117,108,101,62]⟩⟩,⟨⟨[99,111,117,110,116]⟩⟩,⟨⟨[116,97,107,101,95,115,111,109,101]⟩⟩,⟨⟨[87,111,114,100,115,46,116,97,107,101,95,115,111,109,101]⟩⟩,⟨⟨[110,111,116,101,95,116,117,114,110,115]⟩⟩,⟨⟨[78,111,116,46,110,111,116,101,95,116,117,114,110,115]⟩⟩,⟨⟨[95,95,110,97,109,101,95,95]⟩⟩,⟨⟨[108,97,119,95,98,101,108,108,115,97,119,97,121,95,107,49,57,95,116,101,120,116,115,95,111,102,95,102,105,116,115,95,115,112,111,105,108,116]⟩⟩,⟨⟨[95,95,100,111,99,95,95]⟩⟩,⟨⟨[95,95,112,97,99,107,97,103,101,95,95]⟩⟩,⟨⟨[95,95,108,111,97,100,101,114,95,95]⟩⟩,⟨⟨[95,95,115,112,101,99,95,95]⟩⟩,⟨⟨[95,95,97,110,110,111,116,97,116,105,111,110,115,95,95]⟩⟩,⟨⟨[95,95,98,117,105,108,116,105,110,115,95,95]⟩⟩,⟨⟨[95,95,102,105,108,101,95,95]⟩⟩,⟨⟨[95,95,99,97,99,104,101,100,95,95]⟩⟩,⟨⟨[66,101,108,108,69,114,114,111,114]⟩⟩,⟨⟨[78,111,70,105,116]⟩⟩,⟨⟨[78,111,84,101,120,116]⟩⟩,⟨⟨[105,115,95,119,104,111,108,101]⟩⟩,⟨⟨[105,115,95,119,104,111,108,101,95,102,114,111,109]⟩⟩,⟨⟨[76,69,84,84,69,82,83]⟩⟩,⟨⟨[97,98,99,100,101,102,103,104,105,106,107,108,109,110,111,112,113,114,115,116,117,118,119,120,121,122]⟩⟩,⟨⟨[77,79,83,84,95,76,69,84,84,69,82,83]⟩⟩,⟨⟨[105,115,95,110,97,109,101]⟩⟩,⟨⟨[70,73,71,85,82,69,83]⟩⟩,⟨⟨[48,49,50,51,52,53,54,55,56,57]⟩⟩,⟨⟨[77,79,83,84,95,70,73,71,85,82,69,83]⟩⟩,⟨⟨[97,114,101,95,117,110,108,105,107,101,95,110,97,109,101,115]⟩⟩,⟨⟨[65,110,121]⟩⟩,⟨⟨[80,108,97,99,101]⟩⟩,⟨⟨[76,101,97,115,116]⟩⟩,⟨⟨[78,111,116]⟩⟩,⟨⟨[66,111,116,104]⟩⟩,⟨⟨[69,105,116,104,101,114]⟩⟩,⟨⟨[99,104,101,99,107,95,102,105,116]⟩⟩,⟨⟨[99,104,101,99,107,95,102,105,116,115]⟩⟩,⟨⟨[115,104,111,119,95,102,105,116]⟩⟩,⟨⟨[114,101,97,100,95,102,105,116]⟩⟩,⟨⟨[114,101,97,100,95,119,104,111,108,101]⟩⟩,⟨⟨[79,112,101,110,101,100]⟩⟩,⟨⟨[102,105,116,95,102,114,111,109]⟩⟩,⟨⟨[99,108,111,115,101,100]⟩⟩,⟨⟨[105,115,95,99,108,111,115,101,100,95,104,101,114,101]⟩⟩,⟨⟨[102,105,116,95,111,102]⟩⟩,⟨⟨[95,108,97,119,95,99,101,108,108,95,97,116]⟩⟩,⟨⟨[95,108,97,119,95,98,101,103,105,110]⟩⟩,⟨⟨[95,108,97,119,95,108,101,97,102]⟩⟩,⟨⟨[95,108,97,119,95,116,114,101,101]⟩⟩,⟨⟨[95,108,97,119,95,116,101,120,116]⟩⟩,⟨⟨[95,108,97,119,95,115,97,109,101]⟩⟩,⟨⟨[102,105,116,115,95,105,116]⟩⟩,⟨⟨[65,110,121,46,102,105,116,115,95,105,116]⟩⟩,⟨⟨[119,101,105,103,104,116,95,98,105,116,115]⟩⟩,⟨⟨[78,111,116,46,119,101,105,103,104,116,95,98,105,116,115]⟩⟩,⟨⟨[95,108,97,119,95,115,116,97,116,101]⟩⟩,⟨⟨[95,108,97,119,95,98,97,115,101]⟩⟩,⟨⟨[95,108,97,119,95,102,111,117,110,100]⟩⟩,⟨⟨[95,108,97,119,95,110,117,109,98,101,114]⟩⟩,⟨⟨[95,108,97,119,95,105,115,95,110,97,109,101]⟩⟩,⟨⟨[116,97,107,101,95,99,111,117,110,116]⟩⟩,⟨⟨[87,111,114,100,115,46,116,97,107,101,95,99,111,117,110,116]⟩⟩,⟨⟨[95,95,109,111,100,117,108,101,95,95]⟩⟩,⟨⟨[98,101,108,108,115,97,119,97,121,46,101,114,114,111,114,115]⟩⟩,⟨⟨[95,95,102,105,114,115,116,108,105,110,101,110,111,95,95]⟩⟩,⟨⟨[95,95,115,116,97,116,105,99,95,97,116,116,114,105,98,117,116,101,115,95,95]⟩⟩,⟨⟨[95,95,119,101,97,107,114,101,102,95,95]⟩⟩,⟨⟨[75,105,110,100,46,102,105,116,115,95,105,116]⟩⟩,⟨⟨[80,108,97,99,101,46,110,111,116,101,95,116,117,114,110,115]⟩⟩,⟨⟨[80,108,97,99,101,46,95,95,105,110,105,116,95,95]⟩⟩,⟨⟨[95,95,113,117,97,108,110,97,109,101,95,95]⟩⟩,⟨⟨[108,111,111,107]⟩⟩,⟨⟨[116,97,107,101]⟩⟩,⟨⟨[116,97,107,101,115]⟩⟩,⟨⟨[101,120,112,101,99,116]⟩⟩,⟨⟨[101,120,112,101,99,116,95,101,110,100]⟩⟩,⟨⟨[116,97,107,101,95,110,117,109,98,101,114]⟩⟩,⟨⟨[116,97,107,101,95,110,97,109,101]⟩⟩,⟨⟨[116,97,107,101,95,110,97,109,101,115]⟩⟩,⟨⟨[65,110,121,46,119,101,105,103,104,116,95,98,105,116,115]⟩⟩,⟨⟨[95,108,97,119,95,119,111,114,100]⟩⟩,⟨⟨[102,105,116,115]⟩⟩,⟨⟨[95,108,97,119,95,115,101,118,101,114,97,108]⟩⟩,⟨⟨[87,111,114,100,115,46,116,97,107,101,95,110,97,109,101]⟩⟩,⟨⟨[110,97,109,101,115]⟩⟩,⟨⟨[87,111,114,100,115,46,116,97,107,101,95,110,117,109,98,101,114]⟩⟩,⟨⟨[87,111,114,100,115,46,108,111,111,107]⟩⟩,⟨⟨[97,116]⟩⟩,⟨⟨[108,101,97,115,116]⟩⟩,⟨⟨[79,112,101,110,101,100,46,95,95,105,110,105,116,95,95]⟩⟩,⟨⟨[78,111,116,46,102,105,116,115,95,105,116]⟩⟩,⟨⟨[95,108,97,119,95,115,111,109,101]⟩⟩,⟨⟨[75,105,110,100,46,119,101,105,103,104,116,95,98,105,116,115]⟩⟩,⟨⟨[80,108,97,99,101,46,119,101,105,103,104,116,95,98,105,116,115]⟩⟩,⟨⟨[69,105,116,104,101,114,46,95,95,105,110,105,116,95,95]⟩⟩,⟨⟨[66,111,116,104,46,119,101,105,103,104,116,95,98,105,116,115]⟩⟩,⟨⟨[66,111,116,104,46,110,111,116,101,95,116,117,114,110,115]⟩⟩,⟨⟨[80,108,97,99,101,46,102,105,116,115,95,105,116]⟩⟩,⟨⟨[87,111,114,100,115,46,116,97,107,101]⟩⟩,⟨⟨[78,111,84,101,120,116,46,95,95,105,110,105,116,95,95]⟩⟩,⟨⟨[87,111,114,100,115,46,101,120,112,101,99,116,95,101,110,100]⟩⟩,⟨⟨[87,111,114,100,115,46,116,97,107,101,115]⟩⟩,⟨⟨[76,101,97,115,116,46,95,95,105,110,105,116,95,95]⟩⟩,⟨⟨[107]⟩⟩,⟨⟨[76,101,97,115,116,46,102,105,116,115,95,105,116]⟩⟩,⟨⟨[95,95,100,105,99,116,95,95]⟩⟩,⟨⟨[98,101,108,108,115,97,119,97,121,46,119,104,111,108,101,115]⟩⟩,⟨⟨[95,95,109,97,105,110,95,95]⟩⟩,⟨⟨[75,105,110,100,46,95,95,105,110,105,116,95,95]⟩⟩,⟨⟨[95,108,97,119,95,116,111,108,100]⟩⟩,⟨⟨[107,105,110,100]⟩⟩,⟨⟨[112,108,97,99,101]⟩⟩,⟨⟨[102,114,111,109,95,119,101,105,103,104,116]⟩⟩,⟨⟨[115,105,103,110]⟩⟩,⟨⟨[105,110,110,101,114]⟩⟩,⟨⟨[76,101,97,115,116,46,119,101,105,103,104,116,95,98,105,116,115]⟩⟩,⟨⟨[95,108,97,119,95,119,111,114,100,115]⟩⟩,⟨⟨[95,108,97,119,95,97,116]⟩⟩,⟨⟨[95,108,97,119,95,119,111,114,100,95,104,101,114,101]⟩⟩,⟨⟨[95,108,97,119,95,110,97,109,101,115,95,104,101,114,101]⟩⟩,⟨⟨[95,108,97,119,95,105,110,110,101,114]⟩⟩,⟨⟨[108,105,110,101]⟩⟩,⟨⟨[95,108,97,119,95,99,104,97,110,103,101,100]⟩⟩,⟨⟨[116,101,120,116]⟩⟩,⟨⟨[69,105,116,104,101,114,46,110,111,116,101,95,116,117,114,110,115]⟩⟩,⟨⟨[95,108,97,119,95,105,115,95,119,101,105,103,104,116]⟩⟩,⟨⟨[95,108,97,119,95,114,101,97,100]⟩⟩,⟨⟨[108,97,119]⟩⟩,⟨⟨[119,101,105,103,104,116]⟩⟩,⟨⟨[95,108,97,119,95,112,97,114,116,115]⟩⟩,⟨⟨[95,108,97,119,95,115,105,103,110]⟩⟩,⟨⟨[95,108,97,119,95,112,97,114,116]⟩⟩,⟨⟨[87,111,114,100,115,46,116,97,107,101,95,110,97,109,101,115]⟩⟩,⟨⟨[65,110,121,46,110,111,116,101,95,116,117,114,110,115]⟩⟩,⟨⟨[69,105,116,104,101,114,46,102,105,116,115,95,105,116]⟩⟩,⟨⟨[75,105,110,100,46,110,111,116,101,95,116,117,114,110,115]⟩⟩,⟨⟨[69,105,116,104,101,114,46,119,101,105,103,104,116,95,98,105,116,115]⟩⟩,⟨⟨[95,108,97,119,95,99,101,108,108]⟩⟩,⟨⟨[95,108,97,119,95,100,117,101]⟩⟩,⟨⟨[95,108,97,119,95,116,101,120,116,95,104,101,114,101]⟩⟩,⟨⟨[95,108,97,119,95,108,105,110,101]⟩⟩,⟨⟨[87,111,114,100,115,46,101,120,112,101,99,116]⟩⟩,⟨⟨[66,111,116,104,46,102,105,116,115,95,105,116]⟩⟩,⟨⟨[95,108,97,119,95,119,97,121]⟩⟩,⟨⟨[95,108,97,119,95,111,116,104,101,114]⟩⟩,⟨⟨[95,108,97,119,95,114,101,115,116]⟩⟩,⟨⟨[95,108,97,119,95,116,117,114,110,101,100]⟩⟩,⟨⟨[95,108,97,119,95,109,111,114,101]⟩⟩,⟨⟨[95,108,97,119,95,107,105,110,100]⟩⟩,⟨⟨[95,108,97,119,95,110,97,109,101,95,104,101,114,101]⟩⟩,⟨⟨[76,101,97,115,116,46,110,111,116,101,95,116,117,114,110,115]⟩⟩,⟨⟨[112,97,114,116,95,102,114,111,109]⟩⟩,⟨⟨[102,111,117,110,100]⟩⟩,⟨⟨[98,101,108,108,115,97,119,97,121,46,104,97,112,112,101,110,105,110,103,115]⟩⟩,⟨⟨[101]⟩⟩]
noncomputable def t0:List String:=["function","code","tuple","frame","builtin_function_or_method","object.__init_subclass__","type","object","object.__new__","super","dict","__main__.__loader__#opaque","type.__prepare__","getset_descriptor","ExceptionGroup.__weakref__","ValueError","Exception","BaseException","ValueError.__new__","function.__dict__","function.__dict__#set"]
noncomputable def t1:List String:=[SL.s7174869446012820540x8,SL.s5856160107412720595x4,SL.s2766695959194262286x5,SL.s658472552662922059x5,SL.s11030030927630378310x26,SL.s4860613602091757760x24,SL.s17162191345867700912x4,SL.s2742458400755230247x6,SL.s11443829558043349243x14,SL.s4290257624100764138x5,SL.s14018661285674007319x4,SL.s7097527257260152453x26,SL.s10062305145149207511x16,SL.s14755015743595814543x17,SL.s10220274742760427390x26,SL.s6070975301684473832x10,SL.s5946037652744460706x9,SL.s4278001404047624695x13,SL.s4209523147560561109x18,SL.s6511155373996960695x17,SL.s12411053484034534018x21]
theorem cc {α:Type}{x y:α}{l m:List α}(h:x=y)(k:l=m):x::l=y::m:=by rw [h,k]
theorem ea:a0=a1:=by
 iterate 196 refine cc (by kernel_rfl) ?_
 exact rfl
theorem et:t0=t1:=(cc SL.e7174869446012820540x8 (cc SL.e5856160107412720595x4 (cc SL.e2766695959194262286x5 (cc SL.e658472552662922059x5 (cc SL.e11030030927630378310x26 (cc SL.e4860613602091757760x24 (cc SL.e17162191345867700912x4 (cc SL.e2742458400755230247x6 (cc SL.e11443829558043349243x14 (cc SL.e4290257624100764138x5 (cc SL.e14018661285674007319x4 (cc SL.e7097527257260152453x26 (cc SL.e10062305145149207511x16 (cc SL.e14755015743595814543x17 (cc SL.e10220274742760427390x26 (cc SL.e6070975301684473832x10 (cc SL.e5946037652744460706x9 (cc SL.e4278001404047624695x13 (cc SL.e4209523147560561109x18 (cc SL.e6511155373996960695x17 (cc SL.e12411053484034534018x21 rfl)))))))))))))))))))))
noncomputable def A0:AT:=⟨PySem.Challenge.pw_bellsaway_k19_texts_of_fits_spoilt,a0,t0⟩
noncomputable def B0:AT:=⟨Fast.tw12937796578760604866,a1,t1⟩
theorem ab:A0=B0:=by
 unfold A0 B0
 rw [ea,et,Fast.te12937796578760604866]
end Hd
namespace PySem.W.Fast
open Hd
noncomputable def vw (l:List Nat)(A:AT):Program:={ A.p with main:={ A.p.main with body:=l.map (@stm A) } }
noncomputable def sl (i n:Nat)(A:AT):List Stmt:=(A.p.main.body.drop i).take n
noncomputable def tw8789516479448170435:=vw [0,2,3,4,6,7,9,10,11,13,14,15,16,17,18,20,21,22,23,24,25,26,27,28,29,30,32,33,34,35,36,37,38,39,40,42,43,44,45,46,47,48,49,50,51,52,53,54,55,56,57,58,59] B0
theorem te8789516479448170435:vw [0,2,3,4,6,7,9,10,11,13,14,15,16,17,18,20,21,22,23,24,25,26,27,28,29,30,32,33,34,35,36,37,38,39,40,42,43,44,45,46,47,48,49,50,51,52,53,54,55,56,57,58,59] A0=tw8789516479448170435:=congrArg _ ab
noncomputable def tw907703002582242655:=sl 29 7 B0
theorem te907703002582242655:sl 29 7 A0=tw907703002582242655:=congrArg _ ab
noncomputable def tw5511011562124463569:=sl 36 14 B0
theorem te5511011562124463569:sl 36 14 A0=tw5511011562124463569:=congrArg _ ab
noncomputable def tw11989304620383113217:=sl 50 10 B0
theorem te11989304620383113217:sl 50 10 A0=tw11989304620383113217:=congrArg _ ab
noncomputable def tw10055147960016780831:=sl 18 1 B0
theorem te10055147960016780831:sl 18 1 A0=tw10055147960016780831:=congrArg _ ab
noncomputable def tw14212327596745604521:=tree_127 B0
theorem te14212327596745604521:tree_127 A0=tw14212327596745604521:=congrArg tree_127 ab
noncomputable def tw9241144541973375114:=tree_70 B0
theorem te9241144541973375114:tree_70 A0=tw9241144541973375114:=congrArg tree_70 ab
noncomputable def tw15929082032057492778:=tree_146 B0
theorem te15929082032057492778:tree_146 A0=tw15929082032057492778:=congrArg tree_146 ab
noncomputable def tw12968966699817377674:=tree_529 B0
theorem te12968966699817377674:tree_529 A0=tw12968966699817377674:=congrArg tree_529 ab
noncomputable def tw16948912220991201421:=tree_260 B0
theorem te16948912220991201421:tree_260 A0=tw16948912220991201421:=congrArg tree_260 ab
noncomputable def tw9944550853457773485:=heap_873 B0
theorem te9944550853457773485:heap_873 A0=tw9944550853457773485:=congrArg heap_873 ab
noncomputable def tw6290302530514988943:=tree_721 B0
theorem te6290302530514988943:tree_721 A0=tw6290302530514988943:=congrArg tree_721 ab
noncomputable def tw17638950703720936145:=tree_364 B0
theorem te17638950703720936145:tree_364 A0=tw17638950703720936145:=congrArg tree_364 ab
noncomputable def tw12033889249115714067:=tree_872 B0
theorem te12033889249115714067:tree_872 A0=tw12033889249115714067:=congrArg tree_872 ab
noncomputable def tw7523001524641330260:=tree_345 B0
theorem te7523001524641330260:tree_345 A0=tw7523001524641330260:=congrArg tree_345 ab
noncomputable def tw2701317373521280756:=tree_47 B0
theorem te2701317373521280756:tree_47 A0=tw2701317373521280756:=congrArg tree_47 ab
noncomputable def tw8282540120290897398:=heap_46 B0
theorem te8282540120290897398:heap_46 A0=tw8282540120290897398:=congrArg heap_46 ab
noncomputable def tw8450184931987652566:=tree_806 B0
theorem te8450184931987652566:tree_806 A0=tw8450184931987652566:=congrArg tree_806 ab
noncomputable def tw5083982015449939640:=tree_615 B0
theorem te5083982015449939640:tree_615 A0=tw5083982015449939640:=congrArg tree_615 ab
noncomputable def tw10050019693249966747:=tree_443 B0
theorem te10050019693249966747:tree_443 A0=tw10050019693249966747:=congrArg tree_443 ab
noncomputable def tw413794279625532219:=tree_400 B0
theorem te413794279625532219:tree_400 A0=tw413794279625532219:=congrArg tree_400 ab
noncomputable def tw16644159550959066237:=tree_572 B0
theorem te16644159550959066237:tree_572 A0=tw16644159550959066237:=congrArg tree_572 ab
noncomputable def tw16469453802076082334:=tree_486 B0
theorem te16469453802076082334:tree_486 A0=tw16469453802076082334:=congrArg tree_486 ab
noncomputable def tw14206706997905845054:=heap_39 B0
theorem te14206706997905845054:heap_39 A0=tw14206706997905845054:=congrArg heap_39 ab
noncomputable def tw10844991765532371838:=tree_665 B0
theorem te10844991765532371838:tree_665 A0=tw10844991765532371838:=congrArg tree_665 ab
noncomputable def tw11385621990598955071:=tree_85 B0
theorem te11385621990598955071:tree_85 A0=tw11385621990598955071:=congrArg tree_85 ab
end PySem.W.Fast
namespace Bw
open PySem L2 PySem.W
theorem BP9 {K:Frag}{C B N:Addr}{nm q:Str}{bs:List Value}{sn:List Str}{sub:List Value}{ab:Bool}{col:Option Bool}{dd:Option Addr}{k0 k1 k2 k3 k5:Option Value}(l:K.lookup C=some ⟨.type "type",dd,.cls ⟨nm,bs,[.ref C,.ref B,.type "ValueError",.type "Exception",.type "BaseException",.type "object"],N,q,true,sn,sub,ab,col,false⟩,#[k0,k1,k2,k3,some (.builtin "ValueError.__new__"),k5]⟩)(sa:findIn K (.ref C) "__setattr__"=some (some (.builtin "object.__setattr__"))):∃ cd,ExcS K C cd:=⟨_,by unfold clsIn; rw [l],rfl,rfl,sa⟩
theorem BS4 {l:OpenLaw}{w:World}{K:Frag}{h:Heap}{mg:Str->Option Value}{fa f0 f1 f2 f3 f4 f5 f6 f7 f8 f9 f10 f11 f12 f13 f14 f15 f16 f17 f18 f19 f20 f21 f22 f23 f24 f25 f26 f27 f28 f29 f30 f31 f32 f33 f34 f35 f36 f37 f38 f39 f40 f41 f42 f43 f44 f45 f46 f47 f48 z0 z1 z2 z3 z4 z5 z6 z7 z8 z9 z10 z11 z12:Addr}{t0 t1 t2 t3:Tok}(X:K.In h)(G:h.Ns mainGlobals mg)(hfa:mg "law"=some (.ref fa)){od0 an0:Option Addr}{sl0:Array (Option Value)}{oc0 kV0 dc0 pm0 cd0 ct0:Value}(a0:findIn K (.ref z2) "__init__"=some (some (.ref f0)))(i0:isFn K (.ref f0)=true){T0:Addr}{doc0:Value}{dod0:Option Addr}{dn0:Nat}{dsl0:Array (Option Value)}{dt0_0:Tok}(l0:K.lookup f0=some ⟨oc0,od0,.func (fnOf "__init__" "NoText.__init__" (aX bD) (aV bD) (aF bD) (.ref T0) kV0 dc0 pm0 an0 cd0 ct0),sl0⟩)(d0:K.lookup T0=some ⟨doc0,dod0,.seq #[.int 0 dt0_0] dn0,dsl0⟩)(c0:codeIn K cd0 "NoText.__init__"=true){od1 an1:Option Addr}{sl1:Array (Option Value)}{oc1 kV1 dc1 pm1 cd1 ct1:Value}(a1:nsIn K mainGlobals "is_whole"=some (some (.ref f1)))(l1:K.lookup f1=some ⟨oc1,od1,.func (fnOf "is_whole" "is_whole" (aX fR) (aV fR) (aF fR) .none kV1 dc1 pm1 an1 cd1 ct1),sl1⟩)(c1:codeIn K cd1 "is_whole"=true)(k1:keepIn K (.ref f1)=true){od2 an2:Option Addr}{sl2:Array (Option Value)}{oc2 kV2 dc2 pm2 cd2 ct2:Value}(a2:nsIn K mainGlobals "is_whole_from"=some (some (.ref f2)))(l2:K.lookup f2=some ⟨oc2,od2,.func (fnOf "is_whole_from" "is_whole_from" (aX cK) (aV cK) (aF cK) .none kV2 dc2 pm2 an2 cd2 ct2),sl2⟩)(c2:codeIn K cd2 "is_whole_from"=true)(k2:keepIn K (.ref f2)=true){od3 an3:Option Addr}{sl3:Array (Option Value)}{oc3 kV3 dc3 pm3 cd3 ct3:Value}(a3:nsIn K mainGlobals "is_name"=some (some (.ref f3)))(l3:K.lookup f3=some ⟨oc3,od3,.func (fnOf "is_name" "is_name" (aX iR) (aV iR) (aF iR) .none kV3 dc3 pm3 an3 cd3 ct3),sl3⟩)(c3:codeIn K cd3 "is_name"=true)(k3:keepIn K (.ref f3)=true){od4 an4:Option Addr}{sl4:Array (Option Value)}{oc4 kV4 dc4 pm4 cd4 ct4:Value}(a4:nsIn K mainGlobals "are_unlike_names"=some (some (.ref f4)))(l4:K.lookup f4=some ⟨oc4,od4,.func (fnOf "are_unlike_names" "are_unlike_names" (aX bS) (aV bS) (aF bS) .none kV4 dc4 pm4 an4 cd4 ct4),sl4⟩)(c4:codeIn K cd4 "are_unlike_names"=true)(k4:keepIn K (.ref f4)=true){od5 an5:Option Addr}{sl5:Array (Option Value)}{oc5 kV5 dc5 pm5 cd5 ct5:Value}(a5:nsIn K mainGlobals "is_figures"=some (some (.ref f5)))(l5:K.lookup f5=some ⟨oc5,od5,.func (fnOf "is_figures" "is_figures" (aX dO) (aV dO) (aF dO) .none kV5 dc5 pm5 an5 cd5 ct5),sl5⟩)(c5:codeIn K cd5 "is_figures"=true)(k5:keepIn K (.ref f5)=true){od6 an6:Option Addr}{sl6:Array (Option Value)}{oc6 kV6 dc6 pm6 cd6 ct6:Value}(a6:nsIn K mainGlobals "is_number"=some (some (.ref f6)))(l6:K.lookup f6=some ⟨oc6,od6,.func (fnOf "is_number" "is_number" (aX eH) (aV eH) (aF eH) .none kV6 dc6 pm6 an6 cd6 ct6),sl6⟩)(c6:codeIn K cd6 "is_number"=true)(k6:keepIn K (.ref f6)=true){od7 an7:Option Addr}{sl7:Array (Option Value)}{oc7 kV7 dc7 pm7 cd7 ct7:Value}(a7:findIn K (.ref z3) "__init__"=some (some (.ref f7)))(i7:isFn K (.ref f7)=true)(l7:K.lookup f7=some ⟨oc7,od7,.func (fnOf "__init__" "Words.__init__" (aX cB) (aV cB) (aF cB) .none kV7 dc7 pm7 an7 cd7 ct7),sl7⟩)(c7:codeIn K cd7 "Words.__init__"=true)(k7:keepIn K (.ref f7)=true){od8 an8:Option Addr}{sl8:Array (Option Value)}{oc8 kV8 dc8 pm8 cd8 ct8:Value}(a8:findIn K (.ref z3) "is_ended"=some (some (.ref f8)))(i8:isFn K (.ref f8)=true)(l8:K.lookup f8=some ⟨oc8,od8,.func (fnOf "is_ended" "Words.is_ended" (aX cC) (aV cC) (aF cC) .none kV8 dc8 pm8 an8 cd8 ct8),sl8⟩)(c8:codeIn K cd8 "Words.is_ended"=true)(k8:keepIn K (.ref f8)=true){od9 an9:Option Addr}{sl9:Array (Option Value)}{oc9 kV9 dc9 pm9 cd9 ct9:Value}(a9:findIn K (.ref z3) "look"=some (some (.ref f9)))(i9:isFn K (.ref f9)=true)(l9:K.lookup f9=some ⟨oc9,od9,.func (fnOf "look" "Words.look" (aX dP) (aV dP) (aF dP) .none kV9 dc9 pm9 an9 cd9 ct9),sl9⟩)(c9:codeIn K cd9 "Words.look"=true)(k9:keepIn K (.ref f9)=true){od10 an10:Option Addr}{sl10:Array (Option Value)}{oc10 kV10 dc10 pm10 cd10 ct10:Value}(a10:findIn K (.ref z3) "take"=some (some (.ref f10)))(i10:isFn K (.ref f10)=true)(l10:K.lookup f10=some ⟨oc10,od10,.func (fnOf "take" "Words.take" (aX dQ) (aV dQ) (aF dQ) .none kV10 dc10 pm10 an10 cd10 ct10),sl10⟩)(c10:codeIn K cd10 "Words.take"=true)(k10:keepIn K (.ref f10)=true){od11 an11:Option Addr}{sl11:Array (Option Value)}{oc11 kV11 dc11 pm11 cd11 ct11:Value}(a11:findIn K (.ref z3) "expect_end"=some (some (.ref f11)))(i11:isFn K (.ref f11)=true)(l11:K.lookup f11=some ⟨oc11,od11,.func (fnOf "expect_end" "Words.expect_end" (aX bT) (aV bT) (aF bT) .none kV11 dc11 pm11 an11 cd11 ct11),sl11⟩)(c11:codeIn K cd11 "Words.expect_end"=true)(k11:keepIn K (.ref f11)=true){od12 an12:Option Addr}{sl12:Array (Option Value)}{oc12 kV12 dc12 pm12 cd12 ct12:Value}(a12:findIn K (.ref z3) "take_number"=some (some (.ref f12)))(i12:isFn K (.ref f12)=true)(l12:K.lookup f12=some ⟨oc12,od12,.func (fnOf "take_number" "Words.take_number" (aX bM) (aV bM) (aF bM) .none kV12 dc12 pm12 an12 cd12 ct12),sl12⟩)(c12:codeIn K cd12 "Words.take_number"=true)(k12:keepIn K (.ref f12)=true){od13 an13:Option Addr}{sl13:Array (Option Value)}{oc13 kV13 dc13 pm13 cd13 ct13:Value}(a13:findIn K (.ref z3) "take_names"=some (some (.ref f13)))(i13:isFn K (.ref f13)=true)(l13:K.lookup f13=some ⟨oc13,od13,.func (fnOf "take_names" "Words.take_names" (aX bU) (aV bU) (aF bU) .none kV13 dc13 pm13 an13 cd13 ct13),sl13⟩)(c13:codeIn K cd13 "Words.take_names"=true)(k13:keepIn K (.ref f13)=true){od14 an14:Option Addr}{sl14:Array (Option Value)}{oc14 kV14 dc14 pm14 cd14 ct14:Value}(a14:findIn K (.ref z6) "__init__"=some (some (.ref f14)))(i14:isFn K (.ref f14)=true)(l14:K.lookup f14=some ⟨oc14,od14,.func (fnOf "__init__" "Kind.__init__" (aX cL) (aV cL) (aF cL) .none kV14 dc14 pm14 an14 cd14 ct14),sl14⟩)(c14:codeIn K cd14 "Kind.__init__"=true)(k14:keepIn K (.ref f14)=true){od15 an15:Option Addr}{sl15:Array (Option Value)}{oc15 kV15 dc15 pm15 cd15 ct15:Value}(a15:findIn K (.ref z7) "__init__"=some (some (.ref f15)))(i15:isFn K (.ref f15)=true)(l15:K.lookup f15=some ⟨oc15,od15,.func (fnOf "__init__" "Place.__init__" (aX cD) (aV cD) (aF cD) .none kV15 dc15 pm15 an15 cd15 ct15),sl15⟩)(c15:codeIn K cd15 "Place.__init__"=true)(k15:keepIn K (.ref f15)=true){od16 an16:Option Addr}{sl16:Array (Option Value)}{oc16 kV16 dc16 pm16 cd16 ct16:Value}(a16:findIn K (.ref z8) "__init__"=some (some (.ref f16)))(i16:isFn K (.ref f16)=true)(l16:K.lookup f16=some ⟨oc16,od16,.func (fnOf "__init__" "Least.__init__" (aX cE) (aV cE) (aF cE) .none kV16 dc16 pm16 an16 cd16 ct16),sl16⟩)(c16:codeIn K cd16 "Least.__init__"=true)(k16:keepIn K (.ref f16)=true){od17 an17:Option Addr}{sl17:Array (Option Value)}{oc17 kV17 dc17 pm17 cd17 ct17:Value}(a17:findIn K (.ref z9) "__init__"=some (some (.ref f17)))(i17:isFn K (.ref f17)=true)(l17:K.lookup f17=some ⟨oc17,od17,.func (fnOf "__init__" "Not.__init__" (aX cX) (aV cX) (aF cX) .none kV17 dc17 pm17 an17 cd17 ct17),sl17⟩)(c17:codeIn K cd17 "Not.__init__"=true)(k17:keepIn K (.ref f17)=true){od18 an18:Option Addr}{sl18:Array (Option Value)}{oc18 kV18 dc18 pm18 cd18 ct18:Value}(a18:findIn K (.ref z10) "__init__"=some (some (.ref f18)))(i18:isFn K (.ref f18)=true)(l18:K.lookup f18=some ⟨oc18,od18,.func (fnOf "__init__" "Both.__init__" (aX cM) (aV cM) (aF cM) .none kV18 dc18 pm18 an18 cd18 ct18),sl18⟩)(c18:codeIn K cd18 "Both.__init__"=true)(k18:keepIn K (.ref f18)=true){od19 an19:Option Addr}{sl19:Array (Option Value)}{oc19 kV19 dc19 pm19 cd19 ct19:Value}(a19:findIn K (.ref z11) "__init__"=some (some (.ref f19)))(i19:isFn K (.ref f19)=true)(l19:K.lookup f19=some ⟨oc19,od19,.func (fnOf "__init__" "Either.__init__" (aX bV) (aV bV) (aF bV) .none kV19 dc19 pm19 an19 cd19 ct19),sl19⟩)(c19:codeIn K cd19 "Either.__init__"=true)(k19:keepIn K (.ref f19)=true){od20 an20:Option Addr}{sl20:Array (Option Value)}{oc20 kV20 dc20 pm20 cd20 ct20:Value}(a20:nsIn K mainGlobals "check_names"=some (some (.ref f20)))(l20:K.lookup f20=some ⟨oc20,od20,.func (fnOf "check_names" "check_names" (aX dB) (aV dB) (aF dB) .none kV20 dc20 pm20 an20 cd20 ct20),sl20⟩)(c20:codeIn K cd20 "check_names"=true)(k20:keepIn K (.ref f20)=true){od21 an21:Option Addr}{sl21:Array (Option Value)}{oc21 kV21 dc21 pm21 cd21 ct21:Value}(a21:nsIn K mainGlobals "check_fit"=some (some (.ref f21)))(l21:K.lookup f21=some ⟨oc21,od21,.func (fnOf "check_fit" "check_fit" (aX eI) (aV eI) (aF eI) .none kV21 dc21 pm21 an21 cd21 ct21),sl21⟩)(c21:codeIn K cd21 "check_fit"=true)(k21:keepIn K (.ref f21)=true){od22 an22:Option Addr}{sl22:Array (Option Value)}{oc22 kV22 dc22 pm22 cd22 ct22:Value}(a22:nsIn K mainGlobals "check_fits"=some (some (.ref f22)))(l22:K.lookup f22=some ⟨oc22,od22,.func (fnOf "check_fits" "check_fits" (aX dR) (aV dR) (aF dR) .none kV22 dc22 pm22 an22 cd22 ct22),sl22⟩)(c22:codeIn K cd22 "check_fits"=true)(k22:keepIn K (.ref f22)=true){od23 an23:Option Addr}{sl23:Array (Option Value)}{oc23 kV23 dc23 pm23 cd23 ct23:Value}(a23:nsIn K mainGlobals "show_fit"=some (some (.ref f23)))(l23:K.lookup f23=some ⟨oc23,od23,.func (fnOf "show_fit" "show_fit" (aX fS) (aV fS) (aF fS) .none kV23 dc23 pm23 an23 cd23 ct23),sl23⟩)(c23:codeIn K cd23 "show_fit"=true)(k23:keepIn K (.ref f23)=true){od24 an24:Option Addr}{sl24:Array (Option Value)}{oc24 kV24 dc24 pm24 cd24 ct24:Value}(a24:nsIn K mainGlobals "read_fit"=some (some (.ref f24)))(l24:K.lookup f24=some ⟨oc24,od24,.func (fnOf "read_fit" "read_fit" (aX fT) (aV fT) (aF fT) .none kV24 dc24 pm24 an24 cd24 ct24),sl24⟩)(c24:codeIn K cd24 "read_fit"=true)(k24:keepIn K (.ref f24)=true){od25 an25:Option Addr}{sl25:Array (Option Value)}{oc25 kV25 dc25 pm25 cd25 ct25:Value}(a25:nsIn K mainGlobals "read_whole"=some (some (.ref f25)))(l25:K.lookup f25=some ⟨oc25,od25,.func (fnOf "read_whole" "read_whole" (aX dS) (aV dS) (aF dS) .none kV25 dc25 pm25 an25 cd25 ct25),sl25⟩)(c25:codeIn K cd25 "read_whole"=true)(k25:keepIn K (.ref f25)=true){od26 an26:Option Addr}{sl26:Array (Option Value)}{oc26 kV26 dc26 pm26 cd26 ct26:Value}(a26:findIn K (.ref z12) "__init__"=some (some (.ref f26)))(i26:isFn K (.ref f26)=true)(l26:K.lookup f26=some ⟨oc26,od26,.func (fnOf "__init__" "Opened.__init__" (aX bW) (aV bW) (aF bW) .none kV26 dc26 pm26 an26 cd26 ct26),sl26⟩)(c26:codeIn K cd26 "Opened.__init__"=true)(k26:keepIn K (.ref f26)=true){od27 an27:Option Addr}{sl27:Array (Option Value)}{oc27 kV27 dc27 pm27 cd27 ct27:Value}(a27:nsIn K mainGlobals "fit_from"=some (some (.ref f27)))(l27:K.lookup f27=some ⟨oc27,od27,.func (fnOf "fit_from" "fit_from" (aX fU) (aV fU) (aF fU) .none kV27 dc27 pm27 an27 cd27 ct27),sl27⟩)(c27:codeIn K cd27 "fit_from"=true)(k27:keepIn K (.ref f27)=true){od28 an28:Option Addr}{sl28:Array (Option Value)}{oc28 kV28 dc28 pm28 cd28 ct28:Value}(a28:nsIn K mainGlobals "plain_fit_from"=some (some (.ref f28)))(l28:K.lookup f28=some ⟨oc28,od28,.func (fnOf "plain_fit_from" "plain_fit_from" (aX cF) (aV cF) (aF cF) .none kV28 dc28 pm28 an28 cd28 ct28),sl28⟩)(c28:codeIn K cd28 "plain_fit_from"=true)(k28:keepIn K (.ref f28)=true){od29 an29:Option Addr}{sl29:Array (Option Value)}{oc29 kV29 dc29 pm29 cd29 ct29:Value}(a29:nsIn K mainGlobals "closed"=some (some (.ref f29)))(l29:K.lookup f29=some ⟨oc29,od29,.func (fnOf "closed" "closed" (aX kD) (aV kD) (aF kD) .none kV29 dc29 pm29 an29 cd29 ct29),sl29⟩)(c29:codeIn K cd29 "closed"=true)(k29:keepIn K (.ref f29)=true){od30 an30:Option Addr}{sl30:Array (Option Value)}{oc30 kV30 dc30 pm30 cd30 ct30:Value}(a30:nsIn K mainGlobals "is_closed_here"=some (some (.ref f30)))(l30:K.lookup f30=some ⟨oc30,od30,.func (fnOf "is_closed_here" "is_closed_here" (aX cG) (aV cG) (aF cG) .none kV30 dc30 pm30 an30 cd30 ct30),sl30⟩)(c30:codeIn K cd30 "is_closed_here"=true)(k30:keepIn K (.ref f30)=true){od31 an31:Option Addr}{sl31:Array (Option Value)}{oc31 kV31 dc31 pm31 cd31 ct31:Value}(a31:nsIn K mainGlobals "fit_of"=some (some (.ref f31)))(l31:K.lookup f31=some ⟨oc31,od31,.func (fnOf "fit_of" "fit_of" (aX kE) (aV kE) (aF kE) .none kV31 dc31 pm31 an31 cd31 ct31),sl31⟩)(c31:codeIn K cd31 "fit_of"=true)(k31:keepIn K (.ref f31)=true){od32 an32:Option Addr}{sl32:Array (Option Value)}{oc32 kV32 dc32 pm32 cd32 ct32:Value}(a32:nsIn K mainGlobals "_law_begin"=some (some (.ref f32)))(l32:K.lookup f32=some ⟨oc32,od32,.func (fnOf "_law_begin" "_law_begin" (aX eJ) (aV eJ) (aF eJ) .none kV32 dc32 pm32 an32 cd32 ct32),sl32⟩)(c32:codeIn K cd32 "_law_begin"=true)(k32:keepIn K (.ref f32)=true){od33 an33:Option Addr}{sl33:Array (Option Value)}{oc33 kV33 dc33 pm33 cd33 ct33:Value}(a33:nsIn K mainGlobals "_law_next"=some (some (.ref f33)))(l33:K.lookup f33=some ⟨oc33,od33,.func (fnOf "_law_next" "_law_next" (aX fV) (aV fV) (aF fV) .none kV33 dc33 pm33 an33 cd33 ct33),sl33⟩)(c33:codeIn K cd33 "_law_next"=true)(k33:keepIn K (.ref f33)=true){od34 an34:Option Addr}{sl34:Array (Option Value)}{oc34 kV34 dc34 pm34 cd34 ct34:Value}(a34:nsIn K mainGlobals "_law_name"=some (some (.ref f34)))(l34:K.lookup f34=some ⟨oc34,od34,.func (fnOf "_law_name" "_law_name" (aX fW) (aV fW) (aF fW) .none kV34 dc34 pm34 an34 cd34 ct34),sl34⟩)(c34:codeIn K cd34 "_law_name"=true)(k34:keepIn K (.ref f34)=true){od35 an35:Option Addr}{sl35:Array (Option Value)}{oc35 kV35 dc35 pm35 cd35 ct35:Value}(a35:nsIn K mainGlobals "_law_leaf"=some (some (.ref f35)))(l35:K.lookup f35=some ⟨oc35,od35,.func (fnOf "_law_leaf" "_law_leaf" (aX fX) (aV fX) (aF fX) .none kV35 dc35 pm35 an35 cd35 ct35),sl35⟩)(c35:codeIn K cd35 "_law_leaf"=true)(k35:keepIn K (.ref f35)=true){od36 an36:Option Addr}{sl36:Array (Option Value)}{oc36 kV36 dc36 pm36 cd36 ct36:Value}(a36:nsIn K mainGlobals "_law_tree"=some (some (.ref f36)))(l36:K.lookup f36=some ⟨oc36,od36,.func (fnOf "_law_tree" "_law_tree" (aX fY) (aV fY) (aF fY) .none kV36 dc36 pm36 an36 cd36 ct36),sl36⟩)(c36:codeIn K cd36 "_law_tree"=true)(k36:keepIn K (.ref f36)=true){od37 an37:Option Addr}{sl37:Array (Option Value)}{oc37 kV37 dc37 pm37 cd37 ct37:Value}(a37:nsIn K mainGlobals "_law_text"=some (some (.ref f37)))(l37:K.lookup f37=some ⟨oc37,od37,.func (fnOf "_law_text" "_law_text" (aX fZ) (aV fZ) (aF fZ) .none kV37 dc37 pm37 an37 cd37 ct37),sl37⟩)(c37:codeIn K cd37 "_law_text"=true)(k37:keepIn K (.ref f37)=true){od38 an38:Option Addr}{sl38:Array (Option Value)}{oc38 kV38 dc38 pm38 cd38 ct38:Value}(a38:nsIn K mainGlobals "_law_same"=some (some (.ref f38)))(l38:K.lookup f38=some ⟨oc38,od38,.func (fnOf "_law_same" "_law_same" (aX gA) (aV gA) (aF gA) .none kV38 dc38 pm38 an38 cd38 ct38),sl38⟩)(c38:codeIn K cd38 "_law_same"=true)(k38:keepIn K (.ref f38)=true){od39 an39:Option Addr}{sl39:Array (Option Value)}{oc39 kV39 dc39 pm39 cd39 ct39:Value}(a39:nsIn K mainGlobals "_law_word"=some (some (.ref f39)))(l39:K.lookup f39=some ⟨oc39,od39,.func (fnOf "_law_word" "_law_word" (aX gB) (aV gB) (aF gB) .none kV39 dc39 pm39 an39 cd39 ct39),sl39⟩)(c39:codeIn K cd39 "_law_word"=true)(k39:keepIn K (.ref f39)=true){od40 an40:Option Addr}{sl40:Array (Option Value)}{oc40 kV40 dc40 pm40 cd40 ct40:Value}(a40:nsIn K mainGlobals "_law_changed"=some (some (.ref f40)))(l40:K.lookup f40=some ⟨oc40,od40,.func (fnOf "_law_changed" "_law_changed" (aX dC) (aV dC) (aF dC) .none kV40 dc40 pm40 an40 cd40 ct40),sl40⟩)(c40:codeIn K cd40 "_law_changed"=true)(k40:keepIn K (.ref f40)=true){od41 an41:Option Addr}{sl41:Array (Option Value)}{oc41 kV41 dc41 pm41 cd41 ct41:Value}(a41:nsIn K mainGlobals "_law_spoilt"=some (some (.ref f41)))(l41:K.lookup f41=some ⟨oc41,od41,.func (fnOf "_law_spoilt" "_law_spoilt" (aX dU) (aV dU) (aF dU) .none kV41 dc41 pm41 an41 cd41 ct41),sl41⟩)(c41:codeIn K cd41 "_law_spoilt"=true)(k41:keepIn K (.ref f41)=true){od42 an42:Option Addr}{sl42:Array (Option Value)}{oc42 kV42 dc42 pm42 cd42 ct42:Value}(a42:nsIn K mainGlobals "_law_is_name"=some (some (.ref f42)))(l42:K.lookup f42=some ⟨oc42,od42,.func (fnOf "_law_is_name" "_law_is_name" (aX dD) (aV dD) (aF dD) .none kV42 dc42 pm42 an42 cd42 ct42),sl42⟩)(c42:codeIn K cd42 "_law_is_name"=true)(k42:keepIn K (.ref f42)=true){od43 an43:Option Addr}{sl43:Array (Option Value)}{oc43 kV43 dc43 pm43 cd43 ct43:Value}(a43:nsIn K mainGlobals "_law_is_weight"=some (some (.ref f43)))(l43:K.lookup f43=some ⟨oc43,od43,.func (fnOf "_law_is_weight" "_law_is_weight" (aX cN) (aV cN) (aF cN) .none kV43 dc43 pm43 an43 cd43 ct43),sl43⟩)(c43:codeIn K cd43 "_law_is_weight"=true)(k43:keepIn K (.ref f43)=true){od44 an44:Option Addr}{sl44:Array (Option Value)}{oc44 kV44 dc44 pm44 cd44 ct44:Value}(a44:nsIn K mainGlobals "_law_names"=some (some (.ref f44)))(l44:K.lookup f44=some ⟨oc44,od44,.func (fnOf "_law_names" "_law_names" (aX eK) (aV eK) (aF eK) .none kV44 dc44 pm44 an44 cd44 ct44),sl44⟩)(c44:codeIn K cd44 "_law_names"=true)(k44:keepIn K (.ref f44)=true){od45 an45:Option Addr}{sl45:Array (Option Value)}{oc45 kV45 dc45 pm45 cd45 ct45:Value}(a45:nsIn K mainGlobals "_law_several"=some (some (.ref f45)))(l45:K.lookup f45=some ⟨oc45,od45,.func (fnOf "_law_several" "_law_several" (aX dE) (aV dE) (aF dE) .none kV45 dc45 pm45 an45 cd45 ct45),sl45⟩)(c45:codeIn K cd45 "_law_several"=true)(k45:keepIn K (.ref f45)=true){od46 an46:Option Addr}{sl46:Array (Option Value)}{oc46 kV46 dc46 pm46 cd46 ct46:Value}(a46:nsIn K mainGlobals "_law_read"=some (some (.ref f46)))(l46:K.lookup f46=some ⟨oc46,od46,.func (fnOf "_law_read" "_law_read" (aX gC) (aV gC) (aF gC) .none kV46 dc46 pm46 an46 cd46 ct46),sl46⟩)(c46:codeIn K cd46 "_law_read"=true)(k46:keepIn K (.ref f46)=true){od47 an47:Option Addr}{sl47:Array (Option Value)}{oc47 kV47 dc47 pm47 cd47 ct47:Value}(a47:nsIn K mainGlobals "_law_told"=some (some (.ref f47)))(l47:K.lookup f47=some ⟨oc47,od47,.func (fnOf "_law_told" "_law_told" (aX gD) (aV gD) (aF gD) .none kV47 dc47 pm47 an47 cd47 ct47),sl47⟩)(c47:codeIn K cd47 "_law_told"=true)(k47:keepIn K (.ref f47)=true){od48 an48:Option Addr}{sl48:Array (Option Value)}{oc48 kV48 dc48 pm48 cd48 ct48:Value}(a48:nsIn K mainGlobals "law"=some (some (.ref f48)))(l48:K.lookup f48=some ⟨oc48,od48,.func (fnOf "law" "law" (aX tP) (aV tP) (aF tP) .none kV48 dc48 pm48 an48 cd48 ct48),sl48⟩)(c48:codeIn K cd48 "law"=true)(k48:keepIn K (.ref f48)=true)(y0:nsIn K mainGlobals "len"=some none)(y1:nsIn K mainGlobals "int"=some none)(y2:nsIn K mainGlobals "bool"=some none)(y3:nsIn K mainGlobals "str"=some none)(y4:nsIn K mainGlobals "tuple"=some none)(y5:nsIn K mainGlobals "list"=some none)(y6:nsIn K mainGlobals "all"=some none)(y7:nsIn K mainGlobals "isinstance"=some none)(y8:nsIn K mainGlobals "range"=some none)(y9:nsIn K mainGlobals "set"=some none)(y10:nsIn K mainGlobals "ValueError"=some none)(y11:nsIn K mainGlobals "LETTERS"=some (some (.str "abcdefghijklmnopqrstuvwxyz" t0)))(y12:nsIn K mainGlobals "MOST_LETTERS"=some (some (.int 8 t1)))(y13:nsIn K mainGlobals "FIGURES"=some (some (.str "0123456789" t2)))(y14:nsIn K mainGlobals "MOST_FIGURES"=some (some (.int 60 t3)))(y15:nsIn K mainGlobals "BellError"=some (some (.ref z0)))(y16:nsIn K mainGlobals "NoFit"=some (some (.ref z1)))(y17:nsIn K mainGlobals "NoText"=some (some (.ref z2)))(y18:nsIn K mainGlobals "Words"=some (some (.ref z3)))(y19:nsIn K mainGlobals "Fit"=some (some (.ref z4)))(y20:nsIn K mainGlobals "Any"=some (some (.ref z5)))(y21:nsIn K mainGlobals "Kind"=some (some (.ref z6)))(y22:nsIn K mainGlobals "Place"=some (some (.ref z7)))(y23:nsIn K mainGlobals "Least"=some (some (.ref z8)))(y24:nsIn K mainGlobals "Not"=some (some (.ref z9)))(y25:nsIn K mainGlobals "Both"=some (some (.ref z10)))(y26:nsIn K mainGlobals "Either"=some (some (.ref z11)))(y27:nsIn K mainGlobals "Opened"=some (some (.ref z12)))(y28:nsIn K mainGlobals "fit_from"=some (some (.ref f27)))(y29_0:findIn K (.ref z2) "__getattribute__"=some (some (.builtin "BaseException.__getattribute__")))(y29_1:findIn K (.ref z2) "__getattr__"=some none)(y29_2:findIn K (.ref z2) "__class__"=some (some (.builtin "object.__class__")))(y29_3:mroIn K z2 (.type "BaseException")=some true)(y29_4:mroIn K z2 (.type "object")=some true)(y29_5:isClsIn K z2=true)(y30:excIn K z1 vbm "ValueError.__new__"=true)(y31:exmOne K (.ref z1) (.ref z0)=some true)(y32:exmOne K (.ref z2) (.ref z0)=some true)(y33:hasDictIn K z2=true)(y34:mroIn K z2 (.type "object")=some true)(y35:findIn K (.ref z2) "line"=some none)(y37_0:plainGet K z5 Str.empty=true)(y37_1:hasDictIn K z5=true)(y37_2:plainOver K z5=true)(y37_3:findIn K (.ref z5) "__setattr__"=some (some (.builtin "object.__setattr__")))(y37_4:findIn K (.ref z5) "__class__"=some (some (.builtin "object.__class__")))(y37_5:specialIn K (.builtin "object.__class__") "__get__"=some (some (.builtin "getset_descriptor.__get__")))(y37_6:takesIn K (.builtin "object.__class__")=some true)(y37_7:mroIn K z5 (.type "object")=some true)(y38_0:plainGet K z6 Str.empty=true)(y38_1:hasDictIn K z6=true)(y38_2:plainOver K z6=true)(y38_3:findIn K (.ref z6) "__setattr__"=some (some (.builtin "object.__setattr__")))(y38_4:findIn K (.ref z6) "__class__"=some (some (.builtin "object.__class__")))(y38_5:specialIn K (.builtin "object.__class__") "__get__"=some (some (.builtin "getset_descriptor.__get__")))(y38_6:takesIn K (.builtin "object.__class__")=some true)(y38_7:mroIn K z6 (.type "object")=some true)(y39:findIn K (.ref z6) "names"=some none)(y40_0:plainGet K z7 Str.empty=true)(y40_1:hasDictIn K z7=true)(y40_2:plainOver K z7=true)(y40_3:findIn K (.ref z7) "__setattr__"=some (some (.builtin "object.__setattr__")))(y40_4:findIn K (.ref z7) "__class__"=some (some (.builtin "object.__class__")))(y40_5:specialIn K (.builtin "object.__class__") "__get__"=some (some (.builtin "getset_descriptor.__get__")))(y40_6:takesIn K (.builtin "object.__class__")=some true)(y40_7:mroIn K z7 (.type "object")=some true)(y41:findIn K (.ref z7) "names"=some none)(y42_0:plainGet K z8 Str.empty=true)(y42_1:hasDictIn K z8=true)(y42_2:plainOver K z8=true)(y42_3:findIn K (.ref z8) "__setattr__"=some (some (.builtin "object.__setattr__")))(y42_4:findIn K (.ref z8) "__class__"=some (some (.builtin "object.__class__")))(y42_5:specialIn K (.builtin "object.__class__") "__get__"=some (some (.builtin "getset_descriptor.__get__")))(y42_6:takesIn K (.builtin "object.__class__")=some true)(y42_7:mroIn K z8 (.type "object")=some true)(y43:findIn K (.ref z8) "weight"=some none)(y44_0:plainGet K z9 Str.empty=true)(y44_1:hasDictIn K z9=true)(y44_2:plainOver K z9=true)(y44_3:findIn K (.ref z9) "__setattr__"=some (some (.builtin "object.__setattr__")))(y44_4:findIn K (.ref z9) "__class__"=some (some (.builtin "object.__class__")))(y44_5:specialIn K (.builtin "object.__class__") "__get__"=some (some (.builtin "getset_descriptor.__get__")))(y44_6:takesIn K (.builtin "object.__class__")=some true)(y44_7:mroIn K z9 (.type "object")=some true)(y45:findIn K (.ref z9) "fit"=some none)(y46_0:plainGet K z10 Str.empty=true)(y46_1:hasDictIn K z10=true)(y46_2:plainOver K z10=true)(y46_3:findIn K (.ref z10) "__setattr__"=some (some (.builtin "object.__setattr__")))(y46_4:findIn K (.ref z10) "__class__"=some (some (.builtin "object.__class__")))(y46_5:specialIn K (.builtin "object.__class__") "__get__"=some (some (.builtin "getset_descriptor.__get__")))(y46_6:takesIn K (.builtin "object.__class__")=some true)(y46_7:mroIn K z10 (.type "object")=some true)(y47:findIn K (.ref z10) "fits"=some none)(y48_0:plainGet K z11 Str.empty=true)(y48_1:hasDictIn K z11=true)(y48_2:plainOver K z11=true)(y48_3:findIn K (.ref z11) "__setattr__"=some (some (.builtin "object.__setattr__")))(y48_4:findIn K (.ref z11) "__class__"=some (some (.builtin "object.__class__")))(y48_5:specialIn K (.builtin "object.__class__") "__get__"=some (some (.builtin "getset_descriptor.__get__")))(y48_6:takesIn K (.builtin "object.__class__")=some true)(y48_7:mroIn K z11 (.type "object")=some true)(y49:findIn K (.ref z11) "fits"=some none)(y50_0:plainGet K z3 Str.empty=true)(y50_1:hasDictIn K z3=true)(y50_2:plainOver K z3=true)(y50_3:findIn K (.ref z3) "__setattr__"=some (some (.builtin "object.__setattr__")))(y50_4:findIn K (.ref z3) "__class__"=some (some (.builtin "object.__class__")))(y50_5:specialIn K (.builtin "object.__class__") "__get__"=some (some (.builtin "getset_descriptor.__get__")))(y50_6:takesIn K (.builtin "object.__class__")=some true)(y50_7:mroIn K z3 (.type "object")=some true)(y51:findIn K (.ref z3) "words"=some none)(y52:findIn K (.ref z3) "at"=some none)(y53_0:plainGet K z12 Str.empty=true)(y53_1:hasDictIn K z12=true)(y53_2:plainOver K z12=true)(y53_3:findIn K (.ref z12) "__setattr__"=some (some (.builtin "object.__setattr__")))(y53_4:findIn K (.ref z12) "__class__"=some (some (.builtin "object.__class__")))(y53_5:specialIn K (.builtin "object.__class__") "__get__"=some (some (.builtin "getset_descriptor.__get__")))(y53_6:takesIn K (.builtin "object.__class__")=some true)(y53_7:mroIn K z12 (.type "object")=some true)(y54:findIn K (.ref z12) "sign"=some none)(y55:findIn K (.ref z12) "inner"=some none)(y56:kitOne K (.ref z5) (.ref z4)=some true)(y57:kitOne K (.ref z6) (.ref z4)=some true)(y58:kitOne K (.ref z7) (.ref z4)=some true)(y59:kitOne K (.ref z8) (.ref z4)=some true)(y60:kitOne K (.ref z9) (.ref z4)=some true)(y61:kitOne K (.ref z10) (.ref z4)=some true)(y62:kitOne K (.ref z11) (.ref z4)=some true)(y63:kitOne K (.ref z5) (.ref z5)=some true)(y64:kitOne K (.ref z5) (.ref z6)=some false)(y65:kitOne K (.ref z5) (.ref z7)=some false)(y66:kitOne K (.ref z5) (.ref z8)=some false)(y67:kitOne K (.ref z5) (.ref z9)=some false)(y68:kitOne K (.ref z5) (.ref z10)=some false)(y69:kitOne K (.ref z5) (.ref z11)=some false)(y70:kitOne K (.ref z6) (.ref z5)=some false)(y71:kitOne K (.ref z6) (.ref z6)=some true)(y72:kitOne K (.ref z6) (.ref z7)=some false)(y73:kitOne K (.ref z6) (.ref z8)=some false)(y74:kitOne K (.ref z6) (.ref z9)=some false)(y75:kitOne K (.ref z6) (.ref z10)=some false)(y76:kitOne K (.ref z6) (.ref z11)=some false)(y77:kitOne K (.ref z7) (.ref z5)=some false)(y78:kitOne K (.ref z7) (.ref z6)=some false)(y79:kitOne K (.ref z7) (.ref z7)=some true)(y80:kitOne K (.ref z7) (.ref z8)=some false)(y81:kitOne K (.ref z7) (.ref z9)=some false)(y82:kitOne K (.ref z7) (.ref z10)=some false)(y83:kitOne K (.ref z7) (.ref z11)=some false)(y84:kitOne K (.ref z8) (.ref z5)=some false)(y85:kitOne K (.ref z8) (.ref z6)=some false)(y86:kitOne K (.ref z8) (.ref z7)=some false)(y87:kitOne K (.ref z8) (.ref z8)=some true)(y88:kitOne K (.ref z8) (.ref z9)=some false)(y89:kitOne K (.ref z8) (.ref z10)=some false)(y90:kitOne K (.ref z8) (.ref z11)=some false)(y91:kitOne K (.ref z9) (.ref z5)=some false)(y92:kitOne K (.ref z9) (.ref z6)=some false)(y93:kitOne K (.ref z9) (.ref z7)=some false)(y94:kitOne K (.ref z9) (.ref z8)=some false)(y95:kitOne K (.ref z9) (.ref z9)=some true)(y96:kitOne K (.ref z9) (.ref z10)=some false)(y97:kitOne K (.ref z9) (.ref z11)=some false)(y98:kitOne K (.ref z10) (.ref z5)=some false)(y99:kitOne K (.ref z10) (.ref z6)=some false)(y100:kitOne K (.ref z10) (.ref z7)=some false)(y101:kitOne K (.ref z10) (.ref z8)=some false)(y102:kitOne K (.ref z10) (.ref z9)=some false)(y103:kitOne K (.ref z10) (.ref z10)=some true)(y104:kitOne K (.ref z10) (.ref z11)=some false)(y105:kitOne K (.ref z11) (.ref z5)=some false)(y106:kitOne K (.ref z11) (.ref z6)=some false)(y107:kitOne K (.ref z11) (.ref z7)=some false)(y108:kitOne K (.ref z11) (.ref z8)=some false)(y109:kitOne K (.ref z11) (.ref z9)=some false)(y110:kitOne K (.ref z11) (.ref z10)=some false)(y111:kitOne K (.ref z11) (.ref z11)=some true)(y112_0:makesIn K z5=true)(y112_1:findIn K (.ref z5) "__init__"=some (some (.builtin "object.__init__")))(y112_2:keepIn K (.ref z5)=true)(y113:exmOne K (.ref z2) (.ref z2)=some true){nmXNoText qXNoText:Str}{NXNoText:Addr}{bsXNoText:List Value}{snXNoText:List Str}{subXNoText:List Value}{abXNoText:Bool}{colXNoText:Option Bool}{ddXNoText:Option Addr}{kx0NoText kx1NoText kx2NoText kx3NoText kx5NoText:Option Value}(lxNoText:K.lookup z2=some ⟨.type "type",ddXNoText,.cls ⟨nmXNoText,bsXNoText,[.ref z2,.ref z0,.type "ValueError",.type "Exception",.type "BaseException",.type "object"],NXNoText,qXNoText,true,snXNoText,subXNoText,abXNoText,colXNoText,false⟩,#[kx0NoText,kx1NoText,kx2NoText,kx3NoText,some (.builtin "ValueError.__new__"),kx5NoText]⟩)(xbNoText:excIn K z0 vbm "ValueError.__new__"=true)(sxNoText:findIn K (.ref z2) "__setattr__"=some (some (.builtin "object.__setattr__")))(mkWords:makesIn K z3=true)(kcWords:keepIn K (.ref z3)=true)(mkKind:makesIn K z6=true)(kcKind:keepIn K (.ref z6)=true)(mkPlace:makesIn K z7=true)(kcPlace:keepIn K (.ref z7)=true)(mkLeast:makesIn K z8=true)(kcLeast:keepIn K (.ref z8)=true)(mkNot:makesIn K z9=true)(kcNot:keepIn K (.ref z9)=true)(mkBoth:makesIn K z10=true)(kcBoth:keepIn K (.ref z10)=true)(mkEither:makesIn K z11=true)(kcEither:keepIn K (.ref z11)=true)(mkOpened:makesIn K z12=true)(kcOpened:keepIn K (.ref z12)=true) :
  ∃ (a:Ad) (fd:FuncData),(∀ (s:Shared) (v:Value),BindsTo s fd ⟨[v],[]⟩ [("_law_script",v)])/\∀ base:Heap,K.In base->base.Ns mainGlobals mg->FnOk l.prog w K mg base CX0 179 fa fd ["_law_script"] (AM0 K a):=by
 have e:=hfa.symm.trans (mg_of X G a48)
 cases e
 have B:Bt K mg ⟨z0,z1,z2,z3,z4,z5,z6,z7,z8,z9,z10,z11,z12,f27,t0,t1,t2,t3⟩:=⟨mg_none_of X G y0,mg_none_of X G y1,mg_none_of X G y2,mg_none_of X G y3,mg_none_of X G y4,mg_none_of X G y5,mg_none_of X G y6,mg_none_of X G y7,mg_none_of X G y8,mg_none_of X G y9,mg_none_of X G y10,mg_of X G y11,mg_of X G y12,mg_of X G y13,mg_of X G y14,mg_of X G y15,mg_of X G y16,mg_of X G y17,mg_of X G y18,mg_of X G y19,mg_of X G y20,mg_of X G y21,mg_of X G y22,mg_of X G y23,mg_of X G y24,mg_of X G y25,mg_of X G y26,mg_of X G y27,mg_of X G y28,⟨y29_0,y29_1,y29_2,y29_3,y29_4,y29_5⟩,y30,y31,y32,y33,y34,y35,BP9 lxNoText sxNoText,⟨⟨y37_0,y37_1,y37_2,y37_3⟩,y37_4,y37_5,y37_6,y37_7⟩,⟨⟨y38_0,y38_1,y38_2,y38_3⟩,y38_4,y38_5,y38_6,y38_7⟩,y39,⟨⟨y40_0,y40_1,y40_2,y40_3⟩,y40_4,y40_5,y40_6,y40_7⟩,y41,⟨⟨y42_0,y42_1,y42_2,y42_3⟩,y42_4,y42_5,y42_6,y42_7⟩,y43,⟨⟨y44_0,y44_1,y44_2,y44_3⟩,y44_4,y44_5,y44_6,y44_7⟩,y45,⟨⟨y46_0,y46_1,y46_2,y46_3⟩,y46_4,y46_5,y46_6,y46_7⟩,y47,⟨⟨y48_0,y48_1,y48_2,y48_3⟩,y48_4,y48_5,y48_6,y48_7⟩,y49,⟨⟨y50_0,y50_1,y50_2,y50_3⟩,y50_4,y50_5,y50_6,y50_7⟩,y51,y52,⟨⟨y53_0,y53_1,y53_2,y53_3⟩,y53_4,y53_5,y53_6,y53_7⟩,y54,y55,y56,y57,y58,y59,y60,y61,y62,y63,y64,y65,y66,y67,y68,y69,y70,y71,y72,y73,y74,y75,y76,y77,y78,y79,y80,y81,y82,y83,y84,y85,y86,y87,y88,y89,y90,y91,y92,y93,y94,y95,y96,y97,y98,y99,y100,y101,y102,y103,y104,y105,y106,y107,y108,y109,y110,y111,⟨y112_0,y112_1,y112_2⟩,y113⟩
 have F0:=BA7 (st:=bD) l0 c0
 have b0_0:Binds K _ ["self","line"] [.int 0 dt0_0]:=BH6 (fd:=fnOf "__init__" "NoText.__init__" (aX bD) (aV bD) (aF bD) (.ref T0) kV0 dc0 pm0 an0 cd0 ct0) 1 rfl fun s us X hl=>match us,hl with | [_],_=>by first | exact .of_eq rfl | exact binds_K X rfl d0 rfl rfl rfl
 have F1:=bF (st:=fR) l1 c1 k1
 have b1:=F1.binds (ps:=["thing"]) fun _ _ _ _ _ _ us hl=>match us,hl with | [_],_=>rfl
 have F2:=bF (st:=cK) l2 c2 k2
 have b2:=F2.binds (ps:=["thing","least"]) fun _ _ _ _ _ _ us hl=>match us,hl with | [_,_],_=>rfl
 have F3:=bF (st:=iR) l3 c3 k3
 have b3:=F3.binds (ps:=["thing"]) fun _ _ _ _ _ _ us hl=>match us,hl with | [_],_=>rfl
 have F4:=bF (st:=bS) l4 c4 k4
 have b4:=F4.binds (ps:=["thing"]) fun _ _ _ _ _ _ us hl=>match us,hl with | [_],_=>rfl
 have F5:=bF (st:=dO) l5 c5 k5
 have b5:=F5.binds (ps:=["word"]) fun _ _ _ _ _ _ us hl=>match us,hl with | [_],_=>rfl
 have F6:=bF (st:=eH) l6 c6 k6
 have b6:=F6.binds (ps:=["word"]) fun _ _ _ _ _ _ us hl=>match us,hl with | [_],_=>rfl
 have F7:=bF (st:=cB) l7 c7 k7
 have b7:=F7.binds (ps:=["self","text"]) fun _ _ _ _ _ _ us hl=>match us,hl with | [_,_],_=>rfl
 have F8:=bF (st:=cC) l8 c8 k8
 have b8:=F8.binds (ps:=["self"]) fun _ _ _ _ _ _ us hl=>match us,hl with | [_],_=>rfl
 have F9:=bF (st:=dP) l9 c9 k9
 have b9:=F9.binds (ps:=["self"]) fun _ _ _ _ _ _ us hl=>match us,hl with | [_],_=>rfl
 have F10:=bF (st:=dQ) l10 c10 k10
 have b10:=F10.binds (ps:=["self"]) fun _ _ _ _ _ _ us hl=>match us,hl with | [_],_=>rfl
 have F11:=bF (st:=bT) l11 c11 k11
 have b11:=F11.binds (ps:=["self"]) fun _ _ _ _ _ _ us hl=>match us,hl with | [_],_=>rfl
 have F12:=bF (st:=bM) l12 c12 k12
 have b12:=F12.binds (ps:=["self"]) fun _ _ _ _ _ _ us hl=>match us,hl with | [_],_=>rfl
 have F13:=bF (st:=bU) l13 c13 k13
 have b13:=F13.binds (ps:=["self"]) fun _ _ _ _ _ _ us hl=>match us,hl with | [_],_=>rfl
 have F14:=bF (st:=cL) l14 c14 k14
 have b14:=F14.binds (ps:=["self","names"]) fun _ _ _ _ _ _ us hl=>match us,hl with | [_,_],_=>rfl
 have F15:=bF (st:=cD) l15 c15 k15
 have b15:=F15.binds (ps:=["self","names"]) fun _ _ _ _ _ _ us hl=>match us,hl with | [_,_],_=>rfl
 have F16:=bF (st:=cE) l16 c16 k16
 have b16:=F16.binds (ps:=["self","weight"]) fun _ _ _ _ _ _ us hl=>match us,hl with | [_,_],_=>rfl
 have F17:=bF (st:=cX) l17 c17 k17
 have b17:=F17.binds (ps:=["self","fit"]) fun _ _ _ _ _ _ us hl=>match us,hl with | [_,_],_=>rfl
 have F18:=bF (st:=cM) l18 c18 k18
 have b18:=F18.binds (ps:=["self","fits"]) fun _ _ _ _ _ _ us hl=>match us,hl with | [_,_],_=>rfl
 have F19:=bF (st:=bV) l19 c19 k19
 have b19:=F19.binds (ps:=["self","fits"]) fun _ _ _ _ _ _ us hl=>match us,hl with | [_,_],_=>rfl
 have F20:=bF (st:=dB) l20 c20 k20
 have b20:=F20.binds (ps:=["names"]) fun _ _ _ _ _ _ us hl=>match us,hl with | [_],_=>rfl
 have F21:=bF (st:=eI) l21 c21 k21
 have b21:=F21.binds (ps:=["fit"]) fun _ _ _ _ _ _ us hl=>match us,hl with | [_],_=>rfl
 have F22:=bF (st:=dR) l22 c22 k22
 have b22:=F22.binds (ps:=["fits"]) fun _ _ _ _ _ _ us hl=>match us,hl with | [_],_=>rfl
 have F23:=bF (st:=fS) l23 c23 k23
 have b23:=F23.binds (ps:=["fit"]) fun _ _ _ _ _ _ us hl=>match us,hl with | [_],_=>rfl
 have F24:=bF (st:=fT) l24 c24 k24
 have b24:=F24.binds (ps:=["text"]) fun _ _ _ _ _ _ us hl=>match us,hl with | [_],_=>rfl
 have F25:=bF (st:=dS) l25 c25 k25
 have b25:=F25.binds (ps:=["text","part_from"]) fun _ _ _ _ _ _ us hl=>match us,hl with | [_,_],_=>rfl
 have F26:=bF (st:=bW) l26 c26 k26
 have b26:=F26.binds (ps:=["self","sign"]) fun _ _ _ _ _ _ us hl=>match us,hl with | [_,_],_=>rfl
 have F27:=bF (st:=fU) l27 c27 k27
 have b27:=F27.binds (ps:=["words"]) fun _ _ _ _ _ _ us hl=>match us,hl with | [_],_=>rfl
 have F28:=bF (st:=cF) l28 c28 k28
 have b28:=F28.binds (ps:=["words","opened"]) fun _ _ _ _ _ _ us hl=>match us,hl with | [_,_],_=>rfl
 have F29:=bF (st:=kD) l29 c29 k29
 have b29:=F29.binds (ps:=["fit","words","opened"]) fun _ _ _ _ _ _ us hl=>match us,hl with | [_,_,_],_=>rfl
 have F30:=bF (st:=cG) l30 c30 k30
 have b30:=F30.binds (ps:=["bracket","words"]) fun _ _ _ _ _ _ us hl=>match us,hl with | [_,_],_=>rfl
 have F31:=bF (st:=kE) l31 c31 k31
 have b31:=F31.binds (ps:=["opened"]) fun _ _ _ _ _ _ us hl=>match us,hl with | [_],_=>rfl
 have F32:=bF (st:=eJ) l32 c32 k32
 have b32:=F32.binds (ps:=["_law_cell"]) fun _ _ _ _ _ _ us hl=>match us,hl with | [_],_=>rfl
 have F33:=bF (st:=fV) l33 c33 k33
 have b33:=F33.binds (ps:=["_law_state","_law_base"]) fun _ _ _ _ _ _ us hl=>match us,hl with | [_,_],_=>rfl
 have F34:=bF (st:=fW) l34 c34 k34
 have b34:=F34.binds (ps:=["_law_state"]) fun _ _ _ _ _ _ us hl=>match us,hl with | [_],_=>rfl
 have F35:=bF (st:=fX) l35 c35 k35
 have b35:=F35.binds (ps:=["_law_state","_law_more"]) fun _ _ _ _ _ _ us hl=>match us,hl with | [_,_],_=>rfl
 have F36:=bF (st:=fY) l36 c36 k36
 have b36:=F36.binds (ps:=["_law_state","_law_deep","_law_more"]) fun _ _ _ _ _ _ us hl=>match us,hl with | [_,_,_],_=>rfl
 have F37:=bF (st:=fZ) l37 c37 k37
 have b37:=F37.binds (ps:=["_law_tree_here"]) fun _ _ _ _ _ _ us hl=>match us,hl with | [_],_=>rfl
 have F38:=bF (st:=gA) l38 c38 k38
 have b38:=F38.binds (ps:=["_law_fit","_law_tree_here"]) fun _ _ _ _ _ _ us hl=>match us,hl with | [_,_],_=>rfl
 have F39:=bF (st:=gB) l39 c39 k39
 have b39:=F39.binds (ps:=["_law_state"]) fun _ _ _ _ _ _ us hl=>match us,hl with | [_],_=>rfl
 have F40:=bF (st:=dC) l40 c40 k40
 have b40:=F40.binds (ps:=["_law_words","_law_state"]) fun _ _ _ _ _ _ us hl=>match us,hl with | [_,_],_=>rfl
 have F41:=bF (st:=dU) l41 c41 k41
 have b41:=F41.binds (ps:=["_law_words","_law_state"]) fun _ _ _ _ _ _ us hl=>match us,hl with | [_,_],_=>rfl
 have F42:=bF (st:=dD) l42 c42 k42
 have b42:=F42.binds (ps:=["_law_word_here"]) fun _ _ _ _ _ _ us hl=>match us,hl with | [_],_=>rfl
 have F43:=bF (st:=cN) l43 c43 k43
 have b43:=F43.binds (ps:=["_law_word_here"]) fun _ _ _ _ _ _ us hl=>match us,hl with | [_],_=>rfl
 have F44:=bF (st:=eK) l44 c44 k44
 have b44:=F44.binds (ps:=["_law_words","_law_at"]) fun _ _ _ _ _ _ us hl=>match us,hl with | [_,_],_=>rfl
 have F45:=bF (st:=dE) l45 c45 k45
 have b45:=F45.binds (ps:=["_law_words","_law_at"]) fun _ _ _ _ _ _ us hl=>match us,hl with | [_,_],_=>rfl
 have F46:=bF (st:=gC) l46 c46 k46
 have b46:=F46.binds (ps:=["_law_words","_law_at"]) fun _ _ _ _ _ _ us hl=>match us,hl with | [_,_],_=>rfl
 have F47:=bF (st:=gD) l47 c47 k47
 have b47:=F47.binds (ps:=["_law_text_here"]) fun _ _ _ _ _ _ us hl=>match us,hl with | [_],_=>rfl
 have F48:=bF (st:=tP) l48 c48 k48
 have b48:=F48.binds (ps:=["_law_script"]) fun _ _ _ _ _ _ us hl=>match us,hl with | [_],_=>rfl
 refine ⟨(⟨z0,z1,z2,z3,z4,z5,z6,z7,z8,z9,z10,z11,z12,f27,t0,t1,t2,t3⟩:Ad),fnOf "law" "law" (aX tP) (aV tP) (aF tP) .none kV48 dc48 pm48 an48 cd48 ct48,fun s v=>.of_eq rfl,fun base _ _=>?_⟩
 have nT:FnOk l.prog w K mg base (CXF l.prog w) 1 _ _ _ _:=FnOk.up (mJ B  F0)
 have bK:CalI l.prog w K mg base "NoText" z2 "line" 1 (.int 0):=⟨z0,f0,_,_,_,nT,b0_0,⟨_,rfl⟩,⟨⟨_,_,_,_,_,_,_,_,_,_,_,_,_,_,_,lxNoText⟩,xbNoText,a0,i0⟩,B.NoText⟩
 have nO:CalIH l.prog w K mg base "NoText" z2 "line" 1 (.int 0):=⟨z0,f0,_,_,_,AC9 (P:=l.prog) (w:=w) (base:=base) B F0,b0_0,⟨_,rfl⟩,⟨⟨_,_,_,_,_,_,_,_,_,_,_,_,_,_,_,lxNoText⟩,xbNoText,a0,i0⟩,B.NoText⟩
 have AD0:FnOk l.prog w K mg base (CXF l.prog w) 1 _ _ _ _:=FnOk.up (yB B  F1)
 have nM:CalX l.prog w K mg base _ _ 1 _:=⟨_,_,AD0,b1,k1,mg_of X G a1⟩
 have AM8:FnOk l.prog w K mg base (CXF l.prog w) 1 _ _ _ _:=FnOk.up (AC8 B  F3)
 have iV:CalX l.prog w K mg base _ _ 1 _:=⟨_,_,AM8,b3,k3,mg_of X G a3⟩
 have wF:FnOk l.prog w K mg base (CXF l.prog w) 1 _ _ _ _:=FnOk.up (tQ B  F5)
 have iC:CalX l.prog w K mg base _ _ 1 _:=⟨_,_,wF,b5,k5,mg_of X G a5⟩
 have oS:FnOk l.prog w K mg base (CXF l.prog w) 1 _ _ _ _:=FnOk.up (nG B  F8)
 have wG:FnOk l.prog w K mg base (CXF l.prog w) 1 _ _ _ _:=FnOk.up (tR B  F9)
 have yV:FnOk l.prog w K mg base (CXF l.prog w) 1 _ _ _ _:=FnOk.up (vZ B  F21)
 have eY:CalX l.prog w K mg base _ _ 1 _:=⟨_,_,yV,b21,k21,mg_of X G a21⟩
 have nU:FnOk l.prog w K mg base (CXF l.prog w) 1 _ _ _ _:=FnOk.up (mL B  F26)
 have qL:CalC l.prog w K mg base "Opened" z12 ["self","sign"] 1 (eA K _):=⟨_,_,nU,b26,⟨mkOpened,a26,i26,kcOpened⟩,B.Opened⟩
 have yW:FnOk l.prog w K mg base (CXF l.prog w) 1 _ _ _ _:=FnOk.up (wB B  F32)
 have lI:CalX l.prog w K mg base _ _ 1 _:=⟨_,_,yW,b32,k32,mg_of X G a32⟩
 have AD1:FnOk l.prog w K mg base (CXF l.prog w) 1 _ _ _ _:=FnOk.up (yH B  F33)
 have bA:CalX l.prog w K mg base _ _ 1 _:=⟨_,_,AD1,b33,k33,mg_of X G a33⟩
 have uF:FnOk l.prog w K mg base (CXF l.prog w) 1 _ _ _ _:=FnOk.up (rA B  F42)
 have jK:CalX l.prog w K mg base _ _ 1 _:=⟨_,_,uF,b42,k42,mg_of X G a42⟩
 have qM:FnOk l.prog w K mg base (CXF l.prog w) 1 _ _ _ _:=FnOk.up (oR B  F43)
 have gX:CalX l.prog w K mg base _ _ 1 _:=⟨_,_,qM,b43,k43,mg_of X G a43⟩
 have qN:FnOk l.prog w K mg base (CXF l.prog w) 2 _ _ _ _:=FnOk.up (oO B nM F2)
 have gW:CalX l.prog w K mg base _ _ 2 _:=⟨_,_,qN,b2,k2,mg_of X G a2⟩
 have mP:FnOk l.prog w K mg base (CXF l.prog w) 2 _ _ _ _:=FnOk.up (lD B iV F4)
 have eB:CalX l.prog w K mg base _ _ 2 _:=⟨_,_,mP,b4,k4,mg_of X G a4⟩
 have yX:FnOk l.prog w K mg base (CXF l.prog w) 2 _ _ _ _:=FnOk.up (vW B iC F6)
 have lF:CalX l.prog w K mg base _ _ 2 _:=⟨_,_,yX,b6,k6,mg_of X G a6⟩
 have nN:∀ C sp,yA K (⟨z0,z1,z2,z3,z4,z5,z6,z7,z8,z9,z10,z11,z12,f27,t0,t1,t2,t3⟩:Ad) C sp->CalM l.prog w K mg base C "look" ["self"] 1 sp:=by
  rintro C sp ⟨rfl,rfl⟩
  exact ⟨⟨_,_,FnOk.lift wG (by decide),b9,⟨a9,i9,k9⟩,B.ck_Words.cl⟩⟩
 have wH:FnOk l.prog w K mg base (CXF l.prog w) 2 _ _ _ _:=FnOk.up (tS B nN F10)
 have rD:FnOk l.prog w K mg base (CXF l.prog w) 2 _ _ _ _:=FnOk.up (qI B eY F17)
 have AM7:CalC l.prog w K mg base "Not" z9 ["self","fit"] 2 (gU K _):=⟨_,_,rD,b17,⟨mkNot,a17,i17,kcNot⟩,B.Not⟩
 have wI:FnOk l.prog w K mg base (CXF l.prog w) 2 _ _ _ _:=FnOk.up (tT B eY F22)
 have dW:CalX l.prog w K mg base _ _ 2 _:=⟨_,_,wI,b22,k22,mg_of X G a22⟩
 have AD2:FnOk l.prog w K mg base (CXF l.prog w) 2 _ _ _ _:=FnOk.up (yI B bA F34)
 have kG:CalX l.prog w K mg base _ _ 2 _:=⟨_,_,AD2,b34,k34,mg_of X G a34⟩
 have AD3:FnOk l.prog w K mg base (CXF l.prog w) 2 _ _ _ _:=FnOk.up (yO B bA F39)
 have gH:CalX l.prog w K mg base _ _ 2 _:=⟨_,_,AD3,b39,k39,mg_of X G a39⟩
 have yY:FnOk l.prog w K mg base (CXF l.prog w) 2 _ _ _ _:=FnOk.up (wE B jK F44)
 have lH:CalX l.prog w K mg base _ _ 2 _:=⟨_,_,yY,b44,k44,mg_of X G a44⟩
 have oT:FnOk l.prog w K mg base (CXF l.prog w) 3 _ _ _ _:=nE B bK F7
 have uD:CalC l.prog w K mg base "Words" z3 ["self","text"] 3 (eL K _):=⟨_,_,oT,b7,⟨mkWords,a7,i7,kcWords⟩,B.Words⟩
 have lE:∀ C sp,qF K (⟨z0,z1,z2,z3,z4,z5,z6,z7,z8,z9,z10,z11,z12,f27,t0,t1,t2,t3⟩:Ad) C sp->CalM l.prog w K mg base C "is_ended" ["self"] 1 sp:=by
  rintro C sp ⟨rfl,rfl⟩
  exact ⟨⟨_,_,FnOk.lift oS (by decide),b8,⟨a8,i8,k8⟩,B.ck_Words.cl⟩⟩
 have mQ:FnOk l.prog w K mg base (CXF l.prog w) 3 _ _ _ _:=lB B lE bK F11
 have eV:∀ C sp,qG K (⟨z0,z1,z2,z3,z4,z5,z6,z7,z8,z9,z10,z11,z12,f27,t0,t1,t2,t3⟩:Ad) C sp->CalM l.prog w K mg base C "take" ["self"] 2 sp:=by
  rintro C sp ⟨rfl,rfl⟩
  exact ⟨⟨_,_,FnOk.lift wH (by decide),b10,⟨a10,i10,k10⟩,B.ck_Words.cl⟩⟩
 have lJ:FnOk l.prog w K mg base (CXF l.prog w) 3 _ _ _ _:=kI B eV lF bK F12
 have mR:FnOk l.prog w K mg base (CXF l.prog w) 3 _ _ _ _:=FnOk.up (lC B iV nN eV F13)
 have oU:FnOk l.prog w K mg base (CXF l.prog w) 3 _ _ _ _:=nJ B gW F16
 have uA:CalC l.prog w K mg base "Least" z8 ["self","weight"] 3 (eN K _):=⟨_,_,oU,b16,⟨mkLeast,a16,i16,kcLeast⟩,B.Least⟩
 have qO:FnOk l.prog w K mg base (CXF l.prog w) 3 _ _ _ _:=FnOk.up (oQ B dW F18)
 have yT:CalC l.prog w K mg base "Both" z10 ["self","fits"] 3 (fG K _):=⟨_,_,qO,b18,⟨mkBoth,a18,i18,kcBoth⟩,B.Both⟩
 have nV:FnOk l.prog w K mg base (CXF l.prog w) 3 _ _ _ _:=FnOk.up (mK B dW F19)
 have qK:CalC l.prog w K mg base "Either" z11 ["self","fits"] 3 (dZ K _):=⟨_,_,nV,b19,⟨mkEither,a19,i19,kcEither⟩,B.Either⟩
 have uG:FnOk l.prog w K mg base (CXF l.prog w) 3 _ _ _ _:=qZ B eB F20
 have dF:CalX l.prog w K mg base _ _ 3 _:=⟨_,_,uG,b20,k20,mg_of X G a20⟩
 have oV:FnOk l.prog w K mg base (CXF l.prog w) 3 _ _ _ _:=nK B eV bK F30
 have fJ:CalX l.prog w K mg base _ _ 3 _:=⟨_,_,oV,b30,k30,mg_of X G a30⟩
 have AD4:FnOk l.prog w K mg base (CXF l.prog w) 3 _ _ _ _:=FnOk.up (yJ B bA kG F35)
 have nP:CalX l.prog w K mg base _ _ 3 _:=⟨_,_,AD4,b35,k35,mg_of X G a35⟩
 have gF:CalX l.prog w K mg base "_law_text" ["_law_tree_here"] 3 (eQ K _ 3):=sV (spf:=eQ K _) (n0:=0) vS b37 k37 (mg_of X G a37) (fun d n hn C=>FnOk.up (yM (P:=l.prog) (w:=w) (base:=base) hn B C F37)) 3 (by decide)
 have uH:FnOk l.prog w K mg base (CXF l.prog w) 3 _ _ _ _:=FnOk.up (rB B bA gH F40)
 have jJ:CalX l.prog w K mg base _ _ 3 _:=⟨_,_,uH,b40,k40,mg_of X G a40⟩
 have qP:FnOk l.prog w K mg base (CXF l.prog w) 4 _ _ _ _:=oP B dF F14
 have yU:CalC l.prog w K mg base "Kind" z6 ["self","names"] 4 (fE K _):=⟨_,_,qP,b14,⟨mkKind,a14,i14,kcKind⟩,B.Kind⟩
 have oW:FnOk l.prog w K mg base (CXF l.prog w) 4 _ _ _ _:=nI B dF F15
 have tZ:CalC l.prog w K mg base "Place" z7 ["self","names"] 4 (eM K _):=⟨_,_,oW,b15,⟨mkPlace,a15,i15,kcPlace⟩,B.Place⟩
 have wJ:FnOk l.prog w K mg base (CXF l.prog w) 4 _ _ _ _:=FnOk.up (tY B bA gH jJ F41)
 have jW:CalX l.prog w K mg base _ _ 4 _:=⟨_,_,wJ,b41,k41,mg_of X G a41⟩
 have AS0:FnOk l.prog w K mg base (CXF l.prog w) 5 _ _ _ _:=AM1 B AM7 yT qK bK F31
 have uB:CalX l.prog w K mg base _ _ 5 _:=⟨_,_,AS0,b31,k31,mg_of X G a31⟩
 have fQ:∀ C sp,mI K (⟨z0,z1,z2,z3,z4,z5,z6,z7,z8,z9,z10,z11,z12,f27,t0,t1,t2,t3⟩:Ad) C sp->CalM l.prog w K mg base C "take_names" ["self"] 3 sp:=by
  rintro C sp ⟨rfl,rfl⟩
  exact ⟨⟨_,_,FnOk.lift mR (by decide),b13,⟨a13,i13,k13⟩,B.ck_Words.cl⟩⟩
 have iL:∀ C sp,kQ K (⟨z0,z1,z2,z3,z4,z5,z6,z7,z8,z9,z10,z11,z12,f27,t0,t1,t2,t3⟩:Ad) C sp->CalM l.prog w K mg base C "take_number" ["self"] 3 sp:=by
  rintro C sp ⟨rfl,rfl⟩
  exact ⟨⟨_,_,FnOk.lift lJ (by decide),b12,⟨a12,i12,k12⟩,B.ck_Words.cl⟩⟩
 have oX:FnOk l.prog w K mg base (CXF l.prog w) 6 _ _ _ _:=nL B eV yU tZ uA qL fQ iL bK F28
 have fK:CalX l.prog w K mg base _ _ 6 _:=⟨_,_,oX,b28,k28,mg_of X G a28⟩
 have AS1:FnOk l.prog w K mg base (CXF l.prog w) 6 _ _ _ _:=AM3 B uB fJ F29
 have uC:CalX l.prog w K mg base _ _ 6 _:=⟨_,_,AS1,b29,k29,mg_of X G a29⟩
 have gE:CalX l.prog w K mg base "_law_tree" ["_law_state","_law_deep","_law_more"] 6 (eP K _ 3):=sV (spf:=eP K _) (n0:=3) vR b36 k36 (mg_of X G a36) (fun d n hn C=>FnOk.up (yK (P:=l.prog) (w:=w) (base:=base) hn B bA nP C F36)) 3 (by decide)
 have sD:FnOk l.prog w K mg base (CXF l.prog w) 7 _ _ _ _:=yE B uC fK F27
 have BD8:CalX l.prog w K mg base _ _ 7 _:=⟨_,_,sD,b27,k27,mg_of X G a27⟩
 have lG:CalF l.prog w K mg base f27 ["words"] 7 (kZ K _):=⟨_,sD,b27,k27⟩
 have jI:∀ C sp,mH K (⟨z0,z1,z2,z3,z4,z5,z6,z7,z8,z9,z10,z11,z12,f27,t0,t1,t2,t3⟩:Ad) C sp->CalM l.prog w K mg base C "expect_end" ["self"] 3 sp:=by
  rintro C sp ⟨rfl,rfl⟩
  exact ⟨⟨_,_,FnOk.lift mQ (by decide),b11,⟨a11,i11,k11⟩,B.ck_Words.cl⟩⟩
 have wK:FnOk l.prog w K mg base (uI l.prog w false) 8 _ _ _ _:=tV B uD jI nO lG F25
 have jV:CalW l.prog w K mg base _ _ 8 _:=⟨_,_,wK,b25,k25,mg_of X G a25⟩
 have AD5:FnOk l.prog w K mg base (uI l.prog w false) 9 _ _ _ _:=yF B jV F24
 have nQ:CalW l.prog w K mg base _ _ 9 _:=⟨_,_,AD5,b24,k24,mg_of X G a24⟩
 have AD6:FnOk l.prog w K mg base (CXF l.prog w) 10 _ _ _ _:=FnOk.up (yS B nQ F47)
 have nR:CalX l.prog w K mg base _ _ 10 _:=⟨_,_,AD6,b47,k47,mg_of X G a47⟩
 have eZ:CalX l.prog w K mg base "show_fit" ["fit"] 140 (eO K _ 140):=sV (spf:=eO K _) (n0:=0) vU b23 k23 (mg_of X G a23) (fun d n hn C=>FnOk.up (yG (P:=l.prog) (w:=w) (base:=base) hn B C F23)) 140 (by decide)
 have gG:CalX l.prog w K mg base "_law_same" ["_law_fit","_law_tree_here"] 140 (eR K _ 140):=sV (spf:=eR K _) (n0:=0) vT b38 k38 (mg_of X G a38) (fun d n hn C=>FnOk.up (yN (P:=l.prog) (w:=w) (base:=base) hn B C F38)) 140 (by decide)
 have fA:CalX l.prog w K mg base "_law_read" ["_law_words","_law_at"] 178 (dM K (⟨z0,z1,z2,z3,z4,z5,z6,z7,z8,z9,z10,z11,z12,f27,t0,t1,t2,t3⟩:Ad) 88):=⟨_,_,AU8 (spf:=dM K (⟨z0,z1,z2,z3,z4,z5,z6,z7,z8,z9,z10,z11,z12,f27,t0,t1,t2,t3⟩:Ad)) (spg:=iK K (⟨z0,z1,z2,z3,z4,z5,z6,z7,z8,z9,z10,z11,z12,f27,t0,t1,t2,t3⟩:Ad)) (n0:=2) vV b46 k46 (mg_of X G a46) b45 k45 (mg_of X G a45) (fun d n hn C=>FnOk.up (rC (P:=l.prog) (w:=w) (base:=base) hn B C F45)) (fun d n hn C2 C=>FnOk.up (yR (P:=l.prog) (w:=w) (base:=base) hn B lH gX C C2 F46)) 88,b46,k46,mg_of X G a46⟩
 exact BK2 (P:=l.prog) (w:=w) (base:=base) B lI jW fA nR gF gE eZ gG F48
theorem BU2 {l:OpenLaw}{q:Program}{loose:List Str}{XP:(Str->Option Value)->Heap->Prop}{YP:World->Heap->Prop}{d:DefRec}{K:Params->Frag}(hn:l.most=some 63)(hdf:d.params.defaults=[])(hY:∀ (w:World) (h:Heap),YP w h->(K w.params).In h)(F:∀ (w:World) (mg:Str->Option Value) (fa:Addr) (h:Heap),(K w.params).In h->h.Ns mainGlobals mg->mg d.name=some (.ref fa) ->
   ∃ fd:FuncData,(∀ (s:Shared) (u:Value),BindsTo s fd ⟨[u],[]⟩ [("_law_script",u)])/\∀ base:Heap,(K w.params).In base->base.Ns mainGlobals mg->FnOk l.prog w (K w.params) mg base CX0 179 fa fd ["_law_script"] (spL (K w.params))) :
  WalkO q loose XP YP l.row.toRowW d [] (fun f vs=>PySem.call f vs) :=
 L2.BM3 (n:=63) (k:=179) (x:="_law_script") (CX:=fun _=>CX0) (sp:=fun w=>spL (K w.params)) hn (by decide) hdf ⟨rfl,by decide,by decide⟩ hY F (fun _ _ a ns hl _ hS=>⟨a,ns,rfl,hS,hl,fun _=>rfl⟩) fun _ _ _ _ _ z=>z
theorem BQ0 {P:Program}{w:World}{K:Frag}{mg:Str->Option Value}{fa:Addr}(h:∃ (a:Ad) (fd:FuncData),(∀ (s:Shared) (v:Value),BindsTo s fd ⟨[v],[]⟩ [("_law_script",v)])/\∀ base:Heap,K.In base->base.Ns mainGlobals mg->FnOk P w K mg base CX0 179 fa fd ["_law_script"] (AM0 K a)) :
  ∃ fd:FuncData,(∀ (s:Shared) (v:Value),BindsTo s fd ⟨[v],[]⟩ [("_law_script",v)])/\∀ base:Heap,K.In base->base.Ns mainGlobals mg->FnOk P w K mg base CX0 179 fa fd ["_law_script"] (spL K):=by
 obtain ⟨a,fd,b,q⟩:=h
 exact ⟨fd,b,fun base x y=>q base x y⟩
end Bw
open PySem PySem.W PyProof.Rows
set_option maxRecDepth 100000 in
set_option maxHeartbeats 0 in
theorem PySem.Challenge.cw_bellsaway_k19_texts_of_fits_spoilt_holds : PySem.Challenge.rw_bellsaway_k19_texts_of_fits_spoilt.Holds := by
 w_on; o_law; k_head; (case hw=>w_witness2)
 k_fill
 refine Bw.BU2 (l:=PySem.Challenge.rw_bellsaway_k19_texts_of_fits_spoilt) rfl rfl (fun w h Y=>PySem.W.kIn_of Y) ?F
 case F =>
  intro w mg fa h KX G hmg
  refine Bw.BQ0 ?Z
  refine' Bw.BS4 KX G hmg ?a0 ?i0 ?l0 ?d0 ?c0 ?a1 ?l1 ?c1 ?k1 ?a2 ?l2 ?c2 ?k2 ?a3 ?l3 ?c3 ?k3 ?a4 ?l4 ?c4 ?k4 ?a5 ?l5 ?c5 ?k5 ?a6 ?l6 ?c6 ?k6 ?a7 ?i7 ?l7 ?c7 ?k7 ?a8 ?i8 ?l8 ?c8 ?k8 ?a9 ?i9 ?l9 ?c9 ?k9 ?a10 ?i10 ?l10 ?c10 ?k10 ?a11 ?i11 ?l11 ?c11 ?k11 ?a12 ?i12 ?l12 ?c12 ?k12 ?a13 ?i13 ?l13 ?c13 ?k13 ?a14 ?i14 ?l14 ?c14 ?k14 ?a15 ?i15 ?l15 ?c15 ?k15 ?a16 ?i16 ?l16 ?c16 ?k16 ?a17 ?i17 ?l17 ?c17 ?k17 ?a18 ?i18 ?l18 ?c18 ?k18 ?a19 ?i19 ?l19 ?c19 ?k19 ?a20 ?l20 ?c20 ?k20 ?a21 ?l21 ?c21 ?k21 ?a22 ?l22 ?c22 ?k22 ?a23 ?l23 ?c23 ?k23 ?a24 ?l24 ?c24 ?k24 ?a25 ?l25 ?c25 ?k25 ?a26 ?i26 ?l26 ?c26 ?k26 ?a27 ?l27 ?c27 ?k27 ?a28 ?l28 ?c28 ?k28 ?a29 ?l29 ?c29 ?k29 ?a30 ?l30 ?c30 ?k30 ?a31 ?l31 ?c31 ?k31 ?a32 ?l32 ?c32 ?k32 ?a33 ?l33 ?c33 ?k33 ?a34 ?l34 ?c34 ?k34 ?a35 ?l35 ?c35 ?k35 ?a36 ?l36 ?c36 ?k36 ?a37 ?l37 ?c37 ?k37 ?a38 ?l38 ?c38 ?k38 ?a39 ?l39 ?c39 ?k39 ?a40 ?l40 ?c40 ?k40 ?a41 ?l41 ?c41 ?k41 ?a42 ?l42 ?c42 ?k42 ?a43 ?l43 ?c43 ?k43 ?a44 ?l44 ?c44 ?k44 ?a45 ?l45 ?c45 ?k45 ?a46 ?l46 ?c46 ?k46 ?a47 ?l47 ?c47 ?k47 ?a48 ?l48 ?c48 ?k48 ?y0 ?y1 ?y2 ?y3 ?y4 ?y5 ?y6 ?y7 ?y8 ?y9 ?y10 ?y11 ?y12 ?y13 ?y14 ?y15 ?y16 ?y17 ?y18 ?y19 ?y20 ?y21 ?y22 ?y23 ?y24 ?y25 ?y26 ?y27 ?y28 ?y29_0 ?y29_1 ?y29_2 ?y29_3 ?y29_4 ?y29_5 ?y30 ?y31 ?y32 ?y33 ?y34 ?y35 ?y37_0 ?y37_1 ?y37_2 ?y37_3 ?y37_4 ?y37_5 ?y37_6 ?y37_7 ?y38_0 ?y38_1 ?y38_2 ?y38_3 ?y38_4 ?y38_5 ?y38_6 ?y38_7 ?y39 ?y40_0 ?y40_1 ?y40_2 ?y40_3 ?y40_4 ?y40_5 ?y40_6 ?y40_7 ?y41 ?y42_0 ?y42_1 ?y42_2 ?y42_3 ?y42_4 ?y42_5 ?y42_6 ?y42_7 ?y43 ?y44_0 ?y44_1 ?y44_2 ?y44_3 ?y44_4 ?y44_5 ?y44_6 ?y44_7 ?y45 ?y46_0 ?y46_1 ?y46_2 ?y46_3 ?y46_4 ?y46_5 ?y46_6 ?y46_7 ?y47 ?y48_0 ?y48_1 ?y48_2 ?y48_3 ?y48_4 ?y48_5 ?y48_6 ?y48_7 ?y49 ?y50_0 ?y50_1 ?y50_2 ?y50_3 ?y50_4 ?y50_5 ?y50_6 ?y50_7 ?y51 ?y52 ?y53_0 ?y53_1 ?y53_2 ?y53_3 ?y53_4 ?y53_5 ?y53_6 ?y53_7 ?y54 ?y55 ?y56 ?y57 ?y58 ?y59 ?y60 ?y61 ?y62 ?y63 ?y64 ?y65 ?y66 ?y67 ?y68 ?y69 ?y70 ?y71 ?y72 ?y73 ?y74 ?y75 ?y76 ?y77 ?y78 ?y79 ?y80 ?y81 ?y82 ?y83 ?y84 ?y85 ?y86 ?y87 ?y88 ?y89 ?y90 ?y91 ?y92 ?y93 ?y94 ?y95 ?y96 ?y97 ?y98 ?y99 ?y100 ?y101 ?y102 ?y103 ?y104 ?y105 ?y106 ?y107 ?y108 ?y109 ?y110 ?y111 ?y112_0 ?y112_1 ?y112_2 ?y113 ?lxNoText ?xbNoText ?sxNoText ?mkWords ?kcWords ?mkKind ?kcKind ?mkPlace ?kcPlace ?mkLeast ?kcLeast ?mkNot ?kcNot ?mkBoth ?kcBoth ?mkEither ?kcEither ?mkOpened ?kcOpened
  (case y0=>k_is)
  (case y1=>k_is)
  (case y2=>k_is)
  (case y3=>k_is)
  (case y4=>k_is)
  (case y5=>k_is)
  (case y6=>k_is)
  (case y7=>k_is)
  (case y8=>k_is)
  (case y9=>k_is)
  (case y10=>k_is)
  (case y11=>k_is)
  (case y12=>k_is)
  (case y13=>k_is)
  (case y14=>k_is)
  (case y15=>k_is)
  (case y16=>k_is)
  (case y17=>k_is)
  (case y18=>k_is)
  (case y19=>k_is)
  (case y20=>k_is)
  (case y21=>k_is)
  (case y22=>k_is)
  (case y23=>k_is)
  (case y24=>k_is)
  (case y25=>k_is)
  (case y26=>k_is)
  (case y27=>k_is)
  (case y28=>k_is)
  (case a0=>k_is)
  (case i0=>k_is)
  (case l0=>k_is)
  (case d0=>k_is)
  (case c0=>k_is)
  (case a1=>k_is)
  (case l1=>k_is)
  (case c1=>k_is)
  (case k1=>k_is)
  (case a2=>k_is)
  (case l2=>k_is)
  (case c2=>k_is)
  (case k2=>k_is)
  (case a3=>k_is)
  (case l3=>k_is)
  (case c3=>k_is)
  (case k3=>k_is)
  (case a4=>k_is)
  (case l4=>k_is)
  (case c4=>k_is)
  (case k4=>k_is)
  (case a5=>k_is)
  (case l5=>k_is)
  (case c5=>k_is)
  (case k5=>k_is)
  (case a6=>k_is)
  (case l6=>k_is)
  (case c6=>k_is)
  (case k6=>k_is)
  (case a7=>k_is)
  (case i7=>k_is)
  (case l7=>k_is)
  (case c7=>k_is)
  (case k7=>k_is)
  (case a8=>k_is)
  (case i8=>k_is)
  (case l8=>k_is)
  (case c8=>k_is)
  (case k8=>k_is)
  (case a9=>k_is)
  (case i9=>k_is)
  (case l9=>k_is)
  (case c9=>k_is)
  (case k9=>k_is)
  (case a10=>k_is)
  (case i10=>k_is)
  (case l10=>k_is)
  (case c10=>k_is)
  (case k10=>k_is)
  (case a11=>k_is)
  (case i11=>k_is)
  (case l11=>k_is)
  (case c11=>k_is)
  (case k11=>k_is)
  (case a12=>k_is)
  (case i12=>k_is)
  (case l12=>k_is)
  (case c12=>k_is)
  (case k12=>k_is)
  (case a13=>k_is)
  (case i13=>k_is)
  (case l13=>k_is)
  (case c13=>k_is)
  (case k13=>k_is)
  (case a14=>k_is)
  (case i14=>k_is)
  (case l14=>k_is)
  (case c14=>k_is)
  (case k14=>k_is)
  (case a15=>k_is)
  (case i15=>k_is)
  (case l15=>k_is)
  (case c15=>k_is)
  (case k15=>k_is)
  (case a16=>k_is)
  (case i16=>k_is)
  (case l16=>k_is)
  (case c16=>k_is)
  (case k16=>k_is)
  (case a17=>k_is)
  (case i17=>k_is)
  (case l17=>k_is)
  (case c17=>k_is)
  (case k17=>k_is)
  (case a18=>k_is)
  (case i18=>k_is)
  (case l18=>k_is)
  (case c18=>k_is)
  (case k18=>k_is)
  (case a19=>k_is)
  (case i19=>k_is)
  (case l19=>k_is)
  (case c19=>k_is)
  (case k19=>k_is)
  (case a20=>k_is)
  (case l20=>k_is)
  (case c20=>k_is)
  (case k20=>k_is)
  (case a21=>k_is)
  (case l21=>k_is)
  (case c21=>k_is)
  (case k21=>k_is)
  (case a22=>k_is)
  (case l22=>k_is)
  (case c22=>k_is)
  (case k22=>k_is)
  (case a23=>k_is)
  (case l23=>k_is)
  (case c23=>k_is)
  (case k23=>k_is)
  (case a24=>k_is)
  (case l24=>k_is)
  (case c24=>k_is)
  (case k24=>k_is)
  (case a25=>k_is)
  (case l25=>k_is)
  (case c25=>k_is)
  (case k25=>k_is)
  (case a26=>k_is)
  (case i26=>k_is)
  (case l26=>k_is)
  (case c26=>k_is)
  (case k26=>k_is)
  (case a27=>k_is)
  (case l27=>k_is)
  (case c27=>k_is)
  (case k27=>k_is)
  (case a28=>k_is)
  (case l28=>k_is)
  (case c28=>k_is)
  (case k28=>k_is)
  (case a29=>k_is)
  (case l29=>k_is)
  (case c29=>k_is)
  (case k29=>k_is)
  (case a30=>k_is)
  (case l30=>k_is)
  (case c30=>k_is)
  (case k30=>k_is)
  (case a31=>k_is)
  (case l31=>k_is)
  (case c31=>k_is)
  (case k31=>k_is)
  (case a32=>k_is)
  (case l32=>k_is)
  (case c32=>k_is)
  (case k32=>k_is)
  (case a33=>k_is)
  (case l33=>k_is)
  (case c33=>k_is)
  (case k33=>k_is)
  (case a34=>k_is)
  (case l34=>k_is)
  (case c34=>k_is)
  (case k34=>k_is)
  (case a35=>k_is)
  (case l35=>k_is)
  (case c35=>k_is)
  (case k35=>k_is)
  (case a36=>k_is)
  (case l36=>k_is)
  (case c36=>k_is)
  (case k36=>k_is)
  (case a37=>k_is)
  (case l37=>k_is)
  (case c37=>k_is)
  (case k37=>k_is)
  (case a38=>k_is)
  (case l38=>k_is)
  (case c38=>k_is)
  (case k38=>k_is)
  (case a39=>k_is)
  (case l39=>k_is)
  (case c39=>k_is)
  (case k39=>k_is)
  (case a40=>k_is)
  (case l40=>k_is)
  (case c40=>k_is)
  (case k40=>k_is)
  (case a41=>k_is)
  (case l41=>k_is)
  (case c41=>k_is)
  (case k41=>k_is)
  (case a42=>k_is)
  (case l42=>k_is)
  (case c42=>k_is)
  (case k42=>k_is)
  (case a43=>k_is)
  (case l43=>k_is)
  (case c43=>k_is)
  (case k43=>k_is)
  (case a44=>k_is)
  (case l44=>k_is)
  (case c44=>k_is)
  (case k44=>k_is)
  (case a45=>k_is)
  (case l45=>k_is)
  (case c45=>k_is)
  (case k45=>k_is)
  (case a46=>k_is)
  (case l46=>k_is)
  (case c46=>k_is)
  (case k46=>k_is)
  (case a47=>k_is)
  (case l47=>k_is)
  (case c47=>k_is)
  (case k47=>k_is)
  (case a48=>k_is)
  (case l48=>k_is)
  (case c48=>k_is)
  (case k48=>k_is)
  (case y29_0=>k_is)
  (case y29_1=>k_is)
  (case y29_2=>k_is)
  (case y29_3=>k_is)
  (case y29_4=>k_is)
  (case y29_5=>k_is)
  (case y30=>k_exc)
  (case y31=>kts_exm)
  (case y32=>kts_exm)
  (case y33=>k_is)
  (case y34=>k_is)
  (case y35=>k_is)
  (case y37_0=>k_is)
  (case y37_1=>k_is)
  (case y37_2=>k_is)
  (case y37_3=>k_is)
  (case y37_4=>k_is)
  (case y37_5=>k_is)
  (case y37_6=>k_is)
  (case y37_7=>k_is)
  (case y38_0=>k_is)
  (case y38_1=>k_is)
  (case y38_2=>k_is)
  (case y38_3=>k_is)
  (case y38_4=>k_is)
  (case y38_5=>k_is)
  (case y38_6=>k_is)
  (case y38_7=>k_is)
  (case y39=>k_is)
  (case y40_0=>k_is)
  (case y40_1=>k_is)
  (case y40_2=>k_is)
  (case y40_3=>k_is)
  (case y40_4=>k_is)
  (case y40_5=>k_is)
  (case y40_6=>k_is)
  (case y40_7=>k_is)
  (case y41=>k_is)
  (case y42_0=>k_is)
  (case y42_1=>k_is)
  (case y42_2=>k_is)
  (case y42_3=>k_is)
  (case y42_4=>k_is)
  (case y42_5=>k_is)
  (case y42_6=>k_is)
  (case y42_7=>k_is)
  (case y43=>k_is)
  (case y44_0=>k_is)
  (case y44_1=>k_is)
  (case y44_2=>k_is)
  (case y44_3=>k_is)
  (case y44_4=>k_is)
  (case y44_5=>k_is)
  (case y44_6=>k_is)
  (case y44_7=>k_is)
  (case y45=>k_is)
  (case y46_0=>k_is)
  (case y46_1=>k_is)
  (case y46_2=>k_is)
  (case y46_3=>k_is)
  (case y46_4=>k_is)
  (case y46_5=>k_is)
  (case y46_6=>k_is)
  (case y46_7=>k_is)
  (case y47=>k_is)
  (case y48_0=>k_is)
  (case y48_1=>k_is)
  (case y48_2=>k_is)
  (case y48_3=>k_is)
  (case y48_4=>k_is)
  (case y48_5=>k_is)
  (case y48_6=>k_is)
  (case y48_7=>k_is)
  (case y49=>k_is)
  (case y50_0=>k_is)
  (case y50_1=>k_is)
  (case y50_2=>k_is)
  (case y50_3=>k_is)
  (case y50_4=>k_is)
  (case y50_5=>k_is)
  (case y50_6=>k_is)
  (case y50_7=>k_is)
  (case y51=>k_is)
  (case y52=>k_is)
  (case y53_0=>k_is)
  (case y53_1=>k_is)
  (case y53_2=>k_is)
  (case y53_3=>k_is)
  (case y53_4=>k_is)
  (case y53_5=>k_is)
  (case y53_6=>k_is)
  (case y53_7=>k_is)
  (case y54=>k_is)
  (case y55=>k_is)
  (case y56=>kit_is)
  (case y57=>kit_is)
  (case y58=>kit_is)
  (case y59=>kit_is)
  (case y60=>kit_is)
  (case y61=>kit_is)
  (case y62=>kit_is)
  (case y63=>kit_is)
  (case y64=>kit_is)
  (case y65=>kit_is)
  (case y66=>kit_is)
  (case y67=>kit_is)
  (case y68=>kit_is)
  (case y69=>kit_is)
  (case y70=>kit_is)
  (case y71=>kit_is)
  (case y72=>kit_is)
  (case y73=>kit_is)
  (case y74=>kit_is)
  (case y75=>kit_is)
  (case y76=>kit_is)
  (case y77=>kit_is)
  (case y78=>kit_is)
  (case y79=>kit_is)
  (case y80=>kit_is)
  (case y81=>kit_is)
  (case y82=>kit_is)
  (case y83=>kit_is)
  (case y84=>kit_is)
  (case y85=>kit_is)
  (case y86=>kit_is)
  (case y87=>kit_is)
  (case y88=>kit_is)
  (case y89=>kit_is)
  (case y90=>kit_is)
  (case y91=>kit_is)
  (case y92=>kit_is)
  (case y93=>kit_is)
  (case y94=>kit_is)
  (case y95=>kit_is)
  (case y96=>kit_is)
  (case y97=>kit_is)
  (case y98=>kit_is)
  (case y99=>kit_is)
  (case y100=>kit_is)
  (case y101=>kit_is)
  (case y102=>kit_is)
  (case y103=>kit_is)
  (case y104=>kit_is)
  (case y105=>kit_is)
  (case y106=>kit_is)
  (case y107=>kit_is)
  (case y108=>kit_is)
  (case y109=>kit_is)
  (case y110=>kit_is)
  (case y111=>kit_is)
  (case y112_0=>k_is)
  (case y112_1=>k_is)
  (case y112_2=>k_is)
  (case y113=>kts_exm)
  (case lxNoText=>k_is)
  (case xbNoText=>k_exc)
  (case sxNoText=>k_is)
  (case mkWords=>k_is)
  (case kcWords=>k_is)
  (case mkKind=>k_is)
  (case kcKind=>k_is)
  (case mkPlace=>k_is)
  (case kcPlace=>k_is)
  (case mkLeast=>k_is)
  (case kcLeast=>k_is)
  (case mkNot=>k_is)
  (case kcNot=>k_is)
  (case mkBoth=>k_is)
  (case kcBoth=>k_is)
  (case mkEither=>k_is)
  (case kcEither=>k_is)
  (case mkOpened=>k_is)
  (case kcOpened=>k_is)
