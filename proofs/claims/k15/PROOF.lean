import PyProof.Rows.All
import Wide.All
import OpenK.AllK
import Wide.FinOn
import Lean
import PyProof.EqAt
import PyProof.EqKinds
import PyProof.TupleCall
import PySem.Challenge.RW_bellsaway_k15_what_wins_and_idle_lines
set_option Elab.async false
set_option linter.all false
set_option maxRecDepth 100000
namespace L2
open PySem PySem.Spec PyProof.Rows PySem.W
abbrev Key:=Sum Int Str
def wH:Key->Value->Bool
 | .inl k,v=>Value.isInt k v
 | .inr x,v=>Value.isStrOf x v
def BO0 (w:World):Key->Int
 | .inl k=>hashInt k
 | .inr x=>hashStr w x
theorem dC:∀ {k:Key}{v:Value},wH k v=true->(∃ i t,k=Sum.inl i/\v=Value.int i t)\/(∃ x t,k=Sum.inr x/\v=Value.str x t)
 | .inl i,v,h=>by
  obtain ⟨t,e⟩:=Value.isInt_shape (k:=i) (v:=v) h
  exact .inl ⟨i,t,rfl,e⟩
 | .inr x,v,h=>by
  obtain ⟨t,e⟩:=Value.isStrOf_shape (x:=x) (v:=v) h
  exact .inr ⟨x,t,rfl,e⟩
theorem AB9 (i:Int)(t:Tok):wH (.inl i) (.int i t)=true:=by simp [wH,Value.isInt]
theorem AC0 (x:Str)(t:Tok):wH (.inr x) (.str x t)=true:=by simp [wH,Value.isStrOf]
theorem BB6 (a b:Int):decide ((Sum.inl a:Key)=Sum.inl b)=(a == b):=by
 by_cases e:a=b
 ·subst e; simp
 ·have h:¬ (Sum.inl a:Key)=Sum.inl b:=fun q=>e (Sum.inl.inj q)
  rw [decide_eq_false h]
  exact (beq_eq_false_iff_ne.mpr e).symm
theorem BB7 (a b:Str):decide ((Sum.inr a:Key)=Sum.inr b)=decide (a=b):=by
 by_cases e:a=b
 ·subst e; simp
 ·have h:¬ (Sum.inr a:Key)=Sum.inr b:=fun q=>e (Sum.inr.inj q)
  rw [decide_eq_false h,decide_eq_false e]
theorem BB8 (a:Int)(b:Str):decide ((Sum.inl a:Key)=Sum.inr b)=false:=decide_eq_false (fun q=>nomatch q)
theorem BB9 (a:Str)(b:Int):decide ((Sum.inr a:Key)=Sum.inl b)=false:=decide_eq_false (fun q=>nomatch q)
def fC (prog:Program)(w:World):PySem.KeyKind prog w Key where
 is:=wH
 hash:=BO0 w
 inj:=fun v a b ha hb=>by
  rcases dC ha with ⟨i,t,rfl,rfl⟩ | ⟨x,t,rfl,rfl⟩
  ·rcases dC hb with ⟨j,u,rfl,e⟩ | ⟨y,u,rfl,e⟩
   ·injection e with e1 _; rw [e1]
   ·exact nomatch e
  ·rcases dC hb with ⟨j,u,rfl,e⟩ | ⟨y,u,rfl,e⟩
   ·exact nomatch e
   ·injection e with e1 _; rw [e1]
 byValue:=fun k v h=>by
  rcases dC h with ⟨i,t,rfl,rfl⟩ | ⟨x,t,rfl,rfl⟩ <;> rfl
 pyHash:=fun hv h=>by
  rcases dC hv with ⟨i,t,rfl,rfl⟩ | ⟨x,t,rfl,rfl⟩
  ·exact wpAny_pyHash_int h
  ·exact wpAny_pyHash_str h
 eqBool:=fun hu hv h=>by
  rcases dC hu with ⟨i,t,rfl,rfl⟩ | ⟨x,t,rfl,rfl⟩
  ·rcases dC hv with ⟨j,u,rfl,rfl⟩ | ⟨y,u,rfl,rfl⟩
   ·rw [BB6] at h; exact wpAny_eqBool_int h
   ·rw [BB8] at h; exact SeqAt.EqAt.int_str i t y u _ _ _ _ h
  ·rcases dC hv with ⟨j,u,rfl,rfl⟩ | ⟨y,u,rfl,rfl⟩
   ·rw [BB9] at h; exact SeqAt.EqAt.str_int x t j u _ _ _ _ h
   ·rw [BB7] at h; exact wpAny_eqBool_str h
 «strs»:=fun k x t v h=>by
  rcases dC h with ⟨i,u,rfl,e⟩ | ⟨y,u,rfl,e⟩
  ·exact nomatch e
  ·injection e with e1 _
   subst e1
   cases v <;> rfl
theorem wI (prog:Program)(w:World)(i:Int)(t:Tok):(fC prog w).is (.inl i) (.int i t)=true:=AB9 i t
theorem wJ (prog:Program)(w:World)(x:Str)(t:Tok):(fC prog w).is (.inr x) (.str x t)=true:=AC0 x t
inductive V where
 | non | bl (b:Bool) | int (i:Int) | str (x:Str) | byt (b:Array UInt8) | flt (b:UInt64) | ref (a:Addr) | ty (n:String)
 deriving DecidableEq
def RelV:V->Value->Prop
 | .non,u=>u=Value.none
 | .bl b,u=>u=Value.bool b
 | .int i,u=>∃ t,u=Value.int i t
 | .str x,u=>∃ t,u=Value.str x t
 | .byt b,u=>∃ t,u=Value.bytes b t
 | .flt b,u=>∃ t,u=Value.float b t
 | .ref a,u=>u=Value.ref a
 | .ty n,u=>u=Value.type n
abbrev Vals:List V->List Value->Prop:=Paired RelV
theorem Vals.length {xs:List V}{us:List Value}(r:Vals xs us):xs.length=us.length:=Paired.length r
theorem Vals.get:∀ {xs:List V}{us:List Value}{i:Nat}{x:V},Vals xs us->xs[i]?=some x->∃ u,us[i]?=some u/\RelV x u
 | _,_,_,_,.nil,e=>by simp at e
 | _,_,0,_,.cons r _,e=>by simp at e; subst e; exact ⟨_,rfl,r⟩
 | _,_,i+1,x,.cons _ t,e=>by
  obtain ⟨u,h1,h2⟩:=Vals.get (i:=i) (x:=x) t (by simpa using e)
  exact ⟨u,by simpa using h1,h2⟩
theorem Vals.set {x:V}{u:Value}(r:RelV x u):∀ {xs:List V}{us:List Value}(i:Nat),Vals xs us->Vals (xs.set i x) (us.set i u)
 | _,_,_,.nil=>.nil
 | _,_,0,.cons _ t=>.cons r t
 | _,_,i+1,.cons q t=>.cons q (Vals.set r i t)
theorem Vals.append:∀ {xs ys:List V}{us ws:List Value},Vals xs us->Vals ys ws->Vals (xs++ys) (us++ws)
 | _,_,_,_,.nil,s=>s
 | _,_,_,_,.cons r t,s=>.cons r (Vals.append t s)
theorem Vals.take:∀ {xs:List V}{us:List Value}(n:Nat),Vals xs us->Vals (xs.take n) (us.take n)
 | _,_,0,_=>.nil
 | _,_,_+1,.nil=>.nil
 | _,_,n+1,.cons r t=>.cons r (Vals.take n t)
theorem Vals.drop:∀ {xs:List V}{us:List Value}(n:Nat),Vals xs us->Vals (xs.drop n) (us.drop n)
 | _,_,0,r=>r
 | _,_,_+1,.nil=>.nil
 | _,_,n+1,.cons _ t=>Vals.drop n t
def RelO:Option V->Option Value->Prop
 | some v,some u=>RelV v u
 | none,none=>True
 | _,_=>False
def KV {κ:Type}:List (κ × V)->List (κ × Value)->Prop:=Paired fun (p:κ × V) (q:κ × Value)=>p.1=q.1/\RelV p.2 q.2
def kV:Key->V
 | .inl i=>.int i
 | .inr x=>.str x
inductive HO where
  | lst (xs:List V)
  | tup (xs:List V)
  | dK (kvs:List (Key × V)) | dT (kvs:List (List Key × V))
  | set (S:Int->Bool) (n:Nat)
  | ins (C dx:Addr) (fs:List (Str × V))
  | own (x:Addr)
  | xd (fs:List (Str × V))
  | met (f x:Addr)
  | rng (lo hi:Int)
  | frz (o:Obj) (u:HO)
  | tbl (ps:Array Value)
  | ext (φ:Heap->Prop)
abbrev Hp:=Addr->Option HO
def upd (H:Hp)(a:Addr)(o:HO):Hp:=fun b=>if b=a then some o else H b
theorem aA {H:Hp}{a:Addr}{o:HO}:upd H a o a=some o:=by unfold upd; rw [if_pos rfl]
theorem aO {H:Hp}{a b:Addr}{o:HO}(h:b≠a):upd H a o b=H b:=by unfold upd; rw [if_neg h]
theorem BC0 {H:Hp}{a b:Addr}{o u:HO}(h:H a=some o)(h':H b=some u)(d:o≠u):a≠b:=by
 intro e; subst e; rw [h] at h'; exact d (Option.some.inj h')
theorem aP {H:Hp}{a b:Addr}{o:HO}(h:H a=some o)(h':H b=none):a≠b:=by
 intro e; subst e; rw [h] at h'; cases h'
section
variable (P:Program) (w:World)
def ObjOk (H:Hp)(h:Heap)(a:Addr):HO->Prop
 | .lst xs=>xs.length<=sizeLine/\∃ (its:List Value) (n:Nat),Vals xs its/\h.get? a=some { cls:=.type "list",data:=.seq its.toArray n }
 | .tup xs=>xs.length<=sizeLine/\∃ its:List Value,Vals xs its/\IsTup h a its.toArray
 | .dK kvs=>kvs.length<=sizeLine/\(a == sysModules)=false/\∃ vs,KV kvs vs/\h.DictOf (fC P w) a vs
 | .dT kvs=>kvs.length<=sizeLine/\(a == sysModules)=false/\∃ xs:List (List Key × Addr × Value),
   Paired (fun (p:List Key × V) (q:List Key × Addr × Value)=>p.1=q.1/\H q.2.1=some (.tup (p.1.map kV))/\RelV p.2 q.2.2) kvs xs /\
   ∃ o es ep,h.get? a=some o/\o.ExactDict/\o.data=.dict es ep/\es.toList=xs.map (entryOfKey (tupleKind (fC P w)))/\(xs.map (·.1)).Nodup
 | .set S n=>h.SetOf (intKind P w) a S n
 | .ins C dx fs=>H dx=some (.own a)/\fs.length<=1000/\dx≠a/\h.get? a=some (instObj C dx) /\
   ∃ mA,h.Ns1 dx mA/\(∀ f,RelO (fs.lookup f) (mA f))/\PySem.Within mA (fs.map (·.1))
 | .own _=>∃ o,h.get? a=some o
 | .xd fs=>∃ mA,h.Ns1 a mA/\∀ f,RelO (fs.lookup f) (mA f)
 | .rng lo hi=>∃ t u v,h.get? a=some { cls:=.type "range",data:=.fields #[.int lo t,.int hi u,.int 1 v] }
 | .frz o u=>h.get? a=some o/\ObjOk H h a u
 | .tbl ps=>h.get? a=some { cls:=.none,data:=.fields ps }
 | .met f x=>h.get? a=some (methodObj (.ref f) (.ref x))
 | .ext φ=>φ h/\(∃ o,h.get? a=some o)/\∀ h1 h2:Heap,φ h1->(∀ o,h1.get? a=some o->h2.get? a=some o)->φ h2
def HOk (H:Hp)(h:Heap):Prop:=∀ a o,H a=some o->ObjOk P w H h a o
end
section
variable {P:Program}{w:World}{H H':Hp}{h h':Heap}{a:Addr}{o:HO}
theorem ObjOk.lt (x:ObjOk P w H h a o):a < h.objs.size:=by
 cases o with
 | lst xs=>obtain ⟨_,_,_,_,e⟩:=x; exact Heap.lt_size e
 | tup xs=>obtain ⟨_,_,_,p⟩:=x; exact p.lt
 | dK kvs=>obtain ⟨_,_,_,_,o,_,_,e,_⟩:=x; exact Heap.lt_size e
 | dT kvs=>obtain ⟨_,_,_,_,o,_,_,e,_⟩:=x; exact Heap.lt_size e
 | set S n=>obtain ⟨o,_,_,_,e,_⟩:=x; exact Heap.lt_size e
 | ins C dx fs=>obtain ⟨_,_,_,e,_⟩:=x; exact Heap.lt_size e
 | own y=>obtain ⟨_,e⟩:=x; exact Heap.lt_size e
 | xd fs=>obtain ⟨_,⟨_,_,_,e,_⟩,_⟩:=x; exact Heap.lt_size e
 | rng lo hi=>obtain ⟨_,_,_,e⟩:=x; exact Heap.lt_size e
 | frz ob u=>obtain ⟨e,_⟩:=x; exact Heap.lt_size e
 | tbl ps=>exact Heap.lt_size (show h.get? a=some _ from x)
 | met f y=>exact Heap.lt_size (show h.get? a=some _ from x)
 | ext φ=>obtain ⟨_,⟨_,e⟩,_⟩:=x; exact Heap.lt_size e
theorem Paired.mapP {α β:Type}{F G:α->β->Prop}:∀ {l₁:List α}{l₂:List β},Paired F l₁ l₂->(∀ a b,F a b->G a b)->Paired G l₁ l₂
 | _,_,.nil,_=>.nil
 | _,_,.cons r t,f=>.cons (f _ _ r) (Paired.mapP t f)
theorem ObjOk.stay (x:ObjOk P w H h a o)(k:∀ b u,(b=a\/H b=some (.own a))->h.get? b=some u->h'.get? b=some u)(ho:∀ b,H b=some (.own a)->H' b=some (.own a))(ht:∀ b xs,H b=some (.tup xs)->H' b=some (.tup xs)):ObjOk P w H' h' a o:=by
 induction o with
 | lst xs=>obtain ⟨z,its,n,r,e⟩:=x; exact ⟨z,its,n,r,k _ _ (.inl rfl) e⟩
 | tup xs=>obtain ⟨z,its,r,ob,e,c⟩:=x; exact ⟨z,its,r,ob,k _ _ (.inl rfl) e,c⟩
 | dK kvs=>obtain ⟨z,y,vs,r,ob,es,ep,e,c⟩:=x; exact ⟨z,y,vs,r,ob,es,ep,k _ _ (.inl rfl) e,c⟩
 | dT kvs =>
  obtain ⟨z,y,xs,r,ob,es,ep,e,c⟩:=x
  exact ⟨z,y,xs,Paired.mapP r fun p q z=>⟨z.1,ht _ _ z.2.1,z.2.2⟩,ob,es,ep,k _ _ (.inl rfl) e,c⟩
 | set S n=>obtain ⟨ob,es,ep,t,e,c⟩:=x; exact ⟨ob,es,ep,t,k _ _ (.inl rfl) e,c⟩
 | ins C dx fs =>
  obtain ⟨d,z,ne,e,mA,⟨od,es,ep,e2,c⟩,r⟩:=x
  exact ⟨ho _ d,z,ne,k _ _ (.inl rfl) e,mA,⟨od,es,ep,k _ _ (.inr d) e2,c⟩,r⟩
 | own y=>obtain ⟨ob,e⟩:=x; exact ⟨ob,k _ _ (.inl rfl) e⟩
 | xd fs=>obtain ⟨mA,⟨od,es,ep,e,c⟩,r⟩:=x; exact ⟨mA,⟨od,es,ep,k _ _ (.inl rfl) e,c⟩,r⟩
 | rng lo hi=>obtain ⟨t,u,v,e⟩:=x; exact ⟨t,u,v,k _ _ (.inl rfl) e⟩
 | frz ob u ih=>obtain ⟨e,q⟩:=x; exact ⟨k _ _ (.inl rfl) e,ih q⟩
 | tbl ps =>
  have e:h.get? a=some { cls:=.none,data:=.fields ps }:=x
  show h'.get? a=some { cls:=.none,data:=.fields ps }
  exact k a _ (.inl rfl) e
 | met f y =>
  have e:h.get? a=some (methodObj (.ref f) (.ref y)):=x
  show h'.get? a=some (methodObj (.ref f) (.ref y))
  exact k a _ (.inl rfl) e
 | ext φ=>obtain ⟨p,⟨o,e⟩,st⟩:=x; exact ⟨st _ _ p fun o q=>k _ _ (.inl rfl) q,⟨o,k _ _ (.inl rfl) e⟩,st⟩
theorem HOk.lt (x:HOk P w H h)(e:H a=some o):a < h.objs.size:=(x a o e).lt
theorem HOk.fresh (x:HOk P w H h)(e:h.objs.size<=a):H a=none:=by
 cases q:H a with
 | none=>rfl
 | some u=>exact absurd (Nat.lt_of_lt_of_le (x.lt q) e) (Nat.lt_irrefl _)
theorem HOk.kept (x:HOk P w H h)(k:∀ b u,h.get? b=some u->h'.get? b=some u):HOk P w H h':=fun a o e =>
 (x a o e).stay (fun b u _ q=>k b u q) (fun _ q=>q) fun _ _ q=>q
theorem HOk.laid (x:HOk P w H h)(k:∀ b u,h.get? b=some u->h'.get? b=some u)(hp:h.objs.size<=a)(new:ObjOk P w (upd H a o) h' a o):HOk P w (upd H a o) h':=fun b u e=>by
 have hn:=x.fresh hp
 by_cases hb:b=a
 ·subst hb; rw [aA] at e; cases e; exact new
 ·rw [aO hb] at e
  exact (x b u e).stay (fun c v _ q=>k c v q) (fun c q=>by rw [aO (aP q hn)]; exact q) fun c xs q=>by rw [aO (aP q hn)]; exact q
end
def Rd (H:Hp)(a:Addr)(u:HO):Prop:=H a=some u\/∃ o,H a=some (.frz o u)
theorem Rd.ok {P:Program}{w:World}{H:Hp}{h:Heap}{a:Addr}{u:HO}(r:Rd H a u)(x:HOk P w H h):ObjOk P w H h a u:=by
 rcases r with r | ⟨o,r⟩
 ·exact x a u r
 ·obtain ⟨_,q⟩:=x a _ r
  exact q
def Mut:Option HO->Prop
 | some (.lst _)=>True
 | some (.dK _)=>True
 | some (.dT _)=>True
 | some (.set _ _)=>True
 | some (.ins _ _ _)=>True
 | some (.ext _)=>True
 | _=>False
section
variable {P:Program}{w:World}{H:Hp}{h h':Heap}{x e:Addr}{o':HO}
theorem HOk.write (ok:HOk P w H h)(mu:Mut (H x))(he:e=x\/H e=some (.own x))(k:∀ b u,b≠e->h.get? b=some u->h'.get? b=some u)(heo:∃ u,h'.get? e=some u)(new:ObjOk P w (upd H x o') h' x o'):HOk P w (upd H x o') h':=fun b u q=>by
 have nown:∀ c y,H c=some (.own y)->c≠x:=fun c y r z=>by subst z; rw [r] at mu; exact mu
 have ntup:∀ c xs,H c=some (.tup xs)->c≠x:=fun c xs r z=>by subst z; rw [r] at mu; exact mu
 by_cases hb:b=x
 ·subst hb; rw [aA] at q; cases q; exact new
 ·rw [aO hb] at q
  by_cases hbe:b=e
  ·have q':H b=some (.own x):=by
    rcases he with z | z
    ·exact absurd (hbe.trans z) hb
    ·rw [hbe]; exact z
   rw [q] at q'; cases q'
   obtain ⟨v,hv⟩:=heo
   exact ⟨v,by rw [hbe]; exact hv⟩
  ·refine (ok b u q).stay (fun c v hc r=>k c v ?_ r) (fun c r=>by rw [aO (nown c b r)]; exact r) fun c xs r=>by rw [aO (ntup c xs r)]; exact r
   rcases hc with rfl | hc
   ·exact hbe
   ·rintro rfl
    rcases he with z | z
    ·exact nown c b hc z
    ·rw [hc] at z; cases z; exact hb rfl
end
structure Un (fs ex:List Addr) (H H':Hp) (h h':Heap):Prop where
 keep:∀ b o,h.get? b=some o->H b=none->b ∉ fs->b ∉ ex->h'.get? b=some o
 slot:∀ b o,h.get? b=some o->H b=none->b∈fs->b ∉ ex->∃ sl,h'.get? b=some { o with slots:=sl }
 free:∀ b o,h.get? b=some o->H b=none->b ∉ ex->H' b=none
 there:∀ b o,h.get? b=some o->b ∉ ex->∃ o',h'.get? b=some o'
 tups:∀ b xs,H b=some (.tup xs)->H' b=some (.tup xs)
 frzs:∀ b o u,H b=some (.frz o u)->H' b=some (.frz o u)
 tbls:∀ b ps,H b=some (.tbl ps)->∃ more,H' b=some (.tbl (ps++more))
section
variable {fs fs' ex ex':List Addr}{H H1 H2:Hp}{h h1 h2 h':Heap}{a x e:Addr}{o:HO}
theorem Un.any (u:Un fs ex H H1 h h1){b:Addr}{ob:Obj}(q:h.get? b=some ob)(n:H b=none)(hx:b ∉ ex):∃ sl,h1.get? b=some { ob with slots:=sl }:=by
 by_cases hb:b∈fs
 ·exact u.slot b ob q n hb hx
 ·exact ⟨ob.slots,u.keep b ob q n hb hx⟩
theorem Un.kept (k:∀ b u,h.get? b=some u->h'.get? b=some u):Un fs ex H H h h' :=
 ⟨fun b ob q _ _ _=>k b ob q,fun b ob q _ _ _=>⟨ob.slots,k b ob q⟩,fun _ _ _ n _=>n,fun b ob q _=>⟨ob,k b ob q⟩,fun _ _ q=>q,fun _ _ _ q=>q,fun _ ps q=>⟨#[],by rw [q]; simp⟩⟩
theorem Un.refl:Un fs ex H H h h:=Un.kept fun _ _ q=>q
theorem Un.laid (k:∀ b u,h.get? b=some u->h'.get? b=some u)(hp:h.objs.size<=a)(hn:H a=none):Un fs ex H (upd H a o) h h' where
 keep:=fun b u q _ _ _=>k b u q
 slot:=fun b u q _ _ _=>⟨u.slots,k b u q⟩
 free:=fun b u q n _=>by rw [aO (Nat.ne_of_lt (Nat.lt_of_lt_of_le (Heap.lt_size q) hp))]; exact n
 there:=fun b u q _=>⟨u,k b u q⟩
 tups:=fun b xs q=>by rw [aO (aP q hn)]; exact q
 frzs:=fun b u xs q=>by rw [aO (aP q hn)]; exact q
 tbls:=fun b ps q=>⟨#[],by rw [aO (aP q hn),q]; simp⟩
theorem Un.write (mu:Mut (H x))(he:e=x\/H e=some (.own x))(k:∀ b u,b≠e->h.get? b=some u->h'.get? b=some u)(heo:∃ u,h'.get? e=some u):Un fs ex H (upd H x o) h h':=by
 have hx:∀ b,H b=none->b≠x:=fun b n z=>by subst z; rw [n] at mu; exact mu
 have hb:∀ b,H b=none->b≠e:=fun b n z=>by
  subst z
  rcases he with r | r
  ·exact hx b n r
  ·rw [n] at r; cases r
 have hm:∀ b u,H b=some u->¬ Mut (some u)->b≠x:=fun b u q nm z=>by subst z; rw [q] at mu; exact nm mu
 refine ⟨fun b u q n _ _=>k b u (hb b n) q,fun b u q n _ _=>⟨u.slots,k b u (hb b n) q⟩,fun b u q n _=>by rw [aO (hx b n)]; exact n,fun b u q _=>?_,
  fun b xs q=>by rw [aO (hm b _ q fun z=>z)]; exact q,fun b u xs q=>by rw [aO (hm b _ q fun z=>z)]; exact q,fun b ps q=>⟨#[],by rw [aO (hm b _ q fun z=>z),q]; simp⟩⟩
 by_cases hbe:b=e
 ·subst hbe; exact heo
 ·exact ⟨u,k b u hbe q⟩
end
def trk (h:Heap)(H:Hp):List Addr:=(List.range h.objs.size).filter fun a=>(H a).isSome
def AL7 (h:Heap)(H:Hp):Heap:=hideAll h (trk h H)
theorem AC1 (h:Heap)(H:Hp):(AL7 h H).objs.size=h.objs.size:=hideAll_size _ _
theorem AL8 {h:Heap}{H:Hp}{b:Addr}{o:Obj}(e:h.get? b=some o)(n:H b=none):(AL7 h H).get? b=some o :=
 hideAll_get _ e fun hm=>by
  have q:(H b).isSome=true:=(List.mem_filter.mp hm).2
  rw [n] at q; simp at q
theorem AT9 {h:Heap}{H:Hp}{b:Addr}{o:Obj}(e:(AL7 h H).get? b=some o):h.get? b=some o/\H b=none:=by
 have e':h.get? b=some o:=of_hideAll (trk h H) e
 refine ⟨e',?_⟩
 cases q:H b with
 | none=>rfl
 | some x =>
  have hm:b∈trk h H:=List.mem_filter.mpr ⟨List.mem_range.mpr (Heap.lt_size e'),by simp [q]⟩
  have z:(AL7 h H).get? b=none:=hideAll_none (trk h H) hm
  rw [z] at e; cases e
def AU0 (g h:Heap)(L:Addr):List (Addr × Obj):=(List.range h.objs.size).filterMap fun a=>if a=L\/(g.get? a).isSome=true then none else (h.get? a).map fun o=>(a,o)
def rK (g h:Heap)(L d:Addr):List (Addr × Obj):=(AU0 g h L).filter fun p=>decide (p.1≠d)
structure Mod (K:Frag) (mg:Str->Option Value) (base:Heap):Prop where
 kin:K.In base
 glob:base.Ns mainGlobals mg
 blt:∃ mb,base.Ns builtinsNs mb/\∀ x:Str,x≠"__name__"->mb x=bootBuiltins x
 nolimit:base.NoLimit
structure Cx where
 prog:Program
 w:World
 K:Frag
 mg:Str->Option Value
 base:Heap
 A:Around
 N:List Str
 s₀:Shared
 H₀:Hp
 env:Env
 outer:List Env
 stack:List Env
 ex:List Addr
 fn:Str->Bool
 calm:Bool
 pn:List (Addr × Obj)
 xe:Value->Shared->Prop
def frs (l:List Env):List Addr:=l.filterMap (·.frame)
abbrev Cx.fs (X:Cx):List Addr:=frs X.outer
def Vis (sc:Scope)(x:Str):Prop:=sc.names.lookup x=some .local\/sc.names.lookup x=some .cell\/sc.names.lookup x=some .free
def Loc (sc:Scope)(x:Str):Prop:=sc.names.lookup x=some .local\/sc.names.lookup x=some .cell
def BO1 (env:Env)(h:Heap)(m:Str->Option Value)(x:Str)(u:Value):Prop :=
 (env.kindOf x=some .local/\m x=some u)\/((env.kindOf x=some .cell\/env.kindOf x=some .free)/\∃ c,env.cells.lookup x=some c/\h.IsCell c (some u))
structure Cx.Ok (X:Cx):Prop where
 mod:Mod X.K X.mg X.base
 kind:X.env.scope.kind=.function
 glob:X.env.globals=mainGlobals
 blt:X.env.builtins=builtinsNs
 above:X.s₀.heap.objs.size<=X.env.locals
 inj:∀ x y c,X.env.cells.lookup x=some c->X.env.cells.lookup y=some c->x=y
 has:∀ x,(X.env.kindOf x=some .cell\/X.env.kindOf x=some .free)->∃ c,X.env.cells.lookup x=some c
 cab:∀ x c,X.fn x=true->X.env.cells.lookup x=some c->X.s₀.heap.objs.size<=c
 hd:X.calm=true->X.A.handled=none
 frames:X.A.frames=some X.stack
 stk:X.stack=X.outer\/(X.stack=X.env::X.outer/\X.env.frame=some X.env.locals)
 exf:∀ b∈X.ex,b≠X.env.locals/\∀ x c,X.env.cells.lookup x=some c->c≠b
 bs:∀ b o,X.base.get? b=some o->X.s₀.heap.get? b=some o/\X.H₀ b=none
 bsz:X.base.objs.size<=X.s₀.heap.objs.size
 noex:∀ b o,X.base.get? b=some o->b ∉ X.ex
 exfs:∀ b∈X.ex,b ∉ X.fs
 funs:X.s₀.heap.FunFrames X.base X.outer
 frf:∀ b∈X.fs,X.H₀ b=none
structure Inv (X:Cx) (pins:List (Addr × Obj)) (σ:List (Option V)) (H:Hp) (s:Shared):Prop where
 ok:X.Ok
 os:s.os=X.s₀.os
 bare:AllBare s.gens
 base:Un X.fs X.ex X.H₀ H X.s₀.heap s.heap
 loc:∃ m,s.heap.Ns X.env.locals m/\∀ (i:Nat) (x:Str) (v:V),X.N[i]?=some x->σ[i]?=some (some v)->Vis X.env.scope x->∃ u,RelV v u/\BO1 X.env s.heap m x u
 cell:∀ x c,X.env.cells.lookup x=some c->∃ v,s.heap.IsCell c v
 free:H X.env.locals=none
 freeC:∀ x c,X.env.cells.lookup x=some c->H c=none
 pin:∀ p∈X.pn++pins,s.heap.get? p.1=some p.2/\H p.1=none/\p.1≠X.env.locals/\p.1 ∉ X.fs/\∀ v,p.2.data≠.cell v
 hok:HOk X.prog X.w H s.heap
 len:σ.length=X.N.length
section
variable {X:Cx}{pins:List (Addr × Obj)}{σ:List (Option V)}{H H':Hp}{s:Shared}{h':Heap}
theorem Cx.Ok.nofr (ok:X.Ok){b:Addr}{o:Obj}(e:X.base.get? b=some o):b ∉ X.fs:=fun hb=>by
 have:=(ok.funs.mem hb).1
 rw [e] at this; cases this
theorem Inv.bs (I:Inv X pins σ H s):∀ b o,X.base.get? b=some o->s.heap.get? b=some o/\H b=none:=fun b o e =>
 ⟨I.base.keep b o (I.ok.bs b o e).1 (I.ok.bs b o e).2 (I.ok.nofr e) (I.ok.noex b o e),I.base.free b o (I.ok.bs b o e).1 (I.ok.bs b o e).2 (I.ok.noex b o e)⟩
theorem Inv.bk (I:Inv X pins σ H s):∀ b o,X.base.get? b=some o->s.heap.get? b=some o:=fun b o e=>(I.bs b o e).1
theorem Inv.mod (I:Inv X pins σ H s):Mod X.K X.mg X.base:=I.ok.mod
theorem Inv.kIn (I:Inv X pins σ H s):X.K.In s.heap:=I.ok.mod.kin.keeps I.bk
theorem Inv.lt (I:Inv X pins σ H s):X.env.locals < s.heap.objs.size:=let ⟨_,hn,_⟩:=I.loc; hn.lt
theorem Inv.sz (I:Inv X pins σ H s):X.s₀.heap.objs.size<=s.heap.objs.size:=Nat.le_trans I.ok.above (Nat.le_of_lt I.lt)
theorem Inv.nofs (I:Inv X pins σ H s){a:Addr}(h:s.heap.objs.size<=a):a ∉ X.fs:=fun hb=>by
 obtain ⟨_,o,ho,_⟩:=I.ok.funs.mem hb
 exact absurd (Nat.lt_of_lt_of_le (Heap.lt_size ho) (Nat.le_trans I.sz h)) (Nat.lt_irrefl _)
theorem Inv.cne (I:Inv X pins σ H s):∀ x c,X.env.cells.lookup x=some c->c≠X.env.locals:=fun x c e z=>by
 obtain ⟨v,o,ho,hd⟩:=I.cell x c e
 obtain ⟨m,⟨o',es,ep,ho',hd',_⟩,_⟩:=I.loc
 rw [z,ho'] at ho; cases ho; rw [hd'] at hd; cases hd
theorem Inv.funs (I:Inv X pins σ H s):s.heap.FunFrames X.base X.outer:=by
 have all:∀ (l:List Env),(∀ b∈frs l,b∈X.fs)->X.s₀.heap.FunFrames X.base l->s.heap.FunFrames X.base l:=by
  intro l
  induction l with
  | nil=>intro _ _; trivial
  | cons env r ih =>
   intro hs hl
   obtain ⟨hk,⟨L,o,hf,hn,ho,hd⟩,hr⟩:=hl
   have hL:L∈X.fs:=hs L (by unfold frs; rw [List.filterMap_cons,hf]; exact List.mem_cons_self)
   obtain ⟨sl,e⟩:=I.base.slot L o ho (I.ok.frf L hL) hL fun z=>I.ok.exfs L z hL
   exact ⟨hk,⟨L,_,hf,hn,e,hd⟩,ih (fun b hb=>hs b (by unfold frs; rw [List.filterMap_cons,hf]; exact List.mem_cons_of_mem _ hb)) hr⟩
 exact all X.outer (fun _ hb=>hb) I.ok.funs
theorem Inv.stack (I:Inv X pins σ H s):s.heap.FunFrames X.base X.stack:=by
 rcases I.ok.stk with e | ⟨e,hf⟩
 ·rw [e]; exact I.funs
 ·rw [e]
  obtain ⟨m,hn,_⟩:=I.loc
  refine .cons (by rw [I.ok.kind]; decide) hf hn ?_ I.funs
  exact Heap.get?_none_of_le (Nat.le_trans I.ok.bsz I.ok.above)
theorem Inv.stkSub (I:Inv X pins σ H s):∀ b∈frs X.stack,b∈X.env.locals::X.fs:=fun b hb=>by
 rcases I.ok.stk with e | ⟨e,hf⟩
 ·rw [e] at hb; exact List.mem_cons_of_mem _ hb
 ·rw [e] at hb
  unfold frs at hb
  rw [List.filterMap_cons,hf] at hb
  exact hb
theorem Inv.stkFree (I:Inv X pins σ H s):∀ b∈frs X.stack,H b=none:=fun b hb=>by
 rcases List.mem_cons.mp (I.stkSub b hb) with e | hb
 ·rw [e]; exact I.free
 ·obtain ⟨_,o,ho,_⟩:=I.ok.funs.mem hb
  exact I.base.free b o ho (I.ok.frf b hb) fun z=>I.ok.exfs b z hb
theorem Inv.step {g':Array GenState}{t':Nat}{d':Drawn}{ch:List Addr}(I:Inv X pins σ H s)(hch:∀ b∈ch,(b∈X.ex\/X.s₀.heap.objs.size<=b)/\b≠X.env.locals/\(∀ x c,X.env.cells.lookup x=some c->c≠b)/\∀ p∈X.pn++pins,p.1≠b)(keep:∀ b o,b≠X.env.locals->b ∉ X.fs->b ∉ ch->s.heap.get? b=some o->H b=none->h'.get? b=some o)(slot:∀ b o,b≠X.env.locals->b∈X.fs->b ∉ ch->s.heap.get? b=some o->H b=none->∃ sl,h'.get? b=some { o with slots:=sl })(free:∀ b o,b ∉ ch->s.heap.get? b=some o->H b=none->H' b=none)(there:∀ b o,b ∉ ch->s.heap.get? b=some o->∃ o',h'.get? b=some o')(tups:∀ b xs,H b=some (.tup xs)->H' b=some (.tup xs))(frzs:∀ b o u,H b=some (.frz o u)->H' b=some (.frz o u))(tbls:∀ b ps,H b=some (.tbl ps)->∃ more,H' b=some (.tbl (ps++more)))(ns:∀ m,s.heap.Ns X.env.locals m->h'.Ns X.env.locals m)(hok:HOk X.prog X.w H' h')(hg:AllBare g') :
  Inv X pins σ H' { s with heap:=h',gens:=g',drawn:=d',toks:=t' }:=by
 have neL:∀ b o,X.s₀.heap.get? b=some o->b≠X.env.locals:=fun b o e=>Nat.ne_of_lt (Nat.lt_of_lt_of_le (Heap.lt_size e) I.ok.above)
 have neC:∀ b o,X.s₀.heap.get? b=some o->b ∉ X.ex->b ∉ ch:=fun b o e hx hb=>by
  rcases (hch b hb).1 with z | z
  ·exact hx z
  ·exact absurd (Nat.lt_of_lt_of_le (Heap.lt_size e) z) (Nat.lt_irrefl _)
 have cellK:∀ x c,X.env.cells.lookup x=some c->∀ v,s.heap.IsCell c v->h'.IsCell c v:=fun x c e v ⟨o,ho,hd⟩=>by
  have nch:c ∉ ch:=fun z=>(hch c z).2.2.1 x c e rfl
  by_cases hc:c∈X.fs
  ·obtain ⟨sl,q⟩:=slot c o (I.cne x c e) hc nch ho (I.freeC x c e)
   exact ⟨_,q,hd⟩
  ·exact ⟨o,keep c o (I.cne x c e) hc nch ho (I.freeC x c e),hd⟩
 refine ⟨I.ok,I.os,hg,⟨fun b o e n hb hx=>?_,fun b o e n hb hx=>?_,fun b o e n hx=>?_,fun b o e hx=>?_,fun b xs e=>tups b xs (I.base.tups b xs e),fun b o xs e=>frzs b o xs (I.base.frzs b o xs e),fun b ps e=>?_⟩,?_,fun x c e=>?_,?_,fun x c e=>?_,fun p hp=>?_,hok,I.len⟩
 ·exact keep b o (neL b o e) hb (neC b o e hx) (I.base.keep b o e n hb hx) (I.base.free b o e n hx)
 ·obtain ⟨sl,e1⟩:=I.base.slot b o e n hb hx
  obtain ⟨sl',e2⟩:=slot b _ (neL b o e) hb (neC b o e hx) e1 (I.base.free b o e n hx)
  exact ⟨sl',e2⟩
 ·obtain ⟨o',e1⟩:=I.base.there b o e hx
  exact free b o' (neC b o e hx) e1 (I.base.free b o e n hx)
 ·obtain ⟨o',e1⟩:=I.base.there b o e hx
  exact there b o' (neC b o e hx) e1
 ·obtain ⟨m1,e1⟩:=I.base.tbls b ps e
  obtain ⟨m2,e2⟩:=tbls b _ e1
  exact ⟨m1++m2,by rw [e2,Array.append_assoc]⟩
 ·obtain ⟨m,hn,hl⟩:=I.loc
  refine ⟨m,ns m hn,fun i x v e1 e2 e3=>?_⟩
  obtain ⟨u,r,l⟩:=hl i x v e1 e2 e3
  refine ⟨u,r,?_⟩
  rcases l with l | ⟨k,c,e,z⟩
  ·exact .inl l
  ·exact .inr ⟨k,c,e,cellK x c e _ z⟩
 ·obtain ⟨v,z⟩:=I.cell x c e
  exact ⟨v,cellK x c e v z⟩
 ·obtain ⟨m,⟨o,_,_,ho,_⟩,_⟩:=I.loc
  exact free _ o (fun z=>(hch _ z).2.1 rfl) ho I.free
 ·obtain ⟨v,o,ho,hd⟩:=I.cell x c e
  exact free c o (fun z=>(hch c z).2.2.1 x c e rfl) ho (I.freeC x c e)
 ·obtain ⟨e,n,ne,nf,d⟩:=I.pin p hp
  have nch:p.1 ∉ ch:=fun z=>(hch p.1 z).2.2.2 p hp rfl
  exact ⟨keep p.1 p.2 ne nf nch e n,free p.1 p.2 nch e n,ne,nf,d⟩
theorem Inv.un {t':Nat}(I:Inv X pins σ H s)(u:Un X.fs [] H H' s.heap h')(hok:HOk X.prog X.w H' h'):Inv X pins σ H' { s with heap:=h',toks:=t' }:=by
 obtain ⟨m,⟨o,es,ep,ho,r⟩,_⟩:=id I.loc
 obtain ⟨sl,hL⟩:=u.any ho I.free (by simp)
 exact I.step (g':=s.gens) (d':=s.drawn) (ch:=[]) (fun _ z=>nomatch z) (fun b o _ hb _ e n=>u.keep b o e n hb (by simp)) (fun b o _ hb _ e n=>u.slot b o e n hb (by simp)) (fun b o _ e n=>u.free b o e n (by simp)) (fun b o _ e=>u.there b o e (by simp)) u.tups u.frzs u.tbls (fun m' hm=>by
  obtain ⟨o',es',ep',ho',r'⟩:=hm
  rw [ho] at ho'; cases ho'
  exact ⟨_,es',ep',hL,r'⟩) hok I.bare
theorem Inv.call {g':Array GenState}{t':Nat}{d':Drawn}{ch:List Addr}(I:Inv X pins σ H s)(u:Un (frs X.stack) ch H H' s.heap h')(hok:HOk X.prog X.w H' h')(hg:AllBare g')(hch:∀ b∈ch,(b∈X.ex\/X.s₀.heap.objs.size<=b)/\b≠X.env.locals/\(∀ x c,X.env.cells.lookup x=some c->c≠b)/\∀ p∈X.pn++pins,p.1≠b) :
  Inv X pins σ H' { s with heap:=h',gens:=g',drawn:=d',toks:=t' }:=by
 obtain ⟨m,⟨o,es,ep,ho,r⟩,_⟩:=id I.loc
 obtain ⟨sl,hL⟩:=u.any ho I.free fun z=>(hch _ z).2.1 rfl
 exact I.step (ch:=ch) hch (fun b o hL hb hc e n=>u.keep b o e n (fun z=>(List.mem_cons.mp (I.stkSub b z)).elim hL hb) hc) (fun b o _ _ hc e n=>u.any e n hc) (fun b o hc e n=>u.free b o e n hc) (fun b o hc e=>u.there b o e hc) u.tups u.frzs u.tbls (fun m' hm=>by
  obtain ⟨o',es',ep',ho',r'⟩:=hm
  rw [ho] at ho'; cases ho'
  exact ⟨_,es',ep',hL,r'⟩) hok hg
theorem Inv.turned {t':Nat}{it:Addr}(I:Inv X pins σ H s)(k:∀ b o,b≠it->s.heap.get? b=some o->h'.get? b=some o)(hn:H it=none)(hL:it≠X.env.locals)(h1:it∈X.ex\/X.s₀.heap.objs.size<=it)(h2:∀ x c,X.env.cells.lookup x=some c->c≠it)(h3:∀ p∈X.pn++pins,p.1≠it):Inv X pins σ H { s with heap:=h',toks:=t' }:=by
 have nit:∀ b u,H b=some u->b≠it:=fun b u e z=>by rw [z,hn] at e; cases e
 refine I.step (g':=s.gens) (d':=s.drawn) (ch:=[it]) (fun b hb=>?_) (fun b o _ _ hc e _=>k b o (fun z=>hc (by simp [z])) e) (fun b o _ _ hc e _=>⟨o.slots,k b o (fun z=>hc (by simp [z])) e⟩) (fun _ _ _ _ n=>n)
  (fun b o hc e=>⟨o,k b o (fun z=>hc (by simp [z])) e⟩) (fun _ _ e=>e) (fun _ _ _ e=>e) (fun b ps e=>⟨#[],by rw [e]; simp⟩) (fun m hm=>?_) (fun b u e=>?_) I.bare
 ·have e:b=it:=by simpa using hb
  subst e
  exact ⟨h1,hL,h2,h3⟩
 ·obtain ⟨o,es,ep,ho,r⟩:=hm
  exact ⟨o,es,ep,k _ o (Ne.symm hL) ho,r⟩
 ·refine (I.hok b u e).stay (fun c v hc q=>k c v ?_ q) (fun _ q=>q) fun _ _ q=>q
  rcases hc with z | z
  ·rw [z]; exact nit b u e
  ·exact nit c _ z
theorem Inv.tok (I:Inv X pins σ H s)(t:Nat):Inv X pins σ H { s with toks:=t }:=I.un (h':=s.heap) (t':=t) Un.refl I.hok
theorem Inv.kept {t':Nat}(I:Inv X pins σ H s)(k:∀ b u,s.heap.get? b=some u->h'.get? b=some u):Inv X pins σ H { s with heap:=h',toks:=t' }:=I.un (Un.kept k) (I.hok.kept k)
theorem Inv.laid {a:Addr}{o:HO}{t':Nat}(I:Inv X pins σ H s)(k:∀ b u,s.heap.get? b=some u->h'.get? b=some u)(hp:s.heap.objs.size<=a)(new:ObjOk X.prog X.w (upd H a o) h' a o) :
  Inv X pins σ (upd H a o) { s with heap:=h',toks:=t' }:=I.un (Un.laid k hp (I.hok.fresh hp)) (I.hok.laid k hp new)
theorem Inv.write {x e:Addr}{o:HO}{t':Nat}(I:Inv X pins σ H s)(mu:Mut (H x))(he:e=x\/H e=some (.own x))(k:∀ b u,b≠e->s.heap.get? b=some u->h'.get? b=some u)(heo:∃ u,h'.get? e=some u)(new:ObjOk X.prog X.w (upd H x o) h' x o):Inv X pins σ (upd H x o) { s with heap:=h',toks:=t' }:=I.un (Un.write mu he k heo) (I.hok.write mu he k heo new)
theorem Inv.pins_of {pins':List (Addr × Obj)}(I:Inv X pins σ H s)(h:∀ p∈pins',s.heap.get? p.1=some p.2/\H p.1=none/\p.1≠X.env.locals/\p.1 ∉ X.fs/\∀ v,p.2.data≠.cell v):Inv X pins' σ H s :=
 ⟨I.ok,I.os,I.bare,I.base,I.loc,I.cell,I.free,I.freeC,fun p hp=>(List.mem_append.mp hp).elim (fun z=>I.pin p (List.mem_append_left _ z)) (h p),I.hok,I.len⟩
theorem yK {N:List Str}(hN:N.Nodup){i j:Nat}{x:Str}(a:N[i]?=some x)(b:N[j]?=some x):i=j:=by
 obtain ⟨h1,e1⟩:=List.getElem?_eq_some_iff.mp a
 obtain ⟨h2,e2⟩:=List.getElem?_eq_some_iff.mp b
 exact (List.getElem_inj hN).mp (e1.trans e2.symm)
theorem uS {M:Model}{A:Around}{E:Value->Shared->Prop}{i:Nat}{x:Str}{v:V}{u:Value}{Q:Unit->Shared->Prop}(I:Inv X pins σ H s)(hN:X.N.Nodup)(hi:X.N[i]?=some x)(hx:Loc X.env.scope x)(r:RelV v u)(h:∀ s',Inv X pins (σ.set i (some v)) H s'->(∃ a,Heap.SameBut a s.heap s'.heap/\(a=X.env.locals\/X.env.cells.lookup x=some a))->Q () s')(hf:X.fn x=true\/X.env.scope.names.lookup x=some .local:=by first | exact .inl rfl | exact .inr rfl | assumption):wpAny M A (storeName X.env x u) Q E s:=by
 obtain ⟨m,hn,hl⟩:=id I.loc
 have hcls:(X.env.scope.kind == .class || (X.env.scope.kind == .module && X.env.locals != X.env.globals))=false:=by rw [I.ok.kind]; rfl
 have hiσ:i < σ.length:=by rw [I.len]; exact (List.getElem?_eq_some_iff.mp hi).1
 have cne:=I.cne
 have tracked:∀ {a:Addr}{h':Heap},(∃ o,s.heap.get? a=some o/\H a=none)->Heap.SameBut a s.heap h'->HOk X.prog X.w H h':=fun {a h'} ha hs b ob e=>by
  obtain ⟨_,_,hfree⟩:=ha
  refine (I.hok b ob e).stay (fun c w' hc q=>(hs.2 c ?_).trans q) (fun _ q=>q) fun _ _ q=>q
  rintro rfl
  rcases hc with rfl | hc
  ·rw [hfree] at e; cases e
  ·rw [hfree] at hc; cases hc
 rcases hx with hk | hk
 ·refine wpAny_storeName_local hk hn (fun h' hn' hs=>?_) hcls
  obtain ⟨oL,_,_,hoL,_⟩:=id hn
  refine h _ ⟨I.ok,I.os,I.bare,⟨fun b o e n hb hx=>?_,fun b o e n hb hx=>?_,I.base.free,fun b o e hx=>?_,I.base.tups,I.base.frzs,I.base.tbls⟩,⟨_,hn',fun j y v' e1 e2 e3=>?_⟩,fun y c e=>?_,I.free,I.freeC,fun p hp=>?_,tracked ⟨oL,hoL,I.free⟩ hs,by simpa using I.len⟩ ⟨_,hs,.inl rfl⟩
  ·exact (hs.2 b (Nat.ne_of_lt (Nat.lt_of_lt_of_le (Heap.lt_size e) I.ok.above))).trans (I.base.keep b o e n hb hx)
  ·obtain ⟨sl,e1⟩:=I.base.slot b o e n hb hx
   exact ⟨sl,(hs.2 b (Nat.ne_of_lt (Nat.lt_of_lt_of_le (Heap.lt_size e) I.ok.above))).trans e1⟩
  ·obtain ⟨o',e1⟩:=I.base.there b o e hx
   exact ⟨o',(hs.2 b (Nat.ne_of_lt (Nat.lt_of_lt_of_le (Heap.lt_size e) I.ok.above))).trans e1⟩
  ·by_cases hj:j=i
   ·subst hj
    rw [hi] at e1; cases e1
    rw [List.getElem?_set_self hiσ] at e2
    cases e2
    exact ⟨u,r,.inl ⟨hk,by simp⟩⟩
   ·rw [List.getElem?_set_ne (Ne.symm hj)] at e2
    obtain ⟨u',r',q⟩:=hl j y v' e1 e2 e3
    refine ⟨u',r',?_⟩
    rcases q with ⟨k,e⟩ | ⟨k,c,e,z⟩
    ·refine .inl ⟨k,?_⟩
     have:y≠x:=fun e=>hj (yK hN e1 (e ▸ hi))
     simp [this,e]
    ·exact .inr ⟨k,c,e,z.sameBut hs (cne y c e)⟩
  ·obtain ⟨w',z⟩:=I.cell y c e
   exact ⟨w',z.sameBut hs (cne y c e)⟩
  ·obtain ⟨e,n,ne,nf,d⟩:=I.pin p hp
   exact ⟨(hs.2 p.1 ne).trans e,n,ne,nf,d⟩
 ·have hfn:X.fn x=true:=by
   rcases hf with z | z
   ·exact z
   ·rw [z] at hk; cases hk
  obtain ⟨c,hc⟩:=I.ok.has x (.inl hk)
  obtain ⟨w',z⟩:=I.cell x c hc
  refine wpAny_storeName_cell I.ok.kind hk hc z (fun h' hc' hs=>?_)
  obtain ⟨oc,hoc,hocd⟩:=id z
  refine h { s with heap:=h' } ⟨I.ok,I.os,I.bare,⟨fun b o e n hb hx=>?_,fun b o e n hb hx=>?_,I.base.free,fun b o e hx=>?_,I.base.tups,I.base.frzs,I.base.tbls⟩,⟨m,hn.sameBut hs (Ne.symm (cne x c hc)),fun j y v' e1 e2 e3=>?_⟩,fun y c' e=>?_,I.free,I.freeC,fun p hp=>?_,tracked ⟨oc,hoc,I.freeC x c hc⟩ hs,by simpa using I.len⟩ ⟨c,hs,.inr hc⟩
  ·exact (hs.2 b (Nat.ne_of_lt (Nat.lt_of_lt_of_le (Heap.lt_size e) (I.ok.cab x c hfn hc)))).trans (I.base.keep b o e n hb hx)
  ·obtain ⟨sl,e1⟩:=I.base.slot b o e n hb hx
   exact ⟨sl,(hs.2 b (Nat.ne_of_lt (Nat.lt_of_lt_of_le (Heap.lt_size e) (I.ok.cab x c hfn hc)))).trans e1⟩
  ·obtain ⟨o',e1⟩:=I.base.there b o e hx
   exact ⟨o',(hs.2 b (Nat.ne_of_lt (Nat.lt_of_lt_of_le (Heap.lt_size e) (I.ok.cab x c hfn hc)))).trans e1⟩
  ·by_cases hj:j=i
   ·subst hj
    rw [hi] at e1; cases e1
    rw [List.getElem?_set_self hiσ] at e2
    cases e2
    exact ⟨u,r,.inr ⟨.inl hk,c,hc,hc'⟩⟩
   ·rw [List.getElem?_set_ne (Ne.symm hj)] at e2
    obtain ⟨u',r',q⟩:=hl j y v' e1 e2 e3
    refine ⟨u',r',?_⟩
    rcases q with q | ⟨k,c',e,z'⟩
    ·exact .inl q
    ·refine .inr ⟨k,c',e,z'.sameBut hs ?_⟩
     rintro rfl
     exact hj (yK hN e1 (I.ok.inj _ _ _ e hc ▸ hi))
  ·by_cases hcc:c'=c
   ·subst hcc; exact ⟨_,hc'⟩
   ·obtain ⟨w2,z2⟩:=I.cell y c' e
    exact ⟨w2,z2.sameBut hs hcc⟩
  ·obtain ⟨e,n,ne,nf,d⟩:=I.pin p hp
   refine ⟨(hs.2 p.1 ?_).trans e,n,ne,nf,d⟩
   intro q
   rw [q,hoc] at e
   have q':oc=p.2:=Option.some.inj e
   exact d w' (by rw [<- q']; exact hocd)
theorem sW {M:Model}{A:Around}{E:Value->Shared->Prop}{i:Nat}{x:Str}{v:V}{u:Value}{Q:Unit->Shared->Prop}(I:Inv X pins σ H s)(hN:X.N.Nodup)(hi:X.N[i]?=some x)(hx:Loc X.env.scope x)(r:RelV v u)(h:∀ s',Inv X pins (σ.set i (some v)) H s'->Q () s')(hf:X.fn x=true\/X.env.scope.names.lookup x=some .local:=by first | exact .inl rfl | exact .inr rfl | assumption):wpAny M A (storeName X.env x u) Q E s :=
 uS I hN hi hx r (fun s' I' _=>h s' I') hf
theorem Inv.call' {s':Shared}{ch:List Addr}(I:Inv X pins σ H s)(ho:s'.os=s.os)(u:Un (frs X.stack) ch H H' s.heap s'.heap)(hok:HOk X.prog X.w H' s'.heap)(hg:AllBare s'.gens)(hch:∀ b∈ch,(b∈X.ex\/X.s₀.heap.objs.size<=b)/\b≠X.env.locals/\(∀ x c,X.env.cells.lookup x=some c->c≠b)/\∀ p∈X.pn++pins,p.1≠b):Inv X pins σ H' s':=by
 obtain ⟨h',g',d',t',o'⟩:=s'
 have e:o'=s.os:=ho
 subst e
 exact I.call (g':=g') (t':=t') (d':=d') u hok hg hch
end
abbrev XK:=Value->Option Addr->Hp->Prop
abbrev St:=List (Option V)
abbrev VK:=V->Hp->Prop
abbrev TE:=St->Hp->VK->Prop
abbrev TT:=St->Hp->(Bool->Hp->Prop)->Prop
abbrev TA:=St->Hp->(List V->Hp->Prop)->Prop
structure Ends where
 nx:St->Hp->Prop
 rt:VK
 bk:St->Hp->Prop:=fun _ _=>False
 ct:St->Hp->Prop:=fun _ _=>False
abbrev TS:=Ends->St->Hp->Prop
def EP (X:Cx)(pins:List (Addr × Obj))(σ:St)(Q:VK)(u:Value)(s':Shared):Prop:=∃ v H',Inv X pins σ H' s'/\RelV v u/\Q v H'
def TP (X:Cx)(pins:List (Addr × Obj))(σ:St)(Q:Bool->Hp->Prop)(b:Bool)(s':Shared):Prop:=∃ H',Inv X pins σ H' s'/\Q b H'
def AP (X:Cx)(pins:List (Addr × Obj))(σ:St)(Q:List V->Hp->Prop)(us:List Value)(s':Shared):Prop:=∃ vs H',Inv X pins σ H' s'/\Vals vs us/\Q vs H'
def SP (X:Cx)(pins:List (Addr × Obj))(D:Ends)(f:Flow)(s':Shared):Prop :=
 match f with
 | .next=>∃ σ' H',Inv X pins σ' H' s'/\D.nx σ' H'
 | .brk=>∃ σ' H',Inv X pins σ' H' s'/\D.bk σ' H'
 | .cont=>∃ σ' H',Inv X pins σ' H' s'/\D.ct σ' H'
 | .ret u=>∃ v σ' H',Inv X pins σ' H' s'/\RelV v u/\D.rt v H'
def PE (X:Cx)(e:Expr)(t:TE):Prop :=
 ∀ (pins:List (Addr × Obj)) (s:Shared) (σ:St) (H:Hp) (Q:VK),Inv X pins σ H s->t σ H Q->wpAny (model X.prog X.w) X.A (eval e X.env) (EP X pins σ Q) X.xe s
def PT (X:Cx)(e:Expr)(t:TT):Prop :=
 ∀ (pins:List (Addr × Obj)) (s:Shared) (σ:St) (H:Hp) (Q:Bool->Hp->Prop),Inv X pins σ H s->t σ H Q->wpAny (model X.prog X.w) X.A (isTrue e X.env (eval e X.env)) (TP X pins σ Q) X.xe s
def PW (X:Cx)(e:Expr)(t:TT):Prop :=
 ∀ (whole:Sem Value) (pins:List (Addr × Obj)) (s:Shared) (σ:St) (H:Hp) (Q:Bool->Hp->Prop),Inv X pins σ H s->t σ H Q->wpAny (model X.prog X.w) X.A (isTrue e X.env whole) (TP X pins σ Q) X.xe s
theorem PW.pt {X:Cx}{e:Expr}{t:TT}(h:PW X e t):PT X e t:=h _
def PA (X:Cx)(es:List Expr)(t:TA):Prop :=
 ∀ (pos:Pos) (pins:List (Addr × Obj)) (s:Shared) (σ:St) (H:Hp) (Q:List V->Hp->Prop),Inv X pins σ H s->t σ H Q->wpAny (model X.prog X.w) X.A (spliced (backTo pos (starEach es X.env))) (AP X pins σ Q) X.xe s
def PS (X:Cx)(st:Stmt)(t:TS):Prop :=
 ∀ (pins:List (Addr × Obj)) (s:Shared) (σ:St) (H:Hp) (D:Ends),Inv X pins σ H s->t D σ H->wpAny (model X.prog X.w) X.A (exec st X.env) (SP X pins D) X.xe s
def PSs (X:Cx)(st:List Stmt)(t:TS):Prop :=
 ∀ (pins:List (Addr × Obj)) (s:Shared) (σ:St) (H:Hp) (D:Ends),Inv X pins σ H s->t D σ H->wpAny (model X.prog X.w) X.A (execs st X.env) (SP X pins D) X.xe s
theorem thn {α:Type}{t:Sem α}{Q Q':α->Shared->Prop}{M:Model}{A:Around}{E:Value->Shared->Prop}{s:Shared}(h:wpAny M A t Q E s)(hQ:∀ a s,Q a s->Q' a s):wpAny M A t Q' E s:=wpAny_mono h hQ fun _ _ x=>x
section
variable {X:Cx}
def BH2 (i:Nat):TE:=fun σ H Q=>∃ v,σ[i]?=some (some v)/\Q v H
def tC (v:V):TE:=fun _ H Q=>Q v H
theorem BC1 {i:Nat}{x:Str}{pos:Pos}(hN:X.N[i]?=some x)(hv:Vis X.env.scope x)(hd:(x == ("__debug__":Str))=false:=by decide)(hcd:(x == ("__classdict__":Str))=false:=by decide):PE X (.Name x pos) (BH2 i):=by
 intro pins s σ H Q I h
 obtain ⟨v,e,h⟩:=h
 obtain ⟨m,hn,hl⟩:=I.loc
 obtain ⟨u,r,l⟩:=hl i x v hN e hv
 have fin:EP X pins σ Q u s:=⟨v,H,I,r,h⟩
 rcases l with ⟨hk,hm⟩ | ⟨hk,c,hc,hcell⟩
 ·exact wpAny_Name (wpAny_loadName_local I.ok.kind hk hn hm fin) hd
 ·rcases hk with hk | hk
  ·exact wpAny_Name (wpAny_loadName_cell I.ok.kind hk hc hcell fin) hd
  ·exact wpAny_Name (wpAny_loadName_free I.ok.kind hk hc hcell fin hcd) hd
theorem aG {i j pos}:PE X (.Constant (.int i) j pos) (tC (.int i)):=fun _ _ _ H _ I h=>wpAny_Constant_int ⟨.int i,H,I.tok _,⟨_,rfl⟩,h⟩
theorem nK {b j pos}:PE X (.Constant (.bool b) j pos) (tC (.bl b)):=fun _ _ _ H _ I h=>Constant_bool ⟨.bl b,H,I,rfl,h⟩
theorem sE {j pos}:PE X (.Constant .none j pos) (tC .non):=fun _ _ _ H _ I h=>Constant_none ⟨.non,H,I,rfl,h⟩
theorem bB {x j pos}:PE X (.Constant (.str x) j pos) (tC (.str x)):=fun _ _ _ H _ I h=>Calls.Constant_str ⟨.str x,H,I.tok _,⟨_,rfl⟩,h⟩
def Gl (X:Cx)(x:Str):Prop:=X.env.kindOf x=some .globalImplicit
theorem pR {E:Value->Shared->Prop}{pins:List (Addr × Obj)}{s:Shared}{σ:St}{H:Hp}{x:Str}{u:Value}{pos:Pos}{Q:Value->Shared->Prop}(I:Inv X pins σ H s)(hg:Gl X x)(hm:X.mg x=some u)(h:Q u s)(hd:(x == ("__debug__":Str))=false:=by decide):wpAny (model X.prog X.w) X.A (eval (.Name x pos) X.env) Q E s :=
 Calls.Name_function_global I.ok.kind hg (Calls.loadGlobal_global (by rw [I.ok.glob]; exact I.mod.glob.keeps I.bk) hm h) hd
theorem sF {E:Value->Shared->Prop}{pins:List (Addr × Obj)}{s:Shared}{σ:St}{H:Hp}{x:Str}{u:Value}{pos:Pos}{Q:Value->Shared->Prop}(I:Inv X pins σ H s)(hg:Gl X x)(hm:X.mg x=none)(hv:bootBuiltins x=some u)(h:Q u s)(hn:x≠"__name__":=by decide)(hd:(x == ("__debug__":Str))=false:=by decide):wpAny (model X.prog X.w) X.A (eval (.Name x pos) X.env) Q E s:=by
 obtain ⟨mb,h1,h2⟩:=I.mod.blt
 exact Calls.Name_function_global I.ok.kind hg (Calls.loadGlobal_builtin (by rw [I.ok.glob]; exact I.mod.glob.keeps I.bk) hm (by rw [I.ok.blt]; exact h1.keeps I.bk) ((h2 x hn).trans hv) h) hd
theorem dU {x:Str}{v:V}{u:Value}{pos:Pos}(hg:Gl X x)(hm:X.mg x=some u)(r:RelV v u)(hd:(x == ("__debug__":Str))=false:=by decide):PE X (.Name x pos) (tC v) :=
 fun _ _ _ H _ I h=>pR I hg hm ⟨v,H,I,r,h⟩ hd
theorem iC {x:Str}{v:V}{u:Value}{pos:Pos}(hg:Gl X x)(hm:X.mg x=none)(hv:bootBuiltins x=some u)(r:RelV v u)(hn:x≠"__name__":=by decide)(hd:(x == ("__debug__":Str))=false:=by decide):PE X (.Name x pos) (tC v) :=
 fun _ _ _ H _ I h=>sF I hg hm hv ⟨v,H,I,r,h⟩ hn hd
variable {a b:Expr}{ta tb:TE}{pos:Pos}
def PC (X:Cx)(op:CmpOp)(a b:Expr)(t:TE):Prop :=
 ∀ (pins:List (Addr × Obj)) (s:Shared) (σ:St) (H:Hp) (Q:VK),Inv X pins σ H s->t σ H Q ->
  wpAny (model X.prog X.w) X.A (eval a X.env) (fun v s₁=>wpAny (model X.prog X.w) X.A (eval b X.env) (fun u s₂=>wpAny (model X.prog X.w) X.A (compareOp op v u) (EP X pins σ Q) X.xe s₂) X.xe s₁) X.xe s
theorem yL (b:Expr){op:CmpOp}(h:op≠.In)(h2:op≠.NotIn):behindInMarks op b=false:=by
 have e1:(op == CmpOp.In)=false:=by cases op <;> first | rfl | exact absurd rfl h
 have e2:(op == CmpOp.NotIn)=false:=by cases op <;> first | rfl | exact absurd rfl h2
 cases b <;> simp [behindInMarks,e1,e2]
def BM1 (ta:TE):TE:=fun σ H Q=>ta σ H fun x H1=>Q (.bl (decide (x=.non))) H1
def BC2 (ta:TE):TE:=fun σ H Q=>ta σ H fun x H1=>Q (.bl (!decide (x=.non))) H1
theorem RelV.none_iff {x:V}{v:Value}(r:RelV x v):(v == Value.none)=decide (x=.non):=by
 cases x with
 | non=>cases r; rfl
 | bl _=>cases r; rfl
 | int _=>obtain ⟨t,rfl⟩:=r; rfl
 | str _=>obtain ⟨t,rfl⟩:=r; rfl
 | byt _=>obtain ⟨t,rfl⟩:=r; rfl
 | flt _=>obtain ⟨t,rfl⟩:=r; rfl
 | ref _=>cases r; rfl
 | ty _=>cases r; rfl
theorem kP {j pos'}(ha:PE X a ta):PC X .Is a (.Constant .none j pos') (BM1 ta):=by
 intro pins s σ H Q I h
 refine thn (ha pins s σ H _ I h) fun v s1 ⟨x,H1,I1,r1,q1⟩=>?_
 exact Constant_none (is_none_gen ⟨.bl _,H1,I1,by rw [r1.none_iff]; rfl,q1⟩)
theorem wK {j pos'}(ha:PE X a ta):PC X .IsNot a (.Constant .none j pos') (BC2 ta):=by
 intro pins s σ H Q I h
 refine thn (ha pins s σ H _ I h) fun v s1 ⟨x,H1,I1,r1,q1⟩=>?_
 exact Constant_none (isnot_none_gen ⟨.bl _,H1,I1,by rw [r1.none_iff]; rfl,q1⟩)
def tB (t:TE):TT:=fun σ H Q=>t σ H fun x H1=>∃ c,x=.bl c/\Q c H1
theorem BC3 {op:CmpOp}{t:TE}(h:PC X op a b t)(h1:behindInMarks op b=false:=by first | exact yL _ (by decide) (by decide) | rfl):PE X (.Compare a [op] [b] pos) t:=fun pins s σ H Q I hw=>wpAny_Compare1 (h pins s σ H Q I hw) h1
theorem iW {op:CmpOp}{t:TE}(h:PC X op a b t)(h1:behindInMarks op b=false:=by first | exact yL _ (by decide) (by decide) | rfl):PT X (.Compare a [op] [b] pos) (tB t):=by
 intro pins s σ H Q I hw
 refine wpAny_isTrue_Compare1 (thn (h pins s σ H _ I hw) fun v s1 h1=>thn h1 fun u s2 h2=>thn h2 fun c s3 ⟨x,H1,I1,r1,q1⟩=>?_) h1
 obtain ⟨d,rfl,q⟩:=q1
 cases r1
 exact wpAny_truthy_bool ⟨H1,I1,q⟩
theorem cD {e:Expr}{t:TE}(h:PE X e t)(he:∀ whole,isTrue e X.env whole=(do let v <- whole; standAt e.pos; holding [v] (truthy v)):=by intro _; rfl):PT X e (tB t):=by
 intro pins s σ H Q I hw
 refine isTrue_plain (thn (h pins s σ H _ I hw) fun v s1 ⟨x,H1,I1,r1,q1⟩=>?_) (he _)
 obtain ⟨d,rfl,q⟩:=q1
 cases r1
 exact wpAny_truthy_bool ⟨H1,I1,q⟩
variable {tA tB':TT}{rK:List Expr}
def BM2 (t u:TT):TT:=fun σ H Q=>t σ H fun c H1=>if c=true then u σ H1 Q else Q false H1
def tOr (t u:TT):TT:=fun σ H Q=>t σ H fun c H1=>if c=true then Q true H1 else u σ H1 Q
def BM3 (t:TT):TT:=fun σ H Q=>t σ H fun c H1=>Q (!c) H1
theorem pS (ha:PT X a tA):PW X (.BoolOp .And [a] pos) tA:=by
 intro wh pins s σ H Q I h
 refine isTrue_and (thn (ha pins s σ H Q I h) fun c s1 e=>?_)
 cases c with
 | true=>exact isTrue_and_nil e
 | false=>exact e
theorem iG (ha:PT X a tA):PW X (.BoolOp .Or [a] pos) tA:=by
 intro wh pins s σ H Q I h
 refine isTrue_or (thn (ha pins s σ H Q I h) fun c s1 e=>?_)
 cases c with
 | false=>exact isTrue_or_nil e
 | true=>exact e
theorem uT (ha:PT X a tA)(hb:PW X (.BoolOp .And (b::rK) pos) tB'):PW X (.BoolOp .And (a::b::rK) pos) (BM2 tA tB'):=by
 intro wh pins s σ H Q I h
 refine isTrue_and (thn (ha pins s σ H _ I h) fun c s1 ⟨H1,I1,q1⟩=>?_)
 cases c with
 | true=>exact hb wh pins s1 σ H1 Q I1 q1
 | false=>exact ⟨H1,I1,q1⟩
theorem jC (ha:PT X a tA)(hb:PW X (.BoolOp .Or (b::rK) pos) tB'):PW X (.BoolOp .Or (a::b::rK) pos) (tOr tA tB'):=by
 intro wh pins s σ H Q I h
 refine isTrue_or (thn (ha pins s σ H _ I h) fun c s1 ⟨H1,I1,q1⟩=>?_)
 cases c with
 | true=>exact ⟨H1,I1,q1⟩
 | false=>exact hb wh pins s1 σ H1 Q I1 q1
theorem dF (ha:PT X a tA):PT X (.UnaryOp .Not a pos) (BM3 tA):=by
 intro pins s σ H Q I h
 exact isTrue_not (ha pins s σ H (fun c H1=>Q (!c) H1) I h)
def BC4 (ta tb:TE):TE:=fun σ H Q=>ta σ H fun x H1=>∃ c,x=.bl c/\if c=true then tb σ H1 Q else Q (.bl false) H1
def BC5 (ta:TE):TE:=fun σ H Q=>ta σ H fun x H1=>∃ c,x=.bl c/\Q (.bl (!c)) H1
theorem sG {op}{t:TE}(h:PE X a t):PE X (.BoolOp op [a] pos) t:=fun pins s σ H Q I hw=>BoolOp_one (h pins s σ H Q I hw)
theorem oO (ha:PE X a ta)(hb:PE X (.BoolOp .And (b::rK) pos) tb):PE X (.BoolOp .And (a::b::rK) pos) (BC4 ta tb):=by
 intro pins s σ H Q I h
 refine BoolOp_and (thn (ha pins s σ H _ I h) fun v s1 ⟨x,H1,I1,r1,q1⟩=>?_)
 obtain ⟨c,rfl,q1⟩:=q1
 cases r1
 refine wpAny_truthy_bool ?_
 cases c with
 | true=>exact hb pins s1 σ H1 Q I1 q1
 | false=>exact ⟨.bl false,H1,I1,rfl,q1⟩
theorem AR5 (ha:PE X a ta):PE X (.UnaryOp .Not a pos) (BC5 ta):=by
 intro pins s σ H Q I h
 refine UnaryOp_ (thn (ha pins s σ H _ I h) fun v s1 ⟨x,H1,I1,r1,q1⟩=>?_)
 obtain ⟨c,rfl,q1⟩:=q1
 cases r1
 exact not_of (wpAny_truthy_bool ⟨.bl (!c),H1,I1,rfl,q1⟩)
def tIf (t:TT)(ta tb:TE):TE:=fun σ H Q=>t σ H fun c H1=>if c=true then ta σ H1 Q else tb σ H1 Q
theorem sX {c:Expr}(hc:PT X c tA)(ha:PE X a ta)(hb:PE X b tb):PE X (.IfExp c a b pos) (tIf tA ta tb):=by
 intro pins s σ H Q I h
 refine wpAny_IfExp (thn (hc pins s σ H _ I h) fun d s1 ⟨H1,I1,q1⟩=>?_)
 cases d with
 | true=>exact ha pins s1 σ H1 Q I1 q1
 | false=>exact hb pins s1 σ H1 Q I1 q1
end
def SqL (K:Frag)(H:Hp)(a:Addr)(xs:List V):Prop :=
 Rd H a (.lst xs) \/
  ∃ (o:Obj) (its:Array Value) (n:Nat),K.lookup a=some o/\o.cls=.type "list"/\o.dict=none/\o.data=.seq its n/\its.size<=sizeLine/\Vals xs its.toList
def SqT (K:Frag)(H:Hp)(a:Addr)(xs:List V):Prop :=
 Rd H a (.tup xs) \/
  ∃ (o:Obj) (its:Array Value) (n:Nat),K.lookup a=some o/\o.cls=.type "tuple"/\o.data=.seq its n/\its.size<=sizeLine/\Vals xs its.toList
def BO2:Value->Option V
 | .none=>some .non
 | .bool b=>some (.bl b)
 | .int i _=>some (.int i)
 | .str x _=>some (.str x)
 | .bytes b _=>some (.byt b)
 | .float b _=>some (.flt b)
 | .ref a=>some (.ref a)
 | .type n=>some (.ty n)
 | _=>none
theorem RelV.abs {x:V}{u:Value}(r:RelV x u):BO2 u=some x:=by
 cases x with
 | non=>cases r; rfl
 | bl _=>cases r; rfl
 | int _=>obtain ⟨t,rfl⟩:=r; rfl
 | str _=>obtain ⟨t,rfl⟩:=r; rfl
 | byt _=>obtain ⟨t,rfl⟩:=r; rfl
 | flt _=>obtain ⟨t,rfl⟩:=r; rfl
 | ref _=>cases r; rfl
 | ty _=>cases r; rfl
theorem RelV.inj {x y:V}{u:Value}(r:RelV x u)(q:RelV y u):x=y:=Option.some.inj (r.abs.symm.trans q.abs)
theorem Vals.inj:∀ {xs ys:List V}{us:List Value},Vals xs us->Vals ys us->xs=ys
 | _,_,_,.nil,.nil=>rfl
 | _,_,_,.cons r t,.cons r' t'=>by rw [r.inj r',Vals.inj t t']
section
variable {X:Cx}{pins:List (Addr × Obj)}{σ:St}{H:Hp}{s:Shared}{a:Addr}{xs ys:List V}
theorem SqL.of {K:Frag}(h:H a=some (.lst xs)):SqL K H a xs:=.inl (.inl h)
theorem SqT.of {K:Frag}(h:H a=some (.tup xs)):SqT K H a xs:=.inl (.inl h)
theorem Inv.list (I:Inv X pins σ H s)(h:SqL X.K H a xs):∃ its:List Value,Vals xs its/\PlainL s.heap a its.toArray/\xs.length<=sizeLine:=by
 rcases h with h | ⟨o,its,n,hk,hc,hd,hs,hz,r⟩
 ·obtain ⟨z,its,n,r,e⟩:=h.ok I.hok
  exact ⟨its,r,⟨_,n,e,rfl,rfl,rfl⟩,z⟩
 ·refine ⟨its.toList,r,⟨o,n,I.kIn a o hk,hc,hd,by simpa using hs⟩,?_⟩
  have e:=r.length
  simp only [Array.length_toList] at e
  omega
theorem Inv.tuple (I:Inv X pins σ H s)(h:SqT X.K H a xs):∃ its:List Value,Vals xs its/\IsTup s.heap a its.toArray/\xs.length<=sizeLine:=by
 rcases h with h | ⟨o,its,n,hk,hc,hs,hz,r⟩
 ·obtain ⟨z,its,r,p⟩:=h.ok I.hok
  exact ⟨its,r,p,z⟩
 ·refine ⟨its.toList,r,⟨o,I.kIn a o hk,hc,n,by simpa using hs⟩,?_⟩
  have e:=r.length
  simp only [Array.length_toList] at e
  omega
theorem Inv.list_inj (I:Inv X pins σ H s)(h:SqL X.K H a xs)(h':SqL X.K H a ys):xs=ys:=by
 obtain ⟨its,r,⟨o,n,e,_,_,d⟩,_⟩:=I.list h
 obtain ⟨its',r',⟨o',n',e',_,_,d'⟩,_⟩:=I.list h'
 rw [e] at e'; cases e'
 rw [d] at d'
 injection d' with d1 _
 have:its=its':=by simpa using congrArg Array.toList d1
 subst this
 exact r.inj r'
theorem Inv.tuple_inj (I:Inv X pins σ H s)(h:SqT X.K H a xs)(h':SqT X.K H a ys):xs=ys:=by
 obtain ⟨its,r,⟨o,e,_,n,d⟩,_⟩:=I.tuple h
 obtain ⟨its',r',⟨o',e',_,n',d'⟩,_⟩:=I.tuple h'
 rw [e] at e'; cases e'
 rw [d] at d'
 injection d' with d1 _
 have:its=its':=by simpa using congrArg Array.toList d1
 subst this
 exact r.inj r'
end
abbrev Cx.wish (X:Cx)(E:Value->Shared->Prop):Cx:={ X with xe:=E }
abbrev Cx.nox (X:Cx):Cx:=X.wish fun _ _=>False
theorem Cx.Ok.wish {X:Cx}(ok:X.Ok)(E:Value->Shared->Prop):(X.wish E).Ok :=
 ⟨ok.mod,ok.kind,ok.glob,ok.blt,ok.above,ok.inj,ok.has,ok.cab,ok.hd,ok.frames,ok.stk,ok.exf,ok.bs,ok.bsz,ok.noex,ok.exfs,ok.funs,ok.frf⟩
theorem Cx.Ok.unwish {X:Cx}{E:Value->Shared->Prop}(ok:(X.wish E).Ok):X.Ok :=
 ⟨ok.mod,ok.kind,ok.glob,ok.blt,ok.above,ok.inj,ok.has,ok.cab,ok.hd,ok.frames,ok.stk,ok.exf,ok.bs,ok.bsz,ok.noex,ok.exfs,ok.funs,ok.frf⟩
section
variable {X:Cx}{pins:List (Addr × Obj)}{σ:St}{H:Hp}{s:Shared}{E:Value->Shared->Prop}
theorem Inv.wish (I:Inv X pins σ H s)(E:Value->Shared->Prop):Inv (X.wish E) pins σ H s:=⟨I.ok.wish E,I.os,I.bare,I.base,I.loc,I.cell,I.free,I.freeC,I.pin,I.hok,I.len⟩
theorem Inv.unwish (I:Inv (X.wish E) pins σ H s):Inv X pins σ H s:=⟨I.ok.unwish,I.os,I.bare,I.base,I.loc,I.cell,I.free,I.freeC,I.pin,I.hok,I.len⟩
theorem SP.unwish {D:Ends}{f:Flow}{s':Shared}(h:SP (X.wish E) pins D f s'):SP X pins D f s':=by
 cases f with
 | next=>obtain ⟨σ',H',I,q⟩:=h; exact ⟨σ',H',I.unwish,q⟩
 | brk=>obtain ⟨σ',H',I,q⟩:=h; exact ⟨σ',H',I.unwish,q⟩
 | cont=>obtain ⟨σ',H',I,q⟩:=h; exact ⟨σ',H',I.unwish,q⟩
 | ret u=>obtain ⟨v,σ',H',I,r,q⟩:=h; exact ⟨v,σ',H',I.unwish,r,q⟩
theorem PSs.nox {st:List Stmt}{t:TS}(h:PSs X.nox st t):PSs X st t:=fun pins s σ H D I hw =>
 wpAny_mono (h pins s σ H D (I.wish _) hw) (fun _ _ q=>q.unwish) fun _ _ z=>False.elim z
end
section
variable {X:Cx}{st:Stmt}{rK:List Stmt}{t u:TS}{e:Expr}{te:TE}{pos:Pos}
def AL9:TS:=fun D σ H=>D.nx σ H
def BH3 (t u:TS):TS:=fun D σ H=>t { D with nx:=u D } σ H
theorem AU1:PSs X [] AL9:=fun _ _ σ H _ I h=>wpAny_execs_nil ⟨σ,H,I,h⟩
theorem AM0 (h1:PS X st t)(h2:PSs X rK u):PSs X (st::rK) (BH3 t u):=by
 intro pins s σ H D I h
 refine wpAny_execs_cons (thn (h1 pins s σ H { D with nx:=u D } I h) fun f s1 q=>?_)
 cases f with
 | next =>
  obtain ⟨σ',H',I',q⟩:=q
  exact h2 pins s1 σ' H' D I' q
 | ret v=>exact q
 | brk=>exact q
 | cont=>exact q
theorem AU2 (h1:PS X st t):PSs X [st] t:=by
 intro pins s σ H D I h
 refine wpAny_execs_cons (thn (h1 pins s σ H D I h) fun f s1 q=>?_)
 cases f with
 | next=>exact wpAny_execs_nil q
 | ret v=>exact q
 | brk=>exact q
 | cont=>exact q
theorem AU3:PS X (.Pass pos) AL9:=fun _ _ σ H _ I h=>wpAny_Pass ⟨σ,H,I,h⟩
theorem Inv.quiet {pins:List (Addr × Obj)}{σ:St}{H:Hp}{s:Shared}(I:Inv X pins σ H s):interactive X.env=false:=by simp [interactive,I.ok.kind]
def BC6 (te:TE):TS:=fun D σ H=>te σ H fun _ H1=>D.nx σ H1
theorem cE (he:PE X e te)(hs:swapsWith e none pos.line X.env=pure false:=by rfl):PS X (.Expr e pos) (BC6 te):=by
 intro pins s σ H D I h
 exact wpAny_Expr_any (thn (he pins s σ H _ I h) fun v s1 ⟨x,H1,I1,r1,q1⟩=>⟨σ,H1,I1,q1⟩) I.quiet hs
def BH0 (te:TE):TS:=fun D σ H=>te σ H D.rt
theorem BC7 (he:PE X e te):PS X (.Return (some e) pos) (BH0 te):=by
 intro pins s σ H D I h
 exact wpAny_Return_some (thn (he pins s σ H _ I h) fun v s1 ⟨x,H1,I1,r1,q1⟩=>⟨x,σ,H1,I1,r1,q1⟩)
def BC8:TS:=fun D _ H=>D.rt .non H
theorem AC2:PS X (.Return none pos) BC8:=fun _ _ σ H _ I h=>wpAny_Return_none ⟨.non,σ,H,I,rfl,h⟩
def BH4 (c:TT)(t u:TS):TS:=fun D σ H=>c σ H fun b H1=>if b=true then t D σ H1 else u D σ H1
theorem BH5 {c:Expr}{a b:List Stmt}{tc:TT}(hc:PT X c tc)(ha:PSs X a t)(hb:PSs X b u):PS X (.If c a b pos) (BH4 tc t u):=by
 intro pins s σ H D I h
 refine wpAny_If (thn (hc pins s σ H _ I h) fun d s1 ⟨H1,I1,q1⟩=>?_)
 cases d with
 | true=>exact ha pins s1 σ H1 D I1 q1
 | false=>exact hb pins s1 σ H1 D I1 q1
def AR6:TS:=fun _ _ _=>False
theorem bO {sts:List Stmt}:PSs X sts AR6:=fun _ _ _ _ _ _ h=>h.elim
end
abbrev TG:=V->St->Hp->(St->Hp->Prop)->Prop
abbrev TGs:=List V->St->Hp->(St->Hp->Prop)->Prop
def PG (X:Cx)(target:Expr)(t:TG):Prop :=
 ∀ (pins:List (Addr × Obj)) (s:Shared) (σ:St) (H:Hp) (v:V) (u:Value) (Q:St->Hp->Prop),Inv X pins σ H s->RelV v u->t v σ H Q ->
  wpAny (model X.prog X.w) X.A (assign target X.env u) (fun _ s'=>∃ σ' H',Inv X pins σ' H' s'/\Q σ' H') X.xe s
def PGs (X:Cx)(ts:List Expr)(t:TGs):Prop :=
 ∀ (pins:List (Addr × Obj)) (s:Shared) (σ:St) (H:Hp) (vs:List V) (us:List Value) (Q:St->Hp->Prop),Inv X pins σ H s->Vals vs us->t vs σ H Q ->
  wpAny (model X.prog X.w) X.A (assignInOrder ((assignEach ts X.env).map (·.2)) us) (fun _ s'=>∃ σ' H',Inv X pins σ' H' s'/\Q σ' H') X.xe s
abbrev BC9:=V->V->V->Hp->(Hp->Prop)->Prop
def BH6 (X:Cx)(t:BC9):Prop :=
 ∀ (pins:List (Addr × Obj)) (s:Shared) (σ:St) (H:Hp) (o i v:V) (ov iv u:Value) (Q:Hp->Prop),Inv X pins σ H s->RelV o ov->RelV i iv->RelV v u->t o i v H Q ->
  wpAny (model X.prog X.w) X.A (setItem ov iv u) (fun _ s'=>∃ H',Inv X pins σ H' s'/\Q H') X.xe s
abbrev TIp:=V->V->Hp->VK->Prop
def PIp (X:Cx)(op:Operator)(t:TIp):Prop :=
 ∀ (pins:List (Addr × Obj)) (s:Shared) (σ:St) (H:Hp) (x y:V) (v u:Value) (Q:VK),Inv X pins σ H s->RelV x v->RelV y u->t x y H Q ->
  wpAny (model X.prog X.w) X.A (inplaceOp op v u) (EP X pins σ Q) X.xe s
section
variable {X:Cx}{pos:Pos}
def zP (i:Nat):TG:=fun v σ H Q=>Q (σ.set i (some v)) H
theorem bC {i:Nat}{x:Str}(hN:X.N.Nodup)(hi:X.N[i]?=some x)(hx:Loc X.env.scope x)(hf:X.fn x=true\/X.env.scope.names.lookup x=some .local:=by first | exact .inl rfl | exact .inr rfl | assumption):PG X (.Name x pos) (zP i):=by
 intro pins s σ H v u Q I r h
 exact wpAny_assign_Name (sW I hN hi hx r (fun s' I'=>⟨_,H,I',h⟩) hf)
def BM4:TGs:=fun vs σ H Q=>vs=[]/\Q σ H
def BD0 (t:TG)(u:TGs):TGs:=fun vs σ H Q=>∃ v r,vs=v::r/\t v σ H fun σ' H'=>u r σ' H' Q
theorem AC3:PGs X [] BM4:=by
 intro pins s σ H vs us Q I r h
 obtain ⟨e,h⟩:=h
 subst e
 cases r
 exact assignInOrder_nil ⟨σ,H,I,h⟩
theorem pN {e:Expr}{es:List Expr}{t:TG}{u:TGs}(h1:PG X e t)(h2:PGs X es u)(hs:(assignEach (e::es) X.env).map (·.2)=assign e X.env::(assignEach es X.env).map (·.2):=by rfl):PGs X (e::es) (BD0 t u):=by
 intro pins s σ H vs us Q I r h
 obtain ⟨v,vr,e1,h⟩:=h
 subst e1
 cases r with
 | cons r rr =>
  rw [hs]
  refine assignInOrder_cons (thn (h1 pins s σ H _ _ _ I r h) fun _ s1 ⟨σ1,H1,I1,q1⟩=>?_)
  exact h2 pins s1 σ1 H1 _ _ Q I1 rr q1
def BH7 (K:Frag)(n:Nat)(t:TGs):TG:=fun v σ H Q=>∃ a xs,v=.ref a/\SqT K H a xs/\xs.length=n/\t xs σ H Q
theorem AR7 {es:List Expr}{k:Nat}{t:TGs}{n:Nat}(hc:X.calm=true)(h:PGs X es t)(hn:(assignEach es X.env).length=n:=by rfl)(hst:(assignEach es X.env).findIdx? (·.1)=none:=by rfl):PG X (.Tuple es k pos) (BH7 X.K n t):=by
 intro pins s σ H v u Q I r hw
 obtain ⟨a,xs,e1,hq,hl,hw⟩:=hw
 subst e1
 cases r
 obtain ⟨its,rv,ht,hz⟩:=I.tuple hq
 refine assign_Tuple_tuple (I.ok.hd hc) ht (by simp [hn,<- hl,rv.length]) hst fun h' hx=>?_
 have I1:Inv X pins σ H { s with heap:=h' }:=I.kept (t':=s.toks) fun b o e=>hx b o (Nat.ne_of_lt (Heap.lt_size e)) e
 exact h pins _ σ H xs _ Q I1 (by simpa using rv) hw
def BM5 (to ti:TE)(t:BC9):TG:=fun v σ H Q=>to σ H fun o H1=>ti σ H1 fun i H2=>t o i v H2 fun H3=>Q σ H3
theorem uU {o i:Expr}{to ti:TE}{t:BC9}(ho:PE X o to)(hi:PE X i ti)(hs:BH6 X t)(ha:∀ v,assign (.Subscript o i pos) X.env v=(do
   let ov <- holding [v] (eval o X.env)
   let iv <- holding [v,ov] (eval i X.env)
   standAt pos
   holding [v,ov,iv] (setItem ov iv v)
   release [v,ov,iv] []):=by intro _; rfl):PG X (.Subscript o i pos) (BM5 to ti t):=by
 intro pins s σ H v u Q I r h
 rw [ha]
 refine wpAny_bind (wpAny_holding (thn (ho pins s σ H _ I h) fun ov s1 ⟨x,H1,I1,r1,q1⟩=>?_))
 refine wpAny_bind (wpAny_holding (thn (hi pins s1 σ H1 _ I1 q1) fun iv s2 ⟨y,H2,I2,r2,q2⟩=>?_))
 refine wpAny_bind (wpAny_standAt (wpAny_bind (wpAny_holding (thn (hs pins s2 σ H2 x y v ov iv u _ I2 r1 r2 r q2) fun _ s3 ⟨H3,I3,q3⟩=>?_))))
 exact wpAny_release ⟨σ,H3,I3,q3⟩
def BA7 (te:TE)(g:TG):TS:=fun D σ H=>te σ H fun x H1=>g x σ H1 D.nx
theorem uV {tg e:Expr}{te:TE}{g:TG}(he:PE X e te)(hg:PG X tg g)(hs:swapsWithSole [tg] e pos.line X.env=pure false:=by rfl)(hw:swappedStores [tg] e X.env=pure none:=by rfl)(h1:(assignEach [tg] X.env).map (·.2)=[assign tg X.env]:=by rfl):PS X (.Assign [tg] e pos) (BA7 te g):=by
 intro pins s σ H D I h
 refine wpAny_Assign_stores (thn (he pins s σ H _ I h) fun v s1 ⟨x,H1,I1,r1,q1⟩=>?_) hs hw
 rw [h1]
 exact thn (hg pins s1 σ H1 x v _ I1 r1 q1) fun _ s2 q=>q
theorem BD1 {i:Nat}{x:Str}{e:Expr}{te:TE}{pos':Pos}(hN:X.N.Nodup)(hi:X.N[i]?=some x)(hx:Loc X.env.scope x)(he:PE X e te)(hs:swapsWith e (some (.Name x pos')) pos.line X.env=pure false:=by rfl)(hf:X.fn x=true\/X.env.scope.names.lookup x=some .local:=by first | exact .inl rfl | exact .inr rfl | assumption) :
  PS X (.Assign [.Name x pos'] e pos) (BA7 te (zP i)):=by
 intro pins s σ H D I h
 refine wpAny_Assign_Name (thn (he pins s σ H _ I h) fun v s1 ⟨y,H1,I1,r1,q1⟩=>?_) hs
 exact sW I1 hN hi hx r1 (fun s2 I2=>⟨_,H1,I2,q1⟩) hf
def BM6 (i:Nat)(te:TE)(ti:TIp):TS:=fun D σ H=>∃ x,σ[i]?=some (some x)/\te σ H fun y H1=>ti x y H1 fun z H2=>D.nx (σ.set i (some z)) H2
theorem BD2 {i:Nat}{x:Str}{e:Expr}{te:TE}{op:Operator}{ti:TIp}{pos':Pos}(hN:X.N.Nodup)(hi:X.N[i]?=some x)(hx:Loc X.env.scope x)(he:PE X e te)(ho:PIp X op ti)(hf:X.fn x=true\/X.env.scope.names.lookup x=some .local:=by first | exact .inl rfl | exact .inr rfl | assumption) :
  PS X (.AugAssign (.Name x pos') op e pos) (BM6 i te ti):=by
 intro pins s σ H D I h
 obtain ⟨v,e1,h⟩:=h
 obtain ⟨m,hn,hl⟩:=I.loc
 have vis:Vis X.env.scope x:=by rcases hx with k | k; exact .inl k; exact .inr (.inl k)
 obtain ⟨u,r,l⟩:=hl i x v hi e1 vis
 refine wpAny_AugAssign_Name ?_
 have go:wpAny (model X.prog X.w) X.A (eval e X.env) (fun w s₂=>wpAny (model X.prog X.w) X.A (inplaceOp op u w) (fun r s₃=>wpAny (model X.prog X.w) X.A (storeName X.env x r) (fun _=>SP X pins D .next) X.xe s₃) X.xe s₂) X.xe s:=by
  refine thn (he pins s σ H _ I h) fun w s1 ⟨y,H1,I1,r1,q1⟩=>?_
  refine thn (ho pins s1 σ H1 v y u w _ I1 r r1 q1) fun z s2 ⟨zv,H2,I2,r2,q2⟩=>?_
  exact sW I2 hN hi hx r2 (fun s3 I3=>⟨_,H2,I3,q2⟩) hf
 rcases l with ⟨hk,hm⟩ | ⟨hk,c,hc,hcell⟩
 ·exact wpAny_loadName_local I.ok.kind hk hn hm go
 ·rcases hk with hk | hk
  ·exact wpAny_loadName_cell I.ok.kind hk hc hcell go
  ·rcases hx with k | k
   ·have:X.env.scope.names.lookup x=some .free:=hk
    rw [k] at this; cases this
   ·have:X.env.scope.names.lookup x=some .free:=hk
    rw [k] at this; cases this
end
section
variable {X:Cx}{pos:Pos}
def BD3 (c:TT)(tb:TS):TS:=fun D σ H=>∃ W:Nat->St->Hp->Prop,(∃ m,W m σ H)/\∀ m σ H,W m σ H ->
 c σ H fun b H1=>if b=true then ∃ N:St->Hp->Prop,(∀ σ' H',N σ' H'->∃ m',m' < m/\W m' σ' H')/\tb { D with nx:=N,ct:=N,bk:=D.nx } σ H1 else D.nx σ H1
theorem yM {c:Expr}{body:List Stmt}{tc:TT}{tb:TS}(hp:PassesOwn (model X.prog X.w) X.A X.env X.xe)(hc:PT X c tc)(hb:PSs X body tb):PS X (.While c body [] pos) (BD3 tc tb):=by
 intro pins s σ H D I h
 obtain ⟨W,⟨m0,w0⟩,turn⟩:=h
 refine wpAny_While (codeAny_whileLoop (fun n s'=>∃ σ' H',Inv X pins σ' H' s'/\W n σ' H') ?_ m0 ⟨σ,H,I,w0⟩)
 rintro n s1 ⟨σ1,H1,I1,w1⟩
 refine wpAny_passesOwn hp (thn (hc pins s1 σ1 H1 _ I1 (turn n σ1 H1 w1)) fun b s2 ⟨H2,I2,q2⟩=>?_)
 cases b with
 | true =>
  obtain ⟨N,hN,q2⟩:=q2
  rw [if_pos rfl]
  refine wpAny_passesOwn hp (thn (hb pins s2 σ1 H2 _ I2 q2) fun f s3 q3=>?_)
  cases f with
  | next =>
   obtain ⟨σ3,H3,I3,n3⟩:=q3
   obtain ⟨m',hm,w3⟩:=hN σ3 H3 n3
   exact ⟨m',hm,σ3,H3,I3,w3⟩
  | cont =>
   obtain ⟨σ3,H3,I3,n3⟩:=q3
   obtain ⟨m',hm,w3⟩:=hN σ3 H3 n3
   exact ⟨m',hm,σ3,H3,I3,w3⟩
  | brk=>exact q3
  | ret v=>exact q3
 | false =>
  rw [if_neg Bool.false_ne_true]
  exact wpAny_execs_nil ⟨σ1,H2,I2,q2⟩
end
structure It where
 go:Nat->Hp->Prop
 yld:Nat->Hp->V->Hp->Prop
 stop:Nat->Hp->Prop
def AL5 (X:Cx)(pins:List (Addr × Obj))(H:Hp)(b:Addr):Prop :=
 H b=none/\b≠X.env.locals/\b ∉ X.fs/\(b∈X.ex\/X.s₀.heap.objs.size<=b)/\(∀ x c,X.env.cells.lookup x=some c->c≠b)/\∀ p∈X.pn++pins,p.1≠b
theorem Inv.fpOk {X:Cx}{pins:List (Addr × Obj)}{σ:St}{H H':Hp}{s:Shared}{b:Addr}(I:Inv X pins σ H s)(hb:s.heap.objs.size<=b)(hn:H' b=none):AL5 X pins H' b:=by
 refine ⟨hn,Nat.ne_of_gt (Nat.lt_of_lt_of_le I.lt hb),I.nofs hb,.inr (Nat.le_trans I.sz hb),fun x c e z=>?_,fun p hp z=>?_⟩
 ·obtain ⟨v,q⟩:=I.cell x c e
  exact absurd (Nat.lt_of_lt_of_le q.lt (by rw [z]; exact hb)) (Nat.lt_irrefl _)
 ·exact absurd (Nat.lt_of_lt_of_le (Heap.lt_size (I.pin p hp).1) (by rw [z]; exact hb)) (Nat.lt_irrefl _)
structure Turn (P:Program) (w:World) (K:Frag) (tg:Expr) (J:It) (fp:List Addr) (it:Addr) (tn:Nat->Heap->Prop):Prop where
 mem:it∈fp
 obj:∀ i h,tn i h->∀ b∈fp,∃ o,h.get? b=some o/\∀ v,o.data≠.cell v
 keep:∀ i h h',tn i h->(∀ b∈fp,∀ o,h.get? b=some o->h'.get? b=some o)->tn i h'
 item:∀ (X:Cx),X.prog=P->X.w=w->X.K=K->X.calm=true->∀ (i:Nat) (pins:List (Addr × Obj)) (s:Shared) (σ:St) (H:Hp) (E:Value->Shared->Prop),Inv X pins σ H s->(∀ b∈fp,AL5 X pins H b)->tn i s.heap->J.go i H ->
  wpAny (model P w) X.A (pyNext (.ref it)) (fun r s1=>∃ u,r=some u /\
   wpAny (model P w) X.A (letOwnedTupleGo tg (.ref it) u) (fun _ s2=>∃ x H',Inv X pins σ H' s2/\RelV x u/\J.yld i H x H'/\tn (i+1) s2.heap/\∀ b∈fp,H' b=none) E s1) E s
 done:∀ (X:Cx),X.prog=P->X.w=w->X.K=K->X.calm=true->∀ (i:Nat) (pins:List (Addr × Obj)) (s:Shared) (σ:St) (H:Hp) (E:Value->Shared->Prop),Inv X pins σ H s->(∀ b∈fp,AL5 X pins H b)->tn i s.heap->J.stop i H ->
  wpAny (model P w) X.A (pyNext (.ref it)) (fun r s1=>r=none/\Inv X pins σ H s1) E s
 self:∀ (A:Around) (i:Nat) (s:Shared) (Q:Value->Shared->Prop) (E:Value->Shared->Prop),tn i s.heap->Q (.ref it) s->wpAny (model P w) A (pyIter (.ref it)) Q E s
abbrev TI:=St->Hp->(It->Hp->Prop)->Prop
def PIE (X:Cx)(pins:List (Addr × Obj))(σ:St)(tg:Expr)(R:It->Hp->Prop)(itv:Value)(s2:Shared):Prop :=
 ∃ (it:Addr) (fp:List Addr) (tn:Nat->Heap->Prop) (J:It) (H':Hp),itv=.ref it/\Inv X pins σ H' s2/\Turn X.prog X.w X.K tg J fp it tn/\tn 0 s2.heap/\(∀ b∈fp,AL5 X pins H' b)/\R J H'
def PI (X:Cx)(tg iter:Expr)(wi:TI):Prop :=
 ∀ (pins:List (Addr × Obj)) (s:Shared) (σ:St) (H:Hp) (R:It->Hp->Prop),Inv X pins σ H s->wi σ H R ->
  wpAny (model X.prog X.w) X.A (eval iter X.env) (fun v s1=>wpAny (model X.prog X.w) X.A (pyIter v) (PIE X pins σ tg R) X.xe s1) X.xe s
theorem AM1 {M:Model}{A:Around}{E:Value->Shared->Prop}{s:Shared}{tg:Expr}{it:Addr}{u:Value}{o:Obj}{n:String}{vs:Array Value}{Q:Unit->Shared->Prop}(ho:s.heap.get? it=some o)(hc:o.cls=.type n)(hd:o.data=.fields vs)(hn:["enumerate","zip","dict_itemiterator","dict_reverseitemiterator","odict_iterator","itertools.zip_longest","itertools.pairwise"].contains n=false)(hQ:Q () s):wpAny M A (letOwnedTupleGo tg (.ref it) u) Q E s:=by
  unfold letOwnedTupleGo
  cases tg <;> first
    | exact wpAny_pure hQ
    | (cases u <;> first
        | exact wpAny_pure hQ
        | (refine wpAny_bind (wpAny_load ho ?_)
           rw [hc,hd]
           show wpAny M A (if (["enumerate","zip","dict_itemiterator","dict_reverseitemiterator","odict_iterator","itertools.zip_longest","itertools.pairwise"].contains n && vs[0]? == some (rawInt _))=true then _ else _) Q E s
           rw [if_neg (by intro h; rw [hn,Bool.false_and] at h; cases h)]
           exact wpAny_pure hQ))
def Itl (K:Frag)(a:Addr):It :=
 ⟨fun i H=>∃ xs x,SqL K H a xs/\xs[i]?=some x,fun i H x H'=>H'=H/\∀ xs,SqL K H a xs->xs[i]?=some x,fun i H=>∃ xs,SqL K H a xs/\xs.length<=i⟩
def Itt (K:Frag)(a:Addr):It :=
 ⟨fun i H=>∃ xs x,SqT K H a xs/\xs[i]?=some x,fun i H x H'=>H'=H/\∀ xs,SqT K H a xs->xs[i]?=some x,fun i H=>∃ xs,SqT K H a xs/\xs.length<=i⟩
def Itr (lo:Int)(n:Nat):It:=⟨fun i _=>i < n,fun i H x H'=>H'=H/\x=.int (lo+i),fun i _=>n<=i⟩
theorem AC4 {P:Program}{w:World}{K:Frag}{tg:Expr}(a it:Addr):Turn P w K tg (Itl K a) [it] it (fun i h=>h.IsListIter it a i) where
 mem:=by simp
 obj:=fun i h st b hb=>by
  have e:b=it:=by simpa using hb
  subst e
  obtain ⟨o,e,c,d⟩:=st
  exact ⟨o,e,fun v z=>by rw [d] at z; cases z⟩
 keep:=fun i h h' st k=>st.at fun o e=>k it (by simp) o e
 item:=by
  intro X hP hw hK hc i pins s σ H E I hf st hg
  subst hP hw hK
  obtain ⟨xs,x,hq,hx⟩:=hg
  obtain ⟨its,rv,p,hz⟩:=I.list hq
  obtain ⟨u,hu,ru⟩:=rv.get hx
  obtain ⟨f0,f1,f2,f3,f4,f5⟩:=hf it (by simp)
  refine wpAny_pyNext_list_item st p.isList (x:=u) (by simpa using hu) fun h' st' sb=>?_
  have I1:Inv X pins σ H { s with heap:=h' }:=I.turned (t':=s.toks) (fun b o hb e=>(sb.2 b hb).trans e) f0 f1 f3 f4 f5
  obtain ⟨o,e,c,d⟩:=id st'
  exact ⟨u,rfl,AM1 (s:={ s with heap:=h' }) e c d (by decide) ⟨x,H,I1,ru,⟨rfl,fun ys hy=>by rw [I.list_inj hy hq]; exact hx⟩,st',fun b hb=>(hf b hb).1⟩⟩
 done:=by
  intro X hP hw hK hc i pins s σ H E I hf st hg
  subst hP hw hK
  obtain ⟨xs,hq,hx⟩:=hg
  obtain ⟨its,rv,p,hz⟩:=I.list hq
  obtain ⟨f0,f1,f2,f3,f4,f5⟩:=hf it (by simp)
  have hl:=rv.length
  exact wpAny_pyNext_list_end (I.ok.hd hc) st p.isList (by simp; omega) fun h' eb=>⟨rfl,I.turned (t':=s.toks) (fun b o hb e=>eb b o hb e) f0 f1 f3 f4 f5⟩
 self:=fun _ _ _ _ _ st h=>wpAny_pyIter_listiter st h
theorem zQ {P:Program}{w:World}{K:Frag}{tg:Expr}(a it:Addr):Turn P w K tg (Itt K a) [it] it (fun i h=>h.IsTupleIter it a i) where
 mem:=by simp
 obj:=fun i h st b hb=>by
  have e:b=it:=by simpa using hb
  subst e
  obtain ⟨o,e,c,d⟩:=st
  exact ⟨o,e,fun v z=>by rw [d] at z; cases z⟩
 keep:=fun i h h' st k=>st.at fun o e=>k it (by simp) o e
 item:=by
  intro X hP hw hK hc i pins s σ H E I hf st hg
  subst hP hw hK
  obtain ⟨xs,x,hq,hx⟩:=hg
  obtain ⟨its,rv,p,hz⟩:=I.tuple hq
  obtain ⟨u,hu,ru⟩:=rv.get hx
  obtain ⟨f0,f1,f2,f3,f4,f5⟩:=hf it (by simp)
  refine wpAny_pyNext_tuple_item st (show s.heap.IsTuple a its.toArray from p) (x:=u) (by simpa using hu) fun h' st' sb=>?_
  have I1:Inv X pins σ H { s with heap:=h' }:=I.turned (t':=s.toks) (fun b o hb e=>(sb.2 b hb).trans e) f0 f1 f3 f4 f5
  obtain ⟨o,e,c,d⟩:=id st'
  exact ⟨u,rfl,AM1 (s:={ s with heap:=h' }) e c d (by decide) ⟨x,H,I1,ru,⟨rfl,fun ys hy=>by rw [I.tuple_inj hy hq]; exact hx⟩,st',fun b hb=>(hf b hb).1⟩⟩
 done:=by
  intro X hP hw hK hc i pins s σ H E I hf st hg
  subst hP hw hK
  obtain ⟨xs,hq,hx⟩:=hg
  obtain ⟨its,rv,p,hz⟩:=I.tuple hq
  obtain ⟨f0,f1,f2,f3,f4,f5⟩:=hf it (by simp)
  have hl:=rv.length
  exact wpAny_pyNext_tuple_end (I.ok.hd hc) st (show s.heap.IsTuple a its.toArray from p) (by simp; omega) fun h' eb=>⟨rfl,I.turned (t':=s.toks) (fun b o hb e=>eb b o hb e) f0 f1 f3 f4 f5⟩
 self:=fun _ _ _ _ _ st h=>wpAny_pyIter_tupleiter st h
theorem zR {P:Program}{w:World}{K:Frag}{tg:Expr}(it:Addr)(lo:Int)(n:Nat):Turn P w K tg (Itr lo n) [it] it (fun i h=>IsRangeIter h it (lo+(i:Nat) * 1) ((n:Int) - (i:Nat)) 1) where
 mem:=by simp
 obj:=fun i h st b hb=>by
  have e:b=it:=by simpa using hb
  subst e
  exact ⟨_,st,fun v z=>by
   have z':Data.fields _=Data.cell v:=z
   cases z'⟩
 keep:=fun i h h' st k=>k it (by simp) _ st
 item:=by
  intro X hP hw hK hc i pins s σ H E I hf st hg
  subst hP hw hK
  obtain ⟨f0,f1,f2,f3,f4,f5⟩:=hf it (by simp)
  have W:=Walks.range (prog:=X.prog) (w:=X.w) (I.ok.hd hc) it lo 1 n
  refine W.item i s _ _ hg st fun v h' tk hv st' kk=>?_
  obtain ⟨t,rfl⟩:=hv
  have I1:Inv X pins σ H { s with heap:=h',toks:=tk }:=I.turned (fun b o hb e=>kk b o (by simpa using hb) e) f0 f1 f3 f4 f5
  refine ⟨_,rfl,AM1 (s:={ s with heap:=h',toks:=tk }) (n:="range_iterator") st' rfl rfl (by decide) ⟨.int (lo+i),H,I1,⟨t,?_⟩,⟨rfl,rfl⟩,st',fun b hb=>(hf b hb).1⟩⟩
  rw [Int.mul_one]
 done:=by
  intro X hP hw hK hc i pins s σ H E I hf st hg
  subst hP hw hK
  obtain ⟨f0,f1,f2,f3,f4,f5⟩:=hf it (by simp)
  exact wpAny_pyNext_range_end (I.ok.hd hc) st (by have:n<=i:=hg; omega) fun h' eb=>⟨rfl,I.turned (t':=s.toks) (fun b o hb e=>eb b o hb e) f0 f1 f3 f4 f5⟩
 self:=fun _ _ _ _ _ st h=>wpAny_pyIter_rangeiter st h
section
variable {X:Cx}{tg:Expr}
def AU4 (K:Frag)(tl:TE):TI:=fun σ H R=>tl σ H fun x H1=>∃ a,x=.ref a/\(∃ xs,SqL K H1 a xs)/\R (Itl K a) H1
def BH8 (K:Frag)(tl:TE):TI:=fun σ H R=>tl σ H fun x H1=>∃ a,x=.ref a/\(∃ xs,SqT K H1 a xs)/\R (Itt K a) H1
theorem cL {l:Expr}{tl:TE}(hl:PE X l tl):PI X tg l (AU4 X.K tl):=by
 intro pins s σ H R I h
 refine thn (hl pins s σ H _ I h) fun v s1 ⟨x,H1,I1,r1,q1⟩=>?_
 obtain ⟨a,e,⟨xs,hq⟩,q⟩:=q1
 subst e
 cases r1
 obtain ⟨its,rv,p,hz⟩:=I1.list hq
 refine wpAny_pyIter_list p.isList ?_
 refine ⟨s1.heap.objs.size,[s1.heap.objs.size],_,_,H1,rfl,I1.kept (t':=s1.toks) fun b o e=>Heap.get?_push_of_some _ e,AC4 a _,⟨_,Heap.get?_push_size _ rfl,rfl,rfl⟩,fun b hb=>?_,q⟩
 have e:b=s1.heap.objs.size:=by simpa using hb
 subst e
 exact I1.fpOk (Nat.le_refl _) (I1.hok.fresh (Nat.le_refl _))
theorem uW {l:Expr}{tl:TE}(hl:PE X l tl):PI X tg l (BH8 X.K tl):=by
 intro pins s σ H R I h
 refine thn (hl pins s σ H _ I h) fun v s1 ⟨x,H1,I1,r1,q1⟩=>?_
 obtain ⟨a,e,⟨xs,hq⟩,q⟩:=q1
 subst e
 cases r1
 obtain ⟨its,rv,p,hz⟩:=I1.tuple hq
 refine wpAny_pyIter_tuple (show s1.heap.IsTuple a its.toArray from p) ?_
 refine ⟨s1.heap.objs.size,[s1.heap.objs.size],_,_,H1,rfl,I1.kept (t':=s1.toks) fun b o e=>Heap.get?_push_of_some _ e,zQ a _,⟨_,Heap.get?_push_size _ rfl,rfl,rfl⟩,fun b hb=>?_,q⟩
 have e:b=s1.heap.objs.size:=by simpa using hb
 subst e
 exact I1.fpOk (Nat.le_refl _) (I1.hok.fresh (Nat.le_refl _))
theorem AM2 {pins:List (Addr × Obj)}{σ:St}{H:Hp}{s:Shared}{R:It->Hp->Prop}{E:Value->Shared->Prop}{lo hi:Int}{t u v:Tok}{tk:Nat}(I:Inv X pins σ H s)(h1:-(2 ^ 62)<=lo)(h2:lo < 2 ^ 62)(h3:-(2 ^ 62)<=hi)(h4:hi < 2 ^ 62)(q:R (Itr lo (hi - lo).toNat) H):wpAny (model X.prog X.w) X.A (pyIter (.ref s.heap.objs.size)) (PIE X pins σ tg R) E { s with heap:=s.heap.push { cls:=.type "range",data:=.fields #[.int lo t,.int hi u,.int 1 v] },toks:=tk }:=by
 refine wpAny_pyIter_range (IsRange.new ..) (small_one h1 h2 h3 h4) ?_
 have I1:Inv X pins σ H { s with heap:=s.heap.push { cls:=.type "range",data:=.fields #[.int lo t,.int hi u,.int 1 v] },toks:=tk }:=I.kept fun b o e=>Heap.get?_push_of_some _ e
 refine ⟨(s.heap.push { cls:=.type "range",data:=.fields #[.int lo t,.int hi u,.int 1 v] }).objs.size,[(s.heap.push { cls:=.type "range",data:=.fields #[.int lo t,.int hi u,.int 1 v] }).objs.size],_,_,H,rfl,
  I1.kept (t':=tk) fun b o e=>Heap.get?_push_of_some _ e,zR _ lo (hi - lo).toNat,?_,fun b hb=>?_,q⟩
 ·have e1:lo+((0:Nat):Int) * 1=lo:=by simp
  have e2:(((hi - lo).toNat:Nat):Int) - ((0:Nat):Int)=Builtin.Range.rangeSize lo hi 1:=by rw [rangeSize_one]; split <;> omega
  show IsRangeIter _ _ (lo+((0:Nat):Int) * 1) ((((hi - lo).toNat:Nat):Int) - ((0:Nat):Int)) 1
  rw [e1,e2]
  exact Heap.get?_push_size _ rfl
 ·have e:b=(s.heap.push { cls:=.type "range",data:=.fields #[.int lo t,.int hi u,.int 1 v] }).objs.size:=by simpa using hb
  subst e
  exact I1.fpOk (Nat.le_refl _) (I1.hok.fresh (Nat.le_refl _))
def AU5 (ta:TA):TI:=fun σ H R=>ta σ H fun vs H1=>∃ j:Int,vs=[.int j]/\-(2 ^ 62)<=j/\j < 2 ^ 62/\R (Itr 0 j.toNat) H1
theorem jD {a:Expr}{ta:TA}{p pos:Pos}(hg:Gl X "range")(hm:X.mg "range"=none)(ha:PA X [a] ta)(hs:starEach [a] X.env=[(false,eval a X.env)]:=by rfl):PI X tg (.Call (.Name "range" p) [a] [] pos) (AU5 ta):=by
 intro pins s σ H R I h
 refine Call_ (sF I hg hm boot_range (PyProof.Rows.callWith_type1 (thn (ha pos pins s σ H _ I h) fun us s1 ⟨vs,H1,I1,r1,q1⟩=>?_) hs rfl))
 obtain ⟨j,e,q1,q2,q⟩:=q1
 subst e
 cases r1 with
 | cons r rr =>
  cases rr
  obtain ⟨t,rfl⟩:=r
  exact call_range_1 (AM2 I1 (by omega) (by omega) q1 q2 (by simpa using q))
def BA8 (wi:TI)(g:TG)(tb:TS):TS:=fun D σ H=>wi σ H fun J H1=>∃ W:Nat->Nat->St->Hp->Prop,(∃ m,W 0 m σ H1)/\∀ i m σ H,W i m σ H ->
 (J.stop i H/\D.nx σ H)\/(J.go i H/\∃ N:St->Hp->Prop,(∀ σ' H',N σ' H'->∃ m',m' < m/\W (i+1) m' σ' H')/\∀ x H',J.yld i H x H'->g x σ H' fun σ2 H2=>tb { D with nx:=N,ct:=N,bk:=D.nx } σ2 H2)
def lY (fp:List Addr)(h:Heap):List (Addr × Obj):=fp.filterMap fun b=>(h.get? b).map fun o=>(b,o)
theorem jT {fp:List Addr}{h:Heap}{b:Addr}{o:Obj}(hb:b∈fp)(e:h.get? b=some o):(b,o)∈lY fp h:=List.mem_filterMap.mpr ⟨b,hb,by rw [e]; rfl⟩
theorem uX {fp:List Addr}{h:Heap}{p:Addr × Obj}(hp:p∈lY fp h):p.1∈fp/\h.get? p.1=some p.2:=by
 obtain ⟨b,hb,e⟩:=List.mem_filterMap.mp hp
 cases q:h.get? b with
 | none=>rw [q] at e; cases e
 | some o =>
  rw [q] at e
  have e':(b,o)=p:=Option.some.inj e
  subst e'
  exact ⟨hb,q⟩
theorem Inv.pinned {pins:List (Addr × Obj)}{σ:St}{H:Hp}{s:Shared}{fp:List Addr}(I:Inv X pins σ H s)(hf:∀ b∈fp,AL5 X pins H b)(ho:∀ b∈fp,∃ o,s.heap.get? b=some o/\∀ v,o.data≠.cell v):Inv X (pins++lY fp s.heap) σ H s :=
 I.pins_of fun p hp=>(List.mem_append.mp hp).elim (fun z=>I.pin p (List.mem_append_right _ z)) fun z=>by
  obtain ⟨hb,e⟩:=uX z
  obtain ⟨f0,f1,f2,_⟩:=hf p.1 hb
  obtain ⟨o,e',d⟩:=ho p.1 hb
  rw [e] at e'; cases e'
  exact ⟨e,f0,f1,f2,d⟩
theorem Inv.unpinned {pins pl:List (Addr × Obj)}{σ:St}{H:Hp}{s:Shared}(I:Inv X (pins++pl) σ H s):Inv X pins σ H s:=I.pins_of fun p hp=>I.pin p (List.mem_append_right _ (List.mem_append_left _ hp))
theorem eM {iter:Expr}{body:List Stmt}{wi:TI}{g:TG}{tb:TS}{pos:Pos}(hp:PassesOwn (model X.prog X.w) X.A X.env X.xe)(hc:X.calm=true)(hi:PI X tg iter wi)(hg:PG X tg g)(hb:PSs X body tb)(hs:∀ x,foldedSetIterable iter X.env x=pure x:=by intro _; rfl):PS X (.For tg iter body [] pos) (BA8 wi g tb):=by
 intro pins s σ H D I h
 refine wpAny_For (thn (hi pins s σ H _ I h) fun v s1 h1=>thn h1 fun itv s2 h2=>?_) hs
 obtain ⟨it,fp,tn,J,H2,e,I2,T,st2,f2,W,⟨m0,w0⟩,turn⟩:=h2
 subst e
 -- what stays true of the iterator's objects through the loop
 have stat:∀ {H':Hp},(∀ b∈fp,H' b=none)->∀ b∈fp,AL5 X pins H' b:=fun hn b hb=>⟨hn b hb,(f2 b hb).2⟩
 refine codeAny_forLoop_any (fun n s'=>∃ i σ' H',Inv X pins σ' H' s'/\tn i s'.heap/\(∀ b∈fp,H' b=none)/\W i n σ' H') ?_ m0 ⟨0,σ,H2,I2,st2,fun b hb=>(f2 b hb).1,w0⟩
 rintro n s3 ⟨i,σ3,H3,I3,st3,fr3,w3⟩
 rcases turn i n σ3 H3 w3 with ⟨stop,qn⟩ | ⟨go,N,hN,step⟩
 ·refine wpAny_passesOwn hp (thn (T.done X rfl rfl rfl hc i pins s3 σ3 H3 X.xe I3 (stat fr3) st3 stop) fun r s4 ⟨hr,I4⟩=>?_)
  subst hr
  exact wpAny_execs_nil ⟨σ3,H3,I4,qn⟩
 ·refine wpAny_passesOwn hp (thn (T.item X rfl rfl rfl hc i pins s3 σ3 H3 X.xe I3 (stat fr3) st3 go) fun r s4 ⟨u,hr,h4⟩=>?_)
  subst hr
  refine wpAny_passesOwn hp (thn h4 fun _ s5 ⟨x,H5,I5,r5,y5,st5,fr5⟩=>?_)
  have I5':=I5.pinned (stat fr5) (T.obj _ _ st5)
  refine wpAny_passesOwn hp (thn (hg _ s5 σ3 H5 x u _ I5' r5 (step x H5 y5)) fun _ s6 ⟨σ6,H6,I6,q6⟩=>?_)
  refine wpAny_passesOwn hp (thn (hb _ s6 σ6 H6 _ I6 q6) fun f s7 q7=>?_)
  have again:∀ {σ7:St}{H7:Hp},Inv X (pins++lY fp s5.heap) σ7 H7 s7->N σ7 H7->∃ m,m < n/\∃ i σ' H',Inv X pins σ' H' s7/\tn i s7.heap/\(∀ b∈fp,H' b=none)/\W i m σ' H':=fun {σ7 H7} I7 n7=>by
   obtain ⟨m',hm,w7⟩:=hN σ7 H7 n7
   refine ⟨m',hm,i+1,σ7,H7,I7.unpinned,T.keep _ _ _ st5 fun b hb o e=>(I7.pin (b,o) (List.mem_append_right _ (List.mem_append_right _ (jT hb e)))).1,fun b hb=>?_,w7⟩
   obtain ⟨o,e,d⟩:=T.obj _ _ st5 b hb
   exact (I7.pin (b,o) (List.mem_append_right _ (List.mem_append_right _ (jT hb e)))).2.1
  cases f with
  | next=>obtain ⟨σ7,H7,I7,n7⟩:=q7; exact again I7 n7
  | cont=>obtain ⟨σ7,H7,I7,n7⟩:=q7; exact again I7 n7
  | brk=>obtain ⟨σ7,H7,I7,q7⟩:=q7; exact ⟨σ7,H7,I7.unpinned,q7⟩
  | ret v=>obtain ⟨x7,σ7,H7,I7,r7,q7⟩:=q7; exact ⟨x7,σ7,H7,I7.unpinned,r7,q7⟩
end
theorem AM3 {K:Frag}{a:Addr}{xs:List V}{g:TG}{tb:TS}{D:Ends}{σ:St}{H:Hp}(Pv:Nat->St->Hp->Prop)(h0:Pv 0 σ H)(hl:∀ i σ H,i<=xs.length->Pv i σ H->SqL K H a xs)(hs:∀ i x σ H,xs[i]?=some x->Pv i σ H->g x σ H fun σ2 H2=>tb { D with nx:=Pv (i+1),ct:=Pv (i+1),bk:=D.nx } σ2 H2)(hd:∀ σ H,Pv xs.length σ H->D.nx σ H) :
  ∃ W:Nat->Nat->St->Hp->Prop,(∃ m,W 0 m σ H)/\∀ i m σ H,W i m σ H ->
   ((Itl K a).stop i H/\D.nx σ H)\/((Itl K a).go i H/\∃ N:St->Hp->Prop,(∀ σ' H',N σ' H'->∃ m',m' < m/\W (i+1) m' σ' H')/\∀ x H',(Itl K a).yld i H x H'->g x σ H' fun σ2 H2=>tb { D with nx:=N,ct:=N,bk:=D.nx } σ2 H2):=by
 refine ⟨fun i m σ H=>m=xs.length - i/\i<=xs.length/\Pv i σ H,⟨xs.length,by simp,Nat.zero_le _,h0⟩,?_⟩
 rintro i m σ H ⟨rfl,hi,p⟩
 have q:=hl i σ H hi p
 by_cases hlt:i < xs.length
 ·refine .inr ⟨⟨xs,xs[i],q,by simp [hlt]⟩,Pv (i+1),fun σ' H' p'=>⟨xs.length - (i+1),by omega,rfl,hlt,p'⟩,fun x H' y=>?_⟩
  obtain ⟨e,y⟩:=y
  subst e
  exact hs i x σ _ (y xs q) p
 ·have e:i=xs.length:=by omega
  subst e
  exact .inl ⟨⟨xs,q,Nat.le_refl _⟩,hd σ H p⟩
theorem AU6 {K:Frag}{a:Addr}{xs:List V}{g:TG}{tb:TS}{D:Ends}{σ:St}{H:Hp}(Pv:Nat->St->Hp->Prop)(h0:Pv 0 σ H)(hl:∀ i σ H,i<=xs.length->Pv i σ H->SqT K H a xs)(hs:∀ i x σ H,xs[i]?=some x->Pv i σ H->g x σ H fun σ2 H2=>tb { D with nx:=Pv (i+1),ct:=Pv (i+1),bk:=D.nx } σ2 H2)(hd:∀ σ H,Pv xs.length σ H->D.nx σ H) :
  ∃ W:Nat->Nat->St->Hp->Prop,(∃ m,W 0 m σ H)/\∀ i m σ H,W i m σ H ->
   ((Itt K a).stop i H/\D.nx σ H)\/((Itt K a).go i H/\∃ N:St->Hp->Prop,(∀ σ' H',N σ' H'->∃ m',m' < m/\W (i+1) m' σ' H')/\∀ x H',(Itt K a).yld i H x H'->g x σ H' fun σ2 H2=>tb { D with nx:=N,ct:=N,bk:=D.nx } σ2 H2):=by
 refine ⟨fun i m σ H=>m=xs.length - i/\i<=xs.length/\Pv i σ H,⟨xs.length,by simp,Nat.zero_le _,h0⟩,?_⟩
 rintro i m σ H ⟨rfl,hi,p⟩
 have q:=hl i σ H hi p
 by_cases hlt:i < xs.length
 ·refine .inr ⟨⟨xs,xs[i],q,by simp [hlt]⟩,Pv (i+1),fun σ' H' p'=>⟨xs.length - (i+1),by omega,rfl,hlt,p'⟩,fun x H' y=>?_⟩
  obtain ⟨e,y⟩:=y
  subst e
  exact hs i x σ _ (y xs q) p
 ·have e:i=xs.length:=by omega
  subst e
  exact .inl ⟨⟨xs,q,Nat.le_refl _⟩,hd σ H p⟩
theorem AC5 {lo:Int}{n:Nat}{g:TG}{tb:TS}{D:Ends}{σ:St}{H:Hp}(Pv:Nat->St->Hp->Prop)(h0:Pv 0 σ H)(hs:∀ i σ H,i < n->Pv i σ H->g (.int (lo+i)) σ H fun σ2 H2=>tb { D with nx:=Pv (i+1),ct:=Pv (i+1),bk:=D.nx } σ2 H2)(hd:∀ σ H,Pv n σ H->D.nx σ H) :
  ∃ W:Nat->Nat->St->Hp->Prop,(∃ m,W 0 m σ H)/\∀ i m σ H,W i m σ H ->
   ((Itr lo n).stop i H/\D.nx σ H)\/((Itr lo n).go i H/\∃ N:St->Hp->Prop,(∀ σ' H',N σ' H'->∃ m',m' < m/\W (i+1) m' σ' H')/\∀ x H',(Itr lo n).yld i H x H'->g x σ H' fun σ2 H2=>tb { D with nx:=N,ct:=N,bk:=D.nx } σ2 H2):=by
 refine ⟨fun i m σ H=>m=n - i/\i<=n/\Pv i σ H,⟨n,by simp,Nat.zero_le _,h0⟩,?_⟩
 rintro i m σ H ⟨rfl,hi,p⟩
 by_cases hlt:i < n
 ·refine .inr ⟨hlt,Pv (i+1),fun σ' H' p'=>⟨n - (i+1),by omega,rfl,hlt,p'⟩,fun x H' y=>?_⟩
  obtain ⟨e,y⟩:=y
  subst e y
  exact hs i σ _ hlt p
 ·have e:i=n:=by omega
  subst e
  exact .inl ⟨Nat.le_refl _,hd σ H p⟩
abbrev R2:=V->V->Hp->VK->Prop
def OpR (X:Cx)(f:Value->Value->Sem Value)(r:R2):Prop :=
 ∀ (pins:List (Addr × Obj)) (s:Shared) (σ:St) (H:Hp) (x y:V) (v u:Value) (Q:VK),Inv X pins σ H s->RelV x v->RelV y u->r x y H Q ->
  wpAny (model X.prog X.w) X.A (f v u) (EP X pins σ Q) X.xe s
def UnR (X:Cx)(f:Value->Sem Value)(r:V->Hp->VK->Prop):Prop :=
 ∀ (pins:List (Addr × Obj)) (s:Shared) (σ:St) (H:Hp) (x:V) (v:Value) (Q:VK),Inv X pins σ H s->RelV x v->r x H Q ->
  wpAny (model X.prog X.w) X.A (f v) (EP X pins σ Q) X.xe s
def iH (X:Cx)(f:Value)(r:List V->Hp->VK->Prop):Prop :=
 ∀ (pins:List (Addr × Obj)) (s:Shared) (σ:St) (H:Hp) (xs:List V) (us:List Value) (Q:VK),Inv X pins σ H s->Vals xs us->r xs H Q ->
  wpAny (model X.prog X.w) X.A (call f us) (EP X pins σ Q) X.xe s
def tOp (r:R2)(ta tb:TE):TE:=fun σ H Q=>ta σ H fun x H1=>tb σ H1 fun y H2=>r x y H2 Q
def tUn (r:V->Hp->VK->Prop)(ta:TE):TE:=fun σ H Q=>ta σ H fun x H1=>r x H1 Q
def rI (C:Int->Int->Prop)(g:Int->Int->V):R2:=fun x y H Q=>∃ i j,x=.int i/\y=.int j/\C i j/\Q (g i j) H
def rI0 (g:Int->Int->V):R2:=fun x y H Q=>∃ i j,x=.int i/\y=.int j/\Q (g i j) H
def rU (g:Int->V):V->Hp->VK->Prop:=fun x H Q=>∃ i,x=.int i/\Q (g i) H
section
variable {X:Cx}{a b c:Expr}{ta tb tc:TE}{pos:Pos}
theorem BH9 (ha:PE X a ta)(hb:PE X b tb){pins:List (Addr × Obj)}{s:Shared}{σ:St}{H:Hp}{R:V->V->Hp->Prop}(I:Inv X pins σ H s)(h:ta σ H fun x H1=>tb σ H1 fun y H2=>R x y H2){Q:Value->Shared->Prop}{f:Value->Value->Sem Value}(hf:∀ v u s2 x y H2,Inv X pins σ H2 s2->RelV x v->RelV y u->R x y H2->wpAny (model X.prog X.w) X.A (f v u) Q X.xe s2) :
  wpAny (model X.prog X.w) X.A (eval a X.env) (fun v s₁=>wpAny (model X.prog X.w) X.A (eval b X.env) (fun u s₂=>wpAny (model X.prog X.w) X.A (f v u) Q X.xe s₂) X.xe s₁) X.xe s:=by
 refine thn (ha pins s σ H _ I h) fun v s1 ⟨x,H1,I1,r1,q1⟩=>?_
 refine thn (hb pins s1 σ H1 _ I1 q1) fun u s2 ⟨y,H2,I2,r2,q2⟩=>?_
 exact hf v u s2 x y H2 I2 r1 r2 q2
theorem bJ {op:Operator}{r:R2}(ho:OpR X (binaryOp op) r)(ha:PE X a ta)(hb:PE X b tb):PE X (.BinOp a op b pos) (tOp r ta tb):=by
 intro pins s σ H Q I h
 exact wpAny_BinOp (BH9 ha hb I h fun v u s2 x y H2 I2 rx ry q=>ho pins s2 σ H2 x y v u Q I2 rx ry q)
theorem BD4 {op:UnaryOp}{r:V->Hp->VK->Prop}(ho:UnR X (unaryOp op) r)(ha:PE X a ta):PE X (.UnaryOp op a pos) (tUn r ta):=by
 intro pins s σ H Q I h
 exact UnaryOp_ (thn (ha pins s σ H _ I h) fun v s1 ⟨x,H1,I1,r1,q1⟩=>ho pins s1 σ H1 x v Q I1 r1 q1)
theorem opI {f:Value->Value->Sem Value}{C:Int->Int->Prop}{g:Int->Int->Int}(rule:∀ (i j:Int) (t u:Tok) (s:Shared) (Q:Value->Shared->Prop) (E:Value->Shared->Prop),C i j->Q (.int (g i j) s.toks) { s with toks:=s.toks+1 }->wpAny (model X.prog X.w) X.A (f (.int i t) (.int j u)) Q E s) :
  OpR X f (rI C fun i j=>.int (g i j)):=by
 intro pins s σ H x y v u Q I rx ry h
 obtain ⟨i,j,rfl,rfl,hc,q⟩:=h
 obtain ⟨t,rfl⟩:=rx
 obtain ⟨t',rfl⟩:=ry
 exact rule i j t t' s _ _ hc ⟨.int (g i j),H,I.tok _,⟨_,rfl⟩,q⟩
theorem BA9 {f:Value->Value->Sem Value}{g:Int->Int->Int}(rule:∀ (i j:Int) (t u:Tok) (s:Shared) (Q:Value->Shared->Prop) (E:Value->Shared->Prop),Q (.int (g i j) s.toks) { s with toks:=s.toks+1 }->wpAny (model X.prog X.w) X.A (f (.int i t) (.int j u)) Q E s) :
  OpR X f (rI0 fun i j=>.int (g i j)):=by
 intro pins s σ H x y v u Q I rx ry h
 obtain ⟨i,j,rfl,rfl,q⟩:=h
 obtain ⟨t,rfl⟩:=rx
 obtain ⟨t',rfl⟩:=ry
 exact rule i j t t' s _ _ ⟨.int (g i j),H,I.tok _,⟨_,rfl⟩,q⟩
theorem BH1 {f:Value->Value->Sem Value}{g:Int->Int->Bool}(rule:∀ (i j:Int) (t u:Tok) (s:Shared) (Q:Value->Shared->Prop) (E:Value->Shared->Prop),Q (.bool (g i j)) s->wpAny (model X.prog X.w) X.A (f (.int i t) (.int j u)) Q E s) :
  OpR X f (rI0 fun i j=>.bl (g i j)):=by
 intro pins s σ H x y v u Q I rx ry h
 obtain ⟨i,j,rfl,rfl,q⟩:=h
 obtain ⟨t,rfl⟩:=rx
 obtain ⟨t',rfl⟩:=ry
 exact rule i j t t' s _ _ ⟨.bl (g i j),H,I,rfl,q⟩
def BO3 (i j:Int):Prop:=0<=j/\j<=1000000/\i.natAbs < 2 ^ 64
def CMul (i j:Int):Prop:=(-(2 ^ 64) < i/\i < 2 ^ 64)\/(-(2 ^ 64) < j/\j < 2 ^ 64)
theorem CMul.ok {i j:Int}(h:CMul i j):IntMulOk i j:=by
 rcases h with ⟨h1,h2⟩ | ⟨h1,h2⟩
 ·exact .of_left (intBits_le_64 h1 h2)
 ·exact .of_right (intBits_le_64 h1 h2)
theorem iI:OpR X (binaryOp .Add) (rI0 fun i j=>.int (i+j)):=BA9 fun _ _ _ _ _ _ _ q=>add_int q
theorem sH:OpR X (binaryOp .Sub) (rI0 fun i j=>.int (i - j)):=BA9 fun _ _ _ _ _ _ _ q=>sub_int q
theorem pT:OpR X (binaryOp .Mult) (rI CMul fun i j=>.int (i * j)):=opI fun _ _ _ _ _ _ _ hc q=>mul_int q hc.ok
theorem iX:OpR X (binaryOp .Mod) (rI (fun _ j=>0 < j) fun i j=>.int (i % j)):=opI fun i j _ _ _ _ _ hc q=>by
 have h1:(0:Int) < j:=hc
 exact mod_int' (by omega) (by rw [Int.fmod_eq_emod_of_nonneg i (by omega)]; exact q)
theorem BD5:OpR X (binaryOp .Pow) (rI BO3 fun i j=>.int (i ^ j.toNat)):=opI fun _ _ _ _ _ _ _ hc q=>pow_int_small hc.1 hc.2.1 hc.2.2 q
theorem AR8:OpR X (binaryOp .BitAnd) (rI0 fun i j=>.int (Builtin.bitAnd i j)):=BA9 fun _ _ _ _ _ _ _ q=>and_int q
theorem BI0:OpR X (binaryOp .BitOr) (rI0 fun i j=>.int (Builtin.bitOr i j)):=BA9 fun _ _ _ _ _ _ _ q=>or_int q
theorem AR9:OpR X (binaryOp .BitXor) (rI0 fun i j=>.int (Builtin.bitXor i j)):=BA9 fun _ _ _ _ _ _ _ q=>xor_int q
theorem AU7:OpR X (inplaceOp .Add) (rI0 fun i j=>.int (i+j)):=BA9 fun _ _ _ _ _ _ _ q=>iadd_int q
theorem unI {f:Value->Sem Value}{g:Int->Int}(rule:∀ (i:Int) (t:Tok) (s:Shared) (Q:Value->Shared->Prop) (E:Value->Shared->Prop),Q (.int (g i) s.toks) { s with toks:=s.toks+1 }->wpAny (model X.prog X.w) X.A (f (.int i t)) Q E s) :
  UnR X f (rU fun i=>.int (g i)):=by
 intro pins s σ H x v Q I rx h
 obtain ⟨i,rfl,q⟩:=h
 obtain ⟨t,rfl⟩:=rx
 exact rule i t s _ _ ⟨.int (g i),H,I.tok _,⟨_,rfl⟩,q⟩
theorem AS0:UnR X (unaryOp .USub) (rU fun i=>.int (-i)):=unI fun _ _ _ _ _ q=>neg_int q
end
def AM4:V->V->Bool
 | .non,.non=>true | .non,.int _=>true | .int _,.non=>true | .non,.bl _=>true | .bl _,.non=>true | .non,.str _=>true | .str _,.non=>true
 | .int _,.int _=>true | .bl _,.bl _=>true | .str _,.str _=>true | .byt _,.byt _=>true
 | .int _,.str _=>true | .str _,.int _=>true | .bl _,.str _=>true | .str _,.bl _=>true
 | _,_=>false
def rEq:R2:=fun x y H Q=>AM4 x y=true/\Q (.bl (decide (x=y))) H
def rNe:R2:=fun x y H Q=>AM4 x y=true/\Q (.bl (!decide (x=y))) H
theorem AC6 {i j:Int}:decide (V.int i=V.int j)=(i == j):=by
 rw [Bool.eq_iff_iff]
 simp
theorem AS1 {i j:Bool}:decide (V.bl i=V.bl j)=(i == j):=by
 rw [Bool.eq_iff_iff]
 simp
theorem AC7 {i j:Str}:decide (V.str i=V.str j)=(i == j):=by
 rw [Bool.eq_iff_iff]
 simp
theorem AC8 {i j:Array UInt8}:decide (V.byt i=V.byt j)=(i.toList == j.toList):=by
 rw [Bool.eq_iff_iff]
 cases i
 cases j
 simp
section
variable {X:Cx}{a b c:Expr}{ta tb tc:TE}{pos:Pos}
theorem cM {pins:List (Addr × Obj)}{σ:St}{H:Hp}{s:Shared}{Q:VK}{k k':Bool}(I:Inv X pins σ H s)(q:Q (.bl k) H)(e:k=k'):EP X pins σ Q (.bool k') s:=by
 subst e
 exact ⟨.bl k,H,I,rfl,q⟩
theorem eN:OpR X (compareOp .Eq) rEq:=by
 intro pins s σ H x y v u Q I rx ry h
 obtain ⟨hs,q⟩:=h
 cases x with
 | non =>
  cases rx
  cases y with
  | non=>cases ry; exact PySem.EqNone.eq_none_none (cM I q (by simp))
  | bl j=>cases ry; exact PySem.EqNone.eq_none_bool (cM I q (by simp))
  | int j=>obtain ⟨t',rfl⟩:=ry; exact PySem.EqNone.eq_none_int (cM I q (by simp))
  | str j=>obtain ⟨t',rfl⟩:=ry; exact PySem.EqNone.eq_none_str (cM I q (by simp))
  | _=>exact absurd (show false=true from hs) Bool.false_ne_true
 | bl i =>
  cases rx
  cases y with
  | non=>cases ry; exact PySem.EqNone.eq_bool_none (cM I q (by simp))
  | bl j=>cases ry; exact eq_bool (cM I q AS1)
  | str j=>obtain ⟨t',rfl⟩:=ry; exact PySem.EqMixed.eq_bool_str (cM I q (by simp))
  | _=>exact absurd (show false=true from hs) Bool.false_ne_true
 | int i =>
  obtain ⟨t,rfl⟩:=rx
  cases y with
  | non=>cases ry; exact PySem.EqNone.eq_int_none (cM I q (by simp))
  | int j=>obtain ⟨t',rfl⟩:=ry; exact eq_int (cM I q AC6)
  | str j=>obtain ⟨t',rfl⟩:=ry; exact PySem.EqMixed.eq_int_str (cM I q (by simp))
  | _=>exact absurd (show false=true from hs) Bool.false_ne_true
 | str i =>
  obtain ⟨t,rfl⟩:=rx
  cases y with
  | non=>cases ry; exact PySem.EqNone.eq_str_none (cM I q (by simp))
  | bl j=>cases ry; exact PySem.EqMixed.eq_str_bool (cM I q (by simp))
  | int j=>obtain ⟨t',rfl⟩:=ry; exact PySem.EqMixed.eq_str_int (cM I q (by simp))
  | str j=>obtain ⟨t',rfl⟩:=ry; exact eq_str (cM I q AC7)
  | _=>exact absurd (show false=true from hs) Bool.false_ne_true
 | byt i =>
  obtain ⟨t,rfl⟩:=rx
  cases y with
  | byt j=>obtain ⟨t',rfl⟩:=ry; exact eq_bytes (cM I q AC8)
  | _=>exact absurd (show false=true from hs) Bool.false_ne_true
 | _=>cases y <;> exact absurd (show false=true from hs) Bool.false_ne_true
theorem BI1:OpR X (compareOp .NotEq) rNe:=by
 intro pins s σ H x y v u Q I rx ry h
 obtain ⟨hs,q⟩:=h
 cases x with
 | non =>
  cases rx
  cases y with
  | non=>cases ry; exact PySem.EqNone.ne_none_none (cM I q (by simp))
  | bl j=>cases ry; exact PySem.EqNone.ne_none_bool (cM I q (by simp))
  | int j=>obtain ⟨t',rfl⟩:=ry; exact PySem.EqNone.ne_none_int (cM I q (by simp))
  | str j=>obtain ⟨t',rfl⟩:=ry; exact PySem.EqNone.ne_none_str (cM I q (by simp))
  | _=>exact absurd (show false=true from hs) Bool.false_ne_true
 | bl i =>
  cases rx
  cases y with
  | non=>cases ry; exact PySem.EqNone.ne_bool_none (cM I q (by simp))
  | bl j=>cases ry; exact ne_bool (cM I q (congrArg not AS1))
  | str j=>obtain ⟨t',rfl⟩:=ry; exact PySem.EqMixed.ne_bool_str (cM I q (by simp))
  | _=>exact absurd (show false=true from hs) Bool.false_ne_true
 | int i =>
  obtain ⟨t,rfl⟩:=rx
  cases y with
  | non=>cases ry; exact PySem.EqNone.ne_int_none (cM I q (by simp))
  | int j=>obtain ⟨t',rfl⟩:=ry; exact ne_int (cM I q (congrArg not AC6))
  | str j=>obtain ⟨t',rfl⟩:=ry; exact PySem.EqMixed.ne_int_str (cM I q (by simp))
  | _=>exact absurd (show false=true from hs) Bool.false_ne_true
 | str i =>
  obtain ⟨t,rfl⟩:=rx
  cases y with
  | non=>cases ry; exact PySem.EqNone.ne_str_none (cM I q (by simp))
  | bl j=>cases ry; exact PySem.EqMixed.ne_str_bool (cM I q (by simp))
  | int j=>obtain ⟨t',rfl⟩:=ry; exact PySem.EqMixed.ne_str_int (cM I q (by simp))
  | str j=>obtain ⟨t',rfl⟩:=ry; exact ne_str (cM I q (congrArg not AC7))
  | _=>exact absurd (show false=true from hs) Bool.false_ne_true
 | byt i =>
  obtain ⟨t,rfl⟩:=rx
  cases y with
  | byt j=>obtain ⟨t',rfl⟩:=ry; exact ne_bytes (cM I q (congrArg not AC8))
  | _=>exact absurd (show false=true from hs) Bool.false_ne_true
 | _=>cases y <;> exact absurd (show false=true from hs) Bool.false_ne_true
theorem zS:OpR X (compareOp .Lt) (rI0 fun i j=>.bl (decide (i < j))):=BH1 fun _ _ _ _ _ _ _ q=>lt_int q
theorem AU8:OpR X (compareOp .LtE) (rI0 fun i j=>.bl (decide (i<=j))):=BH1 fun _ _ _ _ _ _ _ q=>le_int q
theorem wL:OpR X (compareOp .Gt) (rI0 fun i j=>.bl (decide (j < i))):=BH1 fun _ _ _ _ _ _ _ q=>gt_int q
theorem AM5:OpR X (compareOp .GtE) (rI0 fun i j=>.bl (decide (j<=i))):=BH1 fun _ _ _ _ _ _ _ q=>ge_int q
theorem AC9:OpR X (compareOp .In) (fun x y H Q=>∃ i j,x=.str i/\y=.str j/\Q (.bl (!(Builtin.Str.occurrences j i 0 j.length 1).isEmpty)) H):=by
 intro pins s σ H x y v u Q I rx ry h
 obtain ⟨i,j,rfl,rfl,q⟩:=h
 obtain ⟨t,rfl⟩:=rx
 obtain ⟨t',rfl⟩:=ry
 exact in_str (cM I q rfl)
theorem aY (b:Expr){op:CmpOp}(h:op≠.In:=by decide)(h2:op≠.NotIn:=by decide):behindInMarks op b=false:=by
 have e1:(op == CmpOp.In)=false:=by cases op <;> first | rfl | exact absurd rfl h
 have e2:(op == CmpOp.NotIn)=false:=by cases op <;> first | rfl | exact absurd rfl h2
 cases b <;> simp [behindInMarks,e1,e2]
theorem dR {op:CmpOp}{r:R2}(ho:OpR X (compareOp op) r)(ha:PE X a ta)(hb:PE X b tb)(hm:behindInMarks op b=false):PE X (.Compare a [op] [b] pos) (tOp r ta tb):=by
 intro pins s σ H Q I h
 exact wpAny_Compare1 (BH9 ha hb I h fun v u s2 x y H2 I2 rx ry q=>ho pins s2 σ H2 x y v u Q I2 rx ry q) hm
def BD6 (t:TE):TT:=fun σ H Q=>t σ H fun x H'=>∃ k,x=.bl k/\Q k H'
theorem aW {op:CmpOp}{r:R2}(ho:OpR X (compareOp op) r)(ha:PE X a ta)(hb:PE X b tb)(hm:behindInMarks op b=false):PT X (.Compare a [op] [b] pos) (BD6 (tOp r ta tb)):=by
 intro pins s σ H Q I h
 refine wpAny_isTrue_Compare1 (thn (ha pins s σ H _ I h) fun v s1 ⟨x,H1,I1,r1,q1⟩=>thn (hb pins s1 σ H1 _ I1 q1) fun u s2 ⟨y,H2,I2,r2,q2⟩ =>
  thn (ho pins s2 σ H2 x y v u _ I2 r1 r2 q2) fun c s3 ⟨z,H3,I3,r3,k,e,q3⟩=>?_) hm
 subst e
 cases r3
 exact wpAny_truthy_bool ⟨H3,I3,q3⟩
theorem pU:(sizeLine:Nat) < 2 ^ 63:=by rw [sizeLine_eq]; decide
theorem nL:OpR X (binaryOp .Add) (fun x y H Q=>∃ i j,x=.str i/\y=.str j/\i.length+j.length<=sizeLine/\Q (.str (i++j)) H):=by
 intro pins s σ H x y v u Q I rx ry h
 obtain ⟨i,j,rfl,rfl,hz,q⟩:=h
 obtain ⟨t,rfl⟩:=rx
 obtain ⟨t',rfl⟩:=ry
 exact add_str (fun t' tk=>⟨.str (i++j),H,I.tok _,⟨_,rfl⟩,q⟩) hz
theorem kC {x:V}{us:List Value}(r:Vals [x] us):∃ u,us=[u]/\RelV x u:=by
 cases r with
 | cons r1 r2=>cases r2; exact ⟨_,rfl,r1⟩
theorem AU9 {x y:V}{us:List Value}(r:Vals [x,y] us):∃ u w',us=[u,w']/\RelV x u/\RelV y w':=by
 cases r with
 | cons r1 r2 =>
  cases r2 with
  | cons r3 r4=>cases r4; exact ⟨_,_,rfl,r1,r3⟩
theorem uY:iH X (.type "int") (fun xs H Q=>(∃ i,xs=[.int i]/\Q (.int i) H)\/∃ k,xs=[.bl k]/\Q (.int (if k then 1 else 0)) H):=by
 intro pins s σ H xs us Q I r h
 rcases h with ⟨i,rfl,q⟩ | ⟨k,rfl,q⟩
 ·obtain ⟨u,rfl,t,rfl⟩:=kC r
  exact call_int_int ⟨.int i,H,I,⟨_,rfl⟩,q⟩
 ·obtain ⟨u,rfl,r1⟩:=kC r
  cases r1
  exact call_int_bool ⟨.int (if k then 1 else 0),H,I.tok _,⟨_,rfl⟩,q⟩
def BO4 (K:Frag)(x:V)(H:Hp)(n:Nat):Prop :=
 match x with
 | .str y=>y.length<=sizeLine/\n=y.length
 | .byt y=>y.size<=sizeLine/\n=y.size
 | .ref p=>(∃ xs,SqL K H p xs/\n=xs.length)\/∃ xs,SqT K H p xs/\n=xs.length
 | _=>False
theorem AM6:iH X (.builtin "len") (fun xs H Q=>∃ x n,xs=[x]/\BO4 X.K x H n/\Q (.int n) H):=by
 intro pins s σ H xs us Q I r h
 obtain ⟨x,n,rfl,e,q⟩:=h
 obtain ⟨u,rfl,rx⟩:=kC r
 have hl:=pU
 have hs:sizeLine=16777216:=sizeLine_eq
 cases x with
 | str y =>
  obtain ⟨t,rfl⟩:=rx
  obtain ⟨hy,e'⟩:y.length<=sizeLine/\n=y.length:=e
  subst e'
  exact len_str (by omega) ⟨.int _,H,I.tok _,⟨_,rfl⟩,q⟩
 | byt y =>
  obtain ⟨t,rfl⟩:=rx
  obtain ⟨hy,e'⟩:y.size<=sizeLine/\n=y.size:=e
  subst e'
  exact len_bytes (by omega) ⟨.int _,H,I.tok _,⟨_,rfl⟩,q⟩
 | ref p =>
  cases rx
  have e':(∃ xs,SqL X.K H p xs/\n=xs.length)\/∃ xs,SqT X.K H p xs/\n=xs.length:=e
  rcases e' with ⟨xs,hx,e'⟩ | ⟨xs,hx,e'⟩
  ·subst e'
   obtain ⟨its,r',pl,hz⟩:=I.list hx
   have hlen:=r'.length
   exact Calls.call_len_list pl.isList (by simp only [List.size_toArray]; omega) ⟨.int xs.length,H,I.tok _,⟨_,by simp only [List.size_toArray]; rw [hlen]⟩,q⟩
  ·subst e'
   obtain ⟨its,r',pl,hz⟩:=I.tuple hx
   have hlen:=r'.length
   exact len_tuple pl (by simp only [List.size_toArray]; omega) ⟨.int xs.length,H,I.tok _,⟨_,by simp only [List.size_toArray]; rw [hlen]⟩,q⟩
 | _=>exact (show False from e).elim
end
structure ObjM (h:Heap) (x dx C:Addr) (mA:Str->Option Value):Prop where
 obj:h.get? x=some (instObj C dx)
 ns:h.Ns1 dx mA
 ne:dx≠x
theorem AD0 {h:Heap}{dx:Addr}{mA:Str->Option Value}(n:h.Ns1 dx mA):∃ od,h.get? dx=some od/\∀ name,lookIn name od=some (mA name):=by
 obtain ⟨o,es,ep,ho,hd,hk,_,hm⟩:=n
 refine ⟨o,ho,fun name=>?_⟩
 have e:=hm name
 unfold nsFind findBy at e
 rw [<- Array.find?_toList] at e
 unfold lookIn
 rw [hd]
 dsimp only
 split
 ·rename_i y q
  rw [q] at e
  exact congrArg some e
 ·rename_i q
  rw [q] at e
  have a:es.toList.any (·.refKey)=false:=by
   rw [List.any_eq_false]
   intro y hy
   obtain ⟨z,t,hkey⟩:=hk y (Array.mem_toList_iff.mp hy)
   simp [DictEntry.refKey,hkey]
  have a':¬ es.toList.any (·.refKey)=true:=by rw [a]; exact Bool.false_ne_true
  rw [if_neg a']
  exact congrArg some e
theorem ObjM.look {h:Heap}{x dx C:Addr}{mA:Str->Option Value}(I:ObjM h x dx C mA):∃ od,InstAt h x (instObj C dx) C (some od)/\∀ name,lookIn name od=some (mA name) :=
 let ⟨od,ho,hl⟩:=AD0 I.ns
 ⟨od,⟨I.obj,rfl,rfl,ho⟩,hl⟩
section
variable {prog:Program}{w:World}{A:Around}{E:Value->Shared->Prop}{s:Shared}{K:Frag}{x dx C f:Addr}{mA:Str->Option Value}{name:Str}{v:Value}
theorem AV0 {expr:Bool}{Q:Value->Shared->Prop}(X:K.In s.heap)(I:ObjM s.heap x dx C mA)(hg:plainGet K C name=true)(hh:hasDictIn K C=true)(ha:findIn K (.ref C) name=some none)(hv:mA name=some v)(hv':handedIn v=true)(h:Q v { s with toks:=s.toks+1 }) :
  wpAny (model prog w) A (getAttr (.ref x) name expr) Q E s:=by
 obtain ⟨od,J,hl⟩:=I.look
 exact get_value X J (plainGet_of hg).1 (findObj_own hh ha rfl (by rw [hl,hv])) hv' h
theorem AM7 {pl:Sem Bool}{Q:Value × List Value->Shared->Prop}(X:K.In s.heap)(I:ObjM s.heap x dx C mA)(hg:plainGet K C name=true)(hf:findIn K (.ref C) name=some (some (.ref f)))(ht:isFn K (.ref f)=true)(hv:mA name=none)(h:Q (.ref f,[.ref x]) s) :
  wpAny (model prog w) A (getMethod (.ref x) name pl) Q E s:=by
 obtain ⟨od,J,hl⟩:=I.look
 exact method_fn X J (plainGet_of hg).1 (plainGet_of hg).2 hf (beq_iff_eq.mp ht) (by show (lookIn name od).map (·.isSome)=some false; rw [hl,hv]; rfl) h
theorem AV1 {ns:List Str}{Q:Unit->Shared->Prop}(X:K.In s.heap)(I:ObjM s.heap x dx C mA)(hs:findIn K (.ref C) "__setattr__"=some (some (.builtin "object.__setattr__")))(hp:plainOver K C=true)(ht:takerIn K C name=some none)(hh:hasDictIn K C=true)(hw:PySem.Within mA ns)(hsz:ns.length<=sizeLine)(h:∀ h',ObjM h' x dx C (fun y=>if y=name then some v else mA y)->Heap.SameBut dx s.heap h'->Q () { s with heap:=h',toks:=s.toks+2 }) :
  wpAny (model prog w) A (setAttr (.ref x) name v) Q E s:=by
 obtain ⟨od,J,hl⟩:=I.look
 refine set_plain X J hs (osa_open (s:={ s with toks:=s.toks+1 }) (r:=none) X J hp ht fun b=>?_)
 obtain ⟨cd,hc,hd'⟩:=any_some hh
 have hx:s.heap.get? x=some ⟨.ref C,some dx,.plain,#[]⟩:=I.obj
 refine wpAny_bind (wpAny_pure (wpAny_bind (wpAny_bind (wpAny_loadPart hx (wpAny_bind (Looks.here (s:={ s with toks:=s.toks+1 }) (looks_clsIn X hc) ?_))))))
 rw [hd']
 refine wpAny_pure (a:=some dx) (wpAny_bind (wpAny_pure (wpAny_bind ?_)))
 refine wpAny_nsSet1 (s:={ s with toks:=s.toks+1 }) I.ns fun h' hn2 hs2=>?_
 obtain ⟨oD,esD,epD,hoD,hdD,hcD⟩:=hn2.count (PySem.Within.cons name v hw)
 refine wpAny_bind (wpAny_lookBehind hoD (by rw [hdD]; exact pastItsLine_dict (Nat.le_trans hcD (by rw [List.length_cons]; omega))) ?_)
 exact wpAny_pure (h _ ⟨(hs2.2 _ (Ne.symm I.ne)).trans I.obj,hn2,I.ne⟩ hs2)
theorem AM8 {R:Result->Shared->Prop}{vs:List Value}{kw:List (Str × Value)}(X:K.In s.heap)(hm:makesIn K C=true)(hi:findIn K (.ref C) "__init__"=some (some (.ref f)))(hf:typeIn K (.ref f)=some (.type "function"))(h:codeAny (model prog w) (A.under (.builtin "type.__call__" ⟨.ref C::vs,kw⟩)) (.call (.ref f) ⟨.ref (s.heap.objs.size+1)::vs,kw⟩) (InitBack (s.heap.objs.size+1) R)
   { s with heap:=(s.heap.push emptyDict).push (instObj C s.heap.objs.size) }) :
  codeAny (model prog w) A (.call (.ref C) ⟨vs,kw⟩) R s:=by
 obtain ⟨hh,g,d,t,os⟩:=s
 exact make_core (makes_of X hm) (looks_findIn X hi) (fun self=>bind_fn X self hf) (.inl rfl) h
theorem AD1 {R:Result->Shared->Prop}(X:K.In s.heap)(hm:makesIn K C=true)(hi:findIn K (.ref C) "__init__"=some (some (.builtin "object.__init__")))(hb:∀ self,Looks (model prog w) s.heap (bindSpecial (.builtin "object.__init__") self) (.builtin "object.__init__",[self]))(h:codeAny (model prog w) (A.under (.builtin "type.__call__" ⟨[.ref C],[]⟩)) (.call (.builtin "object.__init__") ⟨[.ref (s.heap.objs.size+1)],[]⟩) (InitBack (s.heap.objs.size+1) R)
   { s with heap:=(s.heap.push emptyDict).push (instObj C s.heap.objs.size) }) :
  codeAny (model prog w) A (.call (.ref C) ⟨[],[]⟩) R s:=by
 obtain ⟨hh,g,d,t,os⟩:=s
 exact make_core (makes_of X hm) (looks_findIn X hi) hb (.inr ⟨rfl,rfl⟩) h
end
def lX (f:Str)(v:V):List (Str × V)->List (Str × V)
 | []=>[(f,v)]
 | (g,x)::r=>if g=f then (g,v)::r else (g,x)::lX f v r
theorem pV (f g:Str)(v:V):∀ fs:List (Str × V),(lX f v fs).lookup g=if g=f then some v else fs.lookup g
 | []=>by
  show List.lookup g [(f,v)]=_
  by_cases h:g=f
  ·have hb:(g == f)=true:=beq_iff_eq.mpr h
   simp only [List.lookup,hb,if_pos h]
  ·have hb:(g == f)=false:=beq_eq_false_iff_ne.mpr h
   simp only [List.lookup,hb,if_neg h]
 | (k,x)::r=>by
  have ih:=pV f g v r
  rw [show lX f v ((k,x)::r)=(if k=f then (k,v)::r else (k,x)::lX f v r) from rfl]
  by_cases hk:k=f
  ·rw [if_pos hk]
   by_cases h:g=k
   ·have hb:(g == k)=true:=beq_iff_eq.mpr h
    simp only [List.lookup,hb,if_pos (h.trans hk)]
   ·have hb:(g == k)=false:=beq_eq_false_iff_ne.mpr h
    simp only [List.lookup,hb,if_neg (fun e:g=f=>h (e.trans hk.symm))]
  ·rw [if_neg hk]
   by_cases h:g=k
   ·have hb:(g == k)=true:=beq_iff_eq.mpr h
    simp only [List.lookup,hb,if_neg (fun e:g=f=>hk (h.symm.trans e))]
   ·have hb:(g == k)=false:=beq_eq_false_iff_ne.mpr h
    simp only [List.lookup,hb]
    exact ih
theorem pW (f:Str)(v:V):∀ fs:List (Str × V),f∈(lX f v fs).map (·.1)/\∀ g,g∈fs.map (·.1)->g∈(lX f v fs).map (·.1)
 | []=>⟨by simp [lX],fun g h=>by simp at h⟩
 | (k,x)::r=>by
  obtain ⟨i1,i2⟩:=pW f v r
  rw [show lX f v ((k,x)::r)=(if k=f then (k,v)::r else (k,x)::lX f v r) from rfl]
  by_cases hk:k=f
  ·rw [if_pos hk]
   subst hk
   exact ⟨by simp,fun g h=>by simpa using h⟩
  ·rw [if_neg hk]
   refine ⟨?_,fun g h=>?_⟩
   ·rw [List.map_cons]
    exact List.mem_cons_of_mem _ i1
   ·rw [List.map_cons] at h ⊢
    rcases List.mem_cons.mp h with e | e
    ·exact List.mem_cons.mpr (.inl e)
    ·exact List.mem_cons_of_mem _ (i2 g e)
theorem pX (f:Str)(v:V):∀ fs:List (Str × V),(lX f v fs).length<=fs.length+1
 | []=>by simp [lX]
 | (k,x)::r=>by
  have ih:=pX f v r
  rw [show lX f v ((k,x)::r)=(if k=f then (k,v)::r else (k,x)::lX f v r) from rfl]
  by_cases hk:k=f
  ·rw [if_pos hk,List.length_cons,List.length_cons]; omega
  ·rw [if_neg hk,List.length_cons,List.length_cons]; omega
theorem RelO.some_of {v:V}{o:Option Value}(r:RelO (some v) o):∃ u,o=some u/\RelV v u:=by
 cases o with
 | none=>exact (show False from r).elim
 | some u=>exact ⟨u,rfl,r⟩
theorem RelO.none_of {o:Option Value}(r:RelO none o):o=none:=by
 cases o with
 | none=>rfl
 | some u=>exact (show False from r).elim
theorem AD2 {v:V}{u:Value}(r:RelV v u):handedIn u=true:=by
 cases v with
 | non=>cases (show u=Value.none from r); rfl
 | bl b=>cases (show u=Value.bool b from r); rfl
 | int i=>obtain ⟨t,e⟩:=(show ∃ t,u=Value.int i t from r); cases e; rfl
 | str x=>obtain ⟨t,e⟩:=(show ∃ t,u=Value.str x t from r); cases e; rfl
 | byt b=>obtain ⟨t,e⟩:=(show ∃ t,u=Value.bytes b t from r); cases e; rfl
 | flt b=>obtain ⟨t,e⟩:=(show ∃ t,u=Value.float b t from r); cases e; rfl
 | ref a=>cases (show u=Value.ref a from r); rfl
 | ty n=>cases (show u=Value.type n from r); rfl
section
variable {P:Program}{w:World}{H H':Hp}{h h':Heap}{a C dx:Addr}{fs fs':List (Str × V)}
theorem pY (hok:HOk P w H h)(e:H a=some (.ins C dx fs)):∃ mA,ObjM h a dx C mA/\(∀ f,RelO (fs.lookup f) (mA f))/\PySem.Within mA (fs.map (·.1))/\fs.length<=1000/\H dx=some (.own a):=by
 obtain ⟨d,z,ne,ob,mA,n,r,q⟩:=(show ObjOk P w H h a (.ins C dx fs) from hok a _ e)
 exact ⟨mA,⟨ob,n,ne⟩,r,q,z,d⟩
end
structure Cls (K:Frag) (C:Addr):Prop where
 pg:plainGet K C Str.empty=true
 hd:hasDictIn K C=true
 po:plainOver K C=true
 sa:findIn K (.ref C) "__setattr__"=some (some (.builtin "object.__setattr__"))
theorem Cls.get {K:Frag}{C:Addr}(c:Cls K C)(f:Str):plainGet K C f=true:=c.pg
def NoAttr (K:Frag)(C:Addr)(f:Str):Prop:=findIn K (.ref C) f=some none
theorem NoAttr.taker {K:Frag}{C:Addr}{f:Str}(n:NoAttr K C f):takerIn K C f=some none:=by
 unfold takerIn
 rw [show findIn K (.ref C) f=some none from n]
 rfl
structure Con (K:Frag) (C:Addr) (f:Str) (v:V) (u:Value):Prop where
 at_:findIn K (.ref C) f=some (some u)
 rel:RelV v u
 get:specialIn K u "__get__"=some none
 cp:copiedNames.contains f=false
structure Meth (K:Frag) (C:Addr) (m:Str) (f:Addr):Prop where
 at_:findIn K (.ref C) m=some (some (.ref f))
 fn:isFn K (.ref f)=true
 kp:keepIn K (.ref f)=true
section
variable {X:Cx}{pins:List (Addr × Obj)}{σ:St}{H:Hp}{s:Shared}{a C dx:Addr}{fs:List (Str × V)}{f:Str}{v:V}{A:Around}{E:Value->Shared->Prop}
theorem zT {b:Bool}{Q:Value->Shared->Prop}(I:Inv X pins σ H s)(e:H a=some (.ins C dx fs))(c:Cls X.K C)(n:NoAttr X.K C f)(l:fs.lookup f=some v)(h:∀ u s',Inv X pins σ H s'->RelV v u->Q u s'):wpAny (model X.prog X.w) A (getAttr (.ref a) f b) Q E s:=by
 obtain ⟨mA,O,r,_,_,_⟩:=pY I.hok e
 obtain ⟨u,hu,ru⟩:=RelO.some_of (v:=v) (o:=mA f) (by rw [<- l]; exact r f)
 exact AV0 I.kIn O (c.get f) c.hd n hu (AD2 ru) (h u _ (I.tok _) ru)
theorem sI {m:Str}{g:Addr}{pl:Sem Bool}{Q:Value × List Value->Shared->Prop}(I:Inv X pins σ H s)(e:H a=some (.ins C dx fs))(c:Cls X.K C)(k:Meth X.K C m g)(l:fs.lookup m=none)(h:Q (.ref g,[.ref a]) s):wpAny (model X.prog X.w) A (getMethod (.ref a) m pl) Q E s:=by
 obtain ⟨mA,O,r,_,_,_⟩:=pY I.hok e
 have hn:mA m=none:=RelO.none_of (by rw [<- l]; exact r m)
 exact AM7 I.kIn O (c.get m) k.at_ k.fn hn h
theorem zU {y:V}{u:Value}{Q:Unit->Shared->Prop}(I:Inv X pins σ H s)(e:H a=some (.ins C dx fs))(c:Cls X.K C)(n:NoAttr X.K C f)(hl:fs.length < 1000)(ry:RelV y u)(h:∀ s',Inv X pins σ (upd H a (.ins C dx (lX f y fs))) s'->Q () s'):wpAny (model X.prog X.w) A (setAttr (.ref a) f u) Q E s:=by
 obtain ⟨mA,O,r,wi,_,ho⟩:=pY I.hok e
 have hz:(fs.map (·.1)).length<=sizeLine:=by rw [List.length_map,sizeLine_eq]; omega
 refine AV1 I.kIn O c.sa c.po n.taker c.hd wi hz fun h' O' sb=>h _ ?_
 have hd:∃ o,h'.get? dx=some o:=let ⟨o,_,_,e',_⟩:=O'.ns; ⟨o,e'⟩
 refine I.write (x:=a) (e:=dx) (by rw [e]; exact True.intro) (.inr ho) (fun b q hb z=>(sb.2 b hb).trans z) hd ?_
 refine ⟨by rw [aO O.ne]; exact ho,?_,O.ne,O'.obj,_,O'.ns,fun g=>?_,fun g hg=>?_⟩
 ·have:=pX f y fs; omega
 ·show RelO ((lX f y fs).lookup g) (if g=f then some u else mA g)
  rw [pV]
  by_cases q:g=f
  ·rw [if_pos q,if_pos q]; exact ry
  ·rw [if_neg q,if_neg q]; exact r g
 ·by_cases q:g=f
  ·rw [q]; exact (pW f y fs).1
  ·refine (pW f y fs).2 g (wi g fun z=>hg ?_)
   show (if g=f then some u else mA g)=none
   rw [if_neg q]; exact z
theorem Inv.made (I:Inv X pins σ H s):Inv X pins σ (upd (upd H s.heap.objs.size (.own (s.heap.objs.size+1))) (s.heap.objs.size+1) (.ins C s.heap.objs.size []))
  { s with heap:=(s.heap.push emptyDict).push (instObj C s.heap.objs.size) }:=by
 have e1:(s.heap.push emptyDict).get? s.heap.objs.size=some emptyDict:=Heap.get?_push_size s.heap rfl
 have e2:((s.heap.push emptyDict).push (instObj C s.heap.objs.size)).get? (s.heap.objs.size+1)=some (instObj C s.heap.objs.size):=by
  have:=Heap.get?_push_size (s.heap.push emptyDict) (o:=instObj C s.heap.objs.size) rfl
  rwa [Heap.size_push] at this
 have e3:(s.heap.push emptyDict).Ns s.heap.objs.size (fun _=>none):=⟨emptyDict,#[],_,e1,rfl,(fun e he=>absurd he (by simp)),fun _=>rfl⟩
 have I1:=I.laid (a:=s.heap.objs.size) (o:=.own (s.heap.objs.size+1)) (h':=s.heap.push emptyDict) (t':=s.toks) (fun b u q=>Heap.get?_push_of_some _ q) (Nat.le_refl _) ⟨_,e1⟩
 refine I1.laid (a:=s.heap.objs.size+1) (o:=.ins C s.heap.objs.size []) (t':=s.toks) (fun b u q=>Heap.get?_push_of_some _ q) (Nat.le_of_eq (Heap.size_push _ _)) ?_
 have ne:s.heap.objs.size≠s.heap.objs.size+1:=Nat.ne_of_lt (Nat.lt_succ_self _)
 refine ⟨by rw [aO ne,aA],Nat.zero_le _,ne,e2,fun _=>none,(Heap.Ns1.of_empty e3).at fun o q=>Heap.get?_push_of_some _ q,fun _=>True.intro,fun y hy=>absurd rfl hy⟩
theorem AV2 {prog:Program}{w:World}{env:Env}{e:Expr}{f:Str}{pos:Pos}{s:Shared}{Q:Value->Shared->Prop}(hb:attributeBase e f env (eval e env)=eval e env)(h:wpAny (model prog w) A (eval e env) (fun o s₁=>wpAny (model prog w) A (getAttr o f true) Q E s₁) E s):wpAny (model prog w) A (eval (.Attribute e f pos) env) Q E s :=
 Attribute_any_ h (by rw [arm_eval_Attribute,hb])
end
def BI2 (K:Frag)(ta:TE)(f:Str):TE:=fun σ H Q=>ta σ H fun x H1=>∃ a C dx fs v,x=.ref a/\H1 a=some (.ins C dx fs)/\Cls K C/\NoAttr K C f/\fs.lookup f=some v/\Q v H1
def BM7 (K:Frag)(ta tv:TE)(f:Str):TS:=fun D σ H=>tv σ H fun y H1=>ta σ H1 fun x H2=>∃ a C dx fs,x=.ref a/\H2 a=some (.ins C dx fs)/\Cls K C/\NoAttr K C f/\fs.length < 1000 /\
 D.nx σ (upd H2 a (.ins C dx (lX f y fs)))
section
variable {X:Cx}{o e value:Expr}{f:Str}{pos pos' tpos:Pos}{ta tv:TE}
theorem eK (he:PE X e ta)(hb:attributeBase e f X.env (eval e X.env)=eval e X.env):PE X (.Attribute e f pos) (BI2 X.K ta f):=by
 intro pins s σ H Q I h
 refine AV2 hb (thn (he pins s σ H _ I h) fun u s1 ⟨x,H1,I1,rx,a,C,dx,fs,v,ex,ea,c,n,l,q⟩=>?_)
 subst ex
 obtain rfl:u=Value.ref a:=rx
 exact zT I1 ea c n l fun u' s2 I2 ru=>⟨v,H1,I2,ru,q⟩
theorem fH (ha:PE X o ta)(hv:PE X value tv)(hs:swapsWith value (some (.Attribute o f pos')) pos.line X.env=pure false):PS X (.Assign [.Attribute o f pos'] value pos) (BM7 X.K ta tv f):=by
 intro pins s σ H D I h
 refine plainObj_wpAny_Assign_Attribute (thn (hv pins s σ H _ I h) fun u s1 ⟨y,H1,I1,ry,q⟩=>thn (ha pins s1 σ H1 _ I1 q) fun ov s2 ⟨x,H2,I2,rx,a,C,dx,fs,ex,ea,c,n,l,q2⟩=>?_) hs
 subst ex
 obtain rfl:ov=Value.ref a:=rx
 exact zU I2 ea c n l ry fun s3 I3=>⟨σ,_,I3,q2⟩
end
section
variable {X:Cx}{pins:List (Addr × Obj)}{σ:St}{H:Hp}{s:Shared}{A:Around}{E:Value->Shared->Prop}{Q:Value->Shared->Prop}{c:Value}{b:Bool}
inductive TyOf (K:Frag) (H:Hp):V->Value->Prop where
 | non:TyOf K H .non (.type "NoneType")
 | bl (x:Bool):TyOf K H (.bl x) (.type "bool")
 | int (i:Int):TyOf K H (.int i) (.type "int")
 | str (x:Str):TyOf K H (.str x) (.type "str")
 | flt (x:UInt64):TyOf K H (.flt x) (.type "float")
 | lst {a:Addr}{xs:List V}(e:H a=some (.lst xs)):TyOf K H (.ref a) (.type "list")
 | frz {a:Addr}{o:Obj}{xs:List V}(e:H a=some (.frz o (.lst xs))):TyOf K H (.ref a) (.type "list")
 | tup {a:Addr}{xs:List V}(e:H a=some (.tup xs)):TyOf K H (.ref a) (.type "tuple")
 | dK {a:Addr}{kvs:List (Key × V)}(e:H a=some (.dK kvs)):TyOf K H (.ref a) (.type "dict")
 | dT {a:Addr}{kvs:List (List Key × V)}(e:H a=some (.dT kvs)):TyOf K H (.ref a) (.type "dict")
 | ins {a C dx:Addr}{fs:List (Str × V)}(e:H a=some (.ins C dx fs)) (cl:Cls K C) (ha:findIn K (.ref C) "__class__"=some (some (.builtin "object.__class__")))
   (hn:specialIn K (.builtin "object.__class__") "__get__"=some (some (.builtin "getset_descriptor.__get__"))) (htk:takesIn K (.builtin "object.__class__")=some true)
   (hm:mroIn K C (.type "object")=some true):TyOf K H (.ref a) (.ref C)
theorem pZ {x:V}{u t:Value}(I:Inv X pins σ H s)(rx:RelV x u)(ty:TyOf X.K H x t)(e:kitOne X.K t c=some b)(h:∀ tk,Q (.bool b) { s with toks:=tk }) :
  wpAny (model X.prog X.w) A (call (.builtin "isinstance") [u,c]) Q E s:=by
 cases ty with
 | non=>cases (show u=Value.none from rx); exact kia_one kitx_none I.kIn True.intro e (fun z=>nomatch z) h
 | bl y=>cases (show u=Value.bool y from rx); exact kia_one kitx_bool I.kIn True.intro e (fun z=>nomatch z) h
 | int i=>obtain ⟨t,q⟩:=(show ∃ t,u=Value.int i t from rx); cases q; exact kia_one kitx_int I.kIn True.intro e (fun z=>nomatch z) h
 | str y=>obtain ⟨t,q⟩:=(show ∃ t,u=Value.str y t from rx); cases q; exact kia_one kitx_str I.kIn True.intro e (fun z=>nomatch z) h
 | flt y=>obtain ⟨t,q⟩:=(show ∃ t,u=Value.float y t from rx); cases q; exact kia_one kitx_float I.kIn True.intro e (fun z=>nomatch z) h
 | @lst a xs ea =>
  cases (show u=Value.ref a from rx)
  obtain ⟨_,_,n,_,h1⟩:=(show ObjOk X.prog X.w H s.heap a (.lst xs) from I.hok a _ ea)
  exact kia_one kitx_list I.kIn ⟨_,h1,rfl⟩ e (fun z=>nomatch z) h
 | @frz a ob xs ea =>
  cases (show u=Value.ref a from rx)
  obtain ⟨_,_,_,n,_,h1⟩:=(show ObjOk X.prog X.w H s.heap a (.frz ob (.lst xs)) from I.hok a _ ea)
  exact kia_one kitx_list I.kIn ⟨_,h1,rfl⟩ e (fun z=>nomatch z) h
 | @tup a xs ea =>
  cases (show u=Value.ref a from rx)
  obtain ⟨_,_,_,p⟩:=(show ObjOk X.prog X.w H s.heap a (.tup xs) from I.hok a _ ea)
  obtain ⟨o,h1,h2,_⟩:=p
  exact kia_one kitx_tuple I.kIn ⟨o,h1,h2⟩ e (fun z=>nomatch z) h
 | @dK a kvs ea =>
  cases (show u=Value.ref a from rx)
  obtain ⟨_,_,vs,_,p⟩:=(show ObjOk X.prog X.w H s.heap a (.dK kvs) from I.hok a _ ea)
  obtain ⟨o,es,ep,h1,h2,_⟩:=p
  exact kia_one kitx_dict I.kIn ⟨o,h1,h2.1⟩ e (fun z=>nomatch z) h
 | @dT a kvs ea =>
  cases (show u=Value.ref a from rx)
  obtain ⟨_,_,xs,_,o,es,ep,h1,h2,_⟩:=(show ObjOk X.prog X.w H s.heap a (.dT kvs) from I.hok a _ ea)
  exact kia_one kitx_dict I.kIn ⟨o,h1,h2.1⟩ e (fun z=>nomatch z) h
 | @ins a C dx fs ea cl ha hn htk hm =>
  cases (show u=Value.ref a from rx)
  obtain ⟨mA,O,_⟩:=pY I.hok ea
  obtain ⟨od,J,_⟩:=O.look
  exact kia_one (kitx_own (cl.get _) cl.hd ha hn htk hm) I.kIn J e (fun z=>nomatch z) h
end
structure Room (k:Nat) (A:Around):Prop where
 hd:A.handled=none
 dp:A.depth+3 * k+5 < recursionLimit
 un:A.units+16 * k+200 < cLine
theorem Room.mono {j k:Nat}{A:Around}(r:Room k A)(h:j<=k):Room j A:=⟨r.hd,by have:=r.dp; omega,by have:=r.un; omega⟩
theorem Room.deeper {k:Nat}{A:Around}(r:Room (k+1) A)(env:Env):Room k (A.deeper env) :=
 ⟨r.hd,by have:=r.dp; show A.depth+1+3 * k+5 < _; omega,by have:=r.un; show A.units+3+16 * k+200 < _; omega⟩
theorem zV {A:Around}{C:Addr}{us:List Value}{kw:List (Str × Value)}:(A.under (.builtin "type.__call__" ⟨.ref C::us,kw⟩)).depth=A.depth+1:=by
 first | rfl | simp [Around.under,Code.weight,Code.isCreation,Code.isGuard,Code.isCaller,Code.frames,Code.isFrame,guardIds]
theorem zW {A:Around}{C:Addr}{us:List Value}{kw:List (Str × Value)}:(A.under (.builtin "type.__call__" ⟨.ref C::us,kw⟩)).units=A.units+1:=by
 first | rfl | simp [Around.under,Code.cUnits,Code.frames,Code.isFrame]
theorem Room.make {k:Nat}{A:Around}(r:Room (k+1) A)(C:Addr)(us:List Value)(kw:List (Str × Value)):Room k (A.under (.builtin "type.__call__" ⟨.ref C::us,kw⟩)) :=
 ⟨r.hd,by have:=r.dp; rw [zV]; omega,by have:=r.un; rw [zW]; omega⟩
theorem Room.depth {k:Nat}{A:Around}(r:Room k A):A.depth < recursionLimit:=by have:=r.dp; omega
theorem Room.units {k:Nat}{A:Around}(r:Room k A):A.units+64 < cLine:=by have:=r.un; omega
def BB0:TA:=fun _ H Q=>Q [] H
def AM9 (ta:TE)(tr:TA):TA:=fun σ H Q=>ta σ H fun x H1=>tr σ H1 fun xs H2=>Q (x::xs) H2
section
variable {X:Cx}{e:Expr}{es:List Expr}{te:TE}{t:TA}{pos:Pos}
theorem BD7:PA X [] BB0:=fun _ _ _ _ H Q I h=>Calls.spliced_nil ⟨[],H,I,.nil,h⟩
theorem AV3 (ha:PE X e te)(hr:PA X es t)(hs:starEach (e::es) X.env=(false,eval e X.env)::starEach es X.env:=by rfl):PA X (e::es) (AM9 te t):=by
 intro pos pins s σ H Q I h
 rw [hs]
 show wpAny _ _ (spliced ((false,eval e X.env)::backTo pos (starEach es X.env))) _ _ s
 refine Calls.spliced_cons (thn (ha pins s σ H _ I h) fun u s1 ⟨x,H1,I1,r1,q1⟩=>?_)
 exact thn (hr pos pins s1 σ H1 _ I1 q1) fun us s2 ⟨xs,H2,I2,r2,q2⟩=>⟨x::xs,H2,I2,.cons r1 r2,q2⟩
def BM8 (t:TA):TE:=fun σ H Q=>t σ H fun xs H1=>xs.length<=sizeLine/\∀ p,H1 p=none->Q (.ref p) (upd H1 p (.tup xs))
def BI3 (t:TA):TE:=fun σ H Q=>t σ H fun xs H1=>xs.length<=sizeLine/\∀ p,H1 p=none->Q (.ref p) (upd H1 p (.lst xs))
theorem iJ {x1}(h:PA X es t):PE X (.Tuple es x1 pos) (BM8 t):=by
 intro pins s σ H Q I hq
 refine wpAny_Tuple_spliced (thn (h pos pins s σ H _ I hq) fun us s1 ⟨xs,H1,I1,r,z,q⟩=>⟨by rw [<- r.length]; exact z,?_⟩)
 have hf:H1 s1.heap.objs.size=none:=I1.hok.fresh (Nat.le_refl _)
 refine ⟨.ref s1.heap.objs.size,upd H1 s1.heap.objs.size (.tup xs),I1.laid (t':=s1.toks) (fun b u e=>Heap.get?_push_of_some _ e) (Nat.le_refl _) ?_,rfl,q _ hf⟩
 exact ⟨z,us,r,⟨_,Heap.get?_push_size _ rfl,rfl,_,rfl⟩⟩
theorem fI (h:PA X es t):PE X (.List es pos) (BI3 t):=by
 intro pins s σ H Q I hq
 refine wpAny_List_spliced (thn (h pos pins s σ H _ I hq) fun us s1 ⟨xs,H1,I1,r,z,q⟩=>⟨by rw [<- r.length]; exact z,?_⟩)
 have hf:H1 s1.heap.objs.size=none:=I1.hok.fresh (Nat.le_refl _)
 refine ⟨.ref s1.heap.objs.size,upd H1 s1.heap.objs.size (.lst xs),I1.laid (t':=s1.toks) (fun b u e=>Heap.get?_push_of_some _ e) (Nat.le_refl _) ?_,rfl,q _ hf⟩
 exact ⟨z,us,0,r,Heap.get?_push_size _ rfl⟩
end
abbrev Sp:=List V->Hp->VK->XK->Prop
abbrev CXT:=List Env->Hp->Shared->XK->Value->Shared->Prop
structure Env0 (P:Program) (w:World) (K:Frag) (mg:Str->Option Value) (base:Heap) (A:Around) (outer:List Env) (s:Shared) (H:Hp):Prop where
 frames:A.frames=some outer
 mod:Mod K mg base
 bs:∀ b o,base.get? b=some o->s.heap.get? b=some o/\H b=none
 bsz:base.objs.size<=s.heap.objs.size
 funs:s.heap.FunFrames base outer
 frf:∀ b∈frs outer,H b=none
 hok:HOk P w H s.heap
 bare:AllBare s.gens
def CE (outer:List Env)(P:Program)(w:World)(H:Hp)(s:Shared)(Q:VK)(u:Value)(s':Shared):Prop :=
 ∃ v H',s'.os=s.os/\AllBare s'.gens/\Un (frs outer) [] H H' s.heap s'.heap/\HOk P w H' s'.heap/\RelV v u/\Q v H'
def CR (CX:CXT)(outer:List Env)(P:Program)(w:World)(H:Hp)(s:Shared)(Q:VK)(E:XK)(r:Result)(s':Shared):Prop :=
 match r with
 | .ok (.ret u)=>CE outer P w H s Q u s'
 | .ok _=>False
 | .error e=>CX outer H s E e s'
structure FnOk (P:Program) (w:World) (K:Frag) (mg:Str->Option Value) (base:Heap) (CX:CXT) (k:Nat) (f:Addr) (fd:FuncData) (ps:List Str) (sp:Sp):Prop where
 len:∀ vs H Q E,sp vs H Q E->vs.length=ps.length
 run:∀ (A:Around) (outer:List Env) (s:Shared) (H:Hp) (args:Args) (us:List Value) (vs:List V) (Q:VK) (E:XK),Room k A->Env0 P w K mg base A outer s H->BindsTo s fd args (ps.zip us)->Vals vs us->sp vs H Q E ->
  codeAny (model P w) A (.call (.ref f) args) (CR CX outer P w H s Q E) s
theorem Env0.make {P:Program}{w:World}{K:Frag}{mg:Str->Option Value}{base:Heap}{A:Around}{outer:List Env}{s:Shared}{H:Hp}(e:Env0 P w K mg base A outer s H)(C:Addr)(us:List Value)(kw:List (Str × Value)) :
  Env0 P w K mg base (A.under (.builtin "type.__call__" ⟨.ref C::us,kw⟩)) outer s H:=⟨by first | exact e.frames | (simpa [Around.under,Code.envs,Code.isFrame,pushEnvs] using e.frames),e.mod,e.bs,e.bsz,e.funs,e.frf,e.hok,e.bare⟩
section
variable {X:Cx}{pins:List (Addr × Obj)}{σ:St}{H:Hp}{s s':Shared}
theorem Inv.env0 (I:Inv X pins σ H s):Env0 X.prog X.w X.K X.mg X.base X.A X.stack s H :=
 ⟨I.ok.frames,I.ok.mod,I.bs,Nat.le_trans I.ok.bsz I.sz,I.stack,I.stkFree,I.hok,I.bare⟩
theorem Inv.after {Q:VK}{u:Value}(I:Inv X pins σ H s)(h:CE X.stack X.prog X.w H s Q u s'):EP X pins σ Q u s':=by
 obtain ⟨v,H',os,bare,un,hok,r,q⟩:=h
 obtain ⟨hh,g,d,t,os'⟩:=s'
 obtain rfl:os'=s.os:=os
 exact ⟨v,H',I.call (h':=hh) (g':=g) (d':=d) (t':=t) (ch:=[]) un hok bare (fun b z=>absurd z (by simp)),r,q⟩
end
def AN0 (sp:Sp)(dvs:List V)(E:XK)(t:TA):TE:=fun σ H Q=>t σ H fun vs H1=>sp (vs++dvs) H1 Q E
def zX (C:Addr)(sp:Sp)(dvs:List V)(E:XK)(t:TA):TE:=fun σ H Q=>t σ H fun vs H1=>∀ x dx,H1 x=none->H1 dx=none->dx≠x ->
 sp (.ref x::(vs++dvs)) (upd (upd H1 dx (.own x)) x (.ins C dx [])) (fun v H2=>v=.non/\Q (.ref x) H2) E
def Binds (K:Frag)(fd:FuncData)(ps:List Str)(ds:List Value):Prop :=
 ∀ (s:Shared) (us:List Value),K.In s.heap->(us++ds).length=ps.length->BindsTo s fd ⟨us,[]⟩ (ps.zip (us++ds))
theorem Binds.all {K:Frag}{fd:FuncData}{ps:List Str}(h:∀ us:List Value,us.length=ps.length->bindArgs fd ⟨us,[]⟩=pure (ps.zip us)):Binds K fd ps []:=fun s us _ hl=>by
 rw [List.append_nil] at hl ⊢
 exact .of_eq (h us hl)
def jE (CX:CXT)(X:Cx)(E:XK):Prop:=∀ (pins:List (Addr × Obj)) (σ:St) (H:Hp) (s:Shared) (e:Value) (s':Shared),Inv X pins σ H s->CX X.stack H s E e s'->X.xe e s'
section
variable {X:Cx}{CX:CXT}{k:Nat}{f C:Addr}{fd:FuncData}{ps:List Str}{sp:Sp}{dvs:List V}{ds:List Value}{E:XK}{x m:Str}{p pos apos:Pos}{e o:Expr}{es:List Expr}{ta:TE}{t:TA}
theorem AD3 {pins:List (Addr × Obj)}{σ:St}{H:Hp}{s:Shared}{Q:VK}{us:List Value}{vs:List V}(F:FnOk X.prog X.w X.K X.mg X.base CX k f fd ps sp)(hr:Room k X.A)(hb:Binds X.K fd ps ds)(hd:Vals dvs ds)(hx:jE CX X E)(I:Inv X pins σ H s)(r:Vals vs us)(h:sp (vs++dvs) H Q E):wpAny (model X.prog X.w) X.A (call (.ref f) us) (EP X pins σ Q) X.xe s:=by
 have r2:Vals (vs++dvs) (us++ds):=r.append hd
 have hl:(us++ds).length=ps.length:=by rw [<- r2.length]; exact F.len _ _ _ _ h
 refine wpAny_call (codeAny_mono (F.run X.A X.stack s H ⟨us,[]⟩ (us++ds) (vs++dvs) Q E hr I.env0 (hb s us I.kIn hl) r2 h) fun r s' hq=>?_)
 cases r with
 | error e=>exact hx pins σ H s e s' I hq
 | ok fl =>
  cases fl with
  | ret u=>exact I.after hq
  | next=>exact False.elim hq
  | brk=>exact False.elim hq
  | cont=>exact False.elim hq
theorem AV4 (F:FnOk X.prog X.w X.K X.mg X.base CX k f fd ps sp)(hr:Room k X.A)(hg:Gl X x)(hm:X.mg x=some (.ref f))(hk:keepIn X.K (.ref f)=true)(hb:Binds X.K fd ps ds)(hd:Vals dvs ds)(hx:jE CX X E)(ha:PA X (e::es) t)(hdb:(x == ("__debug__":Str))=false:=by decide)(he:starEach (e::es) X.env=(false,eval e X.env)::starEach es X.env:=by rfl)(hpl:(backTo pos (starEach es X.env)).any (·.1)=false:=by rfl) :
  PE X (.Call (.Name x p) (e::es) [] pos) (AN0 sp dvs E t):=by
 intro pins s σ H Q I h
 refine wpAny_Call_Name_kw (pR I hg hm ?_ hdb)
 refine callWith_K (h₀:=X.base) I.ok.mod.kin hk (thn (ha pos pins s σ H _ I h) fun us s1 ⟨vs,H1,I1,r,q⟩=>⟨I1.kIn,?_⟩) he hpl
 exact AD3 F hr hb hd hx I1 r q
structure Mk (K:Frag) (C f:Addr):Prop where
 makes:makesIn K C=true
 init:findIn K (.ref C) "__init__"=some (some (.ref f))
 fn:isFn K (.ref f)=true
 kp:keepIn K (.ref C)=true
theorem yN {pins:List (Addr × Obj)}{σ:St}{H:Hp}{s:Shared}{Q:VK}{us:List Value}{vs:List V}(M:Mk X.K C f)(F:FnOk X.prog X.w X.K X.mg X.base CX k f fd ps sp)(hr:Room (k+1) X.A)(hb:Binds X.K fd ps ds)(hd:Vals dvs ds)(hx:jE CX X E)(I:Inv X pins σ H s)(r:Vals vs us)(h:∀ x dx,H x=none->H dx=none->dx≠x->sp (.ref x::(vs++dvs)) (upd (upd H dx (.own x)) x (.ins C dx [])) (fun v H2=>v=.non/\Q (.ref x) H2) E) :
  wpAny (model X.prog X.w) X.A (call (.ref C) us) (EP X pins σ Q) X.xe s:=by
 have hq:=h (s.heap.objs.size+1) s.heap.objs.size (I.hok.fresh (Nat.le_succ _)) (I.hok.fresh (Nat.le_refl _)) (Nat.ne_of_lt (Nat.lt_succ_self _))
 have I2:=Inv.made (C:=C) I
 have r2:Vals (V.ref (s.heap.objs.size+1)::(vs++dvs)) (Value.ref (s.heap.objs.size+1)::(us++ds)):=.cons rfl (r.append hd)
 have hl:(Value.ref (s.heap.objs.size+1)::us++ds).length=ps.length:=by
  have e:=r2.length
  rw [F.len _ _ _ _ hq] at e
  exact e.symm
 refine wpAny_call (AM8 (f:=f) I.kIn M.makes M.init (beq_iff_eq.mp M.fn) (codeAny_mono (F.run _ X.stack _ _ ⟨Value.ref (s.heap.objs.size+1)::us,[]⟩ (Value.ref (s.heap.objs.size+1)::(us++ds)) _ _ E (hr.make C us [])
  (I2.env0.make C us []) (hb _ (Value.ref (s.heap.objs.size+1)::us) I2.kIn hl) r2 hq) fun r s' hq'=>?_))
 cases r with
 | error e=>exact hx pins σ _ _ e s' I2 hq'
 | ok fl =>
  cases fl with
  | ret u =>
   obtain ⟨v,H',I3,rv,ev,q3⟩:=I2.after hq'
   subst ev
   exact ⟨rv,⟨V.ref (s.heap.objs.size+1),H',I3,rfl,q3⟩⟩
  | next=>exact False.elim hq'
  | brk=>exact False.elim hq'
  | cont=>exact False.elim hq'
theorem AD4 (M:Mk X.K C f)(F:FnOk X.prog X.w X.K X.mg X.base CX k f fd ps sp)(hr:Room (k+1) X.A)(hg:Gl X x)(hm:X.mg x=some (.ref C))(hb:Binds X.K fd ps ds)(hd:Vals dvs ds)(hx:jE CX X E)(ha:PA X (e::es) t)(hdb:(x == ("__debug__":Str))=false:=by decide)(he:starEach (e::es) X.env=(false,eval e X.env)::starEach es X.env:=by rfl)(hpl:(backTo pos (starEach es X.env)).any (·.1)=false:=by rfl) :
  PE X (.Call (.Name x p) (e::es) [] pos) (zX C sp dvs E t):=by
 intro pins s σ H Q I h
 refine wpAny_Call_Name_kw (pR I hg hm ?_ hdb)
 refine callWith_K (h₀:=X.base) I.ok.mod.kin M.kp (thn (ha pos pins s σ H _ I h) fun us s1 ⟨vs,H1,I1,r,q⟩=>⟨I1.kIn,?_⟩) he hpl
 exact yN M F hr hb hd hx I1 r q
theorem AN1 (M:Mk X.K C f)(F:FnOk X.prog X.w X.K X.mg X.base CX k f fd ps sp)(hr:Room (k+1) X.A)(hg:Gl X x)(hm:X.mg x=some (.ref C))(hb:Binds X.K fd ps ds)(hd:Vals dvs ds)(hx:jE CX X E)(hdb:(x == ("__debug__":Str))=false:=by decide):PE X (.Call (.Name x p) [] [] pos) (zX C sp dvs E BB0):=by
 intro pins s σ H Q I h
 refine wpAny_Call_Name_kw (pR I hg hm ?_ hdb)
 exact callWith_K0 I.kIn M.kp (yN (us:=[]) M F hr hb hd hx I .nil h)
end
section
variable {X:Cx}{CX:CXT}{k:Nat}{f C:Addr}{fd:FuncData}{ps ks:List Str}{sp:Sp}{E:XK}{x m:Str}{p pos apos kpos:Pos}{e o:Expr}{es:List Expr}{kws:List Keyword}{te ta:TE}{t tk:TA}{nm:Option Str}
structure KBinds (K:Frag) (fd:FuncData) (ps ks:List Str) (g:List Value->List Value->List Value) (gV:List V->List V->List V):Prop where
 to:∀ (s:Shared) (us ws:List Value),K.In s.heap->(g us ws).length=ps.length->BindsTo s fd ⟨us,ks.zip ws⟩ (ps.zip (g us ws))
 rel:∀ {vs:List V}{us:List Value}{zs:List V}{ws:List Value},Vals vs us->Vals zs ws->Vals (gV vs zs) (g us ws)
variable {g:List Value->List Value->List Value}{gV:List V->List V->List V}
end
structure FnScope (N P:List Str) (sc:Scope):Prop where
 kind:sc.kind=.function
 co:sc.isCoroutine=false
 gen:sc.isGenerator=false
 nd:N.Nodup
 pre:N.take P.length=P
 par:∀ x∈P,sc.names.lookup x=some .local\/sc.names.lookup x=some .cell
 nofree:∀ y∈sc.names,y.2≠.free
theorem uZ {kindOf:Str->Option NameKind}{x:Str}:∀ {binds:List (Str × Value)}{m:Str->Option Value},(∀ v,(x,v) ∉ binds)->bindL kindOf binds m x=m x
 | [],_,_=>rfl
 | (n,v)::r,m,h=>by
  unfold bindL
  rw [uZ fun w hw=>h w (List.mem_cons_of_mem _ hw)]
  split
  ·have:x≠n:=by rintro rfl; exact h v List.mem_cons_self
   simp [this]
  ·rfl
theorem vA {kindOf:Str->Option NameKind}{x:Str}:∀ {binds:List (Str × Value)}{m:Str->Option Value},(∀ v,(x,v) ∉ binds)->bindC kindOf binds m x=m x
 | [],_,_=>rfl
 | (n,v)::r,m,h=>by
  unfold bindC
  rw [vA fun w hw=>h w (List.mem_cons_of_mem _ hw)]
  split
  ·rfl
  ·have:x≠n:=by rintro rfl; exact h v List.mem_cons_self
   simp [this]
theorem vB {kindOf:Str->Option NameKind}{x:Str}{v:Value}:∀ {P:List Str}{vs:List Value}{i:Nat}{m:Str->Option Value},P.Nodup->P[i]?=some x->vs[i]?=some v->kindOf x=some .local ->
  bindL kindOf (P.zip vs) m x=some v
 | [],_,_,_,_,h,_,_=>by simp at h
 | _::_,[],_,_,_,_,h,_=>by simp at h
 | p::P,w::vs,0,m,nd,h1,h2,hk=>by
  simp at h1 h2; subst h1; subst h2
  show bindL kindOf ((p,w)::P.zip vs) m p=_
  unfold bindL
  rw [uZ fun v hv=>(List.nodup_cons.mp nd).1 (List.of_mem_zip hv).1,if_pos hk]
  simp
 | p::P,w::vs,i+1,m,nd,h1,h2,hk=>by
  show bindL kindOf ((p,w)::P.zip vs) m x=_
  unfold bindL
  exact vB (i:=i) (List.nodup_cons.mp nd).2 (by simpa using h1) (by simpa using h2) hk
theorem vC {kindOf:Str->Option NameKind}{x:Str}{v:Value}:∀ {P:List Str}{vs:List Value}{i:Nat}{m:Str->Option Value},P.Nodup->P[i]?=some x->vs[i]?=some v->kindOf x≠some .local ->
  bindC kindOf (P.zip vs) m x=some v
 | [],_,_,_,_,h,_,_=>by simp at h
 | _::_,[],_,_,_,_,h,_=>by simp at h
 | p::P,w::vs,0,m,nd,h1,h2,hk=>by
  simp at h1 h2; subst h1; subst h2
  show bindC kindOf ((p,w)::P.zip vs) m p=_
  unfold bindC
  rw [vA fun v hv=>(List.nodup_cons.mp nd).1 (List.of_mem_zip hv).1,if_neg hk]
  simp
 | p::P,w::vs,i+1,m,nd,h1,h2,hk=>by
  show bindC kindOf ((p,w)::P.zip vs) m x=_
  unfold bindC
  exact vC (i:=i) (List.nodup_cons.mp nd).2 (by simpa using h1) (by simpa using h2) hk
def vD (N:List Str)(vs:List V):St:=vs.map some++List.replicate (N.length - vs.length) none
def AS2 (CX:CXT)(P:Program)(w:World)(K:Frag)(mg:Str->Option Value)(base:Heap)(N:List Str)(qual:Str)(scope:Scope)(f:Addr)(cd:Value)(A:Around)(outer:List Env)(s:Shared)(H:Hp)(E:XK):Cx where
 prog:=P
 w:=w
 K:=K
 mg:=mg
 base:=base
 A:=A.deeper (envOfC qual scope s.heap.objs.size f cd)
 N:=N
 s₀:=s
 H₀:=H
 env:=envOfC qual scope s.heap.objs.size f cd
 outer:=outer
 stack:=envOfC qual scope s.heap.objs.size f cd::outer
 ex:=[]
 calm:=true
 fn:=fun _=>true
 pn:=[]
 xe:=fun e s'=>wpAny (model P w) (A.deeper (envOfC qual scope s.heap.objs.size f cd)) (leaving (envOfC qual scope s.heap.objs.size f cd) e) (fun _ s''=>CX outer H s E e s'') (fun e' s''=>CX outer H s E e' s'') s'
theorem yO {sc:Scope}{n:Nat}{x:Str}(h:sc.names.lookup x=some .cell):∃ c,(cellsFrom n sc.names []).lookup x=some c:=by
 have q:=cellsFrom_some sc.names n [] (.inl h)
 exact Option.isSome_iff_exists.mp q
theorem AD5 {CX:CXT}{P:Program}{w:World}{K:Frag}{mg:Str->Option Value}{base:Heap}{N ps:List Str}{qual:Str}{scope:Scope}{f:Addr}{cd:Value}{A:Around}{outer:List Env}{s s1:Shared}{H:Hp}{E:XK}{us:List Value}{vs:List V}(S:FnScope N ps scope)(hd:A.handled=none)(e0:Env0 P w K mg base A outer s H)(hl:vs.length=ps.length)(r:Vals vs us)(x:InCallC s s.heap.objs.size (bindL (envOfC qual scope s.heap.objs.size f cd).kindOf (ps.zip us) fun _=>none) (cellsFrom (s.heap.objs.size+1) scope.names []) (bindC (envOfC qual scope s.heap.objs.size f cd).kindOf (ps.zip us) fun _=>none) s1) :
  Inv (AS2 CX P w K mg base N qual scope f cd A outer s H E) [] (vD N vs) H s1:=by
 have hpl:ps.length<=N.length:=by have:=congrArg List.length S.pre; rw [List.length_take] at this; omega
 obtain ⟨h1,tk,rfl,hk⟩:=x.done
 have noA:∀ b:Addr,b ∉ (AS2 CX P w K mg base N qual scope f cd A outer s H E).ex:=fun b z=>absurd (show b∈([]:List Addr) from z) (by simp)
 refine ⟨⟨e0.mod,S.kind,rfl,rfl,Nat.le_refl _,fun y z c h1 h2=>?_,fun y hy=>?_,fun y c _ h=>?_,fun _=>hd,Around.frames_deeper e0.frames,.inr ⟨rfl,rfl⟩,fun b z=>absurd z (noA b),e0.bs,e0.bsz,fun b _ _=>noA b,fun b z=>absurd z (noA b),e0.funs,e0.frf⟩,
  rfl,e0.bare,Un.kept hk,⟨_,x.toInCall.ns,fun i y v h1 h2 h3=>?_⟩,fun y c h=>⟨_,x.cell y c h⟩,e0.hok.fresh (Nat.le_refl _),fun y c h=>?_,fun p hp=>absurd (show p∈([]:List (Addr × Obj)) from hp) (by simp),e0.hok.kept hk,?_⟩
 ·exact name_of_addr x.apart (PySem.mem_of_lookup h1) (PySem.mem_of_lookup h2)
 ·have hy:scope.names.lookup y=some .cell\/scope.names.lookup y=some .free:=hy
  rcases hy with hy | hy
  ·exact yO hy
  ·exact absurd rfl (S.nofree _ (PySem.mem_of_lookup hy))
 ·exact Nat.le_of_lt (x.above y c (PySem.mem_of_lookup h))
 ·have hi:i < vs.length:=by
   unfold vD at h2
   by_cases hi:i < vs.length
   ·exact hi
   ·rw [List.getElem?_append_right (by simpa using hi)] at h2
    rw [List.getElem?_replicate] at h2
    split at h2 <;> cases h2
  have ha:vs[i]?=some v:=by
   unfold vD at h2
   rw [List.getElem?_append_left (by simpa using hi),List.getElem?_map] at h2
   cases e:vs[i]? with
   | none=>rw [e] at h2; cases h2
   | some a=>rw [e] at h2; cases h2; rfl
  obtain ⟨u,hu,rv⟩:=r.get ha
  have hp:ps[i]?=some y:=by
   rw [<- S.pre,List.getElem?_take_of_lt (by omega)]; exact h1
  have ndP:ps.Nodup:=by rw [<- S.pre]; exact S.nd.sublist (List.take_sublist _ _)
  refine ⟨u,rv,?_⟩
  rcases S.par y (List.mem_of_getElem? hp) with k | k
  ·exact .inl ⟨k,vB ndP hp hu k⟩
  ·obtain ⟨c,e⟩:=yO (n:=s.heap.objs.size+1) k
   refine .inr ⟨.inl k,c,e,?_⟩
   have q:=x.cell y c e
   rw [vC ndP hp hu (by show scope.names.lookup y≠_; rw [k]; decide)] at q
   exact q
 ·exact e0.hok.fresh (Nat.le_of_lt (x.above y c (PySem.mem_of_lookup h)))
 ·unfold vD
  show _=N.length
  rw [List.length_append,List.length_map,List.length_replicate]
  omega
theorem BD8 {CX:CXT}{P:Program}{w:World}{K:Frag}{mg:Str->Option Value}{base:Heap}{k:Nat}{f:Addr}{name qual:Str}{params:Arguments}{body:List Stmt}{scope:Scope}{dV kV doc pm cdv ct oc:Value}{an od:Option Addr}{osl:Array (Option Value)}{N ps:List Str}{sp:Sp}(lk:K.lookup f=some ⟨oc,od,.func (fnOf name qual params body scope dV kV doc pm an cdv ct),osl⟩)(hcd:codeIn K cdv qual=true)(S:FnScope N ps scope)(len:∀ vs H Q E,sp vs H Q E->vs.length=ps.length)(hbody:∀ (A:Around) (outer:List Env) (s:Shared) (H:Hp) (vs:List V) (Q:VK) (E:XK),Room k (A.deeper (envOfC qual scope s.heap.objs.size f cdv))->sp vs H Q E ->
   ∃ t,PSs (AS2 CX P w K mg base N qual scope f cdv A outer s H E) body t/\t { nx:=fun _ H'=>Q .non H',rt:=Q } (vD N vs) H) :
  FnOk P w K mg base CX (k+1) f (fnOf name qual params body scope dV kV doc pm an cdv ct) ps sp:=by
 refine ⟨len,fun A outer s H args us vs Q E hr e0 hb r hsp=>?_⟩
 have hl:=len _ _ _ _ hsp
 have KX:K.In s.heap:=e0.mod.kin.keeps fun b o e=>(e0.bs b o e).1
 have lim:s.heap.NoLimit:=e0.mod.nolimit.keeps fun b o e=>(e0.bs b o e).1
 have hkind:∀ y∈ps.zip us,scope.names.lookup y.1=some .local\/(scope.names.lookup y.1=some .cell/\((cellsFrom (s.heap.objs.size+1) scope.names []).lookup y.1).isSome=true):=fun ⟨n,v⟩ hy=>by
  rcases S.par n (List.of_mem_zip hy).1 with q | q
  ·exact .inl q
  ·exact .inr ⟨q,cellsFrom_some _ _ _ (.inl q)⟩
 refine codeAny_call_function hr.depth (KX _ _ lk) rfl S.co S.gen rfl (codeRec_of KX hcd) (hb _ _ _ _ ?_)
 refine wpAny_newFunctionEnv_cells S.kind hkind fun env he s1 x=>?_
 subst he
 refine ⟨lim.keeps x.toInCall.keep,codeAny_func ?_⟩
 obtain ⟨t,ht,hq⟩:=hbody A outer s H vs Q E (hr.deeper _) hsp
 have I:Inv (AS2 CX P w K mg base N qual scope f cdv A outer s H E) [] (vD N vs) H s1:=AD5 S hr.hd e0 hl r x
 refine wpAny_mono (ht [] s1 (vD N vs) H _ I hq) (fun fl s' hs=>?_) fun e s' hs=>hs
 have fin:∀ {σ':St}{H':Hp}{v:V}{u:Value},Inv (AS2 CX P w K mg base N qual scope f cdv A outer s H E) [] σ' H' s'->RelV v u->Q v H'->CE outer P w H s Q u s' :=
  fun {σ' H' v u} J rv q=>⟨v,H',J.os,J.bare,J.base,J.hok,rv,q⟩
 cases fl with
 | ret u =>
  obtain ⟨v,σ',H',J,rv,q⟩:=hs
  exact fin J rv q
 | next =>
  obtain ⟨σ',H',J,q⟩:=hs
  exact fin (v:=V.non) (u:=Value.none) J rfl q
 | brk =>
  obtain ⟨_,_,_,q⟩:=hs
  exact False.elim q
 | cont =>
  obtain ⟨_,_,_,q⟩:=hs
  exact False.elim q
section
variable {X:Cx}{x:Str}{p pos:Pos}{e:Expr}{es:List Expr}{t:TA}{id T:String}{r:List V->Hp->VK->Prop}
def tCB (r:List V->Hp->VK->Prop)(t:TA):TE:=fun σ H Q=>t σ H fun vs H1=>r vs H1 Q
theorem aT (hc:iH X (.builtin id) r)(hg:Gl X x)(hm:X.mg x=none)(hv:bootBuiltins x=some (.builtin id))(ha:PA X (e::es) t)(hn:x≠"__name__":=by decide)(hdb:(x == ("__debug__":Str))=false:=by decide)(he:starEach (e::es) X.env=(false,eval e X.env)::starEach es X.env:=by rfl)(hpl:(backTo pos (starEach es X.env)).any (·.1)=false:=by rfl):PE X (.Call (.Name x p) (e::es) [] pos) (tCB r t):=by
 intro pins s σ H Q I h
 refine wpAny_Call_Name_kw (sF I hg hm hv ?_ hn hdb)
 exact PyProof.Rows.callWith_builtin1 (thn (ha pos pins s σ H _ I h) fun us s1 ⟨vs,H1,I1,r1,q1⟩=>hc pins s1 σ H1 vs us Q I1 r1 q1) he hpl
theorem bH (hc:iH X (.type T) r)(hg:Gl X x)(hm:X.mg x=none)(hv:bootBuiltins x=some (.type T))(ha:PA X (e::es) t)(hn:x≠"__name__":=by decide)(hdb:(x == ("__debug__":Str))=false:=by decide)(he:starEach (e::es) X.env=(false,eval e X.env)::starEach es X.env:=by rfl)(hpl:(backTo pos (starEach es X.env)).any (·.1)=false:=by rfl):PE X (.Call (.Name x p) (e::es) [] pos) (tCB r t):=by
 intro pins s σ H Q I h
 refine wpAny_Call_Name_kw (sF I hg hm hv ?_ hn hdb)
 exact PyProof.Rows.callWith_type1 (thn (ha pos pins s σ H _ I h) fun us s1 ⟨vs,H1,I1,r1,q1⟩=>hc pins s1 σ H1 vs us Q I1 r1 q1) he hpl
end
end L2
namespace HT
open PySem PyProof.Rows PySem.W
section
open PySem.SeqAt
open PySem.AutoSeq1 (wpAny_loadPart')
open PySem.MeetsSeq PySem.MeetsSeq2 PySem.MeetsSeq3
end
section
variable {prog:Program}{w:World}{A:Around}{E:Value->Shared->Prop}{s:Shared}
def sIx (n d:Nat):Option Int->Nat
 | none=>d
 | some v=>if v < 0 then (v+(n:Int)).toNat else min v.toNat n
theorem sIx_none (n d:Nat):sIx n d none=d:=rfl
theorem sIx_nat (n d k:Nat):sIx n d (some (k:Int))=min k n:=by
 show (if (k:Int) < 0 then ((k:Int)+(n:Int)).toNat else min (k:Int).toNat n)=min k n
 rw [if_neg (by omega),Int.toNat_natCast]
end
end HT
namespace L2
open PySem PySem.Spec PyProof.Rows PySem.W
abbrev TO:=St->Hp->(Option Int->Hp->Prop)->Prop
def PO (X:Cx)(e:Option Expr)(t:TO):Prop :=
 ∀ (pins:List (Addr × Obj)) (s:Shared) (σ:St) (H:Hp) (Q:Option Int->Hp->Prop),Inv X pins σ H s->t σ H Q ->
  wpAny (model X.prog X.w) X.A (evalPart e X.env) (fun u s'=>∃ o H',Inv X pins σ H' s'/\IsPart u o/\Q o H') X.xe s
def AD6:TO:=fun _ H Q=>Q none H
def BD9 (t:TE):TO:=fun σ H Q=>t σ H fun x H1=>∃ i,x=.int i/\Q (some i) H1
theorem sJ {ns:List Int}:∀ {us:List Value},Vals (ns.map V.int) us->IntsAre us ns:=by
 induction ns with
 | nil=>intro us r; rw [List.map_nil] at r; cases r; exact .nil
 | cons n ns ih =>
  intro us r
  rw [List.map_cons] at r
  cases r with
  | cons r1 r2 =>
   obtain ⟨t,e⟩:=r1
   subst e
   exact .cons n t (ih r2)
section
variable {X:Cx}{e:Expr}{te:TE}{lo hi:Option Expr}{tl th:TO}{pos p2:Pos}
theorem nM:PO X none AD6:=by
 intro pins s σ H Q I h
 rw [evalPart_none]
 exact wpAny_pure ⟨none,H,I,.none,h⟩
theorem nN (h:PE X e te):PO X (some e) (BD9 te):=by
 intro pins s σ H Q I hw
 rw [evalPart_some]
 refine thn (h pins s σ H _ I hw) fun u s1 ⟨x,H1,I1,r1,q1⟩=>?_
 obtain ⟨i,rfl,q⟩:=q1
 obtain ⟨t,rfl⟩:=r1
 exact ⟨some i,H1,I1,.int i t,q⟩
def SlR (X:Cx)(r:V->Option Int->Option Int->Hp->VK->Prop):Prop :=
 ∀ (pins:List (Addr × Obj)) (s:Shared) (σ:St) (H:Hp) (x:V) (v vl vu:Value) (lo hi:Option Int) (sl:Addr) (Q:VK),Inv X pins σ H s->RelV x v->s.heap.IsSliceOf sl vl vu .none->IsPart vl lo->IsPart vu hi->r x lo hi H Q ->
  ∃ T id,typeLookup (.type T) "__getitem__"=pure (some (.builtin id))/\s.TypeIs v T/\wpAny (model X.prog X.w) X.A (getItem v (.ref sl)) (EP X pins σ Q) X.xe s
def tSl (r:V->Option Int->Option Int->Hp->VK->Prop)(te:TE)(tl th:TO):TE:=fun σ H Q=>te σ H fun x H1=>tl σ H1 fun l H2=>th σ H2 fun u H3=>r x l u H3 Q
theorem jU {r:V->Option Int->Option Int->Hp->VK->Prop}(hr:SlR X r)(he:PE X e te)(hl:PO X lo tl)(hu:PO X hi th):PE X (.Subscript e (.Slice lo hi none p2) pos) (tSl r te tl th):=by
 intro pins s σ H Q I h
 refine Subscript_ (thn (he pins s σ H _ I h) fun v s1 ⟨x,H1,I1,r1,q1⟩=>?_)
 refine wpAny_Slice (thn (hl pins s1 σ H1 _ I1 q1) fun vl s2 ⟨l,H2,I2,pl,q2⟩=>thn (hu pins s2 σ H2 _ I2 q2) fun vu s3 ⟨u,H3,I3,pu,q3⟩=>?_)
 rw [evalPart_none]
 refine wpAny_pure ?_
 have I4:Inv X pins σ H3 { s3 with heap:=s3.heap.push { cls:=.type "slice",data:=.fields #[vl,vu,.none] } }:=I3.kept (t':=s3.toks) fun b ob q=>Heap.get?_push_of_some _ q
 obtain ⟨T,id,hT,ht,hg⟩:=hr pins { s3 with heap:=s3.heap.push { cls:=.type "slice",data:=.fields #[vl,vu,.none] } } σ H3 x v vl vu l u s3.heap.objs.size Q I4 r1 (Heap.IsSliceOf.new ..) pl pu q3
 show wpAny (model X.prog X.w) X.A (subscriptTail e (.Slice lo hi none p2) v (.ref s3.heap.objs.size)) (EP X pins σ Q) X.xe { s3 with heap:=s3.heap.push { cls:=.type "slice",data:=.fields #[vl,vu,.none] } }
 exact tail_any (ops:=[.ref s3.heap.objs.size,v]) ht hT hg (by with_unfolding_all rfl)
def BB1 (xs:List V)(lo hi:Option Int):List V:=(xs.drop (HT.sIx xs.length 0 lo)).take (HT.sIx xs.length xs.length hi - HT.sIx xs.length 0 lo)
theorem wM (xs:List V)(lo hi:Option Int):(BB1 xs lo hi).length<=xs.length:=by
 unfold BB1
 rw [List.length_take,List.length_drop]
 omega
end
def ixN (n:Nat)(i:Int):Option Nat:=if 0<=i then (if i < n then some i.toNat else none) else if -(n:Int)<=i then some (i+n).toNat else none
def atI {α:Type}(xs:List α)(i:Int):Option α:=(ixN xs.length i).bind fun j=>xs[j]?
theorem AD7 {n:Nat}{i:Int}{j:Nat}(h:ixN n i=some j):seqIndex? i n=some j/\j < n/\-(n:Int)<=i/\i < n:=by
 unfold ixN at h
 by_cases h0:0<=i
 ·rw [if_pos h0] at h
  by_cases h1:i < n
  ·rw [if_pos h1] at h
   have e:i.toNat=j:=Option.some.inj h
   exact ⟨by rw [seqIndex_of h0 h1,e],by omega,by omega,h1⟩
  ·rw [if_neg h1] at h; cases h
 ·rw [if_neg h0] at h
  by_cases h1:-(n:Int)<=i
  ·rw [if_pos h1] at h
   have e:(i+n).toNat=j:=Option.some.inj h
   exact ⟨by rw [seqIndex_neg (by omega) h1,e],by omega,h1,by omega⟩
  ·rw [if_neg h1] at h; cases h
theorem wN {α:Type}{xs:List α}{i:Int}{v:α}(h:atI xs i=some v):∃ j,seqIndex? i xs.length=some j/\xs[j]?=some v/\j < xs.length/\-(xs.length:Int)<=i/\i < xs.length:=by
 unfold atI at h
 cases e:ixN xs.length i with
 | none=>rw [e] at h; cases h
 | some j =>
  rw [e] at h
  obtain ⟨h1,h2,h3,h4⟩:=AD7 e
  exact ⟨j,h1,h,h2,h3,h4⟩
theorem wO {α:Type}{xs:List α}{j:Nat}{v:α}(h:xs[j]?=some v):atI xs (j:Int)=some v:=by
 have hj:j < xs.length:=(List.getElem?_eq_some_iff.mp h).1
 have e:ixN xs.length (j:Int)=some j:=by
  unfold ixN
  rw [if_pos (by omega),if_pos (by omega)]; simp
 unfold atI; rw [e]; exact h
def AD8 (b:Expr):Prop:=∀ o i,subscripted b false o i=operate [o,i] (getItem o i)
def IxR (X:Cx)(r:R2):Prop :=
 ∀ (value slice:Expr) (pins:List (Addr × Obj)) (s:Shared) (σ:St) (H:Hp) (x y:V) (v u:Value) (Q:VK),Inv X pins σ H s->RelV x v->RelV y u->r x y H Q ->
  subscripted slice false v u=operate [v,u] (getItem v u)->wpAny (model X.prog X.w) X.A (subscriptTail value slice v u) (EP X pins σ Q) X.xe s
def MtR (X:Cx)(id:String)(r:V->List V->Hp->VK->Prop):Prop :=
 ∀ (pins:List (Addr × Obj)) (s:Shared) (σ:St) (H:Hp) (x:V) (xs:List V) (v:Value) (us:List Value) (Q:VK),Inv X pins σ H s->RelV x v->Vals xs us->r x xs H Q ->
  wpAny (model X.prog X.w) X.A (call (.builtin id) (v::us)) (EP X pins σ Q) X.xe s
section
variable {X:Cx}{a b:Expr}{ta tb:TE}{pos:Pos}
theorem bG {r:R2}(hr:IxR X r)(ha:PE X a ta)(hb:PE X b tb)(hs:AD8 b):PE X (.Subscript a b pos) (tOp r ta tb):=by
 intro pins s σ H Q I h
 exact Subscript_ (BH9 ha hb I h fun v u s2 x y H2 I2 rx ry q=>hr a b pins s2 σ H2 x y v u Q I2 rx ry q (hs _ _))
def BM9 (K:Frag):R2:=fun x y H Q=>∃ p xs i v,x=.ref p/\y=.int i/\SqL K H p xs/\atI xs i=some v/\Q v H
def BN0 (K:Frag):R2:=fun x y H Q=>∃ p xs i v,x=.ref p/\y=.int i/\SqT K H p xs/\atI xs i=some v/\Q v H
def BN1:R2:=fun x y H Q=>∃ z i c,x=.str z/\y=.int i/\z.length<=sizeLine/\atI z.cps.toList i=some c/\Q (.str ⟨#[c]⟩) H
theorem dW:IxR X (BM9 X.K):=by
 intro value slice pins s σ H x y v u Q I rx ry h hs
 obtain ⟨p,xs,i,z,rfl,rfl,hq,he,q⟩:=h
 cases rx
 obtain ⟨t,rfl⟩:=ry
 obtain ⟨its,r,pl,hz⟩:=I.list hq
 obtain ⟨j,h1,h2,h3,h4,h5⟩:=wN he
 obtain ⟨w,ew,rw'⟩:=r.get h2
 have hl:=r.length
 have hn:=pU
 have fin:EP X pins σ Q w s:=⟨z,H,I,rw',q⟩
 by_cases h0:0<=i
 ·have hj:i.toNat=j:=by
   rw [seqIndex_of h0 h5] at h1
   exact Option.some.inj h1
  exact item_listR pl.isList h0 (by omega) (by rw [hj]; simpa using ew) fin hs
 ·have hj:(i+(its.toArray.size:Int)).toNat=j:=by
   rw [seqIndex_neg (by omega) h4] at h1
   rw [List.size_toArray,<- hl]
   exact Option.some.inj h1
  exact subscriptTail_builtinR (x:=w) pl.isList.typeIs slot_list_getitem.lookup
   (wpAny_getItem_list_neg (Q:=fun r s'=>r=w/\EP X pins σ Q r s') pl.isList (by omega) (by rw [List.size_toArray] <;> omega) (by omega) (by rw [hj]; simpa using ew) ⟨rfl,fin⟩) hs
theorem bT:IxR X (BN0 X.K):=by
 intro value slice pins s σ H x y v u Q I rx ry h hs
 obtain ⟨p,xs,i,z,rfl,rfl,hq,he,q⟩:=h
 cases rx
 obtain ⟨t,rfl⟩:=ry
 obtain ⟨its,r,pl,hz⟩:=I.tuple hq
 obtain ⟨j,h1,h2,h3,h4,h5⟩:=wN he
 obtain ⟨w,ew,rw'⟩:=r.get h2
 have hl:=r.length
 have hn:=pU
 have fin:EP X pins σ Q w s:=⟨z,H,I,rw',q⟩
 exact subscriptTail_builtinR (x:=w) pl.typeIs slot_tuple_getitem.lookup
  (getItem_tuple (j:=j) (Q:=fun r s'=>r=w/\EP X pins σ Q r s') pl (by omega) (by omega) (by rw [List.size_toArray,<- hl]; exact h1) (by simpa using ew) ⟨rfl,fin⟩) hs
theorem yP:IxR X BN1:=by
 intro value slice pins s σ H x y v u Q I rx ry h hs
 obtain ⟨z,i,c,rfl,rfl,hz,he,q⟩:=h
 obtain ⟨t,rfl⟩:=rx
 obtain ⟨t',rfl⟩:=ry
 obtain ⟨j,h1,h2,h3,h4,h5⟩:=wN he
 have hl:z.cps.toList.length=z.length:=by simp [Str.length]
 rw [hl] at h1 h4 h5
 have hn:=pU
 exact tail_any (typeIs_str s z t) slot_str_getitem.lookup (getItem_str (c:=c) (by
  have e1:decide (i < -(2 ^ 63:Int))=false:=decide_eq_false (by omega)
  have e2:decide (i >= 2 ^ 63)=false:=decide_eq_false (by omega)
  rw [e1,e2,Bool.or_false]) (by rw [h1]; simpa using h2) ⟨.str ⟨#[c]⟩,H,I.tok _,⟨_,rfl⟩,q⟩) hs
theorem zY (its:List Value)(n j:Nat)(u:Value):Obj.mapSeq (·.setIfInBounds j u) { cls:=.type "list",data:=.seq its.toArray n }={ cls:=.type "list",data:=.seq (its.set j u).toArray n }:=by
 simp [Obj.mapSeq]
theorem Inv.lst {pins:List (Addr × Obj)}{σ:St}{H:Hp}{s:Shared}{p:Addr}{xs:List V}(I:Inv X pins σ H s)(h:H p=some (.lst xs)) :
  ∃ (its:List Value) (n:Nat),Vals xs its/\s.heap.get? p=some { cls:=.type "list",data:=.seq its.toArray n }/\xs.length<=sizeLine:=by
 obtain ⟨z,its,n,r,e⟩:=I.hok p _ h
 exact ⟨its,n,r,e,z⟩
theorem Inv.lstUpd {pins:List (Addr × Obj)}{σ:St}{H:Hp}{s:Shared}{p:Addr}{xs ys:List V}{its its':List Value}{n n':Nat}{f:Obj->Obj}(I:Inv X pins σ H s)(h:H p=some (.lst xs))(ho:s.heap.get? p=some { cls:=.type "list",data:=.seq its.toArray n })(hf:f { cls:=.type "list",data:=.seq its.toArray n }={ cls:=.type "list",data:=.seq its'.toArray n' })(r:Vals ys its')(hz:ys.length<=sizeLine)(t:Nat) :
  Inv X pins σ (upd H p (.lst ys)) { s with heap:=s.heap.update p f,toks:=t }:=by
 have e:(s.heap.update p f).get? p=some { cls:=.type "list",data:=.seq its'.toArray n' }:=by
  rw [Heap.get?_update_self f ho (by rw [hf] <;> rfl),hf]
 refine I.write (x:=p) (e:=p) (by rw [h]; trivial) (.inl rfl) (fun b u hb q=>(Heap.get?_update_other _ _ (Ne.symm hb)).trans q) ⟨_,e⟩ ?_
 exact ⟨hz,its',n',r,e⟩
def BE0:V->V->V->Hp->(Hp->Prop)->Prop:=fun o i v H Q=>∃ p xs k j,o=.ref p/\i=.int k/\H p=some (.lst xs)/\ixN xs.length k=some j/\Q (upd H p (.lst (xs.set j v)))
theorem sY:BH6 X BE0:=by
 intro pins s σ H o i v ov iv u Q I ro ri rv h
 obtain ⟨p,xs,k,j,rfl,rfl,hp,hj,q⟩:=h
 cases ro
 obtain ⟨t,rfl⟩:=ri
 obtain ⟨its,n,r,ho,hz⟩:=I.lst hp
 obtain ⟨h1,h2,h3,h4⟩:=AD7 hj
 have hl:=r.length
 have hn:=pU
 have I':Inv X pins σ (upd H p (.lst (xs.set j v))) { s with heap:=s.heap.update p (Obj.mapSeq (·.setIfInBounds j u)) } :=
  I.lstUpd hp ho (zY its n j u) (r.set rv j) (by rw [List.length_set]; exact hz) s.toks
 by_cases h0:0<=k
 ·have hk:k.toNat=j:=by
   rw [seqIndex_of h0 h4] at h1
   exact Option.some.inj h1
  exact ki_setAt ho h0 (by omega) (by rw [List.size_toArray,<- hl]; exact h4) (by rw [hk]; exact ⟨_,I',q⟩)
 ·have hk:(k+(its.toArray.size:Int)).toNat=j:=by
   rw [seqIndex_neg (by omega) h3] at h1
   rw [List.size_toArray,<- hl]
   exact Option.some.inj h1
  exact ki_setBack ho (by omega) (by rw [List.size_toArray,<- hl]; exact h3) (by omega) (by rw [hk]; exact ⟨_,I',q⟩)
theorem vE (lo hi:Option Int)(n:Nat):(sliceBounds lo hi none n).1=((HT.sIx n 0 lo:Nat):Int)/\(sliceBounds lo hi none n).2.1=((HT.sIx n n hi:Nat):Int)/\(sliceBounds lo hi none n).2.2=1:=by
 refine ⟨?_,?_,rfl⟩
 ·cases lo with
  | none=>simp [sliceBounds,HT.sIx]
  | some i =>
   simp only [sliceBounds,HT.sIx,Option.getD_none,show (1:Int) > 0 by decide,if_true]
   by_cases h:i < 0
   ·simp only [h,if_true] <;> omega
   ·simp only [h,if_false] <;> omega
 ·cases hi with
  | none=>simp [sliceBounds,HT.sIx]
  | some i =>
   simp only [sliceBounds,HT.sIx,Option.getD_none,show (1:Int) > 0 by decide,if_true]
   by_cases h:i < 0
   ·simp only [h,if_true] <;> omega
   ·simp only [h,if_false] <;> omega
theorem sZ (its:List Value)(lo hi:Option Int):slicePick its.toArray lo hi none=((its.drop (HT.sIx its.length 0 lo)).take (HT.sIx its.length its.length hi - HT.sIx its.length 0 lo)).toArray:=by
 obtain ⟨h1,h2,h3⟩:=vE lo hi its.toArray.size
 unfold slicePick
 rw [h1,h2,h3]
 simp only [sliceRange_one,pick_run,List.size_toArray] <;> rfl
def BO5 (K:Frag):V->Option Int->Option Int->Hp->VK->Prop:=fun x lo hi H Q=>∃ a xs,x=.ref a/\SqL K H a xs/\∀ p,H p=none->Q (.ref p) (upd H p (.lst (BB1 xs lo hi)))
theorem wP:SlR X (BO5 X.K):=by
 intro pins s σ H x v vl vu lo hi sl Q I rx hs pl pu h
 obtain ⟨a,xs,rfl,hx,q⟩:=h
 cases rx
 obtain ⟨its,r,ht,hz⟩:=I.list hx
 have hlen:=r.length
 refine ⟨"list",_,slot_list_getitem.lookup,ht.isList.typeIs,?_⟩
 refine wpAny_getItem_list_slice ht.isList hs pl pu .none (by simp) ?_ (by rw [List.size_toArray] <;> omega)
 rw [sZ,<- hlen]
 refine ⟨.ref s.heap.objs.size,_,I.laid (t':=s.toks) (o:=.lst (BB1 xs lo hi)) (fun b ob q=>Heap.get?_push_of_some _ q) (Nat.le_refl _) ?_,rfl,q _ (I.hok.fresh (Nat.le_refl _))⟩
 exact ⟨Nat.le_trans (wM xs lo hi) hz,_,0,(r.drop (HT.sIx xs.length 0 lo)).take (HT.sIx xs.length xs.length hi - HT.sIx xs.length 0 lo),Heap.get?_push_size _ rfl⟩
def tD:V->Bool
 | .non=>true
 | .bl _=>true
 | .int _=>true
 | .str _=>true
 | _=>false
def eqV:V->V->Bool
 | .non,.non=>true
 | .bl a,.bl b=>a == b
 | .bl a,.int b=>(if a then 1 else 0) == b
 | .int a,.bl b=>a == (if b then 1 else 0)
 | .int a,.int b=>a == b
 | .str a,.str b=>a == b
 | _,_=>false
theorem BE1 {A:Around}{s:Shared}{y x:V}{u v:Value}(ry:RelV y u)(rx:RelV x v)(fy:tD y=true)(fx:tD x=true):SeqAt.EqAt A s u v (eqV y x):=by
 cases y with
 | non =>
  cases ry
  cases x with
  | non=>cases rx; exact SeqAt.EqAt.same _
  | bl b=>cases rx; exact SeqAt.EqAt.none_bool b
  | int b=>obtain ⟨t,rfl⟩:=rx; exact SeqAt.EqAt.none_int b t
  | str b=>obtain ⟨t,rfl⟩:=rx; exact SeqAt.EqAt.none_str b t
  | _=>exact absurd (show false=true from fx) Bool.false_ne_true
 | bl a =>
  cases ry
  cases x with
  | non=>cases rx; exact SeqAt.EqAt.bool_none a
  | bl b=>cases rx; exact SeqAt.EqAt.bool_bool a b
  | int b=>obtain ⟨t,rfl⟩:=rx; exact SeqAt.EqAt.bool_int a b t
  | str b=>obtain ⟨t,rfl⟩:=rx; exact SeqAt.EqAt.bool_str a b t
  | _=>exact absurd (show false=true from fx) Bool.false_ne_true
 | int a =>
  obtain ⟨t',rfl⟩:=ry
  cases x with
  | non=>cases rx; exact SeqAt.EqAt.int_none a t'
  | bl b=>cases rx; exact SeqAt.EqAt.int_bool a t' b
  | int b=>obtain ⟨t,rfl⟩:=rx; exact SeqAt.EqAt.int_int a t' b t
  | str b=>obtain ⟨t,rfl⟩:=rx; exact SeqAt.EqAt.int_str a t' b t
  | _=>exact absurd (show false=true from fx) Bool.false_ne_true
 | str a =>
  obtain ⟨t',rfl⟩:=ry
  cases x with
  | non=>cases rx; exact SeqAt.EqAt.str_none a t'
  | bl b=>cases rx; exact SeqAt.EqAt.str_bool a t' b
  | int b=>obtain ⟨t,rfl⟩:=rx; exact SeqAt.EqAt.str_int a t' b t
  | str b=>obtain ⟨t,rfl⟩:=rx; exact SeqAt.EqAt.str_str a t' b t
  | _=>exact absurd (show false=true from fx) Bool.false_ne_true
 | _=>exact absurd (show false=true from fy) Bool.false_ne_true
def eqU (x:V)(u:Value):Bool:=match u with
 | .none=>eqV .non x
 | .bool b=>eqV (.bl b) x
 | .int i _=>eqV (.int i) x
 | .str z _=>eqV (.str z) x
 | _=>false
theorem AS3 {x y:V}{u:Value}(r:RelV y u)(f:tD y=true):eqU x u=eqV y x:=by
 cases y with
 | non=>cases r; rfl
 | bl b=>cases r; rfl
 | int i=>obtain ⟨t,rfl⟩:=r; rfl
 | str z=>obtain ⟨t,rfl⟩:=r; rfl
 | _=>exact absurd (show false=true from f) Bool.false_ne_true
theorem qA {x:V}:∀ {xs:List V}{us:List Value},Vals xs us->xs.all tD=true->us.any (eqU x)=xs.any fun y=>eqV y x
 | _,_,.nil,_=>rfl
 | y::xs,u::us,.cons r t,f=>by
  rw [List.all_cons,Bool.and_eq_true] at f
  rw [List.any_cons,List.any_cons,AS3 r f.1,qA t f.2]
theorem lZ {A:Around}{s:Shared}{x:V}{v:Value}(rx:RelV x v)(fx:tD x=true):∀ {xs:List V}{us:List Value},Vals xs us->xs.all tD=true->∀ u∈us,SeqAt.EqAt A s u v (eqU x u)
 | _,_,.nil,_=>fun u hu=>by cases hu
 | y::xs,u::us,.cons r t,f=>fun u' hu=>by
  rw [List.all_cons,Bool.and_eq_true] at f
  rcases List.mem_cons.mp hu with rfl | hu
  ·rw [AS3 r f.1]; exact BE1 r rx f.1 fx
  ·exact lZ rx fx t f.2 u' hu
def inV (x:V)(xs:List V):Bool:=xs.any fun y=>eqV y x
def rIn (K:Frag)(neg:Bool):R2:=fun x y H Q=>∃ p xs,y=.ref p/\(SqL K H p xs\/SqT K H p xs)/\tD x=true/\xs.all tD=true/\Q (.bl (if neg then !inV x xs else inV x xs)) H
theorem mD:OpR X (compareOp .In) (rIn X.K false):=by
 intro pins s σ H x y v u Q I rx ry h
 obtain ⟨p,xs,rfl,hq,fx,fs,q⟩:=h
 cases ry
 rcases hq with hq | hq
 ·obtain ⟨its,r,pl,hz⟩:=I.list hq
  refine SeqAt.in_listAt (eqU x) pl.isList (fun w hw=>lZ rx fx r fs w (by simpa using hw)) ⟨.bl _,H,I,rfl,?_⟩
  rw [show its.toArray.any (eqU x)=its.any (eqU x) by simp,qA r fs]
  exact q
 ·obtain ⟨its,r,pl,hz⟩:=I.tuple hq
  refine SeqAt.in_tupleAt (eqU x) pl (fun w hw=>lZ rx fx r fs w (by simpa using hw)) ⟨.bl _,H,I,rfl,?_⟩
  rw [show its.toArray.any (eqU x)=its.any (eqU x) by simp,qA r fs]
  exact q
theorem oP:OpR X (compareOp .NotIn) (rIn X.K true):=by
 intro pins s σ H x y v u Q I rx ry h
 obtain ⟨p,xs,rfl,hq,fx,fs,q⟩:=h
 cases ry
 rcases hq with hq | hq
 ·obtain ⟨its,r,pl,hz⟩:=I.list hq
  refine SeqAt.notIn_listAt (eqU x) pl.isList (fun w hw=>lZ rx fx r fs w (by simpa using hw)) ⟨.bl _,H,I,rfl,?_⟩
  rw [show its.toArray.any (eqU x)=its.any (eqU x) by simp,qA r fs]
  exact q
 ·obtain ⟨its,r,pl,hz⟩:=I.tuple hq
  refine SeqAt.notIn_tupleAt (eqU x) pl (fun w hw=>lZ rx fx r fs w (by simpa using hw)) ⟨.bl _,H,I,rfl,?_⟩
  rw [show its.toArray.any (eqU x)=its.any (eqU x) by simp,qA r fs]
  exact q
theorem bI:iH X (.builtin "len") (fun xs H Q=>∃ p ys,xs=[.ref p]/\(SqL X.K H p ys\/SqT X.K H p ys)/\Q (.int ys.length) H):=by
 intro pins s σ H xs us Q I r h
 obtain ⟨p,ys,rfl,hq,q⟩:=h
 obtain ⟨u,rfl,rx⟩:=kC r
 cases rx
 have hn:=pU
 rcases hq with hq | hq
 ·obtain ⟨its,r',pl,hz⟩:=I.list hq
  have hlen:=r'.length
  exact Calls.call_len_list pl.isList (by simp only [List.size_toArray] <;> omega) ⟨.int ys.length,H,I.tok _,⟨s.toks+1,by rw [List.size_toArray,hlen]⟩,q⟩
 ·obtain ⟨its,r',pl,hz⟩:=I.tuple hq
  have hlen:=r'.length
  exact len_tuple pl (by simp only [List.size_toArray] <;> omega) ⟨.int ys.length,H,I.tok _,⟨s.toks+1,by rw [List.size_toArray,hlen]⟩,q⟩
theorem dX:iH X (.builtin "len") (fun xs H Q=>∃ z,xs=[.str z]/\z.length<=sizeLine/\Q (.int z.length) H):=by
 intro pins s σ H xs us Q I r h
 obtain ⟨z,rfl,hz,q⟩:=h
 obtain ⟨u,rfl,t,rfl⟩:=kC r
 have hn:=pU
 exact len_str (by omega) ⟨.int z.length,H,I.tok _,⟨_,rfl⟩,q⟩
theorem cV:iH X (.type "list") (fun xs H Q=>∃ p ys,xs=[.ref p]/\(SqL X.K H p ys\/SqT X.K H p ys)/\∀ l,H l=none->Q (.ref l) (upd H l (.lst ys))):=by
 intro pins s σ H xs us Q I r h
 obtain ⟨p,ys,rfl,hq,q⟩:=h
 obtain ⟨u,rfl,rx⟩:=kC r
 cases rx
 have fin:∀ (its:List Value),Vals ys its->ys.length<=sizeLine->∀ (h':Heap) (c':Nat),(∀ b o',s.heap.get? b=some o'->h'.get? b=some o') ->
   h'.get? s.heap.objs.size=some { cls:=.type "list",dict:=none,data:=.seq its.toArray c',slots:=#[] }->EP X pins σ Q (.ref s.heap.objs.size) { s with heap:=h' }:=fun its r' hz h' c' kp e =>
  ⟨.ref s.heap.objs.size,_,I.laid (t':=s.toks) kp (Nat.le_refl _) (show ObjOk X.prog X.w _ h' _ (.lst ys) from ⟨hz,its,c',r',e⟩),rfl,q _ (I.hok.fresh (Nat.le_refl _))⟩
 rcases hq with hq | hq
 ·obtain ⟨its,r',pl,hz⟩:=I.list hq
  have hlen:=r'.length
  obtain ⟨o,ho,hc,n,hd⟩:=pl.isList
  exact call_list_seq p (.inl rfl) ho hc hd (fun h' c' kp e=>fin its r' hz h' c' kp e) (by simp only [List.size_toArray] <;> omega)
 ·obtain ⟨its,r',pl,hz⟩:=I.tuple hq
  have hlen:=r'.length
  obtain ⟨o,ho,hc,n,hd⟩:=pl
  exact call_list_seq p (.inr rfl) ho hc hd (fun h' c' kp e=>fin its r' hz h' c' kp e) (by simp only [List.size_toArray] <;> omega)
theorem gH:iH X (.type "tuple") (fun xs H Q=>∃ p ys,xs=[.ref p]/\((SqL X.K H p ys/\∀ l,H l=none->Q (.ref l) (upd H l (.tup ys)))\/(SqT X.K H p ys/\Q (.ref p) H))):=by
 intro pins s σ H xs us Q I r h
 obtain ⟨p,ys,rfl,h⟩:=h
 obtain ⟨u,rfl,rx⟩:=kC r
 cases rx
 rcases h with ⟨hq,q⟩ | ⟨hq,q⟩
 ·obtain ⟨its,r',pl,hz⟩:=I.list hq
  have hlen:=r'.length
  refine call_tuple_list pl.isList (fun h' kp=>?_) (by simp only [List.size_toArray] <;> omega)
  have I1:Inv X pins σ H { s with heap:=h' }:=I.kept (t':=s.toks) kp
  have I2:Inv X pins σ (upd H h'.objs.size (.tup ys)) { s with heap:=h'.push { cls:=.type "tuple",data:=.seq its.toArray } } :=
   I1.laid (t':=s.toks) (fun b o e=>Heap.get?_push_of_some _ e) (Nat.le_refl _) (show ObjOk X.prog X.w _ _ _ (.tup ys) from ⟨hz,its,r',IsTup.new _ _⟩)
  exact ⟨.ref h'.objs.size,_,I2,rfl,q _ (I1.hok.fresh (Nat.le_refl _))⟩
 ·obtain ⟨its,r',pl,hz⟩:=I.tuple hq
  exact call_tuple_same pl ⟨.ref p,H,I,rfl,q⟩
def tyV (K:Frag)(T:String)(x:V)(H:Hp):Prop:=match x with
 | .str _=>T="str"
 | .int _=>T="int"
 | .ref p=>(T="list"/\∃ xs,SqL K H p xs)\/(T="tuple"/\∃ o,K.lookup p=some o/\o.cls=.type "tuple"/\o.dict=none) \/
   (T="dict"/\((∃ kvs,H p=some (.dK kvs))\/∃ kvs,H p=some (.dT kvs)))\/(T="set"/\∃ S n,H p=some (.set S n))
 | _=>False
theorem AS4 {pins:List (Addr × Obj)}{σ:St}{H:Hp}{s:Shared}{T:String}{x:V}{v:Value}(I:Inv X pins σ H s)(r:RelV x v)(ty:tyV X.K T x H) :
  s.TypeIs v T/\∀ a,v=.ref a->∃ ob,s.heap.get? a=some ob/\ob.dict=none:=by
 cases x with
 | str z =>
  obtain ⟨t,rfl⟩:=r
  cases (show T="str" from ty)
  exact ⟨typeIs_str s z t,fun _ e=>nomatch e⟩
 | int i =>
  obtain ⟨t,rfl⟩:=r
  cases (show T="int" from ty)
  exact ⟨typeIs_int s i t,fun _ e=>nomatch e⟩
 | ref p =>
  cases r
  rcases ty with ⟨rfl,xs,hq⟩ | ⟨rfl,o,hk,hc,hd⟩ | ⟨rfl,hk⟩ | ⟨rfl,S,n,hk⟩
  ·obtain ⟨its,_,pl,_⟩:=I.list hq
   refine ⟨pl.isList.typeIs,fun a e=>?_⟩
   cases e
   obtain ⟨o,n,e,c,hd,_⟩:=pl
   exact ⟨o,e,hd⟩
  ·refine ⟨⟨o,I.kIn p o hk,hc⟩,fun a e=>?_⟩
   cases e
   exact ⟨o,I.kIn _ o hk,hd⟩
  ·have z:∃ o,s.heap.get? p=some o/\o.ExactDict:=by
    rcases hk with ⟨kvs,hk⟩ | ⟨kvs,hk⟩
    ·obtain ⟨_,_,_,_,o,_,_,e,ex,_⟩:=I.hok p _ hk
     exact ⟨o,e,ex⟩
    ·obtain ⟨_,_,_,_,o,_,_,e,ex,_⟩:=I.hok p _ hk
     exact ⟨o,e,ex⟩
   obtain ⟨o,e,ex⟩:=z
   refine ⟨⟨o,e,ex.1⟩,fun a e2=>?_⟩
   cases e2
   exact ⟨o,e,ex.2.1⟩
  ·obtain ⟨o,_,_,_,e,ex,_⟩:=I.hok p _ hk
   refine ⟨⟨o,e,ex.1⟩,fun a e2=>?_⟩
   cases e2
   exact ⟨o,e,ex.2.1⟩
 | _=>exact False.elim ty
def BN2 (K:Frag)(T:String)(r:V->List V->Hp->VK->Prop)(to:TE):TE:=fun σ H Q=>to σ H fun x H1=>tyV K T x H1/\r x [] H1 Q
def tBM (K:Frag)(T:String)(r:V->List V->Hp->VK->Prop)(to:TE)(t:TA):TE:=fun σ H Q=>to σ H fun x H1=>tyV K T x H1/\t σ H1 fun xs H2=>r x xs H2 Q
variable {o e:Expr}{es:List Expr}{to:TE}{t:TA}{name:Str}{apos cpos:Pos}{T id:String}{r:V->List V->Hp->VK->Prop}
theorem BE2 (pa:PlainAttrs T)(slot:Slot T name id)(hty:typeOf (.builtin id)=pure (.type "method_descriptor"))(hm:MtR X id r)(ho:PE X o to)(hbase:attributeBase o name X.env (eval o X.env)=eval o X.env:=by rfl)(hline:(apos.endLine == cpos.line)=true:=by rfl):PE X (.Call (.Attribute o name apos) [] [] cpos) (BN2 X.K T r to):=by
 intro pins s σ H Q I h
 refine wpAny_Call_method0_late hbase hline (thn (ho pins s σ H _ I h) fun v s1 ⟨x,H1,I1,r1,ty,q1⟩=>?_)
 obtain ⟨h1,h2⟩:=AS4 I1 r1 ty
 exact ⟨T,id,pa,slot,hty,h1,h2,Calls.callWith_builtin rfl (PySem.evalArgs_none (hm pins s1 σ H1 x [] v [] Q I1 r1 .nil q1))⟩
theorem wQ (pa:PlainAttrs T)(slot:Slot T name id)(hty:typeOf (.builtin id)=pure (.type "method_descriptor"))(hm:MtR X id r)(ho:PE X o to)(ha:PA X (e::es) t)(hbase:attributeBase o name X.env (eval o X.env)=eval o X.env:=by rfl)(hfew:((backTo cpos (starEach (e::es) X.env)).all (fun x=>!x.1) && (backToKw cpos (keywordEach [] X.env)).all (fun x=>x.1.isSome)
   && decide ((e::es).length+([]:List Keyword).length+(if ([]:List Keyword).isEmpty then 0 else 1) < 30))=true:=by rfl)(hline:(apos.endLine == cpos.line)=true:=by rfl)(hs:starEach (e::es) X.env=(false,eval e X.env)::starEach es X.env:=by rfl)(hplain:(backTo cpos (starEach es X.env)).any (·.1)=false:=by rfl) :
  PE X (.Call (.Attribute o name apos) (e::es) [] cpos) (tBM X.K T r to t):=by
 intro pins s σ H Q I h
 refine wpAny_Call_method_late hbase hfew hline rfl (thn (ho pins s σ H _ I h) fun v s1 ⟨x,H1,I1,r1,ty,q1⟩=>?_)
 obtain ⟨h1,h2⟩:=AS4 I1 r1 ty
 refine ⟨T,id,pa,slot,hty,h1,h2,?_⟩
 have hA:=ha cpos pins s1 σ H1 _ I1 q1
 rw [hs] at hA ⊢
 refine Calls.callWith_builtin (by show (false || (backTo cpos (starEach es X.env)).any (·.1))=false; rw [hplain] <;> rfl) (Calls.evalArgs_plain ?_)
 exact thn hA fun us s2 ⟨vs,H2,I2,r2,q2⟩=>hm pins s2 σ H2 x vs v us Q I2 r1 r2 q2
/- xs.append(e),list.index on a module's tuple .. are MtR facts of 06m -/
end
def MtM (X:Cx)(id:String)(r:V->List V->Hp->VK->Prop):Prop :=
 ∀ (pins:List (Addr × Obj)) (s:Shared) (σ:St) (H:Hp) (x:V) (xs:List V) (v:Value) (us:List Value) (Q:VK),Inv X pins σ H s->RelV x v->Vals xs us->r x xs H Q ->
  wpAny (model X.prog X.w) X.A (call (.builtin id) (v::us)) (EP X pins σ Q) X.xe s
theorem Vals.one:∀ {x:V}{us:List Value},Vals [x] us->∃ u,us=[u]/\RelV x u
 | _,_,.cons r .nil=>⟨_,rfl,r⟩
theorem Vals.two:∀ {x y:V}{us:List Value},Vals [x,y] us->∃ u v,us=[u,v]/\RelV x u/\RelV y v
 | _,_,_,.cons r (.cons q .nil)=>⟨_,_,rfl,r,q⟩
theorem Vals.zero:∀ {us:List Value},Vals [] us->us=[]
 | _,.nil=>rfl
section
variable {X:Cx}{pins:List (Addr × Obj)}{σ:St}{H:Hp}{s:Shared}{l b:Addr}{xs ys zs:List V}
theorem Inv.lset {its its':List Value}{n:Nat}{f:Array Value->Array Value}{t':Nat}(I:Inv X pins σ H s)(hH:H l=some (.lst xs))(e:s.heap.get? l=some { cls:=.type "list",data:=.seq its.toArray n })(hf:f its.toArray=its'.toArray)(hv:Vals ys its')(hz:ys.length<=sizeLine) :
  Inv X pins σ (upd H l (.lst ys)) { s with heap:=s.heap.update l (Obj.mapSeq f),toks:=t' }:=by
 have q:=PySem.IsL.update e f
 rw [hf] at q
 refine I.write (x:=l) (e:=l) (by rw [hH]; exact trivial) (.inl rfl) (fun b' u hb hu=>(Heap.get?_update_other s.heap (Obj.mapSeq f) (Ne.symm hb)).trans hu) ⟨_,q⟩ ?_
 exact ⟨hz,its',_,hv,q⟩
theorem Inv.lnew {its:List Value}{t':Nat}(I:Inv X pins σ H s)(hv:Vals ys its)(hz:ys.length<=sizeLine) :
  Inv X pins σ (upd H s.heap.objs.size (.lst ys)) { s with heap:=s.heap.push { cls:=.type "list",data:=.seq its.toArray },toks:=t' } :=
 I.laid (fun _ _ q=>Heap.get?_push_of_some _ q) (Nat.le_refl _) ⟨hz,its,0,hv,Heap.get?_push_size _ rfl⟩
theorem Inv.fresh (I:Inv X pins σ H s):H s.heap.objs.size=none:=I.hok.fresh (Nat.le_refl _)
theorem Inv.lstM (I:Inv X pins σ H s)(hH:H l=some (.lst xs)):xs.length<=sizeLine/\∃ (its:List Value) (n:Nat),Vals xs its/\xs.length=its.length/\s.heap.get? l=some { cls:=.type "list",data:=.seq its.toArray n }:=by
 obtain ⟨z,its,n,r,e⟩:=I.hok l _ hH
 exact ⟨z,its,n,r,r.length,e⟩
end
section
variable {X:Cx}
def AV5:V->List V->Hp->VK->Prop:=fun x vs H Q=>∃ l xs y,x=.ref l/\vs=[y]/\H l=some (.lst xs)/\xs.length < sizeLine/\Q .non (upd H l (.lst (xs++[y])))
theorem jF:MtM X "list.append" AV5:=by
 intro pins s σ H x vs v us Q I rx rv h
 obtain ⟨l,xs,y,rfl,rfl,hH,hz,q⟩:=h
 cases rx
 obtain ⟨u,rfl,ru⟩:=rv.one
 obtain ⟨z,its,n,r,hl,e⟩:=I.lstM hH
 refine call_meets F.slot_list_append ⟨_,e,rfl⟩ F.entry_list_append (F.args_list_append_2 _ _) (PySem.list_append l its.toArray n u (by rw [List.size_toArray]; omega)) ⟨e,?_⟩
 refine ⟨.non,_,I.lset (its':=its++[u]) hH e (by simp) (r.append (.cons ru .nil)) ?_,rfl,q⟩
 rw [List.length_append,List.length_singleton]
 omega
def BO6:R2:=fun x y H Q=>∃ l b xs zs,x=.ref l/\y=.ref b/\H l=some (.lst xs)/\H b=some (.lst zs)/\xs.length+zs.length<=sizeLine/\∀ p,H p=none->Q (.ref p) (upd H p (.lst (xs++zs)))
theorem mE:OpR X (binaryOp .Add) BO6:=by
 intro pins s σ H x y v u Q I rx ry h
 obtain ⟨l,b,xs,zs,rfl,rfl,hH,hB,hz,q⟩:=h
 cases rx
 cases ry
 obtain ⟨z,its,n,r,hl,e⟩:=I.lstM hH
 obtain ⟨z2,its2,n2,r2,hl2,e2⟩:=I.lstM hB
 refine PySem.P.add_list e e2 ?_ (by rw [List.size_toArray,List.size_toArray]; omega)
 have ea:its.toArray++its2.toArray=(its++its2).toArray:=by simp
 rw [ea]
 exact ⟨.ref _,_,I.lnew (t':=s.toks) (r.append r2) (by rw [List.length_append]; omega),rfl,q _ I.fresh⟩
end
section
variable {prog:Program}{w:World}{A:Around}{E:Value->Shared->Prop}{s:Shared}
end
section
variable {X:Cx}
end
end L2
namespace Att
open PySem PySem.W PySem.Calls PyProof.Rows
theorem ints_of_wellAll {P:Params}{h:Heap}:∀ (ns:List Int) (vs:List Value),WellAll P h vs (ns.map WData.int)->IntsAre vs ns:=by
 intro ns
 induction ns with
 | nil =>
  intro vs w
  rw [List.map_nil] at w
  cases w
  exact .nil
 | cons n ns ih =>
  intro vs w
  rw [List.map_cons] at w
  cases w with
  | cons a b =>
   cases a
   exact .cons _ _ (ih _ b)
theorem script_of {l:OpenLaw}{n:Nat}(hn:l.most=some n){P:Params}{h:Heap}{args:List WData}{vals:List Value}(hpre:l.row.toRowW.claim.pre args=true)(hwl:WellAll P h vals args) :
  ∃ a vs ns,vals=[Value.ref a]/\args=[WData.list (ns.map WData.int)]/\h.get? a=some { cls:=.type "list",data:=.seq vs.toArray }/\IntsAre vs ns/\ns.length<=n:=by
 have hsh:WShape.hasAll [] args [.list .int]=true:=(pre_splitW hpre).1
 have hc:l.pre.holds [] { args:=args }=true:=(pre_splitW hpre).2
 obtain ⟨d,r,rfl,h1,h2⟩:=hasAllW_cons hsh
 obtain rfl:=hasAllW_nil h2
 obtain ⟨xs,rfl,h3⟩:=hasW_list h1
 obtain ⟨ns,rfl⟩:=items_int h3
 have hlen:ns.length<=n:=by
  unfold OpenLaw.pre at hc
  have h4:(WTm.not (.lt (.lit (.int (n:Int))) (.len (.arg 0)))).holds [] { args:=[.list (ns.map .int)] }=true:=by
   have h4:=(holds_andW hc).1
   rw [hn] at h4
   exact h4
  have h5:=condW_of h4 (w_not (w_lt w_lit (w_len_list (w_arg rfl))))
  rw [List.length_map] at h5
  refine Nat.le_of_not_lt fun q=>?_
  have q':(n:Int) < ((ns.length:Nat):Int):=by omega
  first
   | (rw [decide_eq_true q'] at h5; exact absurd h5 (by decide))
   | (simp at h5; omega)
 cases hwl with
 | cons w1 w2 =>
  cases w2
  cases w1 with
  | list ho hall=>exact ⟨_,_,ns,rfl,rfl,ho,ints_of_wellAll ns _ hall,hlen⟩
theorem post_true (l:OpenLaw)(args:List WData):l.row.toRowW.claim.post args (.bool true) args=true :=
 postW_of (r:=l.row.toRowW) (X:=(true == true))
  (show WShape.has [] (.bool true) .bool=true by first | rfl | decide | simp [WShape.has,WShape.arms,WShape.armsAll])
  (show (WTm.eq .res (.lit (.bool true))).value [] { args:=args,res:=some (.bool true),after:=args }=some (.bool (true == true)) from w_eq_bool (w_res rfl) w_lit) rfl
theorem attach_call {l:OpenLaw}{n:Nat}{q:Program}{loose:List Str}{XP:(Str->Option Value)->Heap->Prop}{YP:World->Heap->Prop}{d:DefRec}(hn:l.most=some n)(hdf:d.params.defaults=[])(call:∀ (w:World) (s₀ s₁:Shared) (mg mb:Str->Option Value) (fa:Addr) (o:Obj) (pm cd doc:Value) (a:Addr) (vs:List Value) (ns:List Int),
   Ground q loose [] XP w s₀ mg mb s₁.heap->YP w s₁.heap ->
   s₁.heap.get? fa=some o->o.data=.func (docDef d.name d.params d.body d.scope pm cd doc)->s₁.heap.CodeRec cd d.name->mg d.name=some (.ref fa) ->
   s₁.heap.get? a=some { cls:=.type "list",data:=.seq vs.toArray }->IntsAre vs ns->ns.length<=n->s₁.gens=#[] ->
   codeAny (model l.prog w) callerA (.call (.ref fa) ⟨[.ref a],[]⟩) (fun r s'=>r=.ok (.ret (.bool true))/\OldK s₁.heap s'.heap/\s'.os=s₁.os/\AllBare s'.gens) s₁) :
  WalkO q loose XP YP l.row.toRowW d [] (fun f vs=>PySem.call f vs):=by
 intro w s₀ s₁ mg mb G Y fa o pm cd doc dV kV ho hd hcd hD hmg hg args vals as hpre hlay hrd hwl hlo
 obtain rfl:dV=.none:=Dflts.none hD hdf
 obtain rfl:kV=.none:=Dflts.noKw hD
 obtain ⟨a,vs,ns,rfl,rfl,hobj,hints,hlen⟩:=script_of hn hpre hwl
 refine enter_call (codeAny_mono (call w s₀ s₁ mg mb fa o pm cd doc a vs ns G Y ho (fd_plain hd) hcd hmg hobj hints hlen hg) fun r s' hq=>?_)
 obtain ⟨rfl,h2,h3,h4⟩:=hq
 exact ⟨.inl ⟨.bool true,.bool true,[],rfl,fun _=>rfl,.bool true,post_true l _,fun _=>⟨List.Pairwise.nil,fun _ hm=>(nomatch hm)⟩⟩,h2,h3,h4⟩
section
variable {prog:Program}{w:World}{A:Around}{E:Value->Shared->Prop}{s:Shared}{K:Frag}
def ledger (h:Heap)(L d:Addr):List (Addr × Obj):=(List.range h.objs.size).filterMap fun a=>if a=L\/a=d then none else (h.get? a).map fun o=>(a,o)
end
end Att
namespace L2
open PySem PySem.Spec PyProof.Rows PySem.W
theorem vals_ints:∀ {vs:List Value}{ns:List Int},IntsAre vs ns->Vals (ns.map V.int) vs
 | _,_,.nil=>.nil
 | _,_,.cons n t h=>.cons ⟨t,rfl⟩ (vals_ints h)
def BI4 (H:Hp):Prop:=∀ b,H b=none\/∃ o xs,H b=some (.frz o (.lst xs))
theorem AN2 {P:Program}{w:World}{K:Frag}{mg mb:Str->Option Value}{CX:CXT}{k:Nat}{fa a:Addr}{fd:FuncData}{x:Str}{sp:Sp}{s₁:Shared}{vs:List Value}{ns:List Int}(KX:K.In s₁.heap)(hns:s₁.heap.Ns mainGlobals mg)(hb:s₁.heap.Ns builtinsNs mb)(hbb:∀ x:Str,x≠"__name__"->mb x=bootBuiltins x)(hlim:s₁.heap.NoLimit)(hg:s₁.gens=#[])(ha:s₁.heap.get? a=some { cls:=.type "list",data:=.seq vs.toArray })(hi:IntsAre vs ns)(hl:ns.length<=sizeLine)(hr:Room k callerA)(F:∀ base:Heap,K.In base->base.Ns mainGlobals mg->FnOk P w K mg base CX k fa fd [x] sp)(hbind:∀ (s:Shared) (u:Value),BindsTo s fd ⟨[u],[]⟩ [(x,u)])(hsp:∀ H:Hp,BI4 H->SqL K H a (ns.map V.int)->sp [.ref a] H (fun v _=>v=.bl true) fun _ _ _=>False)(hCX:∀ H e s',CX [] H s₁ (fun _ _ _=>False) e s'->False) :
  codeAny (model P w) callerA (.call (.ref fa) ⟨[.ref a],[]⟩) (fun r s'=>r=.ok (.ret (.bool true))/\OldK s₁.heap s'.heap/\s'.os=s₁.os/\AllBare s'.gens) s₁:=by
 have rv:=vals_ints hi
 have lenV:=hi.length
 -- from an abstract heap in which nothing but the script may be tracked
 have core:∀ H:Hp,BI4 H->SqL K H a (ns.map V.int)->HOk P w H s₁.heap->(∀ b,H b≠none->b=a)->(H a≠none->K.lookup a=none) ->
   codeAny (model P w) callerA (.call (.ref fa) ⟨[.ref a],[]⟩) (fun r s'=>r=.ok (.ret (.bool true))/\OldK s₁.heap s'.heap/\s'.os=s₁.os/\AllBare s'.gens) s₁:=by
  intro H hO hS hok hA hK
  have base_of:∀ {b:Addr}{o:Obj},s₁.heap.get? b=some o->H b=none->(AL7 s₁.heap H).get? b=some o:=fun e n=>AL8 e n
  have noA:∀ {b:Addr}{o:Obj}{es:Array DictEntry}{ep:Nat},s₁.heap.get? b=some o->o.data=.dict es ep->H b=none:=fun {b o es ep} e d=>by
   cases q:H b with
   | none=>rfl
   | some u =>
    have e':b=a:=hA b (by rw [q]; simp)
    subst e'
    rw [ha] at e; cases e
    have d':Data.seq vs.toArray _=Data.dict es ep:=d
    cases d'
  have nsK:∀ {b:Addr}{m:Str->Option Value},s₁.heap.Ns b m->(AL7 s₁.heap H).Ns b m:=fun {b m} ⟨o,es,ep,e,d,r⟩=>⟨o,es,ep,base_of e (noA e d),d,r⟩
  have hKb:K.In (AL7 s₁.heap H):=fun b o e=>base_of (KX b o e) (by
   cases q:H b with
   | none=>rfl
   | some u =>
    have e':b=a:=hA b (by rw [q]; simp)
    subst e'
    rw [hK (by rw [q]; simp)] at e; cases e)
  have hM:Mod K mg (AL7 s₁.heap H):=⟨hKb,nsK hns,⟨mb,nsK hb,hbb⟩,let ⟨mc,h1,h2⟩:=hlim; ⟨mc,nsK h1,h2⟩⟩
  have e0:Env0 P w K mg (AL7 s₁.heap H) callerA [] s₁ H:=⟨rfl,hM,fun b o e=>AT9 e,Nat.le_of_eq (AC1 _ _),trivial,fun b hb=>absurd (show b∈([]:List Addr) from hb) (by simp),hok,.of_eq hg⟩
  refine codeAny_mono ((F _ hKb (nsK hns)).run callerA [] s₁ H ⟨[.ref a],[]⟩ [.ref a] [.ref a] _ _ hr e0 (hbind s₁ (.ref a)) (.cons rfl .nil) (hsp H hO hS)) fun r s' h=>?_
  cases r with
  | error e=>exact (hCX H e s' h).elim
  | ok fl =>
   cases fl with
   | next=>exact False.elim h
   | brk=>exact False.elim h
   | cont=>exact False.elim h
   | ret u =>
    obtain ⟨v,H',os,bare,un,hok',r',q⟩:=h
    have q':v=.bl true:=q
    subst q'
    obtain rfl:u=Value.bool true:=r'
    refine ⟨rfl,OldK.of_keep fun b o e=>?_,os,bare⟩
    cases q:H b with
    | none=>exact un.keep b o e q (by intro z; exact absurd (show b∈([]:List Addr) from z) (by simp)) (by simp)
    | some u =>
     rcases hO b with z | ⟨ob,xs,z⟩
     ·rw [q] at z; cases z
     ·have z2:=un.frzs b ob _ z
      obtain ⟨e1,_⟩:=hok b _ z
      obtain ⟨e2,_⟩:=hok' b _ z2
      rw [e] at e1; cases e1
      exact e2
 cases hk:K.lookup a with
 | some o =>
  -- the script is one of the module's own objects
  have e:=KX a o hk
  rw [ha] at e
  cases e
  refine core (fun _=>none) (fun _=>.inl rfl) (.inr ⟨_,vs.toArray,_,hk,rfl,rfl,rfl,by rw [List.size_toArray,lenV]; exact hl,by simpa using rv⟩) (fun b u z=>by have z':(none:Option HO)=some u:=z; cases z') (fun b z=>absurd rfl z) fun z=>absurd rfl z
 | none =>
  refine core (fun b=>if b=a then some (.frz { cls:=.type "list",data:=.seq vs.toArray } (.lst (ns.map V.int))) else none) (fun b=>?_) (.inl (.inr ⟨{ cls:=.type "list",data:=.seq vs.toArray },if_pos rfl⟩)) (fun b u z=>?_) (fun b z=>?_) fun _=>hk
  ·by_cases hb:b=a
   ·exact .inr ⟨_,_,if_pos hb⟩
   ·exact .inl (if_neg hb)
  ·by_cases hb:b=a
   ·have z':=(if_pos hb).symm.trans z
    cases z'
    subst hb
    exact ⟨ha,by rw [List.length_map]; exact hl,vs,_,rv,ha⟩
   ·have z':=(if_neg hb).symm.trans z
    cases z'
  ·by_cases hb:b=a
   ·exact hb
   ·exact absurd (if_neg hb) z
theorem BI5 {l:OpenLaw}{n k:Nat}{q:Program}{loose:List Str}{XP:(Str->Option Value)->Heap->Prop}{YP:World->Heap->Prop}{d:DefRec}{K:Params->Frag}{CX:World->CXT}{sp:World->Sp}{x:Str}(hn:l.most=some n)(hn2:n<=sizeLine)(hdf:d.params.defaults=[])(hr:Room k callerA)(hY:∀ (w:World) (h:Heap),YP w h->(K w.params).In h)(F:∀ (w:World) (mg:Str->Option Value) (fa:Addr) (h:Heap),(K w.params).In h->h.Ns mainGlobals mg->mg d.name=some (.ref fa) ->
   ∃ fd:FuncData,(∀ (s:Shared) (u:Value),BindsTo s fd ⟨[u],[]⟩ [(x,u)]) /\
    ∀ base:Heap,(K w.params).In base->base.Ns mainGlobals mg->FnOk l.prog w (K w.params) mg base (CX w) k fa fd [x] (sp w))(hsp:∀ (w:World) (H:Hp) (a:Addr) (ns:List Int),ns.length<=n->BI4 H->SqL (K w.params) H a (ns.map V.int)->sp w [.ref a] H (fun v _=>v=.bl true) fun _ _ _=>False)(hCX:∀ (w:World) (H:Hp) (s:Shared) (e:Value) (s':Shared),CX w [] H s (fun _ _ _=>False) e s'->False) :
  WalkO q loose XP YP l.row.toRowW d [] (fun f vs=>PySem.call f vs):=by
 refine Att.attach_call hn hdf fun w s₀ s₁ mg mb fa o pm cd doc a vs ns G Y ho hd hcd hmg hobj hints hlen hg=>?_
 have KX:=hY w _ Y
 obtain ⟨fd,hb,hF⟩:=F w mg fa _ KX G.T.g hmg
 exact AN2 KX G.T.g G.T.b G.T.builtins G.T.nolimit hg hobj hints (Nat.le_trans hlen hn2) hr hF hb (fun H hO hS=>hsp w H a ns hlen hO hS) fun H e s'=>hCX w H s₁ e s'
def aI (s:Stmt)(j:Nat):Stmt:=match s with
 | .ClassDef _ _ _ body _ _ _ _ _ _ _=>body.getD j (.Pass ⟨0,0,0,0⟩)
 | _=>.Pass ⟨0,0,0,0⟩
def aN (s:Stmt):Arguments:=match s with
 | .FunctionDef _ a _ _ _ _ _ _ _ _=>a
 | _=>{ posonlyargs:=[],args:=[],vararg:=none,kwonlyargs:=[],kw_defaults:=[],kwarg:=none,defaults:=[] }
def aM (s:Stmt):List Stmt:=match s with
 | .FunctionDef _ _ b _ _ _ _ _ _ _=>b
 | _=>[]
def aB (s:Stmt):Scope:=match s with
 | .FunctionDef _ _ _ _ _ _ sc _ _ _=>sc
 | _=>{ kind:=.function,names:=[],isGenerator:=false,isCoroutine:=false }
abbrev CX0:CXT:=fun _ _ _ _ _ _=>False
abbrev E0:XK:=fun _ _ _=>False
structure Fun (K:Frag) (x qual:Str) (st:Stmt) (f:Addr) (fd:FuncData):Prop where
 ex:∃ (oc:Value) (od:Option Addr) (kV doc pm:Value) (an:Option Addr) (cdv ct:Value) (osl:Array (Option Value)),
  fd=fnOf x qual (aN st) (aM st) (aB st) .none kV doc pm an cdv ct/\K.lookup f=some ⟨oc,od,.func fd,osl⟩/\codeIn K cdv qual=true
 kp:keepIn K (.ref f)=true
section
variable {P:Program}{w:World}{K:Frag}{mg:Str->Option Value}{base:Heap}
theorem Fun.ok {x qual:Str}{st:Stmt}{f:Addr}{fd:FuncData}{N ps:List Str}{k:Nat}{sp:Sp}(F:Fun K x qual st f fd)(S:FnScope N ps (aB st))(len:∀ vs H Q E,sp vs H Q E->vs.length=ps.length)(hbody:∀ (cdv:Value) (A:Around) (outer:List Env) (s:Shared) (H:Hp) (vs:List V) (Q:VK) (E:XK),Room k (A.deeper (envOfC qual (aB st) s.heap.objs.size f cdv))->sp vs H Q E ->
   ∃ t,PSs (AS2 CX0 P w K mg base N qual (aB st) f cdv A outer s H E).nox (aM st) t/\t { nx:=fun _ H'=>Q .non H',rt:=Q } (vD N vs) H):FnOk P w K mg base CX0 (k+1) f fd ps sp:=by
 obtain ⟨oc,od,kV,doc,pm,an,cdv,ct,osl,rfl,lk,hcd⟩:=F.ex
 refine BD8 lk hcd S len fun A outer s H vs Q E hr hsp=>?_
 obtain ⟨t,h,q⟩:=hbody cdv A outer s H vs Q E hr hsp
 exact ⟨t,h.nox,q⟩
theorem Fun.binds {x qual:Str}{st:Stmt}{f:Addr}{fd:FuncData}{ps:List Str}(F:Fun K x qual st f fd)(h:∀ (kV doc pm:Value) (an:Option Addr) (cdv ct:Value) (us:List Value),us.length=ps.length->bindArgs (fnOf x qual (aN st) (aM st) (aB st) .none kV doc pm an cdv ct) ⟨us,[]⟩=pure (ps.zip us)):Binds K fd ps []:=by
 obtain ⟨oc,od,kV,doc,pm,an,cdv,ct,osl,rfl,lk,hcd⟩:=F.ex
 exact .all (h kV doc pm an cdv ct)
theorem aZ {x qual:Str}{st:Stmt}{f:Addr}{oc:Value}{od an:Option Addr}{osl:Array (Option Value)}{kV doc pm cdv ct:Value}(l:K.lookup f=some ⟨oc,od,.func (fnOf x qual (aN st) (aM st) (aB st) .none kV doc pm an cdv ct),osl⟩)(c:codeIn K cdv qual=true)(k:keepIn K (.ref f)=true):Fun K x qual st f (fnOf x qual (aN st) (aM st) (aB st) .none kV doc pm an cdv ct):=⟨⟨oc,od,kV,doc,pm,an,cdv,ct,osl,rfl,l,c⟩,k⟩
end
theorem AD9 {n:Nat}(h:n<=1000):n < sizeLine:=Nat.lt_of_le_of_lt h (by decide)
section
variable {X:Cx}
theorem pv (i:Nat){x:Str}{pos:Pos}(hN:X.N[i]?=some x:=by rfl)(hv:Vis X.env.scope x:=by first | exact Or.inl rfl | exact Or.inr (Or.inl rfl) | exact Or.inr (Or.inr rfl))(hd:(x == ("__debug__":Str))=false:=by decide)(hcd:(x == ("__classdict__":Str))=false:=by decide):PE X (.Name x pos) (BH2 i):=BC1 hN hv hd hcd
end
def Same (H H':Hp):Prop:=∀ b o,H b=some o->H' b=some o
theorem Same.trans {H H1 H2:Hp}(a:Same H H1)(b:Same H1 H2):Same H H2:=fun c o h=>b c o (a c o h)
theorem Same.free {H H':Hp}(e:Same H H'){l:Addr}(h:H' l=Option.none):H l=Option.none:=by
 cases q:H l with
 | none=>rfl
 | some o =>
  rw [e l o q] at h
  cases h
theorem Same.seq {K:Frag}{H H':Hp}{a:Addr}{xs:List V}(e:Same H H')(h:SqL K H a xs):SqL K H' a xs:=by
 rcases h with (h | ⟨o,h⟩) | h
 ·exact .inl (.inl (e _ _ h))
 ·exact .inl (.inr ⟨o,e _ _ h⟩)
 ·exact .inr h
end L2
namespace Bw
open PySem PySem.Spec PyProof.Rows L2 PySem.W
section
variable {X:Cx}
def BI6 (i j:Int):Prop:=0 < j/\j < 2 ^ 62
theorem iO:OpR X (binaryOp .FloorDiv) (rI BI6 fun i j=>.int (i / j)):=opI fun i j _ _ _ _ _ hc q=>by
 have h1:(0:Int) < j:=hc.1
 have h2:j < 2 ^ 62:=hc.2
 refine floordiv_int (by omega) (by rw [Int.fdiv_eq_ediv_of_nonneg i (by omega)]; exact q) (.inl (PyProof.noPylong_of_log2 ?_))
 have h0:j.natAbs≠0:=by omega
 have:j.natAbs.log2 < 62:=(Nat.log2_lt h0).mpr (by omega)
 omega
def AS5:V->Bool
 | .int _=>true
 | .bl _=>true
 | _=>false
def AE0:V->Bool
 | .bl _=>true
 | _=>false
theorem AV6 {pins:List (Addr × Obj)}{σ:L2.St}{H:Hp}{s:Shared}{x:V}{c T:String}{b:Bool}{us:List Value}{Q:VK}(I:Inv X pins σ H s)(r:Vals [x,.ty c] us)(ty:TyOf X.K H x (.type T))(e:kitOne X.K (.type T) (.type c)=some b)(q:Q (.bl b) H) :
  wpAny (model X.prog X.w) X.A (call (.builtin "isinstance") us) (EP X pins σ Q) X.xe s:=by
 obtain ⟨u,w',rfl,rx,rc⟩:=AU9 r
 cases (show w'=Value.type c from rc)
 exact pZ I rx ty e fun tk=>⟨.bl b,H,I.tok _,rfl,q⟩
end
structure Cal (P:Program) (w:World) (K:Frag) (mg:Str->Option Value) (base:Heap) (x:Str) (ps:List Str) (k:Nat) (sp:Sp):Prop where
 ex:∃ f fd,FnOk P w K mg base CX0 k f fd ps sp/\Binds K fd ps []/\keepIn K (.ref f)=true/\mg x=some (.ref f)
theorem aE {H:Hp}{p:Addr}(h:H p=none)(o:HO):Same H (upd H p o):=fun b u q=>by rw [aO (aP q h)]; exact q
def But (w:Addr)(H H':Hp):Prop:=∀ b o,b≠w->H b=some o->H' b=some o
theorem But.refl (w:Addr)(H:Hp):But w H H:=fun _ _ _ h=>h
theorem But.trans {w:Addr}{H H1 H2:Hp}(a:But w H H1)(b:But w H1 H2):But w H H2:=fun c o n h=>b c o n (a c o n h)
theorem But.upd {w:Addr}{H:Hp}(o:HO):But w H (upd H w o):=fun b u n h=>by rw [aO n]; exact h
theorem Same.but {w:Addr}{H H':Hp}(h:Same H H'):But w H H':=fun b o _ e=>h b o e
theorem BE3 {ns:List Int}{i:Int}(h0:0<=i)(h:i < ns.length):∃ z∈ns,atI (ns.map V.int) i=some (.int z):=by
 have hk:i.toNat < ns.length:=by omega
 have ek:i=((i.toNat:Nat):Int):=by omega
 refine ⟨ns[i.toNat],List.getElem_mem hk,?_⟩
 have q:atI (ns.map V.int) ((i.toNat:Nat):Int)=some (.int ns[i.toNat]):=wO (by rw [List.getElem?_map,List.getElem?_eq_getElem hk] <;> rfl)
 rwa [<- ek] at q
theorem sz8 {n:Nat}(h:n<=1000):n<=sizeLine:=Nat.le_of_lt (AD9 h)
section
variable {K:Frag}{ta tb tc te:TE}{tA tB':TT}{t u:TS}{tr:TA}{D:Ends}{σ:L2.St}{H:Hp}{Q:VK}{QB:Bool->Hp->Prop}{QA:List V->Hp->Prop}{v x y z:V}{i j:Nat}{g:TG}{QS:L2.St->Hp->Prop}
theorem AV7:BH3 t u D σ H=t { D with nx:=u D } σ H:=rfl
theorem AE1:AL9 D σ H=D.nx σ H:=rfl
theorem AV8:BH4 tA t u D σ H=tA σ H (fun b H1=>if b=true then t D σ H1 else u D σ H1):=rfl
theorem AV9:BH0 te D σ H=te σ H D.rt:=rfl
theorem AE2:BC8 D σ H=D.rt .non H:=rfl
theorem AE3:BC6 te D σ H=te σ H (fun _ H1=>D.nx σ H1):=rfl
theorem AW0:BA7 te g D σ H=te σ H (fun x H1=>g x σ H1 D.nx):=rfl
theorem wR:zP i v σ H QS=QS (σ.set i (some v)) H:=rfl
theorem AE4 {ts:BC9}:BM5 ta tb ts v σ H QS=ta σ H (fun o H1=>tb σ H1 (fun i H2=>ts o i v H2 (fun H3=>QS σ H3))):=rfl
theorem AW1:BH2 i σ H Q=∃ v,σ[i]?=some (some v)/\Q v H:=rfl
theorem w_c:tC v σ H Q=Q v H:=rfl
theorem BI7 {r:R2}:tOp r ta tb σ H Q=ta σ H (fun x H1=>tb σ H1 (fun y H2=>r x y H2 Q)):=rfl
theorem BI8 {r:V->Hp->VK->Prop}:tUn r ta σ H Q=ta σ H (fun x H1=>r x H1 Q):=rfl
theorem BI9 {f:Int->V}:rU f x H Q=∃ i,x=.int i/\Q (f i) H:=rfl
theorem AW2 {f:Int->Int->V}:rI0 f x y H Q=∃ i j,x=.int i/\y=.int j/\Q (f i j) H:=rfl
theorem BJ0 {C:Int->Int->Prop}{f:Int->Int->V}:rI C f x y H Q=∃ i j,x=.int i/\y=.int j/\C i j/\Q (f i j) H:=rfl
theorem AE5:BD6 te σ H QB=te σ H (fun x H'=>∃ k,x=.bl k/\QB k H'):=rfl
theorem w_b:L2.tB te σ H QB=te σ H (fun x H1=>∃ c,x=.bl c/\QB c H1):=rfl
theorem AW3:BM2 tA tB' σ H QB=tA σ H (fun c H1=>if c=true then tB' σ H1 QB else QB false H1):=rfl
theorem BJ1:tOr tA tB' σ H QB=tA σ H (fun c H1=>if c=true then QB true H1 else tB' σ H1 QB):=rfl
theorem w_not:BM3 tA σ H QB=tA σ H (fun c H1=>QB (!c) H1):=rfl
theorem AE6:BC4 ta tb σ H Q=ta σ H (fun x H1=>∃ c,x=.bl c/\if c=true then tb σ H1 Q else Q (.bl false) H1):=rfl
theorem AE7:BC5 ta σ H Q=ta σ H (fun x H1=>∃ c,x=.bl c/\Q (.bl (!c)) H1):=rfl
theorem BJ2:tIf tA ta tb σ H Q=tA σ H (fun c H1=>if c=true then ta σ H1 Q else tb σ H1 Q):=rfl
theorem AE8:AM9 ta tr σ H QA=ta σ H (fun x H1=>tr σ H1 (fun xs H2=>QA (x::xs) H2)):=rfl
theorem AW4:BB0 σ H QA=QA [] H:=rfl
theorem AW5:BM8 tr σ H Q=tr σ H (fun xs H1=>xs.length<=sizeLine/\∀ p,H1 p=none->Q (.ref p) (L2.upd H1 p (.tup xs))):=rfl
theorem AW6:BI3 tr σ H Q=tr σ H (fun xs H1=>xs.length<=sizeLine/\∀ p,H1 p=none->Q (.ref p) (L2.upd H1 p (.lst xs))):=rfl
theorem AE9 {sp:Sp}{dvs:List V}{E:XK}:AN0 sp dvs E tr σ H Q=tr σ H (fun vs H1=>sp (vs++dvs) H1 Q E):=rfl
theorem BJ3 {r:List V->Hp->VK->Prop}:tCB r tr σ H Q=tr σ H (fun vs H1=>r vs H1 Q):=rfl
theorem BJ4:rEq x y H Q=(AM4 x y=true/\Q (.bl (decide (x=y))) H):=rfl
theorem BJ5:rNe x y H Q=(AM4 x y=true/\Q (.bl (!decide (x=y))) H):=rfl
theorem BJ6 {a b:Int}:AM4 (.int a) (.int b)=true:=rfl
theorem BJ7 {a b:Bool}:AM4 (.bl a) (.bl b)=true:=rfl
theorem BJ8 {a b:Str}:AM4 (.str a) (.str b)=true:=rfl
theorem BJ9 {a:Int}:AM4 (.int a) .non=true:=rfl
theorem BK0 {a:Bool}:AM4 (.bl a) .non=true:=rfl
theorem AW7:BM1 ta σ H Q=ta σ H (fun x H1=>Q (.bl (decide (x=.non))) H1):=rfl
theorem AF0:BC2 ta σ H Q=ta σ H (fun x H1=>Q (.bl (!decide (x=.non))) H1):=rfl
theorem BK1 {r:V->Option Int->Option Int->Hp->VK->Prop}{tl th:TO}:tSl r te tl th σ H Q=te σ H (fun x H1=>tl σ H1 (fun l H2=>th σ H2 (fun u H3=>r x l u H3 Q))):=rfl
theorem AF1 {QO:Option Int->Hp->Prop}:BD9 te σ H QO=te σ H (fun x H1=>∃ i,x=.int i/\QO (some i) H1):=rfl
theorem tE {QO:Option Int->Hp->Prop}:AD6 σ H QO=QO none H:=rfl
theorem w_K {CX:CXT}{P:Program}{w:World}{mg:Str->Option Value}{base:Heap}{N:List Str}{qual:Str}{sc:Scope}{f:Addr}{cd:Value}{A:Around}{outer:List Env}{s:Shared}{H:Hp}{E:XK}:(AS2 CX P w K mg base N qual sc f cd A outer s H E).K=K:=rfl
def ForL (K:Frag)(a:Addr)(g:TG)(tb:TS)(D:Ends)(σ:L2.St)(H:Hp):Prop:=∃ W:Nat->Nat->L2.St->Hp->Prop,(∃ m,W 0 m σ H)/\∀ i m σ H,W i m σ H ->
 ((Itl K a).stop i H/\D.nx σ H)\/((Itl K a).go i H/\∃ N:L2.St->Hp->Prop,(∀ σ' H',N σ' H'->∃ m',m' < m/\W (i+1) m' σ' H')/\∀ x H',(Itl K a).yld i H x H'->g x σ H' fun σ2 H2=>tb { D with nx:=N,ct:=N,bk:=D.nx } σ2 H2)
def ForR (lo:Int)(n:Nat)(g:TG)(tb:TS)(D:Ends)(σ:L2.St)(H:Hp):Prop:=∃ W:Nat->Nat->L2.St->Hp->Prop,(∃ m,W 0 m σ H)/\∀ i m σ H,W i m σ H ->
 ((Itr lo n).stop i H/\D.nx σ H)\/((Itr lo n).go i H/\∃ N:L2.St->Hp->Prop,(∀ σ' H',N σ' H'->∃ m',m' < m/\W (i+1) m' σ' H')/\∀ x H',(Itr lo n).yld i H x H'->g x σ H' fun σ2 H2=>tb { D with nx:=N,ct:=N,bk:=D.nx } σ2 H2)
theorem AF2:BA8 (AU4 K ta) g t D σ H=ta σ H (fun x H1=>∃ a,x=.ref a/\(∃ xs,SqL K H1 a xs)/\ForL K a g t D σ H1):=rfl
theorem AF3:BA8 (AU5 tr) g t D σ H=tr σ H (fun vs H1=>∃ j:Int,vs=[.int j]/\-(2 ^ 62)<=j/\j < 2 ^ 62/\ForR 0 j.toNat g t D σ H1):=rfl
theorem ForL.by {a:Addr}{xs:List V}(Pv:Nat->L2.St->Hp->Prop)(h0:Pv 0 σ H)(hl:∀ i σ H,i<=xs.length->Pv i σ H->SqL K H a xs)(hs:∀ i x σ H,xs[i]?=some x->Pv i σ H->g x σ H fun σ2 H2=>t { D with nx:=Pv (i+1),ct:=Pv (i+1),bk:=D.nx } σ2 H2)(hd:∀ σ H,Pv xs.length σ H->D.nx σ H):ForL K a g t D σ H:=AM3 Pv h0 hl hs hd
theorem ForR.by {lo:Int}{n:Nat}(Pv:Nat->L2.St->Hp->Prop)(h0:Pv 0 σ H)(hs:∀ i σ H,i < n->Pv i σ H->g (.int (lo+i)) σ H fun σ2 H2=>t { D with nx:=Pv (i+1),ct:=Pv (i+1),bk:=D.nx } σ2 H2)(hd:∀ σ H,Pv n σ H->D.nx σ H):ForR lo n g t D σ H:=AC5 Pv h0 hs hd
theorem ixl {p:Addr}{xs:List V}{k:Int}(hS:SqL K H p xs)(hv:atI xs k=some v)(q:Q v H):BM9 K (.ref p) (.int k) H Q:=⟨p,xs,k,v,rfl,rfl,hS,hv,q⟩
theorem ixt {p:Addr}{xs:List V}{k:Int}(hS:SqT K H p xs)(hv:atI xs k=some v)(q:Q v H):BN0 K (.ref p) (.int k) H Q:=⟨p,xs,k,v,rfl,rfl,hS,hv,q⟩
theorem BK2 {p:Addr}{xs:List V}{k:Int}{QH:Hp->Prop}(h:H p=some (.lst xs))(hj:ixN xs.length k=some j)(q:QH (L2.upd H p (.lst (xs.set j v)))):BE0 (.ref p) (.int k) v H QH:=⟨p,xs,k,j,rfl,rfl,h,hj,q⟩
end
structure QOk (H:Hp) (p:Addr) (s e:Int):Prop where
 at_:H p=some (.tup [.int s,.int e])
 s0:0<=s
 s1:s<=1439
 e0:0<=e
 e1:e<=1439
 ne:s≠e
end Bw
set_option maxHeartbeats 1000000
namespace Bw
open PySem PySem.Spec PyProof.Rows L2 PySem.W
section
variable {M:Model}{A:Around}{E:Value->Shared->Prop}{env:Env}
variable {nm q:Str}{C N:Addr}{bs bm:List Value}{hdct:Bool}{sn:List Str}{sub:List Value}{ab:Bool}{col:Option Bool}{dd:Option Addr}{k0 k1 k2 k3 k5:Option Value}{newId:String}
end
section
variable {M:Model}{A:Around}{E:Value->Shared->Prop}{s:Shared}
end
def BK3 (P:Program)(w:World)(c:Bool):CXT:=fun outer H s E e s' =>
 ∃ (x:Addr) (cls a0:Value) (dx:Option Addr) (H':Hp) (B:Heap),e=.ref x/\s'.os=s.os/\AllBare s'.gens/\Un (frs outer) [] H H' s.heap s'.heap/\HOk P w H' s'.heap/\Heap.FlyingW B outer x cls a0 s'.heap /\
  (∀ b u,H' b=some u->∃ o,B.get? b=some o)/\(∀ b o,s.heap.get? b=some o->H b=none->b ∉ frs outer->B.get? b=some o)/\(∀ b o,s.heap.get? b=some o->b ∉ frs outer->∃ o',B.get? b=some o')/\(∃ oe,s'.heap.get? x=some oe/\oe.dict=dx/\(c=true->∃ vs,oe.data=.fields vs/\vs[2]?=some .none))/\E cls dx H'
abbrev CXF (P:Program)(w:World):CXT:=BK3 P w true
section
variable {X:Cx}{pins:List (Addr × Obj)}{σ:L2.St}{H H':Hp}{s:Shared}{h2 B:Heap}
end
section
variable {P:Program}{w:World}{K:Frag}{mg:Str->Option Value}{base:Heap}{N:List Str}{qual:Str}{sc:Scope}{f:Addr}{cdv:Value}{A:Around}{outer:List Env}{s:Shared}{H:Hp}{E:XK}
theorem cW {X:Cx}{c:Bool}:jE (BK3 P w c) X E0:=fun pins σ H1 s1 e s' I hx=>by
 obtain ⟨_,_,_,_,_,_,_,_,_,_,_,_,_,_,_,_,hE⟩:=hx
 exact hE.elim
theorem FnOk.up {k:Nat}{fd:FuncData}{ps:List Str}{sp:Sp}{CX:CXT}(F:FnOk P w K mg base CX0 k f fd ps sp):FnOk P w K mg base CX k f fd ps sp :=
 ⟨F.len,fun A outer s H args us vs Q E hr he hb hv hs=>codeAny_mono (F.run A outer s H args us vs Q E hr he hb hv hs) fun r s' q=>by
  cases r with
  | ok fl=>cases fl <;> exact q
  | error e=>exact (show False from q).elim⟩
end
section
variable {X:Cx}{pins:List (Addr × Obj)}{σ:L2.St}{H H':Hp}{s:Shared}
end
end Bw
set_option maxHeartbeats 400000
namespace Bw
open PySem PySem.Spec PyProof.Rows L2 PySem.W
section
variable {prog:Program}{w:World}{A:Around}{E:Value->Shared->Prop}{K:Frag}{h:Heap}{g:Array GenState}{d:Drawn}{t:Nat}{os:OsState}{x C:Addr}
structure ExcK (K:Frag) (C:Addr):Prop where
 ga:findIn K (.ref C) "__getattribute__"=some (some (.builtin "BaseException.__getattribute__"))
 gt:findIn K (.ref C) "__getattr__"=some none
 cl:findIn K (.ref C) "__class__"=some (some (.builtin "object.__class__"))
 mB:mroIn K C (.type "BaseException")=some true
 mO:mroIn K C (.type "object")=some true
 cls:(clsIn K C).isSome=true
end
section
variable {X:Cx}
end
structure CalX (P:Program) (w:World) (K:Frag) (mg:Str->Option Value) (base:Heap) (x:Str) (ps:List Str) (k:Nat) (sp:Sp):Prop where
 ex:∃ f fd,FnOk P w K mg base (CXF P w) k f fd ps sp/\Binds K fd ps []/\keepIn K (.ref f)=true/\mg x=some (.ref f)
theorem iD {X:Cx}{x:Str}{ps:List Str}{k:Nat}{sp:Sp}{e:Expr}{es:List Expr}{t:TA}{p pos:Pos}(C:CalX X.prog X.w X.K X.mg X.base x ps k sp)(hr:Room k X.A)(hg:Gl X x)(ha:PA X (e::es) t)(hdb:(x == ("__debug__":Str))=false:=by decide)(he:starEach (e::es) X.env=(false,eval e X.env)::starEach es X.env:=by rfl)(hpl:(backTo pos (starEach es X.env)).any (·.1)=false:=by rfl) :
  PE X (.Call (.Name x p) (e::es) [] pos) (AN0 sp [] E0 t):=by
 obtain ⟨f,fd,F,b,kp,m⟩:=C.ex
 exact AV4 F hr hg m kp b .nil cW ha hdb he hpl
structure CalW (P:Program) (w:World) (K:Frag) (mg:Str->Option Value) (base:Heap) (x:Str) (ps:List Str) (k:Nat) (sp:Sp):Prop where
 ex:∃ f fd,FnOk P w K mg base (BK3 P w false) k f fd ps sp/\Binds K fd ps []/\keepIn K (.ref f)=true/\mg x=some (.ref f)
theorem wS {xs:List V}{i:Int}(h0:0<=i)(h:i < xs.length):∃ z∈xs,atI xs i=some z:=by
 have hk:i.toNat < xs.length:=by omega
 have ek:i=((i.toNat:Nat):Int):=by omega
 refine ⟨xs[i.toNat],List.getElem_mem hk,?_⟩
 have q:atI xs ((i.toNat:Nat):Int)=some xs[i.toNat]:=wO (List.getElem?_eq_getElem hk)
 rwa [<- ek] at q
end Bw
set_option maxHeartbeats 1000000
namespace Bw
open PySem PySem.Spec PyProof.Rows L2 PySem.W
section
variable {X:Cx}
end
theorem jV {α:Type}{x:Str}{c:α}:∀ {l:List (Str × α)},l.lookup x=some c->(x,c)∈l
 | [],h=>by simp at h
 | (n,k)::r,h=>by
  rw [List.lookup_cons] at h
  cases hx:x == n with
  | true =>
   rw [hx] at h
   have e:x=n:=by simpa using hx
   have e2:k=c:=by simpa using h
   subst e e2
   exact List.mem_cons_self
  | false =>
   rw [hx] at h
   exact List.mem_cons_of_mem _ (jV h)
theorem sK {α:Type}{x:Str}{c:α}:∀ {l:List (Str × α)},(x,c)∈l->∃ c',l.lookup x=some c'
 | [],h=>by cases h
 | (n,k)::r,h=>by
  rw [List.lookup_cons]
  cases hx:x == n with
  | true=>exact ⟨k,rfl⟩
  | false =>
   rcases List.mem_cons.mp h with e | e
   ·cases e
    simp at hx
   ·exact sK e
theorem kY {env:Env}:∀ (names:List (Str × NameKind)) (acc:List (Str × Addr)),(∀ y∈names,y.2=.free->∃ c,env.cells.lookup y.1=some c) ->
  ∃ cl:List (Str × Addr),(forIn (m:=Sem) names acc fun (x:Str × NameKind) r =>
    if (x.2 == NameKind.free)=true then do let a <- cellOf env x.1; pure (ForInStep.yield ((x.1,a)::r)) else pure (ForInStep.yield r))=pure cl /\
   (∀ p∈cl,p∈acc\/env.cells.lookup p.1=some p.2)/\(∀ p∈acc,p∈cl)/\∀ x,(x,NameKind.free)∈names->∃ c,(x,c)∈cl
 | [],acc,_=>⟨acc,rfl,fun p hp=>.inl hp,fun p hp=>hp,fun x hx=>by cases hx⟩
 | (n,k)::r,acc,h=>by
  by_cases hk:k=.free
  ·subst hk
   obtain ⟨c,hc⟩:=h (n,.free) List.mem_cons_self rfl
   obtain ⟨cl,e,h1,h2,h3⟩:=kY r ((n,c)::acc) fun y hy=>h y (List.mem_cons_of_mem _ hy)
   have hc':cellOf env n=pure c:=by unfold cellOf; rw [hc]
   refine ⟨cl,?_,fun p hp=>?_,fun p hp=>h2 p (List.mem_cons_of_mem _ hp),fun x hx=>?_⟩
   ·rw [List.forIn_cons]
    simp only [beq_self_eq_true,if_true,hc',pure_bind]
    exact e
   ·rcases h1 p hp with z | z
    ·rcases List.mem_cons.mp z with rfl | z
     ·exact .inr hc
     ·exact .inl z
    ·exact .inr z
   ·rcases List.mem_cons.mp hx with z | z
    ·cases z
     exact ⟨c,h2 _ List.mem_cons_self⟩
    ·exact h3 x z
  ·obtain ⟨cl,e,h1,h2,h3⟩:=kY r acc fun y hy=>h y (List.mem_cons_of_mem _ hy)
   have hb:(k == NameKind.free)=false:=by simpa using hk
   refine ⟨cl,?_,h1,h2,fun x hx=>?_⟩
   ·rw [List.forIn_cons]
    simp only [hb,Bool.false_eq_true,if_false,pure_bind]
    exact e
   ·rcases List.mem_cons.mp hx with z | z
    ·cases z
     exact absurd rfl hk
    ·exact h3 x z
theorem zZ {env:Env}{scope:Scope}(h:∀ y∈scope.names,y.2=.free->∃ c,env.cells.lookup y.1=some c) :
  ∃ cl,closureFor scope env=pure cl/\(∀ x c,cl.lookup x=some c->env.cells.lookup x=some c)/\∀ x,(x,NameKind.free)∈scope.names->∃ c,cl.lookup x=some c:=by
 obtain ⟨cl,e,h1,h2,h3⟩:=kY (env:=env) scope.names [] h
 refine ⟨cl,?_,fun x c hx=>?_,fun x hx=>?_⟩
 ·unfold closureFor
  simp only [bind_pure]
  exact e
 ·rcases h1 _ (jV hx) with z | z
  ·cases z
  ·exact z
 ·obtain ⟨c,hc⟩:=h3 x hx
  exact sK hc
theorem qB {scope:Scope}{env:Env}{x:Str}{k:NameKind}(h:(relabel scope env).names.lookup x=some k):(x,k)∈scope.names\/(k=.cell/\(x,NameKind.free)∈scope.names):=by
 obtain ⟨⟨n,k'⟩,hm,e⟩:=List.mem_map.mp (jV h)
 dsimp only at e
 split at e
 ·rename_i hc
  simp only [Bool.and_eq_true,beq_iff_eq] at hc
  obtain ⟨⟨rfl,_⟩,_⟩:=hc
  cases e
  exact .inr ⟨rfl,hm⟩
 ·cases e
  exact .inl hm
abbrev blk (X:Cx)(N:List Str)(scope:Scope)(cl:List (Str × Addr))(C:Addr)(s:Shared)(H:Hp)(fp:List Addr):Cx :=
 { prog:=X.prog,w:=X.w,K:=X.K,mg:=X.mg,base:=X.base,A:=X.A,N:=N,s₀:=s,H₀:=H,env:=compEnvC scope cl C X.env,outer:=X.stack,stack:=X.stack,ex:=fp,fn:=fun _=>false,calm:=X.calm,pn:=[],xe:=fun _ _=>False }
def wT (ix:List (Option Nat))(σ:L2.St):L2.St:=ix.map fun o=>o.bind fun j=>(σ[j]?).getD none
def PTs (X:Cx)(ifs:List Expr)(t:TT):Prop :=
 ∀ (pins:List (Addr × Obj)) (s:Shared) (σ:L2.St) (H:Hp) (Q:Bool->Hp->Prop),Inv X pins σ H s->t σ H Q ->
  wpAny (model X.prog X.w) X.A (forIn ifs true fun c r=>if r=true then do let ok <- isTrue c X.env (eval c X.env); pure (ForInStep.yield ok) else pure (ForInStep.yield r)) (TP X pins σ Q) X.xe s
def BN3:TT:=fun _ H Q=>Q true H
theorem gA {X:Cx}:PTs X [] BN3:=fun pins s σ H Q I h=>wpAny_tests_nil ⟨H,I,h⟩
theorem tF {X:Cx}{c:Expr}{t:TT}(h:PT X c t):PTs X [c] t:=fun pins s σ H Q I q=>wpAny_tests_one (h pins s σ H Q I q)
def rM (wi:TI)(ix:List (Option Nat))(g:TG)(tt:TT)(te:TE):TE:=fun σ H Q=>wi σ H fun J H1=>∃ W:Nat->Nat->List V->L2.St->Hp->Prop,(∃ m,W 0 m [] (wT ix σ) H1)/\∀ i m acc σ H,W i m acc σ H ->
 (J.stop i H/\∀ D,H D=none->Q (.ref D) (upd H D (.lst acc))) \/
 (J.go i H/\acc.length < sizeLine/\∃ N:List V->L2.St->Hp->Prop,(∀ acc' σ' H',N acc' σ' H'->∃ m',m' < m/\W (i+1) m' acc' σ' H') /\
  ∀ x H',J.yld i H x H'->g x σ H' fun σ2 H2=>tt σ2 H2 fun b H3=>if b=true then te σ2 H3 fun y H4=>N (acc++[y]) σ2 H4 else N acc σ2 H3)
section
variable {prog:Program}{w:World}{A:Around}{R:Result->Shared->Prop}{s:Shared}
theorem nO {elt target iter:Expr}{ifs:List Expr}{scope:Scope}{pos:Pos}{it acc:Value}{env:Env}(I:Nat->Shared->Prop)(turn:∀ n s,I n s->wpAny (model prog w) A (pyNext it) (fun r s₁=>match r with
   | none=>R (.ok .next) s₁
   | some v=>wpAny (model prog w) A (letOwnedTupleGo target it v) (fun _ s₁=>wpAny (model prog w) A (assign target env v) (fun _ s₂ =>
     wpAny (model prog w) A (forIn ifs true fun c r=>if r=true then do let ok <- isTrue c env (eval c env); pure (ForInStep.yield ok) else pure (ForInStep.yield r)) (fun ok s₃ =>
      if ok=true then wpAny (model prog w) A (eval elt env) (fun x s₄ =>
       wpAny (model prog w) A (call (.builtin "list.append") [acc,x]) (fun _ s₅=>∃ m,m < n/\I m s₅) (fun _ _=>False) s₄) (fun _ _=>False) s₃
      else ∃ m,m < n/\I m s₃) (fun _ _=>False) s₂) (fun _ _=>False) s₁) (fun _ _=>False) s₁) (fun _ _=>False) s)(n:Nat)(h:I n s) :
  codeAny (model prog w) A (.compLoop (.ListComp elt [⟨target,iter,ifs,0⟩] scope pos) 0 it acc env) R s:=by
 refine codeAny_loop rfl I (fun n s hI=>?_) n h
 show wpAny _ A ((compTurn (.ListComp elt [⟨target,iter,ifs,0⟩] scope pos) 0 it acc env).onRaise (fun x=>do noteFrame x env; theTreesLotGoes x)) _ _ s
 refine wpAny_noted ?_
 rw [compTurn_list]
 refine wpAny_bind (wpAny_standAt (wpAny_bind (wpAny_mono (turn n s hI) (fun r s₁ h₁=>?_) fun _ _ h'=>h'.elim)))
 cases r with
 | none=>exact wpAny_pure h₁
 | some v =>
  refine wpAny_bind (wpAny_mono h₁ (fun _ s₁ h₁=>?_) fun _ _ h'=>h'.elim)
  refine wpAny_bind (wpAny_mono h₁ (fun _ s₂ h₂=>wpAny_bind (wpAny_mono h₂ (fun ok s₃ h₃=>?_) fun _ _ h'=>h'.elim)) fun _ _ h'=>h'.elim)
  cases ok with
  | false=>exact wpAny_pure ⟨rfl,h₃⟩
  | true =>
   exact wpAny_bind (wpAny_bind (wpAny_mono h₃ (fun x s₄ h₄=>wpAny_bind (wpAny_mono h₄ (fun _ s₅ h₅=>wpAny_pure (wpAny_pure ⟨rfl,h₅⟩)) fun _ _ h'=>h'.elim)) fun _ _ h'=>h'.elim))
end
section
variable {X:Cx}{pins:List (Addr × Obj)}{σ:L2.St}{H:Hp}{s:Shared}{N:List Str}{scope:Scope}{cl:List (Str × Addr)}{C:Addr}{fp:List Addr}
theorem BE4 (I:Inv X pins σ H s)(hkind:scope.kind=.function)(hcell:∀ y∈scope.names,y.2≠.cell)(h1:∀ x c,cl.lookup x=some c->X.env.cells.lookup x=some c)(h2:∀ x,(x,NameKind.free)∈scope.names->∃ c,cl.lookup x=some c)(hC:s.heap.objs.size<=C)(hf:∀ b∈fp,AL5 X pins H b)(hb:∀ b∈fp,b < s.heap.objs.size):(blk X N scope cl C s H fp).Ok where
 mod:=I.ok.mod
 kind:=hkind
 glob:=I.ok.glob
 blt:=I.ok.blt
 above:=hC
 inj:=fun x y c a b=>I.ok.inj x y c (h1 x c a) (h1 y c b)
 has:=fun x hx=>by
  have:(x,NameKind.free)∈scope.names:=by
   rcases hx with z | z
   ·rcases qB z with q | ⟨_,q⟩
    ·exact absurd rfl (hcell _ q)
    ·exact q
   ·rcases qB z with q | ⟨e,q⟩
    ·exact q
    ·cases e
  exact h2 x this
 cab:=fun x c hx=>by cases hx
 hd:=I.ok.hd
 frames:=I.ok.frames
 stk:=.inl rfl
 exf:=fun b hm=>⟨Nat.ne_of_lt (Nat.lt_of_lt_of_le (hb b hm) hC),fun x c e=>(hf b hm).2.2.2.2.1 x c (h1 x c e)⟩
 bs:=I.bs
 bsz:=Nat.le_trans I.ok.bsz I.sz
 noex:=fun b o e hm=>by
  rcases (hf b hm).2.2.2.1 with z | z
  ·exact I.ok.noex b o e z
  ·exact absurd (Nat.lt_of_lt_of_le (Heap.lt_size e) (Nat.le_trans I.ok.bsz z)) (Nat.lt_irrefl _)
 exfs:=fun b hm hs=>(List.mem_cons.mp (I.stkSub b hs)).elim (hf b hm).2.1 (hf b hm).2.2.1
 funs:=I.stack
 frf:=I.stkFree
end
theorem gZ {env:Env}:∀ {names:List (Str × NameKind)}{x:Str},names.lookup x=some .free ->
  (names.map fun (n,k)=>if (k == NameKind.free && env.scope.kind == .function && env.kindOf n == some .cell) then (n,NameKind.cell) else (n,k)).lookup x=some .cell \/
  (names.map fun (n,k)=>if (k == NameKind.free && env.scope.kind == .function && env.kindOf n == some .cell) then (n,NameKind.cell) else (n,k)).lookup x=some .free
 | [],_,h=>by simp at h
 | (n,k)::r,x,h=>by
  have ih:=@gZ env r x
  rw [List.map_cons]
  cases hx:x == n with
  | true =>
   simp only [List.lookup_cons,hx] at h
   cases h
   by_cases hc:(NameKind.free == NameKind.free && env.scope.kind == .function && env.kindOf n == some .cell)=true
   ·left; simp only [hc,if_true,List.lookup_cons,hx]
   ·right; simp only [Bool.not_eq_true] at hc; simp only [hc,Bool.false_eq_true,if_false,List.lookup_cons,hx]
  | false =>
   simp only [List.lookup_cons,hx] at h
   by_cases hc:(k == NameKind.free && env.scope.kind == .function && env.kindOf n == some .cell)=true
   ·simp only [hc,if_true,List.lookup_cons,hx]; exact ih h
   ·simp only [Bool.not_eq_true] at hc; simp only [hc,Bool.false_eq_true,if_false,List.lookup_cons,hx]; exact ih h
section
variable {X:Cx}
structure Gone (X:Cx) (pins:List (Addr × Obj)) (H:Hp) (C:Addr):Prop where
 n:H C=none
 l:C≠X.env.locals
 y:X.s₀.heap.objs.size<=C
 c:∀ x c,X.env.cells.lookup x=some c->c≠C
 p:∀ p∈X.pn++pins,p.1≠C
theorem Gone.inv {pins:List (Addr × Obj)}{σ:L2.St}{H:Hp}{s:Shared}{C:Addr}{h':Heap}(G:Gone X pins H C)(I:Inv X pins σ H s)(hs:Heap.SameBut C s.heap h'):Inv X pins σ H { s with heap:=h' } :=
 I.turned (t':=s.toks) (fun b o hb e=>(hs.2 b hb).trans e) G.n G.l (.inr G.y) G.c G.p
theorem yQ {elt iter tg:Expr}{ifs:List Expr}{scope:Scope}{pos ppos:Pos}{wi:TI}{g:TG}{tt:TT}{te:TE}{use:Option (Value->Sem Unit)}{Q':Value->Shared->Prop}{pins:List (Addr × Obj)}{s:Shared}{σ:L2.St}{H:Hp}{Q:VK}(N:List Str)(ix:List (Option Nat))(hc:X.calm=true)(hkind:scope.kind=.function)(hcell:∀ y∈scope.names,y.2≠.cell)(hnames:∀ y∈scope.names,y.2=.local->scope.names.lookup y.1=some .local)(hfree:∀ y∈scope.names,y.2=.free->X.env.kindOf y.1=some .cell\/X.env.kindOf y.1=some .free)(hlen:ix.length=N.length)(hcap:∀ (i j:Nat) (x:Str),ix[i]?=some (some j)->N[i]?=some x->X.N[j]?=some x/\scope.names.lookup x=some .free)(hi:PI X tg iter wi)(hb:∀ cl C s H fp,PG (blk X N scope cl C s H fp) tg g/\PTs (blk X N scope cl C s H fp) ifs tt/\PE (blk X N scope cl C s H fp) elt te)(hs:∀ x,foldedSetIterable iter X.env x=pure x)(I:Inv X pins σ H s)(h:rM wi ix g tt te σ H Q)(hend:∀ (D C:Addr) (H':Hp) (s4:Shared) (mC:Str->Option Value),Inv X pins σ H' s4->s4.heap.Ns C mC->Gone X pins H' C->Q (.ref D) H'->compPost (model X.prog X.w) X.A X.xe use Q' (.ref D) C (.ok .next) s4) :
  wpAny (model X.prog X.w) X.A (comprehension (.ListComp elt [⟨tg,iter,ifs,0⟩] scope pos) scope X.env ppos (newList []) false (eval iter X.env) use) Q' X.xe s:=by
 obtain ⟨cl,hclos,hcl1,hcl2⟩:=zZ (env:=X.env) (scope:=scope) fun y hy e=>I.ok.has _ (hfree y hy e)
 refine wpAny_comprehension_free rfl hs hclos hkind hnames (thn (hi pins s σ H _ I h) fun v s1 h1=>thn h1 fun itv s2 h2=>?_)
 obtain ⟨it,fp,tn,J,H2,e,I2,T,st2,f2,W,⟨m0,w0⟩,turn⟩:=h2
 subst e
 refine wpAny_newObj_type (wpAny_newFunctionEnv hcell (by intro y hy; simp at hy) (fun h₁ hns₁ hsb₁=>?_) hkind)
 dsimp only at hns₁ hsb₁ ⊢
 generalize hH2:s2.heap.push { cls:=.type "list",dict:=none,data:=.seq ([]:List Value).toArray }=HH at hns₁ hsb₁ ⊢
 have hC:HH.objs.size=s2.heap.objs.size+1:=by rw [<- hH2,Heap.size_push]
 have hDC:s2.heap.objs.size≠HH.objs.size:=by rw [hC]; exact Nat.ne_of_lt (Nat.lt_succ_self _)
 have hCle:s2.heap.objs.size<=HH.objs.size:=by rw [hC]; exact Nat.le_succ _
 have below:∀ b,b < s2.heap.objs.size->b≠HH.objs.size/\b≠s2.heap.objs.size:=fun b hb=>⟨by rw [hC]; exact Nat.ne_of_lt (Nat.lt_succ_of_lt hb),Nat.ne_of_lt hb⟩
 have hfp:∀ b∈fp,b < s2.heap.objs.size:=fun b hm=>by
  obtain ⟨o,e,_⟩:=T.obj _ _ st2 b hm
  exact Heap.lt_size e
 have old:∀ b o,s2.heap.get? b=some o->h₁.get? b=some o:=fun b o e=>hsb₁.extBut b o (below b (Heap.lt_size e)).1 (Heap.get?_push_of_some _ (hH2 ▸ Heap.get?_push_of_some _ e))
 have hacc:h₁.get? s2.heap.objs.size=some { cls:=.type "list",data:=.seq ([]:List Value).toArray }:=hsb₁.extBut _ _ hDC (Heap.get?_push_of_some _ (hH2 ▸ Heap.get?_push_size _ rfl))
 generalize hD:s2.heap.objs.size=D at hDC hCle hacc ⊢
 generalize hCC:HH.objs.size=C at hns₁ hsb₁ hDC hCle ⊢
 have hDle:s2.heap.objs.size<=D:=by rw [hD]; exact Nat.le_refl _
 have hCle':s2.heap.objs.size<=C:=by rw [hD]; exact hCle
 obtain ⟨bg,bt,be⟩:=hb cl C s2 H2 fp
 have ok:=BE4 (N:=N) I2 hkind hcell hcl1 hcl2 hCle' f2 hfp
 have notY:∀ b,s2.heap.objs.size<=b->b ∉ frs X.stack:=fun b hle hm=>by
  rcases List.mem_cons.mp (I2.stkSub b hm) with z | z
  ·exact absurd (Nat.lt_of_lt_of_le I2.lt (z ▸ hle)) (Nat.lt_irrefl _)
  ·exact I2.nofs hle z
 -- the block's invariant at its entry
 have I4:Inv (blk X N scope cl C s2 H2 fp) [(D,{ cls:=.type "list",data:=.seq ([]:List Value).toArray })] (wT ix σ) H2 { s2 with heap:=h₁,toks:=s2.toks+([]:List (Str × Value)).length }:=by
  refine ⟨ok,rfl,I2.bare,Un.kept old,⟨_,hns₁,fun i x v e1 e2 e3=>?_⟩,fun x c e=>?_,I2.hok.fresh hCle',fun x c e=>I2.freeC x c (hcl1 x c e),fun p hp=>?_,I2.hok.kept old,?_⟩
  ·have q:∃ j,ix[i]?=some (some j)/\σ[j]?=some (some v):=by
    unfold wT at e2
    rw [List.getElem?_map] at e2
    cases z:ix[i]? with
    | none=>rw [z] at e2; cases e2
    | some o =>
     rw [z] at e2
     cases o with
     | none=>cases e2
     | some j =>
      refine ⟨j,rfl,?_⟩
      have e2':(σ[j]?).getD none=some v:=Option.some.inj e2
      cases z2:σ[j]? with
      | none=>rw [z2] at e2'; cases e2'
      | some w'=>rw [z2] at e2'; exact congrArg some e2'
   obtain ⟨j,q1,q2⟩:=q
   obtain ⟨n1,n2⟩:=hcap i j x q1 e1
   obtain ⟨m,hn,hl⟩:=I2.loc
   have hmem:=jV n2
   have hkx:=hfree _ hmem rfl
   have hvis:Vis X.env.scope x:=by
    rcases hkx with z | z
    ·exact .inr (.inl z)
    ·exact .inr (.inr z)
   obtain ⟨u,ru,lk⟩:=hl j x v n1 q2 hvis
   refine ⟨u,ru,.inr ⟨gZ n2,?_⟩⟩
   obtain ⟨c,hcc⟩:=hcl2 x hmem
   rcases lk with ⟨k,_⟩ | ⟨_,c',e',z⟩
   ·rcases hkx with z | z <;> · rw [k] at z; cases z
   ·rw [hcl1 x c hcc] at e'
    cases e'
    obtain ⟨o,ho,hd⟩:=z
    exact ⟨c,hcc,o,old _ _ ho,hd⟩
  ·obtain ⟨v,o,ho,hd⟩:=I2.cell x c (hcl1 x c e)
   exact ⟨v,o,old _ _ ho,hd⟩
  ·have e:p=(D,{ cls:=.type "list",data:=.seq ([]:List Value).toArray }):=by simpa using hp
   subst e
   exact ⟨hacc,I2.hok.fresh hDle,hDC,notY D hDle,fun v z=>by cases z⟩
  ·unfold wT
   rw [List.length_map]
   exact hlen
 have stat:∀ {pl:List (Addr × Obj)}{H':Hp},(∀ p∈pl,p.1 ∉ fp)->(∀ b∈fp,H' b=none)->∀ b∈fp,AL5 (blk X N scope cl C s2 H2 fp) pl H' b:=fun {pl H'} hpl hn b hm =>
  ⟨hn b hm,(ok.exf b hm).1,ok.exfs b hm,.inl hm,(ok.exf b hm).2,fun p hp e=>hpl p (by simpa using hp) (e ▸ hm)⟩
 have nfp:D ∉ fp:=fun hm=>absurd (Nat.lt_of_lt_of_le (hfp D hm) hDle) (Nat.lt_irrefl _)
 have nfpP:∀ (o:Obj),∀ p∈[(D,o)],p.1 ∉ fp:=fun o p hp=>by
  have e:p=(D,o):=by simpa using hp
  subst e
  exact nfp
 have loop:∀ s3:Shared,s3={ s2 with heap:=h₁,toks:=s2.toks+([]:List (Str × Value)).length } ->
   codeAny (model X.prog X.w) X.A (.compLoop (.ListComp elt [⟨tg,iter,ifs,0⟩] scope pos) 0 (.ref it) (.ref D) (compEnvC scope cl C X.env)) (compPost (model X.prog X.w) X.A X.xe use Q' (.ref D) C) s3:=by
  rintro s3 rfl
  refine nO (fun n s'=>∃ i σ' H' acc its nn,Inv (blk X N scope cl C s2 H2 fp) [(D,{ cls:=.type "list",data:=.seq its nn })] σ' H' s'/\Vals acc its.toList/\tn i s'.heap/\(∀ b∈fp,H' b=none)/\acc.length<=sizeLine/\W i n acc σ' H') ?_ m0
   ⟨0,wT ix σ,H2,[],#[],0,I4,.nil,T.keep _ _ _ st2 fun b _ o e=>old b o e,fun b hm=>(f2 b hm).1,Nat.zero_le _,w0⟩
  rintro n s3 ⟨i,σ3,H3,acc,its,nn,I3,rv,st3,fr3,hz,w3⟩
  rcases turn i n acc σ3 H3 w3 with ⟨stop,qn⟩ | ⟨go,hlt,NN,hN,step⟩
  ·refine thn (T.done (blk X N scope cl C s2 H2 fp) rfl rfl rfl hc i _ s3 σ3 H3 (fun _ _=>False) I3 (stat (nfpP _) fr3) st3 stop) fun r s4 ⟨hr,I5⟩=>?_
   subst hr
   obtain ⟨eD,nD,_⟩:=I5.pin (D,{ cls:=.type "list",data:=.seq its nn }) (by simp)
   obtain ⟨mC,hnC,_⟩:=I5.loc
   -- back in the def's own frame
   have hne:∀ b u,H3 b=some u->b≠D:=fun b u q z=>by rw [z,nD] at q; cases q
   have un:Un (frs X.stack) fp H2 (upd H3 D (.lst acc)) s2.heap s4.heap:=by
    have b:=I5.base
    have neD:∀ b o,s2.heap.get? b=some o->b≠D:=fun b o e=>Nat.ne_of_lt (Nat.lt_of_lt_of_le (Heap.lt_size e) hDle)
    refine ⟨b.keep,b.slot,fun b' o q n' hx=>?_,b.there,fun b' xs q=>?_,fun b' o u q=>?_,fun b' ps q=>?_⟩
    ·rw [aO (neD b' o q)]
     exact b.free b' o q n' hx
    ·have q':=b.tups b' xs q
     rw [aO (hne _ _ q')]
     exact q'
    ·have q':=b.frzs b' o u q
     rw [aO (hne _ _ q')]
     exact q'
    ·obtain ⟨more,q'⟩:=b.tbls b' ps q
     exact ⟨more,by rw [aO (hne _ _ q')]; exact q'⟩
   have hokD:HOk X.prog X.w (upd H3 D (.lst acc)) s4.heap:=fun b u e=>by
    by_cases hbD:b=D
    ·subst hbD
     rw [aA] at e
     cases e
     exact ⟨hz,its.toList,nn,rv,by simpa using eD⟩
    ·rw [aO hbD] at e
     refine (I5.hok b u e).stay (fun _ _ _ q=>q) (fun c r=>?_) fun c xs r=>?_
     ·rw [aO (fun z=>by rw [z,nD] at r; cases r)]; exact r
     ·rw [aO (fun z=>by rw [z,nD] at r; cases r)]; exact r
   have IX:Inv X pins σ (upd H3 D (.lst acc)) s4:=I2.call' I5.os un hokD I5.bare fun b hm=>⟨(f2 b hm).2.2.2.1,(f2 b hm).2.1,(f2 b hm).2.2.2.2.1,(f2 b hm).2.2.2.2.2⟩
   refine hend D C _ s4 mC IX hnC ⟨?_,Nat.ne_of_gt (Nat.lt_of_lt_of_le I2.lt hCle'),Nat.le_trans I2.sz hCle',fun x c e z=>?_,fun p hp z=>?_⟩ (qn D nD)
   ·rw [aO (Ne.symm hDC)]
    exact I5.free
   ·obtain ⟨v,o,ho,_⟩:=I2.cell x c e
    exact absurd (Nat.lt_of_lt_of_le (Heap.lt_size ho) (z ▸ hCle')) (Nat.lt_irrefl _)
   ·exact absurd (Nat.lt_of_lt_of_le (Heap.lt_size (I2.pin p hp).1) (z ▸ hCle')) (Nat.lt_irrefl _)
  ·refine thn (T.item (blk X N scope cl C s2 H2 fp) rfl rfl rfl hc i _ s3 σ3 H3 (fun _ _=>False) I3 (stat (nfpP _) fr3) st3 go) fun r s4 ⟨u,hr,h4⟩=>?_
   subst hr
   refine thn h4 fun _ s5 ⟨x,H5,I5,r5,y5,st5,fr5⟩=>?_
   have I5':=I5.pinned (stat (nfpP _) fr5) (T.obj _ _ st5)
   refine thn (bg _ s5 σ3 H5 x u _ I5' r5 (step x H5 y5)) fun _ s6 ⟨σ6,H6,I6,q6⟩=>?_
   refine thn (bt _ s6 σ6 H6 _ I6 q6) fun b s7 ⟨H7,I7,q7⟩=>?_
   have after:∀ {o:Obj}{σ8:L2.St}{H8:Hp}{s8:Shared},Inv (blk X N scope cl C s2 H2 fp) ([(D,o)]++lY fp s5.heap) σ8 H8 s8->tn (i+1) s8.heap/\∀ b∈fp,H8 b=none:=fun {o σ8 H8 s8} I8=>by
    refine ⟨T.keep _ _ _ st5 fun b hb o e=>(I8.pin (b,o) (List.mem_append_right _ (List.mem_append_right _ (jT hb e)))).1,fun b hb=>?_⟩
    obtain ⟨o,e,d⟩:=T.obj _ _ st5 b hb
    exact (I8.pin (b,o) (List.mem_append_right _ (List.mem_append_right _ (jT hb e)))).2.1
   cases b with
   | false =>
    simp only [Bool.false_eq_true,if_false] at q7 ⊢
    obtain ⟨m',hm,w7⟩:=hN acc σ6 H7 q7
    exact ⟨m',hm,i+1,σ6,H7,acc,its,nn,I7.unpinned,rv,(after I7).1,(after I7).2,hz,w7⟩
   | true =>
    simp only [if_true] at q7 ⊢
    refine thn (be _ s7 σ6 H7 _ I7 q7) fun yv s8 ⟨y,H8,I8,r8,q8⟩=>?_
    obtain ⟨eD,nD,_⟩:=I8.pin (D,{ cls:=.type "list",data:=.seq its nn }) (by simp)
    have hl:acc.length=its.size:=by have:=rv.length; simpa using this
    refine wpAny_list_append_plain (hsz:=by omega) ⟨nn,eD⟩ fun h9 ⟨n9,e9⟩ hs9=>?_
    obtain ⟨m',hm,w9⟩:=hN _ _ _ q8
    have J1:Inv (blk X N scope cl C s2 H2 fp) (lY fp s5.heap) σ6 H8 s8:=I8.pins_of fun p hp=>I8.pin p (List.mem_append_right _ (List.mem_append_right _ hp))
    have nc:∀ x c,cl.lookup x=some c->c≠D:=fun x c e z=>by
     obtain ⟨v,o,ho,_⟩:=I2.cell x c (hcl1 x c e)
     exact absurd (Nat.lt_of_lt_of_le (Heap.lt_size ho) (z ▸ hDle)) (Nat.lt_irrefl _)
    have J2:Inv (blk X N scope cl C s2 H2 fp) (lY fp s5.heap) σ6 H8 { s8 with heap:=h9 }:=J1.turned (t':=s8.toks) (fun b o hb e=>hs9.extBut b o hb e) nD hDC (.inr hDle) nc fun p hp z=>by
     have hp':p∈lY fp s5.heap:=by simpa using hp
     exact nfp (z ▸ (uX hp').1)
    have J3:Inv (blk X N scope cl C s2 H2 fp) ([(D,{ cls:=.type "list",data:=.seq (its.push yv) n9 })]++lY fp s5.heap) σ6 H8 { s8 with heap:=h9 }:=J2.pins_of fun p hp=>by
     rcases List.mem_append.mp hp with hp | hp
     ·have e:p=(D,{ cls:=.type "list",data:=.seq (its.push yv) n9 }):=by simpa using hp
      subst e
      exact ⟨e9,nD,hDC,notY D hDle,fun v z=>by cases z⟩
     ·exact J2.pin p (List.mem_append_right _ hp)
    refine ⟨m',hm,i+1,σ6,H8,acc++[y],its.push yv,n9,J3.unpinned,?_,(after J3).1,(after J3).2,by rw [List.length_append,List.length_singleton]; omega,w9⟩
    rw [Array.toList_push]
    exact rv.append (.cons r8 .nil)
 exact codeAny_compStart_list (loop _ rfl) (T.self _ 0 _ _ _ (T.keep _ _ _ st2 fun b _ o e=>old b o e) (loop _ rfl))
theorem AW8 {elt iter tg:Expr}{ifs:List Expr}{scope:Scope}{pos:Pos}{wi:TI}{g:TG}{tt:TT}{te:TE}(N:List Str)(ix:List (Option Nat))(hc:X.calm=true)(hkind:scope.kind=.function)(hcell:∀ y∈scope.names,y.2≠.cell)(hnames:∀ y∈scope.names,y.2=.local->scope.names.lookup y.1=some .local)(hfree:∀ y∈scope.names,y.2=.free->X.env.kindOf y.1=some .cell\/X.env.kindOf y.1=some .free)(hlen:ix.length=N.length)(hcap:∀ (i j:Nat) (x:Str),ix[i]?=some (some j)->N[i]?=some x->X.N[j]?=some x/\scope.names.lookup x=some .free)(hi:PI X tg iter wi)(hb:∀ cl C s H fp,PG (blk X N scope cl C s H fp) tg g/\PTs (blk X N scope cl C s H fp) ifs tt/\PE (blk X N scope cl C s H fp) elt te)(hs:∀ x,foldedSetIterable iter X.env x=pure x:=by intro _; rfl):PE X (.ListComp elt [⟨tg,iter,ifs,0⟩] scope pos) (rM wi ix g tt te):=by
 intro pins s σ H Q I h
 rw [eval_ListComp]
 exact yQ (use:=none) N ix hc hkind hcell hnames hfree hlen hcap hi hb hs I h fun D C H' s4 mC I4 hn G q=>⟨mC,hn,fun h' hs'=>⟨.ref D,H',G.inv I4 hs',rfl,q⟩⟩
theorem AW9 {i:Nat}{y:Str}{elt iter tg:Expr}{ifs:List Expr}{scope:Scope}{pos py spos:Pos}{wi:TI}{g:TG}{tt:TT}{te:TE}(N:List Str)(ix:List (Option Nat))(hc:X.calm=true)(hkind:scope.kind=.function)(hcell:∀ y∈scope.names,y.2≠.cell)(hnames:∀ y∈scope.names,y.2=.local->scope.names.lookup y.1=some .local)(hfree:∀ y∈scope.names,y.2=.free->X.env.kindOf y.1=some .cell\/X.env.kindOf y.1=some .free)(hlen:ix.length=N.length)(hcap:∀ (i j:Nat) (x:Str),ix[i]?=some (some j)->N[i]?=some x->X.N[j]?=some x/\scope.names.lookup x=some .free)(hN:X.N.Nodup)(hin:X.N[i]?=some y)(hy:X.env.scope.names.lookup y=some .local)(hi:PI X tg iter wi)(hb:∀ cl C s H fp,PG (blk X N scope cl C s H fp) tg g/\PTs (blk X N scope cl C s H fp) ifs tt/\PE (blk X N scope cl C s H fp) elt te)(hsw:swapsWith (.ListComp elt [⟨tg,iter,ifs,0⟩] scope pos) (some (.Name y py)) spos.line X.env=pure true:=by rfl)(hs:∀ x,foldedSetIterable iter X.env x=pure x:=by intro _; rfl):PS X (.Assign [.Name y py] (.ListComp elt [⟨tg,iter,ifs,0⟩] scope pos) spos) (BA7 (rM wi ix g tt te) (zP i)):=by
 intro pins s σ H D I h
 rw [exec_Assign_Name_used _ _ _ _ hsw]
 refine wpAny_bind (wpAny_standAt (wpAny_bind ?_))
 show wpAny _ X.A (do let _ <- comprehension (.ListComp elt [⟨tg,iter,ifs,0⟩] scope pos) scope X.env _ (newList []) false (eval iter X.env) (some (assign (.Name y py) X.env))) _ _ s
 refine wpAny_bind (thn (yQ (use:=some (assign (.Name y py) X.env)) (Q':=fun _ s'=>SP X pins D .next s') (Q:=fun v H'=>D.nx (σ.set i (some v)) H') N ix hc hkind hcell hnames hfree hlen hcap hi hb hs I h fun Dd C H' s4 mC I4 hn G q=>?_) fun _ s' hq=>wpAny_pure (wpAny_pure hq))
 show wpAny _ X.A (assign (.Name y py) X.env (.ref Dd)) _ _ _
 refine wpAny_assign_Name (uS (v:=.ref Dd) I4 hN hin (.inl hy) rfl (fun s5 I5 ⟨a,sb,ha⟩=>?_) (.inr hy))
 have hCa:C≠a:=by
  rcases ha with z | z
  ·rw [z]; exact G.l
  ·exact fun e=>G.c _ _ z e.symm
 exact ⟨mC,hn.sameBut sb hCa,fun h' hs'=>⟨_,H',G.inv I5 hs',q⟩⟩
end
theorem AF4 {K:Frag}{a:Addr}{xs:List V}{g:TG}{tt:TT}{te:TE}{σ:L2.St}{H:Hp}{Q:VK}(Pv:Nat->List V->L2.St->Hp->Prop)(hz:xs.length<=sizeLine)(h0:Pv 0 [] σ H)(hl:∀ i acc σ H,i<=xs.length->Pv i acc σ H->SqL K H a xs)(hs:∀ i x acc σ H,xs[i]?=some x->Pv i acc σ H->g x σ H fun σ2 H2=>tt σ2 H2 fun b H3=>if b=true then te σ2 H3 fun y H4=>Pv (i+1) (acc++[y]) σ2 H4 else Pv (i+1) acc σ2 H3)(hacc:∀ i acc σ H,Pv i acc σ H->acc.length<=i)(hd:∀ acc σ H,Pv xs.length acc σ H->∀ D,H D=none->Q (.ref D) (upd H D (.lst acc))) :
  ∃ W:Nat->Nat->List V->L2.St->Hp->Prop,(∃ m,W 0 m [] σ H)/\∀ i m acc σ H,W i m acc σ H ->
   ((Itl K a).stop i H/\∀ D,H D=none->Q (.ref D) (upd H D (.lst acc))) \/
   ((Itl K a).go i H/\acc.length < sizeLine/\∃ N:List V->L2.St->Hp->Prop,(∀ acc' σ' H',N acc' σ' H'->∃ m',m' < m/\W (i+1) m' acc' σ' H') /\
    ∀ x H',(Itl K a).yld i H x H'->g x σ H' fun σ2 H2=>tt σ2 H2 fun b H3=>if b=true then te σ2 H3 fun y H4=>N (acc++[y]) σ2 H4 else N acc σ2 H3):=by
 refine ⟨fun i m acc σ H=>m=xs.length - i/\i<=xs.length/\Pv i acc σ H,⟨xs.length,by simp,Nat.zero_le _,h0⟩,?_⟩
 rintro i m acc σ H ⟨rfl,hi,p⟩
 have q:=hl i acc σ H hi p
 have ha:=hacc i acc σ H p
 by_cases hlt:i < xs.length
 ·refine .inr ⟨⟨xs,xs[i],q,by simp [hlt]⟩,by omega,Pv (i+1),fun acc' σ' H' p'=>⟨xs.length - (i+1),by omega,rfl,hlt,p'⟩,fun x H' y=>?_⟩
  obtain ⟨e,y⟩:=y
  subst e
  exact hs i x acc σ _ (y xs q) p
 ·have e:i=xs.length:=by omega
  subst e
  exact .inl ⟨⟨xs,q,Nat.le_refl _⟩,hd acc σ H p⟩
theorem AA0 {lo:Int}{n:Nat}{g:TG}{tt:TT}{te:TE}{σ:L2.St}{H:Hp}{Q:VK}(Pv:Nat->List V->L2.St->Hp->Prop)(hz:n<=sizeLine)(h0:Pv 0 [] σ H)(hs:∀ i acc σ H,i < n->Pv i acc σ H->g (.int (lo+i)) σ H fun σ2 H2=>tt σ2 H2 fun b H3=>if b=true then te σ2 H3 fun y H4=>Pv (i+1) (acc++[y]) σ2 H4 else Pv (i+1) acc σ2 H3)(hacc:∀ i acc σ H,Pv i acc σ H->acc.length<=i)(hd:∀ acc σ H,Pv n acc σ H->∀ D,H D=none->Q (.ref D) (upd H D (.lst acc))) :
  ∃ W:Nat->Nat->List V->L2.St->Hp->Prop,(∃ m,W 0 m [] σ H)/\∀ i m acc σ H,W i m acc σ H ->
   ((Itr lo n).stop i H/\∀ D,H D=none->Q (.ref D) (upd H D (.lst acc))) \/
   ((Itr lo n).go i H/\acc.length < sizeLine/\∃ N:List V->L2.St->Hp->Prop,(∀ acc' σ' H',N acc' σ' H'->∃ m',m' < m/\W (i+1) m' acc' σ' H') /\
    ∀ x H',(Itr lo n).yld i H x H'->g x σ H' fun σ2 H2=>tt σ2 H2 fun b H3=>if b=true then te σ2 H3 fun y H4=>N (acc++[y]) σ2 H4 else N acc σ2 H3):=by
 refine ⟨fun i m acc σ H=>m=n - i/\i<=n/\Pv i acc σ H,⟨n,by simp,Nat.zero_le _,h0⟩,?_⟩
 rintro i m acc σ H ⟨rfl,hi,p⟩
 have ha:=hacc i acc σ H p
 by_cases hlt:i < n
 ·refine .inr ⟨hlt,by omega,Pv (i+1),fun acc' σ' H' p'=>⟨n - (i+1),by omega,rfl,hlt,p'⟩,fun x H' y=>?_⟩
  obtain ⟨e,y⟩:=y
  subst e y
  exact hs i acc σ _ hlt p
 ·have e:i=n:=by omega
  subst e
  exact .inl ⟨Nat.le_refl _,hd acc σ H p⟩
def BE5 (XN:List Str)(scope:Scope):List Str->List (Option Nat)->Bool
 | _,[]=>true
 | [],_=>true
 | _::r,none::s=>BE5 XN scope r s
 | x::r,some j::s=>decide (XN[j]?=some x) && decide (scope.names.lookup x=some .free) && BE5 XN scope r s
theorem tG {XN:List Str}{scope:Scope}:∀ {N:List Str}{ix:List (Option Nat)},BE5 XN scope N ix=true->∀ (i j:Nat) (x:Str),ix[i]?=some (some j)->N[i]?=some x->XN[j]?=some x/\scope.names.lookup x=some .free
 | [],[],_,i,j,x,h1,_=>by simp at h1
 | _::_,[],_,i,j,x,h1,_=>by simp at h1
 | [],_::_,_,i,j,x,_,h2=>by simp at h2
 | y::r,none::s,h,i,j,x,h1,h2=>by
  cases i with
  | zero=>simp at h1
  | succ i=>exact tG (N:=r) (ix:=s) h i j x (by simpa using h1) (by simpa using h2)
 | y::r,some k::s,h,i,j,x,h1,h2=>by
  have h':(decide (XN[k]?=some y) && decide (scope.names.lookup y=some .free) && BE5 XN scope r s)=true:=h
  rw [Bool.and_eq_true,Bool.and_eq_true,decide_eq_true_eq,decide_eq_true_eq] at h'
  cases i with
  | zero =>
   simp at h1 h2
   subst h1 h2
   exact h'.1
  | succ i=>exact tG h'.2 i j x (by simpa using h1) (by simpa using h2)
def yR (XN:List Str)(sc scope:Scope)(N:List Str)(ix:List (Option Nat)):Bool :=
 decide (scope.kind=.function) && decide (∀ y∈scope.names,y.2≠.cell) && decide (∀ y∈scope.names,y.2=.local->scope.names.lookup y.1=some .local) &&
  decide (∀ y∈scope.names,y.2=.free->sc.names.lookup y.1=some .cell\/sc.names.lookup y.1=some .free) && decide (ix.length=N.length) && BE5 XN scope N ix
section
variable {X:Cx}
theorem dS {elt iter tg:Expr}{ifs:List Expr}{scope:Scope}{pos:Pos}{wi:TI}{g:TG}{tt:TT}{te:TE}(N:List Str)(ix:List (Option Nat))(hc:X.calm=true)(hk:yR X.N X.env.scope scope N ix=true)(hi:PI X tg iter wi)(hb:∀ cl C s H fp,PG (blk X N scope cl C s H fp) tg g/\PTs (blk X N scope cl C s H fp) ifs tt/\PE (blk X N scope cl C s H fp) elt te)(hs:∀ x,foldedSetIterable iter X.env x=pure x:=by intro _; rfl):PE X (.ListComp elt [⟨tg,iter,ifs,0⟩] scope pos) (rM wi ix g tt te):=by
 unfold yR at hk
 simp only [Bool.and_eq_true,decide_eq_true_eq] at hk
 obtain ⟨⟨⟨⟨⟨h1,h2⟩,h3⟩,h4⟩,h5⟩,h6⟩:=hk
 exact AW8 N ix hc h1 h2 h3 h4 h5 (tG h6) hi hb hs
theorem yS {i:Nat}{y:Str}{elt iter tg:Expr}{ifs:List Expr}{scope:Scope}{pos py spos:Pos}{wi:TI}{g:TG}{tt:TT}{te:TE}(N:List Str)(ix:List (Option Nat))(hc:X.calm=true)(hk:yR X.N X.env.scope scope N ix=true)(hN:X.N.Nodup)(hin:X.N[i]?=some y)(hy:X.env.scope.names.lookup y=some .local)(hi:PI X tg iter wi)(hb:∀ cl C s H fp,PG (blk X N scope cl C s H fp) tg g/\PTs (blk X N scope cl C s H fp) ifs tt/\PE (blk X N scope cl C s H fp) elt te)(hsw:swapsWith (.ListComp elt [⟨tg,iter,ifs,0⟩] scope pos) (some (.Name y py)) spos.line X.env=pure true:=by rfl)(hs:∀ x,foldedSetIterable iter X.env x=pure x:=by intro _; rfl):PS X (.Assign [.Name y py] (.ListComp elt [⟨tg,iter,ifs,0⟩] scope pos) spos) (BA7 (rM wi ix g tt te) (zP i)):=by
 unfold yR at hk
 simp only [Bool.and_eq_true,decide_eq_true_eq] at hk
 obtain ⟨⟨⟨⟨⟨h1,h2⟩,h3⟩,h4⟩,h5⟩,h6⟩:=hk
 exact AW9 N ix hc h1 h2 h3 h4 h5 (tG h6) hN hin hy hi hb hsw hs
end
section
variable {X:Cx}
theorem vF {pins:List (Addr × Obj)}{σ:L2.St}{H:Hp}{s:Shared}{Q:VK}{u:Str}{t:Tok}{k:Nat}(I:Inv X pins σ H s)(q:Q (.str u) H):EP X pins σ Q (.str u t) { s with toks:=k }:=⟨.str u,H,I.tok k,⟨t,rfl⟩,q⟩
def BK4:V->Option Int->Option Int->Hp->VK->Prop:=fun x lo hi H Q=>∃ u,x=.str u/\u.length<=sizeLine/\Q (.str (Txt.slice u lo hi)) H
theorem AF5:SlR X BK4:=by
 intro pins s σ H x v vl vu lo hi sl Q I rx hs pl pu h
 obtain ⟨u,rfl,hz,q⟩:=h
 obtain ⟨t,rfl⟩:=rx
 refine ⟨"str",_,PySem.F.slot_str_getitem.lookup,typeIs_str _ _ _,?_⟩
 obtain ⟨os,hos,hcs,hds⟩:=hs
 cases pl with
 | none =>
  cases pu with
  | none=>exact wpAny_getItem_str_slice (l:=none) (u:=none) (st:=none) ⟨os,hos,hcs,hds⟩ rfl (post_val_or_str ⟨Nat.le_trans (Txt.slice_le u _ _) hz,fun t' k=>vF I q⟩)
  | int j tj=>exact wpAny_getItem_str_slice (l:=none) (u:=some (j,tj)) (st:=none) ⟨os,hos,hcs,hds⟩ rfl (post_val_or_str ⟨Nat.le_trans (Txt.slice_le u _ _) hz,fun t' k=>vF I q⟩)
 | int i ti =>
  cases pu with
  | none=>exact wpAny_getItem_str_slice (l:=some (i,ti)) (u:=none) (st:=none) ⟨os,hos,hcs,hds⟩ rfl (post_val_or_str ⟨Nat.le_trans (Txt.slice_le u _ _) hz,fun t' k=>vF I q⟩)
  | int j tj=>exact wpAny_getItem_str_slice (l:=some (i,ti)) (u:=some (j,tj)) (st:=none) ⟨os,hos,hcs,hds⟩ rfl (post_val_or_str ⟨Nat.le_trans (Txt.slice_le u _ _) hz,fun t' k=>vF I q⟩)
def BK5:V->List V->Hp->VK->Prop:=fun x xs H Q=>∃ u l ts,x=.str u/\xs=[.ref l]/\H l=some (.lst (ts.map V.str))/\JoinOk u ts=true/\Q (.str (Txt.join u ts)) H
theorem yT:∀ {ts:List Str}{us:List Value},Vals (ts.map V.str) us->∃ l:List (Str × Tok),us=strValues l/\l.map (·.1)=ts
 | [],_,r=>by
  rw [List.map_nil] at r
  cases r
  exact ⟨[],rfl,rfl⟩
 | a::ts,_,r=>by
  rw [List.map_cons] at r
  cases r with
  | cons r1 r2 =>
   obtain ⟨t,rfl⟩:=r1
   obtain ⟨l,rfl,e⟩:=yT r2
   exact ⟨(a,t)::l,rfl,by rw [List.map_cons,e]⟩
theorem AX0:MtR X "str.join" BK5:=by
 intro pins s σ H x xs v us Q I rx rv h
 obtain ⟨u,l,ts,rfl,rfl,hl,hz,q⟩:=h
 obtain ⟨t,rfl⟩:=rx
 cases rv with
 | cons r1 r2 =>
  cases r2
  cases r1
  obtain ⟨_,its,n,r,e⟩:=I.hok l _ hl
  obtain ⟨ll,rfl,e2⟩:=yT r
  exact SC.join (D:=l) (l:=ll) ⟨_,e,rfl,n,rfl⟩ e2 hz fun t' k=>vF I q
end
section
variable {K:Frag}{ta te:TE}{tr:TA}{wi:TI}{ix:List (Option Nat)}{g:TG}{tt:TT}{σ:L2.St}{H:Hp}{Q:VK}{QB:Bool->Hp->Prop}
def CompL (K:Frag)(a:Addr)(g:TG)(tt:TT)(te:TE)(Q:VK)(σ:L2.St)(H:Hp):Prop:=∃ W:Nat->Nat->List V->L2.St->Hp->Prop,(∃ m,W 0 m [] σ H)/\∀ i m acc σ H,W i m acc σ H ->
 ((Itl K a).stop i H/\∀ D,H D=none->Q (.ref D) (L2.upd H D (.lst acc))) \/
 ((Itl K a).go i H/\acc.length < sizeLine/\∃ N:List V->L2.St->Hp->Prop,(∀ acc' σ' H',N acc' σ' H'->∃ m',m' < m/\W (i+1) m' acc' σ' H') /\
  ∀ x H',(Itl K a).yld i H x H'->g x σ H' fun σ2 H2=>tt σ2 H2 fun b H3=>if b=true then te σ2 H3 fun y H4=>N (acc++[y]) σ2 H4 else N acc σ2 H3)
def CompR (lo:Int)(n:Nat)(g:TG)(tt:TT)(te:TE)(Q:VK)(σ:L2.St)(H:Hp):Prop:=∃ W:Nat->Nat->List V->L2.St->Hp->Prop,(∃ m,W 0 m [] σ H)/\∀ i m acc σ H,W i m acc σ H ->
 ((Itr lo n).stop i H/\∀ D,H D=none->Q (.ref D) (L2.upd H D (.lst acc))) \/
 ((Itr lo n).go i H/\acc.length < sizeLine/\∃ N:List V->L2.St->Hp->Prop,(∀ acc' σ' H',N acc' σ' H'->∃ m',m' < m/\W (i+1) m' acc' σ' H') /\
  ∀ x H',(Itr lo n).yld i H x H'->g x σ H' fun σ2 H2=>tt σ2 H2 fun b H3=>if b=true then te σ2 H3 fun y H4=>N (acc++[y]) σ2 H4 else N acc σ2 H3)
theorem wU:rM (AU4 K ta) ix g tt te σ H Q=ta σ H (fun x H1=>∃ a,x=.ref a/\(∃ xs,SqL K H1 a xs)/\CompL K a g tt te Q (wT ix σ) H1):=rfl
theorem wV:rM (AU5 tr) ix g tt te σ H Q=tr σ H (fun vs H1=>∃ j:Int,vs=[.int j]/\-(2 ^ 62)<=j/\j < 2 ^ 62/\CompR 0 j.toNat g tt te Q (wT ix σ) H1):=rfl
theorem AX1:BN3 σ H QB=QB true H:=rfl
theorem wW:wT [] σ=[]:=rfl
theorem wX:wT (none::ix) σ=none::wT ix σ:=rfl
theorem wY {j:Nat}:wT (some j::ix) σ=((σ[j]?).getD none)::wT ix σ:=rfl
theorem BK6 {T:String}{r:V->List V->Hp->VK->Prop}:tBM K T r ta tr σ H Q=ta σ H (fun x H1=>tyV K T x H1/\tr σ H1 (fun xs H2=>r x xs H2 Q)):=rfl
theorem AX2 {T:String}{r:V->List V->Hp->VK->Prop}:BN2 K T r ta σ H Q=ta σ H (fun x H1=>tyV K T x H1/\r x [] H1 Q):=rfl
theorem AX3 {u:Str}:tyV K "str" (.str u) H=True:=by simp [tyV]
theorem AF6 {u v:Str}:(∃ i j,V.str u=.str i/\V.str v=.str j/\i.length+j.length<=sizeLine/\Q (.str (i++j)) H)=(u.length+v.length<=sizeLine/\Q (.str (u++v)) H):=by simp
theorem AX4 {u:Str}{lo hi:Option Int}:BK4 (.str u) lo hi H Q=(u.length<=sizeLine/\Q (.str (Txt.slice u lo hi)) H):=by simp [BK4]
theorem AF7 {X:Cx}{N:List Str}{scope:Scope}{cl:List (Str × Addr)}{C:Addr}{s:Shared}{fp:List Addr}:(blk X N scope cl C s H fp).K=X.K:=rfl
theorem CompL.by {a:Addr}{xs:List V}(Pv:Nat->List V->L2.St->Hp->Prop)(hz:xs.length<=sizeLine)(h0:Pv 0 [] σ H)(hl:∀ i acc σ H,i<=xs.length->Pv i acc σ H->SqL K H a xs)(hs:∀ i x acc σ H,xs[i]?=some x->Pv i acc σ H->g x σ H fun σ2 H2=>tt σ2 H2 fun b H3=>if b=true then te σ2 H3 fun y H4=>Pv (i+1) (acc++[y]) σ2 H4 else Pv (i+1) acc σ2 H3)(hacc:∀ i acc σ H,Pv i acc σ H->acc.length<=i)(hd:∀ acc σ H,Pv xs.length acc σ H->∀ D,H D=none->Q (.ref D) (L2.upd H D (.lst acc))):CompL K a g tt te Q σ H:=AF4 Pv hz h0 hl hs hacc hd
theorem CompR.by {lo:Int}{n:Nat}(Pv:Nat->List V->L2.St->Hp->Prop)(hz:n<=sizeLine)(h0:Pv 0 [] σ H)(hs:∀ i acc σ H,i < n->Pv i acc σ H->g (.int (lo+i)) σ H fun σ2 H2=>tt σ2 H2 fun b H3=>if b=true then te σ2 H3 fun y H4=>Pv (i+1) (acc++[y]) σ2 H4 else Pv (i+1) acc σ2 H3)(hacc:∀ i acc σ H,Pv i acc σ H->acc.length<=i)(hd:∀ acc σ H,Pv n acc σ H->∀ D,H D=none->Q (.ref D) (L2.upd H D (.lst acc))):CompR lo n g tt te Q σ H:=AA0 Pv hz h0 hs hacc hd
theorem ixs {u:Str}{k:Int}{c:Nat}(hz:u.length<=sizeLine)(hv:atI u.cps.toList k=some c)(q:Q (.str ⟨#[c]⟩) H):BN1 (.str u) (.int k) H Q:=⟨u,k,c,rfl,rfl,hz,hv,q⟩
end
theorem nP {X:Cx}{x:Str}(h:X.env.kindOf x=some .globalImplicit):Gl X x:=h
def Well3 (H:Hp)(w:Addr):Prop:=∃ a b c:Int,H w=some (.lst [.int a,.int b,.int c])
theorem Well3.same {H H':Hp}{w:Addr}(W:Well3 H w)(s:Same H H'):Well3 H' w:=by
 obtain ⟨a,b,c,h⟩:=W
 exact ⟨a,b,c,s _ _ h⟩
theorem Well3.ne {H:Hp}{w p:Addr}(W:Well3 H w)(h:H p=none):p≠w:=by
 obtain ⟨a,b,c,e⟩:=W
 exact (aP e h).symm
def cP (u:Str):Prop:=1<=u.length/\u.length<=8/\∀ c∈u.cps.toList,97<=c/\c<=122
instance (u:Str):Decidable (cP u):=by unfold cP; infer_instance
def letters:Str:="abcdefghijklmnopqrstuvwxyz"
theorem AF8 {i:Int}(h0:0<=i)(h1:i < 26):∃ c,atI letters.cps.toList i=some c/\97<=c/\c<=122:=by
 have h:∀ k:Fin 26,∃ c,c < 123/\atI letters.cps.toList ((k.val:Nat):Int)=some c/\97<=c/\c<=122:=by
  intro k
  refine ⟨97+k.val,?_⟩
  revert k
  decide +kernel
 obtain ⟨c,_,e,q⟩:=h ⟨i.toNat,by omega⟩
 have e2:((i.toNat:Nat):Int)=i:=by omega
 rw [e2] at e
 exact ⟨c,e,q⟩
def w8:Str:="bcdefghi"
def axz:Str:="axz"
theorem AX5 {r:Int}(h0:0<=r)(h1:r < 8):(Txt.slice w8 none (some (1+r))).length=(r+1).toNat:=by
 have h:∀ k:Fin 8,(Txt.slice w8 none (some (1+((k.val:Nat):Int)))).length=k.val+1:=by decide +kernel
 have q:=h ⟨r.toNat,by omega⟩
 have e2:((r.toNat:Nat):Int)=r:=by omega
 rw [e2] at q
 rw [q]
 show r.toNat+1=(r+1).toNat
 omega
theorem AN3 {r a k:Int}(h0:0<=r)(h1:r < 8)(a0:0<=a)(a1:a < r+1)(k0:0<=k)(k1:k < 3):∃ c,atI axz.cps.toList k=some c /\
  cP (Txt.slice (Txt.slice w8 none (some (1+r))) none (some a)++⟨#[c]⟩++Txt.slice (Txt.slice w8 none (some (1+r))) (some (a+1)) none):=by
 have h:∀ (r a:Fin 8) (k:Fin 3),a.val < r.val+1->∃ c∈[97,120,122],atI axz.cps.toList ((k.val:Nat):Int)=some c /\
  cP (Txt.slice (Txt.slice w8 none (some (1+((r.val:Nat):Int)))) none (some ((a.val:Nat):Int))++⟨#[c]⟩++Txt.slice (Txt.slice w8 none (some (1+((r.val:Nat):Int)))) (some (((a.val:Nat):Int)+1)) none):=by decide +kernel
 obtain ⟨c,_,q⟩:=h ⟨r.toNat,by omega⟩ ⟨a.toNat,by omega⟩ ⟨k.toNat,by omega⟩ (by show a.toNat < r.toNat+1; omega)
 have e1:((r.toNat:Nat):Int)=r:=by omega
 have e2:((a.toNat:Nat):Int)=a:=by omega
 have e3:((k.toNat:Nat):Int)=k:=by omega
 rw [e1,e2,e3] at q
 exact ⟨c,q⟩
theorem qC (u:Str)(h:u.length<=8)(l r:Option Int):(Txt.slice u l r).length<=8:=Nat.le_trans (Txt.slice_le u l r) h
theorem yU:∀ ts:List Str,(∀ t∈ts,∃ c,t=⟨#[c]⟩/\97<=c/\c<=122)->(Str.join Str.empty ts).length=ts.length/\∀ c∈(Str.join Str.empty ts).cps.toList,97<=c/\c<=122
 | [],_=>⟨rfl,fun c hc=>by cases hc⟩
 | [x],h=>by
  obtain ⟨c,rfl,q⟩:=h x List.mem_cons_self
  refine ⟨rfl,fun c' hc=>?_⟩
  have e:c'=c:=by simpa [Str.join] using hc
  subst e
  exact q
 | x::y::r,h=>by
  obtain ⟨i1,i2⟩:=yU (y::r) fun t ht=>h t (List.mem_cons_of_mem _ ht)
  obtain ⟨c,rfl,q⟩:=h x List.mem_cons_self
  show ((⟨#[c]⟩:Str)++Str.empty++Str.join Str.empty (y::r)).length=_/\∀ c'∈((⟨#[c]⟩:Str)++Str.empty++Str.join Str.empty (y::r)).cps.toList,_
  refine ⟨?_,fun c' hc=>?_⟩
  ·rw [Str.length_append,Str.length_append,i1]
   show 1+0+(y::r).length=(y::r).length+1
   omega
  ·have hc':c'∈((#[c]++#[])++(Str.join Str.empty (y::r)).cps).toList:=hc
   rw [Array.toList_append] at hc'
   rcases List.mem_append.mp hc' with z | z
   ·have e:c'=c:=by simpa using z
    subst e
    exact q
   ·exact i2 c' z
theorem AF9 {ts:List Str}(h:∀ t∈ts,∃ c,t=⟨#[c]⟩/\97<=c/\c<=122)(h1:1<=ts.length)(h8:ts.length<=8):JoinOk Str.empty ts=true/\cP (Txt.join Str.empty ts):=by
 obtain ⟨i1,i2⟩:=yU ts h
 have hj:Txt.join Str.empty ts=Str.join Str.empty ts:=StrLaws.glued_eq_join _ _
 refine ⟨?_,?_⟩
 ·unfold JoinOk Builtin.Str.tooLong
  rw [StrLaws.joinTotal]
  have hs:∀ l:List Str,(∀ t∈l,∃ c,t=⟨#[c]⟩/\97<=c/\c<=122)->(l.map (·.length)).sum=l.length:=by
   intro l
   induction l with
   | nil=>intro _; rfl
   | cons x r ih =>
    intro hl
    obtain ⟨c,rfl,_⟩:=hl x List.mem_cons_self
    rw [List.map_cons,List.sum_cons,ih fun t ht=>hl t (List.mem_cons_of_mem _ ht),List.length_cons]
    show 1+r.length=r.length+1
    omega
  rw [hs ts h]
  have e:Str.empty.length=0:=rfl
  rw [e]
  have z:(1000:Nat) < sizeLine:=by decide
  rw [Bool.not_eq_true',decide_eq_false_iff_not]
  omega
 ·rw [hj]
  exact ⟨by omega,by omega,i2⟩
structure CalC (P:Program) (w:World) (K:Frag) (mg:Str->Option Value) (base:Heap) (x:Str) (C:Addr) (ps:List Str) (k:Nat) (sp:Sp):Prop where
 ex:∃ f fd,FnOk P w K mg base (CXF P w) k f fd ps sp/\Binds K fd ps []/\Mk K C f/\mg x=some (.ref C)
structure CalM (P:Program) (w:World) (K:Frag) (mg:Str->Option Value) (base:Heap) (C:Addr) (m:Str) (ps:List Str) (k:Nat) (sp:Sp):Prop where
 ex:∃ f fd,FnOk P w K mg base (CXF P w) k f fd ps sp/\Binds K fd ps []/\Meth K C m f/\Cls K C
section
variable {X:Cx}{x m:Str}{C:Addr}{ps:List Str}{k:Nat}{sp:Sp}{e o:Expr}{es:List Expr}{ta:TE}{t:TA}{p pos apos:Pos}{E:XK}
theorem qD (c:CalC X.prog X.w X.K X.mg X.base x C ps k sp)(hx:jE (CXF X.prog X.w) X E)(hr:Room (k+1) X.A)(hg:Gl X x)(ha:PA X (e::es) t)(hdb:(x == ("__debug__":Str))=false:=by decide)(he:starEach (e::es) X.env=(false,eval e X.env)::starEach es X.env:=by rfl)(hpl:(backTo pos (starEach es X.env)).any (·.1)=false:=by rfl) :
  PE X (.Call (.Name x p) (e::es) [] pos) (zX C sp [] E t):=by
 obtain ⟨f,fd,F,b,M,hm⟩:=c.ex
 exact AD4 M F hr hg hm b .nil hx ha hdb he hpl
def AG0 (Mm:Addr->Sp->Prop)(m:Str)(E:XK)(ta:TE)(t:TA):TE:=fun σ H Q=>ta σ H fun x H1=>∃ a C dx fs sp,x=.ref a/\H1 a=some (.ins C dx fs)/\fs.lookup m=none/\Mm C sp /\
 t σ H1 fun vs H2=>sp (x::vs) H2 Q E
theorem wZ {Mm:Addr->Sp->Prop}{σ:L2.St}{H:Hp}{Q:VK}:AG0 Mm m E ta t σ H Q=ta σ H (fun x H1=>∃ a C dx fs sp,x=.ref a/\H1 a=some (.ins C dx fs)/\fs.lookup m=none/\Mm C sp /\
 t σ H1 fun vs H2=>sp (x::vs) H2 Q E):=rfl
theorem fD {pl:Sem Bool}{Mm:Addr->Sp->Prop}(he:PE X o ta)(hM:∀ C sp,Mm C sp->CalM X.prog X.w X.K X.mg X.base C m ps k sp)(hx:jE (CXF X.prog X.w) X E)(hr:Room k X.A)(ha:PA X (e::es) t)(hst:starEach (e::es) X.env=(false,eval e X.env)::starEach es X.env:=by rfl)(hpl:(backTo pos (starEach es X.env)).any (·.1)=false:=by rfl)(ht:eval (.Call (.Attribute o m apos) (e::es) [] pos) X.env=(do
   let ov <- eval o X.env
   standAt apos.atName
   let (f,first) <- holding [ov] (getMethod ov m pl)
   callWith pos f first (backTo pos (starEach (e::es) X.env)) (backToKw pos (keywordEach [] X.env))):=by rfl) :
  PE X (.Call (.Attribute o m apos) (e::es) [] pos) (AG0 Mm m E ta t):=by
 intro pins s σ H Q I h
 refine methodCall_KW (pl:=pl) (thn (he pins s σ H _ I h) fun u s1 ⟨x,H1,I1,rx,a,C,dx,fs,sp,ex,ea,l,hC,q⟩=>?_) ht
 subst ex
 obtain rfl:u=Value.ref a:=rx
 obtain ⟨f,fd,F,b,hm,c⟩:=(hM C sp hC).ex
 refine sI I1 ea c hm l ?_
 refine callWith_K (first:=[.ref a]) (h₀:=X.base) I.ok.mod.kin hm.kp (thn (ha pos pins s1 σ H1 _ I1 q) fun us s2 ⟨vs,H2,I2,r,q2⟩=>⟨I2.kIn,?_⟩) hst hpl
 refine AD3 (us:=.ref a::us) (vs:=.ref a::vs) F hr b .nil hx I2 (.cons rfl r) ?_
 rw [List.append_nil]
 exact q2
theorem mF {pl:Sem Bool}{Mm:Addr->Sp->Prop}(he:PE X o ta)(hM:∀ C sp,Mm C sp->CalM X.prog X.w X.K X.mg X.base C m ps k sp)(hx:jE (CXF X.prog X.w) X E)(hr:Room k X.A)(ht:eval (.Call (.Attribute o m apos) [] [] pos) X.env=(do
   let ov <- eval o X.env
   standAt apos.atName
   let (f,first) <- holding [ov] (getMethod ov m pl)
   callWith pos f first (backTo pos (starEach [] X.env)) (backToKw pos (keywordEach [] X.env))):=by rfl) :
  PE X (.Call (.Attribute o m apos) [] [] pos) (AG0 Mm m E ta BB0):=by
 intro pins s σ H Q I h
 refine methodCall_KW (pl:=pl) (thn (he pins s σ H _ I h) fun u s1 ⟨x,H1,I1,rx,a,C,dx,fs,sp,ex,ea,l,hC,q⟩=>?_) ht
 subst ex
 obtain rfl:u=Value.ref a:=rx
 obtain ⟨f,fd,F,b,hm,c⟩:=(hM C sp hC).ex
 refine sI I1 ea c hm l ?_
 exact callWith_K0 (first:=[.ref a]) I1.kIn hm.kp (AD3 (us:=[.ref a]) (vs:=[.ref a]) F hr b .nil hx I1 (.cons rfl .nil) q)
structure MkN (K:Frag) (C:Addr):Prop where
 makes:makesIn K C=true
 init:findIn K (.ref C) "__init__"=some (some (.builtin "object.__init__"))
 kp:keepIn K (.ref C)=true
def AS6 (C:Addr):TE:=fun _ H Q=>∀ x dx,H x=none->H dx=none->dx≠x->Q (.ref x) (L2.upd (L2.upd H dx (.own x)) x (.ins C dx []))
theorem xA {σ:L2.St}{H:Hp}{Q:VK}:AS6 C σ H Q=∀ x dx,H x=none->H dx=none->dx≠x->Q (.ref x) (L2.upd (L2.upd H dx (.own x)) x (.ins C dx [])):=rfl
theorem xB (M:MkN X.K C)(hg:Gl X x)(hm:X.mg x=some (.ref C))(hdb:(x == ("__debug__":Str))=false:=by decide):PE X (.Call (.Name x p) [] [] pos) (AS6 C):=by
 intro pins s σ H Q I h
 refine wpAny_Call_Name_kw (pR I hg hm ?_ hdb)
 refine callWith_K0 I.kIn M.kp ?_
 have hq:=h (s.heap.objs.size+1) s.heap.objs.size (I.hok.fresh (Nat.le_succ _)) (I.hok.fresh (Nat.le_refl _)) (Nat.ne_of_lt (Nat.lt_succ_self _))
 have I2:=Inv.made (C:=C) I
 have Y:=makes_of (M:=model X.prog X.w) I.kIn M.makes
 refine wpAny_call (AD1 I.kIn M.makes M.init (fun self=>Looks.of_pure (oi_bind self)) ?_)
 obtain ⟨hh,g,d,tt,os⟩:=s
 have t1:Looks (model X.prog X.w) ((hh.push emptyDict).push (instObj C hh.objs.size)) (typeOf (.ref (hh.objs.size+1))) (.ref C):=by
  obtain ⟨mA,O,_⟩:=pY (a:=hh.objs.size+1) (C:=C) (dx:=hh.objs.size) (fs:=[]) I2.hok aA
  obtain ⟨od,J,_⟩:=O.look
  exact J.type
 have t2:Looks (model X.prog X.w) ((hh.push emptyDict).push (instObj C hh.objs.size)) (isInstance (.ref (hh.objs.size+1)) (.type "object")) true :=
  t1.andThen (Y.top.keeps fun b o e=>Heap.get?_push_of_some _ (Heap.get?_push_of_some _ e))
 refine codeAny_call_builtin oi_plain entry_oi (@check_slot (model X.prog X.w) _ _ _ "object.__init__" "object" "__init__" (.ref (hh.objs.size+1)) [] [] _ oi_kind oi_split t2 (oi_args (.ref (hh.objs.size+1))) ?_)
 rw [oi_run]
 exact wpAny_pure (And.intro rfl ⟨V.ref (hh.objs.size+1),_,I2,rfl,hq⟩)
end
def BE6 (K:Frag):List V->Hp->VK->Prop:=fun xs H Q=>∃ (x:V) (c:Addr) (t:Value) (b:Bool),xs=[x,.ref c]/\TyOf K H x t/\kitOne K t (.ref c)=some b/\Q (.bl b) H
theorem AG1 {X:Cx}:iH X (.builtin "isinstance") (BE6 X.K):=by
 intro pins s σ H xs us Q I r h
 obtain ⟨x,c,t,b,rfl,ty,e,q⟩:=h
 obtain ⟨u,w',rfl,rx,rc⟩:=AU9 r
 cases (show w'=Value.ref c from rc)
 exact pZ I rx ty e fun tk=>⟨.bl b,H,I.tok _,rfl,q⟩
def dat:V->Option PyData
 | .non=>some .none
 | .bl b=>some (.bool b)
 | .int i=>some (.int i)
 | .str x=>if PyData.strOk x=true then some (.str x) else none
 | _=>none
section
variable {X:Cx}
end
section
variable {K:Frag}{C:Addr}{sp:Sp}{dvs:List V}{E:XK}{ta tv:TE}{t:TA}{f:Str}{σ:L2.St}{H:Hp}{Q:VK}{D:Ends}{n:Nat}{ts:TGs}{v:V}{QS:L2.St->Hp->Prop}{g:TG}
theorem AG2:zX C sp dvs E t σ H Q=t σ H (fun vs H1=>∀ x dx,H1 x=none->H1 dx=none->dx≠x ->
 sp (.ref x::(vs++dvs)) (L2.upd (L2.upd H1 dx (.own x)) x (.ins C dx [])) (fun v H2=>v=.non/\Q (.ref x) H2) E):=rfl
theorem AX6:BI2 K ta f σ H Q=ta σ H (fun x H1=>∃ a C dx fs v,x=.ref a/\H1 a=some (.ins C dx fs)/\Cls K C/\NoAttr K C f/\fs.lookup f=some v/\Q v H1):=rfl
theorem AG3:BH7 K n ts v σ H QS=∃ a xs,v=.ref a/\SqT K H a xs/\xs.length=n/\ts xs σ H QS:=rfl
theorem xC {vs:List V}:BD0 g ts vs σ H QS=∃ v r,vs=v::r/\g v σ H (fun σ' H'=>ts r σ' H' QS):=rfl
theorem AG4:BM7 K ta tv f D σ H=tv σ H (fun y H1=>ta σ H1 (fun x H2=>∃ a C dx fs,x=.ref a/\H2 a=some (.ins C dx fs)/\Cls K C/\NoAttr K C f/\fs.length < 1000 /\
 D.nx σ (L2.upd H2 a (.ins C dx (lX f y fs))))):=rfl
theorem AG5 {vs:List V}:BM4 vs σ H QS=(vs=[]/\QS σ H):=rfl
end
section
variable {X:Cx}{x:Str}{ps:List Str}{k:Nat}{sp:Sp}{p pos:Pos}
end
theorem FnOk.lift {P:Program}{w:World}{K:Frag}{mg:Str->Option Value}{base:Heap}{CX:CXT}{j k:Nat}{f:Addr}{fd:FuncData}{ps:List Str}{sp:Sp}(F:FnOk P w K mg base CX j f fd ps sp)(h:j<=k):FnOk P w K mg base CX k f fd ps sp :=
 ⟨F.len,fun A outer s H args us vs Q E hr he hb hv hs=>F.run A outer s H args us vs Q E (hr.mono h) he hb hv hs⟩
theorem cX {H:Hp}{x dx:Addr}{o o':HO}(hx:H x=none)(hd:H dx=none):Same H (L2.upd (L2.upd H dx o) x o'):=fun b u q=>by
 rw [aO (aP q hx),aO (aP q hd)]
 exact q
structure ClsK (K:Frag) (C:Addr):Prop where
 cl:Cls K C
 ha:findIn K (.ref C) "__class__"=some (some (.builtin "object.__class__"))
 hn:specialIn K (.builtin "object.__class__") "__get__"=some (some (.builtin "getset_descriptor.__get__"))
 ht:takesIn K (.builtin "object.__class__")=some true
 hm:mroIn K C (.type "object")=some true
theorem ClsK.ty {K:Frag}{C:Addr}(c:ClsK K C){H:Hp}{a dx:Addr}{fs:List (Str × V)}(e:H a=some (.ins C dx fs)):TyOf K H (.ref a) (.ref C):=.ins e c.cl c.ha c.hn c.ht c.hm
theorem kZ {X:Cx}{K:Frag}(hK:X.K=K):iH X (.builtin "isinstance") (BE6 K):=by
 subst hK
 exact AG1
def sL:Expr->Bool
 | .Starred _ _=>true
 | _=>false
theorem aJ:∀ (e:Expr) (es:List Expr) (env:Env),sL e=false->starEach (e::es) env=(false,eval e env)::starEach es env:=by
 intro e es env h
 cases e <;> first | rfl | (cases h)
def vG:List Expr->Bool
 | []=>true
 | e::r=>!sL e && vG r
theorem aL {pos:Pos}{env:Env}:∀ {es:List Expr},vG es=true->(backTo pos (starEach es env)).any (·.1)=false
 | [],_=>rfl
 | e::r,h=>by
  have h':(!sL e)=true/\vG r=true:=by simpa [vG] using h
  rw [aJ e r env (by simpa using h'.1)]
  have ih:=aL (pos:=pos) (env:=env) h'.2
  have e1:backTo pos ((false,eval e env)::starEach r env)=(false,eval e env)::backTo pos (starEach r env):=rfl
  rw [e1,List.any_cons,ih]
  rfl
theorem BO7 {X:Cx}{e:Expr}{es:List Expr}{te:TE}{t:TA}(ha:PE X e te)(hr:PA X es t)(hs:sL e=false:=by rfl):PA X (e::es) (AM9 te t):=AV3 ha hr (aJ e es X.env hs)
structure QA (X:Cx) (es:List Expr) (t:TA):Prop where
 h:PA X es t
theorem aC {X:Cx}:QA X [] BB0:=⟨BD7⟩
theorem aK {X:Cx}{e:Expr}{es:List Expr}{te:TE}{t:TA}(ha:PE X e te)(hr:QA X es t)(hs:sL e=false:=by rfl):QA X (e::es) (AM9 te t):=⟨BO7 ha hr.h hs⟩
theorem aH {X:Cx}{es:List Expr}{t:TA}(h:QA X es t):PA X es t:=h.h
def yV:V->Bool
 | .int _=>true
 | _=>false
def AN4 (x:V)(lo hi:Int):Bool:=match x with
 | .int i=>decide (lo<=i) && decide (i<=hi)
 | _=>false
def AN5 (x:V)(lo:Int):Bool:=match x with
 | .int i=>decide (lo<=i)
 | _=>false
def BK7 (t u:TS):TS:=fun D σ H=>∃ M:L2.St->Hp->Prop,t { D with nx:=M } σ H/\∀ σ' H',M σ' H'->u D σ' H'
theorem AX7 {t u:TS}{D:Ends}{σ:L2.St}{H:Hp}:BK7 t u D σ H=∃ M:L2.St->Hp->Prop,t { D with nx:=M } σ H/\∀ σ' H',M σ' H'->u D σ' H':=rfl
theorem AX8 {X:Cx}{st:Stmt}{rK:List Stmt}{t u:TS}(h1:PS X st t)(h2:PSs X rK u):PSs X (st::rK) (BK7 t u):=by
 intro pins s σ H D I h
 obtain ⟨M,ha,hb⟩:=h
 refine wpAny_execs_cons (thn (h1 pins s σ H { D with nx:=M } I ha) fun f s1 q=>?_)
 cases f with
 | next =>
  obtain ⟨σ',H',I',q⟩:=q
  exact h2 pins s1 σ' H' D I' (hb _ _ q)
 | ret v=>exact q
 | brk=>exact q
 | cont=>exact q
def mG (u:Str):Bool:=u.cps.all (· < 128)
def Its (u:Str):It:=⟨fun i _=>i < u.cps.size,fun i H x H'=>H'=H/\∃ c,u.cps[i]?=some c/\x=.str ⟨#[c]⟩,fun i _=>u.cps.size<=i⟩
theorem AN6 {P:Program}{w:World}{K:Frag}{tg:Expr}(u:Str)(t:Tok)(it:Addr):Turn P w K tg (Its u) [it] it (fun i h=>h.IsStrIter it "str_ascii_iterator" u t i) where
 mem:=by simp
 obj:=fun i h st b hb=>by
  have e:b=it:=by simpa using hb
  subst e
  obtain ⟨o,e,c,d⟩:=st
  exact ⟨o,e,fun v z=>by rw [d] at z; cases z⟩
 keep:=fun i h h' st k=>by
  obtain ⟨o,e,c,d⟩:=st
  exact ⟨o,k it (by simp) o e,c,d⟩
 item:=by
  intro X hP hw hK hc i pins s σ H E I hf st hg
  subst hP hw hK
  have hx:u.cps[i]?=some u.cps[i]:=Array.getElem?_eq_getElem hg
  obtain ⟨f0,f1,f2,f3,f4,f5⟩:=hf it (by simp)
  refine wpAny_pyNext_ascii_item st hx fun h' st' sb=>?_
  have I1:Inv X pins σ H { s with heap:=h',toks:=s.toks+1 }:=I.turned (t':=s.toks+1) (fun b o hb e=>(sb.2 b hb).trans e) f0 f1 f3 f4 f5
  obtain ⟨o,e,c,d⟩:=id st'
  exact ⟨_,rfl,AM1 (s:={ s with heap:=h',toks:=s.toks+1 }) e c d (by decide) ⟨.str ⟨#[u.cps[i]]⟩,H,I1,⟨_,rfl⟩,⟨rfl,_,hx,rfl⟩,st',fun b hb=>(hf b hb).1⟩⟩
 done:=by
  intro X hP hw hK hc i pins s σ H E I hf st hg
  subst hP hw hK
  obtain ⟨f0,f1,f2,f3,f4,f5⟩:=hf it (by simp)
  exact wpAny_pyNext_ascii_end (I.ok.hd hc) st (Array.getElem?_eq_none hg) fun h' eb=>⟨rfl,I.turned (t':=s.toks) (fun b o hb e=>eb b o hb e) f0 f1 f3 f4 f5⟩
 self:=fun _ _ _ _ _ st h=>wpAny_pyIter_striter_ascii st h
def BK8 (tl:TE):TI:=fun σ H R=>tl σ H fun x H1=>∃ u,x=.str u/\mG u=true/\R (Its u) H1
theorem AS7 {X:Cx}{tg l:Expr}{tl:TE}(hl:PE X l tl):PI X tg l (BK8 tl):=by
 intro pins s σ H R I h
 refine thn (hl pins s σ H _ I h) fun v s1 ⟨x,H1,I1,r1,q1⟩=>?_
 obtain ⟨u,e,hp,q⟩:=q1
 subst e
 obtain ⟨t,rfl⟩:=r1
 refine wpAny_pyIter_ascii hp ?_
 refine ⟨s1.heap.objs.size,[s1.heap.objs.size],_,_,H1,rfl,I1.kept (t':=s1.toks) fun b o e=>Heap.get?_push_of_some _ e,AN6 u t _,⟨_,Heap.get?_push_size _ rfl,rfl,rfl⟩,fun b hb=>?_,q⟩
 have e:b=s1.heap.objs.size:=by simpa using hb
 subst e
 exact I1.fpOk (Nat.le_refl _) (I1.hok.fresh (Nat.le_refl _))
section
variable {K:Frag}{ta te:TE}{ix:List (Option Nat)}{g:TG}{tt:TT}{σ:L2.St}{H:Hp}{Q:VK}
def CompS (u:Str)(g:TG)(tt:TT)(te:TE)(Q:VK)(σ:L2.St)(H:Hp):Prop:=∃ W:Nat->Nat->List V->L2.St->Hp->Prop,(∃ m,W 0 m [] σ H)/\∀ i m acc σ H,W i m acc σ H ->
 ((Its u).stop i H/\∀ D,H D=none->Q (.ref D) (L2.upd H D (.lst acc))) \/
 ((Its u).go i H/\acc.length < sizeLine/\∃ N:List V->L2.St->Hp->Prop,(∀ acc' σ' H',N acc' σ' H'->∃ m',m' < m/\W (i+1) m' acc' σ' H') /\
  ∀ x H',(Its u).yld i H x H'->g x σ H' fun σ2 H2=>tt σ2 H2 fun b H3=>if b=true then te σ2 H3 fun y H4=>N (acc++[y]) σ2 H4 else N acc σ2 H3)
theorem xD:rM (BK8 ta) ix g tt te σ H Q=ta σ H (fun x H1=>∃ u,x=.str u/\mG u=true/\CompS u g tt te Q (wT ix σ) H1):=rfl
theorem CompS.by {u:Str}(Pv:Nat->List V->L2.St->Hp->Prop)(hz:u.cps.size<=sizeLine)(h0:Pv 0 [] σ H)(hs:∀ i c acc σ H,u.cps[i]?=some c->Pv i acc σ H->g (.str ⟨#[c]⟩) σ H fun σ2 H2=>tt σ2 H2 fun b H3=>if b=true then te σ2 H3 fun y H4=>Pv (i+1) (acc++[y]) σ2 H4 else Pv (i+1) acc σ2 H3)(hacc:∀ i acc σ H,Pv i acc σ H->acc.length<=i)(hd:∀ acc σ H,Pv u.cps.size acc σ H->∀ D,H D=none->Q (.ref D) (L2.upd H D (.lst acc))):CompS u g tt te Q σ H:=by
  refine ⟨fun i m acc σ H=>m=u.cps.size - i/\i<=u.cps.size/\Pv i acc σ H,⟨u.cps.size,by simp,Nat.zero_le _,h0⟩,?_⟩
  rintro i m acc σ H ⟨rfl,hi,p⟩
  have ha:=hacc i acc σ H p
  by_cases hlt:i < u.cps.size
  · refine .inr ⟨hlt,by omega,Pv (i+1),fun acc' σ' H' p'=>⟨u.cps.size - (i+1),by omega,rfl,hlt,p'⟩,fun x H' y=>?_⟩
    obtain ⟨e,c,hc,y⟩:=y
    subst e y
    exact hs i c acc σ _ hc p
  · have e:i=u.cps.size:=by omega
    subst e
    exact .inl ⟨Nat.le_refl _,hd acc σ H p⟩
end
theorem yW:∀ {bs:List Bool}{its:List Value},Vals (bs.map V.bl) its->∀ (i:Nat) (v:Value),its[i]?=some v->∃ b:Bool,bs[i]?=some b/\v=Value.bool b
 | [],_,r,i,v,h=>by
  rw [List.map_nil] at r
  cases r
  simp at h
 | b::bs,_,r,i,v,h=>by
  rw [List.map_cons] at r
  cases r with
  | cons r1 r2 =>
   cases i with
   | zero =>
    simp at h
    subst h
    exact ⟨b,rfl,r1⟩
   | succ i=>exact yW r2 i v (by simpa using h)
theorem tH {X:Cx}(hc:X.calm=true):iH X (.builtin "all") (fun xs H Q=>∃ (a:Addr) (bs:List Bool),xs=[.ref a]/\SqL X.K H a (bs.map V.bl)/\Q (.bl (bs.all id)) H):=by
 intro pins s σ H xs us Q I r h
 obtain ⟨a,bs,rfl,hS,q⟩:=h
 obtain ⟨u,rfl,ru⟩:=kC r
 cases ru
 obtain ⟨its,rv,pl,hz⟩:=I.list hS
 have hl:s.heap.IsList a its.toArray:=pl.isList
 have hlt:a < s.heap.objs.size:=by obtain ⟨_,e,_⟩:=hl; exact Heap.lt_size e
 refine call_all_walk (wpAny_pyIter_list hl ?_)
 refine ⟨s.heap.objs.size,[s.heap.objs.size,a],[s.heap.objs.size],its.toArray.size,_,_,fun i=>(bs[i]?).getD true,rfl,Walks.list (A:=X.A.in1) (I.ok.hd hc) _ a (Nat.ne_of_lt hlt) its.toArray,
  ⟨⟨_,Heap.get?_push_size _ rfl,rfl,rfl⟩,hl.push _⟩,fun i v s' Q' E' hP hQ=>?_,fun h' tk hk=>?_⟩
 ·obtain ⟨b,e,rfl⟩:=yW rv i v (by simpa using hP)
  simp only [e,Option.getD_some] at hQ
  exact wpAny_truthy_bool hQ
 ·have hn:its.toArray.size=bs.length:=by
   have:=rv.length
   rw [List.length_map] at this
   simpa using this.symm
  have e:((List.range its.toArray.size).all fun i=>(bs[i]?).getD true)=bs.all id:=by
   rw [hn,Bool.eq_iff_iff,List.all_eq_true,List.all_eq_true]
   constructor
   ·intro z b hb
    obtain ⟨i,hi,rfl⟩:=List.getElem_of_mem hb
    have:=z i (List.mem_range.mpr hi)
    simpa [List.getElem?_eq_getElem hi] using this
   ·intro z i hi
    have hi':=List.mem_range.mp hi
    simp only [List.getElem?_eq_getElem hi',Option.getD_some]
    exact z _ (List.getElem_mem hi')
  rw [e]
  refine ⟨.bl _,H,I.kept (t':=tk) fun b o eb=>hk b o (fun hm=>by rw [List.mem_singleton.mp hm] at eb; exact Nat.lt_irrefl _ (Heap.lt_size eb)) (Heap.get?_push_of_some _ eb),rfl,q⟩
def okN (H:Hp):V->Prop
 | .non=>True
 | .bl _=>True
 | .int _=>True
 | .str u=>mG u=true/\u.length<=1000
 | .ref a=>(∃ xs,H a=some (.lst xs))\/(∃ xs,H a=some (.tup xs))\/∃ kvs,H a=some (.dK kvs)
 | _=>False
def qE:V->Bool
 | .str _=>true
 | _=>false
theorem okN.ty {K:Frag}{H:Hp}{x:V}(h:okN H x):∃ T,TyOf K H x (.type T)/\kitOne K (.type T) (.type "str")=some (qE x):=by
 cases x with
 | non=>exact ⟨_,.non,by kernel_rfl⟩
 | bl b=>exact ⟨_,.bl b,by kernel_rfl⟩
 | int i=>exact ⟨_,.int i,by kernel_rfl⟩
 | str i=>exact ⟨_,.str i,by kernel_rfl⟩
 | ref a =>
  rcases h with ⟨xs,e⟩ | ⟨xs,e⟩ | ⟨xs,e⟩
  ·exact ⟨_,.lst e,by kernel_rfl⟩
  ·exact ⟨_,.tup e,by kernel_rfl⟩
  ·exact ⟨_,.dK e,by kernel_rfl⟩
 | _=>exact h.elim
theorem vH {X:Cx}:iH X (.builtin "isinstance") (fun xs H Q=>∃ x,xs=[x,.ty "str"]/\okN H x/\Q (.bl (qE x)) H):=by
 intro pins s σ H xs us Q I r h
 obtain ⟨x,rfl,ok,q⟩:=h
 obtain ⟨T,ty,e⟩:=ok.ty (K:=X.K)
 exact AV6 I r ty e q
theorem okN.same {H H':Hp}{x:V}(h:okN H x)(s:Same H H'):okN H' x:=by
 cases x with
 | ref a =>
  rcases h with ⟨xs,e⟩ | ⟨xs,e⟩ | ⟨xs,e⟩
  ·exact .inl ⟨xs,s _ _ e⟩
  ·exact .inr (.inl ⟨xs,s _ _ e⟩)
  ·exact .inr (.inr ⟨xs,s _ _ e⟩)
 | non=>trivial
 | bl _=>trivial
 | int _=>trivial
 | str _=>exact h
 | _=>exact h.elim
def jA:V->Bool
 | .str u=>decide (cP u)
 | _=>false
theorem sM {c:Nat}(h:c < 128):(!(Builtin.Str.occurrences letters ⟨#[c]⟩ 0 letters.length 1).isEmpty)=decide (97<=c/\c<=122):=by
 have q:∀ k:Fin 128,(!(Builtin.Str.occurrences letters ⟨#[k.val]⟩ 0 letters.length 1).isEmpty)=decide (97<=k.val/\k.val<=122):=by decide +kernel
 exact q ⟨c,h⟩
def LetS (u:Str):Prop:=∀ c∈u.cps.toList,97<=c/\c<=122
def Sm (u:Str):Prop:=mG u=true/\u.length<=100
theorem plain_iff {u:Str}:mG u=true ↔ ∀ c∈u.cps.toList,c < 128:=by
 unfold mG
 rw [Array.all_eq_true']
 constructor
 ·intro h c hc
  have:=h c (by simpa using hc)
  simpa using this
 ·intro h c hc
  have:=h c (by simpa using hc)
  simpa using this
theorem LetS.plain {u:Str}(h:LetS u):mG u=true:=plain_iff.mpr fun c hc=>by have:=h c hc; omega
theorem AN7 {u:Str}(h:cP u):LetS u:=h.2.2
theorem tI {u:Str}(h:cP u):Sm u:=⟨(AN7 h).plain,by have:=h.2.1; omega⟩
theorem sN (u v:Str):(u++v).cps.toList=u.cps.toList++v.cps.toList:=by
 show (u.cps++v.cps).toList=_
 rw [Array.toList_append]
def badC (u:Str):Prop:=∃ c∈u.cps.toList,¬ (97<=c/\c<=122)
instance (u:Str):Decidable (badC u):=by unfold badC; infer_instance
theorem badC.no {u:Str}(h:badC u):¬ cP u:=fun g=>by
 obtain ⟨c,hc,n⟩:=h
 exact n (g.2.2 c hc)
theorem badC.l {u:Str}(h:badC u)(v:Str):badC (u++v):=by
 obtain ⟨c,hc,n⟩:=h
 exact ⟨c,by rw [sN]; exact List.mem_append.mpr (.inl hc),n⟩
theorem badC.r {v:Str}(h:badC v)(u:Str):badC (u++v):=by
 obtain ⟨c,hc,n⟩:=h
 exact ⟨c,by rw [sN]; exact List.mem_append.mpr (.inr hc),n⟩
theorem AN8 {u:Str}(h:mG u=true):(u.cps.toList.map fun c=>!(Builtin.Str.occurrences letters ⟨#[c]⟩ 0 letters.length 1).isEmpty).all id=decide (∀ c∈u.cps.toList,97<=c/\c<=122):=by
 rw [Bool.eq_iff_iff,List.all_eq_true,decide_eq_true_eq]
 constructor
 ·intro z c hc
  have q:=z _ (List.mem_map.mpr ⟨c,hc,rfl⟩)
  rw [sM (plain_iff.mp h c hc)] at q
  simpa using q
 ·intro z b hb
  obtain ⟨c,hc,rfl⟩:=List.mem_map.mp hb
  rw [sM (plain_iff.mp h c hc)]
  simpa using z c hc
theorem AN9 {u:Str}(g:cP u):PyData.strOk u=true:=by
 unfold PyData.strOk
 rw [Array.all_eq_true']
 intro c hc
 have:=g.2.2 c (by simpa using hc)
 simp only [decide_eq_true_eq]
 omega
section
variable {X:Cx}{x:Str}{C:Addr}{ps:List Str}{k:Nat}{sp:Sp}{e:Expr}{es:List Expr}{t:TA}{p pos:Pos}
variable {K:Frag}{σ:L2.St}{H:Hp}{Q:VK}{D:Ends}{CB:Addr}{i:Nat}{tb:XK->TS}{ts:TS}{E:XK}{dvs:List V}
end
structure QE (X:Cx) (e:Expr) (t:TE):Prop where
 h:PE X e t
structure QS (X:Cx) (st:Stmt) (t:TS):Prop where
 h:PS X st t
structure QSs (X:Cx) (sts:List Stmt) (t:TS):Prop where
 h:PSs X sts t
section
variable {X:Cx}{e a b c:Expr}{es:List Expr}{st:Stmt}{rK sa sb:List Stmt}{te ta tb:TE}{tl:TA}{tc:TT}{t u:TS}{pos pos':Pos}{x:Str}{i:Nat}
theorem aS (h:PE X e te):QE X e te:=⟨h⟩
theorem bD (h:PS X st t):QS X st t:=⟨h⟩
theorem aR (h:QSs X rK t):PSs X rK t:=h.h
theorem iY (h:QA X es tl):QE X (.List es pos) (BI3 tl):=⟨fI h.h⟩
theorem AO0 {op:Operator}{r:R2}(ho:OpR X (binaryOp op) r)(ha:QE X a ta)(hb:QE X b tb):QE X (.BinOp a op b pos) (tOp r ta tb):=⟨bJ ho ha.h hb.h⟩
theorem BK9 {r:R2}(hr:IxR X r)(ha:QE X a ta)(hb:QE X b tb)(hs:AD8 b):QE X (.Subscript a b pos) (tOp r ta tb):=⟨bG hr ha.h hb.h hs⟩
theorem aV (he:QE X e te):QS X (.Return (some e) pos) (BH0 te):=⟨BC7 he.h⟩
theorem aX (hN:X.N.Nodup)(hi:X.N[i]?=some x)(hx:Loc X.env.scope x)(he:QE X e te)(hs:swapsWith e (some (.Name x pos')) pos.line X.env=pure false)(hf:X.fn x=true\/X.env.scope.names.lookup x=some .local:=by first | exact .inl rfl | exact .inr rfl | assumption) :
  QS X (.Assign [.Name x pos'] e pos) (BA7 te (zP i)):=⟨BD1 hN hi hx he.h hs hf⟩
theorem bE (hc:PT X c tc)(ha:QSs X sa t)(hb:QSs X sb u):QS X (.If c sa sb pos) (BH4 tc t u):=⟨BH5 hc ha.h hb.h⟩
theorem aQ:QSs X [] AL9:=⟨AU1⟩
theorem aF (h:QS X st t):QSs X [st] t:=⟨AU2 h.h⟩
theorem aD (h1:QS X st t)(h2:QSs X rK u):QSs X (st::rK) (BH3 t u):=⟨AM0 h1.h h2.h⟩
theorem nQ (h1:QS X st t)(h2:QSs X rK u):QSs X (st::rK) (BK7 t u):=⟨AX8 h1.h h2.h⟩
theorem fJ (h:PSs X rK t):QSs X rK t:=⟨h⟩
end
mutual
inductive RD (H:Hp):V->PyData->Prop
 | non:RD H .non .none
 | bl (b:Bool):RD H (.bl b) (.bool b)
 | int (i:Int):RD H (.int i) (.int i)
 | str (x:Str):RD H (.str x) (.str x)
 | lst {p:Addr}{xs:List V}{ds:List PyData}:H p=some (.lst xs)->RDs H xs ds->RD H (.ref p) (.list ds)
 | tup {p:Addr}{xs:List V}{ds:List PyData}:H p=some (.tup xs)->RDs H xs ds->RD H (.ref p) (.tuple ds)
inductive RDs (H:Hp):List V->List PyData->Prop
 | nil:RDs H [] []
 | cons {v:V}{d:PyData}{vs:List V}{ds:List PyData}:RD H v d->RDs H vs ds->RDs H (v::vs) (d::ds)
end
section
variable {X:Cx}{pins:List (Addr × Obj)}{σ:L2.St}{H:Hp}{s:Shared}
mutual
theorem RD.reads (I:Inv X pins σ H s):∀ {v:V}{d:PyData},RD H v d->∀ {u:Value},RelV v u->∃ as,Reads s.heap u d as
 | _,_,.non,u,r=>by cases (show u=Value.none from r); exact ⟨_,.none⟩
 | _,_,.bl b,u,r=>by cases (show u=Value.bool b from r); exact ⟨_,.bool b⟩
 | _,_,.int i,u,r=>by obtain ⟨t,rfl⟩:=(show ∃ t,u=Value.int i t from r); exact ⟨_,.int i t⟩
 | _,_,.str i,u,r=>by obtain ⟨t,rfl⟩:=(show ∃ t,u=Value.str i t from r); exact ⟨_,.str i t⟩
 | _,_,.lst h hs,u,r=>by
  cases (show u=Value.ref _ from r)
  obtain ⟨its,r1,⟨o1,n1,p1,c1,_,d1⟩,_⟩:=I.list (SqL.of h)
  obtain ⟨as,ra⟩:=RDs.reads I hs r1
  exact ⟨_,Reads.list p1 c1 d1 (by simpa using ra)⟩
 | _,_,.tup h hs,u,r=>by
  cases (show u=Value.ref _ from r)
  obtain ⟨its,r1,⟨o1,p1,c1,n1,d1⟩,_⟩:=I.tuple (SqT.of h)
  obtain ⟨as,ra⟩:=RDs.reads I hs r1
  exact ⟨_,Reads.tuple p1 c1 d1 (by simpa using ra)⟩
theorem RDs.reads (I:Inv X pins σ H s):∀ {vs:List V}{ds:List PyData},RDs H vs ds->∀ {us:List Value},Vals vs us->∃ as,ReadsAll s.heap us ds as
 | _,_,.nil,_,.nil=>⟨_,.nil⟩
 | _,_,.cons h hs,_,.cons r rs=>by
  obtain ⟨as,ra⟩:=RD.reads I h r
  obtain ⟨bs,rb⟩:=RDs.reads I hs rs
  exact ⟨_,.cons ra rb⟩
end
end
mutual
theorem yX:∀ d:PyData,PyData.canLay0 d=true->SeqAt.noMix d d=true
 | .none,_=>by simp [SeqAt.noMix]
 | .bool _,_=>by simp [SeqAt.noMix]
 | .int _,_=>by simp [SeqAt.noMix]
 | .str _,_=>by simp [SeqAt.noMix]
 | .list xs,h=>by
  simp only [SeqAt.noMix]
  exact mixs_self xs (by simpa [PyData.canLay0] using h)
 | .tuple xs,h=>by
  simp only [SeqAt.noMix]
  exact mixs_self xs (by simpa [PyData.canLay0] using h)
 | .dict _,h=>by simp [PyData.canLay0] at h
theorem mixs_self:∀ ds:List PyData,PyData.canLayAll0 ds=true->SeqAt.noMixAll ds ds=true
 | [],_=>by simp [SeqAt.noMixAll]
 | d::r,h=>by
  have h':PyData.canLay0 d=true/\PyData.canLayAll0 r=true:=by simpa [PyData.canLayAll0] using h
  simp only [SeqAt.noMixAll,yX d h'.1,mixs_self r h'.2,Bool.and_self]
end
theorem AO1 {d:PyData}(h:SeqAt.shaped d=true):PyData.eqv d d=true:=by
 have hc:PyData.canLay0 d=true:=by
  have h':(PyData.canLay0 d && decide (PyData.depth d<=64))=true:=h
  rw [Bool.and_eq_true] at h'
  exact h'.1
 rw [<- SeqAt.same_eq_eqv d d (yX d hc)]
 exact same_self d
section
variable {X:Cx}
def BE7 (b:Bool):R2:=fun x y H Q=>∃ (d d':PyData),RD H x d/\RD H y d'/\SeqAt.shaped d=true/\SeqAt.shaped d'=true/\Q (.bl (PyData.eqv d d' == b)) H
theorem yY (hu:X.A.units+64 < cLine):OpR X (compareOp .Eq) (BE7 true):=by
 intro pins s σ H x y v u Q I rx ry h
 obtain ⟨d,d',h1,h2,s1,s2,q⟩:=h
 obtain ⟨as,r1⟩:=h1.reads I rx
 obtain ⟨bs,r2⟩:=h2.reads I ry
 refine eq_dataH r1 r2 s1 s2 hu ⟨.bl _,H,I,rfl,?_⟩
 have e:(PyData.eqv d d' == true)=PyData.eqv d d':=by cases PyData.eqv d d' <;> rfl
 rw [e] at q
 exact q
theorem AG6 (hu:X.A.units+64 < cLine):OpR X (compareOp .NotEq) (BE7 false):=by
 intro pins s σ H x y v u Q I rx ry h
 obtain ⟨d,d',h1,h2,s1,s2,q⟩:=h
 obtain ⟨as,r1⟩:=h1.reads I rx
 obtain ⟨bs,r2⟩:=h2.reads I ry
 refine ne_dataH r1 r2 s1 s2 hu ⟨.bl _,H,I,rfl,?_⟩
 have e:(PyData.eqv d d' == false)=!PyData.eqv d d':=by cases PyData.eqv d d' <;> rfl
 rw [e] at q
 exact q
theorem eqd {H:Hp}{x y:V}{d:PyData}{b:Bool}{Q:VK}(h1:RD H x d)(h2:RD H y d)(s:SeqAt.shaped d=true)(q:Q (.bl b) H):BE7 b x y H Q:=by
 refine ⟨d,d,h1,h2,s,s,?_⟩
 rw [AO1 s]
 cases b <;> exact q
end
theorem AS8 {X:Cx}{K:Frag}{e:Expr}{f:Str}{ta:TE}{pos:Pos}(hK:X.K=K)(he:PE X e ta)(hb:attributeBase e f X.env (eval e X.env)=eval e X.env):PE X (.Attribute e f pos) (BI2 K ta f):=by
 subst hK
 exact eK he hb
theorem xE {D:Ends}{σ:L2.St}{H:Hp}:AR6 D σ H=False:=rfl
structure CalD (P:Program) (w:World) (K:Frag) (mg:Str->Option Value) (base:Heap) (x:Str) (C:Addr) (ps:List Str) (k:Nat) (dvs:List V) (sp:Sp):Prop where
 ex:∃ f fd ds,FnOk P w K mg base (CXF P w) k f fd ps sp/\Binds K fd ps ds/\Vals dvs ds/\Mk K C f/\mg x=some (.ref C)
section
variable {X:Cx}{x m:Str}{C:Addr}{ps:List Str}{k:Nat}{sp:Sp}{e o:Expr}{es:List Expr}{ta:TE}{t:TA}{p pos apos:Pos}{E:XK}{dvs:List V}
theorem tJ (c:CalD X.prog X.w X.K X.mg X.base x C ps k dvs sp)(hx:jE (CXF X.prog X.w) X E)(hr:Room (k+1) X.A)(hg:Gl X x)(ha:PA X (e::es) t)(hdb:(x == ("__debug__":Str))=false:=by decide)(he:starEach (e::es) X.env=(false,eval e X.env)::starEach es X.env:=by rfl)(hpl:(backTo pos (starEach es X.env)).any (·.1)=false:=by rfl) :
  PE X (.Call (.Name x p) (e::es) [] pos) (zX C sp dvs E t):=by
 obtain ⟨f,fd,ds,F,b,hd,M,hm⟩:=c.ex
 exact AD4 M F hr hg hm b hd hx ha hdb he hpl
theorem yZ (c:CalD X.prog X.w X.K X.mg X.base x C ps k dvs sp)(hx:jE (CXF X.prog X.w) X E)(hr:Room (k+1) X.A)(hg:Gl X x)(hdb:(x == ("__debug__":Str))=false:=by decide):PE X (.Call (.Name x p) [] [] pos) (zX C sp dvs E BB0):=by
 obtain ⟨f,fd,ds,F,b,hd,M,hm⟩:=c.ex
 exact AN1 M F hr hg hm b hd hx hdb
end
structure FunA (K:Frag) (x qual:Str) (st:Stmt) (f:Addr) (fd:FuncData):Prop where
 ex:∃ (oc:Value) (od:Option Addr) (dV kV doc pm:Value) (an:Option Addr) (cdv ct:Value) (osl:Array (Option Value)),
  fd=fnOf x qual (aN st) (aM st) (aB st) dV kV doc pm an cdv ct/\K.lookup f=some ⟨oc,od,.func fd,osl⟩/\codeIn K cdv qual=true
section
variable {P:Program}{w:World}{K:Frag}{mg:Str->Option Value}{base:Heap}{N:List Str}{f:Addr}
theorem FunA.ok {x qual:Str}{st:Stmt}{fd:FuncData}{ps:List Str}{k:Nat}{sp:Sp}(F:FunA K x qual st f fd)(S:FnScope N ps (aB st))(len:∀ vs H Q E,sp vs H Q E->vs.length=ps.length)(hbody:∀ (cdv:Value) (A:Around) (outer:List Env) (s:Shared) (H:Hp) (vs:List V) (Q:VK) (E:XK),Room k (A.deeper (envOfC qual (aB st) s.heap.objs.size f cdv))->sp vs H Q E ->
   ∃ t,PSs (AS2 CX0 P w K mg base N qual (aB st) f cdv A outer s H E).nox (aM st) t/\t { nx:=fun _ H'=>Q .non H',rt:=Q } (L2.vD N vs) H):FnOk P w K mg base CX0 (k+1) f fd ps sp:=by
 obtain ⟨oc,od,dV,kV,doc,pm,an,cdv,ct,osl,rfl,lk,hcd⟩:=F.ex
 refine BD8 lk hcd S len fun A outer s H vs Q E hr hsp=>?_
 obtain ⟨t,h,q⟩:=hbody cdv A outer s H vs Q E hr hsp
 exact ⟨t,h.nox,q⟩
theorem AG7 {x qual:Str}{st:Stmt}{oc:Value}{od an:Option Addr}{osl:Array (Option Value)}{dV kV doc pm cdv ct:Value}(l:K.lookup f=some ⟨oc,od,.func (fnOf x qual (aN st) (aM st) (aB st) dV kV doc pm an cdv ct),osl⟩)(c:codeIn K cdv qual=true):FunA K x qual st f (fnOf x qual (aN st) (aM st) (aB st) dV kV doc pm an cdv ct):=⟨⟨oc,od,dV,kV,doc,pm,an,cdv,ct,osl,rfl,l,c⟩⟩
theorem AG8 {fd:FuncData}{ps:List Str}{ds:List Value}(n:Nat)(hn:n+ds.length=ps.length)(h:∀ (s:Shared) (us:List Value),K.In s.heap->us.length=n->BindsTo s fd ⟨us,[]⟩ (ps.zip (us++ds))):Binds K fd ps ds:=fun s us X hl=>h s us X (by
 rw [List.length_append] at hl
 omega)
end
theorem tK {H:Hp}:∀ us:List Str,RDs H (us.map V.str) (us.map PyData.str)
 | []=>.nil
 | u::r=>.cons (.str u) (tK r)
theorem zA {H:Hp}:∀ ns:List Int,RDs H (ns.map V.int) (ns.map PyData.int)
 | []=>.nil
 | n::r=>.cons (.int n) (zA r)
theorem zB:∀ ns:List Int,PyData.canLayAll0 (ns.map PyData.int)=true/\PyData.depthAll (ns.map PyData.int)=0
 | []=>⟨by simp [PyData.canLayAll0],by simp [PyData.depthAll]⟩
 | n::r=>by
  obtain ⟨a,b⟩:=zB r
  exact ⟨by simp [PyData.canLayAll0,PyData.canLay0,a],by simp [PyData.depthAll,PyData.depth,b]⟩
theorem qF {ds:List PyData}{n:Nat}(hn:n<=60)(h:PyData.canLayAll0 ds=true/\PyData.depthAll ds=n):SeqAt.shaped (.list ds)=true/\SeqAt.shaped (.tuple ds)=true:=by
 have h1:=h.1
 have h2:=h.2
 constructor
 ·show (PyData.canLay0 (.list ds) && decide (PyData.depth (.list ds)<=64))=true
  rw [Bool.and_eq_true]
  exact ⟨by simp only [PyData.canLay0]; exact h1,decide_eq_true (by simp only [PyData.depth]; omega)⟩
 ·show (PyData.canLay0 (.tuple ds) && decide (PyData.depth (.tuple ds)<=64))=true
  rw [Bool.and_eq_true]
  exact ⟨by simp only [PyData.canLay0]; exact h1,decide_eq_true (by simp only [PyData.depth]; omega)⟩
theorem AX9 (xs:List PyData):PyData.eqv (.list xs) (.list [])=xs.isEmpty:=by cases xs <;> simp [PyData.eqv,PyData.eqvAll]
def jB (l:List Str):List Str:=l.foldl (fun a x=>if x∈a then a else a++[x]) []
theorem mH (l:List Str)(x:Str):jB (l++[x])=if x∈jB l then jB l else jB l++[x]:=by
 unfold jB; rw [List.foldl_append]; rfl
theorem vI {l:List Str}{i:Nat}(h:i < l.length):jB (l.take (i+1))=if l.getD i Str.empty∈jB (l.take i) then jB (l.take i) else jB (l.take i)++[l.getD i Str.empty]:=by
 rw [<- mH,List.take_succ,List.getElem?_eq_getElem h]
 simp [List.getD,List.getElem?_eq_getElem h]
theorem tL {p:List Str->Prop}(h0:p [])(h1:∀ l x,p l->p (l++[x]))(l:List Str):p l:=by
 have q:∀ m:List Str,p m.reverse:=fun m=>by
  induction m with
  | nil=>exact h0
  | cons a m ih=>rw [List.reverse_cons]; exact h1 _ _ ih
 have:=q l.reverse
 rwa [List.reverse_reverse] at this
theorem zC (x:Str)(l:List Str):x∈jB l ↔ x∈l:=by
 refine tL (p:=fun l=>x∈jB l ↔ x∈l) (by simp [jB]) (fun l y ih=>?_) l
 ·show x∈jB (l++[y]) ↔ x∈l++[y]
  rw [mH]
  split
  ·rename_i h
   rw [ih]
   constructor
   ·intro z; exact List.mem_append_left _ z
   ·intro z
    rcases List.mem_append.mp z with z | z
    ·exact z
    ·have e:x=y:=by simpa using z
     subst e
     exact ih.mp h
  ·simp [ih]
theorem AG9 (l:List Str):(jB l).length<=l.length:=by
 refine tL (p:=fun l=>(jB l).length<=l.length) (by simp [jB]) (fun l y ih=>?_) l
 ·show (jB (l++[y])).length<=(l++[y]).length
  rw [mH]
  split <;> simp <;> omega
theorem AO2 (l:List Str):(jB l).length=l.length ↔ l.Nodup:=by
 refine tL (p:=fun l=>(jB l).length=l.length ↔ l.Nodup) (by simp [jB]) (fun l y ih=>?_) l
 ·show (jB (l++[y])).length=(l++[y]).length ↔ (l++[y]).Nodup
  have h:=AG9 l
  rw [mH]
  by_cases m:y∈jB l
  ·rw [if_pos m,List.length_append,List.length_singleton]
   constructor
   ·intro z; omega
   ·intro z
    have:=(zC y l).mp m
    rw [List.nodup_append] at z
    exact absurd rfl (z.2.2 y this y (List.mem_singleton.mpr rfl))
  ·rw [if_neg m,List.length_append,List.length_append,List.length_singleton]
   have n:y ∉ l:=fun z=>m ((zC y l).mpr z)
   constructor
   ·intro z
    rw [List.nodup_append]
    refine ⟨ih.mp (by omega),by simp,fun a ha b hb e=>?_⟩
    have:b=y:=by simpa using hb
    subst this; subst e; exact n ha
   ·intro z
    rw [List.nodup_append] at z
    have:=ih.mpr z.1
    omega
abbrev AS9 (l:List Str):Str->Bool:=fun k=>decide (k∈jB l)
section
variable {prog:Program}{w:World}{A:Around}{R:Result->Shared->Prop}{I:Addr}{fp wr:List Addr}{G:Array GenState->Array GenState->Prop}{P:Nat->Value->Prop}{St:Nat->Shared->Prop}
theorem AO3 {l:List Str}(W:WalksS prog w A.in1 I fp wr G l.length P St)(S:Addr)(hS0:S ∉ fp)(hv:∀ i v,P i v->∃ t,v=.str (l.getD i Str.empty) t)(hb:l.length+1 < scanBound):∀ (k i:Nat) (s:Shared) (q:∀ s',Moved (S::wr) G s s'->s'.heap.SetOf (strKind prog w) S (AS9 l) (jB l).length->R (.ok (.ret .none)) s'),
   l.length - i=k->i<=l.length->St i s->s.heap.SetOf (strKind prog w) S (AS9 (l.take i)) (jB (l.take i)).length ->
   codeAny (model prog w) A (.builtin "set.update.loop" ⟨[.ref S,.ref I],[]⟩) R s:=by
 have nw:S ∉ wr:=fun h=>hS0 (W.sub _ h)
 have up:∀ b∈wr,b∈S::wr:=fun b hb=>List.mem_cons_of_mem _ hb
 have move:∀ {s s':Shared}{T:Str->Bool}{n:Nat},Moved wr G s s'->s.heap.SetOf (strKind prog w) S T n->s'.heap.SetOf (strKind prog w) S T n:=fun hm z=>by
  obtain ⟨o,es,ep,t,ho,z⟩:=z
  exact ⟨o,es,ep,t,hm.heap S _ nw ho,z⟩
 intro k
 induction k with
 | zero =>
  intro i s q hk hi hst z
  have e:i=l.length:=by omega
  subst e
  rw [List.take_length] at z
  refine codeAny_builtin PyProof.Rows.F.entry_set_update_loop ?_
  rw [Around.under_plainId PyProof.Rows.F.plain_set_update_loop _]; show wpAny _ A.in1 (pyNext (.ref I) >>= _) _ _ s
  refine wpAny_bind (W.done s _ _ hst fun s' hm=>?_)
  show wpAny _ A.in1 (ret Value.none) _ _ s'; exact wpAny_pure (q s' (hm.mono up) (move hm z))
 | succ k ih =>
  intro i s q hk hi hst z
  have lt:i < l.length:=by omega
  refine codeAny_builtin PyProof.Rows.F.entry_set_update_loop ?_
  rw [Around.under_plainId PyProof.Rows.F.plain_set_update_loop _]; show wpAny _ A.in1 (pyNext (.ref I) >>= _) _ _ s
  refine wpAny_bind (W.item i s _ _ lt hst fun v s' hP hst' hm=>?_)
  obtain ⟨t,rfl⟩:=hv i v hP
  have z':=move hm z
  show wpAny _ A.in1 (holding [Value.str (l.getD i Str.empty) t] (setAdd S (.str (l.getD i Str.empty) t)) >>= _) _ _ s'
  refine wpAny_bind (wpAny_holding ?_); unfold setAdd
  refine wpAny_holding (wpAny_bind ((strKind prog w).pyHash (k:=l.getD i Str.empty) (strKind_is _ _ _ _) ?_))
  have room:(jB (l.take i)).length+1 < scanBound:=by
   have h1:=AG9 (l.take i)
   have h2:(l.take i).length<=l.length:=by rw [List.length_take]; omega
   omega
  refine wpAny_setAddHashed_of (knd:=strKind prog w) (s:={ s' with toks:=s'.toks+1 }) (strKind_is _ _ _ _) rfl z' room fun h' sb z2=>?_
  have z3:h'.SetOf (strKind prog w) S (AS9 (l.take (i+1))) (jB (l.take (i+1))).length:=by
   refine SetOf_congr z2 (fun k'=>?_) ?_
   ·show (decide (k'∈jB (l.take i)) || decide (k'=l.getD i Str.empty))=decide (k'∈jB (l.take (i+1)))
    rw [vI lt]
    generalize l.getD i Str.empty=y
    split
    ·rename_i m
     by_cases e:k'=y
     ·subst e; simp [m]
     ·simp [e]
    ·by_cases e:k'=y
     ·subst e; simp
     ·simp [e]
   ·rw [vI lt]
    generalize l.getD i Str.empty=y
    by_cases m:y∈jB (l.take i)
    ·rw [if_pos m,if_pos (by simpa using m)]
    ·rw [if_neg m,if_neg (by simpa using m),List.length_append]; rfl
  refine wpAny_pure ⟨plainId_quiet PyProof.Rows.F.plain_set_update_loop _,ih (i+1) _ (fun s'' hm'' z4=>?_) (by omega) lt (W.frame _ s' _ _ hst' (Nat.le_succ _) fun b hb o e=>?_) z3⟩
  ·refine q s'' (Moved.trans W.gtrans ((hm.mono up).then_heap (Nat.le_succ _) fun b o hb e=>?_) hm'') z4
   rw [sb.2 b (fun h:b=S=>hb (by rw [h]; exact List.mem_cons_self))]; exact e
  ·rw [sb.2 b (fun h:b=S=>hS0 (by rw [<- h]; exact hb))]; exact e
end
abbrev bU (led:Bool):Obj:={ cls:=.type "set",dict:=none,data:=.set #[] 0 (.fresh 0 0 led) }
theorem BO8 {its:List Value}{l:List Str}(h:Vals (l.map V.str) its)(i:Nat)(v:Value)(e:its[i]?=some v):∃ t,v=.str (l.getD i Str.empty) t:=by
 induction l generalizing its i with
 | nil=>cases h; simp at e
 | cons x l ih =>
  cases h with
  | cons r1 r2 =>
   cases i with
   | zero =>
    obtain ⟨t,rfl⟩:=r1
    have:v=.str x t:=by simpa using e.symm
    exact ⟨t,by rw [this]; rfl⟩
   | succ i=>exact ih r2 i (by simpa using e)
section
variable {prog:Program}{w:World}{A:Around}{E:Value->Shared->Prop}{s:Shared}
set_option maxHeartbeats 4000000 in
theorem AO4 {a:Addr}{its:List Value}{l:List Str}{Q:Value->Shared->Prop}(hh:A.handled=none)(hl:s.heap.IsList a its.toArray)(hv:Vals (l.map V.str) its)(hb:l.length+1 < scanBound)(q:∀ (h':Heap) (tk:Nat),h'.SetOf (strKind prog w) s.heap.objs.size (AS9 l) (jB l).length->(∀ b o,s.heap.get? b=some o->h'.get? b=some o)->Q (.ref s.heap.objs.size) { s with heap:=h',toks:=tk }) :
  wpAny (model prog w) A (call (.type "set") [.ref a]) Q E s:=by
 have hn:its.toArray.size=l.length:=by have:=hv.length; rw [List.length_map] at this; simpa using this.symm
 obtain ⟨c,tl,hmro⟩:=PySem.F.called_set.mro
 have hmade:=PySem.F.called_set.made; have hsub:=PySem.F.called_set.sub
 refine wpAny_call (codeAny_of_tree ?_); show wpAny _ _ (callAny (.type "set") _) _ _ _
 refine wpAny_pure ⟨Code.quiet_builtin _ (by decide +kernel),codeAny_builtin PySem.F.entry_type_call ?_⟩
 rw [Around.under_plain (weight_type_call_type "set" [.ref a] []) rfl]
 have h1:=PySem.F.called_set.notType; have h2:=PySem.F.called_set.canCreate
 have hct:=PySem.F.typeCall_set_1 (.ref a)
 repeat (any_goals (first | assumption | wp_step))
 refine codeAny_mono (PySem.code_set_new_1 (.ref a) (E:=E) (Q₁:=fun obj s₁=>∃ led:Bool,obj=.ref s.heap.objs.size/\s₁={ s with heap:=s.heap.push (bU led) }) fun led=>⟨led,rfl,rfl⟩) fun r s₁ hr=>?_
 match r,hr with
 | .error e,hr=>exact hr
 | .ok (.ret obj),hr =>
  obtain ⟨led,rfl,rfl⟩:=hr
  have hS:(s.heap.push (bU led)).get? s.heap.objs.size=some (bU led):=Heap.get?_push_size _ rfl
  have hT:Shared.TypeIs { s with heap:=s.heap.push (bU led) } (.ref s.heap.objs.size) "set":=⟨_,hS,rfl⟩
  have hli:=PySem.F.called_set.init.lookup; have hbi:=PySem.F.called_set.init.bind (.ref s.heap.objs.size)
  repeat (any_goals (first | assumption | wp_step))
  refine codeAny_mono (codeAny_call_builtin (R:=wants (fun r s₂=>r=.none/\∃ h' tk,s₂={ s with heap:=h',toks:=tk }/\h'.SetOf (strKind prog w) s.heap.objs.size (AS9 l) (jB l).length /\
    (∀ b o,s.heap.get? b=some o->h'.get? b=some o)) E) PySem.F.called_set.init.plain PySem.F.entry_set_init (PySem.check_set_init_1 hT ?_)) fun r₂ s₂ hr₂=>?_
  ·obtain ⟨⟨oc,od,odt,osl⟩,hol,hcl,nl,hdl⟩:=hl
   simp only at hcl hdl; subst hcl; subst hdl
   have hol':(s.heap.push (bU led)).get? a=some { cls:=.type "list",dict:=od,data:=.seq its.toArray nl,slots:=osl }:=Heap.get?_push_of_some _ hol
   have n1:=PySem.F.sub_list_set; have n2:=PySem.F.sub_list_frozenset
   have n3:(Value.type "list" == Value.type "dict")=false:=by decide
   have hl1:(s.heap.push (bU led)).IsList a its.toArray:=⟨_,hol',rfl,nl,rfl⟩
   unfold Builtin.«set.__init__» noKeywords Builtin.Frozenset.updateFrom
   generalize hPI:pyIter=PI
   wp_walk
   subst hPI
   refine wpAny_pyIter_list hl1 (wpAny_bind (wpAny_runValue ?_))
   have lt:a < s.heap.objs.size:=Heap.lt_size hol
   have hh3:A.in1.in1.in1.handled=none:=by simp [hh]
   have ne1:a≠(s.heap.push (bU led)).objs.size:=by rw [Heap.size_push]; exact Nat.ne_of_lt (Nat.lt_succ_of_lt lt)
   have ne2:s.heap.objs.size ∉ [(s.heap.push (bU led)).objs.size,a]:=by
    rw [Heap.size_push]; intro z
    rcases List.mem_cons.mp z with z | z
    ·exact absurd z (Nat.ne_of_lt (Nat.lt_succ_self _))
    ·exact absurd (List.mem_singleton.mp z) (Nat.ne_of_gt lt)
   have W:=(Walks.list (prog:=prog) (w:=w) hh3 _ a ne1 its.toArray).toS
   rw [hn] at W
   refine AO3 W s.heap.objs.size ne2 (fun i v hv'=>BO8 hv i v (by simpa using hv')) hb (l.length - 0) 0 _ (fun s' hm z=>?_) (by omega) (Nat.zero_le _) ⟨⟨_,Heap.get?_push_size _ rfl,rfl,rfl⟩,hl1.push _⟩ ?_
   ·obtain ⟨h',g',d',tk',os'⟩:=s'
    have eg:g'=s.gens:=hm.gens
    have ed:d'=s.drawn:=hm.drawn
    have eo:os'=s.os:=hm.os
    subst eg; subst ed; subst eo
    show wpAny _ _ _ _ _ _
    refine wpAny_pure ?_
    show wpAny _ _ (ret Value.none) _ _ _
    refine wpAny_pure ⟨rfl,h',tk',rfl,z,fun b o e=>?_⟩
    have bl:=Heap.lt_size e
    refine hm.heap b o (fun y=>?_) (Heap.get?_push_of_some _ (Heap.get?_push_of_some _ e))
    rcases List.mem_cons.mp y with y | y
    ·exact absurd y (Nat.ne_of_lt bl)
    ·have:=List.mem_singleton.mp y; rw [Heap.size_push] at this; exact absurd this (Nat.ne_of_lt (Nat.lt_succ_of_lt bl))
   ·have hg:((s.heap.push (bU led)).push { cls:=.type "list_iterator",data:=.fields #[.ref a,.int 0 0] }).get? s.heap.objs.size=some (bU led):=Heap.get?_push_of_some _ hS
    exact SetOf_congr ((setObjOf_fresh (knd:=strKind prog w) led).setOf hg (by unfold scanBound; omega)) (fun k=>by simp [AS9,jB]) rfl
  ·match r₂,hr₂ with
   | .error e,hr₂=>exact hr₂
   | .ok (.ret r),hr₂ =>
    obtain ⟨rfl,h',tk,rfl,z,kp⟩:=hr₂
    repeat (any_goals (first | assumption | wp_step))
    exact q _ _ z kp
end
def AO5 (P:Program)(w:World)(a:Addr)(l:List Str):HO:=.ext fun h=>h.SetOf (strKind P w) a (AS9 l) (jB l).length
theorem AY0 {P:Program}{w:World}{H:Hp}{h:Heap}{a:Addr}{l:List Str}(z:h.SetOf (strKind P w) a (AS9 l) (jB l).length):ObjOk P w H h a (AO5 P w a l):=by
 refine ⟨z,?_,fun h1 h2 z1 k=>?_⟩
 ·obtain ⟨o,_,_,_,e,_⟩:=z; exact ⟨o,e⟩
 ·obtain ⟨o,es,ep,t,e,z1⟩:=z1; exact ⟨o,es,ep,t,k o e,z1⟩
theorem AH0 {X:Cx}(hc:X.calm=true):iH X (.type "set") (fun xs H Q=>∃ (a:Addr) (l:List Str),xs=[.ref a]/\SqL X.K H a (l.map V.str)/\l.length<=1000/\∀ p,H p=none->Q (.ref p) (upd H p (AO5 X.prog X.w p l))):=by
 intro pins s σ H xs us Q I r h
 obtain ⟨a,l,rfl,hS,hz,q⟩:=h
 obtain ⟨u,rfl,ru⟩:=kC r
 cases ru
 obtain ⟨its,rv,pl,_⟩:=I.list hS
 refine AO4 (I.ok.hd hc) pl.isList rv (by unfold scanBound; omega) fun h' tk z kp=>?_
 exact ⟨.ref s.heap.objs.size,_,I.laid (t':=tk) kp (Nat.le_refl _) (AY0 z),rfl,q _ (I.hok.fresh (Nat.le_refl _))⟩
theorem AH1 {X:Cx}:iH X (.builtin "len") (fun xs H Q=>∃ (a:Addr) (l:List Str),xs=[.ref a]/\H a=some (AO5 X.prog X.w a l)/\Q (.int (jB l).length) H):=by
 intro pins s σ H xs us Q I r h
 obtain ⟨a,l,rfl,e,q⟩:=h
 obtain ⟨u,rfl,ru⟩:=kC r
 cases ru
 obtain ⟨⟨o,es,ep,t,ho,hex,hd,_,_,hb,hf,hn⟩,_⟩:=I.hok a _ e
 rw [<- hn] at q
 exact call_len_set ho hex hd hf (by unfold scanBound at hb; omega) ⟨.int es.size,H,I.tok _,⟨_,rfl⟩,q⟩
def BL0 (K:Frag)(T:String):List V->Hp->VK->Prop:=fun xs H Q=>∃ (x:V) (t:Value) (b:Bool),xs=[x,.ty T]/\TyOf K H x t/\kitOne K t (.type T)=some b/\Q (.bl b) H
theorem iP {X:Cx}{K:Frag}{T:String}(hK:X.K=K):iH X (.builtin "isinstance") (BL0 K T):=by
 subst hK
 intro pins s σ H xs us Q I r h
 obtain ⟨x,t,b,rfl,ty,e,q⟩:=h
 obtain ⟨u,w',rfl,rx,rc⟩:=AU9 r
 cases (show w'=Value.type T from rc)
 exact pZ I rx ty e fun tk=>⟨.bl b,H,I.tok _,rfl,q⟩
section
variable {X:Cx}
end
end Bw
namespace L2
open PySem PySem.Spec PyProof.Rows PySem.W
section
variable {κ:Type} [DecidableEq κ]
def uQ (kvs:List (κ × V))(k:κ):Option V:=(kvs.find? fun kv=>decide (kv.1=k)).map (·.2)
def qG (kvs:List (κ × V))(k:κ)(v:V):List (κ × V) :=
 if (kvs.any fun kv=>decide (kv.1=k))=true then kvs.map (fun kv=>if kv.1=k then (kv.1,v) else kv) else kvs++[(k,v)]
theorem tM {p:κ × V}{r:List (κ × V)}{k:κ}(e:p.1=k):uQ (p::r) k=some p.2:=by simp [uQ,List.find?_cons,e]
theorem pO {p:κ × V}{r:List (κ × V)}{k:κ}(e:¬ p.1=k):uQ (p::r) k=uQ r k:=by simp [uQ,List.find?_cons,e]
theorem tN (k:κ):∀ kvs:List (κ × V),(kvs.any fun kv=>decide (kv.1=k))=(uQ kvs k).isSome
 | []=>rfl
 | p::r=>by
  rw [List.any_cons]
  by_cases e:p.1=k
  ·simp only [tM e,decide_eq_true e,Bool.true_or,Option.isSome_some]
  ·rw [pO e,decide_eq_false e,Bool.false_or]; exact tN k r
theorem iQ (kvs:List (κ × V))(k:κ)(v:V):(qG kvs k v).length<=kvs.length+1:=by
 unfold qG
 split
 ·rw [List.length_map]; omega
 ·rw [List.length_append,List.length_cons,List.length_nil]; omega
theorem AO6 {kvs:List (κ × V)}{k:κ}(v:V)(h:uQ kvs k=none):qG kvs k v=kvs++[(k,v)]:=by
 unfold qG
 rw [tN,h]
 exact if_neg (by decide)
theorem RelO.isSome_eq {o:Option V}{u:Option Value}(r:RelO o u):o.isSome=u.isSome:=by
 cases o with
 | none=>cases u with
  | none=>rfl
  | some _=>exact (show False from r).elim
 | some _=>cases u with
  | none=>exact (show False from r).elim
  | some _=>rfl
theorem KV.val {kvs:List (κ × V)}{vs:List (κ × Value)}(r:KV kvs vs)(k:κ):RelO (uQ kvs k) (valueAt vs k):=by
 unfold KV at r
 induction r with
 | nil=>exact True.intro
 | @cons p q ps qs h t ih =>
  obtain ⟨h1,h2⟩:=h
  by_cases e:p.1=k
  ·have e':q.1=k:=h1.symm.trans e
   have b:valueAt (q::qs) k=some q.2:=by simp [valueAt,List.find?_cons,e']
   rw [tM e,b]; exact h2
  ·have e':¬ q.1=k:=fun z=>e (h1.trans z)
   have b:valueAt (q::qs) k=valueAt qs k:=by simp [valueAt,List.find?_cons,e']
   rw [pO e,b]; exact ih
theorem KV.any {kvs:List (κ × V)}{vs:List (κ × Value)}(r:KV kvs vs)(k:κ):(kvs.any fun kv=>decide (kv.1=k))=vs.any fun kv=>decide (kv.1=k):=by
 unfold KV at r
 induction r with
 | nil=>rfl
 | cons h t ih=>rw [List.any_cons,List.any_cons,ih,h.1]
theorem KV.repl {kvs:List (κ × V)}{vs:List (κ × Value)}(r:KV kvs vs)(k:κ){y:V}{u:Value}(ry:RelV y u) :
  KV (kvs.map fun kv=>if kv.1=k then (kv.1,y) else kv) (vs.map fun kv=>if kv.1=k then (kv.1,u) else kv):=by
 unfold KV at r ⊢
 induction r with
 | nil=>exact .nil
 | @cons p q ps qs h t ih =>
  rw [List.map_cons,List.map_cons]
  refine .cons ?_ ih
  obtain ⟨h1,h2⟩:=h
  by_cases e:p.1=k
  ·rw [if_pos e,if_pos (h1.symm.trans e)]; exact ⟨h1,ry⟩
  ·rw [if_neg e,if_neg (fun z=>e (h1.trans z))]; exact ⟨h1,h2⟩
theorem KV.put {kvs:List (κ × V)}{vs:List (κ × Value)}(r:KV kvs vs)(k:κ){y:V}{u:Value}(ry:RelV y u):KV (qG kvs k y) (stored vs k u):=by
 unfold qG stored
 rw [r.any k]
 by_cases e:(vs.any fun kv=>decide (kv.1=k))=true
 ·rw [if_pos e,if_pos e]; exact r.repl k ry
 ·rw [if_neg e,if_neg e]; exact Paired.snoc r ⟨rfl,ry⟩
theorem KV.keys {kvs:List (κ × V)}{vs:List (κ × Value)}(r:KV kvs vs):kvs.map (·.1)=vs.map (·.1):=by
 unfold KV at r
 induction r with
 | nil=>rfl
 | cons h t ih=>rw [List.map_cons,List.map_cons,ih,h.1]
theorem KV.length {kvs:List (κ × V)}{vs:List (κ × Value)}(r:KV kvs vs):kvs.length=vs.length:=Paired.length r
end
theorem AO7 {P:Program}{w:World}{k:Key}{u:Value}(r:RelV (kV k) u):(fC P w).is k u=true:=by
 cases k with
 | inl i=>obtain ⟨t,e⟩:=(show ∃ t,u=Value.int i t from r); subst e; exact wI P w i t
 | inr x=>obtain ⟨t,e⟩:=(show ∃ t,u=Value.str x t from r); subst e; exact wJ P w x t
section
variable {P:Program}{w:World}{H:Hp}{h:Heap}{a:Addr}
theorem BL1 {u:HO}(ok:HOk P w H h)(e:Rd H a u):ObjOk P w H h a u:=e.ok ok
theorem BL2 {kvs:List (Key × V)}(ok:HOk P w H h)(e:Rd H a (.dK kvs)):kvs.length<=sizeLine/\(a == sysModules)=false/\∃ vs,KV kvs vs/\h.DictOf (fC P w) a vs :=
 show ObjOk P w H h a (.dK kvs) from BL1 ok e
theorem AA1 {kvs:List (Key × V)}(ok:HOk P w H h)(e:H a=some (.dK kvs)):kvs.length<=sizeLine/\(a == sysModules)=false/\∃ vs,KV kvs vs/\h.DictOf (fC P w) a vs:=BL2 ok (.inl e)
end
section
variable {X:Cx}{pins:List (Addr × Obj)}{σ:St}{H:Hp}{s:Shared}{a:Addr}{y v:V}{u r:Value}{o:Option V}{A:Around}{E:Value->Shared->Prop}
theorem Inv.big (I:Inv X pins σ H s):sysModules < s.heap.objs.size:=by
 have h:mainGlobals < s.heap.objs.size:=(I.mod.glob.keeps I.bk).lt
 exact Nat.lt_trans (by decide) h
theorem AH2 {h':Heap}{t':Nat}{ob:HO}(I:Inv X pins σ H s)(mu:Mut (H a))(hs:Heap.SameBut a s.heap h')(he:∃ q,h'.get? a=some q)(new:ObjOk X.prog X.w (upd H a ob) h' a ob) :
  Inv X pins σ (upd H a ob) { s with heap:=h',toks:=t' } :=
 I.write (x:=a) (e:=a) mu (.inl rfl) (fun b q hb z=>(hs.2 b hb).trans z) he new
theorem AT0 {P:Program}{w:World}{H':Hp}{h':Heap}{kvs:List (Key × V)}{vs:List (Key × Value)}(z:kvs.length<=sizeLine)(hd:(a == sysModules)=false)(rel:KV kvs vs)(dd:h'.DictOf (fC P w) a vs) :
  ObjOk P w H' h' a (.dK kvs):=⟨z,hd,vs,rel,dd⟩
end
theorem zD {P:Program}{w:World}{H:Hp}(h:Heap)(hb:sysModules < h.objs.size):ObjOk P w H (h.push { cls:=.type "dict",data:=.dict #[] }) h.objs.size (.dK []) :=
 ⟨Nat.zero_le _,beq_eq_false_iff_ne.mpr (Ne.symm (Nat.ne_of_lt hb)),[],.nil,Heap.DictOf.new h⟩
def AT1:TE:=fun _ H Q=>∀ p,H p=none->Q (.ref p) (upd H p (.dK []))
section
variable {X:Cx}{pos:Pos}
theorem tO:PE X (.Dict [] [] pos) AT1:=fun pins s σ H Q I h =>
 wpAny_Dict_empty ⟨.ref s.heap.objs.size,_,I.laid (a:=s.heap.objs.size) (o:=.dK []) (t':=s.toks) (fun _ _ q=>Heap.get?_push_of_some _ q) (Nat.le_refl _) (zD s.heap I.big),rfl,h _ (I.hok.fresh (Nat.le_refl _))⟩
end
def AH3:List (TE × TE)->St->Hp->(List (V × V)->Hp->Prop)->Prop
 | [],_,H,Q=>Q [] H
 | (tk,tv)::r,σ,H,Q=>tk σ H fun x H1=>tv σ H1 fun y H2=>AH3 r σ H2 fun ps H3=>Q ((x,y)::ps) H3
abbrev VV:List (V × V)->List (Value × Value)->Prop:=Paired fun p q=>RelV p.1 q.1/\RelV p.2 q.2
def PPs (X:Cx)(pos:Pos)(keys:List (Option Expr))(values:List Expr)(trs:List (TE × TE)):Prop :=
 ∀ (pins:List (Addr × Obj)) (s:Shared) (σ:St) (H:Hp) (Q:List (V × V)->Hp->Prop),Inv X pins σ H s->AH3 trs σ H Q ->
  wpAny (model X.prog X.w) X.A (evalPairs (pairTrees keys values X.env pos)) (fun vs s'=>∃ ps H',Inv X pins σ H' s'/\VV ps vs/\Q ps H') X.xe s
theorem AY1 {X:Cx}{pos:Pos}:PPs X pos [] [] []:=fun pins s σ H Q I h=>pairTrees_nil_walk ⟨[],H,I,.nil,h⟩
theorem AO8 {X:Cx}{pos:Pos}{k v:Expr}{ks:List (Option Expr)}{vs:List Expr}{tk tv:TE}{trs:List (TE × TE)}(hk:PE X k tk)(hv:PE X v tv)(hr:PPs X pos ks vs trs) :
  PPs X pos (some k::ks) (v::vs) ((tk,tv)::trs):=fun pins s σ H Q I h =>
 pairTrees_cons_walk (thn (hk pins s σ H _ I h) fun u s1 ⟨x,H1,I1,rx,q1⟩=>thn (hv pins s1 σ H1 _ I1 q1) fun w2 s2 ⟨y,H2,I2,ry,q2⟩ =>
  thn (hr pins s2 σ H2 _ I2 q2) fun ws s3 ⟨ps,H3,I3,rel,q3⟩=>⟨(x,y)::ps,H3,I3,.cons ⟨rx,ry⟩ rel,q3⟩)
def mI (kvs more:List (Key × V)):List (Key × V):=more.foldl (fun acc kv=>qG acc kv.1 kv.2) kvs
theorem KV.merge:∀ {more:List (Key × V)}{rs:List (Key × Value)}{kvs:List (Key × V)}{vs:List (Key × Value)},KV more rs->KV kvs vs->KV (mI kvs more) (merged vs rs):=by
 intro more rs kvs vs r
 unfold KV at r
 induction r generalizing kvs vs with
 | nil=>intro q; exact q
 | @cons p q ps qs h t ih =>
  intro r0
  have e:KV (qG kvs p.1 p.2) (stored vs q.1 q.2):=by
   have:=r0.put p.1 h.2
   rw [<- h.1]; exact this
  exact ih e
theorem mJ:∀ (more kvs:List (Key × V)),(mI kvs more).length<=kvs.length+more.length
 | [],kvs=>by show kvs.length<=kvs.length+0; omega
 | p::r,kvs=>by
  have h1:=mJ r (qG kvs p.1 p.2)
  have h2:=iQ kvs p.1 p.2
  show (mI (qG kvs p.1 p.2) r).length<=_
  rw [List.length_cons]; omega
theorem sO {P:Program}{w:World}:∀ {kvs:List (Key × V)}{ws:List (Value × Value)},VV (kvs.map fun kv=>(kV kv.1,kv.2)) ws->∃ rs,Carries (fC P w) ws rs/\KV kvs rs
 | [],_,r=>by rw [List.map_nil] at r; cases r; exact ⟨[],True.intro,.nil⟩
 | p::kvs,_,r=>by
  rw [List.map_cons] at r
  cases r with
  | @cons a b as bs h t =>
   obtain ⟨rs,c,q⟩:=sO (P:=P) (w:=w) t
   obtain ⟨b1,b2⟩:=b
   exact ⟨(p.1,b2)::rs,⟨AO7 h.1,rfl,c⟩,.cons ⟨rfl,h.2⟩ q⟩
def BE8 (trs:List (TE × TE)):TE:=fun σ H Q=>∀ p,H p=none->AH3 trs σ (upd H p (.dK [])) fun ps H2=>H2 p=some (.dK [])/\∃ kvs:List (Key × V),ps=kvs.map (fun kv=>(kV kv.1,kv.2))/\kvs.length<=15/\Q (.ref p) (upd H2 p (.dK (mI [] kvs)))
theorem AY2 {X:Cx}{pos:Pos}{keys:List (Option Expr)}{values:List Expr}{trs:List (TE × TE)}(h:PPs X pos keys values trs)(hall:keys.all (·.isSome)=true)(hl:keys.length=values.length)(h0:keys≠[])(h15:keys.length<=15):PE X (.Dict keys values pos) (BE8 trs):=by
 intro pins s σ H Q I q
 have hn:=I.hok.fresh (Nat.le_refl s.heap.objs.size)
 have I1:=I.laid (a:=s.heap.objs.size) (o:=.dK []) (h':=s.heap.push { cls:=.type "dict",data:=.dict #[] }) (t':=s.toks) (fun _ _ q=>Heap.get?_push_of_some _ q) (Nat.le_refl _) (zD s.heap I.big)
 refine wpAny_Dict_walk (knd:=fC X.prog X.w) hall hl h0 h15 (thn (h pins _ σ _ _ I1 (q _ hn)) fun ws s2 ⟨ps,H2,I2,rel,e,kvs,ep,lk,q2⟩=>?_)
 subst ep
 obtain ⟨rs,c,rk⟩:=sO (P:=X.prog) (w:=X.w) rel
 obtain ⟨z,hd,vs0,r0,dd⟩:=AA1 I2.hok e
 cases r0
 refine ⟨rs,c,dd,fun h' dd' hs=>⟨.ref s.heap.objs.size,_,?_,rfl,q2⟩⟩
 have hz:(mI [] kvs).length<=sizeLine:=by
  have h1:=mJ kvs []
  rw [List.length_nil] at h1
  rw [sizeLine_eq]; omega
 have he:∃ q,h'.get? s.heap.objs.size=some q:=let ⟨q,_,_,hq,_⟩:=dd'; ⟨q,hq⟩
 exact AH2 I2 (by rw [e]; exact True.intro) hs he (AT0 hz hd (rk.merge .nil) dd')
end L2
namespace Bw
open PySem PySem.Spec PyProof.Rows L2 PySem.W
section
variable {X:Cx}
def BN4:R2:=fun x y H Q=>∃ a kvs k v,x=.ref a/\H a=some (.dK kvs)/\y=kV k/\uQ kvs k=some v/\Q v H
theorem lA:IxR X BN4:=by
 intro value slice pins s σ H x y v u Q I rx ry h hs
 obtain ⟨a,kvs,k,z,rfl,e,rfl,hv,q⟩:=h
 cases rx
 obtain ⟨hz,hd,vs,rel,dd⟩:=AA1 I.hok e
 obtain ⟨w',hw,rw'⟩:=RelO.some_of (v:=z) (o:=valueAt vs k) (by rw [<- hv]; exact rel.val k)
 have hT:s.TypeIs (.ref a) "dict":=dd.typeIs
 unfold subscriptTail
 refine wpAny_bind ?_
 rw [getitemInPython_of_ne hT.not_modules]
 refine wpAny_bind (wpAny_specialOf hT PySem.F.slot_dict_getitem.lookup ?_)
 have fin:wpAny (model X.prog X.w) X.A (subscripted slice false (.ref a) u) (fun r s₃=>wpAny (model X.prog X.w) X.A (letTemporaryGo value (.ref a) r >>= fun _=>pure r) (EP X pins σ Q) X.xe s₃) X.xe s:=by
  rw [hs]
  exact wpAny_operating (wpAny_getItem_of (AO7 ry) dd.mapOf hw (wpAny_bind (wpAny_letTemporaryGo (wpAny_pure ⟨z,H,I.tok _,rw',q⟩))))
 first
  | exact wpAny_pure (wpAny_bind fin)
  | exact wpAny_bind (wpAny_pure (wpAny_bind fin))
  | exact wpAny_bind fin
def BN5:R2:=fun y x H Q=>∃ a kvs k,x=.ref a/\H a=some (.dK kvs)/\y=kV k/\Q (.bl (uQ kvs k).isSome) H
theorem BE9:OpR X (compareOp .In) BN5:=by
 intro pins s σ H x y v u Q I rx ry h
 obtain ⟨a,kvs,k,rfl,e,rfl,q⟩:=h
 cases ry
 obtain ⟨z,hd,vs,rel,dd⟩:=AA1 I.hok e
 refine wpAny_in_of (AO7 rx) hd dd.mapOf ?_
 rw [<- (rel.val k).isSome_eq]
 exact ⟨.bl _,H,I.tok _,rfl,q⟩
def BF0:BC9:=fun x y v H Q=>∃ a kvs k,x=.ref a/\y=kV k/\H a=some (.dK kvs)/\kvs.length < sizeLine/\Q (L2.upd H a (.dK (qG kvs k v)))
theorem zE:BH6 X BF0:=by
 intro pins s σ H o i v ov iv u Q I ro ri rv h
 obtain ⟨a,kvs,k,rfl,rfl,e,l,q⟩:=h
 cases ro
 obtain ⟨z,hd,vs,rel,dd⟩:=AA1 I.hok e
 have hz:vs.length<=sizeLine:=by rw [<- rel.length]; exact z
 have hl:(qG kvs k v).length<=sizeLine:=by have:=iQ kvs k v; omega
 refine wpAny_setItem_pairs (hsz:=hz) (AO7 ri) dd fun h' dd' hs=>⟨_,?_,q⟩
 have he:∃ q,h'.get? a=some q:=let ⟨q,_,_,hq,_⟩:=dd'; ⟨q,hq⟩
 exact AH2 I (by rw [e]; exact True.intro) hs he (AT0 hl hd (rel.put k rv) dd')
end
section
variable {prog:Program}{w:World}{A:Around}{E:Value->Shared->Prop}{s:Shared}
theorem vJ {R:Result->Shared->Prop}{T:String}{d S:Addr}{res:Value}{c₀:Nat}(hTm:T="dict"\/T="set")(hT:s.TypeIs (.ref d) T)(hSd:S≠d)(hit:wpAny (model prog w) A.in1 (pyIter (.ref d)) (fun v s1=>∃ (I:Addr) (fp wr:List Addr) (G:Array GenState->Array GenState->Prop) (n:Nat) (P:Nat->Value->Prop) (St:Nat->Shared->Prop),v=.ref I/\WalksS prog w A.in1 I fp wr G n P St/\St 0 s1/\n<=sizeLine/\S ∉ fp/\s1.TypeIs (.ref d) T /\
   s1.heap.get? S=some { cls:=.type "list",data:=.seq #[] c₀ }/\∀ s' acc' c',Moved (S::wr) G s1 s'->s'.heap.get? S=some { cls:=.type "list",dict:=none,data:=.seq acc' c',slots:=#[] }->ItemsOf P acc' n->R (.ok (.ret res)) s') (fun e s'=>R (.error e) s') s) :
  wpAny (model prog w) A.in1 (Builtin.List.listExtendWith (.ref S) (.ref d) res)
   (fun fin s'=>match fin with | .done f=>R (.ok f) s' | .again c'=>c'.quiet=true/\codeAny (model prog w) A c' R s') (fun e s'=>R (.error e) s') s:=by
 unfold Builtin.List.listExtendWith
 refine wpAny_bind (wpAny_typeOf hT ?_)
 have h1:Builtin.List.listSameRef (.ref S) (.ref d)=false:=by simp [Builtin.List.listSameRef,hSd]
 have h2:(Value.type T == Value.type "list")=false:=by rcases hTm with rfl | rfl <;> decide
 have h3:(Value.type T == Value.type "tuple")=false:=by rcases hTm with rfl | rfl <;> decide
 simp only [h1,h2,h3,Bool.or_false,Bool.false_eq_true,if_false]
 refine wpAny_bind (wpAny_mono hit (fun v s1 h=>?_) fun _ _ z=>z)
 obtain ⟨I,fp,wr,G,n,P,St,rfl,W,st,hn,hSf,hT1,hS,hR⟩:=h
 have go:wpAny (model prog w) A.in1 (rule "list.extend.makes-room" >>= fun _=>Builtin.List.listTouch (.ref S) >>= fun _=>again (.builtin "list.extend.loop" ⟨[.ref S,.ref I,res],[]⟩))
   (fun fin s'=>match fin with | .done f=>R (.ok f) s' | .again c'=>c'.quiet=true/\codeAny (model prog w) A c' R s') (fun e s'=>R (.error e) s') s1:=by
  refine wpAny_bind (wpAny_rule ?_)
  refine wpAny_bind ?_
  show wpAny _ A.in1 (updateSeq S (·.push .none) >>= fun _=>updateSeq S (·.pop)) _ _ _
  refine wpAny_bind (wpAny_updateSeq hS rfl ?_)
  have hS₂:=Heap.get?_update_self (Obj.mapSeq (·.push Value.none)) hS rfl
  refine wpAny_updateSeq (hz:=by seq_fits) hS₂ rfl ?_
  have hS₃:=Heap.get?_update_self (Obj.mapSeq (·.pop)) hS₂ rfl
  have oth:∀ b o,b≠S->s1.heap.get? b=some o->((s1.heap.update S (Obj.mapSeq (·.push Value.none))).update S (Obj.mapSeq (·.pop))).get? b=some o :=
   fun b o hb e=>(Heap.get?_update_other _ _ (Ne.symm hb)).trans ((Heap.get?_update_other _ _ (Ne.symm hb)).trans e)
  refine wpAny_pure ⟨plainId_quiet PySem.F.plain_extend_loop _,codeAny_extend_loopS W hn _ hSf _ n 0 _ _ _ rfl (Nat.zero_le _)
   (W.frame 0 s1 _ s1.toks st (Nat.le_refl _) fun b hb o e=>oth b o (fun h=>hSf (h ▸ hb)) e) hS₃ (ItemsOf.nil P) fun s' acc' c' hm hS' hacc=>?_⟩
  exact hR s' acc' c' (Moved.trans W.gtrans ((Moved.refl W.grefl).then_heap (Nat.le_refl _) fun b o hb e=>oth b o (fun h=>hb (h ▸ List.mem_cons_self)) e) hm) hS' hacc
 refine wpAny_bind (wpAny_holding ?_)
 unfold Builtin.List.listLengthHint
 rcases hTm with rfl | rfl
 ·refine wpAny_bind (wpAny_specialOf hT1 PySem.F.slot_dict_len.lookup ?_)
  generalize hid:("dict.__len__":String)=id0
  wp_delta
  rw [show splitId id0=some ("dict","__len__") from by subst hid; decide +kernel]
  subst hid
  refine wpAny_bind (wpAny_isInstance (b:=true) hT1 (by rw [isSubtype_type]; kernel_rfl) ?_)
  refine wpAny_ite_split (fun hab=>absurd hab (by decide)) (fun _=>?_)
  refine wpAny_ite_split (fun _=>?_) (fun hab=>absurd (by decide +kernel) hab)
  refine wpAny_bind (wpAny_typeOf hT1 ?_)
  exact wpAny_pure go
 ·refine wpAny_bind (wpAny_specialOf hT1 PySem.F.slot_set_len.lookup ?_)
  generalize hid:("set.__len__":String)=id0
  wp_delta
  rw [show splitId id0=some ("set","__len__") from by subst hid; decide +kernel]
  subst hid
  refine wpAny_bind (wpAny_isInstance (b:=true) hT1 (by rw [isSubtype_type]; kernel_rfl) ?_)
  refine wpAny_ite_split (fun hab=>absurd hab (by decide)) (fun _=>?_)
  refine wpAny_ite_split (fun _=>?_) (fun hab=>absurd (by decide +kernel) hab)
  refine wpAny_bind (wpAny_typeOf hT1 ?_)
  exact wpAny_pure go
end
section
variable {prog:Program}{w:World}{A:Around}{E:Value->Shared->Prop}{s:Shared}{κ:Type} [DecidableEq κ] {knd:KeyKind prog w κ}
abbrev BN6 (knd:KeyKind prog w κ)(kvs:List (κ × Value))(i:Nat)(v:Value):Prop:=∃ k x,kvs[i]?=some (k,x)/\knd.is k v=true
def AH4 (prog:Program)(w:World)(A:Around)(T:String)(d S:Addr)(c₀:Nat)(R:Shared->Array Value->Nat->Prop)(v:Value)(s1:Shared):Prop :=
 ∃ (I:Addr) (fp wr:List Addr) (G:Array GenState->Array GenState->Prop) (n:Nat) (P:Nat->Value->Prop) (St:Nat->Shared->Prop),v=.ref I/\WalksS prog w A.in1 I fp wr G n P St/\St 0 s1/\n<=sizeLine/\S ∉ fp/\s1.TypeIs (.ref d) T /\
   s1.heap.get? S=some { cls:=.type "list",data:=.seq #[] c₀ }/\∀ s' acc' c',Moved (S::wr) G s1 s'->s'.heap.get? S=some { cls:=.type "list",dict:=none,data:=.seq acc' c',slots:=#[] }->ItemsOf P acc' n->R s' acc' c'
theorem vK {d S:Addr}{c₀:Nat}{kvs:List (κ × Value)}{R:Shared->Array Value->Nat->Prop}(hh:A.handled=none)(hd:(d == sysModules)=false)(hm:s.heap.DictOf knd d kvs)(hlen:kvs.length<=sizeLine)(hS:s.heap.get? S=some { cls:=.type "list",data:=.seq #[] c₀ })(hR:∀ h' tk acc' c',(∀ b o,b≠S->s.heap.get? b=some o->h'.get? b=some o)->h'.get? S=some { cls:=.type "list",dict:=none,data:=.seq acc' c',slots:=#[] }->ItemsOf (BN6 knd kvs) acc' kvs.length->R { s with heap:=h',toks:=tk } acc' c') :
  wpAny (model prog w) A.in1 (pyIter (.ref d)) (AH4 prog w A "dict" d S c₀ R) E s:=by
 obtain ⟨ep,hm⟩:=hm.dictAt
 have hSd:S≠d:=fun e=>by
  obtain ⟨o,es,ho,hex,hdat,_⟩:=hm
  rw [<- e,hS] at ho; cases ho; cases hdat
 have hdI:d≠s.heap.objs.size:=Nat.ne_of_lt hm.lt_size
 have hSI:S≠s.heap.objs.size:=Nat.ne_of_lt (Heap.lt_size hS)
 refine wpAny_pyIter_dict hd hm ?_
 refine ⟨s.heap.objs.size,_,_,_,_,_,_,rfl,(Walks.dictKeys (prog:=prog) (w:=w) (knd:=knd) (A:=A.in1) hh s.heap.objs.size d hdI kvs ep).toS,⟨⟨_,Heap.get?_push_size _ rfl,rfl,rfl⟩,hm.push _⟩,hlen,?_,(hm.push _).dictOf.typeIs,Heap.get?_push_of_some _ hS,fun s' acc' c' hmv hS' hacc=>?_⟩
 ·intro z
  rcases List.mem_cons.mp z with z | z
  ·exact hSI z
  ·exact hSd (List.mem_singleton.mp z)
 ·have e:=Moved.eq_with hmv
  rw [e]
  refine hR s'.heap s'.toks acc' c' (fun b o hb e=>hmv.heap b o (fun hmem=>?_) (Heap.get?_push_of_some _ e)) hS' hacc
  rcases List.mem_cons.mp hmem with e' | hmem
  ·exact hb e'
  ·exact absurd (Heap.lt_size e) (by rw [List.mem_singleton.mp hmem]; exact Nat.lt_irrefl _)
end
section
variable {prog:Program}{w:World}{A:Around}{E:Value->Shared->Prop}{s:Shared}
theorem AY3 {Q:Value->Shared->Prop}{T:String}{d:Addr}(hTm:T="dict"\/T="set")(hT:s.TypeIs (.ref d) T)(hd:d < s.heap.objs.size)(hit:∀ (c₀:Nat) (h0:Heap) (E:Value->Shared->Prop),(∀ b o,s.heap.get? b=some o->h0.get? b=some o)->h0.get? s.heap.objs.size=some { cls:=.type "list",data:=.seq #[] c₀ } ->
   wpAny (model prog w) A.in1.in1 (pyIter (.ref d)) (AH4 prog w A.in1 T d s.heap.objs.size c₀ fun s' acc c=>Q (.ref s.heap.objs.size) s') E { s with heap:=h0 }) :
  wpAny (model prog w) A (call (.type "list") [.ref d]) Q E s:=by
 refine callType_codes (Q₁:=fun obj s₁=>obj=.ref s.heap.objs.size/\s₁={ s with heap:=s.heap.push { cls:=.type "list",data:=.seq #[] } }) PySem.F.called_list (PySem.F.typeCall_list_1 _) PySem.F.entry_list_init
  (code_list_new _ ⟨rfl,rfl⟩) fun obj s₁ h₁=>?_
 obtain ⟨rfl,rfl⟩:=h₁
 have hS:(s.heap.push { cls:=.type "list",data:=.seq #[] }).get? s.heap.objs.size=some { cls:=.type "list",data:=.seq #[] }:=Heap.get?_push_size _ rfl
 refine ⟨⟨_,hS,rfl⟩,PySem.F.args_list_init_2 _ _,?_⟩
 show wpAny _ _ (do let old <- Builtin.List.listItems (.ref s.heap.objs.size); Builtin.List.listUpdate (.ref s.heap.objs.size) (fun _=>#[]); letGo old.toList.reverse; Builtin.List.listExtendWith (.ref s.heap.objs.size) (.ref d) .none) _ _ _
 refine wpAny_bind ?_
 unfold Builtin.List.listItems
 refine wpAny_bind (wpAny_seqItems hS rfl (wpAny_pure ?_))
 show wpAny _ _ (updateSeq s.heap.objs.size (fun _=>#[]) >>= fun _=>letGo (#[]:Array Value).toList.reverse >>= fun _=>Builtin.List.listExtendWith (.ref s.heap.objs.size) (.ref d) .none) _ _ _
 refine wpAny_bind (wpAny_updateSeq hS rfl ?_)
 have hS₂:((s.heap.push { cls:=.type "list",data:=.seq #[] }).update s.heap.objs.size (Obj.mapSeq (fun _=>(#[]:Array Value)))).get? s.heap.objs.size=some { cls:=.type "list",data:=.seq #[] 0 }:=Heap.get?_update_self (Obj.mapSeq (fun _=>(#[]:Array Value))) hS rfl
 have oth:∀ b o,s.heap.get? b=some o->((s.heap.push { cls:=.type "list",data:=.seq #[] }).update s.heap.objs.size (Obj.mapSeq (fun _=>(#[]:Array Value)))).get? b=some o :=
  fun b o e=>(Heap.get?_update_other _ _ (Ne.symm (Nat.ne_of_lt (Heap.lt_size e)))).trans (Heap.get?_push_of_some _ e)
 refine wpAny_bind (wpAny_letGo ?_)
 have hT1:Shared.TypeIs { s with heap:=(s.heap.push { cls:=.type "list",data:=.seq #[] }).update s.heap.objs.size (Obj.mapSeq (fun _=>(#[]:Array Value))) } (.ref d) T:=by
  obtain ⟨o,ho,hc⟩:=hT
  exact ⟨o,oth _ _ ho,hc⟩
 refine vJ (A:=A.in1) (c₀:=0) hTm hT1 (Nat.ne_of_gt hd) (wpAny_mono (hit 0 _ _ oth hS₂) (fun v s1 h=>?_) fun _ _ z=>z)
 obtain ⟨I,fp,wr,G,n,P,St,e,W,st,hn,hSf,hT2,hS2,hR⟩:=h
 exact ⟨I,fp,wr,G,n,P,St,e,W,st,hn,hSf,hT2,hS2,fun s' acc' c' a b c=>⟨rfl,hR s' acc' c' a b c⟩⟩
theorem AY4 {R:Result->Shared->Prop}{T:String}{d S:Addr}(hTm:T="dict"\/T="set")(hT:s.TypeIs (.ref d) T)(hd:S≠d)(hit:wpAny (model prog w) A.in1 (pyIter (.ref d)) (AH4 prog w A T d S 0 fun s' acc c=>R (.ok (.ret (.ref S))) s') (fun e s'=>R (.error e) s') s):codeAny (model prog w) A (.builtin "list.__iadd__" ⟨[.ref S,.ref d],[]⟩) R s:=by
 refine codeAny_builtin PySem.F.entry_list_iadd ?_
 rw [Around.under_plainId PySem.F.plain_list_iadd _]
 show wpAny _ A.in1 (Builtin.List.listExtendWith (.ref S) (.ref d) (.ref S)) _ _ _
 exact vJ (c₀:=0) hTm hT hd hit
theorem sP {Q:List Value->Shared->Prop}{T:String}{d:Addr}(hTm:T="dict"\/T="set")(hT:s.TypeIs (.ref d) T)(hd:d < s.heap.objs.size)(hit:wpAny (model prog w) A.in1 (pyIter (.ref d)) (AH4 prog w A T d s.heap.objs.size 0 fun s' acc c=>s'.heap.get? s.heap.objs.size=some { cls:=.type "list",dict:=none,data:=.seq acc c,slots:=#[] }->Q acc.toList s') E { s with heap:=s.heap.push { cls:=.type "list",data:=.seq #[] } }) :
  wpAny (model prog w) A (collect (.ref d)) Q E s:=by
 unfold collect
 refine wpAny_bind (wpAny_runValue (codeAny_builtin PySem.F.entry_proto_collect ?_))
 rw [Around.under_plainId PySem.F.plain_proto_collect _]
 show wpAny _ A.in1 (newList [] >>= fun l=>again (.builtin "list.__iadd__" ⟨[l,.ref d],[]⟩)) _ _ s
 refine wpAny_bind (wpAny_newObj_type ?_)
 have hT1:Shared.TypeIs { s with heap:=s.heap.push { cls:=.type "list",data:=.seq #[] } } (.ref d) T:=by
  obtain ⟨o,ho,hc⟩:=hT
  exact ⟨o,Heap.get?_push_of_some _ ho,hc⟩
 refine wpAny_pure ⟨plainId_quiet PySem.F.plain_list_iadd _,AY4 hTm hT1 (Nat.ne_of_gt hd) (wpAny_mono hit (fun v s1 h=>?_) fun _ _ z=>z)⟩
 obtain ⟨I,fp,wr,G,n,P,St,e,W,st,hn,hSf,hT2,hS2,hR⟩:=h
 refine ⟨I,fp,wr,G,n,P,St,e,W,st,hn,hSf,hT2,hS2,fun s' acc' c' a b c=>?_⟩
 show wpAny _ A (load s.heap.objs.size >>= _) _ _ s'
 refine wpAny_bind (wpAny_load b ?_)
 exact wpAny_pure (hR s' acc' c' a b c b)
theorem vL {kw:List (Str × Value)}{x:Value}{ord:List Int->Prop}{Q:Value->Shared->Prop}(ha:argsOk "sorted" ⟨[x],kw⟩)(hal:∀ L:Addr,argsOk "list.sort" ⟨[.ref L],kw⟩)(hsort:∀ (A:Around) (E:Value->Shared->Prop) (s:Shared) (L:Addr) (vs:List Value) (ns:List Int) (P:PySem.Fin->Shared->Prop),s.heap.get? L=some (seqObj "list" vs.toArray 0)->IntsAre vs ns->vs.length < 64 ->
   (∀ (out:Array Value) (ns':List Int),IntsAre out.toList ns'->ns'.Perm ns->ord ns'->P (.done (.ret .none)) { s with heap:=sortedHeap s.heap L vs out })->wpAny (model prog w) A (Builtin.«list.sort» ⟨[.ref L],kw⟩) P E s)(hcol:wpAny (model prog w) A.in1 (collect x) (fun vs s1=>∃ ns,IntsAre vs ns/\vs.length < 64/\∀ (L:Addr) (out:Array Value) (ns':List Int) (e:Nat) (h':Heap),s1.heap.objs.size<=L->(∀ b o,s1.heap.get? b=some o->h'.get? b=some o) ->
   h'.get? L=some (seqObj "list" out e)->IntsAre out.toList ns'->ns'.Perm ns->ord ns'->Q (.ref L) { s1 with heap:=h' }) E s) :
  wpAny (model prog w) A (call (.builtin "sorted") [x] kw) Q E s:=by
 refine call_function_entry_kw kind_sorted plain_sorted entry_sorted ha ?_
 unfold Builtin.«sorted»
 refine wpAny_bind (m:=checkCount "sorted" 1 1 _) (wpAny_pure ?_)
 refine wpAny_bind (wpAny_mono hcol (fun vs s1 h=>?_) fun _ _ z=>z)
 obtain ⟨ns,hI,h64,hQ⟩:=h
 refine wpAny_bind (wpAny_newList ?_)
 have hoL:(s1.heap.push (seqObj "list" vs.toArray 0)).get? s1.heap.objs.size=some (seqObj "list" vs.toArray 0):=Heap.get?_push_size _ rfl
 refine wpAny_bind (wpAny_holding (wpAny_call_entry_kw slot_list_sort ⟨_,hoL,rfl⟩ entry_list_sort (hsort _ _ _ _ vs ns _ hoL hI h64 fun out ns' a1 a2 a3=>⟨_,rfl,?_⟩) (hal _)))
 obtain ⟨e,he⟩:=sortedHeap_at (out:=out) hoL
 refine wpAny_pure ⟨_,rfl,hQ _ out ns' e _ (Nat.le_refl _) (fun b o q=>?_) he a1 a2 a3⟩
 have lt:=Heap.lt_size q
 exact (sortedHeap_old (Nat.ne_of_lt lt) (by rw [size_push']; exact Nat.lt_succ_of_lt lt)).trans (Heap.get?_push_of_some _ q)
end
theorem AY5 {P:Program}{w:World}{k:Key}{v:Value}(h:(fC P w).is k v=true):RelV (kV k) v:=by
 rcases dC (show wH k v=true from h) with ⟨i,t,rfl,rfl⟩ | ⟨x,t,rfl,rfl⟩
 ·exact ⟨t,rfl⟩
 ·exact ⟨t,rfl⟩
theorem vM {P:Program}{w:World}{kvs:List (Key × V)}{vs:List (Key × Value)}{acc:Array Value}(rel:KV kvs vs)(hI:ItemsOf (BN6 (fC P w) vs) acc vs.length):Vals (kvs.map fun kv=>kV kv.1) acc.toList:=by
 have hk:kvs.map (·.1)=vs.map (·.1):=rel.keys
 have e:(kvs.map fun kv=>kV kv.1)=(vs.map (·.1)).map kV:=by rw [<- hk,List.map_map]; rfl
 rw [e]
 have la:acc.toList.length=(vs.map (·.1)).length:=by rw [List.length_map,Array.length_toList]; exact hI.1
 have at_:∀ (i:Nat) (v:Value),acc.toList[i]?=some v->∃ k,(vs.map (·.1))[i]?=some k/\RelV (kV k) v:=fun i v e=>by
  obtain ⟨k,x,h1,h2⟩:=hI.2 i v (by simpa using e)
  exact ⟨k,by rw [List.getElem?_map,h1]; rfl,AY5 h2⟩
 generalize vs.map (·.1)=ks at la at_
 generalize acc.toList=us at la at_
 clear e hk
 induction ks generalizing us with
 | nil =>
  have:us=[]:=List.eq_nil_of_length_eq_zero la
  subst this
  exact .nil
 | cons k ks ih =>
  cases us with
  | nil=>simp at la
  | cons u us =>
   obtain ⟨k',h1,h2⟩:=at_ 0 u rfl
   have:k=k':=by simpa using h1
   subst this
   exact .cons h2 (ih us (by simpa using la) fun i v e=>by
    obtain ⟨k',h1,h2⟩:=at_ (i+1) v (by simpa using e)
    exact ⟨k',by simpa using h1,h2⟩)
section
variable {X:Cx}
theorem nR (hc:X.calm=true):iH X (.type "list") (fun xs H Q=>∃ (p:Addr) (kvs:List (Key × V)),xs=[.ref p]/\H p=some (.dK kvs)/\∀ l,H l=none->Q (.ref l) (L2.upd H l (.lst (kvs.map fun kv=>kV kv.1)))):=by
 intro pins s σ H xs us Q I r h
 obtain ⟨p,kvs,rfl,e,q⟩:=h
 obtain ⟨u,rfl,rx⟩:=kC r
 cases rx
 obtain ⟨z,hd,vs,rel,dd⟩:=AA1 I.hok e
 have hl:=rel.length
 refine AY3 (.inl rfl) dd.typeIs (by obtain ⟨o,_,_,ho,_⟩:=dd; exact Heap.lt_size ho) fun c₀ h0 E k hS=>?_
 have dd0:h0.DictOf (fC X.prog X.w) p vs:=by
  obtain ⟨o,es,ep,ho,r⟩:=dd
  exact ⟨o,es,ep,k _ _ ho,r⟩
 refine vK (A:=X.A.in1) (s:={ s with heap:=h0 }) (I.ok.hd hc) hd dd0 (by omega) hS fun h' tk acc' c' hk hS' hacc=>?_
 exact ⟨.ref s.heap.objs.size,_,I.laid (t':=tk) (fun b o e=>hk b o (Nat.ne_of_lt (Heap.lt_size e)) (k b o e)) (Nat.le_refl _) (show ObjOk X.prog X.w _ h' _ (.lst (kvs.map fun kv=>kV kv.1)) from ⟨by rw [List.length_map]; exact z,acc'.toList,c',vM rel hacc,by simpa using hS'⟩),rfl,q _ (I.hok.fresh (Nat.le_refl _))⟩
theorem vals_ints:∀ {ns:List Int}{us:List Value},IntsAre us ns->Vals (ns.map V.int) us:=by
 intro ns us h
 induction h with
 | nil=>exact .nil
 | cons i t h ih=>exact .cons ⟨_,rfl⟩ ih
def BF1:List V->Hp->VK->Prop:=fun vs H Q=>∃ (a:Addr) (kvs:List (Key × V)) (ks:List Int),vs=[.ref a]/\H a=some (.dK kvs)/\kvs.map (·.1)=ks.map Sum.inl/\kvs.length < 64/\∀ (p:Addr) (ns:List Int),H p=none->ns.Perm ks->ns.Pairwise (· >= ·)->Q (.ref p) (L2.upd H p (.lst (ns.map V.int)))
theorem AO9 {e:Expr}{te:TA}{p pos kp kq:Pos}{j:Nat}(hc:X.calm=true)(hg:Gl X "sorted")(hm:X.mg "sorted"=none)(he:PA X [e] te)(hs:starEach [e] X.env=[(false,eval e X.env)]:=by rfl) :
  PE X (.Call (.Name "sorted" p) [e] [⟨some "reverse",.Constant (.bool true) j kq,kp⟩] pos) (tCB BF1 te):=by
 intro pins s σ H Q I h
 refine wpAny_Call_Name_kw (sF I hg hm PyProof.Rows.boot_sorted ?_ (by decide) (by decide))
 refine callWith_kw ?_ (by rw [hs]; rfl) (by rw [hs]; rfl) rfl rfl
 refine thn (he pos pins s σ H _ I h) fun us s1 ⟨vs,H1,I1,r1,a,kvs,ks,ex,ea,ek,l64,q⟩=>?_
 subst ex
 obtain ⟨u,rfl,rx⟩:=kC r1
 cases rx
 refine kws_cons (Constant_bool (kws_nil ?_))
 show wpAny (model X.prog X.w) X.A (call (.builtin "sorted") [.ref a] [(Str.ofString "reverse",.bool true)]) _ _ s1
 obtain ⟨z,hd,vs,rel,dd⟩:=AA1 I1.hok ea
 have hl:=rel.length
 refine vL (ord:=Ordered true) (args_sorted_rev _ _) (fun L=>args_list_sort_rev _ _) (fun A E s L vs ns P hoL hI h64 hP=>list_sort_tree_rev hoL hI h64 hP) ?_
 refine sP (.inl rfl) dd.typeIs (by obtain ⟨o,_,_,ho,_⟩:=dd; exact Heap.lt_size ho) ?_
 have dd0:(s1.heap.push { cls:=.type "list",data:=.seq #[] }).DictOf (fC X.prog X.w) a vs:=by
  obtain ⟨o,es,ep,ho,r⟩:=dd
  exact ⟨o,es,ep,Heap.get?_push_of_some _ ho,r⟩
 refine vK (A:=X.A.in1) (s:={ s1 with heap:=s1.heap.push { cls:=.type "list",data:=.seq #[] } }) (I1.ok.hd hc) hd dd0 (by omega) (Heap.get?_push_size _ rfl) fun h' tk acc' c' hk hS' hacc _=>?_
 have rv:=vM rel hacc
 have e1:(kvs.map fun kv=>kV kv.1)=ks.map V.int:=by
  have:(kvs.map fun kv=>kV kv.1)=(kvs.map (·.1)).map kV:=by rw [List.map_map]; rfl
  rw [this,ek,List.map_map]; rfl
 rw [e1] at rv
 have kp:∀ b o,s1.heap.get? b=some o->h'.get? b=some o:=fun b o e=>hk b o (Nat.ne_of_lt (Heap.lt_size e)) (Heap.get?_push_of_some _ e)
 have I2:Inv X pins σ H1 { s1 with heap:=h',toks:=tk }:=I1.kept kp
 refine ⟨ks,sJ rv,by rw [<- rv.length,<- e1,List.length_map]; exact l64,fun L out ns' e h'' hL k2 hoL hI hp ho=>?_⟩
 have rv2:=vals_ints hI
 have lk:kvs.length=ks.length:=by rw [<- List.length_map (f:=fun kv:Key × V=>kV kv.1),e1,List.length_map]
 have lz:(ns'.map V.int).length<=sizeLine:=by rw [List.length_map,hp.length_eq]; omega
 exact ⟨.ref L,_,I2.laid (t':=tk) k2 hL (show ObjOk X.prog X.w _ h'' _ (.lst (ns'.map V.int)) from ⟨lz,out.toList,e,rv2,by simpa using hoL⟩),rfl,q L ns' (I2.hok.fresh hL) hp ho⟩
def BL3:V->List V->Hp->VK->Prop:=fun x vs H Q=>∃ i:Int,x=.int i/\vs=[]/\Q (.int (Builtin.Int.intBits i)) H
theorem AY6:MtR X "int.bit_length" BL3:=by
 intro pins s σ H x vs v us Q I rx rv h
 obtain ⟨i,rfl,rfl,q⟩:=h
 obtain ⟨t,rfl⟩:=rx
 have hus:=rv.zero
 subst hus
 exact call_int_bit_length ⟨.int _,H,I.tok _,⟨_,rfl⟩,q⟩
def Ite (K:Frag)(a:Addr):It :=
 ⟨fun i H=>∃ xs x,SqL K H a xs/\xs[i]?=some x,fun i H x H'=>∃ p y,x=.ref p/\H p=none/\H'=L2.upd H p (.tup [.int i,y])/\∀ xs,SqL K H a xs->xs[i]?=some y,fun i H=>∃ xs,SqL K H a xs/\xs.length<=i⟩
theorem AP0 {pins:List (Addr × Obj)}{σ:L2.St}{H:Hp}{s:Shared}{h':Heap}{t':Nat}{e it p:Addr}{o:HO}(I:L2.Inv X pins σ H s)(k:∀ b u,b≠e->b≠it->s.heap.get? b=some u->h'.get? b=some u)(fe:AL5 X pins H e)(fi:AL5 X pins H it)(hp:s.heap.objs.size<=p)(new:ObjOk X.prog X.w (L2.upd H p o) h' p o):L2.Inv X pins σ (L2.upd H p o) { s with heap:=h',toks:=t' }:=by
 have hn:=I.hok.fresh hp
 have nch:∀ b,b ∉ [e,it]->b≠e/\b≠it:=fun b hb=>⟨fun z=>hb (by simp [z]),fun z=>hb (by simp [z])⟩
 have nn:∀ b u,H b=some u->b≠e/\b≠it:=fun b u q=>⟨fun z=>(by rw [z,fe.1] at q; cases q),fun z=>(by rw [z,fi.1] at q; cases q)⟩
 refine I.step (g':=s.gens) (d':=s.drawn) (ch:=[e,it]) (fun b hb=>?_) (fun b o _ _ hc q _=>k b o (nch b hc).1 (nch b hc).2 q) (fun b o _ _ hc q _=>⟨o.slots,k b o (nch b hc).1 (nch b hc).2 q⟩) (fun b u hc q n=>?_)
  (fun b o hc q=>⟨o,k b o (nch b hc).1 (nch b hc).2 q⟩) (fun b xs q=>by rw [aO (aP q hn)]; exact q) (fun b u xs q=>by rw [aO (aP q hn)]; exact q) (fun b ps q=>⟨#[],by rw [aO (aP q hn),q]; simp⟩) (fun m hm=>?_) (fun b u q=>?_) I.bare
 ·rcases List.mem_cons.mp hb with z | z
  ·subst z; exact ⟨fe.2.2.2.1,fe.2.1,fe.2.2.2.2.1,fe.2.2.2.2.2⟩
  ·rw [List.mem_singleton.mp z]; exact ⟨fi.2.2.2.1,fi.2.1,fi.2.2.2.2.1,fi.2.2.2.2.2⟩
 ·rw [aO (Nat.ne_of_lt (Nat.lt_of_lt_of_le (Heap.lt_size q) hp))]; exact n
 ·obtain ⟨o,es,ep,ho,r⟩:=hm
  exact ⟨o,es,ep,k _ o (Ne.symm fe.2.1) (Ne.symm fi.2.1) ho,r⟩
 ·by_cases hb:b=p
  ·subst hb; rw [aA] at q; cases q; exact new
  ·rw [aO hb] at q
   refine (I.hok b u q).stay (fun c v hc z=>?_) (fun c z=>by rw [aO (aP z hn)]; exact z) fun c xs z=>by rw [aO (aP z hn)]; exact z
   rcases hc with y | y
   ·rw [y] at z ⊢; exact k _ _ (nn b u q).1 (nn b u q).2 z
   ·exact k _ _ (nn c _ y).1 (nn c _ y).2 z
theorem AH5 {P:Program}{w:World}{K:Frag}{elts:List Expr}{x1:Nat}{pos:Pos}(a it e:Addr)(hne:e≠it) :
  Turn P w K (.Tuple elts x1 pos) (Ite K a) [e,it] e (fun i h=>(∃ old,IsEnum h e it ((i:Nat):Int) old)/\h.IsListIter it a i) where
 mem:=by simp
 obj:=fun i h st b hb=>by
  obtain ⟨⟨old,h1⟩,o,h2,c,d⟩:=st
  rcases List.mem_cons.mp hb with z | z
  ·subst z; exact ⟨_,h1,fun v z=>by cases z⟩
  ·rw [List.mem_singleton.mp z]; exact ⟨o,h2,fun v z=>by rw [d] at z; cases z⟩
 keep:=fun i h h' st k=>⟨by obtain ⟨old,h1⟩:=st.1; exact ⟨old,k e (by simp) _ h1⟩,st.2.at fun o q=>k it (by simp) o q⟩
 item:=by
  intro X hP hw hK hc i pins s σ H E I hf st hg
  subst hP hw hK
  obtain ⟨xs,x,hq,hx⟩:=hg
  obtain ⟨its,rv,p,hz⟩:=I.list hq
  obtain ⟨u,hu,ru⟩:=rv.get hx
  have fe:=hf e (by simp)
  have fi:=hf it (by simp)
  obtain ⟨⟨old,he⟩,hit⟩:=st
  have le:e < s.heap.objs.size:=Heap.lt_size he
  have li:it < s.heap.objs.size:=by obtain ⟨o,q,_⟩:=hit; exact Heap.lt_size q
  refine wpAny_pyNext_enum_item he hit p.isList (x:=u) (by simpa using hu) hne fun h1 he1 hit1 ht1 hz1 hk1=>?_
  refine ⟨_,rfl,wpAny_letOwnedTupleGo_enum he1 fun h2 he2 hs2=>?_⟩
  have hn:=I.hok.fresh (Nat.le_refl s.heap.objs.size)
  have ht2:h2.get? s.heap.objs.size=some { cls:=.type "tuple",data:=.seq #[.int i s.toks,u] }:=(hs2.2 _ (Nat.ne_of_gt le)).trans ht1
  have new:ObjOk X.prog X.w (L2.upd H s.heap.objs.size (.tup [.int i,x])) h2 s.heap.objs.size (.tup [.int i,x]) :=
   ⟨by rw [sizeLine_eq]; simp,[.int i s.toks,u],.cons ⟨_,rfl⟩ (.cons ru .nil),_,ht2,rfl,_,rfl⟩
  have I2:=AP0 (t':=s.toks+1) I (fun b o hbe hbi q=>hs2.extBut b o hbe (hk1 b o hbe hbi q)) fe fi (Nat.le_refl _) new
  refine ⟨.ref s.heap.objs.size,_,I2,rfl,⟨_,x,rfl,hn,rfl,fun ys hy=>by rw [I.list_inj hy hq]; exact hx⟩,⟨⟨u,?_⟩,?_⟩,fun b hb=>?_⟩
  ·have:((i+1:Nat):Int)=(i:Int)+1:=by push_cast; rfl
   rw [this]; exact he2
  ·exact hit1.extBut hs2.extBut (Ne.symm hne)
  ·rcases List.mem_cons.mp hb with z | z
   ·rw [z,aO (Nat.ne_of_lt le)]; exact fe.1
   ·rw [List.mem_singleton.mp z,aO (Nat.ne_of_lt li)]; exact fi.1
 done:=by
  intro X hP hw hK hc i pins s σ H E I hf st hg
  subst hP hw hK
  obtain ⟨xs,hq,hx⟩:=hg
  obtain ⟨its,rv,p,hz⟩:=I.list hq
  obtain ⟨f0,f1,f2,f3,f4,f5⟩:=hf it (by simp)
  have hl:=rv.length
  obtain ⟨⟨old,he⟩,hit⟩:=st
  exact wpAny_pyNext_enum_end (I.ok.hd hc) he hit p.isList (by simp; omega) fun h' eb=>⟨rfl,I.turned (t':=s.toks) (fun b o hb e=>eb b o hb e) f0 f1 f3 f4 f5⟩
 self:=fun _ _ _ _ _ st h=>by
  obtain ⟨⟨old,he⟩,_⟩:=st
  exact wpAny_pyIter_enum he h
def AY7 (K:Frag)(ta:TA):TI:=fun σ H R=>ta σ H fun vs H1=>∃ a,vs=[.ref a]/\(∃ xs,SqL K H1 a xs)/\R (Ite K a) H1
theorem AH6 {elts:List Expr}{x1:Nat}{tp:Pos}{l:Expr}{tl:TA}{p pos:Pos}(hg:Gl X "enumerate")(hm:X.mg "enumerate"=none)(hl:PA X [l] tl)(hs:starEach [l] X.env=[(false,eval l X.env)]:=by rfl) :
  PI X (.Tuple elts x1 tp) (.Call (.Name "enumerate" p) [l] [] pos) (AY7 X.K tl):=by
 intro pins s σ H R I h
 refine Call_ (sF I hg hm PyProof.Rows.boot_enumerate (PyProof.Rows.callWith_type1 (thn (hl pos pins s σ H _ I h) fun us s1 ⟨vs,H1,I1,r1,a,ev,⟨xs,hq⟩,q⟩=>?_) hs rfl))
 subst ev
 obtain ⟨u,rfl,rx⟩:=kC r1
 cases rx
 obtain ⟨its,rv,pl,hz⟩:=I1.list hq
 refine call_enumerate_list pl.isList fun h' he hit hsz hk=>?_
 have I2:L2.Inv X pins σ H1 { s1 with heap:=h' }:=I1.kept (t':=s1.toks) hk
 refine wpAny_pyIter_enum he ⟨s1.heap.objs.size+1,[s1.heap.objs.size+1,s1.heap.objs.size],_,_,H1,rfl,I2,AH5 a s1.heap.objs.size (s1.heap.objs.size+1) (Nat.succ_ne_self _),⟨⟨_,he⟩,hit⟩,fun b hb=>?_,q⟩
 rcases List.mem_cons.mp hb with z | z
 ·subst z; exact I1.fpOk (Nat.le_succ _) (I1.hok.fresh (Nat.le_succ _))
 ·rw [List.mem_singleton.mp z]; exact I1.fpOk (Nat.le_refl _) (I1.hok.fresh (Nat.le_refl _))
end
def Rise (xs:Array Nat):Prop:=∀ (i k a b:Nat),i < k->xs[i]?=some a->xs[k]?=some b->a < b
theorem xF {xs:Array Nat}(h:xs.toList.Pairwise (· < ·)):Rise xs:=fun i k a b hik ha hb=>by
 rw [<- Array.getElem?_toList] at ha hb
 obtain ⟨hi,rfl⟩:=List.getElem?_eq_some_iff.mp ha
 obtain ⟨hk,rfl⟩:=List.getElem?_eq_some_iff.mp hb
 exact List.pairwise_iff_getElem.mp h i k hi hk hik
theorem Rise.list {xs:Array Nat}(h:Rise xs):xs.toList.Pairwise (· < ·):=List.pairwise_iff_getElem.mpr fun i k hi hk hik =>
 h i k _ _ hik (by rw [<- Array.getElem?_toList]; exact List.getElem?_eq_getElem hi) (by rw [<- Array.getElem?_toList]; exact List.getElem?_eq_getElem hk)
theorem tP (xs:Array Nat)(j:Nat)(R:Rise xs):∀ (fuel lo hi:Nat),hi - lo<=fuel->lo<=hi->hi<=xs.size->(∀ i y,i < lo->xs[i]?=some y->y < j)->(∀ i y,hi<=i->xs[i]?=some y->j<=y) ->
  SetTable.below.go xs j fuel lo hi<=xs.size/\(∀ i y,i < SetTable.below.go xs j fuel lo hi->xs[i]?=some y->y < j)/\∀ i y,SetTable.below.go xs j fuel lo hi<=i->xs[i]?=some y->j<=y
 | 0,lo,hi,hf,hlh,hhs,h1,h2=>by
  have e:lo=hi:=by omega
  subst e
  exact ⟨hhs,h1,h2⟩
 | fuel+1,lo,hi,hf,hlh,hhs,h1,h2=>by
  unfold SetTable.below.go
  by_cases h:lo < hi
  ·rw [if_pos h]
   dsimp only
   have hm:(lo+hi) / 2 < xs.size:=by omega
   have em:xs[(lo+hi) / 2]?=some xs[(lo+hi) / 2]:=Array.getElem?_eq_getElem hm
   have eg:xs.getD ((lo+hi) / 2) j=xs[(lo+hi) / 2]:=by simp [Array.getD,hm]
   rw [eg]
   by_cases hl:xs[(lo+hi) / 2] < j
   ·rw [if_pos hl]
    refine tP xs j R fuel _ _ (by omega) (by omega) hhs (fun i y hi' e=>?_) h2
    by_cases hi2:i=(lo+hi) / 2
    ·subst hi2; rw [em] at e; cases e; exact hl
    ·exact Nat.lt_trans (R i _ _ _ (by omega) e em) hl
   ·rw [if_neg hl]
    refine tP xs j R fuel _ _ (by omega) (by omega) (by omega) h1 (fun i y hi' e=>?_)
    by_cases hi2:i=(lo+hi) / 2
    ·subst hi2; rw [em] at e; cases e; omega
    ·have:=R _ i _ _ (by omega) em e
     omega
  ·rw [if_neg h]
   have e:lo=hi:=by omega
   subst e
   exact ⟨hhs,h1,h2⟩
theorem zF {xs:Array Nat}(R:Rise xs)(j:Nat):SetTable.below xs j<=xs.size/\(∀ i y,i < SetTable.below xs j->xs[i]?=some y->y < j)/\∀ i y,SetTable.below xs j<=i->xs[i]?=some y->j<=y :=
 tP xs j R _ _ _ (by omega) (Nat.zero_le _) (Nat.le_refl _) (fun i y h=>absurd h (Nat.not_lt_zero _)) (fun i y h e=>by rw [Array.getElem?_eq_none h] at e; cases e)
theorem AP1 {xs:Array Nat}(R:Rise xs){j:Nat}(hn:xs[SetTable.below xs j]?≠some j):Rise (SetTable.insertAt xs (SetTable.below xs j) j):=by
 obtain ⟨hb,h1,h2⟩:=zF R j
 refine xF ?_
 rw [SetTable.toList_insertAt]
 have P:=R.list
 have Pt:=P.sublist (List.take_sublist (SetTable.below xs j) _)
 have Pd:=P.sublist (List.drop_sublist (SetTable.below xs j) _)
 have lt1:∀ y∈xs.toList.take (SetTable.below xs j),y < j:=fun y hy=>by
  obtain ⟨i,hi⟩:=List.getElem?_of_mem hy
  rw [List.getElem?_take] at hi
  split at hi
  ·exact h1 i y (by assumption) (by rw [<- Array.getElem?_toList]; exact hi)
  ·cases hi
 have lt2:∀ y∈xs.toList.drop (SetTable.below xs j),j < y:=fun y hy=>by
  obtain ⟨i,hi⟩:=List.getElem?_of_mem hy
  rw [List.getElem?_drop,Array.getElem?_toList] at hi
  have le:=h2 _ y (Nat.le_add_right _ i) hi
  rcases Nat.lt_or_eq_of_le le with h | h
  ·exact h
  ·subst h
   exfalso
   cases i with
   | zero=>exact hn hi
   | succ i =>
    have hz:xs[SetTable.below xs j]?=some (xs.getD (SetTable.below xs j) 0):=by
     have hs:=(Array.getElem?_eq_some_iff.mp hi).1
     have hs':SetTable.below xs j < xs.size:=by omega
     rw [Array.getElem?_eq_getElem hs']; simp [Array.getD,hs']
    have a1:=R _ _ _ _ (by omega) hz hi
    have a2:=h2 _ _ (Nat.le_refl _) hz
    omega
 refine List.pairwise_append.mpr ⟨Pt,List.pairwise_cons.mpr ⟨lt2,Pd⟩,fun a ha b hb=>?_⟩
 rcases List.mem_cons.mp hb with rfl | hb
 ·exact lt1 a ha
 ·exact Nat.lt_trans (lt1 a ha) (lt2 b hb)
theorem AP2 {t:SetTable}{j:Nat}(h:∀ i,t.slot j≠.live i):t.place[SetTable.below t.place j]?≠some j:=fun e=>by
 refine h (SetTable.below t.place j) ?_
 unfold SetTable.slot
 simp [e]
theorem tQ (t:SetTable)(f:Nat->Int)(h:Int):∀ (fuel:Nat) (p:SetTable.Probe) (j:Nat) (d:Option Nat),SetTable.probe.go t f h fuel p=some (.empty j d)->t.slot j=.empty/\∀ x,d=some x->p.dummy=some x\/t.slot x=.dummy
 | 0,p,j,d,e=>by unfold SetTable.probe.go at e; cases e
 | fuel+1,p,j,d,e=>by
  unfold SetTable.probe.go at e
  have adv:∀ q:SetTable.Probe,(t.advance q).dummy=q.dummy:=fun q=>by unfold SetTable.advance; split <;> rfl
  cases hs:t.slot p.j with
  | empty =>
   rw [hs] at e
   simp only [Option.some.injEq,SetTable.Met.empty.injEq] at e
   obtain ⟨rfl,rfl⟩:=e
   exact ⟨hs,fun x z=>.inl z⟩
  | dummy =>
   rw [hs] at e
   obtain ⟨a,b⟩:=tQ t f h fuel _ j d e
   refine ⟨a,fun x z=>?_⟩
   rcases b x z with b | b
   ·rw [adv] at b
    simp only [Option.some.injEq] at b
    subst b
    exact .inr hs
   ·exact .inr b
  | live i =>
   rw [hs] at e
   dsimp only at e
   split at e
   ·cases e
   ·obtain ⟨a,b⟩:=tQ t f h fuel _ j d e
    exact ⟨a,fun x z=>(b x z).imp (fun q=>by rw [adv] at q; exact q) id⟩
theorem AP3 {t:SetTable}{h:Int}{j:Nat}{b:Bool}(e:t.freeSlot h=some (j,b)):t.place[SetTable.below t.place j]?≠some j:=by
 unfold SetTable.freeSlot SetTable.probe at e
 split at e
 ·rename_i j' d hp
  obtain ⟨h1,h2⟩:=tQ _ _ _ _ _ _ _ hp
  simp only [Option.some.injEq,Prod.mk.injEq] at e
  obtain ⟨e,_⟩:=e
  refine AP2 fun i z=>?_
  cases d with
  | none =>
   have:j'=j:=e
   rw [<- this,h1] at z; cases z
  | some x =>
   have:x=j:=e
   rcases h2 x rfl with q | q
   ·unfold SetTable.probeStart at q; cases q
   ·rw [<- this,q] at z; cases z
 ·cases e
theorem AA2 (n:Nat):Rise (Array.range n):=xF (by rw [Array.toList_range]; exact List.pairwise_lt_range)
def Lay (b:Bool)(t:SetTable):Prop:=t.led=b/\Rise t.place
theorem Lay.standIn {b:Bool}{t:SetTable}(h:Lay b t)(n:Nat):Lay b (t.standIn n):=⟨h.1,AA2 n⟩
theorem Lay.off {b:Bool}{t:SetTable}(h:Lay b t):Lay b { t with plain:=false }:=h
theorem Lay.or {b:Bool}{t:SetTable}(h:Lay b t)(n:Nat):Lay b (t.orStandIn n):=by
 unfold SetTable.orStandIn
 split
 ·exact h
 ·exact h.standIn _
theorem AY8 {b:Bool}{t:SetTable}(L:Lay b t)(es:Array (Int × Value))(h:Int)(x:Value):Lay b (layNew t es h x).2.1:=by
 unfold layNew
 split
 ·rename_i slot wd hf
  dsimp only [SetTable.put]
  have Lp:Lay b ⟨t.mask,SetTable.insertAt t.place (SetTable.below t.place slot) slot,if SetTable.has t.dummies slot=true then SetTable.eraseAt t.dummies (SetTable.below t.dummies slot) else t.dummies,t.finger,t.led,t.moves,t.plain⟩:=⟨L.1,AP1 L.2 (AP3 hf)⟩
  exact Lp.or _
 ·exact L.standIn _
theorem AY9 {b:Bool}{t:SetTable}(L:Lay b t)(es:Array (Int × Value))(n:Nat):Lay b (relayAll t es n).2.1:=by
 unfold relayAll
 split
 ·rename_i t' order hr
  dsimp only
  split
  ·show Lay b t'
   unfold SetTable.relaid SetTable.laid at hr
   cases ho:SetTable.layClean (SetTable.sizeAbove n - 1) (es.map (·.1)) with
   | none=>rw [ho] at hr; cases hr
   | some owner =>
    rw [ho] at hr
    simp only [Option.pure_def,Option.bind_eq_bind,Option.bind_some,Option.some.injEq,Prod.mk.injEq] at hr
    obtain ⟨rfl,_⟩:=hr
    refine ⟨L.1,xF ?_⟩
    dsimp only
    rw [List.map_filterMap]
    have sub:∀ l:List Nat,(List.filterMap (fun x=>Option.map (·.1) (Option.map (fun y=>(x,y)) (owner.getD x none))) l).Sublist l:=fun l=>by
     induction l with
     | nil=>exact .slnil
     | cons a l ih =>
      cases hg:owner.getD a none with
      | none=>rw [List.filterMap_cons_none (by rw [hg]; rfl)]; exact ih.cons _
      | some y=>rw [List.filterMap_cons_some (by rw [hg]; rfl)]; exact ih.cons₂ _
    exact (List.pairwise_lt_range).sublist (sub _)
  ·exact L.standIn _
 ·exact L.standIn _
def xG (w:World):Bool:=!w.params.followText "set-order"
def SetR (P:Program)(w:World)(h:Heap)(a:Addr)(M:Int->Prop)(n:Nat):Prop :=
 ∃ o es ep t,h.get? a=some o/\o.ExactSet/\o.data=.set es ep t/\ElemsOf (intKind P w) es.toList/\(∀ e∈es.toList,∃ i tk,e.2=.int i tk/\M i)/\es.size<=n/\es.size < scanBound/\t.fits es.size=true/\Lay (xG w) t
theorem SetR.at {P:Program}{w:World}{h h':Heap}{a:Addr}{M:Int->Prop}{n:Nat}(z:SetR P w h a M n)(k:∀ o,h.get? a=some o->h'.get? a=some o):SetR P w h' a M n:=by
 obtain ⟨o,es,ep,t,ho,r⟩:=z
 exact ⟨o,es,ep,t,k o ho,r⟩
section
variable {prog:Program}{w:World}{A:Around}{E:Value->Shared->Prop}{s:Shared}
theorem sQ {h:Heap}{a:Addr}{o:Obj}{es:Array (Int × Value)}{ep:Nat}{t:SetTable}(ho:h.get? a=some o)(hex:o.ExactSet)(hd:o.data=.set es ep t){es':Array (Int × Value)}{t':SetTable}{M:Int->Prop}{n:Nat}(hel:ElemsOf (intKind prog w) es'.toList)(hm:∀ e∈es'.toList,∃ i tk,e.2=.int i tk/\M i)(hn:es'.size<=n)(hb:es'.size < scanBound)(hf:t'.fits es'.size=true)(L:Lay (xG w) t') :
  (h.update a (Obj.putSet es' t')).get? a=some { o with data:=.set es' (ep+1) t' }/\SetR prog w (h.update a (Obj.putSet es' t')) a M n:=by
 have hg:(h.update a (Obj.putSet es' t')).get? a=some { o with data:=.set es' (ep+1) t' }:=by
  have:=Heap.get?_update_self (Obj.putSet es' t') ho (by rw [putSet_of es' t' hd]; rfl)
  rw [putSet_of es' t' hd] at this; exact this
 exact ⟨hg,_,es',ep+1,t',hg,hex,rfl,hel,hm,hn,hb,hf,L⟩
theorem zG {g:Bool->Sem Unit}(hg:∀ (b:Bool) (s₁:Shared) (Q':Unit->Shared->Prop),Q' () s₁->wpAny (model prog w) A (g b) Q' E s₁){a:Addr}{o:Obj}{es:Array (Int × Value)}{ep:Nat}{t:SetTable}(ho:s.heap.get? a=some o)(hex:o.ExactSet)(hd:o.data=.set es ep t){es1:Array (Int × Value)}{t2:SetTable}{M:Int->Prop}{n:Nat}(hel1:ElemsOf (intKind prog w) es1.toList)(hm1:∀ e∈es1.toList,∃ i tk,e.2=.int i tk/\M i)(hn1:es1.size<=n)(hb1:es1.size < scanBound)(hf2:t2.fits es1.size=true)(L2:Lay (xG w) t2){wasDummy:Bool}{R:Option Bool->Shared->Prop}(h:∀ h',Heap.SameBut a s.heap h'->SetR prog w h' a M n->R (some true) { s with heap:=h' }) :
  wpAny (model prog w) A (do
    storeSet a es1 t2
    if (!wasDummy && t2.tooFull)=true then do
      g (relayAll t2 es1 (SetTable.grown es1.size)).2.2
      storeSet a (relayAll t2 es1 (SetTable.grown es1.size)).1 (relayAll t2 es1 (SetTable.grown es1.size)).2.1
      pure (some true)
     else pure (some true)) R E s:=by
 refine wpAny_bind (wpAny_storeSet_of ho hd ?_ (fits_of_scanBound hb1))
 obtain ⟨ho1,hS1⟩:=sQ (prog:=prog) (w:=w) ho hex hd hel1 hm1 hn1 hb1 hf2 L2
 have hsb1:=Heap.SameBut.update s.heap a (Obj.putSet es1 t2)
 split
 ·have hp:=relayAll_perm t2 es1 (SetTable.grown es1.size)
  have hfr:=relayAll_fits t2 es1 (SetTable.grown es1.size)
  have hlr:=AY9 L2 es1 (SetTable.grown es1.size)
  generalize hRl:relayAll t2 es1 (SetTable.grown es1.size)=Rl at hp hfr hlr ⊢
  obtain ⟨es2,t3,gave2⟩:=Rl
  dsimp only at hp hfr hlr ⊢
  have hel2:ElemsOf (intKind prog w) es2.toList:=hel1.perm hp
  have hm2:∀ e∈es2.toList,∃ i tk,e.2=.int i tk/\M i:=fun e he=>hm1 e (hp.mem_iff.mp he)
  have hsz:es2.size=es1.size:=by rw [<- Array.length_toList,hp.length_eq,Array.length_toList]
  have hb2:es2.size < scanBound:=by rw [hsz]; exact hb1
  refine wpAny_bind (hg _ _ _ ?_)
  refine wpAny_bind (wpAny_storeSet_of ho1 rfl ?_ (fits_of_scanBound hb2))
  obtain ⟨_,hS2⟩:=sQ (prog:=prog) (w:=w) ho1 hex rfl hel2 hm2 (by rw [hsz]; exact hn1) hb2 hfr hlr
  exact wpAny_pure (h _ (hsb1.trans (Heap.SameBut.update _ a _)) hS2)
 ·exact wpAny_pure (h _ hsb1 hS1)
theorem AP4 {a:Addr}{M:Int->Prop}{n:Nat}{k:Int}{tk:Tok}{Q:Bool->Shared->Prop}(hS:SetR prog w s.heap a M n)(hk:M k)(hroom:n+1 < scanBound)(h:∀ b h',Heap.SameBut a s.heap h'->SetR prog w h' a M (n+1)->Q b { s with heap:=h' }):wpAny (model prog w) A (setAddHashed a (.int k tk) ((intKind prog w).hash k)) Q E s:=by
 obtain ⟨o,es,ep,t,ho,hex,hd,hel,hm,hn,hb,hf,L⟩:=hS
 have hkey:(intKind prog w).is k (.int k tk)=true:=intKind_is _ _ _ _
 have hsc:(Value.int k tk).scannable=true:=rfl
 have hb1:es.size+1 < scanBound:=by omega
 unfold setAddHashed setAddHashedIn
 refine wpAny_holding (wpAny_bind (wpAny_setState_of ho hd hf ?_))
 dsimp only
 rw [byScan_of hsc hb hel]
 simp only [↓reduceIte]
 unfold setAddByScan
 refine wpAny_bind ?_
 refine wpAny_bind (wpAny_rule ?_)
 refine wpAny_bind (wpAny_setScan_of hkey ho hd hf hel ?_)
 cases hr:List.findIdx? (fun e=>(intKind prog w).is k e.2) es.toList with
 | some j =>
  dsimp only
  refine wpAny_pure (wpAny_pure ?_)
  have e:s={ s with heap:=s.heap }:=by cases s; rfl
  rw [e]
  exact h _ s.heap (Heap.SameBut.refl a s.heap) ⟨o,es,ep,t,ho,hex,hd,hel,hm,by omega,hb,hf,L⟩
 | none =>
  dsimp only
  have hgw:∀ (b:Bool) {s₁:Shared}{Q':Unit->Shared->Prop},Q' () s₁->wpAny (model prog w) A (match b with | true=>rule "set.scan.the-table-gave-way" | false=>pure ()) Q' E s₁ :=
   fun b s₁ Q' hq=>by cases b <;> first | exact wpAny_pure hq | exact wpAny_rule hq
  have hperm:=layNew_perm t es ((intKind prog w).hash k) (.int k tk)
  have hfits:=layNew_fits t es ((intKind prog w).hash k) (.int k tk)
  have hlay:=AY8 L es ((intKind prog w).hash k) (.int k tk)
  generalize hL:layNew t es ((intKind prog w).hash k) (.int k tk)=Ln at hperm hfits hlay ⊢
  obtain ⟨es1,t1,wasDummy,gave⟩:=Ln
  dsimp only at hperm hfits hlay ⊢
  rw [Array.toList_push] at hperm
  have hel1:ElemsOf (intKind prog w) es1.toList:=(hel.push hkey hsc).perm hperm
  have hm1:∀ e∈es1.toList,∃ i tk,e.2=.int i tk/\M i:=fun e he=>by
   rcases List.mem_append.mp (hperm.mem_iff.mp he) with he | he
   ·exact hm e he
   ·rw [List.mem_singleton] at he; subst he; exact ⟨k,tk,rfl,hk⟩
  have hsz1:es1.size=es.size+1:=by rw [<- Array.length_toList,hperm.length_eq,List.length_append,Array.length_toList]; rfl
  have hb1':es1.size < scanBound:=by omega
  refine wpAny_bind (hgw _ ?_)
  split
  ·refine wpAny_bind ?_
   rw [hashByValue_scannable 8 hsc]
   refine wpAny_pure ?_
   refine zG (n:=n+1) ?_ ho hex hd hel1 hm1 (by omega) hb1' ?_ ?_ ?_
   ·intro b s₁ Q' hq; cases b <;> first | exact wpAny_pure hq | exact wpAny_rule hq
   ·split
    ·exact hfits
    ·exact SetTable.fits_plain_off hfits
   ·split
    ·exact hlay
    ·exact hlay.off
   ·intro h' hsb hS'; dsimp only; exact wpAny_pure (h _ h' hsb hS')
  ·refine wpAny_bind (wpAny_pure ?_)
   simp only [↓reduceIte]
   refine zG (n:=n+1) ?_ ho hex hd hel1 hm1 (by omega) hb1' hfits hlay ?_
   ·intro b s₁ Q' hq; cases b <;> first | exact wpAny_pure hq | exact wpAny_rule hq
   ·intro h' hsb hS'; dsimp only; exact wpAny_pure (h _ h' hsb hS')
end
section
variable {prog:Program}{w:World}{A:Around}{R:Result->Shared->Prop}{I:Addr}{fp wr:List Addr}{G:Array GenState->Array GenState->Prop}{P:Nat->Value->Prop}{St:Nat->Shared->Prop}
theorem AP5 {l:List Int}{M:Int->Prop}(hM:∀ x∈l,M x)(W:WalksS prog w A.in1 I fp wr G l.length P St)(S:Addr)(hS0:S ∉ fp)(hv:∀ i v,P i v->∃ t,v=.int (l.getD i 0) t)(hb:l.length+1 < scanBound):∀ (k i:Nat) (s:Shared) (q:∀ s',Moved (S::wr) G s s'->SetR prog w s'.heap S M l.length->R (.ok (.ret .none)) s'),
   l.length - i=k->i<=l.length->St i s->SetR prog w s.heap S M i ->
   codeAny (model prog w) A (.builtin "set.update.loop" ⟨[.ref S,.ref I],[]⟩) R s:=by
 have nw:S ∉ wr:=fun h=>hS0 (W.sub _ h)
 have up:∀ b∈wr,b∈S::wr:=fun b hb=>List.mem_cons_of_mem _ hb
 have move:∀ {s s':Shared}{n:Nat},Moved wr G s s'->SetR prog w s.heap S M n->SetR prog w s'.heap S M n:=fun hm z=>z.at fun o e=>hm.heap S _ nw e
 intro k
 induction k with
 | zero =>
  intro i s q hk hi hst z
  have e:i=l.length:=by omega
  subst e
  refine codeAny_builtin PyProof.Rows.F.entry_set_update_loop ?_
  rw [Around.under_plainId PyProof.Rows.F.plain_set_update_loop _]; show wpAny _ A.in1 (pyNext (.ref I) >>= _) _ _ s
  refine wpAny_bind (W.done s _ _ hst fun s' hm=>?_)
  show wpAny _ A.in1 (ret Value.none) _ _ s'; exact wpAny_pure (q s' (hm.mono up) (move hm z))
 | succ k ih =>
  intro i s q hk hi hst z
  have lt:i < l.length:=by omega
  refine codeAny_builtin PyProof.Rows.F.entry_set_update_loop ?_
  rw [Around.under_plainId PyProof.Rows.F.plain_set_update_loop _]; show wpAny _ A.in1 (pyNext (.ref I) >>= _) _ _ s
  refine wpAny_bind (W.item i s _ _ lt hst fun v s' hP hst' hm=>?_)
  obtain ⟨t,rfl⟩:=hv i v hP
  have z':=move hm z
  show wpAny _ A.in1 (holding [Value.int (l.getD i 0) t] (setAdd S (.int (l.getD i 0) t)) >>= _) _ _ s'
  refine wpAny_bind (wpAny_holding ?_); unfold setAdd
  refine wpAny_holding (wpAny_bind ((intKind prog w).pyHash (k:=l.getD i 0) (intKind_is _ _ _ _) ?_))
  have mi:M (l.getD i 0):=hM _ (by rw [List.getD_eq_getElem?_getD,List.getElem?_eq_getElem lt]; exact List.getElem_mem lt)
  refine AP4 (s:={ s' with toks:=s'.toks+1 }) z' mi (by omega) fun b h' sb z3=>?_
  refine wpAny_pure ⟨plainId_quiet PyProof.Rows.F.plain_set_update_loop _,ih (i+1) _ (fun s'' hm'' z4=>?_) (by omega) lt (W.frame _ s' _ _ hst' (Nat.le_succ _) fun b hb o e=>?_) z3⟩
  ·refine q s'' (Moved.trans W.gtrans ((hm.mono up).then_heap (Nat.le_succ _) fun b o hb e=>?_) hm'') z4
   rw [sb.2 b (fun h:b=S=>hb (by rw [h]; exact List.mem_cons_self))]; exact e
  ·rw [sb.2 b (fun h:b=S=>hS0 (by rw [<- h]; exact hb))]; exact e
end
theorem BO9 {its:List Value}{l:List Int}(h:Vals (l.map V.int) its)(i:Nat)(v:Value)(e:its[i]?=some v):∃ t,v=.int (l.getD i 0) t:=by
 induction l generalizing its i with
 | nil=>cases h; simp at e
 | cons x l ih =>
  cases h with
  | cons r1 r2 =>
   cases i with
   | zero =>
    obtain ⟨t,rfl⟩:=r1
    have:v=.int x t:=by simpa using e.symm
    exact ⟨t,by rw [this]; rfl⟩
   | succ i=>exact ih r2 i (by simpa using e)
section
variable {prog:Program}{w:World}{A:Around}{E:Value->Shared->Prop}{s:Shared}
theorem AP6 (a:Value){Q₁:Value->Shared->Prop}(h:Q₁ (.ref s.heap.objs.size) { s with heap:=s.heap.push (bU (xG w)) }) :
  codeAny (model prog w) A (.call (.builtin "set.__new__") ⟨[.type "set",a],[]⟩) (wants Q₁ E) s:=by
 refine codeAny_of_tree ?_
 show wpAny _ A.in1 (do checkBuiltinCall "set.__new__" ⟨[.type "set",a],[]⟩; again (.builtin "set.__new__" ⟨[.type "set",a],[]⟩)) _ _ s
 refine wpAny_bind (wpAny_of_eq (PySem.F.newCall_set_1 a) (wpAny_pure ⟨plainId_quiet PySem.F.plain_set_new _,codeAny_builtin PySem.F.entry_set_new ?_⟩))
 rw [Around.under_plainId PySem.F.plain_set_new _]
 unfold Builtin.«set.__new__» Builtin.Frozenset.newClass
 have hsub:=sub_set_self
 obtain ⟨hp,g,d,tk,os⟩:=s
 dsimp only
 wp_walk
 refine wpAny_askSetting (wpAny_pure ?_)
 dsimp only
 simp only [newObj]
 refine wpAny_bind (wpAny_alloc (wpAny_pure ?_))
 exact wpAny_pure h
end
section
variable {prog:Program}{w:World}{A:Around}{E:Value->Shared->Prop}{s:Shared}
set_option maxHeartbeats 4000000 in
theorem AP7 {a:Addr}{its:List Value}{l:List Int}{M:Int->Prop}{Q:Value->Shared->Prop}(hM:∀ x∈l,M x)(hh:A.handled=none)(hl:s.heap.IsList a its.toArray)(hv:Vals (l.map V.int) its)(hb:l.length+1 < scanBound)(q:∀ (h':Heap) (tk:Nat),SetR prog w h' s.heap.objs.size M l.length->(∀ b o,s.heap.get? b=some o->h'.get? b=some o)->Q (.ref s.heap.objs.size) { s with heap:=h',toks:=tk }) :
  wpAny (model prog w) A (call (.type "set") [.ref a]) Q E s:=by
 have hn:its.toArray.size=l.length:=by have:=hv.length; rw [List.length_map] at this; simpa using this.symm
 obtain ⟨c,tl,hmro⟩:=PySem.F.called_set.mro
 have hmade:=PySem.F.called_set.made; have hsub:=PySem.F.called_set.sub
 refine wpAny_call (codeAny_of_tree ?_); show wpAny _ _ (callAny (.type "set") _) _ _ _
 refine wpAny_pure ⟨Code.quiet_builtin _ (by decide +kernel),codeAny_builtin PySem.F.entry_type_call ?_⟩
 rw [Around.under_plain (weight_type_call_type "set" [.ref a] []) rfl]
 have h1:=PySem.F.called_set.notType; have h2:=PySem.F.called_set.canCreate
 have hct:=PySem.F.typeCall_set_1 (.ref a)
 repeat (any_goals (first | assumption | wp_step))
 refine codeAny_mono (AP6 (.ref a) (E:=E) (Q₁:=fun obj s₁=>∃ led:Bool,led=xG w/\obj=.ref s.heap.objs.size/\s₁={ s with heap:=s.heap.push (bU led) }) ⟨_,rfl,rfl,rfl⟩) fun r s₁ hr=>?_
 match r,hr with
 | .error e,hr=>exact hr
 | .ok (.ret obj),hr =>
  obtain ⟨led,hled,rfl,rfl⟩:=hr
  have hS:(s.heap.push (bU led)).get? s.heap.objs.size=some (bU led):=Heap.get?_push_size _ rfl
  have hT:Shared.TypeIs { s with heap:=s.heap.push (bU led) } (.ref s.heap.objs.size) "set":=⟨_,hS,rfl⟩
  have hli:=PySem.F.called_set.init.lookup; have hbi:=PySem.F.called_set.init.bind (.ref s.heap.objs.size)
  repeat (any_goals (first | assumption | wp_step))
  refine codeAny_mono (codeAny_call_builtin (R:=wants (fun r s₂=>r=.none/\∃ h' tk,s₂={ s with heap:=h',toks:=tk }/\SetR prog w h' s.heap.objs.size M l.length /\
    (∀ b o,s.heap.get? b=some o->h'.get? b=some o)) E) PySem.F.called_set.init.plain PySem.F.entry_set_init (PySem.check_set_init_1 hT ?_)) fun r₂ s₂ hr₂=>?_
  ·obtain ⟨⟨oc,od,odt,osl⟩,hol,hcl,nl,hdl⟩:=hl
   simp only at hcl hdl; subst hcl; subst hdl
   have hol':(s.heap.push (bU led)).get? a=some { cls:=.type "list",dict:=od,data:=.seq its.toArray nl,slots:=osl }:=Heap.get?_push_of_some _ hol
   have n1:=PySem.F.sub_list_set; have n2:=PySem.F.sub_list_frozenset
   have n3:(Value.type "list" == Value.type "dict")=false:=by decide
   have hl1:(s.heap.push (bU led)).IsList a its.toArray:=⟨_,hol',rfl,nl,rfl⟩
   unfold Builtin.«set.__init__» noKeywords Builtin.Frozenset.updateFrom
   generalize hPI:pyIter=PI
   wp_walk
   subst hPI
   refine wpAny_pyIter_list hl1 (wpAny_bind (wpAny_runValue ?_))
   have lt:a < s.heap.objs.size:=Heap.lt_size hol
   have hh3:A.in1.in1.in1.handled=none:=by simp [hh]
   have ne1:a≠(s.heap.push (bU led)).objs.size:=by rw [Heap.size_push]; exact Nat.ne_of_lt (Nat.lt_succ_of_lt lt)
   have ne2:s.heap.objs.size ∉ [(s.heap.push (bU led)).objs.size,a]:=by
    rw [Heap.size_push]; intro z
    rcases List.mem_cons.mp z with z | z
    ·exact absurd z (Nat.ne_of_lt (Nat.lt_succ_self _))
    ·exact absurd (List.mem_singleton.mp z) (Nat.ne_of_gt lt)
   have W:=(Walks.list (prog:=prog) (w:=w) hh3 _ a ne1 its.toArray).toS
   rw [hn] at W
   refine AP5 hM W s.heap.objs.size ne2 (fun i v hv'=>BO9 hv i v (by simpa using hv')) hb (l.length - 0) 0 _ (fun s' hm z=>?_) (by omega) (Nat.zero_le _) ⟨⟨_,Heap.get?_push_size _ rfl,rfl,rfl⟩,hl1.push _⟩ ?_
   ·obtain ⟨h',g',d',tk',os'⟩:=s'
    have eg:g'=s.gens:=hm.gens
    have ed:d'=s.drawn:=hm.drawn
    have eo:os'=s.os:=hm.os
    subst eg; subst ed; subst eo
    show wpAny _ _ _ _ _ _
    refine wpAny_pure ?_
    show wpAny _ _ (ret Value.none) _ _ _
    refine wpAny_pure ⟨rfl,h',tk',rfl,z,fun b o e=>?_⟩
    have bl:=Heap.lt_size e
    refine hm.heap b o (fun y=>?_) (Heap.get?_push_of_some _ (Heap.get?_push_of_some _ e))
    rcases List.mem_cons.mp y with y | y
    ·exact absurd y (Nat.ne_of_lt bl)
    ·have:=List.mem_singleton.mp y; rw [Heap.size_push] at this; exact absurd this (Nat.ne_of_lt (Nat.lt_succ_of_lt bl))
   ·have hg:((s.heap.push (bU led)).push { cls:=.type "list_iterator",data:=.fields #[.ref a,.int 0 0] }).get? s.heap.objs.size=some (bU led):=Heap.get?_push_of_some _ hS
    exact ⟨_,#[],0,.fresh 0 0 led,hg,⟨rfl,rfl,rfl⟩,rfl,(fun e he=>nomatch he),(fun e he=>nomatch he),Nat.le_refl _,(by unfold scanBound; decide),rfl,hled,fun i k a b _ ha _=>nomatch ha⟩
  ·match r₂,hr₂ with
   | .error e,hr₂=>exact hr₂
   | .ok (.ret r),hr₂ =>
    obtain ⟨rfl,h',tk,rfl,z,kp⟩:=hr₂
    repeat (any_goals (first | assumption | wp_step))
    exact q _ _ z kp
end
theorem slot_si_next:Slot "set_iterator" "__next__" "set_iterator.__next__" :=
 .of (owner:="set_iterator") (n:="__next__") (by rw [typeLookup_type,builtinLookup_eq_fast]; kernel_rfl) (by decide +kernel) (by decide +kernel) (by decide +kernel)
  (by first | exact .inl (by decide +kernel) | exact .inr (by decide +kernel)) (by rw [isSubtype_type]; kernel_rfl)
theorem gI:entryFor table "set_iterator.__next__"=some Builtin.«set_iterator.__next__»:=entryFor_of_tree (by kernel_rfl)
theorem hZ (a:Value):argsOk "set_iterator.__next__" ⟨[a],[]⟩:=by unfold argsOk; kernel_rfl
theorem oQ:Slot "set_iterator" "__iter__" "set_iterator.__iter__" :=
 .of (owner:="set_iterator") (n:="__iter__") (by rw [typeLookup_type,builtinLookup_eq_fast]; kernel_rfl) (by decide +kernel) (by decide +kernel) (by decide +kernel)
  (by first | exact .inl (by decide +kernel) | exact .inr (by decide +kernel)) (by rw [isSubtype_type]; kernel_rfl)
theorem tR:entryFor table "set_iterator.__iter__"=some Builtin.«dict_keyiterator.__iter__» :=
 entryFor_alias (id':="dict_keyiterator.__iter__") (by kernel_rfl) rfl (by decide +kernel) (by kernel_rfl)
theorem vN (a:Value):argsOk "set_iterator.__iter__" ⟨[a],[]⟩:=by unfold argsOk; kernel_rfl
theorem rN:entryFor table "set.__iter__"=some Builtin.«frozenset.__iter__» :=
 entryFor_alias (id':="frozenset.__iter__") (by kernel_rfl) rfl (by decide +kernel) (by kernel_rfl)
abbrev AA3 (h:Heap)(it:Addr)(first:Value)(i:Int)(a:Value)(n ep:Int):Prop :=
 h.get? it=some { cls:=.type "set_iterator",dict:=none,data:=.fields #[first,rawInt i,a,rawInt n,rawInt ep],slots:=#[] }
section
variable {prog:Program}{w:World}{A:Around}{E:Value->Shared->Prop}{s:Shared}
theorem AH7 {it a:Addr}{f:Value}{i n ep:Int}{Q:Value->Shared->Prop}(h:AA3 s.heap it f i (.ref a) n ep)(q:Q (.ref it) s):wpAny (model prog w) A (pyIter (.ref it)) Q E s:=by
 have hT:s.TypeIs (.ref it) "set_iterator":=⟨_,h,rfl⟩
 refine wpAny_pyIter_slot hT oQ (wpAny_call_entry oQ hT tR ?_ (vN _))
 show wpAny _ _ (ret (.ref it)) _ _ s
 exact wpAny_pure ⟨_,rfl,"set_iterator",_,hT,slot_si_next.lookup,q⟩
theorem AH8 {src:Source}{n:Nat}{Q:Nat->Shared->Prop}(hn:n≠0)(h:∀ i d,i < n->Q i { s with drawn:=d }):wpAny (model prog w) A (choose src n) Q E s:=fun Γ p _=>by
 show Sem.wp _ Γ (Sem.choose src n _) _ _ p s
 rw [Sem.wp_choose]
 exact ⟨hn,h _ _ (Nat.mod_lt _ (Nat.pos_of_ne_zero hn))⟩
theorem oR {α:Type}:∀ (n:Nat) (xs:List α) (s:Shared) (Q:List α->Shared->Prop),(∀ ys d,(∀ y∈ys,y∈xs)->ys.length<=n->Q ys { s with drawn:=d })->wpAny (model prog w) A (drawOrder n xs) Q E s
 | 0,xs,s,Q,h=>by
  unfold drawOrder
  have e:s={ s with drawn:=s.drawn }:=by cases s; rfl
  refine wpAny_pure ?_
  rw [e]
  exact h [] _ (fun y hy=>nomatch hy) (Nat.le_refl _)
 | n+1,[],s,Q,h=>by
  unfold drawOrder
  have e:s={ s with drawn:=s.drawn }:=by cases s; rfl
  refine wpAny_pure ?_
  rw [e]
  exact h [] _ (fun y hy=>nomatch hy) (Nat.zero_le _)
 | n+1,x::xs,s,Q,h=>by
  unfold drawOrder
  refine wpAny_bind (AH8 (by simp) fun i d hi=>?_)
  rw [List.getElem?_eq_getElem hi]
  dsimp only
  refine wpAny_bind (oR n ((x::xs).eraseIdx i) _ _ fun ys d' hy hl=>wpAny_pure ?_)
  refine h _ d' (fun y hm=>?_) (by rw [List.length_cons]; omega)
  rcases List.mem_cons.mp hm with rfl | hm
  ·exact List.getElem_mem hi
  ·exact List.mem_of_mem_eraseIdx (hy y hm)
theorem AH9 {α:Type}(next:Nat->Nat):∀ (fuel k:Nat) (left:List α) (out:Array α),(pickOrder.go next fuel k left out).size<=out.size+fuel/\∀ x∈(pickOrder.go next fuel k left out).toList,x∈out.toList\/x∈left
 | 0,k,left,out=>by unfold pickOrder.go; exact ⟨Nat.le_refl _,fun x hx=>.inl hx⟩
 | fuel+1,k,left,out=>by
  unfold pickOrder.go
  split
  ·rename_i x hx
   obtain ⟨h1,h2⟩:=AH9 next fuel (k+1) (left.eraseIdx (next k % left.length)) (out.push x)
   refine ⟨by rw [Array.size_push] at h1; omega,fun y hy=>?_⟩
   rcases h2 y hy with h | h
   ·rw [Array.toList_push] at h
    rcases List.mem_append.mp h with h | h
    ·exact .inl h
    ·rw [List.mem_singleton.mp h]; exact .inr (List.mem_of_getElem? hx)
   ·exact .inr (List.mem_of_mem_eraseIdx h)
  ·exact ⟨Nat.le_add_right _ _,fun y hy=>.inl hy⟩
theorem AZ0 {α:Type}(next:Nat->Nat)(xs:Array α):(pickOrder next xs).size<=xs.size/\∀ x∈(pickOrder next xs).toList,x∈xs.toList:=by
 obtain ⟨h1,h2⟩:=AH9 next xs.size 0 xs.toList #[]
 refine ⟨by simpa [pickOrder] using h1,fun x hx=>?_⟩
 rcases h2 x hx with h | h
 ·exact nomatch h
 ·exact h
end
section
variable {prog:Program}{w:World}{A:Around}{E:Value->Shared->Prop}{s:Shared}
theorem AZ1 {it a:Addr}{slot i ep next:Nat}{x:Value}{o:Obj}{es:Array (Int × Value)}{t:SetTable}{Q:Option Value->Shared->Prop}(h:AA3 s.heap it (rawInt slot) i (.ref a) es.size ep)(ho:s.heap.get? a=some o)(hd:o.data=.set es ep t)(hf:t.fits es.size=true)(hx:∀ (A:Around) (Q:Option (Value × Nat)->Shared->Prop) (E:Value->Shared->Prop),Q (some (x,next)) s->wpAny (model prog w) A (setNext a slot i ep) Q E s)(hQ:∀ h',AA3 h' it (rawInt next) ((i+1:Nat):Int) (.ref a) es.size ep->Heap.SameBut it s.heap h'->Q (some x) { s with heap:=h' }):wpAny (model prog w) A (pyNext (.ref it)) Q E s:=by
 have hT:s.TypeIs (.ref it) "set_iterator":=⟨_,h,rfl⟩
 unfold pyNext
 refine wpAny_bind (wpAny_attempt (wpAny_callSpecial?_slot (name:=Str.ofString "__next__") hT slot_si_next (wpAny_call_entry slot_si_next hT gI ?_ (hZ _))))
 unfold Builtin.«set_iterator.__next__»
 refine wpAny_bind (wpAny_pure ?_)
 refine wpAny_bind (wpAny_fieldsOf h rfl ?_)
 show wpAny _ _ (setEntries a >>= _) _ _ s
 refine wpAny_bind ?_
 unfold setEntries
 refine wpAny_bind (wpAny_setState_of ho hd hf (wpAny_pure ?_))
 dsimp only
 rw [if_neg (by simp)]
 show wpAny _ _ (setNext a (slot:Int).toNat (i:Int).toNat (ep:Int).toNat >>= _) _ _ s
 refine wpAny_bind (hx _ _ _ ?_)
 dsimp only
 refine wpAny_bind (wpAny_setField_rec h (by simp) fun h1 he1 hs1=>?_)
 replace he1:AA3 h1 it (rawInt next) i (.ref a) es.size ep:=he1
 refine wpAny_bind (wpAny_setField_rec he1 (by simp) fun h2 he2 hs2=>?_)
 have e:((i:Int)+1)=((i+1:Nat):Int):=by push_cast; rfl
 replace he2:AA3 h2 it (rawInt next) ((i:Int)+1) (.ref a) es.size ep:=he2
 rw [e] at he2
 exact wpAny_pure ⟨_,rfl,wpAny_pure (hQ h2 he2 (hs1.trans hs2))⟩
theorem BF2 {it a:Addr}{slot i ep:Nat}{o:Obj}{es:Array (Int × Value)}{t:SetTable}{Q:Option Value->Shared->Prop}(hh:A.handled=none)(h:AA3 s.heap it (rawInt slot) i (.ref a) es.size ep)(ho:s.heap.get? a=some o)(hd:o.data=.set es ep t)(hf:t.fits es.size=true)(hx:∀ (A:Around) (Q:Option (Value × Nat)->Shared->Prop) (E:Value->Shared->Prop),Q none s->wpAny (model prog w) A (setNext a slot i ep) Q E s)(hQ:∀ h',Heap.ExtBut it s.heap h'->Q none { s with heap:=h' }):wpAny (model prog w) A (pyNext (.ref it)) Q E s:=by
 have hT:s.TypeIs (.ref it) "set_iterator":=⟨_,h,rfl⟩
 unfold pyNext
 refine wpAny_bind (wpAny_attempt (wpAny_callSpecial?_slot (name:=Str.ofString "__next__") hT slot_si_next (wpAny_call_entry slot_si_next hT gI ?_ (hZ _))))
 unfold Builtin.«set_iterator.__next__»
 refine wpAny_bind (wpAny_pure ?_)
 refine wpAny_bind (wpAny_fieldsOf h rfl ?_)
 show wpAny _ _ (setEntries a >>= _) _ _ s
 refine wpAny_bind ?_
 unfold setEntries
 refine wpAny_bind (wpAny_setState_of ho hd hf (wpAny_pure ?_))
 dsimp only
 rw [if_neg (by simp)]
 show wpAny _ _ (setNext a (slot:Int).toNat (i:Int).toNat (ep:Int).toNat >>= _) _ _ s
 refine wpAny_bind (hx _ _ _ ?_)
 dsimp only
 refine wpAny_bind (wpAny_setField_rec h (by simp) fun h1 he1 hs1=>?_)
 show wpAny _ _ (newExc (.type "StopIteration") [] >>= _) _ _ _
 refine wpAny_bind ?_
 simp only [newExc,newTuple]
 refine wpAny_bind (wpAny_newObj_type ?_ (by size_fits))
 refine wpAny_bind (m:=firstArgMember _ _) (wpAny_of_eq (a:=Value.none) (by first | rfl | (simp only [firstArgMember]; rfl)) ?_)
 refine wpAny_newObj_type ?_ (by size_fits)
 simp only [raiseNew]
 refine wpAny_bind (wpAny_handled ?_)
 rw [show A.in1.handled=none from hh]
 refine wpAny_bind (wpAny_pure (wpAny_throw ?_))
 refine wpAny_bind (wpAny_isInstance (T:="StopIteration") (b:=true) ⟨_,Heap.get?_push_size _ rfl,rfl⟩ isSubtype_stop ?_)
 exact wpAny_pure (hQ _ ((hs1.extBut.push _).push _))
theorem AP8 {it a tp:Addr}{i ep p:Nat}{e:Int × Value}{ps:List Nat}{ot o:Obj}{es:Array (Int × Value)}{t:SetTable}{Q:Option Value->Shared->Prop}(h:AA3 s.heap it (.ref tp) i (.ref a) es.size ep)(ho:s.heap.get? a=some o)(hd:o.data=.set es ep t)(hf:t.fits es.size=true)(hot:s.heap.get? tp=some ot)(hdt:∃ c,ot.data=.seq (ps.map fun (q:Nat)=>rawInt q).toArray c)(hp:ps[i]?=some p)(he:es[p]?=some e)(hQ:∀ h',AA3 h' it (.ref tp) ((i+1:Nat):Int) (.ref a) es.size ep->Heap.SameBut it s.heap h'->Q (some e.2) { s with heap:=h' }):wpAny (model prog w) A (pyNext (.ref it)) Q E s:=by
 have hT:s.TypeIs (.ref it) "set_iterator":=⟨_,h,rfl⟩
 obtain ⟨c,hdt⟩:=hdt
 unfold pyNext
 refine wpAny_bind (wpAny_attempt (wpAny_callSpecial?_slot (name:=Str.ofString "__next__") hT slot_si_next (wpAny_call_entry slot_si_next hT gI ?_ (hZ _))))
 unfold Builtin.«set_iterator.__next__»
 refine wpAny_bind (wpAny_pure ?_)
 refine wpAny_bind (wpAny_fieldsOf h rfl ?_)
 show wpAny _ _ (setEntries a >>= _) _ _ s
 refine wpAny_bind ?_
 unfold setEntries
 refine wpAny_bind (wpAny_setState_of ho hd hf (wpAny_pure ?_))
 dsimp only
 rw [if_neg (by simp)]
 show wpAny _ _ (seqItems? (.ref tp) >>= _) _ _ s
 refine wpAny_bind (wpAny_seqItems hot hdt ?_)
 have e1:(ps.map fun (q:Nat)=>rawInt q).toArray[(i:Int).toNat]?=some (rawInt p):=by
  rw [Int.toNat_natCast,List.getElem?_toArray,List.getElem?_map,hp]; rfl
 dsimp only
 rw [e1]
 show wpAny _ _ (setNextDrawn a (p:Int).toNat (ep:Int).toNat >>= _) _ _ s
 refine wpAny_bind ?_
 unfold setNextDrawn
 refine wpAny_bind (wpAny_setState_of ho hd hf ?_)
 dsimp only
 rw [if_neg (by simp),Int.toNat_natCast,he]
 refine wpAny_pure ?_
 refine wpAny_bind (wpAny_setField_rec h (by simp) fun h2 he2 hs2=>?_)
 have e:((i:Int)+1)=((i+1:Nat):Int):=by push_cast; rfl
 replace he2:AA3 h2 it (.ref tp) ((i:Int)+1) (.ref a) es.size ep:=he2
 rw [e] at he2
 exact wpAny_pure ⟨_,rfl,wpAny_pure (hQ h2 he2 hs2)⟩
theorem AZ2 {it a tp:Addr}{ep:Nat}{ps:List Nat}{ot o:Obj}{es:Array (Int × Value)}{t:SetTable}{Q:Option Value->Shared->Prop}(hh:A.handled=none)(h:AA3 s.heap it (.ref tp) ps.length (.ref a) es.size ep)(ho:s.heap.get? a=some o)(hd:o.data=.set es ep t)(hf:t.fits es.size=true)(hot:s.heap.get? tp=some ot)(hdt:∃ c,ot.data=.seq (ps.map fun (q:Nat)=>rawInt q).toArray c)(hQ:∀ h',Heap.ExtBut it s.heap h'->Q none { s with heap:=h' }):wpAny (model prog w) A (pyNext (.ref it)) Q E s:=by
 have hT:s.TypeIs (.ref it) "set_iterator":=⟨_,h,rfl⟩
 obtain ⟨c,hdt⟩:=hdt
 unfold pyNext
 refine wpAny_bind (wpAny_attempt (wpAny_callSpecial?_slot (name:=Str.ofString "__next__") hT slot_si_next (wpAny_call_entry slot_si_next hT gI ?_ (hZ _))))
 unfold Builtin.«set_iterator.__next__»
 refine wpAny_bind (wpAny_pure ?_)
 refine wpAny_bind (wpAny_fieldsOf h rfl ?_)
 show wpAny _ _ (setEntries a >>= _) _ _ s
 refine wpAny_bind ?_
 unfold setEntries
 refine wpAny_bind (wpAny_setState_of ho hd hf (wpAny_pure ?_))
 dsimp only
 rw [if_neg (by simp)]
 show wpAny _ _ (seqItems? (.ref tp) >>= _) _ _ s
 refine wpAny_bind (wpAny_seqItems hot hdt ?_)
 have e1:(ps.map fun (q:Nat)=>rawInt q).toArray[((ps.length:Nat):Int).toNat]?=none:=by
  rw [Int.toNat_natCast,List.getElem?_toArray]
  exact List.getElem?_eq_none (by rw [List.length_map]; exact Nat.le_refl _)
 dsimp only
 rw [e1]
 dsimp only
 refine wpAny_bind (wpAny_setField_rec h (by simp) fun h1 he1 hs1=>?_)
 replace he1:AA3 h1 it (rawInt 0) ps.length (.ref a) es.size ep:=he1
 refine wpAny_bind (wpAny_setField_rec he1 (by simp) fun h2 he2 hs2=>?_)
 show wpAny _ _ (newExc (.type "StopIteration") [] >>= _) _ _ _
 refine wpAny_bind ?_
 simp only [newExc,newTuple]
 refine wpAny_bind (wpAny_newObj_type ?_ (by size_fits))
 refine wpAny_bind (m:=firstArgMember _ _) (wpAny_of_eq (a:=Value.none) (by first | rfl | (simp only [firstArgMember]; rfl)) ?_)
 refine wpAny_newObj_type ?_ (by size_fits)
 simp only [raiseNew]
 refine wpAny_bind (wpAny_handled ?_)
 rw [show A.in1.handled=none from hh]
 refine wpAny_bind (wpAny_pure (wpAny_throw ?_))
 refine wpAny_bind (wpAny_isInstance (T:="StopIteration") (b:=true) ⟨_,Heap.get?_push_size _ rfl,rfl⟩ isSubtype_stop ?_)
 exact wpAny_pure (hQ _ (((hs1.trans hs2).extBut.push _).push _))
theorem zH {it a:Addr}{ep n:Nat}{o:Obj}{es:Array (Int × Value)}{t:SetTable}{fst:Nat->Nat}{at_:Nat->Option (Value × Nat)}(hh:A.handled=none)(hd:o.data=.set es ep t)(hf:t.fits es.size=true)(hne:a≠it)(hx:∀ (i:Nat) (s:Shared) (A:Around) (Q:Option (Value × Nat)->Shared->Prop) (E:Value->Shared->Prop),i<=n->s.heap.get? a=some o->Q (at_ i) s->wpAny (model prog w) A (setNext a (fst i) i ep) Q E s)(hi:∀ i,i < n->∃ x,at_ i=some (x,fst (i+1)))(hn:at_ n=none) :
  WalksS prog w A it [it,a] [it] (fun a b=>b=a) n (fun i v=>∃ y,at_ i=some (v,y)) (fun i s=>AA3 s.heap it (rawInt (fst i)) i (.ref a) es.size ep/\s.heap.get? a=some o) where
 sub:=fun b hb=>by simp at hb; simp [hb]
 grefl:=fun _=>rfl
 gtrans:=fun _ _ _ h1 h2=>h2.trans h1
 frame:=fun i s h' tk st _ hk=>⟨hk it (by simp) _ st.1,hk a (by simp) _ st.2⟩
 item:=fun i s Q E lt st hQ=>by
  obtain ⟨x,ex⟩:=hi i lt
  refine AZ1 st.1 st.2 hd hf (fun A Q E q=>hx i s A Q E (Nat.le_of_lt lt) st.2 (by rw [ex]; exact q)) fun h' h1 sb=>?_
  exact hQ x _ ⟨_,ex⟩ ⟨h1,(sb.2 a hne).trans st.2⟩ ⟨fun b o hb e=>(sb.2 b (fun z=>hb (by simp [z]))).trans e,rfl,rfl,rfl,Nat.le_refl _⟩
 done:=fun s Q E st hQ=>BF2 hh st.1 st.2 hd hf (fun A Q E q=>hx n s A Q E (Nat.le_refl _) st.2 (by rw [hn]; exact q)) fun h' sb=>hQ _ ⟨fun b o hb e=>sb b o (fun z=>hb (by simp [z])) e,rfl,rfl,rfl,Nat.le_refl _⟩
 self:=fun i s Q E st q=>AH7 st.1 q
theorem AA4 {it a tp:Addr}{ep:Nat}{ps:List Nat}{ot o:Obj}{es:Array (Int × Value)}{t:SetTable}(hh:A.handled=none)(hd:o.data=.set es ep t)(hf:t.fits es.size=true)(hne:a≠it)(hnt:tp≠it)(hdt:∃ c,ot.data=.seq (ps.map fun (q:Nat)=>rawInt q).toArray c)(hp:∀ p∈ps,p < es.size) :
  WalksS prog w A it [it,a,tp] [it] (fun a b=>b=a) ps.length (fun i v=>∃ e∈es.toList,v=e.2) (fun i s=>AA3 s.heap it (.ref tp) i (.ref a) es.size ep/\s.heap.get? a=some o/\s.heap.get? tp=some ot) where
 sub:=fun b hb=>by simp at hb; simp [hb]
 grefl:=fun _=>rfl
 gtrans:=fun _ _ _ h1 h2=>h2.trans h1
 frame:=fun i s h' tk st _ hk=>⟨hk it (by simp) _ st.1,hk a (by simp) _ st.2.1,hk tp (by simp) _ st.2.2⟩
 item:=fun i s Q E lt st hQ=>by
  have lp:=hp _ (List.getElem_mem lt)
  refine AP8 st.1 st.2.1 hd hf st.2.2 hdt (List.getElem?_eq_getElem lt) (Array.getElem?_eq_getElem lp) fun h' h1 sb=>?_
  exact hQ _ _ ⟨_,by rw [<- Array.getElem_toList]; exact List.getElem_mem _,rfl⟩ ⟨h1,(sb.2 a hne).trans st.2.1,(sb.2 tp hnt).trans st.2.2⟩ ⟨fun b o hb e=>(sb.2 b (fun z=>hb (by simp [z]))).trans e,rfl,rfl,rfl,Nat.le_refl _⟩
 done:=fun s Q E st hQ=>AZ2 hh st.1 st.2.1 hd hf st.2.2 hdt fun h' sb=>hQ _ ⟨fun b o hb e=>sb b o (fun z=>hb (by simp [z])) e,rfl,rfl,rfl,Nat.le_refl _⟩
 self:=fun i s Q E st q=>AH7 st.1 q
end
def AL6 (t:SetTable):Nat->Nat
 | 0=>0
 | i+1=>t.place.getD i 0+1
theorem AA5 {t:SetTable}(R:Rise t.place){i:Nat}(hi:i<=t.place.size):SetTable.below t.place (AL6 t i)=i:=by
 obtain ⟨h0,h1,h2⟩:=zF R (AL6 t i)
 rcases Nat.lt_trichotomy (SetTable.below t.place (AL6 t i)) i with h | h | h
 ·exfalso
  cases i with
  | zero=>omega
  | succ i =>
   have lt:i < t.place.size:=by omega
   have ei:t.place[i]?=some (t.place.getD i 0):=by rw [Array.getElem?_eq_getElem lt]; simp [Array.getD,lt]
   have:=h2 i _ (by omega) ei
   have e:AL6 t (i+1)=t.place.getD i 0+1:=rfl
   omega
 ·exact h
 ·exfalso
  have lt:i < t.place.size:=by omega
  have ei:t.place[i]?=some (t.place.getD i 0):=by rw [Array.getElem?_eq_getElem lt]; simp [Array.getD,lt]
  have a1:=h1 i _ h ei
  cases i with
  | zero=>exact absurd a1 (Nat.not_lt_zero _)
  | succ i =>
   have lt':i < t.place.size:=by omega
   have ej:t.place[i]?=some (t.place.getD i 0):=by rw [Array.getElem?_eq_getElem lt']; simp [Array.getD,lt']
   have:=R i (i+1) _ _ (Nat.lt_succ_self _) ej ei
   have e:AL6 t (i+1)=t.place.getD i 0+1:=rfl
   omega
section
variable {prog:Program}{w:World}{A:Around}{E:Value->Shared->Prop}{s:Shared}
theorem mK {Q:Bool->Shared->Prop}(h:Q (w.params.followText "set-order") s):wpAny (model prog w) A setsByText Q E s:=by
 unfold setsByText
 exact wpAny_bind (wpAny_askSetting (wpAny_pure h))
theorem AI0 {a:Addr}{o:Obj}{es:Array (Int × Value)}{ep i:Nat}{t:SetTable}{Q:Option (Value × Nat)->Shared->Prop}(ht:w.params.followText "set-order"=true)(ho:s.heap.get? a=some o)(hd:o.data=.set es ep t)(hf:t.fits es.size=true)(q:Q (((pickOrder (w.params.setOrder a ep) es)[i]?).map fun e=>(e.2,0)) s):wpAny (model prog w) A (setNext a 0 i ep) Q E s:=by
 unfold setNext
 refine wpAny_bind (wpAny_setState_of ho hd hf ?_)
 dsimp only
 refine wpAny_bind (mK ?_)
 rw [ht]
 simp only [if_true]
 rw [if_neg (by simp)]
 refine wpAny_bind ?_
 unfold setWalk
 refine wpAny_bind (wpAny_setState_of ho hd hf ?_)
 dsimp only
 refine wpAny_bind (mK ?_)
 rw [ht]
 simp only [if_true]
 exact wpAny_bind (wpAny_askSetting (wpAny_pure (wpAny_pure q)))
theorem AA6 {a:Addr}{o:Obj}{es:Array (Int × Value)}{ep i:Nat}{t:SetTable}{Q:Option (Value × Nat)->Shared->Prop}(ht:w.params.followText "set-order"=false)(hp:(!t.plain && decide (es.size > 1))=false)(L:Lay true t)(ho:s.heap.get? a=some o)(hd:o.data=.set es ep t)(hf:t.fits es.size=true)(hi:i<=es.size)(q:Q (if h:i < es.size then some (es[i].2,AL6 t (i+1)) else none) s):wpAny (model prog w) A (setNext a (AL6 t i) i ep) Q E s:=by
 have hz:t.place.size=es.size:=by
  simp only [SetTable.fits,Bool.and_eq_true,beq_iff_eq] at hf
  exact hf.1
 unfold setNext
 refine wpAny_bind (wpAny_setState_of ho hd hf ?_)
 dsimp only
 refine wpAny_bind (mK ?_)
 rw [ht]
 simp only [Bool.false_eq_true,if_false]
 refine wpAny_ite_split (fun h=>absurd (hp.symm.trans h) (by decide)) (fun _=>?_)
 refine wpAny_bind ?_
 refine wpAny_ite_split (fun h=>absurd h (by rw [L.1]; simp)) (fun _=>?_)
 refine wpAny_pure (wpAny_pure ?_)
 rw [AA5 L.2 (by omega)]
 by_cases h:i < es.size
 ·rw [dif_pos h] at q
  rw [Array.getElem?_eq_getElem h,Array.getElem?_eq_getElem (show i < t.place.size by omega)]
  have e:AL6 t (i+1)=t.place[i]+1:=by
   show t.place.getD i 0+1=_
   simp [Array.getD,show i < t.place.size by omega]
  rw [e] at q
  exact q
 ·rw [dif_neg h] at q
  rw [Array.getElem?_eq_none (by omega)]
  exact q
theorem AP9 {a:Addr}{o:Obj}{es:Array (Int × Value)}{ep:Nat}{t:SetTable}{Q:Bool->Shared->Prop}(ho:s.heap.get? a=some o)(hd:o.data=.set es ep t)(hf:t.fits es.size=true)(q:Q (!w.params.followText "set-order" && (!t.plain && decide (es.size > 1))) s):wpAny (model prog w) A (setDrawn a) Q E s:=by
 unfold setDrawn
 refine wpAny_bind (wpAny_setState_of ho hd hf ?_)
 dsimp only
 exact wpAny_bind (mK (wpAny_pure q))
theorem AQ0 {d S:Addr}{c₀ n:Nat}{M:Int->Prop}{R:Shared->Array Value->Nat->Prop}(hh:A.handled=none)(hz:SetR prog w s.heap d M n)(hS:s.heap.get? S=some { cls:=.type "list",data:=.seq #[] c₀ })(hR:∀ h' tk d' acc' c',(∀ b o,b≠S->s.heap.get? b=some o->h'.get? b=some o)->h'.get? S=some { cls:=.type "list",dict:=none,data:=.seq acc' c',slots:=#[] }->(∀ v∈acc'.toList,∃ i tk,v=.int i tk/\M i)->acc'.size<=n->R { s with heap:=h',toks:=tk,drawn:=d' } acc' c') :
  wpAny (model prog w) A.in1 (pyIter (.ref d)) (AH4 prog w A "set" d S c₀ R) E s:=by
 obtain ⟨o,es,ep,t,ho,hex,hd,hel,hm,hn,hb,hf,L⟩:=hz
 have hT:s.TypeIs (.ref d) "set":=⟨o,ho,hex.1⟩
 have hSd:S≠d:=fun e=>by rw [<- e,hS] at ho; cases ho; cases hd
 have hdl:=Heap.lt_size ho
 have hSl:=Heap.lt_size hS
 have hbs:es.size<=sizeLine:=by rw [sizeLine_eq]; unfold scanBound at hb; omega
 -- the end of it all
 have fin:∀ (it:Addr) (P:Nat->Value->Prop) (m:Nat) (s1:Shared) (d1:Drawn) (fp:List Addr),s1.gens=s.gens->s1.os=s.os->(∀ b o,s.heap.get? b=some o->s1.heap.get? b=some o)->s.heap.objs.size<=it->m<=es.size ->
   (∀ i v,P i v->∃ k tk,v=.int k tk/\M k)->∀ s' acc' c',Moved (S::[it]) (fun a b=>b=a) s1 s'->s'.heap.get? S=some { cls:=.type "list",dict:=none,data:=.seq acc' c',slots:=#[] }->ItemsOf P acc' m->R s' acc' c':=by
  intro it P m s1 d1 fp hg hos hk hit hm' hP s' acc' c' hmv hS' hacc
  obtain ⟨h',g',d',tk',os'⟩:=s'
  have eg:g'=s.gens:=(show g'=s1.gens from hmv.gens).trans hg
  have eo:os'=s.os:=(show os'=s1.os from hmv.os).trans hos
  subst eg; subst eo
  refine hR h' tk' d' acc' c' (fun b o hb e=>hmv.heap b o (fun hmem=>?_) (hk b o e)) hS' (fun v hv=>?_) (by rw [hacc.1]; omega)
  ·rcases List.mem_cons.mp hmem with e' | hmem
   ·exact hb e'
   ·have:=Heap.lt_size e
    rw [List.mem_singleton.mp hmem] at this
    exact absurd this (Nat.not_lt.mpr hit)
  ·obtain ⟨i,hi⟩:=List.getElem?_of_mem hv
   exact hP i v (hacc.2 i v (by simpa using hi))
 refine wpAny_pyIter_slot hT PySem.F.slot_set_iter (wpAny_call_entry PySem.F.slot_set_iter hT rN ?_ (PySem.F.args_set_iter_1 _))
 unfold Builtin.«frozenset.__iter__»
 show wpAny _ _ (Builtin.Frozenset.sizeOf d >>= _) _ _ s
 refine wpAny_bind ?_
 unfold Builtin.Frozenset.sizeOf setEntries
 refine wpAny_bind (wpAny_bind (wpAny_setState_of ho hd hf (wpAny_pure (wpAny_pure ?_))))
 refine wpAny_bind (AP9 ho hd hf ?_)
 cases hB:(!w.params.followText "set-order" && (!t.plain && decide (es.size > 1))) with
 | true =>
  simp only [if_true]
  refine wpAny_bind (oR _ _ _ _ fun ps d' hps hlp=>?_)
  refine wpAny_bind (wpAny_newTuple ?_ (by rw [List.length_map]; omega))
  have eT:(s.heap.push (seqObj "tuple" (ps.map fun (q:Nat)=>rawInt q).toArray 0)).get? s.heap.objs.size=some (seqObj "tuple" (ps.map fun (q:Nat)=>rawInt q).toArray 0):=Heap.get?_push_size _ rfl
  refine wpAny_bind (wpAny_setEpoch_of (Heap.get?_push_of_some _ ho) hd hf ?_)
  refine wpAny_bind (wpAny_newObj_type (wpAny_pure ⟨_,rfl,"set_iterator",_,⟨_,Heap.get?_push_size _ rfl,rfl⟩,slot_si_next.lookup,?_⟩))
  have sz:(s.heap.push (seqObj "tuple" (ps.map fun (q:Nat)=>rawInt q).toArray 0)).objs.size=s.heap.objs.size+1:=size_push' _ _
  refine ⟨_,_,_,_,ps.length,_,_,rfl,AA4 (o:=o) (ot:=seqObj "tuple" (ps.map fun (q:Nat)=>rawInt q).toArray 0) (tp:=s.heap.objs.size) hh hd hf (a:=d) (by rw [sz]; exact Nat.ne_of_lt (Nat.lt_succ_of_lt hdl)) (by rw [sz]; exact Nat.ne_of_lt (Nat.lt_succ_self _)) ⟨0,rfl⟩ (fun p hp=>List.mem_range.mp (hps p hp)),
   ⟨Heap.get?_push_size _ rfl,Heap.get?_push_of_some _ (Heap.get?_push_of_some _ ho),Heap.get?_push_of_some _ eT⟩,by omega,?_,⟨o,Heap.get?_push_of_some _ (Heap.get?_push_of_some _ ho),hex.1⟩,Heap.get?_push_of_some _ (Heap.get?_push_of_some _ hS),?_⟩
  ·rw [sz]
   intro z
   simp only [List.mem_cons,List.not_mem_nil,or_false] at z
   rcases z with z | z | z
   ·rw [z] at hSl; exact absurd hSl (Nat.not_lt.mpr (Nat.le_succ _))
   ·exact hSd z
   ·rw [z] at hSl; exact absurd hSl (Nat.lt_irrefl _)
  ·exact fin _ _ _ _ d' [] rfl rfl (fun b o e=>Heap.get?_push_of_some _ (Heap.get?_push_of_some _ e)) (by rw [sz]; exact Nat.le_succ _) hlp (fun i v ⟨e,he,ev⟩=>by rw [ev]; exact hm e he)
 | false =>
  simp only [Bool.false_eq_true,if_false]
  refine wpAny_bind (wpAny_pure ?_)
  refine wpAny_bind (wpAny_setEpoch_of ho hd hf ?_)
  refine wpAny_bind (wpAny_newObj_type (wpAny_pure ⟨_,rfl,"set_iterator",_,⟨_,Heap.get?_push_size _ rfl,rfl⟩,slot_si_next.lookup,?_⟩))
  have hSf:S ∉ [s.heap.objs.size,d]:=fun z=>by
   simp only [List.mem_cons,List.not_mem_nil,or_false] at z
   rcases z with z | z
   ·rw [z] at hSl; exact absurd hSl (Nat.lt_irrefl _)
   ·exact hSd z
  cases ht:w.params.followText "set-order" with
  | true =>
   obtain ⟨p1,p2⟩:=AZ0 (w.params.setOrder d ep) es
   refine ⟨_,_,_,_,(pickOrder (w.params.setOrder d ep) es).size,_,_,rfl,zH (o:=o) (a:=d) (it:=s.heap.objs.size) (fst:=fun _=>0) (at_:=fun i=>((pickOrder (w.params.setOrder d ep) es)[i]?).map fun e=>(e.2,0)) hh hd hf (Nat.ne_of_lt hdl) (fun i s A Q E _ ho q=>AI0 ht ho hd hf q)
    (fun i lt=>⟨_,by rw [Array.getElem?_eq_getElem lt]; rfl⟩) (by rw [Array.getElem?_eq_none (Nat.le_refl _)]; rfl),⟨Heap.get?_push_size _ rfl,Heap.get?_push_of_some _ ho⟩,by omega,hSf,⟨o,Heap.get?_push_of_some _ ho,hex.1⟩,Heap.get?_push_of_some _ hS,?_⟩
   exact fin _ _ _ _ s.drawn [] rfl rfl (fun b o e=>Heap.get?_push_of_some _ e) (Nat.le_refl _) p1 (fun i v ⟨y,ev⟩=>by
    cases hg:(pickOrder (w.params.setOrder d ep) es)[i]? with
    | none=>rw [hg] at ev; cases ev
    | some e =>
     rw [hg] at ev
     have:e.2=v:=by simpa using congrArg (fun z=>z.map (·.1)) ev
     rw [<- this]
     exact hm e (p2 e (by rw [<- Array.getElem?_toList] at hg; exact List.mem_of_getElem? hg)))
  | false =>
   rw [ht] at hB
   have L1:Lay true t:=by
    have:xG w=true:=by unfold xG; rw [ht]; rfl
    rw [<- this]; exact L
   refine ⟨_,_,_,_,es.size,_,_,rfl,zH (o:=o) (a:=d) (it:=s.heap.objs.size) (fst:=AL6 t) (at_:=fun i=>if h:i < es.size then some (es[i].2,AL6 t (i+1)) else none) hh hd hf (Nat.ne_of_lt hdl) (fun i s A Q E le ho q=>AA6 ht hB L1 ho hd hf le q)
    (fun i lt=>⟨_,by rw [dif_pos lt]⟩) (by rw [dif_neg (Nat.lt_irrefl _)]),⟨Heap.get?_push_size _ rfl,Heap.get?_push_of_some _ ho⟩,by omega,hSf,⟨o,Heap.get?_push_of_some _ ho,hex.1⟩,Heap.get?_push_of_some _ hS,?_⟩
   exact fin _ _ _ _ s.drawn [] rfl rfl (fun b o e=>Heap.get?_push_of_some _ e) (Nat.le_refl _) (Nat.le_refl _) (fun i v ⟨y,ev⟩=>by
    by_cases h:i < es.size
    ·rw [dif_pos h] at ev
     have:es[i].2=v:=by simpa using congrArg (fun z=>z.map (·.1)) ev
     rw [<- this]
     exact hm _ (by rw [<- Array.getElem_toList]; exact List.getElem_mem _)
    ·rw [dif_neg h] at ev; cases ev)
end
def AI1 (P:Program)(w:World)(a:Addr)(M:Int->Prop)(n:Nat):HO:=.ext fun h=>SetR P w h a M n
theorem AQ1 {P:Program}{w:World}{H:Hp}{h:Heap}{a:Addr}{M:Int->Prop}{n:Nat}(z:SetR P w h a M n):ObjOk P w H h a (AI1 P w a M n):=by
 refine ⟨z,?_,fun h1 h2 z1 k=>z1.at k⟩
 obtain ⟨o,_,_,_,e,_⟩:=z
 exact ⟨o,e⟩
theorem AA7 {X:Cx}{pins:List (Addr × Obj)}{σ:L2.St}{H:Hp}{s:Shared}{h':Heap}{t':Nat}{d':Drawn}(I:L2.Inv X pins σ H s)(k:∀ b u,s.heap.get? b=some u->h'.get? b=some u):L2.Inv X pins σ H { s with heap:=h',toks:=t',drawn:=d' } :=
 I.step (g':=s.gens) (d':=d') (ch:=[]) (fun _ z=>nomatch z) (fun b o _ _ _ e _=>k b o e) (fun b o _ _ _ e _=>⟨o.slots,k b o e⟩) (fun _ _ _ _ n=>n) (fun b o _ e=>⟨o,k b o e⟩) (fun _ _ e=>e) (fun _ _ _ e=>e) (fun b ps e=>⟨#[],by rw [e]; simp⟩)
  (fun m ⟨o,es,ep,ho,r⟩=>⟨o,es,ep,k _ _ ho,r⟩) (I.hok.kept k) I.bare
section
variable {X:Cx}
theorem AI2 (hc:X.calm=true):iH X (.type "set") (fun xs H Q=>∃ (a:Addr) (l:List Int) (M:Int->Prop),xs=[.ref a]/\SqL X.K H a (l.map V.int)/\l.length<=1000/\(∀ x∈l,M x)/\∀ p H',H p=none->Same H H'->H' p=some (AI1 X.prog X.w p M l.length)->Q (.ref p) H'):=by
 intro pins s σ H xs us Q I r h
 obtain ⟨a,l,M,rfl,hS,hz,hM,q⟩:=h
 obtain ⟨u,rfl,ru⟩:=kC r
 cases ru
 obtain ⟨its,rv,pl,_⟩:=I.list hS
 refine AP7 hM (I.ok.hd hc) pl.isList rv (by unfold scanBound; omega) fun h' tk z kp=>?_
 exact ⟨.ref s.heap.objs.size,_,I.laid (t':=tk) kp (Nat.le_refl _) (AQ1 z),rfl,q _ _ (I.hok.fresh (Nat.le_refl _)) (aE (I.hok.fresh (Nat.le_refl _)) _) aA⟩
theorem AI3 {M:Int->Prop}:∀ (us:List Value),(∀ v∈us,∃ i tk,v=.int i tk/\M i)->∃ ns,IntsAre us ns/\∀ i∈ns,M i
 | [],_=>⟨[],.nil,fun i hi=>nomatch hi⟩
 | u::us,h=>by
  obtain ⟨i,tk,rfl,hi⟩:=h u (List.mem_cons_self ..)
  obtain ⟨ns,h1,h2⟩:=AI3 us fun v hv=>h v (List.mem_cons_of_mem _ hv)
  exact ⟨i::ns,.cons i tk h1,fun k hk=>(List.mem_cons.mp hk).elim (fun z=>by rw [z]; exact hi) (h2 k)⟩
theorem AA8 (hc:X.calm=true):iH X (.builtin "sorted") (fun xs H Q=>∃ (a:Addr) (M:Int->Prop) (n:Nat),xs=[.ref a]/\H a=some (AI1 X.prog X.w a M n)/\n < 64/\∀ (p:Addr) (ns:List Int),H p=none->(∀ i∈ns,M i)->ns.length<=n->Q (.ref p) (L2.upd H p (.lst (ns.map V.int)))):=by
 intro pins s σ H xs us Q I r h
 obtain ⟨a,M,n,rfl,e,l64,q⟩:=h
 obtain ⟨u,rfl,ru⟩:=kC r
 cases ru
 obtain ⟨z,_⟩:=I.hok a _ e
 have hT:s.TypeIs (.ref a) "set":=by obtain ⟨o,_,_,_,ho,hex,_⟩:=z; exact ⟨o,ho,hex.1⟩
 have hl:a < s.heap.objs.size:=by obtain ⟨o,_,_,_,ho,_⟩:=z; exact Heap.lt_size ho
 refine vL (kw:=[]) (ord:=fun ns=>ns.Pairwise (·<=·)) (args_sorted1 _) (fun L=>args_list_sort _) (fun A E s L vs ns P hoL hI h64 hP=>list_sort_tree hoL hI h64 hP) ?_
 refine sP (.inr rfl) hT hl ?_
 have z0:SetR X.prog X.w (s.heap.push { cls:=.type "list",data:=.seq #[] }) a M n:=z.at fun o e=>Heap.get?_push_of_some _ e
 refine AQ0 (A:=X.A.in1) (s:={ s with heap:=s.heap.push { cls:=.type "list",data:=.seq #[] } }) (I.ok.hd hc) z0 (Heap.get?_push_size _ rfl) fun h' tk d' acc' c' hk hS' hv ln _=>?_
 obtain ⟨ks,hI,hM⟩:=AI3 acc'.toList hv
 have kp:∀ b o,s.heap.get? b=some o->h'.get? b=some o:=fun b o e=>hk b o (Nat.ne_of_lt (Heap.lt_size e)) (Heap.get?_push_of_some _ e)
 have I2:L2.Inv X pins σ H { s with heap:=h',toks:=tk,drawn:=d' }:=AA7 I kp
 have lk:=IntsAre.length hI
 rw [Array.length_toList] at lk
 refine ⟨ks,hI,by rw [Array.length_toList]; omega,fun L out ns' e h'' hL k2 hoL hI' hp ho=>?_⟩
 have rv2:=vals_ints hI'
 have ln':ns'.length<=n:=by rw [hp.length_eq]; omega
 have lz:(ns'.map V.int).length<=sizeLine:=by rw [List.length_map,sizeLine_eq]; omega
 exact ⟨.ref L,_,I2.laid (t':=tk) k2 hL (show ObjOk X.prog X.w _ h'' _ (.lst (ns'.map V.int)) from ⟨lz,out.toList,e,rv2,by simpa using hoL⟩),rfl,q L ns' (I2.hok.fresh hL) (fun i hi=>hM i (hp.mem_iff.mp hi)) ln'⟩
end
section
variable {X:Cx}{CX:CXT}{k:Nat}{f C:Addr}{fd:FuncData}{ps ks:List Str}{sp:Sp}{E:XK}{x:Str}{p pos:Pos}{e:Expr}{es:List Expr}{kws:List Keyword}{t tk:TA}
 {g:List Value->List Value->List Value}{gV:List V->List V->List V}
end
structure CalK (P:Program) (w:World) (K:Frag) (mg:Str->Option Value) (base:Heap) (x:Str) (C:Addr) (ps ks:List Str) (k:Nat) (gV:List V->List V->List V) (sp:Sp):Prop where
 ex:∃ f fd g,FnOk P w K mg base (CXF P w) k f fd ps sp/\KBinds K fd ps ks g gV/\Mk K C f/\mg x=some (.ref C)
section
variable {X:Cx}{x:Str}{C:Addr}{ps ks:List Str}{k:Nat}{sp:Sp}{e:Expr}{es:List Expr}{t tk:TA}{p pos:Pos}{E:XK}{kws:List Keyword}{gV:List V->List V->List V}
end
section
variable {P:Program}{w:World}{K:Frag}{mg:Str->Option Value}{base:Heap}{f:Addr}{fd:FuncData}{ps:List Str}{x:Str}{CX:CXT}{k:Nat}
theorem FnOk.nev {sp:Sp}(h:∀ vs H Q E,¬ sp vs H Q E):FnOk P w K mg base CX k f fd ps sp:=⟨fun _ _ _ _ z=>(h _ _ _ _ z).elim,fun _ _ _ _ _ _ _ _ _ _ _ _ _ z=>(h _ _ _ _ z).elim⟩
theorem AT2 {spf:Nat->Sp}{n0:Nat}(h0:∀ vs H Q E,¬ spf 0 vs H Q E)(b:Binds K fd ps [])(kp:keepIn K (.ref f)=true)(hm:mg x=some (.ref f))(step:∀ d n,n0<=n->CalX P w K mg base x ps n (spf d)->FnOk P w K mg base (CXF P w) (n+1) f fd ps (spf (d+1))):∀ d,FnOk P w K mg base (CXF P w) (n0+d) f fd ps (spf d)
 | 0=>FnOk.nev h0
 | d+1=>step d (n0+d) (Nat.le_add_right _ _) ⟨f,fd,AT2 h0 b kp hm step d,b,kp,hm⟩
theorem tS {spf:Nat->Sp}{n0:Nat}(h0:∀ vs H Q E,¬ spf 0 vs H Q E)(b:Binds K fd ps [])(kp:keepIn K (.ref f)=true)(hm:mg x=some (.ref f))(step:∀ d n,n0<=n->CalX P w K mg base x ps n (spf d)->FnOk P w K mg base (CXF P w) (n+1) f fd ps (spf (d+1)))(d:Nat){n:Nat}(hn:n0+d<=n):CalX P w K mg base x ps n (spf d) :=
 ⟨f,fd,FnOk.lift (AT2 h0 b kp hm step d) hn,b,kp,hm⟩
end
section
variable {K:Frag}{σ:L2.St}{H:Hp}{Q:VK}{g:TG}{tt:TT}{te ta:TE}{ix:List (Option Nat)}{t:TS}{D:Ends}
theorem AQ2 {K:Frag}{a:Addr}{xs:List V}{g:TG}{tt:TT}{te:TE}{σ:L2.St}{H:Hp}{Q:VK}(Pv:Nat->List V->L2.St->Hp->Prop)(hz:xs.length<=sizeLine)(h0:Pv 0 [] σ H)(hl:∀ i acc σ H,i<=xs.length->Pv i acc σ H->SqT K H a xs)(hs:∀ i x acc σ H,xs[i]?=some x->Pv i acc σ H->g x σ H fun σ2 H2=>tt σ2 H2 fun b H3=>if b=true then te σ2 H3 fun y H4=>Pv (i+1) (acc++[y]) σ2 H4 else Pv (i+1) acc σ2 H3)(hacc:∀ i acc σ H,Pv i acc σ H->acc.length<=i)(hd:∀ acc σ H,Pv xs.length acc σ H->∀ D,H D=none->Q (.ref D) (L2.upd H D (.lst acc))) :
  ∃ W:Nat->Nat->List V->L2.St->Hp->Prop,(∃ m,W 0 m [] σ H)/\∀ i m acc σ H,W i m acc σ H ->
   ((Itt K a).stop i H/\∀ D,H D=none->Q (.ref D) (L2.upd H D (.lst acc))) \/
   ((Itt K a).go i H/\acc.length < sizeLine/\∃ N:List V->L2.St->Hp->Prop,(∀ acc' σ' H',N acc' σ' H'->∃ m',m' < m/\W (i+1) m' acc' σ' H') /\
    ∀ x H',(Itt K a).yld i H x H'->g x σ H' fun σ2 H2=>tt σ2 H2 fun b H3=>if b=true then te σ2 H3 fun y H4=>N (acc++[y]) σ2 H4 else N acc σ2 H3):=by
 refine ⟨fun i m acc σ H=>m=xs.length - i/\i<=xs.length/\Pv i acc σ H,⟨xs.length,by simp,Nat.zero_le _,h0⟩,?_⟩
 rintro i m acc σ H ⟨rfl,hi,p⟩
 have q:=hl i acc σ H hi p
 have ha:=hacc i acc σ H p
 by_cases hlt:i < xs.length
 ·refine .inr ⟨⟨xs,xs[i],q,by simp [hlt]⟩,by omega,Pv (i+1),fun acc' σ' H' p'=>⟨xs.length - (i+1),by omega,rfl,hlt,p'⟩,fun x H' y=>?_⟩
  obtain ⟨e,y⟩:=y
  subst e
  exact hs i x acc σ _ (y xs q) p
 ·have e:i=xs.length:=by omega
  subst e
  exact .inl ⟨⟨xs,q,Nat.le_refl _⟩,hd acc σ H p⟩
def CompT (K:Frag)(a:Addr)(g:TG)(tt:TT)(te:TE)(Q:VK)(σ:L2.St)(H:Hp):Prop:=∃ W:Nat->Nat->List V->L2.St->Hp->Prop,(∃ m,W 0 m [] σ H)/\∀ i m acc σ H,W i m acc σ H ->
 ((Itt K a).stop i H/\∀ D,H D=none->Q (.ref D) (L2.upd H D (.lst acc))) \/
 ((Itt K a).go i H/\acc.length < sizeLine/\∃ N:List V->L2.St->Hp->Prop,(∀ acc' σ' H',N acc' σ' H'->∃ m',m' < m/\W (i+1) m' acc' σ' H') /\
  ∀ x H',(Itt K a).yld i H x H'->g x σ H' fun σ2 H2=>tt σ2 H2 fun b H3=>if b=true then te σ2 H3 fun y H4=>N (acc++[y]) σ2 H4 else N acc σ2 H3)
theorem xH:rM (BH8 K ta) ix g tt te σ H Q=ta σ H (fun x H1=>∃ a,x=.ref a/\(∃ xs,SqT K H1 a xs)/\CompT K a g tt te Q (wT ix σ) H1):=rfl
theorem CompT.by {a:Addr}{xs:List V}(Pv:Nat->List V->L2.St->Hp->Prop)(hz:xs.length<=sizeLine)(h0:Pv 0 [] σ H)(hl:∀ i acc σ H,i<=xs.length->Pv i acc σ H->SqT K H a xs)(hs:∀ i x acc σ H,xs[i]?=some x->Pv i acc σ H->g x σ H fun σ2 H2=>tt σ2 H2 fun b H3=>if b=true then te σ2 H3 fun y H4=>Pv (i+1) (acc++[y]) σ2 H4 else Pv (i+1) acc σ2 H3)(hacc:∀ i acc σ H,Pv i acc σ H->acc.length<=i)(hd:∀ acc σ H,Pv xs.length acc σ H->∀ D,H D=none->Q (.ref D) (L2.upd H D (.lst acc))):CompT K a g tt te Q σ H:=AQ2 Pv hz h0 hl hs hacc hd
def ForT (K:Frag)(a:Addr)(g:TG)(tb:TS)(D:Ends)(σ:L2.St)(H:Hp):Prop:=∃ W:Nat->Nat->L2.St->Hp->Prop,(∃ m,W 0 m σ H)/\∀ i m σ H,W i m σ H ->
   ((Itt K a).stop i H/\D.nx σ H)\/((Itt K a).go i H/\∃ N:L2.St->Hp->Prop,(∀ σ' H',N σ' H'->∃ m',m' < m/\W (i+1) m' σ' H')/\∀ x H',(Itt K a).yld i H x H'->g x σ H' fun σ2 H2=>tb { D with nx:=N,ct:=N,bk:=D.nx } σ2 H2)
theorem AI4:BA8 (BH8 K ta) g t D σ H=ta σ H (fun x H1=>∃ a,x=.ref a/\(∃ xs,SqT K H1 a xs)/\ForT K a g t D σ H1):=rfl
theorem ForT.by {a:Addr}{xs:List V}(Pv:Nat->L2.St->Hp->Prop)(h0:Pv 0 σ H)(hl:∀ i σ H,i<=xs.length->Pv i σ H->SqT K H a xs)(hs:∀ i x σ H,xs[i]?=some x->Pv i σ H->g x σ H fun σ2 H2=>t { D with nx:=Pv (i+1),ct:=Pv (i+1),bk:=D.nx } σ2 H2)(hd:∀ σ H,Pv xs.length σ H->D.nx σ H):ForT K a g t D σ H:=AU6 Pv h0 hl hs hd
end
inductive All2 {α β:Type}(R:α->β->Prop):List α->List β->Prop
 | nil:All2 R [] []
 | cons {a:α}{b:β}{as:List α}{bs:List β}(h:R a b) (r:All2 R as bs):All2 R (a::as) (b::bs)
section
variable {α β:Type}{R S:α->β->Prop}{as:List α}{bs:List β}
theorem All2.len (h:All2 R as bs):as.length=bs.length:=by
 induction h with
 | nil=>rfl
 | cons _ _ ih=>rw [List.length_cons,List.length_cons,ih]
theorem All2.imp (h:All2 R as bs)(k:∀ a b,a∈as->R a b->S a b):All2 S as bs:=by
 induction h with
 | nil=>exact .nil
 | cons h _ ih=>exact .cons (k _ _ List.mem_cons_self h) (ih fun a b m=>k a b (List.mem_cons_of_mem _ m))
theorem All2.snoc {a:α}{b:β}(h:All2 R as bs)(k:R a b):All2 R (as++[a]) (bs++[b]):=by
 induction h with
 | nil=>exact .cons k .nil
 | cons h _ ih=>exact .cons h ih
theorem All2.get (h:All2 R as bs):∀ {i:Nat}{b:β},bs[i]?=some b->∃ a,as[i]?=some a/\R a b:=by
 induction h with
 | nil=>intro i b e; simp at e
 | cons h _ ih =>
  intro i b e
  cases i with
  | zero=>cases e; exact ⟨_,rfl,h⟩
  | succ i=>exact ih e
end
mutual
inductive Tr where
 | any
 | kind (us:List Str)
 | place (us:List Str)
 | weight (n:Int)
 | not (t:Tr)
 | both (ts:Trs)
 | either (ts:Trs)
inductive Trs where
 | nil
 | cons (t:Tr) (ts:Trs)
end
def Trs.ofL:List Tr->Trs
 | []=>.nil
 | t::ts=>.cons t (Trs.ofL ts)
mutual
def Tr.ev (k p:Str)(w:Int):Tr->Bool
 | .any=>true
 | .kind us=>decide (k∈us)
 | .place us=>decide (p∈us)
 | .weight n=>decide (n<=w)
 | .not t=>!Tr.ev k p w t
 | .both ts=>(Trs.ev k p w ts).all id
 | .either ts=>(Trs.ev k p w ts).any id
def Trs.ev (k p:Str)(w:Int):Trs->List Bool
 | .nil=>[]
 | .cons t ts=>Tr.ev k p w t::Trs.ev k p w ts
end
mutual
def Tr.dp:Tr->Nat
 | .any=>0
 | .kind _=>0
 | .place _=>0
 | .weight _=>0
 | .not t=>Tr.dp t+1
 | .both ts=>Trs.dp ts+1
 | .either ts=>Trs.dp ts+1
def Trs.dp:Trs->Nat
 | .nil=>0
 | .cons t ts=>max (Tr.dp t) (Trs.dp ts)
end
mutual
def Tr.cnt:Tr->Nat
 | .any=>1
 | .kind us=>us.length
 | .place us=>us.length
 | .weight _=>1
 | .not t=>Tr.cnt t
 | .both ts=>Trs.cnt ts
 | .either ts=>Trs.cnt ts
def Trs.cnt:Trs->Nat
 | .nil=>0
 | .cons t ts=>Tr.cnt t+Trs.cnt ts
end
def AZ3 (us:List Str):Prop:=us≠[]/\us.length<=6/\(∀ u∈us,cP u)/\us.Nodup
def Trs.toL:Trs->List Tr
 | .nil=>[]
 | .cons t ts=>t::ts.toL
mutual
def Tr.ok:Tr->Prop
 | .any=>True
 | .kind us=>AZ3 us
 | .place us=>AZ3 us
 | .weight n=>0<=n/\n < 1000000
 | .not t=>Tr.ok t
 | .both ts=>2<=ts.toL.length/\ts.toL.length<=6/\Trs.ok ts
 | .either ts=>2<=ts.toL.length/\ts.toL.length<=6/\Trs.ok ts
def Trs.ok:Trs->Prop
 | .nil=>True
 | .cons t ts=>Tr.ok t/\Trs.ok ts
end
theorem eL:∀ ts:List Tr,(Trs.ofL ts).toL=ts
 | []=>rfl
 | t::ts=>by rw [Trs.ofL,Trs.toL,eL ts]
theorem vO {k p:Str}{w:Int}:∀ ts:Trs,Trs.ev k p w ts=ts.toL.map (Tr.ev k p w)
 | .nil=>rfl
 | .cons t ts=>by rw [Trs.ev,Trs.toL,List.map_cons,vO ts]
theorem jG:∀ {ts:Trs}{t:Tr},t∈ts.toL->t.dp<=ts.dp
 | .nil,t,h=>by cases h
 | .cons s ts,t,h=>by
  rw [Trs.toL] at h
  rw [Trs.dp]
  rcases List.mem_cons.mp h with rfl | h
  ·exact Nat.le_max_left _ _
  ·exact Nat.le_trans (jG h) (Nat.le_max_right _ _)
theorem mL {n:Nat}:∀ {ts:Trs},(∀ t∈ts.toL,t.dp<=n)->ts.dp<=n
 | .nil,_=>Nat.zero_le _
 | .cons s ts,h=>by
  rw [Trs.toL] at h
  rw [Trs.dp]
  exact Nat.max_le.mpr ⟨h s List.mem_cons_self,mL fun t m=>h t (List.mem_cons_of_mem _ m)⟩
theorem trs_ok:∀ {ts:Trs},ts.ok ↔ ∀ t∈ts.toL,t.ok
 | .nil=>⟨fun _ t h=>(by cases h),fun _=>trivial⟩
 | .cons s ts=>by
  rw [Trs.toL,Trs.ok,trs_ok]
  exact ⟨fun h t m=>by
   rcases List.mem_cons.mp m with rfl | m
   ·exact h.1
   ·exact h.2 t m,fun h=>⟨h s List.mem_cons_self,fun t m=>h t (List.mem_cons_of_mem _ m)⟩⟩
theorem AI5 {n:Nat}:∀ {ts:Trs},(∀ t∈ts.toL,t.cnt<=n)->ts.cnt<=n * ts.toL.length
 | .nil,_=>Nat.zero_le _
 | .cons s ts,h=>by
  rw [Trs.toL] at h
  rw [Trs.toL,Trs.cnt,List.length_cons,Nat.mul_succ]
  have h1:=h s List.mem_cons_self
  have h2:=AI5 (ts:=ts) fun t m=>h t (List.mem_cons_of_mem _ m)
  omega
def Tr.tag:Tr->Nat
 | .any=>0
 | .kind _=>1
 | .place _=>2
 | .weight _=>3
 | .not _=>4
 | .both _=>5
 | .either _=>6
mutual
def Tr.At (H:Hp):Tr->V->Prop
 | .any,v=>∃ p,v=.ref p/\H p=some (.tup [.str "any"])
 | .kind us,v=>∃ p l,v=.ref p/\H p=some (.tup [.str "kind",.ref l])/\H l=some (.tup (us.map V.str))
 | .place us,v=>∃ p l,v=.ref p/\H p=some (.tup [.str "place",.ref l])/\H l=some (.tup (us.map V.str))
 | .weight n,v=>∃ p,v=.ref p/\H p=some (.tup [.str "weight",.int n])
 | .not t,v=>∃ p y,v=.ref p/\H p=some (.tup [.str "not",y])/\Tr.At H t y
 | .both ts,v=>∃ p l xs,v=.ref p/\H p=some (.tup [.str "both",.ref l])/\H l=some (.tup xs)/\Trs.At H ts xs
 | .either ts,v=>∃ p l xs,v=.ref p/\H p=some (.tup [.str "either",.ref l])/\H l=some (.tup xs)/\Trs.At H ts xs
def Trs.At (H:Hp):Trs->List V->Prop
 | .nil,xs=>xs=[]
 | .cons t ts,xs=>∃ y ys,xs=y::ys/\Tr.At H t y/\Trs.At H ts ys
end
theorem trs_at {H:Hp}:∀ {ts:Trs}{xs:List V},Trs.At H ts xs ↔ All2 (Tr.At H) ts.toL xs
 | .nil,xs=>by
  rw [Trs.At,Trs.toL]
  exact ⟨fun h=>h ▸ .nil,fun h=>by cases h; rfl⟩
 | .cons t ts,xs=>by
  rw [Trs.At,Trs.toL]
  constructor
  ·rintro ⟨y,ys,rfl,h1,h2⟩
   exact .cons h1 (trs_at.mp h2)
  ·intro h
   cases h with
   | cons h1 h2=>exact ⟨_,_,rfl,h1,trs_at.mpr h2⟩
def BB2 (H H':Hp):Prop:=∀ b xs,H b=some (.tup xs)->H' b=some (.tup xs)
theorem qH {H H':Hp}(s:Same H H'):BB2 H H':=fun b _ e=>s b _ e
mutual
theorem Tr.At.keep {H H':Hp}(s:BB2 H H'):∀ {t:Tr}{v:V},Tr.At H t v->Tr.At H' t v
 | .any,v,h=>by rw [Tr.At] at h ⊢; obtain ⟨p,e,h⟩:=h; exact ⟨p,e,s _ _ h⟩
 | .kind us,v,h=>by rw [Tr.At] at h ⊢; obtain ⟨p,l,e,h,k⟩:=h; exact ⟨p,l,e,s _ _ h,s _ _ k⟩
 | .place us,v,h=>by rw [Tr.At] at h ⊢; obtain ⟨p,l,e,h,k⟩:=h; exact ⟨p,l,e,s _ _ h,s _ _ k⟩
 | .weight n,v,h=>by rw [Tr.At] at h ⊢; obtain ⟨p,e,h⟩:=h; exact ⟨p,e,s _ _ h⟩
 | .not t,v,h=>by rw [Tr.At] at h ⊢; obtain ⟨p,y,e,h,k⟩:=h; exact ⟨p,y,e,s _ _ h,Tr.At.keep s k⟩
 | .both ts,v,h=>by rw [Tr.At] at h ⊢; obtain ⟨p,l,xs,e,h,k,m⟩:=h; exact ⟨p,l,xs,e,s _ _ h,s _ _ k,Trs.At.keep s m⟩
 | .either ts,v,h=>by rw [Tr.At] at h ⊢; obtain ⟨p,l,xs,e,h,k,m⟩:=h; exact ⟨p,l,xs,e,s _ _ h,s _ _ k,Trs.At.keep s m⟩
theorem Trs.At.keep {H H':Hp}(s:BB2 H H'):∀ {ts:Trs}{xs:List V},Trs.At H ts xs->Trs.At H' ts xs
 | .nil,xs,h=>by rw [Trs.At] at h ⊢; exact h
 | .cons t ts,xs,h=>by rw [Trs.At] at h ⊢; obtain ⟨y,ys,e,h1,h2⟩:=h; exact ⟨y,ys,e,Tr.At.keep s h1,Trs.At.keep s h2⟩
end
theorem Tr.At.same {H H':Hp}{t:Tr}{v:V}(h:Tr.At H t v)(s:Same H H'):Tr.At H' t v:=h.keep (qH s)
theorem AQ3 {H H':Hp}{w:Addr}(W:Well3 H w)(s:But w H H'):BB2 H H':=fun b xs e=>s b _ (fun z=>by
 obtain ⟨x,y,u,q⟩:=W
 rw [z,q] at e
 cases e) e
theorem Tr.At.but3 {H H':Hp}{w:Addr}{t:Tr}{v:V}(h:Tr.At H t v)(W:Well3 H w)(s:But w H H'):Tr.At H' t v:=h.keep (AQ3 W s)
structure FC where
 Any:Addr
 Kind:Addr
 Place:Addr
 Least:Addr
 Not:Addr
 Both:Addr
 Either:Addr
 Z:Addr->Prop
def Tr.cls (c:FC):Tr->Addr
 | .any=>c.Any
 | .kind _=>c.Kind
 | .place _=>c.Place
 | .weight _=>c.Least
 | .not _=>c.Not
 | .both _=>c.Both
 | .either _=>c.Either
mutual
def Tr.Fit (c:FC)(H:Hp):Tr->V->Prop
 | .any,v=>∃ p dx,v=.ref p/\H p=some (.ins c.Any dx [])
 | .kind us,v=>∃ p dx l,v=.ref p/\H p=some (.ins c.Kind dx [("names",.ref l)])/\H l=some (.lst (us.map V.str))/\c.Z l
 | .place us,v=>∃ p dx l,v=.ref p/\H p=some (.ins c.Place dx [("names",.ref l)])/\H l=some (.lst (us.map V.str))/\c.Z l
 | .weight n,v=>∃ p dx,v=.ref p/\H p=some (.ins c.Least dx [("weight",.int n)])
 | .not t,v=>∃ p dx y,v=.ref p/\H p=some (.ins c.Not dx [("fit",y)])/\Tr.Fit c H t y
 | .both ts,v=>∃ p dx l xs,v=.ref p/\H p=some (.ins c.Both dx [("fits",.ref l)])/\H l=some (.lst xs)/\c.Z l/\Trs.Fit c H ts xs
 | .either ts,v=>∃ p dx l xs,v=.ref p/\H p=some (.ins c.Either dx [("fits",.ref l)])/\H l=some (.lst xs)/\c.Z l/\Trs.Fit c H ts xs
def Trs.Fit (c:FC)(H:Hp):Trs->List V->Prop
 | .nil,xs=>xs=[]
 | .cons t ts,xs=>∃ y ys,xs=y::ys/\Tr.Fit c H t y/\Trs.Fit c H ts ys
end
theorem trs_fit {c:FC}{H:Hp}:∀ {ts:Trs}{xs:List V},Trs.Fit c H ts xs ↔ All2 (Tr.Fit c H) ts.toL xs
 | .nil,xs=>by
  rw [Trs.Fit,Trs.toL]
  exact ⟨fun h=>h ▸ .nil,fun h=>by cases h; rfl⟩
 | .cons t ts,xs=>by
  rw [Trs.Fit,Trs.toL]
  constructor
  ·rintro ⟨y,ys,rfl,h1,h2⟩
   exact .cons h1 (trs_fit.mp h2)
  ·intro h
   cases h with
   | cons h1 h2=>exact ⟨_,_,rfl,h1,trs_fit.mpr h2⟩
mutual
theorem Tr.Fit.same {c:FC}{H H':Hp}(s:Same H H'):∀ {t:Tr}{v:V},Tr.Fit c H t v->Tr.Fit c H' t v
 | .any,v,h=>by rw [Tr.Fit] at h ⊢; obtain ⟨p,d,e,h⟩:=h; exact ⟨p,d,e,s _ _ h⟩
 | .kind us,v,h=>by rw [Tr.Fit] at h ⊢; obtain ⟨p,d,l,e,h,k,z⟩:=h; exact ⟨p,d,l,e,s _ _ h,s _ _ k,z⟩
 | .place us,v,h=>by rw [Tr.Fit] at h ⊢; obtain ⟨p,d,l,e,h,k,z⟩:=h; exact ⟨p,d,l,e,s _ _ h,s _ _ k,z⟩
 | .weight n,v,h=>by rw [Tr.Fit] at h ⊢; obtain ⟨p,d,e,h⟩:=h; exact ⟨p,d,e,s _ _ h⟩
 | .not t,v,h=>by rw [Tr.Fit] at h ⊢; obtain ⟨p,d,y,e,h,k⟩:=h; exact ⟨p,d,y,e,s _ _ h,Tr.Fit.same s k⟩
 | .both ts,v,h=>by rw [Tr.Fit] at h ⊢; obtain ⟨p,d,l,xs,e,h,k,z,m⟩:=h; exact ⟨p,d,l,xs,e,s _ _ h,s _ _ k,z,Trs.Fit.same s m⟩
 | .either ts,v,h=>by rw [Tr.Fit] at h ⊢; obtain ⟨p,d,l,xs,e,h,k,z,m⟩:=h; exact ⟨p,d,l,xs,e,s _ _ h,s _ _ k,z,Trs.Fit.same s m⟩
theorem Trs.Fit.same {c:FC}{H H':Hp}(s:Same H H'):∀ {ts:Trs}{xs:List V},Trs.Fit c H ts xs->Trs.Fit c H' ts xs
 | .nil,xs,h=>by rw [Trs.Fit] at h ⊢; exact h
 | .cons t ts,xs,h=>by rw [Trs.Fit] at h ⊢; obtain ⟨y,ys,e,h1,h2⟩:=h; exact ⟨y,ys,e,Tr.Fit.same s h1,Trs.Fit.same s h2⟩
end
mutual
theorem Tr.Fit.mono {c:FC}{Z:Addr->Prop}{H:Hp}(s:∀ l,c.Z l->Z l):∀ {t:Tr}{v:V},Tr.Fit c H t v->Tr.Fit { c with Z:=Z } H t v
 | .any,v,h=>by rw [Tr.Fit] at h ⊢; exact h
 | .kind us,v,h=>by rw [Tr.Fit] at h ⊢; obtain ⟨p,d,l,e,h,k,z⟩:=h; exact ⟨p,d,l,e,h,k,s l z⟩
 | .place us,v,h=>by rw [Tr.Fit] at h ⊢; obtain ⟨p,d,l,e,h,k,z⟩:=h; exact ⟨p,d,l,e,h,k,s l z⟩
 | .weight n,v,h=>by rw [Tr.Fit] at h ⊢; exact h
 | .not t,v,h=>by rw [Tr.Fit] at h ⊢; obtain ⟨p,d,y,e,h,k⟩:=h; exact ⟨p,d,y,e,h,Tr.Fit.mono s k⟩
 | .both ts,v,h=>by rw [Tr.Fit] at h ⊢; obtain ⟨p,d,l,xs,e,h,k,z,m⟩:=h; exact ⟨p,d,l,xs,e,h,k,s l z,Trs.Fit.mono s m⟩
 | .either ts,v,h=>by rw [Tr.Fit] at h ⊢; obtain ⟨p,d,l,xs,e,h,k,z,m⟩:=h; exact ⟨p,d,l,xs,e,h,k,s l z,Trs.Fit.mono s m⟩
theorem Trs.Fit.mono {c:FC}{Z:Addr->Prop}{H:Hp}(s:∀ l,c.Z l->Z l):∀ {ts:Trs}{xs:List V},Trs.Fit c H ts xs->Trs.Fit { c with Z:=Z } H ts xs
 | .nil,xs,h=>by rw [Trs.Fit] at h ⊢; exact h
 | .cons t ts,xs,h=>by rw [Trs.Fit] at h ⊢; obtain ⟨y,ys,e,h1,h2⟩:=h; exact ⟨y,ys,e,Tr.Fit.mono s h1,Trs.Fit.mono s h2⟩
end
mutual
theorem Tr.Fit.but {c:FC}{H H':Hp}{w:Addr}{ws:List V}(hz:∀ l,c.Z l->l≠w)(hw:H w=some (.lst ws))(s:But w H H'):∀ {t:Tr}{v:V},Tr.Fit c H t v->Tr.Fit c H' t v
 | .any,v,h=>by rw [Tr.Fit] at h ⊢; obtain ⟨p,d,e,h⟩:=h; exact ⟨p,d,e,s _ _ (fun z=>by rw [z,hw] at h; cases h) h⟩
 | .kind us,v,h=>by rw [Tr.Fit] at h ⊢; obtain ⟨p,d,l,e,h,k,z⟩:=h; exact ⟨p,d,l,e,s _ _ (fun z=>by rw [z,hw] at h; cases h) h,s _ _ (hz l z) k,z⟩
 | .place us,v,h=>by rw [Tr.Fit] at h ⊢; obtain ⟨p,d,l,e,h,k,z⟩:=h; exact ⟨p,d,l,e,s _ _ (fun z=>by rw [z,hw] at h; cases h) h,s _ _ (hz l z) k,z⟩
 | .weight n,v,h=>by rw [Tr.Fit] at h ⊢; obtain ⟨p,d,e,h⟩:=h; exact ⟨p,d,e,s _ _ (fun z=>by rw [z,hw] at h; cases h) h⟩
 | .not t,v,h=>by rw [Tr.Fit] at h ⊢; obtain ⟨p,d,y,e,h,k⟩:=h; exact ⟨p,d,y,e,s _ _ (fun z=>by rw [z,hw] at h; cases h) h,Tr.Fit.but hz hw s k⟩
 | .both ts,v,h=>by rw [Tr.Fit] at h ⊢; obtain ⟨p,d,l,xs,e,h,k,z,m⟩:=h; exact ⟨p,d,l,xs,e,s _ _ (fun z=>by rw [z,hw] at h; cases h) h,s _ _ (hz l z) k,z,Trs.Fit.but hz hw s m⟩
 | .either ts,v,h=>by rw [Tr.Fit] at h ⊢; obtain ⟨p,d,l,xs,e,h,k,z,m⟩:=h; exact ⟨p,d,l,xs,e,s _ _ (fun z=>by rw [z,hw] at h; cases h) h,s _ _ (hz l z) k,z,Trs.Fit.but hz hw s m⟩
theorem Trs.Fit.but {c:FC}{H H':Hp}{w:Addr}{ws:List V}(hz:∀ l,c.Z l->l≠w)(hw:H w=some (.lst ws))(s:But w H H'):∀ {ts:Trs}{xs:List V},Trs.Fit c H ts xs->Trs.Fit c H' ts xs
 | .nil,xs,h=>by rw [Trs.Fit] at h ⊢; exact h
 | .cons t ts,xs,h=>by rw [Trs.Fit] at h ⊢; obtain ⟨y,ys,e,h1,h2⟩:=h; exact ⟨y,ys,e,Tr.Fit.but hz hw s h1,Trs.Fit.but hz hw s h2⟩
end
theorem Tr.Fit.ins {c:FC}{H:Hp}{t:Tr}{v:V}(h:Tr.Fit c H t v):∃ p dx fs,v=.ref p/\H p=some (.ins (t.cls c) dx fs)/\fs.lookup ("fits_it":Str)=none:=by
 cases t with
 | any=>rw [Tr.Fit] at h; obtain ⟨p,d,e,h⟩:=h; exact ⟨p,d,_,e,h,rfl⟩
 | kind us=>rw [Tr.Fit] at h; obtain ⟨p,d,l,e,h,_⟩:=h; exact ⟨p,d,_,e,h,rfl⟩
 | place us=>rw [Tr.Fit] at h; obtain ⟨p,d,l,e,h,_⟩:=h; exact ⟨p,d,_,e,h,rfl⟩
 | weight n=>rw [Tr.Fit] at h; obtain ⟨p,d,e,h⟩:=h; exact ⟨p,d,_,e,h,rfl⟩
 | not t=>rw [Tr.Fit] at h; obtain ⟨p,d,y,e,h,_⟩:=h; exact ⟨p,d,_,e,h,rfl⟩
 | both ts=>rw [Tr.Fit] at h; obtain ⟨p,d,l,xs,e,h,_⟩:=h; exact ⟨p,d,_,e,h,rfl⟩
 | either ts=>rw [Tr.Fit] at h; obtain ⟨p,d,l,xs,e,h,_⟩:=h; exact ⟨p,d,_,e,h,rfl⟩
def DtAt (H:Hp)(n:Nat)(x:V):Prop:=∃ d,RD H x d/\PyData.canLay0 d=true/\PyData.depth d<=n
theorem DtAt.mono {H:Hp}{n m:Nat}{x:V}(h:DtAt H n x)(k:n<=m):DtAt H m x:=let ⟨d,r,c,e⟩:=h; ⟨d,r,c,Nat.le_trans e k⟩
theorem dts {H:Hp}{n:Nat}:∀ {xs:List V},(∀ x∈xs,DtAt H n x)->∃ ds,RDs H xs ds/\PyData.canLayAll0 ds=true/\PyData.depthAll ds<=n/\ds.length=xs.length
 | [],_=>⟨[],.nil,by simp [PyData.canLayAll0],by simp [PyData.depthAll],rfl⟩
 | x::xs,h=>by
  obtain ⟨d,r,c,e⟩:=h x List.mem_cons_self
  obtain ⟨ds,rs,cs,es,ls⟩:=dts (xs:=xs) fun y m=>h y (List.mem_cons_of_mem _ m)
  exact ⟨d::ds,.cons r rs,by simp only [PyData.canLayAll0,c,cs,Bool.and_self],by simp only [PyData.depthAll]; exact Nat.max_le.mpr ⟨e,es⟩,by rw [List.length_cons,List.length_cons,ls]⟩
theorem jH {H:Hp}{n:Nat}{p:Addr}{xs:List V}(h:H p=some (.tup xs))(hx:∀ x∈xs,DtAt H n x):DtAt H (n+1) (.ref p):=by
 obtain ⟨ds,rs,cs,es,_⟩:=dts hx
 exact ⟨.tuple ds,.tup h rs,by simp only [PyData.canLay0]; exact cs,by simp only [PyData.depth]; omega⟩
theorem oS {H:Hp}{n:Nat}{u:Str}(h:PyData.strOk u=true):DtAt H n (.str u):=⟨.str u,.str u,by simp only [PyData.canLay0]; exact h,by simp only [PyData.depth]; omega⟩
theorem BF3 {H:Hp}{n:Nat}{i:Int}:DtAt H n (.int i):=⟨.int i,.int i,by simp only [PyData.canLay0],by simp only [PyData.depth]; omega⟩
theorem xI {H:Hp}{n:Nat}{us:List Str}(h:∀ u∈us,cP u):∀ x∈us.map V.str,DtAt H n x:=fun x hx=>by
 obtain ⟨u,hu,rfl⟩:=List.mem_map.mp hx
 exact oS (AN9 (h u hu))
theorem sR {H:Hp}{n:Nat}{x y:V}(h1:DtAt H n x)(h2:DtAt H n y):∀ z∈[x,y],DtAt H n z:=fun z hz=>by
 simp only [List.mem_cons,List.not_mem_nil,or_false] at hz
 rcases hz with rfl | rfl
 ·exact h1
 ·exact h2
mutual
theorem Tr.At.dt {H:Hp}:∀ {t:Tr}{v:V},t.ok->t.At H v->DtAt H (2 * t.dp+2) v
 | .any,v,ho,h=>by
  rw [Tr.At] at h
  rw [Tr.dp]
  obtain ⟨p,rfl,h⟩:=h
  exact jH h fun x hx=>by rw [List.mem_singleton.mp hx]; exact oS (by decide +kernel)
 | .kind us,v,ho,h=>by
  rw [Tr.At] at h
  rw [Tr.ok] at ho
  rw [Tr.dp]
  obtain ⟨p,l,rfl,h,k⟩:=h
  exact jH h (sR (oS (by decide +kernel)) (jH k (xI ho.2.2.1)))
 | .place us,v,ho,h=>by
  rw [Tr.At] at h
  rw [Tr.ok] at ho
  rw [Tr.dp]
  obtain ⟨p,l,rfl,h,k⟩:=h
  exact jH h (sR (oS (by decide +kernel)) (jH k (xI ho.2.2.1)))
 | .weight n,v,ho,h=>by
  rw [Tr.At] at h
  rw [Tr.dp]
  obtain ⟨p,rfl,h⟩:=h
  exact jH h (sR (oS (by decide +kernel)) BF3)
 | .not t,v,ho,h=>by
  rw [Tr.At] at h
  rw [Tr.ok] at ho
  rw [Tr.dp]
  obtain ⟨p,y,rfl,h,k⟩:=h
  exact (jH h (sR (oS (by decide +kernel)) (Tr.At.dt ho k))).mono (by omega)
 | .both ts,v,ho,h=>by
  rw [Tr.At] at h
  rw [Tr.ok] at ho
  rw [Tr.dp]
  obtain ⟨p,l,xs,rfl,h,k,m⟩:=h
  exact (jH h (sR (oS (by decide +kernel)) (jH k (Trs.At.dt ho.2.2 m)))).mono (by omega)
 | .either ts,v,ho,h=>by
  rw [Tr.At] at h
  rw [Tr.ok] at ho
  rw [Tr.dp]
  obtain ⟨p,l,xs,rfl,h,k,m⟩:=h
  exact (jH h (sR (oS (by decide +kernel)) (jH k (Trs.At.dt ho.2.2 m)))).mono (by omega)
theorem Trs.At.dt {H:Hp}:∀ {ts:Trs}{xs:List V},ts.ok->ts.At H xs->∀ x∈xs,DtAt H (2 * ts.dp+2) x
 | .nil,xs,_,h=>by
  rw [Trs.At] at h
  rw [h]
  intro x hx
  cases hx
 | .cons t ts,xs,ho,h=>by
  rw [Trs.At] at h
  rw [Trs.ok] at ho
  rw [Trs.dp]
  obtain ⟨y,ys,rfl,h1,h2⟩:=h
  intro x hx
  rcases List.mem_cons.mp hx with rfl | hx
  ·exact (Tr.At.dt ho.1 h1).mono (by omega)
  ·exact (Trs.At.dt ho.2 h2 x hx).mono (by omega)
end
theorem xJ {H:Hp}{p q:Addr}{xs:List V}{n:Nat}{b:Bool}{Q:VK}(h1:H p=some (.lst xs))(h2:H q=some (.lst []))(hn:n<=60)(hx:∀ x∈xs,DtAt H n x)(k:Q (.bl (xs.isEmpty == b)) H):BE7 b (.ref p) (.ref q) H Q:=by
 obtain ⟨ds,rs,cs,es,ls⟩:=dts hx
 refine ⟨_,_,.lst h1 rs,.lst h2 .nil,(qF (Nat.le_trans es hn) ⟨cs,rfl⟩).1,(qF (Nat.zero_le _) ⟨by simp [PyData.canLayAll0],by simp [PyData.depthAll]⟩).1,?_⟩
 rw [AX9]
 have:ds.isEmpty=xs.isEmpty:=by
  cases ds <;> cases xs <;> first | rfl | cases ls
 rw [this]
 exact k
def ThAt (H:Hp)(x:V)(k p:Str)(w:Int):Prop:=∃ tp,x=.ref tp/\H tp=some (.tup [.str k,.str p,.int w])/\cP k/\cP p/\0<=w/\w < 1000000
theorem ThAt.same {H H':Hp}{x:V}{k p:Str}{w:Int}(h:ThAt H x k p w)(s:Same H H'):ThAt H' x k p w:=by
 obtain ⟨tp,e,h,r⟩:=h
 exact ⟨tp,e,s _ _ h,r⟩
section
variable {prog:Program}{w:World}{A:Around}{E:Value->Shared->Prop}
end
section
variable {X:Cx}{pos:Pos}
end
mutual
def Tr.okl:Tr->Prop
 | .any=>True
 | .kind us=>AZ3 us
 | .place us=>AZ3 us
 | .weight n=>0<=n/\n < 1000000
 | .not t=>Tr.okl t
 | .both ts=>Trs.okl ts
 | .either ts=>Trs.okl ts
def Trs.okl:Trs->Prop
 | .nil=>True
 | .cons t ts=>Tr.okl t/\Trs.okl ts
end
theorem trs_okl:∀ {ts:Trs},ts.okl ↔ ∀ t∈ts.toL,t.okl
 | .nil=>⟨fun _ t h=>(by cases h),fun _=>trivial⟩
 | .cons s ts=>by
  rw [Trs.toL,Trs.okl,trs_okl]
  exact ⟨fun h t m=>by
   rcases List.mem_cons.mp m with rfl | m
   ·exact h.1
   ·exact h.2 t m,fun h=>⟨h s List.mem_cons_self,fun t m=>h t (List.mem_cons_of_mem _ m)⟩⟩
mutual
theorem Tr.ok.l:∀ {t:Tr},t.ok->t.okl
 | .any,_=>trivial
 | .kind us,h=>by rw [Tr.ok] at h; rw [Tr.okl]; exact h
 | .place us,h=>by rw [Tr.ok] at h; rw [Tr.okl]; exact h
 | .weight n,h=>by rw [Tr.ok] at h; rw [Tr.okl]; exact h
 | .not t,h=>by rw [Tr.ok] at h; rw [Tr.okl]; exact Tr.ok.l h
 | .both ts,h=>by rw [Tr.ok] at h; rw [Tr.okl]; exact Trs.ok.l h.2.2
 | .either ts,h=>by rw [Tr.ok] at h; rw [Tr.okl]; exact Trs.ok.l h.2.2
theorem Trs.ok.l:∀ {ts:Trs},ts.ok->ts.okl
 | .nil,_=>trivial
 | .cons t ts,h=>by rw [Trs.ok] at h; rw [Trs.okl]; exact ⟨Tr.ok.l h.1,Trs.ok.l h.2⟩
end
section
variable {K:Frag}{σ:L2.St}{H:Hp}{Q:VK}{g:TG}{te ta tk tv:TE}{tA:TA}{t:TS}{D:Ends}{i:Nat}{ti:TIp}
theorem AZ4:BM6 i te ti D σ H=∃ x,σ[i]?=some (some x)/\te σ H fun y H1=>ti x y H1 fun z H2=>D.nx (σ.set i (some z)) H2:=rfl
theorem AI6:AT1 σ H Q=∀ p,H p=none->Q (.ref p) (L2.upd H p (.dK [])):=rfl
theorem AI7:BE8 [(tk,tv)] σ H Q=∀ p,H p=none->tk σ (L2.upd H p (.dK [])) fun x H1=>tv σ H1 fun y H2=>(H2 p=some (.dK [])/\∃ kvs:List (Key × V),[(x,y)]=kvs.map (fun kv=>(kV kv.1,kv.2))/\kvs.length<=15/\Q (.ref p) (L2.upd H2 p (.dK (mI [] kvs)))):=rfl
def ForE (K:Frag)(a:Addr)(g:TG)(tb:TS)(D:Ends)(σ:L2.St)(H:Hp):Prop:=∃ W:Nat->Nat->L2.St->Hp->Prop,(∃ m,W 0 m σ H)/\∀ i m σ H,W i m σ H ->
   ((Ite K a).stop i H/\D.nx σ H)\/((Ite K a).go i H/\∃ N:L2.St->Hp->Prop,(∀ σ' H',N σ' H'->∃ m',m' < m/\W (i+1) m' σ' H')/\∀ x H',(Ite K a).yld i H x H'->g x σ H' fun σ2 H2=>tb { D with nx:=N,ct:=N,bk:=D.nx } σ2 H2)
theorem AI8:BA8 (AY7 K tA) g t D σ H=tA σ H (fun vs H1=>∃ a,vs=[.ref a]/\(∃ xs,SqL K H1 a xs)/\ForE K a g t D σ H1):=rfl
theorem ForE.by {a:Addr}{xs:List V}(Pv:Nat->L2.St->Hp->Prop)(h0:Pv 0 σ H)(hl:∀ i σ H,i<=xs.length->Pv i σ H->SqL K H a xs)(hs:∀ i x σ H p,xs[i]?=some x->Pv i σ H->H p=none->g (.ref p) σ (L2.upd H p (.tup [.int (i:Nat),x])) fun σ2 H2=>t { D with nx:=Pv (i+1),ct:=Pv (i+1),bk:=D.nx } σ2 H2)(hd:∀ σ H,Pv xs.length σ H->D.nx σ H):ForE K a g t D σ H:=by
  refine ⟨fun i m σ H=>m=xs.length - i/\i<=xs.length/\Pv i σ H,⟨xs.length,by simp,Nat.zero_le _,h0⟩,?_⟩
  rintro i m σ H ⟨rfl,hi,p⟩
  have q:=hl i σ H hi p
  by_cases hlt:i < xs.length
  · refine .inr ⟨⟨xs,xs[i],q,by simp [hlt]⟩,Pv (i+1),fun σ' H' p'=>⟨xs.length - (i+1),by omega,rfl,hlt,p'⟩,fun x H' y=>?_⟩
    obtain ⟨pt,y1,e1,hn,e2,y⟩:=y
    subst e1 e2
    exact hs i y1 σ _ pt (y xs q) p hn
  · have e:i=xs.length:=by omega
    subst e
    exact .inl ⟨⟨xs,q,Nat.le_refl _⟩,hd σ H p⟩
def ForS (u:Str)(g:TG)(tb:TS)(D:Ends)(σ:L2.St)(H:Hp):Prop:=∃ W:Nat->Nat->L2.St->Hp->Prop,(∃ m,W 0 m σ H)/\∀ i m σ H,W i m σ H ->
   ((Its u).stop i H/\D.nx σ H)\/((Its u).go i H/\∃ N:L2.St->Hp->Prop,(∀ σ' H',N σ' H'->∃ m',m' < m/\W (i+1) m' σ' H')/\∀ x H',(Its u).yld i H x H'->g x σ H' fun σ2 H2=>tb { D with nx:=N,ct:=N,bk:=D.nx } σ2 H2)
theorem AI9:BA8 (BK8 ta) g t D σ H=ta σ H (fun x H1=>∃ u,x=.str u/\mG u=true/\ForS u g t D σ H1):=rfl
theorem ForS.by {u:Str}(Pv:Nat->L2.St->Hp->Prop)(h0:Pv 0 σ H)(hs:∀ i c σ H,u.cps[i]?=some c->Pv i σ H->g (.str ⟨#[c]⟩) σ H fun σ2 H2=>t { D with nx:=Pv (i+1),ct:=Pv (i+1),bk:=D.nx } σ2 H2)(hd:∀ σ H,Pv u.cps.size σ H->D.nx σ H):ForS u g t D σ H:=by
  refine ⟨fun i m σ H=>m=u.cps.size - i/\i<=u.cps.size/\Pv i σ H,⟨u.cps.size,by simp,Nat.zero_le _,h0⟩,?_⟩
  rintro i m σ H ⟨rfl,hi,p⟩
  by_cases hlt:i < u.cps.size
  · refine .inr ⟨hlt,Pv (i+1),fun σ' H' p'=>⟨u.cps.size - (i+1),by omega,rfl,hlt,p'⟩,fun x H' y=>?_⟩
    obtain ⟨e,c,hc,ex⟩:=y
    subst e ex
    exact hs i c σ _ hc p
  · have e:i=u.cps.size:=by omega
    subst e
    exact .inl ⟨Nat.le_refl _,hd σ H p⟩
end
section
variable {H:Hp}{Q:VK}{a:Addr}{kvs:List (Key × V)}{v:V}
theorem AZ5 {n:Int}(h:H a=some (.dK kvs))(hv:uQ kvs (Sum.inl n)=some v)(q:Q v H):BN4 (.ref a) (.int n) H Q:=⟨a,kvs,Sum.inl n,v,rfl,h,rfl,hv,q⟩
theorem BP0 {u:Str}(h:H a=some (.dK kvs))(q:Q (.bl (uQ kvs (Sum.inr u)).isSome) H):BN5 (.str u) (.ref a) H Q:=⟨a,kvs,Sum.inr u,rfl,h,rfl,q⟩
theorem BN7 {k:Key}{R:Hp->Prop}(h:H a=some (.dK kvs))(l:kvs.length<=1000)(q:R (L2.upd H a (.dK (qG kvs k v)))):BF0 (.ref a) (kV k) v H R:=⟨a,kvs,k,rfl,rfl,h,by rw [sizeLine_eq]; omega,q⟩
end
def tT:List Bool->Nat
 | []=>0
 | b::bs=>2 * tT bs+b.toNat
theorem zI:∀ (bs:List Bool) (i:Nat),(tT bs).testBit i=(bs[i]?).getD false
 | [],i=>by simp [tT]
 | b::bs,0=>by
  rw [tT,Nat.testBit_zero]
  cases b <;> simp <;> omega
 | b::bs,i+1=>by
  rw [tT,Nat.testBit_succ,List.getElem?_cons_succ,<- zI bs i]
  congr 1
  cases b <;> simp [Bool.toNat] <;> omega
def mk (ws:List Int)(f:Int->Bool):Nat:=tT (ws.map f)
theorem kQ (ws:List Int)(f:Int->Bool)(i:Nat):(mk ws f).testBit i=((ws[i]?).map f).getD false:=by
 rw [mk,zI,List.getElem?_map]
theorem tU {ws:List Int}{f g:Int->Bool}(h:∀ w∈ws,f w=g w):mk ws f=mk ws g:=by
 rw [mk,mk,List.map_congr_left h]
theorem AJ0 (ws:List Int)(f g:Int->Bool):Builtin.bitAnd (mk ws f) (mk ws g)=(mk ws (fun w=>f w && g w):Nat):=by
 have e:mk ws f &&& mk ws g=mk ws (fun w=>f w && g w):=by
  refine Nat.eq_of_testBit_eq fun i=>?_
  rw [Nat.testBit_and,kQ,kQ,kQ]
  cases ws[i]? <;> rfl
 have h:Builtin.bitAnd (mk ws f) (mk ws g)=((mk ws f &&& mk ws g:Nat):Int):=by
  unfold Builtin.bitAnd
  rw [decide_eq_true (Int.natCast_nonneg _),decide_eq_true (Int.natCast_nonneg _)]
  rfl
 rw [h,e]
theorem AJ1 (a b:Nat):Builtin.bitOr a b=((a ||| b:Nat):Int):=by
 have n:∀ x:Nat,Builtin.bitNot (x:Int)=-(x:Int) - 1:=fun x=>by unfold Builtin.bitNot; omega
 unfold Builtin.bitOr
 rw [n,n]
 unfold Builtin.bitAnd
 rw [decide_eq_false (by omega),decide_eq_false (by omega)]
 have m:∀ x:Nat,(Builtin.bitNot (-(x:Int) - 1)).toNat=x:=fun x=>by unfold Builtin.bitNot; omega
 dsimp only
 rw [m,m]
 unfold Builtin.bitNot
 omega
theorem BF4 (ws:List Int)(f g:Int->Bool):Builtin.bitOr (mk ws f) (mk ws g)=(mk ws (fun w=>f w || g w):Nat):=by
 have e:mk ws f ||| mk ws g=mk ws (fun w=>f w || g w):=by
  refine Nat.eq_of_testBit_eq fun i=>?_
  rw [Nat.testBit_or,kQ,kQ,kQ]
  cases ws[i]? <;> rfl
 rw [AJ1,e]
theorem AT3:∀ (ws:List Int) (f g:Int->Bool),(∀ w∈ws,g w=true->f w=true)->mk ws (fun w=>f w && !g w)+mk ws g=mk ws f
 | [],_,_,_=>rfl
 | w::ws,f,g,h=>by
  have ih:=AT3 ws f g fun x hx=>h x (List.mem_cons_of_mem _ hx)
  have h0:=h w (List.mem_cons_self ..)
  unfold mk at ih ⊢
  rw [List.map_cons,List.map_cons,List.map_cons,tT,tT,tT]
  cases hf:f w <;> cases hg:g w <;> rw [hf,hg] at h0 <;> simp [Bool.toNat] at h0 ⊢ <;> omega
theorem AT4 (ws:List Int)(f g:Int->Bool)(h:∀ w∈ws,g w=true->f w=true):Builtin.bitXor (mk ws f) (mk ws g)=(mk ws (fun w=>f w && !g w):Nat):=by
 unfold Builtin.bitXor
 rw [BF4,AJ0]
 have e1:mk ws (fun w=>f w || g w)=mk ws f:=tU fun w hw=>by
  have:=h w hw
  cases hf:f w <;> cases hg:g w <;> rw [hf,hg] at this <;> simp at this ⊢
 have e2:mk ws (fun w=>f w && g w)=mk ws g:=tU fun w hw=>by
  have:=h w hw
  cases hf:f w <;> cases hg:g w <;> rw [hf,hg] at this <;> simp at this ⊢
 have:=AT3 ws f g h
 rw [e1,e2]
 omega
theorem xK (ws:List Int):mk ws (fun _=>false)=0:=by
 refine Nat.eq_of_testBit_eq fun i=>?_
 rw [kQ,Nat.zero_testBit]
 cases ws[i]? <;> rfl
theorem AZ6 {ws:List Int}{f:Int->Bool}(h:mk ws f=0):∀ w∈ws,f w=false:=fun w hw=>by
 obtain ⟨i,hi⟩:=List.getElem?_of_mem hw
 have:=kQ ws f i
 rw [h,Nat.zero_testBit,hi] at this
 simpa using this.symm
theorem BF5 {ws:List Int}{f:Int->Bool}(h:mk ws f≠0):∃ w,ws[(mk ws f).log2]?=some w/\f w=true:=by
 have:=Nat.testBit_log2 h
 rw [kQ] at this
 cases e:ws[(mk ws f).log2]? with
 | none=>rw [e] at this; cases this
 | some w=>rw [e] at this; exact ⟨w,rfl,by simpa using this⟩
theorem AZ7 {m:Nat}(h:m≠0):((Builtin.Int.intBits (m:Int):Nat):Int) - 1=((m.log2:Nat):Int):=by
 unfold Builtin.Int.intBits
 rw [if_neg (by simpa using h),Int.natAbs_natCast]
 omega
structure Falls (ws:List Int):Prop where
 lt:ws.Pairwise (· > ·)
 zero:(0:Int)∈ws
 pos:∀ w∈ws,0<=w
theorem Falls.nodup {ws:List Int}(h:Falls ws):ws.Nodup:=h.lt.imp fun h e=>by omega
theorem AQ4 {ws:List Int}(h:ws.Pairwise (· > ·)){i:Nat}{n:Int}(e:ws[i]?=some n):mk ws (fun w=>decide (n<=w))=2 ^ (i+1) - 1:=by
 refine Nat.eq_of_testBit_eq fun j=>?_
 rw [kQ,Nat.testBit_two_pow_sub_one]
 obtain ⟨hi,rfl⟩:=List.getElem?_eq_some_iff.mp e
 by_cases hj:j < ws.length
 ·rw [List.getElem?_eq_getElem hj]
  simp only [Option.map_some,Option.getD_some]
  rw [decide_eq_decide]
  rcases Nat.lt_trichotomy i j with h1 | h1 | h1
  ·have:=List.pairwise_iff_getElem.mp h i j hi hj h1
   omega
  ·subst h1; omega
  ·have:=List.pairwise_iff_getElem.mp h j i hj hi h1
   omega
 ·rw [List.getElem?_eq_none (by omega)]
  simp only [Option.map_none,Option.getD_none]
  exact (decide_eq_false (by omega)).symm
def fwE (p:Int × Nat):Key × V:=(Sum.inl p.1,.int ((2 ^ (p.2+1) - 1:Nat):Int))
def fwK (ws:List Int):List (Key × V):=ws.zipIdx.map fwE
theorem AQ5 (ws:List Int)(w:Int):fwK (ws++[w])=fwK ws++[(Sum.inl w,.int ((2 ^ (ws.length+1) - 1:Nat):Int))]:=by
 unfold fwK
 rw [List.zipIdx_append,List.map_append]
 simp [fwE]
theorem AJ2:∀ (ws:List Int) (k:Nat) (w:Int),w ∉ ws->uQ ((ws.zipIdx k).map fwE) (Sum.inl w)=none
 | [],_,_,_=>rfl
 | x::ws,k,w,h=>by
  rw [List.zipIdx_cons,List.map_cons,pO (fun e=>h (by rw [<- show x=w from Sum.inl.inj e]; exact List.mem_cons_self ..))]
  exact AJ2 ws (k+1) w fun z=>h (List.mem_cons_of_mem _ z)
theorem BF6:∀ (ws:List Int) (k i:Nat) (w:Int),ws.Nodup->ws[i]?=some w->uQ ((ws.zipIdx k).map fwE) (Sum.inl w)=some (.int ((2 ^ (k+i+1) - 1:Nat):Int))
 | [],_,i,_,_,e=>by simp at e
 | x::ws,k,0,w,nd,e=>by
  have:x=w:=by simpa using e
  subst this
  rw [List.zipIdx_cons,List.map_cons,tM (by rfl)]
  rfl
 | x::ws,k,i+1,w,nd,e=>by
  have e':ws[i]?=some w:=by simpa using e
  have ne:x≠w:=fun z=>(List.nodup_cons.mp nd).1 (by rw [z]; exact List.mem_of_getElem? e')
  rw [List.zipIdx_cons,List.map_cons,pO (fun z=>ne (Sum.inl.inj z)),BF6 ws (k+1) i w (List.nodup_cons.mp nd).2 e']
  congr 5
  omega
theorem AZ8 (ws:List Int):(fwK ws).map (·.1)=ws.map Sum.inl:=by
 have:∀ (ws:List Int) (k:Nat),((ws.zipIdx k).map fwE).map (·.1)=ws.map Sum.inl:=fun ws=>by
  induction ws with
  | nil=>intro k; rfl
  | cons w ws ih=>intro k; rw [List.zipIdx_cons,List.map_cons,List.map_cons,List.map_cons,ih]; rfl
 exact this ws 0
theorem BF7 (ws:List Int):(fwK ws).length=ws.length:=by unfold fwK; rw [List.length_map,List.length_zipIdx]
theorem AT5 {ws:List Int}(h:Falls ws){n:Int}(hn:n∈ws):uQ (fwK ws) (Sum.inl n)=some (.int (mk ws (fun w=>decide (n<=w)):Nat)):=by
 obtain ⟨i,hi⟩:=List.getElem?_of_mem hn
 have:=BF6 ws 0 i n h.nodup hi
 rw [AQ4 h.lt hi]
 rw [Nat.zero_add] at this
 exact this
theorem nS {ws:List Int}(h:Falls ws):uQ (fwK ws) (Sum.inl 0)=some (.int (mk ws (fun _=>true):Nat)):=by
 rw [AT5 h h.zero]
 congr 3
 exact tU fun w hw=>decide_eq_true (h.pos w hw)
mutual
def Tr.names (b:Bool):Tr->List Str
 | .any=>[]
 | .kind us=>if b then us else []
 | .place us=>if b then [] else us
 | .weight _=>[]
 | .not t=>Tr.names b t
 | .both ts=>Trs.names b ts
 | .either ts=>Trs.names b ts
def Trs.names (b:Bool):Trs->List Str
 | .nil=>[]
 | .cons t ts=>Tr.names b t++Trs.names b ts
end
mutual
def Tr.wts:Tr->List Int
 | .any=>[]
 | .kind _=>[]
 | .place _=>[]
 | .weight n=>[n]
 | .not t=>Tr.wts t
 | .both ts=>Trs.wts ts
 | .either ts=>Trs.wts ts
def Trs.wts:Trs->List Int
 | .nil=>[]
 | .cons t ts=>Tr.wts t++Trs.wts ts
end
theorem qI (b:Bool):∀ ts:Trs,ts.names b=(ts.toL.map (Tr.names b)).flatten
 | .nil=>rfl
 | .cons t ts=>by rw [Trs.names,Trs.toL,List.map_cons,List.flatten_cons,qI b ts]
theorem qJ:∀ ts:Trs,ts.wts=(ts.toL.map Tr.wts).flatten
 | .nil=>rfl
 | .cons t ts=>by rw [Trs.wts,Trs.toL,List.map_cons,List.flatten_cons,qJ ts]
mutual
theorem Tr.names_le (b:Bool):∀ t:Tr,(t.names b).length<=t.cnt
 | .any=>Nat.zero_le _
 | .kind us=>by rw [Tr.names,Tr.cnt]; split <;> simp
 | .place us=>by rw [Tr.names,Tr.cnt]; split <;> simp
 | .weight _=>Nat.zero_le _
 | .not t=>by rw [Tr.names,Tr.cnt]; exact Tr.names_le b t
 | .both ts=>by rw [Tr.names,Tr.cnt]; exact Trs.names_le b ts
 | .either ts=>by rw [Tr.names,Tr.cnt]; exact Trs.names_le b ts
theorem Trs.names_le (b:Bool):∀ ts:Trs,(ts.names b).length<=ts.cnt
 | .nil=>Nat.zero_le _
 | .cons t ts=>by
  rw [Trs.names,Trs.cnt,List.length_append]
  exact Nat.add_le_add (Tr.names_le b t) (Trs.names_le b ts)
end
mutual
theorem Tr.wts_le:∀ t:Tr,t.wts.length<=t.cnt
 | .any=>Nat.zero_le _
 | .kind us=>Nat.zero_le _
 | .place us=>Nat.zero_le _
 | .weight _=>Nat.le_refl _
 | .not t=>by rw [Tr.wts,Tr.cnt]; exact Tr.wts_le t
 | .both ts=>by rw [Tr.wts,Tr.cnt]; exact Trs.wts_le ts
 | .either ts=>by rw [Tr.wts,Tr.cnt]; exact Trs.wts_le ts
theorem Trs.wts_le:∀ ts:Trs,ts.wts.length<=ts.cnt
 | .nil=>Nat.zero_le _
 | .cons t ts=>by
  rw [Trs.wts,Trs.cnt,List.length_append]
  exact Nat.add_le_add (Tr.wts_le t) (Trs.wts_le ts)
end
mutual
theorem Tr.names_good (b:Bool):∀ t:Tr,t.ok->∀ u∈t.names b,cP u
 | .any,_,u,h=>nomatch h
 | .kind us,o,u,h=>by
  rw [Tr.ok] at o; rw [Tr.names] at h
  split at h
  ·exact o.2.2.1 u h
  ·exact nomatch h
 | .place us,o,u,h=>by
  rw [Tr.ok] at o; rw [Tr.names] at h
  split at h
  ·exact nomatch h
  ·exact o.2.2.1 u h
 | .weight _,_,u,h=>nomatch h
 | .not t,o,u,h=>by rw [Tr.ok] at o; rw [Tr.names] at h; exact Tr.names_good b t o u h
 | .both ts,o,u,h=>by rw [Tr.ok] at o; rw [Tr.names] at h; exact Trs.names_good b ts o.2.2 u h
 | .either ts,o,u,h=>by rw [Tr.ok] at o; rw [Tr.names] at h; exact Trs.names_good b ts o.2.2 u h
theorem Trs.names_good (b:Bool):∀ ts:Trs,ts.ok->∀ u∈ts.names b,cP u
 | .nil,_,u,h=>nomatch h
 | .cons t ts,o,u,h=>by
  rw [Trs.ok] at o; rw [Trs.names] at h
  rcases List.mem_append.mp h with h | h
  ·exact Tr.names_good b t o.1 u h
  ·exact Trs.names_good b ts o.2 u h
end
mutual
theorem Tr.wts_ok:∀ t:Tr,t.ok->∀ n∈t.wts,0<=n
 | .any,_,u,h=>nomatch h
 | .kind us,_,u,h=>nomatch h
 | .place us,_,u,h=>nomatch h
 | .weight n,o,u,h=>by rw [Tr.ok] at o; rw [Tr.wts] at h; rw [List.mem_singleton.mp h]; exact o.1
 | .not t,o,u,h=>by rw [Tr.ok] at o; rw [Tr.wts] at h; exact Tr.wts_ok t o u h
 | .both ts,o,u,h=>by rw [Tr.ok] at o; rw [Tr.wts] at h; exact Trs.wts_ok ts o.2.2 u h
 | .either ts,o,u,h=>by rw [Tr.ok] at o; rw [Tr.wts] at h; exact Trs.wts_ok ts o.2.2 u h
theorem Trs.wts_ok:∀ ts:Trs,ts.ok->∀ n∈ts.wts,0<=n
 | .nil,_,u,h=>nomatch h
 | .cons t ts,o,u,h=>by
  rw [Trs.ok] at o; rw [Trs.wts] at h
  rcases List.mem_append.mp h with h | h
  ·exact Tr.wts_ok t o.1 u h
  ·exact Trs.wts_ok ts o.2 u h
end
mutual
theorem Tr.wts_lt:∀ t:Tr,t.ok->∀ n∈t.wts,n < 1000000
 | .any,_,u,h=>nomatch h
 | .kind us,_,u,h=>nomatch h
 | .place us,_,u,h=>nomatch h
 | .weight n,o,u,h=>by rw [Tr.ok] at o; rw [Tr.wts] at h; rw [List.mem_singleton.mp h]; exact o.2
 | .not t,o,u,h=>by rw [Tr.ok] at o; rw [Tr.wts] at h; exact Tr.wts_lt t o u h
 | .both ts,o,u,h=>by rw [Tr.ok] at o; rw [Tr.wts] at h; exact Trs.wts_lt ts o.2.2 u h
 | .either ts,o,u,h=>by rw [Tr.ok] at o; rw [Tr.wts] at h; exact Trs.wts_lt ts o.2.2 u h
theorem Trs.wts_lt:∀ ts:Trs,ts.ok->∀ n∈ts.wts,n < 1000000
 | .nil,_,u,h=>nomatch h
 | .cons t ts,o,u,h=>by
  rw [Trs.ok] at o; rw [Trs.wts] at h
  rcases List.mem_append.mp h with h | h
  ·exact Tr.wts_lt t o.1 u h
  ·exact Trs.wts_lt ts o.2 u h
end
mutual
theorem Tr.ev_eq {k k' p p':Str}{w w':Int}:∀ t:Tr,(∀ u∈t.names true,k=u ↔ k'=u)->(∀ u∈t.names false,p=u ↔ p'=u)->(∀ n∈t.wts,n<=w ↔ n<=w')->t.ev k p w=t.ev k' p' w'
 | .any,_,_,_=>rfl
 | .kind us,h,_,_=>by
  rw [Tr.ev,Tr.ev,decide_eq_decide]
  rw [Tr.names,if_pos rfl] at h
  exact ⟨fun m=>by have:=(h k m).mp rfl; rw [this]; exact m,fun m=>by have:=(h k' m).mpr rfl; rw [this]; exact m⟩
 | .place us,_,h,_=>by
  rw [Tr.ev,Tr.ev,decide_eq_decide]
  rw [Tr.names,if_neg (by decide)] at h
  exact ⟨fun m=>by have:=(h p m).mp rfl; rw [this]; exact m,fun m=>by have:=(h p' m).mpr rfl; rw [this]; exact m⟩
 | .weight n,_,_,h=>by
  rw [Tr.ev,Tr.ev,decide_eq_decide]
  exact h n (by rw [Tr.wts]; exact List.mem_singleton.mpr rfl)
 | .not t,h1,h2,h3=>by
  rw [Tr.names] at h1 h2; rw [Tr.wts] at h3
  rw [Tr.ev,Tr.ev,Tr.ev_eq t h1 h2 h3]
 | .both ts,h1,h2,h3=>by
  rw [Tr.names] at h1 h2; rw [Tr.wts] at h3
  rw [Tr.ev,Tr.ev,Trs.ev_eq ts h1 h2 h3]
 | .either ts,h1,h2,h3=>by
  rw [Tr.names] at h1 h2; rw [Tr.wts] at h3
  rw [Tr.ev,Tr.ev,Trs.ev_eq ts h1 h2 h3]
theorem Trs.ev_eq {k k' p p':Str}{w w':Int}:∀ ts:Trs,(∀ u∈ts.names true,k=u ↔ k'=u)->(∀ u∈ts.names false,p=u ↔ p'=u)->(∀ n∈ts.wts,n<=w ↔ n<=w')->ts.ev k p w=ts.ev k' p' w'
 | .nil,_,_,_=>rfl
 | .cons t ts,h1,h2,h3=>by
  rw [Trs.names] at h1 h2; rw [Trs.wts] at h3
  rw [Trs.ev,Trs.ev,Tr.ev_eq t (fun u m=>h1 u (List.mem_append_left _ m)) (fun u m=>h2 u (List.mem_append_left _ m)) (fun u m=>h3 u (List.mem_append_left _ m)),
   Trs.ev_eq ts (fun u m=>h1 u (List.mem_append_right _ m)) (fun u m=>h2 u (List.mem_append_right _ m)) (fun u m=>h3 u (List.mem_append_right _ m))]
end
def won (ts:List Tr)(i:Nat)(k p:Str)(w:Int):Bool:=(ts[i]?.map (Tr.ev k p w)).getD false && (ts.take i).all fun t=>!t.ev k p w
def free (ts:List Tr)(i:Nat)(k p:Str)(w:Int):Bool:=(ts.take i).all fun t=>!t.ev k p w
theorem AJ3 (ts:List Tr)(k p:Str):free ts 0 k p=fun _=>true:=by funext w; rfl
theorem AJ4 {ts:List Tr}{i:Nat}{t:Tr}(e:ts[i]?=some t)(k p:Str)(w:Int):won ts i k p w=(free ts i k p w && t.ev k p w):=by
 unfold won free
 rw [e,Bool.and_comm]
 rfl
theorem AJ5 {ts:List Tr}{i:Nat}{t:Tr}(e:ts[i]?=some t)(k p:Str)(w:Int):free ts (i+1) k p w=(free ts i k p w && !won ts i k p w):=by
 rw [AJ4 e]
 unfold free
 rw [List.take_succ,e,Option.toList_some,List.all_append,List.all_cons,List.all_nil,Bool.and_true]
 cases (ts.take i).all (fun t=>!t.ev k p w) <;> simp
theorem BF8 {ts:List Tr}{i:Nat}{k k' p p':Str}{w w':Int}(h:∀ t∈ts,t.ev k p w=t.ev k' p' w'):won ts i k p w=won ts i k' p' w':=by
 unfold won
 have e1:(ts[i]?.map (Tr.ev k p w))=ts[i]?.map (Tr.ev k' p' w'):=by
  cases e:ts[i]? with
  | none=>rfl
  | some t=>rw [Option.map_some,Option.map_some,h t (List.mem_of_getElem? e)]
 rw [e1]
 congr 1
 rw [Bool.eq_iff_iff,List.all_eq_true,List.all_eq_true]
 exact ⟨fun q t m=>by rw [<- h t (List.mem_of_mem_take m)]; exact q t m,fun q t m=>by rw [h t (List.mem_of_mem_take m)]; exact q t m⟩
theorem Falls.stand {ws:List Int}(h:Falls ws){w:Int}(w0:0<=w):∃ w'∈ws,∀ n∈ws,n<=w ↔ n<=w':=by
 have key:∀ l:List Int,l.Pairwise (· > ·)->(∃ x∈l,x<=w)->∃ w'∈l,w'<=w/\∀ n∈l,n<=w->n<=w':=by
  intro l
  induction l with
  | nil=>rintro _ ⟨x,hx,_⟩; cases hx
  | cons y l ih =>
   intro pw ⟨x,hx,hxw⟩
   by_cases hy:y<=w
   ·refine ⟨y,List.mem_cons_self ..,hy,fun n hn _=>?_⟩
    rcases List.mem_cons.mp hn with rfl | hn
    ·omega
    ·have:=(List.pairwise_cons.mp pw).1 n hn; omega
   ·obtain ⟨w',m,a,b⟩:=ih (List.pairwise_cons.mp pw).2 ⟨x,by
     rcases List.mem_cons.mp hx with rfl | hx
     ·exact absurd hxw hy
     ·exact hx,hxw⟩
    refine ⟨w',List.mem_cons_of_mem _ m,a,fun n hn hnw=>?_⟩
    rcases List.mem_cons.mp hn with rfl | hn
    ·exact absurd hnw hy
    ·exact b n hn hnw
 obtain ⟨w',m,a,b⟩:=key ws h.lt ⟨0,h.zero,w0⟩
 exact ⟨w',m,fun n hn=>⟨b n hn,fun z=>by omega⟩⟩
abbrev cY (kvs:List (Key × V)):List Key:=kvs.map (·.1)
theorem xL (kvs:List (Key × V))(k:Key):((kvs.any fun kv=>decide (kv.1=k))=true) ↔ k∈cY kvs:=by
 rw [List.any_eq_true]
 constructor
 ·rintro ⟨x,m,h⟩
  exact List.mem_map.mpr ⟨x,m,of_decide_eq_true h⟩
 ·intro h
  obtain ⟨x,m,h⟩:=List.mem_map.mp h
  exact ⟨x,m,decide_eq_true h⟩
theorem AQ6 {kvs:List (Key × V)}{k:Key}(v:V)(h:k∈cY kvs):cY (qG kvs k v)=cY kvs:=by
 unfold qG
 rw [if_pos ((xL kvs k).mpr h)]
 unfold cY
 rw [List.map_map]
 apply List.map_congr_left
 intro x _
 show (if x.1=k then (x.1,v) else x).1=x.1
 split <;> rfl
theorem AQ7 {kvs:List (Key × V)}{k:Key}(v:V)(h:k ∉ cY kvs):cY (qG kvs k v)=cY kvs++[k]:=by
 unfold qG
 rw [if_neg (fun z=>h ((xL kvs k).mp z))]
 unfold cY
 rw [List.map_append]
 rfl
structure Grow (kvs kvs':List (Key × V)) (new:List Key):Prop where
 mem:∀ k,k∈cY kvs' ↔ k∈cY kvs\/k∈new
 len:kvs'.length<=kvs.length+new.length
 nd:(cY kvs).Nodup->(cY kvs').Nodup
theorem Grow.refl (kvs:List (Key × V)):Grow kvs kvs []:=⟨fun k=>by simp,Nat.le_refl _,id⟩
theorem Grow.trans {a b c:List (Key × V)}{n m:List Key}(h:Grow a b n)(g:Grow b c m):Grow a c (n++m) :=
 ⟨fun k=>by rw [g.mem,h.mem,List.mem_append,or_assoc],by have:=h.len; have:=g.len; rw [List.length_append]; omega,fun z=>g.nd (h.nd z)⟩
theorem Grow.put (kvs:List (Key × V))(k:Key)(v:V):Grow kvs (qG kvs k v) [k]:=by
 by_cases m:k∈cY kvs
 ·have e:=AQ6 v m
  refine ⟨fun j=>?_,iQ kvs k v,fun h=>by rw [e]; exact h⟩
  rw [e,List.mem_singleton]
  exact ⟨.inl,fun z=>z.elim id fun e=>by rw [e]; exact m⟩
 ·have e:=AQ7 v m
  refine ⟨fun j=>by rw [e,List.mem_append],iQ kvs k v,fun h=>?_⟩
  rw [e,List.nodup_append]
  exact ⟨h,by simp,fun a ha b hb e=>m (by rw [List.mem_singleton.mp hb] at e; rw [<- e]; exact ha)⟩
theorem vP (k:Key)(kvs:List (Key × V)):(uQ kvs k).isSome=true ↔ k∈cY kvs:=by
 rw [<- tN]
 exact xL kvs k
def BF9 (n:Nat):Str:=⟨#[97+n]⟩
def cn (n:Nat):Str:=if n < 26 then BF9 n else BF9 (n / 26)++BF9 (n % 26)
theorem AZ9:∀ n < 200,cP (cn n):=by decide +kernel
theorem BG0:∀ n < 200,∀ m < n,cn m≠cn n:=by decide +kernel
theorem AQ8 {n:Nat}(h:n<=200):((List.range n).map cn).Nodup:=by
 rw [List.Nodup,List.pairwise_map]
 refine List.pairwise_lt_range.imp_of_mem fun {a b} ha hb lt=>?_
 exact BG0 b (by have:=List.mem_range.mp hb; omega) a lt
theorem BG1 {n:Nat}{kvs:List (Key × V)}(h:n<=200)(hk:∀ m < n,Sum.inr (cn m)∈cY kvs):n<=kvs.length:=by
 have nd:((List.range n).map fun m=>(Sum.inr (cn m):Key)).Nodup:=by
  have:=AQ8 h
  rw [List.Nodup,List.pairwise_map] at this ⊢
  exact this.imp fun h e=>h (Sum.inr.inj e)
 have:=nd.length_le_of_subset (l₂:=cY kvs) fun k hk'=>by
  obtain ⟨m,hm,rfl⟩:=List.mem_map.mp hk'
  exact hk m (List.mem_range.mp hm)
 rw [List.length_map,List.length_range,List.length_map] at this
 exact this
theorem AT6 {n:Nat}(h:n < 26):atI ("abcdefghijklmnopqrstuvwxyz":Str).cps.toList (n:Int)=some (97+n):=by
 have:∀ k < 26,atI ("abcdefghijklmnopqrstuvwxyz":Str).cps.toList ((k:Nat):Int)=some (97+k):=by decide +kernel
 exact this n h
mutual
theorem Tr.cnt_pos:∀ t:Tr,t.ok->1<=t.cnt
 | .any,_=>Nat.le_refl _
 | .kind us,o=>by rw [Tr.ok] at o; rw [Tr.cnt]; have:=o.1; cases us with | nil=>exact absurd rfl this | cons a l=>simp
 | .place us,o=>by rw [Tr.ok] at o; rw [Tr.cnt]; have:=o.1; cases us with | nil=>exact absurd rfl this | cons a l=>simp
 | .weight _,_=>Nat.le_refl _
 | .not t,o=>by rw [Tr.ok] at o; rw [Tr.cnt]; exact Tr.cnt_pos t o
 | .both ts,o=>by rw [Tr.ok] at o; rw [Tr.cnt]; exact Nat.le_trans (by omega) (Trs.cnt_pos ts o.2.2)
 | .either ts,o=>by rw [Tr.ok] at o; rw [Tr.cnt]; exact Nat.le_trans (by omega) (Trs.cnt_pos ts o.2.2)
theorem Trs.cnt_pos:∀ ts:Trs,ts.ok->ts.toL.length<=ts.cnt
 | .nil,_=>Nat.le_refl _
 | .cons t ts,o=>by
  rw [Trs.ok] at o; rw [Trs.toL,Trs.cnt,List.length_cons]
  have:=Tr.cnt_pos t o.1
  have:=Trs.cnt_pos ts o.2
  omega
end
theorem BA0 {ts:List Tr}(h:∀ t∈ts,t.ok):ts.length<=(ts.map Tr.cnt).sum:=by
 induction ts with
 | nil=>exact Nat.le_refl _
 | cons t ts ih =>
  rw [List.length_cons,List.map_cons,List.sum_cons]
  have:=Tr.cnt_pos t (h t (List.mem_cons_self ..))
  have:=ih fun x m=>h x (List.mem_cons_of_mem _ m)
  omega
theorem AJ6 {X:Cx}(hc:X.calm=true):iH X (.builtin "max") (fun xs H Q=>∃ (a:Addr) (ns:List Int),xs=[.ref a]/\SqL X.K H a (ns.map V.int)/\0 < ns.length/\∀ m,Q (.int m) H):=by
 intro pins s σ H xs us Q I r h
 obtain ⟨a,ns,rfl,hS,hne,q⟩:=h
 obtain ⟨u,rfl,ru⟩:=kC r
 cases ru
 obtain ⟨its,rv,pl,hz⟩:=I.list hS
 have hi:IntsAre its ns:=sJ rv
 obtain ⟨xs,hx⟩:=hi.allInts.items
 have hl':s.heap.IsList a (intItems xs):=hx ▸ pl.isList
 have e1:ns=xs.toList.map (·.1):=by
  rw [<- nums_intItems,<- hx]
  exact (show numsOf its.toArray.toList=ns from hi.numsOf).symm
 have hsz:0 < xs.size:=by
  rw [e1,List.length_map,Array.length_toList] at hne
  exact hne
 refine max_intList (I.ok.hd hc) hl' hsz fun v h' tk hv hk=>?_
 obtain ⟨t,rfl⟩:=intItems_at hv
 exact ⟨.int _,H,I.kept hk,⟨t,rfl⟩,q _⟩
section
variable {K:Frag}{σ:L2.St}{H:Hp}{Q:VK}{g:TG}{te:TE}{tt:TT}{tA:TA}{ix:List (Option Nat)}
def CompE (K:Frag)(a:Addr)(g:TG)(tt:TT)(te:TE)(Q:VK)(σ:L2.St)(H:Hp):Prop:=∃ W:Nat->Nat->List V->L2.St->Hp->Prop,(∃ m,W 0 m [] σ H)/\∀ i m acc σ H,W i m acc σ H ->
 ((Ite K a).stop i H/\∀ D,H D=none->Q (.ref D) (L2.upd H D (.lst acc))) \/
 ((Ite K a).go i H/\acc.length < sizeLine/\∃ N:List V->L2.St->Hp->Prop,(∀ acc' σ' H',N acc' σ' H'->∃ m',m' < m/\W (i+1) m' acc' σ' H') /\
  ∀ x H',(Ite K a).yld i H x H'->g x σ H' fun σ2 H2=>tt σ2 H2 fun b H3=>if b=true then te σ2 H3 fun y H4=>N (acc++[y]) σ2 H4 else N acc σ2 H3)
theorem xM:rM (AY7 K tA) ix g tt te σ H Q=tA σ H (fun vs H1=>∃ a,vs=[.ref a]/\(∃ xs,SqL K H1 a xs)/\CompE K a g tt te Q (wT ix σ) H1):=rfl
theorem CompE.by {a:Addr}{xs:List V}(Pv:Nat->List V->L2.St->Hp->Prop)(hz:xs.length<=sizeLine)(h0:Pv 0 [] σ H)(hl:∀ i acc σ H,i<=xs.length->Pv i acc σ H->SqL K H a xs)(hs:∀ i x acc σ H p,xs[i]?=some x->Pv i acc σ H->H p=none->g (.ref p) σ (L2.upd H p (.tup [.int (i:Nat),x])) fun σ2 H2=>tt σ2 H2 fun b H3=>if b=true then te σ2 H3 fun y H4=>Pv (i+1) (acc++[y]) σ2 H4 else Pv (i+1) acc σ2 H3)(hacc:∀ i acc σ H,Pv i acc σ H->acc.length<=i)(hd:∀ acc σ H,Pv xs.length acc σ H->∀ D,H D=none->Q (.ref D) (L2.upd H D (.lst acc))):CompE K a g tt te Q σ H:=by
  refine ⟨fun i m acc σ H=>m=xs.length - i/\i<=xs.length/\Pv i acc σ H,⟨xs.length,by simp,Nat.zero_le _,h0⟩,?_⟩
  rintro i m acc σ H ⟨rfl,hi,p⟩
  have q:=hl i acc σ H hi p
  have ha:=hacc i acc σ H p
  by_cases hlt:i < xs.length
  · refine .inr ⟨⟨xs,xs[i],q,by simp [hlt]⟩,by omega,Pv (i+1),fun acc' σ' H' p'=>⟨xs.length - (i+1),by omega,rfl,hlt,p'⟩,fun x H' y=>?_⟩
    obtain ⟨pt,y1,e1,hn,e2,y⟩:=y
    subst e1 e2
    exact hs i y1 acc σ _ pt (y xs q) p hn
  · have e:i=xs.length:=by omega
    subst e
    exact .inl ⟨⟨xs,q,Nat.le_refl _⟩,hd acc σ H p⟩
end
theorem BG2 {X:Cx}{K:Frag}{es:List Expr}{k:Nat}{t:TGs}{n:Nat}{pos:Pos}(hK:X.K=K)(hc:X.calm=true)(h:PGs X es t)(hn:(assignEach es X.env).length=n:=by rfl)(hst:(assignEach es X.env).findIdx? (·.1)=none:=by rfl):PG X (.Tuple es k pos) (BH7 K n t):=by
 subst hK
 exact AR7 hc h hn hst
open Classical in
noncomputable def eqR (h:Heap)(dx:PyData)(u:Value):Bool:=decide (∃ d as,Reads h u d as/\PyData.canLay0 d=true/\PyData.eqv d dx=true)
open Classical in
theorem AJ7 {h:Heap}{dx d:PyData}{u:Value}{as:List Addr}(r:Reads h u d as)(c:PyData.canLay0 d=true):eqR h dx u=PyData.eqv d dx:=by
 unfold eqR
 cases e:PyData.eqv d dx with
 | true=>exact decide_eq_true ⟨d,as,r,c,e⟩
 | false =>
  refine decide_eq_false ?_
  rintro ⟨d',as',r',c',e'⟩
  have:=SeqAt.Reads.unique d d' u as as' c r r'
  subst this
  rw [e] at e'
  cases e'
section
variable {X:Cx}{pins:List (Addr × Obj)}{σ:L2.St}{H:Hp}{s:Shared}
def BB3 (ds:List PyData):Prop:=∀ d∈ds,PyData.canLay0 d=true/\PyData.depth d<=60
theorem xN (I:Inv X pins σ H s){A:Around}{v:Value}{dx:PyData}{bs:List Addr}(rx:Reads s.heap v dx bs)(cx:PyData.canLay0 dx=true)(hu:A.units+60 < cLine):∀ {xs:List V}{ds:List PyData}{us:List Value},RDs H xs ds->Vals xs us->BB3 ds->∀ u∈us,SeqAt.EqAt A s u v (eqR s.heap dx u)
 | _,_,_,.nil,.nil,_=>fun u hu=>by cases hu
 | _,d::ds,u::us,.cons h hs,.cons r rs,L=>fun u' m=>by
  rcases List.mem_cons.mp m with rfl | m
  ·obtain ⟨as,ra⟩:=h.reads I r
   have l:=L d (List.mem_cons_self ..)
   rw [AJ7 ra l.1]
   exact SeqAt.eqAt_reads d dx A s _ v as bs ra rx l.1 cx (by have:=Nat.min_le_left (PyData.depth d) (PyData.depth dx); omega)
  ·exact xN I rx cx hu hs rs (fun d m=>L d (List.mem_cons_of_mem _ m)) u' m
theorem AJ8 (I:Inv X pins σ H s){dx:PyData}:∀ {xs:List V}{ds:List PyData}{us:List Value},RDs H xs ds->Vals xs us->BB3 ds->us.any (eqR s.heap dx)=ds.any fun d=>PyData.eqv d dx
 | _,_,_,.nil,.nil,_=>rfl
 | _,d::ds,u::us,.cons h hs,.cons r rs,L=>by
  obtain ⟨as,ra⟩:=h.reads I r
  rw [List.any_cons,List.any_cons,AJ7 ra (L d (List.mem_cons_self ..)).1,AJ8 I hs rs fun d m=>L d (List.mem_cons_of_mem _ m)]
theorem AJ9 (I:Inv X pins σ H s){dx:PyData}:∀ {xs:List V}{ds:List PyData}{us:List Value},RDs H xs ds->Vals xs us->BB3 ds->∀ (j:Nat) (hj:j < us.length) (hd:j < ds.length),eqR s.heap dx us[j]=PyData.eqv ds[j] dx
 | _,_,_,.nil,.nil,_,j,hj,_=>absurd hj (Nat.not_lt_zero _)
 | _,d::ds,u::us,.cons h hs,.cons r rs,L,0,_,_=>by
  obtain ⟨as,ra⟩:=h.reads I r
  exact AJ7 ra (L d (List.mem_cons_self ..)).1
 | _,d::ds,u::us,.cons h hs,.cons r rs,L,j+1,hj,hd=>AJ9 I hs rs (fun d m=>L d (List.mem_cons_of_mem _ m)) j (Nat.lt_of_succ_lt_succ hj) (Nat.lt_of_succ_lt_succ hd)
def BL4 (K:Frag):R2:=fun x y H Q=>∃ (p:Addr) (xs:List V) (ds:List PyData) (d:PyData),y=.ref p/\SqL K H p xs/\RDs H xs ds/\BB3 ds/\RD H x d/\PyData.canLay0 d=true/\Q (.bl (ds.any fun y=>PyData.eqv y d)) H
theorem BA1 (hu:X.A.units+64 < cLine):OpR X (compareOp .In) (BL4 X.K):=by
 intro pins s σ H x y v u Q I rx ry h
 obtain ⟨p,xs,ds,d,rfl,hq,hs,L,hx,cx,q⟩:=h
 cases ry
 obtain ⟨its,r,pl,hz⟩:=I.list hq
 obtain ⟨bs,rb⟩:=hx.reads I rx
 refine SeqAt.in_listAt (eqR s.heap d) pl.isList (fun w hw=>xN I rb cx (by simp only [units_in1]; omega) hs r L w (by simpa using hw)) ⟨.bl _,H,I,rfl,?_⟩
 rw [show its.toArray.any (eqR s.heap d)=its.any (eqR s.heap d) by simp,AJ8 I hs r L]
 exact q
theorem RDs.len:∀ {xs:List V}{ds:List PyData},RDs H xs ds->xs.length=ds.length
 | _,_,.nil=>rfl
 | _,_,.cons _ h=>by rw [List.length_cons,List.length_cons,RDs.len h]
def BP1 (K:Frag):V->List V->Hp->VK->Prop:=fun x vs H Q=>∃ (p:Addr) (y:V) (xs:List V) (ds:List PyData) (d:PyData) (j:Nat) (hj:j < ds.length),x=.ref p/\vs=[y]/\SqL K H p xs/\RDs H xs ds/\BB3 ds/\RD H y d/\PyData.canLay0 d=true/\ds.length<=1000/\PyData.eqv ds[j] d=true/\(∀ m (hm:m < ds.length),m < j->PyData.eqv ds[m] d=false)/\Q (.int (j:Nat)) H
theorem AQ9 (hu:X.A.units+64 < cLine):MtR X "list.index" (BP1 X.K):=by
 intro pins s σ H x vs v us Q I rx rv h
 obtain ⟨p,y,xs,ds,d,j,hj,rfl,rfl,hq,hs,L,hx,cx,lz,hit,hno,q⟩:=h
 cases rx
 obtain ⟨u,rfl,ru⟩:=rv.one
 obtain ⟨its,r,pl,hz⟩:=I.list hq
 obtain ⟨bs,rb⟩:=hx.reads I ru
 have ln:its.length=ds.length:=r.length.symm.trans hs.len
 obtain ⟨⟨cls,dd,data,sl⟩,ho,hc,n,hd⟩:=id pl.isList
 simp only at hc hd
 subst hc hd
 refine call_meets F.slot_list_index ⟨_,ho,rfl⟩ F.entry_list_index (F.args_list_index_2 _ _) (SeqAt.list_indexAt p its.toArray n dd sl u (eqR s.heap d) j (by simpa [ln] using hj) (by omega) ?_ ?_) ⟨ho,fun w hw=>xN I rb cx (by simp only [units_in1]; omega) hs r L w (by simpa using hw),?_⟩
 ·show eqR s.heap d its[j]=true
  rw [AJ9 I hs r L j (by omega) hj]
  exact hit
 ·intro m hm hlt
  show eqR s.heap d its[m]=false
  have hm':m < its.length:=by simpa using hm
  rw [AJ9 I hs r L m hm' (by omega)]
  exact hno m (by omega) hlt
 ·exact ⟨.int _,H,I.tok _,⟨_,rfl⟩,q⟩
end
mutual
def Tr.dat:Tr->PyData
 | .any=>.tuple [.str "any"]
 | .kind us=>.tuple [.str "kind",.tuple (us.map .str)]
 | .place us=>.tuple [.str "place",.tuple (us.map .str)]
 | .weight n=>.tuple [.str "weight",.int n]
 | .not t=>.tuple [.str "not",Tr.dat t]
 | .both ts=>.tuple [.str "both",.tuple (Trs.dat ts)]
 | .either ts=>.tuple [.str "either",.tuple (Trs.dat ts)]
def Trs.dat:Trs->List PyData
 | .nil=>[]
 | .cons t ts=>Tr.dat t::Trs.dat ts
end
mutual
theorem Tr.At.rd {H:Hp}:∀ {t:Tr}{v:V},t.At H v->RD H v t.dat
 | .any,v,h=>by rw [Tr.At] at h; obtain ⟨p,rfl,h⟩:=h; rw [Tr.dat]; exact .tup h (.cons (.str _) .nil)
 | .kind us,v,h=>by rw [Tr.At] at h; obtain ⟨p,l,rfl,h,k⟩:=h; rw [Tr.dat]; exact .tup h (.cons (.str _) (.cons (.tup k (tK us)) .nil))
 | .place us,v,h=>by rw [Tr.At] at h; obtain ⟨p,l,rfl,h,k⟩:=h; rw [Tr.dat]; exact .tup h (.cons (.str _) (.cons (.tup k (tK us)) .nil))
 | .weight n,v,h=>by rw [Tr.At] at h; obtain ⟨p,rfl,h⟩:=h; rw [Tr.dat]; exact .tup h (.cons (.str _) (.cons (.int _) .nil))
 | .not t,v,h=>by rw [Tr.At] at h; obtain ⟨p,y,rfl,h,k⟩:=h; rw [Tr.dat]; exact .tup h (.cons (.str _) (.cons (Tr.At.rd k) .nil))
 | .both ts,v,h=>by rw [Tr.At] at h; obtain ⟨p,l,xs,rfl,h,k,m⟩:=h; rw [Tr.dat]; exact .tup h (.cons (.str _) (.cons (.tup k (Trs.At.rd m)) .nil))
 | .either ts,v,h=>by rw [Tr.At] at h; obtain ⟨p,l,xs,rfl,h,k,m⟩:=h; rw [Tr.dat]; exact .tup h (.cons (.str _) (.cons (.tup k (Trs.At.rd m)) .nil))
theorem Trs.At.rd {H:Hp}:∀ {ts:Trs}{xs:List V},ts.At H xs->RDs H xs ts.dat
 | .nil,xs,h=>by rw [Trs.At] at h; rw [h,Trs.dat]; exact .nil
 | .cons t ts,xs,h=>by rw [Trs.At] at h; obtain ⟨y,ys,rfl,h1,h2⟩:=h; rw [Trs.dat]; exact .cons (Tr.At.rd h1) (Trs.At.rd h2)
end
theorem AK0 {H:Hp}:∀ {ts:List Tr}{xs:List V},All2 (Tr.At H) ts xs->RDs H xs (ts.map Tr.dat)
 | _,_,.nil=>.nil
 | _,_,.cons h r=>.cons h.rd (AK0 r)
theorem zJ {us:List Str}(h:∀ u∈us,cP u):PyData.canLayAll0 (us.map PyData.str)=true/\PyData.depthAll (us.map PyData.str)=0:=by
 induction us with
 | nil=>exact ⟨by simp [PyData.canLayAll0],by simp [PyData.depthAll]⟩
 | cons u us ih =>
  obtain ⟨a,b⟩:=ih fun v m=>h v (List.mem_cons_of_mem _ m)
  obtain ⟨d,r,c,e⟩:=xI (H:=fun _=>none) (n:=0) h (.str u) (by simp)
  cases r
  exact ⟨by rw [List.map_cons,PyData.canLayAll0,c,a]; rfl,by rw [List.map_cons,PyData.depthAll,b,PyData.depth]; rfl⟩
theorem BB4 {w:Str}{d:PyData}(hw:PyData.strOk w=true)(hd:PyData.canLay0 d=true):PyData.canLay0 (.tuple [.str w,d])=true:=by simp [PyData.canLay0,PyData.canLayAll0,hw,hd]
theorem BB5 {w:Str}{d:PyData}:PyData.depth (.tuple [.str w,d])=PyData.depth d+1:=by simp [PyData.depth,PyData.depthAll]
mutual
theorem Tr.dat_lay:∀ {t:Tr},t.ok->PyData.canLay0 t.dat=true/\PyData.depth t.dat<=2 * t.dp+2
 | .any,_=>by rw [Tr.dat]; exact ⟨by decide +kernel,by simp [PyData.depth,PyData.depthAll]⟩
 | .kind us,h=>by
  rw [Tr.ok] at h
  obtain ⟨a,b⟩:=zJ h.2.2.1
  rw [Tr.dat]
  exact ⟨BB4 (by decide +kernel) (by rw [PyData.canLay0]; exact a),by rw [BB5,PyData.depth,b,Tr.dp]; decide⟩
 | .place us,h=>by
  rw [Tr.ok] at h
  obtain ⟨a,b⟩:=zJ h.2.2.1
  rw [Tr.dat]
  exact ⟨BB4 (by decide +kernel) (by rw [PyData.canLay0]; exact a),by rw [BB5,PyData.depth,b,Tr.dp]; decide⟩
 | .weight n,_=>by rw [Tr.dat]; exact ⟨BB4 (by decide +kernel) (by rw [PyData.canLay0]),by rw [BB5,PyData.depth]; omega⟩
 | .not t,h=>by
  rw [Tr.ok] at h
  obtain ⟨a,b⟩:=Tr.dat_lay h
  rw [Tr.dat]
  exact ⟨BB4 (by decide +kernel) a,by rw [BB5,Tr.dp]; omega⟩
 | .both ts,h=>by
  rw [Tr.ok] at h
  obtain ⟨a,b⟩:=Trs.dat_lay h.2.2
  rw [Tr.dat]
  exact ⟨BB4 (by decide +kernel) (by rw [PyData.canLay0]; exact a),by rw [BB5,PyData.depth,Tr.dp]; omega⟩
 | .either ts,h=>by
  rw [Tr.ok] at h
  obtain ⟨a,b⟩:=Trs.dat_lay h.2.2
  rw [Tr.dat]
  exact ⟨BB4 (by decide +kernel) (by rw [PyData.canLay0]; exact a),by rw [BB5,PyData.depth,Tr.dp]; omega⟩
theorem Trs.dat_lay:∀ {ts:Trs},ts.ok->PyData.canLayAll0 ts.dat=true/\PyData.depthAll ts.dat<=2 * ts.dp+2
 | .nil,_=>by rw [Trs.dat]; exact ⟨by simp [PyData.canLayAll0],by simp [PyData.depthAll]⟩
 | .cons t ts,h=>by
  rw [Trs.ok] at h
  obtain ⟨a,b⟩:=Tr.dat_lay h.1
  obtain ⟨c,d⟩:=Trs.dat_lay h.2
  rw [Trs.dat,Trs.dp]
  exact ⟨by rw [PyData.canLayAll0,a,c]; rfl,by rw [PyData.depthAll]; omega⟩
end
theorem tV:∀ {us vs:List Str},PyData.eqvAll (us.map PyData.str) (vs.map PyData.str)=true->us=vs
 | [],[],_=>rfl
 | u::us,[],h=>by simp [PyData.eqvAll] at h
 | [],v::vs,h=>by simp [PyData.eqvAll] at h
 | u::us,v::vs,h=>by
  rw [List.map_cons,List.map_cons,PyData.eqvAll,Bool.and_eq_true,PyData.eqv] at h
  rw [eq_of_beq h.1,tV h.2]
theorem lB {w w':Str}{d d':PyData}(h:PyData.eqv (.tuple [.str w,d]) (.tuple [.str w',d'])=true):w=w'/\PyData.eqv d d'=true:=by
 rw [PyData.eqv,PyData.eqvAll,PyData.eqvAll,PyData.eqvAll,Bool.and_eq_true,Bool.and_eq_true,PyData.eqv] at h
 exact ⟨eq_of_beq h.1,h.2.1⟩
theorem gB {w w':Str}{d:PyData}:(PyData.eqv (.tuple [.str w]) (.tuple [.str w',d])=false)/\(PyData.eqv (.tuple [.str w',d]) (.tuple [.str w])=false):=by simp [PyData.eqv,PyData.eqvAll]
theorem fB {w w':Str}{d d':PyData}(n:(w == w')=false)(h:PyData.eqv (.tuple [.str w,d]) (.tuple [.str w',d'])=true):False:=by
 have e:=(lB h).1
 rw [e] at n
 have r:(w' == w')=true:=beq_self_eq_true w'
 rw [r] at n
 cases n
mutual
theorem Tr.dat_inj:∀ (t t':Tr),PyData.eqv t.dat t'.dat=true->t=t'
 | .any,t',h=>by
  cases t' with
  | any=>rfl
  | kind vs=>rw [Tr.dat,Tr.dat,gB.1] at h; cases h
  | place vs=>rw [Tr.dat,Tr.dat,gB.1] at h; cases h
  | weight m=>rw [Tr.dat,Tr.dat,gB.1] at h; cases h
  | not s=>rw [Tr.dat,Tr.dat,gB.1] at h; cases h
  | both ss=>rw [Tr.dat,Tr.dat,gB.1] at h; cases h
  | either ss=>rw [Tr.dat,Tr.dat,gB.1] at h; cases h
 | .kind us,t',h=>by
  cases t' with
  | any=>rw [Tr.dat,Tr.dat,gB.2] at h; cases h
  | kind vs=>rw [Tr.dat,Tr.dat] at h; have h:=(lB h).2; rw [PyData.eqv] at h; rw [tV h]
  | place vs=>rw [Tr.dat,Tr.dat] at h; exact (fB (by decide +kernel) h).elim
  | weight m=>rw [Tr.dat,Tr.dat] at h; exact (fB (by decide +kernel) h).elim
  | not s=>rw [Tr.dat,Tr.dat] at h; exact (fB (by decide +kernel) h).elim
  | both ss=>rw [Tr.dat,Tr.dat] at h; exact (fB (by decide +kernel) h).elim
  | either ss=>rw [Tr.dat,Tr.dat] at h; exact (fB (by decide +kernel) h).elim
 | .place us,t',h=>by
  cases t' with
  | any=>rw [Tr.dat,Tr.dat,gB.2] at h; cases h
  | kind vs=>rw [Tr.dat,Tr.dat] at h; exact (fB (by decide +kernel) h).elim
  | place vs=>rw [Tr.dat,Tr.dat] at h; have h:=(lB h).2; rw [PyData.eqv] at h; rw [tV h]
  | weight m=>rw [Tr.dat,Tr.dat] at h; exact (fB (by decide +kernel) h).elim
  | not s=>rw [Tr.dat,Tr.dat] at h; exact (fB (by decide +kernel) h).elim
  | both ss=>rw [Tr.dat,Tr.dat] at h; exact (fB (by decide +kernel) h).elim
  | either ss=>rw [Tr.dat,Tr.dat] at h; exact (fB (by decide +kernel) h).elim
 | .weight n,t',h=>by
  cases t' with
  | any=>rw [Tr.dat,Tr.dat,gB.2] at h; cases h
  | kind vs=>rw [Tr.dat,Tr.dat] at h; exact (fB (by decide +kernel) h).elim
  | place vs=>rw [Tr.dat,Tr.dat] at h; exact (fB (by decide +kernel) h).elim
  | weight m=>rw [Tr.dat,Tr.dat] at h; have h:=(lB h).2; rw [PyData.eqv] at h; rw [eq_of_beq h]
  | not s=>rw [Tr.dat,Tr.dat] at h; exact (fB (by decide +kernel) h).elim
  | both ss=>rw [Tr.dat,Tr.dat] at h; exact (fB (by decide +kernel) h).elim
  | either ss=>rw [Tr.dat,Tr.dat] at h; exact (fB (by decide +kernel) h).elim
 | .not t,t',h=>by
  cases t' with
  | any=>rw [Tr.dat,Tr.dat,gB.2] at h; cases h
  | kind vs=>rw [Tr.dat,Tr.dat] at h; exact (fB (by decide +kernel) h).elim
  | place vs=>rw [Tr.dat,Tr.dat] at h; exact (fB (by decide +kernel) h).elim
  | weight m=>rw [Tr.dat,Tr.dat] at h; exact (fB (by decide +kernel) h).elim
  | not s=>rw [Tr.dat,Tr.dat] at h; rw [Tr.dat_inj t s (lB h).2]
  | both ss=>rw [Tr.dat,Tr.dat] at h; exact (fB (by decide +kernel) h).elim
  | either ss=>rw [Tr.dat,Tr.dat] at h; exact (fB (by decide +kernel) h).elim
 | .both ts,t',h=>by
  cases t' with
  | any=>rw [Tr.dat,Tr.dat,gB.2] at h; cases h
  | kind vs=>rw [Tr.dat,Tr.dat] at h; exact (fB (by decide +kernel) h).elim
  | place vs=>rw [Tr.dat,Tr.dat] at h; exact (fB (by decide +kernel) h).elim
  | weight m=>rw [Tr.dat,Tr.dat] at h; exact (fB (by decide +kernel) h).elim
  | not s=>rw [Tr.dat,Tr.dat] at h; exact (fB (by decide +kernel) h).elim
  | both ss=>rw [Tr.dat,Tr.dat] at h; have h:=(lB h).2; rw [PyData.eqv] at h; rw [Trs.dat_inj ts ss h]
  | either ss=>rw [Tr.dat,Tr.dat] at h; exact (fB (by decide +kernel) h).elim
 | .either ts,t',h=>by
  cases t' with
  | any=>rw [Tr.dat,Tr.dat,gB.2] at h; cases h
  | kind vs=>rw [Tr.dat,Tr.dat] at h; exact (fB (by decide +kernel) h).elim
  | place vs=>rw [Tr.dat,Tr.dat] at h; exact (fB (by decide +kernel) h).elim
  | weight m=>rw [Tr.dat,Tr.dat] at h; exact (fB (by decide +kernel) h).elim
  | not s=>rw [Tr.dat,Tr.dat] at h; exact (fB (by decide +kernel) h).elim
  | both ss=>rw [Tr.dat,Tr.dat] at h; exact (fB (by decide +kernel) h).elim
  | either ss=>rw [Tr.dat,Tr.dat] at h; have h:=(lB h).2; rw [PyData.eqv] at h; rw [Trs.dat_inj ts ss h]
theorem Trs.dat_inj:∀ (ts ts':Trs),PyData.eqvAll ts.dat ts'.dat=true->ts=ts'
 | .nil,.nil,_=>rfl
 | .nil,.cons t ts,h=>by simp [Trs.dat,PyData.eqvAll] at h
 | .cons t ts,.nil,h=>by simp [Trs.dat,PyData.eqvAll] at h
 | .cons t ts,.cons s ss,h=>by
  rw [Trs.dat,Trs.dat,PyData.eqvAll,Bool.and_eq_true] at h
  rw [Tr.dat_inj t s h.1,Trs.dat_inj ts ss h.2]
end
end Bw
set_option maxHeartbeats 8000000
namespace Bw
open PySem L2 PySem.W
local macro_rules | `(tactic| walk_at "sc") => `(tactic| exact ⟨rfl,rfl,rfl,by decide +kernel,rfl,by decide +kernel,by decide +kernel⟩)
local macro_rules | `(tactic| nofun) => `(tactic| try simp only [AV7, AE1, AV8, AV9, AE2, AE3, AW0, wR, AE4, AW1, w_c, BI7, BI8, BI9, AW2, BJ0, AE5, w_b, AW3, BJ1, w_not, AE6, AE7, BJ2, AE8, AW4, AW5, AW6, AE9, BJ3, BJ4, BJ5, AW7, AF0, BK1, AF1, tE, AF2, AF3, w_K, AX7, wU, wV, AX1, wW, wX, wY, BK6, AX2, AX3, AF6, AX4, AF7, wZ, xA, AG2, AX6, AG3, xC, AG5, AG4, xD, AZ4, AI6, AI7, AI8, xM, AI9, xH, AI4, xE, Option.getD_some,  exists_const, false_or, or_false, exists_false, BJ6, BJ7, BJ8, BJ9, BK0, L2.vD, List.map_cons, List.map_nil, List.length_cons, List.length_nil, List.replicate, List.replicate_zero, List.replicate_succ, Nat.reduceAdd, Nat.reduceSub, Nat.reduceLeDiff, List.cons_append, List.nil_append, List.append_nil, List.set_cons_zero, List.set_cons_succ, List.getElem?_cons_zero, List.getElem?_cons_succ, Option.some.injEq, V.int.injEq, V.bl.injEq, V.ref.injEq, V.str.injEq, V.ty.injEq, List.cons.injEq, and_true, true_and, exists_eq_left, exists_eq_left', exists_and_left, exists_eq, exists_eq', and_self, decide_eq_true_eq, Bool.not_eq_true', decide_eq_false_iff_not, Bool.true_eq_false, Bool.false_eq_true, if_true, if_false, ite_true, ite_false, false_and, and_false, and_assoc, reduceCtorEq])
local macro_rules | `(tactic| exists $[$es:term],*) => `(tactic| try simp only [$[$es:term],*, AV7, AE1, AV8, AV9, AE2, AE3, AW0, wR, AE4, AW1, w_c, BI7, BI8, BI9, AW2, BJ0, AE5, w_b, AW3, BJ1, w_not, AE6, AE7, BJ2, AE8, AW4, AW5, AW6, AE9, BJ3, BJ4, BJ5, AW7, AF0, BK1, AF1, tE, AF2, AF3, w_K, AX7, wU, wV, AX1, wW, wX, wY, BK6, AX2, AX3, AF6, AX4, AF7, wZ, xA, AG2, AX6, AG3, xC, AG5, AG4, xD, AZ4, AI6, AI7, AI8, xM, AI9, xH, AI4, xE, Option.getD_some,  exists_const, false_or, or_false, exists_false, BJ6, BJ7, BJ8, BJ9, BK0, L2.vD, List.map_cons, List.map_nil, List.length_cons, List.length_nil, List.replicate, List.replicate_zero, List.replicate_succ, Nat.reduceAdd, Nat.reduceSub, Nat.reduceLeDiff, List.cons_append, List.nil_append, List.append_nil, List.set_cons_zero, List.set_cons_succ, List.getElem?_cons_zero, List.getElem?_cons_succ, Option.some.injEq, V.int.injEq, V.bl.injEq, V.ref.injEq, V.str.injEq, V.ty.injEq, List.cons.injEq, and_true, true_and, exists_eq_left, exists_eq_left', exists_and_left, exists_eq, exists_eq', and_self, decide_eq_true_eq, Bool.not_eq_true', decide_eq_false_iff_not, Bool.true_eq_false, Bool.false_eq_true, if_true, if_false, ite_true, ite_false, false_and, and_false, and_assoc, reduceCtorEq])
theorem pc {X:Cx}{x:Str}{ps:List Str}{k j:Nat}{sp:Sp}{e:Expr}{es:List Expr}{t:TA}{p pos:Pos}(C:CalX X.prog X.w X.K X.mg X.base x ps k sp)(hr:Room j X.A)(hg:Gl X x)(ha:PA X (e::es) t)(hk:k<=j:=by decide)(hdb:(x == ("__debug__":Str))=false:=by decide)(h1:sL e=false:=by rfl)(h2:vG es=true:=by rfl):PE X (.Call (.Name x p) (e::es) [] pos) (AN0 sp [] E0 t):=iD C (hr.mono hk) hg ha hdb (aJ _ _ _ h1) (aL h2)
local macro_rules | `(tactic| walk_at "ln") => `(tactic| (intro vs H Q E h; (repeat (obtain ⟨_, h⟩ := h)); subst_vars; rfl))
def top (i:Nat):Stmt:=PySem.Challenge.pw_bellsaway_k15_what_wins_and_idle_lines.main.body.getD i (.Pass ⟨0,0,0,0⟩)
abbrev gN:Stmt:=top 8
theorem xO:FnScope ["thing"] ["thing"] (aB gN):=by walk_at "sc"
abbrev bW:Stmt:=top 9
theorem lC:FnScope ["thing","least","most"] ["thing","least","most"] (aB bW):=by walk_at "sc"
abbrev dG:Stmt:=top 10
theorem oW:FnScope ["thing","least"] ["thing","least"] (aB dG):=by walk_at "sc"
abbrev cQ:Stmt:=top 14
theorem nU:FnScope ["thing"] ["thing"] (aB cQ):=by walk_at "sc"
abbrev eS:Stmt:=top 15
theorem tW:FnScope ["zone"] ["zone"] (aB eS):=by walk_at "sc"
abbrev eA:Stmt:=top 16
theorem rO:FnScope ["quiet"] ["quiet"] (aB eA):=by walk_at "sc"
abbrev iK:Stmt:=top 20
theorem AA9:FnScope ["thing"] ["thing"] (aB iK):=by walk_at "sc"
abbrev bM:Stmt:=aI (top 21) 0
theorem jI:FnScope ["self","kind","place","weight"] ["self","kind","place","weight"] (aB bM):=by walk_at "sc"
abbrev bX:Stmt:=top 23
theorem lD:FnScope ["thing"] ["thing"] (aB bX):=by walk_at "sc"
abbrev dN:Stmt:=top 24
theorem sc_counted_name:FnScope ["number","name"] ["number"] (aB dN):=by walk_at "sc"
abbrev eB:Stmt:=top 25
theorem sc_unused_name:FnScope ["taken","number"] ["taken"] (aB eB):=by walk_at "sc"
abbrev cR:Stmt:=aI (top 28) 1
theorem nV:FnScope ["self","kinds","places","weights"] ["self","kinds","places","weights"] (aB cR):=by walk_at "sc"
abbrev cG:Stmt:=aI (top 28) 2
theorem mM:FnScope ["self","kind","place","from_weight"] ["self","kind","place","from_weight"] (aB cG):=by walk_at "sc"
abbrev dH:Stmt:=aI (top 29) 0
theorem oX:FnScope ["self","names"] ["self","names"] (aB dH):=by walk_at "sc"
abbrev cH:Stmt:=aI (top 29) 2
theorem mN:FnScope ["self","kinds","places","weights"] ["self","kinds","places","weights"] (aB cH):=by walk_at "sc"
abbrev bY:Stmt:=aI (top 29) 3
theorem lE:FnScope ["self","kind","place","from_weight"] ["self","kind","place","from_weight"] (aB bY):=by walk_at "sc"
abbrev cS:Stmt:=aI (top 30) 0
theorem nW:FnScope ["self","names"] ["self","names"] (aB cS):=by walk_at "sc"
abbrev bZ:Stmt:=aI (top 30) 2
theorem lF:FnScope ["self","kinds","places","weights"] ["self","kinds","places","weights"] (aB bZ):=by walk_at "sc"
abbrev bP:Stmt:=aI (top 30) 3
theorem kD:FnScope ["self","kind","place","from_weight"] ["self","kind","place","from_weight"] (aB bP):=by walk_at "sc"
abbrev cT:Stmt:=aI (top 31) 0
theorem nX:FnScope ["self","weight"] ["self","weight"] (aB cT):=by walk_at "sc"
abbrev cA:Stmt:=aI (top 31) 2
theorem lG:FnScope ["self","kinds","places","weights"] ["self","kinds","places","weights"] (aB cA):=by walk_at "sc"
abbrev bQ:Stmt:=aI (top 31) 3
theorem kE:FnScope ["self","kind","place","from_weight"] ["self","kind","place","from_weight"] (aB bQ):=by walk_at "sc"
abbrev dO:Stmt:=aI (top 32) 0
theorem qK:FnScope ["self","fit"] ["self","fit"] (aB dO):=by walk_at "sc"
abbrev cU:Stmt:=aI (top 32) 2
theorem nY:FnScope ["self","kinds","places","weights"] ["self","kinds","places","weights"] (aB cU):=by walk_at "sc"
abbrev cI:Stmt:=aI (top 32) 3
theorem mP:FnScope ["self","kind","place","from_weight"] ["self","kind","place","from_weight"] (aB cI):=by walk_at "sc"
abbrev dI:Stmt:=aI (top 33) 0
theorem oY:FnScope ["self","fits"] ["self","fits"] (aB dI):=by walk_at "sc"
abbrev cJ:Stmt:=aI (top 33) 2
theorem sc_Both_note_turns:FnScope ["self","kinds","places","weights","fit"] ["self","kinds","places","weights"] (aB cJ):=by walk_at "sc"
abbrev cB:Stmt:=aI (top 33) 3
theorem sc_Both_weight_bits:FnScope ["self","kind","place","from_weight","fitting","fit"] ["self","kind","place","from_weight"] (aB cB):=by walk_at "sc"
abbrev cK:Stmt:=aI (top 34) 0
theorem mQ:FnScope ["self","fits"] ["self","fits"] (aB cK):=by walk_at "sc"
abbrev bR:Stmt:=aI (top 34) 2
theorem sc_Either_note_turns:FnScope ["self","kinds","places","weights","fit"] ["self","kinds","places","weights"] (aB bR):=by walk_at "sc"
abbrev bN:Stmt:=aI (top 34) 3
theorem sc_Either_weight_bits:FnScope ["self","kind","place","from_weight","fitting","fit"] ["self","kind","place","from_weight"] (aB bN):=by walk_at "sc"
abbrev eC:Stmt:=top 35
theorem rP:FnScope ["names"] ["names"] (aB eC):=by walk_at "sc"
abbrev fK:Stmt:=top 36
theorem vQ:FnScope ["fit"] ["fit"] (aB fK):=by walk_at "sc"
abbrev eU:Stmt:=top 37
theorem sc_check_fits:FnScope ["fits","fit"] ["fits"] (aB eU):=by walk_at "sc"
abbrev sS:Stmt:=top 38
theorem sc_mark:FnScope ["marks","things","thing"] ["marks","things"] (aB sS):=by walk_at "sc"
abbrev jW:Stmt:=top 39
theorem sc_firsts:FnScope ["fits","kinds","places","weights","fit","from_weight","found","kind","place"] ["fits"] (aB jW):=by walk_at "sc"
abbrev bS:Stmt:=top 40
theorem sc_bits_from_weights:FnScope ["falling","from_weight","bits","weight"] ["falling"] (aB bS):=by walk_at "sc"
abbrev eE:Stmt:=top 41
theorem sc_find_firsts:FnScope ["found","fits","kind","place","from_weight","free","number","fit","won","weight"] ["found","fits","kind","place","from_weight"] (aB eE):=by walk_at "sc"
abbrev bK:Stmt:=aI (top 48) 0
theorem oZ:FnScope ["self","fit","way","roads","sure","raised"] ["self","fit","way","roads","sure","raised"] (aB bK):=by walk_at "sc"
abbrev dP:Stmt:=top 49
theorem qL:FnScope ["way","roads","sure","raised"] ["way","roads","sure","raised"] (aB dP):=by walk_at "sc"
abbrev bA:Stmt:=aI (top 50) 0
theorem mR:FnScope ["self","zone","quiet","wake","lines"] ["self","zone","quiet","wake","lines"] (aB bA):=by walk_at "sc"
abbrev dJ:Stmt:=aI (top 50) 3
theorem pB:FnScope ["self","number"] ["self","number"] (aB dJ):=by walk_at "sc"
abbrev eF:Stmt:=aI (top 50) 4
theorem sc_Wishes_idle:FnScope ["self","won"] ["self"] (aB eF):=by walk_at "sc"
abbrev eV:Stmt:=top 51
theorem tX:FnScope ["wake","quiet"] ["wake","quiet"] (aB eV):=by walk_at "sc"
abbrev eH:Stmt:=top 52
theorem rQ:FnScope ["lines"] ["lines"] (aB eH):=by walk_at "sc"
abbrev eI:Stmt:=top 54
theorem rR:FnScope ["_law_script","_law_k"] ["_law_script","_law_k"] (aB eI):=by walk_at "sc"
abbrev fL:Stmt:=top 55
theorem vR:FnScope ["_law_cell"] ["_law_cell"] (aB fL):=by walk_at "sc"
abbrev gO:Stmt:=top 56
theorem sc_law_next:FnScope ["_law_state","_law_base","_law_found","_law_number"] ["_law_state","_law_base"] (aB gO):=by walk_at "sc"
abbrev gP:Stmt:=top 57
theorem sc_law_name:FnScope ["_law_state","_law_letters","_law_way","_law_some","_law_word","_law_at"] ["_law_state"] (aB gP):=by walk_at "sc"
abbrev gQ:Stmt:=top 58
theorem sc_law_leaf:FnScope ["_law_state","_law_more","_law_kind","_law_names","_law_k","_law_name_here"] ["_law_state","_law_more"] (aB gQ):=by walk_at "sc"
abbrev gR:Stmt:=top 59
theorem sc_law_tree:FnScope ["_law_state","_law_deep","_law_more","_law_kind","_law_parts"] ["_law_state","_law_deep","_law_more"] (aB gR):=by walk_at "sc"
abbrev gS:Stmt:=top 60
theorem xP:FnScope ["_law_tree_here"] ["_law_tree_here"] (aB gS):=by walk_at "sc"
abbrev gT:Stmt:=top 61
theorem xQ:FnScope ["_law_tree_here","_law_thing"] ["_law_tree_here","_law_thing"] (aB gT):=by walk_at "sc"
abbrev dQ:Stmt:=top 62
theorem sc_law_gathered:FnScope ["_law_tree_here","_law_word","_law_found","_law_part"] ["_law_tree_here","_law_word"] (aB dQ):=by walk_at "sc"
abbrev eX:Stmt:=top 63
theorem sc_law_beside:FnScope ["_law_names","_law_letter"] ["_law_names"] (aB eX):=by walk_at "sc"
abbrev iL:Stmt:=top 64
theorem sc_law_all:FnScope ["_law_trees_here","_law_whole","_law_kinds","_law_places","_law_weights","_law_found","_law_kind","_law_place"] ["_law_trees_here"] (aB iL):=by walk_at "sc"
abbrev gU:Stmt:=top 65
theorem sc_law_much:FnScope ["_law_trees_here","_law_whole"] ["_law_trees_here"] (aB gU):=by walk_at "sc"
abbrev fM:Stmt:=top 66
theorem sc_law_trees:FnScope ["_law_state","_law_found","_law_doubled","_law_k","_law_tree_here","_law_way","_law_ahead"] ["_law_state"] (aB fM):=by walk_at "sc"
abbrev gW:Stmt:=top 67
theorem sc_law_wins:FnScope ["_law_trees_here","_law_number","_law_thing","_law_tree_here"] ["_law_trees_here","_law_number","_law_thing"] (aB gW):=by walk_at "sc"
abbrev fN:Stmt:=top 68
theorem vS:FnScope ["_law_found","_law_trees_here","_law_number","_law_some"] ["_law_found","_law_trees_here","_law_number","_law_some"] (aB fN):=by walk_at "sc"
abbrev gX:Stmt:=top 69
theorem xR:FnScope ["_law_state","_law_tree_here"] ["_law_state","_law_tree_here"] (aB gX):=by walk_at "sc"
abbrev tY:Stmt:=top 70
theorem sc_law:FnScope ["_law_script","_law_state","_law_trees_here","_law_lines","_law_tree_here","_law_line_here","_law_wishes","_law_some","_law_first","_law_idle","_law_number","_law_found","_law_told"] ["_law_script"] (aB tY):=by walk_at "sc"
structure Ad where
 Happening:Addr
 Fit:Addr
 Any:Addr
 Kind:Addr
 Place:Addr
 Least:Addr
 Not:Addr
 Both:Addr
 Either:Addr
 Way:Addr
 Now:Addr
 Never:Addr
 Raised:Addr
 Line:Addr
 Wishes:Addr
 t0:Tok
 t1:Tok
 t2:Tok
structure Bt (K:Frag) (mg:Str->Option Value) (a:Ad):Prop where
 len:mg "len"=none
 int:mg "int"=none
 bool:mg "bool"=none
 str:mg "str"=none
 tuple:mg "tuple"=none
 list:mg "list"=none
 all:mg "all"=none
 isinstance:mg "isinstance"=none
 range:mg "range"=none
 set:mg "set"=none
 sorted:mg "sorted"=none
 enumerate:mg "enumerate"=none
 max:mg "max"=none
 MINUTES_OF_DAY:mg "MINUTES_OF_DAY"=some (.int 1440 a.t0)
 LETTERS:mg "LETTERS"=some (.str "abcdefghijklmnopqrstuvwxyz" a.t1)
 MOST_LETTERS:mg "MOST_LETTERS"=some (.int 8 a.t2)
 Happening:mg "Happening"=some (.ref a.Happening)
 Fit:mg "Fit"=some (.ref a.Fit)
 Any:mg "Any"=some (.ref a.Any)
 Kind:mg "Kind"=some (.ref a.Kind)
 Place:mg "Place"=some (.ref a.Place)
 Least:mg "Least"=some (.ref a.Least)
 Not:mg "Not"=some (.ref a.Not)
 Both:mg "Both"=some (.ref a.Both)
 Either:mg "Either"=some (.ref a.Either)
 Way:mg "Way"=some (.ref a.Way)
 Now:mg "Now"=some (.ref a.Now)
 Never:mg "Never"=some (.ref a.Never)
 Raised:mg "Raised"=some (.ref a.Raised)
 Line:mg "Line"=some (.ref a.Line)
 Wishes:mg "Wishes"=some (.ref a.Wishes)
 ck_Any:ClsK K a.Any
 ck_Kind:ClsK K a.Kind
 na_Kind_names:NoAttr K a.Kind "names"
 ck_Place:ClsK K a.Place
 na_Place_names:NoAttr K a.Place "names"
 ck_Least:ClsK K a.Least
 na_Least_weight:NoAttr K a.Least "weight"
 ck_Not:ClsK K a.Not
 na_Not_fit:NoAttr K a.Not "fit"
 ck_Both:ClsK K a.Both
 na_Both_fits:NoAttr K a.Both "fits"
 ck_Either:ClsK K a.Either
 na_Either_fits:NoAttr K a.Either "fits"
 ck_Happening:ClsK K a.Happening
 na_Happening_kind:NoAttr K a.Happening "kind"
 na_Happening_place:NoAttr K a.Happening "place"
 na_Happening_weight:NoAttr K a.Happening "weight"
 is_Any_Fit:kitOne K (.ref a.Any) (.ref a.Fit)=some true
 is_Kind_Fit:kitOne K (.ref a.Kind) (.ref a.Fit)=some true
 is_Place_Fit:kitOne K (.ref a.Place) (.ref a.Fit)=some true
 is_Least_Fit:kitOne K (.ref a.Least) (.ref a.Fit)=some true
 is_Not_Fit:kitOne K (.ref a.Not) (.ref a.Fit)=some true
 is_Both_Fit:kitOne K (.ref a.Both) (.ref a.Fit)=some true
 is_Either_Fit:kitOne K (.ref a.Either) (.ref a.Fit)=some true
 mk_Any:MkN K a.Any
 ck_Now:ClsK K a.Now
 ck_Never:ClsK K a.Never
 ck_Line:ClsK K a.Line
 na_Line_fit:NoAttr K a.Line "fit"
 na_Line_way:NoAttr K a.Line "way"
 na_Line_roads:NoAttr K a.Line "roads"
 na_Line_sure:NoAttr K a.Line "sure"
 na_Line_raised:NoAttr K a.Line "raised"
 ck_Wishes:ClsK K a.Wishes
 na_Wishes_zone:NoAttr K a.Wishes "zone"
 na_Wishes_quiet:NoAttr K a.Wishes "quiet"
 na_Wishes_wake:NoAttr K a.Wishes "wake"
 na_Wishes_lines:NoAttr K a.Wishes "lines"
 is_Happening_Happening:kitOne K (.ref a.Happening) (.ref a.Happening)=some true
 is_Now_Way:kitOne K (.ref a.Now) (.ref a.Way)=some true
 is_Never_Way:kitOne K (.ref a.Never) (.ref a.Way)=some true
 is_Now_Never:kitOne K (.ref a.Now) (.ref a.Never)=some false
 is_Never_Never:kitOne K (.ref a.Never) (.ref a.Never)=some true
 is_Line_Line:kitOne K (.ref a.Line) (.ref a.Line)=some true
 mk_Now:MkN K a.Now
 mk_Never:MkN K a.Never
def okI (K:Frag)(H:Hp)(x:V):Prop:=∃ t,TyOf K H x t/\kitOne K t (.type "int")=some (AS5 x)/\kitOne K t (.type "bool")=some (AE0 x)
abbrev noL (K:Frag)(H:Hp)(x:V):Prop:=∃ t,TyOf K H x t/\kitOne K t (.type "list")=some false
def AK1:V->Str
 | .str u=>u
 | _=>Str.empty
def qM (xs:List V):Bool:=xs.all jA && decide ((xs.map AK1).Nodup)
theorem AK2 {x:V}(h:jA x=true):x=.str (AK1 x):=by cases x <;> first | rfl | cases h
theorem AK3:∀ {xs:List V},xs.all jA=true->xs=(xs.map AK1).map V.str
 | [],_=>rfl
 | x::xs,h=>by
  simp only [List.all_cons,Bool.and_eq_true] at h
  rw [List.map_cons,List.map_cons,<- AK2 h.1,<- AK3 h.2]
def BP2 (K:Frag)(H:Hp)(x:V)(b:Bool):Prop:=(∃ p xs,x=.ref p/\H p=some (.lst xs)/\xs.length<=100/\(∀ y∈xs,okN H y)/\b=qM xs)\/(b=false/\noL K H x)
theorem fW {k:Str}{v:V}:∀ {fs:List (Str × V)},(∀ q∈fs,q.1≠k)->lX k v fs=fs++[(k,v)]
 | [],_=>rfl
 | (k0,v0)::fs,h=>by
  show (if k0=k then _ else _:List (Str × V))=_
  rw [if_neg (h (k0,v0) List.mem_cons_self),fW fun q hq=>h q (List.mem_cons_of_mem _ hq)]
  rfl
theorem fO (H:Hp):Same H H:=fun _ _ z=>z
def BA2 (t:TS):TS:=t
theorem AT7 {t:TS}{D:Ends}{σ:L2.St}{H:Hp}:BA2 t D σ H=t D σ H:=rfl
theorem zK {t:TE}{nx:L2.St->Hp->Prop}{rt:VK}{bk ct:L2.St->Hp->Prop}{σ:L2.St}{H:Hp}(h:t σ H rt):BA2 (BH0 t) { nx:=nx,rt:=rt,bk:=bk,ct:=ct } σ H:=h
local macro_rules | `(tactic| walk_at "ho") => `(tactic| (first | rw [AT7] | (dsimp only; rw [AT7])))
theorem dL {X:Cx}{b:List Stmt}{t:TS}(h:QSs X b t):QSs X b (BA2 t):=h
theorem gJ {H H':Hp}{x dx:Addr}{o o':HO}(hx:H x=none)(hd:H dx=none)(b:But x (upd (upd H dx o) x o') H'):Same H H':=fun c u e=>b c u (aP e hx) (cX hx hd c u e)
abbrev fz (a:Ad)(Z:Addr->Prop):FC:=⟨a.Any,a.Kind,a.Place,a.Least,a.Not,a.Both,a.Either,Z⟩
abbrev fc (a:Ad):FC:=fz a fun _=>True
theorem qN {a:Ad}{Z:Addr->Prop}{H:Hp}{t:Tr}{v:V}(h:t.Fit (fz a Z) H v):t.Fit (fc a) H v:=h.mono fun _ _=>trivial
def hFs (k p:Str)(w:Int):List (Str × V):=[("kind",.str k),("place",.str p),("weight",.int w)]
def gdV (wd:Str)(x:V):Prop:=(wd="weight"/\∃ n:Int,x=.int n/\0<=n/\n < 1000000)\/(wd≠"weight"/\∃ u,x=.str u/\cP u)
def But3 (x y z:Addr)(H H':Hp):Prop:=∀ b o,b≠x->b≠y->b≠z->H b=some o->H' b=some o
structure Three (H0 H:Hp) (x y z:Addr) (ks ps ws:List (Key × V)):Prop where
 nx:H0 x=none
 ny:H0 y=none
 nz:H0 z=none
 hx:H x=some (.dK ks)
 hy:H y=some (.dK ps)
 hz:H z=some (.dK ws)
 xy:x≠y
 xz:x≠z
 yz:y≠z
theorem iA {H0 H H':Hp}{x:Addr}(s:Same H0 H)(n:H0 x=none)(b:But x H H'):Same H0 H':=fun c o e=>b c o (aP e n) (s c o e)
theorem hG {H0 H H':Hp}{x y z:Addr}(s:Same H0 H)(n1:H0 x=none)(n2:H0 y=none)(n3:H0 z=none)(b:But3 x y z H H'):Same H0 H':=fun c o e=>b c o (aP e n1) (aP e n2) (aP e n3) (s c o e)
theorem But3.refl {x y z:Addr}{H:Hp}:But3 x y z H H:=fun _ _ _ _ _ e=>e
theorem But3.trans {x y z:Addr}{H H1 H2:Hp}(s:But3 x y z H H1)(t:But3 x y z H1 H2):But3 x y z H H2:=fun b o h1 h2 h3 e=>t b o h1 h2 h3 (s b o h1 h2 h3 e)
theorem zL {c:FC}{H:Hp}{t:Tr}{v:V}(h:Tr.Fit c H t v):∃ p dx fs,v=.ref p/\H p=some (.ins (t.cls c) dx fs)/\fs.lookup ("note_turns":Str)=none/\fs.lookup ("weight_bits":Str)=none:=by
 cases t with
 | any=>rw [Tr.Fit] at h; obtain ⟨p,d,e,h⟩:=h; exact ⟨p,d,_,e,h,rfl,rfl⟩
 | kind us=>rw [Tr.Fit] at h; obtain ⟨p,d,l,e,h,_⟩:=h; exact ⟨p,d,_,e,h,rfl,rfl⟩
 | place us=>rw [Tr.Fit] at h; obtain ⟨p,d,l,e,h,_⟩:=h; exact ⟨p,d,_,e,h,rfl,rfl⟩
 | weight n=>rw [Tr.Fit] at h; obtain ⟨p,d,e,h⟩:=h; exact ⟨p,d,_,e,h,rfl,rfl⟩
 | not t=>rw [Tr.Fit] at h; obtain ⟨p,d,y,e,h,_⟩:=h; exact ⟨p,d,_,e,h,rfl,rfl⟩
 | both ts=>rw [Tr.Fit] at h; obtain ⟨p,d,l,xs,e,h,_⟩:=h; exact ⟨p,d,_,e,h,rfl,rfl⟩
 | either ts=>rw [Tr.Fit] at h; obtain ⟨p,d,l,xs,e,h,_⟩:=h; exact ⟨p,d,_,e,h,rfl,rfl⟩
def gK (a:Ad)(i d:Nat):Sp:=fun vs H Q E=>∃ (v:V) (t:Tr) (H0:Hp) (kd pd wd:Addr) (ks ps ws:List (Key × V)),vs=[v,.ref kd,.ref pd,.ref wd]/\t.tag=i/\t.dp < d/\t.ok/\t.Fit (fc a) H0 v/\Same H0 H/\Three H0 H kd pd wd ks ps ws/\ks.length+t.cnt<=900/\ps.length+t.cnt<=900/\ws.length+t.cnt<=900 /\
 ∀ ks' ps' ws' H',But3 kd pd wd H H'->Three H0 H' kd pd wd ks' ps' ws'->Grow ks ks' ((t.names true).map Sum.inr)->Grow ps ps' ((t.names false).map Sum.inr)->Grow ws ws' (t.wts.map Sum.inl)->Q .non H'
theorem dD {a:Ad}{i:Nat}:∀ vs H Q E,¬ gK a i 0 vs H Q E:=by
 rintro vs H Q E ⟨v,t,H0,kd,pd,wd,ks,ps,ws,_,_,h,_⟩
 exact absurd h (Nat.not_lt_zero _)
def dM (_:Frag)(a:Ad)(d:Nat)(C:Addr)(sp:Sp):Prop:=∃ t:Tr,C=t.cls (fc a)/\sp=gK a t.tag d
theorem AR0 {K:Frag}{a:Ad}{H H0:Hp}{t:Tr}{p kd pd wd:Addr}{ks ps ws:List (Key × V)}{d:Nat}{Q:VK}(h:t.Fit (fc a) H0 (.ref p))(hd:t.dp < d)(ho:t.ok)(S:Same H0 H)(T:Three H0 H kd pd wd ks ps ws)(l1:ks.length+t.cnt<=900)(l2:ps.length+t.cnt<=900)(l3:ws.length+t.cnt<=900)(q:∀ ks' ps' ws' H',But3 kd pd wd H H'->Three H0 H' kd pd wd ks' ps' ws'->Grow ks ks' ((t.names true).map Sum.inr)->Grow ps ps' ((t.names false).map Sum.inr)->Grow ws ws' (t.wts.map Sum.inl)->Q .non H') :
  ∃ C dx fs,H p=some (.ins C dx fs)/\fs.lookup ("note_turns":Str)=none/\∃ sp,dM K a d C sp/\sp [.ref p,.ref kd,.ref pd,.ref wd] H Q E0:=by
 obtain ⟨p',dx,fs,e,hp',lk,_⟩:=zL h
 cases e
 exact ⟨_,dx,fs,S _ _ hp',lk,_,⟨t,rfl,rfl⟩,.ref p,t,H0,kd,pd,wd,ks,ps,ws,rfl,rfl,hd,ho,h,S,T,l1,l2,l3,q⟩
def iR (a:Ad)(i d:Nat):Sp:=fun vs H Q E=>∃ (v:V) (t:Tr) (k p:Str) (fd:Addr) (ws:List Int),vs=[v,.str k,.str p,.ref fd]/\t.tag=i/\t.dp < d/\t.ok/\t.Fit (fc a) H v/\H fd=some (.dK (fwK ws))/\Falls ws/\(∀ n∈t.wts,n∈ws)/\Q (.int (mk ws (fun w=>t.ev k p w):Nat)) H
theorem cN {a:Ad}{i:Nat}:∀ vs H Q E,¬ iR a i 0 vs H Q E:=by
 rintro vs H Q E ⟨v,t,k,p,fd,ws,_,_,h,_⟩
 exact absurd h (Nat.not_lt_zero _)
def dE (_:Frag)(a:Ad)(d:Nat)(C:Addr)(sp:Sp):Prop:=∃ t:Tr,C=t.cls (fc a)/\sp=iR a t.tag d
theorem AR1 {K:Frag}{a:Ad}{H:Hp}{t:Tr}{q0 fd:Addr}{k p:Str}{ws:List Int}{d:Nat}{Q:VK}(h:t.Fit (fc a) H (.ref q0))(hd:t.dp < d)(ho:t.ok)(hf:H fd=some (.dK (fwK ws)))(F:Falls ws)(hw:∀ n∈t.wts,n∈ws)(q:Q (.int (mk ws (fun w=>t.ev k p w):Nat)) H) :
  ∃ C dx fs,H q0=some (.ins C dx fs)/\fs.lookup ("weight_bits":Str)=none/\∃ sp,dE K a d C sp/\sp [.ref q0,.str k,.str p,.ref fd] H Q E0:=by
 obtain ⟨p',dx,fs,e,hp',_,lk⟩:=zL h
 cases e
 exact ⟨_,dx,fs,hp',lk,_,⟨t,rfl,rfl⟩,.ref q0,t,k,p,fd,ws,rfl,rfl,hd,ho,h,hf,F,hw,q⟩
def HapR (a:Ad)(H:Hp)(ts:List Tr)(i:Nat)(x:V):Prop:=∃ hp dh k p w,x=.ref hp/\H hp=some (.ins a.Happening dh (hFs k p w))/\cP k/\cP p/\0<=w/\w < 1000000/\won ts i k p w=true
theorem HapR.ins {a:Ad}{H H':Hp}{ts:List Tr}{i:Nat}{x:V}(h:HapR a H ts i x)(s:∀ b C d fs,H b=some (.ins C d fs)->H' b=some (.ins C d fs)):HapR a H' ts i x:=by
 obtain ⟨hp,dh,k,p,w,e,h,r⟩:=h
 exact ⟨hp,dh,k,p,w,e,s _ _ _ _ h,r⟩
def FoundR (a:Ad)(H:Hp)(ws:List Int)(ts:List Tr)(done:Nat->List (Str × Str))(rs:List V):Prop:=rs.length=ts.length/\∀ i x,rs[i]?=some x->(x=.non/\∀ q∈done i,∀ w∈ws,won ts i q.1 q.2 w=false)\/HapR a H ts i x
def BP3 (a:Ad)(H:Hp)(ts:List Tr)(rs:List V):Prop:=rs.length=ts.length/\∀ i x,rs[i]?=some x->(x=.non/\∀ k p w,0<=w->won ts i k p w=false)\/HapR a H ts i x
theorem xS:∀ {xs:List V},(∀ x∈xs,∃ u,x=.str u/\cP u)->∃ us:List Str,xs=us.map V.str/\∀ u∈us,cP u
 | [],_=>⟨[],rfl,fun u h=>nomatch h⟩
 | x::xs,h=>by
  obtain ⟨u,rfl,g⟩:=h x (List.mem_cons_self ..)
  obtain ⟨us,rfl,gs⟩:=xS (xs:=xs) fun y m=>h y (List.mem_cons_of_mem _ m)
  exact ⟨u::us,rfl,fun v m=>(List.mem_cons.mp m).elim (fun e=>by rw [e]; exact g) (gs v)⟩
def lFs (f y r s z:V):List (Str × V):=[("fit",f),("way",y),("roads",r),("sure",s),("raised",z)]
def wFs (z q k l:V):List (Str × V):=[("zone",z),("quiet",q),("wake",k),("lines",l)]
def LnT (a:Ad)(Z:Addr->Prop)(H:Hp)(t:Tr)(v:V):Prop:=∃ p dl vf yp lr,v=.ref p/\H p=some (.ins a.Line dl (lFs vf (.ref yp) (.ref lr) (.bl false) .non))/\t.Fit (fz a Z) H vf
theorem LnT.same {a:Ad}{Z:Addr->Prop}{H H':Hp}{t:Tr}{v:V}(h:LnT a Z H t v)(S:Same H H'):LnT a Z H' t v:=by
 obtain ⟨p,dl,vf,yp,lr,e,h1,h2⟩:=h
 exact ⟨p,dl,vf,yp,lr,e,S _ _ h1,h2.same S⟩
theorem LnT.mono {a:Ad}{Z Z':Addr->Prop}{H:Hp}{t:Tr}{v:V}(h:LnT a Z H t v)(z:∀ l,Z l->Z' l):LnT a Z' H t v:=by
 obtain ⟨p,dl,vf,yp,lr,e,h1,h2⟩:=h
 exact ⟨p,dl,vf,yp,lr,e,h1,h2.mono z⟩
theorem LnT.but {a:Ad}{Z:Addr->Prop}{H H':Hp}{w:Addr}{ws:List V}{t:Tr}{v:V}(h:LnT a Z H t v)(hz:∀ l,Z l->l≠w)(hw:H w=some (.lst ws))(S:But w H H'):LnT a Z H' t v:=by
 obtain ⟨p,dl,vf,yp,lr,e,h1,h2⟩:=h
 exact ⟨p,dl,vf,yp,lr,e,S _ _ (fun z=>by rw [z,hw] at h1; cases h1) h1,h2.but hz hw S⟩
def WsAt (a:Ad)(H:Hp)(wp lp:Addr)(xs:List V):Prop:=∃ dx z q k,H wp=some (.ins a.Wishes dx (wFs z q k (.ref lp)))/\H lp=some (.lst xs)
theorem WsAt.same {a:Ad}{H H':Hp}{wp lp:Addr}{xs:List V}(h:WsAt a H wp lp xs)(S:Same H H'):WsAt a H' wp lp xs:=by
 obtain ⟨dx,z,q,k,h1,h2⟩:=h
 exact ⟨dx,z,q,k,S _ _ h1,S _ _ h2⟩
def BL5 (ts:List Tr)(i:Nat):Prop:=∀ k p w,0<=w->won ts i k p w=false
open Classical in
noncomputable def dead (ts:List Tr)(i:Nat):Bool:=decide (BL5 ts i)
open Classical in
theorem BG3 {ts:List Tr}{i:Nat}(h:BL5 ts i):dead ts i=true:=decide_eq_true h
open Classical in
theorem BG4 {ts:List Tr}{i:Nat}{k p:Str}{w:Int}(w0:0<=w)(h:won ts i k p w=true):dead ts i=false:=decide_eq_false fun d=>by
 rw [d k p w w0] at h
 cases h
noncomputable def idl (ts:List Tr):List Nat:=(List.range ts.length).filter (dead ts)
theorem zM {ts:List Tr}{n:Nat}:won (ts.take (n+1)) n=won ts n:=by
 funext k p w
 unfold won
 rw [List.getElem?_take,if_pos (Nat.lt_succ_self n),List.take_take,Nat.min_eq_left (Nat.le_succ n)]
def BL6 (a:Ad)(H:Hp)(ts:List Tr)(n:Nat)(r:V):Prop:=(r=.non/\BL5 ts n)\/HapR a H ts n r
def TrsAt (H:Hp)(tl:Addr)(vs0:List V)(ts:List Tr):Prop:=H tl=some (.lst vs0)/\All2 (Tr.At H) ts vs0
theorem TrsAt.same {H H':Hp}{tl:Addr}{vs0:List V}{ts:List Tr}(h:TrsAt H tl vs0 ts)(S:Same H H'):TrsAt H' tl vs0 ts:=⟨S _ _ h.1,h.2.imp fun _ _ _ h=>h.same S⟩
structure Tame (ts:List Tr):Prop where
 ok:∀ t∈ts,t.ok/\t.dp < 6
 sum:(ts.map Tr.cnt).sum<=60
 len:ts.length<=4
def lH (K:Frag)(a:Ad):Sp:=fun vs H Q E=>∃ x,vs=[x]/\okI K H x/\Q (.bl (yV x)) H
def hJ (K:Frag)(a:Ad):Sp:=fun vs H Q E=>∃ x lo hi,vs=[x,.int lo,.int hi]/\okI K H x/\Q (.bl (AN4 x lo hi)) H
def eO (K:Frag)(a:Ad):Sp:=fun vs H Q E=>∃ x lo,vs=[x,.int lo]/\okI K H x/\Q (.bl (AN5 x lo)) H
def iM (K:Frag)(a:Ad):Sp:=fun vs H Q E=>vs=[.non]/\Q (.bl true) H
def mS (K:Frag)(a:Ad):Sp:=fun vs H Q E=>∃ z:Int,vs=[.int z]/\-1439<=z/\z<=1439/\Q .non H
def kR (K:Frag)(a:Ad):Sp:=fun vs H Q E=>vs=[.non]/\Q .non H
def nZ (K:Frag)(a:Ad):Sp:=fun vs H Q E=>∃ x,vs=[x]/\okN H x/\∀ H',Same H H'->Q (.bl (jA x)) H'
def dY (K:Frag)(a:Ad):Sp:=fun vs H Q E=>∃ (p dx:Addr) (k l:Str) (w:Int),vs=[.ref p,.str k,.str l,.int w]/\H p=some (.ins a.Happening dx [])/\cP k/\cP l/\0<=w/\∀ H',But p H H'->H' p=some (.ins a.Happening dx (hFs k l w))->Q .non H'
def eP (K:Frag)(a:Ad):Sp:=fun vs H Q E=>∃ (x:V) (b:Bool),vs=[x]/\BP2 K H x b/\∀ H',Same H H'->Q (.bl b) H'
def jJ (K:Frag)(a:Ad):Sp:=fun vs H Q E=>∃ n:Nat,vs=[.int n]/\n < 200/\Q (.str (cn n)) H
def kS (K:Frag)(a:Ad):Sp:=fun vs H Q E=>∃ (d:Addr) (kvs:List (Key × V)),vs=[.ref d]/\H d=some (.dK kvs)/\kvs.length<=150/\∀ u:Str,cP u->Sum.inr u ∉ cY kvs->Q (.str u) H
abbrev oA (_:Frag)(a:Ad)(d:Nat):Sp:=gK a 0 d
abbrev mT (_:Frag)(a:Ad)(d:Nat):Sp:=iR a 0 d
def gC (K:Frag)(a:Ad):Sp:=fun vs H Q E=>∃ (p dx l:Addr) (us:List Str),vs=[.ref p,.ref l]/\H p=some (.ins a.Kind dx [])/\H l=some (.lst (us.map V.str))/\AZ3 us/\∀ l' H',But p H H'->H l'=none->H' l'=some (.lst (us.map V.str))->H' p=some (.ins a.Kind dx [("names",.ref l')])->Q .non H'
abbrev mU (_:Frag)(a:Ad)(d:Nat):Sp:=gK a 1 d
abbrev lI (_:Frag)(a:Ad)(d:Nat):Sp:=iR a 1 d
def fP (K:Frag)(a:Ad):Sp:=fun vs H Q E=>∃ (p dx l:Addr) (us:List Str),vs=[.ref p,.ref l]/\H p=some (.ins a.Place dx [])/\H l=some (.lst (us.map V.str))/\AZ3 us/\∀ l' H',But p H H'->H l'=none->H' l'=some (.lst (us.map V.str))->H' p=some (.ins a.Place dx [("names",.ref l')])->Q .non H'
abbrev lJ (_:Frag)(a:Ad)(d:Nat):Sp:=gK a 2 d
abbrev kF (_:Frag)(a:Ad)(d:Nat):Sp:=iR a 2 d
def fQ (K:Frag)(a:Ad):Sp:=fun vs H Q E=>∃ (p dx:Addr) (n:Int),vs=[.ref p,.int n]/\H p=some (.ins a.Least dx [])/\0<=n/\Q .non (upd H p (.ins a.Least dx [("weight",.int n)]))
abbrev lK (_:Frag)(a:Ad)(d:Nat):Sp:=gK a 3 d
abbrev kG (_:Frag)(a:Ad)(d:Nat):Sp:=iR a 3 d
def hU (K:Frag)(a:Ad):Sp:=fun vs H Q E=>∃ (p dx:Addr) (v:V) (t:Tr),vs=[.ref p,v]/\H p=some (.ins a.Not dx [])/\t.Fit (fc a) H v/\Q .non (upd H p (.ins a.Not dx [("fit",v)]))
abbrev oB (_:Frag)(a:Ad)(d:Nat):Sp:=gK a 4 d
abbrev mV (_:Frag)(a:Ad)(d:Nat):Sp:=iR a 4 d
def gD (K:Frag)(a:Ad):Sp:=fun vs H Q E=>∃ (p dx l:Addr) (xs:List V) (ts:List Tr),vs=[.ref p,.ref l]/\H p=some (.ins a.Both dx [])/\H l=some (.lst xs)/\All2 (Tr.Fit (fc a) H) ts xs/\2<=xs.length/\xs.length<=100/\∀ l' H',But p H H'->H l'=none->H' l'=some (.lst xs)->H' p=some (.ins a.Both dx [("fits",.ref l')])->Q .non H'
abbrev mW (_:Frag)(a:Ad)(d:Nat):Sp:=gK a 5 d
abbrev lL (_:Frag)(a:Ad)(d:Nat):Sp:=iR a 5 d
def fE (K:Frag)(a:Ad):Sp:=fun vs H Q E=>∃ (p dx l:Addr) (xs:List V) (ts:List Tr),vs=[.ref p,.ref l]/\H p=some (.ins a.Either dx [])/\H l=some (.lst xs)/\All2 (Tr.Fit (fc a) H) ts xs/\2<=xs.length/\xs.length<=100/\∀ l' H',But p H H'->H l'=none->H' l'=some (.lst xs)->H' p=some (.ins a.Either dx [("fits",.ref l')])->Q .non H'
abbrev kI (_:Frag)(a:Ad)(d:Nat):Sp:=gK a 6 d
abbrev jK (_:Frag)(a:Ad)(d:Nat):Sp:=iR a 6 d
def iE (K:Frag)(a:Ad):Sp:=fun vs H Q E=>∃ (l:Addr) (us:List Str),vs=[.ref l]/\H l=some (.lst (us.map V.str))/\AZ3 us/\∀ H',Same H H'->Q .non H'
def jL (K:Frag)(a:Ad):Sp:=fun vs H Q E=>∃ (v:V) (t:Tr),vs=[v]/\t.Fit (fc a) H v/\Q .non H
def iS (K:Frag)(a:Ad):Sp:=fun vs H Q E=>∃ (l:Addr) (xs:List V) (ts:List Tr),vs=[.ref l]/\H l=some (.lst xs)/\All2 (Tr.Fit (fc a) H) ts xs/\2<=xs.length/\xs.length<=100/\Q .non H
def tZ (K:Frag)(a:Ad):Sp:=fun vs H Q E=>∃ (d l:Addr) (kvs:List (Key × V)) (xs:List Key),vs=[.ref d,.ref l]/\H d=some (.dK kvs)/\H l=some (.lst (xs.map kV))/\kvs.length+xs.length<=1000/\∀ kvs' H',But d H H'->H' d=some (.dK kvs')->Grow kvs kvs' xs->Q .non H'
def qO (K:Frag)(a:Ad):Sp:=fun vs H Q E=>∃ (fl:Addr) (xs:List V) (ts:List Tr),vs=[.ref fl]/\H fl=some (.lst xs)/\All2 (Tr.Fit (fc a) H) ts xs/\(∀ t∈ts,t.ok/\t.dp < 6)/\(ts.map Tr.cnt).sum<=60/\∀ r rs H',Same H H'->H' r=some (.lst rs)->BP3 a H' ts rs->Q (.ref r) H'
def gG (K:Frag)(a:Ad):Sp:=fun vs H Q E=>∃ (l:Addr) (ws:List Int),vs=[.ref l]/\H l=some (.lst (ws.map V.int))/\ws.Nodup/\ws.length<=900/\∀ d H',Same H H'->H' d=some (.dK (fwK ws))->Q (.ref d) H'
def kT (K:Frag)(a:Ad):Sp:=fun vs H Q E=>∃ (H0:Hp) (fo fl fd:Addr) (k p:Str) (xs rs:List V) (ts:List Tr) (ws:List Int) (done:List (Str × Str)),vs=[.ref fo,.ref fl,.str k,.str p,.ref fd]/\Same H0 H/\H0 fo=none/\H0 fl=some (.lst xs)/\All2 (Tr.Fit (fc a) H0) ts xs/\(∀ t∈ts,t.ok/\t.dp < 6)/\H fd=some (.dK (fwK ws))/\Falls ws/\(∀ w∈ws,w < 1000000)/\(∀ t∈ts,∀ n∈t.wts,n∈ws)/\cP k/\cP p/\H fo=some (.lst rs)/\FoundR a H ws ts (fun _=>done) rs/\∀ rs' H',But fo H H'->H' fo=some (.lst rs')->FoundR a H' ws ts (fun _=>(k,p)::done) rs'->Q .non H'
def gE (K:Frag)(a:Ad):Sp:=fun vs H Q E=>∃ (p dx yp rp dy:Addr) (vf:V) (t:Tr) (rs:List Str),vs=[.ref p,vf,.ref yp,.ref rp,.bl false,.non]/\H p=some (.ins a.Line dx [])/\t.Fit (fc a) H vf/\((H yp=some (.ins a.Now dy [])/\rs≠[])\/(H yp=some (.ins a.Never dy [])/\rs=[]))/\H rp=some (.lst (rs.map V.str))/\(rs=[]\/rs=(["mail"]:List Str))/\∀ l H',But p H H'->H' p=some (.ins a.Line dx (lFs vf (.ref yp) (.ref l) (.bl false) .non))->Q .non H'
def jM (K:Frag)(a:Ad):Sp:=fun vs H Q E=>∃ (yp rp dy:Addr) (rs:List Str),vs=[.ref yp,.ref rp,.bl false,.non]/\((H yp=some (.ins a.Now dy [])/\rs≠[])\/(H yp=some (.ins a.Never dy [])/\rs=[]))/\H rp=some (.lst (rs.map V.str))/\Q .non H
def cZ (K:Frag)(a:Ad):Sp:=fun vs H Q E=>∃ (p dx:Addr) (z:Int) (lv:V) (xs:List V) (ts:List Tr) (Z:Addr->Prop),vs=[.ref p,.int z,.non,.non,lv]/\H p=some (.ins a.Wishes dx [])/\-1439<=z/\z<=1439/\((lv=.non/\xs=[])\/∃ lp,lv=.ref lp/\H lp=some (.lst xs)/\All2 (LnT a Z H) ts xs/\xs.length<=100)/\∀ l' H',But p H H'->H' l'=some (.lst xs)->H' p=some (.ins a.Wishes dx (wFs (.int z) .non .non (.ref l')))->Q .non H'
def iZ (K:Frag)(a:Ad):Sp:=fun vs H Q E=>∃ (wp lp:Addr) (n:Int) (xs:List V) (ts:List Tr),vs=[.ref wp,.int n]/\WsAt a H wp lp xs/\All2 (LnT a (fun _=>True) H) ts xs/\Tame ts/\∀ r H',Same H H'->((n < 0\/(ts.length:Int)<=n)->r=.non)->(0<=n->n < (ts.length:Int)->BL6 a H' ts n.toNat r)->Q r H'
def kU (K:Frag)(a:Ad):Sp:=fun vs H Q E=>∃ (wp lp:Addr) (xs:List V) (ts:List Tr),vs=[.ref wp]/\WsAt a H wp lp xs/\All2 (LnT a (fun _=>True) H) ts xs/\Tame ts/\∀ r H',Same H H'->H r=none->H' r=some (.lst ((idl ts).map fun i=>V.int (i:Nat)))->Q (.ref r) H'
def mX (K:Frag)(a:Ad):Sp:=fun vs H Q E=>vs=[.non,.non]/\Q .non H
def kW (K:Frag)(a:Ad):Sp:=fun vs H Q E=>∃ (lv:V) (xs:List V) (ts:List Tr) (Z:Addr->Prop),vs=[lv]/\((lv=.non/\xs=[])\/∃ lp,lv=.ref lp/\H lp=some (.lst xs)/\All2 (LnT a Z H) ts xs/\xs.length<=100)/\∀ H',Same H H'->Q .non H'
def kX (K:Frag)(a:Ad):Sp:=fun vs H Q E=>∃ (b:Addr) (ns:List Int) (k:Int),vs=[.ref b,.int k]/\SqL K H b (ns.map V.int)/\0<=k/\∀ c,Q (.int c) H
def oT (K:Frag)(a:Ad):Sp:=fun vs H Q E=>∃ c:Int,vs=[.int c]/\∀ p a b c,H p=none->Q (.ref p) (upd H p (.lst [.int a,.int b,.int c]))
def dZ (K:Frag)(a:Ad):Sp:=fun vs H Q E=>∃ (w:Addr) (m:Int),vs=[.ref w,.int m]/\Well3 H w/\0 < m/\m < 2 ^ 62/\∀ (r:Int) (H':Hp),0<=r->r < m->Well3 H' w->But w H H'->Q (.int r) H'
def qP (K:Frag)(a:Ad):Sp:=fun vs H Q E=>∃ w:Addr,vs=[.ref w]/\Well3 H w/\∀ (u:Str) (H':Hp),cP u->Well3 H' w->But w H H'->Q (.str u) H'
def qQ (K:Frag)(a:Ad):Sp:=fun vs H Q E=>∃ (w:Addr) (m:Int),vs=[.ref w,.int m]/\Well3 H w/\0<=m/\m<=1/\∀ (v:V) (t:Tr) (H':Hp),t.At H' v->t.ok->t.dp=0->t.cnt<=2->Well3 H' w->But w H H'->Q v H'
def fR (K:Frag)(a:Ad)(d:Nat):Sp:=fun vs H Q E=>∃ (w:Addr) (i:Nat) (m:Int),i < d/\vs=[.ref w,.int i,.int m]/\Well3 H w/\i<=2/\0<=m/\m<=1/\∀ (v:V) (t:Tr) (H':Hp),t.At H' v->t.ok->t.dp<=i->t.cnt<=2 * 2 ^ i->Well3 H' w->But w H H'->Q v H'
def fS (K:Frag)(a:Ad)(d:Nat):Sp:=fun vs H Q E=>∃ (v:V) (t:Tr),t.dp < d/\vs=[v]/\t.At H v/\t.ok/\∀ v' H',Same H H'->t.Fit (fz a fun l=>H l=none) H' v'->Q v' H'
def fT (K:Frag)(a:Ad)(d:Nat):Sp:=fun vs H Q E=>∃ (v x:V) (t:Tr) (k l:Str) (w:Int),t.dp < d/\t.dp < 20/\vs=[v,x]/\t.At H v/\t.ok/\ThAt H x k l w/\∀ H',Same H H'->Q (.bl (t.ev k l w)) H'
def cO (K:Frag)(a:Ad)(d:Nat):Sp:=fun vs H Q E=>∃ (v:V) (t:Tr) (wd:Str),t.dp < d/\vs=[v,.str wd]/\t.At H v/\t.okl/\t.cnt<=200/\(wd="kind"\/wd="place"\/wd="weight")/\∀ (l:Addr) (xs:List V) (H':Hp),Same H H'->H l=none->H' l=some (.lst xs)->xs.length<=t.cnt->(∀ x∈xs,gdV wd x)->Q (.ref l) H'
def mY (K:Frag)(a:Ad):Sp:=fun vs H Q E=>∃ (l:Addr) (us:List Str),vs=[.ref l]/\H l=some (.lst (us.map V.str))/\us.length<=100/\∀ r u H',Same H H'->cP u->H' r=some (.lst ((us++[u]).map V.str))->Q (.ref r) H'
def sU (K:Frag)(a:Ad):Sp:=fun vs H Q E=>∃ (l:Addr) (vs0:List V) (ts:List Tr),vs=[.ref l]/\TrsAt H l vs0 ts/\Tame ts/\∀ r xs H',Same H H'->H' r=some (.lst xs)->xs.length<=1000000->(∀ x∈xs,∃ k p w,ThAt H' x k p w)->Q (.ref r) H'
def qR (K:Frag)(a:Ad):Sp:=fun vs H Q E=>∃ (l:Addr) (vs0:List V) (ts:List Tr),vs=[.ref l]/\TrsAt H l vs0 ts/\ts.length<=10/\(∀ t∈ts,t.ok/\t.dp < 6)/\(ts.map Tr.cnt).sum<=200/\∀ b H',Same H H'->Q (.bl b) H'
def oU (K:Frag)(a:Ad):Sp:=fun vs H Q E=>∃ w:Addr,vs=[.ref w]/\Well3 H w/\∀ r vs0 ts H',Well3 H' w->But w H H'->H r=none->TrsAt H' r vs0 ts->Tame ts->Q (.ref r) H'
def qS (K:Frag)(a:Ad):Sp:=fun vs H Q E=>∃ (tl:Addr) (n:Nat) (x:V) (vs0:List V) (ts:List Tr) (k p:Str) (w:Int),vs=[.ref tl,.int n,x]/\TrsAt H tl vs0 ts/\Tame ts/\n < ts.length/\ThAt H x k p w/\∀ H',Same H H'->Q (.bl (won ts n k p w)) H'
def oV (K:Frag)(a:Ad):Sp:=fun vs H Q E=>∃ (r:V) (tl l:Addr) (n:Nat) (vs0 xs:List V) (ts:List Tr),vs=[r,.ref tl,.int n,.ref l]/\TrsAt H tl vs0 ts/\Tame ts/\n < ts.length/\H l=some (.lst xs)/\xs.length<=1000000/\(∀ x∈xs,∃ k p w,ThAt H x k p w)/\BL6 a H ts n r/\∀ H',Same H H'->Q (.bl true) H'
def qT (K:Frag)(a:Ad):Sp:=fun vs H Q E=>∃ (st:Addr) (v:V) (t:Tr),vs=[.ref st,v]/\Well3 H st/\t.At H v/\t.ok/\t.dp < 6/\∀ r H',Well3 H' st->But st H H'->LnT a (fun l=>H l=none) H' t r->Q r H'
def spL (K:Frag):Sp:=fun vs H Q _=>∃ (a:Addr) (ns:List Int),vs=[.ref a]/\SqL K H a (ns.map V.int)/\ns.length<=63/\∀ H',Q (.bl true) H'
abbrev AK4 (K:Frag)(_:Ad):Sp:=spL K
theorem vT {K:Frag}{a:Ad}:∀ vs H Q E,¬ fR K a 0 vs H Q E:=by
 rintro vs H Q E ⟨w,i,m,h,_⟩
 exact absurd h (Nat.not_lt_zero _)
theorem vU {K:Frag}{a:Ad}:∀ vs H Q E,¬ fS K a 0 vs H Q E:=by
 rintro vs H Q E ⟨v,t,h,_⟩
 exact absurd h (Nat.not_lt_zero _)
theorem vV {K:Frag}{a:Ad}:∀ vs H Q E,¬ fT K a 0 vs H Q E:=by
 rintro vs H Q E ⟨v,x,t,k,l,w,h,_⟩
 exact absurd h (Nat.not_lt_zero _)
theorem pC {K:Frag}{a:Ad}:∀ vs H Q E,¬ cO K a 0 vs H Q E:=by
 rintro vs H Q E ⟨v,t,wd,h,_⟩
 exact absurd h (Nat.not_lt_zero _)
def vW (K:Frag)(a:Ad)(C:Addr)(sp:Sp):Prop:=C=a.Wishes/\sp=iZ K a
def AK5 (K:Frag)(a:Ad)(C:Addr)(sp:Sp):Prop:=C=a.Wishes/\sp=kU K a
section
variable {P:Program}{w:World}{K:Frag}{mg:Str->Option Value}{base:Heap}{f:Addr}{fd:FuncData}{a:Ad}
theorem uR {H:Hp}{w:Addr}{m:Int}{Q:VK}{E:XK}(W:Well3 H w)(h0:0 < m)(h1:m < 2 ^ 62)(q:∀ (r:Int) (H':Hp),0<=r->r < m->Well3 H' w->But w H H'->Q (.int r) H'):dZ K a [.ref w,.int m] H Q E:=⟨w,m,rfl,W,h0,h1,q⟩
theorem xT (B:Bt K mg a)(F:Fun K "is_whole" "is_whole" gN f fd):FnOk P w K mg base CX0 1 f fd ["thing"] (lH K a):=by
 refine F.ok xO (by walk_at "ln") fun cdv A outer s H vs Q E hr h=>?_
 obtain ⟨x,rfl,⟨t,ty,ki,kb⟩,q⟩:=h
 refine ⟨_,(aR (aF (aV (aS (oO (aT (iP (K:=K) (T:="int") rfl) rfl B.isinstance PyProof.Rows.boot_isinstance (aH (aK (pv 0) (aK (iC (v:=.ty "int") rfl B.int PyProof.Rows.boot_int rfl) aC))) (he:=aJ _ _ _ rfl) (hpl:=aL rfl)) (sG (AR5 (aT (iP (K:=K) (T:="bool") rfl) rfl B.isinstance PyProof.Rows.boot_isinstance (aH (aK (pv 0) (aK (iC (v:=.ty "bool") rfl B.bool PyProof.Rows.boot_bool rfl) aC))) (he:=aJ _ _ _ rfl) (hpl:=aL rfl))))))))),?_⟩
 nofun
 refine ⟨x,t,_,rfl,ty,ki,?_⟩
 nofun
 cases x <;> try simp only [AS5,yV,AV7,AE1,AV8,AV9,AE2,AE3,AW0,wR,AE4,AW1,w_c,BI7,BI8,BI9,AW2,BJ0,AE5,w_b,AW3,BJ1,w_not,AE6,AE7,BJ2,AE8,AW4,AW5,AW6,AE9,BJ3,BJ4,BJ5,AW7,AF0,BK1,AF1,tE,AF2,AF3,w_K,AX7,wU,wV,AX1,wW,wX,wY,BK6,AX2,AX3,AF6,AX4,AF7,wZ,xA,AG2,AX6,AG3,xC,AG5,AG4,xD,AZ4,AI6,AI7,AI8,xM,AI9,xH,AI4,xE,Option.getD_some, exists_const,false_or,or_false,exists_false,BJ6,BJ7,BJ8,BJ9,BK0,L2.vD,List.map_cons,List.map_nil,List.length_cons,List.length_nil,List.replicate,List.replicate_zero,List.replicate_succ,Nat.reduceAdd,Nat.reduceSub,Nat.reduceLeDiff,List.cons_append,List.nil_append,List.append_nil,List.set_cons_zero,List.set_cons_succ,List.getElem?_cons_zero,List.getElem?_cons_succ,Option.some.injEq,V.int.injEq,V.bl.injEq,V.ref.injEq,V.str.injEq,V.ty.injEq,List.cons.injEq,and_true,true_and,exists_eq_left,exists_eq_left',exists_and_left,exists_eq,exists_eq',and_self,decide_eq_true_eq,Bool.not_eq_true',decide_eq_false_iff_not,Bool.true_eq_false,Bool.false_eq_true,if_true,if_false,ite_true,ite_false,false_and,and_false,and_assoc,reduceCtorEq] at * <;> first | exact q | exact ⟨_,t,_,rfl,ty,kb,q⟩ | (refine ⟨_,t,_,rfl,ty,kb,?_⟩; simpa [AE0] using q)
theorem pD (B:Bt K mg a)(gY:CalX P w K mg base "is_whole" ["thing"] 1 (lH K a))(F:Fun K "is_whole_from" "is_whole_from" dG f fd):FnOk P w K mg base CX0 2 f fd ["thing","least"] (eO K a):=by
 refine F.ok oW (by walk_at "ln") fun cdv A outer s H vs Q E hr h=>?_
 obtain ⟨x,lo,rfl,ox,q⟩:=h
 refine ⟨_,(aR (aF (aV (aS (oO (pc gY hr rfl (aH (aK (pv 0) aC))) (sG (dR AU8 (pv 1) (pv 0) (aY _)))))))),?_⟩
 nofun
 refine ⟨x,rfl,ox,?_⟩
 cases x <;> simp_all [yV,AN5]
theorem AB0 (B:Bt K mg a)(F:Fun K "is_name" "is_name" iK f fd):FnOk P w K mg base CX0 1 f fd ["thing"] (nZ K a):=by
 refine F.ok AA9 (by walk_at "ln") fun cdv A outer s H vs Q E hr h=>?_
 obtain ⟨x,rfl,ox,q⟩:=h
 refine ⟨_,(aR (aD (bE (L2.PW.pt (jC (dF (cD (aT vH rfl B.isinstance PyProof.Rows.boot_isinstance (aH (aK (pv 0) (aK (iC (v:=.ty "str") rfl B.str PyProof.Rows.boot_str rfl) aC))) (he:=aJ _ _ _ rfl) (hpl:=aL rfl)))) (jC (aW zS (aT dX rfl B.len PySem.boot_len (aH (aK (pv 0) aC))) aG (aY _)) (iG (aW wL (aT dX rfl B.len PySem.boot_len (aH (aK (pv 0) aC))) (dU (v:=.int 8) rfl B.MOST_LETTERS ⟨_,rfl⟩) (aY _)))))) (aF (aV (aS nK))) aQ) (aF (aV (aS (aT (tH rfl) rfl B.all PyProof.Rows.boot_all (aH (aK (dS ["sign"] [none] rfl (by kernel_rfl) (AS7 (pv 0)) (fun cl C s H fp=>⟨(bC (i:=0) (by decide:List.Nodup (["sign"]:List Str)) rfl (Or.inl (by kernel_rfl)) (Or.inr (by kernel_rfl))),gA,(dR AC9 (pv 0 (hv:=Or.inl (by kernel_rfl))) (dU (v:=.str "abcdefghijklmnopqrstuvwxyz") (nP (by kernel_rfl)) B.LETTERS ⟨_,rfl⟩) (by with_unfolding_all rfl))⟩)) aC)) (he:=aJ _ _ _ rfl) (hpl:=aL rfl))))))),?_⟩
 cases x with
 | str u =>
  obtain ⟨hp,hl⟩:=id ox
  exists qE
  refine ⟨ox,sz8 hl,?_⟩
  by_cases h1:((u.length:Nat):Int) < 1
  ·rw [if_pos h1]
   have e:jA (.str u)=false:=decide_eq_false fun g=>by have:=g.1; omega
   rw [e] at q
   exact q _ fun _ _ z=>z
  rw [if_neg h1]
  refine ⟨sz8 hl,?_⟩
  by_cases h2:(8:Int) < ((u.length:Nat):Int)
  ·rw [if_pos h2]
   have e:jA (.str u)=false:=decide_eq_false fun g=>by have:=g.2.1; omega
   rw [e] at q
   exact q _ fun _ _ z=>z
  rw [if_neg h2]
  refine ⟨hp,?_⟩
  refine CompS.by (fun i acc σ H'=>acc=(u.cps.toList.take i).map (fun c=>V.bl (!(Builtin.Str.occurrences letters ⟨#[c]⟩ 0 letters.length 1).isEmpty))/\(∃ v,σ=[v])/\H'=H) (sz8 hl) ⟨rfl,⟨_,rfl⟩,rfl⟩ ?_ ?_ ?_
  ·rintro i c acc σ H' hc ⟨rfl,⟨v,rfl⟩,rfl⟩
   have hc':u.cps.toList[i]?=some c:=by simpa using hc
   have ea:(u.cps.toList.take i).map (fun c=>V.bl (!(Builtin.Str.occurrences letters ⟨#[c]⟩ 0 letters.length 1).isEmpty))++[V.bl (!(Builtin.Str.occurrences letters ⟨#[c]⟩ 0 letters.length 1).isEmpty)]=(u.cps.toList.take (i+1)).map (fun c=>V.bl (!(Builtin.Str.occurrences letters ⟨#[c]⟩ 0 letters.length 1).isEmpty)):=by
    rw [List.take_succ,hc',List.map_append]
    rfl
   nofun
   first | exact ea | exact ⟨ea,⟨_,rfl⟩,rfl⟩
  ·rintro i acc σ H' ⟨rfl,_,_⟩
   rw [List.length_map,List.length_take]
   omega
  ·rintro acc σ H' ⟨rfl,⟨v,rfl⟩,rfl⟩ D hD
   have e:(u.cps.toList.take u.cps.size).map (fun c=>V.bl (!(Builtin.Str.occurrences letters ⟨#[c]⟩ 0 letters.length 1).isEmpty))=(u.cps.toList.map fun c=>!(Builtin.Str.occurrences letters ⟨#[c]⟩ 0 letters.length 1).isEmpty).map V.bl:=by
    rw [List.take_of_length_le (by simp),List.map_map]
    rfl
   rw [e]
   refine ⟨D,rfl,_,SqL.of aA,?_⟩
   have e2:jA (.str u)=decide (∀ c∈u.cps.toList,97<=c/\c<=122):=by
    rw [Bool.eq_iff_iff]
    refine ⟨fun g=>?_,fun g=>?_⟩
    ·have g':cP u:=of_decide_eq_true g
     exact decide_eq_true g'.2.2
    ·exact decide_eq_true (p:=cP u) ⟨by omega,by omega,of_decide_eq_true g⟩
   rw [AN8 hp,<- e2]
   exact q _ (aE hD _)
 | non =>
  exists qE
  exact ⟨ox,q _ fun _ _ z=>z⟩
 | bl b =>
  exists qE
  exact ⟨ox,q _ fun _ _ z=>z⟩
 | int b =>
  exists qE
  exact ⟨ox,q _ fun _ _ z=>z⟩
 | ref b =>
  exists qE
  exact ⟨ox,q _ fun _ _ z=>z⟩
 | _=>exact ox.elim
theorem vX (B:Bt K mg a)(F:Fun K "_law_begin" "_law_begin" fL f fd):FnOk P w K mg base CX0 1 f fd ["_law_cell"] (oT K a):=by
 refine F.ok vR (by walk_at "ln") fun cdv A outer s H vs Q E hr h=>?_
 obtain ⟨c,rfl,q⟩:=h
 refine ⟨_,(aR (aF (aV (iY (aK (bJ pT (bJ iO (pv 0) aG) (bJ sH aG (bJ iX (pv 0) aG))) (aK (bJ iX (pv 0) aG) (aK aG aC))))))),?_⟩
 nofun
 exact ⟨⟨by decide,by decide⟩,by decide,.inr ⟨by omega,by omega⟩,by decide,by decide,fun p hp=>q p _ _ _ hp⟩
theorem xU (B:Bt K mg a)(F:Fun K "_law_next" "_law_next" gO f fd):FnOk P w K mg base CX0 1 f fd ["_law_state","_law_base"] (dZ K a):=by
 refine F.ok sc_law_next (by walk_at "ln") fun cdv A outer s H vs Q E hr h=>?_
 obtain ⟨wl,m,rfl,⟨a,b,c,hw⟩,m0,m1,q⟩:=h
 refine ⟨_,(aR (aD (bE (aW wL (bG dW (pv 0) aG (fun _ _=>rfl)) aG (aY _)) (aD (aX (i:=2) sc_law_next.nd rfl (Or.inl rfl) (aS (bJ iX (bG dW (pv 0) aG (fun _ _=>rfl)) (pv 1))) (by kernel_rfl)) (aD (bD (uV (bJ iO (bG dW (pv 0) aG (fun _ _=>rfl)) (pv 1)) (uU (pv 0) aG sY))) (aF (aV (aS (pv 2)))))) aQ) (aD (bD (uV (bJ iI (bG dW (pv 0) aG (fun _ _=>rfl)) aG) (uU (pv 0) aG sY))) (aD (aX (i:=3) sc_law_next.nd rfl (Or.inl rfl) (aS (bJ iX (bJ pT (bJ iI (bJ iI (bG dW (pv 0) aG (fun _ _=>rfl)) (bJ pT aG (bG dW (pv 0) aG (fun _ _=>rfl)))) aG) aG) aG)) (by kernel_rfl)) (aD (aX (i:=3) sc_law_next.nd rfl (Or.inl rfl) (aS (bJ iX (bJ pT (pv 3) (bJ iI (bJ iO (pv 3) aG) aG)) aG)) (by kernel_rfl)) (aD (aX (i:=3) sc_law_next.nd rfl (Or.inl rfl) (aS (bJ iX (bJ pT (pv 3) (bJ iI (bJ iO (pv 3) aG) aG)) aG)) (by kernel_rfl)) (aF (aV (aS (bJ iX (bJ iO (pv 3) aG) (pv 1))))))))))),?_⟩
 have em:∀ x k:Int,0 < k->0<=x % k/\x % k < k:=fun x k h=>⟨Int.emod_nonneg _ (by omega),Int.emod_lt_of_pos _ h⟩
 nofun
 refine ixl (SqL.of hw) (v:=.int a) rfl ?_
 nofun
 split
 ·refine ixl (SqL.of hw) (v:=.int a) rfl ?_
  nofun
  refine ⟨m0,?_⟩
  refine ixl (SqL.of hw) (v:=.int a) rfl ?_
  nofun
  refine ⟨⟨m0,m1⟩,?_⟩
  refine BK2 hw (j:=0) rfl ?_
  exact q _ _ (em a m m0).1 (em a m m0).2 ⟨_,_,_,aA⟩ (But.upd _)
 ·refine ixl (SqL.of hw) (v:=.int c) rfl ?_
  nofun
  refine BK2 hw (j:=2) rfl ?_
  refine ixl (SqL.of aA) (v:=.int b) rfl ?_
  refine ixl (SqL.of aA) (v:=.int (c+1)) rfl ?_
  nofun
  generalize hn1:(b+7919 * (c+1)+1) * 48271 % 2147483647=n1
  have b1:0<=n1/\n1 < 2147483647:=hn1 ▸ em _ _ (by decide)
  generalize hn2:n1 * (n1 / 1009+69621) % 2147483647=n2
  have b2:0<=n2/\n2 < 2147483647:=hn2 ▸ em _ _ (by decide)
  refine ⟨.inl ⟨by decide,by decide⟩,.inr ⟨by decide,by decide⟩,by decide,⟨by decide,by decide⟩,.inl ⟨by omega,by omega⟩,by decide,⟨by decide,by decide⟩,.inl ⟨by omega,by omega⟩,by decide,⟨by decide,by decide⟩,m0,?_⟩
  exact q _ _ (em _ m m0).1 (em _ m m0).2 ⟨_,_,_,aA⟩ (But.upd _)
theorem rS (B:Bt K mg a)(F:Fun K "_law_cell_at" "_law_cell_at" eI f fd):FnOk P w K mg base CX0 1 f fd ["_law_script","_law_k"] (kX K a):=by
 refine F.ok rR (by walk_at "ln") fun cdv A outer s H vs Q E hr h=>?_
 obtain ⟨b,ns,k,rfl,hS,k0,q⟩:=h
 refine ⟨_,(aR (aD (bE (aW zS (pv 1) (aT AM6 rfl B.len PySem.boot_len (aH (aK (pv 0) aC))) (aY _)) (aF (aV (aS (bG dW (pv 0) (pv 1) (fun _ _=>rfl))))) aQ) (aF (aV (aS aG))))),?_⟩
 nofun
 refine ⟨_,.inl ⟨_,hS,rfl⟩,?_⟩
 nofun
 split
 ·rename_i hk
  rw [List.length_map] at hk
  obtain ⟨z,_,ez⟩:=BE3 k0 hk
  exact ixl hS ez (q z)
 ·exact q 0
theorem lM (B:Bt K mg a)(hX:CalX P w K mg base "is_name" ["thing"] 1 (nZ K a))(F:Fun K "are_unlike_names" "are_unlike_names" bX f fd):FnOk P w K mg base CX0 2 f fd ["thing"] (eP K a):=by
 refine F.ok lD (by walk_at "ln") fun cdv A outer s H vs Q E hr h=>?_
 obtain ⟨x,b,rfl,hx,q⟩:=h
 refine ⟨_,(aR (aD (bE (L2.PW.pt (jC (dF (cD (aT (iP (K:=K) (T:="list") rfl) rfl B.isinstance PyProof.Rows.boot_isinstance (aH (aK (pv 0) (aK (iC (v:=.ty "list") rfl B.list PyProof.Rows.boot_list rfl) aC))) (he:=aJ _ _ _ rfl) (hpl:=aL rfl)))) (iG (dF (cD (aT (tH rfl) rfl B.all PyProof.Rows.boot_all (aH (aK (dS ["name"] [none] rfl (by kernel_rfl) (cL (pv 0)) (fun cl C s H fp=>⟨(bC (i:=0) (by decide:List.Nodup (["name"]:List Str)) rfl (Or.inl (by kernel_rfl)) (Or.inr (by kernel_rfl))),gA,(iD hX (hr.mono (by decide)) (nP (by kernel_rfl)) (aH (aK (pv 0 (hv:=Or.inl (by kernel_rfl))) aC)) (he:=aJ _ _ _ rfl) (hpl:=aL rfl))⟩)) aC)) (he:=aJ _ _ _ rfl) (hpl:=aL rfl))))))) (aF (aV (aS nK))) aQ) (aF (aV (aS (dR eN (aT AH1 rfl B.len PySem.boot_len (aH (aK (bH (AH0 rfl) rfl B.set PyProof.Rows.boot_set (aH (aK (pv 0) aC))) aC))) (aT bI rfl B.len PySem.boot_len (aH (aK (pv 0) aC))) (aY _))))))),?_⟩
 nofun
 rcases hx with ⟨p,xs,rfl,hp,hl,hn,rfl⟩ | ⟨rfl,t,ty,e⟩
 ·refine ⟨_,_,true,rfl,.lst hp,by kernel_rfl,?_⟩
  exists Bool.not_true
  refine ⟨⟨xs,SqL.of hp⟩,?_⟩
  refine CompL.by (xs:=xs) (fun i acc σ H'=>acc=((xs.take i).map jA).map V.bl/\(∃ v,σ=[v])/\Same H H') (sz8 (by omega)) ⟨rfl,⟨_,rfl⟩,fun _ _ z=>z⟩ (fun i acc σ H' _ h=>SqL.of (h.2.2 _ _ hp)) ?_ ?_ ?_
  ·rintro i y acc σ H' hy ⟨rfl,⟨v,rfl⟩,S1⟩
   have ea:((xs.take i).map jA).map V.bl++[V.bl (jA y)]=((xs.take (i+1)).map jA).map V.bl:=by
    rw [List.take_succ,hy,List.map_append,List.map_append]
    rfl
   nofun
   refine ⟨y,rfl,(hn y (List.mem_of_getElem? hy)).same S1,fun H2 S2=>?_⟩
   first | exact ⟨ea,⟨_,rfl⟩,S1.trans S2⟩ | exact ⟨ea,S1.trans S2⟩
  ·rintro i acc σ H' ⟨rfl,_,_⟩
   rw [List.length_map,List.length_map,List.length_take]
   omega
  ·rintro acc σ H' ⟨rfl,⟨v,rfl⟩,S1⟩ D hD
   rw [List.take_length]
   have S2:=S1.trans (aE hD (.lst ((xs.map jA).map V.bl)))
   refine ⟨D,rfl,_,SqL.of aA,?_⟩
   have eall:(xs.map jA).all id=xs.all jA:=by rw [List.all_map]; rfl
   rw [eall]
   generalize upd H' D (.lst ((xs.map jA).map V.bl))=H2 at *
   by_cases ha:xs.all jA=true
   ·exists ha,Bool.not_true
    have es:=AK3 ha
    have hz:(xs.map AK1).length=xs.length:=List.length_map ..
    refine ⟨xs.map AK1,by rw [<- es]; exact SqL.of (S2 _ _ hp),by omega,fun p3 h3=>?_⟩
    have S3:=aE h3 (AO5 P w p3 (xs.map AK1))
    refine ⟨xs.map AK1,aA,?_⟩
    nofun
    refine ⟨xs,.inl (SqL.of (S3 _ _ (S2 _ _ hp))),?_⟩
    nofun
    have hq:=q _ (S2.trans S3)
    have ed:qM xs=decide ((((jB (xs.map AK1)).length:Nat):Int)=((xs.length:Nat):Int)):=by
     unfold qM
     rw [ha,Bool.true_and]
     have:=AO2 (xs.map AK1)
     rw [hz] at this
     by_cases c:(xs.map AK1).Nodup
     ·rw [decide_eq_true c,decide_eq_true (by have:=this.mpr c; omega)]
     ·rw [decide_eq_false c,decide_eq_false (fun z=>c (this.mp (by omega)))]
    rw [ed] at hq
    exact hq
   ·have ha':=Bool.eq_false_iff.mpr ha
    exists ha',Bool.not_false
    have hq:=q _ S2
    unfold qM at hq
    rw [ha',Bool.false_and] at hq
    exact hq
 ·refine ⟨x,t,false,rfl,ty,e,?_⟩
  exists Bool.not_false
  exact q _ fun _ _ z=>z
theorem xV (B:Bt K mg a)(aU:CalX P w K mg base "_law_next" ["_law_state","_law_base"] 1 (dZ K a))(F:Fun K "_law_name" "_law_name" gP f fd):FnOk P w K mg base CX0 2 f fd ["_law_state"] (qP K a):=by
 refine F.ok sc_law_name (by walk_at "ln") fun cdv A outer s H vs Q E hr h=>?_
 obtain ⟨wl,rfl,W,q⟩:=h
 refine ⟨_,(aR (aD (aX (i:=1) sc_law_name.nd rfl (Or.inr rfl) (aS bB) (by kernel_rfl)) (aD (aX (i:=2) sc_law_name.nd rfl (Or.inl rfl) (aS (pc aU hr rfl (aH (aK (pv 0) (aK aG aC))))) (by kernel_rfl)) (aD (bE (aW eN (pv 2) aG (aY _)) (aD (aX (i:=3) sc_law_name.nd rfl (Or.inl rfl) (iY (aK bB (aK bB (aK bB (aK bB (aK bB (aK bB (aK bB (aK bB (aK bB (aK bB (aK bB (aK bB (aK bB aC)))))))))))))) (by kernel_rfl)) (aF (aV (BK9 dW (AO0 mE (aS (pv 3)) (iY (aK bB (aK bB (aK bB aC))))) (aS (pc aU hr rfl (aH (aK (pv 0) (aK aG aC))))) (fun _ _=>rfl))))) aQ) (aD (bE (aW eN (pv 2) aG (aY _)) (aD (aX (i:=4) sc_law_name.nd rfl (Or.inl rfl) (aS (jU AF5 bB nM (nN (bJ iI aG (pc aU hr rfl (aH (aK (pv 0) (aK aG aC)))))))) (by kernel_rfl)) (aD (aX (i:=5) sc_law_name.nd rfl (Or.inl rfl) (aS (pc aU hr rfl (aH (aK (pv 0) (aK (aT dX rfl B.len PySem.boot_len (aH (aK (pv 4) aC))) aC))))) (by kernel_rfl)) (aF (aV (aS (bJ nL (bJ nL (jU AF5 (pv 4) nM (nN (pv 5))) (bG yP bB (pc aU hr rfl (aH (aK (pv 0) (aK aG aC)))) (fun _ _=>rfl))) (jU AF5 (pv 4) (nN (bJ iI (pv 5) aG)) nM))))))) aQ) (aF (aV (aS (wQ PySem.F.plainAttrs_str PySem.F.slot_str_join PySem.F.type_str_join AX0 bB (aH (aK (dS ["_law_k","_law_letters","_law_state"] [none,some 1,some 0] rfl (by kernel_rfl) (jD rfl B.range (aH (aK (bJ iI aG (pc aU hr rfl (aH (aK (pv 0) (aK aG aC))))) aC))) (fun cl C s H fp=>⟨(bC (i:=0) (by decide:List.Nodup (["_law_k","_law_letters","_law_state"]:List Str)) rfl (Or.inl (by kernel_rfl)) (Or.inr (by kernel_rfl))),gA,(bG yP (pv 1 (hv:=Or.inr (Or.inl (by kernel_rfl)))) (iD aU (hr.mono (by decide)) (nP (by kernel_rfl)) (aH (aK (pv 2 (hv:=Or.inr (Or.inl (by kernel_rfl)))) (aK aG aC))) (he:=aJ _ _ _ rfl) (hpl:=aL rfl)) (fun _ _=>rfl))⟩)) aC))))))))))),?_⟩
 nofun
 refine uR W (by decide) (by decide) fun r1 H1 a1 b1 W1 B1=>?_
 nofun
 by_cases h0:r1=0
 ·rw [if_pos h0]
  refine ⟨sz8 (by decide),fun p hp=>?_⟩
  have S1:=aE hp (.lst [.str "any",.str "kind",.str "place",.str "weight",.str "not",.str "by",.str "now",.str "hour",.str "day",.str "never",.str "sure",.str "raise",.str "zone"])
  have e1:upd H1 p (.lst [.str "any",.str "kind",.str "place",.str "weight",.str "not",.str "by",.str "now",.str "hour",.str "day",.str "never",.str "sure",.str "raise",.str "zone"]) p=some (.lst [.str "any",.str "kind",.str "place",.str "weight",.str "not",.str "by",.str "now",.str "hour",.str "day",.str "never",.str "sure",.str "raise",.str "zone"]):=aA
  generalize upd H1 p (.lst [.str "any",.str "kind",.str "place",.str "weight",.str "not",.str "by",.str "now",.str "hour",.str "day",.str "never",.str "sure",.str "raise",.str "zone"])=H2 at *
  refine ⟨sz8 (by decide),fun p2 hp2=>?_⟩
  have S2:=aE hp2 (.lst [.str "quiet",.str "a",.str "to"])
  have e2:upd H2 p2 (.lst [.str "quiet",.str "a",.str "to"]) p2=some (.lst [.str "quiet",.str "a",.str "to"]):=aA
  have e1':=S2 _ _ e1
  generalize upd H2 p2 (.lst [.str "quiet",.str "a",.str "to"])=H3 at *
  refine ⟨p,p2,[.str "any",.str "kind",.str "place",.str "weight",.str "not",.str "by",.str "now",.str "hour",.str "day",.str "never",.str "sure",.str "raise",.str "zone"],[.str "quiet",.str "a",.str "to"],rfl,rfl,e1',e2,sz8 (by decide),fun p3 hp3=>?_⟩
  have S3:=aE hp3 (.lst ([.str "any",.str "kind",.str "place",.str "weight",.str "not",.str "by",.str "now",.str "hour",.str "day",.str "never",.str "sure",.str "raise",.str "zone"]++[.str "quiet",.str "a",.str "to"]))
  have e3:upd H3 p3 (.lst ([.str "any",.str "kind",.str "place",.str "weight",.str "not",.str "by",.str "now",.str "hour",.str "day",.str "never",.str "sure",.str "raise",.str "zone"]++[.str "quiet",.str "a",.str "to"])) p3=some (.lst ([.str "any",.str "kind",.str "place",.str "weight",.str "not",.str "by",.str "now",.str "hour",.str "day",.str "never",.str "sure",.str "raise",.str "zone"]++[.str "quiet",.str "a",.str "to"])):=aA
  have n3:=(W1.same (S1.trans S2)).ne hp3
  generalize upd H3 p3 (.lst ([.str "any",.str "kind",.str "place",.str "weight",.str "not",.str "by",.str "now",.str "hour",.str "day",.str "never",.str "sure",.str "raise",.str "zone"]++[.str "quiet",.str "a",.str "to"]))=H4 at *
  have SS:=S1.trans (S2.trans S3)
  refine uR (W1.same SS) (by decide) (by decide) fun r4 H5 a4 b4 W5 B5=>?_
  have e5:=B5 p3 _ n3 e3
  obtain ⟨v,hv,ev⟩:=wS (xs:=([.str "any",.str "kind",.str "place",.str "weight",.str "not",.str "by",.str "now",.str "hour",.str "day",.str "never",.str "sure",.str "raise",.str "zone"]:List V)++[.str "quiet",.str "a",.str "to"]) a4 (by simp only [List.length_append,List.length_cons,List.length_nil]; omega)
  refine ixl (SqL.of e5) ev ?_
  obtain ⟨u,rfl,g⟩:∃ u,v=.str u/\cP u:=by
   simp only [List.cons_append,List.nil_append,List.mem_cons,List.not_mem_nil,or_false] at hv
   rcases hv with rfl | rfl | rfl | rfl | rfl | rfl | rfl | rfl | rfl | rfl | rfl | rfl | rfl | rfl | rfl | rfl <;> exact ⟨_,rfl,by decide +kernel⟩
  exact q u H5 g W5 (B1.trans ((Same.but SS).trans B5))
 rw [if_neg h0]
 by_cases h1:r1=1
 ·rw [if_pos h1]
  refine uR W1 (by decide) (by decide) fun r2 H2 a2 b2 W2 B2=>?_
  nofun
  have e8:Str.ofString "bcdefghi"=w8:=rfl
  have e3:Str.ofString "axz"=axz:=rfl
  rw [e8]
  have hw:=AX5 a2 b2
  have hl:(Txt.slice w8 none (some (1+r2))).length<=8:=qC w8 (by decide) _ _
  refine ⟨sz8 (by decide),sz8 (by omega),?_⟩
  refine uR W2 (by rw [hw]; omega) (by rw [hw]; omega) fun r3 H3 a3 b3 W3 B3=>?_
  have b3':r3 < r2+1:=by rw [hw] at b3; omega
  nofun
  refine ⟨sz8 (by omega),?_⟩
  refine uR W3 (by decide) (by decide) fun r4 H4 a4 b4 W4 B4=>?_
  obtain ⟨c,ec,gd⟩:=AN3 a2 b2 a3 b3' a4 b4
  refine ixs (u:=axz) (sz8 (by decide)) ec ?_
  nofun
  have l1:=qC (Txt.slice w8 none (some (1+r2))) hl none (some r3)
  have l2:=qC (Txt.slice w8 none (some (1+r2))) hl (some (r3+1)) none
  have l3:(⟨#[c]⟩:Str).length=1:=rfl
  refine ⟨sz8 (by rw [l3]; omega),sz8 (by omega),sz8 (by rw [Str.length_append,l3]; omega),?_⟩
  exact q _ H4 gd W4 (B1.trans (B2.trans (B3.trans B4)))
 ·rw [if_neg h1]
  refine uR W1 (by decide) (by decide) fun r2 H2 a2 b2 W2 B2=>?_
  nofun
  refine ⟨by omega,by omega,?_⟩
  refine CompR.by (fun i acc σ H'=>(∃ ts:List Str,acc=ts.map V.str/\ts.length=i/\∀ t∈ts,∃ c,t=⟨#[c]⟩/\97<=c/\c<=122)/\(∃ v,σ=[v,some (.str letters),some (.ref wl)])/\Well3 H' wl/\But wl H2 H') (sz8 (by omega)) ⟨⟨[],rfl,rfl,fun t ht=>by cases ht⟩,⟨_,rfl⟩,W2,But.refl _ _⟩ ?_ ?_ ?_
  ·rintro i acc σ H' hi ⟨⟨ts,rfl,hl,ht⟩,⟨v,rfl⟩,W3,B3⟩
   nofun
   refine uR W3 (by decide) (by decide) fun r3 H3 a3 b3 W4 B4=>?_
   obtain ⟨c,ec,c0,c1⟩:=AF8 a3 b3
   refine ixs (u:=letters) (sz8 (by decide)) ec ?_
   have new:∃ us:List Str,ts.map V.str++[V.str ⟨#[c]⟩]=us.map V.str/\us.length=i+1/\∀ t∈us,∃ c,t=⟨#[c]⟩/\97<=c/\c<=122:=by
    refine ⟨ts++[⟨#[c]⟩],by rw [List.map_append]; rfl,by rw [List.length_append,hl]; rfl,fun t h=>?_⟩
    rcases List.mem_append.mp h with z | z
    ·exact ht t z
    ·rw [List.mem_singleton.mp z]
     exact ⟨c,rfl,c0,c1⟩
   first | exact ⟨new,⟨_,rfl⟩,W4,B3.trans B4⟩ | exact ⟨new,W4,B3.trans B4⟩
  ·rintro i acc σ H' ⟨⟨ts,rfl,hl,_⟩,_⟩
   rw [List.length_map,hl]
   exact Nat.le_refl _
  ·rintro acc σ H' ⟨⟨ts,rfl,hl,ht⟩,⟨v,rfl⟩,W3,B3⟩ D hD
   have hn:ts.length=(1+r2).toNat:=hl
   obtain ⟨j1,j2⟩:=AF9 ht (by omega) (by omega)
   have n0:=W3.ne hD
   have S9:=aE hD (.lst (ts.map V.str))
   refine ⟨Str.empty,D,ts,rfl,rfl,aA,j1,?_⟩
   exact q _ _ j2 (W3.same S9) (B1.trans (B2.trans (B3.trans (Same.but S9))))
theorem hfs (k p n:V):lX ("kind":Str) k []=([("kind",k)]:List (Str × V))/\lX ("place":Str) p ([("kind",k)]:List (Str × V))=([("kind",k),("place",p)]:List (Str × V))/\lX ("weight":Str) n ([("kind",k),("place",p)]:List (Str × V))=([("kind",k),("place",p),("weight",n)]:List (Str × V)):=by
 refine ⟨rfl,fW fun q hq=>?_,fW fun q hq=>?_⟩
 ·simp only [List.mem_cons,List.not_mem_nil,or_false] at hq
  rcases hq with rfl <;> (dsimp only; decide)
 ·simp only [List.mem_cons,List.not_mem_nil,or_false] at hq
  rcases hq with rfl | rfl <;> (dsimp only; decide)
theorem jN (B:Bt K mg a)(bL:CalX P w K mg base "is_whole_from" ["thing","least"] 2 (eO K a))(hX:CalX P w K mg base "is_name" ["thing"] 1 (nZ K a))(F:Fun K "__init__" "Happening.__init__" bM f fd):FnOk P w K mg base CX0 3 f fd ["self","kind","place","weight"] (dY K a):=by
 refine F.ok jI (by walk_at "ln") fun cdv A outer s H vs Q E hr h=>?_
 obtain ⟨p,dx,k,l,n,rfl,hp,gk,gl,n0,q⟩:=h
 refine ⟨_,(aR (aD (bE (L2.PW.pt (jC (dF (cD (pc hX hr rfl (aH (aK (pv 1) aC))))) (iG (dF (cD (pc hX hr rfl (aH (aK (pv 2) aC)))))))) (fJ bO) aQ) (aD (bE (dF (cD (pc bL hr rfl (aH (aK (pv 3) (aK aG aC)))))) (fJ bO) aQ) (aD (bD (fH (pv 0) (pv 1) rfl)) (aD (bD (fH (pv 0) (pv 2) rfl)) (aF (bD (fH (pv 0) (pv 3) rfl)))))))),?_⟩
 have okn:∀ {G:Hp}{u:Str},cP u->okN G (.str u):=fun {G u} g=>⟨(tI g).1,by have:=(tI g).2; omega⟩
 have nb:∀ {u:Str},cP u->jA (.str u)=true:=fun {u} g=>decide_eq_true g
 have fb:AN5 (.int n) 0=true:=decide_eq_true n0
 obtain ⟨e1,e2,e3⟩:=hfs (.str k) (.str l) (.int n)
 nofun
 refine ⟨_,rfl,okn gk,fun H1 S1=>?_⟩
 exists nb gk
 refine ⟨_,rfl,okn gl,fun H2 S2=>?_⟩
 exists nb gl
 refine ⟨_,_,rfl,⟨_,.int n,by kernel_rfl,by kernel_rfl⟩,?_⟩
 exists fb
 refine ⟨_,_,_,(S1.trans S2) _ _ hp,B.ck_Happening.cl,B.na_Happening_kind,by decide,_,_,_,aA,B.ck_Happening.cl,B.na_Happening_place,by rw [e1]; simp only [List.length_cons,List.length_nil]; decide,_,_,_,aA,B.ck_Happening.cl,B.na_Happening_weight,by rw [e1,e2]; simp only [List.length_cons,List.length_nil]; decide,?_⟩
 refine q _ (fun b o n e=>?_) ?_
 ·rw [aO n,aO n,aO n]
  exact (S1.trans S2) b o e
 ·rw [aA,e1,e2,e3]
  rfl
theorem rT (B:Bt K mg a)(cC:CalX P w K mg base "are_unlike_names" ["thing"] 2 (eP K a))(F:Fun K "check_names" "check_names" eC f fd):FnOk P w K mg base CX0 3 f fd ["names"] (iE K a):=by
 refine F.ok rP (by walk_at "ln") fun cdv A outer s H vs Q E hr h=>?_
 obtain ⟨l,us,rfl,hl,⟨ne,l6,hg,nd⟩,q⟩:=h
 refine ⟨_,(aR (aF (bE (L2.PW.pt (jC (dF (cD (pc cC hr rfl (aH (aK (pv 0) aC))))) (iG (aW eN (aT bI rfl B.len PySem.boot_len (aH (aK (pv 0) aC))) aG (aY _))))) (fJ bO) aQ))),?_⟩
 nofun
 have hB:qM (us.map V.str)=true:=by
  unfold qM
  have e1:(us.map V.str).all jA=true:=by
   rw [List.all_map,List.all_eq_true]
   intro u hu
   exact decide_eq_true (hg u hu)
  have e2:(us.map V.str).map AK1=us:=by rw [List.map_map]; exact List.map_id us
  rw [e1,e2,decide_eq_true nd]
  rfl
 have hN:∀ y∈us.map V.str,okN H y:=fun y hy=>by
  obtain ⟨u,hu,rfl⟩:=List.mem_map.mp hy
  exact ⟨(tI (hg u hu)).1,by have:=(tI (hg u hu)).2; omega⟩
 refine ⟨_,true,rfl,.inl ⟨l,_,rfl,hl,by rw [List.length_map]; omega,hN,hB.symm⟩,fun H1 S1=>?_⟩
 exists Bool.not_true
 refine ⟨_,.inl (SqL.of (S1 _ _ hl)),?_⟩
 have l0:us.length≠0:=fun z=>ne (List.eq_nil_of_length_eq_zero z)
 exists List.length_map
 rw [if_neg (by omega)]
 exact q _ S1
theorem vY (B:Bt K mg a)(F:Fun K "check_fit" "check_fit" fK f fd):FnOk P w K mg base CX0 1 f fd ["fit"] (jL K a):=by
 refine F.ok vQ (by walk_at "ln") fun cdv A outer s H vs Q E hr h=>?_
 obtain ⟨v,t,rfl,h,q⟩:=h
 refine ⟨_,(aR (aF (bE (dF (cD (aT (kZ (K:=K) rfl) rfl B.isinstance PyProof.Rows.boot_isinstance (aH (aK (pv 0) (aK (dU (v:=.ref _) rfl B.Fit rfl) aC))) (he:=aJ _ _ _ rfl) (hpl:=aL rfl)))) (fJ bO) aQ))),?_⟩
 nofun
 obtain ⟨p,dx,fs,rfl,hp,_⟩:=h.ins
 have hk:ClsK K (t.cls (fc a))/\kitOne K (.ref (t.cls (fc a))) (.ref a.Fit)=some true:=by
  cases t with
  | any=>exact ⟨B.ck_Any,B.is_Any_Fit⟩
  | kind us=>exact ⟨B.ck_Kind,B.is_Kind_Fit⟩
  | place us=>exact ⟨B.ck_Place,B.is_Place_Fit⟩
  | weight n=>exact ⟨B.ck_Least,B.is_Least_Fit⟩
  | not t=>exact ⟨B.ck_Not,B.is_Not_Fit⟩
  | both ts=>exact ⟨B.ck_Both,B.is_Both_Fit⟩
  | either ts=>exact ⟨B.ck_Either,B.is_Either_Fit⟩
 refine ⟨_,_,_,true,rfl,hk.1.ty hp,hk.2,?_⟩
 exists Bool.not_true
 exact q
theorem uA (B:Bt K mg a)(fU:CalX P w K mg base "check_fit" ["fit"] 1 (jL K a))(F:Fun K "check_fits" "check_fits" eU f fd):FnOk P w K mg base CX0 2 f fd ["fits"] (iS K a):=by
 refine F.ok sc_check_fits (by walk_at "ln") fun cdv A outer s H vs Q E hr h=>?_
 obtain ⟨l,xs,ts,rfl,hl,hf,l2,l100,q⟩:=h
 refine ⟨_,(aR (aD (bE (L2.PW.pt (jC (dF (cD (aT (iP (K:=K) (T:="list") rfl) rfl B.isinstance PyProof.Rows.boot_isinstance (aH (aK (pv 0) (aK (iC (v:=.ty "list") rfl B.list PyProof.Rows.boot_list rfl) aC))) (he:=aJ _ _ _ rfl) (hpl:=aL rfl)))) (iG (aW zS (aT bI rfl B.len PySem.boot_len (aH (aK (pv 0) aC))) aG (aY _))))) (fJ bO) aQ) (aF (bD (eM PassesOwn.never rfl (cL (pv 0)) (bC (i:=1) sc_check_fits.nd rfl (Or.inl rfl)) (aR (aF (bD (cE (pc fU hr rfl (aH (aK (pv 1) aC)))))))))))),?_⟩
 nofun
 refine ⟨_,_,true,rfl,.lst hl,by kernel_rfl,?_⟩
 exists Bool.not_true
 refine ⟨_,.inl (SqL.of hl),?_⟩
 rw [if_neg (by omega)]
 refine ⟨⟨_,SqL.of hl⟩,?_⟩
 refine ForL.by (xs:=xs) (fun _ σ H1=>(∃ v,σ=[some (.ref l),v])/\H1=H) ⟨⟨_,rfl⟩,rfl⟩ (fun i σ H1 _ h=>by rw [h.2]; exact SqL.of hl) ?_ ?_
 ·rintro i y σ H1 hy ⟨⟨v,rfl⟩,rfl⟩
  obtain ⟨t,_,ht⟩:=hf.get hy
  nofun
  refine ⟨y,t,rfl,ht,?_⟩
  first | exact ⟨⟨_,rfl⟩,rfl⟩ | trivial
 ·rintro σ H1 ⟨⟨v,rfl⟩,rfl⟩
  first | exact q | (nofun; exact q)
theorem pE (B:Bt K mg a)(eJ:CalX P w K mg base "check_names" ["names"] 3 (iE K a))(F:Fun K "__init__" "Kind.__init__" dH f fd):FnOk P w K mg base CX0 4 f fd ["self","names"] (gC K a):=by
 refine F.ok oX (by walk_at "ln") fun cdv A outer s H vs Q E hr h=>?_
 obtain ⟨p,dx,l,us,rfl,hp,hl,hok,q⟩:=h
 refine ⟨_,(aR (aD (bD (cE (pc eJ hr rfl (aH (aK (pv 1) aC))))) (aF (bD (fH (pv 0) (bH cV rfl B.list PyProof.Rows.boot_list (aH (aK (pv 1) aC))) rfl))))),?_⟩
 nofun
 refine ⟨l,us,rfl,hl,hok,fun H1 S1=>?_⟩
 nofun
 refine ⟨_,.inl (SqL.of (S1 _ _ hl)),fun p2 h2=>?_⟩
 have S2:=aE h2 (.lst (us.map V.str))
 refine ⟨_,_,_,S2 _ _ (S1 _ _ hp),B.ck_Kind.cl,B.na_Kind_names,by decide,?_⟩
 refine q p2 _ (fun b o n e=>?_) (S1.free h2) ?_ aA
 ·rw [aO n]
  exact S2 _ _ (S1 _ _ e)
 ·rw [aO (aP (S1 _ _ hp) h2).symm]
  exact aA
theorem oC (B:Bt K mg a)(eJ:CalX P w K mg base "check_names" ["names"] 3 (iE K a))(F:Fun K "__init__" "Place.__init__" cS f fd):FnOk P w K mg base CX0 4 f fd ["self","names"] (fP K a):=by
 refine F.ok nW (by walk_at "ln") fun cdv A outer s H vs Q E hr h=>?_
 obtain ⟨p,dx,l,us,rfl,hp,hl,hok,q⟩:=h
 refine ⟨_,(aR (aD (bD (cE (pc eJ hr rfl (aH (aK (pv 1) aC))))) (aF (bD (fH (pv 0) (bH cV rfl B.list PyProof.Rows.boot_list (aH (aK (pv 1) aC))) rfl))))),?_⟩
 nofun
 refine ⟨l,us,rfl,hl,hok,fun H1 S1=>?_⟩
 nofun
 refine ⟨_,.inl (SqL.of (S1 _ _ hl)),fun p2 h2=>?_⟩
 have S2:=aE h2 (.lst (us.map V.str))
 refine ⟨_,_,_,S2 _ _ (S1 _ _ hp),B.ck_Place.cl,B.na_Place_names,by decide,?_⟩
 refine q p2 _ (fun b o n e=>?_) (S1.free h2) ?_ aA
 ·rw [aO n]
  exact S2 _ _ (S1 _ _ e)
 ·rw [aO (aP (S1 _ _ hp) h2).symm]
  exact aA
theorem oE (B:Bt K mg a)(bL:CalX P w K mg base "is_whole_from" ["thing","least"] 2 (eO K a))(F:Fun K "__init__" "Least.__init__" cT f fd):FnOk P w K mg base CX0 3 f fd ["self","weight"] (fQ K a):=by
 refine F.ok nX (by walk_at "ln") fun cdv A outer s H vs Q E hr h=>?_
 obtain ⟨p,dx,n,rfl,hp,n0,q⟩:=h
 refine ⟨_,(aR (aD (bE (dF (cD (pc bL hr rfl (aH (aK (pv 1) (aK aG aC)))))) (fJ bO) aQ) (aF (bD (fH (pv 0) (pv 1) rfl))))),?_⟩
 nofun
 have e:AN5 (.int n) 0=true:=decide_eq_true n0
 refine ⟨_,_,rfl,⟨_,.int n,by kernel_rfl,by kernel_rfl⟩,?_⟩
 exists e
 exact ⟨_,_,_,hp,B.ck_Least.cl,B.na_Least_weight,by decide,q⟩
theorem qU (B:Bt K mg a)(fU:CalX P w K mg base "check_fit" ["fit"] 1 (jL K a))(F:Fun K "__init__" "Not.__init__" dO f fd):FnOk P w K mg base CX0 2 f fd ["self","fit"] (hU K a):=by
 refine F.ok qK (by walk_at "ln") fun cdv A outer s H vs Q E hr h=>?_
 obtain ⟨p,dx,v,t,rfl,hp,hf,q⟩:=h
 refine ⟨_,(aR (aD (bD (cE (pc fU hr rfl (aH (aK (pv 1) aC))))) (aF (bD (fH (pv 0) (pv 1) rfl))))),?_⟩
 nofun
 refine ⟨v,t,rfl,hf,?_⟩
 nofun
 exact ⟨_,_,_,hp,B.ck_Not.cl,B.na_Not_fit,by decide,q⟩
theorem pF (B:Bt K mg a)(eY:CalX P w K mg base "check_fits" ["fits"] 2 (iS K a))(F:Fun K "__init__" "Both.__init__" dI f fd):FnOk P w K mg base CX0 3 f fd ["self","fits"] (gD K a):=by
 refine F.ok oY (by walk_at "ln") fun cdv A outer s H vs Q E hr h=>?_
 obtain ⟨p,dx,l,xs,ts,rfl,hp,hl,hf,l2,l100,q⟩:=h
 refine ⟨_,(aR (aD (bD (cE (pc eY hr rfl (aH (aK (pv 1) aC))))) (aF (bD (fH (pv 0) (bH cV rfl B.list PyProof.Rows.boot_list (aH (aK (pv 1) aC))) rfl))))),?_⟩
 nofun
 refine ⟨l,xs,ts,rfl,hl,hf,l2,l100,?_⟩
 nofun
 refine ⟨_,.inl (SqL.of hl),fun p2 h2=>?_⟩
 have S2:=aE h2 (.lst xs)
 refine ⟨_,_,_,S2 _ _ hp,B.ck_Both.cl,B.na_Both_fits,by decide,?_⟩
 refine q p2 _ (fun b o n e=>?_) h2 ?_ aA
 ·rw [aO n]
  exact S2 _ _ e
 ·rw [aO (aP hp h2).symm]
  exact aA
theorem mZ (B:Bt K mg a)(eY:CalX P w K mg base "check_fits" ["fits"] 2 (iS K a))(F:Fun K "__init__" "Either.__init__" cK f fd):FnOk P w K mg base CX0 3 f fd ["self","fits"] (fE K a):=by
 refine F.ok mQ (by walk_at "ln") fun cdv A outer s H vs Q E hr h=>?_
 obtain ⟨p,dx,l,xs,ts,rfl,hp,hl,hf,l2,l100,q⟩:=h
 refine ⟨_,(aR (aD (bD (cE (pc eY hr rfl (aH (aK (pv 1) aC))))) (aF (bD (fH (pv 0) (bH cV rfl B.list PyProof.Rows.boot_list (aH (aK (pv 1) aC))) rfl))))),?_⟩
 nofun
 refine ⟨l,xs,ts,rfl,hl,hf,l2,l100,?_⟩
 nofun
 refine ⟨_,.inl (SqL.of hl),fun p2 h2=>?_⟩
 have S2:=aE h2 (.lst xs)
 refine ⟨_,_,_,S2 _ _ hp,B.ck_Either.cl,B.na_Either_fits,by decide,?_⟩
 refine q p2 _ (fun b o n e=>?_) h2 ?_ aA
 ·rw [aO n]
  exact S2 _ _ e
 ·rw [aO (aP hp h2).symm]
  exact aA
theorem lN (u:Str):∀ us:List Str,inV (.str u) (us.map V.str)=decide (u∈us)
 | []=>rfl
 | v::us=>by
  have e:inV (.str u) ((v::us).map V.str)=(eqV (.str v) (.str u) || inV (.str u) (us.map V.str)):=rfl
  rw [e,lN u us]
  have e2:eqV (.str v) (.str u)=decide (v=u):=by
   first | rfl | (unfold eqV; by_cases c:v=u <;> simp [c])
  rw [e2]
  by_cases c:v=u
  ·simp [c]
  ·have c':¬ u=v:=fun z=>c z.symm
   simp [c,c']
theorem hV:∀ us:List Str,(us.map V.str).all tD=true
 | []=>rfl
 | v::us=>by rw [List.map_cons,List.all_cons,hV us]; rfl
theorem xW (B:Bt K mg a)(aU:CalX P w K mg base "_law_next" ["_law_state","_law_base"] 1 (dZ K a))(jY:CalX P w K mg base "_law_name" ["_law_state"] 2 (qP K a))(F:Fun K "_law_leaf" "_law_leaf" gQ f fd):FnOk P w K mg base CX0 3 f fd ["_law_state","_law_more"] (qQ K a):=by
 refine F.ok sc_law_leaf (by walk_at "ln") fun cdv A outer s H vs Q E hr h=>?_
 obtain ⟨wl,m,rfl,W,m0,m5,q⟩:=h
 refine ⟨_,(aR (aD (aX (i:=2) sc_law_leaf.nd rfl (Or.inl rfl) (aS (pc aU hr rfl (aH (aK (pv 0) (aK aG aC))))) (by kernel_rfl)) (aD (bE (aW eN (pv 2) aG (aY _)) (aF (aV (aS (iJ (aH (aK bB aC)))))) aQ) (aD (bE (aW zS (pv 2) aG (aY _)) (aF (aV (aS (iJ (aH (aK bB (aK (bG dW (fI (aH (aK (pc aU hr rfl (aH (aK (pv 0) (aK aG aC)))) (aK (pc aU hr rfl (aH (aK (pv 0) (aK (bJ BD5 aG aG) aC)))) aC)))) (bJ iO (pc aU hr rfl (aH (aK (pv 0) (aK aG aC)))) aG) (fun _ _=>rfl)) aC))))))) aQ) (aD (aX (i:=3) sc_law_leaf.nd rfl (Or.inl rfl) (iY (aK (pc jY hr rfl (aH (aK (pv 0) aC))) aC)) (by kernel_rfl)) (aD (bD (eM PassesOwn.never rfl (jD rfl B.range (aH (aK (pc aU hr rfl (aH (aK (pv 0) (aK (bJ iI aG (pv 1)) aC)))) aC))) (bC (i:=4) sc_law_leaf.nd rfl (Or.inl rfl)) (aR (aD (aX (i:=5) sc_law_leaf.nd rfl (Or.inl rfl) (aS (pc jY hr rfl (aH (aK (pv 0) aC)))) (by kernel_rfl)) (aF (bE (aW oP (pv 5) (pv 3) (by with_unfolding_all rfl)) (aF (bD (cE (wQ PySem.F.plainAttrs_list PySem.F.slot_list_append PySem.F.type_list_append jF (pv 3) (aH (aK (pv 5) aC)))))) aQ)))))) (aF (aV (aS (iJ (aH (aK (bG dW (fI (aH (aK bB (aK bB aC)))) (bJ iX (pv 2) aG) (fun _ _=>rfl)) (aK (bH gH rfl B.tuple PyProof.Rows.boot_tuple (aH (aK (pv 3) aC))) aC))))))))))))),?_⟩
 nofun
 refine uR W (by decide) (by decide) fun kd H1 k0 k1 W1 B1=>?_
 nofun
 by_cases c0:kd=0
 ·rw [if_pos c0]
  refine ⟨sz8 (by decide),fun p hp=>?_⟩
  exact q (.ref p) .any _ (by rw [Tr.At]; exact ⟨p,rfl,aA⟩) (by rw [Tr.ok]; trivial) (by rw [Tr.dp]) (by rw [Tr.cnt]; decide) (W1.same (aE hp _)) (B1.trans (Same.but (aE hp _)))
 rw [if_neg c0]
 by_cases c3:kd < 3
 ·rw [if_pos c3]
  refine uR W1 (by decide) (by decide) fun r1 H2 a1 b1 W2 B2=>?_
  nofun
  refine ⟨⟨by decide,by decide,by decide⟩,?_⟩
  refine uR W2 (by decide) (by decide) fun r2 H3 a2 b2 W3 B3=>?_
  have b2':r2 < 1000000:=by first | exact b2 | simpa using b2
  refine ⟨sz8 (by decide),fun p hp=>?_⟩
  have S4:=aE hp (.lst [.int r1,.int r2])
  have np:=W3.ne hp
  refine uR (W3.same S4) (by decide) (by decide) fun r3 H5 a3 b3 W5 B5=>?_
  have e5:=B5 p _ np aA
  nofun
  obtain ⟨v,hv,ev⟩:=wS (xs:=[.int r1,.int r2]) (i:=r3 / 2) (by omega) (by simp only [List.length_cons,List.length_nil]; omega)
  obtain ⟨nn,rfl,n0,n1⟩:∃ nn:Int,v=.int nn/\0<=nn/\nn < 1000000:=by
   simp only [List.mem_cons,List.not_mem_nil,or_false] at hv
   rcases hv with rfl | rfl
   ·exact ⟨r1,rfl,a1,by omega⟩
   ·exact ⟨r2,rfl,a2,b2'⟩
  refine ⟨⟨by decide,by decide⟩,ixl (SqL.of e5) ev ?_⟩
  refine ⟨sz8 (by decide),fun p6 h6=>?_⟩
  exact q (.ref p6) (.weight nn) _ (by rw [Tr.At]; exact ⟨p6,rfl,aA⟩) (by rw [Tr.ok]; exact ⟨n0,n1⟩) (by rw [Tr.dp]) (by rw [Tr.cnt]; decide) (W5.same (aE h6 _)) (B1.trans (B2.trans (B3.trans ((Same.but S4).trans (B5.trans (Same.but (aE h6 _)))))))
 rw [if_neg c3]
 refine ⟨wl,rfl,W1,fun u0 H2 g0 W2 B2=>?_⟩
 nofun
 refine ⟨sz8 (by decide),fun pf hf=>?_⟩
 have nw:=W2.ne hf
 have S1:=aE hf (.lst [.str u0])
 have W3:=W2.same S1
 have e1:upd H2 pf (.lst [.str u0]) pf=some (.lst ([u0].map V.str)):=aA
 generalize upd H2 pf (.lst [.str u0])=H3 at *
 refine uR W3 (by omega) (by omega) fun r H4 a2 b2 W4 B4=>?_
 have e2:=B4 pf _ nw e1
 nofun
 refine ⟨by omega,by omega,?_⟩
 refine ForR.by (fun i σ H'=>(∃ us:List Str,us.length<=i+1/\us≠[]/\(∀ u∈us,cP u)/\us.Nodup/\H' pf=some (.lst (us.map V.str)))/\(∃ v8 v9,σ=[some (.ref wl),some (.int m),some (.int kd),some (.ref pf),v8,v9])/\Well3 H' wl/\But wl H2 H') ⟨⟨[u0],Nat.le_refl _,(by intro z; cases z),(fun u hu=>by rw [List.mem_singleton.mp hu]; exact g0),(by simp),e2⟩,⟨_,_,rfl⟩,W4,(Same.but S1).trans B4⟩ ?_ ?_
 ·rintro i σ H9 hi ⟨⟨us,ul,une,ug,un,ue⟩,⟨v8,v9,rfl⟩,W9,B9⟩
  nofun
  refine ⟨wl,rfl,W9,fun u H3 g W3 B3=>?_⟩
  have ue3:=B3 pf _ nw ue
  nofun
  refine ⟨pf,_,rfl,.inl (SqL.of ue3),rfl,hV us,?_⟩
  rw [lN]
  by_cases c:u∈us
  ·exists decide_eq_true c,Bool.not_true
   exact ⟨⟨us,by omega,une,ug,un,ue3⟩,W3,B9.trans B3⟩
  ·exists decide_eq_false c,Bool.not_false
   refine ⟨.inl ⟨rfl,_,SqL.of ue3⟩,pf,_,_,rfl,rfl,ue3,?_,?_⟩
   ·rw [List.length_map]
    exact Nat.lt_of_le_of_lt (by omega:us.length<=1000) (by decide)
   ·have W12:Well3 (upd H3 pf (.lst (us.map V.str++[.str u]))) wl:=by
     obtain ⟨x1,x2,x3,e⟩:=W3
     exact ⟨x1,x2,x3,by rw [aO (fun z=>nw z.symm)]; exact e⟩
    refine ⟨⟨us++[u],by rw [List.length_append,List.length_singleton]; omega,(by simp),fun y hy=>?_,?_,by rw [aA,List.map_append]; rfl⟩,W12,fun b o nb e=>?_⟩
    ·rcases List.mem_append.mp hy with z | z
     ·exact ug y z
     ·rw [List.mem_singleton.mp z]; exact g
    ·rw [List.nodup_append]
     exact ⟨un,by simp,fun x hx y hy e=>c (by rw [List.mem_singleton.mp hy] at e; rw [<- e]; exact hx)⟩
    ·rw [aO (aP e hf)]
     exact B3 b o nb (B9 b o nb e)
 ·rintro σ H9 ⟨⟨us,ul,une,ug,un,ue⟩,⟨v8,v9,rfl⟩,W9,B9⟩
  nofun
  refine ⟨sz8 (by decide),fun p1 h1=>?_⟩
  have T1:=aE h1 (.lst [.str "kind",.str "place"])
  have f1:upd H9 p1 (.lst [.str "kind",.str "place"]) p1=some (.lst [.str "kind",.str "place"]):=aA
  have ue1:=T1 _ _ ue
  generalize upd H9 p1 (.lst [.str "kind",.str "place"])=G1 at *
  refine ⟨by decide,?_⟩
  rcases (by omega:kd % 2=0\/kd % 2=1) with hk | hk
  ·rw [hk]
   refine ixl (SqL.of f1) (v:=.str "kind") rfl ?_
   nofun
   refine ⟨_,.inl ⟨SqL.of ue1,fun p3 h3=>?_⟩⟩
   have T3:=aE h3 (.tup (us.map V.str))
   refine ⟨sz8 (by decide),fun p4 h4=>?_⟩
   have SS:=T1.trans (T3.trans (aE h4 (.tup [.str "kind",.ref p3])))
   refine q (.ref p4) (.kind us) _ (by rw [Tr.At]; exact ⟨p4,p3,rfl,aA,aE h4 _ _ _ aA⟩) (by rw [Tr.ok]; exact ⟨une,by omega,ug,un⟩) (by rw [Tr.dp]) (by rw [Tr.cnt]; omega) (W9.same SS) (B1.trans (B2.trans (B9.trans (Same.but SS))))
  ·rw [hk]
   refine ixl (SqL.of f1) (v:=.str "place") rfl ?_
   nofun
   refine ⟨_,.inl ⟨SqL.of ue1,fun p3 h3=>?_⟩⟩
   have T3:=aE h3 (.tup (us.map V.str))
   refine ⟨sz8 (by decide),fun p4 h4=>?_⟩
   have SS:=T1.trans (T3.trans (aE h4 (.tup [.str "place",.ref p3])))
   refine q (.ref p4) (.place us) _ (by rw [Tr.At]; exact ⟨p4,p3,rfl,aA,aE h4 _ _ _ aA⟩) (by rw [Tr.ok]; exact ⟨une,by omega,ug,un⟩) (by rw [Tr.dp]) (by rw [Tr.cnt]; omega) (W9.same SS) (B1.trans (B2.trans (B9.trans (Same.but SS))))
theorem xX {d n:Nat}(hn:3<=n)(B:Bt K mg a)(aU:CalX P w K mg base "_law_next" ["_law_state","_law_base"] 1 (dZ K a))(oI:CalX P w K mg base "_law_leaf" ["_law_state","_law_more"] 3 (qQ K a))(fV:CalX P w K mg base "_law_tree" ["_law_state","_law_deep","_law_more"] n (fR K a d))(F:Fun K "_law_tree" "_law_tree" gR f fd):FnOk P w K mg base CX0 (n+1) f fd ["_law_state","_law_deep","_law_more"] (fR K a (d+1)):=by
 refine F.ok sc_law_tree (by walk_at "ln") fun cdv A outer s H vs Q E hr h=>?_
 obtain ⟨wl,i,m,hi,rfl,W,i3,m0,m5,q⟩:=h
 refine ⟨_,(aR (aD (aX (i:=3) sc_law_tree.nd rfl (Or.inl rfl) (aS (pc aU hr rfl (aH (aK (pv 0) (aK aG aC))) (hk:=by omega))) (by kernel_rfl)) (aD (bE (L2.PW.pt (jC (aW eN (pv 1) aG (aY _)) (iG (aW zS (pv 3) aG (aY _))))) (aF (aV (aS (pc oI hr rfl (aH (aK (pv 0) (aK (bJ pT (pv 2) (bH uY rfl B.int PyProof.Rows.boot_int (aH (aK (dR wL (pv 1) aG (aY _)) aC)))) aC))) (hk:=by omega))))) aQ) (aD (bE (aW eN (pv 3) aG (aY _)) (aF (aV (aS (iJ (aH (aK bB (aK (pc fV hr rfl (aH (aK (pv 0) (aK (bJ sH (pv 1) aG) (aK (pv 2) aC)))) (hk:=by omega)) aC))))))) aQ) (aD (bD (yS (i:=4) ["_law_k","_law_state","_law_more","_law_deep"] [none,some 0,some 2,some 1] rfl (by kernel_rfl) sc_law_tree.nd rfl rfl (jD rfl B.range (aH (aK (bJ iI aG (bH uY rfl B.int PyProof.Rows.boot_int (aH (aK (oO (dR wL (pv 1) aG (aY _)) (sG (dR wL (pv 3) aG (aY _)))) aC)))) aC))) (fun cl C s H fp=>⟨(bC (i:=0) (by decide:List.Nodup (["_law_k","_law_state","_law_more","_law_deep"]:List Str)) rfl (Or.inl (by kernel_rfl)) (Or.inr (by kernel_rfl))),gA,(iD fV (hr.mono (by omega)) (nP (by kernel_rfl)) (aH (aK (pv 1 (hv:=Or.inr (Or.inl (by kernel_rfl)))) (aK (bJ sH (pv 3 (hv:=Or.inr (Or.inl (by kernel_rfl)))) aG) (aK (pv 2 (hv:=Or.inr (Or.inl (by kernel_rfl)))) aC)))) (he:=aJ _ _ _ rfl) (hpl:=aL rfl))⟩))) (aF (aV (aS (iJ (aH (aK (bG dW (fI (aH (aK bB (aK bB aC)))) (bJ iX (pv 3) aG) (fun _ _=>rfl)) (aK (bH gH rfl B.tuple PyProof.Rows.boot_tuple (aH (aK (pv 4) aC))) aC)))))))))))),?_⟩
 nofun
 refine uR W (by decide) (by decide) fun kd H1 k0 k1 W1 B1=>?_
 nofun
 by_cases c0:(i:Int)=0
 ·rw [if_pos c0]
  refine ⟨.inl ⟨by omega,by omega⟩,wl,_,rfl,W1,?_,?_,fun v t H' hA ho hd hc W' B'=>?_⟩
  ·split <;> omega
  ·split <;> omega
  have p3:1<=2 ^ i:=Nat.one_le_pow _ _ (by decide)
  exact q v t H' hA ho (by omega) (by omega) W' (B1.trans B')
 rw [if_neg c0]
 by_cases c3:kd < 3
 ·rw [if_pos c3]
  refine ⟨.inl ⟨by omega,by omega⟩,wl,_,rfl,W1,?_,?_,fun v t H' hA ho hd hc W' B'=>?_⟩
  ·split <;> omega
  ·split <;> omega
  have p3:1<=2 ^ i:=Nat.one_le_pow _ _ (by decide)
  exact q v t H' hA ho (by omega) (by omega) W' (B1.trans B')
 rw [if_neg c3]
 obtain ⟨j,rfl⟩:∃ j,i=j+1:=⟨i - 1,by omega⟩
 by_cases c4:kd=3
 ·rw [if_pos c4]
  refine ⟨wl,j,m,by omega,by rw [show ((j+1:Nat):Int) - 1=(j:Int) by omega],W1,by omega,m0,m5,fun v t H' hA ho hd hc W' B'=>?_⟩
  refine ⟨sz8 (by decide),fun p hp=>?_⟩
  have S':=aE hp (.tup [.str "not",v])
  exact q (.ref p) (.not t) _ (by rw [Tr.At]; exact ⟨p,v,rfl,aA,hA.same S'⟩) (by rw [Tr.ok]; exact ho) (by rw [Tr.dp]; omega) (by rw [Tr.cnt,Nat.pow_succ]; omega) (W'.same S') (B1.trans (B'.trans (Same.but S')))
 rw [if_neg c4]
 by_cases c5:(2:Int) < ((j+1:Nat):Int)
 ·exact absurd c5 (by omega)
 ·rw [if_neg c5]
  first | refine ⟨by decide,by decide,?_⟩ | (nofun; refine ⟨by decide,by decide,?_⟩)
  refine CompR.by (n:=2) (fun i' acc σ H'=>∃ ts:List Tr,All2 (Tr.At H') ts acc/\ts.length=i'/\(∀ t∈ts,t.ok/\t.dp<=j/\t.cnt<=2 * 2 ^ j)/\(∃ v,σ=[v,some (.ref wl),some (.int m),some (.int ((j+1:Nat):Int))])/\Well3 H' wl/\But wl H1 H') (sz8 (by decide)) ⟨[],.nil,rfl,(fun t ht=>absurd ht List.not_mem_nil),⟨_,rfl⟩,W1,But.refl _ _⟩ ?_ ?_ ?_
  ·rintro i' acc σ H' hi' ⟨ts,hA,hl,ht,⟨v,rfl⟩,W',B'⟩
   nofun
   refine ⟨wl,j,m,by omega,by rw [show ((j+1:Nat):Int) - 1=(j:Int) by omega],W',by omega,m0,m5,fun v2 t2 H2 hA2 ho2 hd2 hc2 W2 B2=>?_⟩
   have new:∃ ts:List Tr,All2 (Tr.At H2) ts (acc++[v2])/\ts.length=i'+1/\(∀ t∈ts,t.ok/\t.dp<=j/\t.cnt<=2 * 2 ^ j):=⟨ts++[t2],(hA.imp fun t y _ h=>h.but3 W' B2).snoc hA2,by rw [List.length_append,hl]; rfl,fun t m2=>by
    rcases List.mem_append.mp m2 with m2 | m2
    ·exact ht t m2
    ·rw [List.mem_singleton.mp m2]; exact ⟨ho2,hd2,hc2⟩⟩
   obtain ⟨ts2,n1,n2,n3⟩:=new
   first | exact ⟨ts2,n1,n2,n3,⟨_,rfl⟩,W2,B'.trans B2⟩ | exact ⟨ts2,n1,n2,n3,W2,B'.trans B2⟩
  ·rintro i' acc σ H' ⟨ts,hA,hl,_⟩
   rw [<- hA.len]
   omega
  rintro acc σ H2 ⟨ts,hA,hl,ht,⟨v,rfl⟩,W2,B2⟩ pl hpl
  have T0:=aE hpl (.lst acc)
  have e0:upd H2 pl (.lst acc) pl=some (.lst acc):=aA
  generalize upd H2 pl (.lst acc)=G0 at *
  nofun
  refine ⟨sz8 (by decide),fun p1 h1=>?_⟩
  have T1:=aE h1 (.lst [.str "both",.str "either"])
  have f1:upd G0 p1 (.lst [.str "both",.str "either"]) p1=some (.lst [.str "both",.str "either"]):=aA
  have e1:=T1 _ _ e0
  generalize upd G0 p1 (.lst [.str "both",.str "either"])=G1 at *
  refine ⟨by decide,?_⟩
  have okT:2<=(Trs.ofL ts).toL.length/\(Trs.ofL ts).toL.length<=6/\(Trs.ofL ts).ok:=by
   rw [eL]
   exact ⟨by omega,by omega,trs_ok.mpr (by rw [eL]; exact fun t h=>(ht t h).1)⟩
  have dpT:(Trs.ofL ts).dp<=j:=mL (by rw [eL]; exact fun t h=>(ht t h).2.1)
  have cnT:(Trs.ofL ts).cnt<=2 * 2 ^ (j+1):=by
   have h:=AI5 (n:=2 * 2 ^ j) (ts:=Trs.ofL ts) (by rw [eL]; exact fun t h=>(ht t h).2.2)
   rw [eL,hl] at h
   refine Nat.le_trans h ?_
   rw [Nat.pow_succ,<- Nat.mul_assoc]
   exact Nat.mul_le_mul_left _ (by decide)
  rcases (by omega:kd % 2=0\/kd % 2=1) with hk | hk
  ·rw [hk]
   refine ixl (SqL.of f1) (v:=.str "both") rfl ?_
   nofun
   refine ⟨_,.inl ⟨SqL.of e1,fun p3 h3=>?_⟩⟩
   have T3:=aE h3 (.tup acc)
   refine ⟨sz8 (by decide),fun p4 h4=>?_⟩
   have SS:=T0.trans (T1.trans (T3.trans (aE h4 (.tup [.str "both",.ref p3]))))
   exact q (.ref p4) (.both (Trs.ofL ts)) _ (by rw [Tr.At]; exact ⟨p4,p3,acc,rfl,aA,aE h4 _ _ _ aA,trs_at.mpr (by rw [eL]; exact hA.imp fun t y _ h=>h.same SS)⟩) (by rw [Tr.ok]; exact okT) (by rw [Tr.dp]; omega) (by rw [Tr.cnt]; exact cnT) (W2.same SS) (B1.trans (B2.trans (Same.but SS)))
  ·rw [hk]
   refine ixl (SqL.of f1) (v:=.str "either") rfl ?_
   nofun
   refine ⟨_,.inl ⟨SqL.of e1,fun p3 h3=>?_⟩⟩
   have T3:=aE h3 (.tup acc)
   refine ⟨sz8 (by decide),fun p4 h4=>?_⟩
   have SS:=T0.trans (T1.trans (T3.trans (aE h4 (.tup [.str "either",.ref p3]))))
   exact q (.ref p4) (.either (Trs.ofL ts)) _ (by rw [Tr.At]; exact ⟨p4,p3,acc,rfl,aA,aE h4 _ _ _ aA,trs_at.mpr (by rw [eL]; exact hA.imp fun t y _ h=>h.same SS)⟩) (by rw [Tr.ok]; exact okT) (by rw [Tr.dp]; omega) (by rw [Tr.cnt]; exact cnT) (W2.same SS) (B1.trans (B2.trans (Same.but SS)))
theorem xY {d n:Nat}(hn:5<=n)(B:Bt K mg a)(rB:CalC P w K mg base "Either" a.Either ["self","fits"] 3 (fE K a))(yE:CalC P w K mg base "Kind" a.Kind ["self","names"] 4 (gC K a))(uH:CalC P w K mg base "Place" a.Place ["self","names"] 4 (fP K a))(uI:CalC P w K mg base "Least" a.Least ["self","weight"] 3 (fQ K a))(AL2:CalC P w K mg base "Not" a.Not ["self","fit"] 2 (hU K a))(yF:CalC P w K mg base "Both" a.Both ["self","fits"] 3 (gD K a))(eZ:CalX P w K mg base "_law_made" ["_law_tree_here"] n (fS K a d))(F:Fun K "_law_made" "_law_made" gS f fd):FnOk P w K mg base CX0 (n+1) f fd ["_law_tree_here"] (fS K a (d+1)):=by
 refine F.ok xP (by walk_at "ln") fun cdv A outer s H vs Q E hr h=>?_
 obtain ⟨v,t,hd0,rfl,hA,ho,q⟩:=h
 refine ⟨_,(aR (aD (bE (aW eN (bG bT (pv 0) aG (fun _ _=>rfl)) bB (aY _)) (aF (aV (aS (xB B.mk_Any rfl B.Any)))) aQ) (aD (bE (aW eN (bG bT (pv 0) aG (fun _ _=>rfl)) bB (aY _)) (aF (aV (aS (qD yE cW (hr.mono (by omega)) rfl (aH (aK (bH cV rfl B.list PyProof.Rows.boot_list (aH (aK (bG bT (pv 0) aG (fun _ _=>rfl)) aC))) aC)) (he:=aJ _ _ _ rfl) (hpl:=aL rfl))))) aQ) (aD (bE (aW eN (bG bT (pv 0) aG (fun _ _=>rfl)) bB (aY _)) (aF (aV (aS (qD uH cW (hr.mono (by omega)) rfl (aH (aK (bH cV rfl B.list PyProof.Rows.boot_list (aH (aK (bG bT (pv 0) aG (fun _ _=>rfl)) aC))) aC)) (he:=aJ _ _ _ rfl) (hpl:=aL rfl))))) aQ) (aD (bE (aW eN (bG bT (pv 0) aG (fun _ _=>rfl)) bB (aY _)) (aF (aV (aS (qD uI cW (hr.mono (by omega)) rfl (aH (aK (bG bT (pv 0) aG (fun _ _=>rfl)) aC)) (he:=aJ _ _ _ rfl) (hpl:=aL rfl))))) aQ) (aD (bE (aW eN (bG bT (pv 0) aG (fun _ _=>rfl)) bB (aY _)) (aF (aV (aS (qD AL2 cW (hr.mono (by omega)) rfl (aH (aK (pc eZ hr rfl (aH (aK (bG bT (pv 0) aG (fun _ _=>rfl)) aC)) (hk:=by omega)) aC)) (he:=aJ _ _ _ rfl) (hpl:=aL rfl))))) aQ) (aD (bE (aW eN (bG bT (pv 0) aG (fun _ _=>rfl)) bB (aY _)) (aF (aV (aS (qD yF cW (hr.mono (by omega)) rfl (aH (aK (dS ["_law_part"] [none] rfl (by kernel_rfl) (uW (bG bT (pv 0) aG (fun _ _=>rfl))) (fun cl C s H fp=>⟨(bC (i:=0) (by decide:List.Nodup (["_law_part"]:List Str)) rfl (Or.inl (by kernel_rfl)) (Or.inr (by kernel_rfl))),gA,(iD eZ (hr.mono (by omega)) (nP (by kernel_rfl)) (aH (aK (pv 0 (hv:=Or.inl (by kernel_rfl))) aC)) (he:=aJ _ _ _ rfl) (hpl:=aL rfl))⟩)) aC)) (he:=aJ _ _ _ rfl) (hpl:=aL rfl))))) aQ) (aF (aV (aS (qD rB cW (hr.mono (by omega)) rfl (aH (aK (dS ["_law_part"] [none] rfl (by kernel_rfl) (uW (bG bT (pv 0) aG (fun _ _=>rfl))) (fun cl C s H fp=>⟨(bC (i:=0) (by decide:List.Nodup (["_law_part"]:List Str)) rfl (Or.inl (by kernel_rfl)) (Or.inr (by kernel_rfl))),gA,(iD eZ (hr.mono (by omega)) (nP (by kernel_rfl)) (aH (aK (pv 0 (hv:=Or.inl (by kernel_rfl))) aC)) (he:=aJ _ _ _ rfl) (hpl:=aL rfl))⟩)) aC)) (he:=aJ _ _ _ rfl) (hpl:=aL rfl)))))))))))),?_⟩
 cases t with
 | any =>
  rw [Tr.At] at hA
  obtain ⟨p,rfl,hp⟩:=hA
  nofun
  refine ixt (SqT.of hp) (v:=.str "any") rfl ?_
  nofun
  intro x dx hx hd ne
  exact q (.ref x) _ (cX hx hd) (by rw [Tr.Fit]; exact ⟨x,dx,rfl,aA⟩)
 | kind us =>
  rw [Tr.At] at hA
  obtain ⟨p,l0,rfl,hp,hl⟩:=hA
  nofun
  refine ixt (SqT.of hp) (v:=.str "kind") rfl ?_
  nofun
  rw [if_neg (by decide)]
  refine ixt (SqT.of hp) (v:=.str "kind") rfl ?_
  nofun
  rw [Tr.ok] at ho
  refine ixt (SqT.of hp) (v:=.ref l0) rfl ?_
  nofun
  refine ⟨_,.inr (SqT.of hl),fun l2 h2=>?_⟩
  have S2:=aE h2 (.lst (us.map V.str))
  intro x dx hx hd ne
  have M:=cX (o:=.own x) (o':=.ins a.Kind dx []) hx hd
  refine ⟨x,dx,l2,us,rfl,aA,M _ _ aA,ho,fun l3 H' Bx f3 e1 e2=>?_⟩
  nofun
  exact q (.ref x) _ (S2.trans (gJ hx hd Bx)) (by rw [Tr.Fit]; exact ⟨x,dx,l3,rfl,e2,e1,(S2.trans M).free f3⟩)
 | place us =>
  rw [Tr.At] at hA
  obtain ⟨p,l0,rfl,hp,hl⟩:=hA
  nofun
  refine ixt (SqT.of hp) (v:=.str "place") rfl ?_
  nofun
  rw [if_neg (by decide)]
  refine ixt (SqT.of hp) (v:=.str "place") rfl ?_
  nofun
  rw [if_neg (by decide)]
  refine ixt (SqT.of hp) (v:=.str "place") rfl ?_
  nofun
  rw [Tr.ok] at ho
  refine ixt (SqT.of hp) (v:=.ref l0) rfl ?_
  nofun
  refine ⟨_,.inr (SqT.of hl),fun l2 h2=>?_⟩
  have S2:=aE h2 (.lst (us.map V.str))
  intro x dx hx hd ne
  have M:=cX (o:=.own x) (o':=.ins a.Place dx []) hx hd
  refine ⟨x,dx,l2,us,rfl,aA,M _ _ aA,ho,fun l3 H' Bx f3 e1 e2=>?_⟩
  nofun
  exact q (.ref x) _ (S2.trans (gJ hx hd Bx)) (by rw [Tr.Fit]; exact ⟨x,dx,l3,rfl,e2,e1,(S2.trans M).free f3⟩)
 | weight n =>
  rw [Tr.At] at hA
  obtain ⟨p,rfl,hp⟩:=hA
  nofun
  refine ixt (SqT.of hp) (v:=.str "weight") rfl ?_
  nofun
  rw [if_neg (by decide)]
  refine ixt (SqT.of hp) (v:=.str "weight") rfl ?_
  nofun
  rw [if_neg (by decide)]
  refine ixt (SqT.of hp) (v:=.str "weight") rfl ?_
  nofun
  rw [if_neg (by decide)]
  refine ixt (SqT.of hp) (v:=.str "weight") rfl ?_
  nofun
  rw [Tr.ok] at ho
  refine ixt (SqT.of hp) (v:=.int n) rfl ?_
  nofun
  intro x dx hx hd ne
  refine ⟨x,dx,n,rfl,aA,ho.1,?_⟩
  nofun
  exact q (.ref x) _ (fun b o e=>by rw [aO (aP e hx)]; exact cX hx hd b o e) (by rw [Tr.Fit]; exact ⟨x,dx,rfl,aA⟩)
 | not t =>
  rw [Tr.At] at hA
  obtain ⟨p,y,rfl,hp,hy⟩:=hA
  nofun
  refine ixt (SqT.of hp) (v:=.str "not") rfl ?_
  nofun
  rw [if_neg (by decide)]
  refine ixt (SqT.of hp) (v:=.str "not") rfl ?_
  nofun
  rw [if_neg (by decide)]
  refine ixt (SqT.of hp) (v:=.str "not") rfl ?_
  nofun
  rw [if_neg (by decide)]
  refine ixt (SqT.of hp) (v:=.str "not") rfl ?_
  nofun
  rw [if_neg (by decide)]
  refine ixt (SqT.of hp) (v:=.str "not") rfl ?_
  nofun
  rw [Tr.ok] at ho
  rw [Tr.dp] at hd0
  refine ixt (SqT.of hp) (v:=y) rfl ?_
  nofun
  refine ⟨y,t,by omega,rfl,hy,ho,fun v' H' S' hf=>?_⟩
  nofun
  intro x dx hx hd ne
  have M:=cX (o:=.own x) (o':=.ins a.Not dx []) hx hd
  refine ⟨x,dx,v',t,rfl,aA,(qN hf).same M,?_⟩
  nofun
  have SS:Same H' (upd (upd (upd H' dx (.own x)) x (.ins a.Not dx [])) x (.ins a.Not dx [("fit",v')])):=fun b o e=>by rw [aO (aP e hx)]; exact M b o e
  exact q (.ref x) _ (S'.trans SS) (by rw [Tr.Fit]; exact ⟨x,dx,v',rfl,aA,hf.same SS⟩)
 | both ts =>
  rw [Tr.At] at hA
  obtain ⟨p,l0,xs,rfl,hp,hl,hs⟩:=hA
  nofun
  refine ixt (SqT.of hp) (v:=.str "both") rfl ?_
  nofun
  rw [if_neg (by decide)]
  refine ixt (SqT.of hp) (v:=.str "both") rfl ?_
  nofun
  rw [if_neg (by decide)]
  refine ixt (SqT.of hp) (v:=.str "both") rfl ?_
  nofun
  rw [if_neg (by decide)]
  refine ixt (SqT.of hp) (v:=.str "both") rfl ?_
  nofun
  rw [if_neg (by decide)]
  refine ixt (SqT.of hp) (v:=.str "both") rfl ?_
  nofun
  rw [if_neg (by decide)]
  refine ixt (SqT.of hp) (v:=.str "both") rfl ?_
  nofun
  rw [Tr.ok] at ho
  rw [Tr.dp] at hd0
  obtain ⟨l2,l6,ho⟩:=ho
  have hA:=trs_at.mp hs
  have ln6:=hA.len
  refine ixt (SqT.of hp) (v:=.ref l0) rfl ?_
  nofun
  refine ⟨⟨xs,SqT.of hl⟩,?_⟩
  refine CompT.by (xs:=xs) (fun i acc σ H'=>All2 (Tr.Fit (fz a fun l=>H l=none) H') (ts.toL.take i) acc/\(∃ v,σ=[v])/\Same H H') (sz8 (by omega)) ⟨.nil,⟨_,rfl⟩,fun _ _ z=>z⟩ (fun i acc σ H' _ h=>SqT.of (h.2.2 _ _ hl)) ?_ ?_ ?_
  ·rintro i y acc σ H' hy ⟨hF,⟨v,rfl⟩,S1⟩
   obtain ⟨t,e,ht⟩:=hA.get hy
   have mt:=List.mem_of_getElem? e
   have dt:=jG mt
   nofun
   refine ⟨y,t,by omega,rfl,ht.same S1,trs_ok.mp ho t mt,fun v' H2 S2 hf=>?_⟩
   have new:All2 (Tr.Fit (fz a fun l=>H l=none) H2) (ts.toL.take (i+1)) (acc++[v']):=by
    rw [List.take_succ,e]
    exact (hF.imp fun t y _ h=>h.same S2).snoc (hf.mono fun l z=>S1.free z)
   first | exact ⟨new,⟨_,rfl⟩,S1.trans S2⟩ | exact ⟨new,S1.trans S2⟩
  ·rintro i acc σ H' ⟨hF,_,_⟩
   rw [<- hF.len,List.length_take]
   omega
  rintro acc σ H' ⟨hF,⟨v,rfl⟩,S1⟩ D hD
  rw [<- ln6,List.take_length] at hF
  have la:=hF.len
  have S2:=aE hD (.lst acc)
  intro x dx hx hd ne
  have M:=cX (o:=.own x) (o':=.ins a.Both dx []) hx hd
  refine ⟨x,dx,D,acc,ts.toL,rfl,aA,M _ _ aA,hF.imp (fun t y _ h=>qN ((h.same S2).same M)),by omega,by omega,fun l3 H3 Bx f3 e1 e2=>?_⟩
  nofun
  have SS:=S2.trans (gJ hx hd Bx)
  exact q (.ref x) _ (S1.trans SS) (by rw [Tr.Fit]; exact ⟨x,dx,l3,acc,rfl,e2,e1,(S1.trans (S2.trans M)).free f3,trs_fit.mpr (hF.imp fun t y _ h=>h.same SS)⟩)
 | either ts =>
  rw [Tr.At] at hA
  obtain ⟨p,l0,xs,rfl,hp,hl,hs⟩:=hA
  nofun
  refine ixt (SqT.of hp) (v:=.str "either") rfl ?_
  nofun
  rw [if_neg (by decide)]
  refine ixt (SqT.of hp) (v:=.str "either") rfl ?_
  nofun
  rw [if_neg (by decide)]
  refine ixt (SqT.of hp) (v:=.str "either") rfl ?_
  nofun
  rw [if_neg (by decide)]
  refine ixt (SqT.of hp) (v:=.str "either") rfl ?_
  nofun
  rw [if_neg (by decide)]
  refine ixt (SqT.of hp) (v:=.str "either") rfl ?_
  nofun
  rw [if_neg (by decide)]
  refine ixt (SqT.of hp) (v:=.str "either") rfl ?_
  nofun
  rw [if_neg (by decide)]
  rw [Tr.ok] at ho
  rw [Tr.dp] at hd0
  obtain ⟨l2,l6,ho⟩:=ho
  have hA:=trs_at.mp hs
  have ln6:=hA.len
  refine ixt (SqT.of hp) (v:=.ref l0) rfl ?_
  nofun
  refine ⟨⟨xs,SqT.of hl⟩,?_⟩
  refine CompT.by (xs:=xs) (fun i acc σ H'=>All2 (Tr.Fit (fz a fun l=>H l=none) H') (ts.toL.take i) acc/\(∃ v,σ=[v])/\Same H H') (sz8 (by omega)) ⟨.nil,⟨_,rfl⟩,fun _ _ z=>z⟩ (fun i acc σ H' _ h=>SqT.of (h.2.2 _ _ hl)) ?_ ?_ ?_
  ·rintro i y acc σ H' hy ⟨hF,⟨v,rfl⟩,S1⟩
   obtain ⟨t,e,ht⟩:=hA.get hy
   have mt:=List.mem_of_getElem? e
   have dt:=jG mt
   nofun
   refine ⟨y,t,by omega,rfl,ht.same S1,trs_ok.mp ho t mt,fun v' H2 S2 hf=>?_⟩
   have new:All2 (Tr.Fit (fz a fun l=>H l=none) H2) (ts.toL.take (i+1)) (acc++[v']):=by
    rw [List.take_succ,e]
    exact (hF.imp fun t y _ h=>h.same S2).snoc (hf.mono fun l z=>S1.free z)
   first | exact ⟨new,⟨_,rfl⟩,S1.trans S2⟩ | exact ⟨new,S1.trans S2⟩
  ·rintro i acc σ H' ⟨hF,_,_⟩
   rw [<- hF.len,List.length_take]
   omega
  rintro acc σ H' ⟨hF,⟨v,rfl⟩,S1⟩ D hD
  rw [<- ln6,List.take_length] at hF
  have la:=hF.len
  have S2:=aE hD (.lst acc)
  intro x dx hx hd ne
  have M:=cX (o:=.own x) (o':=.ins a.Either dx []) hx hd
  refine ⟨x,dx,D,acc,ts.toL,rfl,aA,M _ _ aA,hF.imp (fun t y _ h=>qN ((h.same S2).same M)),by omega,by omega,fun l3 H3 Bx f3 e1 e2=>?_⟩
  nofun
  have SS:=S2.trans (gJ hx hd Bx)
  exact q (.ref x) _ (S1.trans SS) (by rw [Tr.Fit]; exact ⟨x,dx,l3,acc,rfl,e2,e1,(S1.trans (S2.trans M)).free f3,trs_fit.mpr (hF.imp fun t y _ h=>h.same SS)⟩)
theorem xZ {d n:Nat}(hn:0<=n)(B:Bt K mg a)(fA:CalX P w K mg base "_law_fits" ["_law_tree_here","_law_thing"] n (fT K a d))(F:Fun K "_law_fits" "_law_fits" gT f fd):FnOk P w K mg base CX0 (n+1) f fd ["_law_tree_here","_law_thing"] (fT K a (d+1)):=by
 refine F.ok xQ (by walk_at "ln") fun cdv A outer s H vs Q E hr h=>?_
 obtain ⟨v,x,t,k,l,n2,hd0,hd20,rfl,hA,ho,hx,q⟩:=h
 refine ⟨_,(aR (aD (bE (aW eN (bG bT (pv 0) aG (fun _ _=>rfl)) bB (aY _)) (aF (aV (aS nK))) aQ) (aD (bE (aW eN (bG bT (pv 0) aG (fun _ _=>rfl)) bB (aY _)) (aF (aV (aS (dR mD (bG bT (pv 1) aG (fun _ _=>rfl)) (bG bT (pv 0) aG (fun _ _=>rfl)) (by with_unfolding_all rfl))))) aQ) (aD (bE (aW eN (bG bT (pv 0) aG (fun _ _=>rfl)) bB (aY _)) (aF (aV (aS (dR mD (bG bT (pv 1) aG (fun _ _=>rfl)) (bG bT (pv 0) aG (fun _ _=>rfl)) (by with_unfolding_all rfl))))) aQ) (aD (bE (aW eN (bG bT (pv 0) aG (fun _ _=>rfl)) bB (aY _)) (aF (aV (aS (dR AM5 (bG bT (pv 1) aG (fun _ _=>rfl)) (bG bT (pv 0) aG (fun _ _=>rfl)) (aY _))))) aQ) (aD (bE (aW eN (bG bT (pv 0) aG (fun _ _=>rfl)) bB (aY _)) (aF (aV (aS (AR5 (pc fA hr rfl (aH (aK (bG bT (pv 0) aG (fun _ _=>rfl)) (aK (pv 1) aC))) (hk:=by omega)))))) aQ) (aD (bE (aW eN (bG bT (pv 0) aG (fun _ _=>rfl)) bB (aY _)) (aF (aV (aS (dR (yY hr.units) (dS ["_law_part","_law_thing"] [none,some 1] rfl (by kernel_rfl) (uW (bG bT (pv 0) aG (fun _ _=>rfl))) (fun cl C s H fp=>⟨(bC (i:=0) (by decide:List.Nodup (["_law_part","_law_thing"]:List Str)) rfl (Or.inl (by kernel_rfl)) (Or.inr (by kernel_rfl))),(tF (dF (cD (iD fA (hr.mono (by omega)) (nP (by kernel_rfl)) (aH (aK (pv 0 (hv:=Or.inl (by kernel_rfl))) (aK (pv 1 (hv:=Or.inr (Or.inl (by kernel_rfl)))) aC))) (he:=aJ _ _ _ rfl) (hpl:=aL rfl))))),(pv 0 (hv:=Or.inl (by kernel_rfl)))⟩)) (fI (aH aC)) (aY _))))) aQ) (aF (aV (aS (dR (AG6 hr.units) (dS ["_law_part","_law_thing"] [none,some 1] rfl (by kernel_rfl) (uW (bG bT (pv 0) aG (fun _ _=>rfl))) (fun cl C s H fp=>⟨(bC (i:=0) (by decide:List.Nodup (["_law_part","_law_thing"]:List Str)) rfl (Or.inl (by kernel_rfl)) (Or.inr (by kernel_rfl))),(tF (cD (iD fA (hr.mono (by omega)) (nP (by kernel_rfl)) (aH (aK (pv 0 (hv:=Or.inl (by kernel_rfl))) (aK (pv 1 (hv:=Or.inr (Or.inl (by kernel_rfl)))) aC))) (he:=aJ _ _ _ rfl) (hpl:=aL rfl)))),(pv 0 (hv:=Or.inl (by kernel_rfl)))⟩)) (fI (aH aC)) (aY _)))))))))))),?_⟩
 obtain ⟨tp,rfl,hth,_⟩:=id hx
 cases t with
 | any =>
  rw [Tr.At] at hA
  obtain ⟨p,rfl,hp⟩:=hA
  nofun
  refine ixt (SqT.of hp) (v:=.str "any") rfl ?_
  nofun
  simp only [Tr.ev] at q
  exact q _ fun _ _ z=>z
 | kind us =>
  rw [Tr.At] at hA
  obtain ⟨p,l0,rfl,hp,hl⟩:=hA
  nofun
  refine ixt (SqT.of hp) (v:=.str "kind") rfl ?_
  nofun
  rw [if_neg (by decide)]
  refine ixt (SqT.of hp) (v:=.str "kind") rfl ?_
  nofun
  simp only [Tr.ev] at q
  refine ixt (SqT.of hth) (v:=.str k) rfl ?_
  nofun
  refine ixt (SqT.of hp) (v:=.ref l0) rfl ?_
  refine ⟨l0,_,rfl,.inr (SqT.of hl),rfl,hV us,?_⟩
  rw [lN]
  exact q _ fun _ _ z=>z
 | place us =>
  rw [Tr.At] at hA
  obtain ⟨p,l0,rfl,hp,hl⟩:=hA
  nofun
  refine ixt (SqT.of hp) (v:=.str "place") rfl ?_
  nofun
  rw [if_neg (by decide)]
  refine ixt (SqT.of hp) (v:=.str "place") rfl ?_
  nofun
  rw [if_neg (by decide)]
  refine ixt (SqT.of hp) (v:=.str "place") rfl ?_
  nofun
  simp only [Tr.ev] at q
  refine ixt (SqT.of hth) (v:=.str l) rfl ?_
  nofun
  refine ixt (SqT.of hp) (v:=.ref l0) rfl ?_
  refine ⟨l0,_,rfl,.inr (SqT.of hl),rfl,hV us,?_⟩
  rw [lN]
  exact q _ fun _ _ z=>z
 | weight n =>
  rw [Tr.At] at hA
  obtain ⟨p,rfl,hp⟩:=hA
  nofun
  refine ixt (SqT.of hp) (v:=.str "weight") rfl ?_
  nofun
  rw [if_neg (by decide)]
  refine ixt (SqT.of hp) (v:=.str "weight") rfl ?_
  nofun
  rw [if_neg (by decide)]
  refine ixt (SqT.of hp) (v:=.str "weight") rfl ?_
  nofun
  rw [if_neg (by decide)]
  refine ixt (SqT.of hp) (v:=.str "weight") rfl ?_
  nofun
  simp only [Tr.ev] at q
  refine ixt (SqT.of hth) (v:=.int n2) rfl ?_
  nofun
  refine ixt (SqT.of hp) (v:=.int n) rfl ?_
  nofun
  exact q _ fun _ _ z=>z
 | not t =>
  rw [Tr.At] at hA
  obtain ⟨p,y,rfl,hp,hy⟩:=hA
  nofun
  refine ixt (SqT.of hp) (v:=.str "not") rfl ?_
  nofun
  rw [if_neg (by decide)]
  refine ixt (SqT.of hp) (v:=.str "not") rfl ?_
  nofun
  rw [if_neg (by decide)]
  refine ixt (SqT.of hp) (v:=.str "not") rfl ?_
  nofun
  rw [if_neg (by decide)]
  refine ixt (SqT.of hp) (v:=.str "not") rfl ?_
  nofun
  rw [if_neg (by decide)]
  refine ixt (SqT.of hp) (v:=.str "not") rfl ?_
  nofun
  simp only [Tr.ev] at q
  rw [Tr.dp] at hd0 hd20
  rw [Tr.ok] at ho
  refine ixt (SqT.of hp) (v:=y) rfl ?_
  nofun
  refine ⟨y,.ref tp,t,k,l,n2,by omega,by omega,rfl,hy,ho,hx,fun H' S'=>?_⟩
  nofun
  exact q _ S'
 | both ts =>
  rw [Tr.At] at hA
  obtain ⟨p,l0,xs,rfl,hp,hl,hs⟩:=hA
  nofun
  refine ixt (SqT.of hp) (v:=.str "both") rfl ?_
  nofun
  rw [if_neg (by decide)]
  refine ixt (SqT.of hp) (v:=.str "both") rfl ?_
  nofun
  rw [if_neg (by decide)]
  refine ixt (SqT.of hp) (v:=.str "both") rfl ?_
  nofun
  rw [if_neg (by decide)]
  refine ixt (SqT.of hp) (v:=.str "both") rfl ?_
  nofun
  rw [if_neg (by decide)]
  refine ixt (SqT.of hp) (v:=.str "both") rfl ?_
  nofun
  rw [if_neg (by decide)]
  refine ixt (SqT.of hp) (v:=.str "both") rfl ?_
  nofun
  simp only [Tr.ev] at q
  rw [Tr.dp] at hd0 hd20
  rw [Tr.ok] at ho
  obtain ⟨l2,l6,ho⟩:=ho
  have hA:=trs_at.mp hs
  have ln6:=hA.len
  have dA:=Trs.At.dt ho hs
  refine ixt (SqT.of hp) (v:=.ref l0) rfl ?_
  nofun
  refine ⟨⟨xs,SqT.of hl⟩,?_⟩
  refine CompT.by (xs:=xs) (fun i acc σ H'=>acc.length=((ts.toL.take i).filter (fun t=>!Tr.ev k l n2 t)).length/\(∀ y∈acc,y∈xs)/\(∃ v,σ=[v,some (.ref tp)])/\Same H H') (sz8 (by omega)) ⟨rfl,(fun y hy=>absurd hy List.not_mem_nil),⟨_,rfl⟩,fun _ _ z=>z⟩ (fun i acc σ H' _ h=>SqT.of (h.2.2.2 _ _ hl)) ?_ ?_ ?_
  ·rintro i y acc σ H' hy ⟨hc,hm,⟨v,rfl⟩,S1⟩
   obtain ⟨t,e,ht⟩:=hA.get hy
   have mt:=List.mem_of_getElem? e
   have dt:=jG mt
   have tk:(ts.toL.take (i+1)).filter (fun t=>!Tr.ev k l n2 t)=(ts.toL.take i).filter (fun t=>!Tr.ev k l n2 t)++[t].filter (fun t=>!Tr.ev k l n2 t):=by rw [List.take_succ,e,<- List.filter_append]; rfl
   nofun
   refine ⟨y,.ref tp,t,k,l,n2,by omega,by omega,rfl,ht.same S1,trs_ok.mp ho t mt,hx.same S1,fun H2 S2=>?_⟩
   nofun
   cases hv:t.ev k l n2 with
   | false =>
    have n1:(acc++[y]).length=((ts.toL.take (i+1)).filter (fun t=>!Tr.ev k l n2 t)).length:=by
     rw [tk,List.length_append,List.length_append,hc,List.filter_cons_of_pos (by simp [hv])]
     rfl
    have n2:∀ z∈acc++[y],z∈xs:=fun z hz=>by
     rcases List.mem_append.mp hz with hz | hz
     ·exact hm z hz
     ·rw [List.mem_singleton.mp hz]; exact List.mem_of_getElem? hy
    exists Bool.not_false
    first | exact ⟨n1,n2,⟨_,rfl⟩,S1.trans S2⟩ | exact ⟨n1,n2,S1.trans S2⟩
   | true =>
    have n1:acc.length=((ts.toL.take (i+1)).filter (fun t=>!Tr.ev k l n2 t)).length:=by
     rw [tk,List.length_append,hc,List.filter_cons_of_neg (by simp [hv])]
     rfl
    exists Bool.not_true
    first | exact ⟨n1,hm,⟨_,rfl⟩,S1.trans S2⟩ | exact ⟨n1,hm,S1.trans S2⟩
  ·rintro i acc σ H' ⟨hc,_,_,_⟩
   rw [hc]
   have:=List.length_filter_le (fun t=>!Tr.ev k l n2 t) (ts.toL.take i)
   rw [List.length_take] at this
   omega
  rintro acc σ H' ⟨hc,hm,⟨v,rfl⟩,S1⟩ D hD
  rw [<- ln6,List.take_length] at hc
  have S2:=aE hD (.lst acc)
  have e1:upd H' D (.lst acc) D=some (.lst acc):=aA
  generalize upd H' D (.lst acc)=H2 at *
  refine ⟨Nat.zero_le _,fun p2 h2=>?_⟩
  have S3:=aE h2 (.lst [])
  have SS:=S1.trans (S2.trans S3)
  have dB:=Trs.At.dt ho (Trs.At.keep (qH SS) hs)
  have ev_:(acc.isEmpty == true)=(ts.ev k l n2).all id:=by
   rw [vO]
   have h0:acc.isEmpty=(ts.toL.filter (fun t=>!Tr.ev k l n2 t)).isEmpty:=by
    cases acc <;> cases hf:ts.toL.filter (fun t=>!Tr.ev k l n2 t) <;> first | rfl | (rw [hf] at hc; cases hc)
   rw [h0]
   generalize ts.toL=L
   induction L with
   | nil=>rfl
   | cons t r ih =>
    rw [List.map_cons,List.all_cons,<- ih]
    cases hv:t.ev k l n2
    ·rw [List.filter_cons_of_pos (by simp [hv])]
     first | rfl | simp
    ·rw [List.filter_cons_of_neg (by simp [hv])]
     first | rfl | simp
  refine xJ (S3 _ _ e1) aA (n:=2 * ts.dp+2) (by omega) (fun z hz=>dB z (hm z hz)) ?_
  rw [ev_]
  exact q _ SS
 | either ts =>
  rw [Tr.At] at hA
  obtain ⟨p,l0,xs,rfl,hp,hl,hs⟩:=hA
  nofun
  refine ixt (SqT.of hp) (v:=.str "either") rfl ?_
  nofun
  rw [if_neg (by decide)]
  refine ixt (SqT.of hp) (v:=.str "either") rfl ?_
  nofun
  rw [if_neg (by decide)]
  refine ixt (SqT.of hp) (v:=.str "either") rfl ?_
  nofun
  rw [if_neg (by decide)]
  refine ixt (SqT.of hp) (v:=.str "either") rfl ?_
  nofun
  rw [if_neg (by decide)]
  refine ixt (SqT.of hp) (v:=.str "either") rfl ?_
  nofun
  rw [if_neg (by decide)]
  refine ixt (SqT.of hp) (v:=.str "either") rfl ?_
  nofun
  rw [if_neg (by decide)]
  simp only [Tr.ev] at q
  rw [Tr.dp] at hd0 hd20
  rw [Tr.ok] at ho
  obtain ⟨l2,l6,ho⟩:=ho
  have hA:=trs_at.mp hs
  have ln6:=hA.len
  have dA:=Trs.At.dt ho hs
  refine ixt (SqT.of hp) (v:=.ref l0) rfl ?_
  nofun
  refine ⟨⟨xs,SqT.of hl⟩,?_⟩
  refine CompT.by (xs:=xs) (fun i acc σ H'=>acc.length=((ts.toL.take i).filter (Tr.ev k l n2)).length/\(∀ y∈acc,y∈xs)/\(∃ v,σ=[v,some (.ref tp)])/\Same H H') (sz8 (by omega)) ⟨rfl,(fun y hy=>absurd hy List.not_mem_nil),⟨_,rfl⟩,fun _ _ z=>z⟩ (fun i acc σ H' _ h=>SqT.of (h.2.2.2 _ _ hl)) ?_ ?_ ?_
  ·rintro i y acc σ H' hy ⟨hc,hm,⟨v,rfl⟩,S1⟩
   obtain ⟨t,e,ht⟩:=hA.get hy
   have mt:=List.mem_of_getElem? e
   have dt:=jG mt
   have tk:(ts.toL.take (i+1)).filter (Tr.ev k l n2)=(ts.toL.take i).filter (Tr.ev k l n2)++[t].filter (Tr.ev k l n2):=by rw [List.take_succ,e,<- List.filter_append]; rfl
   nofun
   refine ⟨y,.ref tp,t,k,l,n2,by omega,by omega,rfl,ht.same S1,trs_ok.mp ho t mt,hx.same S1,fun H2 S2=>?_⟩
   nofun
   cases hv:t.ev k l n2 with
   | true =>
    have n1:(acc++[y]).length=((ts.toL.take (i+1)).filter (Tr.ev k l n2)).length:=by
     rw [tk,List.length_append,List.length_append,hc,List.filter_cons_of_pos (by simp [hv])]
     rfl
    have n2:∀ z∈acc++[y],z∈xs:=fun z hz=>by
     rcases List.mem_append.mp hz with hz | hz
     ·exact hm z hz
     ·rw [List.mem_singleton.mp hz]; exact List.mem_of_getElem? hy
    exists Bool.not_false
    first | exact ⟨n1,n2,⟨_,rfl⟩,S1.trans S2⟩ | exact ⟨n1,n2,S1.trans S2⟩
   | false =>
    have n1:acc.length=((ts.toL.take (i+1)).filter (Tr.ev k l n2)).length:=by
     rw [tk,List.length_append,hc,List.filter_cons_of_neg (by simp [hv])]
     rfl
    exists Bool.not_true
    first | exact ⟨n1,hm,⟨_,rfl⟩,S1.trans S2⟩ | exact ⟨n1,hm,S1.trans S2⟩
  ·rintro i acc σ H' ⟨hc,_,_,_⟩
   rw [hc]
   have:=List.length_filter_le (Tr.ev k l n2) (ts.toL.take i)
   rw [List.length_take] at this
   omega
  rintro acc σ H' ⟨hc,hm,⟨v,rfl⟩,S1⟩ D hD
  rw [<- ln6,List.take_length] at hc
  have S2:=aE hD (.lst acc)
  have e1:upd H' D (.lst acc) D=some (.lst acc):=aA
  generalize upd H' D (.lst acc)=H2 at *
  refine ⟨Nat.zero_le _,fun p2 h2=>?_⟩
  have S3:=aE h2 (.lst [])
  have SS:=S1.trans (S2.trans S3)
  have dB:=Trs.At.dt ho (Trs.At.keep (qH SS) hs)
  have ev_:(acc.isEmpty == false)=(ts.ev k l n2).any id:=by
   rw [vO]
   have h0:acc.isEmpty=(ts.toL.filter (Tr.ev k l n2)).isEmpty:=by
    cases acc <;> cases hf:ts.toL.filter (Tr.ev k l n2) <;> first | rfl | (rw [hf] at hc; cases hc)
   rw [h0]
   generalize ts.toL=L
   induction L with
   | nil=>rfl
   | cons t r ih =>
    rw [List.map_cons,List.any_cons,<- ih]
    cases hv:t.ev k l n2
    ·rw [List.filter_cons_of_neg (by simp [hv])]
     first | rfl | simp
    ·rw [List.filter_cons_of_pos (by simp [hv])]
     first | rfl | simp
  refine xJ (S3 _ _ e1) aA (n:=2 * ts.dp+2) (by omega) (fun z hz=>dB z (hm z hz)) ?_
  rw [ev_]
  exact q _ SS
theorem fX:∀ ts:Trs,ts.cnt=(ts.toL.map Tr.cnt).sum
 | .nil=>rfl
 | .cons t ts=>by rw [Trs.cnt,Trs.toL,List.map_cons,List.sum_cons,fX ts]
theorem nA {L:List Tr}{i:Nat}{t:Tr}(h:L[i]?=some t):((L.take (i+1)).map Tr.cnt).sum=((L.take i).map Tr.cnt).sum+t.cnt:=by
 rw [List.take_succ,h,List.map_append,List.sum_append]
 simp
theorem eQ:∀ (L:List Tr) (i:Nat),((L.take i).map Tr.cnt).sum<=(L.map Tr.cnt).sum
 | [],i=>by rw [List.take_nil]; exact Nat.le_refl _
 | t::L,0=>Nat.zero_le _
 | t::L,i+1=>by
  rw [List.take_succ_cons,List.map_cons,List.map_cons,List.sum_cons,List.sum_cons]
  exact Nat.add_le_add_left (eQ L i) _
theorem AK6 {ts:Trs}{t:Tr}(h:t∈ts.toL):t.cnt<=ts.cnt:=by
 rw [fX]
 generalize ts.toL=L at h
 induction L with
 | nil=>cases h
 | cons s r ih =>
  rw [List.map_cons,List.sum_cons]
  rcases List.mem_cons.mp h with rfl | h
  ·omega
  ·have:=ih h; omega
theorem qV {d n:Nat}(hn:0<=n)(B:Bt K mg a)(bF:CalX P w K mg base "_law_gathered" ["_law_tree_here","_law_word"] n (cO K a d))(F:Fun K "_law_gathered" "_law_gathered" dQ f fd):FnOk P w K mg base CX0 (n+1) f fd ["_law_tree_here","_law_word"] (cO K a (d+1)):=by
 refine F.ok sc_law_gathered (by walk_at "ln") fun cdv A outer s H vs Q E hr h=>?_
 obtain ⟨v,t,wd,hd0,rfl,hA,ho,hc,hw,q⟩:=h
 refine ⟨_,(aR (aD (bE (L2.PW.pt (uT (aW eN (bG bT (pv 0) aG (fun _ _=>rfl)) (pv 1) (aY _)) (pS (aW eN (pv 1) bB (aY _))))) (aF (aV (iY (aK (bG bT (pv 0) aG (fun _ _=>rfl)) aC)))) aQ) (aD (bE (aW eN (bG bT (pv 0) aG (fun _ _=>rfl)) (pv 1) (aY _)) (aF (aV (aS (bH cV rfl B.list PyProof.Rows.boot_list (aH (aK (bG bT (pv 0) aG (fun _ _=>rfl)) aC)))))) aQ) (aD (bE (aW eN (bG bT (pv 0) aG (fun _ _=>rfl)) bB (aY _)) (aF (aV (aS (pc bF hr rfl (aH (aK (bG bT (pv 0) aG (fun _ _=>rfl)) (aK (pv 1) aC))) (hk:=by omega))))) aQ) (aD (aX (i:=2) sc_law_gathered.nd rfl (Or.inl rfl) (iY aC) (by kernel_rfl)) (aD (bE (L2.PW.pt (jC (aW eN (bG bT (pv 0) aG (fun _ _=>rfl)) bB (aY _)) (iG (aW eN (bG bT (pv 0) aG (fun _ _=>rfl)) bB (aY _))))) (aF (bD (eM PassesOwn.never rfl (uW (bG bT (pv 0) aG (fun _ _=>rfl))) (bC (i:=3) sc_law_gathered.nd rfl (Or.inl rfl)) (aR (aF (aX (i:=2) sc_law_gathered.nd rfl (Or.inl rfl) (aS (bJ mE (pv 2) (pc bF hr rfl (aH (aK (pv 3) (aK (pv 1) aC))) (hk:=by omega)))) (by kernel_rfl))))))) aQ) (aF (aV (aS (pv 2)))))))))),?_⟩
 cases t with
 | any =>
  rw [Tr.At] at hA
  obtain ⟨p,rfl,hp⟩:=hA
  nofun
  have nT:("any":Str)≠wd:=by rcases hw with rfl | rfl | rfl <;> decide
  refine ixt (SqT.of hp) (v:=.str "any") rfl ?_
  nofun
  rw [if_neg nT]
  refine ixt (SqT.of hp) (v:=.str "any") rfl ?_
  nofun
  rw [if_neg nT]
  refine ixt (SqT.of hp) (v:=.str "any") rfl ?_
  nofun
  rw [if_neg (by decide)]
  refine ⟨Nat.zero_le _,fun l1 h1=>?_⟩
  have S1:=aE h1 (.lst [])
  have hp:=S1 _ _ hp
  have e1:upd H l1 (.lst []) l1=some (.lst []):=aA
  generalize upd H l1 (.lst [])=H1 at *
  nofun
  refine ixt (SqT.of hp) (v:=.str "any") rfl ?_
  nofun
  rw [if_neg (by decide)]
  refine ixt (SqT.of hp) (v:=.str "any") rfl ?_
  nofun
  rw [if_neg (by decide)]
  exact q l1 [] _ S1 h1 e1 (Nat.zero_le _) fun x hx=>absurd hx List.not_mem_nil
 | kind us =>
  rw [Tr.At] at hA
  rw [Tr.okl] at ho
  obtain ⟨p,l0,rfl,hp,hl⟩:=hA
  nofun
  rcases hw with rfl | rfl | rfl
  ·skip
   refine ixt (SqT.of hp) (v:=.str "kind") rfl ?_
   nofun
   rw [if_neg (by decide)]
   refine ixt (SqT.of hp) (v:=.str "kind") rfl ?_
   nofun
   refine ixt (SqT.of hp) (v:=.ref l0) rfl ?_
   nofun
   refine ⟨_,.inr (SqT.of hl),fun l1 h1=>?_⟩
   refine q l1 (us.map V.str) _ (aE h1 _) h1 aA (by rw [Tr.cnt,List.length_map]; exact Nat.le_refl _) fun x hx=>?_
   obtain ⟨u,hu,rfl⟩:=List.mem_map.mp hx
   exact .inr ⟨by decide,u,rfl,ho.2.2.1 u hu⟩
  ·skip
   refine ixt (SqT.of hp) (v:=.str "kind") rfl ?_
   nofun
   rw [if_neg (by decide)]
   refine ixt (SqT.of hp) (v:=.str "kind") rfl ?_
   nofun
   rw [if_neg (by decide)]
   refine ixt (SqT.of hp) (v:=.str "kind") rfl ?_
   nofun
   rw [if_neg (by decide)]
   refine ⟨Nat.zero_le _,fun l1 h1=>?_⟩
   have S1:=aE h1 (.lst [])
   have hp:=S1 _ _ hp
   have e1:upd H l1 (.lst []) l1=some (.lst []):=aA
   generalize upd H l1 (.lst [])=H1 at *
   nofun
   refine ixt (SqT.of hp) (v:=.str "kind") rfl ?_
   nofun
   rw [if_neg (by decide)]
   refine ixt (SqT.of hp) (v:=.str "kind") rfl ?_
   nofun
   rw [if_neg (by decide)]
   exact q l1 [] _ S1 h1 e1 (Nat.zero_le _) fun x hx=>absurd hx List.not_mem_nil
  ·skip
   refine ixt (SqT.of hp) (v:=.str "kind") rfl ?_
   nofun
   rw [if_neg (by decide)]
   refine ixt (SqT.of hp) (v:=.str "kind") rfl ?_
   nofun
   rw [if_neg (by decide)]
   refine ixt (SqT.of hp) (v:=.str "kind") rfl ?_
   nofun
   rw [if_neg (by decide)]
   refine ⟨Nat.zero_le _,fun l1 h1=>?_⟩
   have S1:=aE h1 (.lst [])
   have hp:=S1 _ _ hp
   have e1:upd H l1 (.lst []) l1=some (.lst []):=aA
   generalize upd H l1 (.lst [])=H1 at *
   nofun
   refine ixt (SqT.of hp) (v:=.str "kind") rfl ?_
   nofun
   rw [if_neg (by decide)]
   refine ixt (SqT.of hp) (v:=.str "kind") rfl ?_
   nofun
   rw [if_neg (by decide)]
   exact q l1 [] _ S1 h1 e1 (Nat.zero_le _) fun x hx=>absurd hx List.not_mem_nil
 | place us =>
  rw [Tr.At] at hA
  rw [Tr.okl] at ho
  obtain ⟨p,l0,rfl,hp,hl⟩:=hA
  nofun
  rcases hw with rfl | rfl | rfl
  ·skip
   refine ixt (SqT.of hp) (v:=.str "place") rfl ?_
   nofun
   rw [if_neg (by decide)]
   refine ixt (SqT.of hp) (v:=.str "place") rfl ?_
   nofun
   rw [if_neg (by decide)]
   refine ixt (SqT.of hp) (v:=.str "place") rfl ?_
   nofun
   rw [if_neg (by decide)]
   refine ⟨Nat.zero_le _,fun l1 h1=>?_⟩
   have S1:=aE h1 (.lst [])
   have hp:=S1 _ _ hp
   have e1:upd H l1 (.lst []) l1=some (.lst []):=aA
   generalize upd H l1 (.lst [])=H1 at *
   nofun
   refine ixt (SqT.of hp) (v:=.str "place") rfl ?_
   nofun
   rw [if_neg (by decide)]
   refine ixt (SqT.of hp) (v:=.str "place") rfl ?_
   nofun
   rw [if_neg (by decide)]
   exact q l1 [] _ S1 h1 e1 (Nat.zero_le _) fun x hx=>absurd hx List.not_mem_nil
  ·skip
   refine ixt (SqT.of hp) (v:=.str "place") rfl ?_
   nofun
   rw [if_neg (by decide)]
   refine ixt (SqT.of hp) (v:=.str "place") rfl ?_
   nofun
   refine ixt (SqT.of hp) (v:=.ref l0) rfl ?_
   nofun
   refine ⟨_,.inr (SqT.of hl),fun l1 h1=>?_⟩
   refine q l1 (us.map V.str) _ (aE h1 _) h1 aA (by rw [Tr.cnt,List.length_map]; exact Nat.le_refl _) fun x hx=>?_
   obtain ⟨u,hu,rfl⟩:=List.mem_map.mp hx
   exact .inr ⟨by decide,u,rfl,ho.2.2.1 u hu⟩
  ·skip
   refine ixt (SqT.of hp) (v:=.str "place") rfl ?_
   nofun
   rw [if_neg (by decide)]
   refine ixt (SqT.of hp) (v:=.str "place") rfl ?_
   nofun
   rw [if_neg (by decide)]
   refine ixt (SqT.of hp) (v:=.str "place") rfl ?_
   nofun
   rw [if_neg (by decide)]
   refine ⟨Nat.zero_le _,fun l1 h1=>?_⟩
   have S1:=aE h1 (.lst [])
   have hp:=S1 _ _ hp
   have e1:upd H l1 (.lst []) l1=some (.lst []):=aA
   generalize upd H l1 (.lst [])=H1 at *
   nofun
   refine ixt (SqT.of hp) (v:=.str "place") rfl ?_
   nofun
   rw [if_neg (by decide)]
   refine ixt (SqT.of hp) (v:=.str "place") rfl ?_
   nofun
   rw [if_neg (by decide)]
   exact q l1 [] _ S1 h1 e1 (Nat.zero_le _) fun x hx=>absurd hx List.not_mem_nil
 | weight n =>
  rw [Tr.At] at hA
  rw [Tr.okl] at ho
  obtain ⟨p,rfl,hp⟩:=hA
  nofun
  rcases hw with rfl | rfl | rfl
  ·skip
   refine ixt (SqT.of hp) (v:=.str "weight") rfl ?_
   nofun
   rw [if_neg (by decide)]
   refine ixt (SqT.of hp) (v:=.str "weight") rfl ?_
   nofun
   rw [if_neg (by decide)]
   refine ixt (SqT.of hp) (v:=.str "weight") rfl ?_
   nofun
   rw [if_neg (by decide)]
   refine ⟨Nat.zero_le _,fun l1 h1=>?_⟩
   have S1:=aE h1 (.lst [])
   have hp:=S1 _ _ hp
   have e1:upd H l1 (.lst []) l1=some (.lst []):=aA
   generalize upd H l1 (.lst [])=H1 at *
   nofun
   refine ixt (SqT.of hp) (v:=.str "weight") rfl ?_
   nofun
   rw [if_neg (by decide)]
   refine ixt (SqT.of hp) (v:=.str "weight") rfl ?_
   nofun
   rw [if_neg (by decide)]
   exact q l1 [] _ S1 h1 e1 (Nat.zero_le _) fun x hx=>absurd hx List.not_mem_nil
  ·skip
   refine ixt (SqT.of hp) (v:=.str "weight") rfl ?_
   nofun
   rw [if_neg (by decide)]
   refine ixt (SqT.of hp) (v:=.str "weight") rfl ?_
   nofun
   rw [if_neg (by decide)]
   refine ixt (SqT.of hp) (v:=.str "weight") rfl ?_
   nofun
   rw [if_neg (by decide)]
   refine ⟨Nat.zero_le _,fun l1 h1=>?_⟩
   have S1:=aE h1 (.lst [])
   have hp:=S1 _ _ hp
   have e1:upd H l1 (.lst []) l1=some (.lst []):=aA
   generalize upd H l1 (.lst [])=H1 at *
   nofun
   refine ixt (SqT.of hp) (v:=.str "weight") rfl ?_
   nofun
   rw [if_neg (by decide)]
   refine ixt (SqT.of hp) (v:=.str "weight") rfl ?_
   nofun
   rw [if_neg (by decide)]
   exact q l1 [] _ S1 h1 e1 (Nat.zero_le _) fun x hx=>absurd hx List.not_mem_nil
  ·skip
   refine ixt (SqT.of hp) (v:=.str "weight") rfl ?_
   nofun
   refine ixt (SqT.of hp) (v:=.int n) rfl ?_
   refine ⟨sz8 (by decide),fun l1 h1=>?_⟩
   refine q l1 [.int n] _ (aE h1 _) h1 aA (by rw [Tr.cnt]; exact Nat.le_refl _) fun x hx=>?_
   rw [List.mem_singleton.mp hx]
   exact .inl ⟨rfl,n,rfl,ho.1,ho.2⟩
 | not t =>
  rw [Tr.At] at hA
  rw [Tr.okl] at ho
  obtain ⟨p,y,rfl,hp,hy⟩:=hA
  nofun
  have nT:("not":Str)≠wd:=by rcases hw with rfl | rfl | rfl <;> decide
  refine ixt (SqT.of hp) (v:=.str "not") rfl ?_
  nofun
  rw [if_neg nT]
  refine ixt (SqT.of hp) (v:=.str "not") rfl ?_
  nofun
  rw [if_neg nT]
  refine ixt (SqT.of hp) (v:=.str "not") rfl ?_
  nofun
  rw [Tr.dp] at hd0
  rw [Tr.cnt] at hc q
  refine ixt (SqT.of hp) (v:=y) rfl ?_
  nofun
  exact ⟨y,t,wd,by omega,rfl,hy,ho,hc,hw,q⟩
 | both ts =>
  rw [Tr.At] at hA
  rw [Tr.okl] at ho
  obtain ⟨p,l0,xs,rfl,hp,hl,hs⟩:=hA
  nofun
  have nT:("both":Str)≠wd:=by rcases hw with rfl | rfl | rfl <;> decide
  refine ixt (SqT.of hp) (v:=.str "both") rfl ?_
  nofun
  rw [if_neg nT]
  refine ixt (SqT.of hp) (v:=.str "both") rfl ?_
  nofun
  rw [if_neg nT]
  refine ixt (SqT.of hp) (v:=.str "both") rfl ?_
  nofun
  rw [if_neg (by decide)]
  refine ⟨Nat.zero_le _,fun l1 h1=>?_⟩
  have S1:=aE h1 (.lst [])
  have hp:=S1 _ _ hp
  have e1:upd H l1 (.lst []) l1=some (.lst []):=aA
  generalize upd H l1 (.lst [])=H1 at *
  nofun
  refine ixt (SqT.of hp) (v:=.str "both") rfl ?_
  nofun
  rw [Tr.dp] at hd0
  rw [Tr.cnt] at hc q
  have hA:=trs_at.mp hs
  refine ixt (SqT.of hp) (v:=.ref l0) rfl ?_
  nofun
  have hl1:=S1 _ _ hl
  refine ⟨⟨xs,SqT.of hl1⟩,?_⟩
  refine ForT.by (xs:=xs) (fun i σ H'=>(∃ pf acc pv,σ=[some (.ref p),some (.str wd),some (.ref pf),pv]/\H' pf=some (.lst acc)/\H pf=none/\acc.length<=((ts.toL.take i).map Tr.cnt).sum/\∀ x∈acc,gdV wd x)/\Same H H') ⟨⟨l1,[],_,rfl,e1,h1,Nat.zero_le _,fun x hx=>absurd hx List.not_mem_nil⟩,S1⟩ (fun i σ H' _ h=>SqT.of (h.2 _ _ hl)) ?_ ?_
  ·rintro i y σ H' hy ⟨⟨pf,acc,pv,rfl,ef,hf,la,ga⟩,S2⟩
   obtain ⟨t,e,ht⟩:=hA.get hy
   have mt:=List.mem_of_getElem? e
   have dt:=jG mt
   have ct:=AK6 mt
   have stk:=nA e
   have sle:=eQ ts.toL (i+1)
   rw [<- fX] at sle
   nofun
   refine ⟨y,t,wd,by omega,rfl,ht.same S2,trs_okl.mp ho t mt,by omega,hw,fun l3 zs H3 S3 f3 e3 n3 g3=>?_⟩
   refine ⟨pf,l3,_,_,rfl,rfl,S3 _ _ ef,e3,sz8 (by omega),fun p4 h4=>?_⟩
   have S4:=aE h4 (.lst (acc++zs))
   have SS:=S2.trans (S3.trans S4)
   nofun
   have gz:∀ x∈acc++zs,gdV wd x:=fun x hx=>by
    rcases List.mem_append.mp hx with hx | hx
    ·exact ga x hx
    ·exact g3 x hx
   have lz:(acc++zs).length<=((ts.toL.take (i+1)).map Tr.cnt).sum:=by rw [List.length_append]; omega
   first | exact ⟨⟨acc++zs,aA,(S2.trans S3).free h4,lz,gz⟩,SS⟩ | exact ⟨⟨p4,acc++zs,_,rfl,aA,(S2.trans S3).free h4,lz,gz⟩,SS⟩
  ·rintro σ H' ⟨⟨pf,acc,pv,rfl,ef,hf,la,ga⟩,S2⟩
   nofun
   rw [<- hA.len,List.take_length,<- fX] at la
   exact q pf acc _ S2 hf ef la ga
 | either ts =>
  rw [Tr.At] at hA
  rw [Tr.okl] at ho
  obtain ⟨p,l0,xs,rfl,hp,hl,hs⟩:=hA
  nofun
  have nT:("either":Str)≠wd:=by rcases hw with rfl | rfl | rfl <;> decide
  refine ixt (SqT.of hp) (v:=.str "either") rfl ?_
  nofun
  rw [if_neg nT]
  refine ixt (SqT.of hp) (v:=.str "either") rfl ?_
  nofun
  rw [if_neg nT]
  refine ixt (SqT.of hp) (v:=.str "either") rfl ?_
  nofun
  rw [if_neg (by decide)]
  refine ⟨Nat.zero_le _,fun l1 h1=>?_⟩
  have S1:=aE h1 (.lst [])
  have hp:=S1 _ _ hp
  have e1:upd H l1 (.lst []) l1=some (.lst []):=aA
  generalize upd H l1 (.lst [])=H1 at *
  nofun
  refine ixt (SqT.of hp) (v:=.str "either") rfl ?_
  nofun
  rw [if_neg (by decide)]
  refine ixt (SqT.of hp) (v:=.str "either") rfl ?_
  nofun
  rw [Tr.dp] at hd0
  rw [Tr.cnt] at hc q
  have hA:=trs_at.mp hs
  refine ixt (SqT.of hp) (v:=.ref l0) rfl ?_
  nofun
  have hl1:=S1 _ _ hl
  refine ⟨⟨xs,SqT.of hl1⟩,?_⟩
  refine ForT.by (xs:=xs) (fun i σ H'=>(∃ pf acc pv,σ=[some (.ref p),some (.str wd),some (.ref pf),pv]/\H' pf=some (.lst acc)/\H pf=none/\acc.length<=((ts.toL.take i).map Tr.cnt).sum/\∀ x∈acc,gdV wd x)/\Same H H') ⟨⟨l1,[],_,rfl,e1,h1,Nat.zero_le _,fun x hx=>absurd hx List.not_mem_nil⟩,S1⟩ (fun i σ H' _ h=>SqT.of (h.2 _ _ hl)) ?_ ?_
  ·rintro i y σ H' hy ⟨⟨pf,acc,pv,rfl,ef,hf,la,ga⟩,S2⟩
   obtain ⟨t,e,ht⟩:=hA.get hy
   have mt:=List.mem_of_getElem? e
   have dt:=jG mt
   have ct:=AK6 mt
   have stk:=nA e
   have sle:=eQ ts.toL (i+1)
   rw [<- fX] at sle
   nofun
   refine ⟨y,t,wd,by omega,rfl,ht.same S2,trs_okl.mp ho t mt,by omega,hw,fun l3 zs H3 S3 f3 e3 n3 g3=>?_⟩
   refine ⟨pf,l3,_,_,rfl,rfl,S3 _ _ ef,e3,sz8 (by omega),fun p4 h4=>?_⟩
   have S4:=aE h4 (.lst (acc++zs))
   have SS:=S2.trans (S3.trans S4)
   nofun
   have gz:∀ x∈acc++zs,gdV wd x:=fun x hx=>by
    rcases List.mem_append.mp hx with hx | hx
    ·exact ga x hx
    ·exact g3 x hx
   have lz:(acc++zs).length<=((ts.toL.take (i+1)).map Tr.cnt).sum:=by rw [List.length_append]; omega
   first | exact ⟨⟨acc++zs,aA,(S2.trans S3).free h4,lz,gz⟩,SS⟩ | exact ⟨⟨p4,acc++zs,_,rfl,aA,(S2.trans S3).free h4,lz,gz⟩,SS⟩
  ·rintro σ H' ⟨⟨pf,acc,pv,rfl,ef,hf,la,ga⟩,S2⟩
   nofun
   rw [<- hA.len,List.take_length,<- fX] at la
   exact q pf acc _ S2 hf ef la ga
theorem BA3 (B:Bt K mg a)(F:Fun K "mark" "mark" sS f fd):FnOk P w K mg base CX0 1 f fd ["marks","things"] (tZ K a):=by
 refine F.ok sc_mark (by walk_at "ln") fun cdv A outer s H vs Q E hr h=>?_
 obtain ⟨d,l,kvs,xs,rfl,hd,hl,lz,q⟩:=h
 refine ⟨_,(aR (aF (bD (eM PassesOwn.never rfl (cL (pv 1)) (bC (i:=2) sc_mark.nd rfl (Or.inl rfl)) (aR (aF (bD (uV nK (uU (pv 0) (pv 2) zE))))))))),?_⟩
 nofun
 refine ⟨⟨_,SqL.of hl⟩,?_⟩
 refine ForL.by (xs:=xs.map kV) (fun i σ H1=>(∃ v,σ=[some (.ref d),some (.ref l),v])/\∃ kvs1,But d H H1/\H1 d=some (.dK kvs1)/\Grow kvs kvs1 (xs.take i)) ⟨⟨_,rfl⟩,kvs,But.refl _ _,hd,Grow.refl _⟩ (fun i σ H1 _ h=>?_) ?_ ?_
 ·obtain ⟨_,kvs1,B1,_,_⟩:=h
  exact SqL.of (B1 _ _ (BC0 hl hd (by intro z; cases z)) hl)
 ·rintro i y σ H1 hy ⟨⟨v,rfl⟩,kvs1,B1,h1,G1⟩
  rw [List.getElem?_map] at hy
  obtain ⟨k,hk,rfl⟩:=Option.map_eq_some_iff.mp hy
  nofun
  have lg:=G1.len
  have lt:(xs.take i).length<=xs.length:=by rw [List.length_take]; omega
  have ek:xs.take (i+1)=xs.take i++[k]:=by rw [List.take_succ,hk]; rfl
  refine BN7 h1 (by omega) ?_
  have new:But d H (upd H1 d (.dK (qG kvs1 k (.bl true))))/\upd H1 d (.dK (qG kvs1 k (.bl true))) d=some (.dK (qG kvs1 k (.bl true)))/\Grow kvs (qG kvs1 k (.bl true)) (xs.take (i+1)):=⟨B1.trans (But.upd _),aA,by rw [ek]; exact G1.trans (Grow.put _ _ _)⟩
  first | exact ⟨⟨_,rfl⟩,_,new⟩ | exact ⟨new.1,_,new.2⟩
 ·rintro σ H1 ⟨⟨v,rfl⟩,kvs1,B1,h1,G1⟩
  rw [List.length_map,List.take_length] at G1
  first | exact q kvs1 H1 B1 h1 G1 | (nofun; exact q kvs1 H1 B1 h1 G1)
theorem qW (B:Bt K mg a)(F:Fun K "counted_name" "counted_name" dN f fd):FnOk P w K mg base CX0 1 f fd ["number"] (jJ K a):=by
 refine F.ok sc_counted_name (by walk_at "ln") fun cdv A outer s H vs Q E hr h=>?_
 obtain ⟨n,rfl,hn,q⟩:=h
 refine ⟨_,(aR (aD (aX (i:=1) sc_counted_name.nd rfl (Or.inl rfl) (aS (bG yP (dU (v:=.str "abcdefghijklmnopqrstuvwxyz") rfl B.LETTERS ⟨_,rfl⟩) (bJ iX (pv 0) (aT dX rfl B.len PySem.boot_len (aH (aK (dU (v:=.str "abcdefghijklmnopqrstuvwxyz") rfl B.LETTERS ⟨_,rfl⟩) aC)))) (fun _ _=>rfl))) (by kernel_rfl)) (aD (bD (yM PassesOwn.never (aW AM5 (pv 0) (aT dX rfl B.len PySem.boot_len (aH (aK (dU (v:=.str "abcdefghijklmnopqrstuvwxyz") rfl B.LETTERS ⟨_,rfl⟩) aC))) (aY _)) (aR (aD (aX (i:=0) sc_counted_name.nd rfl (Or.inl rfl) (aS (bJ iO (pv 0) (aT dX rfl B.len PySem.boot_len (aH (aK (dU (v:=.str "abcdefghijklmnopqrstuvwxyz") rfl B.LETTERS ⟨_,rfl⟩) aC))))) (by kernel_rfl)) (aF (aX (i:=1) sc_counted_name.nd rfl (Or.inl rfl) (aS (bJ nL (bG yP (dU (v:=.str "abcdefghijklmnopqrstuvwxyz") rfl B.LETTERS ⟨_,rfl⟩) (bJ iX (pv 0) (aT dX rfl B.len PySem.boot_len (aH (aK (dU (v:=.str "abcdefghijklmnopqrstuvwxyz") rfl B.LETTERS ⟨_,rfl⟩) aC)))) (fun _ _=>rfl)) (pv 1))) (by kernel_rfl))))))) (aF (aV (aS (pv 1))))))),?_⟩
 have LL:(("abcdefghijklmnopqrstuvwxyz":Str).length:Int)=26:=by decide +kernel
 have LZ:("abcdefghijklmnopqrstuvwxyz":Str).length<=sizeLine:=by decide +kernel
 nofun
 refine ⟨LZ,by rw [LL]; decide,?_⟩
 rw [LL,show (n:Int) % 26=((n % 26:Nat):Int) by omega]
 refine ixs LZ (AT6 (by omega)) ?_
 refine ⟨fun m σ H1=>H1=H/\((m=0/\∃ k:Nat,k < 26/\σ=[some (.int k),some (.str (cn n))])\/(m=1/\26<=n/\σ=[some (.int n),some (.str (BF9 (n % 26)))])),?_,?_⟩
 ·by_cases h:n < 26
  ·exact ⟨0,rfl,.inl ⟨rfl,n,h,by rw [cn,if_pos h,Nat.mod_eq_of_lt h]; rfl⟩⟩
  ·exact ⟨1,rfl,.inr ⟨rfl,by omega,rfl⟩⟩
 ·rintro m σ H1 ⟨rfl,⟨rfl,k,hk,rfl⟩ | ⟨rfl,h26,rfl⟩⟩
  ·nofun
   refine ⟨LZ,?_⟩
   rw [LL,if_neg (by omega)]
   first | exact q | (nofun; exact q)
  ·nofun
   refine ⟨LZ,?_⟩
   rw [LL,if_pos (by omega)]
   refine ⟨fun σ' H'=>H'=H1/\∃ k:Nat,k < 26/\σ'=[some (.int k),some (.str (cn n))],fun σ' H' h=>⟨0,by decide,h.1,.inl ⟨rfl,h.2⟩⟩,?_⟩
   nofun
   refine ⟨LZ,⟨by decide,by decide⟩,LZ,by decide,?_⟩
   rw [show (n:Int) / 26 % 26=((n / 26:Nat):Int) by omega]
   refine ixs LZ (AT6 (by omega)) ?_
   have ec:(⟨#[97+n / 26]⟩:Str)++BF9 (n % 26)=cn n:=by rw [cn,if_neg (by omega)]; rfl
   exact ⟨_,rfl,(by show 1+1<=sizeLine; decide),rfl,n / 26,by omega,by omega,ec⟩
theorem rV (B:Bt K mg a)(fZ:CalX P w K mg base "counted_name" ["number"] 1 (jJ K a))(F:Fun K "unused_name" "unused_name" eB f fd):FnOk P w K mg base CX0 2 f fd ["taken"] (kS K a):=by
 refine F.ok sc_unused_name (by walk_at "ln") fun cdv A outer s H vs Q E hr h=>?_
 obtain ⟨d,kvs,rfl,hd,lz,q⟩:=h
 refine ⟨_,(aR (aD (aX (i:=1) sc_unused_name.nd rfl (Or.inl rfl) (aS aG) (by kernel_rfl)) (aD (bD (yM PassesOwn.never (aW BE9 (pc fZ hr rfl (aH (aK (pv 1) aC))) (pv 0) (by with_unfolding_all rfl)) (aR (aF (bD (BD2 (i:=1) sc_unused_name.nd rfl (Or.inl rfl) aG AU7)))))) (aF (aV (aS (pc fZ hr rfl (aH (aK (pv 1) aC))))))))),?_⟩
 nofun
 refine ⟨fun m σ H1=>H1=H/\∃ n:Nat,m=151 - n/\n<=kvs.length/\(∀ j < n,Sum.inr (cn j)∈cY kvs)/\σ=[some (.ref d),some (.int n)],⟨_,rfl,0,rfl,Nat.zero_le _,(fun j h=>absurd h (Nat.not_lt_zero _)),rfl⟩,?_⟩
 rintro m σ H1 ⟨rfl,n,rfl,hn,hk,rfl⟩
 nofun
 refine ⟨n,rfl,by omega,?_⟩
 refine BP0 hd ?_
 by_cases c:Sum.inr (cn n)∈cY kvs
 ·rw [(vP _ _).mpr c]
  nofun
  have k2:∀ j < n+1,Sum.inr (cn j)∈cY kvs:=fun j h=>by
   rcases Nat.lt_or_eq_of_le (Nat.le_of_lt_succ h) with h | h
   ·exact hk j h
   ·rw [h]; exact c
  have n2:=BG1 (by omega) k2
  refine ⟨fun σ' H'=>H'=H1/\σ'=[some (.ref d),some (.int ((n+1:Nat):Int))],fun σ' H' h=>⟨151 - (n+1),by omega,h.1,n+1,rfl,n2,k2,h.2⟩,?_⟩
  first | exact ⟨rfl,rfl⟩ | trivial | exact rfl
 ·rw [Bool.eq_false_iff.mpr fun z=>c ((vP _ _).mp z)]
  nofun
  exact ⟨n,rfl,by omega,q _ (AZ9 n (by omega)) c⟩
theorem kJ (B:Bt K mg a)(F:Fun K "bits_from_weights" "bits_from_weights" bS f fd):FnOk P w K mg base CX0 1 f fd ["falling"] (gG K a):=by
 refine F.ok sc_bits_from_weights (by walk_at "ln") fun cdv A outer s H vs Q E hr h=>?_
 obtain ⟨l,ws,rfl,hl,nd,lz,q⟩:=h
 refine ⟨_,(aR (aD (aX (i:=1) sc_bits_from_weights.nd rfl (Or.inl rfl) (aS tO) (by kernel_rfl)) (aD (aX (i:=2) sc_bits_from_weights.nd rfl (Or.inl rfl) (aS aG) (by kernel_rfl)) (aD (bD (eM PassesOwn.never rfl (cL (pv 0)) (bC (i:=3) sc_bits_from_weights.nd rfl (Or.inl rfl)) (aR (aD (aX (i:=2) sc_bits_from_weights.nd rfl (Or.inl rfl) (aS (bJ iI (bJ pT (pv 2) aG) aG)) (by kernel_rfl)) (aF (bD (uV (pv 2) (uU (pv 1) (pv 3) zE)))))))) (aF (aV (aS (pv 1)))))))),?_⟩
 nofun
 intro d hd
 have S1:=aE hd (.dK [])
 refine ⟨⟨_,SqL.of (S1 _ _ hl)⟩,?_⟩
 refine ForL.by (xs:=ws.map V.int) (fun i σ H1=>(∃ v,σ=[some (.ref l),some (.ref d),some (.int ((2 ^ i - 1:Nat):Int)),v])/\Same H H1/\H1 d=some (.dK (fwK (ws.take i)))) ⟨⟨_,rfl⟩,S1,aA⟩ (fun i σ H1 _ h=>SqL.of (h.2.1 _ _ hl)) ?_ ?_
 ·rintro i y σ H1 hy ⟨⟨v,rfl⟩,S2,h1⟩
  rw [List.getElem?_map] at hy
  obtain ⟨n,hn,rfl⟩:=Option.map_eq_some_iff.mp hy
  have lt:=(List.getElem?_eq_some_iff.mp hn).1
  nofun
  refine ⟨.inr ⟨by decide,by decide⟩,?_⟩
  have p2:1<=2 ^ i:=Nat.one_le_pow _ _ (by decide)
  have e2:((2 ^ i - 1:Nat):Int) * 2+1=((2 ^ (i+1) - 1:Nat):Int):=by rw [Nat.pow_succ]; omega
  have nn:n ∉ ws.take i:=fun z=>by
   obtain ⟨j,hj⟩:=List.getElem?_of_mem z
   rw [List.getElem?_take] at hj
   split at hj
   ·rename_i lj
    have:=(List.getElem?_inj (i:=j) (j:=i) (by omega) nd).mp (hj.trans hn.symm)
    omega
   ·cases hj
  have len_:(ws.take i).length=i:=by rw [List.length_take]; omega
  have ef:qG (fwK (ws.take i)) (Sum.inl n) (.int ((2 ^ (i+1) - 1:Nat):Int))=fwK (ws.take (i+1)):=by
   rw [AO6 _ (show uQ (fwK (ws.take i)) (Sum.inl n)=none from AJ2 _ 0 n nn),List.take_succ,hn]
   show _=fwK (ws.take i++[n])
   rw [AQ5,len_]
  rw [e2]
  refine BN7 (k:=Sum.inl n) h1 (by rw [BF7,len_]; omega) ?_
  rw [ef]
  have new:Same H (upd H1 d (.dK (fwK (ws.take (i+1)))))/\upd H1 d (.dK (fwK (ws.take (i+1)))) d=some (.dK (fwK (ws.take (i+1)))):=⟨iA S2 hd (But.upd _),aA⟩
  first | exact ⟨⟨_,rfl⟩,new⟩ | exact ⟨rfl,new⟩ | exact new
 ·rintro σ H1 ⟨⟨v,rfl⟩,S2,h1⟩
  rw [List.length_map,List.take_length] at h1
  nofun
  exact q d H1 S2 h1
theorem oF {d n:Nat}(hn:1<=n)(B:Bt K mg a)(F:Fun K "note_turns" "Any.note_turns" cR f fd):FnOk P w K mg base CX0 (n+1) f fd ["self","kinds","places","weights"] (oA K a (d+1)):=by
 refine F.ok nV (by walk_at "ln") fun cdv A outer s H vs Q E hr h=>?_
 obtain ⟨v,t,H0,kd,pd,wd,ks,ps,ws,rfl,ht,hd,ho,hf,S,T,l1,l2,l3,q⟩:=h
 refine ⟨_,(aR (aF (bD AU3))),?_⟩
 cases t with
 | kind us=>cases ht
 | place us=>cases ht
 | weight n=>cases ht
 | not t=>cases ht
 | both ts=>cases ht
 | either ts=>cases ht
 | any =>
 rw [Tr.Fit] at hf
 nofun
 exact q ks ps ws _ But3.refl T (Grow.refl _) (Grow.refl _) (Grow.refl _)
theorem nB {d n:Nat}(hn:1<=n)(B:Bt K mg a)(nH:CalX P w K mg base "mark" ["marks","things"] 1 (tZ K a))(F:Fun K "note_turns" "Kind.note_turns" cH f fd):FnOk P w K mg base CX0 (n+1) f fd ["self","kinds","places","weights"] (mU K a (d+1)):=by
 refine F.ok mN (by walk_at "ln") fun cdv A outer s H vs Q E hr h=>?_
 obtain ⟨v,t,H0,kd,pd,wd,ks,ps,ws,rfl,ht,hd,ho,hf,S,T,l1,l2,l3,q⟩:=h
 refine ⟨_,(aR (aF (bD (cE (pc nH hr rfl (aH (aK (pv 1) (aK (eK (pv 0) rfl) aC))) (hk:=by omega)))))),?_⟩
 cases t with
 | any=>cases ht
 | place us=>cases ht
 | weight n=>cases ht
 | not t=>cases ht
 | both ts=>cases ht
 | either ts=>cases ht
 | kind us =>
 rw [Tr.Fit] at hf
 obtain ⟨p,dx,ln,rfl,h1,h2,_⟩:=hf
 rw [Tr.cnt] at l1 l2 l3
 nofun
 refine ⟨_,_,_,S _ _ h1,B.ck_Kind.cl,B.na_Kind_names,.ref ln,rfl,?_⟩
 have eu:us.map V.str=(us.map (Sum.inr:Str->Key)).map kV:=by rw [List.map_map]; rfl
 refine ⟨kd,ln,_,us.map Sum.inr,rfl,T.hx,by rw [<- eu]; exact S _ _ h2,by rw [List.length_map]; omega,fun kvs' H' B1 e1 G1=>?_⟩
 nofun
 refine q kvs' ps ws _ (fun b o b1 b2 b3 e=>B1 b o b1 e) ?_ ?_ ?_ ?_
 ·exact ⟨T.nx,T.ny,T.nz,e1,B1 _ _ T.xy.symm T.hy,B1 _ _ T.xz.symm T.hz,T.xy,T.xz,T.yz⟩
 ·rw [Tr.names]; exact G1
 ·rw [Tr.names]; exact Grow.refl _
 ·rw [Tr.wts]; exact Grow.refl _
theorem lO {d n:Nat}(hn:1<=n)(B:Bt K mg a)(nH:CalX P w K mg base "mark" ["marks","things"] 1 (tZ K a))(F:Fun K "note_turns" "Place.note_turns" bZ f fd):FnOk P w K mg base CX0 (n+1) f fd ["self","kinds","places","weights"] (lJ K a (d+1)):=by
 refine F.ok lF (by walk_at "ln") fun cdv A outer s H vs Q E hr h=>?_
 obtain ⟨v,t,H0,kd,pd,wd,ks,ps,ws,rfl,ht,hd,ho,hf,S,T,l1,l2,l3,q⟩:=h
 refine ⟨_,(aR (aF (bD (cE (pc nH hr rfl (aH (aK (pv 2) (aK (eK (pv 0) rfl) aC))) (hk:=by omega)))))),?_⟩
 cases t with
 | any=>cases ht
 | kind us=>cases ht
 | weight n=>cases ht
 | not t=>cases ht
 | both ts=>cases ht
 | either ts=>cases ht
 | place us =>
 rw [Tr.Fit] at hf
 obtain ⟨p,dx,ln,rfl,h1,h2,_⟩:=hf
 rw [Tr.cnt] at l1 l2 l3
 nofun
 refine ⟨_,_,_,S _ _ h1,B.ck_Place.cl,B.na_Place_names,.ref ln,rfl,?_⟩
 have eu:us.map V.str=(us.map (Sum.inr:Str->Key)).map kV:=by rw [List.map_map]; rfl
 refine ⟨pd,ln,_,us.map Sum.inr,rfl,T.hy,by rw [<- eu]; exact S _ _ h2,by rw [List.length_map]; omega,fun kvs' H' B1 e1 G1=>?_⟩
 nofun
 refine q ks kvs' ws _ (fun b o b1 b2 b3 e=>B1 b o b2 e) ?_ ?_ ?_ ?_
 ·exact ⟨T.nx,T.ny,T.nz,B1 _ _ T.xy T.hx,e1,B1 _ _ T.yz.symm T.hz,T.xy,T.xz,T.yz⟩
 ·rw [Tr.names]; exact Grow.refl _
 ·rw [Tr.names]; exact G1
 ·rw [Tr.wts]; exact Grow.refl _
theorem lP {d n:Nat}(hn:1<=n)(B:Bt K mg a)(nH:CalX P w K mg base "mark" ["marks","things"] 1 (tZ K a))(F:Fun K "note_turns" "Least.note_turns" cA f fd):FnOk P w K mg base CX0 (n+1) f fd ["self","kinds","places","weights"] (lK K a (d+1)):=by
 refine F.ok lG (by walk_at "ln") fun cdv A outer s H vs Q E hr h=>?_
 obtain ⟨v,t,H0,kd,pd,wd,ks,ps,ws,rfl,ht,hd,ho,hf,S,T,l1,l2,l3,q⟩:=h
 refine ⟨_,(aR (aF (bD (cE (pc nH hr rfl (aH (aK (pv 3) (aK (fI (aH (aK (eK (pv 0) rfl) aC))) aC))) (hk:=by omega)))))),?_⟩
 cases t with
 | any=>cases ht
 | kind us=>cases ht
 | place us=>cases ht
 | not t=>cases ht
 | both ts=>cases ht
 | either ts=>cases ht
 | weight n =>
 rw [Tr.Fit] at hf
 obtain ⟨p,dx,rfl,h1⟩:=hf
 rw [Tr.cnt] at l1 l2 l3
 nofun
 refine ⟨_,_,_,S _ _ h1,B.ck_Least.cl,B.na_Least_weight,.int n,rfl,?_⟩
 nofun
 refine ⟨sz8 (by decide),fun l2' hl=>?_⟩
 have S1:=aE hl (.lst [.int n])
 refine ⟨wd,l2',_,[Sum.inl n],rfl,S1 _ _ T.hz,aA,by rw [List.length_singleton]; omega,fun kvs' H' B1 e1 G1=>?_⟩
 nofun
 refine q ks ps kvs' _ (fun b o b1 b2 b3 e=>B1 b o b3 (S1 _ _ e)) ?_ (Grow.refl _) (Grow.refl _) ?_
 ·exact ⟨T.nx,T.ny,T.nz,B1 _ _ T.xz (S1 _ _ T.hx),B1 _ _ T.yz (S1 _ _ T.hy),e1,T.xy,T.xz,T.yz⟩
 ·rw [Tr.wts]; exact G1
theorem oG {d n:Nat}(hn:1<=n)(B:Bt K mg a)(cF:∀ C sp,dM K a d C sp->CalM P w K mg base C "note_turns" ["self","kinds","places","weights"] n sp)(F:Fun K "note_turns" "Not.note_turns" cU f fd):FnOk P w K mg base CX0 (n+1) f fd ["self","kinds","places","weights"] (oB K a (d+1)):=by
 refine F.ok nY (by walk_at "ln") fun cdv A outer s H vs Q E hr h=>?_
 obtain ⟨v,t,H0,kd,pd,wd,ks,ps,ws,rfl,ht,hd,ho,hf,S,T,l1,l2,l3,q⟩:=h
 refine ⟨_,(aR (aF (bD (cE (fD (eK (pv 0) rfl) cF cW (hr.mono (by omega)) (aH (aK (pv 1) (aK (pv 2) (aK (pv 3) aC)))) (hst:=aJ _ _ _ rfl) (hpl:=aL rfl)))))),?_⟩
 cases t with
 | any=>cases ht
 | kind us=>cases ht
 | place us=>cases ht
 | weight n=>cases ht
 | both ts=>cases ht
 | either ts=>cases ht
 | not t =>
 rw [Tr.Fit] at hf
 obtain ⟨p,dx,y,rfl,h1,h2⟩:=hf
 rw [Tr.dp] at hd
 rw [Tr.ok] at ho
 rw [Tr.cnt] at l1 l2 l3
 simp only [Tr.names,Tr.wts] at q
 obtain ⟨p2,_,_,rfl,_⟩:=id h2.ins
 nofun
 refine ⟨_,_,_,S _ _ h1,B.ck_Not.cl,B.na_Not_fit,.ref p2,rfl,?_⟩
 nofun
 refine AR0 (K:=K) h2 (by omega) ho S T l1 l2 l3 fun ks' ps' ws' H' b T' g1 g2 g3=>?_
 nofun
 exact q ks' ps' ws' H' b T' g1 g2 g3
theorem fF {α β:Type}(f:α->List β){L:List α}{i:Nat}{t:α}(h:L[i]?=some t):((L.take (i+1)).map f).flatten=((L.take i).map f).flatten++f t:=by
 rw [List.take_succ,h,List.map_append,List.flatten_append]
 simp
theorem fY {L:List Tr}{i:Nat}{β:Type}(f:Tr->List β)(hf:∀ t,(f t).length<=t.cnt):((L.take i).map f).flatten.length<=((L.take i).map Tr.cnt).sum:=by
 generalize L.take i=M
 induction M with
 | nil=>exact Nat.le_refl _
 | cons t M ih =>
  rw [List.map_cons,List.flatten_cons,List.length_append,List.map_cons,List.sum_cons]
  exact Nat.add_le_add (hf t) ih
theorem nC {d n:Nat}(hn:1<=n)(B:Bt K mg a)(cF:∀ C sp,dM K a d C sp->CalM P w K mg base C "note_turns" ["self","kinds","places","weights"] n sp)(F:Fun K "note_turns" "Both.note_turns" cJ f fd):FnOk P w K mg base CX0 (n+1) f fd ["self","kinds","places","weights"] (mW K a (d+1)):=by
 refine F.ok sc_Both_note_turns (by walk_at "ln") fun cdv A outer s H vs Q E hr h=>?_
 obtain ⟨v,t,H0,kd,pd,wd,ks,ps,ws,rfl,ht,hd,ho,hf,S,T,l1,l2,l3,q⟩:=h
 refine ⟨_,(aR (aF (bD (eM PassesOwn.never rfl (cL (eK (pv 0) rfl)) (bC (i:=4) sc_Both_note_turns.nd rfl (Or.inl rfl)) (aR (aF (bD (cE (fD (pv 4) cF cW (hr.mono (by omega)) (aH (aK (pv 1) (aK (pv 2) (aK (pv 3) aC)))) (hst:=aJ _ _ _ rfl) (hpl:=aL rfl)))))))))),?_⟩
 cases t with
 | any=>cases ht
 | kind us=>cases ht
 | place us=>cases ht
 | weight n=>cases ht
 | not t=>cases ht
 | either ts=>cases ht
 | both ts =>
 rw [Tr.Fit] at hf
 obtain ⟨p,dx,ln,xs,rfl,h1,h2,_,h3⟩:=hf
 rw [Tr.dp] at hd
 rw [Tr.ok] at ho
 rw [Tr.cnt,fX] at l1 l2 l3
 simp only [Tr.names,Tr.wts,qI,qJ] at q
 obtain ⟨m2,m6,ho⟩:=ho
 have hA:=trs_fit.mp h3
 have ln6:=hA.len
 nofun
 refine ⟨_,_,_,S _ _ h1,B.ck_Both.cl,B.na_Both_fits,.ref ln,rfl,?_⟩
 nofun
 refine ⟨⟨xs,SqL.of (S _ _ h2)⟩,?_⟩
 refine ForL.by (xs:=xs) (fun i σ H1=>(∃ v,σ=[some (.ref p),some (.ref kd),some (.ref pd),some (.ref wd),v])/\∃ ks1 ps1 ws1,But3 kd pd wd H H1/\Three H0 H1 kd pd wd ks1 ps1 ws1/\Grow ks ks1 (((ts.toL.take i).map (Tr.names true)).flatten.map Sum.inr)/\Grow ps ps1 (((ts.toL.take i).map (Tr.names false)).flatten.map Sum.inr)/\Grow ws ws1 (((ts.toL.take i).map Tr.wts).flatten.map Sum.inl)) ⟨⟨_,rfl⟩,ks,ps,ws,But3.refl,T,Grow.refl _,Grow.refl _,Grow.refl _⟩ (fun i σ H1 _ h=>?_) ?_ ?_
 ·obtain ⟨_,ks1,ps1,ws1,b,T1,_⟩:=h
  exact SqL.of (hG S T.nx T.ny T.nz b _ _ h2)
 ·rintro i y σ H1 hy ⟨⟨v,rfl⟩,ks1,ps1,ws1,b1,T1,g1,g2,g3⟩
  obtain ⟨t,e,ht⟩:=hA.get hy
  have mt:=List.mem_of_getElem? e
  have dt:=jG mt
  have stk:=nA e
  have sle:=eQ ts.toL (i+1)
  have n1:=g1.len; have n2:=g2.len; have n3:=g3.len
  rw [List.length_map] at n1 n2 n3
  have f1:=fY (L:=ts.toL) (i:=i) (Tr.names true) (Tr.names_le true)
  have f2:=fY (L:=ts.toL) (i:=i) (Tr.names false) (Tr.names_le false)
  have f3:=fY (L:=ts.toL) (i:=i) Tr.wts Tr.wts_le
  obtain ⟨p2,_,_,rfl,_⟩:=id ht.ins
  nofun
  refine AR0 (K:=K) ht (by omega) (trs_ok.mp ho t mt) (hG S T.nx T.ny T.nz b1) T1 (by omega) (by omega) (by omega) fun ks' ps' ws' H' b T' g1' g2' g3'=>?_
  nofun
  have new:∃ ks1 ps1 ws1,But3 kd pd wd H H'/\Three H0 H' kd pd wd ks1 ps1 ws1/\Grow ks ks1 (((ts.toL.take (i+1)).map (Tr.names true)).flatten.map Sum.inr)/\Grow ps ps1 (((ts.toL.take (i+1)).map (Tr.names false)).flatten.map Sum.inr)/\Grow ws ws1 (((ts.toL.take (i+1)).map Tr.wts).flatten.map Sum.inl):=by
   refine ⟨ks',ps',ws',b1.trans b,T',?_,?_,?_⟩
   ·rw [fF _ e,List.map_append]; exact g1.trans g1'
   ·rw [fF _ e,List.map_append]; exact g2.trans g2'
   ·rw [fF _ e,List.map_append]; exact g3.trans g3'
  obtain ⟨k9,p9,w9,r1,r2,r3,r4,r5⟩:=new
  first | exact ⟨⟨_,rfl⟩,k9,p9,w9,r1,r2,r3,r4,r5⟩ | exact ⟨r1,k9,p9,w9,r2,r3,r4,r5⟩ | exact ⟨k9,p9,w9,r1,r2,r3,r4,r5⟩
 ·rintro σ H1 ⟨⟨v,rfl⟩,ks1,ps1,ws1,b1,T1,g1,g2,g3⟩
  rw [<- ln6,List.take_length] at g1 g2 g3
  first | exact q ks1 ps1 ws1 H1 b1 T1 g1 g2 g3 | (nofun; exact q ks1 ps1 ws1 H1 b1 T1 g1 g2 g3)
theorem kK {d n:Nat}(hn:1<=n)(B:Bt K mg a)(cF:∀ C sp,dM K a d C sp->CalM P w K mg base C "note_turns" ["self","kinds","places","weights"] n sp)(F:Fun K "note_turns" "Either.note_turns" bR f fd):FnOk P w K mg base CX0 (n+1) f fd ["self","kinds","places","weights"] (kI K a (d+1)):=by
 refine F.ok sc_Either_note_turns (by walk_at "ln") fun cdv A outer s H vs Q E hr h=>?_
 obtain ⟨v,t,H0,kd,pd,wd,ks,ps,ws,rfl,ht,hd,ho,hf,S,T,l1,l2,l3,q⟩:=h
 refine ⟨_,(aR (aF (bD (eM PassesOwn.never rfl (cL (eK (pv 0) rfl)) (bC (i:=4) sc_Either_note_turns.nd rfl (Or.inl rfl)) (aR (aF (bD (cE (fD (pv 4) cF cW (hr.mono (by omega)) (aH (aK (pv 1) (aK (pv 2) (aK (pv 3) aC)))) (hst:=aJ _ _ _ rfl) (hpl:=aL rfl)))))))))),?_⟩
 cases t with
 | any=>cases ht
 | kind us=>cases ht
 | place us=>cases ht
 | weight n=>cases ht
 | not t=>cases ht
 | both ts=>cases ht
 | either ts =>
 rw [Tr.Fit] at hf
 obtain ⟨p,dx,ln,xs,rfl,h1,h2,_,h3⟩:=hf
 rw [Tr.dp] at hd
 rw [Tr.ok] at ho
 rw [Tr.cnt,fX] at l1 l2 l3
 simp only [Tr.names,Tr.wts,qI,qJ] at q
 obtain ⟨m2,m6,ho⟩:=ho
 have hA:=trs_fit.mp h3
 have ln6:=hA.len
 nofun
 refine ⟨_,_,_,S _ _ h1,B.ck_Either.cl,B.na_Either_fits,.ref ln,rfl,?_⟩
 nofun
 refine ⟨⟨xs,SqL.of (S _ _ h2)⟩,?_⟩
 refine ForL.by (xs:=xs) (fun i σ H1=>(∃ v,σ=[some (.ref p),some (.ref kd),some (.ref pd),some (.ref wd),v])/\∃ ks1 ps1 ws1,But3 kd pd wd H H1/\Three H0 H1 kd pd wd ks1 ps1 ws1/\Grow ks ks1 (((ts.toL.take i).map (Tr.names true)).flatten.map Sum.inr)/\Grow ps ps1 (((ts.toL.take i).map (Tr.names false)).flatten.map Sum.inr)/\Grow ws ws1 (((ts.toL.take i).map Tr.wts).flatten.map Sum.inl)) ⟨⟨_,rfl⟩,ks,ps,ws,But3.refl,T,Grow.refl _,Grow.refl _,Grow.refl _⟩ (fun i σ H1 _ h=>?_) ?_ ?_
 ·obtain ⟨_,ks1,ps1,ws1,b,T1,_⟩:=h
  exact SqL.of (hG S T.nx T.ny T.nz b _ _ h2)
 ·rintro i y σ H1 hy ⟨⟨v,rfl⟩,ks1,ps1,ws1,b1,T1,g1,g2,g3⟩
  obtain ⟨t,e,ht⟩:=hA.get hy
  have mt:=List.mem_of_getElem? e
  have dt:=jG mt
  have stk:=nA e
  have sle:=eQ ts.toL (i+1)
  have n1:=g1.len; have n2:=g2.len; have n3:=g3.len
  rw [List.length_map] at n1 n2 n3
  have f1:=fY (L:=ts.toL) (i:=i) (Tr.names true) (Tr.names_le true)
  have f2:=fY (L:=ts.toL) (i:=i) (Tr.names false) (Tr.names_le false)
  have f3:=fY (L:=ts.toL) (i:=i) Tr.wts Tr.wts_le
  obtain ⟨p2,_,_,rfl,_⟩:=id ht.ins
  nofun
  refine AR0 (K:=K) ht (by omega) (trs_ok.mp ho t mt) (hG S T.nx T.ny T.nz b1) T1 (by omega) (by omega) (by omega) fun ks' ps' ws' H' b T' g1' g2' g3'=>?_
  nofun
  have new:∃ ks1 ps1 ws1,But3 kd pd wd H H'/\Three H0 H' kd pd wd ks1 ps1 ws1/\Grow ks ks1 (((ts.toL.take (i+1)).map (Tr.names true)).flatten.map Sum.inr)/\Grow ps ps1 (((ts.toL.take (i+1)).map (Tr.names false)).flatten.map Sum.inr)/\Grow ws ws1 (((ts.toL.take (i+1)).map Tr.wts).flatten.map Sum.inl):=by
   refine ⟨ks',ps',ws',b1.trans b,T',?_,?_,?_⟩
   ·rw [fF _ e,List.map_append]; exact g1.trans g1'
   ·rw [fF _ e,List.map_append]; exact g2.trans g2'
   ·rw [fF _ e,List.map_append]; exact g3.trans g3'
  obtain ⟨k9,p9,w9,r1,r2,r3,r4,r5⟩:=new
  first | exact ⟨⟨_,rfl⟩,k9,p9,w9,r1,r2,r3,r4,r5⟩ | exact ⟨r1,k9,p9,w9,r2,r3,r4,r5⟩ | exact ⟨k9,p9,w9,r1,r2,r3,r4,r5⟩
 ·rintro σ H1 ⟨⟨v,rfl⟩,ks1,ps1,ws1,b1,T1,g1,g2,g3⟩
  rw [<- ln6,List.take_length] at g1 g2 g3
  first | exact q ks1 ps1 ws1 H1 b1 T1 g1 g2 g3 | (nofun; exact q ks1 ps1 ws1 H1 b1 T1 g1 g2 g3)
theorem nE {d n:Nat}(hn:0<=n)(B:Bt K mg a)(F:Fun K "weight_bits" "Any.weight_bits" cG f fd):FnOk P w K mg base CX0 (n+1) f fd ["self","kind","place","from_weight"] (mT K a (d+1)):=by
 refine F.ok mM (by walk_at "ln") fun cdv A outer s H vs Q E hr h=>?_
 obtain ⟨v,t,k,pl,dd,ws,rfl,ht,hd,ho,hf,hdd,FL,hw,q⟩:=h
 refine ⟨_,(aR (aF (aV (aS (bG lA (pv 3) aG (fun _ _=>rfl)))))),?_⟩
 cases t with
 | kind us=>cases ht
 | place us=>cases ht
 | weight n=>cases ht
 | not t=>cases ht
 | both ts=>cases ht
 | either ts=>cases ht
 | any =>
 rw [Tr.Fit] at hf
 simp only [Tr.ev] at q
 nofun
 exact AZ5 hdd (nS FL) q
theorem lQ {d n:Nat}(hn:0<=n)(B:Bt K mg a)(F:Fun K "weight_bits" "Kind.weight_bits" bY f fd):FnOk P w K mg base CX0 (n+1) f fd ["self","kind","place","from_weight"] (lI K a (d+1)):=by
 refine F.ok lE (by walk_at "ln") fun cdv A outer s H vs Q E hr h=>?_
 obtain ⟨v,t,k,pl,dd,ws,rfl,ht,hd,ho,hf,hdd,FL,hw,q⟩:=h
 refine ⟨_,(aR (aF (aV (aS (sX (aW mD (pv 1) (eK (pv 0) rfl) (by with_unfolding_all rfl)) (bG lA (pv 3) aG (fun _ _=>rfl)) aG))))),?_⟩
 cases t with
 | any=>cases ht
 | place us=>cases ht
 | weight n=>cases ht
 | not t=>cases ht
 | both ts=>cases ht
 | either ts=>cases ht
 | kind us =>
 rw [Tr.Fit] at hf
 obtain ⟨p,dx,ln,rfl,h1,h2,_⟩:=hf
 simp only [Tr.ev] at q
 nofun
 refine ⟨_,_,_,h1,B.ck_Kind.cl,B.na_Kind_names,.ref ln,rfl,?_⟩
 refine ⟨ln,_,rfl,.inl (SqL.of h2),rfl,hV us,?_⟩
 rw [lN]
 by_cases c:k∈us
 ·simp only [decide_eq_true c] at q
  exists decide_eq_true c
  exact AZ5 hdd (nS FL) q
 ·simp only [decide_eq_false c,xK] at q
  exists decide_eq_false c
  exact q
theorem kM {d n:Nat}(hn:0<=n)(B:Bt K mg a)(F:Fun K "weight_bits" "Place.weight_bits" bP f fd):FnOk P w K mg base CX0 (n+1) f fd ["self","kind","place","from_weight"] (kF K a (d+1)):=by
 refine F.ok kD (by walk_at "ln") fun cdv A outer s H vs Q E hr h=>?_
 obtain ⟨v,t,k,pl,dd,ws,rfl,ht,hd,ho,hf,hdd,FL,hw,q⟩:=h
 refine ⟨_,(aR (aF (aV (aS (sX (aW mD (pv 2) (eK (pv 0) rfl) (by with_unfolding_all rfl)) (bG lA (pv 3) aG (fun _ _=>rfl)) aG))))),?_⟩
 cases t with
 | any=>cases ht
 | kind us=>cases ht
 | weight n=>cases ht
 | not t=>cases ht
 | both ts=>cases ht
 | either ts=>cases ht
 | place us =>
 rw [Tr.Fit] at hf
 obtain ⟨p,dx,ln,rfl,h1,h2,_⟩:=hf
 simp only [Tr.ev] at q
 nofun
 refine ⟨_,_,_,h1,B.ck_Place.cl,B.na_Place_names,.ref ln,rfl,?_⟩
 refine ⟨ln,_,rfl,.inl (SqL.of h2),rfl,hV us,?_⟩
 rw [lN]
 by_cases c:pl∈us
 ·simp only [decide_eq_true c] at q
  exists decide_eq_true c
  exact AZ5 hdd (nS FL) q
 ·simp only [decide_eq_false c,xK] at q
  exists decide_eq_false c
  exact q
theorem kN {d n:Nat}(hn:0<=n)(B:Bt K mg a)(F:Fun K "weight_bits" "Least.weight_bits" bQ f fd):FnOk P w K mg base CX0 (n+1) f fd ["self","kind","place","from_weight"] (kG K a (d+1)):=by
 refine F.ok kE (by walk_at "ln") fun cdv A outer s H vs Q E hr h=>?_
 obtain ⟨v,t,k,pl,dd,ws,rfl,ht,hd,ho,hf,hdd,FL,hw,q⟩:=h
 refine ⟨_,(aR (aF (aV (aS (bG lA (pv 3) (eK (pv 0) rfl) (fun _ _=>rfl)))))),?_⟩
 cases t with
 | any=>cases ht
 | kind us=>cases ht
 | place us=>cases ht
 | not t=>cases ht
 | both ts=>cases ht
 | either ts=>cases ht
 | weight n =>
 rw [Tr.Fit] at hf
 obtain ⟨p,dx,rfl,h1⟩:=hf
 simp only [Tr.ev] at q
 nofun
 refine ⟨_,_,_,h1,B.ck_Least.cl,B.na_Least_weight,.int n,rfl,?_⟩
 exact AZ5 hdd (AT5 FL (hw n (by rw [Tr.wts]; exact List.mem_singleton.mpr rfl))) q
theorem nF {d n:Nat}(hn:0<=n)(B:Bt K mg a)(bV:∀ C sp,dE K a d C sp->CalM P w K mg base C "weight_bits" ["self","kind","place","from_weight"] n sp)(F:Fun K "weight_bits" "Not.weight_bits" cI f fd):FnOk P w K mg base CX0 (n+1) f fd ["self","kind","place","from_weight"] (mV K a (d+1)):=by
 refine F.ok mP (by walk_at "ln") fun cdv A outer s H vs Q E hr h=>?_
 obtain ⟨v,t,k,pl,dd,ws,rfl,ht,hd,ho,hf,hdd,FL,hw,q⟩:=h
 refine ⟨_,(aR (aF (aV (aS (bJ AR9 (bG lA (pv 3) aG (fun _ _=>rfl)) (fD (eK (pv 0) rfl) bV cW (hr.mono (by omega)) (aH (aK (pv 1) (aK (pv 2) (aK (pv 3) aC)))) (hst:=aJ _ _ _ rfl) (hpl:=aL rfl))))))),?_⟩
 cases t with
 | any=>cases ht
 | kind us=>cases ht
 | place us=>cases ht
 | weight n=>cases ht
 | both ts=>cases ht
 | either ts=>cases ht
 | not t =>
 rw [Tr.Fit] at hf
 obtain ⟨p,dx,y,rfl,h1,h2⟩:=hf
 rw [Tr.dp] at hd
 rw [Tr.ok] at ho
 rw [Tr.wts] at hw
 simp only [Tr.ev] at q
 obtain ⟨p2,_,_,rfl,_⟩:=id h2.ins
 nofun
 refine AZ5 hdd (nS FL) ?_
 refine ⟨_,_,_,h1,B.ck_Not.cl,B.na_Not_fit,.ref p2,rfl,?_⟩
 nofun
 refine AR1 (K:=K) h2 (by omega) ho hdd FL hw ?_
 nofun
 rw [AT4 _ _ _ fun _ _ _=>rfl]
 exact q
theorem lR {d n:Nat}(hn:0<=n)(B:Bt K mg a)(bV:∀ C sp,dE K a d C sp->CalM P w K mg base C "weight_bits" ["self","kind","place","from_weight"] n sp)(F:Fun K "weight_bits" "Both.weight_bits" cB f fd):FnOk P w K mg base CX0 (n+1) f fd ["self","kind","place","from_weight"] (lL K a (d+1)):=by
 refine F.ok sc_Both_weight_bits (by walk_at "ln") fun cdv A outer s H vs Q E hr h=>?_
 obtain ⟨v,t,k,pl,dd,ws,rfl,ht,hd,ho,hf,hdd,FL,hw,q⟩:=h
 refine ⟨_,(aR (aD (aX (i:=4) sc_Both_weight_bits.nd rfl (Or.inl rfl) (aS (bG lA (pv 3) aG (fun _ _=>rfl))) (by kernel_rfl)) (aD (bD (eM PassesOwn.never rfl (cL (eK (pv 0) rfl)) (bC (i:=5) sc_Both_weight_bits.nd rfl (Or.inl rfl)) (aR (aF (aX (i:=4) sc_Both_weight_bits.nd rfl (Or.inl rfl) (aS (bJ AR8 (pv 4) (fD (pv 5) bV cW (hr.mono (by omega)) (aH (aK (pv 1) (aK (pv 2) (aK (pv 3) aC)))) (hst:=aJ _ _ _ rfl) (hpl:=aL rfl)))) (by kernel_rfl)))))) (aF (aV (aS (pv 4))))))),?_⟩
 cases t with
 | any=>cases ht
 | kind us=>cases ht
 | place us=>cases ht
 | weight n=>cases ht
 | not t=>cases ht
 | either ts=>cases ht
 | both ts =>
 rw [Tr.Fit] at hf
 obtain ⟨p,dx,ln,xs,rfl,h1,h2,_,h3⟩:=hf
 rw [Tr.dp] at hd
 rw [Tr.ok] at ho
 rw [Tr.wts,qJ] at hw
 simp only [Tr.ev,vO] at q
 obtain ⟨m2,m6,ho⟩:=ho
 have hA:=trs_fit.mp h3
 have ln6:=hA.len
 nofun
 refine AZ5 hdd (nS FL) ?_
 refine ⟨_,_,_,h1,B.ck_Both.cl,B.na_Both_fits,.ref ln,rfl,?_⟩
 nofun
 refine ⟨⟨xs,SqL.of h2⟩,?_⟩
 refine ForL.by (xs:=xs) (fun i σ H1=>(∃ m v,σ=[some (.ref p),some (.str k),some (.str pl),some (.ref dd),some (.int m),v]/\m=((mk ws (fun w=>((ts.toL.take i).map (Tr.ev k pl w)).all id):Nat):Int))/\H1=H) ⟨⟨_,_,rfl,rfl⟩,rfl⟩ (fun i σ H1 _ h=>by rw [h.2]; exact SqL.of h2) ?_ ?_
 ·rintro i y σ H1 hy ⟨⟨m,v,rfl,em⟩,rfl⟩
  obtain ⟨t,e,ht⟩:=hA.get hy
  have mt:=List.mem_of_getElem? e
  have dt:=jG mt
  obtain ⟨p2,_,_,rfl,_⟩:=id ht.ins
  nofun
  refine AR1 (K:=K) ht (by omega) (trs_ok.mp ho t mt) hdd FL (fun n hn=>hw n (List.mem_flatten.mpr ⟨_,List.mem_map.mpr ⟨t,mt,rfl⟩,hn⟩)) ?_
  nofun
  have ea:Builtin.bitAnd m ((mk ws (fun w=>t.ev k pl w):Nat):Int)=((mk ws (fun w=>((ts.toL.take (i+1)).map (Tr.ev k pl w)).all id):Nat):Int):=by
   rw [em,AJ0]
   congr 2
   funext w
   rw [List.take_succ,e,Option.toList_some,List.map_append,List.all_append]
   simp
  first | exact ⟨⟨_,_,rfl,ea⟩,rfl⟩ | exact ⟨ea,rfl⟩ | exact ea
 ·rintro σ H1 ⟨⟨m,v,rfl,em⟩,rfl⟩
  rw [<- ln6,List.take_length] at em
  nofun
  rw [em]
  exact q
theorem jO {d n:Nat}(hn:0<=n)(B:Bt K mg a)(bV:∀ C sp,dE K a d C sp->CalM P w K mg base C "weight_bits" ["self","kind","place","from_weight"] n sp)(F:Fun K "weight_bits" "Either.weight_bits" bN f fd):FnOk P w K mg base CX0 (n+1) f fd ["self","kind","place","from_weight"] (jK K a (d+1)):=by
 refine F.ok sc_Either_weight_bits (by walk_at "ln") fun cdv A outer s H vs Q E hr h=>?_
 obtain ⟨v,t,k,pl,dd,ws,rfl,ht,hd,ho,hf,hdd,FL,hw,q⟩:=h
 refine ⟨_,(aR (aD (aX (i:=4) sc_Either_weight_bits.nd rfl (Or.inl rfl) (aS aG) (by kernel_rfl)) (aD (bD (eM PassesOwn.never rfl (cL (eK (pv 0) rfl)) (bC (i:=5) sc_Either_weight_bits.nd rfl (Or.inl rfl)) (aR (aF (aX (i:=4) sc_Either_weight_bits.nd rfl (Or.inl rfl) (aS (bJ BI0 (pv 4) (fD (pv 5) bV cW (hr.mono (by omega)) (aH (aK (pv 1) (aK (pv 2) (aK (pv 3) aC)))) (hst:=aJ _ _ _ rfl) (hpl:=aL rfl)))) (by kernel_rfl)))))) (aF (aV (aS (pv 4))))))),?_⟩
 cases t with
 | any=>cases ht
 | kind us=>cases ht
 | place us=>cases ht
 | weight n=>cases ht
 | not t=>cases ht
 | both ts=>cases ht
 | either ts =>
 rw [Tr.Fit] at hf
 obtain ⟨p,dx,ln,xs,rfl,h1,h2,_,h3⟩:=hf
 rw [Tr.dp] at hd
 rw [Tr.ok] at ho
 rw [Tr.wts,qJ] at hw
 simp only [Tr.ev,vO] at q
 obtain ⟨m2,m6,ho⟩:=ho
 have hA:=trs_fit.mp h3
 have ln6:=hA.len
 nofun
 refine ⟨_,_,_,h1,B.ck_Either.cl,B.na_Either_fits,.ref ln,rfl,?_⟩
 nofun
 refine ⟨⟨xs,SqL.of h2⟩,?_⟩
 refine ForL.by (xs:=xs) (fun i σ H1=>(∃ m v,σ=[some (.ref p),some (.str k),some (.str pl),some (.ref dd),some (.int m),v]/\m=((mk ws (fun w=>((ts.toL.take i).map (Tr.ev k pl w)).any id):Nat):Int))/\H1=H) ⟨⟨_,_,rfl,by show (0:Int)=_; rw [show (fun w:Int=>(((ts.toL.take 0).map (Tr.ev k pl w)).any id))=fun _=>false from rfl,xK]; rfl⟩,rfl⟩ (fun i σ H1 _ h=>by rw [h.2]; exact SqL.of h2) ?_ ?_
 ·rintro i y σ H1 hy ⟨⟨m,v,rfl,em⟩,rfl⟩
  obtain ⟨t,e,ht⟩:=hA.get hy
  have mt:=List.mem_of_getElem? e
  have dt:=jG mt
  obtain ⟨p2,_,_,rfl,_⟩:=id ht.ins
  nofun
  refine AR1 (K:=K) ht (by omega) (trs_ok.mp ho t mt) hdd FL (fun n hn=>hw n (List.mem_flatten.mpr ⟨_,List.mem_map.mpr ⟨t,mt,rfl⟩,hn⟩)) ?_
  nofun
  have ea:Builtin.bitOr m ((mk ws (fun w=>t.ev k pl w):Nat):Int)=((mk ws (fun w=>((ts.toL.take (i+1)).map (Tr.ev k pl w)).any id):Nat):Int):=by
   rw [em,BF4]
   congr 2
   funext w
   rw [List.take_succ,e,Option.toList_some,List.map_append,List.any_append]
   simp
  first | exact ⟨⟨_,_,rfl,ea⟩,rfl⟩ | exact ⟨ea,rfl⟩ | exact ea
 ·rintro σ H1 ⟨⟨m,v,rfl,em⟩,rfl⟩
  rw [<- ln6,List.take_length] at em
  nofun
  rw [em]
  exact q
theorem sV {n i:Nat}:ixN n ((i:Nat):Int)=if i < n then some i else none:=by
 unfold ixN
 rw [if_pos (Int.natCast_nonneg _)]
 by_cases h:i < n
 ·rw [if_pos (by omega),if_pos h,Int.toNat_natCast]
 ·rw [if_neg (by omega),if_neg h]
theorem jX {α:Type}{xs:List α}{i:Nat}:atI xs ((i:Nat):Int)=xs[i]?:=by
 unfold atI
 rw [sV]
 by_cases h:i < xs.length
 ·rw [if_pos h]; rfl
 ·rw [if_neg h,List.getElem?_eq_none (by omega)]; rfl
def BL7 (a:Ad)(H:Hp)(fo fl dd:Addr)(k pl:Str)(ws:List Int)(ts:List Tr)(done:List (Str × Str))(i:Nat)(σ:L2.St)(H1:Hp):Prop :=
 ∃ v6 v7 v8 v9 rs1,σ=[some (.ref fo),some (.ref fl),some (.str k),some (.str pl),some (.ref dd),some (.int ((mk ws (free ts i k pl):Nat):Int)),v6,v7,v8,v9]/\But fo H H1/\H1 fo=some (.lst rs1)/\FoundR a H1 ws ts (fun j=>if j < i then (k,pl)::done else done) rs1
theorem rW (B:Bt K mg a)(bV:∀ C sp,dE K a 6 C sp->CalM P w K mg base C "weight_bits" ["self","kind","place","from_weight"] 6 sp)(jP:CalC P w K mg base "Happening" a.Happening ["self","kind","place","weight"] 3 (dY K a))(F:Fun K "find_firsts" "find_firsts" eE f fd):FnOk P w K mg base CX0 7 f fd ["found","fits","kind","place","from_weight"] (kT K a):=by
 refine F.ok sc_find_firsts (by walk_at "ln") fun cdv A outer s H vs Q E hr h=>?_
 obtain ⟨H0,fo,fl,dd,k,pl,xs,rs,ts,ws,done,rfl,S,nfo,hfl,hA,hok,hdd,FL,wB,hw,gk,gp,hfo,FR,q⟩:=h
 refine ⟨_,(aR (aD (aX (i:=5) sc_find_firsts.nd rfl (Or.inl rfl) (aS (bG lA (pv 4) aG (fun _ _=>rfl))) (by kernel_rfl)) (aF (bD (eM PassesOwn.never rfl (AH6 rfl B.enumerate (aH (aK (pv 1) aC))) (AR7 (n:=2) rfl (pN (bC (i:=6) sc_find_firsts.nd rfl (Or.inl rfl)) (pN (bC (i:=7) sc_find_firsts.nd rfl (Or.inl rfl)) AC3))) (aR (aD (aX (i:=8) sc_find_firsts.nd rfl (Or.inl rfl) (aS (bJ AR8 (pv 5) (fD (pv 7) bV cW (hr.mono (by decide)) (aH (aK (pv 2) (aK (pv 3) (aK (pv 4) aC)))) (hst:=aJ _ _ _ rfl) (hpl:=aL rfl)))) (by kernel_rfl)) (aD (aX (i:=5) sc_find_firsts.nd rfl (Or.inl rfl) (aS (bJ AR9 (pv 5) (pv 8))) (by kernel_rfl)) (aF (bE (L2.PW.pt (uT (aW BI1 (pv 8) aG (aY _)) (pS (iW (kP (bG dW (pv 0) (pv 6) (fun _ _=>rfl))))))) (aD (aX (i:=9) sc_find_firsts.nd rfl (Or.inl rfl) (aS (bG dW (bH (nR rfl) rfl B.list PyProof.Rows.boot_list (aH (aK (pv 4) aC))) (bJ sH (BE2 PySem.F.plainAttrs_int PySem.F.slot_int_bit_length PySem.F.type_int_bit_length AY6 (pv 8)) aG) (fun _ _=>rfl))) (by kernel_rfl)) (aF (bD (uV (qD jP cW (hr.mono (by decide)) rfl (aH (aK (pv 2) (aK (pv 3) (aK (pv 9) aC)))) (he:=aJ _ _ _ rfl) (hpl:=aL rfl)) (uU (pv 0) (pv 6) sY))))) aQ)))))))))),?_⟩
 have ln6:=hA.len
 have nfl:fl≠fo:=aP hfl nfo
 have ndd:dd≠fo:=BC0 hdd hfo (by intro z; cases z)
 nofun
 refine AZ5 hdd (nS FL) ?_
 refine ⟨⟨_,SqL.of (S _ _ hfl)⟩,?_⟩
 refine ForE.by (xs:=xs) (BL7 a H fo fl dd k pl ws ts done) ?_ (fun i σ H1 _ h=>?_) ?_ ?_
 ·refine ⟨_,_,_,_,rs,by rw [AJ3],But.refl _ _,hfo,FR.1,fun i x e=>?_⟩
  simp only [Nat.not_lt_zero,if_false]
  exact FR.2 i x e
 ·obtain ⟨_,_,_,_,rs1,_,B1,_⟩:=h
  exact SqL.of (B1 _ _ nfl (S _ _ hfl))
 ·rintro i x σ H1 pt hx ⟨v6,v7,v8,v9,rs1,rfl,B1,hfo1,FR1⟩ hpt
  obtain ⟨t,e,ht0⟩:=hA.get hx
  have mt:=List.mem_of_getElem? e
  have S1:Same H0 H1:=iA S nfo B1
  have Sp:=aE hpt (.tup [.int (i:Nat),x])
  have ht:=ht0.same (S1.trans Sp)
  obtain ⟨p2,_,_,rfl,_⟩:=id ht.ins
  have hdd2:=Sp _ _ (B1 _ _ ndd hdd)
  have hfo2:=Sp _ _ hfo1
  have SqP:SqT K (upd H1 pt (.tup [.int (i:Nat),.ref p2])) pt [.int (i:Nat),.ref p2]:=SqT.of aA
  have B2:But fo H (upd H1 pt (.tup [.int (i:Nat),.ref p2])):=B1.trans (Same.but Sp)
  have FR2:FoundR a (upd H1 pt (.tup [.int (i:Nat),.ref p2])) ws ts (fun j=>if j < i then (k,pl)::done else done) rs1:=⟨FR1.1,fun j x ex=>(FR1.2 j x ex).imp id fun h=>h.ins fun b C d fs e=>Sp _ _ e⟩
  nofun
  generalize upd H1 pt (.tup [.int (i:Nat),.ref p2])=H2 at *
  refine ⟨_,SqP,rfl,_,_,rfl,_,_,rfl,rfl,_,rfl,?_⟩
  refine AR1 (K:=K) ht (hok t mt).2 (hok t mt).1 hdd2 FL (hw t mt) ?_
  refine ⟨_,rfl,?_⟩
  have ea:Builtin.bitAnd ((mk ws (free ts i k pl):Nat):Int) ((mk ws (fun w=>t.ev k pl w):Nat):Int)=((mk ws (won ts i k pl):Nat):Int):=by
   rw [AJ0]
   congr 2
   funext w
   exact (AJ4 e k pl w).symm
  have ex:Builtin.bitXor ((mk ws (free ts i k pl):Nat):Int) ((mk ws (won ts i k pl):Nat):Int)=((mk ws (free ts (i+1) k pl):Nat):Int):=by
   rw [AT4 _ _ _ fun w _ h=>by rw [AJ4 e] at h; exact (Bool.and_eq_true _ _ ▸ h).1]
   congr 2
   funext w
   exact (AJ5 e k pl w).symm
  rw [ea,ex]
  have lt:i < rs1.length:=by rw [FR1.1]; exact (List.getElem?_eq_some_iff.mp e).1
  have er:rs1[i]?=some rs1[i]:=List.getElem?_eq_getElem lt
  -- what was found stays,if it is enough
  have keep:(rs1[i]=.non->∀ w∈ws,won ts i k pl w=false)->FoundR a H2 ws ts (fun j=>if j < i+1 then (k,pl)::done else done) rs1:=fun hn=>⟨FR2.1,fun j x ej=>by
   rcases FR2.2 j x ej with ⟨rfl,h⟩ | h
   ·refine .inl ⟨rfl,fun q0 hq w0 hw0=>?_⟩
    dsimp only at h hq
    by_cases c1:j < i
    ·rw [if_pos c1] at h
     rw [if_pos (by omega)] at hq
     exact h q0 hq w0 hw0
    ·rw [if_neg c1] at h
     by_cases c2:j < i+1
     ·have ji:j=i:=by omega
      subst ji
      rw [if_pos c2] at hq
      rcases List.mem_cons.mp hq with rfl | hq
      ·exact hn (by rw [er] at ej; exact Option.some.inj ej) w0 hw0
      ·exact h q0 hq w0 hw0
     ·rw [if_neg c2] at hq
      exact h q0 hq w0 hw0
   ·exact .inr h⟩
  by_cases hz:mk ws (won ts i k pl)=0
  ·rw [if_neg (by rw [hz]; simp)]
   exact ⟨_,_,_,_,rs1,rfl,B2,hfo2,keep fun _=>AZ6 hz⟩
  ·rw [if_pos (by omega)]
   refine ixl (SqL.of hfo2) (v:=rs1[i]) (by rw [jX]; exact er) ?_
   by_cases cn:rs1[i]=.non
   ·rw [if_pos cn]
    refine ⟨_,hdd2,fun l hl=>⟨rfl,_,rfl,rfl,_,rfl,?_⟩⟩
    rw [AZ7 hz]
    obtain ⟨w0,e0,hw0⟩:=BF5 hz
    have ek:(fwK ws).map (fun kv=>kV kv.1)=ws.map V.int:=by
     have:(fwK ws).map (fun kv=>kV kv.1)=((fwK ws).map (·.1)).map kV:=by rw [List.map_map]; rfl
     rw [this,AZ8,List.map_map]; rfl
    have m0:=List.mem_of_getElem? e0
    have Sl:=aE hl (.lst ((fwK ws).map fun kv=>kV kv.1))
    refine ixl (SqL.of aA) (v:=.int w0) (by rw [jX,ek,List.getElem?_map,e0]; rfl) ?_
    have hfo3:=Sl _ _ hfo2
    generalize upd H2 l (.lst ((fwK ws).map fun kv=>kV kv.1))=H3 at *
    nofun
    intro z dz hz1 hdz nez
    refine ⟨z,dz,k,pl,w0,rfl,aA,gk,gp,FL.pos w0 m0,fun H4 B4 e4=>?_⟩
    have S4:=gJ hz1 hdz B4
    nofun
    refine BK2 (j:=i) (S4 _ _ hfo3) (by rw [sV]; exact if_pos lt) ?_
    have nz:z≠fo:=(aP hfo3 hz1).symm
    refine ⟨_,_,_,_,rs1.set i (.ref z),rfl,B2.trans ((Same.but (Sl.trans S4)).trans (But.upd _)),aA,by rw [List.length_set]; exact FR2.1,fun j x ej=>?_⟩
    have up:∀ b C d fs,H2 b=some (.ins C d fs)->upd H4 fo (.lst (rs1.set i (.ref z))) b=some (.ins C d fs):=fun b C d fs h=>by
     rw [aO (fun y=>by rw [y,hfo2] at h; cases h)]
     exact (Sl.trans S4) _ _ h
    rw [List.getElem?_set] at ej
    by_cases ji:i=j
    ·subst ji
     rw [if_pos rfl,if_pos lt] at ej
     cases ej
     exact .inr ⟨z,dz,k,pl,w0,rfl,by rw [aO nz]; exact e4,gk,gp,FL.pos w0 m0,wB w0 m0,hw0⟩
    ·rw [if_neg ji] at ej
     rcases FR2.2 j x ej with ⟨rfl,h⟩ | h
     ·refine .inl ⟨rfl,fun q0 hq w1 hw1=>?_⟩
      dsimp only at h hq
      by_cases c1:j < i
      ·rw [if_pos c1] at h
       rw [if_pos (by omega)] at hq
       exact h q0 hq w1 hw1
      ·rw [if_neg c1] at h
       rw [if_neg (by omega)] at hq
       exact h q0 hq w1 hw1
     ·exact .inr (h.ins up)
   ·rw [if_neg cn]
    exact ⟨_,_,_,_,rs1,rfl,B2,hfo2,keep fun z=>absurd z cn⟩
 ·rintro σ H1 ⟨v6,v7,v8,v9,rs1,rfl,B1,hfo1,FR1⟩
  have FR2:FoundR a H1 ws ts (fun _=>(k,pl)::done) rs1:=⟨FR1.1,fun j x ej=>by
   have:=FR1.2 j x ej
   have lt:=(List.getElem?_eq_some_iff.mp ej).1
   dsimp only at this
   rw [if_pos (by rw [<- ln6,<- FR1.1]; exact lt)] at this
   exact this⟩
  first | exact q rs1 H1 B1 hfo1 FR2 | (nofun; exact q rs1 H1 B1 hfo1 FR2)
theorem pP {H:Hp}{x y:Addr}{o:HO}(h:upd H x o y=none):y≠x/\H y=none:=by
 by_cases e:y=x
 ·rw [e,aA] at h; cases h
 ·rw [aO e] at h; exact ⟨e,h⟩
theorem AK7:∀ {l:List Key},(∀ k∈l,∃ n,k=Sum.inl n)->∃ ns:List Int,l=ns.map Sum.inl
 | [],_=>⟨[],rfl⟩
 | k::l,h=>by
  obtain ⟨n,rfl⟩:=h k (List.mem_cons_self ..)
  obtain ⟨ns,rfl⟩:=AK7 (l:=l) fun k m=>h k (List.mem_cons_of_mem _ m)
  exact ⟨n::ns,rfl⟩
theorem yA:∀ {l:List Key},(∀ k∈l,∃ u,k=Sum.inr u/\cP u)->∃ us:List Str,l=us.map Sum.inr/\∀ u∈us,cP u
 | [],_=>⟨[],rfl,fun u h=>nomatch h⟩
 | k::l,h=>by
  obtain ⟨u,rfl,g⟩:=h k (List.mem_cons_self ..)
  obtain ⟨us,rfl,gs⟩:=yA (l:=l) fun k m=>h k (List.mem_cons_of_mem _ m)
  exact ⟨u::us,rfl,fun v m=>(List.mem_cons.mp m).elim (fun e=>by rw [e]; exact g) (gs v)⟩
def BL8 (H G:Hp)(fl kd pd wd:Addr)(ts:List Tr)(i:Nat)(σ:L2.St)(H1:Hp):Prop:=(∃ v,σ=[some (.ref fl),some (.ref kd),some (.ref pd),some (.ref wd),v,none,none,none,none])/\∃ ks ps ws,But3 kd pd wd G H1/\Three H H1 kd pd wd ks ps ws/\Grow [] ks (((ts.take i).map (Tr.names true)).flatten.map Sum.inr)/\Grow [] ps (((ts.take i).map (Tr.names false)).flatten.map Sum.inr)/\Grow [(Sum.inl 0,.bl true)] ws (((ts.take i).map Tr.wts).flatten.map Sum.inl)
def Cov (PN:List Str)(done:List (Str × Str))(k:Str):Prop:=∀ p:Str,∃ p',(k,p')∈done/\∀ n∈PN,(p=n ↔ p'=n)
def BG5 (a:Ad)(Hc:Hp)(fo fl kd pd wd dd:Addr)(ws:List Int)(ts:List Tr)(PN KS:List Str)(i:Nat)(σ:L2.St)(H1:Hp):Prop:=(∃ v4 v7 v8,σ=[some (.ref fl),some (.ref kd),some (.ref pd),some (.ref wd),v4,some (.ref dd),some (.ref fo),v7,v8])/\∃ rs done,But fo Hc H1/\H1 fo=some (.lst rs)/\FoundR a H1 ws ts (fun _=>done) rs/\∀ k∈KS.take i,Cov PN done k
def BL9 (a:Ad)(Hc:Hp)(fo fl kd pd wd dd:Addr)(ws:List Int)(ts:List Tr)(PN KS PS:List Str)(i:Nat)(k:Str)(j:Nat)(σ:L2.St)(H1:Hp):Prop:=(∃ v4 v8,σ=[some (.ref fl),some (.ref kd),some (.ref pd),some (.ref wd),v4,some (.ref dd),some (.ref fo),some (.str k),v8])/\∃ rs done,But fo Hc H1/\H1 fo=some (.lst rs)/\FoundR a H1 ws ts (fun _=>done) rs/\(∀ k∈KS.take i,Cov PN done k)/\∀ p∈PS.take j,(k,p)∈done
theorem FoundR.same {a:Ad}{H H':Hp}{ws:List Int}{ts:List Tr}{d:Nat->List (Str × Str)}{rs:List V}(h:FoundR a H ws ts d rs)(s:Same H H'):FoundR a H' ws ts d rs:=⟨h.1,fun i x e=>(h.2 i x e).imp id fun z=>z.ins fun b C d fs q=>s _ _ q⟩
theorem uB {β:Type}{f:Tr->List β}{ts:List Tr}{t:Tr}(m:t∈ts){x:β}(h:x∈f t):x∈(ts.map f).flatten:=List.mem_flatten.mpr ⟨_,List.mem_map.mpr ⟨t,m,rfl⟩,h⟩
theorem uC {β:Type}{f:Tr->List β}{ts:List Tr}{x:β}(h:x∈(ts.map f).flatten):∃ t∈ts,x∈f t:=by
 obtain ⟨l,hl,hx⟩:=List.mem_flatten.mp h
 obtain ⟨t,ht,rfl⟩:=List.mem_map.mp hl
 exact ⟨t,ht,hx⟩
theorem qX (ts:List Tr){β:Type}(f:Tr->List β)(hf:∀ t,(f t).length<=t.cnt):(ts.map f).flatten.length<=(ts.map Tr.cnt).sum:=by
 have:=fY (L:=ts) (i:=ts.length) f hf
 rw [List.take_length] at this
 exact this
theorem AK8 (B:Bt K mg a)(eR:CalX P w K mg base "bits_from_weights" ["falling"] 1 (gG K a))(cF:∀ C sp,dM K a 6 C sp->CalM P w K mg base C "note_turns" ["self","kinds","places","weights"] 7 sp)(gL:CalX P w K mg base "unused_name" ["taken"] 2 (kS K a))(iT:CalX P w K mg base "find_firsts" ["found","fits","kind","place","from_weight"] 7 (kT K a))(F:Fun K "firsts" "firsts" jW f fd):FnOk P w K mg base CX0 8 f fd ["fits"] (qO K a):=by
 refine F.ok sc_firsts (by walk_at "ln") fun cdv A outer s H vs Q E hr h=>?_
 obtain ⟨fl,xs,ts,rfl,hfl,hA,hok,hc,q⟩:=h
 refine ⟨_,(aR (aD (aX (i:=1) sc_firsts.nd rfl (Or.inl rfl) (aS tO) (by kernel_rfl)) (aD (aX (i:=2) sc_firsts.nd rfl (Or.inl rfl) (aS tO) (by kernel_rfl)) (aD (aX (i:=3) sc_firsts.nd rfl (Or.inl rfl) (aS (AY2 (AO8 aG nK AY1) rfl rfl (by intro z; cases z) (by decide))) (by kernel_rfl)) (aD (bD (eM PassesOwn.never rfl (cL (pv 0)) (bC (i:=4) sc_firsts.nd rfl (Or.inl rfl)) (aR (aF (bD (cE (fD (pv 4) cF cW (hr.mono (by decide)) (aH (aK (pv 1) (aK (pv 2) (aK (pv 3) aC)))) (hst:=aJ _ _ _ rfl) (hpl:=aL rfl)))))))) (aD (aX (i:=5) sc_firsts.nd rfl (Or.inl rfl) (aS (pc eR hr rfl (aH (aK (AO9 rfl rfl B.sorted (aH (aK (pv 3) aC))) aC)))) (by kernel_rfl)) (aD (bD (yS (i:=6) ["fit"] [none] rfl (by kernel_rfl) sc_firsts.nd rfl rfl (cL (pv 0)) (fun cl C s H fp=>⟨(bC (i:=0) (by decide:List.Nodup (["fit"]:List Str)) rfl (Or.inl (by kernel_rfl)) (Or.inr (by kernel_rfl))),gA,sE⟩))) (aD (bD (eM PassesOwn.never rfl (cL (bJ mE (bH (nR rfl) rfl B.list PyProof.Rows.boot_list (aH (aK (pv 1) aC))) (fI (aH (aK (pc gL hr rfl (aH (aK (pv 1) aC))) aC))))) (bC (i:=7) sc_firsts.nd rfl (Or.inl rfl)) (aR (aF (bD (eM PassesOwn.never rfl (cL (bJ mE (bH (nR rfl) rfl B.list PyProof.Rows.boot_list (aH (aK (pv 2) aC))) (fI (aH (aK (pc gL hr rfl (aH (aK (pv 2) aC))) aC))))) (bC (i:=8) sc_firsts.nd rfl (Or.inl rfl)) (aR (aF (bD (cE (pc iT hr rfl (aH (aK (pv 6) (aK (pv 0) (aK (pv 7) (aK (pv 8) (aK (pv 5) aC))))))))))))))))) (aF (aV (aS (pv 6)))))))))))),?_⟩
 have ln6:=hA.len
 nofun
 intro kd hk pd hp wd hz
 have p1:=pP hp
 have z1:=pP hz
 have z2:=pP z1.2
 refine ⟨aA,[(Sum.inl 0,.bl true)],rfl,by decide,?_⟩
 have T0:Three H (upd (upd (upd (upd H kd (.dK [])) pd (.dK [])) wd (.dK [])) wd (.dK (mI [] [(Sum.inl 0,.bl true)]))) kd pd wd [] [] [(Sum.inl 0,.bl true)] :=
  ⟨hk,p1.2,z2.2,by rw [aO z2.1.symm,aO z2.1.symm,aO p1.1.symm]; exact aA,by rw [aO z1.1.symm,aO z1.1.symm]; exact aA,aA,p1.1.symm,z2.1.symm,z1.1.symm⟩
 have S0:Same H (upd (upd (upd (upd H kd (.dK [])) pd (.dK [])) wd (.dK [])) wd (.dK (mI [] [(Sum.inl 0,.bl true)]))):=iA ((aE hk _).trans ((aE hp _).trans (aE hz _))) z2.2 (But.upd _)
 generalize upd (upd (upd (upd H kd (.dK [])) pd (.dK [])) wd (.dK [])) wd (.dK (mI [] [(Sum.inl 0,.bl true)]))=G at *
 refine ⟨⟨_,SqL.of (S0 _ _ hfl)⟩,?_⟩
 refine ForL.by (xs:=xs) (BL8 H G fl kd pd wd ts) ⟨⟨_,rfl⟩,[],[],_,But3.refl,T0,Grow.refl _,Grow.refl _,Grow.refl _⟩ (fun i σ H1 _ h=>?_) ?_ ?_
 ·obtain ⟨_,ks,ps,ws,b,T,_⟩:=h
  exact SqL.of (hG S0 T0.nx T0.ny T0.nz b _ _ hfl)
 ·rintro i y σ H1 hy ⟨⟨v,rfl⟩,ks,ps,ws,b,T,g1,g2,g3⟩
  obtain ⟨t,e,ht⟩:=hA.get hy
  have mt:=List.mem_of_getElem? e
  have stk:=nA e
  have sle:=eQ ts (i+1)
  have n1:=g1.len; have n2:=g2.len; have n3:=g3.len
  rw [List.length_map] at n1 n2 n3
  simp only [List.length_nil,List.length_cons] at n1 n2 n3
  have f1:=fY (L:=ts) (i:=i) (Tr.names true) (Tr.names_le true)
  have f2:=fY (L:=ts) (i:=i) (Tr.names false) (Tr.names_le false)
  have f3:=fY (L:=ts) (i:=i) Tr.wts Tr.wts_le
  obtain ⟨p2,_,_,rfl,_⟩:=id ht.ins
  nofun
  refine AR0 (K:=K) ht (hok t mt).2 (hok t mt).1 (hG S0 T0.nx T0.ny T0.nz b) T (by omega) (by omega) (by omega) fun ks' ps' ws' H' b' T' g1' g2' g3'=>?_
  nofun
  refine ⟨⟨_,rfl⟩,ks',ps',ws',b.trans b',T',?_,?_,?_⟩
  ·rw [fF _ e,List.map_append]; exact g1.trans g1'
  ·rw [fF _ e,List.map_append]; exact g2.trans g2'
  ·rw [fF _ e,List.map_append]; exact g3.trans g3'
 rintro σ H1 ⟨⟨v,rfl⟩,ks,ps,ws,b,T,g1,g2,g3⟩
 rw [<- ln6,List.take_length] at g1 g2 g3
 have S1:Same H H1:=hG S0 T0.nx T0.ny T0.nz b
 -- the weights
 have fw:=qX ts Tr.wts Tr.wts_le
 have fk:=qX ts (Tr.names true) (Tr.names_le true)
 have fp:=qX ts (Tr.names false) (Tr.names_le false)
 have n1:=g1.len; have n2:=g2.len; have n3:=g3.len
 rw [List.length_map] at n1 n2 n3
 simp only [List.length_nil,List.length_cons] at n1 n2 n3
 obtain ⟨wi,ewi⟩:=AK7 (l:=cY ws) fun k hk=>by
  rcases (g3.mem k).mp hk with h | h
  ·exact ⟨0,by simpa using h⟩
  ·obtain ⟨n,_,rfl⟩:=List.mem_map.mp h
   exact ⟨n,rfl⟩
 have memW:∀ n:Int,n∈wi ↔ n=0\/∃ t∈ts,n∈t.wts:=fun n=>by
  have h:=g3.mem (Sum.inl n)
  rw [ewi] at h
  have e1:(Sum.inl n:Key)∈wi.map Sum.inl ↔ n∈wi:=⟨fun z=>by obtain ⟨m,hm,e⟩:=List.mem_map.mp z; rw [<- Sum.inl.inj e]; exact hm,fun z=>List.mem_map.mpr ⟨n,z,rfl⟩⟩
  have e2:(Sum.inl n:Key)∈cY [((Sum.inl 0:Key),V.bl true)] ↔ n=0:=⟨fun z=>by have:=List.mem_singleton.mp z; exact Sum.inl.inj this,fun z=>by rw [z]; exact List.mem_singleton.mpr rfl⟩
  have e3:(Sum.inl n:Key)∈((ts.map Tr.wts).flatten.map Sum.inl:List Key) ↔ ∃ t∈ts,n∈t.wts:=⟨fun z=>by obtain ⟨m,hm,e⟩:=List.mem_map.mp z; rw [<- Sum.inl.inj e]; exact uC hm,fun ⟨t,mt,z⟩=>List.mem_map.mpr ⟨n,uB mt z,rfl⟩⟩
  rw [e1,e2,e3] at h
  exact h
 have lw:wi.length=ws.length:=by have:=congrArg List.length ewi; rw [List.length_map,List.length_map] at this; exact this.symm
 have ndw:wi.Nodup:=by
  have:=g3.nd (by simp)
  rw [ewi,List.Nodup,List.pairwise_map] at this
  exact this.imp fun h e=>h (by rw [e])
 nofun
 refine ⟨wd,ws,wi,rfl,T.hz,ewi,by omega,fun lp ns hlp perm pw=>?_⟩
 have FL:Falls ns:=⟨by
   have nd:=perm.nodup_iff.mpr ndw
   exact (pw.and nd).imp fun h=>by have:=h.1; have:=h.2; omega,perm.mem_iff.mpr ((memW 0).mpr (.inl rfl)),fun w hw=>by
   rcases (memW w).mp (perm.mem_iff.mp hw) with rfl | ⟨t,mt,h⟩
   ·exact Int.le_refl _
   ·exact Tr.wts_ok t (hok t mt).1 w h⟩
 have wB:∀ w∈ns,w < 1000000:=fun w hw=>by
  rcases (memW w).mp (perm.mem_iff.mp hw) with rfl | ⟨t,mt,h⟩
  ·decide
  ·exact Tr.wts_lt t (hok t mt).1 w h
 have hwT:∀ t∈ts,∀ n∈t.wts,n∈ns:=fun t mt n h=>perm.mem_iff.mpr ((memW n).mpr (.inr ⟨t,mt,h⟩))
 have Sl:=aE hlp (.lst (ns.map V.int))
 refine ⟨lp,ns,rfl,aA,FL.nodup,by rw [perm.length_eq]; omega,fun dd H2 S2 e2=>?_⟩
 have SA:=S1.trans (Sl.trans S2)
 have T2:Three H H2 kd pd wd ks ps ws:=⟨T.nx,T.ny,T.nz,(Sl.trans S2) _ _ T.hx,(Sl.trans S2) _ _ T.hy,(Sl.trans S2) _ _ T.hz,T.xy,T.xz,T.yz⟩
 generalize upd H1 lp (.lst (ns.map V.int))=H1' at *
 nofun
 refine ⟨⟨_,SqL.of (SA _ _ hfl)⟩,?_⟩
 refine CompL.by (xs:=xs) (fun i acc σ H'=>acc=List.replicate i .non/\(∃ v,σ=[v])/\H'=H2) (sz8 (by have:=BA0 fun t m=>(hok t m).1; omega)) ⟨rfl,⟨_,rfl⟩,rfl⟩ (fun i acc σ H' _ h=>by rw [h.2.2]; exact SqL.of (SA _ _ hfl)) ?_ ?_ ?_
 ·rintro i y acc σ H' hy ⟨rfl,⟨v,rfl⟩,rfl⟩
  nofun
  first | exact ⟨List.replicate_succ'.symm,⟨_,rfl⟩,rfl⟩ | exact ⟨List.replicate_succ'.symm,rfl⟩ | exact List.replicate_succ'.symm
 ·rintro i acc σ H' ⟨rfl,_,_⟩
  rw [List.length_replicate]
  exact Nat.le_refl _
 rintro acc σ H' ⟨rfl,⟨v',rfl⟩,rfl⟩ fo hfo
 have nfoH:H fo=none:=SA.free hfo
 have Sf:=aE hfo (.lst (List.replicate xs.length V.non))
 have hkd3:=Sf _ _ T2.hx
 have hpd3:=Sf _ _ T2.hy
 have hdd3:=Sf _ _ e2
 have hfo3:upd H' fo (.lst (List.replicate xs.length V.non)) fo=some (.lst (List.replicate xs.length V.non)):=aA
 have SB:=SA.trans Sf
 have nkd:kd≠fo:=aP T2.hx hfo
 have npd:pd≠fo:=aP T2.hy hfo
 have ndd:dd≠fo:=aP e2 hfo
 generalize upd H' fo (.lst (List.replicate xs.length V.non))=G3 at *
 obtain ⟨kn,ekn,gkn⟩:=yA (l:=cY ks) fun k hk=>by
  rcases (g1.mem k).mp hk with h | h
  ·exact nomatch h
  ·obtain ⟨u,hu,rfl⟩:=List.mem_map.mp h
   obtain ⟨t,mt,hu⟩:=uC hu
   exact ⟨u,rfl,Tr.names_good true t (hok t mt).1 u hu⟩
 have ekn':ks.map (fun kv=>kV kv.1)=kn.map V.str:=by
  have:ks.map (fun kv=>kV kv.1)=(cY ks).map kV:=by unfold cY; rw [List.map_map]; rfl
  rw [this,ekn,List.map_map]; rfl
 have lkn:kn.length=ks.length:=by have:=congrArg List.length ekn; rw [List.length_map,List.length_map] at this; exact this.symm
 have mkn:∀ t∈ts,∀ n∈t.names true,n∈kn:=fun t mt n hn=>by
  have:=(g1.mem (Sum.inr n)).mpr (.inr (List.mem_map.mpr ⟨n,uB mt hn,rfl⟩))
  rw [ekn] at this
  obtain ⟨m,hm,e⟩:=List.mem_map.mp this
  rw [<- Sum.inr.inj e]; exact hm
 obtain ⟨pn,epn,gpn⟩:=yA (l:=cY ps) fun k hk=>by
  rcases (g2.mem k).mp hk with h | h
  ·exact nomatch h
  ·obtain ⟨u,hu,rfl⟩:=List.mem_map.mp h
   obtain ⟨t,mt,hu⟩:=uC hu
   exact ⟨u,rfl,Tr.names_good false t (hok t mt).1 u hu⟩
 have epn':ps.map (fun kv=>kV kv.1)=pn.map V.str:=by
  have:ps.map (fun kv=>kV kv.1)=(cY ps).map kV:=by unfold cY; rw [List.map_map]; rfl
  rw [this,epn,List.map_map]; rfl
 have lpn:pn.length=ps.length:=by have:=congrArg List.length epn; rw [List.length_map,List.length_map] at this; exact this.symm
 have mpn:∀ t∈ts,∀ n∈t.names false,n∈pn:=fun t mt n hn=>by
  have:=(g2.mem (Sum.inr n)).mpr (.inr (List.mem_map.mpr ⟨n,uB mt hn,rfl⟩))
  rw [epn] at this
  obtain ⟨m,hm,e⟩:=List.mem_map.mp this
  rw [<- Sum.inr.inj e]; exact hm
 refine ⟨ks,hkd3,fun kl hkl=>?_⟩
 have Sk1:=aE hkl (.lst (ks.map fun kv=>kV kv.1))
 refine ⟨kd,ks,rfl,Sk1 _ _ (hkd3),by omega,fun ku gku nku=>?_⟩
 have ek1:upd G3 kl (.lst (ks.map fun kv=>kV kv.1)) kl=some (.lst (kn.map V.str)):=by rw [aA,ekn']
 generalize upd G3 kl (.lst (ks.map fun kv=>kV kv.1))=kA at *
 refine ⟨sz8 (by decide),fun km hkm=>?_⟩
 have Sk2:=aE hkm (.lst [.str ku])
 refine ⟨kl,km,_,_,rfl,rfl,Sk2 _ _ ek1,aA,sz8 (by rw [List.length_map,List.length_singleton]; omega),fun kL hkL=>?_⟩
 have Sk3:=aE hkL (.lst (kn.map V.str++[.str ku]))
 have ek3:upd (upd kA km (.lst [.str ku])) kL (.lst (kn.map V.str++[.str ku])) kL=some (.lst ((kn++[ku]).map V.str)):=by rw [aA,List.map_append]; rfl
 have Sk:=Sk1.trans (Sk2.trans Sk3)
 generalize upd (upd kA km (.lst [.str ku])) kL (.lst (kn.map V.str++[.str ku]))=kH at *
 have FR0:FoundR a kH ns ts (fun _=>[]) (List.replicate xs.length V.non):=⟨by rw [List.length_replicate,ln6],fun i x e=>.inl ⟨(List.mem_replicate.mp (List.mem_of_getElem? e)).2,fun q hq=>nomatch hq⟩⟩
 have SC:=SB.trans Sk
 have hpd4:=Sk _ _ hpd3
 have hdd4:=Sk _ _ hdd3
 have hfo4:=Sk _ _ hfo3
 have nkL:kL≠fo:=fun z=>by rw [z,hfo4] at ek3; have:=congrArg List.length (HO.lst.inj (Option.some.inj ek3)); rw [List.length_replicate,List.length_map,List.length_append,List.length_singleton] at this; exact absurd hkL (by rw [z]; exact fun y=>by rw [(Sk1.trans Sk2) _ _ hfo3] at y; cases y)
 refine ⟨kL,rfl,⟨_,SqL.of ek3⟩,?_⟩
 refine ForL.by (xs:=(kn++[ku]).map V.str) (BG5 a kH fo fl kd pd wd dd ns ts pn (kn++[ku])) ⟨⟨_,_,_,rfl⟩,_,[],But.refl _ _,hfo4,FR0,fun k hk=>nomatch hk⟩ (fun i σ H5 _ h=>?_) ?_ ?_
 ·obtain ⟨_,rs,done,b,_⟩:=h
  exact SqL.of (b _ _ nkL ek3)
 ·rintro i y σ H5 hy ⟨⟨v4,v7,v8,rfl⟩,rs,done,b5,hfo5,FR5,cov⟩
  rw [List.getElem?_map] at hy
  obtain ⟨k,hk,rfl⟩:=Option.map_eq_some_iff.mp hy
  have gk:cP k:=by
   rcases List.mem_append.mp (List.mem_of_getElem? hk) with h | h
   ·exact gkn k h
   ·rw [List.mem_singleton.mp h]; exact gku
  have hpd5:=b5 _ _ npd hpd4
  have hdd5:=b5 _ _ ndd hdd4
  nofun
  refine ⟨ps,hpd5,fun pl hpl=>?_⟩
  have Sp1:=aE hpl (.lst (ps.map fun kv=>kV kv.1))
  refine ⟨pd,ps,rfl,Sp1 _ _ (hpd5),by omega,fun pu gpu npu=>?_⟩
  have ep1:upd H5 pl (.lst (ps.map fun kv=>kV kv.1)) pl=some (.lst (pn.map V.str)):=by rw [aA,epn']
  generalize upd H5 pl (.lst (ps.map fun kv=>kV kv.1))=pA at *
  refine ⟨sz8 (by decide),fun pm hpm=>?_⟩
  have Sp2:=aE hpm (.lst [.str pu])
  refine ⟨pl,pm,_,_,rfl,rfl,Sp2 _ _ ep1,aA,sz8 (by rw [List.length_map,List.length_singleton]; omega),fun pL hpL=>?_⟩
  have Sp3:=aE hpL (.lst (pn.map V.str++[.str pu]))
  have ep3:upd (upd pA pm (.lst [.str pu])) pL (.lst (pn.map V.str++[.str pu])) pL=some (.lst ((pn++[pu]).map V.str)):=by rw [aA,List.map_append]; rfl
  have Sp:=Sp1.trans (Sp2.trans Sp3)
  generalize upd (upd pA pm (.lst [.str pu])) pL (.lst (pn.map V.str++[.str pu]))=pH at *
  have hfo6:=Sp _ _ hfo5
  have npL:pL≠fo:=fun z=>by rw [z] at hpL; rw [(Sp1.trans Sp2) _ _ hfo5] at hpL; cases hpL
  refine ⟨pL,rfl,⟨_,SqL.of ep3⟩,?_⟩
  refine ForL.by (xs:=(pn++[pu]).map V.str) (BL9 a pH fo fl kd pd wd dd ns ts pn (kn++[ku]) (pn++[pu]) i k) ⟨⟨_,_,rfl⟩,rs,done,But.refl _ _,hfo6,FR5.same Sp,cov,fun p hp=>nomatch hp⟩ (fun j σ H6 _ h=>?_) ?_ ?_
  ·obtain ⟨_,rs,done,b,_⟩:=h
   exact SqL.of (b _ _ npL ep3)
  ·rintro j y σ H6 hy ⟨⟨v4,v8,rfl⟩,rs,done,b6,hfo6,FR6,cov,dn⟩
   rw [List.getElem?_map] at hy
   obtain ⟨p,hp,rfl⟩:=Option.map_eq_some_iff.mp hy
   have gp:cP p:=by
    rcases List.mem_append.mp (List.mem_of_getElem? hp) with h | h
    ·exact gpn p h
    ·rw [List.mem_singleton.mp h]; exact gpu
   have S6:Same H H6:=iA SC nfoH (b5.trans ((Same.but Sp).trans b6))
   nofun
   refine ⟨H,fo,fl,dd,k,p,xs,rs,ts,ns,done,rfl,S6,nfoH,hfl,hA,hok,b6 _ _ ndd (Sp _ _ hdd5),FL,wB,hwT,gk,gp,hfo6,FR6,fun rs' H7 b7 hfo7 FR7=>?_⟩
   nofun
   refine ⟨⟨_,_,rfl⟩,rs',_,b6.trans b7,hfo7,FR7,fun k0 m0=>?_,fun p0 m0=>?_⟩
   ·intro p0
    obtain ⟨p',m,h⟩:=cov k0 m0 p0
    exact ⟨p',List.mem_cons_of_mem _ m,h⟩
   ·rw [List.take_succ,hp,Option.toList_some] at m0
    rcases List.mem_append.mp m0 with m0 | m0
    ·exact List.mem_cons_of_mem _ (dn p0 m0)
    ·rw [List.mem_singleton.mp m0]; exact List.mem_cons_self ..
  ·rintro σ H6 ⟨⟨v4,v8,rfl⟩,rs,done,b6,hfo6,FR6,cov,dn⟩
   rw [List.length_map,List.take_length] at dn
   refine ⟨⟨_,_,_,rfl⟩,rs,done,b5.trans ((Same.but Sp).trans b6),hfo6,FR6,fun k0 m0=>?_⟩
   rw [List.take_succ,hk,Option.toList_some] at m0
   rcases List.mem_append.mp m0 with m0 | m0
   ·exact cov k0 m0
   ·rw [List.mem_singleton.mp m0]
    intro p0
    by_cases c:p0∈pn
    ·exact ⟨p0,dn p0 (List.mem_append_left _ c),fun n _=>Iff.rfl⟩
    ·refine ⟨pu,dn pu (List.mem_append_right _ (List.mem_singleton.mpr rfl)),fun n hn=>⟨fun z=>absurd hn (by rw [<- z]; exact c),fun z=>absurd hn (by rw [<- z]; intro y; exact npu (by rw [epn]; exact List.mem_map.mpr ⟨_,y,rfl⟩))⟩⟩
 ·rintro σ H8 ⟨⟨v4,v7,v8,rfl⟩,rs,done,b8,hfo8,FR8,cov⟩
  rw [List.length_map,List.take_length] at cov
  nofun
  refine q fo rs H8 (iA SC nfoH b8) hfo8 ⟨FR8.1,fun i x e=>(FR8.2 i x e).imp (fun ⟨hn,h⟩=>⟨hn,fun k p w w0=>?_⟩) id⟩
  obtain ⟨k',mk',hk'⟩:∃ k'∈kn++[ku],∀ n∈kn,(k=n ↔ k'=n):=by
   by_cases c:k∈kn
   ·exact ⟨k,List.mem_append_left _ c,fun n _=>Iff.rfl⟩
   ·exact ⟨ku,List.mem_append_right _ (List.mem_singleton.mpr rfl),fun n hn=>⟨fun z=>absurd hn (by rw [<- z]; exact c),fun z=>absurd hn (by rw [<- z]; intro y; exact nku (by rw [ekn]; exact List.mem_map.mpr ⟨_,y,rfl⟩))⟩⟩
  obtain ⟨p',mp',hp'⟩:=cov k' mk' p
  obtain ⟨w',mw',hw'⟩:=FL.stand w0
  rw [BF8 fun t mt=>Tr.ev_eq t (fun n hn=>hk' n (mkn t mt n hn)) (fun n hn=>hp' n (mpn t mt n hn)) (fun n hn=>hw' n (hwT t mt n hn))]
  exact h (k',p') mp' w' mw'
theorem lS (B:Bt K mg a)(gY:CalX P w K mg base "is_whole" ["thing"] 1 (lH K a))(F:Fun K "is_whole_between" "is_whole_between" bW f fd):FnOk P w K mg base CX0 2 f fd ["thing","least","most"] (hJ K a):=by
 refine F.ok lC (by walk_at "ln") fun cdv A outer s H vs Q E hr h=>?_
 obtain ⟨x,lo,hi,rfl,ox,q⟩:=h
 refine ⟨_,(aR (aF (aV (aS (oO (pc gY hr rfl (aH (aK (pv 0) aC))) (oO (dR AU8 (pv 1) (pv 0) (aY _)) (sG (dR AU8 (pv 0) (pv 2) (aY _))))))))),?_⟩
 nofun
 refine ⟨x,rfl,ox,?_⟩
 cases x <;> simp_all [yV,AN4]
 split <;> simp_all
theorem oH (B:Bt K mg a)(F:Fun K "is_quiet_hours" "is_quiet_hours" cQ f fd):FnOk P w K mg base CX0 1 f fd ["thing"] (iM K a):=by
 refine F.ok nU (by walk_at "ln") fun cdv A outer s H vs Q E hr h=>?_
 obtain ⟨rfl,q⟩:=h
 refine ⟨_,(aR (aD (bE (iW (kP (pv 0))) (aF (aV (aS nK))) aQ) (fJ bO))),?_⟩
 exists decide_true
 exact q
theorem uD (B:Bt K mg a)(fG:CalX P w K mg base "is_whole_between" ["thing","least","most"] 2 (hJ K a))(F:Fun K "check_zone" "check_zone" eS f fd):FnOk P w K mg base CX0 3 f fd ["zone"] (mS K a):=by
 refine F.ok tW (by walk_at "ln") fun cdv A outer s H vs Q E hr h=>?_
 obtain ⟨z,rfl,z0,z1,q⟩:=h
 refine ⟨_,(aR (aF (bE (dF (cD (pc fG hr rfl (aH (aK (pv 0) (aK (bJ sH aG (dU (v:=.int 1440) rfl B.MINUTES_OF_DAY ⟨_,rfl⟩)) (aK (bJ sH (dU (v:=.int 1440) rfl B.MINUTES_OF_DAY ⟨_,rfl⟩) aG) aC))))))) (fJ bO) aQ))),?_⟩
 have e:AN4 (.int z) (1 - 1440) (1440 - 1)=true:=by simp only [AN4,Bool.and_eq_true,decide_eq_true_eq]; omega
 nofun
 refine ⟨_,_,_,rfl,⟨_,.int z,by kernel_rfl,by kernel_rfl⟩,?_⟩
 exists e,Bool.not_true
 exact q
theorem rX (B:Bt K mg a)(gF:CalX P w K mg base "is_quiet_hours" ["thing"] 1 (iM K a))(F:Fun K "check_quiet" "check_quiet" eA f fd):FnOk P w K mg base CX0 2 f fd ["quiet"] (kR K a):=by
 refine F.ok rO (by walk_at "ln") fun cdv A outer s H vs Q E hr h=>?_
 obtain ⟨rfl,q⟩:=h
 refine ⟨_,(aR (aF (bE (dF (cD (pc gF hr rfl (aH (aK (pv 0) aC))))) (fJ bO) aQ))),?_⟩
 nofun
 refine ⟨rfl,?_⟩
 exists Bool.not_true
 exact q
theorem uE (B:Bt K mg a)(bL:CalX P w K mg base "is_whole_from" ["thing","least"] 2 (eO K a))(F:Fun K "check_wake" "check_wake" eV f fd):FnOk P w K mg base CX0 3 f fd ["wake","quiet"] (mX K a):=by
 refine F.ok tX (by walk_at "ln") fun cdv A outer s H vs Q E hr h=>?_
 obtain ⟨rfl,q⟩:=h
 refine ⟨_,(aR (aD (bE (iW (kP (pv 0))) (aF (bD AC2)) aQ) (aF (bE (L2.PW.pt (jC (iW (kP (pv 1))) (iG (dF (cD (pc bL hr rfl (aH (aK (pv 0) (aK aG aC))))))))) (fJ bO) aQ)))),?_⟩
 exists decide_true
 exact q
theorem rY (B:Bt K mg a)(F:Fun K "check_lines" "check_lines" eH f fd):FnOk P w K mg base CX0 1 f fd ["lines"] (kW K a):=by
 refine F.ok rQ (by walk_at "ln") fun cdv A outer s H vs Q E hr h=>?_
 obtain ⟨lv,xs,ts,Z,rfl,hv,q⟩:=h
 refine ⟨_,(aR (aD (bE (iW (kP (pv 0))) (aF (bD AC2)) aQ) (aF (bE (L2.PW.pt (jC (dF (cD (aT (iP (K:=K) (T:="list") rfl) rfl B.isinstance PyProof.Rows.boot_isinstance (aH (aK (pv 0) (aK (iC (v:=.ty "list") rfl B.list PyProof.Rows.boot_list rfl) aC))) (he:=aJ _ _ _ rfl) (hpl:=aL rfl)))) (iG (dF (cD (aT (tH rfl) rfl B.all PyProof.Rows.boot_all (aH (aK (dS ["line"] [none] rfl (by kernel_rfl) (cL (pv 0)) (fun cl C s H fp=>⟨(bC (i:=0) (by decide:List.Nodup (["line"]:List Str)) rfl (Or.inl (by kernel_rfl)) (Or.inr (by kernel_rfl))),gA,(aT (kZ (K:=K) rfl) (nP (by kernel_rfl)) B.isinstance PyProof.Rows.boot_isinstance (aH (aK (pv 0 (hv:=Or.inl (by kernel_rfl))) (aK (dU (v:=.ref _) (nP (by kernel_rfl)) B.Line rfl) aC))) (he:=aJ _ _ _ rfl) (hpl:=aL rfl))⟩)) aC)) (he:=aJ _ _ _ rfl) (hpl:=aL rfl))))))) (fJ bO) aQ)))),?_⟩
 rcases hv with ⟨rfl,rfl⟩ | ⟨lp,rfl,hl,hA,l100⟩
 ·exists decide_true
  exact q _ (fO _)
 nofun
 refine ⟨_,_,true,rfl,.lst hl,by kernel_rfl,?_⟩
 exists Bool.not_true
 refine ⟨⟨xs,SqL.of hl⟩,?_⟩
 refine CompL.by (xs:=xs) (fun i acc σ H'=>acc=((xs.take i).map fun _=>true).map V.bl/\(∃ v,σ=[v])/\H'=H) (sz8 (by omega)) ⟨rfl,⟨_,rfl⟩,rfl⟩ (fun i acc σ H' _ h=>by rw [h.2.2]; exact SqL.of hl) ?_ ?_ ?_
 ·rintro i y acc σ H' hy ⟨rfl,⟨v,rfl⟩,rfl⟩
  have ea:((xs.take i).map fun _=>true).map V.bl++[V.bl true]=((xs.take (i+1)).map fun _=>true).map V.bl:=by
   rw [List.take_succ,hy,List.map_append,List.map_append]
   rfl
  obtain ⟨L,_,p,dl,vf,yp,lr,rfl,h1,_⟩:=hA.get hy
  nofun
  refine ⟨_,_,_,true,rfl,B.ck_Line.ty h1,B.is_Line_Line,?_⟩
  first | exact ⟨ea,⟨_,rfl⟩,rfl⟩ | exact ea | exact ⟨ea,rfl⟩
 ·rintro i acc σ H' ⟨rfl,_,_⟩
  rw [List.length_map,List.length_map,List.length_take]
  omega
 ·rintro acc σ H' ⟨rfl,⟨v,rfl⟩,rfl⟩ D hD
  rw [List.take_length]
  have S2:=aE hD (.lst ((xs.map fun _=>true).map V.bl))
  refine ⟨D,rfl,_,SqL.of aA,?_⟩
  have ha:(xs.map fun _=>true).all id=true:=by rw [List.all_map,List.all_eq_true]; intro _ _; rfl
  generalize upd H' D (.lst ((xs.map fun _=>true).map V.bl))=H2 at *
  exists ha,Bool.not_true
  exact q _ S2
theorem lfs (f y r s z:V):lX ("fit":Str) f []=([("fit",f)]:List (Str × V))/\lX ("way":Str) y ([("fit",f)]:List (Str × V))=([("fit",f),("way",y)]:List (Str × V))/\lX ("roads":Str) r ([("fit",f),("way",y)]:List (Str × V))=([("fit",f),("way",y),("roads",r)]:List (Str × V))/\lX ("sure":Str) s ([("fit",f),("way",y),("roads",r)]:List (Str × V))=([("fit",f),("way",y),("roads",r),("sure",s)]:List (Str × V))/\lX ("raised":Str) z ([("fit",f),("way",y),("roads",r),("sure",s)]:List (Str × V))=lFs f y r s z:=by
 refine ⟨rfl,fW fun q hq=>?_,fW fun q hq=>?_,fW fun q hq=>?_,fW fun q hq=>?_⟩
 ·simp only [List.mem_cons,List.not_mem_nil,or_false] at hq
  rcases hq with rfl <;> (dsimp only; decide)
 ·simp only [List.mem_cons,List.not_mem_nil,or_false] at hq
  rcases hq with rfl | rfl <;> (dsimp only; decide)
 ·simp only [List.mem_cons,List.not_mem_nil,or_false] at hq
  rcases hq with rfl | rfl | rfl <;> (dsimp only; decide)
 ·simp only [List.mem_cons,List.not_mem_nil,or_false] at hq
  rcases hq with rfl | rfl | rfl | rfl <;> (dsimp only; decide)
theorem wfs (z q k l:V):lX ("zone":Str) z []=([("zone",z)]:List (Str × V))/\lX ("quiet":Str) q ([("zone",z)]:List (Str × V))=([("zone",z),("quiet",q)]:List (Str × V))/\lX ("wake":Str) k ([("zone",z),("quiet",q)]:List (Str × V))=([("zone",z),("quiet",q),("wake",k)]:List (Str × V))/\lX ("lines":Str) l ([("zone",z),("quiet",q),("wake",k)]:List (Str × V))=wFs z q k l:=by
 refine ⟨rfl,fW fun q hq=>?_,fW fun q hq=>?_,fW fun q hq=>?_⟩
 ·simp only [List.mem_cons,List.not_mem_nil,or_false] at hq
  rcases hq with rfl <;> (dsimp only; decide)
 ·simp only [List.mem_cons,List.not_mem_nil,or_false] at hq
  rcases hq with rfl | rfl <;> (dsimp only; decide)
 ·simp only [List.mem_cons,List.not_mem_nil,or_false] at hq
  rcases hq with rfl | rfl | rfl <;> (dsimp only; decide)
theorem qY (B:Bt K mg a)(F:Fun K "check_by_way" "check_by_way" dP f fd):FnOk P w K mg base CX0 1 f fd ["way","roads","sure","raised"] (jM K a):=by
 refine F.ok qL (by walk_at "ln") fun cdv A outer s H vs Q E hr h=>?_
 obtain ⟨yp,rp,dy,rs,rfl,hw,hr1,q⟩:=h
 refine ⟨_,(aR (aF (bE (dF (cD (aT (kZ (K:=K) rfl) rfl B.isinstance PyProof.Rows.boot_isinstance (aH (aK (pv 0) (aK (dU (v:=.ref _) rfl B.Never rfl) aC))) (he:=aJ _ _ _ rfl) (hpl:=aL rfl)))) (aF (bE (aW eN (aT bI rfl B.len PySem.boot_len (aH (aK (pv 1) aC))) aG (aY _)) (fJ bO) aQ)) (aF (bE (L2.PW.pt (jC (aW wL (aT bI rfl B.len PySem.boot_len (aH (aK (pv 1) aC))) aG (aY _)) (jC (cD (pv 2)) (iG (iW (wK (pv 3))))))) (fJ bO) aQ))))),?_⟩
 nofun
 rcases hw with ⟨hy,ne⟩ | ⟨hy,rfl⟩
 ·refine ⟨_,_,_,false,rfl,B.ck_Now.ty hy,B.is_Now_Never,?_⟩
  exists Bool.not_false
  refine ⟨_,.inl (SqL.of hr1),?_⟩
  have l0:rs.length≠0:=fun z=>ne (List.eq_nil_of_length_eq_zero z)
  exists List.length_map
  rw [if_neg (by omega)]
  exact q
 ·refine ⟨_,_,_,true,rfl,B.ck_Never.ty hy,B.is_Never_Never,?_⟩
  exists Bool.not_true
  refine ⟨_,.inl (SqL.of hr1),?_⟩
  exists List.map_nil,List.length_nil,decide_true,not_true_eq_false
  first | exact q | (rw [if_neg (by decide)]; exists decide_true,not_true_eq_false; first | exact q | (rw [if_neg (fun h=>h rfl)]; exact q))
theorem pG (B:Bt K mg a)(iF:CalX P w K mg base "check_by_way" ["way","roads","sure","raised"] 1 (jM K a))(cC:CalX P w K mg base "are_unlike_names" ["thing"] 2 (eP K a))(F:FunA K "__init__" "Line.__init__" bK f fd):FnOk P w K mg base CX0 3 f fd ["self","fit","way","roads","sure","raised"] (gE K a):=by
 refine FunA.ok F oZ (fun vs H Q E h=>?_) (fun cdv A outer s H vs Q E hr h=>?_)
 ·obtain ⟨p,dx,yp,rp,dy,vf,t,rs,rfl,_⟩:=h
  rfl
 obtain ⟨p,dx,yp,rp,dy,vf,t,rs,rfl,hp,hf,hw,hr1,hrs,q⟩:=h
 refine ⟨_,(aR (aD (bE (dF (cD (aT (kZ (K:=K) rfl) rfl B.isinstance PyProof.Rows.boot_isinstance (aH (aK (pv 1) (aK (dU (v:=.ref _) rfl B.Fit rfl) aC))) (he:=aJ _ _ _ rfl) (hpl:=aL rfl)))) (fJ bO) aQ) (aD (bE (dF (cD (aT (kZ (K:=K) rfl) rfl B.isinstance PyProof.Rows.boot_isinstance (aH (aK (pv 2) (aK (dU (v:=.ref _) rfl B.Way rfl) aC))) (he:=aJ _ _ _ rfl) (hpl:=aL rfl)))) (fJ bO) aQ) (aD (bE (dF (cD (pc cC hr rfl (aH (aK (pv 3) aC))))) (fJ bO) aQ) (aD (bE (dF (cD (aT (iP (K:=K) (T:="bool") rfl) rfl B.isinstance PyProof.Rows.boot_isinstance (aH (aK (pv 4) (aK (iC (v:=.ty "bool") rfl B.bool PyProof.Rows.boot_bool rfl) aC))) (he:=aJ _ _ _ rfl) (hpl:=aL rfl)))) (fJ bO) aQ) (aD (bE (L2.PW.pt (uT (iW (wK (pv 5))) (pS (dF (cD (aT (kZ (K:=K) rfl) rfl B.isinstance PyProof.Rows.boot_isinstance (aH (aK (pv 5) (aK (dU (v:=.ref _) rfl B.Raised rfl) aC))) (he:=aJ _ _ _ rfl) (hpl:=aL rfl))))))) (fJ bO) aQ) (aD (bD (cE (pc iF hr rfl (aH (aK (pv 2) (aK (pv 3) (aK (pv 4) (aK (pv 5) aC)))))))) (aD (bD (fH (pv 0) (pv 1) rfl)) (aD (bD (fH (pv 0) (pv 2) rfl)) (aD (bD (fH (pv 0) (bH cV rfl B.list PyProof.Rows.boot_list (aH (aK (pv 3) aC))) rfl)) (aD (bD (fH (pv 0) (pv 4) rfl)) (aF (bD (fH (pv 0) (pv 5) rfl)))))))))))))),?_⟩
 obtain ⟨pf,dxf,fs,rfl,hpf,_⟩:=hf.ins
 have hk:ClsK K (t.cls (fc a))/\kitOne K (.ref (t.cls (fc a))) (.ref a.Fit)=some true:=by
  cases t with
  | any=>exact ⟨B.ck_Any,B.is_Any_Fit⟩
  | kind us=>exact ⟨B.ck_Kind,B.is_Kind_Fit⟩
  | place us=>exact ⟨B.ck_Place,B.is_Place_Fit⟩
  | weight n=>exact ⟨B.ck_Least,B.is_Least_Fit⟩
  | not t=>exact ⟨B.ck_Not,B.is_Not_Fit⟩
  | both ts=>exact ⟨B.ck_Both,B.is_Both_Fit⟩
  | either ts=>exact ⟨B.ck_Either,B.is_Either_Fit⟩
 have wy:∃ tw,TyOf K H (.ref yp) tw/\kitOne K tw (.ref a.Way)=some true:=by
  rcases hw with ⟨hy,_⟩ | ⟨hy,_⟩
  ·exact ⟨_,B.ck_Now.ty hy,B.is_Now_Way⟩
  ·exact ⟨_,B.ck_Never.ty hy,B.is_Never_Way⟩
 obtain ⟨tw,tyw,ew⟩:=wy
 have nmB:qM (rs.map V.str)=true/\(∀ z∈rs.map V.str,okN H z)/\(rs.map V.str).length<=100:=by
  rcases hrs with rfl | rfl
  ·exact ⟨by decide +kernel,(fun z hz=>by cases hz),by decide⟩
  ·refine ⟨by decide +kernel,fun z hz=>?_,by decide⟩
   simp only [List.map_cons,List.map_nil,List.mem_cons,List.not_mem_nil,or_false] at hz
   subst hz
   exact ⟨by decide +kernel,by decide +kernel⟩
 nofun
 refine ⟨_,_,_,true,rfl,hk.1.ty hpf,hk.2,?_⟩
 exists Bool.not_true
 refine ⟨_,_,tw,true,rfl,tyw,ew,?_⟩
 exists Bool.not_true
 refine ⟨_,true,rfl,.inl ⟨rp,_,rfl,hr1,nmB.2.2,nmB.2.1,nmB.1.symm⟩,fun H1 S1=>?_⟩
 exists Bool.not_true
 refine ⟨_,_,true,rfl,.bl false,by kernel_rfl,?_⟩
 exists Bool.not_true
 have hw1:(H1 yp=some (.ins a.Now dy [])/\rs≠[])\/(H1 yp=some (.ins a.Never dy [])/\rs=[]):=by
  rcases hw with ⟨hy,e⟩ | ⟨hy,e⟩
  ·exact .inl ⟨S1 _ _ hy,e⟩
  ·exact .inr ⟨S1 _ _ hy,e⟩
 refine ⟨yp,rp,dy,rs,rfl,hw1,S1 _ _ hr1,?_⟩
 nofun
 have nrp:rp≠p:=fun z=>by rw [z,hp] at hr1; cases hr1
 obtain ⟨e1,_⟩:=lfs (.ref pf) (.ref yp) (.ref rp) (.bl false) .non
 refine ⟨_,_,_,S1 _ _ hp,B.ck_Line.cl,B.na_Line_fit,by decide,_,_,_,aA,B.ck_Line.cl,B.na_Line_way,by rw [e1]; simp only [List.length_cons,List.length_nil]; decide,?_⟩
 refine ⟨_,.inl (SqL.of (by rw [aO nrp,aO nrp]; exact S1 _ _ hr1)),fun l hl=>?_⟩
 have nlp:l≠p:=fun z=>by rw [z,aA] at hl; cases hl
 have hl1:H1 l=none:=by rw [aO nlp,aO nlp] at hl; exact hl
 obtain ⟨e1,e2,e3,e4,e5⟩:=lfs (.ref pf) (.ref yp) (.ref l) (.bl false) .non
 refine ⟨_,_,_,by rw [aO nlp.symm]; exact aA,B.ck_Line.cl,B.na_Line_roads,by rw [e1,e2]; simp only [List.length_cons,List.length_nil]; decide,_,_,_,aA,B.ck_Line.cl,B.na_Line_sure,by rw [e1,e2,e3]; simp only [List.length_cons,List.length_nil]; decide,_,_,_,aA,B.ck_Line.cl,B.na_Line_raised,by rw [e1,e2,e3,e4]; simp only [List.length_cons,List.length_nil]; decide,?_⟩
 refine q l _ (fun b o n e=>?_) ?_
 ·rw [aO n,aO n,aO n,aO (aP (S1 _ _ e) hl1),aO n,aO n]
  exact S1 b o e
 ·rw [aA,e1,e2,e3,e4,e5]
theorem nG (B:Bt K mg a)(jQ:CalX P w K mg base "check_zone" ["zone"] 3 (mS K a))(iU:CalX P w K mg base "check_quiet" ["quiet"] 2 (kR K a))(jR:CalX P w K mg base "check_wake" ["wake","quiet"] 3 (mX K a))(iV:CalX P w K mg base "check_lines" ["lines"] 1 (kW K a))(F:FunA K "__init__" "Wishes.__init__" bA f fd):FnOk P w K mg base CX0 4 f fd ["self","zone","quiet","wake","lines"] (cZ K a):=by
 refine FunA.ok F mR (fun vs H Q E h=>?_) (fun cdv A outer s H vs Q E hr h=>?_)
 ·obtain ⟨p,dx,z,lv,xs,ts,Z,rfl,_⟩:=h
  rfl
 obtain ⟨p,dx,z,lv,xs,ts,Z,rfl,hp,z0,z1,hv,q⟩:=h
 refine ⟨_,(aR (aD (bD (cE (pc jQ hr rfl (aH (aK (pv 1) aC))))) (aD (bD (cE (pc iU hr rfl (aH (aK (pv 2) aC))))) (aD (bD (cE (pc jR hr rfl (aH (aK (pv 3) (aK (pv 2) aC)))))) (aD (bD (cE (pc iV hr rfl (aH (aK (pv 4) aC))))) (aD (bD (fH (pv 0) (pv 1) rfl)) (aD (bD (fH (pv 0) (pv 2) rfl)) (aD (bD (fH (pv 0) (pv 3) rfl)) (aF (bD (fH (pv 0) (sX (iW (kP (pv 4))) (fI (aH aC)) (bH cV rfl B.list PyProof.Rows.boot_list (aH (aK (pv 4) aC)))) rfl))))))))))),?_⟩
 nofun
 refine ⟨z,rfl,z0,z1,?_⟩
 nofun
 refine ⟨rfl,?_⟩
 nofun
 refine ⟨rfl,?_⟩
 nofun
 refine ⟨lv,xs,ts,Z,rfl,hv,fun H1 S1=>?_⟩
 nofun
 obtain ⟨e1,e2,e3,e4⟩:=wfs (.int z) .non .non .non
 refine ⟨_,_,_,S1 _ _ hp,B.ck_Wishes.cl,B.na_Wishes_zone,by decide,_,_,_,aA,B.ck_Wishes.cl,B.na_Wishes_quiet,by rw [e1]; simp only [List.length_cons,List.length_nil]; decide,_,_,_,aA,B.ck_Wishes.cl,B.na_Wishes_wake,by rw [e1,e2]; simp only [List.length_cons,List.length_nil]; decide,?_⟩
 rcases hv with ⟨rfl,rfl⟩ | ⟨lp,rfl,hl,hA,l100⟩
 ·exists decide_true
  refine ⟨Nat.zero_le _,fun l' hl'=>?_⟩
  have nlp:l'≠p:=fun z=>by rw [z,aA] at hl'; cases hl'
  have hl1:H1 l'=none:=by rw [aO nlp,aO nlp,aO nlp] at hl'; exact hl'
  obtain ⟨f1,f2,f3,f4⟩:=wfs (.int z) .non .non (.ref l')
  refine ⟨_,_,_,by rw [aO nlp.symm]; exact aA,B.ck_Wishes.cl,B.na_Wishes_lines,by rw [f1,f2,f3]; simp only [List.length_cons,List.length_nil]; decide,?_⟩
  refine q l' _ (fun b o n e=>?_) ?_ ?_
  ·rw [aO n,aO (aP (S1 _ _ e) hl1),aO n,aO n,aO n]
   exact S1 b o e
  ·rw [aO nlp]
   exact aA
  ·rw [aA,f1,f2,f3,f4]
 ·nofun
  have nlq:lp≠p:=fun z=>by rw [z,hp] at hl; cases hl
  refine ⟨_,.inl (SqL.of (by rw [aO nlq,aO nlq,aO nlq]; exact S1 _ _ hl)),fun l' hl'=>?_⟩
  have nlp:l'≠p:=fun z=>by rw [z,aA] at hl'; cases hl'
  have hl1:H1 l'=none:=by rw [aO nlp,aO nlp,aO nlp] at hl'; exact hl'
  obtain ⟨f1,f2,f3,f4⟩:=wfs (.int z) .non .non (.ref l')
  refine ⟨_,_,_,by rw [aO nlp.symm]; exact aA,B.ck_Wishes.cl,B.na_Wishes_lines,by rw [f1,f2,f3]; simp only [List.length_cons,List.length_nil]; decide,?_⟩
  refine q l' _ (fun b o n e=>?_) ?_ ?_
  ·rw [aO n,aO (aP (S1 _ _ e) hl1),aO n,aO n,aO n]
   exact S1 b o e
  ·rw [aO nlp]
   exact aA
  ·rw [aA,f1,f2,f3,f4]
theorem zN {a:Ad}{H:Hp}{ts:List Tr}{i:Nat}{x:V}(h:(x=.non/\∀ k p w,0<=w->won ts i k p w=false)\/HapR a H ts i x):(x=.non/\dead ts i=true)\/(x≠.non/\dead ts i=false):=by
 rcases h with ⟨e,h⟩ | ⟨hp,dh,k,p,w,e,_,_,_,w0,_,hw⟩
 ·exact .inl ⟨e,BG3 h⟩
 ·exact .inr ⟨(by rw [e]; intro z; cases z),BG4 w0 hw⟩
theorem pQ {ts:List Tr}{i:Nat}:((List.range (i+1)).filter (dead ts))=(List.range i).filter (dead ts)++[i].filter (dead ts):=by rw [List.range_succ,List.filter_append]
theorem qZ {xs:List V}{n:Nat}:BB1 xs none (some (n:Int))=xs.take n:=by
 unfold BB1
 rw [HT.sIx_none,HT.sIx_nat,List.drop_zero,Nat.sub_zero]
 by_cases h:n<=xs.length
 ·rw [Nat.min_eq_left h]
 ·rw [Nat.min_eq_right (by omega),List.take_length,List.take_of_length_le (by omega)]
theorem rA {α β:Type}{R:α->β->Prop}:∀ {ts:List α}{xs:List β}(n:Nat),All2 R ts xs->All2 R (ts.take n) (xs.take n)
 | _,_,0,_=>.nil
 | _,_,_+1,.nil=>.nil
 | _,_,n+1,.cons h r=>.cons h (rA n r)
theorem pI (B:Bt K mg a)(jZ:CalX P w K mg base "firsts" ["fits"] 8 (qO K a))(F:Fun K "winner" "Wishes.winner" dJ f fd):FnOk P w K mg base CX0 9 f fd ["self","number"] (iZ K a):=by
 refine F.ok pB (by walk_at "ln") fun cdv A outer s H vs Q E hr h=>?_
 obtain ⟨wp,lp,n,xs,ts,rfl,hw,hA,hT,q⟩:=h
 refine ⟨_,(aR (aD (bE (L2.PW.pt (jC (aW zS (pv 1) aG (aY _)) (iG (aW AM5 (pv 1) (aT bI rfl B.len PySem.boot_len (aH (aK (eK (pv 0) rfl) aC))) (aY _))))) (aF (aV (aS sE))) aQ) (aF (aV (aS (bG dW (pc jZ hr rfl (aH (aK (dS ["line"] [none] rfl (by kernel_rfl) (cL (jU wP (eK (pv 0) rfl) nM (nN (bJ iI (pv 1) aG)))) (fun cl C s H fp=>⟨(bC (i:=0) (by decide:List.Nodup (["line"]:List Str)) rfl (Or.inl (by kernel_rfl)) (Or.inr (by kernel_rfl))),gA,(AS8 (K:=K) rfl (pv 0 (hv:=Or.inl (by kernel_rfl))) rfl)⟩)) aC))) (pv 1) (fun _ _=>rfl))))))),?_⟩
 obtain ⟨dx,z,q0,k0,h1,h2⟩:=hw
 have ln:=hA.len
 have l4:=hT.len
 nofun
 by_cases c:n < 0
 ·rw [if_pos c]
  exact q .non H (fO _) (fun _=>rfl) (fun z=>absurd z (by omega))
 rw [if_neg c]
 refine ⟨_,_,_,h1,B.ck_Wishes.cl,B.na_Wishes_lines,.ref lp,rfl,?_⟩
 refine ⟨lp,rfl,_,.inl (SqL.of h2),?_⟩
 by_cases c2:(xs.length:Int)<=n
 ·rw [if_pos c2]
  exact q .non H (fO _) (fun _=>rfl) (fun z z2=>absurd z2 (by omega))
 rw [if_neg c2]
 obtain ⟨m,rfl⟩:∃ m:Nat,n=m:=⟨n.toNat,by omega⟩
 refine ⟨_,_,_,h1,B.ck_Wishes.cl,B.na_Wishes_lines,.ref lp,rfl,?_⟩
 nofun
 refine ⟨lp,xs,rfl,SqL.of h2,fun sl hsl=>?_⟩
 rw [show ((m:Int)+1)=((m+1:Nat):Int) by omega,qZ]
 have Ss:=aE hsl (.lst (xs.take (m+1)))
 have hA2:All2 (LnT a (fun _=>True) (upd H sl (.lst (xs.take (m+1))))) (ts.take (m+1)) (xs.take (m+1)):=rA _ (hA.imp fun _ _ _ h=>h.same Ss)
 have hs2:upd H sl (.lst (xs.take (m+1))) sl=some (.lst (xs.take (m+1))):=aA
 have lt2:(xs.take (m+1)).length<=xs.length:=by rw [List.length_take]; omega
 generalize upd H sl (.lst (xs.take (m+1)))=H1 at *
 nofun
 refine ⟨⟨_,SqL.of hs2⟩,?_⟩
 refine CompL.by (xs:=xs.take (m+1)) (fun i acc σ H'=>All2 (Tr.Fit (fc a) H1) ((ts.take (m+1)).take i) acc/\(∃ v,σ=[v])/\H'=H1) (sz8 (by omega)) ⟨.nil,⟨_,rfl⟩,rfl⟩ (fun i acc σ H' _ h=>by rw [h.2.2]; exact SqL.of hs2) ?_ ?_ ?_
 ·rintro i y acc σ H' hy ⟨hF,⟨v,rfl⟩,rfl⟩
  obtain ⟨t,e,p,dl,vf,yp,lr,rfl,h1,h2⟩:=hA2.get hy
  have new:All2 (Tr.Fit (fc a) H') ((ts.take (m+1)).take (i+1)) (acc++[vf]):=by
   rw [List.take_succ,e]
   exact hF.snoc (qN h2)
  nofun
  refine ⟨_,_,_,h1,B.ck_Line.cl,B.na_Line_fit,vf,rfl,?_⟩
  first | exact ⟨new,⟨_,rfl⟩,rfl⟩ | exact ⟨new,rfl⟩ | exact new
 ·rintro i acc σ H' ⟨hF,_,_⟩
  rw [<- hF.len,List.length_take]
  omega
 rintro acc σ H' ⟨hF,⟨v,rfl⟩,rfl⟩ D hD
 rw [<- hA2.len,List.take_length] at hF
 have Sd:=aE hD (.lst acc)
 have sle:=eQ ts (m+1)
 have sT:=hT.sum
 refine ⟨D,acc,ts.take (m+1),rfl,aA,hF.imp (fun t y _ h=>h.same Sd),(fun t mt=>hT.ok t (List.mem_of_mem_take mt)),by omega,fun r rs H2 S2 er FR=>?_⟩
 have lt:m < rs.length:=by rw [FR.1,List.length_take]; omega
 have e1:rs[m]?=some rs[m]:=List.getElem?_eq_getElem lt
 nofun
 refine ixl (SqL.of er) (v:=rs[m]) (by rw [jX]; exact e1) ?_
 refine q _ H2 (Ss.trans (Sd.trans S2)) (fun z=>absurd z (by omega)) fun _ _=>?_
 rw [Int.toNat_natCast]
 rcases FR.2 m _ e1 with ⟨hn,h⟩ | ⟨hp,dh,k,p,w,e,hh,gk,gp,w0,w1,hw⟩
 ·exact .inl ⟨hn,fun k p w w0=>by have:=h k p w w0; rw [zM] at this; exact this⟩
 ·exact .inr ⟨hp,dh,k,p,w,e,hh,gk,gp,w0,w1,by rw [zM] at hw; exact hw⟩
theorem rZ (B:Bt K mg a)(jZ:CalX P w K mg base "firsts" ["fits"] 8 (qO K a))(F:Fun K "idle" "Wishes.idle" eF f fd):FnOk P w K mg base CX0 9 f fd ["self"] (kU K a):=by
 refine F.ok sc_Wishes_idle (by walk_at "ln") fun cdv A outer s H vs Q E hr h=>?_
 obtain ⟨wp,lp,xs,ts,rfl,hw,hA,hT,q⟩:=h
 refine ⟨_,(aR (aD (aX (i:=1) sc_Wishes_idle.nd rfl (Or.inl rfl) (aS (pc jZ hr rfl (aH (aK (dS ["line"] [none] rfl (by kernel_rfl) (cL (eK (pv 0) rfl)) (fun cl C s H fp=>⟨(bC (i:=0) (by decide:List.Nodup (["line"]:List Str)) rfl (Or.inl (by kernel_rfl)) (Or.inr (by kernel_rfl))),gA,(AS8 (K:=K) rfl (pv 0 (hv:=Or.inl (by kernel_rfl))) rfl)⟩)) aC)))) (by kernel_rfl)) (aF (aV (aS (dS ["number","happening"] [none,none] rfl (by kernel_rfl) (AH6 rfl B.enumerate (aH (aK (pv 1) aC))) (fun cl C s H fp=>⟨(BG2 (K:=K) (n:=2) rfl rfl (pN (bC (i:=0) (by decide:List.Nodup (["number","happening"]:List Str)) rfl (Or.inl (by kernel_rfl)) (Or.inr (by kernel_rfl))) (pN (bC (i:=1) (by decide:List.Nodup (["number","happening"]:List Str)) rfl (Or.inl (by kernel_rfl)) (Or.inr (by kernel_rfl))) AC3))),(tF (iW (kP (pv 1 (hv:=Or.inl (by kernel_rfl)))))),(pv 0 (hv:=Or.inl (by kernel_rfl)))⟩))))))),?_⟩
 obtain ⟨dx,z,q0,k0,h1,h2⟩:=hw
 have ln:=hA.len
 have l4:=hT.len
 nofun
 refine ⟨_,_,_,h1,B.ck_Wishes.cl,B.na_Wishes_lines,.ref lp,rfl,?_⟩
 nofun
 refine ⟨⟨_,SqL.of h2⟩,?_⟩
 refine CompL.by (xs:=xs) (fun i acc σ H'=>All2 (Tr.Fit (fc a) H) ((ts).take i) acc/\(∃ v,σ=[v])/\H'=H) (sz8 (by omega)) ⟨.nil,⟨_,rfl⟩,rfl⟩ (fun i acc σ H' _ h=>by rw [h.2.2]; exact SqL.of h2) ?_ ?_ ?_
 ·rintro i y acc σ H' hy ⟨hF,⟨v,rfl⟩,rfl⟩
  obtain ⟨t,e,p,dl,vf,yp,lr,rfl,h1,h2⟩:=hA.get hy
  have new:All2 (Tr.Fit (fc a) H') ((ts).take (i+1)) (acc++[vf]):=by
   rw [List.take_succ,e]
   exact hF.snoc (qN h2)
  nofun
  refine ⟨_,_,_,h1,B.ck_Line.cl,B.na_Line_fit,vf,rfl,?_⟩
  first | exact ⟨new,⟨_,rfl⟩,rfl⟩ | exact ⟨new,rfl⟩ | exact new
 ·rintro i acc σ H' ⟨hF,_,_⟩
  rw [<- hF.len,List.length_take]
  omega
 rintro acc σ H' ⟨hF,⟨v,rfl⟩,rfl⟩ D hD
 rw [<- ln,List.take_length] at hF
 have Sd:=aE hD (.lst acc)
 refine ⟨D,acc,ts,rfl,aA,hF.imp (fun t y _ h=>h.same Sd),hT.ok,hT.sum,fun r rs H2 S2 er FR=>?_⟩
 have SA:=Sd.trans S2
 have lr:=FR.1
 nofun
 refine ⟨⟨_,SqL.of er⟩,?_⟩
 refine CompE.by (xs:=rs) (fun i acc σ G=>acc=(((List.range i).filter (dead ts)).map fun i=>V.int (i:Nat))/\(∃ v1 v2,σ=[v1,v2])/\Same H2 G) (sz8 (by omega)) ⟨rfl,⟨_,_,rfl⟩,fO _⟩ (fun i acc σ G _ h=>SqL.of (h.2.2 _ _ er)) ?_ ?_ ?_
 ·rintro i x acc σ G pt hx ⟨rfl,⟨v1,v2,rfl⟩,SG⟩ hpt
  have Sp:=aE hpt (.tup [.int (i:Nat),x])
  have SqP:SqT K (upd G pt (.tup [.int (i:Nat),x])) pt [.int (i:Nat),x]:=SqT.of aA
  have SG2:=SG.trans Sp
  nofun
  generalize upd G pt (.tup [.int (i:Nat),x])=G2 at *
  refine ⟨_,SqP,rfl,_,_,rfl,_,_,rfl,rfl,?_⟩
  rcases zN (FR.2 i x hx) with ⟨e,hd⟩ | ⟨e,hd⟩
  ·rw [if_pos e]
   have ea:(((List.range i).filter (dead ts)).map fun i=>V.int (i:Nat))++[V.int (i:Nat)]=(((List.range (i+1)).filter (dead ts)).map fun i=>V.int (i:Nat)):=by
    rw [pQ,List.filter_cons_of_pos hd,List.map_append]; rfl
   first | exact ⟨ea,⟨_,_,rfl⟩,SG2⟩ | exact ⟨ea,SG2⟩
  ·rw [if_neg e]
   have ea:(((List.range i).filter (dead ts)).map fun i=>V.int (i:Nat))=(((List.range (i+1)).filter (dead ts)).map fun i=>V.int (i:Nat)):=by
    rw [pQ,List.filter_cons_of_neg (by rw [hd]; exact Bool.false_ne_true)]; simp
   first | exact ⟨ea,⟨_,_,rfl⟩,SG2⟩ | exact ⟨ea,SG2⟩
 ·rintro i acc σ G ⟨rfl,_,_⟩
  rw [List.length_map]
  have:=List.length_filter_le (dead ts) (List.range i)
  rw [List.length_range] at this
  exact this
 ·rintro acc σ G ⟨rfl,⟨v1,v2,rfl⟩,SG⟩ D2 hD2
  exact q D2 _ (SA.trans (SG.trans (aE hD2 _))) ((SA.trans SG).free hD2) (by rw [aA,lr]; rfl)
def ThS (H:Hp)(xs:List V):Prop:=∀ x∈xs,∃ k p w,ThAt H x k p w
theorem ThS.same {H H':Hp}{xs:List V}(h:ThS H xs)(s:Same H H'):ThS H' xs:=fun x m=>let ⟨k,p,w,h⟩:=h x m; ⟨k,p,w,h.same s⟩
theorem ThS.app {H:Hp}{xs ys:List V}(h:ThS H xs)(g:ThS H ys):ThS H (xs++ys):=fun x m=>(List.mem_append.mp m).elim (h x) (g x)
def AlO (J:Hp)(l q2 rk rp sl:Addr)(i:Nat)(σ:L2.St)(H1:Hp):Prop:=(∃ fp v6 v7 xs,σ=[some (.ref l),some (.ref q2),some (.ref rk),some (.ref rp),some (.ref sl),some (.ref fp),v6,v7]/\H1 fp=some (.lst xs)/\xs.length<=i * 4000/\ThS H1 xs)/\Same J H1
def AlI (J:Hp)(l q2 rk rp sl:Addr)(i:Nat)(k:Str)(j:Nat)(σ:L2.St)(H1:Hp):Prop:=(∃ fp v7 xs,σ=[some (.ref l),some (.ref q2),some (.ref rk),some (.ref rp),some (.ref sl),some (.ref fp),some (.str k),v7]/\H1 fp=some (.lst xs)/\xs.length<=i * 4000+j * 62/\ThS H1 xs)/\Same J H1
def AlC (H1:Hp)(k p:Str)(m:Nat)(acc:List V)(σ:L2.St)(H':Hp):Prop:=acc.length=m/\ThS H' acc/\(∃ v,σ=[v,some (.str k),some (.str p)])/\Same H1 H'
theorem AK9:∀ {xs:List V},(∀ x∈xs,∃ n:Int,x=.int n/\0<=n/\n < 1000000)->∃ ns:List Int,xs=ns.map V.int/\∀ n∈ns,0<=n/\n < 1000000
 | [],_=>⟨[],rfl,fun u h=>nomatch h⟩
 | x::xs,h=>by
  obtain ⟨u,rfl,g⟩:=h x (List.mem_cons_self ..)
  obtain ⟨us,rfl,gs⟩:=AK9 (xs:=xs) fun y m=>h y (List.mem_cons_of_mem _ m)
  exact ⟨u::us,rfl,fun v m=>(List.mem_cons.mp m).elim (fun e=>by rw [e]; exact g) (gs v)⟩
theorem AR2:∀ c∈("abcdefghijklmnopqrstuvwxyz":Str).cps.toList,cP ⟨#[c]⟩:=by decide +kernel
theorem uF (B:Bt K mg a)(F:Fun K "_law_beside" "_law_beside" eX f fd):FnOk P w K mg base CX0 1 f fd ["_law_names"] (mY K a):=by
 refine F.ok sc_law_beside (by walk_at "ln") fun cdv A outer s H vs Q E hr h=>?_
 obtain ⟨l,us,rfl,hl,lz,q⟩:=h
 refine ⟨_,(aR (aD (bD (eM PassesOwn.never rfl (AS7 bB) (bC (i:=1) sc_law_beside.nd rfl (Or.inl rfl)) (aR (aF (bE (aW oP (pv 1) (pv 0) (by with_unfolding_all rfl)) (aF (aV (AO0 mE (aS (pv 0)) (iY (aK (pv 1) aC))))) aQ))))) (aF (aV (AO0 mE (aS (pv 0)) (iY (aK bB aC))))))),?_⟩
 have cat:∀ (G:Hp) (S:Same H G) (u:Str),cP u->∀ (p:Addr),G p=none->∀ r,upd G p (.lst [.str u]) r=none->Q (.ref r) (upd (upd G p (.lst [.str u])) r (.lst (us.map V.str++[.str u]))):=fun G S u gu p hp r hr=>q r u _ (S.trans ((aE hp _).trans (aE hr _))) gu (by rw [aA]; simp)
 nofun
 refine ⟨by decide +kernel,?_⟩
 refine ForS.by (fun i σ H1=>(∃ v,σ=[some (.ref l),v])/\H1=H) ⟨⟨_,rfl⟩,rfl⟩ ?_ ?_
 ·rintro i c σ H1 hc ⟨⟨v,rfl⟩,rfl⟩
  have gc:cP ⟨#[c]⟩:=AR2 c (by rw [<- Array.getElem?_toList] at hc; exact List.mem_of_getElem? hc)
  nofun
  refine ⟨l,_,rfl,.inl (SqL.of hl),rfl,hV us,?_⟩
  rw [lN]
  by_cases cm:(⟨#[c]⟩:Str)∈us
  ·exists decide_eq_true cm,Bool.not_true
   all_goals first | trivial | exact ⟨⟨_,rfl⟩,rfl⟩ | exact rfl
  ·exists decide_eq_false cm,Bool.not_false
   refine ⟨sz8 (by decide),fun p hp=>?_⟩
   refine ⟨l,p,_,_,rfl,rfl,aE hp _ _ _ hl,aA,sz8 (by rw [List.length_map,List.length_singleton]; omega),fun r hr=>?_⟩
   exact cat _ (fO _) _ gc p hp r hr
 ·rintro σ H1 ⟨⟨v,rfl⟩,rfl⟩
  nofun
  refine ⟨sz8 (by decide),fun p hp=>?_⟩
  refine ⟨l,p,_,_,rfl,rfl,aE hp _ _ _ hl,aA,sz8 (by rw [List.length_map,List.length_singleton]; omega),fun r hr=>?_⟩
  exact cat _ (fO _) _ (by decide +kernel) p hp r hr
theorem AB1 (B:Bt K mg a)(iB:CalX P w K mg base "_law_beside" ["_law_names"] 1 (mY K a))(bF:CalX P w K mg base "_law_gathered" ["_law_tree_here","_law_word"] 7 (cO K a 7))(F:Fun K "_law_all" "_law_all" iL f fd):FnOk P w K mg base CX0 8 f fd ["_law_trees_here"] (sU K a):=by
 refine F.ok sc_law_all (by walk_at "ln") fun cdv A outer s H vs Q E hr h=>?_
 obtain ⟨l,vs0,ts,rfl,⟨hl,hA⟩,hT,q⟩:=h
 refine ⟨_,(aR (aD (aX (i:=1) sc_law_all.nd rfl (Or.inl rfl) (aS (iJ (aH (aK bB (aK (bH gH rfl B.tuple PyProof.Rows.boot_tuple (aH (aK (pv 0) aC))) aC))))) (by kernel_rfl)) (aD (aX (i:=2) sc_law_all.nd rfl (Or.inl rfl) (aS (pc iB hr rfl (aH (aK (pc bF hr rfl (aH (aK (pv 1) (aK bB aC)))) aC)))) (by kernel_rfl)) (aD (aX (i:=3) sc_law_all.nd rfl (Or.inl rfl) (aS (pc iB hr rfl (aH (aK (pc bF hr rfl (aH (aK (pv 1) (aK bB aC)))) aC)))) (by kernel_rfl)) (aD (aX (i:=4) sc_law_all.nd rfl (Or.inl rfl) (aS (aT (AA8 rfl) rfl B.sorted PyProof.Rows.boot_sorted (aH (aK (bH (AI2 rfl) rfl B.set PyProof.Rows.boot_set (aH (aK (bJ mE (fI (aH (aK aG aC))) (pc bF hr rfl (aH (aK (pv 1) (aK bB aC))))) aC))) aC)) (he:=aJ _ _ _ rfl) (hpl:=aL rfl))) (by kernel_rfl)) (aD (aX (i:=5) sc_law_all.nd rfl (Or.inl rfl) (iY aC) (by kernel_rfl)) (aD (bD (eM PassesOwn.never rfl (cL (pv 2)) (bC (i:=6) sc_law_all.nd rfl (Or.inr rfl)) (aR (aF (bD (eM PassesOwn.never rfl (cL (pv 3)) (bC (i:=7) sc_law_all.nd rfl (Or.inr rfl)) (aR (aF (aX (i:=5) sc_law_all.nd rfl (Or.inl rfl) (AO0 mE (aS (pv 5)) (aS (dS ["_law_weight","_law_kind","_law_place"] [none,some 6,some 7] rfl (by kernel_rfl) (cL (pv 4)) (fun cl C s H fp=>⟨(bC (i:=0) (by decide:List.Nodup (["_law_weight","_law_kind","_law_place"]:List Str)) rfl (Or.inl (by kernel_rfl)) (Or.inr (by kernel_rfl))),gA,(iJ (aH (aK (pv 1 (hv:=Or.inr (Or.inl (by kernel_rfl)))) (aK (pv 2 (hv:=Or.inr (Or.inl (by kernel_rfl)))) (aK (pv 0 (hv:=Or.inl (by kernel_rfl))) aC)))))⟩)))) (by kernel_rfl)))))))))) (aF (aV (aS (pv 5))))))))))),?_⟩
 have hok:=hT.ok
 nofun
 refine ⟨_,.inl ⟨SqL.of hl,fun q1 hq1=>⟨sz8 (by decide),fun q2 hq2=>?_⟩⟩⟩
 have S1:=aE hq1 (.tup vs0)
 have S2:=aE hq2 (.tup [.str "both",.ref q1])
 have S0:=S1.trans S2
 have hW:(Tr.both (Trs.ofL ts)).At (upd (upd H q1 (.tup vs0)) q2 (.tup [.str "both",.ref q1])) (.ref q2):=by
  rw [Tr.At]
  exact ⟨q2,q1,vs0,rfl,aA,S2 _ _ aA,trs_at.mpr (by rw [eL]; exact hA.imp fun t y _ h=>h.same S0)⟩
 have okW:(Tr.both (Trs.ofL ts)).okl:=by
  rw [Tr.okl]
  exact trs_okl.mpr (by rw [eL]; exact fun t m=>Tr.ok.l (hok t m).1)
 have dpW:(Tr.both (Trs.ofL ts)).dp < 7:=by
  have:=mL (n:=5) (ts:=Trs.ofL ts) (by rw [eL]; exact fun t m=>Nat.le_of_lt_succ (hok t m).2)
  rw [Tr.dp]
  omega
 have cnW:(Tr.both (Trs.ofL ts)).cnt<=60:=by
  rw [Tr.cnt,fX,eL]
  exact hT.sum
 generalize upd (upd H q1 (.tup vs0)) q2 (.tup [.str "both",.ref q1])=G at *
 refine ⟨.ref q2,_,"kind",dpW,rfl,hW,okW,by omega,.inl rfl,fun lk xk Hk Sk fk ek nk gk=>?_⟩
 obtain ⟨uk,rfl,guk⟩:=xS fun x hx=>(gk x hx).elim (fun h=>absurd h.1 (by decide)) (fun h=>h.2)
 rw [List.length_map] at nk
 refine ⟨lk,uk,rfl,ek,by omega,fun rk u1 J1 T1 gu1 ek1=>?_⟩
 nofun
 refine ⟨.ref q2,_,"place",dpW,rfl,hW.same (Sk.trans T1),okW,by omega,.inr (.inl rfl),fun lp xp Hp Sp fp ep np gp=>?_⟩
 obtain ⟨up,rfl,gup⟩:=xS fun x hx=>(gp x hx).elim (fun h=>absurd h.1 (by decide)) (fun h=>h.2)
 rw [List.length_map] at np
 refine ⟨lp,up,rfl,ep,by omega,fun rp u2 J2 T2 gu2 ep2=>?_⟩
 have ek2:=(Sp.trans T2) _ _ ek1
 have SA:=S0.trans (Sk.trans (T1.trans (Sp.trans T2)))
 nofun
 refine ⟨sz8 (by decide),fun z0 hz0=>?_⟩
 have Sz:=aE hz0 (.lst [.int 0])
 have ez:upd J2 z0 (.lst [.int 0]) z0=some (.lst [.int 0]):=aA
 have hW2:=hW.same (Sk.trans (T1.trans (Sp.trans (T2.trans Sz))))
 generalize upd J2 z0 (.lst [.int 0])=J3 at *
 refine ⟨.ref q2,_,"weight",dpW,rfl,hW2,okW,by omega,.inr (.inr rfl),fun lw xw Hw Sw fw ew nw gw=>?_⟩
 obtain ⟨wi,rfl,gwi⟩:=AK9 fun x hx=>(gw x hx).elim (fun h=>h.2) (fun h=>absurd rfl h.1)
 rw [List.length_map] at nw
 refine ⟨z0,lw,_,_,rfl,rfl,Sw _ _ ez,ew,sz8 (by rw [List.length_singleton,List.length_map]; omega),fun wp hwp=>?_⟩
 have Swp:=aE hwp (.lst ([.int 0]++wi.map V.int))
 refine ⟨wp,rfl,0::wi,SqL.of aA,by rw [List.length_cons]; omega,fun n=>0<=n/\n < 1000000,fun n hn=>?_,fun sp J5 hsp Ssp esp=>?_⟩
 ·rcases List.mem_cons.mp hn with rfl | hn
  ·exact ⟨by decide,by decide⟩
  ·exact gwi n hn
 refine ⟨_,_,esp,by rw [List.length_cons]; omega,fun sl ns hsl hns lns=>?_⟩
 rw [List.length_cons] at lns
 have Ssl:=aE hsl (.lst (ns.map V.int))
 refine ⟨Nat.zero_le _,fun fp hfp=>?_⟩
 have Sfp:=aE hfp (.lst [])
 have SC:=Sz.trans (Sw.trans (Swp.trans (Ssp.trans (Ssl.trans Sfp))))
 have SB:=SA.trans SC
 have hrk:=SC _ _ ek2
 have hrp:=SC _ _ ep2
 have hsl2:=Sfp _ _ (show upd J5 sl (.lst (ns.map V.int)) sl=some (.lst (ns.map V.int)) from aA)
 have hfp2:upd (upd J5 sl (.lst (ns.map V.int))) fp (.lst []) fp=some (.lst []):=aA
 generalize upd (upd J5 sl (.lst (ns.map V.int))) fp (.lst [])=J6 at *
 refine ⟨⟨_,SqL.of hrk⟩,?_⟩
 refine ForL.by (xs:=(uk++[u1]).map V.str) (AlO J6 l q2 rk rp sl) ⟨⟨_,_,_,[],rfl,hfp2,Nat.zero_le _,fun x hx=>nomatch hx⟩,fO _⟩ (fun i σ H1 _ h=>SqL.of (h.2 _ _ hrk)) ?_ ?_
 ·rintro i y σ H1 hy ⟨⟨fp,v6,v7,xs,rfl,hf1,lx,tx⟩,S1'⟩
  rw [List.getElem?_map] at hy
  obtain ⟨k,hk,rfl⟩:=Option.map_eq_some_iff.mp hy
  have gk:cP k:=by
   rcases List.mem_append.mp (List.mem_of_getElem? hk) with h | h
   ·exact guk k h
   ·rw [List.mem_singleton.mp h]; exact gu1
  have li:i < 61:=by have:=(List.getElem?_eq_some_iff.mp hk).1; rw [List.length_append,List.length_singleton] at this; omega
  nofun
  refine ⟨⟨_,SqL.of (S1' _ _ hrp)⟩,?_⟩
  refine ForL.by (xs:=(up++[u2]).map V.str) (AlI J6 l q2 rk rp sl i k) ⟨⟨_,_,xs,rfl,hf1,by omega,tx⟩,S1'⟩ (fun j σ H1 _ h=>SqL.of (h.2 _ _ hrp)) ?_ ?_
  ·rintro j y σ H2 hy ⟨⟨fp,v7,xs,rfl,hf1,lx,tx⟩,S2'⟩
   rw [List.getElem?_map] at hy
   obtain ⟨p,hp,rfl⟩:=Option.map_eq_some_iff.mp hy
   have gp:cP p:=by
    rcases List.mem_append.mp (List.mem_of_getElem? hp) with h | h
    ·exact gup p h
    ·rw [List.mem_singleton.mp h]; exact gu2
   have lj:j < 61:=by have:=(List.getElem?_eq_some_iff.mp hp).1; rw [List.length_append,List.length_singleton] at this; omega
   nofun
   refine ⟨⟨_,SqL.of (S2' _ _ hsl2)⟩,?_⟩
   refine CompL.by (xs:=ns.map V.int) (AlC H2 k p) (sz8 (by rw [List.length_map]; omega)) ⟨rfl,(fun x hx=>nomatch hx),⟨_,rfl⟩,fO _⟩ (fun m acc σ H' _ h=>SqL.of ((S2'.trans h.2.2.2) _ _ hsl2)) ?_ (fun m acc σ H' h=>Nat.le_of_eq h.1) ?_
   ·rintro m y acc σ H' hy ⟨rfl,ta,⟨v,rfl⟩,S3'⟩
    rw [List.getElem?_map] at hy
    obtain ⟨n,hn,rfl⟩:=Option.map_eq_some_iff.mp hy
    have gn:=hns n (List.mem_of_getElem? hn)
    nofun
    refine ⟨sz8 (by decide),fun pt hpt=>?_⟩
    have St:=aE hpt (.tup [.str k,.str p,.int n])
    refine ⟨by rw [List.length_append,List.length_singleton],(ta.same St).app fun x hx=>?_,⟨_,rfl⟩,S3'.trans St⟩
    rw [List.mem_singleton.mp hx]
    exact ⟨k,p,n,pt,rfl,aA,gk,gp,gn.1,gn.2⟩
   ·rintro acc σ H' ⟨la,ta,⟨v,rfl⟩,S3'⟩ D hD
    rw [List.length_map] at la
    have Sd:=aE hD (.lst acc)
    refine ⟨fp,D,_,_,rfl,rfl,(S3'.trans Sd) _ _ hf1,aA,by rw [sizeLine_eq]; omega,fun r hr=>?_⟩
    have Sr:=aE hr (.lst (xs++acc))
    nofun
    exact ⟨⟨r,_,xs++acc,rfl,aA,by rw [List.length_append]; omega,((tx.same (S3'.trans (Sd.trans Sr))).app (ta.same (Sd.trans Sr)))⟩,S2'.trans (S3'.trans (Sd.trans Sr))⟩
  ·rintro σ H2 ⟨⟨fp,v7,xs,rfl,hf1,lx,tx⟩,S2'⟩
   rw [List.length_map,List.length_append,List.length_singleton] at lx
   exact ⟨⟨fp,_,_,xs,rfl,hf1,by omega,tx⟩,S2'⟩
 ·rintro σ H1 ⟨⟨fp,v6,v7,xs,rfl,hf1,lx,tx⟩,S1'⟩
  rw [List.length_map,List.length_append,List.length_singleton] at lx
  nofun
  exact q fp xs H1 (SB.trans S1') hf1 (by omega) tx
theorem BA4 {X:Cx}{K:Frag}(hK:X.K=K):iH X (.builtin "len") (fun xs H Q=>∃ p ys,xs=[.ref p]/\(SqL K H p ys\/SqT K H p ys)/\Q (.int ys.length) H):=by
 subst hK
 exact bI
theorem yB (B:Bt K mg a)(bF:CalX P w K mg base "_law_gathered" ["_law_tree_here","_law_word"] 7 (cO K a 7))(F:Fun K "_law_much" "_law_much" gU f fd):FnOk P w K mg base CX0 8 f fd ["_law_trees_here"] (qR K a):=by
 refine F.ok sc_law_much (by walk_at "ln") fun cdv A outer s H vs Q E hr h=>?_
 obtain ⟨l,vs0,ts,rfl,⟨hl,hA⟩,l10,hok,hsum,q⟩:=h
 refine ⟨_,(aR (aD (aX (i:=1) sc_law_much.nd rfl (Or.inr rfl) (aS (iJ (aH (aK bB (aK (bH gH rfl B.tuple PyProof.Rows.boot_tuple (aH (aK (pv 0) aC))) aC))))) (by kernel_rfl)) (aF (aV (aS (dR wL (aT (AJ6 rfl) rfl B.max PyProof.Rows.boot_max (aH (aK (dS ["_law_word","_law_whole"] [none,some 1] rfl (by kernel_rfl) (cL (fI (aH (aK bB (aK bB (aK bB aC)))))) (fun cl C s H fp=>⟨(bC (i:=0) (by decide:List.Nodup (["_law_word","_law_whole"]:List Str)) rfl (Or.inl (by kernel_rfl)) (Or.inr (by kernel_rfl))),gA,(aT (BA4 (K:=K) rfl) (nP (by kernel_rfl)) B.len PySem.boot_len (aH (aK (iD bF (hr.mono (by decide)) (nP (by kernel_rfl)) (aH (aK (pv 1 (hv:=Or.inr (Or.inl (by kernel_rfl)))) (aK (pv 0 (hv:=Or.inl (by kernel_rfl))) aC))) (he:=aJ _ _ _ rfl) (hpl:=aL rfl)) aC)))⟩)) aC)) (he:=aJ _ _ _ rfl) (hpl:=aL rfl)) aG (aY _))))))),?_⟩
 nofun
 refine ⟨_,.inl ⟨SqL.of hl,fun q1 hq1=>⟨sz8 (by decide),fun q2 hq2=>?_⟩⟩⟩
 have S1:=aE hq1 (.tup vs0)
 have S2:=aE hq2 (.tup [.str "both",.ref q1])
 have S0:=S1.trans S2
 have hW:(Tr.both (Trs.ofL ts)).At (upd (upd H q1 (.tup vs0)) q2 (.tup [.str "both",.ref q1])) (.ref q2):=by
  rw [Tr.At]
  exact ⟨q2,q1,vs0,rfl,aA,S2 _ _ aA,trs_at.mpr (by rw [eL]; exact hA.imp fun t y _ h=>h.same S0)⟩
 have okW:(Tr.both (Trs.ofL ts)).okl:=by
  rw [Tr.okl]
  exact trs_okl.mpr (by rw [eL]; exact fun t m=>Tr.ok.l (hok t m).1)
 have dpW:(Tr.both (Trs.ofL ts)).dp < 7:=by
  have:=mL (n:=5) (ts:=Trs.ofL ts) (by rw [eL]; exact fun t m=>Nat.le_of_lt_succ (hok t m).2)
  rw [Tr.dp]
  omega
 have cnW:(Tr.both (Trs.ofL ts)).cnt<=200:=by
  rw [Tr.cnt,fX,eL]
  exact hsum
 generalize upd (upd H q1 (.tup vs0)) q2 (.tup [.str "both",.ref q1])=G at *
 refine ⟨sz8 (by decide),fun wl hwl=>?_⟩
 have Sw:=aE hwl (.lst [.str "kind",.str "place",.str "weight"])
 have ew:upd G wl (.lst [.str "kind",.str "place",.str "weight"]) wl=some (.lst [.str "kind",.str "place",.str "weight"]):=aA
 have hW:=hW.same Sw
 generalize upd G wl (.lst [.str "kind",.str "place",.str "weight"])=G1 at *
 refine ⟨⟨_,SqL.of ew⟩,?_⟩
 refine CompL.by (xs:=[.str "kind",.str "place",.str "weight"]) (fun i acc σ G2=>(∃ ns:List Int,acc=ns.map V.int/\ns.length=i)/\(∃ v,σ=[v,some (.ref q2)])/\Same G1 G2) (by decide) ⟨⟨[],rfl,rfl⟩,⟨_,rfl⟩,fO _⟩ (fun i acc σ G2 _ h=>SqL.of (h.2.2 _ _ ew)) ?_ ?_ ?_
 ·rintro i y acc σ G2 hy ⟨⟨ns,rfl,ln⟩,⟨v,rfl⟩,SG⟩
  obtain ⟨wd,rfl,hwd⟩:∃ wd:Str,y=.str wd/\(wd="kind"\/wd="place"\/wd="weight"):=by
   have m:=List.mem_of_getElem? hy
   simp only [List.mem_cons,List.not_mem_nil,or_false] at m
   rcases m with rfl | rfl | rfl
   ·exact ⟨_,rfl,.inl rfl⟩
   ·exact ⟨_,rfl,.inr (.inl rfl)⟩
   ·exact ⟨_,rfl,.inr (.inr rfl)⟩
  nofun
  refine ⟨.ref q2,_,wd,dpW,rfl,hW.same SG,okW,by omega,hwd,fun l3 zs G3 S3 f3 e3 n3 g3=>?_⟩
  refine ⟨l3,rfl,_,.inl (SqL.of e3),?_⟩
  have new:∃ ns':List Int,ns.map V.int++[V.int zs.length]=ns'.map V.int/\ns'.length=i+1:=⟨ns++[(zs.length:Int)],by rw [List.map_append]; rfl,by rw [List.length_append,ln]; rfl⟩
  first | exact ⟨new,⟨_,rfl⟩,SG.trans S3⟩ | exact ⟨new,SG.trans S3⟩
 ·rintro i acc σ G2 ⟨⟨ns,rfl,ln⟩,_,_⟩
  rw [List.length_map]
  omega
 ·rintro acc σ G2 ⟨⟨ns,rfl,ln⟩,⟨v,rfl⟩,SG⟩ D hD
  have Sd:=aE hD (.lst (ns.map V.int))
  refine ⟨D,rfl,ns,SqL.of aA,by rw [ln]; decide,fun m=>?_⟩
  exact q _ _ (S0.trans (Sw.trans (SG.trans Sd)))
theorem TrsAt.but3 {H H':Hp}{fp wl:Addr}{vs0:List V}{ts:List Tr}(h:TrsAt H fp vs0 ts)(n:fp≠wl)(W:Well3 H wl)(B:But wl H H'):TrsAt H' fp vs0 ts:=⟨B _ _ n h.1,h.2.imp fun _ _ _ h=>h.but3 W B⟩
def bd:Bool->Nat
 | true=>16
 | false=>8
theorem BG6 {b c:Bool}(h:b=true->c=true):bd b<=bd c:=by
 cases b <;> cases c <;> first | decide | (cases h rfl)
theorem BN8 (b:Bool):8<=bd b:=by cases b <;> decide
theorem BG7 (b:Bool):bd b<=16:=by cases b <;> decide
def TrI (H:Hp)(wl fp:Addr)(i:Nat)(σ:L2.St)(H':Hp):Prop:=∃ db v3 v4 v5 v6 vs0 ts,σ=[some (.ref wl),some (.ref fp),some (.bl db),v3,v4,v5,v6]/\TrsAt H' fp vs0 ts/\ts.length=i+1/\(∀ t∈ts,t.ok/\t.dp<=2+i/\t.cnt<=bd db)/\(ts.map Tr.cnt).sum<=8+16 * i/\Well3 H' wl/\But wl H H'
def TrM (H:Hp)(wl fp:Addr)(i:Nat)(vs0:List V)(ts:List Tr)(db0:Bool)(va:V)(way:Int)(st:Bool)(σ:L2.St)(H':Hp):Prop :=
 (∃ db v2 t2 v3,σ=[some (.ref wl),some (.ref fp),some (.bl db),v3,some v2,some (.int way),some va]/\Tr.At H' t2 v2/\t2.ok/\t2.dp<=3+i/\t2.cnt<=bd db/\(db0=true->db=true)/\(st=true->db=db0/\(way=2->t2.dp<=2)))/\TrsAt H' fp vs0 ts/\Well3 H' wl/\But wl H H'
theorem vZ (B:Bt K mg a)(fV:CalX P w K mg base "_law_tree" ["_law_state","_law_deep","_law_more"] 6 (fR K a 3))(aU:CalX P w K mg base "_law_next" ["_law_state","_law_base"] 1 (dZ K a))(oJ:CalX P w K mg base "_law_much" ["_law_trees_here"] 8 (qR K a))(F:Fun K "_law_trees" "_law_trees" fM f fd):FnOk P w K mg base CX0 9 f fd ["_law_state"] (oU K a):=by
 refine F.ok sc_law_trees (by walk_at "ln") fun cdv A outer s H vs Q E hr h=>?_
 obtain ⟨wl,rfl,W,q⟩:=h
 refine ⟨_,(aR (aD (aX (i:=1) sc_law_trees.nd rfl (Or.inl rfl) (iY (aK (pc fV hr rfl (aH (aK (pv 0) (aK aG (aK aG aC))))) aC)) (by kernel_rfl)) (aD (aX (i:=2) sc_law_trees.nd rfl (Or.inl rfl) (aS nK) (by kernel_rfl)) (aD (bD (eM PassesOwn.never rfl (jD rfl B.range (aH (aK (pc aU hr rfl (aH (aK (pv 0) (aK aG aC)))) aC))) (bC (i:=3) sc_law_trees.nd rfl (Or.inl rfl)) (aR (aD (aX (i:=4) sc_law_trees.nd rfl (Or.inl rfl) (aS (pc fV hr rfl (aH (aK (pv 0) (aK aG (aK aG aC)))))) (by kernel_rfl)) (aD (aX (i:=5) sc_law_trees.nd rfl (Or.inl rfl) (aS (pc aU hr rfl (aH (aK (pv 0) (aK aG aC))))) (by kernel_rfl)) (aD (aX (i:=6) sc_law_trees.nd rfl (Or.inl rfl) (aS (bG dW (pv 1) (pc aU hr rfl (aH (aK (pv 0) (aK (aT bI rfl B.len PySem.boot_len (aH (aK (pv 1) aC))) aC)))) (fun _ _=>rfl))) (by kernel_rfl)) (nQ (bE (aW eN (pv 5) aG (aY _)) (aF (aX (i:=4) sc_law_trees.nd rfl (Or.inl rfl) (aS (pv 6)) (by kernel_rfl))) aQ) (nQ (bE (aW eN (pv 5) aG (aY _)) (aF (aX (i:=4) sc_law_trees.nd rfl (Or.inl rfl) (aS (iJ (aH (aK bB (aK (pv 6) aC))))) (by kernel_rfl))) aQ) (nQ (bE (L2.PW.pt (uT (aW eN (pv 5) aG (aY _)) (pS (dF (cD (pv 2)))))) (aD (aX (i:=2) sc_law_trees.nd rfl (Or.inl rfl) (aS nK) (by kernel_rfl)) (aF (aX (i:=4) sc_law_trees.nd rfl (Or.inl rfl) (aS (iJ (aH (aK bB (aK (iJ (aH (aK (pv 6) (aK (pv 4) aC)))) aC))))) (by kernel_rfl)))) aQ) (nQ (bE (cD (pc oJ hr rfl (aH (aK (bJ mE (pv 1) (fI (aH (aK (pv 4) aC)))) aC)))) (aF (aX (i:=4) sc_law_trees.nd rfl (Or.inl rfl) (aS (iJ (aH (aK bB aC)))) (by kernel_rfl))) aQ) (aF (bD (cE (wQ PySem.F.plainAttrs_list PySem.F.slot_list_append PySem.F.type_list_append jF (pv 1) (aH (aK (pv 4) aC)))))))))))))))) (aF (aV (aS (pv 1)))))))),?_⟩
 nofun
 refine ⟨wl,2,1,by decide,rfl,W,by decide,by decide,by decide,fun v1 t1 H1 a1 o1 d1 n1 W1 B1=>?_⟩
 refine ⟨sz8 (by decide),fun fp hfp=>?_⟩
 have nw:=W1.ne hfp
 have S1:=aE hfp (.lst [v1])
 have n1':t1.cnt<=8:=n1
 have T1:TrsAt (upd H1 fp (.lst [v1])) fp [v1] [t1]:=⟨aA,.cons (a1.same S1) .nil⟩
 have W2:=W1.same S1
 have B2:But wl H (upd H1 fp (.lst [v1])):=B1.trans (Same.but S1)
 have gfp:H fp=none:=by
  cases e:H fp with
  | none=>rfl
  | some o=>rw [B1 fp o nw e] at hfp; cases hfp
 generalize upd H1 fp (.lst [v1])=H2 at *
 clear a1 S1
 refine uR W2 (by decide) (by decide) fun r H3 r0 r1 W3 B3=>?_
 nofun
 refine ⟨by omega,by omega,?_⟩
 have T3:=T1.but3 nw W2 B3
 refine ForR.by (TrI H wl fp) ⟨false,_,_,_,_,[v1],[t1],rfl,T3,rfl,?_,?_,W3,B2.trans B3⟩ ?_ ?_
 ·intro t m
  rw [List.mem_singleton.mp m]
  exact ⟨o1,by omega,n1'⟩
 ·show t1.cnt+0<=8+16 * 0
  omega
 ·rintro i σ H4 hi ⟨db,v3,v4,v5,v6,vs0,ts,rfl,T4,lt,hb,hs,W4,B4⟩
  have i3:i < 3:=by omega
  have ln:=T4.2.len
  nofun
  refine ⟨wl,2,1,by decide,rfl,W4,by decide,by decide,by decide,fun v2 t2 H5 a2 o2 d2 n2 W5 B5=>?_⟩
  have n2':t2.cnt<=8:=n2
  have T5:=T4.but3 nw W4 B5
  nofun
  refine uR W5 (by decide) (by decide) fun way H6 w0 w1 W6 B6=>?_
  have T6:=T5.but3 nw W5 B6
  have a26:=a2.but3 W5 B6
  nofun
  refine ⟨_,.inl (SqL.of T6.1),?_⟩
  refine uR W6 (by omega) (by omega) fun x H7 x0 x1 W7 B7=>?_
  have T7:=T6.but3 nw W6 B7
  have a27:=a26.but3 W6 B7
  obtain ⟨va,mva,eva⟩:=wS (xs:=vs0) (i:=x) x0 x1
  refine ixl (SqL.of T7.1) eva ?_
  obtain ⟨j,hj⟩:=List.getElem?_of_mem mva
  obtain ⟨ta,eta,_⟩:=T7.2.get hj
  have hta:=hb ta (List.mem_of_getElem? eta)
  have hva:∀ {G:Hp},TrsAt G fp vs0 ts->ta.At G va:=fun {G} T=>by
   obtain ⟨t',e',h'⟩:=T.2.get hj
   rw [eta] at e'
   cases e'
   exact h'
  have B07:=B4.trans (B5.trans (B6.trans B7))
  clear a2 a26 T4 T5 T6 W4 W5 W6 B4 B5 B6 B7
  nofun
  refine ⟨TrM H wl fp i vs0 ts db va way true,?_,?_⟩
  ·by_cases c:way=0
   ·rw [if_pos c]
    exact ⟨⟨db,va,ta,_,rfl,hva T7,hta.1,by omega,hta.2.2,id,fun _=>⟨rfl,fun z=>absurd z (by omega)⟩⟩,T7,W7,B07⟩
   ·rw [if_neg c]
    exact ⟨⟨db,v2,t2,_,rfl,a27,o2,by omega,Nat.le_trans n2' (BN8 db),id,fun _=>⟨rfl,fun _=>d2⟩⟩,T7,W7,B07⟩
  clear a27 o2 d2 n2 n2' T7 W7 B07
  rintro σ G ⟨⟨db1,v2,t2,v3,rfl,a2,o2,d2,n2,mo,st⟩,T,W,B'⟩
  nofun
  refine ⟨TrM H wl fp i vs0 ts db va way true,?_,?_⟩
  ·by_cases c:way=1
   ·rw [if_pos c]
    refine ⟨sz8 (by decide),fun p hp=>?_⟩
    have Sp:=aE hp (.tup [.str "not",va])
    refine ⟨⟨db1,.ref p,.not ta,_,rfl,?_,by rw [Tr.ok]; exact hta.1,by rw [Tr.dp]; omega,by rw [Tr.cnt]; exact Nat.le_trans hta.2.2 (BG6 mo),mo,fun z=>⟨(st z).1,fun y=>absurd y (by omega)⟩⟩,T.same Sp,W.same Sp,B'.trans (Same.but Sp)⟩
    rw [Tr.At]
    exact ⟨p,va,rfl,aA,(hva T).same Sp⟩
   ·rw [if_neg c]
    exact ⟨⟨db1,v2,t2,_,rfl,a2,o2,d2,n2,mo,st⟩,T,W,B'⟩
  clear a2 o2 d2 n2 mo st T W B'
  rintro σ G ⟨⟨db1,v2,t2,v3,rfl,a2,o2,d2,n2,mo,st⟩,T,W,B'⟩
  nofun
  refine ⟨TrM H wl fp i vs0 ts db va way false,?_,?_⟩
  ·by_cases c:way=2
   ·rw [if_pos c]
    obtain ⟨e,d22⟩:=st rfl
    cases db1 with
    | true =>
     exists Bool.not_true
     exact ⟨⟨true,v2,t2,_,rfl,a2,o2,d2,n2,mo,(fun z=>by cases z)⟩,T,W,B'⟩
    | false =>
     rw [<- e] at hta
     have c1:ta.cnt<=8:=hta.2.2
     have c2:t2.cnt<=8:=n2
     exists Bool.not_false
     refine ⟨sz8 (by decide),fun p hp=>⟨sz8 (by decide),fun p2 hp2=>?_⟩⟩
     have Sp:=aE hp (.tup [va,v2])
     have Sp2:=aE hp2 (.tup [.str "both",.ref p])
     have SS:=Sp.trans Sp2
     refine ⟨⟨true,.ref p2,.both (.cons ta (.cons t2 .nil)),_,rfl,?_,?_,?_,?_,(fun _=>rfl),(fun z=>by cases z)⟩,T.same SS,W.same SS,B'.trans (Same.but SS)⟩
     ·rw [Tr.At]
      exact ⟨p2,p,[va,v2],rfl,aA,Sp2 _ _ aA,trs_at.mpr (.cons ((hva T).same SS) (.cons (a2.same SS) .nil))⟩
     ·rw [Tr.ok]
      exact ⟨Nat.le_refl _,by show 2<=6; decide,by rw [Trs.ok,Trs.ok,Trs.ok]; exact ⟨hta.1,o2,trivial⟩⟩
     ·have:=d22 c
      rw [Tr.dp,Trs.dp,Trs.dp,Trs.dp]
      omega
     ·show _<=16
      rw [Tr.cnt,Trs.cnt,Trs.cnt,Trs.cnt]
      omega
   ·rw [if_neg c]
    exact ⟨⟨db1,v2,t2,_,rfl,a2,o2,d2,n2,mo,(fun z=>by cases z)⟩,T,W,B'⟩
  clear a2 o2 d2 n2 mo st T W B'
  rintro σ G ⟨⟨db1,v2,t2,v3,rfl,a2,o2,d2,n2,mo,st⟩,T,W,B'⟩
  nofun
  refine ⟨sz8 (by decide),TrM H wl fp i vs0 ts db va way false,fun p hp=>?_,?_⟩
  ·have Sp:=aE hp (.lst [v2])
   refine ⟨fp,p,_,_,rfl,rfl,Sp _ _ T.1,aA,sz8 (by rw [List.length_singleton]; omega),fun l hl=>?_⟩
   have Sl:=aE hl (.lst (vs0++[v2]))
   have SS:=Sp.trans Sl
   have b16:=BG7 db1
   refine ⟨l,vs0++[v2],ts++[t2],rfl,⟨aA,(T.2.imp fun _ _ _ h=>h.same SS).snoc (a2.same SS)⟩,by rw [List.length_append,List.length_singleton]; omega,fun t m=>?_,?_,fun b G2 S2=>?_⟩
   ·rcases List.mem_append.mp m with m | m
    ·exact ⟨(hb t m).1,by have:=(hb t m).2.1; omega⟩
    ·rw [List.mem_singleton.mp m]; exact ⟨o2,by omega⟩
   ·rw [List.map_append,List.sum_append]
    show _+(t2.cnt+0)<=200
    omega
   ·have SA:=SS.trans S2
    cases b with
    | true =>
     nofun
     refine ⟨sz8 (by decide),fun p3 hp3=>?_⟩
     have S3:=aE hp3 (.tup [.str "any"])
     exact ⟨⟨db1,.ref p3,.any,_,rfl,(by rw [Tr.At]; exact ⟨p3,rfl,aA⟩),(by rw [Tr.ok]; trivial),(by rw [Tr.dp]; omega),(by rw [Tr.cnt]; exact Nat.le_trans (by decide) (BN8 db1)),mo,(fun z=>by cases z)⟩,T.same (SA.trans S3),W.same (SA.trans S3),B'.trans (Same.but (SA.trans S3))⟩
    | false =>
     nofun
     exact ⟨⟨db1,v2,t2,_,rfl,a2.same SA,o2,d2,n2,mo,(fun z=>by cases z)⟩,T.same SA,W.same SA,B'.trans (Same.but SA)⟩
  clear a2 o2 d2 n2 mo st T W B'
  rintro σ G ⟨⟨db1,v2,t2,v3,rfl,a2,o2,d2,n2,mo,st⟩,T,W,B'⟩
  nofun
  refine ⟨.inl ⟨rfl,_,SqL.of T.1⟩,fp,_,_,rfl,rfl,T.1,?_,?_⟩
  ·exact Nat.lt_of_le_of_lt (by omega:vs0.length<=1000) (by decide)
  ·have b16:=BG7 db1
   have K1:BB2 G (upd G fp (.lst (vs0++[v2]))):=fun b ys e=>by
    rw [aO (fun z=>by rw [z,T.1] at e; cases e)]
    exact e
   have W12:Well3 (upd G fp (.lst (vs0++[v2]))) wl:=by
    obtain ⟨x1,x2,x3,e⟩:=W
    exact ⟨x1,x2,x3,by rw [aO (fun z=>nw z.symm)]; exact e⟩
   refine ⟨db1,_,_,_,_,vs0++[v2],ts++[t2],rfl,⟨aA,(T.2.imp fun _ _ _ h=>h.keep K1).snoc (a2.keep K1)⟩,by rw [List.length_append,lt]; rfl,fun t m=>?_,?_,W12,fun b o nb e=>?_⟩
   ·rcases List.mem_append.mp m with m | m
    ·obtain ⟨x1,x2,x3⟩:=hb t m
     exact ⟨x1,by omega,Nat.le_trans x3 (BG6 mo)⟩
    ·rw [List.mem_singleton.mp m]; exact ⟨o2,by omega,n2⟩
   ·rw [List.map_append,List.sum_append]
    show _+(t2.cnt+0)<=_
    omega
   ·rw [aO (aP e gfp)]
    exact B' b o nb e
 ·rintro σ H4 ⟨db,v3,v4,v5,v6,vs0,ts,rfl,T4,lt,hb,hs,W4,B4⟩
  nofun
  exact q fp vs0 ts H4 W4 B4 gfp T4 ⟨fun t m=>⟨(hb t m).1,by have:=(hb t m).2.1; omega⟩,by omega,by omega⟩
theorem BA5 {ts:List Tr}{i n:Nat}{t:Tr}{k p:Str}{w:Int}(h:i < n)(e:ts[i]?=some t)(hv:t.ev k p w=true):won ts n k p w=false:=by
 unfold won
 have:((ts.take n).all fun t=>!t.ev k p w)=false:=by
  rw [List.all_eq_false]
  exact ⟨t,List.mem_of_getElem? (by rw [List.getElem?_take,if_pos h]; exact e),by rw [hv]; decide⟩
 rw [this,Bool.and_false]
theorem AR3 {ts:List Tr}{n:Nat}{t:Tr}{k p:Str}{w:Int}(h:∀ j < n,∀ t:Tr,ts[j]?=some t->t.ev k p w=false)(e:ts[n]?=some t):won ts n k p w=t.ev k p w:=by
 unfold won
 have:((ts.take n).all fun t=>!t.ev k p w)=true:=by
  rw [List.all_eq_true]
  intro t m
  obtain ⟨j,hj⟩:=List.getElem?_of_mem m
  rw [List.getElem?_take] at hj
  split at hj
  ·rename_i lj
   rw [h j lj t hj]; rfl
  ·cases hj
 rw [this,Bool.and_true,e]
 rfl
theorem zO {H H':Hp}{wl l:Addr}(W:Well3 H' wl)(B:But wl H H')(h:H' l=none):H l=none:=by
 cases e:H l with
 | none=>rfl
 | some o=>rw [B l o (W.ne h) e] at h; cases h
theorem AT8 {a:Ad}{Z Z':Addr->Prop}{H:Hp}{t:Tr}{v:V}(h:t.Fit (fz a Z) H v)(z:∀ l,Z l->Z' l):t.Fit (fz a Z') H v:=h.mono z
theorem yC (B:Bt K mg a)(fA:CalX P w K mg base "_law_fits" ["_law_tree_here","_law_thing"] 6 (fT K a 6))(F:Fun K "_law_wins" "_law_wins" gW f fd):FnOk P w K mg base CX0 7 f fd ["_law_trees_here","_law_number","_law_thing"] (qS K a):=by
 refine F.ok sc_law_wins (by walk_at "ln") fun cdv A outer s H vs Q E hr h=>?_
 obtain ⟨tl,n,x,vs0,ts,k,p,w0,rfl,⟨hl,hA⟩,hT,hn,hx,q⟩:=h
 refine ⟨_,(aR (aD (bD (eM PassesOwn.never rfl (cL (jU wP (pv 0) nM (nN (pv 1)))) (bC (i:=3) sc_law_wins.nd rfl (Or.inl rfl)) (aR (aF (bE (cD (pc fA hr rfl (aH (aK (pv 3) (aK (pv 2) aC))))) (aF (aV (aS nK))) aQ))))) (aF (aV (aS (pc fA hr rfl (aH (aK (bG dW (pv 0) (pv 1) (fun _ _=>rfl)) (aK (pv 2) aC))))))))),?_⟩
 have ln:=hA.len
 nofun
 refine ⟨tl,vs0,rfl,SqL.of hl,fun sl hsl=>?_⟩
 rw [qZ]
 have Ss:=aE hsl (.lst (vs0.take n))
 have es:upd H sl (.lst (vs0.take n)) sl=some (.lst (vs0.take n)):=aA
 generalize upd H sl (.lst (vs0.take n))=H1 at *
 refine ⟨sl,rfl,⟨_,SqL.of es⟩,?_⟩
 refine ForL.by (xs:=vs0.take n) (fun i σ G=>(∃ v,σ=[some (.ref tl),some (.int n),some x,v])/\Same H1 G/\∀ j < i,∀ t:Tr,ts[j]?=some t->t.ev k p w0=false) ⟨⟨_,rfl⟩,fO _,fun j hj=>absurd hj (Nat.not_lt_zero _)⟩ (fun i σ G _ h=>SqL.of (h.2.1 _ _ es)) ?_ ?_
 ·rintro i y σ G hy ⟨⟨v,rfl⟩,SG,bf⟩
  rw [List.getElem?_take] at hy
  split at hy
  case isFalse=>cases hy
  rename_i li
  obtain ⟨t,et,ht⟩:=hA.get hy
  have hm:=hT.ok t (List.mem_of_getElem? et)
  have SA:=Ss.trans SG
  nofun
  refine ⟨y,x,t,k,p,w0,hm.2,by omega,rfl,ht.same SA,hm.1,hx.same SA,fun G2 S2=>?_⟩
  cases hv:t.ev k p w0 with
  | true =>
   nofun
   rw [BA5 li et hv] at q
   exact q _ (SA.trans S2)
  | false =>
   nofun
   have bf':∀ j < i+1,∀ t:Tr,ts[j]?=some t->t.ev k p w0=false:=fun j hj t' e=>by
    by_cases c:j=i
    ·rw [c,et] at e
     cases e
     exact hv
    ·exact bf j (by omega) t' e
   first | exact ⟨⟨_,rfl⟩,SG.trans S2,bf'⟩ | exact ⟨SG.trans S2,bf'⟩
 ·rintro σ G ⟨⟨v,rfl⟩,SG,bf⟩
  have lt:(vs0.take n).length=n:=by rw [List.length_take]; omega
  rw [lt] at bf
  have hv:n < vs0.length:=by omega
  obtain ⟨t,et,ht⟩:=hA.get (List.getElem?_eq_getElem hv)
  have hm:=hT.ok t (List.mem_of_getElem? et)
  have SA:=Ss.trans SG
  nofun
  refine ixl (SqL.of (SA _ _ hl)) (v:=vs0[n]) (wO (List.getElem?_eq_getElem hv)) ?_
  nofun
  refine ⟨_,x,t,k,p,w0,hm.2,by omega,rfl,ht.same SA,hm.1,hx.same SA,fun G2 S2=>?_⟩
  rw [AR3 bf et] at q
  exact q _ (SA.trans S2)
theorem wA (B:Bt K mg a)(kB:CalX P w K mg base "_law_wins" ["_law_trees_here","_law_number","_law_thing"] 7 (qS K a))(F:Fun K "_law_right" "_law_right" fN f fd):FnOk P w K mg base CX0 8 f fd ["_law_found","_law_trees_here","_law_number","_law_some"] (oV K a):=by
 refine F.ok vS (by walk_at "ln") fun cdv A outer s H vs Q E hr h=>?_
 obtain ⟨r,tl,l,n,vs0,xs,ts,rfl,hT0,hT,hn,hl,lz,hx,WR,q⟩:=h
 refine ⟨_,(aR (aD (bE (iW (kP (pv 0))) (aF (aV (aS (dR (yY hr.units) (dS ["_law_thing","_law_trees_here","_law_number"] [none,some 1,some 2] rfl (by kernel_rfl) (cL (pv 3)) (fun cl C s H fp=>⟨(bC (i:=0) (by decide:List.Nodup (["_law_thing","_law_trees_here","_law_number"]:List Str)) rfl (Or.inl (by kernel_rfl)) (Or.inr (by kernel_rfl))),(tF (cD (iD kB (hr.mono (by decide)) (nP (by kernel_rfl)) (aH (aK (pv 1 (hv:=Or.inr (Or.inl (by kernel_rfl)))) (aK (pv 2 (hv:=Or.inr (Or.inl (by kernel_rfl)))) (aK (pv 0 (hv:=Or.inl (by kernel_rfl))) aC)))) (he:=aJ _ _ _ rfl) (hpl:=aL rfl)))),(pv 0 (hv:=Or.inl (by kernel_rfl)))⟩)) (fI (aH aC)) (aY _))))) aQ) (aD (bE (L2.PW.pt (jC (dF (cD (aT (kZ (K:=K) rfl) rfl B.isinstance PyProof.Rows.boot_isinstance (aH (aK (pv 0) (aK (dU (v:=.ref _) rfl B.Happening rfl) aC))) (he:=aJ _ _ _ rfl) (hpl:=aL rfl)))) (jC (dF (cD (aT (iP (K:=K) (T:="int") rfl) rfl B.isinstance PyProof.Rows.boot_isinstance (aH (aK (eK (pv 0) rfl) (aK (iC (v:=.ty "int") rfl B.int PyProof.Rows.boot_int rfl) aC))) (he:=aJ _ _ _ rfl) (hpl:=aL rfl)))) (iG (cD (aT (iP (K:=K) (T:="bool") rfl) rfl B.isinstance PyProof.Rows.boot_isinstance (aH (aK (eK (pv 0) rfl) (aK (iC (v:=.ty "bool") rfl B.bool PyProof.Rows.boot_bool rfl) aC))) (he:=aJ _ _ _ rfl) (hpl:=aL rfl))))))) (aF (aV (aS nK))) aQ) (aF (aV (aS (oO (dR AM5 (eK (pv 0) rfl) aG (aY _)) (sG (pc kB hr rfl (aH (aK (pv 1) (aK (pv 2) (aK (iJ (aH (aK (eK (pv 0) rfl) (aK (eK (pv 0) rfl) (aK (eK (pv 0) rfl) aC))))) aC))))))))))))),?_⟩
 nofun
 rcases WR with ⟨rfl,hd⟩ | ⟨hp,dh,k,p,w0,rfl,hh,gk,gp,z0,z1,hw⟩
 ·rw [if_pos rfl]
  refine ⟨⟨_,SqL.of hl⟩,?_⟩
  refine CompL.by (xs:=xs) (fun i acc σ H1=>acc=[]/\(∃ v,σ=[v,some (.ref tl),some (.int n)])/\Same H H1) (by rw [sizeLine_eq]; omega) ⟨rfl,⟨_,rfl⟩,fO _⟩ (fun i acc σ H1 _ h=>SqL.of (h.2.2 _ _ hl)) ?_ ?_ ?_
  ·rintro i x acc σ H1 hxi ⟨rfl,⟨v,rfl⟩,S1⟩
   obtain ⟨k,p,w0,hx1⟩:=hx x (List.mem_of_getElem? hxi)
   obtain ⟨_,_,_,_,_,z0,_⟩:=id hx1
   nofun
   refine ⟨tl,n,x,vs0,ts,k,p,w0,rfl,hT0.same S1,hT,hn,hx1.same S1,fun H2 S2=>?_⟩
   rw [hd k p w0 z0]
   nofun
   first | exact S1.trans S2 | exact ⟨rfl,⟨_,rfl⟩,S1.trans S2⟩ | exact ⟨⟨_,rfl⟩,S1.trans S2⟩
  ·rintro i acc σ H1 ⟨rfl,_,_⟩
   exact Nat.zero_le _
  ·rintro acc σ H1 ⟨rfl,⟨v,rfl⟩,S1⟩ D hD
   have Sd:=aE hD (.lst [])
   refine ⟨Nat.zero_le _,fun p hp=>?_⟩
   have Sp:=aE hp (.lst [])
   refine xJ (Sp _ _ aA) aA (n:=0) (by decide) (fun x hx=>nomatch hx) ?_
   exact q _ (S1.trans (Sd.trans Sp))
 ·rw [if_neg (by intro z; cases z)]
  refine ⟨_,_,_,true,rfl,B.ck_Happening.ty hh,B.is_Happening_Happening,?_⟩
  exists Bool.not_true
  refine ⟨_,_,_,hh,B.ck_Happening.cl,B.na_Happening_weight,.int w0,rfl,?_⟩
  refine ⟨_,_,true,rfl,.int _,by kernel_rfl,?_⟩
  exists Bool.not_true
  refine ⟨_,_,_,hh,B.ck_Happening.cl,B.na_Happening_weight,.int w0,rfl,?_⟩
  refine ⟨_,_,false,rfl,.int _,by kernel_rfl,?_⟩
  nofun
  refine ⟨_,_,_,hh,B.ck_Happening.cl,B.na_Happening_weight,.int w0,rfl,?_⟩
  refine ⟨_,rfl,?_⟩
  rw [if_pos z0]
  refine ⟨_,_,_,hh,B.ck_Happening.cl,B.na_Happening_kind,.str k,rfl,_,_,_,hh,B.ck_Happening.cl,B.na_Happening_place,.str p,rfl,_,_,_,hh,B.ck_Happening.cl,B.na_Happening_weight,.int w0,rfl,sz8 (by decide),fun tp htp=>?_⟩
  have St:=aE htp (.tup [.str k,.str p,.int w0])
  have hth:ThAt (upd H tp (.tup [.str k,.str p,.int w0])) (.ref tp) k p w0:=⟨tp,rfl,aA,gk,gp,z0,z1⟩
  refine ⟨tl,n,.ref tp,vs0,ts,k,p,w0,rfl,hT0.same St,hT,hn,hth,fun H2 S2=>?_⟩
  rw [hw]
  exact q _ (St.trans S2)
theorem yD (B:Bt K mg a)(CD_Line_3:CalD P w K mg base "Line" a.Line ["self","fit","way","roads","sure","raised"] 3 [.bl false,.non] (gE K a))(aU:CalX P w K mg base "_law_next" ["_law_state","_law_base"] 1 (dZ K a))(eZ:CalX P w K mg base "_law_made" ["_law_tree_here"] 11 (fS K a 6))(F:Fun K "_law_line" "_law_line" gX f fd):FnOk P w K mg base CX0 12 f fd ["_law_state","_law_tree_here"] (qT K a):=by
 refine F.ok xR (by walk_at "ln") fun cdv A outer s H vs Q E hr h=>?_
 obtain ⟨st,v,t,rfl,W,hA,ho,hd,q⟩:=h
 refine ⟨_,(aR (aD (bE (aW eN (pc aU hr rfl (aH (aK (pv 0) (aK aG aC)))) aG (aY _)) (aF (aV (aS (tJ CD_Line_3 cW (hr.mono (by decide)) rfl (aH (aK (pc eZ hr rfl (aH (aK (pv 1) aC))) (aK (xB B.mk_Never rfl B.Never) (aK (fI (aH aC)) aC)))) (he:=aJ _ _ _ rfl) (hpl:=aL rfl))))) aQ) (aF (aV (aS (tJ CD_Line_3 cW (hr.mono (by decide)) rfl (aH (aK (pc eZ hr rfl (aH (aK (pv 1) aC))) (aK (xB B.mk_Now rfl B.Now) (aK (fI (aH (aK bB aC))) aC)))) (he:=aJ _ _ _ rfl) (hpl:=aL rfl))))))),?_⟩
 nofun
 refine uR W (by decide) (by decide) fun r H1 r0 r1 W1 B1=>?_
 have hA1:=hA.but3 W B1
 nofun
 by_cases c:r=0
 ·rw [if_pos c]
  refine ⟨v,t,hd,rfl,hA1,ho,fun vf H2 S2 hf=>?_⟩
  nofun
  intro y dy hy hdy ny
  have M:=cX (o:=.own y) (o':=.ins a.Never dy []) hy hdy
  have ey:upd (upd H2 dy (.own y)) y (.ins a.Never dy []) y=some (.ins a.Never dy []):=aA
  generalize upd (upd H2 dy (.own y)) y (.ins a.Never dy [])=H3 at *
  nofun
  refine ⟨Nat.zero_le _,fun rl hrl=>?_⟩
  have Sr:=aE hrl (.lst [])
  have er:upd H3 rl (.lst []) rl=some (.lst (([]:List Str).map V.str)):=aA
  have ey:=Sr _ _ ey
  generalize upd H3 rl (.lst [])=H4 at *
  nofun
  intro z dz hz hdz nz
  have ML:=cX (o:=.own z) (o':=.ins a.Line dz []) hz hdz
  have S24:=M.trans Sr
  refine ⟨z,dz,y,rl,dy,vf,t,[],rfl,aA,(qN hf).same (S24.trans ML),.inr ⟨ML _ _ ey,rfl⟩,ML _ _ er,.inl rfl,fun l G BG eG=>?_⟩
  nofun
  have S4:=gJ hz hdz BG
  have SA:=S2.trans (S24.trans S4)
  exact q (.ref z) G (W1.same SA) (B1.trans (Same.but SA)) ⟨z,dz,vf,y,l,rfl,eG,(AT8 hf fun l h=>zO W1 B1 h).same (S24.trans S4)⟩
 ·rw [if_neg c]
  refine ⟨v,t,hd,rfl,hA1,ho,fun vf H2 S2 hf=>?_⟩
  nofun
  intro y dy hy hdy ny
  have M:=cX (o:=.own y) (o':=.ins a.Now dy []) hy hdy
  have ey:upd (upd H2 dy (.own y)) y (.ins a.Now dy []) y=some (.ins a.Now dy []):=aA
  generalize upd (upd H2 dy (.own y)) y (.ins a.Now dy [])=H3 at *
  nofun
  refine ⟨sz8 (by decide),fun rl hrl=>?_⟩
  have Sr:=aE hrl (.lst [.str "mail"])
  have er:upd H3 rl (.lst [.str "mail"]) rl=some (.lst ((["mail"]:List Str).map V.str)):=aA
  have ey:=Sr _ _ ey
  generalize upd H3 rl (.lst [.str "mail"])=H4 at *
  nofun
  intro z dz hz hdz nz
  have ML:=cX (o:=.own z) (o':=.ins a.Line dz []) hz hdz
  have S24:=M.trans Sr
  refine ⟨z,dz,y,rl,dy,vf,t,["mail"],rfl,aA,(qN hf).same (S24.trans ML),.inl ⟨ML _ _ ey,by intro z; cases z⟩,ML _ _ er,.inr rfl,fun l G BG eG=>?_⟩
  nofun
  have S4:=gJ hz hdz BG
  have SA:=S2.trans (S24.trans S4)
  exact q (.ref z) G (W1.same SA) (B1.trans (Same.but SA)) ⟨z,dz,vf,y,l,rfl,eG,(AT8 hf fun l h=>zO W1 B1 h).same (S24.trans S4)⟩
def But2 (x y:Addr)(H H':Hp):Prop:=∀ b o,b≠x->b≠y->H b=some o->H' b=some o
theorem But2.tup {x y:Addr}{H H':Hp}{us zs:List V}(s:But2 x y H H')(hx:H x=some (.lst us))(hy:H y=some (.lst zs)):BB2 H H':=fun b xs e=>s b _ (fun z=>by rw [z,hx] at e; cases e) (fun z=>by rw [z,hy] at e; cases e) e
theorem But2.free {x y l:Addr}{H H':Hp}{o o':HO}(s:But2 x y H H')(hx:H' x=some o)(hy:H' y=some o')(h:H' l=none):H l=none:=by
 cases e:H l with
 | none=>rfl
 | some o=>rw [s l o (fun z=>by rw [z,hx] at h; cases h) (fun z=>by rw [z,hy] at h; cases h) e] at h; cases h
theorem AL0 (P:Nat->Bool):∀ n,P n=true->∃ j,j<=n/\P j=true/\∀ m < j,P m=false:=by
 intro n
 induction n using Nat.strongRecOn with
 | ind n ih =>
  intro h
  by_cases c:∃ m,m < n/\P m=true
  ·obtain ⟨m,lm,hm⟩:=c
   obtain ⟨j,lj,hj,r⟩:=ih m lm hm
   exact ⟨j,by omega,hj,r⟩
  ·exact ⟨n,Nat.le_refl _,h,fun m lm=>by
    cases e:P m with
    | false=>rfl
    | true=>exact absurd ⟨m,lm,e⟩ c⟩
def LnI (a:Ad)(H3:Hp)(sc st tl lp:Addr)(ts:List Tr)(i:Nat)(σ:L2.St)(G:Hp):Prop:=∃ v4 v5 xs,σ=[some (.ref sc),some (.ref st),some (.ref tl),some (.ref lp),v4,v5,none,none,none,none,none,none,none]/\G lp=some (.lst xs)/\All2 (LnT a (fun l=>H3 l=none) G) (ts.take i) xs/\Well3 G st/\But2 st lp H3 G
def LnM (a:Ad)(H3:Hp)(sc st tl lp:Addr)(ts:List Tr)(i:Nat)(t:Tr)(y:V)(xs:List V)(σ:L2.St)(G:Hp):Prop:=(∃ r,σ=[some (.ref sc),some (.ref st),some (.ref tl),some (.ref lp),some y,some r,none,none,none,none,none,none,none]/\LnT a (fun l=>H3 l=none) G t r)/\G lp=some (.lst xs)/\All2 (LnT a (fun l=>H3 l=none) G) (ts.take i) xs/\Well3 G st/\But2 st lp H3 G
def LwW (a:Ad)(G0:Hp)(sc st tl lp sp fi:Addr)(v4 v5:Option V)(xs:List V)(σ:L2.St)(G:Hp):Prop:=(∃ wp l',σ=[some (.ref sc),some (.ref st),some (.ref tl),some (.ref lp),v4,v5,some (.ref wp),some (.ref sp),some (.ref fi),none,none,none,none]/\WsAt a G wp l' xs)/\Same G0 G
def rL (l:List Nat):List V:=l.map fun i=>V.int (i:Nat)
theorem AL1 {H:Hp}{p:Addr}{l:List Nat}(h:H p=some (.lst (rL l))):RD H (.ref p) (.list ((l.map fun i:Nat=>(i:Int)).map PyData.int)):=.lst h (by
 have:rL l=(l.map fun i:Nat=>(i:Int)).map V.int:=by unfold rL; rw [List.map_map]; rfl
 rw [this]
 exact zA _)
theorem BA6 {l:List Nat}:SeqAt.shaped (.list ((l.map fun i:Nat=>(i:Int)).map PyData.int))=true:=(qF (n:=0) (by decide) (zB _)).1
theorem uG {H:Hp}{p q:Addr}{l:List Nat}{b:Bool}{Q:VK}(h1:H p=some (.lst (rL l)))(h2:H q=some (.lst (rL l)))(k:Q (.bl b) H):BE7 b (.ref p) (.ref q) H Q:=eqd (AL1 h1) (AL1 h2) BA6 k
theorem wC {ts:List Tr}(h:∀ t∈ts,t.ok/\t.dp < 6):BB3 (ts.map Tr.dat):=fun d m=>by
 obtain ⟨t,mt,rfl⟩:=List.mem_map.mp m
 have:=Tr.dat_lay (h t mt).1
 have:=(h t mt).2
 exact ⟨(Tr.dat_lay (h t mt).1).1,by omega⟩
theorem BG8 (B:Bt K mg a)(lT:CalX P w K mg base "_law_begin" ["_law_cell"] 1 (oT K a))(lU:CalX P w K mg base "_law_trees" ["_law_state"] 9 (oU K a))(CD_Wishes_4:CalD P w K mg base "Wishes" a.Wishes ["self","zone","quiet","wake","lines"] 4 [] (cZ K a))(rC:CalX P w K mg base "_law_all" ["_law_trees_here"] 8 (sU K a))(oK:∀ C sp,AK5 K a C sp->CalM P w K mg base C "idle" ["self"] 9 sp)(gM:CalX P w K mg base "_law_cell_at" ["_law_script","_law_k"] 1 (kX K a))(oM:CalX P w K mg base "_law_line" ["_law_state","_law_tree_here"] 12 (qT K a))(jS:∀ C sp,vW K a C sp->CalM P w K mg base C "winner" ["self","number"] 9 sp)(lV:CalX P w K mg base "_law_right" ["_law_found","_law_trees_here","_law_number","_law_some"] 8 (oV K a))(aU:CalX P w K mg base "_law_next" ["_law_state","_law_base"] 1 (dZ K a))(CD_Wishes_0:CalD P w K mg base "Wishes" a.Wishes ["self","zone","quiet","wake","lines"] 4 [.int 0,.non,.non,.non] (cZ K a))(F:Fun K "law" "law" tY f fd):FnOk P w K mg base CX0 13 f fd ["_law_script"] (AK4 K a):=by
 refine F.ok sc_law (by walk_at "ln") fun cdv A outer s H vs Q E hr h=>?_
 obtain ⟨sc,ns,rfl,hS,h63,q⟩:=h
 refine ⟨_,(aR (dL (aD (aX (i:=1) sc_law.nd rfl (Or.inl rfl) (aS (pc lT hr rfl (aH (aK (pc gM hr rfl (aH (aK (pv 0) (aK aG aC)))) aC)))) (by kernel_rfl)) (dL (aD (aX (i:=2) sc_law.nd rfl (Or.inl rfl) (aS (pc lU hr rfl (aH (aK (pv 1) aC)))) (by kernel_rfl)) (dL (aD (aX (i:=3) sc_law.nd rfl (Or.inl rfl) (iY aC) (by kernel_rfl)) (dL (aD (bD (eM PassesOwn.never rfl (cL (pv 2)) (bC (i:=4) sc_law.nd rfl (Or.inl rfl)) (aR (aD (aX (i:=5) sc_law.nd rfl (Or.inl rfl) (aS (pc oM hr rfl (aH (aK (pv 1) (aK (pv 4) aC))))) (by kernel_rfl)) (nQ (bE (L2.PW.pt (uT (aW (BA1 hr.units) (pv 4) (jU wP (pv 2) nM (nN (aT bI rfl B.len PySem.boot_len (aH (aK (pv 3) aC))))) (by with_unfolding_all rfl)) (pS (aW eN (pc aU hr rfl (aH (aK (pv 1) (aK aG aC)))) aG (aY _))))) (aF (aX (i:=5) sc_law.nd rfl (Or.inl rfl) (aS (bG dW (pv 3) (wQ PySem.F.plainAttrs_list PySem.F.slot_list_index PySem.F.type_list_index (AQ9 hr.units) (pv 2) (aH (aK (pv 4) aC))) (fun _ _=>rfl))) (by kernel_rfl))) aQ) (aF (bD (cE (wQ PySem.F.plainAttrs_list PySem.F.slot_list_append PySem.F.type_list_append jF (pv 3) (aH (aK (pv 5) aC))))))))))) (dL (aD (aX (i:=6) sc_law.nd rfl (Or.inl rfl) (aS (tJ CD_Wishes_4 cW (hr.mono (by decide)) rfl (aH (aK aG (aK sE (aK sE (aK (pv 3) aC))))) (he:=aJ _ _ _ rfl) (hpl:=aL rfl))) (by kernel_rfl)) (dL (aD (aX (i:=7) sc_law.nd rfl (Or.inl rfl) (aS (pc rC hr rfl (aH (aK (pv 2) aC)))) (by kernel_rfl)) (dL (aD (aX (i:=8) sc_law.nd rfl (Or.inl rfl) (aS (mF (pv 6) oK cW (hr.mono (by decide)))) (by kernel_rfl)) (dL (nQ (bE (aW eN (bJ iX (pc gM hr rfl (aH (aK (pv 0) (aK aG aC)))) aG) aG (aY _)) (aF (aX (i:=6) sc_law.nd rfl (Or.inl rfl) (aS (tJ CD_Wishes_4 cW (hr.mono (by decide)) rfl (aH (aK aG (aK sE (aK sE (aK (pv 3) aC))))) (he:=aJ _ _ _ rfl) (hpl:=aL rfl))) (by kernel_rfl))) aQ) (dL (aD (aX (i:=9) sc_law.nd rfl (Or.inl rfl) (iY aC) (by kernel_rfl)) (dL (aD (bD (eM PassesOwn.never rfl (jD rfl B.range (aH (aK (aT bI rfl B.len PySem.boot_len (aH (aK (pv 2) aC))) aC))) (bC (i:=10) sc_law.nd rfl (Or.inl rfl)) (aR (aD (aX (i:=11) sc_law.nd rfl (Or.inl rfl) (aS (fD (pv 6) jS cW (hr.mono (by decide)) (aH (aK (pv 10) aC)) (hst:=aJ _ _ _ rfl) (hpl:=aL rfl))) (by kernel_rfl)) (aD (bE (dF (cD (pc lV hr rfl (aH (aK (pv 11) (aK (pv 2) (aK (pv 10) (aK (pv 7) aC)))))))) (aF (aV (aS nK))) aQ) (aF (bE (iW (kP (pv 11))) (aF (bD (cE (wQ PySem.F.plainAttrs_list PySem.F.slot_list_append PySem.F.type_list_append jF (pv 9) (aH (aK (pv 10) aC)))))) aQ))))))) (dL (aD (bD (eM PassesOwn.never rfl (cL (fI (aH (aK (BD4 AS0 aG) (aK (aT bI rfl B.len PySem.boot_len (aH (aK (pv 2) aC))) (aK (bJ iI (aT bI rfl B.len PySem.boot_len (aH (aK (pv 2) aC))) aG) (aK aG (aK (BD4 AS0 (aT bI rfl B.len PySem.boot_len (aH (aK (pv 2) aC)))) aC)))))))) (bC (i:=10) sc_law.nd rfl (Or.inl rfl)) (aR (aF (bE (iW (wK (fD (pv 6) jS cW (hr.mono (by decide)) (aH (aK (pv 10) aC)) (hst:=aJ _ _ _ rfl) (hpl:=aL rfl)))) (aF (aV (aS nK))) aQ))))) (dL (aD (aX (i:=12) sc_law.nd rfl (Or.inl rfl) (aS (mF (pv 6) oK cW (hr.mono (by decide)))) (by kernel_rfl)) (dL (aD (bE (L2.PW.pt (jC (dF (cD (aT (iP (K:=K) (T:="list") rfl) rfl B.isinstance PyProof.Rows.boot_isinstance (aH (aK (pv 12) (aK (iC (v:=.ty "list") rfl B.list PyProof.Rows.boot_list rfl) aC))) (he:=aJ _ _ _ rfl) (hpl:=aL rfl)))) (jC (aW (AG6 hr.units) (pv 12) (pv 9) (aY _)) (iG (aW (AG6 hr.units) (pv 8) (pv 9) (aY _)))))) (aF (aV (aS nK))) aQ) (dL (aD (bD (cE (wQ PySem.F.plainAttrs_list PySem.F.slot_list_append PySem.F.type_list_append jF (pv 12) (aH (aK aG aC))))) (dL (aF (aV (aS (oO (dR (yY hr.units) (mF (pv 6) oK cW (hr.mono (by decide))) (pv 9) (aY _)) (oO (dR (yY hr.units) (mF (yZ CD_Wishes_0 cW (hr.mono (by decide)) rfl) oK cW (hr.mono (by decide))) (fI (aH aC)) (aY _)) (sG (BC3 (kP (fD (yZ CD_Wishes_0 cW (hr.mono (by decide)) rfl) jS cW (hr.mono (by decide)) (aH (aK aG aC)) (hst:=aJ _ _ _ rfl) (hpl:=aL rfl)))))))))))))))))))))))))))))))))))))))),?_⟩
 walk_at "ho"
 nofun
 refine ⟨sc,ns,0,rfl,hS,by decide,fun c0=>?_⟩
 nofun
 refine ⟨c0,rfl,fun st wa wb wc hst=>?_⟩
 walk_at "ho"
 nofun
 refine ⟨st,rfl,⟨_,_,_,aA⟩,fun tl vs0 ts H2 W2 B2 gtl T2 hT=>?_⟩
 have S2:Same H H2:=iA (aE hst _) hst B2
 have ntl:tl≠st:=(pP gtl).1
 have ln:=T2.2.len
 have l4:=hT.len
 clear B2
 walk_at "ho"
 nofun
 refine ⟨Nat.zero_le _,fun lp hlp=>?_⟩
 have nls:lp≠st:=W2.ne hlp
 have glp:H lp=none:=S2.free hlp
 have nlt:tl≠lp:=aP T2.1 hlp
 have S3:=aE hlp (.lst [])
 have T3:=T2.same S3
 have W3:=W2.same S3
 have e3:upd H2 lp (.lst []) lp=some (.lst []):=aA
 have S03:=S2.trans S3
 generalize upd H2 lp (.lst [])=H3 at *
 clear T2 W2 S2 S3
 obtain ⟨sa,sb,sd,est⟩:=id W3
 have zst:∀ l,H3 l=none->l≠st:=fun l h z=>by rw [z,est] at h; cases h
 have zlp:∀ l,H3 l=none->l≠lp:=fun l h z=>by rw [z,e3] at h; cases h
 have tr:∀ {G:Hp},But2 st lp H3 G->TrsAt G tl vs0 ts:=fun {G} b=>⟨b _ _ ntl nlt T3.1,T3.2.imp fun _ _ _ h=>h.keep (b.tup est e3)⟩
 walk_at "ho"
 nofun
 refine ⟨⟨_,SqL.of T3.1⟩,?_⟩
 refine ForL.by (xs:=vs0) (LnI a H3 sc st tl lp ts) ⟨_,_,[],rfl,e3,.nil,W3,fun _ _ _ _ e=>e⟩ (fun i σ G _ h=>?_) ?_ ?_
 ·obtain ⟨_,_,_,_,_,_,_,b⟩:=h
  exact SqL.of (tr b).1
 ·rintro i y σ G hy ⟨v4,v5,xs,rfl,exs,hL,W,b⟩
  have TG:=tr b
  obtain ⟨t,et,ht⟩:=TG.2.get hy
  have mt:=hT.ok t (List.mem_of_getElem? et)
  have li:=hL.len
  have lti:i < vs0.length:=(List.getElem?_eq_some_iff.mp hy).1
  have lxs:xs.length=i:=by rw [<- li,List.length_take]; omega
  nofun
  refine ⟨st,y,t,rfl,W,ht,mt.1,mt.2,fun r G2 W2 B2 hr=>?_⟩
  obtain ⟨_,_,_,eW⟩:=id W
  have hr2:LnT a (fun l=>H3 l=none) G2 t r:=hr.mono fun l h=>b.free eW exs h
  have hL2:All2 (LnT a (fun l=>H3 l=none) G2) (ts.take i) xs:=hL.imp fun _ _ _ h=>h.but zst eW B2
  have exs2:=B2 _ _ nls exs
  have b2:But2 st lp H3 G2:=fun c o n1 n2 e=>B2 c o n1 (b c o n1 n2 e)
  clear hr hL exs b W eW B2 TG ht
  nofun
  refine ⟨LnM a H3 sc st tl lp ts i t y xs,?_,?_⟩
  ·refine ⟨_,.inl (SqL.of exs2),tl,vs0,rfl,SqL.of (tr b2).1,fun sl hsl=>?_⟩
   rw [lxs,qZ]
   have Sl:=aE hsl (.lst (vs0.take i))
   have esl:upd G2 sl (.lst (vs0.take i)) sl=some (.lst (vs0.take i)):=aA
   have hr3:=hr2.same Sl
   have hL3:=hL2.imp fun _ _ _ h=>LnT.same h Sl
   have exs3:=Sl _ _ exs2
   have W3':=W2.same Sl
   have b3:But2 st lp H3 (upd G2 sl (.lst (vs0.take i))):=fun c o n1 n2 e=>Sl _ _ (b2 c o n1 n2 e)
   generalize upd G2 sl (.lst (vs0.take i))=G3 at *
   clear hr2 hL2 exs2 W2 b2 Sl
   have TG:=tr b3
   obtain ⟨t',et',ht⟩:=TG.2.get hy
   rw [et] at et'
   cases et'
   have lay:=Tr.dat_lay mt.1
   refine ⟨sl,_,_,t.dat,rfl,SqL.of esl,AK0 (rA i TG.2),wC (fun t m=>hT.ok t (List.mem_of_mem_take m)),ht.rd,lay.1,?_⟩
   refine ⟨_,rfl,?_⟩
   cases hb:((ts.take i).map Tr.dat).any (fun d=>PyData.eqv d t.dat) with
   | false =>
    rw [if_neg Bool.false_ne_true]
    exact ⟨⟨r,rfl,hr3⟩,exs3,hL3,W3',b3⟩
   | true =>
    rw [if_pos rfl]
    refine uR W3' (by decide) (by decide) fun x G4 x0 x1 W4 B4=>⟨rfl,?_⟩
    obtain ⟨_,_,_,eW⟩:=id W3'
    have hr4:=hr3.but zst eW B4
    have hL4:=hL3.imp fun _ _ _ h=>LnT.but h zst eW B4
    have exs4:=B4 _ _ nls exs3
    have b4:But2 st lp H3 G4:=fun c o n1 n2 e=>B4 c o n1 (b3 c o n1 n2 e)
    by_cases c:x=0
    ·rw [if_pos (by rw [c])]
     have TH:=tr b4
     have ht4:=ht.but3 W3' B4
     refine ⟨.inl ⟨rfl,_,SqL.of TH.1⟩,?_⟩
     obtain ⟨d0,md0,hd0⟩:=List.any_eq_true.mp hb
     obtain ⟨t0,mt0,rfl⟩:=List.mem_map.mp md0
     obtain ⟨j0,ej0⟩:=List.getElem?_of_mem mt0
     rw [List.getElem?_take] at ej0
     split at ej0
     case isFalse=>cases ej0
     rename_i lj0
     obtain ⟨j,lj,hj,hno⟩:=AL0 (fun m=>((ts[m]?).map fun t'=>PyData.eqv t'.dat t.dat).getD false) j0 (by rw [ej0]; exact hd0)
     have ltj:j < ts.length:=by omega
     have etj:ts[j]?=some ts[j]:=List.getElem?_eq_getElem ltj
     have hej:PyData.eqv ts[j].dat t.dat=true:=by rw [etj] at hj; exact hj
     have ejt:ts[j]=t:=Tr.dat_inj _ _ hej
     have ljx:j < xs.length:=by omega
     refine ⟨tl,y,vs0,ts.map Tr.dat,t.dat,j,by rw [List.length_map]; exact ltj,rfl,rfl,SqL.of TH.1,AK0 TH.2,wC hT.ok,ht4.rd,lay.1,by rw [List.length_map]; omega,by rw [List.getElem_map]; exact hej,fun m hm lm=>?_,?_⟩
     ·have h1:=hno m lm
      have hm':m < ts.length:=by rw [List.length_map] at hm; exact hm
      rw [List.getElem?_eq_getElem hm'] at h1
      rw [List.getElem_map]
      exact h1
     ·refine ixl (SqL.of exs4) (v:=xs[j]) (by rw [jX]; exact List.getElem?_eq_getElem ljx) ?_
      obtain ⟨t2,e2,h2⟩:=hL4.get (List.getElem?_eq_getElem ljx)
      rw [List.getElem?_take,if_pos (by omega),etj] at e2
      have e22:t2=t:=by rw [<- ejt]; exact (Option.some.inj e2).symm
      rw [e22] at h2
      exact ⟨⟨_,rfl,h2⟩,exs4,hL4,W4,b4⟩
    ·rw [if_neg (fun z=>c (V.int.inj z))]
     exact ⟨⟨r,rfl,hr4⟩,exs4,hL4,W4,b4⟩
  ·rintro σ G5 ⟨⟨r5,rfl,hr5⟩,exs5,hL5,W5,b5⟩
   nofun
   refine ⟨.inl ⟨rfl,_,SqL.of exs5⟩,lp,_,_,rfl,rfl,exs5,?_,?_⟩
   ·exact Nat.lt_of_le_of_lt (by omega:xs.length<=1000) (by decide)
   ·have BU:But lp G5 (upd G5 lp (.lst (xs++[r5]))):=But.upd _
    have hN:=(hL5.imp fun _ _ _ h=>LnT.but h zlp exs5 BU).snoc (hr5.but zlp exs5 BU)
    have W6:Well3 (upd G5 lp (.lst (xs++[r5]))) st:=by
     obtain ⟨x1,x2,x3,e⟩:=W5
     exact ⟨x1,x2,x3,by rw [aO nls.symm]; exact e⟩
    refine ⟨_,_,xs++[r5],rfl,aA,?_,W6,fun c o n1 n2 e=>by rw [aO n2]; exact b5 c o n1 n2 e⟩
    rw [List.take_succ,et]
    exact hN
 ·rintro σ G ⟨v4,v5,xs,rfl,exs,hL,W,b⟩
  rw [<- ln,List.take_length] at hL
  have hA:All2 (LnT a (fun _=>True) G) ts xs:=hL.imp fun _ _ _ h=>LnT.mono h fun _ _=>trivial
  have TG:=tr b
  have lx:=hL.len
  have S0:Same H G:=fun c o e=>b c o (aP e hst) (aP e glp) (S03 c o e)
  clear hL W b tr zst zlp T3 W3 est e3 S03
  walk_at "ho"
  nofun
  intro wp dw hwp hdw nwd
  have M:=cX (o:=.own wp) (o':=.ins a.Wishes dw []) hwp hdw
  refine ⟨wp,dw,5,.ref lp,xs,ts,fun _=>True,rfl,aA,by decide,by decide,.inr ⟨lp,rfl,M _ _ exs,hA.imp fun _ _ _ h=>LnT.same h M,by omega⟩,fun l' G1 B1 e1 e2=>?_⟩
  have S1:=gJ hwp hdw B1
  have hW:WsAt a G1 wp l' xs:=⟨dw,_,_,_,e2,e1⟩
  clear B1 M e1 e2
  have hA:=hA.imp fun _ _ _ h=>LnT.same h S1
  have TG:=TG.same S1
  have exs:=S1 _ _ exs
  have S0:=S0.trans S1
  walk_at "ho"
  nofun
  refine ⟨tl,vs0,ts,rfl,TG,hT,fun sp ys G2 S2 es ly hy=>?_⟩
  have hW:=hW.same S2
  have hA:=hA.imp fun _ _ _ h=>LnT.same h S2
  have TG:=TG.same S2
  have exs:=S2 _ _ exs
  have S0:=S0.trans S2
  walk_at "ho"
  nofun
  obtain ⟨_,_,_,_,hwp2,_⟩:=id hW
  refine ⟨_,_,_,hwp2,rfl,_,⟨rfl,rfl⟩,wp,l',xs,ts,rfl,hW,hA,hT,fun fi G3 S3 nfi ef=>?_⟩
  have hW:=hW.same S3
  have hA:=hA.imp fun _ _ _ h=>LnT.same h S3
  have TG:=TG.same S3
  have exs:=S3 _ _ exs
  have es:=S3 _ _ es
  have hy:=ThS.same hy S3
  have S0:=S0.trans S3
  walk_at "ho"
  nofun
  refine ⟨LwW a G3 sc st tl lp sp fi v4 v5 xs,?_,?_⟩
  ·refine ⟨sc,ns,1,rfl,S0.seq hS,by decide,fun c1=>⟨_,rfl,by decide,?_⟩⟩
   by_cases c:c1 % 2=0
   ·rw [if_pos c]
    intro w2 d2 hw2 hd2 nw2
    have M:=cX (o:=.own w2) (o':=.ins a.Wishes d2 []) hw2 hd2
    refine ⟨w2,d2,5,.ref lp,xs,ts,fun _=>True,rfl,aA,by decide,by decide,.inr ⟨lp,rfl,M _ _ exs,hA.imp fun _ _ _ h=>LnT.same h M,by omega⟩,fun l2 G4 B4 e1 e2=>⟨rfl,?_⟩⟩
    exact ⟨⟨w2,l2,rfl,⟨d2,_,_,_,e2,e1⟩⟩,gJ hw2 hd2 B4⟩
   ·rw [if_neg c]
    exact ⟨⟨wp,l',rfl,hW⟩,fO _⟩
  clear hW
  rintro σ G4 ⟨⟨wp,l',rfl,hW⟩,S4⟩
  have hA:=hA.imp fun _ _ _ h=>LnT.same h S4
  have TG:=TG.same S4
  have es:=S4 _ _ es
  have ef:=S4 _ _ ef
  have hy:=ThS.same hy S4
  walk_at "ho"
  nofun
  refine ⟨Nat.zero_le _,fun ip hip=>?_⟩
  have S5:=aE hip (.lst [])
  have e5:upd G4 ip (.lst []) ip=some (.lst []):=aA
  generalize upd G4 ip (.lst [])=G5 at *
  walk_at "ho"
  nofun
  refine ⟨_,.inl (SqL.of (S5 _ _ TG.1)),by omega,by omega,?_⟩
  have enil:([]:List V)=rL ((List.range 0).filter (dead ts)):=rfl
  rw [enil] at e5
  refine ForR.by (fun i σ G=>(∃ v10 v11,σ=[some (.ref sc),some (.ref st),some (.ref tl),some (.ref lp),v4,v5,some (.ref wp),some (.ref sp),some (.ref fi),some (.ref ip),v10,v11,none])/\Same G4 G/\G ip=some (.lst (rL ((List.range i).filter (dead ts))))) ⟨⟨_,_,rfl⟩,S5,e5⟩ ?_ ?_
  ·rintro i σ G6 hi ⟨⟨v10,v11,rfl⟩,S6,e6⟩
   have hi':i < ts.length:=by rw [ln]; first | exact hi | simpa using hi
   exists Int.zero_add
   obtain ⟨_,_,_,_,hwp3,_⟩:=hW.same S6
   refine ⟨_,_,_,hwp3,rfl,_,⟨rfl,rfl⟩,wp,l',(i:Int),xs,ts,rfl,hW.same S6,hA.imp (fun _ _ _ h=>LnT.same h S6),hT,fun r G7 S7 _ r2=>?_⟩
   have WR:BL6 a G7 ts i r:=by
    have:=r2 (by omega) (by omega)
    rw [Int.toNat_natCast] at this
    exact this
   have SA:=S6.trans S7
   nofun
   refine ⟨r,tl,sp,i,vs0,ys,ts,rfl,TG.same SA,hT,hi',SA _ _ es,ly,ThS.same hy SA,WR,fun G8 S8=>?_⟩
   have e8:=(S7.trans S8) _ _ e6
   have SB:=SA.trans S8
   exists Bool.not_true
   rcases zN (a:=a) (H:=G7) (ts:=ts) (i:=i) (x:=r) WR with ⟨e,hd⟩ | ⟨e,hd⟩
   ·rw [if_pos e]
    have ea:rL ((List.range i).filter (dead ts))++[V.int (i:Nat)]=rL ((List.range (i+1)).filter (dead ts)):=by
     rw [pQ,List.filter_cons_of_pos hd]
     unfold rL
     rw [List.map_append]
     rfl
    have ll:(rL ((List.range i).filter (dead ts))).length<=i:=by
     unfold rL
     rw [List.length_map]
     have:=List.length_filter_le (dead ts) (List.range i)
     rw [List.length_range] at this
     exact this
    refine ⟨.inl ⟨rfl,_,SqL.of e8⟩,ip,_,_,rfl,rfl,e8,Nat.lt_of_le_of_lt (by omega:_<=1000) (by decide),?_⟩
    rw [ea]
    have SC:Same G4 (upd G8 ip (.lst (rL ((List.range (i+1)).filter (dead ts))))):=iA SB hip (But.upd _)
    first | exact ⟨⟨_,_,rfl⟩,SC,aA⟩ | exact ⟨SC,aA⟩
   ·rw [if_neg e]
    have ea:rL ((List.range i).filter (dead ts))=rL ((List.range (i+1)).filter (dead ts)):=by
     rw [pQ,List.filter_cons_of_neg (by rw [hd]; exact Bool.false_ne_true),List.filter_nil,List.append_nil]
    rw [ea] at e8
    first | exact ⟨⟨_,_,rfl⟩,SB,e8⟩ | exact ⟨SB,e8⟩
  ·rintro σ G6 ⟨⟨v10,v11,rfl⟩,S6,e6⟩
   have e6:G6 ip=some (.lst (rL (idl ts))):=by
    rw [e6]
    first | rw [Int.toNat_natCast,<- ln]; rfl | rw [<- ln]; rfl
   have ef:G4 fi=some (.lst (rL (idl ts))):=ef
   walk_at "ho"
   nofun
   have T6:=(TG.same S6).1
   refine ⟨_,.inl (SqL.of T6),_,.inl (SqL.of T6),_,.inl (SqL.of T6),sz8 (by decide),fun ql hql=>?_⟩
   have Sq:=aE hql (.lst [.int (-1),.int (vs0.length:Nat),.int ((vs0.length:Nat)+7),.int 999999,.int (-(vs0.length:Nat))])
   have eql:upd G6 ql (.lst [.int (-1),.int (vs0.length:Nat),.int ((vs0.length:Nat)+7),.int 999999,.int (-(vs0.length:Nat))]) ql=some (.lst [.int (-1),.int (vs0.length:Nat),.int ((vs0.length:Nat)+7),.int 999999,.int (-(vs0.length:Nat))]):=aA
   have e6:=Sq _ _ e6
   have S6:=S6.trans Sq
   generalize upd G6 ql (.lst [.int (-1),.int (vs0.length:Nat),.int ((vs0.length:Nat)+7),.int 999999,.int (-(vs0.length:Nat))])=G7 at *
   refine ⟨⟨_,SqL.of eql⟩,?_⟩
   refine ForL.by (xs:=[.int (-1),.int (vs0.length:Nat),.int ((vs0.length:Nat)+7),.int 999999,.int (-(vs0.length:Nat))]) (fun _ σ G=>(∃ v10,σ=[some (.ref sc),some (.ref st),some (.ref tl),some (.ref lp),v4,v5,some (.ref wp),some (.ref sp),some (.ref fi),some (.ref ip),v10,v11,none])/\Same G7 G) ⟨⟨_,rfl⟩,fO _⟩ (fun i σ G _ h=>SqL.of (h.2 _ _ eql)) ?_ ?_
   ·rintro i y σ G hy ⟨⟨v10,rfl⟩,SG⟩
    obtain ⟨m,rfl,hm⟩:∃ m:Int,y=.int m/\(m < 0\/(ts.length:Int)<=m):=by
     have mm:=List.mem_of_getElem? hy
     simp only [List.mem_cons,List.not_mem_nil,or_false] at mm
     rcases mm with rfl | rfl | rfl | rfl | rfl
     ·exact ⟨_,rfl,by omega⟩
     ·exact ⟨_,rfl,by omega⟩
     ·exact ⟨_,rfl,by omega⟩
     ·exact ⟨_,rfl,by omega⟩
     ·exact ⟨_,rfl,by omega⟩
    have SA:=S6.trans SG
    nofun
    obtain ⟨_,_,_,_,hwp4,_⟩:=hW.same SA
    refine ⟨_,_,_,hwp4,rfl,_,⟨rfl,rfl⟩,wp,l',m,xs,ts,rfl,hW.same SA,hA.imp (fun _ _ _ h=>LnT.same h SA),hT,fun r G8 S8 r1 _=>?_⟩
    rw [r1 hm]
    dsimp only
    rw [if_neg (by intro z; exact z rfl)]
    first | exact ⟨⟨_,rfl⟩,SG.trans S8⟩ | exact SG.trans S8
   ·rintro σ G ⟨⟨v10,rfl⟩,SG⟩
    have e8:=SG _ _ e6
    have S8:=S6.trans SG
    have hW:=hW.same S8
    have hA:=hA.imp fun _ _ _ h=>LnT.same h S8
    have ef:=S8 _ _ ef
    clear SG S6 Sq
    walk_at "ho"
    nofun
    obtain ⟨_,_,_,_,hwp5,_⟩:=id hW
    refine ⟨_,_,_,hwp5,rfl,_,⟨rfl,rfl⟩,wp,l',xs,ts,rfl,hW,hA,hT,fun tp GA SA ntp etp=>?_⟩
    have etp:GA tp=some (.lst (rL (idl ts))):=etp
    walk_at "ho"
    nofun
    refine ⟨_,_,true,rfl,.lst etp,by kernel_rfl,?_⟩
    exists Bool.not_true
    refine uG etp (SA _ _ e8) ⟨_,rfl,?_⟩
    rw [if_neg Bool.false_ne_true]
    refine uG (SA _ _ ef) (SA _ _ e8) ⟨_,rfl,?_⟩
    rw [if_neg Bool.false_ne_true]
    walk_at "ho"
    nofun
    have lid:(rL (idl ts)).length<=1000:=by
     unfold rL idl
     rw [List.length_map]
     have:=List.length_filter_le (dead ts) (List.range ts.length)
     rw [List.length_range] at this
     omega
    refine ⟨.inl ⟨rfl,_,SqL.of etp⟩,tp,_,_,rfl,rfl,etp,Nat.lt_of_le_of_lt lid (by decide),?_⟩
    have SB:Same G (upd GA tp (.lst (rL (idl ts)++[.int 99]))):=iA SA ntp (But.upd _)
    generalize upd GA tp (.lst (rL (idl ts)++[.int 99]))=GB at *
    have hW:=hW.same SB
    have hA:=hA.imp fun _ _ _ h=>LnT.same h SB
    have e8:=SB _ _ e8
    first | refine zK ?_ | (dsimp only; refine zK ?_)
    nofun
    obtain ⟨_,_,_,_,hwp6,_⟩:=id hW
    refine ⟨_,_,_,hwp6,rfl,_,⟨rfl,rfl⟩,wp,l',xs,ts,rfl,hW,hA,hT,fun r1 GC SC nr1 er1=>?_⟩
    refine uG er1 (SC _ _ e8) ?_
    nofun
    intro w2 d2 hw2 hd2 nw2
    refine ⟨w2,d2,0,.non,[],[],fun _=>True,rfl,aA,by decide,by decide,.inl ⟨rfl,rfl⟩,fun l2 GD BD e1 e2=>⟨rfl,?_⟩⟩
    have tn:Tame []:=⟨(fun t m=>nomatch m),Nat.zero_le _,Nat.zero_le _⟩
    refine ⟨_,_,_,e2,rfl,_,⟨rfl,rfl⟩,w2,l2,[],[],rfl,⟨d2,_,_,_,e2,e1⟩,.nil,tn,fun r3 GE SE nr3 er3=>?_⟩
    refine ⟨Nat.zero_le _,fun p0 hp0=>?_⟩
    have Sp0:=aE hp0 (.lst [])
    refine uG (l:=[]) (Sp0 _ _ er3) aA ⟨_,rfl,?_⟩
    rw [if_pos rfl]
    intro w3 d3 hw3 hd3 nw3
    refine ⟨w3,d3,0,.non,[],[],fun _=>True,rfl,aA,by decide,by decide,.inl ⟨rfl,rfl⟩,fun l3 GF BF e1 e2=>⟨rfl,?_⟩⟩
    refine ⟨_,_,_,e2,rfl,_,⟨rfl,rfl⟩,w3,l3,0,[],[],rfl,⟨d3,_,_,_,e2,e1⟩,.nil,tn,fun r4 GH SH h1 _=>?_⟩
    rw [h1 (.inr (by decide))]
    first | exact q _ | (dsimp only; rw [decide_eq_true rfl]; exact q _)
end
end Bw
namespace Hd
open PySem PySem.W L2
set_option maxRecDepth 100000
set_option maxHeartbeats 0
class AT where
 p:Program
 a:List Str
 t:List String
class CP where
 P:Params
section
variable [A:AT]
noncomputable def s (i:Nat):Str:=A.a.getD i Str.empty
noncomputable def t (i:Nat):String:=A.t.getD i ""
noncomputable def stm (i:Nat):Stmt:=A.p.main.body.getD i (.Pass ⟨0,0,0,0⟩)
noncomputable abbrev N:Obj->BT->BT->BT:=BT.node
noncomputable abbrev L:BT:=BT.nil
open PyData
noncomputable section
variable [c:CP]
noncomputable def ob (i:Nat)(x:Array Value):Obj:=Obj.mk (.type (t i)) none (.fields x) #[]
noncomputable def sq (i:Nat)(x:Array Value):Obj:=Obj.mk (.type (t i)) none (.seq x 0) #[]
noncomputable def fo (i n q:Nat)(x:Stmt)(k:Nat)(g:List Addr)(d e y:Value)(v:Nat)(u:Tok)(z:Addr):Obj:=Obj.mk (.type (t i)) none (.func (FuncData.mk (s n) (s q) (aN x) (FuncBody.stmts (aM x)) (aB x) k [] d e y (.str (s v) u) none (.ref z) .none 0)) #[]
noncomputable abbrev f (n:Nat)(k:Tok):Value:=.str (s n) k
noncomputable abbrev r (n:Addr):Value:=.ref n
noncomputable abbrev j (n:Int)(k:Tok):Value:=.int n k
noncomputable def d (i:Nat)(k:Tok)(v:Value):DictEntry:=DictEntry.mk (keyHash c.P (s i)) (f i k) v
noncomputable def di (x:Array DictEntry)(n:Nat):Obj:=Obj.mk (.type (t 6)) none (.dict x n) #[]
noncomputable def fn (n q:Nat)(x:Stmt):Obj:=Obj.mk .none none (.func (FuncData.mk (s n) (s q) (aN x) (FuncBody.stmts (aM x)) (aB x) 0 [] .none .none .none .none none .none .none 0)) #[]
noncomputable def fd (x:Array Value):Obj:=Obj.mk .none none (.fields x) #[]
noncomputable abbrev i (n:Int):Value:=.int n 0
noncomputable abbrev u:Value:=.none
noncomputable abbrev T (n:Nat):Value:=.type (t n)
noncomputable abbrev bi (n:Nat):Value:=.builtin (t n)
noncomputable def co (a b c d e f1 f2 f3 f4 f5 g:Nat)(w:Bool)(k:Nat)(x1 x2 x3 x4:Value)(y z v:Nat):Obj:=ob 5 #[f a b,f c d,f 10 e,i f1,i f2,i f3,i f4,i f5,r g,.bool w,i 181,r k,x1,x2,x3,x4,i y,i z,f 10 v]
def o00:=sq 2 #[]
def o01:=fd #[]
def o02:=co 195 182 195 183 184 1 0 0 0 0 11 false 12 u u u u 185 1 186
def o03:=(Obj.mk (.type (t 13)) none .plain #[some (r 13),some (r 3),some (r 3),none,some (f 99 164),none,some (r 0)])
def o04:=di #[d 27 165 (f 28 194),d 19 166 .none,d 29 167 .none,d 30 168 (bi 10),d 31 169 .none,d 32 170 (r 6),d 33 171 (r 4),d 34 173 (f 10 172),d 35 174 .none,d 36 193 (r 21),d 37 213 (r 31)] 11
def o05:=fd #[i 1,i 0,r 20,i 5,i 0,r 27]
def o06:=sq 2 #[f 173 190]
def o07:=fn 36 36 (stm 0)
def o08:=co 36 187 36 188 189 1 1 0 0 3 15 true 16 u (r 17) (r 18) (r 19) 191 1 192
def o09:=fo 4 36 36 (stm 0) 3 [] .none .none .none 99 164 20
def o0a:=sq 2 #[T 17]
def o0b:=ob 7 #[bi 8,T 9]
def o0c:=di #[d 12 203 (f 28 194),d 20 205 (f 37 204),d 14 207 (j 5 206),d 18 208 (r 29)] 4
def o0d:=co 37 198 37 199 200 5 0 0 0 0 25 false 26 u u u u 201 5 202
def o0e:=(Obj.mk (.type (t 13)) none .plain #[some (r 27),some (r 3),some (r 24),none,some (f 28 194),none,some (r 0)])
def o0f:=di #[d 12 203 (f 28 194),d 14 207 (j 5 206),d 18 208 (r 29),d 0 210 (r 32),d 19 211 .none] 3
def o0g:=(Obj.mk (.type (t 9)) none (.cls (ClassData.mk (s 37) [(T 17)] [(r 31),(T 17),(T 18),(T 19),(T 15)] 30 (s 37) true [] [] false none false)) #[some (r 22),none,some (f 37 196),some (f 37 204),some (bi 20),some (.bool true)])
def o0h:=ob 0 #[f 0 209,r 31,bi 1,u]
def o0i:=ob 3 #[r 31,r 31,r 31]
def o0j:=ob 7 #[bi 14,r 31]
def o0k:=di #[d 27 165 (f 28 194),d 19 166 .none,d 29 167 .none,d 30 168 (bi 10),d 31 169 .none,d 32 170 (r 6),d 33 171 (r 4),d 34 173 (f 10 172),d 35 174 .none,d 36 193 (r 21),d 37 213 (r 31),d 61 229 (r 44)] 12
def o0l:=fd #[i 1,i 0,r 20,i 5,i 0,r 27,i 7,i 0,r 40]
def o0m:=(Obj.mk (.type (t 9)) none (.cls (ClassData.mk (s 37) [(T 17)] [(r 31),(T 17),(T 18),(T 19),(T 15)] 30 (s 37) true [] [(r 44)] false none false)) #[some (r 22),none,some (f 37 196),some (f 37 204),some (bi 20),some (.bool true)])
def o0n:=sq 2 #[r 31]
def o0o:=di #[d 12 221 (f 28 194),d 20 223 (f 61 222),d 14 225 (j 7 224),d 18 226 (r 42)] 4
def o0p:=co 61 216 61 217 218 7 0 0 0 0 38 false 39 u u u u 219 7 220
def o0q:=(Obj.mk (.type (t 13)) none .plain #[some (r 40),some (r 3),some (r 37),none,some (f 28 194),none,some (r 0)])
def o0r:=di #[d 12 221 (f 28 194),d 14 225 (j 7 224),d 18 226 (r 42),d 19 227 .none] 2
def o0s:=(Obj.mk (.type (t 9)) none (.cls (ClassData.mk (s 61) [(r 31)] [(r 44),(r 31),(T 17),(T 18),(T 19),(T 15)] 43 (s 61) true [] [] false none false)) #[some (r 35),none,some (f 61 214),some (f 61 222),some (bi 20),some (.bool true)])
def o0t:=ob 3 #[r 44,r 44,r 44]
def o0u:=ob 7 #[bi 14,r 44]
def o0v:=di #[d 27 165 (f 28 194),d 19 166 .none,d 29 167 .none,d 30 168 (bi 10),d 31 169 .none,d 32 170 (r 6),d 33 171 (r 4),d 34 173 (f 10 172),d 35 174 .none,d 36 193 (r 21),d 37 213 (r 31),d 61 229 (r 44),d 44 245 (r 56)] 13
def o0w:=fd #[i 1,i 0,r 20,i 5,i 0,r 27,i 7,i 0,r 40,i 9,i 0,r 52]
def o0x:=(Obj.mk (.type (t 9)) none (.cls (ClassData.mk (s 37) [(T 17)] [(r 31),(T 17),(T 18),(T 19),(T 15)] 30 (s 37) true [] [(r 44),(r 56)] false none false)) #[some (r 22),none,some (f 37 196),some (f 37 204),some (bi 20),some (.bool true)])
def o0y:=di #[d 12 237 (f 28 194),d 20 239 (f 44 238),d 14 241 (j 9 240),d 18 242 (r 54)] 4
def o0z:=co 44 232 44 233 234 9 0 0 0 0 50 false 51 u u u u 235 9 236
def o0A:=(Obj.mk (.type (t 13)) none .plain #[some (r 52),some (r 3),some (r 49),none,some (f 28 194),none,some (r 0)])
def o0B:=di #[d 12 237 (f 28 194),d 14 241 (j 9 240),d 18 242 (r 54),d 19 243 .none] 2
def o0C:=(Obj.mk (.type (t 9)) none (.cls (ClassData.mk (s 44) [(r 31)] [(r 56),(r 31),(T 17),(T 18),(T 19),(T 15)] 55 (s 44) true [] [] false none false)) #[some (r 47),none,some (f 44 230),some (f 44 238),some (bi 20),some (.bool true)])
def o0D:=ob 3 #[r 56,r 56,r 56]
def o0E:=ob 7 #[bi 14,r 56]
def o0F:=di #[d 27 165 (f 28 194),d 19 166 .none,d 29 167 .none,d 30 168 (bi 10),d 31 169 .none,d 32 170 (r 6),d 33 171 (r 4),d 34 173 (f 10 172),d 35 174 .none,d 36 193 (r 21),d 37 213 (r 31),d 61 229 (r 44),d 44 245 (r 56),d 62 261 (r 68)] 14
def o0G:=fd #[i 1,i 0,r 20,i 5,i 0,r 27,i 7,i 0,r 40,i 9,i 0,r 52,i 11,i 0,r 64]
def o0H:=(Obj.mk (.type (t 9)) none (.cls (ClassData.mk (s 37) [(T 17)] [(r 31),(T 17),(T 18),(T 19),(T 15)] 30 (s 37) true [] [(r 44),(r 56),(r 68)] false none false)) #[some (r 22),none,some (f 37 196),some (f 37 204),some (bi 20),some (.bool true)])
def o0I:=di #[d 12 253 (f 28 194),d 20 255 (f 62 254),d 14 257 (j 11 256),d 18 258 (r 66)] 4
def o0J:=co 62 248 62 249 250 11 0 0 0 0 62 false 63 u u u u 251 11 252
def o0K:=(Obj.mk (.type (t 13)) none .plain #[some (r 64),some (r 3),some (r 61),none,some (f 28 194),none,some (r 0)])
def o0L:=di #[d 12 253 (f 28 194),d 14 257 (j 11 256),d 18 258 (r 66),d 19 259 .none] 2
def o0M:=(Obj.mk (.type (t 9)) none (.cls (ClassData.mk (s 62) [(r 31)] [(r 68),(r 31),(T 17),(T 18),(T 19),(T 15)] 67 (s 62) true [] [] false none false)) #[some (r 59),none,some (f 62 246),some (f 62 254),some (bi 20),some (.bool true)])
def o0N:=ob 3 #[r 68,r 68,r 68]
def o0O:=ob 7 #[bi 14,r 68]
def o0P:=di #[d 27 165 (f 71 304),d 19 166 .none,d 29 167 .none,d 30 168 (bi 10),d 31 169 .none,d 32 170 (r 6),d 33 171 (r 4),d 34 173 (f 10 172),d 35 174 .none,d 36 193 (r 21),d 37 213 (r 31),d 61 229 (r 44),d 44 245 (r 56),d 62 261 (r 68),d 141 277 (r 80),d 142 286 (r 89),d 143 295 (r 96),d 138 303 (r 103),d 144 307 (j 1440 306),d 145 314 (r 110),d 146 321 (r 117)] 21
def o0Q:=fd #[i 1,i 0,r 20,i 5,i 0,r 27,i 7,i 0,r 40,i 9,i 0,r 52,i 11,i 0,r 64,i 13,i 0,r 76,i 16,i 0,r 88,i 18,i 0,r 95,i 20,i 0,r 102,i 24,i 0,r 109,i 26,i 0,r 116]
def o0R:=(Obj.mk (.type (t 9)) none (.cls (ClassData.mk (s 37) [(T 17)] [(r 31),(T 17),(T 18),(T 19),(T 15)] 30 (s 37) true [] [(r 44),(r 56),(r 68),(r 80)] false none false)) #[some (r 22),none,some (f 37 196),some (f 37 204),some (bi 20),some (.bool true)])
def o0S:=di #[d 12 269 (f 28 194),d 20 271 (f 141 270),d 14 273 (j 13 272),d 18 274 (r 78)] 4
def o0T:=co 141 264 141 265 266 13 0 0 0 0 74 false 75 u u u u 267 13 268
def o0U:=(Obj.mk (.type (t 13)) none .plain #[some (r 76),some (r 3),some (r 73),none,some (f 28 194),none,some (r 0)])
def o0V:=di #[d 12 269 (f 28 194),d 14 273 (j 13 272),d 18 274 (r 78),d 19 275 .none] 2
def o0W:=(Obj.mk (.type (t 9)) none (.cls (ClassData.mk (s 141) [(r 31)] [(r 80),(r 31),(T 17),(T 18),(T 19),(T 15)] 79 (s 141) true [] [] false none false)) #[some (r 71),none,some (f 141 262),some (f 141 270),some (bi 20),some (.bool true)])
def o0X:=ob 3 #[r 80,r 80,r 80]
def o0Y:=ob 7 #[bi 14,r 80]
def o0Z:=sq 2 #[f 47 283]
def o10:=fn 142 142 (stm 8)
def o11:=co 142 280 142 281 282 16 1 0 0 3 83 true 84 u (r 85) (r 86) (r 87) 284 16 285
def o12:=fo 4 142 142 (stm 8) 3 [] .none .none .none 139 278 88
def o13:=sq 2 #[f 47 290,f 48 291,f 49 292]
def o14:=fn 143 143 (stm 9)
def o15:=co 143 287 143 288 289 18 3 0 0 3 90 true 91 u (r 92) (r 93) (r 94) 293 18 294
def o16:=fo 4 143 143 (stm 9) 3 [] .none .none .none 139 278 95
def o17:=sq 2 #[f 47 299,f 48 300]
def o18:=fn 138 138 (stm 10)
def o19:=co 138 296 138 297 298 20 2 0 0 3 97 true 98 u (r 99) (r 100) (r 101) 301 20 302
def o1a:=fo 4 138 138 (stm 10) 3 [] .none .none .none 139 278 102
def o1b:=sq 2 #[f 47 311]
def o1c:=fn 145 145 (stm 13)
def o1d:=co 145 308 145 309 310 24 1 0 0 3 104 true 105 u (r 106) (r 107) (r 108) 312 24 313
def o1e:=fo 4 145 145 (stm 13) 3 [] .none .none .none 71 304 109
def o1f:=sq 2 #[f 47 318]
def o1g:=fn 146 146 (stm 14)
def o1h:=co 146 315 146 316 317 26 1 0 0 3 111 true 112 u (r 113) (r 114) (r 115) 319 26 320
def o1i:=fo 4 146 146 (stm 14) 3 [] .none .none .none 71 304 116
def o1j:=di #[d 27 165 (f 140 381),d 19 166 .none,d 29 167 .none,d 30 168 (bi 10),d 31 169 .none,d 32 170 (r 6),d 33 171 (r 4),d 34 173 (f 10 172),d 35 174 .none,d 36 193 (r 21),d 37 213 (r 31),d 61 229 (r 44),d 44 245 (r 56),d 62 261 (r 68),d 141 277 (r 80),d 142 286 (r 89),d 143 295 (r 96),d 138 303 (r 103),d 144 307 (j 1440 306),d 145 314 (r 110),d 146 321 (r 117),d 68 328 (r 124),d 70 335 (r 131),d 147 339 (f 148 338),d 149 341 (j 8 340),d 118 347 (r 136),d 75 380 (r 153),d 45 388 (r 162)] 28
def o1k:=fd #[i 1,i 0,r 20,i 5,i 0,r 27,i 7,i 0,r 40,i 9,i 0,r 52,i 11,i 0,r 64,i 13,i 0,r 76,i 16,i 0,r 88,i 18,i 0,r 95,i 20,i 0,r 102,i 24,i 0,r 109,i 26,i 0,r 116,i 32,i 0,r 123,i 35,i 0,r 130,i 41,i 0,r 135,i 45,i 0,r 142,i 56,i 0,r 161]
def o1l:=sq 2 #[f 77 325]
def o1m:=fn 68 68 (stm 15)
def o1n:=co 68 322 68 323 324 32 1 0 0 3 118 true 119 u (r 120) (r 121) (r 122) 326 32 327
def o1o:=fo 4 68 68 (stm 15) 3 [] .none .none .none 71 304 123
def o1p:=sq 2 #[f 78 332]
def o1q:=fn 70 70 (stm 16)
def o1r:=co 70 329 70 330 331 35 1 0 0 3 125 true 126 u (r 127) (r 128) (r 129) 333 35 334
def o1s:=fo 4 70 70 (stm 16) 3 [] .none .none .none 71 304 130
def o1t:=fn 118 118 (stm 20)
def o1u:=co 118 342 118 343 344 41 1 0 0 3 132 true 133 u u u (r 134) 345 41 346
def o1v:=fo 4 118 118 (stm 20) 3 [] .none .none .none 116 336 135
def o1w:=di #[d 12 355 (f 116 336),d 20 357 (f 75 356),d 14 359 (j 45 358),d 15 369 (r 150),d 18 373 (r 151)] 5
def o1x:=fd #[i 47,i 4,r 149]
def o1y:=co 75 350 75 351 352 45 0 0 0 0 140 false 141 u u u u 353 45 354
def o1z:=(Obj.mk (.type (t 13)) none .plain #[some (r 142),some (r 3),some (r 139),none,some (f 116 336),none,some (r 0)])
def o1A:=sq 2 #[f 51 363,f 56 364,f 57 365,f 67 366]
def o1B:=fn 15 115 (aI (stm 21) 0)
def o1C:=co 15 360 115 361 362 47 4 0 0 3 144 true 145 u (r 146) (r 147) (r 148) 367 47 368
def o1D:=fo 4 15 115 (aI (stm 21) 0) 3 [] .none .none .none 116 336 149
def o1E:=sq 2 #[f 56 370,f 57 371,f 67 372]
def o1F:=di #[d 12 355 (f 116 336),d 14 359 (j 45 358),d 15 369 (r 150),d 18 373 (r 151),d 59 375 (r 154),d 0 377 (r 155),d 19 378 .none] 4
def o1G:=(Obj.mk (.type (t 9)) none (.cls (ClassData.mk (s 75) [(T 15)] [(r 153),(T 15)] 152 (s 75) true [] [] false none false)) #[none,none,some (f 75 348),some (f 75 356),some (bi 16),some (.bool true)])
def o1H:=ob 0 #[f 59 374,r 153,bi 11,bi 12]
def o1I:=ob 0 #[f 0 376,r 153,bi 1,u]
def o1J:=ob 3 #[r 153,r 153,r 153]
def o1K:=ob 7 #[bi 14,r 153]
def o1L:=fn 45 45 (stm 23)
def o1M:=co 45 383 45 384 385 56 1 0 0 3 158 true 159 u u u (r 160) 386 56 387
def o1N:=fo 4 45 45 (stm 23) 3 [] .none .none .none 140 381 161
def o1O:=di #[d 27 165 (f 13 405),d 19 166 .none,d 29 167 .none,d 30 168 (bi 10),d 31 169 .none,d 32 170 (r 6),d 33 171 (r 4),d 34 173 (f 10 172),d 35 174 .none,d 36 193 (r 21),d 37 213 (r 31),d 61 229 (r 44),d 44 245 (r 56),d 62 261 (r 68),d 141 277 (r 80),d 142 286 (r 89),d 143 295 (r 96),d 138 303 (r 103),d 144 307 (j 1440 306),d 145 314 (r 110),d 146 321 (r 117),d 68 328 (r 124),d 70 335 (r 131),d 147 339 (f 148 338),d 149 341 (j 8 340),d 118 347 (r 136),d 75 380 (r 153),d 45 388 (r 162),d 158 396 (r 169),d 117 404 (r 176),d 60 426 (r 186)] 31
def o1P:=fd #[i 1,i 0,r 20,i 5,i 0,r 27,i 7,i 0,r 40,i 9,i 0,r 52,i 11,i 0,r 64,i 13,i 0,r 76,i 16,i 0,r 88,i 18,i 0,r 95,i 20,i 0,r 102,i 24,i 0,r 109,i 26,i 0,r 116,i 32,i 0,r 123,i 35,i 0,r 130,i 41,i 0,r 135,i 45,i 0,r 142,i 56,i 0,r 161,i 60,i 0,r 168,i 66,i 0,r 175,i 72,i 0,r 182]
def o1Q:=sq 2 #[f 65 392,f 183 393]
def o1R:=fn 158 158 (stm 24)
def o1S:=co 158 389 158 390 391 60 1 0 0 3 163 true 164 u (r 165) (r 166) (r 167) 394 60 395
def o1T:=fo 4 158 158 (stm 24) 3 [] .none .none .none 140 381 168
def o1U:=sq 2 #[f 172 400,f 65 401]
def o1V:=fn 117 117 (stm 25)
def o1W:=co 117 397 117 398 399 66 1 0 0 3 170 true 171 u (r 172) (r 173) (r 174) 402 66 403
def o1X:=fo 4 117 117 (stm 25) 3 [] .none .none .none 140 381 175
def o1Y:=di #[d 12 414 (f 13 405),d 20 416 (f 60 415),d 14 418 (j 72 417),d 18 419 (r 184)] 4
def o1Z:=co 60 409 60 410 411 72 0 0 0 0 180 false 181 u u u u 412 72 413
def o20:=(Obj.mk (.type (t 13)) none .plain #[some (r 182),some (r 3),some (r 179),none,some (f 13 405),none,some (r 0)])
def o21:=di #[d 12 414 (f 13 405),d 14 418 (j 72 417),d 18 419 (r 184),d 59 421 (r 187),d 0 423 (r 188),d 19 424 .none] 4
def o22:=(Obj.mk (.type (t 9)) none (.cls (ClassData.mk (s 60) [(T 15)] [(r 186),(T 15)] 185 (s 60) true [] [] false none false)) #[none,none,some (f 60 407),some (f 60 415),some (bi 16),some (.bool true)])
def o23:=ob 0 #[f 59 420,r 186,bi 11,bi 12]
def o24:=ob 0 #[f 0 422,r 186,bi 1,u]
def o25:=ob 3 #[r 186,r 186,r 186]
def o26:=ob 7 #[bi 14,r 186]
def o27:=di #[d 27 165 (f 13 405),d 19 166 .none,d 29 167 .none,d 30 168 (bi 10),d 31 169 .none,d 32 170 (r 6),d 33 171 (r 4),d 34 173 (f 10 172),d 35 174 .none,d 36 193 (r 21),d 37 213 (r 31),d 61 229 (r 44),d 44 245 (r 56),d 62 261 (r 68),d 141 277 (r 80),d 142 286 (r 89),d 143 295 (r 96),d 138 303 (r 103),d 144 307 (j 1440 306),d 145 314 (r 110),d 146 321 (r 117),d 68 328 (r 124),d 70 335 (r 131),d 147 339 (f 148 338),d 149 341 (j 8 340),d 118 347 (r 136),d 75 380 (r 153),d 45 388 (r 162),d 158 396 (r 169),d 117 404 (r 176),d 60 426 (r 186),d 134 470 (r 221)] 32
def o28:=fd #[i 1,i 0,r 20,i 5,i 0,r 27,i 7,i 0,r 40,i 9,i 0,r 52,i 11,i 0,r 64,i 13,i 0,r 76,i 16,i 0,r 88,i 18,i 0,r 95,i 20,i 0,r 102,i 24,i 0,r 109,i 26,i 0,r 116,i 32,i 0,r 123,i 35,i 0,r 130,i 41,i 0,r 135,i 45,i 0,r 142,i 56,i 0,r 161,i 60,i 0,r 168,i 66,i 0,r 175,i 72,i 0,r 182,i 74,i 0,r 196]
def o29:=(Obj.mk (.type (t 9)) none (.cls (ClassData.mk (s 60) [(T 15)] [(r 186),(T 15)] 185 (s 60) true [] [(r 221)] false none false)) #[none,none,some (f 60 407),some (f 60 415),some (bi 16),some (.bool true)])
def o2a:=sq 2 #[r 186]
def o2b:=di #[d 12 434 (f 13 405),d 20 436 (f 134 435),d 14 438 (j 74 437),d 16 446 (r 204),d 4 456 (r 211),d 17 466 (r 218),d 18 467 (r 219)] 7
def o2c:=fd #[i 76,i 4,r 203,i 79,i 4,r 210,i 82,i 4,r 217]
def o2d:=co 134 429 134 430 431 74 0 0 0 0 194 false 195 u u u u 432 74 433
def o2e:=(Obj.mk (.type (t 13)) none .plain #[some (r 196),some (r 3),some (r 193),none,some (f 13 405),none,some (r 0)])
def o2f:=sq 2 #[f 51 442,f 86 443]
def o2g:=fn 16 110 (aI (stm 28) 0)
def o2h:=co 16 439 110 440 441 76 2 0 0 3 198 true 199 u (r 200) (r 201) (r 202) 444 76 445
def o2i:=fo 4 16 110 (aI (stm 28) 0) 3 [] .none .none .none 13 405 203
def o2j:=sq 2 #[f 51 450,f 52 451,f 53 452,f 54 453]
def o2k:=fn 4 72 (aI (stm 28) 1)
def o2l:=co 4 447 72 448 449 79 4 0 0 3 205 true 206 u (r 207) (r 208) (r 209) 454 79 455
def o2m:=fo 4 4 72 (aI (stm 28) 1) 3 [] .none .none .none 13 405 210
def o2n:=sq 2 #[f 51 460,f 56 461,f 57 462,f 58 463]
def o2o:=fn 17 96 (aI (stm 28) 2)
def o2p:=co 17 457 96 458 459 82 4 0 0 3 212 true 213 u (r 214) (r 215) (r 216) 464 82 465
def o2q:=fo 4 17 96 (aI (stm 28) 2) 3 [] .none .none .none 13 405 217
def o2r:=di #[d 12 434 (f 13 405),d 14 438 (j 74 437),d 16 446 (r 204),d 4 456 (r 211),d 17 466 (r 218),d 18 467 (r 219),d 19 468 .none] 2
def o2s:=(Obj.mk (.type (t 9)) none (.cls (ClassData.mk (s 134) [(r 186)] [(r 221),(r 186),(T 15)] 220 (s 134) true [] [] false none false)) #[some (r 191),none,some (f 134 427),some (f 134 435),some (bi 16),some (.bool true)])
def o2t:=ob 3 #[r 221,r 221,r 221]
def o2u:=ob 7 #[bi 14,r 221]
def o2v:=di #[d 27 165 (f 13 405),d 19 166 .none,d 29 167 .none,d 30 168 (bi 10),d 31 169 .none,d 32 170 (r 6),d 33 171 (r 4),d 34 173 (f 10 172),d 35 174 .none,d 36 193 (r 21),d 37 213 (r 31),d 61 229 (r 44),d 44 245 (r 56),d 62 261 (r 68),d 141 277 (r 80),d 142 286 (r 89),d 143 295 (r 96),d 138 303 (r 103),d 144 307 (j 1440 306),d 145 314 (r 110),d 146 321 (r 117),d 68 328 (r 124),d 70 335 (r 131),d 147 339 (f 148 338),d 149 341 (j 8 340),d 118 347 (r 136),d 75 380 (r 153),d 45 388 (r 162),d 158 396 (r 169),d 117 404 (r 176),d 60 426 (r 186),d 134 470 (r 221),d 21 523 (r 261)] 33
def o2w:=fd #[i 1,i 0,r 20,i 5,i 0,r 27,i 7,i 0,r 40,i 9,i 0,r 52,i 11,i 0,r 64,i 13,i 0,r 76,i 16,i 0,r 88,i 18,i 0,r 95,i 20,i 0,r 102,i 24,i 0,r 109,i 26,i 0,r 116,i 32,i 0,r 123,i 35,i 0,r 130,i 41,i 0,r 135,i 45,i 0,r 142,i 56,i 0,r 161,i 60,i 0,r 168,i 66,i 0,r 175,i 72,i 0,r 182,i 74,i 0,r 196,i 84,i 0,r 229]
def o2x:=(Obj.mk (.type (t 9)) none (.cls (ClassData.mk (s 60) [(T 15)] [(r 186),(T 15)] 185 (s 60) true [] [(r 221),(r 261)] false none false)) #[none,none,some (f 60 407),some (f 60 415),some (bi 16),some (.bool true)])
def o2y:=di #[d 12 478 (f 13 405),d 20 480 (f 21 479),d 14 482 (j 84 481),d 15 490 (r 237),d 16 498 (r 244),d 4 508 (r 251),d 17 518 (r 258),d 18 520 (r 259)] 8
def o2z:=fd #[i 86,i 4,r 236,i 90,i 4,r 243,i 93,i 4,r 250,i 96,i 4,r 257]
def o2A:=co 21 473 21 474 475 84 0 0 0 0 227 false 228 u u u u 476 84 477
def o2B:=(Obj.mk (.type (t 13)) none .plain #[some (r 229),some (r 3),some (r 226),none,some (f 13 405),none,some (r 0)])
def o2C:=sq 2 #[f 51 486,f 26 487]
def o2D:=fn 15 93 (aI (stm 29) 0)
def o2E:=co 15 483 93 484 485 86 2 0 0 3 231 true 232 u (r 233) (r 234) (r 235) 488 86 489
def o2F:=fo 4 15 93 (aI (stm 29) 0) 3 [] .none .none .none 13 405 236
def o2G:=sq 2 #[f 51 494,f 86 495]
def o2H:=fn 16 177 (aI (stm 29) 1)
def o2I:=co 16 491 177 492 493 90 2 0 0 3 238 true 239 u (r 240) (r 241) (r 242) 496 90 497
def o2J:=fo 4 16 177 (aI (stm 29) 1) 3 [] .none .none .none 13 405 243
def o2K:=sq 2 #[f 51 502,f 52 503,f 53 504,f 54 505]
def o2L:=fn 4 46 (aI (stm 29) 2)
def o2M:=co 4 499 46 500 501 93 4 0 0 3 245 true 246 u (r 247) (r 248) (r 249) 506 93 507
def o2N:=fo 4 4 46 (aI (stm 29) 2) 3 [] .none .none .none 13 405 250
def o2O:=sq 2 #[f 51 512,f 56 513,f 57 514,f 58 515]
def o2P:=fn 17 187 (aI (stm 29) 3)
def o2Q:=co 17 509 187 510 511 96 4 0 0 3 252 true 253 u (r 254) (r 255) (r 256) 516 96 517
def o2R:=fo 4 17 187 (aI (stm 29) 3) 3 [] .none .none .none 13 405 257
def o2S:=sq 2 #[f 26 519]
def o2T:=di #[d 12 478 (f 13 405),d 14 482 (j 84 481),d 15 490 (r 237),d 16 498 (r 244),d 4 508 (r 251),d 17 518 (r 258),d 18 520 (r 259),d 19 521 .none] 2
def o2U:=(Obj.mk (.type (t 9)) none (.cls (ClassData.mk (s 21) [(r 186)] [(r 261),(r 186),(T 15)] 260 (s 21) true [] [] false none false)) #[some (r 224),none,some (f 21 471),some (f 21 479),some (bi 16),some (.bool true)])
def o2V:=ob 3 #[r 261,r 261,r 261]
def o2W:=ob 7 #[bi 14,r 261]
def o2X:=di #[d 27 165 (f 13 405),d 19 166 .none,d 29 167 .none,d 30 168 (bi 10),d 31 169 .none,d 32 170 (r 6),d 33 171 (r 4),d 34 173 (f 10 172),d 35 174 .none,d 36 193 (r 21),d 37 213 (r 31),d 61 229 (r 44),d 44 245 (r 56),d 62 261 (r 68),d 141 277 (r 80),d 142 286 (r 89),d 143 295 (r 96),d 138 303 (r 103),d 144 307 (j 1440 306),d 145 314 (r 110),d 146 321 (r 117),d 68 328 (r 124),d 70 335 (r 131),d 147 339 (f 148 338),d 149 341 (j 8 340),d 118 347 (r 136),d 75 380 (r 153),d 45 388 (r 162),d 158 396 (r 169),d 117 404 (r 176),d 60 426 (r 186),d 134 470 (r 221),d 21 523 (r 261),d 127 576 (r 301)] 34
def o2Y:=fd #[i 1,i 0,r 20,i 5,i 0,r 27,i 7,i 0,r 40,i 9,i 0,r 52,i 11,i 0,r 64,i 13,i 0,r 76,i 16,i 0,r 88,i 18,i 0,r 95,i 20,i 0,r 102,i 24,i 0,r 109,i 26,i 0,r 116,i 32,i 0,r 123,i 35,i 0,r 130,i 41,i 0,r 135,i 45,i 0,r 142,i 56,i 0,r 161,i 60,i 0,r 168,i 66,i 0,r 175,i 72,i 0,r 182,i 74,i 0,r 196,i 84,i 0,r 229,i 98,i 0,r 269]
def o2Z:=(Obj.mk (.type (t 9)) none (.cls (ClassData.mk (s 60) [(T 15)] [(r 186),(T 15)] 185 (s 60) true [] [(r 221),(r 261),(r 301)] false none false)) #[none,none,some (f 60 407),some (f 60 415),some (bi 16),some (.bool true)])
def o30:=di #[d 12 531 (f 13 405),d 20 533 (f 127 532),d 14 535 (j 98 534),d 15 543 (r 277),d 16 551 (r 284),d 4 561 (r 291),d 17 571 (r 298),d 18 573 (r 299)] 8
def o31:=fd #[i 100,i 4,r 276,i 104,i 4,r 283,i 107,i 4,r 290,i 110,i 4,r 297]
def o32:=co 127 526 127 527 528 98 0 0 0 0 267 false 268 u u u u 529 98 530
def o33:=(Obj.mk (.type (t 13)) none .plain #[some (r 269),some (r 3),some (r 266),none,some (f 13 405),none,some (r 0)])
def o34:=sq 2 #[f 51 539,f 26 540]
def o35:=fn 15 109 (aI (stm 30) 0)
def o36:=co 15 536 109 537 538 100 2 0 0 3 271 true 272 u (r 273) (r 274) (r 275) 541 100 542
def o37:=fo 4 15 109 (aI (stm 30) 0) 3 [] .none .none .none 13 405 276
def o38:=sq 2 #[f 51 547,f 86 548]
def o39:=fn 16 156 (aI (stm 30) 1)
def o3a:=co 16 544 156 545 546 104 2 0 0 3 278 true 279 u (r 280) (r 281) (r 282) 549 104 550
def o3b:=fo 4 16 156 (aI (stm 30) 1) 3 [] .none .none .none 13 405 283
def o3c:=sq 2 #[f 51 555,f 52 556,f 53 557,f 54 558]
def o3d:=fn 4 5 (aI (stm 30) 2)
def o3e:=co 4 552 5 553 554 107 4 0 0 3 285 true 286 u (r 287) (r 288) (r 289) 559 107 560
def o3f:=fo 4 4 5 (aI (stm 30) 2) 3 [] .none .none .none 13 405 290
def o3g:=sq 2 #[f 51 565,f 56 566,f 57 567,f 58 568]
def o3h:=fn 17 174 (aI (stm 30) 3)
def o3i:=co 17 562 174 563 564 110 4 0 0 3 292 true 293 u (r 294) (r 295) (r 296) 569 110 570
def o3j:=fo 4 17 174 (aI (stm 30) 3) 3 [] .none .none .none 13 405 297
def o3k:=sq 2 #[f 26 572]
def o3l:=di #[d 12 531 (f 13 405),d 14 535 (j 98 534),d 15 543 (r 277),d 16 551 (r 284),d 4 561 (r 291),d 17 571 (r 298),d 18 573 (r 299),d 19 574 .none] 2
def o3m:=(Obj.mk (.type (t 9)) none (.cls (ClassData.mk (s 127) [(r 186)] [(r 301),(r 186),(T 15)] 300 (s 127) true [] [] false none false)) #[some (r 264),none,some (f 127 524),some (f 127 532),some (bi 16),some (.bool true)])
def o3n:=ob 3 #[r 301,r 301,r 301]
def o3o:=ob 7 #[bi 14,r 301]
def o3p:=di #[d 27 165 (f 13 405),d 19 166 .none,d 29 167 .none,d 30 168 (bi 10),d 31 169 .none,d 32 170 (r 6),d 33 171 (r 4),d 34 173 (f 10 172),d 35 174 .none,d 36 193 (r 21),d 37 213 (r 31),d 61 229 (r 44),d 44 245 (r 56),d 62 261 (r 68),d 141 277 (r 80),d 142 286 (r 89),d 143 295 (r 96),d 138 303 (r 103),d 144 307 (j 1440 306),d 145 314 (r 110),d 146 321 (r 117),d 68 328 (r 124),d 70 335 (r 131),d 147 339 (f 148 338),d 149 341 (j 8 340),d 118 347 (r 136),d 75 380 (r 153),d 45 388 (r 162),d 158 396 (r 169),d 117 404 (r 176),d 60 426 (r 186),d 134 470 (r 221),d 21 523 (r 261),d 127 576 (r 301),d 55 629 (r 341)] 35
def o3q:=fd #[i 1,i 0,r 20,i 5,i 0,r 27,i 7,i 0,r 40,i 9,i 0,r 52,i 11,i 0,r 64,i 13,i 0,r 76,i 16,i 0,r 88,i 18,i 0,r 95,i 20,i 0,r 102,i 24,i 0,r 109,i 26,i 0,r 116,i 32,i 0,r 123,i 35,i 0,r 130,i 41,i 0,r 135,i 45,i 0,r 142,i 56,i 0,r 161,i 60,i 0,r 168,i 66,i 0,r 175,i 72,i 0,r 182,i 74,i 0,r 196,i 84,i 0,r 229,i 98,i 0,r 269,i 112,i 0,r 309]
def o3r:=(Obj.mk (.type (t 9)) none (.cls (ClassData.mk (s 60) [(T 15)] [(r 186),(T 15)] 185 (s 60) true [] [(r 221),(r 261),(r 301),(r 341)] false none false)) #[none,none,some (f 60 407),some (f 60 415),some (bi 16),some (.bool true)])
def o3s:=di #[d 12 584 (f 13 405),d 20 586 (f 55 585),d 14 588 (j 112 587),d 15 596 (r 317),d 16 604 (r 324),d 4 614 (r 331),d 17 624 (r 338),d 18 626 (r 339)] 8
def o3t:=fd #[i 114,i 4,r 316,i 119,i 4,r 323,i 122,i 4,r 330,i 125,i 4,r 337]
def o3u:=co 55 579 55 580 581 112 0 0 0 0 307 false 308 u u u u 582 112 583
def o3v:=(Obj.mk (.type (t 13)) none .plain #[some (r 309),some (r 3),some (r 306),none,some (f 13 405),none,some (r 0)])
def o3w:=sq 2 #[f 51 592,f 67 593]
def o3x:=fn 15 76 (aI (stm 31) 0)
def o3y:=co 15 589 76 590 591 114 2 0 0 3 311 true 312 u (r 313) (r 314) (r 315) 594 114 595
def o3z:=fo 4 15 76 (aI (stm 31) 0) 3 [] .none .none .none 13 405 316
def o3A:=sq 2 #[f 51 600,f 86 601]
def o3B:=fn 16 171 (aI (stm 31) 1)
def o3C:=co 16 597 171 598 599 119 2 0 0 3 318 true 319 u (r 320) (r 321) (r 322) 602 119 603
def o3D:=fo 4 16 171 (aI (stm 31) 1) 3 [] .none .none .none 13 405 323
def o3E:=sq 2 #[f 51 608,f 52 609,f 53 610,f 54 611]
def o3F:=fn 4 114 (aI (stm 31) 2)
def o3G:=co 4 605 114 606 607 122 4 0 0 3 325 true 326 u (r 327) (r 328) (r 329) 612 122 613
def o3H:=fo 4 4 114 (aI (stm 31) 2) 3 [] .none .none .none 13 405 330
def o3I:=sq 2 #[f 51 618,f 56 619,f 57 620,f 58 621]
def o3J:=fn 17 107 (aI (stm 31) 3)
def o3K:=co 17 615 107 616 617 125 4 0 0 3 332 true 333 u (r 334) (r 335) (r 336) 622 125 623
def o3L:=fo 4 17 107 (aI (stm 31) 3) 3 [] .none .none .none 13 405 337
def o3M:=sq 2 #[f 67 625]
def o3N:=di #[d 12 584 (f 13 405),d 14 588 (j 112 587),d 15 596 (r 317),d 16 604 (r 324),d 4 614 (r 331),d 17 624 (r 338),d 18 626 (r 339),d 19 627 .none] 2
def o3O:=(Obj.mk (.type (t 9)) none (.cls (ClassData.mk (s 55) [(r 186)] [(r 341),(r 186),(T 15)] 340 (s 55) true [] [] false none false)) #[some (r 304),none,some (f 55 577),some (f 55 585),some (bi 16),some (.bool true)])
def o3P:=ob 3 #[r 341,r 341,r 341]
def o3Q:=ob 7 #[bi 14,r 341]
def o3R:=di #[d 27 165 (f 13 405),d 19 166 .none,d 29 167 .none,d 30 168 (bi 10),d 31 169 .none,d 32 170 (r 6),d 33 171 (r 4),d 34 173 (f 10 172),d 35 174 .none,d 36 193 (r 21),d 37 213 (r 31),d 61 229 (r 44),d 44 245 (r 56),d 62 261 (r 68),d 141 277 (r 80),d 142 286 (r 89),d 143 295 (r 96),d 138 303 (r 103),d 144 307 (j 1440 306),d 145 314 (r 110),d 146 321 (r 117),d 68 328 (r 124),d 70 335 (r 131),d 147 339 (f 148 338),d 149 341 (j 8 340),d 118 347 (r 136),d 75 380 (r 153),d 45 388 (r 162),d 158 396 (r 169),d 117 404 (r 176),d 60 426 (r 186),d 134 470 (r 221),d 21 523 (r 261),d 127 576 (r 301),d 55 629 (r 341),d 161 682 (r 381)] 36
def o3S:=fd #[i 1,i 0,r 20,i 5,i 0,r 27,i 7,i 0,r 40,i 9,i 0,r 52,i 11,i 0,r 64,i 13,i 0,r 76,i 16,i 0,r 88,i 18,i 0,r 95,i 20,i 0,r 102,i 24,i 0,r 109,i 26,i 0,r 116,i 32,i 0,r 123,i 35,i 0,r 130,i 41,i 0,r 135,i 45,i 0,r 142,i 56,i 0,r 161,i 60,i 0,r 168,i 66,i 0,r 175,i 72,i 0,r 182,i 74,i 0,r 196,i 84,i 0,r 229,i 98,i 0,r 269,i 112,i 0,r 309,i 127,i 0,r 349]
def o3T:=(Obj.mk (.type (t 9)) none (.cls (ClassData.mk (s 60) [(T 15)] [(r 186),(T 15)] 185 (s 60) true [] [(r 221),(r 261),(r 301),(r 341),(r 381)] false none false)) #[none,none,some (f 60 407),some (f 60 415),some (bi 16),some (.bool true)])
def o3U:=di #[d 12 637 (f 13 405),d 20 639 (f 161 638),d 14 641 (j 127 640),d 15 649 (r 357),d 16 657 (r 364),d 4 667 (r 371),d 17 677 (r 378),d 18 679 (r 379)] 8
def o3V:=fd #[i 129,i 4,r 356,i 133,i 4,r 363,i 136,i 4,r 370,i 139,i 4,r 377]
def o3W:=co 161 632 161 633 634 127 0 0 0 0 347 false 348 u u u u 635 127 636
def o3X:=(Obj.mk (.type (t 13)) none .plain #[some (r 349),some (r 3),some (r 346),none,some (f 13 405),none,some (r 0)])
def o3Y:=sq 2 #[f 51 645,f 3 646]
def o3Z:=fn 15 40 (aI (stm 32) 0)
def o40:=co 15 642 40 643 644 129 2 0 0 3 351 true 352 u (r 353) (r 354) (r 355) 647 129 648
def o41:=fo 4 15 40 (aI (stm 32) 0) 3 [] .none .none .none 13 405 356
def o42:=sq 2 #[f 51 653,f 86 654]
def o43:=fn 16 98 (aI (stm 32) 1)
def o44:=co 16 650 98 651 652 133 2 0 0 3 358 true 359 u (r 360) (r 361) (r 362) 655 133 656
def o45:=fo 4 16 98 (aI (stm 32) 1) 3 [] .none .none .none 13 405 363
def o46:=sq 2 #[f 51 661,f 52 662,f 53 663,f 54 664]
def o47:=fn 4 169 (aI (stm 32) 2)
def o48:=co 4 658 169 659 660 136 4 0 0 3 365 true 366 u (r 367) (r 368) (r 369) 665 136 666
def o49:=fo 4 4 169 (aI (stm 32) 2) 3 [] .none .none .none 13 405 370
def o4a:=sq 2 #[f 51 671,f 56 672,f 57 673,f 58 674]
def o4b:=fn 17 122 (aI (stm 32) 3)
def o4c:=co 17 668 122 669 670 139 4 0 0 3 372 true 373 u (r 374) (r 375) (r 376) 675 139 676
def o4d:=fo 4 17 122 (aI (stm 32) 3) 3 [] .none .none .none 13 405 377
def o4e:=sq 2 #[f 3 678]
def o4f:=di #[d 12 637 (f 13 405),d 14 641 (j 127 640),d 15 649 (r 357),d 16 657 (r 364),d 4 667 (r 371),d 17 677 (r 378),d 18 679 (r 379),d 19 680 .none] 2
def o4g:=(Obj.mk (.type (t 9)) none (.cls (ClassData.mk (s 161) [(r 186)] [(r 381),(r 186),(T 15)] 380 (s 161) true [] [] false none false)) #[some (r 344),none,some (f 161 630),some (f 161 638),some (bi 16),some (.bool true)])
def o4h:=ob 3 #[r 381,r 381,r 381]
def o4i:=ob 7 #[bi 14,r 381]
def o4j:=di #[d 27 165 (f 13 405),d 19 166 .none,d 29 167 .none,d 30 168 (bi 10),d 31 169 .none,d 32 170 (r 6),d 33 171 (r 4),d 34 173 (f 10 172),d 35 174 .none,d 36 193 (r 21),d 37 213 (r 31),d 61 229 (r 44),d 44 245 (r 56),d 62 261 (r 68),d 141 277 (r 80),d 142 286 (r 89),d 143 295 (r 96),d 138 303 (r 103),d 144 307 (j 1440 306),d 145 314 (r 110),d 146 321 (r 117),d 68 328 (r 124),d 70 335 (r 131),d 147 339 (f 148 338),d 149 341 (j 8 340),d 118 347 (r 136),d 75 380 (r 153),d 45 388 (r 162),d 158 396 (r 169),d 117 404 (r 176),d 60 426 (r 186),d 134 470 (r 221),d 21 523 (r 261),d 127 576 (r 301),d 55 629 (r 341),d 161 682 (r 381),d 94 738 (r 421)] 37
def o4k:=fd #[i 1,i 0,r 20,i 5,i 0,r 27,i 7,i 0,r 40,i 9,i 0,r 52,i 11,i 0,r 64,i 13,i 0,r 76,i 16,i 0,r 88,i 18,i 0,r 95,i 20,i 0,r 102,i 24,i 0,r 109,i 26,i 0,r 116,i 32,i 0,r 123,i 35,i 0,r 130,i 41,i 0,r 135,i 45,i 0,r 142,i 56,i 0,r 161,i 60,i 0,r 168,i 66,i 0,r 175,i 72,i 0,r 182,i 74,i 0,r 196,i 84,i 0,r 229,i 98,i 0,r 269,i 112,i 0,r 309,i 127,i 0,r 349,i 141,i 0,r 389]
def o4l:=(Obj.mk (.type (t 9)) none (.cls (ClassData.mk (s 60) [(T 15)] [(r 186),(T 15)] 185 (s 60) true [] [(r 221),(r 261),(r 301),(r 341),(r 381),(r 421)] false none false)) #[none,none,some (f 60 407),some (f 60 415),some (bi 16),some (.bool true)])
def o4m:=di #[d 12 690 (f 13 405),d 20 692 (f 94 691),d 14 694 (j 141 693),d 15 702 (r 397),d 16 710 (r 404),d 4 721 (r 411),d 17 733 (r 418),d 18 735 (r 419)] 8
def o4n:=fd #[i 143,i 4,r 396,i 147,i 4,r 403,i 150,i 4,r 410,i 154,i 4,r 417]
def o4o:=co 94 685 94 686 687 141 0 0 0 0 387 false 388 u u u u 688 141 689
def o4p:=(Obj.mk (.type (t 13)) none .plain #[some (r 389),some (r 3),some (r 386),none,some (f 13 405),none,some (r 0)])
def o4q:=sq 2 #[f 51 698,f 39 699]
def o4r:=fn 15 69 (aI (stm 33) 0)
def o4s:=co 15 695 69 696 697 143 2 0 0 3 391 true 392 u (r 393) (r 394) (r 395) 700 143 701
def o4t:=fo 4 15 69 (aI (stm 33) 0) 3 [] .none .none .none 13 405 396
def o4u:=sq 2 #[f 51 706,f 86 707]
def o4v:=fn 16 137 (aI (stm 33) 1)
def o4w:=co 16 703 137 704 705 147 2 0 0 3 398 true 399 u (r 400) (r 401) (r 402) 708 147 709
def o4x:=fo 4 16 137 (aI (stm 33) 1) 3 [] .none .none .none 13 405 403
def o4y:=sq 2 #[f 51 714,f 52 715,f 53 716,f 54 717,f 3 718]
def o4z:=fn 4 153 (aI (stm 33) 2)
def o4A:=co 4 711 153 712 713 150 4 0 0 3 405 true 406 u (r 407) (r 408) (r 409) 719 150 720
def o4B:=fo 4 4 153 (aI (stm 33) 2) 3 [] .none .none .none 13 405 410
def o4C:=sq 2 #[f 51 725,f 56 726,f 57 727,f 58 728,f 200 729,f 3 730]
def o4D:=fn 17 136 (aI (stm 33) 3)
def o4E:=co 17 722 136 723 724 154 4 0 0 3 412 true 413 u (r 414) (r 415) (r 416) 731 154 732
def o4F:=fo 4 17 136 (aI (stm 33) 3) 3 [] .none .none .none 13 405 417
def o4G:=sq 2 #[f 39 734]
def o4H:=di #[d 12 690 (f 13 405),d 14 694 (j 141 693),d 15 702 (r 397),d 16 710 (r 404),d 4 721 (r 411),d 17 733 (r 418),d 18 735 (r 419),d 19 736 .none] 2
def o4I:=(Obj.mk (.type (t 9)) none (.cls (ClassData.mk (s 94) [(r 186)] [(r 421),(r 186),(T 15)] 420 (s 94) true [] [] false none false)) #[some (r 384),none,some (f 94 683),some (f 94 691),some (bi 16),some (.bool true)])
def o4J:=ob 3 #[r 421,r 421,r 421]
def o4K:=ob 7 #[bi 14,r 421]
def o4L:=di #[d 27 165 (f 13 405),d 19 166 .none,d 29 167 .none,d 30 168 (bi 10),d 31 169 .none,d 32 170 (r 6),d 33 171 (r 4),d 34 173 (f 10 172),d 35 174 .none,d 36 193 (r 21),d 37 213 (r 31),d 61 229 (r 44),d 44 245 (r 56),d 62 261 (r 68),d 141 277 (r 80),d 142 286 (r 89),d 143 295 (r 96),d 138 303 (r 103),d 144 307 (j 1440 306),d 145 314 (r 110),d 146 321 (r 117),d 68 328 (r 124),d 70 335 (r 131),d 147 339 (f 148 338),d 149 341 (j 8 340),d 118 347 (r 136),d 75 380 (r 153),d 45 388 (r 162),d 158 396 (r 169),d 117 404 (r 176),d 60 426 (r 186),d 134 470 (r 221),d 21 523 (r 261),d 127 576 (r 301),d 55 629 (r 341),d 161 682 (r 381),d 94 738 (r 421),d 162 794 (r 461),d 87 801 (r 470)] 39
def o4M:=fd #[i 1,i 0,r 20,i 5,i 0,r 27,i 7,i 0,r 40,i 9,i 0,r 52,i 11,i 0,r 64,i 13,i 0,r 76,i 16,i 0,r 88,i 18,i 0,r 95,i 20,i 0,r 102,i 24,i 0,r 109,i 26,i 0,r 116,i 32,i 0,r 123,i 35,i 0,r 130,i 41,i 0,r 135,i 45,i 0,r 142,i 56,i 0,r 161,i 60,i 0,r 168,i 66,i 0,r 175,i 72,i 0,r 182,i 74,i 0,r 196,i 84,i 0,r 229,i 98,i 0,r 269,i 112,i 0,r 309,i 127,i 0,r 349,i 141,i 0,r 389,i 159,i 0,r 429,i 177,i 0,r 469]
def o4N:=(Obj.mk (.type (t 9)) none (.cls (ClassData.mk (s 60) [(T 15)] [(r 186),(T 15)] 185 (s 60) true [] [(r 221),(r 261),(r 301),(r 341),(r 381),(r 421),(r 461)] false none false)) #[none,none,some (f 60 407),some (f 60 415),some (bi 16),some (.bool true)])
def o4O:=di #[d 12 746 (f 13 405),d 20 748 (f 162 747),d 14 750 (j 159 749),d 15 758 (r 437),d 16 766 (r 444),d 4 777 (r 451),d 17 789 (r 458),d 18 791 (r 459)] 8
def o4P:=fd #[i 161,i 4,r 436,i 165,i 4,r 443,i 168,i 4,r 450,i 172,i 4,r 457]
def o4Q:=co 162 741 162 742 743 159 0 0 0 0 427 false 428 u u u u 744 159 745
def o4R:=(Obj.mk (.type (t 13)) none .plain #[some (r 429),some (r 3),some (r 426),none,some (f 13 405),none,some (r 0)])
def o4S:=sq 2 #[f 51 754,f 39 755]
def o4T:=fn 15 38 (aI (stm 34) 0)
def o4U:=co 15 751 38 752 753 161 2 0 0 3 431 true 432 u (r 433) (r 434) (r 435) 756 161 757
def o4V:=fo 4 15 38 (aI (stm 34) 0) 3 [] .none .none .none 13 405 436
def o4W:=sq 2 #[f 51 762,f 86 763]
def o4X:=fn 16 111 (aI (stm 34) 1)
def o4Y:=co 16 759 111 760 761 165 2 0 0 3 438 true 439 u (r 440) (r 441) (r 442) 764 165 765
def o4Z:=fo 4 16 111 (aI (stm 34) 1) 3 [] .none .none .none 13 405 443
def o50:=sq 2 #[f 51 770,f 52 771,f 53 772,f 54 773,f 3 774]
def o51:=fn 4 123 (aI (stm 34) 2)
def o52:=co 4 767 123 768 769 168 4 0 0 3 445 true 446 u (r 447) (r 448) (r 449) 775 168 776
def o53:=fo 4 4 123 (aI (stm 34) 2) 3 [] .none .none .none 13 405 450
def o54:=sq 2 #[f 51 781,f 56 782,f 57 783,f 58 784,f 200 785,f 3 786]
def o55:=fn 17 124 (aI (stm 34) 3)
def o56:=co 17 778 124 779 780 172 4 0 0 3 452 true 453 u (r 454) (r 455) (r 456) 787 172 788
def o57:=fo 4 17 124 (aI (stm 34) 3) 3 [] .none .none .none 13 405 457
def o58:=sq 2 #[f 39 790]
def o59:=di #[d 12 746 (f 13 405),d 14 750 (j 159 749),d 15 758 (r 437),d 16 766 (r 444),d 4 777 (r 451),d 17 789 (r 458),d 18 791 (r 459),d 19 792 .none] 2
def o5a:=(Obj.mk (.type (t 9)) none (.cls (ClassData.mk (s 162) [(r 186)] [(r 461),(r 186),(T 15)] 460 (s 162) true [] [] false none false)) #[some (r 424),none,some (f 162 739),some (f 162 747),some (bi 16),some (.bool true)])
def o5b:=ob 3 #[r 461,r 461,r 461]
def o5c:=ob 7 #[bi 14,r 461]
def o5d:=sq 2 #[f 26 798]
def o5e:=fn 87 87 (stm 35)
def o5f:=co 87 795 87 796 797 177 1 0 0 3 464 true 465 u (r 466) (r 467) (r 468) 799 177 800
def o5g:=fo 4 87 87 (stm 35) 3 [] .none .none .none 13 405 469
def o5h:=di #[d 27 165 (f 43 858),d 19 166 .none,d 29 167 .none,d 30 168 (bi 10),d 31 169 .none,d 32 170 (r 6),d 33 171 (r 4),d 34 173 (f 10 172),d 35 174 .none,d 36 193 (r 21),d 37 213 (r 31),d 61 229 (r 44),d 44 245 (r 56),d 62 261 (r 68),d 141 277 (r 80),d 142 286 (r 89),d 143 295 (r 96),d 138 303 (r 103),d 144 307 (j 1440 306),d 145 314 (r 110),d 146 321 (r 117),d 68 328 (r 124),d 70 335 (r 131),d 147 339 (f 148 338),d 149 341 (j 8 340),d 118 347 (r 136),d 75 380 (r 153),d 45 388 (r 162),d 158 396 (r 169),d 117 404 (r 176),d 60 426 (r 186),d 134 470 (r 221),d 21 523 (r 261),d 127 576 (r 301),d 55 629 (r 341),d 161 682 (r 381),d 94 738 (r 421),d 162 794 (r 461),d 87 801 (r 470),d 154 808 (r 477),d 133 816 (r 484),d 135 825 (r 491),d 163 831 (r 496),d 73 841 (r 503),d 160 857 (r 510),d 97 879 (r 520)] 46
def o5i:=fd #[i 1,i 0,r 20,i 5,i 0,r 27,i 7,i 0,r 40,i 9,i 0,r 52,i 11,i 0,r 64,i 13,i 0,r 76,i 16,i 0,r 88,i 18,i 0,r 95,i 20,i 0,r 102,i 24,i 0,r 109,i 26,i 0,r 116,i 32,i 0,r 123,i 35,i 0,r 130,i 41,i 0,r 135,i 45,i 0,r 142,i 56,i 0,r 161,i 60,i 0,r 168,i 66,i 0,r 175,i 72,i 0,r 182,i 74,i 0,r 196,i 84,i 0,r 229,i 98,i 0,r 269,i 112,i 0,r 309,i 127,i 0,r 349,i 141,i 0,r 389,i 159,i 0,r 429,i 177,i 0,r 469,i 180,i 0,r 476,i 183,i 0,r 483,i 188,i 0,r 490,i 191,i 0,r 495,i 203,i 0,r 502,i 210,i 0,r 509,i 219,i 0,r 516]
def o5j:=sq 2 #[f 3 805]
def o5k:=fn 154 154 (stm 36)
def o5l:=co 154 802 154 803 804 180 1 0 0 3 471 true 472 u (r 473) (r 474) (r 475) 806 180 807
def o5m:=fo 4 154 154 (stm 36) 3 [] .none .none .none 13 405 476
def o5n:=sq 2 #[f 39 812,f 3 813]
def o5o:=fn 133 133 (stm 37)
def o5p:=co 133 809 133 810 811 183 1 0 0 3 478 true 479 u (r 480) (r 481) (r 482) 814 183 815
def o5q:=fo 4 133 133 (stm 37) 3 [] .none .none .none 13 405 483
def o5r:=sq 2 #[f 198 820,f 199 821,f 47 822]
def o5s:=fn 135 135 (stm 38)
def o5t:=co 135 817 135 818 819 188 2 0 0 3 485 true 486 u (r 487) (r 488) (r 489) 823 188 824
def o5u:=fo 4 135 135 (stm 38) 3 [] .none .none .none 13 405 490
def o5v:=fn 163 163 (stm 39)
def o5w:=co 163 826 163 827 828 191 1 0 0 3 492 true 493 u u u (r 494) 829 191 830
def o5x:=fo 4 163 163 (stm 39) 3 [] .none .none .none 13 405 495
def o5y:=sq 2 #[f 112 835,f 58 836,f 113 837,f 67 838]
def o5z:=fn 73 73 (stm 40)
def o5A:=co 73 832 73 833 834 203 1 0 0 3 497 true 498 u (r 499) (r 500) (r 501) 839 203 840
def o5B:=fo 4 73 73 (stm 40) 3 [] .none .none .none 13 405 502
def o5C:=sq 2 #[f 63 845,f 39 846,f 56 847,f 57 848,f 58 849,f 64 850,f 65 851,f 3 852,f 66 853,f 67 854]
def o5D:=fn 160 160 (stm 41)
def o5E:=co 160 842 160 843 844 210 5 0 0 3 504 true 505 u (r 506) (r 507) (r 508) 855 210 856
def o5F:=fo 4 160 160 (stm 41) 3 [] .none .none .none 13 405 509
def o5G:=di #[d 12 867 (f 43 858),d 20 869 (f 97 868),d 14 871 (j 219 870),d 18 872 (r 518)] 4
def o5H:=co 97 862 97 863 864 219 0 0 0 0 514 false 515 u u u u 865 219 866
def o5I:=(Obj.mk (.type (t 13)) none .plain #[some (r 516),some (r 3),some (r 513),none,some (f 43 858),none,some (r 0)])
def o5J:=di #[d 12 867 (f 43 858),d 14 871 (j 219 870),d 18 872 (r 518),d 59 874 (r 521),d 0 876 (r 522),d 19 877 .none] 4
def o5K:=(Obj.mk (.type (t 9)) none (.cls (ClassData.mk (s 97) [(T 15)] [(r 520),(T 15)] 519 (s 97) true [] [] false none false)) #[none,none,some (f 97 860),some (f 97 868),some (bi 16),some (.bool true)])
def o5L:=ob 0 #[f 59 873,r 520,bi 11,bi 12]
def o5M:=ob 0 #[f 0 875,r 520,bi 1,u]
def o5N:=ob 3 #[r 520,r 520,r 520]
def o5O:=ob 7 #[bi 14,r 520]
def o5P:=di #[d 27 165 (f 43 858),d 19 166 .none,d 29 167 .none,d 30 168 (bi 10),d 31 169 .none,d 32 170 (r 6),d 33 171 (r 4),d 34 173 (f 10 172),d 35 174 .none,d 36 193 (r 21),d 37 213 (r 31),d 61 229 (r 44),d 44 245 (r 56),d 62 261 (r 68),d 141 277 (r 80),d 142 286 (r 89),d 143 295 (r 96),d 138 303 (r 103),d 144 307 (j 1440 306),d 145 314 (r 110),d 146 321 (r 117),d 68 328 (r 124),d 70 335 (r 131),d 147 339 (f 148 338),d 149 341 (j 8 340),d 118 347 (r 136),d 75 380 (r 153),d 45 388 (r 162),d 158 396 (r 169),d 117 404 (r 176),d 60 426 (r 186),d 134 470 (r 221),d 21 523 (r 261),d 127 576 (r 301),d 55 629 (r 341),d 161 682 (r 381),d 94 738 (r 421),d 162 794 (r 461),d 87 801 (r 470),d 154 808 (r 477),d 133 816 (r 484),d 135 825 (r 491),d 163 831 (r 496),d 73 841 (r 503),d 160 857 (r 510),d 97 879 (r 520),d 155 911 (r 548)] 47
def o5Q:=fd #[i 1,i 0,r 20,i 5,i 0,r 27,i 7,i 0,r 40,i 9,i 0,r 52,i 11,i 0,r 64,i 13,i 0,r 76,i 16,i 0,r 88,i 18,i 0,r 95,i 20,i 0,r 102,i 24,i 0,r 109,i 26,i 0,r 116,i 32,i 0,r 123,i 35,i 0,r 130,i 41,i 0,r 135,i 45,i 0,r 142,i 56,i 0,r 161,i 60,i 0,r 168,i 66,i 0,r 175,i 72,i 0,r 182,i 74,i 0,r 196,i 84,i 0,r 229,i 98,i 0,r 269,i 112,i 0,r 309,i 127,i 0,r 349,i 141,i 0,r 389,i 159,i 0,r 429,i 177,i 0,r 469,i 180,i 0,r 476,i 183,i 0,r 483,i 188,i 0,r 490,i 191,i 0,r 495,i 203,i 0,r 502,i 210,i 0,r 509,i 219,i 0,r 516,i 221,i 0,r 530]
def o5R:=(Obj.mk (.type (t 9)) none (.cls (ClassData.mk (s 97) [(T 15)] [(r 520),(T 15)] 519 (s 97) true [] [(r 548)] false none false)) #[none,none,some (f 97 860),some (f 97 868),some (bi 16),some (.bool true)])
def o5S:=sq 2 #[r 520]
def o5T:=di #[d 12 887 (f 43 858),d 20 889 (f 155 888),d 14 891 (j 221 890),d 1 900 (r 538),d 41 907 (r 545),d 18 908 (r 546)] 6
def o5U:=fd #[i 223,i 4,r 537,i 226,i 4,r 544]
def o5V:=co 155 882 155 883 884 221 0 0 0 0 528 false 529 u u u u 885 221 886
def o5W:=(Obj.mk (.type (t 13)) none .plain #[some (r 530),some (r 3),some (r 527),none,some (f 43 858),none,some (r 0)])
def o5X:=sq 2 #[f 51 895,f 166 896,f 77 897]
def o5Y:=fn 1 2 (aI (stm 44) 0)
def o5Z:=co 1 892 2 893 894 223 3 0 0 3 532 true 533 u (r 534) (r 535) (r 536) 898 223 899
def o60:=fo 4 1 2 (aI (stm 44) 0) 3 [] .none .none .none 43 858 537
def o61:=sq 2 #[f 51 904]
def o62:=fn 41 42 (aI (stm 44) 1)
def o63:=co 41 901 42 902 903 226 1 0 0 3 539 true 540 u (r 541) (r 542) (r 543) 905 226 906
def o64:=fo 4 41 42 (aI (stm 44) 1) 3 [] .none .none .none 43 858 544
def o65:=di #[d 12 887 (f 43 858),d 14 891 (j 221 890),d 1 900 (r 538),d 41 907 (r 545),d 18 908 (r 546),d 19 909 .none] 2
def o66:=(Obj.mk (.type (t 9)) none (.cls (ClassData.mk (s 155) [(r 520)] [(r 548),(r 520),(T 15)] 547 (s 155) true [] [] false none false)) #[some (r 525),none,some (f 155 880),some (f 155 888),some (bi 16),some (.bool true)])
def o67:=ob 3 #[r 548,r 548,r 548]
def o68:=ob 7 #[bi 14,r 548]
def o69:=di #[d 27 165 (f 8 944),d 19 166 .none,d 29 167 .none,d 30 168 (bi 10),d 31 169 .none,d 32 170 (r 6),d 33 171 (r 4),d 34 173 (f 10 172),d 35 174 .none,d 36 193 (r 21),d 37 213 (r 31),d 61 229 (r 44),d 44 245 (r 56),d 62 261 (r 68),d 141 277 (r 80),d 142 286 (r 89),d 143 295 (r 96),d 138 303 (r 103),d 144 307 (j 1440 306),d 145 314 (r 110),d 146 321 (r 117),d 68 328 (r 124),d 70 335 (r 131),d 147 339 (f 148 338),d 149 341 (j 8 340),d 118 347 (r 136),d 75 380 (r 153),d 45 388 (r 162),d 158 396 (r 169),d 117 404 (r 176),d 60 426 (r 186),d 134 470 (r 221),d 21 523 (r 261),d 127 576 (r 301),d 55 629 (r 341),d 161 682 (r 381),d 94 738 (r 421),d 162 794 (r 461),d 87 801 (r 470),d 154 808 (r 477),d 133 816 (r 484),d 135 825 (r 491),d 163 831 (r 496),d 73 841 (r 503),d 160 857 (r 510),d 97 879 (r 520),d 155 911 (r 548),d 164 943 (r 574)] 48
def o6a:=fd #[i 1,i 0,r 20,i 5,i 0,r 27,i 7,i 0,r 40,i 9,i 0,r 52,i 11,i 0,r 64,i 13,i 0,r 76,i 16,i 0,r 88,i 18,i 0,r 95,i 20,i 0,r 102,i 24,i 0,r 109,i 26,i 0,r 116,i 32,i 0,r 123,i 35,i 0,r 130,i 41,i 0,r 135,i 45,i 0,r 142,i 56,i 0,r 161,i 60,i 0,r 168,i 66,i 0,r 175,i 72,i 0,r 182,i 74,i 0,r 196,i 84,i 0,r 229,i 98,i 0,r 269,i 112,i 0,r 309,i 127,i 0,r 349,i 141,i 0,r 389,i 159,i 0,r 429,i 177,i 0,r 469,i 180,i 0,r 476,i 183,i 0,r 483,i 188,i 0,r 490,i 191,i 0,r 495,i 203,i 0,r 502,i 210,i 0,r 509,i 219,i 0,r 516,i 221,i 0,r 530,i 228,i 0,r 556]
def o6b:=(Obj.mk (.type (t 9)) none (.cls (ClassData.mk (s 97) [(T 15)] [(r 520),(T 15)] 519 (s 97) true [] [(r 548),(r 574)] false none false)) #[none,none,some (f 97 860),some (f 97 868),some (bi 16),some (.bool true)])
def o6c:=di #[d 12 919 (f 43 858),d 20 921 (f 164 920),d 14 923 (j 228 922),d 1 932 (r 564),d 41 939 (r 571),d 18 940 (r 572)] 6
def o6d:=fd #[i 230,i 4,r 563,i 233,i 4,r 570]
def o6e:=co 164 914 164 915 916 228 0 0 0 0 554 false 555 u u u u 917 228 918
def o6f:=(Obj.mk (.type (t 13)) none .plain #[some (r 556),some (r 3),some (r 553),none,some (f 43 858),none,some (r 0)])
def o6g:=sq 2 #[f 51 927,f 166 928,f 77 929]
def o6h:=fn 1 132 (aI (stm 45) 0)
def o6i:=co 1 924 132 925 926 230 3 0 0 3 558 true 559 u (r 560) (r 561) (r 562) 930 230 931
def o6j:=fo 4 1 132 (aI (stm 45) 0) 3 [] .none .none .none 43 858 563
def o6k:=sq 2 #[f 51 936]
def o6l:=fn 41 176 (aI (stm 45) 1)
def o6m:=co 41 933 176 934 935 233 1 0 0 3 565 true 566 u (r 567) (r 568) (r 569) 937 233 938
def o6n:=fo 4 41 176 (aI (stm 45) 1) 3 [] .none .none .none 43 858 570
def o6o:=di #[d 12 919 (f 43 858),d 14 923 (j 228 922),d 1 932 (r 564),d 41 939 (r 571),d 18 940 (r 572),d 19 941 .none] 2
def o6p:=(Obj.mk (.type (t 9)) none (.cls (ClassData.mk (s 164) [(r 520)] [(r 574),(r 520),(T 15)] 573 (s 164) true [] [] false none false)) #[some (r 551),none,some (f 164 912),some (f 164 920),some (bi 16),some (.bool true)])
def o6q:=ob 3 #[r 574,r 574,r 574]
def o6r:=ob 7 #[bi 14,r 574]
def o6s:=di #[d 27 165 (f 8 944),d 19 166 .none,d 29 167 .none,d 30 168 (bi 10),d 31 169 .none,d 32 170 (r 6),d 33 171 (r 4),d 34 173 (f 10 172),d 35 174 .none,d 36 193 (r 21),d 37 213 (r 31),d 61 229 (r 44),d 44 245 (r 56),d 62 261 (r 68),d 141 277 (r 80),d 142 286 (r 89),d 143 295 (r 96),d 138 303 (r 103),d 144 307 (j 1440 306),d 145 314 (r 110),d 146 321 (r 117),d 68 328 (r 124),d 70 335 (r 131),d 147 339 (f 148 338),d 149 341 (j 8 340),d 118 347 (r 136),d 75 380 (r 153),d 45 388 (r 162),d 158 396 (r 169),d 117 404 (r 176),d 60 426 (r 186),d 134 470 (r 221),d 21 523 (r 261),d 127 576 (r 301),d 55 629 (r 341),d 161 682 (r 381),d 94 738 (r 421),d 162 794 (r 461),d 87 801 (r 470),d 154 808 (r 477),d 133 816 (r 484),d 135 825 (r 491),d 163 831 (r 496),d 73 841 (r 503),d 160 857 (r 510),d 97 879 (r 520),d 155 911 (r 548),d 164 943 (r 574),d 165 978 (r 594)] 49
def o6t:=fd #[i 1,i 0,r 20,i 5,i 0,r 27,i 7,i 0,r 40,i 9,i 0,r 52,i 11,i 0,r 64,i 13,i 0,r 76,i 16,i 0,r 88,i 18,i 0,r 95,i 20,i 0,r 102,i 24,i 0,r 109,i 26,i 0,r 116,i 32,i 0,r 123,i 35,i 0,r 130,i 41,i 0,r 135,i 45,i 0,r 142,i 56,i 0,r 161,i 60,i 0,r 168,i 66,i 0,r 175,i 72,i 0,r 182,i 74,i 0,r 196,i 84,i 0,r 229,i 98,i 0,r 269,i 112,i 0,r 309,i 127,i 0,r 349,i 141,i 0,r 389,i 159,i 0,r 429,i 177,i 0,r 469,i 180,i 0,r 476,i 183,i 0,r 483,i 188,i 0,r 490,i 191,i 0,r 495,i 203,i 0,r 502,i 210,i 0,r 509,i 219,i 0,r 516,i 221,i 0,r 530,i 228,i 0,r 556,i 236,i 0,r 582]
def o6u:=di #[d 12 953 (f 8 944),d 20 955 (f 165 954),d 14 957 (j 236 956),d 15 967 (r 591),d 18 971 (r 592)] 5
def o6v:=fd #[i 238,i 4,r 590]
def o6w:=co 165 948 165 949 950 236 0 0 0 0 580 false 581 u u u u 951 236 952
def o6x:=(Obj.mk (.type (t 13)) none .plain #[some (r 582),some (r 3),some (r 579),none,some (f 8 944),none,some (r 0)])
def o6y:=sq 2 #[u]
def o6z:=sq 2 #[f 51 961,f 178 962,f 179 963,f 180 964]
def o6A:=fn 15 152 (aI (stm 47) 0)
def o6B:=co 15 958 152 959 960 238 4 0 0 3 585 true 586 u (r 587) (r 588) (r 589) 965 238 966
def o6C:=fo 4 15 152 (aI (stm 47) 0) 3 [] (r 584) .none .none 8 944 590
def o6D:=sq 2 #[f 178 968,f 179 969,f 180 970]
def o6E:=di #[d 12 953 (f 8 944),d 14 957 (j 236 956),d 15 967 (r 591),d 18 971 (r 592),d 59 973 (r 595),d 0 975 (r 596),d 19 976 .none] 4
def o6F:=(Obj.mk (.type (t 9)) none (.cls (ClassData.mk (s 165) [(T 15)] [(r 594),(T 15)] 593 (s 165) true [] [] false none false)) #[none,none,some (f 165 946),some (f 165 954),some (bi 16),some (.bool true)])
def o6G:=ob 0 #[f 59 972,r 594,bi 11,bi 12]
def o6H:=ob 0 #[f 0 974,r 594,bi 1,u]
def o6I:=ob 3 #[r 594,r 594,r 594]
def o6J:=ob 7 #[bi 14,r 594]
def o6K:=di #[d 27 165 (f 8 944),d 19 166 .none,d 29 167 .none,d 30 168 (bi 10),d 31 169 .none,d 32 170 (r 6),d 33 171 (r 4),d 34 173 (f 10 172),d 35 174 .none,d 36 193 (r 21),d 37 213 (r 31),d 61 229 (r 44),d 44 245 (r 56),d 62 261 (r 68),d 141 277 (r 80),d 142 286 (r 89),d 143 295 (r 96),d 138 303 (r 103),d 144 307 (j 1440 306),d 145 314 (r 110),d 146 321 (r 117),d 68 328 (r 124),d 70 335 (r 131),d 147 339 (f 148 338),d 149 341 (j 8 340),d 118 347 (r 136),d 75 380 (r 153),d 45 388 (r 162),d 158 396 (r 169),d 117 404 (r 176),d 60 426 (r 186),d 134 470 (r 221),d 21 523 (r 261),d 127 576 (r 301),d 55 629 (r 341),d 161 682 (r 381),d 94 738 (r 421),d 162 794 (r 461),d 87 801 (r 470),d 154 808 (r 477),d 133 816 (r 484),d 135 825 (r 491),d 163 831 (r 496),d 73 841 (r 503),d 160 857 (r 510),d 97 879 (r 520),d 155 911 (r 548),d 164 943 (r 574),d 165 978 (r 594),d 128 1015 (r 616),d 121 1025 (r 627)] 51
def o6L:=fd #[i 1,i 0,r 20,i 5,i 0,r 27,i 7,i 0,r 40,i 9,i 0,r 52,i 11,i 0,r 64,i 13,i 0,r 76,i 16,i 0,r 88,i 18,i 0,r 95,i 20,i 0,r 102,i 24,i 0,r 109,i 26,i 0,r 116,i 32,i 0,r 123,i 35,i 0,r 130,i 41,i 0,r 135,i 45,i 0,r 142,i 56,i 0,r 161,i 60,i 0,r 168,i 66,i 0,r 175,i 72,i 0,r 182,i 74,i 0,r 196,i 84,i 0,r 229,i 98,i 0,r 269,i 112,i 0,r 309,i 127,i 0,r 349,i 141,i 0,r 389,i 159,i 0,r 429,i 177,i 0,r 469,i 180,i 0,r 476,i 183,i 0,r 483,i 188,i 0,r 490,i 191,i 0,r 495,i 203,i 0,r 502,i 210,i 0,r 509,i 219,i 0,r 516,i 221,i 0,r 530,i 228,i 0,r 556,i 236,i 0,r 582,i 248,i 0,r 604,i 267,i 0,r 626]
def o6M:=di #[d 12 986 (f 8 944),d 20 988 (f 128 987),d 14 990 (j 248 989),d 15 1002 (r 613),d 18 1008 (r 614)] 5
def o6N:=fd #[i 250,i 4,r 612]
def o6O:=co 128 981 128 982 983 248 0 0 0 0 602 false 603 u u u u 984 248 985
def o6P:=(Obj.mk (.type (t 13)) none .plain #[some (r 604),some (r 3),some (r 601),none,some (f 8 944),none,some (r 0)])
def o6Q:=sq 2 #[.bool false,u]
def o6R:=sq 2 #[f 51 994,f 3 995,f 81 996,f 82 997,f 83 998,f 84 999]
def o6S:=fn 15 175 (aI (stm 48) 0)
def o6T:=co 15 991 175 992 993 250 6 0 0 3 607 true 608 u (r 609) (r 610) (r 611) 1000 250 1001
def o6U:=fo 4 15 175 (aI (stm 48) 0) 3 [] (r 606) .none .none 8 944 612
def o6V:=sq 2 #[f 3 1003,f 84 1004,f 82 1005,f 83 1006,f 81 1007]
def o6W:=di #[d 12 986 (f 8 944),d 14 990 (j 248 989),d 15 1002 (r 613),d 18 1008 (r 614),d 59 1010 (r 617),d 0 1012 (r 618),d 19 1013 .none] 4
def o6X:=(Obj.mk (.type (t 9)) none (.cls (ClassData.mk (s 128) [(T 15)] [(r 616),(T 15)] 615 (s 128) true [] [] false none false)) #[none,none,some (f 128 979),some (f 128 987),some (bi 16),some (.bool true)])
def o6Y:=ob 0 #[f 59 1009,r 616,bi 11,bi 12]
def o6Z:=ob 0 #[f 0 1011,r 616,bi 1,u]
def o70:=ob 3 #[r 616,r 616,r 616]
def o71:=ob 7 #[bi 14,r 616]
def o72:=sq 2 #[f 81 1019,f 82 1020,f 83 1021,f 84 1022]
def o73:=fn 121 121 (stm 49)
def o74:=co 121 1016 121 1017 1018 267 4 0 0 3 621 true 622 u (r 623) (r 624) (r 625) 1023 267 1024
def o75:=fo 4 121 121 (stm 49) 3 [] .none .none .none 8 944 626
def o76:=di #[d 27 165 (f 8 944),d 19 166 .none,d 29 167 .none,d 30 168 (bi 10),d 31 169 .none,d 32 170 (r 6),d 33 171 (r 4),d 34 173 (f 10 172),d 35 174 .none,d 36 193 (r 21),d 37 213 (r 31),d 61 229 (r 44),d 44 245 (r 56),d 62 261 (r 68),d 141 277 (r 80),d 142 286 (r 89),d 143 295 (r 96),d 138 303 (r 103),d 144 307 (j 1440 306),d 145 314 (r 110),d 146 321 (r 117),d 68 328 (r 124),d 70 335 (r 131),d 147 339 (f 148 338),d 149 341 (j 8 340),d 118 347 (r 136),d 75 380 (r 153),d 45 388 (r 162),d 158 396 (r 169),d 117 404 (r 176),d 60 426 (r 186),d 134 470 (r 221),d 21 523 (r 261),d 127 576 (r 301),d 55 629 (r 341),d 161 682 (r 381),d 94 738 (r 421),d 162 794 (r 461),d 87 801 (r 470),d 154 808 (r 477),d 133 816 (r 484),d 135 825 (r 491),d 163 831 (r 496),d 73 841 (r 503),d 160 857 (r 510),d 97 879 (r 520),d 155 911 (r 548),d 164 943 (r 574),d 165 978 (r 594),d 128 1015 (r 616),d 121 1025 (r 627),d 126 1089 (r 669),d 50 1097 (r 680)] 53
def o77:=fd #[i 1,i 0,r 20,i 5,i 0,r 27,i 7,i 0,r 40,i 9,i 0,r 52,i 11,i 0,r 64,i 13,i 0,r 76,i 16,i 0,r 88,i 18,i 0,r 95,i 20,i 0,r 102,i 24,i 0,r 109,i 26,i 0,r 116,i 32,i 0,r 123,i 35,i 0,r 130,i 41,i 0,r 135,i 45,i 0,r 142,i 56,i 0,r 161,i 60,i 0,r 168,i 66,i 0,r 175,i 72,i 0,r 182,i 74,i 0,r 196,i 84,i 0,r 229,i 98,i 0,r 269,i 112,i 0,r 309,i 127,i 0,r 349,i 141,i 0,r 389,i 159,i 0,r 429,i 177,i 0,r 469,i 180,i 0,r 476,i 183,i 0,r 483,i 188,i 0,r 490,i 191,i 0,r 495,i 203,i 0,r 502,i 210,i 0,r 509,i 219,i 0,r 516,i 221,i 0,r 530,i 228,i 0,r 556,i 236,i 0,r 582,i 248,i 0,r 604,i 267,i 0,r 626,i 273,i 0,r 633,i 299,i 0,r 679]
def o78:=di #[d 12 1033 (f 8 944),d 20 1035 (f 126 1034),d 14 1037 (j 273 1036),d 15 1049 (r 642),d 6 1057 (r 649),d 88 1065 (r 656),d 89 1071 (r 661),d 90 1077 (r 666),d 18 1082 (r 667)] 9
def o79:=fd #[i 275,i 4,r 641,i 285,i 4,r 648,i 288,i 4,r 655,i 291,i 4,r 660,i 296,i 4,r 665]
def o7a:=co 126 1028 126 1029 1030 273 0 0 0 0 631 false 632 u u u u 1031 273 1032
def o7b:=(Obj.mk (.type (t 13)) none .plain #[some (r 633),some (r 3),some (r 630),none,some (f 8 944),none,some (r 0)])
def o7c:=sq 2 #[j 0 1038,u,u,u]
def o7d:=sq 2 #[f 51 1042,f 77 1043,f 78 1044,f 79 1045,f 80 1046]
def o7e:=fn 15 91 (aI (stm 50) 0)
def o7f:=co 15 1039 91 1040 1041 275 5 0 0 3 636 true 637 u (r 638) (r 639) (r 640) 1047 275 1048
def o7g:=fo 4 15 91 (aI (stm 50) 0) 3 [] (r 635) .none .none 8 944 641
def o7h:=sq 2 #[f 51 1053,f 86 1054]
def o7i:=fn 6 7 (aI (stm 50) 1)
def o7j:=co 6 1050 7 1051 1052 285 2 0 0 3 643 true 644 u (r 645) (r 646) (r 647) 1055 285 1056
def o7k:=fo 4 6 7 (aI (stm 50) 1) 3 [] .none .none .none 8 944 648
def o7l:=sq 2 #[f 51 1061,f 86 1062]
def o7m:=fn 88 182 (aI (stm 50) 2)
def o7n:=co 88 1058 182 1059 1060 288 2 0 0 3 650 true 651 u (r 652) (r 653) (r 654) 1063 288 1064
def o7o:=fo 4 88 182 (aI (stm 50) 2) 3 [] .none .none .none 8 944 655
def o7p:=fn 89 151 (aI (stm 50) 3)
def o7q:=co 89 1066 151 1067 1068 291 2 0 0 3 657 true 658 u u u (r 659) 1069 291 1070
def o7r:=fo 4 89 151 (aI (stm 50) 3) 3 [] .none .none .none 8 944 660
def o7s:=fn 90 92 (aI (stm 50) 4)
def o7t:=co 90 1072 92 1073 1074 296 1 0 0 3 662 true 663 u u u (r 664) 1075 296 1076
def o7u:=fo 4 90 92 (aI (stm 50) 4) 3 [] .none .none .none 8 944 665
def o7v:=sq 2 #[f 80 1078,f 78 1079,f 79 1080,f 77 1081]
def o7w:=di #[d 12 1033 (f 8 944),d 14 1037 (j 273 1036),d 15 1049 (r 642),d 6 1057 (r 649),d 88 1065 (r 656),d 89 1071 (r 661),d 90 1077 (r 666),d 18 1082 (r 667),d 59 1084 (r 670),d 0 1086 (r 671),d 19 1087 .none] 4
def o7x:=(Obj.mk (.type (t 9)) none (.cls (ClassData.mk (s 126) [(T 15)] [(r 669),(T 15)] 668 (s 126) true [] [] false none false)) #[none,none,some (f 126 1026),some (f 126 1034),some (bi 16),some (.bool true)])
def o7y:=ob 0 #[f 59 1083,r 669,bi 11,bi 12]
def o7z:=ob 0 #[f 0 1085,r 669,bi 1,u]
def o7A:=ob 3 #[r 669,r 669,r 669]
def o7B:=ob 7 #[bi 14,r 669]
def o7C:=sq 2 #[f 79 1093,f 78 1094]
def o7D:=fn 50 50 (stm 51)
def o7E:=co 50 1090 50 1091 1092 299 2 0 0 3 674 true 675 u (r 676) (r 677) (r 678) 1095 299 1096
def o7F:=fo 4 50 50 (stm 51) 3 [] .none .none .none 8 944 679
def o7G:=di #[d 27 165 (f 24 1104),d 19 166 .none,d 29 167 .none,d 30 168 (bi 10),d 31 169 .none,d 32 170 (r 6),d 33 171 (r 4),d 34 173 (f 10 172),d 35 174 .none,d 36 193 (r 21),d 37 213 (r 31),d 61 229 (r 44),d 44 245 (r 56),d 62 261 (r 68),d 141 277 (r 80),d 142 286 (r 89),d 143 295 (r 96),d 138 303 (r 103),d 144 307 (j 1440 306),d 145 314 (r 110),d 146 321 (r 117),d 68 328 (r 124),d 70 335 (r 131),d 147 339 (f 148 338),d 149 341 (j 8 340),d 118 347 (r 136),d 75 380 (r 153),d 45 388 (r 162),d 158 396 (r 169),d 117 404 (r 176),d 60 426 (r 186),d 134 470 (r 221),d 21 523 (r 261),d 127 576 (r 301),d 55 629 (r 341),d 161 682 (r 381),d 94 738 (r 421),d 162 794 (r 461),d 87 801 (r 470),d 154 808 (r 477),d 133 816 (r 484),d 135 825 (r 491),d 163 831 (r 496),d 73 841 (r 503),d 160 857 (r 510),d 97 879 (r 520),d 155 911 (r 548),d 164 943 (r 574),d 165 978 (r 594),d 128 1015 (r 616),d 121 1025 (r 627),d 126 1089 (r 669),d 50 1097 (r 680),d 22 1103 (r 685),d 131 1113 (r 692),d 11 1120 (r 699),d 108 1130 (r 706),d 159 1136 (r 711),d 130 1148 (r 718),d 25 1154 (r 723),d 95 1160 (r 728),d 129 1166 (r 733),d 85 1176 (r 740),d 170 1184 (r 747),d 150 1190 (r 752),d 74 1196 (r 757)] 66
def o7H:=fd #[i 1,i 0,r 20,i 5,i 0,r 27,i 7,i 0,r 40,i 9,i 0,r 52,i 11,i 0,r 64,i 13,i 0,r 76,i 16,i 0,r 88,i 18,i 0,r 95,i 20,i 0,r 102,i 24,i 0,r 109,i 26,i 0,r 116,i 32,i 0,r 123,i 35,i 0,r 130,i 41,i 0,r 135,i 45,i 0,r 142,i 56,i 0,r 161,i 60,i 0,r 168,i 66,i 0,r 175,i 72,i 0,r 182,i 74,i 0,r 196,i 84,i 0,r 229,i 98,i 0,r 269,i 112,i 0,r 309,i 127,i 0,r 349,i 141,i 0,r 389,i 159,i 0,r 429,i 177,i 0,r 469,i 180,i 0,r 476,i 183,i 0,r 483,i 188,i 0,r 490,i 191,i 0,r 495,i 203,i 0,r 502,i 210,i 0,r 509,i 219,i 0,r 516,i 221,i 0,r 530,i 228,i 0,r 556,i 236,i 0,r 582,i 248,i 0,r 604,i 267,i 0,r 626,i 273,i 0,r 633,i 299,i 0,r 679,i 304,i 0,r 684,i 310,i 0,r 691,i 314,i 0,r 698,i 316,i 0,r 705,i 326,i 0,r 710,i 337,i 0,r 717,i 349,i 0,r 722,i 357,i 0,r 727,i 371,i 0,r 732,i 385,i 0,r 739,i 397,i 0,r 746,i 402,i 0,r 751,i 412,i 0,r 756]
def o7I:=fn 22 22 (stm 52)
def o7J:=co 22 1098 22 1099 1100 304 1 0 0 3 681 true 682 u u u (r 683) 1101 304 1102
def o7K:=fo 4 22 22 (stm 52) 3 [] .none .none .none 8 944 684
def o7L:=sq 2 #[f 184 1109,f 103 1110]
def o7M:=fn 131 131 (stm 54)
def o7N:=co 131 1106 131 1107 1108 310 2 0 0 3 686 true 687 u (r 688) (r 689) (r 690) 1111 310 1112
def o7O:=fo 4 131 131 (stm 54) 3 [] .none .none .none 24 1104 691
def o7P:=sq 2 #[f 204 1117]
def o7Q:=fn 11 11 (stm 55)
def o7R:=co 11 1114 11 1115 1116 314 1 0 0 3 693 true 694 u (r 695) (r 696) (r 697) 1118 314 1119
def o7S:=fo 4 11 11 (stm 55) 3 [] .none .none .none 24 1104 698
def o7T:=sq 2 #[f 100 1124,f 119 1125,f 101 1126,f 120 1127]
def o7U:=fn 108 108 (stm 56)
def o7V:=co 108 1121 108 1122 1123 316 2 0 0 3 700 true 701 u (r 702) (r 703) (r 704) 1128 316 1129
def o7W:=fo 4 108 108 (stm 56) 3 [] .none .none .none 24 1104 705
def o7X:=fn 159 159 (stm 57)
def o7Y:=co 159 1131 159 1132 1133 326 1 0 0 3 707 true 708 u u u (r 709) 1134 326 1135
def o7Z:=fo 4 159 159 (stm 57) 3 [] .none .none .none 24 1104 710
def o80:=sq 2 #[f 100 1140,f 201 1141,f 202 1142,f 167 1143,f 103 1144,f 203 1145]
def o81:=fn 130 130 (stm 58)
def o82:=co 130 1137 130 1138 1139 337 2 0 0 3 712 true 713 u (r 714) (r 715) (r 716) 1146 337 1147
def o83:=fo 4 130 130 (stm 58) 3 [] .none .none .none 24 1104 717
def o84:=fn 25 25 (stm 59)
def o85:=co 25 1149 25 1150 1151 349 3 0 0 3 719 true 720 u u u (r 721) 1152 349 1153
def o86:=fo 4 25 25 (stm 59) 3 [] .none .none .none 24 1104 722
def o87:=fn 95 95 (stm 60)
def o88:=co 95 1155 95 1156 1157 357 1 0 0 3 724 true 725 u u u (r 726) 1158 357 1159
def o89:=fo 4 95 95 (stm 60) 3 [] .none .none .none 24 1104 727
def o8a:=fn 129 129 (stm 61)
def o8b:=co 129 1161 129 1162 1163 371 2 0 0 3 729 true 730 u u u (r 731) 1164 371 1165
def o8c:=fo 4 129 129 (stm 61) 3 [] .none .none .none 24 1104 732
def o8d:=sq 2 #[f 104 1170,f 196 1171,f 101 1172,f 197 1173]
def o8e:=fn 85 85 (stm 62)
def o8f:=co 85 1167 85 1168 1169 385 2 0 0 3 734 true 735 u (r 736) (r 737) (r 738) 1174 385 1175
def o8g:=fo 4 85 85 (stm 62) 3 [] .none .none .none 24 1104 739
def o8h:=sq 2 #[f 167 1180,f 168 1181]
def o8i:=fn 170 170 (stm 63)
def o8j:=co 170 1177 170 1178 1179 397 1 0 0 3 741 true 742 u (r 743) (r 744) (r 745) 1182 397 1183
def o8k:=fo 4 170 170 (stm 63) 3 [] .none .none .none 24 1104 746
def o8l:=fn 150 150 (stm 64)
def o8m:=co 150 1185 150 1186 1187 402 1 0 0 3 748 true 749 u u u (r 750) 1188 402 1189
def o8n:=fo 4 150 150 (stm 64) 3 [] .none .none .none 24 1104 751
def o8o:=fn 74 74 (stm 65)
def o8p:=co 74 1191 74 1192 1193 412 1 0 0 3 753 true 754 u u u (r 755) 1194 412 1195
def o8q:=fo 4 74 74 (stm 65) 3 [] .none .none .none 24 1104 756
def o8r:=di #[d 27 165 (f 24 1104),d 19 166 .none,d 29 167 .none,d 30 168 (bi 10),d 31 169 .none,d 32 170 (r 6),d 33 171 (r 4),d 34 173 (f 10 172),d 35 174 .none,d 36 193 (r 21),d 37 213 (r 31),d 61 229 (r 44),d 44 245 (r 56),d 62 261 (r 68),d 141 277 (r 80),d 142 286 (r 89),d 143 295 (r 96),d 138 303 (r 103),d 144 307 (j 1440 306),d 145 314 (r 110),d 146 321 (r 117),d 68 328 (r 124),d 70 335 (r 131),d 147 339 (f 148 338),d 149 341 (j 8 340),d 118 347 (r 136),d 75 380 (r 153),d 45 388 (r 162),d 158 396 (r 169),d 117 404 (r 176),d 60 426 (r 186),d 134 470 (r 221),d 21 523 (r 261),d 127 576 (r 301),d 55 629 (r 341),d 161 682 (r 381),d 94 738 (r 421),d 162 794 (r 461),d 87 801 (r 470),d 154 808 (r 477),d 133 816 (r 484),d 135 825 (r 491),d 163 831 (r 496),d 73 841 (r 503),d 160 857 (r 510),d 97 879 (r 520),d 155 911 (r 548),d 164 943 (r 574),d 165 978 (r 594),d 128 1015 (r 616),d 121 1025 (r 627),d 126 1089 (r 669),d 50 1097 (r 680),d 22 1103 (r 685),d 131 1113 (r 692),d 11 1120 (r 699),d 108 1130 (r 706),d 159 1136 (r 711),d 130 1148 (r 718),d 25 1154 (r 723),d 95 1160 (r 728),d 129 1166 (r 733),d 85 1176 (r 740),d 170 1184 (r 747),d 150 1190 (r 752),d 74 1196 (r 757),d 125 1209 (r 764),d 23 1219 (r 771),d 157 1225 (r 776),d 9 1233 (r 783),d 181 1252 (r 790)] 71
def o8s:=fd #[i 1,i 0,r 20,i 5,i 0,r 27,i 7,i 0,r 40,i 9,i 0,r 52,i 11,i 0,r 64,i 13,i 0,r 76,i 16,i 0,r 88,i 18,i 0,r 95,i 20,i 0,r 102,i 24,i 0,r 109,i 26,i 0,r 116,i 32,i 0,r 123,i 35,i 0,r 130,i 41,i 0,r 135,i 45,i 0,r 142,i 56,i 0,r 161,i 60,i 0,r 168,i 66,i 0,r 175,i 72,i 0,r 182,i 74,i 0,r 196,i 84,i 0,r 229,i 98,i 0,r 269,i 112,i 0,r 309,i 127,i 0,r 349,i 141,i 0,r 389,i 159,i 0,r 429,i 177,i 0,r 469,i 180,i 0,r 476,i 183,i 0,r 483,i 188,i 0,r 490,i 191,i 0,r 495,i 203,i 0,r 502,i 210,i 0,r 509,i 219,i 0,r 516,i 221,i 0,r 530,i 228,i 0,r 556,i 236,i 0,r 582,i 248,i 0,r 604,i 267,i 0,r 626,i 273,i 0,r 633,i 299,i 0,r 679,i 304,i 0,r 684,i 310,i 0,r 691,i 314,i 0,r 698,i 316,i 0,r 705,i 326,i 0,r 710,i 337,i 0,r 717,i 349,i 0,r 722,i 357,i 0,r 727,i 371,i 0,r 732,i 385,i 0,r 739,i 397,i 0,r 746,i 402,i 0,r 751,i 412,i 0,r 756,i 415,i 0,r 763,i 433,i 0,r 770,i 438,i 0,r 775,i 444,i 0,r 782,i 448,i 0,r 789]
def o8t:=sq 2 #[f 100 1200,f 101 1201,f 102 1202,f 103 1203,f 104 1204,f 105 1205,f 106 1206]
def o8u:=fn 125 125 (stm 66)
def o8v:=co 125 1197 125 1198 1199 415 1 0 0 3 758 true 759 u (r 760) (r 761) (r 762) 1207 415 1208
def o8w:=fo 4 125 125 (stm 66) 3 [] .none .none .none 24 1104 763
def o8x:=sq 2 #[f 185 1213,f 120 1214,f 186 1215,f 104 1216]
def o8y:=fn 23 23 (stm 67)
def o8z:=co 23 1210 23 1211 1212 433 3 0 0 3 765 true 766 u (r 767) (r 768) (r 769) 1217 433 1218
def o8A:=fo 4 23 23 (stm 67) 3 [] .none .none .none 24 1104 770
def o8B:=fn 157 157 (stm 68)
def o8C:=co 157 1220 157 1221 1222 438 4 0 0 3 772 true 773 u u u (r 774) 1223 438 1224
def o8D:=fo 4 157 157 (stm 68) 3 [] .none .none .none 24 1104 775
def o8E:=sq 2 #[f 100 1229,f 104 1230]
def o8F:=fn 9 9 (stm 69)
def o8G:=co 9 1226 9 1227 1228 444 2 0 0 3 777 true 778 u (r 779) (r 780) (r 781) 1231 444 1232
def o8H:=fo 4 9 9 (stm 69) 3 [] .none .none .none 24 1104 782
def o8I:=sq 2 #[f 184 1237,f 100 1238,f 185 1239,f 188 1240,f 104 1241,f 189 1242,f 190 1243,f 191 1244,f 192 1245,f 193 1246,f 120 1247,f 101 1248,f 194 1249]
def o8J:=fn 181 181 (stm 70)
def o8K:=co 181 1234 181 1235 1236 448 1 0 0 3 784 true 785 u (r 786) (r 787) (r 788) 1250 448 1251
def o8L:=fo 4 181 181 (stm 70) 3 [] .none .none .none 24 1104 789
def o8M:=(Obj.mk .none none (.dict #[] 0) #[])
def b0:Obj:=boot_o_0 c.P
def b1:Obj:=boot_o_1 c.P
def b2:Obj:=boot_o_2 c.P
def b3:Obj:=boot_o_3 c.P
def b4:Obj:=boot_o_4 c.P
def b5:Obj:=boot_o_5 c.P
def b6:Obj:=boot_o_6 c.P
def b7:Obj:=boot_o_7 c.P
def b8:Obj:=boot_o_8 c.P
def b9:Obj:=boot_o_9 c.P
def b10:Obj:=boot_o_10 c.P
def q00:BT:=(N o1p (N o00 L L) L)
def q01:BT:=(N o01 q00 (N o2a L L))
def q02:BT:=(N o15 (N o01 L L) (N o2u L L))
def q03:BT:=(N o0V (N o1z L L) (N o2j L L))
def q04:BT:=(N o1u (N o2W L L) L)
def q05:BT:=(N o0n q04 (N o01 L L))
def q06:BT:=(N o10 (N o1E L L) (N o00 L L))
def q07:BT:=(N o01 (N o20 L L) (N o2K L L))
def q08:BT:=(N o1s (N o2S L L) L)
def q09:BT:=(N o0L q08 (N o2c L L))
def q0a:BT:=(N o00 (N o00 L L) (N o2m L L))
def q0b:BT:=(N o1g (N o1Y L L) (N o2I L L))
def q0c:BT:=(N o01 (N o1w L L) (N o2h L L))
def q0d:BT:=(N o01 (N o1I L L) (N o00 L L))
def q0e:BT:=(N o1n (N o23 L L) (N o2N L L))
def q0f:BT:=(N o1q (N o2Q L L) L)
def q0g:BT:=(N o0K q0f (N o2b L L))
def q0h:BT:=(N o0X (N o01 L L) (N o2k L L))
def q0i:BT:=(N o1f (N o00 L L) (N o00 L L))
def q0j:BT:=(N o0S (N o00 L L) (N o00 L L))
def q0k:BT:=(N o12 (N o1G L L) (N o2p L L))
def q0l:BT:=(N o00 (N o21 L L) (N o2L L L))
def q0m:BT:=(N o01 (N o2U L L) L)
def q0n:BT:=(N o0N q0m (N o2e L L))
def q0o:BT:=(N o0Z (N o1C L L) (N o01 L L))
def q0p:BT:=(N o1i (N o01 L L) (N o00 L L))
def q0q:BT:=(N o0U (N o1x L L) (N o00 L L))
def q0r:BT:=(N o00 (N o1K L L) (N o2s L L))
def q0s:BT:=(N o00 (N o25 L L) (N o01 L L))
def q0t:BT:=(N o00 (N o2P L L) L)
def q0u:BT:=(N o0J q0t (N o0b L L))
def q0v:BT:=(N o0W (N o00 L L) (N o00 L L))
def q0w:BT:=(N o01 (N o1X L L) (N o2G L L))
def q0x:BT:=(N o0b (N o1v L L) (N o2f L L))
def q0y:BT:=(N o11 (N o1F L L) (N o2o L L))
def q0z:BT:=(N o1l (N o00 L L) (N o00 L L))
def q0A:BT:=(N o00 (N o2T L L) L)
def q0B:BT:=(N o0M q0A (N o2d L L))
def q0C:BT:=(N o01 (N o1B L L) (N o00 L L))
def q0D:BT:=(N o1h (N o00 L L) (N o2J L L))
def q0E:BT:=(N o0T (N o00 L L) (N o2i L L))
def q0F:BT:=(N o13 (N o1J L L) (N o2r L L))
def q0G:BT:=(N o1o (N o24 L L) (N o00 L L))
def q0H:BT:=(N o1r (N o2R L L) L)
def q0I:BT:=(N o00 q0H (N o00 L L))
def q0J:BT:=(N o0Y (N o1A L L) (N o2l L L))
def q0K:BT:=(N o00 (N o0b L L) (N o2H L L))
def q0L:BT:=(N o00 (N o0b L L) (N o2g L L))
def q0M:BT:=(N o00 (N o1H L L) (N o2q L L))
def q0N:BT:=(N o1t (N o2V L L) L)
def q0O:BT:=(N o0O q0N (N o00 L L))
def q0P:BT:=(N o00 (N o1D L L) (N o2n L L))
def q0Q:BT:=(N o00 (N o1Z L L) (N o01 L L))
def q0R:BT:=(N o00 (N o1y L L) (N o01 L L))
def q0S:BT:=(N o14 (N o00 L L) (N o2t L L))
def q0T:BT:=(N o01 (N o26 L L) (N o2O L L))
def tree_321_:BT:=(N b0 (N b1 (N o2v (N b7 (N o00 (N o0R q01 q02) (N o0n q03 (N o00 (N o1W L L) (N o01 L L)))) (N o0b (N o01 q05 (N o1a (N o1R L L) (N o00 L L))) (N o0B q06 q07))) (N o00 (N o07 (N o0n q09 (N o17 (N o00 L L) (N o00 L L))) (N o01 q0a q0b)) (N o0d (N o0r q0c (N o00 (N o01 L L) (N o2D L L))) (N o0n q0d q0e)))) (N b5 (N b9 (N o06 (N o0i q0g (N o00 (N o1M L L) (N o0b L L))) (N o0y q0h q0i)) (N o00 (N o0q q0j (N o01 (N o1T L L) (N o2C L L))) (N o0D q0k q0l))) (N o02 (N o09 (N o0o q0n (N o18 (N o1Q L L) (N o2A L L))) (N o0A q0o q0p)) (N o00 (N o0t q0q (N o1d (N o00 L L) (N o2F L L))) (N o0I q0r q0s))))) (N b2 (N b4 (N b8 (N o01 (N o0h q0u (N o16 (N o1L L L) (N o2a L L))) (N o0b q0v q0w)) (N o0c (N o0p q0x (N o00 (N o1S L L) (N o01 L L))) (N o0C q0y q0z))) (N o2w (N o08 (N o0b q0B (N o00 (N o01 L L) (N o2z L L))) (N o0z q0C q0D)) (N o0e (N o0s q0E (N o1c (N o1U L L) (N o2E L L))) (N o0b q0F q0G)))) (N b6 (N b10 (N o00 (N o0j q0I (N o01 (N o1N L L) (N o2y L L))) (N o00 q0J q0K)) (N o01 (N o00 q0L (N o1b (N o00 L L) (N o00 L L))) (N o0E q0M (N o1m (N o2x L L) (N o2M L L))))) (N o03 (N o0a (N o00 q0O (N o19 (N o00 L L) (N o2B L L))) (N o00 q0P q0Q)) (N o0f (N o0u q0R (N o1e (N o1V L L) (N o00 L L))) (N o00 q0S q0T))))))
def heap_882_:PySem.Heap:=(Heap.mk (Array.mk [b0,b1,b2,o8r,b4,b5,b6,b7,b8,b9,b10,o00,o8s,o02,o03,o00,o01,o06,o00,o07,o08,o09,o0a,o0b,o0c,o00,o01,o0d,o0e,o00,o0f,o0R,o0h,o0i,o0j,o0n,o0b,o0o,o00,o01,o0p,o0q,o00,o0r,o0s,o0t,o0u,o0n,o0b,o0y,o00,o01,o0z,o0A,o00,o0B,o0C,o0D,o0E,o0n,o0b,o0I,o00,o01,o0J,o0K,o00,o0L,o0M,o0N,o0O,o0n,o0b,o0S,o00,o01,o0T,o0U,o00,o0V,o0W,o0X,o0Y,o00,o01,o0Z,o00,o10,o11,o12,o00,o01,o13,o00,o14,o15,o16,o00,o01,o17,o00,o18,o19,o1a,o00,o01,o1b,o00,o1c,o1d,o1e,o00,o01,o1f,o00,o1g,o1h,o1i,o00,o01,o1l,o00,o1m,o1n,o1o,o00,o01,o1p,o00,o1q,o1r,o1s,o00,o01,o1t,o1u,o1v,o00,o0b,o1w,o00,o1x,o1y,o1z,o00,o01,o1A,o00,o1B,o1C,o1D,o1E,o1F,o1G,o1H,o1I,o1J,o1K,o00,o01,o1L,o1M,o1N,o00,o01,o1Q,o00,o1R,o1S,o1T,o00,o01,o1U,o00,o1V,o1W,o1X,o00,o0b,o1Y,o00,o01,o1Z,o20,o00,o21,o4N,o23,o24,o25,o26,o2a,o0b,o2b,o00,o2c,o2d,o2e,o00,o01,o2f,o00,o2g,o2h,o2i,o00,o01,o2j,o00,o2k,o2l,o2m,o00,o01,o2n,o00,o2o,o2p,o2q,o00,o2r,o2s,o2t,o2u,o2a,o0b,o2y,o00,o2z,o2A,o2B,o00,o01,o2C,o00,o2D,o2E,o2F,o00,o01,o2G,o00,o2H,o2I,o2J,o00,o01,o2K,o00,o2L,o2M,o2N,o00,o01,o2O,o00,o2P,o2Q,o2R,o2S,o2T,o2U,o2V,o2W,o2a,o0b,o30,o00,o31,o32,o33,o00,o01,o34,o00,o35,o36,o37,o00,o01,o38,o00,o39,o3a,o3b,o00,o01,o3c,o00,o3d,o3e,o3f,o00,o01,o3g,o00,o3h,o3i,o3j,o3k,o3l,o3m,o3n,o3o,o2a,o0b,o3s,o00,o3t,o3u,o3v,o00,o01,o3w,o00,o3x,o3y,o3z,o00,o01,o3A,o00,o3B,o3C,o3D,o00,o01,o3E,o00,o3F,o3G,o3H,o00,o01,o3I,o00,o3J,o3K,o3L,o3M,o3N,o3O,o3P,o3Q,o2a,o0b,o3U,o00,o3V,o3W,o3X,o00,o01,o3Y,o00,o3Z,o40,o41,o00,o01,o42,o00,o43,o44,o45,o00,o01,o46,o00,o47,o48,o49,o00,o01,o4a,o00,o4b,o4c,o4d,o4e,o4f,o4g,o4h,o4i,o2a,o0b,o4m,o00,o4n,o4o,o4p,o00,o01,o4q,o00,o4r,o4s,o4t,o00,o01,o4u,o00,o4v,o4w,o4x,o00,o01,o4y,o00,o4z,o4A,o4B,o00,o01,o4C,o00,o4D,o4E,o4F,o4G,o4H,o4I,o4J,o4K,o2a,o0b,o4O,o00,o4P,o4Q,o4R,o00,o01,o4S,o00,o4T,o4U,o4V,o00,o01,o4W,o00,o4X,o4Y,o4Z,o00,o01,o50,o00,o51,o52,o53,o00,o01,o54,o00,o55,o56,o57,o58,o59,o5a,o5b,o5c,o00,o01,o5d,o00,o5e,o5f,o5g,o00,o01,o5j,o00,o5k,o5l,o5m,o00,o01,o5n,o00,o5o,o5p,o5q,o00,o01,o5r,o00,o5s,o5t,o5u,o00,o01,o5v,o5w,o5x,o00,o01,o5y,o00,o5z,o5A,o5B,o00,o01,o5C,o00,o5D,o5E,o5F,o00,o0b,o5G,o00,o01,o5H,o5I,o00,o5J,o6b,o5L,o5M,o5N,o5O,o5S,o0b,o5T,o00,o5U,o5V,o5W,o00,o01,o5X,o00,o5Y,o5Z,o60,o00,o01,o61,o00,o62,o63,o64,o00,o65,o66,o67,o68,o5S,o0b,o6c,o00,o6d,o6e,o6f,o00,o01,o6g,o00,o6h,o6i,o6j,o00,o01,o6k,o00,o6l,o6m,o6n,o00,o6o,o6p,o6q,o6r,o00,o0b,o6u,o00,o6v,o6w,o6x,o6y,o00,o01,o6z,o00,o6A,o6B,o6C,o6D,o6E,o6F,o6G,o6H,o6I,o6J,o00,o0b,o6M,o00,o6N,o6O,o6P,o6Q,o00,o01,o6R,o00,o6S,o6T,o6U,o6V,o6W,o6X,o6Y,o6Z,o70,o71,o00,o01,o72,o00,o73,o74,o75,o00,o0b,o78,o00,o79,o7a,o7b,o7c,o00,o01,o7d,o00,o7e,o7f,o7g,o00,o01,o7h,o00,o7i,o7j,o7k,o00,o01,o7l,o00,o7m,o7n,o7o,o00,o01,o7p,o7q,o7r,o00,o01,o7s,o7t,o7u,o7v,o7w,o7x,o7y,o7z,o7A,o7B,o00,o01,o7C,o00,o7D,o7E,o7F,o00,o01,o7I,o7J,o7K,o00,o01,o7L,o00,o7M,o7N,o7O,o00,o01,o7P,o00,o7Q,o7R,o7S,o00,o01,o7T,o00,o7U,o7V,o7W,o00,o01,o7X,o7Y,o7Z,o00,o01,o80,o00,o81,o82,o83,o00,o01,o84,o85,o86,o00,o01,o87,o88,o89,o00,o01,o8a,o8b,o8c,o00,o01,o8d,o00,o8e,o8f,o8g,o00,o01,o8h,o00,o8i,o8j,o8k,o00,o01,o8l,o8m,o8n,o00,o01,o8o,o8p,o8q,o00,o01,o8t,o00,o8u,o8v,o8w,o00,o01,o8x,o00,o8y,o8z,o8A,o00,o01,o8B,o8C,o8D,o00,o01,o8E,o00,o8F,o8G,o8H,o00,o01,o8I,o00,o8J,o8K,o8L]) (Life.mk [] [] [] 0 [] [] false #[] [] 0 false false false 0 [2000,10,10] false 0 true [] [] 0 false))
def q0U:BT:=(N o0R (N o01 (N o1p L L) L) (N o15 (N o01 L L) L))
def q0V:BT:=(N o0V (N o1z L L) L)
def q0W:BT:=(N o00 (N o1W L L) L)
def q0X:BT:=(N o0n (N o1u L L) L)
def q0Y:BT:=(N o1a (N o1R L L) L)
def q0Z:BT:=(N o10 (N o1E L L) L)
def q10:BT:=(N o01 (N o20 L L) L)
def q11:BT:=(N o0L (N o1s L L) L)
def q12:BT:=(N o17 (N o00 L L) L)
def q13:BT:=(N o00 (N o00 L L) L)
def q14:BT:=(N o1g (N o1Y L L) L)
def q15:BT:=(N o01 (N o1w L L) L)
def q16:BT:=(N o00 (N o01 L L) L)
def q17:BT:=(N o01 (N o1I L L) L)
def q18:BT:=(N o1n (N o23 L L) L)
def q19:BT:=(N o00 (N o1M L L) L)
def q1a:BT:=(N o0i (N o0K (N o1q L L) L) q19)
def q1b:BT:=(N o0X (N o01 L L) L)
def q1c:BT:=(N o1f (N o00 L L) L)
def q1d:BT:=(N o0S (N o00 L L) L)
def q1e:BT:=(N o01 (N o1T L L) L)
def q1f:BT:=(N o12 (N o1G L L) L)
def q1g:BT:=(N o00 (N o21 L L) L)
def q1h:BT:=(N o0N (N o01 L L) L)
def q1i:BT:=(N o18 (N o1Q L L) L)
def q1j:BT:=(N o0Z (N o1C L L) L)
def q1k:BT:=(N o1i (N o01 L L) L)
def q1l:BT:=(N o0U (N o1x L L) L)
def q1m:BT:=(N o1d (N o00 L L) L)
def q1n:BT:=(N o00 (N o1K L L) L)
def q1o:BT:=(N o00 (N o25 L L) L)
def q1p:BT:=(N o16 (N o1L L L) L)
def q1q:BT:=(N o0h (N o0J (N o00 L L) L) q1p)
def q1r:BT:=(N o0W (N o00 L L) L)
def q1s:BT:=(N o01 (N o1X L L) L)
def q1t:BT:=(N o0b (N o1v L L) L)
def q1u:BT:=(N o00 (N o1S L L) L)
def q1v:BT:=(N o11 (N o1F L L) L)
def q1w:BT:=(N o1l (N o00 L L) L)
def q1x:BT:=(N o0M (N o00 L L) L)
def q1y:BT:=(N o01 (N o1B L L) L)
def q1z:BT:=(N o1h (N o00 L L) L)
def q1A:BT:=(N o0T (N o00 L L) L)
def q1B:BT:=(N o1c (N o1U L L) L)
def q1C:BT:=(N o13 (N o1J L L) L)
def q1D:BT:=(N o1o (N o24 L L) L)
def q1E:BT:=(N o01 (N o1N L L) L)
def q1F:BT:=(N o0j (N o00 (N o1r L L) L) q1E)
def q1G:BT:=(N o0Y (N o1A L L) L)
def q1H:BT:=(N o00 (N o0b L L) L)
def q1I:BT:=(N o1b (N o00 L L) L)
def q1J:BT:=(N o00 (N o1H L L) L)
def q1K:BT:=(N o0O (N o1t L L) L)
def q1L:BT:=(N o19 (N o00 L L) L)
def q1M:BT:=(N o00 (N o1D L L) L)
def q1N:BT:=(N o00 (N o1Z L L) L)
def q1O:BT:=(N o00 (N o1y L L) L)
def q1P:BT:=(N o1e (N o1V L L) L)
def q1Q:BT:=(N o14 (N o00 L L) L)
def q1R:BT:=(N o01 (N o26 L L) L)
def tree_242_:BT:=(N b0 (N b1 (N o1O (N b7 (N o00 q0U (N o0n q0V q0W)) (N o0b (N o01 q0X q0Y) (N o0B q0Z q10))) (N o00 (N o07 (N o0n q11 q12) (N o01 q13 q14)) (N o0d (N o0r q15 q16) (N o0n q17 q18)))) (N b5 (N b9 (N o06 q1a (N o0y q1b q1c)) (N o00 (N o0q q1d q1e) (N o0D q1f q1g))) (N o02 (N o09 (N o0o q1h q1i) (N o0A q1j q1k)) (N o00 (N o0t q1l q1m) (N o0I q1n q1o))))) (N b2 (N b4 (N b8 (N o01 q1q (N o0b q1r q1s)) (N o0c (N o0p q1t q1u) (N o0C q1v q1w))) (N o1P (N o08 (N o0b q1x q16) (N o0z q1y q1z)) (N o0e (N o0s q1A q1B) (N o0b q1C q1D)))) (N b6 (N b10 (N o00 q1F (N o00 q1G q1H)) (N o01 (N o00 q1H q1I) (N o0E q1J (N o1m (N o22 L L) L)))) (N o03 (N o0a (N o00 q1K q1L) (N o00 q1M q1N)) (N o0f (N o0u q1O q1P) (N o00 q1Q q1R))))))
def q1S:BT:=(N o4i (N o00 L L) L)
def q1T:BT:=(N o01 (N o6q L L) L)
def q1U:BT:=(N o2a q1T (N o50 (N o00 L L) L))
def q1V:BT:=(N o3c (N o62 L L) L)
def q1W:BT:=(N o01 q1V (N o00 (N o7z L L) L))
def q1X:BT:=(N o01 (N o01 L L) L)
def q1Y:BT:=(N o15 q1W (N o2u q13 q1X))
def q1Z:BT:=(N o00 (N o5T L L) L)
def q20:BT:=(N o01 (N o7n L L) L)
def q21:BT:=(N o00 (N o6C L L) L)
def q22:BT:=(N o2j q21 (N o5c (N o00 L L) L))
def q23:BT:=(N o3o (N o01 L L) L)
def q24:BT:=(N o46 (N o72 L L) L)
def q25:BT:=(N o00 (N o1W q23 q16) (N o01 q24 (N o5w (N o8m L L) L)))
def q26:BT:=(N o2W (N o5J L L) L)
def q27:BT:=(N o00 (N o7i L L) L)
def q28:BT:=(N o3E (N o6x L L) L)
def q29:BT:=(N o01 q28 (N o00 (N o7Z L L) L))
def q2a:BT:=(N o00 (N o5S L L) L)
def q2b:BT:=(N o1R q2a (N o4K (N o7E L L) L))
def q2c:BT:=(N o01 (N o6W L L) L)
def q2d:BT:=(N o1a q2b (N o00 q2c (N o5r (N o8h L L) L)))
def q2e:BT:=(N o01 (N o00 L L) L)
def q2f:BT:=(N o1E q2e (N o4y (N o01 L L) L))
def q2g:BT:=(N o3Q (N o00 L L) L)
def q2h:BT:=(N o10 q2f (N o00 q2g (N o00 (N o88 L L) L)))
def q2i:BT:=(N o00 (N o6k L L) L)
def q2j:BT:=(N o20 q2i (N o01 (N o7P L L) L))
def q2k:BT:=(N o2K q13 (N o5B L L))
def q2l:BT:=(N o2S (N o01 L L) L)
def q2m:BT:=(N o3C (N o6u L L) L)
def q2n:BT:=(N o2c q2m (N o53 (N o00 L L) L))
def q2o:BT:=(N o3f (N o65 L L) L)
def q2p:BT:=(N o00 q2o (N o4G (N o01 L L) L))
def q2q:BT:=(N o3Z (N o6S L L) L)
def q2r:BT:=(N o17 q2p (N o00 q2q (N o5p (N o8f L L) L)))
def q2s:BT:=(N o35 (N o5W L L) L)
def q2t:BT:=(N o4w (N o7p L L) L)
def q2u:BT:=(N o3M (N o6G L L) L)
def q2v:BT:=(N o2m q2u (N o00 (N o86 L L) L))
def q2w:BT:=(N o00 (N o6i L L) L)
def q2x:BT:=(N o49 (N o75 L L) L)
def q2y:BT:=(N o1g (N o1Y q2w (N o4T (N o7N L L) L)) (N o2I q2x (N o5y (N o8o L L) L)))
def q2z:BT:=(N o00 (N o5N L L) L)
def q2A:BT:=(N o4r (N o01 L L) L)
def q2B:BT:=(N o3H (N o6z L L) L)
def q2C:BT:=(N o2h q2B (N o58 (N o00 L L) L))
def q2D:BT:=(N o3k (N o6d L L) L)
def q2E:BT:=(N o44 (N o70 L L) L)
def q2F:BT:=(N o00 (N o01 q2D (N o00 (N o7I L L) L)) (N o2D q2E (N o5u (N o8k L L) L)))
def q2G:BT:=(N o3a (N o00 L L) L)
def q2H:BT:=(N o1I q2G (N o4B (N o7v L L) L))
def q2I:BT:=(N o00 (N o6N L L) L)
def q2J:BT:=(N o01 q2H (N o00 q2I (N o5k (N o8a L L) L)))
def q2K:BT:=(N o3x (N o6n L L) L)
def q2L:BT:=(N o23 q2K (N o4Y (N o7S L L) L))
def q2M:BT:=(N o4e (N o7c L L) L)
def q2N:BT:=(N o2N q2M (N o00 L L))
def q2O:BT:=(N o2Q (N o5G L L) L)
def q2P:BT:=(N o0b (N o7f L L) L)
def q2Q:BT:=(N o2b q13 (N o51 (N o7V L L) L))
def q2R:BT:=(N o3d (N o64 L L) L)
def q2S:BT:=(N o1M q2R (N o4E (N o7B L L) L))
def q2T:BT:=(N o3Y (N o6R L L) L)
def q2U:BT:=(N o00 q2S (N o0b q2T q13))
def q2V:BT:=(N o34 (N o5U L L) L)
def q2W:BT:=(N o3K (N o6E L L) L)
def q2X:BT:=(N o2k q2W (N o01 (N o84 L L) L))
def q2Y:BT:=(N o0b (N o00 L L) L)
def q2Z:BT:=(N o47 (N o73 L L) L)
def q30:BT:=(N o1f (N o00 q2Y (N o4S (N o00 L L) L)) (N o00 q2Z q13))
def q31:BT:=(N o0b (N o5L L L) L)
def q32:BT:=(N o4q (N o7k L L) L)
def q33:BT:=(N o3F (N o00 L L) L)
def q34:BT:=(N o00 q33 (N o56 (N o01 L L) L))
def q35:BT:=(N o3i (N o6c L L) L)
def q36:BT:=(N o00 (N o6Y L L) L)
def q37:BT:=(N o01 (N o1T q35 q2Y) (N o2C q36 (N o5s (N o8i L L) L)))
def q38:BT:=(N o00 (N o5Z L L) L)
def q39:BT:=(N o1G q38 (N o4z (N o7t L L) L))
def q3a:BT:=(N o0b (N o6M L L) L)
def q3b:BT:=(N o12 q39 (N o2p q3a (N o5j (N o00 L L) L)))
def q3c:BT:=(N o3w (N o6l L L) L)
def q3d:BT:=(N o21 q3c (N o00 (N o7Q L L) L))
def q3e:BT:=(N o4c (N o7a L L) L)
def q3f:BT:=(N o2L q3e (N o01 L L))
def q3g:BT:=(N o2U (N o5I L L) L)
def q3h:BT:=(N o4o (N o7h L L) L)
def q3i:BT:=(N o00 (N o6v L L) L)
def q3j:BT:=(N o2e q3i (N o01 (N o7X L L) L))
def q3k:BT:=(N o01 (N o67 L L) L)
def q3l:BT:=(N o1Q q3k (N o4I (N o00 L L) L))
def q3m:BT:=(N o41 (N o6U L L) L)
def q3n:BT:=(N o18 q3l (N o2A q3m q13))
def q3o:BT:=(N o37 (N o01 L L) L)
def q3p:BT:=(N o00 (N o7r L L) L)
def q3q:BT:=(N o3O (N o6I L L) L)
def q3r:BT:=(N o01 q3q (N o5f (N o01 L L) L))
def q3s:BT:=(N o3u (N o00 L L) L)
def q3t:BT:=(N o01 (N o0b L L) L)
def q3u:BT:=(N o1i (N o01 q3s (N o4V (N o00 L L) L)) (N o00 q3t (N o5z (N o8q L L) L)))
def q3v:BT:=(N o32 (N o5S L L) L)
def q3w:BT:=(N o4t (N o00 L L) L)
def q3x:BT:=(N o01 (N o6A L L) L)
def q3y:BT:=(N o00 q3x (N o5a (N o82 L L) L))
def q3z:BT:=(N o3m (N o6f L L) L)
def q3A:BT:=(N o1d (N o00 q3z (N o4Q (N o7K L L) L)) (N o2F q13 q1X))
def q3B:BT:=(N o00 (N o61 L L) L)
def q3C:BT:=(N o1K q3B (N o01 (N o7x L L) L))
def q3D:BT:=(N o3W (N o6P L L) L)
def q3E:BT:=(N o00 q3C (N o2s q3D (N o5m (N o8c L L) L)))
def q3F:BT:=(N o3z (N o6o L L) L)
def q3G:BT:=(N o4g (N o01 L L) L)
def q3H:BT:=(N o01 q3G (N o5E L L))
def q3I:BT:=(N o2P (N o0b L L) L)
def q3J:BT:=(N o2a (N o7e L L) L)
def q3K:BT:=(N o3A (N o6r L L) L)
def q3L:BT:=(N o0b q3K (N o00 (N o7U L L) L))
def q3M:BT:=(N o00 (N o63 L L) L)
def q3N:BT:=(N o1L q3M (N o4D (N o7A L L) L))
def q3O:BT:=(N o16 q3N (N o2a q1X (N o5n (N o8d L L) L)))
def q3P:BT:=(N o4u (N o7o L L) L)
def q3Q:BT:=(N o3J (N o6D L L) L)
def q3R:BT:=(N o2a (N o6g L L) L)
def q3S:BT:=(N o01 (N o1X q3R (N o01 (N o7L L L) L)) (N o2G q13 (N o5x (N o8n L L) L)))
def q3T:BT:=(N o2a (N o6b L L) L)
def q3U:BT:=(N o01 (N o7j L L) L)
def q3V:BT:=(N o00 (N o6y L L) L)
def q3W:BT:=(N o2f q3V (N o55 (N o00 L L) L))
def q3X:BT:=(N o3h (N o0b L L) L)
def q3Y:BT:=(N o1S q3X (N o2a (N o7F L L) L))
def q3Z:BT:=(N o42 (N o6X L L) L)
def q40:BT:=(N o00 q3Y (N o01 q3Z q13))
def q41:BT:=(N o38 (N o5Y L L) L)
def q42:BT:=(N o1F q41 (N o00 (N o7s L L) L))
def q43:BT:=(N o2a (N o0b L L) L)
def q44:BT:=(N o11 q42 (N o2o q43 (N o01 (N o89 L L) L)))
def q45:BT:=(N o00 q2e (N o4W (N o00 L L) L))
def q46:BT:=(N o4b (N o79 L L) L)
def q47:BT:=(N o00 q46 (N o00 L L))
def q48:BT:=(N o2T (N o5H L L) L)
def q49:BT:=(N o4n (N o01 L L) L)
def q4a:BT:=(N o3D (N o00 L L) L)
def q4b:BT:=(N o00 (N o66 L L) L)
def q4c:BT:=(N o01 q4b (N o4H (N o7C L L) L))
def q4d:BT:=(N o40 (N o6T L L) L)
def q4e:BT:=(N o00 q4c (N o2z q4d (N o5q (N o8g L L) L)))
def q4f:BT:=(N o36 (N o00 L L) L)
def q4g:BT:=(N o4x (N o7q L L) L)
def q4h:BT:=(N o3N (N o6H L L) L)
def q4i:BT:=(N o00 q4h (N o5e (N o00 L L) L))
def q4j:BT:=(N o3t (N o6j L L) L)
def q4k:BT:=(N o1h (N o00 q4j (N o4U (N o7O L L) L)) (N o2J q13 (N o00 (N o8p L L) L)))
def q4l:BT:=(N o31 (N o5O L L) L)
def q4m:BT:=(N o4s (N o7l L L) L)
def q4n:BT:=(N o2i q13 (N o59 (N o81 L L) L))
def q4o:BT:=(N o3l (N o6e L L) L)
def q4p:BT:=(N o45 (N o71 L L) L)
def q4q:BT:=(N o1c (N o1U q4o (N o4P (N o7J L L) L)) (N o2E q4p q13))
def q4r:BT:=(N o3b (N o01 L L) L)
def q4s:BT:=(N o1J q4r (N o00 (N o7w L L) L))
def q4t:BT:=(N o3V (N o6O L L) L)
def q4u:BT:=(N o13 q4s (N o2r q4t (N o5l (N o8b L L) L)))
def q4v:BT:=(N o3y (N o00 L L) L)
def q4w:BT:=(N o24 q4v (N o4Z (N o00 L L) L))
def q4x:BT:=(N o4f (N o00 L L) L)
def q4y:BT:=(N o00 q4x (N o5D L L))
def q4z:BT:=(N o2R (N o00 L L) L)
def q4A:BT:=(N o4m (N o7g L L) L)
def q4B:BT:=(N o3B (N o0b L L) L)
def q4C:BT:=(N o00 q4B (N o52 (N o7W L L) L))
def q4D:BT:=(N o3e (N o00 L L) L)
def q4E:BT:=(N o1N q4D (N o4F (N o00 L L) L))
def q4F:BT:=(N o01 q4E (N o2y q13 (N o5o (N o8e L L) L)))
def q4G:BT:=(N o00 (N o5V L L) L)
def q4H:BT:=(N o4v (N o01 L L) L)
def q4I:BT:=(N o3L (N o6F L L) L)
def q4J:BT:=(N o2l q4I (N o5d (N o85 L L) L))
def q4K:BT:=(N o3s (N o6h L L) L)
def q4L:BT:=(N o48 (N o74 L L) L)
def q4M:BT:=(N o00 (N o0b q4K (N o00 (N o7M L L) L)) (N o2H q4L q1X))
def q4N:BT:=(N o30 (N o5M L L) L)
def q4O:BT:=(N o3G (N o01 L L) L)
def q4P:BT:=(N o2g q4O (N o57 (N o80 L L) L))
def q4Q:BT:=(N o3j (N o00 L L) L)
def q4R:BT:=(N o43 (N o6Z L L) L)
def q4S:BT:=(N o1b (N o00 q4Q (N o4O (N o01 L L) L)) (N o00 q4R (N o5t (N o8j L L) L)))
def q4T:BT:=(N o39 (N o60 L L) L)
def q4U:BT:=(N o1H q4T (N o4A (N o7u L L) L))
def q4V:BT:=(N o3U (N o00 L L) L)
def q4W:BT:=(N o00 q4U (N o2q q4V q16))
def q4X:BT:=(N o00 (N o6m L L) L)
def q4Y:BT:=(N o4N q4X (N o4X (N o7R L L) L))
def q4Z:BT:=(N o4d (N o7b L L) L)
def q50:BT:=(N o2M q4Z (N o5C L L))
def q51:BT:=(N o2V (N o00 L L) L)
def q52:BT:=(N o4p (N o00 L L) L)
def q53:BT:=(N o01 (N o6w L L) L)
def q54:BT:=(N o00 q53 (N o54 (N o7Y L L) L))
def q55:BT:=(N o3g (N o68 L L) L)
def q56:BT:=(N o00 q55 (N o4J (N o7D L L) L))
def q57:BT:=(N o00 (N o6V L L) L)
def q58:BT:=(N o19 q56 (N o2B q57 q1X))
def q59:BT:=(N o00 (N o5X L L) L)
def q5a:BT:=(N o3P (N o6J L L) L)
def q5b:BT:=(N o2n q5a (N o5g (N o87 L L) L))
def q5c:BT:=(N o3v (N o01 L L) L)
def q5d:BT:=(N o4a (N o78 L L) L)
def q5e:BT:=(N o01 q5d (N o5A L L))
def q5f:BT:=(N o33 (N o0b L L) L)
def q5g:BT:=(N o00 (N o7m L L) L)
def q5h:BT:=(N o3I (N o6B L L) L)
def q5i:BT:=(N o01 q5h (N o5b (N o83 L L) L))
def q5j:BT:=(N o3n (N o00 L L) L)
def q5k:BT:=(N o1e (N o1V q5j (N o4R (N o00 L L) L)) (N o00 q1X (N o5v (N o8l L L) L)))
def q5l:BT:=(N o00 q2e (N o4C (N o7y L L) L))
def q5m:BT:=(N o3X (N o6Q L L) L)
def q5n:BT:=(N o14 q5l (N o2t q5m q13))
def q5o:BT:=(N o00 (N o6p L L) L)
def q5p:BT:=(N o26 q5o (N o01 (N o7T L L) L))
def q5q:BT:=(N o4h (N o7d L L) L)
def q5r:BT:=(N o2O q5q (N o5F L L))
def tree_846_:BT:=(N b0 (N b1 (N o7G (N b7 (N o00 (N o0R (N o01 (N o1p q13 q1S) q1U) q1Y) (N o0n (N o0V (N o1z q1Z q20) q22) q25)) (N o0b (N o01 (N o0n (N o1u q26 q27) q29) q2d) (N o0B q2h (N o01 q2j q2k)))) (N o00 (N o07 (N o0n (N o0L (N o1s q2l q13) q2n) q2r) (N o01 (N o00 (N o00 q2s q2t) q2v) q2y)) (N o0d (N o0r (N o01 (N o1w q2z q2A) q2C) q2F) (N o0n q2J (N o1n q2L q2N))))) (N b5 (N b9 (N o06 (N o0i (N o0K (N o1q q2O q2P) q2Q) q2U) (N o0y (N o0X (N o01 q2V q13) q2X) q30)) (N o00 (N o0q (N o0S (N o00 q31 q32) q34) q37) (N o0D q3b (N o00 q3d q3f)))) (N o02 (N o09 (N o0o (N o0N (N o01 q3g q3h) q3j) q3n) (N o0A (N o0Z (N o1C q3o q3p) q3r) q3u)) (N o00 (N o0t (N o0U (N o1x q3v q3w) q3y) q3A) (N o0I q3E (N o00 (N o25 q3F q16) q3H)))))) (N b2 (N b4 (N b8 (N o01 (N o0h (N o0J (N o00 q3I q3J) q3L) q3O) (N o0b (N o0W (N o00 q2e q3P) (N o00 q3Q q16)) q3S)) (N o0c (N o0p (N o0b (N o1v q3T q3U) q3W) q40) (N o0C q44 (N o1l q45 q47)))) (N o7H (N o08 (N o0b (N o0M (N o00 q48 q49) (N o2d q4a q16)) q4e) (N o0z (N o01 (N o1B q4f q4g) q4i) q4k)) (N o0e (N o0s (N o0T (N o00 q4l q4m) q4n) q4q) (N o0b q4u (N o1o q4w q4y))))) (N b6 (N b10 (N o00 (N o0j (N o00 (N o1r q4z q4A) q4C) q4F) (N o00 (N o0Y (N o1A q4G q4H) q4J) q4M)) (N o01 (N o00 (N o00 (N o0b q4N q13) q4P) q4S) (N o0E q4W (N o1m q4Y q50)))) (N o03 (N o0a (N o00 (N o0O (N o1t q51 q52) q54) q58) (N o00 (N o00 (N o1D q59 q2e) q5b) (N o00 (N o1Z q5c q16) q5e))) (N o0f (N o0u (N o00 (N o1y q5f q5g) q5i) q5k) (N o00 q5n (N o01 q5p q5r)))))))
def heap_39_:Frag:=[(2,o8M),(3,o8r),(15,o00),(17,o06),(18,o00),(20,o08),(21,o09),(22,o0a),(29,o00),(30,o0f),(31,o0R),(32,o0h),(35,o0n),(42,o00),(43,o0r),(44,o0s),(47,o0n),(54,o00),(55,o0B),(56,o0C),(59,o0n),(66,o00),(67,o0L),(68,o0M),(71,o0n),(78,o00),(79,o0V),(80,o0W),(83,o00),(85,o0Z),(86,o00),(88,o11),(89,o12),(90,o00),(92,o13),(93,o00),(95,o15),(96,o16),(97,o00),(99,o17),(100,o00),(102,o19),(103,o1a),(104,o00),(106,o1b),(107,o00),(109,o1d),(110,o1e),(111,o00),(113,o1f),(114,o00),(116,o1h),(117,o1i),(118,o00),(120,o1l),(121,o00),(123,o1n),(124,o1o),(125,o00),(127,o1p),(128,o00),(130,o1r),(131,o1s),(132,o00),(135,o1u),(136,o1v),(144,o00),(146,o1A),(147,o00),(149,o1C),(150,o1D),(151,o1E),(152,o1F),(153,o1G),(154,o1H),(155,o1I),(158,o00),(161,o1M),(162,o1N),(163,o00),(165,o1Q),(166,o00),(168,o1S),(169,o1T),(170,o00),(172,o1U),(173,o00),(175,o1W),(176,o1X),(184,o00),(185,o21),(186,o4N),(187,o23),(188,o24),(191,o2a),(198,o00),(200,o2f),(201,o00),(203,o2h),(204,o2i),(205,o00),(207,o2j),(208,o00),(210,o2l),(211,o2m),(212,o00),(214,o2n),(215,o00),(217,o2p),(218,o2q),(219,o00),(220,o2r),(221,o2s),(224,o2a),(231,o00),(233,o2C),(234,o00),(236,o2E),(237,o2F),(238,o00),(240,o2G),(241,o00),(243,o2I),(244,o2J),(245,o00),(247,o2K),(248,o00),(250,o2M),(251,o2N),(252,o00),(254,o2O),(255,o00),(257,o2Q),(258,o2R),(259,o2S),(260,o2T),(261,o2U),(264,o2a),(271,o00),(273,o34),(274,o00),(276,o36),(277,o37),(278,o00),(280,o38),(281,o00),(283,o3a),(284,o3b),(285,o00),(287,o3c),(288,o00),(290,o3e),(291,o3f),(292,o00),(294,o3g),(295,o00),(297,o3i),(298,o3j),(299,o3k),(300,o3l),(301,o3m),(304,o2a),(311,o00),(313,o3w),(314,o00),(316,o3y),(317,o3z),(318,o00),(320,o3A),(321,o00),(323,o3C),(324,o3D),(325,o00),(327,o3E),(328,o00),(330,o3G),(331,o3H),(332,o00),(334,o3I),(335,o00),(337,o3K),(338,o3L),(339,o3M),(340,o3N),(341,o3O),(344,o2a),(351,o00),(353,o3Y),(354,o00),(356,o40),(357,o41),(358,o00),(360,o42),(361,o00),(363,o44),(364,o45),(365,o00),(367,o46),(368,o00),(370,o48),(371,o49),(372,o00),(374,o4a),(375,o00),(377,o4c),(378,o4d),(379,o4e),(380,o4f),(381,o4g),(384,o2a),(391,o00),(393,o4q),(394,o00),(396,o4s),(397,o4t),(398,o00),(400,o4u),(401,o00),(403,o4w),(404,o4x),(405,o00),(407,o4y),(408,o00),(410,o4A),(411,o4B),(412,o00),(414,o4C),(415,o00),(417,o4E),(418,o4F),(419,o4G),(420,o4H),(421,o4I),(424,o2a),(431,o00),(433,o4S),(434,o00),(436,o4U),(437,o4V),(438,o00),(440,o4W),(441,o00),(443,o4Y),(444,o4Z),(445,o00),(447,o50),(448,o00),(450,o52),(451,o53),(452,o00),(454,o54),(455,o00),(457,o56),(458,o57),(459,o58),(460,o59),(461,o5a),(464,o00),(466,o5d),(467,o00),(469,o5f),(470,o5g),(471,o00),(473,o5j),(474,o00),(476,o5l),(477,o5m),(478,o00),(480,o5n),(481,o00),(483,o5p),(484,o5q),(485,o00),(487,o5r),(488,o00),(490,o5t),(491,o5u),(492,o00),(495,o5w),(496,o5x),(497,o00),(499,o5y),(500,o00),(502,o5A),(503,o5B),(504,o00),(506,o5C),(507,o00),(509,o5E),(510,o5F),(518,o00),(519,o5J),(520,o6b),(521,o5L),(522,o5M),(525,o5S),(532,o00),(534,o5X),(535,o00),(537,o5Z),(538,o60),(539,o00),(541,o61),(542,o00),(544,o63),(545,o64),(546,o00),(547,o65),(548,o66),(551,o5S),(558,o00),(560,o6g),(561,o00),(563,o6i),(564,o6j),(565,o00),(567,o6k),(568,o00),(570,o6m),(571,o6n),(572,o00),(573,o6o),(574,o6p),(584,o6y),(585,o00),(587,o6z),(588,o00),(590,o6B),(591,o6C),(592,o6D),(593,o6E),(594,o6F),(595,o6G),(596,o6H),(606,o6Q),(607,o00),(609,o6R),(610,o00),(612,o6T),(613,o6U),(614,o6V),(615,o6W),(616,o6X),(617,o6Y),(618,o6Z),(621,o00),(623,o72),(624,o00),(626,o74),(627,o75),(635,o7c),(636,o00),(638,o7d),(639,o00),(641,o7f),(642,o7g),(643,o00),(645,o7h),(646,o00),(648,o7j),(649,o7k),(650,o00),(652,o7l),(653,o00),(655,o7n),(656,o7o),(657,o00),(660,o7q),(661,o7r),(662,o00),(665,o7t),(666,o7u),(667,o7v),(668,o7w),(669,o7x),(670,o7y),(671,o7z),(674,o00),(676,o7C),(677,o00),(679,o7E),(680,o7F),(681,o00),(684,o7J),(685,o7K),(686,o00),(688,o7L),(689,o00),(691,o7N),(692,o7O),(693,o00),(695,o7P),(696,o00),(698,o7R),(699,o7S),(700,o00),(702,o7T),(703,o00),(705,o7V),(706,o7W),(707,o00),(710,o7Y),(711,o7Z),(712,o00),(714,o80),(715,o00),(717,o82),(718,o83),(719,o00),(722,o85),(723,o86),(724,o00),(727,o88),(728,o89),(729,o00),(732,o8b),(733,o8c),(734,o00),(736,o8d),(737,o00),(739,o8f),(740,o8g),(741,o00),(743,o8h),(744,o00),(746,o8j),(747,o8k),(748,o00),(751,o8m),(752,o8n),(753,o00),(756,o8p),(757,o8q),(758,o00),(760,o8t),(761,o00),(763,o8v),(764,o8w),(765,o00),(767,o8x),(768,o00),(770,o8z),(771,o8A),(772,o00),(775,o8C),(776,o8D),(777,o00),(779,o8E),(780,o00),(782,o8G),(783,o8H),(784,o00),(786,o8I),(787,o00),(789,o8K),(790,o8L)]
def q5s:BT:=(N o0d (N o0r L L) L)
def q5t:BT:=(N o06 (N o0i L L) L)
def q5u:BT:=(N o00 (N o0t L L) L)
def q5v:BT:=(N o01 (N o0h L L) L)
def q5w:BT:=(N o0e (N o0s L L) L)
def q5x:BT:=(N o00 (N o0j L L) L)
def q5y:BT:=(N o0f (N o0u L L) L)
def tree_85_:BT:=(N b0 (N b1 (N o0k (N b7 (N o00 (N o0m L L) L) (N o0b (N o01 L L) L)) (N o00 (N o07 (N o0n L L) L) q5s)) (N b5 (N b9 q5t (N o00 (N o0q L L) L)) (N o02 (N o09 (N o0o L L) L) q5u))) (N b2 (N b4 (N b8 q5v (N o0c (N o0p L L) L)) (N o0l (N o08 (N o0b L L) L) q5w)) (N b6 (N b10 q5x q2e) (N o03 (N o0a (N o00 L L) L) q5y))))
def q5z:BT:=(N o1p (N o00 L L) (N o4i L L))
def q5A:BT:=(N o2a (N o01 L L) (N o50 L L))
def q5B:BT:=(N o01 (N o3c L L) (N o00 L L))
def q5C:BT:=(N o2u (N o00 L L) L)
def q5D:BT:=(N o1z (N o00 L L) (N o01 L L))
def q5E:BT:=(N o2j (N o00 L L) (N o5c L L))
def q5F:BT:=(N o1W (N o3o L L) (N o00 L L))
def q5G:BT:=(N o01 (N o46 L L) L)
def q5H:BT:=(N o1u (N o2W L L) (N o00 L L))
def q5I:BT:=(N o01 (N o3E L L) (N o00 L L))
def q5J:BT:=(N o1R (N o00 L L) (N o4K L L))
def q5K:BT:=(N o1E (N o01 L L) (N o4y L L))
def q5L:BT:=(N o00 (N o3Q L L) L)
def q5M:BT:=(N o20 (N o00 L L) (N o01 L L))
def q5N:BT:=(N o2K (N o00 L L) L)
def q5O:BT:=(N o1s (N o2S L L) (N o00 L L))
def q5P:BT:=(N o2c (N o3C L L) (N o53 L L))
def q5Q:BT:=(N o00 (N o3f L L) (N o4G L L))
def q5R:BT:=(N o00 (N o3Z L L) L)
def q5S:BT:=(N o00 (N o35 L L) (N o4w L L))
def q5T:BT:=(N o2m (N o3M L L) (N o00 L L))
def q5U:BT:=(N o1Y (N o00 L L) (N o4T L L))
def q5V:BT:=(N o2I (N o49 L L) L)
def q5W:BT:=(N o1w (N o00 L L) (N o4r L L))
def q5X:BT:=(N o2h (N o3H L L) (N o58 L L))
def q5Y:BT:=(N o01 (N o3k L L) (N o00 L L))
def q5Z:BT:=(N o2D (N o44 L L) L)
def q60:BT:=(N o1I (N o3a L L) (N o4B L L))
def q61:BT:=(N o23 (N o3x L L) (N o4Y L L))
def q62:BT:=(N o2N (N o4e L L) L)
def q63:BT:=(N o1q (N o2Q L L) (N o0b L L))
def q64:BT:=(N o2b (N o00 L L) (N o51 L L))
def q65:BT:=(N o1M (N o3d L L) (N o4E L L))
def q66:BT:=(N o0b (N o3Y L L) L)
def q67:BT:=(N o01 (N o34 L L) (N o00 L L))
def q68:BT:=(N o2k (N o3K L L) (N o01 L L))
def q69:BT:=(N o00 (N o0b L L) (N o4S L L))
def q6a:BT:=(N o00 (N o47 L L) L)
def q6b:BT:=(N o00 (N o0b L L) (N o4q L L))
def q6c:BT:=(N o00 (N o3F L L) (N o56 L L))
def q6d:BT:=(N o1T (N o3i L L) (N o0b L L))
def q6e:BT:=(N o2C (N o00 L L) L)
def q6f:BT:=(N o1G (N o00 L L) (N o4z L L))
def q6g:BT:=(N o2p (N o0b L L) L)
def q6h:BT:=(N o21 (N o3w L L) (N o00 L L))
def q6i:BT:=(N o2L (N o4c L L) L)
def q6j:BT:=(N o01 (N o2U L L) (N o4o L L))
def q6k:BT:=(N o2e (N o00 L L) (N o01 L L))
def q6l:BT:=(N o1Q (N o01 L L) (N o4I L L))
def q6m:BT:=(N o2A (N o41 L L) L)
def q6n:BT:=(N o1C (N o37 L L) (N o00 L L))
def q6o:BT:=(N o01 (N o3O L L) (N o5f L L))
def q6p:BT:=(N o01 (N o3u L L) (N o4V L L))
def q6q:BT:=(N o1x (N o32 L L) (N o4t L L))
def q6r:BT:=(N o00 (N o01 L L) (N o5a L L))
def q6s:BT:=(N o00 (N o3m L L) (N o4Q L L))
def q6t:BT:=(N o2F (N o00 L L) L)
def q6u:BT:=(N o1K (N o00 L L) (N o01 L L))
def q6v:BT:=(N o2s (N o3W L L) L)
def q6w:BT:=(N o25 (N o3z L L) (N o00 L L))
def q6x:BT:=(N o01 (N o4g L L) L)
def q6y:BT:=(N o00 (N o2P L L) (N o2a L L))
def q6z:BT:=(N o0b (N o3A L L) (N o00 L L))
def q6A:BT:=(N o1L (N o00 L L) (N o4D L L))
def q6B:BT:=(N o2a (N o01 L L) L)
def q6C:BT:=(N o00 (N o01 L L) (N o4u L L))
def q6D:BT:=(N o00 (N o3J L L) (N o00 L L))
def q6E:BT:=(N o1X (N o2a L L) (N o01 L L))
def q6F:BT:=(N o2G (N o00 L L) L)
def q6G:BT:=(N o1v (N o2a L L) (N o01 L L))
def q6H:BT:=(N o2f (N o00 L L) (N o55 L L))
def q6I:BT:=(N o1S (N o3h L L) (N o2a L L))
def q6J:BT:=(N o01 (N o42 L L) L)
def q6K:BT:=(N o1F (N o38 L L) (N o00 L L))
def q6L:BT:=(N o2o (N o2a L L) L)
def q6M:BT:=(N o00 (N o01 L L) (N o4W L L))
def q6N:BT:=(N o00 (N o4b L L) L)
def q6O:BT:=(N o00 (N o2T L L) (N o4n L L))
def q6P:BT:=(N o2d (N o3D L L) (N o00 L L))
def q6Q:BT:=(N o01 (N o00 L L) (N o4H L L))
def q6R:BT:=(N o2z (N o40 L L) L)
def q6S:BT:=(N o1B (N o36 L L) (N o4x L L))
def q6T:BT:=(N o00 (N o3N L L) (N o5e L L))
def q6U:BT:=(N o00 (N o3t L L) (N o4U L L))
def q6V:BT:=(N o2J (N o00 L L) L)
def q6W:BT:=(N o00 (N o31 L L) (N o4s L L))
def q6X:BT:=(N o2i (N o00 L L) (N o59 L L))
def q6Y:BT:=(N o1U (N o3l L L) (N o4P L L))
def q6Z:BT:=(N o2E (N o45 L L) L)
def q70:BT:=(N o1J (N o3b L L) (N o00 L L))
def q71:BT:=(N o2r (N o3V L L) L)
def q72:BT:=(N o24 (N o3y L L) (N o4Z L L))
def q73:BT:=(N o00 (N o4f L L) L)
def q74:BT:=(N o1r (N o2R L L) (N o4m L L))
def q75:BT:=(N o00 (N o3B L L) (N o52 L L))
def q76:BT:=(N o1N (N o3e L L) (N o4F L L))
def q77:BT:=(N o2y (N o00 L L) L)
def q78:BT:=(N o1A (N o00 L L) (N o4v L L))
def q79:BT:=(N o2l (N o3L L L) (N o5d L L))
def q7a:BT:=(N o0b (N o3s L L) (N o00 L L))
def q7b:BT:=(N o2H (N o48 L L) L)
def q7c:BT:=(N o0b (N o30 L L) (N o00 L L))
def q7d:BT:=(N o2g (N o3G L L) (N o57 L L))
def q7e:BT:=(N o00 (N o3j L L) (N o4O L L))
def q7f:BT:=(N o00 (N o43 L L) L)
def q7g:BT:=(N o1H (N o39 L L) (N o4A L L))
def q7h:BT:=(N o2q (N o3U L L) L)
def q7i:BT:=(N o4N (N o00 L L) (N o4X L L))
def q7j:BT:=(N o2M (N o4d L L) L)
def q7k:BT:=(N o1t (N o2V L L) (N o4p L L))
def q7l:BT:=(N o00 (N o01 L L) (N o54 L L))
def q7m:BT:=(N o00 (N o3g L L) (N o4J L L))
def q7n:BT:=(N o2B (N o00 L L) L)
def q7o:BT:=(N o1D (N o00 L L) (N o01 L L))
def q7p:BT:=(N o2n (N o3P L L) (N o5g L L))
def q7q:BT:=(N o1Z (N o3v L L) (N o00 L L))
def q7r:BT:=(N o01 (N o4a L L) L)
def q7s:BT:=(N o1y (N o33 L L) (N o00 L L))
def q7t:BT:=(N o01 (N o3I L L) (N o5b L L))
def q7u:BT:=(N o1V (N o3n L L) (N o4R L L))
def q7v:BT:=(N o00 (N o01 L L) (N o4C L L))
def q7w:BT:=(N o2t (N o3X L L) L)
def q7x:BT:=(N o26 (N o00 L L) (N o01 L L))
def q7y:BT:=(N o2O (N o4h L L) L)
def tree_543_:BT:=(N b0 (N b1 (N o4L (N b7 (N o00 (N o0R (N o01 q5z q5A) (N o15 q5B q5C)) (N o0n (N o0V q5D q5E) (N o00 q5F q5G))) (N o0b (N o01 (N o0n q5H q5I) (N o1a q5J q16)) (N o0B (N o10 q5K q5L) (N o01 q5M q5N)))) (N o00 (N o07 (N o0n (N o0L q5O q5P) (N o17 q5Q q5R)) (N o01 (N o00 q5S q5T) (N o1g q5U q5V))) (N o0d (N o0r (N o01 q5W q5X) (N o00 q5Y q5Z)) (N o0n (N o01 q60 q13) (N o1n q61 q62))))) (N b5 (N b9 (N o06 (N o0i (N o0K q63 q64) (N o00 q65 q66)) (N o0y (N o0X q67 q68) (N o1f q69 q6a))) (N o00 (N o0q (N o0S q6b q6c) (N o01 q6d q6e)) (N o0D (N o12 q6f q6g) (N o00 q6h q6i)))) (N o02 (N o09 (N o0o (N o0N q6j q6k) (N o18 q6l q6m)) (N o0A (N o0Z q6n q6o) (N o1i q6p q16))) (N o00 (N o0t (N o0U q6q q6r) (N o1d q6s q6t)) (N o0I (N o00 q6u q6v) (N o00 q6w q6x)))))) (N b2 (N b4 (N b8 (N o01 (N o0h (N o0J q6y q6z) (N o16 q6A q6B)) (N o0b (N o0W q6C q6D) (N o01 q6E q6F))) (N o0c (N o0p (N o0b q6G q6H) (N o00 q6I q6J)) (N o0C (N o11 q6K q6L) (N o1l q6M q6N)))) (N o4M (N o08 (N o0b (N o0M q6O q6P) (N o00 q6Q q6R)) (N o0z (N o01 q6S q6T) (N o1h q6U q6V))) (N o0e (N o0s (N o0T q6W q6X) (N o1c q6Y q6Z)) (N o0b (N o13 q70 q71) (N o1o q72 q73))))) (N b6 (N b10 (N o00 (N o0j (N o00 q74 q75) (N o01 q76 q77)) (N o00 (N o0Y q78 q79) (N o00 q7a q7b))) (N o01 (N o00 (N o00 q7c q7d) (N o1b q7e q7f)) (N o0E (N o00 q7g q7h) (N o1m q7i q7j)))) (N o03 (N o0a (N o00 (N o0O q7k q7l) (N o19 q7m q7n)) (N o00 (N o00 q7o q7p) (N o00 q7q q7r))) (N o0f (N o0u (N o00 q7s q7t) (N o1e q7u q16)) (N o00 (N o14 q7v q7w) (N o01 q7x q7y)))))))
def q7z:BT:=(N o01 (N o3c L L) L)
def q7A:BT:=(N o15 q7z (N o2u L L))
def q7B:BT:=(N o1z (N o00 L L) L)
def q7C:BT:=(N o2j (N o00 L L) L)
def q7D:BT:=(N o1W (N o3o L L) L)
def q7E:BT:=(N o00 q7D (N o01 L L))
def q7F:BT:=(N o01 (N o3E L L) L)
def q7G:BT:=(N o1R (N o00 L L) L)
def q7H:BT:=(N o1a q7G (N o00 L L))
def q7I:BT:=(N o1E (N o01 L L) L)
def q7J:BT:=(N o20 (N o00 L L) L)
def q7K:BT:=(N o2c (N o3C L L) L)
def q7L:BT:=(N o00 (N o3f L L) L)
def q7M:BT:=(N o17 q7L (N o00 L L))
def q7N:BT:=(N o00 (N o35 L L) L)
def q7O:BT:=(N o2m (N o3M L L) L)
def q7P:BT:=(N o1Y (N o00 L L) L)
def q7Q:BT:=(N o1w (N o00 L L) L)
def q7R:BT:=(N o2h (N o3H L L) L)
def q7S:BT:=(N o01 (N o3k L L) L)
def q7T:BT:=(N o00 q7S (N o2D L L))
def q7U:BT:=(N o1I (N o3a L L) L)
def q7V:BT:=(N o01 q7U (N o00 L L))
def q7W:BT:=(N o23 (N o3x L L) L)
def q7X:BT:=(N o2b (N o00 L L) L)
def q7Y:BT:=(N o1M (N o3d L L) L)
def q7Z:BT:=(N o00 q7Y (N o0b L L))
def q80:BT:=(N o01 (N o34 L L) L)
def q81:BT:=(N o2k (N o3K L L) L)
def q82:BT:=(N o00 (N o3F L L) L)
def q83:BT:=(N o1T (N o3i L L) L)
def q84:BT:=(N o01 q83 (N o2C L L))
def q85:BT:=(N o1G (N o00 L L) L)
def q86:BT:=(N o12 q85 (N o2p L L))
def q87:BT:=(N o21 (N o3w L L) L)
def q88:BT:=(N o2e (N o00 L L) L)
def q89:BT:=(N o1Q (N o01 L L) L)
def q8a:BT:=(N o18 q89 (N o2A L L))
def q8b:BT:=(N o1C (N o37 L L) L)
def q8c:BT:=(N o01 (N o3O L L) L)
def q8d:BT:=(N o01 (N o3u L L) L)
def q8e:BT:=(N o1x (N o32 L L) L)
def q8f:BT:=(N o00 (N o3m L L) L)
def q8g:BT:=(N o1d q8f (N o2F L L))
def q8h:BT:=(N o1K (N o00 L L) L)
def q8i:BT:=(N o00 q8h (N o2s L L))
def q8j:BT:=(N o25 (N o3z L L) L)
def q8k:BT:=(N o0b (N o3A L L) L)
def q8l:BT:=(N o1L (N o00 L L) L)
def q8m:BT:=(N o16 q8l (N o2a L L))
def q8n:BT:=(N o00 (N o3J L L) L)
def q8o:BT:=(N o1X (N o2a L L) L)
def q8p:BT:=(N o1v (N o2a L L) L)
def q8q:BT:=(N o2f (N o00 L L) L)
def q8r:BT:=(N o1S (N o3h L L) L)
def q8s:BT:=(N o00 q8r (N o01 L L))
def q8t:BT:=(N o1F (N o38 L L) L)
def q8u:BT:=(N o11 q8t (N o2o L L))
def q8v:BT:=(N o2d (N o3D L L) L)
def q8w:BT:=(N o00 q2e (N o2z L L))
def q8x:BT:=(N o1B (N o36 L L) L)
def q8y:BT:=(N o00 (N o3N L L) L)
def q8z:BT:=(N o00 (N o3t L L) L)
def q8A:BT:=(N o00 (N o31 L L) L)
def q8B:BT:=(N o2i (N o00 L L) L)
def q8C:BT:=(N o1U (N o3l L L) L)
def q8D:BT:=(N o1c q8C (N o2E L L))
def q8E:BT:=(N o1J (N o3b L L) L)
def q8F:BT:=(N o13 q8E (N o2r L L))
def q8G:BT:=(N o24 (N o3y L L) L)
def q8H:BT:=(N o00 (N o3B L L) L)
def q8I:BT:=(N o1N (N o3e L L) L)
def q8J:BT:=(N o01 q8I (N o2y L L))
def q8K:BT:=(N o1A (N o00 L L) L)
def q8L:BT:=(N o2l (N o3L L L) L)
def q8M:BT:=(N o0b (N o3s L L) L)
def q8N:BT:=(N o0b (N o30 L L) L)
def q8O:BT:=(N o2g (N o3G L L) L)
def q8P:BT:=(N o00 (N o3j L L) L)
def q8Q:BT:=(N o1b q8P (N o00 L L))
def q8R:BT:=(N o1H (N o39 L L) L)
def q8S:BT:=(N o00 q8R (N o2q L L))
def q8T:BT:=(N o00 (N o3g L L) L)
def q8U:BT:=(N o19 q8T (N o2B L L))
def q8V:BT:=(N o1D (N o00 L L) L)
def q8W:BT:=(N o2n (N o3P L L) L)
def q8X:BT:=(N o1Z (N o3v L L) L)
def q8Y:BT:=(N o1y (N o33 L L) L)
def q8Z:BT:=(N o01 (N o3I L L) L)
def q90:BT:=(N o1V (N o3n L L) L)
def q91:BT:=(N o1e q90 (N o00 L L))
def q92:BT:=(N o14 q16 (N o2t L L))
def q93:BT:=(N o26 (N o00 L L) L)
def tree_407_:BT:=(N b0 (N b1 (N o3p (N b7 (N o00 (N o0R (N o01 q00 q6B) q7A) (N o0n (N o0V q7B q7C) q7E)) (N o0b (N o01 (N o0n q04 q7F) q7H) (N o0B (N o10 q7I q5L) (N o01 q7J (N o2K L L))))) (N o00 (N o07 (N o0n (N o0L q08 q7K) q7M) (N o01 (N o00 q7N q7O) (N o1g q7P (N o2I L L)))) (N o0d (N o0r (N o01 q7Q q7R) q7T) (N o0n q7V (N o1n q7W (N o2N L L)))))) (N b5 (N b9 (N o06 (N o0i (N o0K q0f q7X) q7Z) (N o0y (N o0X q80 q81) (N o1f q1H (N o00 L L)))) (N o00 (N o0q (N o0S q1H q82) q84) (N o0D q86 (N o00 q87 (N o2L L L))))) (N o02 (N o09 (N o0o (N o0N q0m q88) q8a) (N o0A (N o0Z q8b q8c) (N o1i q8d (N o00 L L)))) (N o00 (N o0t (N o0U q8e q16) q8g) (N o0I q8i (N o00 q8j (N o01 L L))))))) (N b2 (N b4 (N b8 (N o01 (N o0h (N o0J q0t q8k) q8m) (N o0b (N o0W q16 q8n) (N o01 q8o (N o2G L L)))) (N o0c (N o0p (N o0b q8p q8q) q8s) (N o0C q8u (N o1l q16 (N o00 L L))))) (N o3q (N o08 (N o0b (N o0M q0A q8v) q8w) (N o0z (N o01 q8x q8y) (N o1h q8z (N o2J L L)))) (N o0e (N o0s (N o0T q8A q8B) q8D) (N o0b q8F (N o1o q8G (N o00 L L)))))) (N b6 (N b10 (N o00 (N o0j (N o00 q0H q8H) q8J) (N o00 (N o0Y q8K q8L) (N o00 q8M (N o2H L L)))) (N o01 (N o00 (N o00 q8N q8O) q8Q) (N o0E q8S (N o1m (N o3r (N o00 L L) L) (N o2M L L))))) (N o03 (N o0a (N o00 (N o0O q0N q16) q8U) (N o00 (N o00 q8V q8W) (N o00 q8X (N o01 L L)))) (N o0f (N o0u (N o00 q8Y q8Z) q91) (N o00 q92 (N o01 q93 (N o2O L L))))))))
def q94:BT:=(N o1p q13 (N o4i L L))
def q95:BT:=(N o2u (N o00 L L) (N o01 L L))
def q96:BT:=(N o01 (N o46 L L) (N o5w L L))
def q97:BT:=(N o1u q26 (N o00 L L))
def q98:BT:=(N o00 (N o01 L L) (N o5r L L))
def q99:BT:=(N o01 (N o0n q97 q5I) (N o1a q5J q98))
def q9a:BT:=(N o00 (N o3Q L L) (N o00 L L))
def q9b:BT:=(N o2K (N o00 L L) (N o5B L L))
def q9c:BT:=(N o1s q2l (N o00 L L))
def q9d:BT:=(N o00 (N o3Z L L) (N o5p L L))
def q9e:BT:=(N o2I (N o49 L L) (N o5y L L))
def q9f:BT:=(N o1w q2z (N o4r L L))
def q9g:BT:=(N o2D (N o44 L L) (N o5u L L))
def q9h:BT:=(N o0r (N o01 q9f q5X) (N o00 q5Y q9g))
def q9i:BT:=(N o00 (N o00 L L) (N o5k L L))
def q9j:BT:=(N o2N (N o4e L L) (N o00 L L))
def q9k:BT:=(N o1q q2O (N o0b L L))
def q9l:BT:=(N o0b (N o3Y L L) (N o00 L L))
def q9m:BT:=(N o00 (N o47 L L) (N o00 L L))
def q9n:BT:=(N o00 q31 (N o4q L L))
def q9o:BT:=(N o2C (N o00 L L) (N o5s L L))
def q9p:BT:=(N o0q (N o0S q9n q6c) (N o01 q6d q9o))
def q9q:BT:=(N o2p (N o0b L L) (N o5j L L))
def q9r:BT:=(N o2L (N o4c L L) (N o01 L L))
def q9s:BT:=(N o01 q3g (N o4o L L))
def q9t:BT:=(N o2A (N o41 L L) (N o00 L L))
def q9u:BT:=(N o00 (N o01 L L) (N o5z L L))
def q9v:BT:=(N o2F (N o00 L L) (N o01 L L))
def q9w:BT:=(N o2s (N o3W L L) (N o5m L L))
def q9x:BT:=(N o01 (N o4g L L) (N o5E L L))
def q9y:BT:=(N o00 q3I (N o2a L L))
def q9z:BT:=(N o2a (N o01 L L) (N o5n L L))
def q9A:BT:=(N o2G (N o00 L L) (N o5x L L))
def q9B:BT:=(N o01 (N o42 L L) (N o00 L L))
def q9C:BT:=(N o2o (N o2a L L) (N o01 L L))
def q9D:BT:=(N o00 (N o4b L L) (N o00 L L))
def q9E:BT:=(N o00 q48 (N o4n L L))
def q9F:BT:=(N o2z (N o40 L L) (N o5q L L))
def q9G:BT:=(N o2J (N o00 L L) (N o00 L L))
def q9H:BT:=(N o00 q4l (N o4s L L))
def q9I:BT:=(N o2E (N o45 L L) (N o00 L L))
def q9J:BT:=(N o0s (N o0T q9H q6X) (N o1c q6Y q9I))
def q9K:BT:=(N o2r (N o3V L L) (N o5l L L))
def q9L:BT:=(N o00 (N o4f L L) (N o5D L L))
def q9M:BT:=(N o1r q4z (N o4m L L))
def q9N:BT:=(N o2y (N o00 L L) (N o5o L L))
def q9O:BT:=(N o2H (N o48 L L) (N o01 L L))
def q9P:BT:=(N o0b q4N (N o00 L L))
def q9Q:BT:=(N o00 (N o43 L L) (N o5t L L))
def q9R:BT:=(N o00 (N o00 q9P q7d) (N o1b q7e q9Q))
def q9S:BT:=(N o2q (N o3U L L) (N o00 L L))
def q9T:BT:=(N o2M (N o4d L L) (N o5C L L))
def q9U:BT:=(N o1t q51 (N o4p L L))
def q9V:BT:=(N o2B (N o00 L L) (N o01 L L))
def q9W:BT:=(N o01 (N o4a L L) (N o5A L L))
def q9X:BT:=(N o00 (N o01 L L) (N o5v L L))
def q9Y:BT:=(N o2t (N o3X L L) (N o00 L L))
def q9Z:BT:=(N o2O (N o4h L L) (N o5F L L))
def tree_599_:BT:=(N b0 (N b1 (N o5h (N b7 (N o00 (N o0R (N o01 q94 q5A) (N o15 q5B q95)) (N o0n (N o0V q5D q5E) (N o00 q5F q96))) (N o0b q99 (N o0B (N o10 q5K q9a) (N o01 q5M q9b)))) (N o00 (N o07 (N o0n (N o0L q9c q5P) (N o17 q5Q q9d)) (N o01 (N o00 q5S q5T) (N o1g q5U q9e))) (N o0d q9h (N o0n (N o01 q60 q9i) (N o1n q61 q9j))))) (N b5 (N b9 (N o06 (N o0i (N o0K q9k q64) (N o00 q65 q9l)) (N o0y (N o0X q67 q68) (N o1f q69 q9m))) (N o00 q9p (N o0D (N o12 q6f q9q) (N o00 q6h q9r)))) (N o02 (N o09 (N o0o (N o0N q9s q6k) (N o18 q6l q9t)) (N o0A (N o0Z q6n q6o) (N o1i q6p q9u))) (N o00 (N o0t (N o0U q6q q6r) (N o1d q6s q9v)) (N o0I (N o00 q6u q9w) (N o00 q6w q9x)))))) (N b2 (N b4 (N b8 (N o01 (N o0h (N o0J q9y q6z) (N o16 q6A q9z)) (N o0b (N o0W q6C q6D) (N o01 q6E q9A))) (N o0c (N o0p (N o0b (N o1v (N o2a (N o5K L L) L) (N o01 L L)) q6H) (N o00 q6I q9B)) (N o0C (N o11 q6K q9C) (N o1l q6M q9D)))) (N o5i (N o08 (N o0b (N o0M q9E q6P) (N o00 q6Q q9F)) (N o0z (N o01 q6S q6T) (N o1h q6U q9G))) (N o0e q9J (N o0b (N o13 q70 q9K) (N o1o q72 q9L))))) (N b6 (N b10 (N o00 (N o0j (N o00 q9M q75) (N o01 q76 q9N)) (N o00 (N o0Y q78 q79) (N o00 q7a q9O))) (N o01 q9R (N o0E (N o00 q7g q9S) (N o1m q7i q9T)))) (N o03 (N o0a (N o00 (N o0O q9U q7l) (N o19 q7m q9V)) (N o00 (N o00 q7o q7p) (N o00 q7q q9W))) (N o0f (N o0u (N o00 q7s q7t) (N o1e q7u q9X)) (N o00 (N o14 q7v q9Y) (N o01 q7x q9Z)))))))
def tree_364_:BT:=(N b0 (N b1 (N o2X (N b7 (N o00 (N o0R q01 q7A) (N o0n (N o0V q7B (N o2j L L)) q7E)) (N o0b (N o01 q05 q7H) (N o0B (N o10 q7I (N o00 L L)) q07))) (N o00 (N o07 (N o0n q09 q7M) (N o01 (N o00 q7N (N o2m L L)) q0b)) (N o0d (N o0r (N o01 q7Q (N o2h L L)) q7T) (N o0n q7V q0e)))) (N b5 (N b9 (N o06 (N o0i q0g q7Z) (N o0y (N o0X q80 (N o2k L L)) q0i)) (N o00 (N o0q (N o0S q1H (N o00 L L)) q84) (N o0D q86 q0l))) (N o02 (N o09 (N o0o q0n q8a) (N o0A (N o0Z q8b (N o01 L L)) q0p)) (N o00 (N o0t (N o0U q8e (N o00 L L)) q8g) (N o0I q8i q0s))))) (N b2 (N b4 (N b8 (N o01 (N o0h q0u q8m) (N o0b (N o0W q16 (N o00 L L)) q0w)) (N o0c (N o0p (N o0b q8p (N o2f L L)) q8s) (N o0C q8u q0z))) (N o2Y (N o08 (N o0b q0B q8w) (N o0z (N o01 q8x (N o00 L L)) q0D)) (N o0e (N o0s (N o0T q8A (N o2i L L)) q8D) (N o0b q8F q0G)))) (N b6 (N b10 (N o00 (N o0j q0I q8J) (N o00 (N o0Y q8K (N o2l L L)) q0K)) (N o01 (N o00 (N o00 q8N (N o2g L L)) q8Q) (N o0E q8S (N o1m (N o2Z L L) (N o2M L L))))) (N o03 (N o0a (N o00 q0O q8U) (N o00 (N o00 q8V (N o2n L L)) q0Q)) (N o0f (N o0u (N o00 q8Y (N o01 L L)) q91) (N o00 q92 q0T))))))
def tree_47_:BT:=(N b0 (N b1 (N b3 (N b7 L L) (N o00 L L)) (N b5 (N b9 L L) (N o02 L L))) (N b2 (N b4 (N b8 L L) (N o01 L L)) (N b6 (N b10 L L) (N o03 L L))))
def tree_70_:BT:=(N b0 (N b1 (N o04 (N b7 (N o00 (N o0g L L) L) (N o0b L L)) (N o00 (N o07 L L) (N o0d L L))) (N b5 (N b9 q5t (N o00 L L)) (N o02 (N o09 L L) (N o00 L L)))) (N b2 (N b4 (N b8 q5v (N o0c L L)) (N o05 (N o08 L L) (N o0e L L))) (N b6 (N b10 q5x (N o01 L L)) (N o03 (N o0a L L) (N o0f L L)))))
def qa0:BT:=(N o2a q1T (N o50 L L))
def qa1:BT:=(N o01 q1V (N o00 L L))
def qa2:BT:=(N o0R (N o01 q94 qa0) (N o15 qa1 q95))
def qa3:BT:=(N o1z q1Z (N o01 L L))
def qa4:BT:=(N o2j q21 (N o5c L L))
def qa5:BT:=(N o1W q23 (N o00 L L))
def qa6:BT:=(N o01 q28 (N o00 L L))
def qa7:BT:=(N o1R q2a (N o4K L L))
def qa8:BT:=(N o1E q2e (N o4y L L))
def qa9:BT:=(N o20 q2i (N o01 L L))
def qaa:BT:=(N o0B (N o10 qa8 q9a) (N o01 qa9 q9b))
def qab:BT:=(N o2c q2m (N o53 L L))
def qac:BT:=(N o00 q2o (N o4G L L))
def qad:BT:=(N o00 q2s (N o4w L L))
def qae:BT:=(N o2m q2u (N o00 L L))
def qaf:BT:=(N o1Y q2w (N o4T L L))
def qag:BT:=(N o2h q2B (N o58 L L))
def qah:BT:=(N o01 q2D (N o00 L L))
def qai:BT:=(N o1I q2G (N o4B L L))
def qaj:BT:=(N o23 q2K (N o4Y L L))
def qak:BT:=(N o0n (N o01 qai q9i) (N o1n qaj q9j))
def qal:BT:=(N o2b q13 (N o51 L L))
def qam:BT:=(N o1M q2R (N o4E L L))
def qan:BT:=(N o01 q2V (N o00 L L))
def qao:BT:=(N o2k q2W (N o01 L L))
def qap:BT:=(N o00 q2Y (N o4S L L))
def qaq:BT:=(N o00 q33 (N o56 L L))
def qar:BT:=(N o1T q35 (N o0b L L))
def qas:BT:=(N o1G q38 (N o4z L L))
def qat:BT:=(N o21 q3c (N o00 L L))
def qau:BT:=(N o0D (N o12 qas q9q) (N o00 qat q9r))
def qav:BT:=(N o2e q3i (N o01 L L))
def qaw:BT:=(N o1Q q3k (N o4I L L))
def qax:BT:=(N o1C q3o (N o00 L L))
def qay:BT:=(N o01 q3q (N o5f L L))
def qaz:BT:=(N o01 q3s (N o4V L L))
def qaA:BT:=(N o0A (N o0Z qax qay) (N o1i qaz q9u))
def qaB:BT:=(N o1x q3v (N o4t L L))
def qaC:BT:=(N o00 q3x (N o5a L L))
def qaD:BT:=(N o00 q3z (N o4Q L L))
def qaE:BT:=(N o1K q3B (N o01 L L))
def qaF:BT:=(N o25 q3F (N o00 L L))
def qaG:BT:=(N o0I (N o00 qaE q9w) (N o00 qaF q9x))
def qaH:BT:=(N o0b q3K (N o00 L L))
def qaI:BT:=(N o1L q3M (N o4D L L))
def qaJ:BT:=(N o0h (N o0J q9y qaH) (N o16 qaI q9z))
def qaK:BT:=(N o00 q2e (N o4u L L))
def qaL:BT:=(N o00 q3Q (N o00 L L))
def qaM:BT:=(N o1X q3R (N o01 L L))
def qaN:BT:=(N o1v q3T (N o01 L L))
def qaO:BT:=(N o2f q3V (N o55 L L))
def qaP:BT:=(N o1S q3X (N o2a L L))
def qaQ:BT:=(N o1F q41 (N o00 L L))
def qaR:BT:=(N o00 q2e (N o4W L L))
def qaS:BT:=(N o0C (N o11 qaQ q9C) (N o1l qaR q9D))
def qaT:BT:=(N o2d q4a (N o00 L L))
def qaU:BT:=(N o01 q4b (N o4H L L))
def qaV:BT:=(N o1B q4f (N o4x L L))
def qaW:BT:=(N o00 q4h (N o5e L L))
def qaX:BT:=(N o00 q4j (N o4U L L))
def qaY:BT:=(N o0z (N o01 qaV qaW) (N o1h qaX q9G))
def qaZ:BT:=(N o2i q13 (N o59 L L))
def qb0:BT:=(N o1U q4o (N o4P L L))
def qb1:BT:=(N o1J q4r (N o00 L L))
def qb2:BT:=(N o24 q4v (N o4Z L L))
def qb3:BT:=(N o0b (N o13 qb1 q9K) (N o1o qb2 q9L))
def qb4:BT:=(N o00 q4B (N o52 L L))
def qb5:BT:=(N o1N q4D (N o4F L L))
def qb6:BT:=(N o1A q4G (N o4v L L))
def qb7:BT:=(N o2l q4I (N o5d L L))
def qb8:BT:=(N o0b q4K (N o00 L L))
def qb9:BT:=(N o2g q4O (N o57 L L))
def qba:BT:=(N o00 q4Q (N o4O L L))
def qbb:BT:=(N o1H q4T (N o4A L L))
def qbc:BT:=(N o4N q4X (N o4X L L))
def qbd:BT:=(N o0E (N o00 qbb q9S) (N o1m qbc q9T))
def qbe:BT:=(N o00 q53 (N o54 L L))
def qbf:BT:=(N o00 q55 (N o4J L L))
def qbg:BT:=(N o1D q59 (N o01 L L))
def qbh:BT:=(N o2n q5a (N o5g L L))
def qbi:BT:=(N o1Z q5c (N o00 L L))
def qbj:BT:=(N o00 (N o00 qbg qbh) (N o00 qbi q9W))
def qbk:BT:=(N o1y q5f (N o00 L L))
def qbl:BT:=(N o01 q5h (N o5b L L))
def qbm:BT:=(N o1V q5j (N o4R L L))
def qbn:BT:=(N o00 q2e (N o4C L L))
def qbo:BT:=(N o26 q5o (N o01 L L))
def qbp:BT:=(N o00 (N o14 qbn q9Y) (N o01 qbo q9Z))
def tree_681_:BT:=(N b0 (N b1 (N o6s (N b7 (N o00 qa2 (N o0n (N o0V qa3 qa4) (N o00 qa5 q96))) (N o0b (N o01 (N o0n q97 qa6) (N o1a qa7 q98)) qaa)) (N o00 (N o07 (N o0n (N o0L q9c qab) (N o17 qac q9d)) (N o01 (N o00 qad qae) (N o1g qaf q9e))) (N o0d (N o0r (N o01 q9f qag) (N o00 qah q9g)) qak))) (N b5 (N b9 (N o06 (N o0i (N o0K q9k qal) (N o00 qam q9l)) (N o0y (N o0X qan qao) (N o1f qap q9m))) (N o00 (N o0q (N o0S q9n qaq) (N o01 qar q9o)) qau)) (N o02 (N o09 (N o0o (N o0N q9s qav) (N o18 qaw q9t)) qaA) (N o00 (N o0t (N o0U qaB qaC) (N o1d qaD q9v)) qaG)))) (N b2 (N b4 (N b8 (N o01 qaJ (N o0b (N o0W qaK qaL) (N o01 qaM q9A))) (N o0c (N o0p (N o0b qaN qaO) (N o00 qaP q9B)) qaS)) (N o6t (N o08 (N o0b (N o0M q9E qaT) (N o00 qaU q9F)) qaY) (N o0e (N o0s (N o0T q9H qaZ) (N o1c qb0 q9I)) qb3))) (N b6 (N b10 (N o00 (N o0j (N o00 q9M qb4) (N o01 qb5 q9N)) (N o00 (N o0Y qb6 qb7) (N o00 qb8 q9O))) (N o01 (N o00 (N o00 q9P qb9) (N o1b qba q9Q)) qbd)) (N o03 (N o0a (N o00 (N o0O q9U qbe) (N o19 qbf q9V)) qbj) (N o0f (N o0u (N o00 qbk qbl) (N o1e qbm q9X)) qbp)))))
def tree_165_:BT:=(N b0 (N b1 (N o0P (N b7 (N o00 (N o0R (N o01 L L) (N o15 L L)) (N o0n (N o0V L L) (N o00 L L))) (N o0b (N o01 (N o0n L L) (N o1a L L)) (N o0B (N o10 L L) L))) (N o00 (N o07 (N o0n (N o0L L L) (N o17 L L)) (N o01 (N o00 L L) (N o1g L L))) (N o0d (N o0r (N o01 L L) (N o00 L L)) (N o0n (N o01 L L) L)))) (N b5 (N b9 (N o06 (N o0i (N o0K L L) (N o00 L L)) (N o0y (N o0X L L) (N o1f L L))) (N o00 (N o0q (N o0S L L) (N o01 L L)) (N o0D (N o12 L L) L))) (N o02 (N o09 (N o0o (N o0N L L) (N o18 L L)) (N o0A (N o0Z L L) (N o1i L L))) (N o00 (N o0t (N o0U L L) (N o1d L L)) (N o0I (N o00 L L) L))))) (N b2 (N b4 (N b8 (N o01 (N o0h (N o0J L L) (N o16 L L)) (N o0b (N o0W L L) (N o01 L L))) (N o0c (N o0p (N o0b L L) (N o00 L L)) (N o0C (N o11 L L) L))) (N o0Q (N o08 (N o0b (N o0M L L) (N o00 L L)) (N o0z (N o01 L L) (N o1h L L))) (N o0e (N o0s (N o0T L L) (N o1c L L)) (N o0b (N o13 L L) L)))) (N b6 (N b10 (N o00 (N o0j (N o00 L L) (N o01 L L)) (N o00 (N o0Y L L) (N o00 L L))) (N o01 (N o00 (N o00 L L) (N o1b L L)) (N o0E (N o00 L L) L))) (N o03 (N o0a (N o00 (N o0O L L) (N o19 L L)) q13) (N o0f (N o0u (N o00 L L) (N o1e L L)) (N o00 (N o14 L L) L))))))
def qbq:BT:=(N o0n (N o0L q9c q5P) (N o17 qac q9d))
def qbr:BT:=(N o0i (N o0K q9k q64) (N o00 qam q9l))
def qbs:BT:=(N o0o (N o0N q9s q6k) (N o18 qaw q9t))
def qbt:BT:=(N o0b (N o0M q9E q6P) (N o00 qaU q9F))
def qbu:BT:=(N o0j (N o00 q9M q75) (N o01 qb5 q9N))
def qbv:BT:=(N o00 (N o0O q9U q7l) (N o19 qbf q9V))
def tree_657_:BT:=(N b0 (N b1 (N o69 (N b7 (N o00 qa2 (N o0n (N o0V qa3 q5E) (N o00 qa5 q96))) (N o0b (N o01 (N o0n q97 q5I) (N o1a qa7 q98)) qaa)) (N o00 (N o07 qbq (N o01 (N o00 qad q5T) (N o1g qaf q9e))) (N o0d (N o0r (N o01 q9f q5X) (N o00 qah q9g)) qak))) (N b5 (N b9 (N o06 qbr (N o0y (N o0X qan q68) (N o1f qap q9m))) (N o00 (N o0q (N o0S q9n q6c) (N o01 qar q9o)) qau)) (N o02 (N o09 qbs (N o0A (N o0Z qax q6o) (N o1i qaz q9u))) (N o00 (N o0t (N o0U qaB q6r) (N o1d qaD q9v)) qaG)))) (N b2 (N b4 (N b8 (N o01 qaJ (N o0b (N o0W qaK q6D) (N o01 qaM q9A))) (N o0c (N o0p (N o0b qaN q6H) (N o00 qaP q9B)) qaS)) (N o6a (N o08 qbt (N o0z (N o01 qaV q6T) (N o1h qaX q9G))) (N o0e (N o0s (N o0T q9H q6X) (N o1c qb0 q9I)) qb3))) (N b6 (N b10 (N o00 qbu (N o00 (N o0Y qb6 q79) (N o00 qb8 q9O))) (N o01 (N o00 (N o00 q9P q7d) (N o1b qba q9Q)) qbd)) (N o03 (N o0a qbv (N o00 (N o00 qbg q7p) (N o00 qbi q9W))) (N o0f (N o0u (N o00 qbk q7t) (N o1e qbm q9X)) qbp)))))
def qbw:BT:=(N o2u q13 (N o01 L L))
def qbx:BT:=(N o00 qa5 (N o01 q24 (N o5w L L)))
def qby:BT:=(N o00 q2c (N o5r L L))
def qbz:BT:=(N o00 q2g (N o00 L L))
def qbA:BT:=(N o00 q2q (N o5p L L))
def qbB:BT:=(N o1g qaf (N o2I q2x (N o5y L L)))
def qbC:BT:=(N o00 qah (N o2D q2E (N o5u L L)))
def qbD:BT:=(N o00 q2I (N o5k L L))
def qbE:BT:=(N o0b q2T (N o00 L L))
def qbF:BT:=(N o1f qap (N o00 q2Z (N o00 L L)))
def qbG:BT:=(N o01 qar (N o2C q36 (N o5s L L)))
def qbH:BT:=(N o2p q3a (N o5j L L))
def qbI:BT:=(N o2A q3m (N o00 L L))
def qbJ:BT:=(N o1d qaD (N o2F q13 (N o01 L L)))
def qbK:BT:=(N o2s q3D (N o5m L L))
def qbL:BT:=(N o2a q1X (N o5n L L))
def qbM:BT:=(N o01 qaM (N o2G q13 (N o5x L L)))
def qbN:BT:=(N o01 q3Z (N o00 L L))
def qbO:BT:=(N o2o q43 (N o01 L L))
def qbP:BT:=(N o2z q4d (N o5q L L))
def qbQ:BT:=(N o1c qb0 (N o2E q4p (N o00 L L)))
def qbR:BT:=(N o2r q4t (N o5l L L))
def qbS:BT:=(N o2y q13 (N o5o L L))
def qbT:BT:=(N o00 qb8 (N o2H q4L (N o01 L L)))
def qbU:BT:=(N o1b qba (N o00 q4R (N o5t L L)))
def qbV:BT:=(N o2q q4V (N o00 L L))
def qbW:BT:=(N o2B q57 (N o01 L L))
def qbX:BT:=(N o1e qbm (N o00 q1X (N o5v L L)))
def qbY:BT:=(N o2t q5m (N o00 L L))
def tree_767_:BT:=(N b0 (N b1 (N o76 (N b7 (N o00 (N o0R (N o01 (N o1p q13 q1S) qa0) (N o15 q1W qbw)) (N o0n (N o0V (N o1z q1Z q20) qa4) qbx)) (N o0b (N o01 (N o0n (N o1u q26 q27) qa6) (N o1a q2b qby)) (N o0B (N o10 q2f qbz) (N o01 qa9 q2k)))) (N o00 (N o07 (N o0n (N o0L (N o1s q2l q13) qab) (N o17 q2p qbA)) (N o01 (N o00 (N o00 q2s q2t) qae) qbB)) (N o0d (N o0r (N o01 (N o1w q2z q2A) qag) qbC) (N o0n (N o01 q2H qbD) (N o1n qaj q2N))))) (N b5 (N b9 (N o06 (N o0i (N o0K (N o1q q2O q2P) qal) (N o00 q2S qbE)) (N o0y (N o0X (N o01 q2V q13) qao) qbF)) (N o00 (N o0q (N o0S (N o00 q31 q32) qaq) qbG) (N o0D (N o12 q39 qbH) (N o00 qat q3f)))) (N o02 (N o09 (N o0o (N o0N (N o01 q3g q3h) qav) (N o18 q3l qbI)) (N o0A (N o0Z (N o1C q3o q3p) qay) (N o1i qaz (N o00 q3t (N o5z L L))))) (N o00 (N o0t (N o0U (N o1x q3v q3w) qaC) qbJ) (N o0I (N o00 q3C qbK) (N o00 qaF q3H)))))) (N b2 (N b4 (N b8 (N o01 (N o0h (N o0J (N o00 q3I q3J) qaH) (N o16 q3N qbL)) (N o0b (N o0W (N o00 q2e q3P) qaL) qbM)) (N o0c (N o0p (N o0b (N o1v q3T q3U) qaO) (N o00 q3Y qbN)) (N o0C (N o11 q42 qbO) (N o1l qaR q47)))) (N o77 (N o08 (N o0b (N o0M (N o00 q48 q49) qaT) (N o00 q4c qbP)) (N o0z (N o01 (N o1B q4f q4g) qaW) (N o1h qaX (N o2J q13 (N o00 L L))))) (N o0e (N o0s (N o0T (N o00 q4l q4m) qaZ) qbQ) (N o0b (N o13 q4s qbR) (N o1o qb2 q4y))))) (N b6 (N b10 (N o00 (N o0j (N o00 (N o1r q4z q4A) qb4) (N o01 q4E qbS)) (N o00 (N o0Y (N o1A q4G q4H) qb7) qbT)) (N o01 (N o00 (N o00 (N o0b q4N q13) qb9) qbU) (N o0E (N o00 q4U qbV) (N o1m qbc q50)))) (N o03 (N o0a (N o00 (N o0O (N o1t q51 q52) qbe) (N o19 q56 qbW)) (N o00 (N o00 (N o1D q59 q2e) qbh) (N o00 qbi q5e))) (N o0f (N o0u (N o00 (N o1y q5f q5g) qbl) qbX) (N o00 (N o14 q5l qbY) (N o01 qbo q5r)))))))
def tree_881_:BT:=(N b0 (N b1 (N o8r (N b7 (N o00 (N o0R (N o01 (N o1p (N o00 (N o00 L L) (N o8x L L)) q1S) q1U) q1Y) (N o0n (N o0V (N o1z (N o00 (N o5T L L) (N o8H L L)) q20) q22) q25)) (N o0b (N o01 (N o0n (N o1u (N o2W (N o5J L L) (N o8C L L)) q27) q29) q2d) (N o0B q2h (N o01 q2j (N o2K q13 (N o5B (N o01 L L) L)))))) (N o00 (N o07 (N o0n (N o0L (N o1s (N o2S (N o01 L L) (N o8A L L)) q13) q2n) q2r) (N o01 (N o00 (N o00 (N o35 (N o5W L L) (N o00 L L)) q2t) q2v) q2y)) (N o0d (N o0r (N o01 (N o1w (N o00 (N o5N L L) (N o8E L L)) q2A) q2C) q2F) (N o0n q2J (N o1n q2L (N o2N q2M (N o00 (N o8v L L) L))))))) (N b5 (N b9 (N o06 (N o0i (N o0K (N o1q (N o2Q (N o5G L L) (N o8y L L)) q2P) q2Q) q2U) (N o0y (N o0X (N o01 (N o34 (N o5U L L) (N o01 L L)) q13) q2X) q30)) (N o00 (N o0q (N o0S (N o00 (N o0b (N o5L L L) (N o00 L L)) q32) q34) q37) (N o0D q3b (N o00 q3d (N o2L q3e q2e))))) (N o02 (N o09 (N o0o (N o0N (N o01 (N o2U (N o5I L L) (N o01 L L)) q3h) q3j) q3n) (N o0A (N o0Z (N o1C (N o37 (N o01 L L) (N o8K L L)) q3p) q3r) q3u)) (N o00 (N o0t (N o0U (N o1x (N o32 (N o5S L L) (N o8F L L)) q3w) q3y) q3A) (N o0I q3E (N o00 (N o25 q3F q16) (N o01 q3G (N o5E (N o00 L L) L)))))))) (N b2 (N b4 (N b8 (N o01 (N o0h (N o0J (N o00 (N o2P (N o0b L L) (N o00 L L)) q3J) q3L) q3O) (N o0b (N o0W (N o00 (N o01 (N o00 L L) (N o00 L L)) q3P) (N o00 q3Q q16)) q3S)) (N o0c (N o0p (N o0b (N o1v (N o2a (N o6b L L) (N o8D L L)) q3U) q3W) q40) (N o0C q44 (N o1l q45 (N o00 q46 (N o00 (N o8t L L) L)))))) (N o8s (N o08 (N o0b (N o0M (N o00 (N o2T (N o5H L L) (N o00 L L)) q49) (N o2d q4a q16)) q4e) (N o0z (N o01 (N o1B (N o36 (N o00 L L) (N o8J L L)) q4g) q4i) q4k)) (N o0e (N o0s (N o0T (N o00 (N o31 (N o5O L L) (N o00 L L)) q4m) q4n) q4q) (N o0b q4u (N o1o q4w (N o00 q4x (N o5D (N o8w L L) L))))))) (N b6 (N b10 (N o00 (N o0j (N o00 (N o1r (N o2R (N o00 L L) (N o8z L L)) q4A) q4C) q4F) (N o00 (N o0Y (N o1A (N o00 (N o5V L L) (N o8I L L)) q4H) q4J) q4M)) (N o01 (N o00 (N o00 (N o0b (N o30 (N o5M L L) (N o01 L L)) q13) q4P) q4S) (N o0E q4W (N o1m q4Y (N o2M q4Z (N o5C (N o8u L L) L)))))) (N o03 (N o0a (N o00 (N o0O (N o1t (N o2V (N o00 L L) (N o8B L L)) q52) q54) q58) (N o00 (N o00 (N o1D (N o00 (N o5X L L) (N o8L L L)) q2e) q5b) (N o00 (N o1Z q5c q16) (N o01 q5d (N o5A (N o00 L L) L))))) (N o0f (N o0u (N o00 (N o1y (N o33 (N o0b L L) (N o8G L L)) q5g) q5i) q5k) (N o00 q5n (N o01 q5p (N o2O q5q (N o5F (N o01 L L) L)))))))))
def tree_628_:BT:=(N b0 (N b1 (N o5P (N b7 (N o00 (N o0R (N o01 q94 q5A) (N o15 qa1 q95)) (N o0n (N o0V qa3 q5E) (N o00 q5F q96))) (N o0b q99 (N o0B (N o10 qa8 q9a) (N o01 q5M q9b)))) (N o00 (N o07 qbq (N o01 (N o00 qad q5T) (N o1g q5U q9e))) (N o0d q9h (N o0n (N o01 qai q9i) (N o1n q61 q9j))))) (N b5 (N b9 (N o06 qbr (N o0y (N o0X qan q68) (N o1f q69 q9m))) (N o00 q9p (N o0D (N o12 qas q9q) (N o00 q6h q9r)))) (N o02 (N o09 qbs (N o0A (N o0Z qax q6o) (N o1i q6p q9u))) (N o00 (N o0t (N o0U qaB q6r) (N o1d q6s q9v)) (N o0I (N o00 qaE q9w) (N o00 q6w q9x)))))) (N b2 (N b4 (N b8 (N o01 (N o0h (N o0J q9y q6z) (N o16 qaI q9z)) (N o0b (N o0W qaK q6D) (N o01 q6E q9A))) (N o0c (N o0p (N o0b (N o1v (N o2a (N o5R L L) L) (N o01 L L)) q6H) (N o00 q6I q9B)) (N o0C (N o11 qaQ q9C) (N o1l q6M q9D)))) (N o5Q (N o08 qbt (N o0z (N o01 qaV q6T) (N o1h q6U q9G))) (N o0e q9J (N o0b (N o13 qb1 q9K) (N o1o q72 q9L))))) (N b6 (N b10 (N o00 qbu (N o00 (N o0Y qb6 q79) (N o00 q7a q9O))) (N o01 q9R (N o0E (N o00 qbb q9S) (N o1m q7i q9T)))) (N o03 (N o0a qbv (N o00 (N o00 qbg q7p) (N o00 q7q q9W))) (N o0f (N o0u (N o00 qbk q7t) (N o1e q7u q9X)) (N o00 (N o14 qbn q9Y) (N o01 q7x q9Z)))))))
def tree_278_:BT:=(N b0 (N b1 (N o27 (N b7 (N o00 (N o0R (N o01 (N o1p L L) (N o2a L L)) q02) (N o0n q03 q0W)) (N o0b (N o01 (N o0n (N o1u L L) (N o01 L L)) q0Y) (N o0B q06 q10))) (N o00 (N o07 (N o0n (N o0L (N o1s L L) (N o2c L L)) q12) (N o01 q0a q14)) (N o0d (N o0r q0c q16) (N o0n q0d q18)))) (N b5 (N b9 (N o06 (N o0i (N o0K (N o1q L L) (N o2b L L)) q19) (N o0y q0h q1c)) (N o00 (N o0q q0j q1e) (N o0D q0k q1g))) (N o02 (N o09 (N o0o (N o0N (N o01 L L) (N o2e L L)) q1i) (N o0A q0o q1k)) (N o00 (N o0t q0q q1m) (N o0I q0r q1o))))) (N b2 (N b4 (N b8 (N o01 (N o0h (N o0J (N o00 L L) (N o0b L L)) q1p) (N o0b q0v q1s)) (N o0c (N o0p q0x q1u) (N o0C q0y q1w))) (N o28 (N o08 (N o0b (N o0M (N o00 L L) (N o2d L L)) q16) (N o0z q0C q1z)) (N o0e (N o0s q0E q1B) (N o0b q0F q1D)))) (N b6 (N b10 (N o00 (N o0j (N o00 (N o1r L L) (N o00 L L)) q1E) (N o00 q0J q1H)) (N o01 (N o00 q0L q1I) (N o0E q0M (N o1m (N o29 L L) L)))) (N o03 (N o0a (N o00 (N o0O (N o1t L L) (N o00 L L)) q1L) (N o00 q0P q1N)) (N o0f (N o0u q0R q1P) (N o00 q0S q1R))))))
def tree_212_:BT:=(N b0 (N b1 (N o1j (N b7 (N o00 q0U (N o0n q0V (N o00 L L))) (N o0b (N o01 q0X (N o1a L L)) (N o0B q0Z (N o01 L L)))) (N o00 (N o07 (N o0n q11 (N o17 L L)) (N o01 q13 (N o1g L L))) (N o0d (N o0r q15 (N o00 L L)) (N o0n q17 (N o1n L L))))) (N b5 (N b9 (N o06 q1a (N o0y q1b (N o1f L L))) (N o00 (N o0q q1d (N o01 L L)) (N o0D q1f (N o00 L L)))) (N o02 (N o09 (N o0o q1h (N o18 L L)) (N o0A q1j (N o1i L L))) (N o00 (N o0t q1l (N o1d L L)) (N o0I q1n (N o00 L L)))))) (N b2 (N b4 (N b8 (N o01 q1q (N o0b q1r (N o01 L L))) (N o0c (N o0p q1t (N o00 L L)) (N o0C q1v (N o1l L L)))) (N o1k (N o08 (N o0b q1x (N o00 L L)) (N o0z q1y (N o1h L L))) (N o0e (N o0s q1A (N o1c L L)) (N o0b q1C (N o1o L L))))) (N b6 (N b10 (N o00 q1F (N o00 q1G (N o00 L L))) (N o01 (N o00 q1H (N o1b L L)) (N o0E q1J (N o1m L L)))) (N o03 (N o0a (N o00 q1K (N o19 L L)) (N o00 q1M (N o00 L L))) (N o0f (N o0u q1O (N o1e L L)) (N o00 q1Q (N o01 L L)))))))
def tree_712_:BT:=(N b0 (N b1 (N o6K (N b7 (N o00 (N o0R (N o01 q94 qa0) (N o15 qa1 qbw)) (N o0n (N o0V qa3 qa4) qbx)) (N o0b (N o01 (N o0n q97 qa6) (N o1a qa7 qby)) (N o0B (N o10 qa8 qbz) (N o01 qa9 q9b)))) (N o00 (N o07 (N o0n (N o0L q9c qab) (N o17 qac qbA)) (N o01 (N o00 qad qae) qbB)) (N o0d (N o0r (N o01 q9f qag) qbC) (N o0n (N o01 qai qbD) (N o1n qaj q9j))))) (N b5 (N b9 (N o06 (N o0i (N o0K q9k qal) (N o00 qam qbE)) (N o0y (N o0X qan qao) qbF)) (N o00 (N o0q (N o0S q9n qaq) qbG) (N o0D (N o12 qas qbH) (N o00 qat q9r)))) (N o02 (N o09 (N o0o (N o0N q9s qav) (N o18 qaw qbI)) qaA) (N o00 (N o0t (N o0U qaB qaC) qbJ) (N o0I (N o00 qaE qbK) (N o00 qaF q9x)))))) (N b2 (N b4 (N b8 (N o01 (N o0h (N o0J q9y qaH) (N o16 qaI qbL)) (N o0b (N o0W qaK qaL) qbM)) (N o0c (N o0p (N o0b qaN qaO) (N o00 qaP qbN)) (N o0C (N o11 qaQ qbO) (N o1l qaR q9D)))) (N o6L (N o08 (N o0b (N o0M q9E qaT) (N o00 qaU qbP)) qaY) (N o0e (N o0s (N o0T q9H qaZ) qbQ) (N o0b (N o13 qb1 qbR) (N o1o qb2 q9L))))) (N b6 (N b10 (N o00 (N o0j (N o00 q9M qb4) (N o01 qb5 qbS)) (N o00 (N o0Y qb6 qb7) qbT)) (N o01 (N o00 (N o00 q9P qb9) qbU) (N o0E (N o00 qbb qbV) (N o1m qbc q9T)))) (N o03 (N o0a (N o00 (N o0O q9U qbe) (N o19 qbf qbW)) qbj) (N o0f (N o0u (N o00 qbk qbl) qbX) (N o00 (N o14 qbn qbY) (N o01 qbo q9Z)))))))
def heap_46_:PySem.Heap:=(Heap.mk (Array.mk [b0,b1,b2,b3,b4,b5,b6,b7,b8,b9,b10,o00,o01,o02,o03]) (Life.mk [] [] [] 0 [] [] false #[] [] 0 false false false 0 [2000,10,10] false 0 true [] [] 0 false))
def tree_493_:BT:=(N b0 (N b1 (N o4j (N b7 (N o00 (N o0R (N o01 q5z q6B) (N o15 q5B q5C)) (N o0n (N o0V q5D q7C) (N o00 q7D q5G))) (N o0b (N o01 (N o0n q5H q7F) (N o1a q5J q16)) (N o0B (N o10 q5K q5L) (N o01 q7J q5N)))) (N o00 (N o07 (N o0n (N o0L q5O q7K) (N o17 q5Q q5R)) (N o01 (N o00 q5S q7O) (N o1g q7P q5V))) (N o0d (N o0r (N o01 q5W q7R) (N o00 q7S q5Z)) (N o0n (N o01 q60 q13) (N o1n q7W q62))))) (N b5 (N b9 (N o06 (N o0i (N o0K q63 q7X) (N o00 q65 q66)) (N o0y (N o0X q67 q81) (N o1f q1H q6a))) (N o00 (N o0q (N o0S q6b q82) (N o01 q83 q6e)) (N o0D (N o12 q6f q6g) (N o00 q87 q6i)))) (N o02 (N o09 (N o0o (N o0N q6j q88) (N o18 q6l q6m)) (N o0A (N o0Z q6n q8c) (N o1i q8d q16))) (N o00 (N o0t (N o0U q6q q16) (N o1d q8f q6t)) (N o0I (N o00 q6u q6v) (N o00 q8j q6x)))))) (N b2 (N b4 (N b8 (N o01 (N o0h (N o0J q6y q8k) (N o16 q6A q6B)) (N o0b (N o0W q6C q8n) (N o01 q8o q6F))) (N o0c (N o0p (N o0b q6G q8q) (N o00 q8r q6J)) (N o0C (N o11 q6K q6L) (N o1l q16 q6N)))) (N o4k (N o08 (N o0b (N o0M q6O q8v) (N o00 q6Q q6R)) (N o0z (N o01 q6S q8y) (N o1h q8z q6V))) (N o0e (N o0s (N o0T q6W q8B) (N o1c q8C q6Z)) (N o0b (N o13 q70 q71) (N o1o q8G q73))))) (N b6 (N b10 (N o00 (N o0j (N o00 q74 q8H) (N o01 q76 q77)) (N o00 (N o0Y q78 q8L) (N o00 q8M q7b))) (N o01 (N o00 (N o00 q7c q8O) (N o1b q8P q7f)) (N o0E (N o00 q7g q7h) (N o1m (N o4l (N o00 L L) L) q7j)))) (N o03 (N o0a (N o00 (N o0O q7k q16) (N o19 q7m q7n)) (N o00 (N o00 q7o q8W) (N o00 q8X q7r))) (N o0f (N o0u (N o00 q7s q8Z) (N o1e q90 q16)) (N o00 (N o14 q7v q7w) (N o01 q93 q7y)))))))
def qbZ:BT:=(N o0b (N o01 L L) (N o0B L L))
def qc0:BT:=(N o00 (N o0q L L) (N o0D L L))
def qc1:BT:=(N o0c (N o0p L L) (N o0C L L))
def qc2:BT:=(N o01 (N o00 L L) (N o0E L L))
def tree_115_:BT:=(N b0 (N b1 (N o0F (N b7 (N o00 (N o0H (N o01 L L) L) (N o0n L L)) qbZ) (N o00 (N o07 (N o0n (N o0L L L) L) (N o01 L L)) (N o0d (N o0r L L) (N o0n L L)))) (N b5 (N b9 (N o06 (N o0i (N o0K L L) L) (N o0y L L)) qc0) (N o02 (N o09 (N o0o (N o0N L L) L) (N o0A L L)) (N o00 (N o0t L L) (N o0I L L))))) (N b2 (N b4 (N b8 (N o01 (N o0h (N o0J L L) L) (N o0b L L)) qc1) (N o0G (N o08 (N o0b (N o0M L L) L) (N o0z L L)) (N o0e (N o0s L L) (N o0b L L)))) (N b6 (N b10 (N o00 (N o0j (N o00 L L) L) (N o00 L L)) qc2) (N o03 (N o0a (N o00 (N o0O L L) L) (N o00 L L)) (N o0f (N o0u L L) (N o00 L L))))))
def tree_100_:BT:=(N b0 (N b1 (N o0v (N b7 (N o00 (N o0x L L) (N o0n L L)) qbZ) (N o00 (N o07 (N o0n L L) (N o01 L L)) q5s)) (N b5 (N b9 (N o06 (N o0i L L) (N o0y L L)) qc0) (N o02 (N o09 (N o0o L L) (N o0A L L)) q5u))) (N b2 (N b4 (N b8 (N o01 (N o0h L L) (N o0b L L)) qc1) (N o0w (N o08 (N o0b L L) (N o0z L L)) q5w)) (N b6 (N b10 (N o00 (N o0j L L) (N o00 L L)) qc2) (N o03 (N o0a (N o00 L L) (N o00 L L)) q5y))))
def tree_450_:BT:=(N b0 (N b1 (N o3R (N b7 (N o00 (N o0R (N o01 q5z q6B) (N o15 q7z q5C)) (N o0n (N o0V q7B q7C) (N o00 q7D q5G))) (N o0b (N o01 (N o0n q04 q7F) (N o1a q7G q16)) (N o0B (N o10 q7I q5L) (N o01 q7J q5N)))) (N o00 (N o07 (N o0n (N o0L q08 q7K) (N o17 q7L q5R)) (N o01 (N o00 q7N q7O) (N o1g q7P q5V))) (N o0d (N o0r (N o01 q7Q q7R) (N o00 q7S q5Z)) (N o0n (N o01 q7U q13) (N o1n q7W q62))))) (N b5 (N b9 (N o06 (N o0i (N o0K q0f q7X) (N o00 q7Y q66)) (N o0y (N o0X q80 q81) (N o1f q1H q6a))) (N o00 (N o0q (N o0S q1H q82) (N o01 q83 q6e)) (N o0D (N o12 q85 q6g) (N o00 q87 q6i)))) (N o02 (N o09 (N o0o (N o0N q0m q88) (N o18 q89 q6m)) (N o0A (N o0Z q8b q8c) (N o1i q8d q16))) (N o00 (N o0t (N o0U q8e q16) (N o1d q8f q6t)) (N o0I (N o00 q8h q6v) (N o00 q8j q6x)))))) (N b2 (N b4 (N b8 (N o01 (N o0h (N o0J q0t q8k) (N o16 q8l q6B)) (N o0b (N o0W q16 q8n) (N o01 q8o q6F))) (N o0c (N o0p (N o0b q8p q8q) (N o00 q8r q6J)) (N o0C (N o11 q8t q6L) (N o1l q16 q6N)))) (N o3S (N o08 (N o0b (N o0M q0A q8v) (N o00 q2e q6R)) (N o0z (N o01 q8x q8y) (N o1h q8z q6V))) (N o0e (N o0s (N o0T q8A q8B) (N o1c q8C q6Z)) (N o0b (N o13 q8E q71) (N o1o q8G q73))))) (N b6 (N b10 (N o00 (N o0j (N o00 q0H q8H) (N o01 q8I q77)) (N o00 (N o0Y q8K q8L) (N o00 q8M q7b))) (N o01 (N o00 (N o00 q8N q8O) (N o1b q8P q7f)) (N o0E (N o00 q8R q7h) (N o1m (N o3T (N o00 L L) L) q7j)))) (N o03 (N o0a (N o00 (N o0O q0N q16) (N o19 q8T q7n)) (N o00 (N o00 q8V q8W) (N o00 q8X q7r))) (N o0f (N o0u (N o00 q8Y q8Z) (N o1e q90 q16)) (N o00 (N o14 q16 q7w) (N o01 q93 q7y)))))))
end
end
noncomputable section
def tree_321 (A:AT):Params->BT:=fun P=>@tree_321_ A ⟨P⟩
def heap_882 (A:AT):Params->PySem.Heap:=fun P=>@heap_882_ A ⟨P⟩
def tree_242 (A:AT):Params->BT:=fun P=>@tree_242_ A ⟨P⟩
def tree_846 (A:AT):Params->BT:=fun P=>@tree_846_ A ⟨P⟩
def heap_39 (A:AT):Params->Frag:=fun P=>@heap_39_ A ⟨P⟩
def tree_85 (A:AT):Params->BT:=fun P=>@tree_85_ A ⟨P⟩
def tree_543 (A:AT):Params->BT:=fun P=>@tree_543_ A ⟨P⟩
def tree_407 (A:AT):Params->BT:=fun P=>@tree_407_ A ⟨P⟩
def tree_599 (A:AT):Params->BT:=fun P=>@tree_599_ A ⟨P⟩
def tree_364 (A:AT):Params->BT:=fun P=>@tree_364_ A ⟨P⟩
def tree_47 (A:AT):Params->BT:=fun P=>@tree_47_ A ⟨P⟩
def tree_70 (A:AT):Params->BT:=fun P=>@tree_70_ A ⟨P⟩
def tree_681 (A:AT):Params->BT:=fun P=>@tree_681_ A ⟨P⟩
def tree_165 (A:AT):Params->BT:=fun P=>@tree_165_ A ⟨P⟩
def tree_657 (A:AT):Params->BT:=fun P=>@tree_657_ A ⟨P⟩
def tree_767 (A:AT):Params->BT:=fun P=>@tree_767_ A ⟨P⟩
def tree_881 (A:AT):Params->BT:=fun P=>@tree_881_ A ⟨P⟩
def tree_628 (A:AT):Params->BT:=fun P=>@tree_628_ A ⟨P⟩
def tree_278 (A:AT):Params->BT:=fun P=>@tree_278_ A ⟨P⟩
def tree_212 (A:AT):Params->BT:=fun P=>@tree_212_ A ⟨P⟩
def tree_712 (A:AT):Params->BT:=fun P=>@tree_712_ A ⟨P⟩
def heap_46 (A:AT):Params->PySem.Heap:=fun P=>@heap_46_ A ⟨P⟩
def tree_493 (A:AT):Params->BT:=fun P=>@tree_493_ A ⟨P⟩
def tree_115 (A:AT):Params->BT:=fun P=>@tree_115_ A ⟨P⟩
def tree_100 (A:AT):Params->BT:=fun P=>@tree_100_ A ⟨P⟩
def tree_450 (A:AT):Params->BT:=fun P=>@tree_450_ A ⟨P⟩
end
theorem trig:(PySem.Challenge.pw_bellsaway_k15_what_wins_and_idle_lines.main.body.length == 0)=(PySem.Challenge.pw_bellsaway_k15_what_wins_and_idle_lines.main.body.length == 0):=rfl
theorem trig2:(!(PySem.Challenge.pw_bellsaway_k15_what_wins_and_idle_lines.main.body.length == 0))=true:=by k_qdec
noncomputable def a0:List Str:="__weakref__"::"moment_from"::"Now.moment_from"::"fit"::"note_turns"::"Place.note_turns"::"winning"::"Wishes.winning"::"bellsaway.wishes"::"_law_line"::"/claim/cut.py"::"_law_begin"::"__module__"::"bellsaway.fits"::"__firstlineno__"::"__init__"::"fits_it"::"weight_bits"::"__static_attributes__"::"__doc__"::"__qualname__"::"Kind"::"check_lines"::"_law_wins"::"law_bellsaway_k15_what_wins_and_idle_lines"::"_law_tree"::"names"::"__name__"::"bellsaway.errors"::"__package__"::"__loader__"::"__spec__"::"__annotations__"::"__builtins__"::"__file__"::"__cached__"::"_wall"::"BellError"::"Either.__init__"::"fits"::"Not.__init__"::"is_gathered"::"Now.is_gathered"::"bellsaway.ways"::"NoHappening"::"are_unlike_names"::"Kind.note_turns"::"thing"::"least"::"most"::"check_wake"::"self"::"kinds"::"places"::"weights"::"Least"::"kind"::"place"::"from_weight"::"__dict__"::"Fit"::"NoClock"::"NoFit"::"found"::"free"::"number"::"won"::"weight"::"check_zone"::"Both.__init__"::"check_quiet"::"bellsaway.clocks"::"Any.note_turns"::"bits_from_weights"::"_law_much"::"Happening"::"Least.__init__"::"zone"::"quiet"::"wake"::"lines"::"way"::"roads"::"sure"::"raised"::"_law_gathered"::"happening"::"check_names"::"line_for"::"winner"::"idle"::"Wishes.__init__"::"Wishes.idle"::"Kind.__init__"::"Both"::"_law_made"::"Any.weight_bits"::"Way"::"Not.fits_it"::"__main__"::"_law_state"::"_law_found"::"_law_doubled"::"_law_k"::"_law_tree_here"::"_law_way"::"_law_ahead"::"Least.weight_bits"::"_law_next"::"Place.__init__"::"Any.fits_it"::"Either.fits_it"::"falling"::"bits"::"Least.note_turns"::"Happening.__init__"::"bellsaway.happenings"::"unused_name"::"is_name"::"_law_base"::"_law_number"::"check_by_way"::"Not.weight_bits"::"Either.note_turns"::"Either.weight_bits"::"_law_trees"::"Wishes"::"Place"::"Line"::"_law_fits"::"_law_leaf"::"_law_cell_at"::"Never.moment_from"::"check_fits"::"Any"::"mark"::"Both.weight_bits"::"Both.fits_it"::"is_whole_from"::"bellsaway.wholes"::"bellsaway.words"::"NoWish"::"is_whole"::"is_whole_between"::"MINUTES_OF_DAY"::"is_minute_of_day"::"is_quiet_hours"::"LETTERS"::"abcdefghijklmnopqrstuvwxyz"::"MOST_LETTERS"::"_law_all"::"Wishes.winner"::"Raised.__init__"::"Both.note_turns"::"check_fit"::"Now"::"Place.fits_it"::"_law_right"::"counted_name"::"_law_name"::"find_firsts"::"Not"::"Either"::"firsts"::"Never"::"Raised"::"moment"::"_law_names"::"_law_letter"::"Not.note_turns"::"_law_beside"::"Least.fits_it"::"taken"::"k"::"Place.weight_bits"::"Line.__init__"::"Never.is_gathered"::"Kind.fits_it"::"minutes"::"times"::"to"::"law"::"Wishes.line_for"::"name"::"_law_script"::"_law_trees_here"::"_law_thing"::"Kind.weight_bits"::"_law_lines"::"_law_line_here"::"_law_wishes"::"_law_some"::"_law_first"::["_law_idle","_law_told","<module>","_law_word","_law_part","marks","things","fitting","_law_more","_law_kind","_law_name_here","_law_cell"]
noncomputable def a1:List Str:=[⟨⟨[95,95,119,101,97,107,114,101,102,95,95]⟩⟩,⟨⟨[109,111,109,101,110,116,95,102,114,111,109]⟩⟩,⟨⟨[78,111,119,46,109,111,109,101,110,116,95,102,114,111,109]⟩⟩,⟨⟨[102,105,116]⟩⟩,⟨⟨[110,111,116,101,95,116,117,114,110,115]⟩⟩,⟨⟨[80,108,97,99,101,46,110,111,116,101,95,116,117,114,110,115]⟩⟩,⟨⟨[119,105,110,110,105,110,103]⟩⟩,⟨⟨[87,105,115,104,101,115,46,119,105,110,110,105,110,103]⟩⟩,⟨⟨[98,101,108,108,115,97,119,97,121,46,119,105,115,104,101,115]⟩⟩,⟨⟨[95,108,97,119,95,108,105,110,101]⟩⟩,⟨⟨[47,99,108,97,105,109,47,99,117,116,46,112,121]⟩⟩,⟨⟨[95,108,97,119,95,98,101,103,105,110]⟩⟩,⟨⟨[95,95,109,111,100,117,108,101,95,95]⟩⟩,⟨⟨[98,101,108,108,115,97,119,97,121,46,102,105,116,115]⟩⟩,⟨⟨[95,95,102,105,114,115,116,108,105,110,101,110,111,95,95]⟩⟩,⟨⟨[95,95,105,110,105,116,95,95]⟩⟩,⟨⟨[102,105,116,115,95,105,116]⟩⟩,⟨⟨[119,101,105,103,104,116,95,98,105,116,115]⟩⟩,⟨⟨[95,95,115,116,97,116,105,99,95,97,116,116,114,105,98,117,116,101,115,95,95]⟩⟩,⟨⟨[95,95,100,111,99,95,95]⟩⟩,⟨⟨[95,95,113,117,97,108,110,97,109,101,95,95]⟩⟩,⟨⟨[75,105,110,100]⟩⟩,⟨⟨[99,104,101,99,107,95,108,105,110,101,115]⟩⟩,⟨⟨[95,108,97,119,95,119,105,110,115]⟩⟩,⟨⟨[108,97,119,95,98,101,108,108,115,97,119,97,121,95,107,49,53,95,119,104,97,116,95,119,105,110,115,95,97,110,100,95,105,100,108,101,95,108,105,110,101,115]⟩⟩,⟨⟨[95,108,97,119,95,116,114,101,101]⟩⟩,⟨⟨[110,97,109,101,115]⟩⟩,⟨⟨[95,95,110,97,109,101,95,95]⟩⟩,⟨⟨[98,101,108,108,115,97,119,97,121,46,101,114,114,111,114,115]⟩⟩,⟨⟨[95,95,112,97,99,107,97,103,101,95,95]⟩⟩,⟨⟨[95,95,108,111,97,100,101,114,95,95]⟩⟩,⟨⟨[95,95,115,112,101,99,95,95]⟩⟩,⟨⟨[95,95,97,110,110,111,116,97,116,105,111,110,115,95,95]⟩⟩,⟨⟨[95,95,98,117,105,108,116,105,110,115,95,95]⟩⟩,⟨⟨[95,95,102,105,108,101,95,95]⟩⟩,⟨⟨[95,95,99,97,99,104,101,100,95,95]⟩⟩,⟨⟨[95,119,97,108,108]⟩⟩,⟨⟨[66,101,108,108,69,114,114,111,114]⟩⟩,⟨⟨[69,105,116,104,101,114,46,95,95,105,110,105,116,95,95]⟩⟩,⟨⟨[102,105,116,115]⟩⟩,⟨⟨[78,111,116,46,95,95,105,110,105,116,95,95]⟩⟩,⟨⟨[105,115,95,103,97,116,104,101,114,101,100]⟩⟩,⟨⟨[78,111,119,46,105,115,95,103,97,116,104,101,114,101,100]⟩⟩,⟨⟨[98,101,108,108,115,97,119,97,121,46,119,97,121,115]⟩⟩,⟨⟨[78,111,72,97,112,112,101,110,105,110,103]⟩⟩,⟨⟨[97,114,101,95,117,110,108,105,107,101,95,110,97,109,101,115]⟩⟩,⟨⟨[75,105,110,100,46,110,111,116,101,95,116,117,114,110,115]⟩⟩,⟨⟨[116,104,105,110,103]⟩⟩,⟨⟨[108,101,97,115,116]⟩⟩,⟨⟨[109,111,115,116]⟩⟩,⟨⟨[99,104,101,99,107,95,119,97,107,101]⟩⟩,⟨⟨[115,101,108,102]⟩⟩,⟨⟨[107,105,110,100,115]⟩⟩,⟨⟨[112,108,97,99,101,115]⟩⟩,⟨⟨[119,101,105,103,104,116,115]⟩⟩,⟨⟨[76,101,97,115,116]⟩⟩,⟨⟨[107,105,110,100]⟩⟩,⟨⟨[112,108,97,99,101]⟩⟩,⟨⟨[102,114,111,109,95,119,101,105,103,104,116]⟩⟩,⟨⟨[95,95,100,105,99,116,95,95]⟩⟩,⟨⟨[70,105,116]⟩⟩,⟨⟨[78,111,67,108,111,99,107]⟩⟩,⟨⟨[78,111,70,105,116]⟩⟩,⟨⟨[102,111,117,110,100]⟩⟩,⟨⟨[102,114,101,101]⟩⟩,⟨⟨[110,117,109,98,101,114]⟩⟩,⟨⟨[119,111,110]⟩⟩,⟨⟨[119,101,105,103,104,116]⟩⟩,⟨⟨[99,104,101,99,107,95,122,111,110,101]⟩⟩,⟨⟨[66,111,116,104,46,95,95,105,110,105,116,95,95]⟩⟩,⟨⟨[99,104,101,99,107,95,113,117,105,101,116]⟩⟩,⟨⟨[98,101,108,108,115,97,119,97,121,46,99,108,111,99,107,115]⟩⟩,⟨⟨[65,110,121,46,110,111,116,101,95,116,117,114,110,115]⟩⟩,⟨⟨[98,105,116,115,95,102,114,111,109,95,119,101,105,103,104,116,115]⟩⟩,⟨⟨[95,108,97,119,95,109,117,99,104]⟩⟩,⟨⟨[72,97,112,112,101,110,105,110,103]⟩⟩,⟨⟨[76,101,97,115,116,46,95,95,105,110,105,116,95,95]⟩⟩,⟨⟨[122,111,110,101]⟩⟩,⟨⟨[113,117,105,101,116]⟩⟩,⟨⟨[119,97,107,101]⟩⟩,⟨⟨[108,105,110,101,115]⟩⟩,⟨⟨[119,97,121]⟩⟩,⟨⟨[114,111,97,100,115]⟩⟩,⟨⟨[115,117,114,101]⟩⟩,⟨⟨[114,97,105,115,101,100]⟩⟩,⟨⟨[95,108,97,119,95,103,97,116,104,101,114,101,100]⟩⟩,⟨⟨[104,97,112,112,101,110,105,110,103]⟩⟩,⟨⟨[99,104,101,99,107,95,110,97,109,101,115]⟩⟩,⟨⟨[108,105,110,101,95,102,111,114]⟩⟩,⟨⟨[119,105,110,110,101,114]⟩⟩,⟨⟨[105,100,108,101]⟩⟩,⟨⟨[87,105,115,104,101,115,46,95,95,105,110,105,116,95,95]⟩⟩,⟨⟨[87,105,115,104,101,115,46,105,100,108,101]⟩⟩,⟨⟨[75,105,110,100,46,95,95,105,110,105,116,95,95]⟩⟩,⟨⟨[66,111,116,104]⟩⟩,⟨⟨[95,108,97,119,95,109,97,100,101]⟩⟩,⟨⟨[65,110,121,46,119,101,105,103,104,116,95,98,105,116,115]⟩⟩,⟨⟨[87,97,121]⟩⟩,⟨⟨[78,111,116,46,102,105,116,115,95,105,116]⟩⟩,⟨⟨[95,95,109,97,105,110,95,95]⟩⟩,⟨⟨[95,108,97,119,95,115,116,97,116,101]⟩⟩,⟨⟨[95,108,97,119,95,102,111,117,110,100]⟩⟩,⟨⟨[95,108,97,119,95,100,111,117,98,108,101,100]⟩⟩,⟨⟨[95,108,97,119,95,107]⟩⟩,⟨⟨[95,108,97,119,95,116,114,101,101,95,104,101,114,101]⟩⟩,⟨⟨[95,108,97,119,95,119,97,121]⟩⟩,⟨⟨[95,108,97,119,95,97,104,101,97,100]⟩⟩,⟨⟨[76,101,97,115,116,46,119,101,105,103,104,116,95,98,105,116,115]⟩⟩,⟨⟨[95,108,97,119,95,110,101,120,116]⟩⟩,⟨⟨[80,108,97,99,101,46,95,95,105,110,105,116,95,95]⟩⟩,⟨⟨[65,110,121,46,102,105,116,115,95,105,116]⟩⟩,⟨⟨[69,105,116,104,101,114,46,102,105,116,115,95,105,116]⟩⟩,⟨⟨[102,97,108,108,105,110,103]⟩⟩,⟨⟨[98,105,116,115]⟩⟩,⟨⟨[76,101,97,115,116,46,110,111,116,101,95,116,117,114,110,115]⟩⟩,⟨⟨[72,97,112,112,101,110,105,110,103,46,95,95,105,110,105,116,95,95]⟩⟩,⟨⟨[98,101,108,108,115,97,119,97,121,46,104,97,112,112,101,110,105,110,103,115]⟩⟩,⟨⟨[117,110,117,115,101,100,95,110,97,109,101]⟩⟩,⟨⟨[105,115,95,110,97,109,101]⟩⟩,⟨⟨[95,108,97,119,95,98,97,115,101]⟩⟩,⟨⟨[95,108,97,119,95,110,117,109,98,101,114]⟩⟩,⟨⟨[99,104,101,99,107,95,98,121,95,119,97,121]⟩⟩,⟨⟨[78,111,116,46,119,101,105,103,104,116,95,98,105,116,115]⟩⟩,⟨⟨[69,105,116,104,101,114,46,110,111,116,101,95,116,117,114,110,115]⟩⟩,⟨⟨[69,105,116,104,101,114,46,119,101,105,103,104,116,95,98,105,116,115]⟩⟩,⟨⟨[95,108,97,119,95,116,114,101,101,115]⟩⟩,⟨⟨[87,105,115,104,101,115]⟩⟩,⟨⟨[80,108,97,99,101]⟩⟩,⟨⟨[76,105,110,101]⟩⟩,⟨⟨[95,108,97,119,95,102,105,116,115]⟩⟩,⟨⟨[95,108,97,119,95,108,101,97,102]⟩⟩,⟨⟨[95,108,97,119,95,99,101,108,108,95,97,116]⟩⟩,⟨⟨[78,101,118,101,114,46,109,111,109,101,110,116,95,102,114,111,109]⟩⟩,⟨⟨[99,104,101,99,107,95,102,105,116,115]⟩⟩,⟨⟨[65,110,121]⟩⟩,⟨⟨[109,97,114,107]⟩⟩,⟨⟨[66,111,116,104,46,119,101,105,103,104,116,95,98,105,116,115]⟩⟩,⟨⟨[66,111,116,104,46,102,105,116,115,95,105,116]⟩⟩,⟨⟨[105,115,95,119,104,111,108,101,95,102,114,111,109]⟩⟩,⟨⟨[98,101,108,108,115,97,119,97,121,46,119,104,111,108,101,115]⟩⟩,⟨⟨[98,101,108,108,115,97,119,97,121,46,119,111,114,100,115]⟩⟩,⟨⟨[78,111,87,105,115,104]⟩⟩,⟨⟨[105,115,95,119,104,111,108,101]⟩⟩,⟨⟨[105,115,95,119,104,111,108,101,95,98,101,116,119,101,101,110]⟩⟩,⟨⟨[77,73,78,85,84,69,83,95,79,70,95,68,65,89]⟩⟩,⟨⟨[105,115,95,109,105,110,117,116,101,95,111,102,95,100,97,121]⟩⟩,⟨⟨[105,115,95,113,117,105,101,116,95,104,111,117,114,115]⟩⟩,⟨⟨[76,69,84,84,69,82,83]⟩⟩,⟨⟨[97,98,99,100,101,102,103,104,105,106,107,108,109,110,111,112,113,114,115,116,117,118,119,120,121,122]⟩⟩,⟨⟨[77,79,83,84,95,76,69,84,84,69,82,83]⟩⟩,⟨⟨[95,108,97,119,95,97,108,108]⟩⟩,⟨⟨[87,105,115,104,101,115,46,119,105,110,110,101,114]⟩⟩,⟨⟨[82,97,105,115,101,100,46,95,95,105,110,105,116,95,95]⟩⟩,⟨⟨[66,111,116,104,46,110,111,116,101,95,116,117,114,110,115]⟩⟩,⟨⟨[99,104,101,99,107,95,102,105,116]⟩⟩,⟨⟨[78,111,119]⟩⟩,⟨⟨[80,108,97,99,101,46,102,105,116,115,95,105,116]⟩⟩,⟨⟨[95,108,97,119,95,114,105,103,104,116]⟩⟩,⟨⟨[99,111,117,110,116,101,100,95,110,97,109,101]⟩⟩,⟨⟨[95,108,97,119,95,110,97,109,101]⟩⟩,⟨⟨[102,105,110,100,95,102,105,114,115,116,115]⟩⟩,⟨⟨[78,111,116]⟩⟩,⟨⟨[69,105,116,104,101,114]⟩⟩,⟨⟨[102,105,114,115,116,115]⟩⟩,⟨⟨[78,101,118,101,114]⟩⟩,⟨⟨[82,97,105,115,101,100]⟩⟩,⟨⟨[109,111,109,101,110,116]⟩⟩,⟨⟨[95,108,97,119,95,110,97,109,101,115]⟩⟩,⟨⟨[95,108,97,119,95,108,101,116,116,101,114]⟩⟩,⟨⟨[78,111,116,46,110,111,116,101,95,116,117,114,110,115]⟩⟩,⟨⟨[95,108,97,119,95,98,101,115,105,100,101]⟩⟩,⟨⟨[76,101,97,115,116,46,102,105,116,115,95,105,116]⟩⟩,⟨⟨[116,97,107,101,110]⟩⟩,⟨⟨[107]⟩⟩,⟨⟨[80,108,97,99,101,46,119,101,105,103,104,116,95,98,105,116,115]⟩⟩,⟨⟨[76,105,110,101,46,95,95,105,110,105,116,95,95]⟩⟩,⟨⟨[78,101,118,101,114,46,105,115,95,103,97,116,104,101,114,101,100]⟩⟩,⟨⟨[75,105,110,100,46,102,105,116,115,95,105,116]⟩⟩,⟨⟨[109,105,110,117,116,101,115]⟩⟩,⟨⟨[116,105,109,101,115]⟩⟩,⟨⟨[116,111]⟩⟩,⟨⟨[108,97,119]⟩⟩,⟨⟨[87,105,115,104,101,115,46,108,105,110,101,95,102,111,114]⟩⟩,⟨⟨[110,97,109,101]⟩⟩,⟨⟨[95,108,97,119,95,115,99,114,105,112,116]⟩⟩,⟨⟨[95,108,97,119,95,116,114,101,101,115,95,104,101,114,101]⟩⟩,⟨⟨[95,108,97,119,95,116,104,105,110,103]⟩⟩,⟨⟨[75,105,110,100,46,119,101,105,103,104,116,95,98,105,116,115]⟩⟩,⟨⟨[95,108,97,119,95,108,105,110,101,115]⟩⟩,⟨⟨[95,108,97,119,95,108,105,110,101,95,104,101,114,101]⟩⟩,⟨⟨[95,108,97,119,95,119,105,115,104,101,115]⟩⟩,⟨⟨[95,108,97,119,95,115,111,109,101]⟩⟩,⟨⟨[95,108,97,119,95,102,105,114,115,116]⟩⟩,⟨⟨[95,108,97,119,95,105,100,108,101]⟩⟩,⟨⟨[95,108,97,119,95,116,111,108,100]⟩⟩,⟨⟨[60,109,111,100,117,108,101,62]⟩⟩,⟨⟨[95,108,97,119,95,119,111,114,100]⟩⟩,⟨⟨[95,108,97,119,95,112,97,114,116]⟩⟩,⟨⟨[109,97,114,107,115]⟩⟩,⟨⟨[116,104,105,110,103,115]⟩⟩,⟨⟨[102,105,116,116,105,110,103]⟩⟩,⟨⟨[95,108,97,119,95,109,111,114,101]⟩⟩,⟨⟨[95,108,97,119,95,107,105,110,100]⟩⟩,⟨⟨[95,108,97,119,95,110,97,109,101,95,104,101,114,101]⟩⟩,⟨⟨[95,108,97,119,95,99,101,108,108]⟩⟩]
noncomputable def t0:List String:=["getset_descriptor","ExceptionGroup.__weakref__","tuple","super","function","code","dict","builtin_function_or_method","type.__prepare__","type","__main__.__loader__#opaque","function.__dict__","function.__dict__#set","frame","object.__init_subclass__","object","object.__new__","ValueError","Exception","BaseException","ValueError.__new__"]
noncomputable def t1:List String:=[SL.s14755015743595814543x17,SL.s10220274742760427390x26,SL.s2766695959194262286x5,SL.s4290257624100764138x5,SL.s7174869446012820540x8,SL.s5856160107412720595x4,SL.s14018661285674007319x4,SL.s11030030927630378310x26,SL.s10062305145149207511x16,SL.s17162191345867700912x4,SL.s7097527257260152453x26,SL.s6511155373996960695x17,SL.s12411053484034534018x21,SL.s658472552662922059x5,SL.s4860613602091757760x24,SL.s2742458400755230247x6,SL.s11443829558043349243x14,SL.s6070975301684473832x10,SL.s5946037652744460706x9,SL.s4278001404047624695x13,SL.s4209523147560561109x18]
theorem cc {α:Type}{x y:α}{l m:List α}(h:x=y)(k:l=m):x::l=y::m:=by rw [h,k]
theorem ea:a0=a1:=by
 iterate 205 refine cc (by kernel_rfl) ?_
 exact rfl
theorem et:t0=t1:=(cc SL.e14755015743595814543x17 (cc SL.e10220274742760427390x26 (cc SL.e2766695959194262286x5 (cc SL.e4290257624100764138x5 (cc SL.e7174869446012820540x8 (cc SL.e5856160107412720595x4 (cc SL.e14018661285674007319x4 (cc SL.e11030030927630378310x26 (cc SL.e10062305145149207511x16 (cc SL.e17162191345867700912x4 (cc SL.e7097527257260152453x26 (cc SL.e6511155373996960695x17 (cc SL.e12411053484034534018x21 (cc SL.e658472552662922059x5 (cc SL.e4860613602091757760x24 (cc SL.e2742458400755230247x6 (cc SL.e11443829558043349243x14 (cc SL.e6070975301684473832x10 (cc SL.e5946037652744460706x9 (cc SL.e4278001404047624695x13 (cc SL.e4209523147560561109x18 rfl)))))))))))))))))))))
noncomputable def A0:AT:=⟨PySem.Challenge.pw_bellsaway_k15_what_wins_and_idle_lines,a0,t0⟩
noncomputable def B0:AT:=⟨Fast.tw2163363728625010290,a1,t1⟩
theorem ab:A0=B0:=by
 unfold A0 B0
 rw [ea,et,Fast.te2163363728625010290]
end Hd
namespace PySem.W.Fast
open Hd
noncomputable def vw (l:List Nat)(A:AT):Program:={ A.p with main:={ A.p.main with body:=l.map (@stm A) } }
noncomputable def sl (i n:Nat)(A:AT):List Stmt:=(A.p.main.body.drop i).take n
noncomputable def tw630028448650743857:=sl 5 1 B0
theorem te630028448650743857:sl 5 1 A0=tw630028448650743857:=congrArg _ ab
noncomputable def tw8792817506002242137:=sl 24 4 B0
theorem te8792817506002242137:sl 24 4 A0=tw8792817506002242137:=congrArg _ ab
noncomputable def tw12529338043447156550:=sl 48 2 B0
theorem te12529338043447156550:sl 48 2 A0=tw12529338043447156550:=congrArg _ ab
noncomputable def tw17469754052454977953:=sl 36 8 B0
theorem te17469754052454977953:sl 36 8 A0=tw17469754052454977953:=congrArg _ ab
noncomputable def tw14103803040893841516:=sl 32 1 B0
theorem te14103803040893841516:sl 32 1 A0=tw14103803040893841516:=congrArg _ ab
noncomputable def tw5661467784593366559:=sl 52 14 B0
theorem te5661467784593366559:sl 52 14 A0=tw5661467784593366559:=congrArg _ ab
noncomputable def tw2391836259621490545:=sl 30 1 B0
theorem te2391836259621490545:sl 30 1 A0=tw2391836259621490545:=congrArg _ ab
noncomputable def tw10161570887894156681:=vw [0,2,3,4,5,6,8,9,10,12,13,14,15,16,18,19,20,21,23,24,25,27,28,29,30,31,32,33,34,35,36,37,38,39,40,41,43,44,45,47,48,49,50,51,52,54,55,56,57,58,59,60,61,62,63,64,65,66,67,68,69,70] B0
theorem te10161570887894156681:vw [0,2,3,4,5,6,8,9,10,12,13,14,15,16,18,19,20,21,23,24,25,27,28,29,30,31,32,33,34,35,36,37,38,39,40,41,43,44,45,47,48,49,50,51,52,54,55,56,57,58,59,60,61,62,63,64,65,66,67,68,69,70] A0=tw10161570887894156681:=congrArg _ ab
noncomputable def tw3137513365540480300:=sl 33 1 B0
theorem te3137513365540480300:sl 33 1 A0=tw3137513365540480300:=congrArg _ ab
noncomputable def tw12228222654394167229:=sl 45 2 B0
theorem te12228222654394167229:sl 45 2 A0=tw12228222654394167229:=congrArg _ ab
noncomputable def tw13039271540144510165:=sl 50 2 B0
theorem te13039271540144510165:sl 50 2 A0=tw13039271540144510165:=congrArg _ ab
noncomputable def tw12943275273305788256:=sl 4 1 B0
theorem te12943275273305788256:sl 4 1 A0=tw12943275273305788256:=congrArg _ ab
noncomputable def tw16433923603218056626:=sl 34 2 B0
theorem te16433923603218056626:sl 34 2 A0=tw16433923603218056626:=congrArg _ ab
noncomputable def tw14588210239192232969:=sl 44 1 B0
theorem te14588210239192232969:sl 44 1 A0=tw14588210239192232969:=congrArg _ ab
noncomputable def tw10696414021952481543:=sl 6 9 B0
theorem te10696414021952481543:sl 6 9 A0=tw10696414021952481543:=congrArg _ ab
noncomputable def tw14848022405237397400:=sl 15 9 B0
theorem te14848022405237397400:sl 15 9 A0=tw14848022405237397400:=congrArg _ ab
noncomputable def tw2381854262246646757:=sl 0 3 B0
theorem te2381854262246646757:sl 0 3 A0=tw2381854262246646757:=congrArg _ ab
noncomputable def tw2386034085748983357:=sl 3 1 B0
theorem te2386034085748983357:sl 3 1 A0=tw2386034085748983357:=congrArg _ ab
noncomputable def tw13118563225167682971:=sl 29 1 B0
theorem te13118563225167682971:sl 29 1 A0=tw13118563225167682971:=congrArg _ ab
noncomputable def tw18438570297465636463:=sl 47 1 B0
theorem te18438570297465636463:sl 47 1 A0=tw18438570297465636463:=congrArg _ ab
noncomputable def tw6806838103036721920:=sl 28 1 B0
theorem te6806838103036721920:sl 28 1 A0=tw6806838103036721920:=congrArg _ ab
noncomputable def tw696166246915602946:=sl 66 5 B0
theorem te696166246915602946:sl 66 5 A0=tw696166246915602946:=congrArg _ ab
noncomputable def tw6573611256240824568:=sl 31 1 B0
theorem te6573611256240824568:sl 31 1 A0=tw6573611256240824568:=congrArg _ ab
noncomputable def tw10161021541294671681:=tree_321 B0
theorem te10161021541294671681:tree_321 A0=tw10161021541294671681:=congrArg tree_321 ab
noncomputable def tw4116481789921178370:=heap_882 B0
theorem te4116481789921178370:heap_882 A0=tw4116481789921178370:=congrArg heap_882 ab
noncomputable def tw12921510561428054052:=tree_242 B0
theorem te12921510561428054052:tree_242 A0=tw12921510561428054052:=congrArg tree_242 ab
noncomputable def tw2048977050293472900:=tree_846 B0
theorem te2048977050293472900:tree_846 A0=tw2048977050293472900:=congrArg tree_846 ab
noncomputable def tw11700318310634885028:=heap_39 B0
theorem te11700318310634885028:heap_39 A0=tw11700318310634885028:=congrArg heap_39 ab
noncomputable def tw12515461520827966245:=tree_85 B0
theorem te12515461520827966245:tree_85 A0=tw12515461520827966245:=congrArg tree_85 ab
noncomputable def tw8220684099634991975:=tree_543 B0
theorem te8220684099634991975:tree_543 A0=tw8220684099634991975:=congrArg tree_543 ab
noncomputable def tw7048187918047354089:=tree_407 B0
theorem te7048187918047354089:tree_407 A0=tw7048187918047354089:=congrArg tree_407 ab
noncomputable def tw10855098541523028874:=tree_599 B0
theorem te10855098541523028874:tree_599 A0=tw10855098541523028874:=congrArg tree_599 ab
noncomputable def tw4145656541463930507:=tree_364 B0
theorem te4145656541463930507:tree_364 A0=tw4145656541463930507:=congrArg tree_364 ab
noncomputable def tw9277041244823300398:=tree_47 B0
theorem te9277041244823300398:tree_47 A0=tw9277041244823300398:=congrArg tree_47 ab
noncomputable def tw3634706393506143472:=tree_70 B0
theorem te3634706393506143472:tree_70 A0=tw3634706393506143472:=congrArg tree_70 ab
noncomputable def tw13360047845957979441:=tree_681 B0
theorem te13360047845957979441:tree_681 A0=tw13360047845957979441:=congrArg tree_681 ab
noncomputable def tw13339760345030130130:=tree_165 B0
theorem te13339760345030130130:tree_165 A0=tw13339760345030130130:=congrArg tree_165 ab
noncomputable def tw1549902076553566644:=tree_657 B0
theorem te1549902076553566644:tree_657 A0=tw1549902076553566644:=congrArg tree_657 ab
noncomputable def tw16783023397191810421:=tree_767 B0
theorem te16783023397191810421:tree_767 A0=tw16783023397191810421:=congrArg tree_767 ab
noncomputable def tw14322546421982966487:=tree_881 B0
theorem te14322546421982966487:tree_881 A0=tw14322546421982966487:=congrArg tree_881 ab
noncomputable def tw12373324137174363032:=tree_628 B0
theorem te12373324137174363032:tree_628 A0=tw12373324137174363032:=congrArg tree_628 ab
noncomputable def tw13053513273035480089:=tree_278 B0
theorem te13053513273035480089:tree_278 A0=tw13053513273035480089:=congrArg tree_278 ab
noncomputable def tw4114228746142272602:=tree_212 B0
theorem te4114228746142272602:tree_212 A0=tw4114228746142272602:=congrArg tree_212 ab
noncomputable def tw5810015976717342043:=tree_712 B0
theorem te5810015976717342043:tree_712 A0=tw5810015976717342043:=congrArg tree_712 ab
noncomputable def tw13842234578282319420:=heap_46 B0
theorem te13842234578282319420:heap_46 A0=tw13842234578282319420:=congrArg heap_46 ab
noncomputable def tw4271680764778199932:=tree_493 B0
theorem te4271680764778199932:tree_493 A0=tw4271680764778199932:=congrArg tree_493 ab
noncomputable def tw4373427130298257405:=tree_115 B0
theorem te4373427130298257405:tree_115 A0=tw4373427130298257405:=congrArg tree_115 ab
noncomputable def tw11346199041399622846:=tree_100 B0
theorem te11346199041399622846:tree_100 A0=tw11346199041399622846:=congrArg tree_100 ab
noncomputable def tw12146273880112047390:=tree_450 B0
theorem te12146273880112047390:tree_450 A0=tw12146273880112047390:=congrArg tree_450 ab
end PySem.W.Fast
namespace Bw
open PySem L2 PySem.W
local macro_rules | `(tactic| walk_at "b1") => `(tactic| exact fun _ _ _ _ _ _ us hl => match us, hl with | [_], _ => rfl)
local macro_rules | `(tactic| walk_at "b2") => `(tactic| exact fun _ _ _ _ _ _ us hl => match us, hl with | [_, _], _ => rfl)
local macro_rules | `(tactic| walk_at "b3") => `(tactic| exact fun _ _ _ _ _ _ us hl => match us, hl with | [_, _, _], _ => rfl)
local macro_rules | `(tactic| walk_at "b4") => `(tactic| exact fun _ _ _ _ _ _ us hl => match us, hl with | [_, _, _, _], _ => rfl)
local macro_rules | `(tactic| walk_at "b5") => `(tactic| exact fun _ _ _ _ _ _ us hl => match us, hl with | [_, _, _, _, _], _ => rfl)
theorem BN9 {l:OpenLaw}{w:World}{K:Frag}{h:Heap}{mg:Str->Option Value}{fa f0 f1 f2 f3 f4 f5 f6 f7 f8 f9 f10 f11 f12 f13 f14 f15 f16 f17 f18 f19 f20 f21 f22 f23 f24 f25 f26 f27 f28 f29 f30 f31 f32 f33 f34 f35 f36 f37 f38 f39 f40 f41 f42 f43 f44 f45 f46 f47 f48 f49 f50 f51 f52 f53 f54 f55 f56 f57 f58 f59 f60 f61 z0 z1 z2 z3 z4 z5 z6 z7 z8 z9 z10 z11 z12 z13 z14:Addr}{t0 t1 t2:Tok}(X:K.In h)(G:h.Ns mainGlobals mg)(hfa:mg "law"=some (.ref fa)){od0 an0 sl0 oc0 kV0 dc0 pm0 cd0 ct0}(a0:nsIn K mainGlobals "is_whole"=some (some (.ref f0)))(l0:K.lookup f0=some ⟨oc0,od0,.func (fnOf "is_whole" "is_whole" (aN gN) (aM gN) (aB gN) .none kV0 dc0 pm0 an0 cd0 ct0),sl0⟩)(c0:codeIn K cd0 "is_whole"=true)(k0:keepIn K (.ref f0)=true){od1 an1 sl1 oc1 kV1 dc1 pm1 cd1 ct1}(a1:nsIn K mainGlobals "is_whole_between"=some (some (.ref f1)))(l1:K.lookup f1=some ⟨oc1,od1,.func (fnOf "is_whole_between" "is_whole_between" (aN bW) (aM bW) (aB bW) .none kV1 dc1 pm1 an1 cd1 ct1),sl1⟩)(c1:codeIn K cd1 "is_whole_between"=true)(k1:keepIn K (.ref f1)=true){od2 an2 sl2 oc2 kV2 dc2 pm2 cd2 ct2}(a2:nsIn K mainGlobals "is_whole_from"=some (some (.ref f2)))(l2:K.lookup f2=some ⟨oc2,od2,.func (fnOf "is_whole_from" "is_whole_from" (aN dG) (aM dG) (aB dG) .none kV2 dc2 pm2 an2 cd2 ct2),sl2⟩)(c2:codeIn K cd2 "is_whole_from"=true)(k2:keepIn K (.ref f2)=true){od3 an3 sl3 oc3 kV3 dc3 pm3 cd3 ct3}(a3:nsIn K mainGlobals "is_quiet_hours"=some (some (.ref f3)))(l3:K.lookup f3=some ⟨oc3,od3,.func (fnOf "is_quiet_hours" "is_quiet_hours" (aN cQ) (aM cQ) (aB cQ) .none kV3 dc3 pm3 an3 cd3 ct3),sl3⟩)(c3:codeIn K cd3 "is_quiet_hours"=true)(k3:keepIn K (.ref f3)=true){od4 an4 sl4 oc4 kV4 dc4 pm4 cd4 ct4}(a4:nsIn K mainGlobals "check_zone"=some (some (.ref f4)))(l4:K.lookup f4=some ⟨oc4,od4,.func (fnOf "check_zone" "check_zone" (aN eS) (aM eS) (aB eS) .none kV4 dc4 pm4 an4 cd4 ct4),sl4⟩)(c4:codeIn K cd4 "check_zone"=true)(k4:keepIn K (.ref f4)=true){od5 an5 sl5 oc5 kV5 dc5 pm5 cd5 ct5}(a5:nsIn K mainGlobals "check_quiet"=some (some (.ref f5)))(l5:K.lookup f5=some ⟨oc5,od5,.func (fnOf "check_quiet" "check_quiet" (aN eA) (aM eA) (aB eA) .none kV5 dc5 pm5 an5 cd5 ct5),sl5⟩)(c5:codeIn K cd5 "check_quiet"=true)(k5:keepIn K (.ref f5)=true){od6 an6 sl6 oc6 kV6 dc6 pm6 cd6 ct6}(a6:nsIn K mainGlobals "is_name"=some (some (.ref f6)))(l6:K.lookup f6=some ⟨oc6,od6,.func (fnOf "is_name" "is_name" (aN iK) (aM iK) (aB iK) .none kV6 dc6 pm6 an6 cd6 ct6),sl6⟩)(c6:codeIn K cd6 "is_name"=true)(k6:keepIn K (.ref f6)=true){od7 an7 sl7 oc7 kV7 dc7 pm7 cd7 ct7}(a7:findIn K (.ref z0) "__init__"=some (some (.ref f7)))(i7:isFn K (.ref f7)=true)(l7:K.lookup f7=some ⟨oc7,od7,.func (fnOf "__init__" "Happening.__init__" (aN bM) (aM bM) (aB bM) .none kV7 dc7 pm7 an7 cd7 ct7),sl7⟩)(c7:codeIn K cd7 "Happening.__init__"=true)(k7:keepIn K (.ref f7)=true){od8 an8 sl8 oc8 kV8 dc8 pm8 cd8 ct8}(a8:nsIn K mainGlobals "are_unlike_names"=some (some (.ref f8)))(l8:K.lookup f8=some ⟨oc8,od8,.func (fnOf "are_unlike_names" "are_unlike_names" (aN bX) (aM bX) (aB bX) .none kV8 dc8 pm8 an8 cd8 ct8),sl8⟩)(c8:codeIn K cd8 "are_unlike_names"=true)(k8:keepIn K (.ref f8)=true){od9 an9 sl9 oc9 kV9 dc9 pm9 cd9 ct9}(a9:nsIn K mainGlobals "counted_name"=some (some (.ref f9)))(l9:K.lookup f9=some ⟨oc9,od9,.func (fnOf "counted_name" "counted_name" (aN dN) (aM dN) (aB dN) .none kV9 dc9 pm9 an9 cd9 ct9),sl9⟩)(c9:codeIn K cd9 "counted_name"=true)(k9:keepIn K (.ref f9)=true){od10 an10 sl10 oc10 kV10 dc10 pm10 cd10 ct10}(a10:nsIn K mainGlobals "unused_name"=some (some (.ref f10)))(l10:K.lookup f10=some ⟨oc10,od10,.func (fnOf "unused_name" "unused_name" (aN eB) (aM eB) (aB eB) .none kV10 dc10 pm10 an10 cd10 ct10),sl10⟩)(c10:codeIn K cd10 "unused_name"=true)(k10:keepIn K (.ref f10)=true){od11 an11 sl11 oc11 kV11 dc11 pm11 cd11 ct11}(a11:findIn K (.ref z2) "note_turns"=some (some (.ref f11)))(i11:isFn K (.ref f11)=true)(l11:K.lookup f11=some ⟨oc11,od11,.func (fnOf "note_turns" "Any.note_turns" (aN cR) (aM cR) (aB cR) .none kV11 dc11 pm11 an11 cd11 ct11),sl11⟩)(c11:codeIn K cd11 "Any.note_turns"=true)(k11:keepIn K (.ref f11)=true){od12 an12 sl12 oc12 kV12 dc12 pm12 cd12 ct12}(a12:findIn K (.ref z2) "weight_bits"=some (some (.ref f12)))(i12:isFn K (.ref f12)=true)(l12:K.lookup f12=some ⟨oc12,od12,.func (fnOf "weight_bits" "Any.weight_bits" (aN cG) (aM cG) (aB cG) .none kV12 dc12 pm12 an12 cd12 ct12),sl12⟩)(c12:codeIn K cd12 "Any.weight_bits"=true)(k12:keepIn K (.ref f12)=true){od13 an13 sl13 oc13 kV13 dc13 pm13 cd13 ct13}(a13:findIn K (.ref z3) "__init__"=some (some (.ref f13)))(i13:isFn K (.ref f13)=true)(l13:K.lookup f13=some ⟨oc13,od13,.func (fnOf "__init__" "Kind.__init__" (aN dH) (aM dH) (aB dH) .none kV13 dc13 pm13 an13 cd13 ct13),sl13⟩)(c13:codeIn K cd13 "Kind.__init__"=true)(k13:keepIn K (.ref f13)=true){od14 an14 sl14 oc14 kV14 dc14 pm14 cd14 ct14}(a14:findIn K (.ref z3) "note_turns"=some (some (.ref f14)))(i14:isFn K (.ref f14)=true)(l14:K.lookup f14=some ⟨oc14,od14,.func (fnOf "note_turns" "Kind.note_turns" (aN cH) (aM cH) (aB cH) .none kV14 dc14 pm14 an14 cd14 ct14),sl14⟩)(c14:codeIn K cd14 "Kind.note_turns"=true)(k14:keepIn K (.ref f14)=true){od15 an15 sl15 oc15 kV15 dc15 pm15 cd15 ct15}(a15:findIn K (.ref z3) "weight_bits"=some (some (.ref f15)))(i15:isFn K (.ref f15)=true)(l15:K.lookup f15=some ⟨oc15,od15,.func (fnOf "weight_bits" "Kind.weight_bits" (aN bY) (aM bY) (aB bY) .none kV15 dc15 pm15 an15 cd15 ct15),sl15⟩)(c15:codeIn K cd15 "Kind.weight_bits"=true)(k15:keepIn K (.ref f15)=true){od16 an16 sl16 oc16 kV16 dc16 pm16 cd16 ct16}(a16:findIn K (.ref z4) "__init__"=some (some (.ref f16)))(i16:isFn K (.ref f16)=true)(l16:K.lookup f16=some ⟨oc16,od16,.func (fnOf "__init__" "Place.__init__" (aN cS) (aM cS) (aB cS) .none kV16 dc16 pm16 an16 cd16 ct16),sl16⟩)(c16:codeIn K cd16 "Place.__init__"=true)(k16:keepIn K (.ref f16)=true){od17 an17 sl17 oc17 kV17 dc17 pm17 cd17 ct17}(a17:findIn K (.ref z4) "note_turns"=some (some (.ref f17)))(i17:isFn K (.ref f17)=true)(l17:K.lookup f17=some ⟨oc17,od17,.func (fnOf "note_turns" "Place.note_turns" (aN bZ) (aM bZ) (aB bZ) .none kV17 dc17 pm17 an17 cd17 ct17),sl17⟩)(c17:codeIn K cd17 "Place.note_turns"=true)(k17:keepIn K (.ref f17)=true){od18 an18 sl18 oc18 kV18 dc18 pm18 cd18 ct18}(a18:findIn K (.ref z4) "weight_bits"=some (some (.ref f18)))(i18:isFn K (.ref f18)=true)(l18:K.lookup f18=some ⟨oc18,od18,.func (fnOf "weight_bits" "Place.weight_bits" (aN bP) (aM bP) (aB bP) .none kV18 dc18 pm18 an18 cd18 ct18),sl18⟩)(c18:codeIn K cd18 "Place.weight_bits"=true)(k18:keepIn K (.ref f18)=true){od19 an19 sl19 oc19 kV19 dc19 pm19 cd19 ct19}(a19:findIn K (.ref z5) "__init__"=some (some (.ref f19)))(i19:isFn K (.ref f19)=true)(l19:K.lookup f19=some ⟨oc19,od19,.func (fnOf "__init__" "Least.__init__" (aN cT) (aM cT) (aB cT) .none kV19 dc19 pm19 an19 cd19 ct19),sl19⟩)(c19:codeIn K cd19 "Least.__init__"=true)(k19:keepIn K (.ref f19)=true){od20 an20 sl20 oc20 kV20 dc20 pm20 cd20 ct20}(a20:findIn K (.ref z5) "note_turns"=some (some (.ref f20)))(i20:isFn K (.ref f20)=true)(l20:K.lookup f20=some ⟨oc20,od20,.func (fnOf "note_turns" "Least.note_turns" (aN cA) (aM cA) (aB cA) .none kV20 dc20 pm20 an20 cd20 ct20),sl20⟩)(c20:codeIn K cd20 "Least.note_turns"=true)(k20:keepIn K (.ref f20)=true){od21 an21 sl21 oc21 kV21 dc21 pm21 cd21 ct21}(a21:findIn K (.ref z5) "weight_bits"=some (some (.ref f21)))(i21:isFn K (.ref f21)=true)(l21:K.lookup f21=some ⟨oc21,od21,.func (fnOf "weight_bits" "Least.weight_bits" (aN bQ) (aM bQ) (aB bQ) .none kV21 dc21 pm21 an21 cd21 ct21),sl21⟩)(c21:codeIn K cd21 "Least.weight_bits"=true)(k21:keepIn K (.ref f21)=true){od22 an22 sl22 oc22 kV22 dc22 pm22 cd22 ct22}(a22:findIn K (.ref z6) "__init__"=some (some (.ref f22)))(i22:isFn K (.ref f22)=true)(l22:K.lookup f22=some ⟨oc22,od22,.func (fnOf "__init__" "Not.__init__" (aN dO) (aM dO) (aB dO) .none kV22 dc22 pm22 an22 cd22 ct22),sl22⟩)(c22:codeIn K cd22 "Not.__init__"=true)(k22:keepIn K (.ref f22)=true){od23 an23 sl23 oc23 kV23 dc23 pm23 cd23 ct23}(a23:findIn K (.ref z6) "note_turns"=some (some (.ref f23)))(i23:isFn K (.ref f23)=true)(l23:K.lookup f23=some ⟨oc23,od23,.func (fnOf "note_turns" "Not.note_turns" (aN cU) (aM cU) (aB cU) .none kV23 dc23 pm23 an23 cd23 ct23),sl23⟩)(c23:codeIn K cd23 "Not.note_turns"=true)(k23:keepIn K (.ref f23)=true){od24 an24 sl24 oc24 kV24 dc24 pm24 cd24 ct24}(a24:findIn K (.ref z6) "weight_bits"=some (some (.ref f24)))(i24:isFn K (.ref f24)=true)(l24:K.lookup f24=some ⟨oc24,od24,.func (fnOf "weight_bits" "Not.weight_bits" (aN cI) (aM cI) (aB cI) .none kV24 dc24 pm24 an24 cd24 ct24),sl24⟩)(c24:codeIn K cd24 "Not.weight_bits"=true)(k24:keepIn K (.ref f24)=true){od25 an25 sl25 oc25 kV25 dc25 pm25 cd25 ct25}(a25:findIn K (.ref z7) "__init__"=some (some (.ref f25)))(i25:isFn K (.ref f25)=true)(l25:K.lookup f25=some ⟨oc25,od25,.func (fnOf "__init__" "Both.__init__" (aN dI) (aM dI) (aB dI) .none kV25 dc25 pm25 an25 cd25 ct25),sl25⟩)(c25:codeIn K cd25 "Both.__init__"=true)(k25:keepIn K (.ref f25)=true){od26 an26 sl26 oc26 kV26 dc26 pm26 cd26 ct26}(a26:findIn K (.ref z7) "note_turns"=some (some (.ref f26)))(i26:isFn K (.ref f26)=true)(l26:K.lookup f26=some ⟨oc26,od26,.func (fnOf "note_turns" "Both.note_turns" (aN cJ) (aM cJ) (aB cJ) .none kV26 dc26 pm26 an26 cd26 ct26),sl26⟩)(c26:codeIn K cd26 "Both.note_turns"=true)(k26:keepIn K (.ref f26)=true){od27 an27 sl27 oc27 kV27 dc27 pm27 cd27 ct27}(a27:findIn K (.ref z7) "weight_bits"=some (some (.ref f27)))(i27:isFn K (.ref f27)=true)(l27:K.lookup f27=some ⟨oc27,od27,.func (fnOf "weight_bits" "Both.weight_bits" (aN cB) (aM cB) (aB cB) .none kV27 dc27 pm27 an27 cd27 ct27),sl27⟩)(c27:codeIn K cd27 "Both.weight_bits"=true)(k27:keepIn K (.ref f27)=true){od28 an28 sl28 oc28 kV28 dc28 pm28 cd28 ct28}(a28:findIn K (.ref z8) "__init__"=some (some (.ref f28)))(i28:isFn K (.ref f28)=true)(l28:K.lookup f28=some ⟨oc28,od28,.func (fnOf "__init__" "Either.__init__" (aN cK) (aM cK) (aB cK) .none kV28 dc28 pm28 an28 cd28 ct28),sl28⟩)(c28:codeIn K cd28 "Either.__init__"=true)(k28:keepIn K (.ref f28)=true){od29 an29 sl29 oc29 kV29 dc29 pm29 cd29 ct29}(a29:findIn K (.ref z8) "note_turns"=some (some (.ref f29)))(i29:isFn K (.ref f29)=true)(l29:K.lookup f29=some ⟨oc29,od29,.func (fnOf "note_turns" "Either.note_turns" (aN bR) (aM bR) (aB bR) .none kV29 dc29 pm29 an29 cd29 ct29),sl29⟩)(c29:codeIn K cd29 "Either.note_turns"=true)(k29:keepIn K (.ref f29)=true){od30 an30 sl30 oc30 kV30 dc30 pm30 cd30 ct30}(a30:findIn K (.ref z8) "weight_bits"=some (some (.ref f30)))(i30:isFn K (.ref f30)=true)(l30:K.lookup f30=some ⟨oc30,od30,.func (fnOf "weight_bits" "Either.weight_bits" (aN bN) (aM bN) (aB bN) .none kV30 dc30 pm30 an30 cd30 ct30),sl30⟩)(c30:codeIn K cd30 "Either.weight_bits"=true)(k30:keepIn K (.ref f30)=true){od31 an31 sl31 oc31 kV31 dc31 pm31 cd31 ct31}(a31:nsIn K mainGlobals "check_names"=some (some (.ref f31)))(l31:K.lookup f31=some ⟨oc31,od31,.func (fnOf "check_names" "check_names" (aN eC) (aM eC) (aB eC) .none kV31 dc31 pm31 an31 cd31 ct31),sl31⟩)(c31:codeIn K cd31 "check_names"=true)(k31:keepIn K (.ref f31)=true){od32 an32 sl32 oc32 kV32 dc32 pm32 cd32 ct32}(a32:nsIn K mainGlobals "check_fit"=some (some (.ref f32)))(l32:K.lookup f32=some ⟨oc32,od32,.func (fnOf "check_fit" "check_fit" (aN fK) (aM fK) (aB fK) .none kV32 dc32 pm32 an32 cd32 ct32),sl32⟩)(c32:codeIn K cd32 "check_fit"=true)(k32:keepIn K (.ref f32)=true){od33 an33 sl33 oc33 kV33 dc33 pm33 cd33 ct33}(a33:nsIn K mainGlobals "check_fits"=some (some (.ref f33)))(l33:K.lookup f33=some ⟨oc33,od33,.func (fnOf "check_fits" "check_fits" (aN eU) (aM eU) (aB eU) .none kV33 dc33 pm33 an33 cd33 ct33),sl33⟩)(c33:codeIn K cd33 "check_fits"=true)(k33:keepIn K (.ref f33)=true){od34 an34 sl34 oc34 kV34 dc34 pm34 cd34 ct34}(a34:nsIn K mainGlobals "mark"=some (some (.ref f34)))(l34:K.lookup f34=some ⟨oc34,od34,.func (fnOf "mark" "mark" (aN sS) (aM sS) (aB sS) .none kV34 dc34 pm34 an34 cd34 ct34),sl34⟩)(c34:codeIn K cd34 "mark"=true)(k34:keepIn K (.ref f34)=true){od35 an35 sl35 oc35 kV35 dc35 pm35 cd35 ct35}(a35:nsIn K mainGlobals "firsts"=some (some (.ref f35)))(l35:K.lookup f35=some ⟨oc35,od35,.func (fnOf "firsts" "firsts" (aN jW) (aM jW) (aB jW) .none kV35 dc35 pm35 an35 cd35 ct35),sl35⟩)(c35:codeIn K cd35 "firsts"=true)(k35:keepIn K (.ref f35)=true){od36 an36 sl36 oc36 kV36 dc36 pm36 cd36 ct36}(a36:nsIn K mainGlobals "bits_from_weights"=some (some (.ref f36)))(l36:K.lookup f36=some ⟨oc36,od36,.func (fnOf "bits_from_weights" "bits_from_weights" (aN bS) (aM bS) (aB bS) .none kV36 dc36 pm36 an36 cd36 ct36),sl36⟩)(c36:codeIn K cd36 "bits_from_weights"=true)(k36:keepIn K (.ref f36)=true){od37 an37 sl37 oc37 kV37 dc37 pm37 cd37 ct37}(a37:nsIn K mainGlobals "find_firsts"=some (some (.ref f37)))(l37:K.lookup f37=some ⟨oc37,od37,.func (fnOf "find_firsts" "find_firsts" (aN eE) (aM eE) (aB eE) .none kV37 dc37 pm37 an37 cd37 ct37),sl37⟩)(c37:codeIn K cd37 "find_firsts"=true)(k37:keepIn K (.ref f37)=true){od38 an38 sl38 oc38 kV38 dc38 pm38 cd38 ct38}(a38:findIn K (.ref z13) "__init__"=some (some (.ref f38)))(i38:isFn K (.ref f38)=true){T38:Addr}{doc38:Value}{dod38:Option Addr}{dn38:Nat}{dsl38:Array (Option Value)}(l38:K.lookup f38=some ⟨oc38,od38,.func (fnOf "__init__" "Line.__init__" (aN bK) (aM bK) (aB bK) (.ref T38) kV38 dc38 pm38 an38 cd38 ct38),sl38⟩)(d38:K.lookup T38=some ⟨doc38,dod38,.seq #[.bool false,.none] dn38,dsl38⟩)(c38:codeIn K cd38 "Line.__init__"=true){od39 an39 sl39 oc39 kV39 dc39 pm39 cd39 ct39}(a39:nsIn K mainGlobals "check_by_way"=some (some (.ref f39)))(l39:K.lookup f39=some ⟨oc39,od39,.func (fnOf "check_by_way" "check_by_way" (aN dP) (aM dP) (aB dP) .none kV39 dc39 pm39 an39 cd39 ct39),sl39⟩)(c39:codeIn K cd39 "check_by_way"=true)(k39:keepIn K (.ref f39)=true){od40 an40 sl40 oc40 kV40 dc40 pm40 cd40 ct40}(a40:findIn K (.ref z14) "__init__"=some (some (.ref f40)))(i40:isFn K (.ref f40)=true){T40:Addr}{doc40:Value}{dod40:Option Addr}{dn40:Nat}{dsl40:Array (Option Value)}{dt40_0:Tok}(l40:K.lookup f40=some ⟨oc40,od40,.func (fnOf "__init__" "Wishes.__init__" (aN bA) (aM bA) (aB bA) (.ref T40) kV40 dc40 pm40 an40 cd40 ct40),sl40⟩)(d40:K.lookup T40=some ⟨doc40,dod40,.seq #[.int 0 dt40_0,.none,.none,.none] dn40,dsl40⟩)(c40:codeIn K cd40 "Wishes.__init__"=true){od41 an41 sl41 oc41 kV41 dc41 pm41 cd41 ct41}(a41:findIn K (.ref z14) "winner"=some (some (.ref f41)))(i41:isFn K (.ref f41)=true)(l41:K.lookup f41=some ⟨oc41,od41,.func (fnOf "winner" "Wishes.winner" (aN dJ) (aM dJ) (aB dJ) .none kV41 dc41 pm41 an41 cd41 ct41),sl41⟩)(c41:codeIn K cd41 "Wishes.winner"=true)(k41:keepIn K (.ref f41)=true){od42 an42 sl42 oc42 kV42 dc42 pm42 cd42 ct42}(a42:findIn K (.ref z14) "idle"=some (some (.ref f42)))(i42:isFn K (.ref f42)=true)(l42:K.lookup f42=some ⟨oc42,od42,.func (fnOf "idle" "Wishes.idle" (aN eF) (aM eF) (aB eF) .none kV42 dc42 pm42 an42 cd42 ct42),sl42⟩)(c42:codeIn K cd42 "Wishes.idle"=true)(k42:keepIn K (.ref f42)=true){od43 an43 sl43 oc43 kV43 dc43 pm43 cd43 ct43}(a43:nsIn K mainGlobals "check_wake"=some (some (.ref f43)))(l43:K.lookup f43=some ⟨oc43,od43,.func (fnOf "check_wake" "check_wake" (aN eV) (aM eV) (aB eV) .none kV43 dc43 pm43 an43 cd43 ct43),sl43⟩)(c43:codeIn K cd43 "check_wake"=true)(k43:keepIn K (.ref f43)=true){od44 an44 sl44 oc44 kV44 dc44 pm44 cd44 ct44}(a44:nsIn K mainGlobals "check_lines"=some (some (.ref f44)))(l44:K.lookup f44=some ⟨oc44,od44,.func (fnOf "check_lines" "check_lines" (aN eH) (aM eH) (aB eH) .none kV44 dc44 pm44 an44 cd44 ct44),sl44⟩)(c44:codeIn K cd44 "check_lines"=true)(k44:keepIn K (.ref f44)=true){od45 an45 sl45 oc45 kV45 dc45 pm45 cd45 ct45}(a45:nsIn K mainGlobals "_law_cell_at"=some (some (.ref f45)))(l45:K.lookup f45=some ⟨oc45,od45,.func (fnOf "_law_cell_at" "_law_cell_at" (aN eI) (aM eI) (aB eI) .none kV45 dc45 pm45 an45 cd45 ct45),sl45⟩)(c45:codeIn K cd45 "_law_cell_at"=true)(k45:keepIn K (.ref f45)=true){od46 an46 sl46 oc46 kV46 dc46 pm46 cd46 ct46}(a46:nsIn K mainGlobals "_law_begin"=some (some (.ref f46)))(l46:K.lookup f46=some ⟨oc46,od46,.func (fnOf "_law_begin" "_law_begin" (aN fL) (aM fL) (aB fL) .none kV46 dc46 pm46 an46 cd46 ct46),sl46⟩)(c46:codeIn K cd46 "_law_begin"=true)(k46:keepIn K (.ref f46)=true){od47 an47 sl47 oc47 kV47 dc47 pm47 cd47 ct47}(a47:nsIn K mainGlobals "_law_next"=some (some (.ref f47)))(l47:K.lookup f47=some ⟨oc47,od47,.func (fnOf "_law_next" "_law_next" (aN gO) (aM gO) (aB gO) .none kV47 dc47 pm47 an47 cd47 ct47),sl47⟩)(c47:codeIn K cd47 "_law_next"=true)(k47:keepIn K (.ref f47)=true){od48 an48 sl48 oc48 kV48 dc48 pm48 cd48 ct48}(a48:nsIn K mainGlobals "_law_name"=some (some (.ref f48)))(l48:K.lookup f48=some ⟨oc48,od48,.func (fnOf "_law_name" "_law_name" (aN gP) (aM gP) (aB gP) .none kV48 dc48 pm48 an48 cd48 ct48),sl48⟩)(c48:codeIn K cd48 "_law_name"=true)(k48:keepIn K (.ref f48)=true){od49 an49 sl49 oc49 kV49 dc49 pm49 cd49 ct49}(a49:nsIn K mainGlobals "_law_leaf"=some (some (.ref f49)))(l49:K.lookup f49=some ⟨oc49,od49,.func (fnOf "_law_leaf" "_law_leaf" (aN gQ) (aM gQ) (aB gQ) .none kV49 dc49 pm49 an49 cd49 ct49),sl49⟩)(c49:codeIn K cd49 "_law_leaf"=true)(k49:keepIn K (.ref f49)=true){od50 an50 sl50 oc50 kV50 dc50 pm50 cd50 ct50}(a50:nsIn K mainGlobals "_law_tree"=some (some (.ref f50)))(l50:K.lookup f50=some ⟨oc50,od50,.func (fnOf "_law_tree" "_law_tree" (aN gR) (aM gR) (aB gR) .none kV50 dc50 pm50 an50 cd50 ct50),sl50⟩)(c50:codeIn K cd50 "_law_tree"=true)(k50:keepIn K (.ref f50)=true){od51 an51 sl51 oc51 kV51 dc51 pm51 cd51 ct51}(a51:nsIn K mainGlobals "_law_made"=some (some (.ref f51)))(l51:K.lookup f51=some ⟨oc51,od51,.func (fnOf "_law_made" "_law_made" (aN gS) (aM gS) (aB gS) .none kV51 dc51 pm51 an51 cd51 ct51),sl51⟩)(c51:codeIn K cd51 "_law_made"=true)(k51:keepIn K (.ref f51)=true){od52 an52 sl52 oc52 kV52 dc52 pm52 cd52 ct52}(a52:nsIn K mainGlobals "_law_fits"=some (some (.ref f52)))(l52:K.lookup f52=some ⟨oc52,od52,.func (fnOf "_law_fits" "_law_fits" (aN gT) (aM gT) (aB gT) .none kV52 dc52 pm52 an52 cd52 ct52),sl52⟩)(c52:codeIn K cd52 "_law_fits"=true)(k52:keepIn K (.ref f52)=true){od53 an53 sl53 oc53 kV53 dc53 pm53 cd53 ct53}(a53:nsIn K mainGlobals "_law_gathered"=some (some (.ref f53)))(l53:K.lookup f53=some ⟨oc53,od53,.func (fnOf "_law_gathered" "_law_gathered" (aN dQ) (aM dQ) (aB dQ) .none kV53 dc53 pm53 an53 cd53 ct53),sl53⟩)(c53:codeIn K cd53 "_law_gathered"=true)(k53:keepIn K (.ref f53)=true){od54 an54 sl54 oc54 kV54 dc54 pm54 cd54 ct54}(a54:nsIn K mainGlobals "_law_beside"=some (some (.ref f54)))(l54:K.lookup f54=some ⟨oc54,od54,.func (fnOf "_law_beside" "_law_beside" (aN eX) (aM eX) (aB eX) .none kV54 dc54 pm54 an54 cd54 ct54),sl54⟩)(c54:codeIn K cd54 "_law_beside"=true)(k54:keepIn K (.ref f54)=true){od55 an55 sl55 oc55 kV55 dc55 pm55 cd55 ct55}(a55:nsIn K mainGlobals "_law_all"=some (some (.ref f55)))(l55:K.lookup f55=some ⟨oc55,od55,.func (fnOf "_law_all" "_law_all" (aN iL) (aM iL) (aB iL) .none kV55 dc55 pm55 an55 cd55 ct55),sl55⟩)(c55:codeIn K cd55 "_law_all"=true)(k55:keepIn K (.ref f55)=true){od56 an56 sl56 oc56 kV56 dc56 pm56 cd56 ct56}(a56:nsIn K mainGlobals "_law_much"=some (some (.ref f56)))(l56:K.lookup f56=some ⟨oc56,od56,.func (fnOf "_law_much" "_law_much" (aN gU) (aM gU) (aB gU) .none kV56 dc56 pm56 an56 cd56 ct56),sl56⟩)(c56:codeIn K cd56 "_law_much"=true)(k56:keepIn K (.ref f56)=true){od57 an57 sl57 oc57 kV57 dc57 pm57 cd57 ct57}(a57:nsIn K mainGlobals "_law_trees"=some (some (.ref f57)))(l57:K.lookup f57=some ⟨oc57,od57,.func (fnOf "_law_trees" "_law_trees" (aN fM) (aM fM) (aB fM) .none kV57 dc57 pm57 an57 cd57 ct57),sl57⟩)(c57:codeIn K cd57 "_law_trees"=true)(k57:keepIn K (.ref f57)=true){od58 an58 sl58 oc58 kV58 dc58 pm58 cd58 ct58}(a58:nsIn K mainGlobals "_law_wins"=some (some (.ref f58)))(l58:K.lookup f58=some ⟨oc58,od58,.func (fnOf "_law_wins" "_law_wins" (aN gW) (aM gW) (aB gW) .none kV58 dc58 pm58 an58 cd58 ct58),sl58⟩)(c58:codeIn K cd58 "_law_wins"=true)(k58:keepIn K (.ref f58)=true){od59 an59 sl59 oc59 kV59 dc59 pm59 cd59 ct59}(a59:nsIn K mainGlobals "_law_right"=some (some (.ref f59)))(l59:K.lookup f59=some ⟨oc59,od59,.func (fnOf "_law_right" "_law_right" (aN fN) (aM fN) (aB fN) .none kV59 dc59 pm59 an59 cd59 ct59),sl59⟩)(c59:codeIn K cd59 "_law_right"=true)(k59:keepIn K (.ref f59)=true){od60 an60 sl60 oc60 kV60 dc60 pm60 cd60 ct60}(a60:nsIn K mainGlobals "_law_line"=some (some (.ref f60)))(l60:K.lookup f60=some ⟨oc60,od60,.func (fnOf "_law_line" "_law_line" (aN gX) (aM gX) (aB gX) .none kV60 dc60 pm60 an60 cd60 ct60),sl60⟩)(c60:codeIn K cd60 "_law_line"=true)(k60:keepIn K (.ref f60)=true){od61 an61 sl61 oc61 kV61 dc61 pm61 cd61 ct61}(a61:nsIn K mainGlobals "law"=some (some (.ref f61)))(l61:K.lookup f61=some ⟨oc61,od61,.func (fnOf "law" "law" (aN tY) (aM tY) (aB tY) .none kV61 dc61 pm61 an61 cd61 ct61),sl61⟩)(c61:codeIn K cd61 "law"=true)(k61:keepIn K (.ref f61)=true)(y0:nsIn K mainGlobals "len"=some none)(y1:nsIn K mainGlobals "int"=some none)(y2:nsIn K mainGlobals "bool"=some none)(y3:nsIn K mainGlobals "str"=some none)(y4:nsIn K mainGlobals "tuple"=some none)(y5:nsIn K mainGlobals "list"=some none)(y6:nsIn K mainGlobals "all"=some none)(y7:nsIn K mainGlobals "isinstance"=some none)(y8:nsIn K mainGlobals "range"=some none)(y9:nsIn K mainGlobals "set"=some none)(y10:nsIn K mainGlobals "sorted"=some none)(y11:nsIn K mainGlobals "enumerate"=some none)(y12:nsIn K mainGlobals "max"=some none)(y13:nsIn K mainGlobals "MINUTES_OF_DAY"=some (some (.int 1440 t0)))(y14:nsIn K mainGlobals "LETTERS"=some (some (.str "abcdefghijklmnopqrstuvwxyz" t1)))(y15:nsIn K mainGlobals "MOST_LETTERS"=some (some (.int 8 t2)))(y16:nsIn K mainGlobals "Happening"=some (some (.ref z0)))(y17:nsIn K mainGlobals "Fit"=some (some (.ref z1)))(y18:nsIn K mainGlobals "Any"=some (some (.ref z2)))(y19:nsIn K mainGlobals "Kind"=some (some (.ref z3)))(y20:nsIn K mainGlobals "Place"=some (some (.ref z4)))(y21:nsIn K mainGlobals "Least"=some (some (.ref z5)))(y22:nsIn K mainGlobals "Not"=some (some (.ref z6)))(y23:nsIn K mainGlobals "Both"=some (some (.ref z7)))(y24:nsIn K mainGlobals "Either"=some (some (.ref z8)))(y25:nsIn K mainGlobals "Way"=some (some (.ref z9)))(y26:nsIn K mainGlobals "Now"=some (some (.ref z10)))(y27:nsIn K mainGlobals "Never"=some (some (.ref z11)))(y28:nsIn K mainGlobals "Raised"=some (some (.ref z12)))(y29:nsIn K mainGlobals "Line"=some (some (.ref z13)))(y30:nsIn K mainGlobals "Wishes"=some (some (.ref z14)))(y31_0:plainGet K z2 Str.empty=true)(y31_1:hasDictIn K z2=true)(y31_2:plainOver K z2=true)(y31_3:findIn K (.ref z2) "__setattr__"=some (some (.builtin "object.__setattr__")))(y31_4:findIn K (.ref z2) "__class__"=some (some (.builtin "object.__class__")))(y31_5:specialIn K (.builtin "object.__class__") "__get__"=some (some (.builtin "getset_descriptor.__get__")))(y31_6:takesIn K (.builtin "object.__class__")=some true)(y31_7:mroIn K z2 (.type "object")=some true)(y32_0:plainGet K z3 Str.empty=true)(y32_1:hasDictIn K z3=true)(y32_2:plainOver K z3=true)(y32_3:findIn K (.ref z3) "__setattr__"=some (some (.builtin "object.__setattr__")))(y32_4:findIn K (.ref z3) "__class__"=some (some (.builtin "object.__class__")))(y32_5:specialIn K (.builtin "object.__class__") "__get__"=some (some (.builtin "getset_descriptor.__get__")))(y32_6:takesIn K (.builtin "object.__class__")=some true)(y32_7:mroIn K z3 (.type "object")=some true)(y33:findIn K (.ref z3) "names"=some none)(y34_0:plainGet K z4 Str.empty=true)(y34_1:hasDictIn K z4=true)(y34_2:plainOver K z4=true)(y34_3:findIn K (.ref z4) "__setattr__"=some (some (.builtin "object.__setattr__")))(y34_4:findIn K (.ref z4) "__class__"=some (some (.builtin "object.__class__")))(y34_5:specialIn K (.builtin "object.__class__") "__get__"=some (some (.builtin "getset_descriptor.__get__")))(y34_6:takesIn K (.builtin "object.__class__")=some true)(y34_7:mroIn K z4 (.type "object")=some true)(y35:findIn K (.ref z4) "names"=some none)(y36_0:plainGet K z5 Str.empty=true)(y36_1:hasDictIn K z5=true)(y36_2:plainOver K z5=true)(y36_3:findIn K (.ref z5) "__setattr__"=some (some (.builtin "object.__setattr__")))(y36_4:findIn K (.ref z5) "__class__"=some (some (.builtin "object.__class__")))(y36_5:specialIn K (.builtin "object.__class__") "__get__"=some (some (.builtin "getset_descriptor.__get__")))(y36_6:takesIn K (.builtin "object.__class__")=some true)(y36_7:mroIn K z5 (.type "object")=some true)(y37:findIn K (.ref z5) "weight"=some none)(y38_0:plainGet K z6 Str.empty=true)(y38_1:hasDictIn K z6=true)(y38_2:plainOver K z6=true)(y38_3:findIn K (.ref z6) "__setattr__"=some (some (.builtin "object.__setattr__")))(y38_4:findIn K (.ref z6) "__class__"=some (some (.builtin "object.__class__")))(y38_5:specialIn K (.builtin "object.__class__") "__get__"=some (some (.builtin "getset_descriptor.__get__")))(y38_6:takesIn K (.builtin "object.__class__")=some true)(y38_7:mroIn K z6 (.type "object")=some true)(y39:findIn K (.ref z6) "fit"=some none)(y40_0:plainGet K z7 Str.empty=true)(y40_1:hasDictIn K z7=true)(y40_2:plainOver K z7=true)(y40_3:findIn K (.ref z7) "__setattr__"=some (some (.builtin "object.__setattr__")))(y40_4:findIn K (.ref z7) "__class__"=some (some (.builtin "object.__class__")))(y40_5:specialIn K (.builtin "object.__class__") "__get__"=some (some (.builtin "getset_descriptor.__get__")))(y40_6:takesIn K (.builtin "object.__class__")=some true)(y40_7:mroIn K z7 (.type "object")=some true)(y41:findIn K (.ref z7) "fits"=some none)(y42_0:plainGet K z8 Str.empty=true)(y42_1:hasDictIn K z8=true)(y42_2:plainOver K z8=true)(y42_3:findIn K (.ref z8) "__setattr__"=some (some (.builtin "object.__setattr__")))(y42_4:findIn K (.ref z8) "__class__"=some (some (.builtin "object.__class__")))(y42_5:specialIn K (.builtin "object.__class__") "__get__"=some (some (.builtin "getset_descriptor.__get__")))(y42_6:takesIn K (.builtin "object.__class__")=some true)(y42_7:mroIn K z8 (.type "object")=some true)(y43:findIn K (.ref z8) "fits"=some none)(y44_0:plainGet K z0 Str.empty=true)(y44_1:hasDictIn K z0=true)(y44_2:plainOver K z0=true)(y44_3:findIn K (.ref z0) "__setattr__"=some (some (.builtin "object.__setattr__")))(y44_4:findIn K (.ref z0) "__class__"=some (some (.builtin "object.__class__")))(y44_5:specialIn K (.builtin "object.__class__") "__get__"=some (some (.builtin "getset_descriptor.__get__")))(y44_6:takesIn K (.builtin "object.__class__")=some true)(y44_7:mroIn K z0 (.type "object")=some true)(y45:findIn K (.ref z0) "kind"=some none)(y46:findIn K (.ref z0) "place"=some none)(y47:findIn K (.ref z0) "weight"=some none)(y48:kitOne K (.ref z2) (.ref z1)=some true)(y49:kitOne K (.ref z3) (.ref z1)=some true)(y50:kitOne K (.ref z4) (.ref z1)=some true)(y51:kitOne K (.ref z5) (.ref z1)=some true)(y52:kitOne K (.ref z6) (.ref z1)=some true)(y53:kitOne K (.ref z7) (.ref z1)=some true)(y54:kitOne K (.ref z8) (.ref z1)=some true)(y55_0:makesIn K z2=true)(y55_1:findIn K (.ref z2) "__init__"=some (some (.builtin "object.__init__")))(y55_2:keepIn K (.ref z2)=true)(y56_0:plainGet K z10 Str.empty=true)(y56_1:hasDictIn K z10=true)(y56_2:plainOver K z10=true)(y56_3:findIn K (.ref z10) "__setattr__"=some (some (.builtin "object.__setattr__")))(y56_4:findIn K (.ref z10) "__class__"=some (some (.builtin "object.__class__")))(y56_5:specialIn K (.builtin "object.__class__") "__get__"=some (some (.builtin "getset_descriptor.__get__")))(y56_6:takesIn K (.builtin "object.__class__")=some true)(y56_7:mroIn K z10 (.type "object")=some true)(y57_0:plainGet K z11 Str.empty=true)(y57_1:hasDictIn K z11=true)(y57_2:plainOver K z11=true)(y57_3:findIn K (.ref z11) "__setattr__"=some (some (.builtin "object.__setattr__")))(y57_4:findIn K (.ref z11) "__class__"=some (some (.builtin "object.__class__")))(y57_5:specialIn K (.builtin "object.__class__") "__get__"=some (some (.builtin "getset_descriptor.__get__")))(y57_6:takesIn K (.builtin "object.__class__")=some true)(y57_7:mroIn K z11 (.type "object")=some true)(y58_0:plainGet K z13 Str.empty=true)(y58_1:hasDictIn K z13=true)(y58_2:plainOver K z13=true)(y58_3:findIn K (.ref z13) "__setattr__"=some (some (.builtin "object.__setattr__")))(y58_4:findIn K (.ref z13) "__class__"=some (some (.builtin "object.__class__")))(y58_5:specialIn K (.builtin "object.__class__") "__get__"=some (some (.builtin "getset_descriptor.__get__")))(y58_6:takesIn K (.builtin "object.__class__")=some true)(y58_7:mroIn K z13 (.type "object")=some true)(y59:findIn K (.ref z13) "fit"=some none)(y60:findIn K (.ref z13) "way"=some none)(y61:findIn K (.ref z13) "roads"=some none)(y62:findIn K (.ref z13) "sure"=some none)(y63:findIn K (.ref z13) "raised"=some none)(y64_0:plainGet K z14 Str.empty=true)(y64_1:hasDictIn K z14=true)(y64_2:plainOver K z14=true)(y64_3:findIn K (.ref z14) "__setattr__"=some (some (.builtin "object.__setattr__")))(y64_4:findIn K (.ref z14) "__class__"=some (some (.builtin "object.__class__")))(y64_5:specialIn K (.builtin "object.__class__") "__get__"=some (some (.builtin "getset_descriptor.__get__")))(y64_6:takesIn K (.builtin "object.__class__")=some true)(y64_7:mroIn K z14 (.type "object")=some true)(y65:findIn K (.ref z14) "zone"=some none)(y66:findIn K (.ref z14) "quiet"=some none)(y67:findIn K (.ref z14) "wake"=some none)(y68:findIn K (.ref z14) "lines"=some none)(y69:kitOne K (.ref z0) (.ref z0)=some true)(y70:kitOne K (.ref z10) (.ref z9)=some true)(y71:kitOne K (.ref z11) (.ref z9)=some true)(y72:kitOne K (.ref z10) (.ref z11)=some false)(y73:kitOne K (.ref z11) (.ref z11)=some true)(y74:kitOne K (.ref z13) (.ref z13)=some true)(y75_0:makesIn K z10=true)(y75_1:findIn K (.ref z10) "__init__"=some (some (.builtin "object.__init__")))(y75_2:keepIn K (.ref z10)=true)(y76_0:makesIn K z11=true)(y76_1:findIn K (.ref z11) "__init__"=some (some (.builtin "object.__init__")))(y76_2:keepIn K (.ref z11)=true)(mkHappening:makesIn K z0=true)(kcHappening:keepIn K (.ref z0)=true)(mkKind:makesIn K z3=true)(kcKind:keepIn K (.ref z3)=true)(mkPlace:makesIn K z4=true)(kcPlace:keepIn K (.ref z4)=true)(mkLeast:makesIn K z5=true)(kcLeast:keepIn K (.ref z5)=true)(mkNot:makesIn K z6=true)(kcNot:keepIn K (.ref z6)=true)(mkBoth:makesIn K z7=true)(kcBoth:keepIn K (.ref z7)=true)(mkEither:makesIn K z8=true)(kcEither:keepIn K (.ref z8)=true)(mkLine:makesIn K z13=true)(kcLine:keepIn K (.ref z13)=true)(mkWishes:makesIn K z14=true)(kcWishes:keepIn K (.ref z14)=true) :
  ∃ (a:Ad) (fd:FuncData),(∀ (s:Shared) (v:Value),BindsTo s fd ⟨[v],[]⟩ [("_law_script",v)])/\∀ base:Heap,K.In base->base.Ns mainGlobals mg->FnOk l.prog w K mg base CX0 13 fa fd ["_law_script"] (AK4 K a):=by
 have e:=hfa.symm.trans (mg_of X G a61)
 cases e
 have B:Bt K mg ⟨z0,z1,z2,z3,z4,z5,z6,z7,z8,z9,z10,z11,z12,z13,z14,t0,t1,t2⟩:=⟨mg_none_of X G y0,mg_none_of X G y1,mg_none_of X G y2,mg_none_of X G y3,mg_none_of X G y4,mg_none_of X G y5,mg_none_of X G y6,mg_none_of X G y7,mg_none_of X G y8,mg_none_of X G y9,mg_none_of X G y10,mg_none_of X G y11,mg_none_of X G y12,mg_of X G y13,mg_of X G y14,mg_of X G y15,mg_of X G y16,mg_of X G y17,mg_of X G y18,mg_of X G y19,mg_of X G y20,mg_of X G y21,mg_of X G y22,mg_of X G y23,mg_of X G y24,mg_of X G y25,mg_of X G y26,mg_of X G y27,mg_of X G y28,mg_of X G y29,mg_of X G y30,⟨⟨y31_0,y31_1,y31_2,y31_3⟩,y31_4,y31_5,y31_6,y31_7⟩,⟨⟨y32_0,y32_1,y32_2,y32_3⟩,y32_4,y32_5,y32_6,y32_7⟩,y33,⟨⟨y34_0,y34_1,y34_2,y34_3⟩,y34_4,y34_5,y34_6,y34_7⟩,y35,⟨⟨y36_0,y36_1,y36_2,y36_3⟩,y36_4,y36_5,y36_6,y36_7⟩,y37,⟨⟨y38_0,y38_1,y38_2,y38_3⟩,y38_4,y38_5,y38_6,y38_7⟩,y39,⟨⟨y40_0,y40_1,y40_2,y40_3⟩,y40_4,y40_5,y40_6,y40_7⟩,y41,⟨⟨y42_0,y42_1,y42_2,y42_3⟩,y42_4,y42_5,y42_6,y42_7⟩,y43,⟨⟨y44_0,y44_1,y44_2,y44_3⟩,y44_4,y44_5,y44_6,y44_7⟩,y45,y46,y47,y48,y49,y50,y51,y52,y53,y54,⟨y55_0,y55_1,y55_2⟩,⟨⟨y56_0,y56_1,y56_2,y56_3⟩,y56_4,y56_5,y56_6,y56_7⟩,⟨⟨y57_0,y57_1,y57_2,y57_3⟩,y57_4,y57_5,y57_6,y57_7⟩,⟨⟨y58_0,y58_1,y58_2,y58_3⟩,y58_4,y58_5,y58_6,y58_7⟩,y59,y60,y61,y62,y63,⟨⟨y64_0,y64_1,y64_2,y64_3⟩,y64_4,y64_5,y64_6,y64_7⟩,y65,y66,y67,y68,y69,y70,y71,y72,y73,y74,⟨y75_0,y75_1,y75_2⟩,⟨y76_0,y76_1,y76_2⟩⟩
 have F0:=aZ (st:=gN) l0 c0 k0
 have b0:=F0.binds (ps:=["thing"]) (by walk_at "b1")
 have F1:=aZ (st:=bW) l1 c1 k1
 have b1:=F1.binds (ps:=["thing","least","most"]) (by walk_at "b3")
 have F2:=aZ (st:=dG) l2 c2 k2
 have b2:=F2.binds (ps:=["thing","least"]) (by walk_at "b2")
 have F3:=aZ (st:=cQ) l3 c3 k3
 have b3:=F3.binds (ps:=["thing"]) (by walk_at "b1")
 have F4:=aZ (st:=eS) l4 c4 k4
 have b4:=F4.binds (ps:=["zone"]) (by walk_at "b1")
 have F5:=aZ (st:=eA) l5 c5 k5
 have b5:=F5.binds (ps:=["quiet"]) (by walk_at "b1")
 have F6:=aZ (st:=iK) l6 c6 k6
 have b6:=F6.binds (ps:=["thing"]) (by walk_at "b1")
 have F7:=aZ (st:=bM) l7 c7 k7
 have b7:=F7.binds (ps:=["self","kind","place","weight"]) (by walk_at "b4")
 have F8:=aZ (st:=bX) l8 c8 k8
 have b8:=F8.binds (ps:=["thing"]) (by walk_at "b1")
 have F9:=aZ (st:=dN) l9 c9 k9
 have b9:=F9.binds (ps:=["number"]) (by walk_at "b1")
 have F10:=aZ (st:=eB) l10 c10 k10
 have b10:=F10.binds (ps:=["taken"]) (by walk_at "b1")
 have F11:=aZ (st:=cR) l11 c11 k11
 have b11:=F11.binds (ps:=["self","kinds","places","weights"]) (by walk_at "b4")
 have F12:=aZ (st:=cG) l12 c12 k12
 have b12:=F12.binds (ps:=["self","kind","place","from_weight"]) (by walk_at "b4")
 have F13:=aZ (st:=dH) l13 c13 k13
 have b13:=F13.binds (ps:=["self","names"]) (by walk_at "b2")
 have F14:=aZ (st:=cH) l14 c14 k14
 have b14:=F14.binds (ps:=["self","kinds","places","weights"]) (by walk_at "b4")
 have F15:=aZ (st:=bY) l15 c15 k15
 have b15:=F15.binds (ps:=["self","kind","place","from_weight"]) (by walk_at "b4")
 have F16:=aZ (st:=cS) l16 c16 k16
 have b16:=F16.binds (ps:=["self","names"]) (by walk_at "b2")
 have F17:=aZ (st:=bZ) l17 c17 k17
 have b17:=F17.binds (ps:=["self","kinds","places","weights"]) (by walk_at "b4")
 have F18:=aZ (st:=bP) l18 c18 k18
 have b18:=F18.binds (ps:=["self","kind","place","from_weight"]) (by walk_at "b4")
 have F19:=aZ (st:=cT) l19 c19 k19
 have b19:=F19.binds (ps:=["self","weight"]) (by walk_at "b2")
 have F20:=aZ (st:=cA) l20 c20 k20
 have b20:=F20.binds (ps:=["self","kinds","places","weights"]) (by walk_at "b4")
 have F21:=aZ (st:=bQ) l21 c21 k21
 have b21:=F21.binds (ps:=["self","kind","place","from_weight"]) (by walk_at "b4")
 have F22:=aZ (st:=dO) l22 c22 k22
 have b22:=F22.binds (ps:=["self","fit"]) (by walk_at "b2")
 have F23:=aZ (st:=cU) l23 c23 k23
 have b23:=F23.binds (ps:=["self","kinds","places","weights"]) (by walk_at "b4")
 have F24:=aZ (st:=cI) l24 c24 k24
 have b24:=F24.binds (ps:=["self","kind","place","from_weight"]) (by walk_at "b4")
 have F25:=aZ (st:=dI) l25 c25 k25
 have b25:=F25.binds (ps:=["self","fits"]) (by walk_at "b2")
 have F26:=aZ (st:=cJ) l26 c26 k26
 have b26:=F26.binds (ps:=["self","kinds","places","weights"]) (by walk_at "b4")
 have F27:=aZ (st:=cB) l27 c27 k27
 have b27:=F27.binds (ps:=["self","kind","place","from_weight"]) (by walk_at "b4")
 have F28:=aZ (st:=cK) l28 c28 k28
 have b28:=F28.binds (ps:=["self","fits"]) (by walk_at "b2")
 have F29:=aZ (st:=bR) l29 c29 k29
 have b29:=F29.binds (ps:=["self","kinds","places","weights"]) (by walk_at "b4")
 have F30:=aZ (st:=bN) l30 c30 k30
 have b30:=F30.binds (ps:=["self","kind","place","from_weight"]) (by walk_at "b4")
 have F31:=aZ (st:=eC) l31 c31 k31
 have b31:=F31.binds (ps:=["names"]) (by walk_at "b1")
 have F32:=aZ (st:=fK) l32 c32 k32
 have b32:=F32.binds (ps:=["fit"]) (by walk_at "b1")
 have F33:=aZ (st:=eU) l33 c33 k33
 have b33:=F33.binds (ps:=["fits"]) (by walk_at "b1")
 have F34:=aZ (st:=sS) l34 c34 k34
 have b34:=F34.binds (ps:=["marks","things"]) (by walk_at "b2")
 have F35:=aZ (st:=jW) l35 c35 k35
 have b35:=F35.binds (ps:=["fits"]) (by walk_at "b1")
 have F36:=aZ (st:=bS) l36 c36 k36
 have b36:=F36.binds (ps:=["falling"]) (by walk_at "b1")
 have F37:=aZ (st:=eE) l37 c37 k37
 have b37:=F37.binds (ps:=["found","fits","kind","place","from_weight"]) (by walk_at "b5")
 have F38:=AG7 (st:=bK) l38 c38
 have b38_3:Binds K _ ["self","fit","way","roads","sure","raised"] [.bool false,.none]:=AG8 (fd:=fnOf "__init__" "Line.__init__" (aN bK) (aM bK) (aB bK) (.ref T38) kV38 dc38 pm38 an38 cd38 ct38) 4 rfl fun s us X hl=>match us,hl with | [_,_,_,_],_=>by first | exact .of_eq rfl | exact binds_K X rfl d38 rfl rfl rfl
 have F39:=aZ (st:=dP) l39 c39 k39
 have b39:=F39.binds (ps:=["way","roads","sure","raised"]) (by walk_at "b4")
 have F40:=AG7 (st:=bA) l40 c40
 have b40_4:Binds K _ ["self","zone","quiet","wake","lines"] []:=AG8 (fd:=fnOf "__init__" "Wishes.__init__" (aN bA) (aM bA) (aB bA) (.ref T40) kV40 dc40 pm40 an40 cd40 ct40) 5 rfl fun s us X hl=>match us,hl with | [_,_,_,_,_],_=>by first | exact .of_eq rfl | exact binds_K X rfl d40 rfl rfl rfl
 have b40_0:Binds K _ ["self","zone","quiet","wake","lines"] [.int 0 dt40_0,.none,.none,.none]:=AG8 (fd:=fnOf "__init__" "Wishes.__init__" (aN bA) (aM bA) (aB bA) (.ref T40) kV40 dc40 pm40 an40 cd40 ct40) 1 rfl fun s us X hl=>match us,hl with | [_],_=>by first | exact .of_eq rfl | exact binds_K X rfl d40 rfl rfl rfl
 have F41:=aZ (st:=dJ) l41 c41 k41
 have b41:=F41.binds (ps:=["self","number"]) (by walk_at "b2")
 have F42:=aZ (st:=eF) l42 c42 k42
 have b42:=F42.binds (ps:=["self"]) (by walk_at "b1")
 have F43:=aZ (st:=eV) l43 c43 k43
 have b43:=F43.binds (ps:=["wake","quiet"]) (by walk_at "b2")
 have F44:=aZ (st:=eH) l44 c44 k44
 have b44:=F44.binds (ps:=["lines"]) (by walk_at "b1")
 have F45:=aZ (st:=eI) l45 c45 k45
 have b45:=F45.binds (ps:=["_law_script","_law_k"]) (by walk_at "b2")
 have F46:=aZ (st:=fL) l46 c46 k46
 have b46:=F46.binds (ps:=["_law_cell"]) (by walk_at "b1")
 have F47:=aZ (st:=gO) l47 c47 k47
 have b47:=F47.binds (ps:=["_law_state","_law_base"]) (by walk_at "b2")
 have F48:=aZ (st:=gP) l48 c48 k48
 have b48:=F48.binds (ps:=["_law_state"]) (by walk_at "b1")
 have F49:=aZ (st:=gQ) l49 c49 k49
 have b49:=F49.binds (ps:=["_law_state","_law_more"]) (by walk_at "b2")
 have F50:=aZ (st:=gR) l50 c50 k50
 have b50:=F50.binds (ps:=["_law_state","_law_deep","_law_more"]) (by walk_at "b3")
 have F51:=aZ (st:=gS) l51 c51 k51
 have b51:=F51.binds (ps:=["_law_tree_here"]) (by walk_at "b1")
 have F52:=aZ (st:=gT) l52 c52 k52
 have b52:=F52.binds (ps:=["_law_tree_here","_law_thing"]) (by walk_at "b2")
 have F53:=aZ (st:=dQ) l53 c53 k53
 have b53:=F53.binds (ps:=["_law_tree_here","_law_word"]) (by walk_at "b2")
 have F54:=aZ (st:=eX) l54 c54 k54
 have b54:=F54.binds (ps:=["_law_names"]) (by walk_at "b1")
 have F55:=aZ (st:=iL) l55 c55 k55
 have b55:=F55.binds (ps:=["_law_trees_here"]) (by walk_at "b1")
 have F56:=aZ (st:=gU) l56 c56 k56
 have b56:=F56.binds (ps:=["_law_trees_here"]) (by walk_at "b1")
 have F57:=aZ (st:=fM) l57 c57 k57
 have b57:=F57.binds (ps:=["_law_state"]) (by walk_at "b1")
 have F58:=aZ (st:=gW) l58 c58 k58
 have b58:=F58.binds (ps:=["_law_trees_here","_law_number","_law_thing"]) (by walk_at "b3")
 have F59:=aZ (st:=fN) l59 c59 k59
 have b59:=F59.binds (ps:=["_law_found","_law_trees_here","_law_number","_law_some"]) (by walk_at "b4")
 have F60:=aZ (st:=gX) l60 c60 k60
 have b60:=F60.binds (ps:=["_law_state","_law_tree_here"]) (by walk_at "b2")
 have F61:=aZ (st:=tY) l61 c61 k61
 have b61:=F61.binds (ps:=["_law_script"]) (by walk_at "b1")
 refine ⟨(⟨z0,z1,z2,z3,z4,z5,z6,z7,z8,z9,z10,z11,z12,z13,z14,t0,t1,t2⟩:Ad),fnOf "law" "law" (aN tY) (aM tY) (aB tY) .none kV61 dc61 pm61 an61 cd61 ct61,fun s v=>.of_eq rfl,fun base _ _=>?_⟩
 have AB2:FnOk l.prog w K mg base (CXF l.prog w) 1 _ _ _ _:=FnOk.up (xT B  F0)
 have gY:CalX l.prog w K mg base _ _ 1 _:=⟨_,_,AB2,b0,k0,mg_of X G a0⟩
 have pJ:FnOk l.prog w K mg base (CXF l.prog w) 1 _ _ _ _:=FnOk.up (oH B  F3)
 have gF:CalX l.prog w K mg base _ _ 1 _:=⟨_,_,pJ,b3,k3,mg_of X G a3⟩
 have AL3:FnOk l.prog w K mg base (CXF l.prog w) 1 _ _ _ _:=FnOk.up (AB0 B  F6)
 have hX:CalX l.prog w K mg base _ _ 1 _:=⟨_,_,AL3,b6,k6,mg_of X G a6⟩
 have sA:FnOk l.prog w K mg base (CXF l.prog w) 1 _ _ _ _:=FnOk.up (qW B  F9)
 have fZ:CalX l.prog w K mg base _ _ 1 _:=⟨_,_,sA,b9,k9,mg_of X G a9⟩
 have yG:FnOk l.prog w K mg base (CXF l.prog w) 1 _ _ _ _:=FnOk.up (vY B  F32)
 have fU:CalX l.prog w K mg base _ _ 1 _:=⟨_,_,yG,b32,k32,mg_of X G a32⟩
 have BG9:FnOk l.prog w K mg base (CXF l.prog w) 1 _ _ _ _:=FnOk.up (BA3 B  F34)
 have nH:CalX l.prog w K mg base _ _ 1 _:=⟨_,_,BG9,b34,k34,mg_of X G a34⟩
 have lW:FnOk l.prog w K mg base (CXF l.prog w) 1 _ _ _ _:=FnOk.up (kJ B  F36)
 have eR:CalX l.prog w K mg base _ _ 1 _:=⟨_,_,lW,b36,k36,mg_of X G a36⟩
 have sB:FnOk l.prog w K mg base (CXF l.prog w) 1 _ _ _ _:=FnOk.up (qY B  F39)
 have iF:CalX l.prog w K mg base _ _ 1 _:=⟨_,_,sB,b39,k39,mg_of X G a39⟩
 have uJ:FnOk l.prog w K mg base (CXF l.prog w) 1 _ _ _ _:=FnOk.up (rY B  F44)
 have iV:CalX l.prog w K mg base _ _ 1 _:=⟨_,_,uJ,b44,k44,mg_of X G a44⟩
 have uK:FnOk l.prog w K mg base (CXF l.prog w) 1 _ _ _ _:=FnOk.up (rS B  F45)
 have gM:CalX l.prog w K mg base _ _ 1 _:=⟨_,_,uK,b45,k45,mg_of X G a45⟩
 have yH:FnOk l.prog w K mg base (CXF l.prog w) 1 _ _ _ _:=FnOk.up (vX B  F46)
 have lT:CalX l.prog w K mg base _ _ 1 _:=⟨_,_,yH,b46,k46,mg_of X G a46⟩
 have AB3:FnOk l.prog w K mg base (CXF l.prog w) 1 _ _ _ _:=FnOk.up (xU B  F47)
 have aU:CalX l.prog w K mg base _ _ 1 _:=⟨_,_,AB3,b47,k47,mg_of X G a47⟩
 have wD:FnOk l.prog w K mg base (CXF l.prog w) 1 _ _ _ _:=FnOk.up (uF B  F54)
 have iB:CalX l.prog w K mg base _ _ 1 _:=⟨_,_,wD,b54,k54,mg_of X G a54⟩
 have nI:FnOk l.prog w K mg base (CXF l.prog w) 2 _ _ _ _:=FnOk.up (lS B gY F1)
 have fG:CalX l.prog w K mg base _ _ 2 _:=⟨_,_,nI,b1,k1,mg_of X G a1⟩
 have rD:FnOk l.prog w K mg base (CXF l.prog w) 2 _ _ _ _:=FnOk.up (pD B gY F2)
 have bL:CalX l.prog w K mg base _ _ 2 _:=⟨_,_,rD,b2,k2,mg_of X G a2⟩
 have uL:FnOk l.prog w K mg base (CXF l.prog w) 2 _ _ _ _:=FnOk.up (rX B gF F5)
 have iU:CalX l.prog w K mg base _ _ 2 _:=⟨_,_,uL,b5,k5,mg_of X G a5⟩
 have nJ:FnOk l.prog w K mg base (CXF l.prog w) 2 _ _ _ _:=FnOk.up (lM B hX F8)
 have cC:CalX l.prog w K mg base _ _ 2 _:=⟨_,_,nJ,b8,k8,mg_of X G a8⟩
 have uM:FnOk l.prog w K mg base (CXF l.prog w) 2 _ _ _ _:=FnOk.up (rV B fZ F10)
 have gL:CalX l.prog w K mg base _ _ 2 _:=⟨_,_,uM,b10,k10,mg_of X G a10⟩
 have sC:FnOk l.prog w K mg base (CXF l.prog w) 2 _ _ _ _:=FnOk.up (qU B fU F22)
 have AL2:CalC l.prog w K mg base "Not" z6 ["self","fit"] 2 (hU K _):=⟨_,_,sC,b22,⟨mkNot,a22,i22,kcNot⟩,B.Not⟩
 have wE:FnOk l.prog w K mg base (CXF l.prog w) 2 _ _ _ _:=FnOk.up (uA B fU F33)
 have eY:CalX l.prog w K mg base _ _ 2 _:=⟨_,_,wE,b33,k33,mg_of X G a33⟩
 have AB4:FnOk l.prog w K mg base (CXF l.prog w) 2 _ _ _ _:=FnOk.up (xV B aU F48)
 have jY:CalX l.prog w K mg base _ _ 2 _:=⟨_,_,AB4,b48,k48,mg_of X G a48⟩
 have wF:FnOk l.prog w K mg base (CXF l.prog w) 3 _ _ _ _:=FnOk.up (uD B fG F4)
 have jQ:CalX l.prog w K mg base _ _ 3 _:=⟨_,_,wF,b4,k4,mg_of X G a4⟩
 have kO:FnOk l.prog w K mg base (CXF l.prog w) 3 _ _ _ _:=FnOk.up (jN B bL hX F7)
 have jP:CalC l.prog w K mg base "Happening" z0 ["self","kind","place","weight"] 3 (dY K _):=⟨_,_,kO,b7,⟨mkHappening,a7,i7,kcHappening⟩,B.Happening⟩
 have pK:FnOk l.prog w K mg base (CXF l.prog w) 3 _ _ _ _:=FnOk.up (oE B bL F19)
 have uI:CalC l.prog w K mg base "Least" z5 ["self","weight"] 3 (fQ K _):=⟨_,_,pK,b19,⟨mkLeast,a19,i19,kcLeast⟩,B.Least⟩
 have rE:FnOk l.prog w K mg base (CXF l.prog w) 3 _ _ _ _:=FnOk.up (pF B eY F25)
 have yF:CalC l.prog w K mg base "Both" z7 ["self","fits"] 3 (gD K _):=⟨_,_,rE,b25,⟨mkBoth,a25,i25,kcBoth⟩,B.Both⟩
 have oN:FnOk l.prog w K mg base (CXF l.prog w) 3 _ _ _ _:=FnOk.up (mZ B eY F28)
 have rB:CalC l.prog w K mg base "Either" z8 ["self","fits"] 3 (fE K _):=⟨_,_,oN,b28,⟨mkEither,a28,i28,kcEither⟩,B.Either⟩
 have uN:FnOk l.prog w K mg base (CXF l.prog w) 3 _ _ _ _:=FnOk.up (rT B cC F31)
 have eJ:CalX l.prog w K mg base _ _ 3 _:=⟨_,_,uN,b31,k31,mg_of X G a31⟩
 have rF:FnOk l.prog w K mg base (CXF l.prog w) 3 _ _ _ _:=FnOk.up (pG B iF cC F38)
 have CD_Line_3:CalD l.prog w K mg base "Line" z13 ["self","fit","way","roads","sure","raised"] 3 [.bl false,.non] (gE K (⟨z0,z1,z2,z3,z4,z5,z6,z7,z8,z9,z10,z11,z12,z13,z14,t0,t1,t2⟩:Ad)):=⟨_,_,_,rF,b38_3,(.cons rfl (.cons rfl .nil)),⟨mkLine,a38,i38,kcLine⟩,B.Line⟩
 have wG:FnOk l.prog w K mg base (CXF l.prog w) 3 _ _ _ _:=FnOk.up (uE B bL F43)
 have jR:CalX l.prog w K mg base _ _ 3 _:=⟨_,_,wG,b43,k43,mg_of X G a43⟩
 have AB5:FnOk l.prog w K mg base (CXF l.prog w) 3 _ _ _ _:=FnOk.up (xW B aU jY F49)
 have oI:CalX l.prog w K mg base _ _ 3 _:=⟨_,_,AB5,b49,k49,mg_of X G a49⟩
 have rG:FnOk l.prog w K mg base (CXF l.prog w) 4 _ _ _ _:=FnOk.up (pE B eJ F13)
 have yE:CalC l.prog w K mg base "Kind" z3 ["self","names"] 4 (gC K _):=⟨_,_,rG,b13,⟨mkKind,a13,i13,kcKind⟩,B.Kind⟩
 have pM:FnOk l.prog w K mg base (CXF l.prog w) 4 _ _ _ _:=FnOk.up (oC B eJ F16)
 have uH:CalC l.prog w K mg base "Place" z4 ["self","names"] 4 (fP K _):=⟨_,_,pM,b16,⟨mkPlace,a16,i16,kcPlace⟩,B.Place⟩
 have iN:FnOk l.prog w K mg base (CXF l.prog w) 4 _ _ _ _:=FnOk.up (nG B jQ iU jR iV F40)
 have CD_Wishes_4:CalD l.prog w K mg base "Wishes" z14 ["self","zone","quiet","wake","lines"] 4 [] (cZ K (⟨z0,z1,z2,z3,z4,z5,z6,z7,z8,z9,z10,z11,z12,z13,z14,t0,t1,t2⟩:Ad)):=⟨_,_,_,iN,b40_4,.nil,⟨mkWishes,a40,i40,kcWishes⟩,B.Wishes⟩
 have CD_Wishes_0:CalD l.prog w K mg base "Wishes" z14 ["self","zone","quiet","wake","lines"] 4 [.int 0,.non,.non,.non] (cZ K (⟨z0,z1,z2,z3,z4,z5,z6,z7,z8,z9,z10,z11,z12,z13,z14,t0,t1,t2⟩:Ad)):=⟨_,_,_,iN,b40_0,(.cons ⟨_,rfl⟩ (.cons rfl (.cons rfl (.cons rfl .nil)))),⟨mkWishes,a40,i40,kcWishes⟩,B.Wishes⟩
 have rH:∀ d C sp,dE K (⟨z0,z1,z2,z3,z4,z5,z6,z7,z8,z9,z10,z11,z12,z13,z14,t0,t1,t2⟩:Ad) d C sp->CalM l.prog w K mg base C "weight_bits" ["self","kind","place","from_weight"] (0+d) sp:=by
  intro d
  induction d with
  | zero =>
   rintro C sp ⟨t,rfl,rfl⟩
   cases t with
   | any=>exact ⟨⟨_,_,FnOk.nev cN,b12,⟨a12,i12,k12⟩,B.ck_Any.cl⟩⟩
   | kind us=>exact ⟨⟨_,_,FnOk.nev cN,b15,⟨a15,i15,k15⟩,B.ck_Kind.cl⟩⟩
   | place us=>exact ⟨⟨_,_,FnOk.nev cN,b18,⟨a18,i18,k18⟩,B.ck_Place.cl⟩⟩
   | weight n=>exact ⟨⟨_,_,FnOk.nev cN,b21,⟨a21,i21,k21⟩,B.ck_Least.cl⟩⟩
   | not t=>exact ⟨⟨_,_,FnOk.nev cN,b24,⟨a24,i24,k24⟩,B.ck_Not.cl⟩⟩
   | both ts=>exact ⟨⟨_,_,FnOk.nev cN,b27,⟨a27,i27,k27⟩,B.ck_Both.cl⟩⟩
   | either ts=>exact ⟨⟨_,_,FnOk.nev cN,b30,⟨a30,i30,k30⟩,B.ck_Either.cl⟩⟩
  | succ d ih =>
   rintro C sp ⟨t,rfl,rfl⟩
   cases t with
   | any=>exact ⟨⟨_,_,FnOk.up (nE (P:=l.prog) (w:=w) (base:=base) (Nat.le_add_right _ _) B  F12),b12,⟨a12,i12,k12⟩,B.ck_Any.cl⟩⟩
   | kind us=>exact ⟨⟨_,_,FnOk.up (lQ (P:=l.prog) (w:=w) (base:=base) (Nat.le_add_right _ _) B  F15),b15,⟨a15,i15,k15⟩,B.ck_Kind.cl⟩⟩
   | place us=>exact ⟨⟨_,_,FnOk.up (kM (P:=l.prog) (w:=w) (base:=base) (Nat.le_add_right _ _) B  F18),b18,⟨a18,i18,k18⟩,B.ck_Place.cl⟩⟩
   | weight n=>exact ⟨⟨_,_,FnOk.up (kN (P:=l.prog) (w:=w) (base:=base) (Nat.le_add_right _ _) B  F21),b21,⟨a21,i21,k21⟩,B.ck_Least.cl⟩⟩
   | not t=>exact ⟨⟨_,_,FnOk.up (nF (P:=l.prog) (w:=w) (base:=base) (Nat.le_add_right _ _) B ih F24),b24,⟨a24,i24,k24⟩,B.ck_Not.cl⟩⟩
   | both ts=>exact ⟨⟨_,_,FnOk.up (lR (P:=l.prog) (w:=w) (base:=base) (Nat.le_add_right _ _) B ih F27),b27,⟨a27,i27,k27⟩,B.ck_Both.cl⟩⟩
   | either ts=>exact ⟨⟨_,_,FnOk.up (jO (P:=l.prog) (w:=w) (base:=base) (Nat.le_add_right _ _) B ih F30),b30,⟨a30,i30,k30⟩,B.ck_Either.cl⟩⟩
 have bV:∀ C sp,dE K (⟨z0,z1,z2,z3,z4,z5,z6,z7,z8,z9,z10,z11,z12,z13,z14,t0,t1,t2⟩:Ad) 6 C sp->CalM l.prog w K mg base C "weight_bits" ["self","kind","place","from_weight"] 6 sp:=fun C sp h=>rH 6 C sp h
 have fV:CalX l.prog w K mg base "_law_tree" ["_law_state","_law_deep","_law_more"] 6 (fR K _ 3):=tS (spf:=fR K _) (n0:=3) vT b50 k50 (mg_of X G a50) (fun d n hn C=>FnOk.up (xX (P:=l.prog) (w:=w) (base:=base) hn B aU oI C F50)) 3 (by decide)
 have fA:CalX l.prog w K mg base "_law_fits" ["_law_tree_here","_law_thing"] 6 (fT K _ 6):=tS (spf:=fT K _) (n0:=0) vV b52 k52 (mg_of X G a52) (fun d n hn C=>FnOk.up (xZ (P:=l.prog) (w:=w) (base:=base) hn B C F52)) 6 (by decide)
 have sD:∀ d C sp,dM K (⟨z0,z1,z2,z3,z4,z5,z6,z7,z8,z9,z10,z11,z12,z13,z14,t0,t1,t2⟩:Ad) d C sp->CalM l.prog w K mg base C "note_turns" ["self","kinds","places","weights"] (1+d) sp:=by
  intro d
  induction d with
  | zero =>
   rintro C sp ⟨t,rfl,rfl⟩
   cases t with
   | any=>exact ⟨⟨_,_,FnOk.nev dD,b11,⟨a11,i11,k11⟩,B.ck_Any.cl⟩⟩
   | kind us=>exact ⟨⟨_,_,FnOk.nev dD,b14,⟨a14,i14,k14⟩,B.ck_Kind.cl⟩⟩
   | place us=>exact ⟨⟨_,_,FnOk.nev dD,b17,⟨a17,i17,k17⟩,B.ck_Place.cl⟩⟩
   | weight n=>exact ⟨⟨_,_,FnOk.nev dD,b20,⟨a20,i20,k20⟩,B.ck_Least.cl⟩⟩
   | not t=>exact ⟨⟨_,_,FnOk.nev dD,b23,⟨a23,i23,k23⟩,B.ck_Not.cl⟩⟩
   | both ts=>exact ⟨⟨_,_,FnOk.nev dD,b26,⟨a26,i26,k26⟩,B.ck_Both.cl⟩⟩
   | either ts=>exact ⟨⟨_,_,FnOk.nev dD,b29,⟨a29,i29,k29⟩,B.ck_Either.cl⟩⟩
  | succ d ih =>
   rintro C sp ⟨t,rfl,rfl⟩
   cases t with
   | any=>exact ⟨⟨_,_,FnOk.up (oF (P:=l.prog) (w:=w) (base:=base) (Nat.le_add_right _ _) B  F11),b11,⟨a11,i11,k11⟩,B.ck_Any.cl⟩⟩
   | kind us=>exact ⟨⟨_,_,FnOk.up (nB (P:=l.prog) (w:=w) (base:=base) (Nat.le_add_right _ _) B nH F14),b14,⟨a14,i14,k14⟩,B.ck_Kind.cl⟩⟩
   | place us=>exact ⟨⟨_,_,FnOk.up (lO (P:=l.prog) (w:=w) (base:=base) (Nat.le_add_right _ _) B nH F17),b17,⟨a17,i17,k17⟩,B.ck_Place.cl⟩⟩
   | weight n=>exact ⟨⟨_,_,FnOk.up (lP (P:=l.prog) (w:=w) (base:=base) (Nat.le_add_right _ _) B nH F20),b20,⟨a20,i20,k20⟩,B.ck_Least.cl⟩⟩
   | not t=>exact ⟨⟨_,_,FnOk.up (oG (P:=l.prog) (w:=w) (base:=base) (Nat.le_add_right _ _) B ih F23),b23,⟨a23,i23,k23⟩,B.ck_Not.cl⟩⟩
   | both ts=>exact ⟨⟨_,_,FnOk.up (nC (P:=l.prog) (w:=w) (base:=base) (Nat.le_add_right _ _) B ih F26),b26,⟨a26,i26,k26⟩,B.ck_Both.cl⟩⟩
   | either ts=>exact ⟨⟨_,_,FnOk.up (kK (P:=l.prog) (w:=w) (base:=base) (Nat.le_add_right _ _) B ih F29),b29,⟨a29,i29,k29⟩,B.ck_Either.cl⟩⟩
 have cF:∀ C sp,dM K (⟨z0,z1,z2,z3,z4,z5,z6,z7,z8,z9,z10,z11,z12,z13,z14,t0,t1,t2⟩:Ad) 6 C sp->CalM l.prog w K mg base C "note_turns" ["self","kinds","places","weights"] 7 sp:=fun C sp h=>sD 6 C sp h
 have uO:FnOk l.prog w K mg base (CXF l.prog w) 7 _ _ _ _:=FnOk.up (rW B bV jP F37)
 have iT:CalX l.prog w K mg base _ _ 7 _:=⟨_,_,uO,b37,k37,mg_of X G a37⟩
 have bF:CalX l.prog w K mg base "_law_gathered" ["_law_tree_here","_law_word"] 7 (cO K _ 7):=tS (spf:=cO K _) (n0:=0) pC b53 k53 (mg_of X G a53) (fun d n hn C=>FnOk.up (qV (P:=l.prog) (w:=w) (base:=base) hn B C F53)) 7 (by decide)
 have AB6:FnOk l.prog w K mg base (CXF l.prog w) 7 _ _ _ _:=FnOk.up (yC B fA F58)
 have kB:CalX l.prog w K mg base _ _ 7 _:=⟨_,_,AB6,b58,k58,mg_of X G a58⟩
 have AR4:FnOk l.prog w K mg base (CXF l.prog w) 8 _ _ _ _:=FnOk.up (AK8 B eR cF gL iT F35)
 have jZ:CalX l.prog w K mg base _ _ 8 _:=⟨_,_,AR4,b35,k35,mg_of X G a35⟩
 have AL4:FnOk l.prog w K mg base (CXF l.prog w) 8 _ _ _ _:=FnOk.up (AB1 B iB bF F55)
 have rC:CalX l.prog w K mg base _ _ 8 _:=⟨_,_,AL4,b55,k55,mg_of X G a55⟩
 have AB7:FnOk l.prog w K mg base (CXF l.prog w) 8 _ _ _ _:=FnOk.up (yB B bF F56)
 have oJ:CalX l.prog w K mg base _ _ 8 _:=⟨_,_,AB7,b56,k56,mg_of X G a56⟩
 have yI:FnOk l.prog w K mg base (CXF l.prog w) 8 _ _ _ _:=FnOk.up (wA B kB F59)
 have lV:CalX l.prog w K mg base _ _ 8 _:=⟨_,_,yI,b59,k59,mg_of X G a59⟩
 have rJ:FnOk l.prog w K mg base (CXF l.prog w) 9 _ _ _ _:=FnOk.up (pI B jZ F41)
 have uP:FnOk l.prog w K mg base (CXF l.prog w) 9 _ _ _ _:=FnOk.up (rZ B jZ F42)
 have yJ:FnOk l.prog w K mg base (CXF l.prog w) 9 _ _ _ _:=FnOk.up (vZ B fV aU oJ F57)
 have lU:CalX l.prog w K mg base _ _ 9 _:=⟨_,_,yJ,b57,k57,mg_of X G a57⟩
 have eZ:CalX l.prog w K mg base "_law_made" ["_law_tree_here"] 11 (fS K _ 6):=tS (spf:=fS K _) (n0:=5) vU b51 k51 (mg_of X G a51) (fun d n hn C=>FnOk.up (xY (P:=l.prog) (w:=w) (base:=base) hn B rB yE uH uI AL2 yF C F51)) 6 (by decide)
 have AB8:FnOk l.prog w K mg base (CXF l.prog w) 12 _ _ _ _:=FnOk.up (yD B CD_Line_3 aU eZ F60)
 have oM:CalX l.prog w K mg base _ _ 12 _:=⟨_,_,AB8,b60,k60,mg_of X G a60⟩
 have oK:∀ C sp,AK5 K (⟨z0,z1,z2,z3,z4,z5,z6,z7,z8,z9,z10,z11,z12,z13,z14,t0,t1,t2⟩:Ad) C sp->CalM l.prog w K mg base C "idle" ["self"] 9 sp:=by
  rintro C sp ⟨rfl,rfl⟩
  exact ⟨⟨_,_,FnOk.lift uP (by decide),b42,⟨a42,i42,k42⟩,B.ck_Wishes.cl⟩⟩
 have jS:∀ C sp,vW K (⟨z0,z1,z2,z3,z4,z5,z6,z7,z8,z9,z10,z11,z12,z13,z14,t0,t1,t2⟩:Ad) C sp->CalM l.prog w K mg base C "winner" ["self","number"] 9 sp:=by
  rintro C sp ⟨rfl,rfl⟩
  exact ⟨⟨_,_,FnOk.lift rJ (by decide),b41,⟨a41,i41,k41⟩,B.ck_Wishes.cl⟩⟩
 exact BG8 (P:=l.prog) (w:=w) (base:=base) B lT lU CD_Wishes_4 rC oK gM oM jS lV aU CD_Wishes_0 F61
theorem BP4 {l:OpenLaw}{q:Program}{loose:List Str}{XP:(Str->Option Value)->Heap->Prop}{YP:World->Heap->Prop}{d:DefRec}{K:Params->Frag}(hn:l.most=some 63)(hdf:d.params.defaults=[])(hY:∀ (w:World) (h:Heap),YP w h->(K w.params).In h)(F:∀ (w:World) (mg:Str->Option Value) (fa:Addr) (h:Heap),(K w.params).In h->h.Ns mainGlobals mg->mg d.name=some (.ref fa) ->
   ∃ fd:FuncData,(∀ (s:Shared) (u:Value),BindsTo s fd ⟨[u],[]⟩ [("_law_script",u)])/\∀ base:Heap,(K w.params).In base->base.Ns mainGlobals mg->FnOk l.prog w (K w.params) mg base CX0 13 fa fd ["_law_script"] (spL (K w.params))) :
  WalkO q loose XP YP l.row.toRowW d [] (fun f vs=>PySem.call f vs) :=
 L2.BI5 (n:=63) (k:=13) (x:="_law_script") (CX:=fun _=>CX0) (sp:=fun w=>spL (K w.params)) hn (by decide) hdf ⟨rfl,by decide,by decide⟩ hY F (fun _ _ a ns hl _ hS=>⟨a,ns,rfl,hS,hl,fun _=>rfl⟩) fun _ _ _ _ _ z=>z
theorem BM0 {P:Program}{w:World}{K:Frag}{mg:Str->Option Value}{fa:Addr}(h:∃ (a:Ad) (fd:FuncData),(∀ (s:Shared) (v:Value),BindsTo s fd ⟨[v],[]⟩ [("_law_script",v)])/\∀ base:Heap,K.In base->base.Ns mainGlobals mg->FnOk P w K mg base CX0 13 fa fd ["_law_script"] (AK4 K a)) :
  ∃ fd:FuncData,(∀ (s:Shared) (v:Value),BindsTo s fd ⟨[v],[]⟩ [("_law_script",v)])/\∀ base:Heap,K.In base->base.Ns mainGlobals mg->FnOk P w K mg base CX0 13 fa fd ["_law_script"] (spL K):=by
 obtain ⟨a,fd,b,q⟩:=h
 exact ⟨fd,b,fun base x y=>q base x y⟩
end Bw
open PySem PySem.W PyProof.Rows
set_option maxRecDepth 100000 in
set_option maxHeartbeats 0 in
theorem PySem.Challenge.cw_bellsaway_k15_what_wins_and_idle_lines_holds : PySem.Challenge.rw_bellsaway_k15_what_wins_and_idle_lines.Holds := by
 w_on; o_law; k_head; (case hw=>w_witness2)
 k_fill
 refine Bw.BP4 (l:=PySem.Challenge.rw_bellsaway_k15_what_wins_and_idle_lines) rfl rfl (fun w h Y=>PySem.W.kIn_of Y) ?F
 case F =>
  intro w mg fa h KX G hmg
  refine Bw.BM0 ?Z
  refine' Bw.BN9 KX G hmg ?a0 ?l0 ?c0 ?k0 ?a1 ?l1 ?c1 ?k1 ?a2 ?l2 ?c2 ?k2 ?a3 ?l3 ?c3 ?k3 ?a4 ?l4 ?c4 ?k4 ?a5 ?l5 ?c5 ?k5 ?a6 ?l6 ?c6 ?k6 ?a7 ?i7 ?l7 ?c7 ?k7 ?a8 ?l8 ?c8 ?k8 ?a9 ?l9 ?c9 ?k9 ?a10 ?l10 ?c10 ?k10 ?a11 ?i11 ?l11 ?c11 ?k11 ?a12 ?i12 ?l12 ?c12 ?k12 ?a13 ?i13 ?l13 ?c13 ?k13 ?a14 ?i14 ?l14 ?c14 ?k14 ?a15 ?i15 ?l15 ?c15 ?k15 ?a16 ?i16 ?l16 ?c16 ?k16 ?a17 ?i17 ?l17 ?c17 ?k17 ?a18 ?i18 ?l18 ?c18 ?k18 ?a19 ?i19 ?l19 ?c19 ?k19 ?a20 ?i20 ?l20 ?c20 ?k20 ?a21 ?i21 ?l21 ?c21 ?k21 ?a22 ?i22 ?l22 ?c22 ?k22 ?a23 ?i23 ?l23 ?c23 ?k23 ?a24 ?i24 ?l24 ?c24 ?k24 ?a25 ?i25 ?l25 ?c25 ?k25 ?a26 ?i26 ?l26 ?c26 ?k26 ?a27 ?i27 ?l27 ?c27 ?k27 ?a28 ?i28 ?l28 ?c28 ?k28 ?a29 ?i29 ?l29 ?c29 ?k29 ?a30 ?i30 ?l30 ?c30 ?k30 ?a31 ?l31 ?c31 ?k31 ?a32 ?l32 ?c32 ?k32 ?a33 ?l33 ?c33 ?k33 ?a34 ?l34 ?c34 ?k34 ?a35 ?l35 ?c35 ?k35 ?a36 ?l36 ?c36 ?k36 ?a37 ?l37 ?c37 ?k37 ?a38 ?i38 ?l38 ?d38 ?c38 ?a39 ?l39 ?c39 ?k39 ?a40 ?i40 ?l40 ?d40 ?c40 ?a41 ?i41 ?l41 ?c41 ?k41 ?a42 ?i42 ?l42 ?c42 ?k42 ?a43 ?l43 ?c43 ?k43 ?a44 ?l44 ?c44 ?k44 ?a45 ?l45 ?c45 ?k45 ?a46 ?l46 ?c46 ?k46 ?a47 ?l47 ?c47 ?k47 ?a48 ?l48 ?c48 ?k48 ?a49 ?l49 ?c49 ?k49 ?a50 ?l50 ?c50 ?k50 ?a51 ?l51 ?c51 ?k51 ?a52 ?l52 ?c52 ?k52 ?a53 ?l53 ?c53 ?k53 ?a54 ?l54 ?c54 ?k54 ?a55 ?l55 ?c55 ?k55 ?a56 ?l56 ?c56 ?k56 ?a57 ?l57 ?c57 ?k57 ?a58 ?l58 ?c58 ?k58 ?a59 ?l59 ?c59 ?k59 ?a60 ?l60 ?c60 ?k60 ?a61 ?l61 ?c61 ?k61 ?y0 ?y1 ?y2 ?y3 ?y4 ?y5 ?y6 ?y7 ?y8 ?y9 ?y10 ?y11 ?y12 ?y13 ?y14 ?y15 ?y16 ?y17 ?y18 ?y19 ?y20 ?y21 ?y22 ?y23 ?y24 ?y25 ?y26 ?y27 ?y28 ?y29 ?y30 ?y31_0 ?y31_1 ?y31_2 ?y31_3 ?y31_4 ?y31_5 ?y31_6 ?y31_7 ?y32_0 ?y32_1 ?y32_2 ?y32_3 ?y32_4 ?y32_5 ?y32_6 ?y32_7 ?y33 ?y34_0 ?y34_1 ?y34_2 ?y34_3 ?y34_4 ?y34_5 ?y34_6 ?y34_7 ?y35 ?y36_0 ?y36_1 ?y36_2 ?y36_3 ?y36_4 ?y36_5 ?y36_6 ?y36_7 ?y37 ?y38_0 ?y38_1 ?y38_2 ?y38_3 ?y38_4 ?y38_5 ?y38_6 ?y38_7 ?y39 ?y40_0 ?y40_1 ?y40_2 ?y40_3 ?y40_4 ?y40_5 ?y40_6 ?y40_7 ?y41 ?y42_0 ?y42_1 ?y42_2 ?y42_3 ?y42_4 ?y42_5 ?y42_6 ?y42_7 ?y43 ?y44_0 ?y44_1 ?y44_2 ?y44_3 ?y44_4 ?y44_5 ?y44_6 ?y44_7 ?y45 ?y46 ?y47 ?y48 ?y49 ?y50 ?y51 ?y52 ?y53 ?y54 ?y55_0 ?y55_1 ?y55_2 ?y56_0 ?y56_1 ?y56_2 ?y56_3 ?y56_4 ?y56_5 ?y56_6 ?y56_7 ?y57_0 ?y57_1 ?y57_2 ?y57_3 ?y57_4 ?y57_5 ?y57_6 ?y57_7 ?y58_0 ?y58_1 ?y58_2 ?y58_3 ?y58_4 ?y58_5 ?y58_6 ?y58_7 ?y59 ?y60 ?y61 ?y62 ?y63 ?y64_0 ?y64_1 ?y64_2 ?y64_3 ?y64_4 ?y64_5 ?y64_6 ?y64_7 ?y65 ?y66 ?y67 ?y68 ?y69 ?y70 ?y71 ?y72 ?y73 ?y74 ?y75_0 ?y75_1 ?y75_2 ?y76_0 ?y76_1 ?y76_2 ?mkHappening ?kcHappening ?mkKind ?kcKind ?mkPlace ?kcPlace ?mkLeast ?kcLeast ?mkNot ?kcNot ?mkBoth ?kcBoth ?mkEither ?kcEither ?mkLine ?kcLine ?mkWishes ?kcWishes
  (case y0|y1|y2|y3|y4|y5|y6|y7|y8|y9|y10|y11|y12|y13|y14|y15|y16|y17|y18|y19|y20|y21|y22|y23|y24|y25|y26|y27|y28|y29|y30|a0|l0|c0|k0|a1|l1|c1|k1|a2|l2|c2|k2|a3|l3|c3|k3|a4|l4|c4|k4|a5|l5|c5|k5|a6|l6|c6|k6|a7|i7|l7|c7|k7|a8|l8|c8|k8|a9|l9|c9|k9|a10|l10|c10|k10|a11|i11|l11|c11|k11|a12|i12|l12|c12|k12|a13|i13|l13|c13|k13|a14|i14|l14|c14|k14|a15|i15|l15|c15|k15|a16|i16|l16|c16|k16|a17|i17|l17|c17|k17|a18|i18|l18|c18|k18|a19|i19|l19|c19|k19|a20|i20|l20|c20|k20|a21|i21|l21|c21|k21|a22|i22|l22|c22|k22|a23|i23|l23|c23|k23|a24|i24|l24|c24|k24|a25|i25|l25|c25|k25|a26|i26|l26|c26|k26|a27|i27|l27|c27|k27|a28|i28|l28|c28|k28|a29|i29|l29|c29|k29|a30|i30|l30|c30|k30|a31|l31|c31|k31|a32|l32|c32|k32|a33|l33|c33|k33|a34|l34|c34|k34|a35|l35|c35|k35|a36|l36|c36|k36|a37|l37|c37|k37|a38|i38|l38|d38|c38|a39|l39|c39|k39|a40|i40|l40|d40|c40|a41|i41|l41|c41|k41|a42|i42|l42|c42|k42|a43|l43|c43|k43|a44|l44|c44|k44|a45|l45|c45|k45|a46|l46|c46|k46|a47|l47|c47|k47|a48|l48|c48|k48|a49|l49|c49|k49|a50|l50|c50|k50|a51|l51|c51|k51|a52|l52|c52|k52|a53|l53|c53|k53|a54|l54|c54|k54|a55|l55|c55|k55|a56|l56|c56|k56|a57|l57|c57|k57|a58|l58|c58|k58|a59|l59|c59|k59|a60|l60|c60|k60|a61|l61|c61|k61|y31_0|y31_1|y31_2|y31_3|y31_4|y31_5|y31_6|y31_7|y32_0|y32_1|y32_2|y32_3|y32_4|y32_5|y32_6|y32_7|y33|y34_0|y34_1|y34_2|y34_3|y34_4|y34_5|y34_6|y34_7|y35|y36_0|y36_1|y36_2|y36_3|y36_4|y36_5|y36_6|y36_7|y37|y38_0|y38_1|y38_2|y38_3|y38_4|y38_5|y38_6|y38_7|y39|y40_0|y40_1|y40_2|y40_3|y40_4|y40_5|y40_6|y40_7|y41|y42_0|y42_1|y42_2|y42_3|y42_4|y42_5|y42_6|y42_7|y43|y44_0|y44_1|y44_2|y44_3|y44_4|y44_5|y44_6|y44_7|y45|y46|y47=>k_is)
  (case y48|y49|y50|y51|y52|y53|y54=>kit_is)
  (case y55_0|y55_1|y55_2|y56_0|y56_1|y56_2|y56_3|y56_4|y56_5|y56_6|y56_7|y57_0|y57_1|y57_2|y57_3|y57_4|y57_5|y57_6|y57_7|y58_0|y58_1|y58_2|y58_3|y58_4|y58_5|y58_6|y58_7|y59|y60|y61|y62|y63|y64_0|y64_1|y64_2|y64_3|y64_4|y64_5|y64_6|y64_7|y65|y66|y67|y68=>k_is)
  (case y69|y70|y71|y72|y73|y74=>kit_is)
  (case y75_0|y75_1|y75_2|y76_0|y76_1|y76_2|mkHappening|kcHappening|mkKind|kcKind|mkPlace|kcPlace|mkLeast|kcLeast|mkNot|kcNot|mkBoth|kcBoth|mkEither|kcEither|mkLine|kcLine|mkWishes|kcWishes=>k_is)
