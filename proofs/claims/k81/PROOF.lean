import PyProof.Rows.All
import Imp.Common
import Imp.FormA
import Imp.PinsA
import KE.IntText
import KE.KIntText
import KE.KIsAll
import KE.KItem
import KE.KTryMore
import ObjForm.Claim3
import Open.Boot
import Open.Claim
import Open.Fast
import Open.FastLooks
import Open.FastRun
import Open.FastT1
import Open.FastT9
import Open.FastTabs
import Open.Head
import Open.Line
import Open.Pieces
import Open.Recs
import Open.Row
import Open.Seg
import Open.Strs
import Open.Tree
import OpenK.KCall
import OpenK.KCls
import OpenK.KDescr
import OpenK.KFacts
import OpenK.KGet
import OpenK.KLine
import OpenK.KMake
import OpenK.KMore
import OpenK.KOwn
import OpenK.KRaise
import OpenK.KWalk
import OpenK.Peek
import PyProof.EqAt
import PyProof.EqKinds
import PyProof.TupleCall
import Wide.BridgeG
import Wide.BytesRules
import Wide.Claim
import Wide.Data
import Wide.Ends
import Wide.Head
import Wide.Lay
import Wide.Line
import Wide.Loose
import Wide.ObjOpen
import Wide.OneHead
import Wide.Pins
import Wide.Reads
import Wide.Row
import Wide.Tac
import Wide.Tm
import Wide.Top
import Wide.Vals
import Wide.Well
import KE.RegKIsAll
import KE.RegKTryMore
import OpenK.KQuick
import Wide.All
import Wide.FinOn
import Open.Dig
import Open.FastParts
import Open.FastTables
import Open.FastU1
import Open.FastU10
import Open.FastU11
import Open.FastU12
import Open.FastU2
import Open.FastU3
import Open.FastU4
import Open.FastU5
import Open.FastU6
import Open.FastU7
import Open.FastU8
import Open.FastU9
import Open.Fors
import Open.Gens
import Open.Split
import Open.TopsExt
import Open.TreeImp
import Open.Trees2
import PySem.Challenge.RW_bellsaway_k81_books_as_texts
set_option Elab.async false
set_option linter.all false
set_option compiler.extract_closed false
set_option maxRecDepth 100000
namespace L2
open PySem PySem.Spec PyProof.Rows PySem.W
abbrev Key:=Sum Int Str
def CB5:Key->Value->Bool
 | .inl k,v=>Value.isInt k v
 | .inr x,v=>Value.isStrOf x v
def CR1 (w:World):Key->Int
 | .inl k=>hashInt k
 | .inr x=>hashStr w x
theorem dM:∀ {k:Key}{v:Value},CB5 k v=true->(∃ i t,k=Sum.inl i/\v=Value.int i t)\/(∃ x t,k=Sum.inr x/\v=Value.str x t)
 | .inl i,v,h=>by
  obtain ⟨t,e⟩:=Value.isInt_shape (k:=i) (v:=v) h
  exact .inl ⟨i,t,rfl,e⟩
 | .inr x,v,h=>by
  obtain ⟨t,e⟩:=Value.isStrOf_shape (x:=x) (v:=v) h
  exact .inr ⟨x,t,rfl,e⟩
theorem CB6 (a b:Int):decide ((Sum.inl a:Key)=Sum.inl b)=(a == b):=by
 by_cases e:a=b
 ·subst e; simp
 ·have h:¬ (Sum.inl a:Key)=Sum.inl b:=fun q=>e (Sum.inl.inj q)
  rw [decide_eq_false h]
  exact (beq_eq_false_iff_ne.mpr e).symm
theorem CB7 (a b:Str):decide ((Sum.inr a:Key)=Sum.inr b)=decide (a=b):=by
 by_cases e:a=b
 ·subst e; simp
 ·have h:¬ (Sum.inr a:Key)=Sum.inr b:=fun q=>e (Sum.inr.inj q)
  rw [decide_eq_false h,decide_eq_false e]
theorem CB8 (a:Int)(b:Str):decide ((Sum.inl a:Key)=Sum.inr b)=false:=decide_eq_false (fun q=>nomatch q)
theorem CB9 (a:Str)(b:Int):decide ((Sum.inr a:Key)=Sum.inl b)=false:=decide_eq_false (fun q=>nomatch q)
def AY7 (prog:Program)(w:World):PySem.KeyKind prog w Key where
 is:=CB5
 hash:=CR1 w
 inj:=fun v a b ha hb=>by
  rcases dM ha with ⟨i,t,rfl,rfl⟩ | ⟨x,t,rfl,rfl⟩
  ·rcases dM hb with ⟨j,u,rfl,e⟩ | ⟨y,u,rfl,e⟩
   ·injection e with e1 _; rw [e1]
   ·exact nomatch e
  ·rcases dM hb with ⟨j,u,rfl,e⟩ | ⟨y,u,rfl,e⟩
   ·exact nomatch e
   ·injection e with e1 _; rw [e1]
 byValue:=fun k v h=>by
  rcases dM h with ⟨i,t,rfl,rfl⟩ | ⟨x,t,rfl,rfl⟩ <;> rfl
 pyHash:=fun hv h=>by
  rcases dM hv with ⟨i,t,rfl,rfl⟩ | ⟨x,t,rfl,rfl⟩
  ·exact wpAny_pyHash_int h
  ·exact wpAny_pyHash_str h
 eqBool:=fun hu hv h=>by
  rcases dM hu with ⟨i,t,rfl,rfl⟩ | ⟨x,t,rfl,rfl⟩
  ·rcases dM hv with ⟨j,u,rfl,rfl⟩ | ⟨y,u,rfl,rfl⟩
   ·rw [CB6] at h; exact wpAny_eqBool_int h
   ·rw [CB8] at h; exact SeqAt.EqAt.int_str i t y u _ _ _ _ h
  ·rcases dM hv with ⟨j,u,rfl,rfl⟩ | ⟨y,u,rfl,rfl⟩
   ·rw [CB9] at h; exact SeqAt.EqAt.str_int x t j u _ _ _ _ h
   ·rw [CB7] at h; exact wpAny_eqBool_str h
 «strs»:=fun k x t v h=>by
  rcases dM h with ⟨i,u,rfl,e⟩ | ⟨y,u,rfl,e⟩
  ·exact nomatch e
  ·injection e with e1 _
   subst e1
   cases v <;> rfl
inductive V where
 | non | bl (b:Bool) | int (i:Int) | str (x:Str) | byt (b:Array UInt8) | flt (b:UInt64) | ref (a:Addr) | ty (n:String)
 deriving DecidableEq
def RelV:V->Value->Prop
 | .non,u=>u=Value.none
 | .bl b,u=>u=Value.bool b
 | .int i,u=>∃ t,u=Value.int i t
 | .str x,u=>∃ t,u=Value.str x t
 | .byt b,u=>∃ t,u=Value.bytes b t
 | .flt b,u=>∃ t,u=Value.float b t
 | .ref a,u=>u=Value.ref a
 | .ty n,u=>u=Value.type n
abbrev Vals:List V->List Value->Prop:=Paired RelV
theorem Vals.length {xs:List V}{us:List Value}(r:Vals xs us):xs.length=us.length:=Paired.length r
theorem Vals.get:∀ {xs:List V}{us:List Value}{i:Nat}{x:V},Vals xs us->xs[i]?=some x->∃ u,us[i]?=some u/\RelV x u
 | _,_,_,_,.nil,e=>by simp at e
 | _,_,0,_,.cons r _,e=>by simp at e; subst e; exact ⟨_,rfl,r⟩
 | _,_,i+1,x,.cons _ t,e=>by
  obtain ⟨u,h1,h2⟩:=Vals.get (i:=i) (x:=x) t (by simpa using e)
  exact ⟨u,by simpa using h1,h2⟩
theorem Vals.set {x:V}{u:Value}(r:RelV x u):∀ {xs:List V}{us:List Value}(i:Nat),Vals xs us->Vals (xs.set i x) (us.set i u)
 | _,_,_,.nil=>.nil
 | _,_,0,.cons _ t=>.cons r t
 | _,_,i+1,.cons q t=>.cons q (Vals.set r i t)
theorem Vals.append:∀ {xs ys:List V}{us ws:List Value},Vals xs us->Vals ys ws->Vals (xs++ys) (us++ws)
 | _,_,_,_,.nil,s=>s
 | _,_,_,_,.cons r t,s=>.cons r (Vals.append t s)
theorem Vals.take:∀ {xs:List V}{us:List Value}(n:Nat),Vals xs us->Vals (xs.take n) (us.take n)
 | _,_,0,_=>.nil
 | _,_,_+1,.nil=>.nil
 | _,_,n+1,.cons r t=>.cons r (Vals.take n t)
theorem Vals.drop:∀ {xs:List V}{us:List Value}(n:Nat),Vals xs us->Vals (xs.drop n) (us.drop n)
 | _,_,0,r=>r
 | _,_,_+1,.nil=>.nil
 | _,_,n+1,.cons _ t=>Vals.drop n t
def RelO:Option V->Option Value->Prop
 | some v,some u=>RelV v u
 | none,none=>True
 | _,_=>False
def KV {κ:Type}:List (κ × V)->List (κ × Value)->Prop:=Paired fun (p:κ × V) (q:κ × Value)=>p.1=q.1/\RelV p.2 q.2
def kV:Key->V
 | .inl i=>.int i
 | .inr x=>.str x
inductive HO where
  | lst (xs:List V)
  | tup (xs:List V)
  | dK (kvs:List (Key × V)) | dT (kvs:List (List Key × V))
  | set (S:Int->Bool) (n:Nat)
  | ins (C dx:Addr) (fs:List (Str × V))
  | own (x:Addr)
  | xd (fs:List (Str × V))
  | met (f x:Addr)
  | rng (lo hi:Int)
  | frz (o:Obj) (u:HO)
  | tbl (ps:Array Value)
  | ext (φ:Heap->Prop)
abbrev Hp:=Addr->Option HO
def upd (H:Hp)(a:Addr)(o:HO):Hp:=fun b=>if b=a then some o else H b
theorem aA {H:Hp}{a:Addr}{o:HO}:upd H a o a=some o:=by unfold upd; rw [if_pos rfl]
theorem aG {H:Hp}{a b:Addr}{o:HO}(h:b≠a):upd H a o b=H b:=by unfold upd; rw [if_neg h]
theorem xW {H:Hp}{a b:Addr}{o u:HO}(h:H a=some o)(h':H b=some u)(d:o≠u):a≠b:=by
 intro e; subst e; rw [h] at h'; exact d (Option.some.inj h')
theorem aQ {H:Hp}{a b:Addr}{o:HO}(h:H a=some o)(h':H b=none):a≠b:=by
 intro e; subst e; rw [h] at h'; cases h'
section
variable (P:Program) (w:World)
def ObjOk (H:Hp)(h:Heap)(a:Addr):HO->Prop
 | .lst xs=>xs.length<=sizeLine/\∃ (its:List Value) (n:Nat),Vals xs its/\h.get? a=some { cls:=.type "list",data:=.seq its.toArray n }
 | .tup xs=>xs.length<=sizeLine/\∃ its:List Value,Vals xs its/\IsTup h a its.toArray
 | .dK kvs=>kvs.length<=sizeLine/\(a == sysModules)=false/\∃ vs,KV kvs vs/\h.DictOf (AY7 P w) a vs
 | .dT kvs=>kvs.length<=sizeLine/\(a == sysModules)=false/\∃ xs:List (List Key × Addr × Value),
   Paired (fun (p:List Key × V) (q:List Key × Addr × Value)=>p.1=q.1/\H q.2.1=some (.tup (p.1.map kV))/\RelV p.2 q.2.2) kvs xs /\
   ∃ o es ep,h.get? a=some o/\o.ExactDict/\o.data=.dict es ep/\es.toList=xs.map (entryOfKey (tupleKind (AY7 P w)))/\(xs.map (·.1)).Nodup
 | .set S n=>h.SetOf (intKind P w) a S n
 | .ins C dx fs=>H dx=some (.own a)/\fs.length<=1000/\dx≠a/\h.get? a=some (instObj C dx) /\
   ∃ mA,h.Ns1 dx mA/\(∀ f,RelO (fs.lookup f) (mA f))/\PySem.Within mA (fs.map (·.1))
 | .own _=>∃ o,h.get? a=some o
 | .xd fs=>∃ mA,h.Ns1 a mA/\∀ f,RelO (fs.lookup f) (mA f)
 | .rng lo hi=>∃ t u v,h.get? a=some { cls:=.type "range",data:=.fields #[.int lo t,.int hi u,.int 1 v] }
 | .frz o u=>h.get? a=some o/\ObjOk H h a u
 | .tbl ps=>h.get? a=some { cls:=.none,data:=.fields ps }
 | .met f x=>h.get? a=some (methodObj (.ref f) (.ref x))
 | .ext φ=>φ h/\(∃ o,h.get? a=some o)/\∀ h1 h2:Heap,φ h1->(∀ o,h1.get? a=some o->h2.get? a=some o)->φ h2
def HOk (H:Hp)(h:Heap):Prop:=∀ a o,H a=some o->ObjOk P w H h a o
end
section
variable {P:Program}{w:World}{H H':Hp}{h h':Heap}{a:Addr}{o:HO}
theorem ObjOk.lt (x:ObjOk P w H h a o):a < h.objs.size:=by
 cases o with
 | lst xs=>obtain ⟨_,_,_,_,e⟩:=x; exact Heap.lt_size e
 | tup xs=>obtain ⟨_,_,_,p⟩:=x; exact p.lt
 | dK kvs=>obtain ⟨_,_,_,_,o,_,_,e,_⟩:=x; exact Heap.lt_size e
 | dT kvs=>obtain ⟨_,_,_,_,o,_,_,e,_⟩:=x; exact Heap.lt_size e
 | set S n=>obtain ⟨o,_,_,_,e,_⟩:=x; exact Heap.lt_size e
 | ins C dx fs=>obtain ⟨_,_,_,e,_⟩:=x; exact Heap.lt_size e
 | own y=>obtain ⟨_,e⟩:=x; exact Heap.lt_size e
 | xd fs=>obtain ⟨_,⟨_,_,_,e,_⟩,_⟩:=x; exact Heap.lt_size e
 | rng lo hi=>obtain ⟨_,_,_,e⟩:=x; exact Heap.lt_size e
 | frz ob u=>obtain ⟨e,_⟩:=x; exact Heap.lt_size e
 | tbl ps=>exact Heap.lt_size (show h.get? a=some _ from x)
 | met f y=>exact Heap.lt_size (show h.get? a=some _ from x)
 | ext φ=>obtain ⟨_,⟨_,e⟩,_⟩:=x; exact Heap.lt_size e
theorem Paired.mapP {α β:Type}{F G:α->β->Prop}:∀ {l₁:List α}{l₂:List β},Paired F l₁ l₂->(∀ a b,F a b->G a b)->Paired G l₁ l₂
 | _,_,.nil,_=>.nil
 | _,_,.cons r t,f=>.cons (f _ _ r) (Paired.mapP t f)
theorem ObjOk.stay (x:ObjOk P w H h a o)(k:∀ b u,(b=a\/H b=some (.own a))->h.get? b=some u->h'.get? b=some u)(ho:∀ b,H b=some (.own a)->H' b=some (.own a))(ht:∀ b xs,H b=some (.tup xs)->H' b=some (.tup xs)):ObjOk P w H' h' a o:=by
 induction o with
 | lst xs=>obtain ⟨z,its,n,r,e⟩:=x; exact ⟨z,its,n,r,k _ _ (.inl rfl) e⟩
 | tup xs=>obtain ⟨z,its,r,ob,e,c⟩:=x; exact ⟨z,its,r,ob,k _ _ (.inl rfl) e,c⟩
 | dK kvs=>obtain ⟨z,y,vs,r,ob,es,ep,e,c⟩:=x; exact ⟨z,y,vs,r,ob,es,ep,k _ _ (.inl rfl) e,c⟩
 | dT kvs =>
  obtain ⟨z,y,xs,r,ob,es,ep,e,c⟩:=x
  exact ⟨z,y,xs,Paired.mapP r fun p q z=>⟨z.1,ht _ _ z.2.1,z.2.2⟩,ob,es,ep,k _ _ (.inl rfl) e,c⟩
 | set S n=>obtain ⟨ob,es,ep,t,e,c⟩:=x; exact ⟨ob,es,ep,t,k _ _ (.inl rfl) e,c⟩
 | ins C dx fs =>
  obtain ⟨d,z,ne,e,mA,⟨od,es,ep,e2,c⟩,r⟩:=x
  exact ⟨ho _ d,z,ne,k _ _ (.inl rfl) e,mA,⟨od,es,ep,k _ _ (.inr d) e2,c⟩,r⟩
 | own y=>obtain ⟨ob,e⟩:=x; exact ⟨ob,k _ _ (.inl rfl) e⟩
 | xd fs=>obtain ⟨mA,⟨od,es,ep,e,c⟩,r⟩:=x; exact ⟨mA,⟨od,es,ep,k _ _ (.inl rfl) e,c⟩,r⟩
 | rng lo hi=>obtain ⟨t,u,v,e⟩:=x; exact ⟨t,u,v,k _ _ (.inl rfl) e⟩
 | frz ob u ih=>obtain ⟨e,q⟩:=x; exact ⟨k _ _ (.inl rfl) e,ih q⟩
 | tbl ps =>
  have e:h.get? a=some { cls:=.none,data:=.fields ps }:=x
  show h'.get? a=some { cls:=.none,data:=.fields ps }
  exact k a _ (.inl rfl) e
 | met f y =>
  have e:h.get? a=some (methodObj (.ref f) (.ref y)):=x
  show h'.get? a=some (methodObj (.ref f) (.ref y))
  exact k a _ (.inl rfl) e
 | ext φ=>obtain ⟨p,⟨o,e⟩,st⟩:=x; exact ⟨st _ _ p fun o q=>k _ _ (.inl rfl) q,⟨o,k _ _ (.inl rfl) e⟩,st⟩
theorem HOk.lt (x:HOk P w H h)(e:H a=some o):a < h.objs.size:=(x a o e).lt
theorem HOk.fresh (x:HOk P w H h)(e:h.objs.size<=a):H a=none:=by
 cases q:H a with
 | none=>rfl
 | some u=>exact absurd (Nat.lt_of_lt_of_le (x.lt q) e) (Nat.lt_irrefl _)
theorem HOk.kept (x:HOk P w H h)(k:∀ b u,h.get? b=some u->h'.get? b=some u):HOk P w H h':=fun a o e =>
 (x a o e).stay (fun b u _ q=>k b u q) (fun _ q=>q) fun _ _ q=>q
theorem HOk.laid (x:HOk P w H h)(k:∀ b u,h.get? b=some u->h'.get? b=some u)(hp:h.objs.size<=a)(new:ObjOk P w (upd H a o) h' a o):HOk P w (upd H a o) h':=fun b u e=>by
 have hn:=x.fresh hp
 by_cases hb:b=a
 ·subst hb; rw [aA] at e; cases e; exact new
 ·rw [aG hb] at e
  exact (x b u e).stay (fun c v _ q=>k c v q) (fun c q=>by rw [aG (aQ q hn)]; exact q) fun c xs q=>by rw [aG (aQ q hn)]; exact q
end
def Rd (H:Hp)(a:Addr)(u:HO):Prop:=H a=some u\/∃ o,H a=some (.frz o u)
theorem Rd.ok {P:Program}{w:World}{H:Hp}{h:Heap}{a:Addr}{u:HO}(r:Rd H a u)(x:HOk P w H h):ObjOk P w H h a u:=by
 rcases r with r | ⟨o,r⟩
 ·exact x a u r
 ·obtain ⟨_,q⟩:=x a _ r
  exact q
def Mut:Option HO->Prop
 | some (.lst _)=>True
 | some (.dK _)=>True
 | some (.dT _)=>True
 | some (.set _ _)=>True
 | some (.ins _ _ _)=>True
 | some (.ext _)=>True
 | _=>False
section
variable {P:Program}{w:World}{H:Hp}{h h':Heap}{x e:Addr}{o':HO}
theorem HOk.write (ok:HOk P w H h)(mu:Mut (H x))(he:e=x\/H e=some (.own x))(k:∀ b u,b≠e->h.get? b=some u->h'.get? b=some u)(heo:∃ u,h'.get? e=some u)(new:ObjOk P w (upd H x o') h' x o'):HOk P w (upd H x o') h':=fun b u q=>by
 have nown:∀ c y,H c=some (.own y)->c≠x:=fun c y r z=>by subst z; rw [r] at mu; exact mu
 have ntup:∀ c xs,H c=some (.tup xs)->c≠x:=fun c xs r z=>by subst z; rw [r] at mu; exact mu
 by_cases hb:b=x
 ·subst hb; rw [aA] at q; cases q; exact new
 ·rw [aG hb] at q
  by_cases hbe:b=e
  ·have q':H b=some (.own x):=by
    rcases he with z | z
    ·exact absurd (hbe.trans z) hb
    ·rw [hbe]; exact z
   rw [q] at q'; cases q'
   obtain ⟨v,hv⟩:=heo
   exact ⟨v,by rw [hbe]; exact hv⟩
  ·refine (ok b u q).stay (fun c v hc r=>k c v ?_ r) (fun c r=>by rw [aG (nown c b r)]; exact r) fun c xs r=>by rw [aG (ntup c xs r)]; exact r
   rcases hc with rfl | hc
   ·exact hbe
   ·rintro rfl
    rcases he with z | z
    ·exact nown c b hc z
    ·rw [hc] at z; cases z; exact hb rfl
end
structure Un (fs ex:List Addr) (H H':Hp) (h h':Heap):Prop where
 keep:∀ b o,h.get? b=some o->H b=none->b ∉ fs->b ∉ ex->h'.get? b=some o
 slot:∀ b o,h.get? b=some o->H b=none->b∈fs->b ∉ ex->∃ sl,h'.get? b=some { o with slots:=sl }
 free:∀ b o,h.get? b=some o->H b=none->b ∉ ex->H' b=none
 there:∀ b o,h.get? b=some o->b ∉ ex->∃ o',h'.get? b=some o'
 tups:∀ b xs,H b=some (.tup xs)->H' b=some (.tup xs)
 frzs:∀ b o u,H b=some (.frz o u)->H' b=some (.frz o u)
 tbls:∀ b ps,H b=some (.tbl ps)->∃ more,H' b=some (.tbl (ps++more))
section
variable {fs fs' ex ex':List Addr}{H H1 H2:Hp}{h h1 h2 h':Heap}{a x e:Addr}{o:HO}
theorem Un.any (u:Un fs ex H H1 h h1){b:Addr}{ob:Obj}(q:h.get? b=some ob)(n:H b=none)(hx:b ∉ ex):∃ sl,h1.get? b=some { ob with slots:=sl }:=by
 by_cases hb:b∈fs
 ·exact u.slot b ob q n hb hx
 ·exact ⟨ob.slots,u.keep b ob q n hb hx⟩
theorem Un.kept (k:∀ b u,h.get? b=some u->h'.get? b=some u):Un fs ex H H h h' :=
 ⟨fun b ob q _ _ _=>k b ob q,fun b ob q _ _ _=>⟨ob.slots,k b ob q⟩,fun _ _ _ n _=>n,fun b ob q _=>⟨ob,k b ob q⟩,fun _ _ q=>q,fun _ _ _ q=>q,fun _ ps q=>⟨#[],by rw [q]; simp⟩⟩
theorem Un.refl:Un fs ex H H h h:=Un.kept fun _ _ q=>q
theorem Un.laid (k:∀ b u,h.get? b=some u->h'.get? b=some u)(hp:h.objs.size<=a)(hn:H a=none):Un fs ex H (upd H a o) h h' where
 keep:=fun b u q _ _ _=>k b u q
 slot:=fun b u q _ _ _=>⟨u.slots,k b u q⟩
 free:=fun b u q n _=>by rw [aG (Nat.ne_of_lt (Nat.lt_of_lt_of_le (Heap.lt_size q) hp))]; exact n
 there:=fun b u q _=>⟨u,k b u q⟩
 tups:=fun b xs q=>by rw [aG (aQ q hn)]; exact q
 frzs:=fun b u xs q=>by rw [aG (aQ q hn)]; exact q
 tbls:=fun b ps q=>⟨#[],by rw [aG (aQ q hn),q]; simp⟩
theorem Un.write (mu:Mut (H x))(he:e=x\/H e=some (.own x))(k:∀ b u,b≠e->h.get? b=some u->h'.get? b=some u)(heo:∃ u,h'.get? e=some u):Un fs ex H (upd H x o) h h':=by
 have hx:∀ b,H b=none->b≠x:=fun b n z=>by subst z; rw [n] at mu; exact mu
 have hb:∀ b,H b=none->b≠e:=fun b n z=>by
  subst z
  rcases he with r | r
  ·exact hx b n r
  ·rw [n] at r; cases r
 have hm:∀ b u,H b=some u->¬ Mut (some u)->b≠x:=fun b u q nm z=>by subst z; rw [q] at mu; exact nm mu
 refine ⟨fun b u q n _ _=>k b u (hb b n) q,fun b u q n _ _=>⟨u.slots,k b u (hb b n) q⟩,fun b u q n _=>by rw [aG (hx b n)]; exact n,fun b u q _=>?_,
  fun b xs q=>by rw [aG (hm b _ q fun z=>z)]; exact q,fun b u xs q=>by rw [aG (hm b _ q fun z=>z)]; exact q,fun b ps q=>⟨#[],by rw [aG (hm b _ q fun z=>z),q]; simp⟩⟩
 by_cases hbe:b=e
 ·subst hbe; exact heo
 ·exact ⟨u,k b u hbe q⟩
end
def trk (h:Heap)(H:Hp):List Addr:=(List.range h.objs.size).filter fun a=>(H a).isSome
def BI8 (h:Heap)(H:Hp):Heap:=hideAll h (trk h H)
theorem AY8 (h:Heap)(H:Hp):(BI8 h H).objs.size=h.objs.size:=hideAll_size _ _
theorem BI9 {h:Heap}{H:Hp}{b:Addr}{o:Obj}(e:h.get? b=some o)(n:H b=none):(BI8 h H).get? b=some o :=
 hideAll_get _ e fun hm=>by
  have q:(H b).isSome=true:=(List.mem_filter.mp hm).2
  rw [n] at q; simp at q
theorem BS0 {h:Heap}{H:Hp}{b:Addr}{o:Obj}(e:(BI8 h H).get? b=some o):h.get? b=some o/\H b=none:=by
 have e':h.get? b=some o:=of_hideAll (trk h H) e
 refine ⟨e',?_⟩
 cases q:H b with
 | none=>rfl
 | some x =>
  have hm:b∈trk h H:=List.mem_filter.mpr ⟨List.mem_range.mpr (Heap.lt_size e'),by simp [q]⟩
  have z:(BI8 h H).get? b=none:=hideAll_none (trk h H) hm
  rw [z] at e; cases e
structure Mod (K:Frag) (mg:Str->Option Value) (base:Heap):Prop where
 kin:K.In base
 glob:base.Ns mainGlobals mg
 blt:∃ mb,base.Ns builtinsNs mb/\∀ x:Str,x≠"__name__"->mb x=bootBuiltins x
 nolimit:base.NoLimit
structure Cx where
 prog:Program
 w:World
 K:Frag
 mg:Str->Option Value
 base:Heap
 A:Around
 N:List Str
 s₀:Shared
 H₀:Hp
 env:Env
 outer:List Env
 stack:List Env
 ex:List Addr
 fn:Str->Bool
 calm:Bool
 pn:List (Addr × Obj)
 xe:Value->Shared->Prop
def frs (l:List Env):List Addr:=l.filterMap (·.frame)
abbrev Cx.fs (X:Cx):List Addr:=frs X.outer
def Vis (sc:Scope)(x:Str):Prop:=sc.names.lookup x=some .local\/sc.names.lookup x=some .cell\/sc.names.lookup x=some .free
def Loc (sc:Scope)(x:Str):Prop:=sc.names.lookup x=some .local\/sc.names.lookup x=some .cell
def CR2 (env:Env)(h:Heap)(m:Str->Option Value)(x:Str)(u:Value):Prop :=
 (env.kindOf x=some .local/\m x=some u)\/((env.kindOf x=some .cell\/env.kindOf x=some .free)/\∃ c,env.cells.lookup x=some c/\h.IsCell c (some u))
structure Cx.Ok (X:Cx):Prop where
 mod:Mod X.K X.mg X.base
 kind:X.env.scope.kind=.function
 glob:X.env.globals=mainGlobals
 blt:X.env.builtins=builtinsNs
 above:X.s₀.heap.objs.size<=X.env.locals
 inj:∀ x y c,X.env.cells.lookup x=some c->X.env.cells.lookup y=some c->x=y
 has:∀ x,(X.env.kindOf x=some .cell\/X.env.kindOf x=some .free)->∃ c,X.env.cells.lookup x=some c
 cab:∀ x c,X.fn x=true->X.env.cells.lookup x=some c->X.s₀.heap.objs.size<=c
 hd:X.calm=true->X.A.handled=none
 frames:X.A.frames=some X.stack
 stk:X.stack=X.outer\/(X.stack=X.env::X.outer/\X.env.frame=some X.env.locals)
 exf:∀ b∈X.ex,b≠X.env.locals/\∀ x c,X.env.cells.lookup x=some c->c≠b
 bs:∀ b o,X.base.get? b=some o->X.s₀.heap.get? b=some o/\X.H₀ b=none
 bsz:X.base.objs.size<=X.s₀.heap.objs.size
 noex:∀ b o,X.base.get? b=some o->b ∉ X.ex
 exfs:∀ b∈X.ex,b ∉ X.fs
 funs:X.s₀.heap.FunFrames X.base X.outer
 frf:∀ b∈X.fs,X.H₀ b=none
structure Inv (X:Cx) (pins:List (Addr × Obj)) (σ:List (Option V)) (H:Hp) (s:Shared):Prop where
 ok:X.Ok
 os:s.os=X.s₀.os
 bare:AllBare s.gens
 base:Un X.fs X.ex X.H₀ H X.s₀.heap s.heap
 loc:∃ m,s.heap.Ns X.env.locals m/\∀ (i:Nat) (x:Str) (v:V),X.N[i]?=some x->σ[i]?=some (some v)->Vis X.env.scope x->∃ u,RelV v u/\CR2 X.env s.heap m x u
 cell:∀ x c,X.env.cells.lookup x=some c->∃ v,s.heap.IsCell c v
 free:H X.env.locals=none
 freeC:∀ x c,X.env.cells.lookup x=some c->H c=none
 pin:∀ p∈X.pn++pins,s.heap.get? p.1=some p.2/\H p.1=none/\p.1≠X.env.locals/\p.1 ∉ X.fs/\∀ v,p.2.data≠.cell v
 hok:HOk X.prog X.w H s.heap
 len:σ.length=X.N.length
section
variable {X:Cx}{pins:List (Addr × Obj)}{σ:List (Option V)}{H H':Hp}{s:Shared}{h':Heap}
theorem Cx.Ok.nofr (ok:X.Ok){b:Addr}{o:Obj}(e:X.base.get? b=some o):b ∉ X.fs:=fun hb=>by
 have:=(ok.funs.mem hb).1
 rw [e] at this; cases this
theorem Inv.bs (I:Inv X pins σ H s):∀ b o,X.base.get? b=some o->s.heap.get? b=some o/\H b=none:=fun b o e =>
 ⟨I.base.keep b o (I.ok.bs b o e).1 (I.ok.bs b o e).2 (I.ok.nofr e) (I.ok.noex b o e),I.base.free b o (I.ok.bs b o e).1 (I.ok.bs b o e).2 (I.ok.noex b o e)⟩
theorem Inv.bk (I:Inv X pins σ H s):∀ b o,X.base.get? b=some o->s.heap.get? b=some o:=fun b o e=>(I.bs b o e).1
theorem Inv.mod (I:Inv X pins σ H s):Mod X.K X.mg X.base:=I.ok.mod
theorem Inv.kIn (I:Inv X pins σ H s):X.K.In s.heap:=I.ok.mod.kin.keeps I.bk
theorem Inv.lt (I:Inv X pins σ H s):X.env.locals < s.heap.objs.size:=let ⟨_,hn,_⟩:=I.loc; hn.lt
theorem Inv.sz (I:Inv X pins σ H s):X.s₀.heap.objs.size<=s.heap.objs.size:=Nat.le_trans I.ok.above (Nat.le_of_lt I.lt)
theorem Inv.nofs (I:Inv X pins σ H s){a:Addr}(h:s.heap.objs.size<=a):a ∉ X.fs:=fun hb=>by
 obtain ⟨_,o,ho,_⟩:=I.ok.funs.mem hb
 exact absurd (Nat.lt_of_lt_of_le (Heap.lt_size ho) (Nat.le_trans I.sz h)) (Nat.lt_irrefl _)
theorem Inv.cne (I:Inv X pins σ H s):∀ x c,X.env.cells.lookup x=some c->c≠X.env.locals:=fun x c e z=>by
 obtain ⟨v,o,ho,hd⟩:=I.cell x c e
 obtain ⟨m,⟨o',es,ep,ho',hd',_⟩,_⟩:=I.loc
 rw [z,ho'] at ho; cases ho; rw [hd'] at hd; cases hd
theorem Inv.funs (I:Inv X pins σ H s):s.heap.FunFrames X.base X.outer:=by
 have all:∀ (l:List Env),(∀ b∈frs l,b∈X.fs)->X.s₀.heap.FunFrames X.base l->s.heap.FunFrames X.base l:=by
  intro l
  induction l with
  | nil=>intro _ _; trivial
  | cons env r ih =>
   intro hs hl
   obtain ⟨hk,⟨L,o,hf,hn,ho,hd⟩,hr⟩:=hl
   have hL:L∈X.fs:=hs L (by unfold frs; rw [List.filterMap_cons,hf]; exact List.mem_cons_self)
   obtain ⟨sl,e⟩:=I.base.slot L o ho (I.ok.frf L hL) hL fun z=>I.ok.exfs L z hL
   exact ⟨hk,⟨L,_,hf,hn,e,hd⟩,ih (fun b hb=>hs b (by unfold frs; rw [List.filterMap_cons,hf]; exact List.mem_cons_of_mem _ hb)) hr⟩
 exact all X.outer (fun _ hb=>hb) I.ok.funs
theorem Inv.stack (I:Inv X pins σ H s):s.heap.FunFrames X.base X.stack:=by
 rcases I.ok.stk with e | ⟨e,hf⟩
 ·rw [e]; exact I.funs
 ·rw [e]
  obtain ⟨m,hn,_⟩:=I.loc
  refine .cons (by rw [I.ok.kind]; decide) hf hn ?_ I.funs
  exact Heap.get?_none_of_le (Nat.le_trans I.ok.bsz I.ok.above)
theorem Inv.stkSub (I:Inv X pins σ H s):∀ b∈frs X.stack,b∈X.env.locals::X.fs:=fun b hb=>by
 rcases I.ok.stk with e | ⟨e,hf⟩
 ·rw [e] at hb; exact List.mem_cons_of_mem _ hb
 ·rw [e] at hb
  unfold frs at hb
  rw [List.filterMap_cons,hf] at hb
  exact hb
theorem Inv.stkFree (I:Inv X pins σ H s):∀ b∈frs X.stack,H b=none:=fun b hb=>by
 rcases List.mem_cons.mp (I.stkSub b hb) with e | hb
 ·rw [e]; exact I.free
 ·obtain ⟨_,o,ho,_⟩:=I.ok.funs.mem hb
  exact I.base.free b o ho (I.ok.frf b hb) fun z=>I.ok.exfs b z hb
theorem Inv.step {g':Array GenState}{t':Nat}{d':Drawn}{ch:List Addr}(I:Inv X pins σ H s)(hch:∀ b∈ch,(b∈X.ex\/X.s₀.heap.objs.size<=b)/\b≠X.env.locals/\(∀ x c,X.env.cells.lookup x=some c->c≠b)/\∀ p∈X.pn++pins,p.1≠b)(keep:∀ b o,b≠X.env.locals->b ∉ X.fs->b ∉ ch->s.heap.get? b=some o->H b=none->h'.get? b=some o)(slot:∀ b o,b≠X.env.locals->b∈X.fs->b ∉ ch->s.heap.get? b=some o->H b=none->∃ sl,h'.get? b=some { o with slots:=sl })(free:∀ b o,b ∉ ch->s.heap.get? b=some o->H b=none->H' b=none)(there:∀ b o,b ∉ ch->s.heap.get? b=some o->∃ o',h'.get? b=some o')(tups:∀ b xs,H b=some (.tup xs)->H' b=some (.tup xs))(frzs:∀ b o u,H b=some (.frz o u)->H' b=some (.frz o u))(tbls:∀ b ps,H b=some (.tbl ps)->∃ more,H' b=some (.tbl (ps++more)))(ns:∀ m,s.heap.Ns X.env.locals m->h'.Ns X.env.locals m)(hok:HOk X.prog X.w H' h')(hg:AllBare g') :
  Inv X pins σ H' { s with heap:=h',gens:=g',drawn:=d',toks:=t' }:=by
 have neL:∀ b o,X.s₀.heap.get? b=some o->b≠X.env.locals:=fun b o e=>Nat.ne_of_lt (Nat.lt_of_lt_of_le (Heap.lt_size e) I.ok.above)
 have neC:∀ b o,X.s₀.heap.get? b=some o->b ∉ X.ex->b ∉ ch:=fun b o e hx hb=>by
  rcases (hch b hb).1 with z | z
  ·exact hx z
  ·exact absurd (Nat.lt_of_lt_of_le (Heap.lt_size e) z) (Nat.lt_irrefl _)
 have cellK:∀ x c,X.env.cells.lookup x=some c->∀ v,s.heap.IsCell c v->h'.IsCell c v:=fun x c e v ⟨o,ho,hd⟩=>by
  have nch:c ∉ ch:=fun z=>(hch c z).2.2.1 x c e rfl
  by_cases hc:c∈X.fs
  ·obtain ⟨sl,q⟩:=slot c o (I.cne x c e) hc nch ho (I.freeC x c e)
   exact ⟨_,q,hd⟩
  ·exact ⟨o,keep c o (I.cne x c e) hc nch ho (I.freeC x c e),hd⟩
 refine ⟨I.ok,I.os,hg,⟨fun b o e n hb hx=>?_,fun b o e n hb hx=>?_,fun b o e n hx=>?_,fun b o e hx=>?_,fun b xs e=>tups b xs (I.base.tups b xs e),fun b o xs e=>frzs b o xs (I.base.frzs b o xs e),fun b ps e=>?_⟩,?_,fun x c e=>?_,?_,fun x c e=>?_,fun p hp=>?_,hok,I.len⟩
 ·exact keep b o (neL b o e) hb (neC b o e hx) (I.base.keep b o e n hb hx) (I.base.free b o e n hx)
 ·obtain ⟨sl,e1⟩:=I.base.slot b o e n hb hx
  obtain ⟨sl',e2⟩:=slot b _ (neL b o e) hb (neC b o e hx) e1 (I.base.free b o e n hx)
  exact ⟨sl',e2⟩
 ·obtain ⟨o',e1⟩:=I.base.there b o e hx
  exact free b o' (neC b o e hx) e1 (I.base.free b o e n hx)
 ·obtain ⟨o',e1⟩:=I.base.there b o e hx
  exact there b o' (neC b o e hx) e1
 ·obtain ⟨m1,e1⟩:=I.base.tbls b ps e
  obtain ⟨m2,e2⟩:=tbls b _ e1
  exact ⟨m1++m2,by rw [e2,Array.append_assoc]⟩
 ·obtain ⟨m,hn,hl⟩:=I.loc
  refine ⟨m,ns m hn,fun i x v e1 e2 e3=>?_⟩
  obtain ⟨u,r,l⟩:=hl i x v e1 e2 e3
  refine ⟨u,r,?_⟩
  rcases l with l | ⟨k,c,e,z⟩
  ·exact .inl l
  ·exact .inr ⟨k,c,e,cellK x c e _ z⟩
 ·obtain ⟨v,z⟩:=I.cell x c e
  exact ⟨v,cellK x c e v z⟩
 ·obtain ⟨m,⟨o,_,_,ho,_⟩,_⟩:=I.loc
  exact free _ o (fun z=>(hch _ z).2.1 rfl) ho I.free
 ·obtain ⟨v,o,ho,hd⟩:=I.cell x c e
  exact free c o (fun z=>(hch c z).2.2.1 x c e rfl) ho (I.freeC x c e)
 ·obtain ⟨e,n,ne,nf,d⟩:=I.pin p hp
  have nch:p.1 ∉ ch:=fun z=>(hch p.1 z).2.2.2 p hp rfl
  exact ⟨keep p.1 p.2 ne nf nch e n,free p.1 p.2 nch e n,ne,nf,d⟩
theorem Inv.un {t':Nat}(I:Inv X pins σ H s)(u:Un X.fs [] H H' s.heap h')(hok:HOk X.prog X.w H' h'):Inv X pins σ H' { s with heap:=h',toks:=t' }:=by
 obtain ⟨m,⟨o,es,ep,ho,r⟩,_⟩:=id I.loc
 obtain ⟨sl,hL⟩:=u.any ho I.free (by simp)
 exact I.step (g':=s.gens) (d':=s.drawn) (ch:=[]) (fun _ z=>nomatch z) (fun b o _ hb _ e n=>u.keep b o e n hb (by simp)) (fun b o _ hb _ e n=>u.slot b o e n hb (by simp)) (fun b o _ e n=>u.free b o e n (by simp)) (fun b o _ e=>u.there b o e (by simp)) u.tups u.frzs u.tbls (fun m' hm=>by
  obtain ⟨o',es',ep',ho',r'⟩:=hm
  rw [ho] at ho'; cases ho'
  exact ⟨_,es',ep',hL,r'⟩) hok I.bare
theorem Inv.call {g':Array GenState}{t':Nat}{d':Drawn}{ch:List Addr}(I:Inv X pins σ H s)(u:Un (frs X.stack) ch H H' s.heap h')(hok:HOk X.prog X.w H' h')(hg:AllBare g')(hch:∀ b∈ch,(b∈X.ex\/X.s₀.heap.objs.size<=b)/\b≠X.env.locals/\(∀ x c,X.env.cells.lookup x=some c->c≠b)/\∀ p∈X.pn++pins,p.1≠b) :
  Inv X pins σ H' { s with heap:=h',gens:=g',drawn:=d',toks:=t' }:=by
 obtain ⟨m,⟨o,es,ep,ho,r⟩,_⟩:=id I.loc
 obtain ⟨sl,hL⟩:=u.any ho I.free fun z=>(hch _ z).2.1 rfl
 exact I.step (ch:=ch) hch (fun b o hL hb hc e n=>u.keep b o e n (fun z=>(List.mem_cons.mp (I.stkSub b z)).elim hL hb) hc) (fun b o _ _ hc e n=>u.any e n hc) (fun b o hc e n=>u.free b o e n hc) (fun b o hc e=>u.there b o e hc) u.tups u.frzs u.tbls (fun m' hm=>by
  obtain ⟨o',es',ep',ho',r'⟩:=hm
  rw [ho] at ho'; cases ho'
  exact ⟨_,es',ep',hL,r'⟩) hok hg
theorem Inv.turned {t':Nat}{it:Addr}(I:Inv X pins σ H s)(k:∀ b o,b≠it->s.heap.get? b=some o->h'.get? b=some o)(hn:H it=none)(hL:it≠X.env.locals)(h1:it∈X.ex\/X.s₀.heap.objs.size<=it)(h2:∀ x c,X.env.cells.lookup x=some c->c≠it)(h3:∀ p∈X.pn++pins,p.1≠it):Inv X pins σ H { s with heap:=h',toks:=t' }:=by
 have nit:∀ b u,H b=some u->b≠it:=fun b u e z=>by rw [z,hn] at e; cases e
 refine I.step (g':=s.gens) (d':=s.drawn) (ch:=[it]) (fun b hb=>?_) (fun b o _ _ hc e _=>k b o (fun z=>hc (by simp [z])) e) (fun b o _ _ hc e _=>⟨o.slots,k b o (fun z=>hc (by simp [z])) e⟩) (fun _ _ _ _ n=>n)
  (fun b o hc e=>⟨o,k b o (fun z=>hc (by simp [z])) e⟩) (fun _ _ e=>e) (fun _ _ _ e=>e) (fun b ps e=>⟨#[],by rw [e]; simp⟩) (fun m hm=>?_) (fun b u e=>?_) I.bare
 ·have e:b=it:=by simpa using hb
  subst e
  exact ⟨h1,hL,h2,h3⟩
 ·obtain ⟨o,es,ep,ho,r⟩:=hm
  exact ⟨o,es,ep,k _ o (Ne.symm hL) ho,r⟩
 ·refine (I.hok b u e).stay (fun c v hc q=>k c v ?_ q) (fun _ q=>q) fun _ _ q=>q
  rcases hc with z | z
  ·rw [z]; exact nit b u e
  ·exact nit c _ z
theorem Inv.tok (I:Inv X pins σ H s)(t:Nat):Inv X pins σ H { s with toks:=t }:=I.un (h':=s.heap) (t':=t) Un.refl I.hok
theorem Inv.kept {t':Nat}(I:Inv X pins σ H s)(k:∀ b u,s.heap.get? b=some u->h'.get? b=some u):Inv X pins σ H { s with heap:=h',toks:=t' }:=I.un (Un.kept k) (I.hok.kept k)
theorem Inv.laid {a:Addr}{o:HO}{t':Nat}(I:Inv X pins σ H s)(k:∀ b u,s.heap.get? b=some u->h'.get? b=some u)(hp:s.heap.objs.size<=a)(new:ObjOk X.prog X.w (upd H a o) h' a o) :
  Inv X pins σ (upd H a o) { s with heap:=h',toks:=t' }:=I.un (Un.laid k hp (I.hok.fresh hp)) (I.hok.laid k hp new)
theorem Inv.write {x e:Addr}{o:HO}{t':Nat}(I:Inv X pins σ H s)(mu:Mut (H x))(he:e=x\/H e=some (.own x))(k:∀ b u,b≠e->s.heap.get? b=some u->h'.get? b=some u)(heo:∃ u,h'.get? e=some u)(new:ObjOk X.prog X.w (upd H x o) h' x o):Inv X pins σ (upd H x o) { s with heap:=h',toks:=t' }:=I.un (Un.write mu he k heo) (I.hok.write mu he k heo new)
theorem Inv.pins_of {pins':List (Addr × Obj)}(I:Inv X pins σ H s)(h:∀ p∈pins',s.heap.get? p.1=some p.2/\H p.1=none/\p.1≠X.env.locals/\p.1 ∉ X.fs/\∀ v,p.2.data≠.cell v):Inv X pins' σ H s :=
 ⟨I.ok,I.os,I.bare,I.base,I.loc,I.cell,I.free,I.freeC,fun p hp=>(List.mem_append.mp hp).elim (fun z=>I.pin p (List.mem_append_left _ z)) (h p),I.hok,I.len⟩
theorem AQ9 {N:List Str}(hN:N.Nodup){i j:Nat}{x:Str}(a:N[i]?=some x)(b:N[j]?=some x):i=j:=by
 obtain ⟨h1,e1⟩:=List.getElem?_eq_some_iff.mp a
 obtain ⟨h2,e2⟩:=List.getElem?_eq_some_iff.mp b
 exact (List.getElem_inj hN).mp (e1.trans e2.symm)
theorem AG1 {M:Model}{A:Around}{E:Value->Shared->Prop}{i:Nat}{x:Str}{v:V}{u:Value}{Q:Unit->Shared->Prop}(I:Inv X pins σ H s)(hN:X.N.Nodup)(hi:X.N[i]?=some x)(hx:Loc X.env.scope x)(r:RelV v u)(h:∀ s',Inv X pins (σ.set i (some v)) H s'->(∃ a,Heap.SameBut a s.heap s'.heap/\(a=X.env.locals\/X.env.cells.lookup x=some a))->Q () s')(hf:X.fn x=true\/X.env.scope.names.lookup x=some .local:=by first | exact .inl rfl | exact .inr rfl | assumption):wpAny M A (storeName X.env x u) Q E s:=by
 obtain ⟨m,hn,hl⟩:=id I.loc
 have hcls:(X.env.scope.kind == .class || (X.env.scope.kind == .module && X.env.locals != X.env.globals))=false:=by rw [I.ok.kind]; rfl
 have hiσ:i < σ.length:=by rw [I.len]; exact (List.getElem?_eq_some_iff.mp hi).1
 have cne:=I.cne
 have tracked:∀ {a:Addr}{h':Heap},(∃ o,s.heap.get? a=some o/\H a=none)->Heap.SameBut a s.heap h'->HOk X.prog X.w H h':=fun {a h'} ha hs b ob e=>by
  obtain ⟨_,_,hfree⟩:=ha
  refine (I.hok b ob e).stay (fun c w' hc q=>(hs.2 c ?_).trans q) (fun _ q=>q) fun _ _ q=>q
  rintro rfl
  rcases hc with rfl | hc
  ·rw [hfree] at e; cases e
  ·rw [hfree] at hc; cases hc
 rcases hx with hk | hk
 ·refine wpAny_storeName_local hk hn (fun h' hn' hs=>?_) hcls
  obtain ⟨oL,_,_,hoL,_⟩:=id hn
  refine h _ ⟨I.ok,I.os,I.bare,⟨fun b o e n hb hx=>?_,fun b o e n hb hx=>?_,I.base.free,fun b o e hx=>?_,I.base.tups,I.base.frzs,I.base.tbls⟩,⟨_,hn',fun j y v' e1 e2 e3=>?_⟩,fun y c e=>?_,I.free,I.freeC,fun p hp=>?_,tracked ⟨oL,hoL,I.free⟩ hs,by simpa using I.len⟩ ⟨_,hs,.inl rfl⟩
  ·exact (hs.2 b (Nat.ne_of_lt (Nat.lt_of_lt_of_le (Heap.lt_size e) I.ok.above))).trans (I.base.keep b o e n hb hx)
  ·obtain ⟨sl,e1⟩:=I.base.slot b o e n hb hx
   exact ⟨sl,(hs.2 b (Nat.ne_of_lt (Nat.lt_of_lt_of_le (Heap.lt_size e) I.ok.above))).trans e1⟩
  ·obtain ⟨o',e1⟩:=I.base.there b o e hx
   exact ⟨o',(hs.2 b (Nat.ne_of_lt (Nat.lt_of_lt_of_le (Heap.lt_size e) I.ok.above))).trans e1⟩
  ·by_cases hj:j=i
   ·subst hj
    rw [hi] at e1; cases e1
    rw [List.getElem?_set_self hiσ] at e2
    cases e2
    exact ⟨u,r,.inl ⟨hk,by simp⟩⟩
   ·rw [List.getElem?_set_ne (Ne.symm hj)] at e2
    obtain ⟨u',r',q⟩:=hl j y v' e1 e2 e3
    refine ⟨u',r',?_⟩
    rcases q with ⟨k,e⟩ | ⟨k,c,e,z⟩
    ·refine .inl ⟨k,?_⟩
     have:y≠x:=fun e=>hj (AQ9 hN e1 (e ▸ hi))
     simp [this,e]
    ·exact .inr ⟨k,c,e,z.sameBut hs (cne y c e)⟩
  ·obtain ⟨w',z⟩:=I.cell y c e
   exact ⟨w',z.sameBut hs (cne y c e)⟩
  ·obtain ⟨e,n,ne,nf,d⟩:=I.pin p hp
   exact ⟨(hs.2 p.1 ne).trans e,n,ne,nf,d⟩
 ·have hfn:X.fn x=true:=by
   rcases hf with z | z
   ·exact z
   ·rw [z] at hk; cases hk
  obtain ⟨c,hc⟩:=I.ok.has x (.inl hk)
  obtain ⟨w',z⟩:=I.cell x c hc
  refine wpAny_storeName_cell I.ok.kind hk hc z (fun h' hc' hs=>?_)
  obtain ⟨oc,hoc,hocd⟩:=id z
  refine h { s with heap:=h' } ⟨I.ok,I.os,I.bare,⟨fun b o e n hb hx=>?_,fun b o e n hb hx=>?_,I.base.free,fun b o e hx=>?_,I.base.tups,I.base.frzs,I.base.tbls⟩,⟨m,hn.sameBut hs (Ne.symm (cne x c hc)),fun j y v' e1 e2 e3=>?_⟩,fun y c' e=>?_,I.free,I.freeC,fun p hp=>?_,tracked ⟨oc,hoc,I.freeC x c hc⟩ hs,by simpa using I.len⟩ ⟨c,hs,.inr hc⟩
  ·exact (hs.2 b (Nat.ne_of_lt (Nat.lt_of_lt_of_le (Heap.lt_size e) (I.ok.cab x c hfn hc)))).trans (I.base.keep b o e n hb hx)
  ·obtain ⟨sl,e1⟩:=I.base.slot b o e n hb hx
   exact ⟨sl,(hs.2 b (Nat.ne_of_lt (Nat.lt_of_lt_of_le (Heap.lt_size e) (I.ok.cab x c hfn hc)))).trans e1⟩
  ·obtain ⟨o',e1⟩:=I.base.there b o e hx
   exact ⟨o',(hs.2 b (Nat.ne_of_lt (Nat.lt_of_lt_of_le (Heap.lt_size e) (I.ok.cab x c hfn hc)))).trans e1⟩
  ·by_cases hj:j=i
   ·subst hj
    rw [hi] at e1; cases e1
    rw [List.getElem?_set_self hiσ] at e2
    cases e2
    exact ⟨u,r,.inr ⟨.inl hk,c,hc,hc'⟩⟩
   ·rw [List.getElem?_set_ne (Ne.symm hj)] at e2
    obtain ⟨u',r',q⟩:=hl j y v' e1 e2 e3
    refine ⟨u',r',?_⟩
    rcases q with q | ⟨k,c',e,z'⟩
    ·exact .inl q
    ·refine .inr ⟨k,c',e,z'.sameBut hs ?_⟩
     rintro rfl
     exact hj (AQ9 hN e1 (I.ok.inj _ _ _ e hc ▸ hi))
  ·by_cases hcc:c'=c
   ·subst hcc; exact ⟨_,hc'⟩
   ·obtain ⟨w2,z2⟩:=I.cell y c' e
    exact ⟨w2,z2.sameBut hs hcc⟩
  ·obtain ⟨e,n,ne,nf,d⟩:=I.pin p hp
   refine ⟨(hs.2 p.1 ?_).trans e,n,ne,nf,d⟩
   intro q
   rw [q,hoc] at e
   have q':oc=p.2:=Option.some.inj e
   exact d w' (by rw [<- q']; exact hocd)
theorem vM {M:Model}{A:Around}{E:Value->Shared->Prop}{i:Nat}{x:Str}{v:V}{u:Value}{Q:Unit->Shared->Prop}(I:Inv X pins σ H s)(hN:X.N.Nodup)(hi:X.N[i]?=some x)(hx:Loc X.env.scope x)(r:RelV v u)(h:∀ s',Inv X pins (σ.set i (some v)) H s'->Q () s')(hf:X.fn x=true\/X.env.scope.names.lookup x=some .local:=by first | exact .inl rfl | exact .inr rfl | assumption):wpAny M A (storeName X.env x u) Q E s :=
 AG1 I hN hi hx r (fun s' I' _=>h s' I') hf
theorem Inv.call' {s':Shared}{ch:List Addr}(I:Inv X pins σ H s)(ho:s'.os=s.os)(u:Un (frs X.stack) ch H H' s.heap s'.heap)(hok:HOk X.prog X.w H' s'.heap)(hg:AllBare s'.gens)(hch:∀ b∈ch,(b∈X.ex\/X.s₀.heap.objs.size<=b)/\b≠X.env.locals/\(∀ x c,X.env.cells.lookup x=some c->c≠b)/\∀ p∈X.pn++pins,p.1≠b):Inv X pins σ H' s':=by
 obtain ⟨h',g',d',t',o'⟩:=s'
 have e:o'=s.os:=ho
 subst e
 exact I.call (g':=g') (t':=t') (d':=d') u hok hg hch
end
abbrev XK:=Value->Option Addr->Hp->Prop
abbrev St:=List (Option V)
abbrev VK:=V->Hp->Prop
abbrev TE:=St->Hp->VK->Prop
abbrev TT:=St->Hp->(Bool->Hp->Prop)->Prop
abbrev TA:=St->Hp->(List V->Hp->Prop)->Prop
structure Ends where
 nx:St->Hp->Prop
 rt:VK
 bk:St->Hp->Prop:=fun _ _=>False
 ct:St->Hp->Prop:=fun _ _=>False
abbrev TS:=Ends->St->Hp->Prop
def EP (X:Cx)(pins:List (Addr × Obj))(σ:St)(Q:VK)(u:Value)(s':Shared):Prop:=∃ v H',Inv X pins σ H' s'/\RelV v u/\Q v H'
def TP (X:Cx)(pins:List (Addr × Obj))(σ:St)(Q:Bool->Hp->Prop)(b:Bool)(s':Shared):Prop:=∃ H',Inv X pins σ H' s'/\Q b H'
def AP (X:Cx)(pins:List (Addr × Obj))(σ:St)(Q:List V->Hp->Prop)(us:List Value)(s':Shared):Prop:=∃ vs H',Inv X pins σ H' s'/\Vals vs us/\Q vs H'
def SP (X:Cx)(pins:List (Addr × Obj))(D:Ends)(f:Flow)(s':Shared):Prop :=
 match f with
 | .next=>∃ σ' H',Inv X pins σ' H' s'/\D.nx σ' H'
 | .brk=>∃ σ' H',Inv X pins σ' H' s'/\D.bk σ' H'
 | .cont=>∃ σ' H',Inv X pins σ' H' s'/\D.ct σ' H'
 | .ret u=>∃ v σ' H',Inv X pins σ' H' s'/\RelV v u/\D.rt v H'
def PE (X:Cx)(e:Expr)(t:TE):Prop :=
 ∀ (pins:List (Addr × Obj)) (s:Shared) (σ:St) (H:Hp) (Q:VK),Inv X pins σ H s->t σ H Q->wpAny (model X.prog X.w) X.A (eval e X.env) (EP X pins σ Q) X.xe s
def PT (X:Cx)(e:Expr)(t:TT):Prop :=
 ∀ (pins:List (Addr × Obj)) (s:Shared) (σ:St) (H:Hp) (Q:Bool->Hp->Prop),Inv X pins σ H s->t σ H Q->wpAny (model X.prog X.w) X.A (isTrue e X.env (eval e X.env)) (TP X pins σ Q) X.xe s
def PW (X:Cx)(e:Expr)(t:TT):Prop :=
 ∀ (whole:Sem Value) (pins:List (Addr × Obj)) (s:Shared) (σ:St) (H:Hp) (Q:Bool->Hp->Prop),Inv X pins σ H s->t σ H Q->wpAny (model X.prog X.w) X.A (isTrue e X.env whole) (TP X pins σ Q) X.xe s
theorem PW.pt {X:Cx}{e:Expr}{t:TT}(h:PW X e t):PT X e t:=h _
def PA (X:Cx)(es:List Expr)(t:TA):Prop :=
 ∀ (pos:Pos) (pins:List (Addr × Obj)) (s:Shared) (σ:St) (H:Hp) (Q:List V->Hp->Prop),Inv X pins σ H s->t σ H Q->wpAny (model X.prog X.w) X.A (spliced (backTo pos (starEach es X.env))) (AP X pins σ Q) X.xe s
def PS (X:Cx)(st:Stmt)(t:TS):Prop :=
 ∀ (pins:List (Addr × Obj)) (s:Shared) (σ:St) (H:Hp) (D:Ends),Inv X pins σ H s->t D σ H->wpAny (model X.prog X.w) X.A (exec st X.env) (SP X pins D) X.xe s
def PSs (X:Cx)(st:List Stmt)(t:TS):Prop :=
 ∀ (pins:List (Addr × Obj)) (s:Shared) (σ:St) (H:Hp) (D:Ends),Inv X pins σ H s->t D σ H->wpAny (model X.prog X.w) X.A (execs st X.env) (SP X pins D) X.xe s
theorem thn {α:Type}{t:Sem α}{Q Q':α->Shared->Prop}{M:Model}{A:Around}{E:Value->Shared->Prop}{s:Shared}(h:wpAny M A t Q E s)(hQ:∀ a s,Q a s->Q' a s):wpAny M A t Q' E s:=wpAny_mono h hQ fun _ _ x=>x
section
variable {X:Cx}
def isV (o:Option (Option V))(k:V->Prop):Prop:=match o with | some (some v)=>k v | _=>False
theorem isV.ex {k:V->Prop}:∀ {o:Option (Option V)},isV o k->∃ v,o=some (some v)/\k v
 | some (some v),h=>⟨v,rfl,h⟩
 | some none,h=>h.elim
 | none,h=>h.elim
def isB (x:V)(k:Bool->Prop):Prop:=match x with | .bl c=>k c | _=>False
theorem isB.ex {k:Bool->Prop}{x:V}(h:isB x k):∃ c,x=.bl c/\k c:=by
 cases x <;> first | exact h.elim | exact ⟨_,rfl,h⟩
def isI (x:V)(k:Int->Prop):Prop:=match x with | .int c=>k c | _=>False
theorem isI.ex {k:Int->Prop}{x:V}(h:isI x k):∃ c,x=.int c/\k c:=by
 cases x <;> first | exact h.elim | exact ⟨_,rfl,h⟩
def isR (x:V)(k:Addr->Prop):Prop:=match x with | .ref c=>k c | _=>False
theorem isR.ex {k:Addr->Prop}{x:V}(h:isR x k):∃ c,x=.ref c/\k c:=by
 cases x <;> first | exact h.elim | exact ⟨_,rfl,h⟩
def isT (x:V)(k:Str->Prop):Prop:=match x with | .str c=>k c | _=>False
theorem isT.ex {k:Str->Prop}{x:V}(h:isT x k):∃ c,x=.str c/\k c:=by
 cases x <;> first | exact h.elim | exact ⟨_,rfl,h⟩
def isC (vs:List V)(k:V->List V->Prop):Prop:=match vs with | v::r=>k v r | []=>False
theorem isC.ex {k:V->List V->Prop}:∀ {vs:List V},isC vs k->∃ v r,vs=v::r/\k v r
 | _::_,h=>⟨_,_,rfl,h⟩
 | [],h=>h.elim
def isN (vs:List V)(p:Prop):Prop:=match vs with | []=>p | _=>False
theorem isN.ex {p:Prop}:∀ {vs:List V},isN vs p->vs=[]/\p
 | [],h=>⟨rfl,h⟩
 | _::_,h=>h.elim
def CJ7 (i:Nat):TE:=fun σ H Q=>isV σ[i]? fun v=>Q v H
def tC (v:V):TE:=fun _ H Q=>Q v H
theorem BO6 {i:Nat}{x:Str}{pos:Pos}(hN:X.N[i]?=some x)(hv:Vis X.env.scope x)(hd:(x == ("__debug__":Str))=false:=by decide)(hcd:(x == ("__classdict__":Str))=false:=by decide):PE X (.Name x pos) (CJ7 i):=by
 intro pins s σ H Q I h
 obtain ⟨v,e,h⟩:=isV.ex h
 obtain ⟨m,hn,hl⟩:=I.loc
 obtain ⟨u,r,l⟩:=hl i x v hN e hv
 have fin:EP X pins σ Q u s:=⟨v,H,I,r,h⟩
 rcases l with ⟨hk,hm⟩ | ⟨hk,c,hc,hcell⟩
 ·exact wpAny_Name (wpAny_loadName_local I.ok.kind hk hn hm fin) hd
 ·rcases hk with hk | hk
  ·exact wpAny_Name (wpAny_loadName_cell I.ok.kind hk hc hcell fin) hd
  ·exact wpAny_Name (wpAny_loadName_free I.ok.kind hk hc hcell fin hcd) hd
theorem aN {i j pos}:PE X (.Constant (.int i) j pos) (tC (.int i)):=fun _ _ _ H _ I h=>wpAny_Constant_int ⟨.int i,H,I.tok _,⟨_,rfl⟩,h⟩
theorem uT {b j pos}:PE X (.Constant (.bool b) j pos) (tC (.bl b)):=fun _ _ _ H _ I h=>Constant_bool ⟨.bl b,H,I,rfl,h⟩
theorem yX {j pos}:PE X (.Constant .none j pos) (tC .non):=fun _ _ _ H _ I h=>Constant_none ⟨.non,H,I,rfl,h⟩
theorem aO {x j pos}:PE X (.Constant (.str x) j pos) (tC (.str x)):=fun _ _ _ H _ I h=>Calls.Constant_str ⟨.str x,H,I.tok _,⟨_,rfl⟩,h⟩
def Gl (X:Cx)(x:Str):Prop:=X.env.kindOf x=some .globalImplicit
theorem iT {E:Value->Shared->Prop}{pins:List (Addr × Obj)}{s:Shared}{σ:St}{H:Hp}{x:Str}{u:Value}{pos:Pos}{Q:Value->Shared->Prop}(I:Inv X pins σ H s)(hg:Gl X x)(hm:X.mg x=some u)(h:Q u s)(hd:(x == ("__debug__":Str))=false:=by decide):wpAny (model X.prog X.w) X.A (eval (.Name x pos) X.env) Q E s :=
 Calls.Name_function_global I.ok.kind hg (Calls.loadGlobal_global (by rw [I.ok.glob]; exact I.mod.glob.keeps I.bk) hm h) hd
theorem AG2 {E:Value->Shared->Prop}{pins:List (Addr × Obj)}{s:Shared}{σ:St}{H:Hp}{x:Str}{u:Value}{pos:Pos}{Q:Value->Shared->Prop}(I:Inv X pins σ H s)(hg:Gl X x)(hm:X.mg x=none)(hv:bootBuiltins x=some u)(h:Q u s)(hn:x≠"__name__":=by decide)(hd:(x == ("__debug__":Str))=false:=by decide):wpAny (model X.prog X.w) X.A (eval (.Name x pos) X.env) Q E s:=by
 obtain ⟨mb,h1,h2⟩:=I.mod.blt
 exact Calls.Name_function_global I.ok.kind hg (Calls.loadGlobal_builtin (by rw [I.ok.glob]; exact I.mod.glob.keeps I.bk) hm (by rw [I.ok.blt]; exact h1.keeps I.bk) ((h2 x hn).trans hv) h) hd
theorem cV {x:Str}{v:V}{u:Value}{pos:Pos}(hg:Gl X x)(hm:X.mg x=some u)(r:RelV v u)(hd:(x == ("__debug__":Str))=false:=by decide):PE X (.Name x pos) (tC v) :=
 fun _ _ _ H _ I h=>iT I hg hm ⟨v,H,I,r,h⟩ hd
theorem eO {x:Str}{v:V}{u:Value}{pos:Pos}(hg:Gl X x)(hm:X.mg x=none)(hv:bootBuiltins x=some u)(r:RelV v u)(hn:x≠"__name__":=by decide)(hd:(x == ("__debug__":Str))=false:=by decide):PE X (.Name x pos) (tC v) :=
 fun _ _ _ H _ I h=>AG2 I hg hm hv ⟨v,H,I,r,h⟩ hn hd
variable {a b:Expr}{ta tb:TE}{pos:Pos}
def PC (X:Cx)(op:CmpOp)(a b:Expr)(t:TE):Prop :=
 ∀ (pins:List (Addr × Obj)) (s:Shared) (σ:St) (H:Hp) (Q:VK),Inv X pins σ H s->t σ H Q ->
  wpAny (model X.prog X.w) X.A (eval a X.env) (fun v s₁=>wpAny (model X.prog X.w) X.A (eval b X.env) (fun u s₂=>wpAny (model X.prog X.w) X.A (compareOp op v u) (EP X pins σ Q) X.xe s₂) X.xe s₁) X.xe s
theorem BJ0 (b:Expr){op:CmpOp}(h:op≠.In)(h2:op≠.NotIn):behindInMarks op b=false:=by
 have e1:(op == CmpOp.In)=false:=by cases op <;> first | rfl | exact absurd rfl h
 have e2:(op == CmpOp.NotIn)=false:=by cases op <;> first | rfl | exact absurd rfl h2
 cases b <;> simp [behindInMarks,e1,e2]
def CP1 (ta:TE):TE:=fun σ H Q=>ta σ H fun x H1=>Q (.bl (decide (x=.non))) H1
def CC0 (ta:TE):TE:=fun σ H Q=>ta σ H fun x H1=>Q (.bl (!decide (x=.non))) H1
theorem RelV.none_iff {x:V}{v:Value}(r:RelV x v):(v == Value.none)=decide (x=.non):=by
 cases x with
 | non=>cases r; rfl
 | bl _=>cases r; rfl
 | int _=>obtain ⟨t,rfl⟩:=r; rfl
 | str _=>obtain ⟨t,rfl⟩:=r; rfl
 | byt _=>obtain ⟨t,rfl⟩:=r; rfl
 | flt _=>obtain ⟨t,rfl⟩:=r; rfl
 | ref _=>cases r; rfl
 | ty _=>cases r; rfl
theorem yY {j pos'}(ha:PE X a ta):PC X .Is a (.Constant .none j pos') (CP1 ta):=by
 intro pins s σ H Q I h
 refine thn (ha pins s σ H _ I h) fun v s1 ⟨x,H1,I1,r1,q1⟩=>?_
 exact Constant_none (is_none_gen ⟨.bl _,H1,I1,by rw [r1.none_iff]; rfl,q1⟩)
theorem AL4 {j pos'}(ha:PE X a ta):PC X .IsNot a (.Constant .none j pos') (CC0 ta):=by
 intro pins s σ H Q I h
 refine thn (ha pins s σ H _ I h) fun v s1 ⟨x,H1,I1,r1,q1⟩=>?_
 exact Constant_none (isnot_none_gen ⟨.bl _,H1,I1,by rw [r1.none_iff]; rfl,q1⟩)
def tB (t:TE):TT:=fun σ H Q=>t σ H fun x H1=>isB x fun c=>Q c H1
theorem qE {op:CmpOp}{t:TE}(h:PC X op a b t)(h1:behindInMarks op b=false:=by first | exact BJ0 _ (by decide) (by decide) | rfl):PT X (.Compare a [op] [b] pos) (tB t):=by
 intro pins s σ H Q I hw
 refine wpAny_isTrue_Compare1 (thn (h pins s σ H _ I hw) fun v s1 h1=>thn h1 fun u s2 h2=>thn h2 fun c s3 ⟨x,H1,I1,r1,q1⟩=>?_) h1
 obtain ⟨d,rfl,q⟩:=isB.ex q1
 cases r1
 exact wpAny_truthy_bool ⟨H1,I1,q⟩
theorem bP {e:Expr}{t:TE}(h:PE X e t)(he:∀ whole,isTrue e X.env whole=(do let v <- whole; standAt e.pos; holding [v] (truthy v)):=by intro _; rfl):PT X e (tB t):=by
 intro pins s σ H Q I hw
 refine isTrue_plain (thn (h pins s σ H _ I hw) fun v s1 ⟨x,H1,I1,r1,q1⟩=>?_) (he _)
 obtain ⟨d,rfl,q⟩:=isB.ex q1
 cases r1
 exact wpAny_truthy_bool ⟨H1,I1,q⟩
variable {tA tB':TT}{rest:List Expr}
def CP2 (t u:TT):TT:=fun σ H Q=>t σ H fun c H1=>if c=true then u σ H1 Q else Q false H1
def tOr (t u:TT):TT:=fun σ H Q=>t σ H fun c H1=>if c=true then Q true H1 else u σ H1 Q
def CP3 (t:TT):TT:=fun σ H Q=>t σ H fun c H1=>Q (!c) H1
theorem vV (ha:PT X a tA):PW X (.BoolOp .And [a] pos) tA:=by
 intro wh pins s σ H Q I h
 refine isTrue_and (thn (ha pins s σ H Q I h) fun c s1 e=>?_)
 cases c with
 | true=>exact isTrue_and_nil e
 | false=>exact e
theorem iU (ha:PT X a tA):PW X (.BoolOp .Or [a] pos) tA:=by
 intro wh pins s σ H Q I h
 refine isTrue_or (thn (ha pins s σ H Q I h) fun c s1 e=>?_)
 cases c with
 | false=>exact isTrue_or_nil e
 | true=>exact e
theorem AG3 (ha:PT X a tA)(hb:PW X (.BoolOp .And (b::rest) pos) tB'):PW X (.BoolOp .And (a::b::rest) pos) (CP2 tA tB'):=by
 intro wh pins s σ H Q I h
 refine isTrue_and (thn (ha pins s σ H _ I h) fun c s1 ⟨H1,I1,q1⟩=>?_)
 cases c with
 | true=>exact hb wh pins s1 σ H1 Q I1 q1
 | false=>exact ⟨H1,I1,q1⟩
theorem kE (ha:PT X a tA)(hb:PW X (.BoolOp .Or (b::rest) pos) tB'):PW X (.BoolOp .Or (a::b::rest) pos) (tOr tA tB'):=by
 intro wh pins s σ H Q I h
 refine isTrue_or (thn (ha pins s σ H _ I h) fun c s1 ⟨H1,I1,q1⟩=>?_)
 cases c with
 | true=>exact ⟨H1,I1,q1⟩
 | false=>exact hb wh pins s1 σ H1 Q I1 q1
theorem cH (ha:PT X a tA):PT X (.UnaryOp .Not a pos) (CP3 tA):=by
 intro pins s σ H Q I h
 exact isTrue_not (ha pins s σ H (fun c H1=>Q (!c) H1) I h)
def CC1 (ta tb:TE):TE:=fun σ H Q=>ta σ H fun x H1=>isB x fun c=>if c=true then tb σ H1 Q else Q (.bl false) H1
def CP4 (ta tb:TE):TE:=fun σ H Q=>ta σ H fun x H1=>isB x fun c=>if c=true then Q (.bl true) H1 else tb σ H1 Q
def CC2 (ta:TE):TE:=fun σ H Q=>ta σ H fun x H1=>isB x fun c=>Q (.bl (!c)) H1
theorem vW {op}{t:TE}(h:PE X a t):PE X (.BoolOp op [a] pos) t:=fun pins s σ H Q I hw=>BoolOp_one (h pins s σ H Q I hw)
theorem uI (ha:PE X a ta)(hb:PE X (.BoolOp .And (b::rest) pos) tb):PE X (.BoolOp .And (a::b::rest) pos) (CC1 ta tb):=by
 intro pins s σ H Q I h
 refine BoolOp_and (thn (ha pins s σ H _ I h) fun v s1 ⟨x,H1,I1,r1,q1⟩=>?_)
 obtain ⟨c,rfl,q1⟩:=isB.ex q1
 cases r1
 refine wpAny_truthy_bool ?_
 cases c with
 | true=>exact hb pins s1 σ H1 Q I1 q1
 | false=>exact ⟨.bl false,H1,I1,rfl,q1⟩
theorem CJ8 (ha:PE X a ta)(hb:PE X (.BoolOp .Or (b::rest) pos) tb):PE X (.BoolOp .Or (a::b::rest) pos) (CP4 ta tb):=by
 intro pins s σ H Q I h
 refine BoolOp_or (thn (ha pins s σ H _ I h) fun v s1 ⟨x,H1,I1,r1,q1⟩=>?_)
 obtain ⟨c,rfl,q1⟩:=isB.ex q1
 cases r1
 refine wpAny_truthy_bool ?_
 cases c with
 | false=>exact hb pins s1 σ H1 Q I1 q1
 | true=>exact ⟨.bl true,H1,I1,rfl,q1⟩
theorem BO7 (ha:PE X a ta):PE X (.UnaryOp .Not a pos) (CC2 ta):=by
 intro pins s σ H Q I h
 refine UnaryOp_ (thn (ha pins s σ H _ I h) fun v s1 ⟨x,H1,I1,r1,q1⟩=>?_)
 obtain ⟨c,rfl,q1⟩:=isB.ex q1
 cases r1
 exact not_of (wpAny_truthy_bool ⟨.bl (!c),H1,I1,rfl,q1⟩)
def tIf (t:TT)(ta tb:TE):TE:=fun σ H Q=>t σ H fun c H1=>if c=true then ta σ H1 Q else tb σ H1 Q
theorem oG {c:Expr}(hc:PT X c tA)(ha:PE X a ta)(hb:PE X b tb):PE X (.IfExp c a b pos) (tIf tA ta tb):=by
 intro pins s σ H Q I h
 refine wpAny_IfExp (thn (hc pins s σ H _ I h) fun d s1 ⟨H1,I1,q1⟩=>?_)
 cases d with
 | true=>exact ha pins s1 σ H1 Q I1 q1
 | false=>exact hb pins s1 σ H1 Q I1 q1
end
def SqL (K:Frag)(H:Hp)(a:Addr)(xs:List V):Prop :=
 Rd H a (.lst xs) \/
  ∃ (o:Obj) (its:Array Value) (n:Nat),K.lookup a=some o/\o.cls=.type "list"/\o.dict=none/\o.data=.seq its n/\its.size<=sizeLine/\Vals xs its.toList
def SqT (K:Frag)(H:Hp)(a:Addr)(xs:List V):Prop :=
 Rd H a (.tup xs) \/
  ∃ (o:Obj) (its:Array Value) (n:Nat),K.lookup a=some o/\o.cls=.type "tuple"/\o.data=.seq its n/\its.size<=sizeLine/\Vals xs its.toList
def CR3:Value->Option V
 | .none=>some .non
 | .bool b=>some (.bl b)
 | .int i _=>some (.int i)
 | .str x _=>some (.str x)
 | .bytes b _=>some (.byt b)
 | .float b _=>some (.flt b)
 | .ref a=>some (.ref a)
 | .type n=>some (.ty n)
 | _=>none
theorem RelV.abs {x:V}{u:Value}(r:RelV x u):CR3 u=some x:=by
 cases x with
 | non=>cases r; rfl
 | bl _=>cases r; rfl
 | int _=>obtain ⟨t,rfl⟩:=r; rfl
 | str _=>obtain ⟨t,rfl⟩:=r; rfl
 | byt _=>obtain ⟨t,rfl⟩:=r; rfl
 | flt _=>obtain ⟨t,rfl⟩:=r; rfl
 | ref _=>cases r; rfl
 | ty _=>cases r; rfl
theorem RelV.inj {x y:V}{u:Value}(r:RelV x u)(q:RelV y u):x=y:=Option.some.inj (r.abs.symm.trans q.abs)
theorem Vals.inj:∀ {xs ys:List V}{us:List Value},Vals xs us->Vals ys us->xs=ys
 | _,_,_,.nil,.nil=>rfl
 | _,_,_,.cons r t,.cons r' t'=>by rw [r.inj r',Vals.inj t t']
section
variable {X:Cx}{pins:List (Addr × Obj)}{σ:St}{H:Hp}{s:Shared}{a:Addr}{xs ys:List V}
theorem SqL.of {K:Frag}(h:H a=some (.lst xs)):SqL K H a xs:=.inl (.inl h)
theorem SqT.of {K:Frag}(h:H a=some (.tup xs)):SqT K H a xs:=.inl (.inl h)
theorem Inv.list (I:Inv X pins σ H s)(h:SqL X.K H a xs):∃ its:List Value,Vals xs its/\PlainL s.heap a its.toArray/\xs.length<=sizeLine:=by
 rcases h with h | ⟨o,its,n,hk,hc,hd,hs,hz,r⟩
 ·obtain ⟨z,its,n,r,e⟩:=h.ok I.hok
  exact ⟨its,r,⟨_,n,e,rfl,rfl,rfl⟩,z⟩
 ·refine ⟨its.toList,r,⟨o,n,I.kIn a o hk,hc,hd,by simpa using hs⟩,?_⟩
  have e:=r.length
  simp only [Array.length_toList] at e
  omega
theorem Inv.tuple (I:Inv X pins σ H s)(h:SqT X.K H a xs):∃ its:List Value,Vals xs its/\IsTup s.heap a its.toArray/\xs.length<=sizeLine:=by
 rcases h with h | ⟨o,its,n,hk,hc,hs,hz,r⟩
 ·obtain ⟨z,its,r,p⟩:=h.ok I.hok
  exact ⟨its,r,p,z⟩
 ·refine ⟨its.toList,r,⟨o,I.kIn a o hk,hc,n,by simpa using hs⟩,?_⟩
  have e:=r.length
  simp only [Array.length_toList] at e
  omega
theorem Inv.list_inj (I:Inv X pins σ H s)(h:SqL X.K H a xs)(h':SqL X.K H a ys):xs=ys:=by
 obtain ⟨its,r,⟨o,n,e,_,_,d⟩,_⟩:=I.list h
 obtain ⟨its',r',⟨o',n',e',_,_,d'⟩,_⟩:=I.list h'
 rw [e] at e'; cases e'
 rw [d] at d'
 injection d' with d1 _
 have:its=its':=by simpa using congrArg Array.toList d1
 subst this
 exact r.inj r'
theorem Inv.tuple_inj (I:Inv X pins σ H s)(h:SqT X.K H a xs)(h':SqT X.K H a ys):xs=ys:=by
 obtain ⟨its,r,⟨o,e,_,n,d⟩,_⟩:=I.tuple h
 obtain ⟨its',r',⟨o',e',_,n',d'⟩,_⟩:=I.tuple h'
 rw [e] at e'; cases e'
 rw [d] at d'
 injection d' with d1 _
 have:its=its':=by simpa using congrArg Array.toList d1
 subst this
 exact r.inj r'
end
abbrev Cx.wish (X:Cx)(E:Value->Shared->Prop):Cx:={ X with xe:=E }
abbrev Cx.nox (X:Cx):Cx:=X.wish fun _ _=>False
theorem Cx.Ok.wish {X:Cx}(ok:X.Ok)(E:Value->Shared->Prop):(X.wish E).Ok :=
 ⟨ok.mod,ok.kind,ok.glob,ok.blt,ok.above,ok.inj,ok.has,ok.cab,ok.hd,ok.frames,ok.stk,ok.exf,ok.bs,ok.bsz,ok.noex,ok.exfs,ok.funs,ok.frf⟩
theorem Cx.Ok.unwish {X:Cx}{E:Value->Shared->Prop}(ok:(X.wish E).Ok):X.Ok :=
 ⟨ok.mod,ok.kind,ok.glob,ok.blt,ok.above,ok.inj,ok.has,ok.cab,ok.hd,ok.frames,ok.stk,ok.exf,ok.bs,ok.bsz,ok.noex,ok.exfs,ok.funs,ok.frf⟩
section
variable {X:Cx}{pins:List (Addr × Obj)}{σ:St}{H:Hp}{s:Shared}{E:Value->Shared->Prop}
theorem Inv.wish (I:Inv X pins σ H s)(E:Value->Shared->Prop):Inv (X.wish E) pins σ H s:=⟨I.ok.wish E,I.os,I.bare,I.base,I.loc,I.cell,I.free,I.freeC,I.pin,I.hok,I.len⟩
theorem Inv.unwish (I:Inv (X.wish E) pins σ H s):Inv X pins σ H s:=⟨I.ok.unwish,I.os,I.bare,I.base,I.loc,I.cell,I.free,I.freeC,I.pin,I.hok,I.len⟩
theorem SP.unwish {D:Ends}{f:Flow}{s':Shared}(h:SP (X.wish E) pins D f s'):SP X pins D f s':=by
 cases f with
 | next=>obtain ⟨σ',H',I,q⟩:=h; exact ⟨σ',H',I.unwish,q⟩
 | brk=>obtain ⟨σ',H',I,q⟩:=h; exact ⟨σ',H',I.unwish,q⟩
 | cont=>obtain ⟨σ',H',I,q⟩:=h; exact ⟨σ',H',I.unwish,q⟩
 | ret u=>obtain ⟨v,σ',H',I,r,q⟩:=h; exact ⟨v,σ',H',I.unwish,r,q⟩
theorem PSs.nox {st:List Stmt}{t:TS}(h:PSs X.nox st t):PSs X st t:=fun pins s σ H D I hw =>
 wpAny_mono (h pins s σ H D (I.wish _) hw) (fun _ _ q=>q.unwish) fun _ _ z=>False.elim z
end
section
variable {X:Cx}{st:Stmt}{rest:List Stmt}{t u:TS}{e:Expr}{te:TE}{pos:Pos}
def BS1:TS:=fun D σ H=>D.nx σ H
def CJ9 (t u:TS):TS:=fun D σ H=>t { D with nx:=u D } σ H
theorem BS2:PSs X [] BS1:=fun _ _ σ H _ I h=>wpAny_execs_nil ⟨σ,H,I,h⟩
theorem BJ1 (h1:PS X st t)(h2:PSs X rest u):PSs X (st::rest) (CJ9 t u):=by
 intro pins s σ H D I h
 refine wpAny_execs_cons (thn (h1 pins s σ H { D with nx:=u D } I h) fun f s1 q=>?_)
 cases f with
 | next =>
  obtain ⟨σ',H',I',q⟩:=q
  exact h2 pins s1 σ' H' D I' q
 | ret v=>exact q
 | brk=>exact q
 | cont=>exact q
theorem bZ (h1:PS X st t):PSs X [st] t:=by
 intro pins s σ H D I h
 refine wpAny_execs_cons (thn (h1 pins s σ H D I h) fun f s1 q=>?_)
 cases f with
 | next=>exact wpAny_execs_nil q
 | ret v=>exact q
 | brk=>exact q
 | cont=>exact q
theorem Inv.quiet {pins:List (Addr × Obj)}{σ:St}{H:Hp}{s:Shared}(I:Inv X pins σ H s):interactive X.env=false:=by simp [interactive,I.ok.kind]
def CC3 (te:TE):TS:=fun D σ H=>te σ H fun _ H1=>D.nx σ H1
theorem bW (he:PE X e te)(hs:swapsWith e none pos.line X.env=pure false:=by rfl):PS X (.Expr e pos) (CC3 te):=by
 intro pins s σ H D I h
 exact wpAny_Expr_any (thn (he pins s σ H _ I h) fun v s1 ⟨x,H1,I1,r1,q1⟩=>⟨σ,H1,I1,q1⟩) I.quiet hs
def CI9 (te:TE):TS:=fun D σ H=>te σ H D.rt
theorem CC4 (he:PE X e te):PS X (.Return (some e) pos) (CI9 te):=by
 intro pins s σ H D I h
 exact wpAny_Return_some (thn (he pins s σ H _ I h) fun v s1 ⟨x,H1,I1,r1,q1⟩=>⟨x,σ,H1,I1,r1,q1⟩)
def CC5:TS:=fun D _ H=>D.rt .non H
theorem AY9:PS X (.Return none pos) CC5:=fun _ _ σ H _ I h=>wpAny_Return_none ⟨.non,σ,H,I,rfl,h⟩
def CK0 (c:TT)(t u:TS):TS:=fun D σ H=>c σ H fun b H1=>if b=true then t D σ H1 else u D σ H1
theorem CK1 {c:Expr}{a b:List Stmt}{tc:TT}(hc:PT X c tc)(ha:PSs X a t)(hb:PSs X b u):PS X (.If c a b pos) (CK0 tc t u):=by
 intro pins s σ H D I h
 refine wpAny_If (thn (hc pins s σ H _ I h) fun d s1 ⟨H1,I1,q1⟩=>?_)
 cases d with
 | true=>exact ha pins s1 σ H1 D I1 q1
 | false=>exact hb pins s1 σ H1 D I1 q1
def BO8:TS:=fun _ _ _=>False
theorem kW {sts:List Stmt}:PSs X sts BO8:=fun _ _ _ _ _ _ h=>h.elim
end
abbrev TG:=V->St->Hp->(St->Hp->Prop)->Prop
abbrev TGs:=List V->St->Hp->(St->Hp->Prop)->Prop
def PG (X:Cx)(target:Expr)(t:TG):Prop :=
 ∀ (pins:List (Addr × Obj)) (s:Shared) (σ:St) (H:Hp) (v:V) (u:Value) (Q:St->Hp->Prop),Inv X pins σ H s->RelV v u->t v σ H Q ->
  wpAny (model X.prog X.w) X.A (assign target X.env u) (fun _ s'=>∃ σ' H',Inv X pins σ' H' s'/\Q σ' H') X.xe s
def PGs (X:Cx)(ts:List Expr)(t:TGs):Prop :=
 ∀ (pins:List (Addr × Obj)) (s:Shared) (σ:St) (H:Hp) (vs:List V) (us:List Value) (Q:St->Hp->Prop),Inv X pins σ H s->Vals vs us->t vs σ H Q ->
  wpAny (model X.prog X.w) X.A (assignInOrder ((assignEach ts X.env).map (·.2)) us) (fun _ s'=>∃ σ' H',Inv X pins σ' H' s'/\Q σ' H') X.xe s
abbrev CJ0:=V->V->V->Hp->(Hp->Prop)->Prop
def CP5 (X:Cx)(t:CJ0):Prop :=
 ∀ (pins:List (Addr × Obj)) (s:Shared) (σ:St) (H:Hp) (o i v:V) (ov iv u:Value) (Q:Hp->Prop),Inv X pins σ H s->RelV o ov->RelV i iv->RelV v u->t o i v H Q ->
  wpAny (model X.prog X.w) X.A (setItem ov iv u) (fun _ s'=>∃ H',Inv X pins σ H' s'/\Q H') X.xe s
section
variable {X:Cx}{pos:Pos}
def AU9 (i:Nat):TG:=fun v σ H Q=>Q (σ.set i (some v)) H
theorem dN {i:Nat}{x:Str}(hN:X.N.Nodup)(hi:X.N[i]?=some x)(hx:Loc X.env.scope x)(hf:X.fn x=true\/X.env.scope.names.lookup x=some .local:=by first | exact .inl rfl | exact .inr rfl | assumption):PG X (.Name x pos) (AU9 i):=by
 intro pins s σ H v u Q I r h
 exact wpAny_assign_Name (vM I hN hi hx r (fun s' I'=>⟨_,H,I',h⟩) hf)
def CP6:TGs:=fun vs σ H Q=>isN vs (Q σ H)
def CC6 (t:TG)(u:TGs):TGs:=fun vs σ H Q=>isC vs fun v r=>t v σ H fun σ' H'=>u r σ' H' Q
theorem AZ0:PGs X [] CP6:=by
 intro pins s σ H vs us Q I r h
 obtain ⟨e,h⟩:=isN.ex h
 subst e
 cases r
 exact assignInOrder_nil ⟨σ,H,I,h⟩
theorem vN {e:Expr}{es:List Expr}{t:TG}{u:TGs}(h1:PG X e t)(h2:PGs X es u)(hs:(assignEach (e::es) X.env).map (·.2)=assign e X.env::(assignEach es X.env).map (·.2):=by rfl):PGs X (e::es) (CC6 t u):=by
 intro pins s σ H vs us Q I r h
 obtain ⟨v,vr,e1,h⟩:=isC.ex h
 subst e1
 cases r with
 | cons r rr =>
  rw [hs]
  refine assignInOrder_cons (thn (h1 pins s σ H _ _ _ I r h) fun _ s1 ⟨σ1,H1,I1,q1⟩=>?_)
  exact h2 pins s1 σ1 H1 _ _ Q I1 rr q1
def CK2 (K:Frag)(n:Nat)(t:TGs):TG:=fun v σ H Q=>isR v fun a=>∃ xs,SqT K H a xs/\xs.length=n/\t xs σ H Q
theorem BO9 {es:List Expr}{k:Nat}{t:TGs}{n:Nat}(hc:X.calm=true)(h:PGs X es t)(hn:(assignEach es X.env).length=n:=by rfl)(hst:(assignEach es X.env).findIdx? (·.1)=none:=by rfl):PG X (.Tuple es k pos) (CK2 X.K n t):=by
 intro pins s σ H v u Q I r hw
 obtain ⟨a,e1,xs,hq,hl,hw2⟩:=isR.ex hw
 subst e1
 cases r
 obtain ⟨its,rv,ht,hz⟩:=I.tuple hq
 refine assign_Tuple_tuple (I.ok.hd hc) ht (by simp [hn,<- hl,rv.length]) hst fun h' hx=>?_
 have I1:Inv X pins σ H { s with heap:=h' }:=I.kept (t':=s.toks) fun b o e=>hx b o (Nat.ne_of_lt (Heap.lt_size e)) e
 exact h pins _ σ H xs _ Q I1 (by simpa using rv) hw2
def CP7 (to ti:TE)(t:CJ0):TG:=fun v σ H Q=>to σ H fun o H1=>ti σ H1 fun i H2=>t o i v H2 fun H3=>Q σ H3
theorem AR0 {o i:Expr}{to ti:TE}{t:CJ0}(ho:PE X o to)(hi:PE X i ti)(hs:CP5 X t)(ha:∀ v,assign (.Subscript o i pos) X.env v=(do
   let ov <- holding [v] (eval o X.env)
   let iv <- holding [v,ov] (eval i X.env)
   standAt pos
   holding [v,ov,iv] (setItem ov iv v)
   release [v,ov,iv] []):=by intro _; rfl):PG X (.Subscript o i pos) (CP7 to ti t):=by
 intro pins s σ H v u Q I r h
 rw [ha]
 refine wpAny_bind (wpAny_holding (thn (ho pins s σ H _ I h) fun ov s1 ⟨x,H1,I1,r1,q1⟩=>?_))
 refine wpAny_bind (wpAny_holding (thn (hi pins s1 σ H1 _ I1 q1) fun iv s2 ⟨y,H2,I2,r2,q2⟩=>?_))
 refine wpAny_bind (wpAny_standAt (wpAny_bind (wpAny_holding (thn (hs pins s2 σ H2 x y v ov iv u _ I2 r1 r2 r q2) fun _ s3 ⟨H3,I3,q3⟩=>?_))))
 exact wpAny_release ⟨σ,H3,I3,q3⟩
def CA8 (te:TE)(g:TG):TS:=fun D σ H=>te σ H fun x H1=>g x σ H1 D.nx
theorem AR1 {tg e:Expr}{te:TE}{g:TG}(he:PE X e te)(hg:PG X tg g)(hs:swapsWithSole [tg] e pos.line X.env=pure false:=by rfl)(hw:swappedStores [tg] e X.env=pure none:=by rfl)(h1:(assignEach [tg] X.env).map (·.2)=[assign tg X.env]:=by rfl):PS X (.Assign [tg] e pos) (CA8 te g):=by
 intro pins s σ H D I h
 refine wpAny_Assign_stores (thn (he pins s σ H _ I h) fun v s1 ⟨x,H1,I1,r1,q1⟩=>?_) hs hw
 rw [h1]
 exact thn (hg pins s1 σ H1 x v _ I1 r1 q1) fun _ s2 q=>q
theorem CC7 {i:Nat}{x:Str}{e:Expr}{te:TE}{pos':Pos}(hN:X.N.Nodup)(hi:X.N[i]?=some x)(hx:Loc X.env.scope x)(he:PE X e te)(hs:swapsWith e (some (.Name x pos')) pos.line X.env=pure false:=by rfl)(hf:X.fn x=true\/X.env.scope.names.lookup x=some .local:=by first | exact .inl rfl | exact .inr rfl | assumption) :
  PS X (.Assign [.Name x pos'] e pos) (CA8 te (AU9 i)):=by
 intro pins s σ H D I h
 refine wpAny_Assign_Name (thn (he pins s σ H _ I h) fun v s1 ⟨y,H1,I1,r1,q1⟩=>?_) hs
 exact vM I1 hN hi hx r1 (fun s2 I2=>⟨_,H1,I2,q1⟩) hf
end
section
variable {X:Cx}{pos:Pos}
def BP0 (c:TT)(tb:TS):TS:=fun D σ H=>∃ W:Nat->St->Hp->Prop,(∃ m,W m σ H)/\∀ m σ H,W m σ H ->
 c σ H fun b H1=>if b=true then ∃ N:St->Hp->Prop,(∀ σ' H',N σ' H'->∃ m',m' < m/\W m' σ' H')/\tb { D with nx:=N,ct:=N,bk:=D.nx } σ H1 else D.nx σ H1
theorem oH {c:Expr}{body:List Stmt}{tc:TT}{tb:TS}(hp:PassesOwn (model X.prog X.w) X.A X.env X.xe)(hc:PT X c tc)(hb:PSs X body tb):PS X (.While c body [] pos) (BP0 tc tb):=by
 intro pins s σ H D I h
 obtain ⟨W,⟨m0,w0⟩,turn⟩:=h
 refine wpAny_While (codeAny_whileLoop (fun n s'=>∃ σ' H',Inv X pins σ' H' s'/\W n σ' H') ?_ m0 ⟨σ,H,I,w0⟩)
 rintro n s1 ⟨σ1,H1,I1,w1⟩
 refine wpAny_passesOwn hp (thn (hc pins s1 σ1 H1 _ I1 (turn n σ1 H1 w1)) fun b s2 ⟨H2,I2,q2⟩=>?_)
 cases b with
 | true =>
  obtain ⟨N,hN,q2⟩:=q2
  rw [if_pos rfl]
  refine wpAny_passesOwn hp (thn (hb pins s2 σ1 H2 _ I2 q2) fun f s3 q3=>?_)
  cases f with
  | next =>
   obtain ⟨σ3,H3,I3,n3⟩:=q3
   obtain ⟨m',hm,w3⟩:=hN σ3 H3 n3
   exact ⟨m',hm,σ3,H3,I3,w3⟩
  | cont =>
   obtain ⟨σ3,H3,I3,n3⟩:=q3
   obtain ⟨m',hm,w3⟩:=hN σ3 H3 n3
   exact ⟨m',hm,σ3,H3,I3,w3⟩
  | brk=>exact q3
  | ret v=>exact q3
 | false =>
  rw [if_neg Bool.false_ne_true]
  exact wpAny_execs_nil ⟨σ1,H2,I2,q2⟩
end
structure It where
 go:Nat->Hp->Prop
 yld:Nat->Hp->V->Hp->Prop
 stop:Nat->Hp->Prop
def BI5 (X:Cx)(pins:List (Addr × Obj))(H:Hp)(b:Addr):Prop :=
 H b=none/\b≠X.env.locals/\b ∉ X.fs/\(b∈X.ex\/X.s₀.heap.objs.size<=b)/\(∀ x c,X.env.cells.lookup x=some c->c≠b)/\∀ p∈X.pn++pins,p.1≠b
theorem Inv.fpOk {X:Cx}{pins:List (Addr × Obj)}{σ:St}{H H':Hp}{s:Shared}{b:Addr}(I:Inv X pins σ H s)(hb:s.heap.objs.size<=b)(hn:H' b=none):BI5 X pins H' b:=by
 refine ⟨hn,Nat.ne_of_gt (Nat.lt_of_lt_of_le I.lt hb),I.nofs hb,.inr (Nat.le_trans I.sz hb),fun x c e z=>?_,fun p hp z=>?_⟩
 ·obtain ⟨v,q⟩:=I.cell x c e
  exact absurd (Nat.lt_of_lt_of_le q.lt (by rw [z]; exact hb)) (Nat.lt_irrefl _)
 ·exact absurd (Nat.lt_of_lt_of_le (Heap.lt_size (I.pin p hp).1) (by rw [z]; exact hb)) (Nat.lt_irrefl _)
structure Turn (P:Program) (w:World) (K:Frag) (tg:Expr) (J:It) (fp:List Addr) (it:Addr) (tn:Nat->Heap->Prop):Prop where
 mem:it∈fp
 obj:∀ i h,tn i h->∀ b∈fp,∃ o,h.get? b=some o/\∀ v,o.data≠.cell v
 keep:∀ i h h',tn i h->(∀ b∈fp,∀ o,h.get? b=some o->h'.get? b=some o)->tn i h'
 item:∀ (X:Cx),X.prog=P->X.w=w->X.K=K->X.calm=true->∀ (i:Nat) (pins:List (Addr × Obj)) (s:Shared) (σ:St) (H:Hp) (E:Value->Shared->Prop),Inv X pins σ H s->(∀ b∈fp,BI5 X pins H b)->tn i s.heap->J.go i H ->
  wpAny (model P w) X.A (pyNext (.ref it)) (fun r s1=>∃ u,r=some u /\
   wpAny (model P w) X.A (letOwnedTupleGo tg (.ref it) u) (fun _ s2=>∃ x H',Inv X pins σ H' s2/\RelV x u/\J.yld i H x H'/\tn (i+1) s2.heap/\∀ b∈fp,H' b=none) E s1) E s
 done:∀ (X:Cx),X.prog=P->X.w=w->X.K=K->X.calm=true->∀ (i:Nat) (pins:List (Addr × Obj)) (s:Shared) (σ:St) (H:Hp) (E:Value->Shared->Prop),Inv X pins σ H s->(∀ b∈fp,BI5 X pins H b)->tn i s.heap->J.stop i H ->
  wpAny (model P w) X.A (pyNext (.ref it)) (fun r s1=>r=none/\Inv X pins σ H s1) E s
 self:∀ (A:Around) (i:Nat) (s:Shared) (Q:Value->Shared->Prop) (E:Value->Shared->Prop),tn i s.heap->Q (.ref it) s->wpAny (model P w) A (pyIter (.ref it)) Q E s
abbrev TI:=St->Hp->(It->Hp->Prop)->Prop
def PIE (X:Cx)(pins:List (Addr × Obj))(σ:St)(tg:Expr)(R:It->Hp->Prop)(itv:Value)(s2:Shared):Prop :=
 ∃ (it:Addr) (fp:List Addr) (tn:Nat->Heap->Prop) (J:It) (H':Hp),itv=.ref it/\Inv X pins σ H' s2/\Turn X.prog X.w X.K tg J fp it tn/\tn 0 s2.heap/\(∀ b∈fp,BI5 X pins H' b)/\R J H'
def PI (X:Cx)(tg iter:Expr)(wi:TI):Prop :=
 ∀ (pins:List (Addr × Obj)) (s:Shared) (σ:St) (H:Hp) (R:It->Hp->Prop),Inv X pins σ H s->wi σ H R ->
  wpAny (model X.prog X.w) X.A (eval iter X.env) (fun v s1=>wpAny (model X.prog X.w) X.A (pyIter v) (PIE X pins σ tg R) X.xe s1) X.xe s
theorem BJ2 {M:Model}{A:Around}{E:Value->Shared->Prop}{s:Shared}{tg:Expr}{it:Addr}{u:Value}{o:Obj}{n:String}{vs:Array Value}{Q:Unit->Shared->Prop}(ho:s.heap.get? it=some o)(hc:o.cls=.type n)(hd:o.data=.fields vs)(hn:["enumerate","zip","dict_itemiterator","dict_reverseitemiterator","odict_iterator","itertools.zip_longest","itertools.pairwise"].contains n=false)(hQ:Q () s):wpAny M A (letOwnedTupleGo tg (.ref it) u) Q E s:=by
  unfold letOwnedTupleGo
  cases tg <;> first
    | exact wpAny_pure hQ
    | (cases u <;> first
        | exact wpAny_pure hQ
        | (refine wpAny_bind (wpAny_load ho ?_)
           rw [hc,hd]
           show wpAny M A (if (["enumerate","zip","dict_itemiterator","dict_reverseitemiterator","odict_iterator","itertools.zip_longest","itertools.pairwise"].contains n && vs[0]? == some (rawInt _))=true then _ else _) Q E s
           rw [if_neg (by intro h; rw [hn,Bool.false_and] at h; cases h)]
           exact wpAny_pure hQ))
def Itl (K:Frag)(a:Addr):It :=
 ⟨fun i H=>∃ xs x,SqL K H a xs/\xs[i]?=some x,fun i H x H'=>H'=H/\∀ xs,SqL K H a xs->xs[i]?=some x,fun i H=>∃ xs,SqL K H a xs/\xs.length<=i⟩
def Itt (K:Frag)(a:Addr):It :=
 ⟨fun i H=>∃ xs x,SqT K H a xs/\xs[i]?=some x,fun i H x H'=>H'=H/\∀ xs,SqT K H a xs->xs[i]?=some x,fun i H=>∃ xs,SqT K H a xs/\xs.length<=i⟩
def Itr (lo:Int)(n:Nat):It:=⟨fun i _=>i < n,fun i H x H'=>H'=H/\x=.int (lo+i),fun i _=>n<=i⟩
theorem AG4 {P:Program}{w:World}{K:Frag}{tg:Expr}(a it:Addr):Turn P w K tg (Itl K a) [it] it (fun i h=>h.IsListIter it a i) where
 mem:=by simp
 obj:=fun i h st b hb=>by
  have e:b=it:=by simpa using hb
  subst e
  obtain ⟨o,e,c,d⟩:=st
  exact ⟨o,e,fun v z=>by rw [d] at z; cases z⟩
 keep:=fun i h h' st k=>st.at fun o e=>k it (by simp) o e
 item:=by
  intro X hP hw hK hc i pins s σ H E I hf st hg
  subst hP hw hK
  obtain ⟨xs,x,hq,hx⟩:=hg
  obtain ⟨its,rv,p,hz⟩:=I.list hq
  obtain ⟨u,hu,ru⟩:=rv.get hx
  obtain ⟨f0,f1,f2,f3,f4,f5⟩:=hf it (by simp)
  refine wpAny_pyNext_list_item st p.isList (x:=u) (by simpa using hu) fun h' st' sb=>?_
  have I1:Inv X pins σ H { s with heap:=h' }:=I.turned (t':=s.toks) (fun b o hb e=>(sb.2 b hb).trans e) f0 f1 f3 f4 f5
  obtain ⟨o,e,c,d⟩:=id st'
  exact ⟨u,rfl,BJ2 (s:={ s with heap:=h' }) e c d (by decide) ⟨x,H,I1,ru,⟨rfl,fun ys hy=>by rw [I.list_inj hy hq]; exact hx⟩,st',fun b hb=>(hf b hb).1⟩⟩
 done:=by
  intro X hP hw hK hc i pins s σ H E I hf st hg
  subst hP hw hK
  obtain ⟨xs,hq,hx⟩:=hg
  obtain ⟨its,rv,p,hz⟩:=I.list hq
  obtain ⟨f0,f1,f2,f3,f4,f5⟩:=hf it (by simp)
  have hl:=rv.length
  exact wpAny_pyNext_list_end (I.ok.hd hc) st p.isList (by simp; omega) fun h' eb=>⟨rfl,I.turned (t':=s.toks) (fun b o hb e=>eb b o hb e) f0 f1 f3 f4 f5⟩
 self:=fun _ _ _ _ _ st h=>wpAny_pyIter_listiter st h
theorem yZ {P:Program}{w:World}{K:Frag}{tg:Expr}(a it:Addr):Turn P w K tg (Itt K a) [it] it (fun i h=>h.IsTupleIter it a i) where
 mem:=by simp
 obj:=fun i h st b hb=>by
  have e:b=it:=by simpa using hb
  subst e
  obtain ⟨o,e,c,d⟩:=st
  exact ⟨o,e,fun v z=>by rw [d] at z; cases z⟩
 keep:=fun i h h' st k=>st.at fun o e=>k it (by simp) o e
 item:=by
  intro X hP hw hK hc i pins s σ H E I hf st hg
  subst hP hw hK
  obtain ⟨xs,x,hq,hx⟩:=hg
  obtain ⟨its,rv,p,hz⟩:=I.tuple hq
  obtain ⟨u,hu,ru⟩:=rv.get hx
  obtain ⟨f0,f1,f2,f3,f4,f5⟩:=hf it (by simp)
  refine wpAny_pyNext_tuple_item st (show s.heap.IsTuple a its.toArray from p) (x:=u) (by simpa using hu) fun h' st' sb=>?_
  have I1:Inv X pins σ H { s with heap:=h' }:=I.turned (t':=s.toks) (fun b o hb e=>(sb.2 b hb).trans e) f0 f1 f3 f4 f5
  obtain ⟨o,e,c,d⟩:=id st'
  exact ⟨u,rfl,BJ2 (s:={ s with heap:=h' }) e c d (by decide) ⟨x,H,I1,ru,⟨rfl,fun ys hy=>by rw [I.tuple_inj hy hq]; exact hx⟩,st',fun b hb=>(hf b hb).1⟩⟩
 done:=by
  intro X hP hw hK hc i pins s σ H E I hf st hg
  subst hP hw hK
  obtain ⟨xs,hq,hx⟩:=hg
  obtain ⟨its,rv,p,hz⟩:=I.tuple hq
  obtain ⟨f0,f1,f2,f3,f4,f5⟩:=hf it (by simp)
  have hl:=rv.length
  exact wpAny_pyNext_tuple_end (I.ok.hd hc) st (show s.heap.IsTuple a its.toArray from p) (by simp; omega) fun h' eb=>⟨rfl,I.turned (t':=s.toks) (fun b o hb e=>eb b o hb e) f0 f1 f3 f4 f5⟩
 self:=fun _ _ _ _ _ st h=>wpAny_pyIter_tupleiter st h
theorem AV0 {P:Program}{w:World}{K:Frag}{tg:Expr}(it:Addr)(lo:Int)(n:Nat):Turn P w K tg (Itr lo n) [it] it (fun i h=>IsRangeIter h it (lo+(i:Nat) * 1) ((n:Int) - (i:Nat)) 1) where
 mem:=by simp
 obj:=fun i h st b hb=>by
  have e:b=it:=by simpa using hb
  subst e
  exact ⟨_,st,fun v z=>by
   have z':Data.fields _=Data.cell v:=z
   cases z'⟩
 keep:=fun i h h' st k=>k it (by simp) _ st
 item:=by
  intro X hP hw hK hc i pins s σ H E I hf st hg
  subst hP hw hK
  obtain ⟨f0,f1,f2,f3,f4,f5⟩:=hf it (by simp)
  have W:=Walks.range (prog:=X.prog) (w:=X.w) (I.ok.hd hc) it lo 1 n
  refine W.item i s _ _ hg st fun v h' tk hv st' kk=>?_
  obtain ⟨t,rfl⟩:=hv
  have I1:Inv X pins σ H { s with heap:=h',toks:=tk }:=I.turned (fun b o hb e=>kk b o (by simpa using hb) e) f0 f1 f3 f4 f5
  refine ⟨_,rfl,BJ2 (s:={ s with heap:=h',toks:=tk }) (n:="range_iterator") st' rfl rfl (by decide) ⟨.int (lo+i),H,I1,⟨t,?_⟩,⟨rfl,rfl⟩,st',fun b hb=>(hf b hb).1⟩⟩
  rw [Int.mul_one]
 done:=by
  intro X hP hw hK hc i pins s σ H E I hf st hg
  subst hP hw hK
  obtain ⟨f0,f1,f2,f3,f4,f5⟩:=hf it (by simp)
  exact wpAny_pyNext_range_end (I.ok.hd hc) st (by have:n<=i:=hg; omega) fun h' eb=>⟨rfl,I.turned (t':=s.toks) (fun b o hb e=>eb b o hb e) f0 f1 f3 f4 f5⟩
 self:=fun _ _ _ _ _ st h=>wpAny_pyIter_rangeiter st h
section
variable {X:Cx}{tg:Expr}
def BS3 (K:Frag)(tl:TE):TI:=fun σ H R=>tl σ H fun x H1=>isR x fun a=>(∃ xs,SqL K H1 a xs)/\R (Itl K a) H1
def CK3 (K:Frag)(tl:TE):TI:=fun σ H R=>tl σ H fun x H1=>∃ a,x=.ref a/\(∃ xs,SqT K H1 a xs)/\R (Itt K a) H1
theorem sH {l:Expr}{tl:TE}(hl:PE X l tl):PI X tg l (BS3 X.K tl):=by
 intro pins s σ H R I h
 refine thn (hl pins s σ H _ I h) fun v s1 ⟨x,H1,I1,r1,q1⟩=>?_
 obtain ⟨a,e,⟨xs,hq⟩,q⟩:=isR.ex q1
 subst e
 cases r1
 obtain ⟨its,rv,p,hz⟩:=I1.list hq
 refine wpAny_pyIter_list p.isList ?_
 refine ⟨s1.heap.objs.size,[s1.heap.objs.size],_,_,H1,rfl,I1.kept (t':=s1.toks) fun b o e=>Heap.get?_push_of_some _ e,AG4 a _,⟨_,Heap.get?_push_size _ rfl,rfl,rfl⟩,fun b hb=>?_,q⟩
 have e:b=s1.heap.objs.size:=by simpa using hb
 subst e
 exact I1.fpOk (Nat.le_refl _) (I1.hok.fresh (Nat.le_refl _))
theorem AR2 {l:Expr}{tl:TE}(hl:PE X l tl):PI X tg l (CK3 X.K tl):=by
 intro pins s σ H R I h
 refine thn (hl pins s σ H _ I h) fun v s1 ⟨x,H1,I1,r1,q1⟩=>?_
 obtain ⟨a,e,⟨xs,hq⟩,q⟩:=q1
 subst e
 cases r1
 obtain ⟨its,rv,p,hz⟩:=I1.tuple hq
 refine wpAny_pyIter_tuple (show s1.heap.IsTuple a its.toArray from p) ?_
 refine ⟨s1.heap.objs.size,[s1.heap.objs.size],_,_,H1,rfl,I1.kept (t':=s1.toks) fun b o e=>Heap.get?_push_of_some _ e,yZ a _,⟨_,Heap.get?_push_size _ rfl,rfl,rfl⟩,fun b hb=>?_,q⟩
 have e:b=s1.heap.objs.size:=by simpa using hb
 subst e
 exact I1.fpOk (Nat.le_refl _) (I1.hok.fresh (Nat.le_refl _))
theorem BJ3 {pins:List (Addr × Obj)}{σ:St}{H:Hp}{s:Shared}{R:It->Hp->Prop}{E:Value->Shared->Prop}{lo hi:Int}{t u v:Tok}{tk:Nat}(I:Inv X pins σ H s)(h1:-(2 ^ 62)<=lo)(h2:lo < 2 ^ 62)(h3:-(2 ^ 62)<=hi)(h4:hi < 2 ^ 62)(q:R (Itr lo (hi - lo).toNat) H):wpAny (model X.prog X.w) X.A (pyIter (.ref s.heap.objs.size)) (PIE X pins σ tg R) E { s with heap:=s.heap.push { cls:=.type "range",data:=.fields #[.int lo t,.int hi u,.int 1 v] },toks:=tk }:=by
 refine wpAny_pyIter_range (IsRange.new ..) (small_one h1 h2 h3 h4) ?_
 have I1:Inv X pins σ H { s with heap:=s.heap.push { cls:=.type "range",data:=.fields #[.int lo t,.int hi u,.int 1 v] },toks:=tk }:=I.kept fun b o e=>Heap.get?_push_of_some _ e
 refine ⟨(s.heap.push { cls:=.type "range",data:=.fields #[.int lo t,.int hi u,.int 1 v] }).objs.size,[(s.heap.push { cls:=.type "range",data:=.fields #[.int lo t,.int hi u,.int 1 v] }).objs.size],_,_,H,rfl,
  I1.kept (t':=tk) fun b o e=>Heap.get?_push_of_some _ e,AV0 _ lo (hi - lo).toNat,?_,fun b hb=>?_,q⟩
 ·have e1:lo+((0:Nat):Int) * 1=lo:=by simp
  have e2:(((hi - lo).toNat:Nat):Int) - ((0:Nat):Int)=Builtin.Range.rangeSize lo hi 1:=by rw [rangeSize_one]; split <;> omega
  show IsRangeIter _ _ (lo+((0:Nat):Int) * 1) ((((hi - lo).toNat:Nat):Int) - ((0:Nat):Int)) 1
  rw [e1,e2]
  exact Heap.get?_push_size _ rfl
 ·have e:b=(s.heap.push { cls:=.type "range",data:=.fields #[.int lo t,.int hi u,.int 1 v] }).objs.size:=by simpa using hb
  subst e
  exact I1.fpOk (Nat.le_refl _) (I1.hok.fresh (Nat.le_refl _))
def BS4 (ta:TA):TI:=fun σ H R=>ta σ H fun vs H1=>∃ j:Int,vs=[.int j]/\-(2 ^ 62)<=j/\j < 2 ^ 62/\R (Itr 0 j.toNat) H1
theorem vX {a:Expr}{ta:TA}{p pos:Pos}(hg:Gl X "range")(hm:X.mg "range"=none)(ha:PA X [a] ta)(hs:starEach [a] X.env=[(false,eval a X.env)]:=by rfl):PI X tg (.Call (.Name "range" p) [a] [] pos) (BS4 ta):=by
 intro pins s σ H R I h
 refine Call_ (AG2 I hg hm boot_range (PyProof.Rows.callWith_type1 (thn (ha pos pins s σ H _ I h) fun us s1 ⟨vs,H1,I1,r1,q1⟩=>?_) hs rfl))
 obtain ⟨j,e,q1,q2,q⟩:=q1
 subst e
 cases r1 with
 | cons r rr =>
  cases rr
  obtain ⟨t,rfl⟩:=r
  exact call_range_1 (BJ3 I1 (by omega) (by omega) q1 q2 (by simpa using q))
def CC8 (wi:TI)(g:TG)(tb:TS):TS:=fun D σ H=>wi σ H fun J H1=>∃ W:Nat->Nat->St->Hp->Prop,(∃ m,W 0 m σ H1)/\∀ i m σ H,W i m σ H ->
 (J.stop i H/\D.nx σ H)\/(J.go i H/\∃ N:St->Hp->Prop,(∀ σ' H',N σ' H'->∃ m',m' < m/\W (i+1) m' σ' H')/\∀ x H',J.yld i H x H'->g x σ H' fun σ2 H2=>tb { D with nx:=N,ct:=N,bk:=D.nx } σ2 H2)
def qF (fp:List Addr)(h:Heap):List (Addr × Obj):=fp.filterMap fun b=>(h.get? b).map fun o=>(b,o)
theorem oI {fp:List Addr}{h:Heap}{b:Addr}{o:Obj}(hb:b∈fp)(e:h.get? b=some o):(b,o)∈qF fp h:=List.mem_filterMap.mpr ⟨b,hb,by rw [e]; rfl⟩
theorem AG5 {fp:List Addr}{h:Heap}{p:Addr × Obj}(hp:p∈qF fp h):p.1∈fp/\h.get? p.1=some p.2:=by
 obtain ⟨b,hb,e⟩:=List.mem_filterMap.mp hp
 cases q:h.get? b with
 | none=>rw [q] at e; cases e
 | some o =>
  rw [q] at e
  have e':(b,o)=p:=Option.some.inj e
  subst e'
  exact ⟨hb,q⟩
theorem Inv.pinned {pins:List (Addr × Obj)}{σ:St}{H:Hp}{s:Shared}{fp:List Addr}(I:Inv X pins σ H s)(hf:∀ b∈fp,BI5 X pins H b)(ho:∀ b∈fp,∃ o,s.heap.get? b=some o/\∀ v,o.data≠.cell v):Inv X (pins++qF fp s.heap) σ H s :=
 I.pins_of fun p hp=>(List.mem_append.mp hp).elim (fun z=>I.pin p (List.mem_append_right _ z)) fun z=>by
  obtain ⟨hb,e⟩:=AG5 z
  obtain ⟨f0,f1,f2,_⟩:=hf p.1 hb
  obtain ⟨o,e',d⟩:=ho p.1 hb
  rw [e] at e'; cases e'
  exact ⟨e,f0,f1,f2,d⟩
theorem Inv.unpinned {pins pl:List (Addr × Obj)}{σ:St}{H:Hp}{s:Shared}(I:Inv X (pins++pl) σ H s):Inv X pins σ H s:=I.pins_of fun p hp=>I.pin p (List.mem_append_right _ (List.mem_append_left _ hp))
theorem AZ1 {iter:Expr}{body:List Stmt}{wi:TI}{g:TG}{tb:TS}{pos:Pos}(hp:PassesOwn (model X.prog X.w) X.A X.env X.xe)(hc:X.calm=true)(hi:PI X tg iter wi)(hg:PG X tg g)(hb:PSs X body tb)(hs:∀ x,foldedSetIterable iter X.env x=pure x:=by intro _; rfl):PS X (.For tg iter body [] pos) (CC8 wi g tb):=by
 intro pins s σ H D I h
 refine wpAny_For (thn (hi pins s σ H _ I h) fun v s1 h1=>thn h1 fun itv s2 h2=>?_) hs
 obtain ⟨it,fp,tn,J,H2,e,I2,T,st2,f2,W,⟨m0,w0⟩,turn⟩:=h2
 subst e
 -- what stays true of the iterator's objects through the loop
 have stat:∀ {H':Hp},(∀ b∈fp,H' b=none)->∀ b∈fp,BI5 X pins H' b:=fun hn b hb=>⟨hn b hb,(f2 b hb).2⟩
 refine codeAny_forLoop_any (fun n s'=>∃ i σ' H',Inv X pins σ' H' s'/\tn i s'.heap/\(∀ b∈fp,H' b=none)/\W i n σ' H') ?_ m0 ⟨0,σ,H2,I2,st2,fun b hb=>(f2 b hb).1,w0⟩
 rintro n s3 ⟨i,σ3,H3,I3,st3,fr3,w3⟩
 rcases turn i n σ3 H3 w3 with ⟨stop,qn⟩ | ⟨go,N,hN,step⟩
 ·refine wpAny_passesOwn hp (thn (T.done X rfl rfl rfl hc i pins s3 σ3 H3 X.xe I3 (stat fr3) st3 stop) fun r s4 ⟨hr,I4⟩=>?_)
  subst hr
  exact wpAny_execs_nil ⟨σ3,H3,I4,qn⟩
 ·refine wpAny_passesOwn hp (thn (T.item X rfl rfl rfl hc i pins s3 σ3 H3 X.xe I3 (stat fr3) st3 go) fun r s4 ⟨u,hr,h4⟩=>?_)
  subst hr
  refine wpAny_passesOwn hp (thn h4 fun _ s5 ⟨x,H5,I5,r5,y5,st5,fr5⟩=>?_)
  have I5':=I5.pinned (stat fr5) (T.obj _ _ st5)
  refine wpAny_passesOwn hp (thn (hg _ s5 σ3 H5 x u _ I5' r5 (step x H5 y5)) fun _ s6 ⟨σ6,H6,I6,q6⟩=>?_)
  refine wpAny_passesOwn hp (thn (hb _ s6 σ6 H6 _ I6 q6) fun f s7 q7=>?_)
  have again:∀ {σ7:St}{H7:Hp},Inv X (pins++qF fp s5.heap) σ7 H7 s7->N σ7 H7->∃ m,m < n/\∃ i σ' H',Inv X pins σ' H' s7/\tn i s7.heap/\(∀ b∈fp,H' b=none)/\W i m σ' H':=fun {σ7 H7} I7 n7=>by
   obtain ⟨m',hm,w7⟩:=hN σ7 H7 n7
   refine ⟨m',hm,i+1,σ7,H7,I7.unpinned,T.keep _ _ _ st5 fun b hb o e=>(I7.pin (b,o) (List.mem_append_right _ (List.mem_append_right _ (oI hb e)))).1,fun b hb=>?_,w7⟩
   obtain ⟨o,e,d⟩:=T.obj _ _ st5 b hb
   exact (I7.pin (b,o) (List.mem_append_right _ (List.mem_append_right _ (oI hb e)))).2.1
  cases f with
  | next=>obtain ⟨σ7,H7,I7,n7⟩:=q7; exact again I7 n7
  | cont=>obtain ⟨σ7,H7,I7,n7⟩:=q7; exact again I7 n7
  | brk=>obtain ⟨σ7,H7,I7,q7⟩:=q7; exact ⟨σ7,H7,I7.unpinned,q7⟩
  | ret v=>obtain ⟨x7,σ7,H7,I7,r7,q7⟩:=q7; exact ⟨x7,σ7,H7,I7.unpinned,r7,q7⟩
end
theorem BJ4 {K:Frag}{a:Addr}{xs:List V}{g:TG}{tb:TS}{D:Ends}{σ:St}{H:Hp}(Pv:Nat->St->Hp->Prop)(h0:Pv 0 σ H)(hl:∀ i σ H,i<=xs.length->Pv i σ H->SqL K H a xs)(hs:∀ i x σ H,xs[i]?=some x->Pv i σ H->g x σ H fun σ2 H2=>tb { D with nx:=Pv (i+1),ct:=Pv (i+1),bk:=D.nx } σ2 H2)(hd:∀ σ H,Pv xs.length σ H->D.nx σ H) :
  ∃ W:Nat->Nat->St->Hp->Prop,(∃ m,W 0 m σ H)/\∀ i m σ H,W i m σ H ->
   ((Itl K a).stop i H/\D.nx σ H)\/((Itl K a).go i H/\∃ N:St->Hp->Prop,(∀ σ' H',N σ' H'->∃ m',m' < m/\W (i+1) m' σ' H')/\∀ x H',(Itl K a).yld i H x H'->g x σ H' fun σ2 H2=>tb { D with nx:=N,ct:=N,bk:=D.nx } σ2 H2):=by
 refine ⟨fun i m σ H=>m=xs.length - i/\i<=xs.length/\Pv i σ H,⟨xs.length,by simp,Nat.zero_le _,h0⟩,?_⟩
 rintro i m σ H ⟨rfl,hi,p⟩
 have q:=hl i σ H hi p
 by_cases hlt:i < xs.length
 ·refine .inr ⟨⟨xs,xs[i],q,by simp [hlt]⟩,Pv (i+1),fun σ' H' p'=>⟨xs.length - (i+1),by omega,rfl,hlt,p'⟩,fun x H' y=>?_⟩
  obtain ⟨e,y⟩:=y
  subst e
  exact hs i x σ _ (y xs q) p
 ·have e:i=xs.length:=by omega
  subst e
  exact .inl ⟨⟨xs,q,Nat.le_refl _⟩,hd σ H p⟩
abbrev R2:=V->V->Hp->VK->Prop
def OpR (X:Cx)(f:Value->Value->Sem Value)(r:R2):Prop :=
 ∀ (pins:List (Addr × Obj)) (s:Shared) (σ:St) (H:Hp) (x y:V) (v u:Value) (Q:VK),Inv X pins σ H s->RelV x v->RelV y u->r x y H Q ->
  wpAny (model X.prog X.w) X.A (f v u) (EP X pins σ Q) X.xe s
def UnR (X:Cx)(f:Value->Sem Value)(r:V->Hp->VK->Prop):Prop :=
 ∀ (pins:List (Addr × Obj)) (s:Shared) (σ:St) (H:Hp) (x:V) (v:Value) (Q:VK),Inv X pins σ H s->RelV x v->r x H Q ->
  wpAny (model X.prog X.w) X.A (f v) (EP X pins σ Q) X.xe s
def mM (X:Cx)(f:Value)(r:List V->Hp->VK->Prop):Prop :=
 ∀ (pins:List (Addr × Obj)) (s:Shared) (σ:St) (H:Hp) (xs:List V) (us:List Value) (Q:VK),Inv X pins σ H s->Vals xs us->r xs H Q ->
  wpAny (model X.prog X.w) X.A (call f us) (EP X pins σ Q) X.xe s
def tOp (r:R2)(ta tb:TE):TE:=fun σ H Q=>ta σ H fun x H1=>tb σ H1 fun y H2=>r x y H2 Q
def tUn (r:V->Hp->VK->Prop)(ta:TE):TE:=fun σ H Q=>ta σ H fun x H1=>r x H1 Q
def rI (C:Int->Int->Prop)(g:Int->Int->V):R2:=fun x y H Q=>isI x fun i=>isI y fun j=>C i j/\Q (g i j) H
def rI0 (g:Int->Int->V):R2:=fun x y H Q=>isI x fun i=>isI y fun j=>Q (g i j) H
def rU (g:Int->V):V->Hp->VK->Prop:=fun x H Q=>isI x fun i=>Q (g i) H
section
variable {X:Cx}{a b c:Expr}{ta tb tc:TE}{pos:Pos}
theorem CK4 (ha:PE X a ta)(hb:PE X b tb){pins:List (Addr × Obj)}{s:Shared}{σ:St}{H:Hp}{R:V->V->Hp->Prop}(I:Inv X pins σ H s)(h:ta σ H fun x H1=>tb σ H1 fun y H2=>R x y H2){Q:Value->Shared->Prop}{f:Value->Value->Sem Value}(hf:∀ v u s2 x y H2,Inv X pins σ H2 s2->RelV x v->RelV y u->R x y H2->wpAny (model X.prog X.w) X.A (f v u) Q X.xe s2) :
  wpAny (model X.prog X.w) X.A (eval a X.env) (fun v s₁=>wpAny (model X.prog X.w) X.A (eval b X.env) (fun u s₂=>wpAny (model X.prog X.w) X.A (f v u) Q X.xe s₂) X.xe s₁) X.xe s:=by
 refine thn (ha pins s σ H _ I h) fun v s1 ⟨x,H1,I1,r1,q1⟩=>?_
 refine thn (hb pins s1 σ H1 _ I1 q1) fun u s2 ⟨y,H2,I2,r2,q2⟩=>?_
 exact hf v u s2 x y H2 I2 r1 r2 q2
theorem bL {op:Operator}{r:R2}(ho:OpR X (binaryOp op) r)(ha:PE X a ta)(hb:PE X b tb):PE X (.BinOp a op b pos) (tOp r ta tb):=by
 intro pins s σ H Q I h
 exact wpAny_BinOp (CK4 ha hb I h fun v u s2 x y H2 I2 rx ry q=>ho pins s2 σ H2 x y v u Q I2 rx ry q)
theorem BS5 {op:UnaryOp}{r:V->Hp->VK->Prop}(ho:UnR X (unaryOp op) r)(ha:PE X a ta):PE X (.UnaryOp op a pos) (tUn r ta):=by
 intro pins s σ H Q I h
 exact UnaryOp_ (thn (ha pins s σ H _ I h) fun v s1 ⟨x,H1,I1,r1,q1⟩=>ho pins s1 σ H1 x v Q I1 r1 q1)
theorem opI {f:Value->Value->Sem Value}{C:Int->Int->Prop}{g:Int->Int->Int}(rule:∀ (i j:Int) (t u:Tok) (s:Shared) (Q:Value->Shared->Prop) (E:Value->Shared->Prop),C i j->Q (.int (g i j) s.toks) { s with toks:=s.toks+1 }->wpAny (model X.prog X.w) X.A (f (.int i t) (.int j u)) Q E s) :
  OpR X f (rI C fun i j=>.int (g i j)):=by
 intro pins s σ H x y v u Q I rx ry h
 obtain ⟨i,rfl,h2⟩:=isI.ex h
 obtain ⟨j,rfl,hc,q⟩:=isI.ex h2
 obtain ⟨t,rfl⟩:=rx
 obtain ⟨t',rfl⟩:=ry
 exact rule i j t t' s _ _ hc ⟨.int (g i j),H,I.tok _,⟨_,rfl⟩,q⟩
theorem CP8 {f:Value->Value->Sem Value}{g:Int->Int->Int}(rule:∀ (i j:Int) (t u:Tok) (s:Shared) (Q:Value->Shared->Prop) (E:Value->Shared->Prop),Q (.int (g i j) s.toks) { s with toks:=s.toks+1 }->wpAny (model X.prog X.w) X.A (f (.int i t) (.int j u)) Q E s) :
  OpR X f (rI0 fun i j=>.int (g i j)):=by
 intro pins s σ H x y v u Q I rx ry h
 obtain ⟨i,rfl,h2⟩:=isI.ex h
 obtain ⟨j,rfl,q⟩:=isI.ex h2
 obtain ⟨t,rfl⟩:=rx
 obtain ⟨t',rfl⟩:=ry
 exact rule i j t t' s _ _ ⟨.int (g i j),H,I.tok _,⟨_,rfl⟩,q⟩
theorem CK5 {f:Value->Value->Sem Value}{g:Int->Int->Bool}(rule:∀ (i j:Int) (t u:Tok) (s:Shared) (Q:Value->Shared->Prop) (E:Value->Shared->Prop),Q (.bool (g i j)) s->wpAny (model X.prog X.w) X.A (f (.int i t) (.int j u)) Q E s) :
  OpR X f (rI0 fun i j=>.bl (g i j)):=by
 intro pins s σ H x y v u Q I rx ry h
 obtain ⟨i,rfl,h2⟩:=isI.ex h
 obtain ⟨j,rfl,q⟩:=isI.ex h2
 obtain ⟨t,rfl⟩:=rx
 obtain ⟨t',rfl⟩:=ry
 exact rule i j t t' s _ _ ⟨.bl (g i j),H,I,rfl,q⟩
def CR4 (i j:Int):Prop:=0<=j/\j<=1000000/\i.natAbs < 2 ^ 64
def CMul (i j:Int):Prop:=(-(2 ^ 64) < i/\i < 2 ^ 64)\/(-(2 ^ 64) < j/\j < 2 ^ 64)
theorem CMul.ok {i j:Int}(h:CMul i j):IntMulOk i j:=by
 rcases h with ⟨h1,h2⟩ | ⟨h1,h2⟩
 ·exact .of_left (intBits_le_64 h1 h2)
 ·exact .of_right (intBits_le_64 h1 h2)
theorem jP:OpR X (binaryOp .Add) (rI0 fun i j=>.int (i+j)):=CP8 fun _ _ _ _ _ _ _ q=>add_int q
theorem oS:OpR X (binaryOp .Sub) (rI0 fun i j=>.int (i - j)):=CP8 fun _ _ _ _ _ _ _ q=>sub_int q
theorem uJ:OpR X (binaryOp .Mult) (rI CMul fun i j=>.int (i * j)):=opI fun _ _ _ _ _ _ _ hc q=>mul_int q hc.ok
theorem qG:OpR X (binaryOp .Mod) (rI (fun _ j=>0 < j) fun i j=>.int (i % j)):=opI fun i j _ _ _ _ _ hc q=>by
 have h1:(0:Int) < j:=hc
 exact mod_int' (by omega) (by rw [Int.fmod_eq_emod_of_nonneg i (by omega)]; exact q)
theorem AR3:OpR X (binaryOp .Pow) (rI CR4 fun i j=>.int (i ^ j.toNat)):=opI fun _ _ _ _ _ _ _ hc q=>pow_int_small hc.1 hc.2.1 hc.2.2 q
theorem unI {f:Value->Sem Value}{g:Int->Int}(rule:∀ (i:Int) (t:Tok) (s:Shared) (Q:Value->Shared->Prop) (E:Value->Shared->Prop),Q (.int (g i) s.toks) { s with toks:=s.toks+1 }->wpAny (model X.prog X.w) X.A (f (.int i t)) Q E s) :
  UnR X f (rU fun i=>.int (g i)):=by
 intro pins s σ H x v Q I rx h
 obtain ⟨i,rfl,q⟩:=isI.ex h
 obtain ⟨t,rfl⟩:=rx
 exact rule i t s _ _ ⟨.int (g i),H,I.tok _,⟨_,rfl⟩,q⟩
theorem AZ2:UnR X (unaryOp .USub) (rU fun i=>.int (-i)):=unI fun _ _ _ _ _ q=>neg_int q
end
def BJ5:V->V->Bool
 | .non,.non=>true | .non,.int _=>true | .int _,.non=>true | .non,.bl _=>true | .bl _,.non=>true | .non,.str _=>true | .str _,.non=>true
 | .int _,.int _=>true | .bl _,.bl _=>true | .str _,.str _=>true | .byt _,.byt _=>true
 | .int _,.str _=>true | .str _,.int _=>true | .bl _,.str _=>true | .str _,.bl _=>true
 | _,_=>false
def rEq:R2:=fun x y H Q=>BJ5 x y=true/\Q (.bl (decide (x=y))) H
def rNe:R2:=fun x y H Q=>BJ5 x y=true/\Q (.bl (!decide (x=y))) H
theorem AZ3 {i j:Int}:decide (V.int i=V.int j)=(i == j):=by
 rw [Bool.eq_iff_iff]
 simp
theorem BP1 {i j:Bool}:decide (V.bl i=V.bl j)=(i == j):=by
 rw [Bool.eq_iff_iff]
 simp
theorem AZ4 {i j:Str}:decide (V.str i=V.str j)=(i == j):=by
 rw [Bool.eq_iff_iff]
 simp
theorem AZ5 {i j:Array UInt8}:decide (V.byt i=V.byt j)=(i.toList == j.toList):=by
 rw [Bool.eq_iff_iff]
 cases i
 cases j
 simp
section
variable {X:Cx}{a b c:Expr}{ta tb tc:TE}{pos:Pos}
theorem cS {pins:List (Addr × Obj)}{σ:St}{H:Hp}{s:Shared}{Q:VK}{k k':Bool}(I:Inv X pins σ H s)(q:Q (.bl k) H)(e:k=k'):EP X pins σ Q (.bool k') s:=by
 subst e
 exact ⟨.bl k,H,I,rfl,q⟩
theorem dD:OpR X (compareOp .Eq) rEq:=by
 intro pins s σ H x y v u Q I rx ry h
 obtain ⟨hs,q⟩:=h
 cases x with
 | non =>
  cases rx
  cases y with
  | non=>cases ry; exact PySem.EqNone.eq_none_none (cS I q (by simp))
  | bl j=>cases ry; exact PySem.EqNone.eq_none_bool (cS I q (by simp))
  | int j=>obtain ⟨t',rfl⟩:=ry; exact PySem.EqNone.eq_none_int (cS I q (by simp))
  | str j=>obtain ⟨t',rfl⟩:=ry; exact PySem.EqNone.eq_none_str (cS I q (by simp))
  | _=>exact absurd (show false=true from hs) Bool.false_ne_true
 | bl i =>
  cases rx
  cases y with
  | non=>cases ry; exact PySem.EqNone.eq_bool_none (cS I q (by simp))
  | bl j=>cases ry; exact eq_bool (cS I q BP1)
  | str j=>obtain ⟨t',rfl⟩:=ry; exact PySem.EqMixed.eq_bool_str (cS I q (by simp))
  | _=>exact absurd (show false=true from hs) Bool.false_ne_true
 | int i =>
  obtain ⟨t,rfl⟩:=rx
  cases y with
  | non=>cases ry; exact PySem.EqNone.eq_int_none (cS I q (by simp))
  | int j=>obtain ⟨t',rfl⟩:=ry; exact eq_int (cS I q AZ3)
  | str j=>obtain ⟨t',rfl⟩:=ry; exact PySem.EqMixed.eq_int_str (cS I q (by simp))
  | _=>exact absurd (show false=true from hs) Bool.false_ne_true
 | str i =>
  obtain ⟨t,rfl⟩:=rx
  cases y with
  | non=>cases ry; exact PySem.EqNone.eq_str_none (cS I q (by simp))
  | bl j=>cases ry; exact PySem.EqMixed.eq_str_bool (cS I q (by simp))
  | int j=>obtain ⟨t',rfl⟩:=ry; exact PySem.EqMixed.eq_str_int (cS I q (by simp))
  | str j=>obtain ⟨t',rfl⟩:=ry; exact eq_str (cS I q AZ4)
  | _=>exact absurd (show false=true from hs) Bool.false_ne_true
 | byt i =>
  obtain ⟨t,rfl⟩:=rx
  cases y with
  | byt j=>obtain ⟨t',rfl⟩:=ry; exact eq_bytes (cS I q AZ5)
  | _=>exact absurd (show false=true from hs) Bool.false_ne_true
 | _=>cases y <;> exact absurd (show false=true from hs) Bool.false_ne_true
theorem xX:OpR X (compareOp .NotEq) rNe:=by
 intro pins s σ H x y v u Q I rx ry h
 obtain ⟨hs,q⟩:=h
 cases x with
 | non =>
  cases rx
  cases y with
  | non=>cases ry; exact PySem.EqNone.ne_none_none (cS I q (by simp))
  | bl j=>cases ry; exact PySem.EqNone.ne_none_bool (cS I q (by simp))
  | int j=>obtain ⟨t',rfl⟩:=ry; exact PySem.EqNone.ne_none_int (cS I q (by simp))
  | str j=>obtain ⟨t',rfl⟩:=ry; exact PySem.EqNone.ne_none_str (cS I q (by simp))
  | _=>exact absurd (show false=true from hs) Bool.false_ne_true
 | bl i =>
  cases rx
  cases y with
  | non=>cases ry; exact PySem.EqNone.ne_bool_none (cS I q (by simp))
  | bl j=>cases ry; exact ne_bool (cS I q (congrArg not BP1))
  | str j=>obtain ⟨t',rfl⟩:=ry; exact PySem.EqMixed.ne_bool_str (cS I q (by simp))
  | _=>exact absurd (show false=true from hs) Bool.false_ne_true
 | int i =>
  obtain ⟨t,rfl⟩:=rx
  cases y with
  | non=>cases ry; exact PySem.EqNone.ne_int_none (cS I q (by simp))
  | int j=>obtain ⟨t',rfl⟩:=ry; exact ne_int (cS I q (congrArg not AZ3))
  | str j=>obtain ⟨t',rfl⟩:=ry; exact PySem.EqMixed.ne_int_str (cS I q (by simp))
  | _=>exact absurd (show false=true from hs) Bool.false_ne_true
 | str i =>
  obtain ⟨t,rfl⟩:=rx
  cases y with
  | non=>cases ry; exact PySem.EqNone.ne_str_none (cS I q (by simp))
  | bl j=>cases ry; exact PySem.EqMixed.ne_str_bool (cS I q (by simp))
  | int j=>obtain ⟨t',rfl⟩:=ry; exact PySem.EqMixed.ne_str_int (cS I q (by simp))
  | str j=>obtain ⟨t',rfl⟩:=ry; exact ne_str (cS I q (congrArg not AZ4))
  | _=>exact absurd (show false=true from hs) Bool.false_ne_true
 | byt i =>
  obtain ⟨t,rfl⟩:=rx
  cases y with
  | byt j=>obtain ⟨t',rfl⟩:=ry; exact ne_bytes (cS I q (congrArg not AZ5))
  | _=>exact absurd (show false=true from hs) Bool.false_ne_true
 | _=>cases y <;> exact absurd (show false=true from hs) Bool.false_ne_true
theorem AL5:OpR X (compareOp .Lt) (rI0 fun i j=>.bl (decide (i < j))):=CK5 fun _ _ _ _ _ _ _ q=>lt_int q
theorem BS6:OpR X (compareOp .LtE) (rI0 fun i j=>.bl (decide (i<=j))):=CK5 fun _ _ _ _ _ _ _ q=>le_int q
theorem AV1:OpR X (compareOp .Gt) (rI0 fun i j=>.bl (decide (j < i))):=CK5 fun _ _ _ _ _ _ _ q=>gt_int q
theorem AG6:OpR X (compareOp .In) (fun x y H Q=>isT x fun i=>isT y fun j=>Q (.bl (!(Builtin.Str.occurrences j i 0 j.length 1).isEmpty)) H):=by
 intro pins s σ H x y v u Q I rx ry h
 obtain ⟨i,rfl,h2⟩:=isT.ex h
 obtain ⟨j,rfl,q⟩:=isT.ex h2
 obtain ⟨t,rfl⟩:=rx
 obtain ⟨t',rfl⟩:=ry
 exact in_str (cS I q rfl)
theorem bD (b:Expr){op:CmpOp}(h:op≠.In:=by decide)(h2:op≠.NotIn:=by decide):behindInMarks op b=false:=by
 have e1:(op == CmpOp.In)=false:=by cases op <;> first | rfl | exact absurd rfl h
 have e2:(op == CmpOp.NotIn)=false:=by cases op <;> first | rfl | exact absurd rfl h2
 cases b <;> simp [behindInMarks,e1,e2]
theorem gX {op:CmpOp}{r:R2}(ho:OpR X (compareOp op) r)(ha:PE X a ta)(hb:PE X b tb)(hm:behindInMarks op b=false):PE X (.Compare a [op] [b] pos) (tOp r ta tb):=by
 intro pins s σ H Q I h
 exact wpAny_Compare1 (CK4 ha hb I h fun v u s2 x y H2 I2 rx ry q=>ho pins s2 σ H2 x y v u Q I2 rx ry q) hm
def CC9 (t:TE):TT:=fun σ H Q=>t σ H fun x H'=>isB x fun k=>Q k H'
theorem aX {op:CmpOp}{r:R2}(ho:OpR X (compareOp op) r)(ha:PE X a ta)(hb:PE X b tb)(hm:behindInMarks op b=false):PT X (.Compare a [op] [b] pos) (CC9 (tOp r ta tb)):=by
 intro pins s σ H Q I h
 refine wpAny_isTrue_Compare1 (thn (ha pins s σ H _ I h) fun v s1 ⟨x,H1,I1,r1,q1⟩=>thn (hb pins s1 σ H1 _ I1 q1) fun u s2 ⟨y,H2,I2,r2,q2⟩ =>
  thn (ho pins s2 σ H2 x y v u _ I2 r1 r2 q2) fun c s3 ⟨z,H3,I3,r3,q3⟩=>?_) hm
 obtain ⟨k,e,q3⟩:=isB.ex q3
 subst e
 cases r3
 exact wpAny_truthy_bool ⟨H3,I3,q3⟩
theorem vY:(sizeLine:Nat) < 2 ^ 63:=by rw [sizeLine_eq]; decide
theorem bH:OpR X (binaryOp .Add) (fun x y H Q=>isT x fun i=>isT y fun j=>i.length+j.length<=sizeLine/\Q (.str (i++j)) H):=by
 intro pins s σ H x y v u Q I rx ry h
 obtain ⟨i,rfl,h2⟩:=isT.ex h
 obtain ⟨j,rfl,hz,q⟩:=isT.ex h2
 obtain ⟨t,rfl⟩:=rx
 obtain ⟨t',rfl⟩:=ry
 exact add_str (fun t' tk=>⟨.str (i++j),H,I.tok _,⟨_,rfl⟩,q⟩) hz
theorem sI {x:V}{us:List Value}(r:Vals [x] us):∃ u,us=[u]/\RelV x u:=by
 cases r with
 | cons r1 r2=>cases r2; exact ⟨_,rfl,r1⟩
theorem BJ6 {x y:V}{us:List Value}(r:Vals [x,y] us):∃ u w',us=[u,w']/\RelV x u/\RelV y w':=by
 cases r with
 | cons r1 r2 =>
  cases r2 with
  | cons r3 r4=>cases r4; exact ⟨_,_,rfl,r1,r3⟩
theorem bV:mM X (.type "str") (fun xs H Q=>∃ i,xs=[.int i]/\i.natAbs.log2 < 1920/\Q (.str (toString i)) H):=by
 intro pins s σ H xs us Q I r h
 obtain ⟨i,rfl,hz,q⟩:=h
 obtain ⟨u,rfl,t,rfl⟩:=sI r
 exact PySem.P.str_of_int hz ⟨.str _,H,I.tok _,⟨_,rfl⟩,q⟩
def CR5 (K:Frag)(x:V)(H:Hp)(n:Nat):Prop :=
 match x with
 | .str y=>y.length<=sizeLine/\n=y.length
 | .byt y=>y.size<=sizeLine/\n=y.size
 | .ref p=>(∃ xs,SqL K H p xs/\n=xs.length)\/∃ xs,SqT K H p xs/\n=xs.length
 | _=>False
theorem AR4:mM X (.builtin "len") (fun xs H Q=>∃ x n,xs=[x]/\CR5 X.K x H n/\Q (.int n) H):=by
 intro pins s σ H xs us Q I r h
 obtain ⟨x,n,rfl,e,q⟩:=h
 obtain ⟨u,rfl,rx⟩:=sI r
 have hl:=vY
 have hs:sizeLine=16777216:=sizeLine_eq
 cases x with
 | str y =>
  obtain ⟨t,rfl⟩:=rx
  obtain ⟨hy,e'⟩:y.length<=sizeLine/\n=y.length:=e
  subst e'
  exact len_str (by omega) ⟨.int _,H,I.tok _,⟨_,rfl⟩,q⟩
 | byt y =>
  obtain ⟨t,rfl⟩:=rx
  obtain ⟨hy,e'⟩:y.size<=sizeLine/\n=y.size:=e
  subst e'
  exact len_bytes (by omega) ⟨.int _,H,I.tok _,⟨_,rfl⟩,q⟩
 | ref p =>
  cases rx
  have e':(∃ xs,SqL X.K H p xs/\n=xs.length)\/∃ xs,SqT X.K H p xs/\n=xs.length:=e
  rcases e' with ⟨xs,hx,e'⟩ | ⟨xs,hx,e'⟩
  ·subst e'
   obtain ⟨its,r',pl,hz⟩:=I.list hx
   have hlen:=r'.length
   exact Calls.call_len_list pl.isList (by simp only [List.size_toArray]; omega) ⟨.int xs.length,H,I.tok _,⟨_,by simp only [List.size_toArray]; rw [hlen]⟩,q⟩
  ·subst e'
   obtain ⟨its,r',pl,hz⟩:=I.tuple hx
   have hlen:=r'.length
   exact len_tuple pl (by simp only [List.size_toArray]; omega) ⟨.int xs.length,H,I.tok _,⟨_,by simp only [List.size_toArray]; rw [hlen]⟩,q⟩
 | _=>exact (show False from e).elim
end
structure ObjM (h:Heap) (x dx C:Addr) (mA:Str->Option Value):Prop where
 obj:h.get? x=some (instObj C dx)
 ns:h.Ns1 dx mA
 ne:dx≠x
theorem AZ6 {h:Heap}{dx:Addr}{mA:Str->Option Value}(n:h.Ns1 dx mA):∃ od,h.get? dx=some od/\∀ name,lookIn name od=some (mA name):=by
 obtain ⟨o,es,ep,ho,hd,hk,_,hm⟩:=n
 refine ⟨o,ho,fun name=>?_⟩
 have e:=hm name
 unfold nsFind findBy at e
 rw [<- Array.find?_toList] at e
 unfold lookIn
 rw [hd]
 dsimp only
 split
 ·rename_i y q
  rw [q] at e
  exact congrArg some e
 ·rename_i q
  rw [q] at e
  have a:es.toList.any (·.refKey)=false:=by
   rw [List.any_eq_false]
   intro y hy
   obtain ⟨z,t,hkey⟩:=hk y (Array.mem_toList_iff.mp hy)
   simp [DictEntry.refKey,hkey]
  have a':¬ es.toList.any (·.refKey)=true:=by rw [a]; exact Bool.false_ne_true
  rw [if_neg a']
  exact congrArg some e
theorem ObjM.look {h:Heap}{x dx C:Addr}{mA:Str->Option Value}(I:ObjM h x dx C mA):∃ od,InstAt h x (instObj C dx) C (some od)/\∀ name,lookIn name od=some (mA name) :=
 let ⟨od,ho,hl⟩:=AZ6 I.ns
 ⟨od,⟨I.obj,rfl,rfl,ho⟩,hl⟩
section
variable {prog:Program}{w:World}{A:Around}{E:Value->Shared->Prop}{s:Shared}{K:Frag}{x dx C f:Addr}{mA:Str->Option Value}{name:Str}{v:Value}
theorem AZ7 {expr:Bool}{Q:Value->Shared->Prop}(X:K.In s.heap)(I:ObjM s.heap x dx C mA)(hg:plainGet K C name=true)(hh:hasDictIn K C=true)(ha:findIn K (.ref C) name=some none)(hv:mA name=some v)(hv':handedIn v=true)(h:Q v { s with toks:=s.toks+1 }) :
  wpAny (model prog w) A (getAttr (.ref x) name expr) Q E s:=by
 obtain ⟨od,J,hl⟩:=I.look
 exact get_value X J (plainGet_of hg).1 (findObj_own hh ha rfl (by rw [hl,hv])) hv' h
theorem BJ7 {pl:Sem Bool}{Q:Value × List Value->Shared->Prop}(X:K.In s.heap)(I:ObjM s.heap x dx C mA)(hg:plainGet K C name=true)(hf:findIn K (.ref C) name=some (some (.ref f)))(ht:isFn K (.ref f)=true)(hv:mA name=none)(h:Q (.ref f,[.ref x]) s) :
  wpAny (model prog w) A (getMethod (.ref x) name pl) Q E s:=by
 obtain ⟨od,J,hl⟩:=I.look
 exact method_fn X J (plainGet_of hg).1 (plainGet_of hg).2 hf (beq_iff_eq.mp ht) (by show (lookIn name od).map (·.isSome)=some false; rw [hl,hv]; rfl) h
theorem BS7 {ns:List Str}{Q:Unit->Shared->Prop}(X:K.In s.heap)(I:ObjM s.heap x dx C mA)(hs:findIn K (.ref C) "__setattr__"=some (some (.builtin "object.__setattr__")))(hp:plainOver K C=true)(ht:takerIn K C name=some none)(hh:hasDictIn K C=true)(hw:PySem.Within mA ns)(hsz:ns.length<=sizeLine)(h:∀ h',ObjM h' x dx C (fun y=>if y=name then some v else mA y)->Heap.SameBut dx s.heap h'->Q () { s with heap:=h',toks:=s.toks+2 }) :
  wpAny (model prog w) A (setAttr (.ref x) name v) Q E s:=by
 obtain ⟨od,J,hl⟩:=I.look
 refine set_plain X J hs (osa_open (s:={ s with toks:=s.toks+1 }) (r:=none) X J hp ht fun b=>?_)
 obtain ⟨cd,hc,hd'⟩:=any_some hh
 have hx:s.heap.get? x=some ⟨.ref C,some dx,.plain,#[]⟩:=I.obj
 refine wpAny_bind (wpAny_pure (wpAny_bind (wpAny_bind (wpAny_loadPart hx (wpAny_bind (Looks.here (s:={ s with toks:=s.toks+1 }) (looks_clsIn X hc) ?_))))))
 rw [hd']
 refine wpAny_pure (a:=some dx) (wpAny_bind (wpAny_pure (wpAny_bind ?_)))
 refine wpAny_nsSet1 (s:={ s with toks:=s.toks+1 }) I.ns fun h' hn2 hs2=>?_
 obtain ⟨oD,esD,epD,hoD,hdD,hcD⟩:=hn2.count (PySem.Within.cons name v hw)
 refine wpAny_bind (wpAny_lookBehind hoD (by rw [hdD]; exact pastItsLine_dict (Nat.le_trans hcD (by rw [List.length_cons]; omega))) ?_)
 exact wpAny_pure (h _ ⟨(hs2.2 _ (Ne.symm I.ne)).trans I.obj,hn2,I.ne⟩ hs2)
theorem BJ8 {R:Result->Shared->Prop}{vs:List Value}{kw:List (Str × Value)}(X:K.In s.heap)(hm:makesIn K C=true)(hi:findIn K (.ref C) "__init__"=some (some (.ref f)))(hf:typeIn K (.ref f)=some (.type "function"))(h:codeAny (model prog w) (A.under (.builtin "type.__call__" ⟨.ref C::vs,kw⟩)) (.call (.ref f) ⟨.ref (s.heap.objs.size+1)::vs,kw⟩) (InitBack (s.heap.objs.size+1) R)
   { s with heap:=(s.heap.push emptyDict).push (instObj C s.heap.objs.size) }) :
  codeAny (model prog w) A (.call (.ref C) ⟨vs,kw⟩) R s:=by
 obtain ⟨hh,g,d,t,os⟩:=s
 exact make_core (makes_of X hm) (looks_findIn X hi) (fun self=>bind_fn X self hf) (.inl rfl) h
theorem AZ8 {R:Result->Shared->Prop}(X:K.In s.heap)(hm:makesIn K C=true)(hi:findIn K (.ref C) "__init__"=some (some (.builtin "object.__init__")))(hb:∀ self,Looks (model prog w) s.heap (bindSpecial (.builtin "object.__init__") self) (.builtin "object.__init__",[self]))(h:codeAny (model prog w) (A.under (.builtin "type.__call__" ⟨[.ref C],[]⟩)) (.call (.builtin "object.__init__") ⟨[.ref (s.heap.objs.size+1)],[]⟩) (InitBack (s.heap.objs.size+1) R)
   { s with heap:=(s.heap.push emptyDict).push (instObj C s.heap.objs.size) }) :
  codeAny (model prog w) A (.call (.ref C) ⟨[],[]⟩) R s:=by
 obtain ⟨hh,g,d,t,os⟩:=s
 exact make_core (makes_of X hm) (looks_findIn X hi) hb (.inr ⟨rfl,rfl⟩) h
end
def oO (f:Str)(v:V):List (Str × V)->List (Str × V)
 | []=>[(f,v)]
 | (g,x)::r=>if g=f then (g,v)::r else (g,x)::oO f v r
theorem vZ (f g:Str)(v:V):∀ fs:List (Str × V),(oO f v fs).lookup g=if g=f then some v else fs.lookup g
 | []=>by
  show List.lookup g [(f,v)]=_
  by_cases h:g=f
  ·have hb:(g == f)=true:=beq_iff_eq.mpr h
   simp only [List.lookup,hb,if_pos h]
  ·have hb:(g == f)=false:=beq_eq_false_iff_ne.mpr h
   simp only [List.lookup,hb,if_neg h]
 | (k,x)::r=>by
  have ih:=vZ f g v r
  rw [show oO f v ((k,x)::r)=(if k=f then (k,v)::r else (k,x)::oO f v r) from rfl]
  by_cases hk:k=f
  ·rw [if_pos hk]
   by_cases h:g=k
   ·have hb:(g == k)=true:=beq_iff_eq.mpr h
    simp only [List.lookup,hb,if_pos (h.trans hk)]
   ·have hb:(g == k)=false:=beq_eq_false_iff_ne.mpr h
    simp only [List.lookup,hb,if_neg (fun e:g=f=>h (e.trans hk.symm))]
  ·rw [if_neg hk]
   by_cases h:g=k
   ·have hb:(g == k)=true:=beq_iff_eq.mpr h
    simp only [List.lookup,hb,if_neg (fun e:g=f=>hk (h.symm.trans e))]
   ·have hb:(g == k)=false:=beq_eq_false_iff_ne.mpr h
    simp only [List.lookup,hb]
    exact ih
theorem wA (f:Str)(v:V):∀ fs:List (Str × V),f∈(oO f v fs).map (·.1)/\∀ g,g∈fs.map (·.1)->g∈(oO f v fs).map (·.1)
 | []=>⟨by simp [oO],fun g h=>by simp at h⟩
 | (k,x)::r=>by
  obtain ⟨i1,i2⟩:=wA f v r
  rw [show oO f v ((k,x)::r)=(if k=f then (k,v)::r else (k,x)::oO f v r) from rfl]
  by_cases hk:k=f
  ·rw [if_pos hk]
   subst hk
   exact ⟨by simp,fun g h=>by simpa using h⟩
  ·rw [if_neg hk]
   refine ⟨?_,fun g h=>?_⟩
   ·rw [List.map_cons]
    exact List.mem_cons_of_mem _ i1
   ·rw [List.map_cons] at h ⊢
    rcases List.mem_cons.mp h with e | e
    ·exact List.mem_cons.mpr (.inl e)
    ·exact List.mem_cons_of_mem _ (i2 g e)
theorem wB (f:Str)(v:V):∀ fs:List (Str × V),(oO f v fs).length<=fs.length+1
 | []=>by simp [oO]
 | (k,x)::r=>by
  have ih:=wB f v r
  rw [show oO f v ((k,x)::r)=(if k=f then (k,v)::r else (k,x)::oO f v r) from rfl]
  by_cases hk:k=f
  ·rw [if_pos hk,List.length_cons,List.length_cons]; omega
  ·rw [if_neg hk,List.length_cons,List.length_cons]; omega
theorem RelO.some_of {v:V}{o:Option Value}(r:RelO (some v) o):∃ u,o=some u/\RelV v u:=by
 cases o with
 | none=>exact (show False from r).elim
 | some u=>exact ⟨u,rfl,r⟩
theorem RelO.none_of {o:Option Value}(r:RelO none o):o=none:=by
 cases o with
 | none=>rfl
 | some u=>exact (show False from r).elim
theorem AG7 {v:V}{u:Value}(r:RelV v u):handedIn u=true:=by
 cases v with
 | non=>cases (show u=Value.none from r); rfl
 | bl b=>cases (show u=Value.bool b from r); rfl
 | int i=>obtain ⟨t,e⟩:=(show ∃ t,u=Value.int i t from r); cases e; rfl
 | str x=>obtain ⟨t,e⟩:=(show ∃ t,u=Value.str x t from r); cases e; rfl
 | byt b=>obtain ⟨t,e⟩:=(show ∃ t,u=Value.bytes b t from r); cases e; rfl
 | flt b=>obtain ⟨t,e⟩:=(show ∃ t,u=Value.float b t from r); cases e; rfl
 | ref a=>cases (show u=Value.ref a from r); rfl
 | ty n=>cases (show u=Value.type n from r); rfl
section
variable {P:Program}{w:World}{H H':Hp}{h h':Heap}{a C dx:Addr}{fs fs':List (Str × V)}
theorem sJ (hok:HOk P w H h)(e:H a=some (.ins C dx fs)):∃ mA,ObjM h a dx C mA/\(∀ f,RelO (fs.lookup f) (mA f))/\PySem.Within mA (fs.map (·.1))/\fs.length<=1000/\H dx=some (.own a):=by
 obtain ⟨d,z,ne,ob,mA,n,r,q⟩:=(show ObjOk P w H h a (.ins C dx fs) from hok a _ e)
 exact ⟨mA,⟨ob,n,ne⟩,r,q,z,d⟩
end
structure Cls (K:Frag) (C:Addr):Prop where
 pg:plainGet K C Str.empty=true
 hd:hasDictIn K C=true
 po:plainOver K C=true
 sa:findIn K (.ref C) "__setattr__"=some (some (.builtin "object.__setattr__"))
theorem Cls.get {K:Frag}{C:Addr}(c:Cls K C)(f:Str):plainGet K C f=true:=c.pg
def NoAttr (K:Frag)(C:Addr)(f:Str):Prop:=findIn K (.ref C) f=some none
theorem NoAttr.taker {K:Frag}{C:Addr}{f:Str}(n:NoAttr K C f):takerIn K C f=some none:=by
 unfold takerIn
 rw [show findIn K (.ref C) f=some none from n]
 rfl
structure Meth (K:Frag) (C:Addr) (m:Str) (f:Addr):Prop where
 at_:findIn K (.ref C) m=some (some (.ref f))
 fn:isFn K (.ref f)=true
 kp:keepIn K (.ref f)=true
section
variable {X:Cx}{pins:List (Addr × Obj)}{σ:St}{H:Hp}{s:Shared}{a C dx:Addr}{fs:List (Str × V)}{f:Str}{v:V}{A:Around}{E:Value->Shared->Prop}
theorem zA {b:Bool}{Q:Value->Shared->Prop}(I:Inv X pins σ H s)(e:H a=some (.ins C dx fs))(c:Cls X.K C)(n:NoAttr X.K C f)(l:fs.lookup f=some v)(h:∀ u s',Inv X pins σ H s'->RelV v u->Q u s'):wpAny (model X.prog X.w) A (getAttr (.ref a) f b) Q E s:=by
 obtain ⟨mA,O,r,_,_,_⟩:=sJ I.hok e
 obtain ⟨u,hu,ru⟩:=RelO.some_of (v:=v) (o:=mA f) (by rw [<- l]; exact r f)
 exact AZ7 I.kIn O (c.get f) c.hd n hu (AG7 ru) (h u _ (I.tok _) ru)
theorem sK {m:Str}{g:Addr}{pl:Sem Bool}{Q:Value × List Value->Shared->Prop}(I:Inv X pins σ H s)(e:H a=some (.ins C dx fs))(c:Cls X.K C)(k:Meth X.K C m g)(l:fs.lookup m=none)(h:Q (.ref g,[.ref a]) s):wpAny (model X.prog X.w) A (getMethod (.ref a) m pl) Q E s:=by
 obtain ⟨mA,O,r,_,_,_⟩:=sJ I.hok e
 have hn:mA m=none:=RelO.none_of (by rw [<- l]; exact r m)
 exact BJ7 I.kIn O (c.get m) k.at_ k.fn hn h
theorem sL {y:V}{u:Value}{Q:Unit->Shared->Prop}(I:Inv X pins σ H s)(e:H a=some (.ins C dx fs))(c:Cls X.K C)(n:NoAttr X.K C f)(hl:fs.length < 1000)(ry:RelV y u)(h:∀ s',Inv X pins σ (upd H a (.ins C dx (oO f y fs))) s'->Q () s'):wpAny (model X.prog X.w) A (setAttr (.ref a) f u) Q E s:=by
 obtain ⟨mA,O,r,wi,_,ho⟩:=sJ I.hok e
 have hz:(fs.map (·.1)).length<=sizeLine:=by rw [List.length_map,sizeLine_eq]; omega
 refine BS7 I.kIn O c.sa c.po n.taker c.hd wi hz fun h' O' sb=>h _ ?_
 have hd:∃ o,h'.get? dx=some o:=let ⟨o,_,_,e',_⟩:=O'.ns; ⟨o,e'⟩
 refine I.write (x:=a) (e:=dx) (by rw [e]; exact True.intro) (.inr ho) (fun b q hb z=>(sb.2 b hb).trans z) hd ?_
 refine ⟨by rw [aG O.ne]; exact ho,?_,O.ne,O'.obj,_,O'.ns,fun g=>?_,fun g hg=>?_⟩
 ·have:=wB f y fs; omega
 ·show RelO ((oO f y fs).lookup g) (if g=f then some u else mA g)
  rw [vZ]
  by_cases q:g=f
  ·rw [if_pos q,if_pos q]; exact ry
  ·rw [if_neg q,if_neg q]; exact r g
 ·by_cases q:g=f
  ·rw [q]; exact (wA f y fs).1
  ·refine (wA f y fs).2 g (wi g fun z=>hg ?_)
   show (if g=f then some u else mA g)=none
   rw [if_neg q]; exact z
theorem Inv.made (I:Inv X pins σ H s):Inv X pins σ (upd (upd H s.heap.objs.size (.own (s.heap.objs.size+1))) (s.heap.objs.size+1) (.ins C s.heap.objs.size []))
  { s with heap:=(s.heap.push emptyDict).push (instObj C s.heap.objs.size) }:=by
 have e1:(s.heap.push emptyDict).get? s.heap.objs.size=some emptyDict:=Heap.get?_push_size s.heap rfl
 have e2:((s.heap.push emptyDict).push (instObj C s.heap.objs.size)).get? (s.heap.objs.size+1)=some (instObj C s.heap.objs.size):=by
  have:=Heap.get?_push_size (s.heap.push emptyDict) (o:=instObj C s.heap.objs.size) rfl
  rwa [Heap.size_push] at this
 have e3:(s.heap.push emptyDict).Ns s.heap.objs.size (fun _=>none):=⟨emptyDict,#[],_,e1,rfl,(fun e he=>absurd he (by simp)),fun _=>rfl⟩
 have I1:=I.laid (a:=s.heap.objs.size) (o:=.own (s.heap.objs.size+1)) (h':=s.heap.push emptyDict) (t':=s.toks) (fun b u q=>Heap.get?_push_of_some _ q) (Nat.le_refl _) ⟨_,e1⟩
 refine I1.laid (a:=s.heap.objs.size+1) (o:=.ins C s.heap.objs.size []) (t':=s.toks) (fun b u q=>Heap.get?_push_of_some _ q) (Nat.le_of_eq (Heap.size_push _ _)) ?_
 have ne:s.heap.objs.size≠s.heap.objs.size+1:=Nat.ne_of_lt (Nat.lt_succ_self _)
 refine ⟨by rw [aG ne,aA],Nat.zero_le _,ne,e2,fun _=>none,(Heap.Ns1.of_empty e3).at fun o q=>Heap.get?_push_of_some _ q,fun _=>True.intro,fun y hy=>absurd rfl hy⟩
theorem BS8 {prog:Program}{w:World}{env:Env}{e:Expr}{f:Str}{pos:Pos}{s:Shared}{Q:Value->Shared->Prop}(hb:attributeBase e f env (eval e env)=eval e env)(h:wpAny (model prog w) A (eval e env) (fun o s₁=>wpAny (model prog w) A (getAttr o f true) Q E s₁) E s):wpAny (model prog w) A (eval (.Attribute e f pos) env) Q E s :=
 Attribute_any_ h (by rw [arm_eval_Attribute,hb])
end
def CP9 (K:Frag)(ta:TE)(f:Str):TE:=fun σ H Q=>ta σ H fun x H1=>isR x fun a=>∃ C dx fs,H1 a=some (.ins C dx fs)/\Cls K C/\NoAttr K C f/\∃ v,fs.lookup f=some v/\Q v H1
def CQ0 (K:Frag)(ta tv:TE)(f:Str):TS:=fun D σ H=>tv σ H fun y H1=>ta σ H1 fun x H2=>isR x fun a=>∃ C dx fs,H2 a=some (.ins C dx fs)/\Cls K C/\NoAttr K C f/\fs.length < 1000 /\
 D.nx σ (upd H2 a (.ins C dx (oO f y fs)))
def CJ1 (X:Cx)(op:Operator)(rd:V->V->Hp->VK->Prop):Prop :=
 ∀ (pins:List (Addr × Obj)) (s:Shared) (σ:St) (H:Hp) (x y:V) (u v:Value) (Q:VK),Inv X pins σ H s->RelV x u->RelV y v->rd x y H Q->wpAny (model X.prog X.w) X.A (inplaceOp op u v) (EP X pins σ Q) X.xe s
def zV (K:Frag)(ta tv:TE)(rd:V->V->Hp->VK->Prop)(f:Str):TS:=fun D σ H=>ta σ H fun x H1=>isR x fun a=>∃ C dx fs,H1 a=some (.ins C dx fs)/\Cls K C/\NoAttr K C f/\∃ v,fs.lookup f=some v /\
 tv σ H1 fun y H2=>rd v y H2 fun z H3=>∃ dx' fs',H3 a=some (.ins C dx' fs')/\fs'.length < 1000/\D.nx σ (upd H3 a (.ins C dx' (oO f z fs')))
section
variable {X:Cx}{o e value:Expr}{f:Str}{pos pos' tpos:Pos}{ta tv:TE}
theorem eK (he:PE X e ta)(hb:attributeBase e f X.env (eval e X.env)=eval e X.env):PE X (.Attribute e f pos) (CP9 X.K ta f):=by
 intro pins s σ H Q I h
 refine BS8 hb (thn (he pins s σ H _ I h) fun u s1 ⟨x,H1,I1,rx,qq⟩=>?_)
 obtain ⟨a,ex,C,dx,fs,ea,c,n,v,l,q⟩:=isR.ex qq
 subst ex
 obtain rfl:u=Value.ref a:=rx
 exact zA I1 ea c n l fun u' s2 I2 ru=>⟨v,H1,I2,ru,q⟩
theorem dR (ha:PE X o ta)(hv:PE X value tv)(hs:swapsWith value (some (.Attribute o f pos')) pos.line X.env=pure false):PS X (.Assign [.Attribute o f pos'] value pos) (CQ0 X.K ta tv f):=by
 intro pins s σ H D I h
 refine plainObj_wpAny_Assign_Attribute (thn (hv pins s σ H _ I h) fun u s1 ⟨y,H1,I1,ry,q⟩=>thn (ha pins s1 σ H1 _ I1 q) fun ov s2 ⟨x,H2,I2,rx,qq⟩=>?_) hs
 obtain ⟨a,ex,C,dx,fs,ea,c,n,l,q2⟩:=isR.ex qq
 subst ex
 obtain rfl:ov=Value.ref a:=rx
 exact sL I2 ea c n l ry fun s3 I3=>⟨σ,_,I3,q2⟩
theorem wC {op:Operator}{rd:V->V->Hp->VK->Prop}(ha:PE X o ta)(hv:PE X value tv)(hop:CJ1 X op rd):PS X (.AugAssign (.Attribute o f tpos) op value pos) (zV X.K ta tv rd f):=by
 intro pins s σ H D I h
 refine wpAny_AugAssign_AttributeAny (thn (ha pins s σ H _ I h) fun ov s1 ⟨x,H1,I1,rx,qq⟩=>?_)
 obtain ⟨a,ex,C,dx,fs,ea,c,n,v,l,q⟩:=isR.ex qq
 subst ex
 obtain rfl:ov=Value.ref a:=rx
 refine zA I1 ea c n l fun u s2 I2 ru=>thn (hv pins s2 σ H1 _ I2 q) fun w3 s3 ⟨y,H2,I3,ry,q3⟩=>thn (hop pins s3 σ H2 v y u w3 _ I3 ru ry q3) fun w4 s4 ⟨z,H3,I4,rz,dx',fs',ea',l',q4⟩=>?_
 exact sL I4 ea' c n l' rz fun s5 I5=>⟨σ,_,I5,q4⟩
def CQ1:V->V->Hp->VK->Prop:=fun x y H Q=>isI x fun i=>isI y fun j=>Q (.int (i+j)) H
theorem AR5:CJ1 X .Add CQ1:=by
 intro pins s σ H x y u v Q I rx ry h
 obtain ⟨i,rfl,h2⟩:=isI.ex h
 obtain ⟨j,rfl,q⟩:=isI.ex h2
 obtain ⟨t,rfl⟩:=(show ∃ t,u=Value.int i t from rx)
 obtain ⟨t',rfl⟩:=(show ∃ t',v=Value.int j t' from ry)
 exact PyProof.Rows.iadd_int ⟨.int (i+j),H,I.tok _,⟨_,rfl⟩,q⟩
end
section
variable {X:Cx}{pins:List (Addr × Obj)}{σ:St}{H:Hp}{s:Shared}{A:Around}{E:Value->Shared->Prop}{Q:Value->Shared->Prop}{c:Value}{b:Bool}
inductive TyOf (K:Frag) (H:Hp):V->Value->Prop where
 | non:TyOf K H .non (.type "NoneType")
 | bl (x:Bool):TyOf K H (.bl x) (.type "bool")
 | int (i:Int):TyOf K H (.int i) (.type "int")
 | str (x:Str):TyOf K H (.str x) (.type "str")
 | flt (x:UInt64):TyOf K H (.flt x) (.type "float")
 | lst {a:Addr}{xs:List V}(e:H a=some (.lst xs)):TyOf K H (.ref a) (.type "list")
 | frz {a:Addr}{o:Obj}{xs:List V}(e:H a=some (.frz o (.lst xs))):TyOf K H (.ref a) (.type "list")
 | tup {a:Addr}{xs:List V}(e:H a=some (.tup xs)):TyOf K H (.ref a) (.type "tuple")
 | dK {a:Addr}{kvs:List (Key × V)}(e:H a=some (.dK kvs)):TyOf K H (.ref a) (.type "dict")
 | dT {a:Addr}{kvs:List (List Key × V)}(e:H a=some (.dT kvs)):TyOf K H (.ref a) (.type "dict")
 | ins {a C dx:Addr}{fs:List (Str × V)}(e:H a=some (.ins C dx fs)) (cl:Cls K C) (ha:findIn K (.ref C) "__class__"=some (some (.builtin "object.__class__")))
   (hn:specialIn K (.builtin "object.__class__") "__get__"=some (some (.builtin "getset_descriptor.__get__"))) (htk:takesIn K (.builtin "object.__class__")=some true)
   (hm:mroIn K C (.type "object")=some true):TyOf K H (.ref a) (.ref C)
theorem wD {x:V}{u t:Value}(I:Inv X pins σ H s)(rx:RelV x u)(ty:TyOf X.K H x t)(e:kitOne X.K t c=some b)(h:∀ tk,Q (.bool b) { s with toks:=tk }) :
  wpAny (model X.prog X.w) A (call (.builtin "isinstance") [u,c]) Q E s:=by
 cases ty with
 | non=>cases (show u=Value.none from rx); exact kia_one kitx_none I.kIn True.intro e (fun z=>nomatch z) h
 | bl y=>cases (show u=Value.bool y from rx); exact kia_one kitx_bool I.kIn True.intro e (fun z=>nomatch z) h
 | int i=>obtain ⟨t,q⟩:=(show ∃ t,u=Value.int i t from rx); cases q; exact kia_one kitx_int I.kIn True.intro e (fun z=>nomatch z) h
 | str y=>obtain ⟨t,q⟩:=(show ∃ t,u=Value.str y t from rx); cases q; exact kia_one kitx_str I.kIn True.intro e (fun z=>nomatch z) h
 | flt y=>obtain ⟨t,q⟩:=(show ∃ t,u=Value.float y t from rx); cases q; exact kia_one kitx_float I.kIn True.intro e (fun z=>nomatch z) h
 | @lst a xs ea =>
  cases (show u=Value.ref a from rx)
  obtain ⟨_,_,n,_,h1⟩:=(show ObjOk X.prog X.w H s.heap a (.lst xs) from I.hok a _ ea)
  exact kia_one kitx_list I.kIn ⟨_,h1,rfl⟩ e (fun z=>nomatch z) h
 | @frz a ob xs ea =>
  cases (show u=Value.ref a from rx)
  obtain ⟨_,_,_,n,_,h1⟩:=(show ObjOk X.prog X.w H s.heap a (.frz ob (.lst xs)) from I.hok a _ ea)
  exact kia_one kitx_list I.kIn ⟨_,h1,rfl⟩ e (fun z=>nomatch z) h
 | @tup a xs ea =>
  cases (show u=Value.ref a from rx)
  obtain ⟨_,_,_,p⟩:=(show ObjOk X.prog X.w H s.heap a (.tup xs) from I.hok a _ ea)
  obtain ⟨o,h1,h2,_⟩:=p
  exact kia_one kitx_tuple I.kIn ⟨o,h1,h2⟩ e (fun z=>nomatch z) h
 | @dK a kvs ea =>
  cases (show u=Value.ref a from rx)
  obtain ⟨_,_,vs,_,p⟩:=(show ObjOk X.prog X.w H s.heap a (.dK kvs) from I.hok a _ ea)
  obtain ⟨o,es,ep,h1,h2,_⟩:=p
  exact kia_one kitx_dict I.kIn ⟨o,h1,h2.1⟩ e (fun z=>nomatch z) h
 | @dT a kvs ea =>
  cases (show u=Value.ref a from rx)
  obtain ⟨_,_,xs,_,o,es,ep,h1,h2,_⟩:=(show ObjOk X.prog X.w H s.heap a (.dT kvs) from I.hok a _ ea)
  exact kia_one kitx_dict I.kIn ⟨o,h1,h2.1⟩ e (fun z=>nomatch z) h
 | @ins a C dx fs ea cl ha hn htk hm =>
  cases (show u=Value.ref a from rx)
  obtain ⟨mA,O,_⟩:=sJ I.hok ea
  obtain ⟨od,J,_⟩:=O.look
  exact kia_one (kitx_own (cl.get _) cl.hd ha hn htk hm) I.kIn J e (fun z=>nomatch z) h
end
structure Room (k:Nat) (A:Around):Prop where
 hd:A.handled=none
 dp:A.depth+3 * k+5 < recursionLimit
 un:A.units+16 * k+200 < cLine
 gd:A.guards=some []
theorem Room.mono {j k:Nat}{A:Around}(r:Room k A)(h:j<=k):Room j A:=⟨r.hd,by have:=r.dp; omega,by have:=r.un; omega,r.gd⟩
theorem Room.deeper {k:Nat}{A:Around}(r:Room (k+1) A)(env:Env):Room k (A.deeper env) :=
 ⟨r.hd,by have:=r.dp; show A.depth+1+3 * k+5 < _; omega,by have:=r.un; show A.units+3+16 * k+200 < _; omega,r.gd⟩
theorem zB {A:Around}{C:Addr}{us:List Value}{kw:List (Str × Value)}:(A.under (.builtin "type.__call__" ⟨.ref C::us,kw⟩)).depth=A.depth+1:=by
 first | rfl | simp [Around.under,Code.weight,Code.isCreation,Code.isGuard,Code.isCaller,Code.frames,Code.isFrame,guardIds]
theorem zC {A:Around}{C:Addr}{us:List Value}{kw:List (Str × Value)}:(A.under (.builtin "type.__call__" ⟨.ref C::us,kw⟩)).units=A.units+1:=by
 first | rfl | simp [Around.under,Code.cUnits,Code.frames,Code.isFrame]
theorem AL6 {A:Around}{C:Addr}{us:List Value}{kw:List (Str × Value)}:(A.under (.builtin "type.__call__" ⟨.ref C::us,kw⟩)).guards=A.guards:=by
 first | rfl | simp [Around.under,Code.weight,Code.isCreation,Code.isGuard,Code.isCaller,Code.frames,Code.isFrame,guardIds]
theorem Room.make {k:Nat}{A:Around}(r:Room (k+1) A)(C:Addr)(us:List Value)(kw:List (Str × Value)):Room k (A.under (.builtin "type.__call__" ⟨.ref C::us,kw⟩)) :=
 ⟨r.hd,by have:=r.dp; rw [zB]; omega,by have:=r.un; rw [zC]; omega,by rw [AL6]; exact r.gd⟩
theorem Room.depth {k:Nat}{A:Around}(r:Room k A):A.depth < recursionLimit:=by have:=r.dp; omega
theorem Room.units {k:Nat}{A:Around}(r:Room k A):A.units+64 < cLine:=by have:=r.un; omega
def CD0:TA:=fun _ H Q=>Q [] H
def BJ9 (ta:TE)(tr:TA):TA:=fun σ H Q=>ta σ H fun x H1=>tr σ H1 fun xs H2=>Q (x::xs) H2
section
variable {X:Cx}{e:Expr}{es:List Expr}{te:TE}{t:TA}{pos:Pos}
theorem CD1:PA X [] CD0:=fun _ _ _ _ H Q I h=>Calls.spliced_nil ⟨[],H,I,.nil,h⟩
theorem BS9 (ha:PE X e te)(hr:PA X es t)(hs:starEach (e::es) X.env=(false,eval e X.env)::starEach es X.env:=by rfl):PA X (e::es) (BJ9 te t):=by
 intro pos pins s σ H Q I h
 rw [hs]
 show wpAny _ _ (spliced ((false,eval e X.env)::backTo pos (starEach es X.env))) _ _ s
 refine Calls.spliced_cons (thn (ha pins s σ H _ I h) fun u s1 ⟨x,H1,I1,r1,q1⟩=>?_)
 exact thn (hr pos pins s1 σ H1 _ I1 q1) fun us s2 ⟨xs,H2,I2,r2,q2⟩=>⟨x::xs,H2,I2,.cons r1 r2,q2⟩
def CQ2 (t:TA):TE:=fun σ H Q=>t σ H fun xs H1=>xs.length<=sizeLine/\∀ p,H1 p=none->Q (.ref p) (upd H1 p (.tup xs))
def CK6 (t:TA):TE:=fun σ H Q=>t σ H fun xs H1=>xs.length<=sizeLine/\∀ p,H1 p=none->Q (.ref p) (upd H1 p (.lst xs))
theorem dI {x1}(h:PA X es t):PE X (.Tuple es x1 pos) (CQ2 t):=by
 intro pins s σ H Q I hq
 refine wpAny_Tuple_spliced (thn (h pos pins s σ H _ I hq) fun us s1 ⟨xs,H1,I1,r,z,q⟩=>⟨by rw [<- r.length]; exact z,?_⟩)
 have hf:H1 s1.heap.objs.size=none:=I1.hok.fresh (Nat.le_refl _)
 refine ⟨.ref s1.heap.objs.size,upd H1 s1.heap.objs.size (.tup xs),I1.laid (t':=s1.toks) (fun b u e=>Heap.get?_push_of_some _ e) (Nat.le_refl _) ?_,rfl,q _ hf⟩
 exact ⟨z,us,r,⟨_,Heap.get?_push_size _ rfl,rfl,_,rfl⟩⟩
theorem mK (h:PA X es t):PE X (.List es pos) (CK6 t):=by
 intro pins s σ H Q I hq
 refine wpAny_List_spliced (thn (h pos pins s σ H _ I hq) fun us s1 ⟨xs,H1,I1,r,z,q⟩=>⟨by rw [<- r.length]; exact z,?_⟩)
 have hf:H1 s1.heap.objs.size=none:=I1.hok.fresh (Nat.le_refl _)
 refine ⟨.ref s1.heap.objs.size,upd H1 s1.heap.objs.size (.lst xs),I1.laid (t':=s1.toks) (fun b u e=>Heap.get?_push_of_some _ e) (Nat.le_refl _) ?_,rfl,q _ hf⟩
 exact ⟨z,us,0,r,Heap.get?_push_size _ rfl⟩
end
abbrev Sp:=List V->Hp->VK->XK->Prop
abbrev CXT:=List Env->Hp->Shared->XK->Value->Shared->Prop
structure Env0 (P:Program) (w:World) (K:Frag) (mg:Str->Option Value) (base:Heap) (A:Around) (outer:List Env) (s:Shared) (H:Hp):Prop where
 frames:A.frames=some outer
 mod:Mod K mg base
 bs:∀ b o,base.get? b=some o->s.heap.get? b=some o/\H b=none
 bsz:base.objs.size<=s.heap.objs.size
 funs:s.heap.FunFrames base outer
 frf:∀ b∈frs outer,H b=none
 hok:HOk P w H s.heap
 bare:AllBare s.gens
def CE (outer:List Env)(P:Program)(w:World)(H:Hp)(s:Shared)(Q:VK)(u:Value)(s':Shared):Prop :=
 ∃ v H',s'.os=s.os/\AllBare s'.gens/\Un (frs outer) [] H H' s.heap s'.heap/\HOk P w H' s'.heap/\RelV v u/\Q v H'
def CR (CX:CXT)(outer:List Env)(P:Program)(w:World)(H:Hp)(s:Shared)(Q:VK)(E:XK)(r:Result)(s':Shared):Prop :=
 match r with
 | .ok (.ret u)=>CE outer P w H s Q u s'
 | .ok _=>False
 | .error e=>CX outer H s E e s'
structure FnOk (P:Program) (w:World) (K:Frag) (mg:Str->Option Value) (base:Heap) (CX:CXT) (k:Nat) (f:Addr) (fd:FuncData) (ps:List Str) (sp:Sp):Prop where
 len:∀ vs H Q E,sp vs H Q E->vs.length=ps.length
 run:∀ (A:Around) (outer:List Env) (s:Shared) (H:Hp) (args:Args) (us:List Value) (vs:List V) (Q:VK) (E:XK),Room k A->Env0 P w K mg base A outer s H->BindsTo s fd args (ps.zip us)->Vals vs us->sp vs H Q E ->
  codeAny (model P w) A (.call (.ref f) args) (CR CX outer P w H s Q E) s
theorem Env0.make {P:Program}{w:World}{K:Frag}{mg:Str->Option Value}{base:Heap}{A:Around}{outer:List Env}{s:Shared}{H:Hp}(e:Env0 P w K mg base A outer s H)(C:Addr)(us:List Value)(kw:List (Str × Value)) :
  Env0 P w K mg base (A.under (.builtin "type.__call__" ⟨.ref C::us,kw⟩)) outer s H:=⟨by first | exact e.frames | (simpa [Around.under,Code.envs,Code.isFrame,pushEnvs] using e.frames),e.mod,e.bs,e.bsz,e.funs,e.frf,e.hok,e.bare⟩
section
variable {X:Cx}{pins:List (Addr × Obj)}{σ:St}{H:Hp}{s s':Shared}
theorem Inv.env0 (I:Inv X pins σ H s):Env0 X.prog X.w X.K X.mg X.base X.A X.stack s H :=
 ⟨I.ok.frames,I.ok.mod,I.bs,Nat.le_trans I.ok.bsz I.sz,I.stack,I.stkFree,I.hok,I.bare⟩
theorem Inv.after {Q:VK}{u:Value}(I:Inv X pins σ H s)(h:CE X.stack X.prog X.w H s Q u s'):EP X pins σ Q u s':=by
 obtain ⟨v,H',os,bare,un,hok,r,q⟩:=h
 obtain ⟨hh,g,d,t,os'⟩:=s'
 obtain rfl:os'=s.os:=os
 exact ⟨v,H',I.call (h':=hh) (g':=g) (d':=d) (t':=t) (ch:=[]) un hok bare (fun b z=>absurd z (by simp)),r,q⟩
end
def AL7 (sp:Sp)(dvs:List V)(E:XK)(t:TA):TE:=fun σ H Q=>t σ H fun vs H1=>sp (vs++dvs) H1 Q E
def BK0 (C:Addr)(sp:Sp)(dvs:List V)(E:XK)(t:TA):TE:=fun σ H Q=>t σ H fun vs H1=>∀ x dx,H1 x=none->H1 dx=none->dx≠x ->
 sp (.ref x::(vs++dvs)) (upd (upd H1 dx (.own x)) x (.ins C dx [])) (fun v H2=>v=.non/\Q (.ref x) H2) E
def Binds (K:Frag)(fd:FuncData)(ps:List Str)(ds:List Value):Prop :=
 ∀ (s:Shared) (us:List Value),K.In s.heap->(us++ds).length=ps.length->BindsTo s fd ⟨us,[]⟩ (ps.zip (us++ds))
theorem Binds.all {K:Frag}{fd:FuncData}{ps:List Str}(h:∀ us:List Value,us.length=ps.length->bindArgs fd ⟨us,[]⟩=pure (ps.zip us)):Binds K fd ps []:=fun s us _ hl=>by
 rw [List.append_nil] at hl ⊢
 exact .of_eq (h us hl)
def jQ (CX:CXT)(X:Cx)(E:XK):Prop:=∀ (pins:List (Addr × Obj)) (σ:St) (H:Hp) (s:Shared) (e:Value) (s':Shared),Inv X pins σ H s->CX X.stack H s E e s'->X.xe e s'
section
variable {X:Cx}{CX:CXT}{k:Nat}{f C:Addr}{fd:FuncData}{ps:List Str}{sp:Sp}{dvs:List V}{ds:List Value}{E:XK}{x m:Str}{p pos apos:Pos}{e o:Expr}{es:List Expr}{ta:TE}{t:TA}
theorem AR6 {pins:List (Addr × Obj)}{σ:St}{H:Hp}{s:Shared}{Q:VK}{us:List Value}{vs:List V}(F:FnOk X.prog X.w X.K X.mg X.base CX k f fd ps sp)(hr:Room k X.A)(hb:Binds X.K fd ps ds)(hd:Vals dvs ds)(hx:jQ CX X E)(I:Inv X pins σ H s)(r:Vals vs us)(h:sp (vs++dvs) H Q E):wpAny (model X.prog X.w) X.A (call (.ref f) us) (EP X pins σ Q) X.xe s:=by
 have r2:Vals (vs++dvs) (us++ds):=r.append hd
 have hl:(us++ds).length=ps.length:=by rw [<- r2.length]; exact F.len _ _ _ _ h
 refine wpAny_call (codeAny_mono (F.run X.A X.stack s H ⟨us,[]⟩ (us++ds) (vs++dvs) Q E hr I.env0 (hb s us I.kIn hl) r2 h) fun r s' hq=>?_)
 cases r with
 | error e=>exact hx pins σ H s e s' I hq
 | ok fl =>
  cases fl with
  | ret u=>exact I.after hq
  | next=>exact False.elim hq
  | brk=>exact False.elim hq
  | cont=>exact False.elim hq
theorem zW (F:FnOk X.prog X.w X.K X.mg X.base CX k f fd ps sp)(hr:Room k X.A)(hg:Gl X x)(hm:X.mg x=some (.ref f))(hk:keepIn X.K (.ref f)=true)(hb:Binds X.K fd ps ds)(hd:Vals dvs ds)(hx:jQ CX X E)(ha:PA X (e::es) t)(hdb:(x == ("__debug__":Str))=false:=by decide)(he:starEach (e::es) X.env=(false,eval e X.env)::starEach es X.env:=by rfl)(hpl:(backTo pos (starEach es X.env)).any (·.1)=false:=by rfl) :
  PE X (.Call (.Name x p) (e::es) [] pos) (AL7 sp dvs E t):=by
 intro pins s σ H Q I h
 refine wpAny_Call_Name_kw (iT I hg hm ?_ hdb)
 refine callWith_K (h₀:=X.base) I.ok.mod.kin hk (thn (ha pos pins s σ H _ I h) fun us s1 ⟨vs,H1,I1,r,q⟩=>⟨I1.kIn,?_⟩) he hpl
 exact AR6 F hr hb hd hx I1 r q
structure Mk (K:Frag) (C f:Addr):Prop where
 makes:makesIn K C=true
 init:findIn K (.ref C) "__init__"=some (some (.ref f))
 fn:isFn K (.ref f)=true
 kp:keepIn K (.ref C)=true
theorem BK1 {pins:List (Addr × Obj)}{σ:St}{H:Hp}{s:Shared}{Q:VK}{us:List Value}{vs:List V}(M:Mk X.K C f)(F:FnOk X.prog X.w X.K X.mg X.base CX k f fd ps sp)(hr:Room (k+1) X.A)(hb:Binds X.K fd ps ds)(hd:Vals dvs ds)(hx:jQ CX X E)(I:Inv X pins σ H s)(r:Vals vs us)(h:∀ x dx,H x=none->H dx=none->dx≠x->sp (.ref x::(vs++dvs)) (upd (upd H dx (.own x)) x (.ins C dx [])) (fun v H2=>v=.non/\Q (.ref x) H2) E) :
  wpAny (model X.prog X.w) X.A (call (.ref C) us) (EP X pins σ Q) X.xe s:=by
 have hq:=h (s.heap.objs.size+1) s.heap.objs.size (I.hok.fresh (Nat.le_succ _)) (I.hok.fresh (Nat.le_refl _)) (Nat.ne_of_lt (Nat.lt_succ_self _))
 have I2:=Inv.made (C:=C) I
 have r2:Vals (V.ref (s.heap.objs.size+1)::(vs++dvs)) (Value.ref (s.heap.objs.size+1)::(us++ds)):=.cons rfl (r.append hd)
 have hl:(Value.ref (s.heap.objs.size+1)::us++ds).length=ps.length:=by
  have e:=r2.length
  rw [F.len _ _ _ _ hq] at e
  exact e.symm
 refine wpAny_call (BJ8 (f:=f) I.kIn M.makes M.init (beq_iff_eq.mp M.fn) (codeAny_mono (F.run _ X.stack _ _ ⟨Value.ref (s.heap.objs.size+1)::us,[]⟩ (Value.ref (s.heap.objs.size+1)::(us++ds)) _ _ E (hr.make C us [])
  (I2.env0.make C us []) (hb _ (Value.ref (s.heap.objs.size+1)::us) I2.kIn hl) r2 hq) fun r s' hq'=>?_))
 cases r with
 | error e=>exact hx pins σ _ _ e s' I2 hq'
 | ok fl =>
  cases fl with
  | ret u =>
   obtain ⟨v,H',I3,rv,ev,q3⟩:=I2.after hq'
   subst ev
   exact ⟨rv,⟨V.ref (s.heap.objs.size+1),H',I3,rfl,q3⟩⟩
  | next=>exact False.elim hq'
  | brk=>exact False.elim hq'
  | cont=>exact False.elim hq'
theorem AZ9 (M:Mk X.K C f)(F:FnOk X.prog X.w X.K X.mg X.base CX k f fd ps sp)(hr:Room (k+1) X.A)(hg:Gl X x)(hm:X.mg x=some (.ref C))(hb:Binds X.K fd ps ds)(hd:Vals dvs ds)(hx:jQ CX X E)(ha:PA X (e::es) t)(hdb:(x == ("__debug__":Str))=false:=by decide)(he:starEach (e::es) X.env=(false,eval e X.env)::starEach es X.env:=by rfl)(hpl:(backTo pos (starEach es X.env)).any (·.1)=false:=by rfl) :
  PE X (.Call (.Name x p) (e::es) [] pos) (BK0 C sp dvs E t):=by
 intro pins s σ H Q I h
 refine wpAny_Call_Name_kw (iT I hg hm ?_ hdb)
 refine callWith_K (h₀:=X.base) I.ok.mod.kin M.kp (thn (ha pos pins s σ H _ I h) fun us s1 ⟨vs,H1,I1,r,q⟩=>⟨I1.kIn,?_⟩) he hpl
 exact BK1 M F hr hb hd hx I1 r q
end
section
variable {X:Cx}{CX:CXT}{k:Nat}{f C:Addr}{fd:FuncData}{ps ks:List Str}{sp:Sp}{E:XK}{x m:Str}{p pos apos kpos:Pos}{e o:Expr}{es:List Expr}{kws:List Keyword}{te ta:TE}{t tk:TA}{nm:Option Str}
variable {g:List Value->List Value->List Value}{gV:List V->List V->List V}
end
structure FnScope (N P:List Str) (sc:Scope):Prop where
 kind:sc.kind=.function
 co:sc.isCoroutine=false
 gen:sc.isGenerator=false
 nd:N.Nodup
 pre:N.take P.length=P
 par:∀ x∈P,sc.names.lookup x=some .local\/sc.names.lookup x=some .cell
 nofree:∀ y∈sc.names,y.2≠.free
theorem AG8 {kindOf:Str->Option NameKind}{x:Str}:∀ {binds:List (Str × Value)}{m:Str->Option Value},(∀ v,(x,v) ∉ binds)->bindL kindOf binds m x=m x
 | [],_,_=>rfl
 | (n,v)::r,m,h=>by
  unfold bindL
  rw [AG8 fun w hw=>h w (List.mem_cons_of_mem _ hw)]
  split
  ·have:x≠n:=by rintro rfl; exact h v List.mem_cons_self
   simp [this]
  ·rfl
theorem AG9 {kindOf:Str->Option NameKind}{x:Str}:∀ {binds:List (Str × Value)}{m:Str->Option Value},(∀ v,(x,v) ∉ binds)->bindC kindOf binds m x=m x
 | [],_,_=>rfl
 | (n,v)::r,m,h=>by
  unfold bindC
  rw [AG9 fun w hw=>h w (List.mem_cons_of_mem _ hw)]
  split
  ·rfl
  ·have:x≠n:=by rintro rfl; exact h v List.mem_cons_self
   simp [this]
theorem AH0 {kindOf:Str->Option NameKind}{x:Str}{v:Value}:∀ {P:List Str}{vs:List Value}{i:Nat}{m:Str->Option Value},P.Nodup->P[i]?=some x->vs[i]?=some v->kindOf x=some .local ->
  bindL kindOf (P.zip vs) m x=some v
 | [],_,_,_,_,h,_,_=>by simp at h
 | _::_,[],_,_,_,_,h,_=>by simp at h
 | p::P,w::vs,0,m,nd,h1,h2,hk=>by
  simp at h1 h2; subst h1; subst h2
  show bindL kindOf ((p,w)::P.zip vs) m p=_
  unfold bindL
  rw [AG8 fun v hv=>(List.nodup_cons.mp nd).1 (List.of_mem_zip hv).1,if_pos hk]
  simp
 | p::P,w::vs,i+1,m,nd,h1,h2,hk=>by
  show bindL kindOf ((p,w)::P.zip vs) m x=_
  unfold bindL
  exact AH0 (i:=i) (List.nodup_cons.mp nd).2 (by simpa using h1) (by simpa using h2) hk
theorem AH1 {kindOf:Str->Option NameKind}{x:Str}{v:Value}:∀ {P:List Str}{vs:List Value}{i:Nat}{m:Str->Option Value},P.Nodup->P[i]?=some x->vs[i]?=some v->kindOf x≠some .local ->
  bindC kindOf (P.zip vs) m x=some v
 | [],_,_,_,_,h,_,_=>by simp at h
 | _::_,[],_,_,_,_,h,_=>by simp at h
 | p::P,w::vs,0,m,nd,h1,h2,hk=>by
  simp at h1 h2; subst h1; subst h2
  show bindC kindOf ((p,w)::P.zip vs) m p=_
  unfold bindC
  rw [AG9 fun v hv=>(List.nodup_cons.mp nd).1 (List.of_mem_zip hv).1,if_neg hk]
  simp
 | p::P,w::vs,i+1,m,nd,h1,h2,hk=>by
  show bindC kindOf ((p,w)::P.zip vs) m x=_
  unfold bindC
  exact AH1 (i:=i) (List.nodup_cons.mp nd).2 (by simpa using h1) (by simpa using h2) hk
def start (N:List Str)(vs:List V):St:=vs.map some++List.replicate (N.length - vs.length) none
def AG0 (CX:CXT)(P:Program)(w:World)(K:Frag)(mg:Str->Option Value)(base:Heap)(N:List Str)(qual:Str)(scope:Scope)(f:Addr)(cd:Value)(A:Around)(outer:List Env)(s:Shared)(H:Hp)(E:XK):Cx where
 prog:=P
 w:=w
 K:=K
 mg:=mg
 base:=base
 A:=A.deeper (envOfC qual scope s.heap.objs.size f cd)
 N:=N
 s₀:=s
 H₀:=H
 env:=envOfC qual scope s.heap.objs.size f cd
 outer:=outer
 stack:=envOfC qual scope s.heap.objs.size f cd::outer
 ex:=[]
 calm:=true
 fn:=fun _=>true
 pn:=[]
 xe:=fun e s'=>wpAny (model P w) (A.deeper (envOfC qual scope s.heap.objs.size f cd)) (leaving (envOfC qual scope s.heap.objs.size f cd) e) (fun _ s''=>CX outer H s E e s'') (fun e' s''=>CX outer H s E e' s'') s'
theorem AR7 {sc:Scope}{n:Nat}{x:Str}(h:sc.names.lookup x=some .cell):∃ c,(cellsFrom n sc.names []).lookup x=some c:=by
 have q:=cellsFrom_some sc.names n [] (.inl h)
 exact Option.isSome_iff_exists.mp q
theorem wE {CX:CXT}{P:Program}{w:World}{K:Frag}{mg:Str->Option Value}{base:Heap}{N ps:List Str}{qual:Str}{scope:Scope}{f:Addr}{cd:Value}{A:Around}{outer:List Env}{s s1:Shared}{H:Hp}{E:XK}{us:List Value}{vs:List V}(S:FnScope N ps scope)(hd:A.handled=none)(e0:Env0 P w K mg base A outer s H)(hl:vs.length=ps.length)(r:Vals vs us)(x:InCallC s s.heap.objs.size (bindL (envOfC qual scope s.heap.objs.size f cd).kindOf (ps.zip us) fun _=>none) (cellsFrom (s.heap.objs.size+1) scope.names []) (bindC (envOfC qual scope s.heap.objs.size f cd).kindOf (ps.zip us) fun _=>none) s1) :
  Inv (AG0 CX P w K mg base N qual scope f cd A outer s H E) [] (start N vs) H s1:=by
 have hpl:ps.length<=N.length:=by have:=congrArg List.length S.pre; rw [List.length_take] at this; omega
 obtain ⟨h1,tk,rfl,hk⟩:=x.done
 have noA:∀ b:Addr,b ∉ (AG0 CX P w K mg base N qual scope f cd A outer s H E).ex:=fun b z=>absurd (show b∈([]:List Addr) from z) (by simp)
 refine ⟨⟨e0.mod,S.kind,rfl,rfl,Nat.le_refl _,fun y z c h1 h2=>?_,fun y hy=>?_,fun y c _ h=>?_,fun _=>hd,Around.frames_deeper e0.frames,.inr ⟨rfl,rfl⟩,fun b z=>absurd z (noA b),e0.bs,e0.bsz,fun b _ _=>noA b,fun b z=>absurd z (noA b),e0.funs,e0.frf⟩,
  rfl,e0.bare,Un.kept hk,⟨_,x.toInCall.ns,fun i y v h1 h2 h3=>?_⟩,fun y c h=>⟨_,x.cell y c h⟩,e0.hok.fresh (Nat.le_refl _),fun y c h=>?_,fun p hp=>absurd (show p∈([]:List (Addr × Obj)) from hp) (by simp),e0.hok.kept hk,?_⟩
 ·exact name_of_addr x.apart (PySem.mem_of_lookup h1) (PySem.mem_of_lookup h2)
 ·have hy:scope.names.lookup y=some .cell\/scope.names.lookup y=some .free:=hy
  rcases hy with hy | hy
  ·exact AR7 hy
  ·exact absurd rfl (S.nofree _ (PySem.mem_of_lookup hy))
 ·exact Nat.le_of_lt (x.above y c (PySem.mem_of_lookup h))
 ·have hi:i < vs.length:=by
   unfold start at h2
   by_cases hi:i < vs.length
   ·exact hi
   ·rw [List.getElem?_append_right (by simpa using hi)] at h2
    rw [List.getElem?_replicate] at h2
    split at h2 <;> cases h2
  have ha:vs[i]?=some v:=by
   unfold start at h2
   rw [List.getElem?_append_left (by simpa using hi),List.getElem?_map] at h2
   cases e:vs[i]? with
   | none=>rw [e] at h2; cases h2
   | some a=>rw [e] at h2; cases h2; rfl
  obtain ⟨u,hu,rv⟩:=r.get ha
  have hp:ps[i]?=some y:=by
   rw [<- S.pre,List.getElem?_take_of_lt (by omega)]; exact h1
  have ndP:ps.Nodup:=by rw [<- S.pre]; exact S.nd.sublist (List.take_sublist _ _)
  refine ⟨u,rv,?_⟩
  rcases S.par y (List.mem_of_getElem? hp) with k | k
  ·exact .inl ⟨k,AH0 ndP hp hu k⟩
  ·obtain ⟨c,e⟩:=AR7 (n:=s.heap.objs.size+1) k
   refine .inr ⟨.inl k,c,e,?_⟩
   have q:=x.cell y c e
   rw [AH1 ndP hp hu (by show scope.names.lookup y≠_; rw [k]; decide)] at q
   exact q
 ·exact e0.hok.fresh (Nat.le_of_lt (x.above y c (PySem.mem_of_lookup h)))
 ·unfold start
  show _=N.length
  rw [List.length_append,List.length_map,List.length_replicate]
  omega
theorem BA0 {CX:CXT}{P:Program}{w:World}{K:Frag}{mg:Str->Option Value}{base:Heap}{k:Nat}{f:Addr}{name qual:Str}{params:Arguments}{body:List Stmt}{scope:Scope}{dV kV doc pm cdv ct oc:Value}{an od:Option Addr}{osl:Array (Option Value)}{N ps:List Str}{sp:Sp}(lk:K.lookup f=some ⟨oc,od,.func (fnOf name qual params body scope dV kV doc pm an cdv ct),osl⟩)(hcd:codeIn K cdv qual=true)(S:FnScope N ps scope)(len:∀ vs H Q E,sp vs H Q E->vs.length=ps.length)(hbody:∀ (A:Around) (outer:List Env) (s:Shared) (H:Hp) (vs:List V) (Q:VK) (E:XK),Room k (A.deeper (envOfC qual scope s.heap.objs.size f cdv))->sp vs H Q E ->
   ∃ t,PSs (AG0 CX P w K mg base N qual scope f cdv A outer s H E) body t/\t { nx:=fun _ H'=>Q .non H',rt:=Q } (start N vs) H) :
  FnOk P w K mg base CX (k+1) f (fnOf name qual params body scope dV kV doc pm an cdv ct) ps sp:=by
 refine ⟨len,fun A outer s H args us vs Q E hr e0 hb r hsp=>?_⟩
 have hl:=len _ _ _ _ hsp
 have KX:K.In s.heap:=e0.mod.kin.keeps fun b o e=>(e0.bs b o e).1
 have lim:s.heap.NoLimit:=e0.mod.nolimit.keeps fun b o e=>(e0.bs b o e).1
 have hkind:∀ y∈ps.zip us,scope.names.lookup y.1=some .local\/(scope.names.lookup y.1=some .cell/\((cellsFrom (s.heap.objs.size+1) scope.names []).lookup y.1).isSome=true):=fun ⟨n,v⟩ hy=>by
  rcases S.par n (List.of_mem_zip hy).1 with q | q
  ·exact .inl q
  ·exact .inr ⟨q,cellsFrom_some _ _ _ (.inl q)⟩
 refine codeAny_call_function hr.depth (KX _ _ lk) rfl S.co S.gen rfl (codeRec_of KX hcd) (hb _ _ _ _ ?_)
 refine wpAny_newFunctionEnv_cells S.kind hkind fun env he s1 x=>?_
 subst he
 refine ⟨lim.keeps x.toInCall.keep,codeAny_func ?_⟩
 obtain ⟨t,ht,hq⟩:=hbody A outer s H vs Q E (hr.deeper _) hsp
 have I:Inv (AG0 CX P w K mg base N qual scope f cdv A outer s H E) [] (start N vs) H s1:=wE S hr.hd e0 hl r x
 refine wpAny_mono (ht [] s1 (start N vs) H _ I hq) (fun fl s' hs=>?_) fun e s' hs=>hs
 have fin:∀ {σ':St}{H':Hp}{v:V}{u:Value},Inv (AG0 CX P w K mg base N qual scope f cdv A outer s H E) [] σ' H' s'->RelV v u->Q v H'->CE outer P w H s Q u s' :=
  fun {σ' H' v u} J rv q=>⟨v,H',J.os,J.bare,J.base,J.hok,rv,q⟩
 cases fl with
 | ret u =>
  obtain ⟨v,σ',H',J,rv,q⟩:=hs
  exact fin J rv q
 | next =>
  obtain ⟨σ',H',J,q⟩:=hs
  exact fin (v:=V.non) (u:=Value.none) J rfl q
 | brk =>
  obtain ⟨_,_,_,q⟩:=hs
  exact False.elim q
 | cont =>
  obtain ⟨_,_,_,q⟩:=hs
  exact False.elim q
section
variable {X:Cx}{x:Str}{p pos:Pos}{e:Expr}{es:List Expr}{t:TA}{id T:String}{r:List V->Hp->VK->Prop}
def tCB (r:List V->Hp->VK->Prop)(t:TA):TE:=fun σ H Q=>t σ H fun vs H1=>r vs H1 Q
theorem bC (hc:mM X (.builtin id) r)(hg:Gl X x)(hm:X.mg x=none)(hv:bootBuiltins x=some (.builtin id))(ha:PA X (e::es) t)(hn:x≠"__name__":=by decide)(hdb:(x == ("__debug__":Str))=false:=by decide)(he:starEach (e::es) X.env=(false,eval e X.env)::starEach es X.env:=by rfl)(hpl:(backTo pos (starEach es X.env)).any (·.1)=false:=by rfl):PE X (.Call (.Name x p) (e::es) [] pos) (tCB r t):=by
 intro pins s σ H Q I h
 refine wpAny_Call_Name_kw (AG2 I hg hm hv ?_ hn hdb)
 exact PyProof.Rows.callWith_builtin1 (thn (ha pos pins s σ H _ I h) fun us s1 ⟨vs,H1,I1,r1,q1⟩=>hc pins s1 σ H1 vs us Q I1 r1 q1) he hpl
theorem bM (hc:mM X (.type T) r)(hg:Gl X x)(hm:X.mg x=none)(hv:bootBuiltins x=some (.type T))(ha:PA X (e::es) t)(hn:x≠"__name__":=by decide)(hdb:(x == ("__debug__":Str))=false:=by decide)(he:starEach (e::es) X.env=(false,eval e X.env)::starEach es X.env:=by rfl)(hpl:(backTo pos (starEach es X.env)).any (·.1)=false:=by rfl):PE X (.Call (.Name x p) (e::es) [] pos) (tCB r t):=by
 intro pins s σ H Q I h
 refine wpAny_Call_Name_kw (AG2 I hg hm hv ?_ hn hdb)
 exact PyProof.Rows.callWith_type1 (thn (ha pos pins s σ H _ I h) fun us s1 ⟨vs,H1,I1,r1,q1⟩=>hc pins s1 σ H1 vs us Q I1 r1 q1) he hpl
end
end L2
namespace HT
open PySem PyProof.Rows PySem.W
section
open PySem.SeqAt
open PySem.AutoSeq1 (wpAny_loadPart')
open PySem.MeetsSeq PySem.MeetsSeq2 PySem.MeetsSeq3
end
section
variable {prog:Program}{w:World}{A:Around}{E:Value->Shared->Prop}{s:Shared}
def sIx (n d:Nat):Option Int->Nat
 | none=>d
 | some v=>if v < 0 then (v+(n:Int)).toNat else min v.toNat n
theorem sIx_nat (n d k:Nat):sIx n d (some (k:Int))=min k n:=by
 show (if (k:Int) < 0 then ((k:Int)+(n:Int)).toNat else min (k:Int).toNat n)=min k n
 rw [if_neg (by omega),Int.toNat_natCast]
end
end HT
namespace L2
open PySem PySem.Spec PyProof.Rows PySem.W
abbrev TO:=St->Hp->(Option Int->Hp->Prop)->Prop
def PO (X:Cx)(e:Option Expr)(t:TO):Prop :=
 ∀ (pins:List (Addr × Obj)) (s:Shared) (σ:St) (H:Hp) (Q:Option Int->Hp->Prop),Inv X pins σ H s->t σ H Q ->
  wpAny (model X.prog X.w) X.A (evalPart e X.env) (fun u s'=>∃ o H',Inv X pins σ H' s'/\IsPart u o/\Q o H') X.xe s
def BA1:TO:=fun _ H Q=>Q none H
def CD2 (t:TE):TO:=fun σ H Q=>t σ H fun x H1=>isI x fun i=>Q (some i) H1
section
variable {X:Cx}{e:Expr}{te:TE}{lo hi:Option Expr}{tl th:TO}{pos p2:Pos}
theorem sM:PO X none BA1:=by
 intro pins s σ H Q I h
 rw [evalPart_none]
 exact wpAny_pure ⟨none,H,I,.none,h⟩
theorem kF (h:PE X e te):PO X (some e) (CD2 te):=by
 intro pins s σ H Q I hw
 rw [evalPart_some]
 refine thn (h pins s σ H _ I hw) fun u s1 ⟨x,H1,I1,r1,q1⟩=>?_
 obtain ⟨i,rfl,q⟩:=isI.ex q1
 obtain ⟨t,rfl⟩:=r1
 exact ⟨some i,H1,I1,.int i t,q⟩
def SlR (X:Cx)(r:V->Option Int->Option Int->Hp->VK->Prop):Prop :=
 ∀ (pins:List (Addr × Obj)) (s:Shared) (σ:St) (H:Hp) (x:V) (v vl vu:Value) (lo hi:Option Int) (sl:Addr) (Q:VK),Inv X pins σ H s->RelV x v->s.heap.IsSliceOf sl vl vu .none->IsPart vl lo->IsPart vu hi->r x lo hi H Q ->
  ∃ T id,typeLookup (.type T) "__getitem__"=pure (some (.builtin id))/\s.TypeIs v T/\wpAny (model X.prog X.w) X.A (getItem v (.ref sl)) (EP X pins σ Q) X.xe s
def tSl (r:V->Option Int->Option Int->Hp->VK->Prop)(te:TE)(tl th:TO):TE:=fun σ H Q=>te σ H fun x H1=>tl σ H1 fun l H2=>th σ H2 fun u H3=>r x l u H3 Q
theorem jR {r:V->Option Int->Option Int->Hp->VK->Prop}(hr:SlR X r)(he:PE X e te)(hl:PO X lo tl)(hu:PO X hi th):PE X (.Subscript e (.Slice lo hi none p2) pos) (tSl r te tl th):=by
 intro pins s σ H Q I h
 refine Subscript_ (thn (he pins s σ H _ I h) fun v s1 ⟨x,H1,I1,r1,q1⟩=>?_)
 refine wpAny_Slice (thn (hl pins s1 σ H1 _ I1 q1) fun vl s2 ⟨l,H2,I2,pl,q2⟩=>thn (hu pins s2 σ H2 _ I2 q2) fun vu s3 ⟨u,H3,I3,pu,q3⟩=>?_)
 rw [evalPart_none]
 refine wpAny_pure ?_
 have I4:Inv X pins σ H3 { s3 with heap:=s3.heap.push { cls:=.type "slice",data:=.fields #[vl,vu,.none] } }:=I3.kept (t':=s3.toks) fun b ob q=>Heap.get?_push_of_some _ q
 obtain ⟨T,id,hT,ht,hg⟩:=hr pins { s3 with heap:=s3.heap.push { cls:=.type "slice",data:=.fields #[vl,vu,.none] } } σ H3 x v vl vu l u s3.heap.objs.size Q I4 r1 (Heap.IsSliceOf.new ..) pl pu q3
 show wpAny (model X.prog X.w) X.A (subscriptTail e (.Slice lo hi none p2) v (.ref s3.heap.objs.size)) (EP X pins σ Q) X.xe { s3 with heap:=s3.heap.push { cls:=.type "slice",data:=.fields #[vl,vu,.none] } }
 exact tail_any (ops:=[.ref s3.heap.objs.size,v]) ht hT hg (by with_unfolding_all rfl)
def AY4 (xs:List V)(lo hi:Option Int):List V:=(xs.drop (HT.sIx xs.length 0 lo)).take (HT.sIx xs.length xs.length hi - HT.sIx xs.length 0 lo)
theorem AL8 (xs:List V)(lo hi:Option Int):(AY4 xs lo hi).length<=xs.length:=by
 unfold AY4
 rw [List.length_take,List.length_drop]
 omega
end
def ixN (n:Nat)(i:Int):Option Nat:=if 0<=i then (if i < n then some i.toNat else none) else if -(n:Int)<=i then some (i+n).toNat else none
def atI {α:Type}(xs:List α)(i:Int):Option α:=(ixN xs.length i).bind fun j=>xs[j]?
theorem BA2 {n:Nat}{i:Int}{j:Nat}(h:ixN n i=some j):seqIndex? i n=some j/\j < n/\-(n:Int)<=i/\i < n:=by
 unfold ixN at h
 by_cases h0:0<=i
 ·rw [if_pos h0] at h
  by_cases h1:i < n
  ·rw [if_pos h1] at h
   have e:i.toNat=j:=Option.some.inj h
   exact ⟨by rw [seqIndex_of h0 h1,e],by omega,by omega,h1⟩
  ·rw [if_neg h1] at h; cases h
 ·rw [if_neg h0] at h
  by_cases h1:-(n:Int)<=i
  ·rw [if_pos h1] at h
   have e:(i+n).toNat=j:=Option.some.inj h
   exact ⟨by rw [seqIndex_neg (by omega) h1,e],by omega,h1,by omega⟩
  ·rw [if_neg h1] at h; cases h
theorem AL9 {α:Type}{xs:List α}{i:Int}{v:α}(h:atI xs i=some v):∃ j,seqIndex? i xs.length=some j/\xs[j]?=some v/\j < xs.length/\-(xs.length:Int)<=i/\i < xs.length:=by
 unfold atI at h
 cases e:ixN xs.length i with
 | none=>rw [e] at h; cases h
 | some j =>
  rw [e] at h
  obtain ⟨h1,h2,h3,h4⟩:=BA2 e
  exact ⟨j,h1,h,h2,h3,h4⟩
theorem wF {α:Type}{xs:List α}{j:Nat}{v:α}(h:xs[j]?=some v):atI xs (j:Int)=some v:=by
 have hj:j < xs.length:=(List.getElem?_eq_some_iff.mp h).1
 have e:ixN xs.length (j:Int)=some j:=by
  unfold ixN
  rw [if_pos (by omega),if_pos (by omega)]; simp
 unfold atI; rw [e]; exact h
def BA3 (b:Expr):Prop:=∀ o i,subscripted b false o i=operate [o,i] (getItem o i)
def IxR (X:Cx)(r:R2):Prop :=
 ∀ (value slice:Expr) (pins:List (Addr × Obj)) (s:Shared) (σ:St) (H:Hp) (x y:V) (v u:Value) (Q:VK),Inv X pins σ H s->RelV x v->RelV y u->r x y H Q ->
  subscripted slice false v u=operate [v,u] (getItem v u)->wpAny (model X.prog X.w) X.A (subscriptTail value slice v u) (EP X pins σ Q) X.xe s
def MtR (X:Cx)(id:String)(r:V->List V->Hp->VK->Prop):Prop :=
 ∀ (pins:List (Addr × Obj)) (s:Shared) (σ:St) (H:Hp) (x:V) (xs:List V) (v:Value) (us:List Value) (Q:VK),Inv X pins σ H s->RelV x v->Vals xs us->r x xs H Q ->
  wpAny (model X.prog X.w) X.A (call (.builtin id) (v::us)) (EP X pins σ Q) X.xe s
section
variable {X:Cx}{a b:Expr}{ta tb:TE}{pos:Pos}
theorem gB {r:R2}(hr:IxR X r)(ha:PE X a ta)(hb:PE X b tb)(hs:BA3 b):PE X (.Subscript a b pos) (tOp r ta tb):=by
 intro pins s σ H Q I h
 exact Subscript_ (CK4 ha hb I h fun v u s2 x y H2 I2 rx ry q=>hr a b pins s2 σ H2 x y v u Q I2 rx ry q (hs _ _))
def CQ3 (K:Frag):R2:=fun x y H Q=>∃ p xs i v,x=.ref p/\y=.int i/\SqL K H p xs/\atI xs i=some v/\Q v H
def CK7 (K:Frag):R2:=fun x y H Q=>∃ p xs i v,x=.ref p/\y=.int i/\SqT K H p xs/\atI xs i=some v/\Q v H
def CQ4:R2:=fun x y H Q=>∃ z i c,x=.str z/\y=.int i/\z.length<=sizeLine/\atI z.cps.toList i=some c/\Q (.str ⟨#[c]⟩) H
theorem dO:IxR X (CQ3 X.K):=by
 intro value slice pins s σ H x y v u Q I rx ry h hs
 obtain ⟨p,xs,i,z,rfl,rfl,hq,he,q⟩:=h
 cases rx
 obtain ⟨t,rfl⟩:=ry
 obtain ⟨its,r,pl,hz⟩:=I.list hq
 obtain ⟨j,h1,h2,h3,h4,h5⟩:=AL9 he
 obtain ⟨w,ew,rw'⟩:=r.get h2
 have hl:=r.length
 have hn:=vY
 have fin:EP X pins σ Q w s:=⟨z,H,I,rw',q⟩
 by_cases h0:0<=i
 ·have hj:i.toNat=j:=by
   rw [seqIndex_of h0 h5] at h1
   exact Option.some.inj h1
  exact item_listR pl.isList h0 (by omega) (by rw [hj]; simpa using ew) fin hs
 ·have hj:(i+(its.toArray.size:Int)).toNat=j:=by
   rw [seqIndex_neg (by omega) h4] at h1
   rw [List.size_toArray,<- hl]
   exact Option.some.inj h1
  exact subscriptTail_builtinR (x:=w) pl.isList.typeIs slot_list_getitem.lookup
   (wpAny_getItem_list_neg (Q:=fun r s'=>r=w/\EP X pins σ Q r s') pl.isList (by omega) (by rw [List.size_toArray] <;> omega) (by omega) (by rw [hj]; simpa using ew) ⟨rfl,fin⟩) hs
theorem wG:IxR X (CK7 X.K):=by
 intro value slice pins s σ H x y v u Q I rx ry h hs
 obtain ⟨p,xs,i,z,rfl,rfl,hq,he,q⟩:=h
 cases rx
 obtain ⟨t,rfl⟩:=ry
 obtain ⟨its,r,pl,hz⟩:=I.tuple hq
 obtain ⟨j,h1,h2,h3,h4,h5⟩:=AL9 he
 obtain ⟨w,ew,rw'⟩:=r.get h2
 have hl:=r.length
 have hn:=vY
 have fin:EP X pins σ Q w s:=⟨z,H,I,rw',q⟩
 exact subscriptTail_builtinR (x:=w) pl.typeIs slot_tuple_getitem.lookup
  (getItem_tuple (j:=j) (Q:=fun r s'=>r=w/\EP X pins σ Q r s') pl (by omega) (by omega) (by rw [List.size_toArray,<- hl]; exact h1) (by simpa using ew) ⟨rfl,fin⟩) hs
theorem BP2:IxR X CQ4:=by
 intro value slice pins s σ H x y v u Q I rx ry h hs
 obtain ⟨z,i,c,rfl,rfl,hz,he,q⟩:=h
 obtain ⟨t,rfl⟩:=rx
 obtain ⟨t',rfl⟩:=ry
 obtain ⟨j,h1,h2,h3,h4,h5⟩:=AL9 he
 have hl:z.cps.toList.length=z.length:=by simp [Str.length]
 rw [hl] at h1 h4 h5
 have hn:=vY
 exact tail_any (typeIs_str s z t) slot_str_getitem.lookup (getItem_str (c:=c) (by
  have e1:decide (i < -(2 ^ 63:Int))=false:=decide_eq_false (by omega)
  have e2:decide (i >= 2 ^ 63)=false:=decide_eq_false (by omega)
  rw [e1,e2,Bool.or_false]) (by rw [h1]; simpa using h2) ⟨.str ⟨#[c]⟩,H,I.tok _,⟨_,rfl⟩,q⟩) hs
theorem AV2 (its:List Value)(n j:Nat)(u:Value):Obj.mapSeq (·.setIfInBounds j u) { cls:=.type "list",data:=.seq its.toArray n }={ cls:=.type "list",data:=.seq (its.set j u).toArray n }:=by
 simp [Obj.mapSeq]
theorem Inv.lst {pins:List (Addr × Obj)}{σ:St}{H:Hp}{s:Shared}{p:Addr}{xs:List V}(I:Inv X pins σ H s)(h:H p=some (.lst xs)) :
  ∃ (its:List Value) (n:Nat),Vals xs its/\s.heap.get? p=some { cls:=.type "list",data:=.seq its.toArray n }/\xs.length<=sizeLine:=by
 obtain ⟨z,its,n,r,e⟩:=I.hok p _ h
 exact ⟨its,n,r,e,z⟩
theorem Inv.lstUpd {pins:List (Addr × Obj)}{σ:St}{H:Hp}{s:Shared}{p:Addr}{xs ys:List V}{its its':List Value}{n n':Nat}{f:Obj->Obj}(I:Inv X pins σ H s)(h:H p=some (.lst xs))(ho:s.heap.get? p=some { cls:=.type "list",data:=.seq its.toArray n })(hf:f { cls:=.type "list",data:=.seq its.toArray n }={ cls:=.type "list",data:=.seq its'.toArray n' })(r:Vals ys its')(hz:ys.length<=sizeLine)(t:Nat) :
  Inv X pins σ (upd H p (.lst ys)) { s with heap:=s.heap.update p f,toks:=t }:=by
 have e:(s.heap.update p f).get? p=some { cls:=.type "list",data:=.seq its'.toArray n' }:=by
  rw [Heap.get?_update_self f ho (by rw [hf] <;> rfl),hf]
 refine I.write (x:=p) (e:=p) (by rw [h]; trivial) (.inl rfl) (fun b u hb q=>(Heap.get?_update_other _ _ (Ne.symm hb)).trans q) ⟨_,e⟩ ?_
 exact ⟨hz,its',n',r,e⟩
def CD3:V->V->V->Hp->(Hp->Prop)->Prop:=fun o i v H Q=>∃ p xs k j,o=.ref p/\i=.int k/\H p=some (.lst xs)/\ixN xs.length k=some j/\Q (upd H p (.lst (xs.set j v)))
theorem vO:CP5 X CD3:=by
 intro pins s σ H o i v ov iv u Q I ro ri rv h
 obtain ⟨p,xs,k,j,rfl,rfl,hp,hj,q⟩:=h
 cases ro
 obtain ⟨t,rfl⟩:=ri
 obtain ⟨its,n,r,ho,hz⟩:=I.lst hp
 obtain ⟨h1,h2,h3,h4⟩:=BA2 hj
 have hl:=r.length
 have hn:=vY
 have I':Inv X pins σ (upd H p (.lst (xs.set j v))) { s with heap:=s.heap.update p (Obj.mapSeq (·.setIfInBounds j u)) } :=
  I.lstUpd hp ho (AV2 its n j u) (r.set rv j) (by rw [List.length_set]; exact hz) s.toks
 by_cases h0:0<=k
 ·have hk:k.toNat=j:=by
   rw [seqIndex_of h0 h4] at h1
   exact Option.some.inj h1
  exact ki_setAt ho h0 (by omega) (by rw [List.size_toArray,<- hl]; exact h4) (by rw [hk]; exact ⟨_,I',q⟩)
 ·have hk:(k+(its.toArray.size:Int)).toNat=j:=by
   rw [seqIndex_neg (by omega) h3] at h1
   rw [List.size_toArray,<- hl]
   exact Option.some.inj h1
  exact ki_setBack ho (by omega) (by rw [List.size_toArray,<- hl]; exact h3) (by omega) (by rw [hk]; exact ⟨_,I',q⟩)
theorem AH2 (lo hi:Option Int)(n:Nat):(sliceBounds lo hi none n).1=((HT.sIx n 0 lo:Nat):Int)/\(sliceBounds lo hi none n).2.1=((HT.sIx n n hi:Nat):Int)/\(sliceBounds lo hi none n).2.2=1:=by
 refine ⟨?_,?_,rfl⟩
 ·cases lo with
  | none=>simp [sliceBounds,HT.sIx]
  | some i =>
   simp only [sliceBounds,HT.sIx,Option.getD_none,show (1:Int) > 0 by decide,if_true]
   by_cases h:i < 0
   ·simp only [h,if_true] <;> omega
   ·simp only [h,if_false] <;> omega
 ·cases hi with
  | none=>simp [sliceBounds,HT.sIx]
  | some i =>
   simp only [sliceBounds,HT.sIx,Option.getD_none,show (1:Int) > 0 by decide,if_true]
   by_cases h:i < 0
   ·simp only [h,if_true] <;> omega
   ·simp only [h,if_false] <;> omega
theorem zX (its:List Value)(lo hi:Option Int):slicePick its.toArray lo hi none=((its.drop (HT.sIx its.length 0 lo)).take (HT.sIx its.length its.length hi - HT.sIx its.length 0 lo)).toArray:=by
 obtain ⟨h1,h2,h3⟩:=AH2 lo hi its.toArray.size
 unfold slicePick
 rw [h1,h2,h3]
 simp only [sliceRange_one,pick_run,List.size_toArray] <;> rfl
def CR6 (K:Frag):V->Option Int->Option Int->Hp->VK->Prop:=fun x lo hi H Q=>∃ a xs,x=.ref a/\SqL K H a xs/\∀ p,H p=none->Q (.ref p) (upd H p (.lst (AY4 xs lo hi)))
theorem zY:SlR X (CR6 X.K):=by
 intro pins s σ H x v vl vu lo hi sl Q I rx hs pl pu h
 obtain ⟨a,xs,rfl,hx,q⟩:=h
 cases rx
 obtain ⟨its,r,ht,hz⟩:=I.list hx
 have hlen:=r.length
 refine ⟨"list",_,slot_list_getitem.lookup,ht.isList.typeIs,?_⟩
 refine wpAny_getItem_list_slice ht.isList hs pl pu .none (by simp) ?_ (by rw [List.size_toArray] <;> omega)
 rw [zX,<- hlen]
 refine ⟨.ref s.heap.objs.size,_,I.laid (t':=s.toks) (o:=.lst (AY4 xs lo hi)) (fun b ob q=>Heap.get?_push_of_some _ q) (Nat.le_refl _) ?_,rfl,q _ (I.hok.fresh (Nat.le_refl _))⟩
 exact ⟨Nat.le_trans (AL8 xs lo hi) hz,_,0,(r.drop (HT.sIx xs.length 0 lo)).take (HT.sIx xs.length xs.length hi - HT.sIx xs.length 0 lo),Heap.get?_push_size _ rfl⟩
def zZ:V->Bool
 | .non=>true
 | .bl _=>true
 | .int _=>true
 | .str _=>true
 | _=>false
def eqV:V->V->Bool
 | .non,.non=>true
 | .bl a,.bl b=>a == b
 | .bl a,.int b=>(if a then 1 else 0) == b
 | .int a,.bl b=>a == (if b then 1 else 0)
 | .int a,.int b=>a == b
 | .str a,.str b=>a == b
 | _,_=>false
theorem CD4 {A:Around}{s:Shared}{y x:V}{u v:Value}(ry:RelV y u)(rx:RelV x v)(fy:zZ y=true)(fx:zZ x=true):SeqAt.EqAt A s u v (eqV y x):=by
 cases y with
 | non =>
  cases ry
  cases x with
  | non=>cases rx; exact SeqAt.EqAt.same _
  | bl b=>cases rx; exact SeqAt.EqAt.none_bool b
  | int b=>obtain ⟨t,rfl⟩:=rx; exact SeqAt.EqAt.none_int b t
  | str b=>obtain ⟨t,rfl⟩:=rx; exact SeqAt.EqAt.none_str b t
  | _=>exact absurd (show false=true from fx) Bool.false_ne_true
 | bl a =>
  cases ry
  cases x with
  | non=>cases rx; exact SeqAt.EqAt.bool_none a
  | bl b=>cases rx; exact SeqAt.EqAt.bool_bool a b
  | int b=>obtain ⟨t,rfl⟩:=rx; exact SeqAt.EqAt.bool_int a b t
  | str b=>obtain ⟨t,rfl⟩:=rx; exact SeqAt.EqAt.bool_str a b t
  | _=>exact absurd (show false=true from fx) Bool.false_ne_true
 | int a =>
  obtain ⟨t',rfl⟩:=ry
  cases x with
  | non=>cases rx; exact SeqAt.EqAt.int_none a t'
  | bl b=>cases rx; exact SeqAt.EqAt.int_bool a t' b
  | int b=>obtain ⟨t,rfl⟩:=rx; exact SeqAt.EqAt.int_int a t' b t
  | str b=>obtain ⟨t,rfl⟩:=rx; exact SeqAt.EqAt.int_str a t' b t
  | _=>exact absurd (show false=true from fx) Bool.false_ne_true
 | str a =>
  obtain ⟨t',rfl⟩:=ry
  cases x with
  | non=>cases rx; exact SeqAt.EqAt.str_none a t'
  | bl b=>cases rx; exact SeqAt.EqAt.str_bool a t' b
  | int b=>obtain ⟨t,rfl⟩:=rx; exact SeqAt.EqAt.str_int a t' b t
  | str b=>obtain ⟨t,rfl⟩:=rx; exact SeqAt.EqAt.str_str a t' b t
  | _=>exact absurd (show false=true from fx) Bool.false_ne_true
 | _=>exact absurd (show false=true from fy) Bool.false_ne_true
def eqU (x:V)(u:Value):Bool:=match u with
 | .none=>eqV .non x
 | .bool b=>eqV (.bl b) x
 | .int i _=>eqV (.int i) x
 | .str z _=>eqV (.str z) x
 | _=>false
theorem BP3 {x y:V}{u:Value}(r:RelV y u)(f:zZ y=true):eqU x u=eqV y x:=by
 cases y with
 | non=>cases r; rfl
 | bl b=>cases r; rfl
 | int i=>obtain ⟨t,rfl⟩:=r; rfl
 | str z=>obtain ⟨t,rfl⟩:=r; rfl
 | _=>exact absurd (show false=true from f) Bool.false_ne_true
theorem AM0 {x:V}:∀ {xs:List V}{us:List Value},Vals xs us->xs.all zZ=true->us.any (eqU x)=xs.any fun y=>eqV y x
 | _,_,.nil,_=>rfl
 | y::xs,u::us,.cons r t,f=>by
  rw [List.all_cons,Bool.and_eq_true] at f
  rw [List.any_cons,List.any_cons,BP3 r f.1,AM0 t f.2]
theorem AA0 {A:Around}{s:Shared}{x:V}{v:Value}(rx:RelV x v)(fx:zZ x=true):∀ {xs:List V}{us:List Value},Vals xs us->xs.all zZ=true->∀ u∈us,SeqAt.EqAt A s u v (eqU x u)
 | _,_,.nil,_=>fun u hu=>by cases hu
 | y::xs,u::us,.cons r t,f=>fun u' hu=>by
  rw [List.all_cons,Bool.and_eq_true] at f
  rcases List.mem_cons.mp hu with rfl | hu
  ·rw [BP3 r f.1]; exact CD4 r rx f.1 fx
  ·exact AA0 rx fx t f.2 u' hu
def inV (x:V)(xs:List V):Bool:=xs.any fun y=>eqV y x
def rIn (K:Frag)(neg:Bool):R2:=fun x y H Q=>∃ p xs,y=.ref p/\(SqL K H p xs\/SqT K H p xs)/\zZ x=true/\xs.all zZ=true/\Q (.bl (if neg then !inV x xs else inV x xs)) H
theorem mV:OpR X (compareOp .NotIn) (rIn X.K true):=by
 intro pins s σ H x y v u Q I rx ry h
 obtain ⟨p,xs,rfl,hq,fx,fs,q⟩:=h
 cases ry
 rcases hq with hq | hq
 ·obtain ⟨its,r,pl,hz⟩:=I.list hq
  refine SeqAt.notIn_listAt (eqU x) pl.isList (fun w hw=>AA0 rx fx r fs w (by simpa using hw)) ⟨.bl _,H,I,rfl,?_⟩
  rw [show its.toArray.any (eqU x)=its.any (eqU x) by simp,AM0 r fs]
  exact q
 ·obtain ⟨its,r,pl,hz⟩:=I.tuple hq
  refine SeqAt.notIn_tupleAt (eqU x) pl (fun w hw=>AA0 rx fx r fs w (by simpa using hw)) ⟨.bl _,H,I,rfl,?_⟩
  rw [show its.toArray.any (eqU x)=its.any (eqU x) by simp,AM0 r fs]
  exact q
theorem cI:mM X (.builtin "len") (fun xs H Q=>∃ p ys,xs=[.ref p]/\(SqL X.K H p ys\/SqT X.K H p ys)/\Q (.int ys.length) H):=by
 intro pins s σ H xs us Q I r h
 obtain ⟨p,ys,rfl,hq,q⟩:=h
 obtain ⟨u,rfl,rx⟩:=sI r
 cases rx
 have hn:=vY
 rcases hq with hq | hq
 ·obtain ⟨its,r',pl,hz⟩:=I.list hq
  have hlen:=r'.length
  exact Calls.call_len_list pl.isList (by simp only [List.size_toArray] <;> omega) ⟨.int ys.length,H,I.tok _,⟨s.toks+1,by rw [List.size_toArray,hlen]⟩,q⟩
 ·obtain ⟨its,r',pl,hz⟩:=I.tuple hq
  have hlen:=r'.length
  exact len_tuple pl (by simp only [List.size_toArray] <;> omega) ⟨.int ys.length,H,I.tok _,⟨s.toks+1,by rw [List.size_toArray,hlen]⟩,q⟩
theorem gU:mM X (.builtin "len") (fun xs H Q=>∃ z,xs=[.str z]/\z.length<=sizeLine/\Q (.int z.length) H):=by
 intro pins s σ H xs us Q I r h
 obtain ⟨z,rfl,hz,q⟩:=h
 obtain ⟨u,rfl,t,rfl⟩:=sI r
 have hn:=vY
 exact len_str (by omega) ⟨.int z.length,H,I.tok _,⟨_,rfl⟩,q⟩
theorem eB:mM X (.type "list") (fun xs H Q=>∃ p ys,xs=[.ref p]/\(SqL X.K H p ys\/SqT X.K H p ys)/\∀ l,H l=none->Q (.ref l) (upd H l (.lst ys))):=by
 intro pins s σ H xs us Q I r h
 obtain ⟨p,ys,rfl,hq,q⟩:=h
 obtain ⟨u,rfl,rx⟩:=sI r
 cases rx
 have fin:∀ (its:List Value),Vals ys its->ys.length<=sizeLine->∀ (h':Heap) (c':Nat),(∀ b o',s.heap.get? b=some o'->h'.get? b=some o') ->
   h'.get? s.heap.objs.size=some { cls:=.type "list",dict:=none,data:=.seq its.toArray c',slots:=#[] }->EP X pins σ Q (.ref s.heap.objs.size) { s with heap:=h' }:=fun its r' hz h' c' kp e =>
  ⟨.ref s.heap.objs.size,_,I.laid (t':=s.toks) kp (Nat.le_refl _) (show ObjOk X.prog X.w _ h' _ (.lst ys) from ⟨hz,its,c',r',e⟩),rfl,q _ (I.hok.fresh (Nat.le_refl _))⟩
 rcases hq with hq | hq
 ·obtain ⟨its,r',pl,hz⟩:=I.list hq
  have hlen:=r'.length
  obtain ⟨o,ho,hc,n,hd⟩:=pl.isList
  exact call_list_seq p (.inl rfl) ho hc hd (fun h' c' kp e=>fin its r' hz h' c' kp e) (by simp only [List.size_toArray] <;> omega)
 ·obtain ⟨its,r',pl,hz⟩:=I.tuple hq
  have hlen:=r'.length
  obtain ⟨o,ho,hc,n,hd⟩:=pl
  exact call_list_seq p (.inr rfl) ho hc hd (fun h' c' kp e=>fin its r' hz h' c' kp e) (by simp only [List.size_toArray] <;> omega)
theorem qH:mM X (.type "tuple") (fun xs H Q=>∃ p ys,xs=[.ref p]/\((SqL X.K H p ys/\∀ l,H l=none->Q (.ref l) (upd H l (.tup ys)))\/(SqT X.K H p ys/\Q (.ref p) H))):=by
 intro pins s σ H xs us Q I r h
 obtain ⟨p,ys,rfl,h⟩:=h
 obtain ⟨u,rfl,rx⟩:=sI r
 cases rx
 rcases h with ⟨hq,q⟩ | ⟨hq,q⟩
 ·obtain ⟨its,r',pl,hz⟩:=I.list hq
  have hlen:=r'.length
  refine call_tuple_list pl.isList (fun h' kp=>?_) (by simp only [List.size_toArray] <;> omega)
  have I1:Inv X pins σ H { s with heap:=h' }:=I.kept (t':=s.toks) kp
  have I2:Inv X pins σ (upd H h'.objs.size (.tup ys)) { s with heap:=h'.push { cls:=.type "tuple",data:=.seq its.toArray } } :=
   I1.laid (t':=s.toks) (fun b o e=>Heap.get?_push_of_some _ e) (Nat.le_refl _) (show ObjOk X.prog X.w _ _ _ (.tup ys) from ⟨hz,its,r',IsTup.new _ _⟩)
  exact ⟨.ref h'.objs.size,_,I2,rfl,q _ (I1.hok.fresh (Nat.le_refl _))⟩
 ·obtain ⟨its,r',pl,hz⟩:=I.tuple hq
  exact call_tuple_same pl ⟨.ref p,H,I,rfl,q⟩
def tyV (K:Frag)(T:String)(x:V)(H:Hp):Prop:=match x with
 | .str _=>T="str"
 | .int _=>T="int"
 | .ref p=>(T="list"/\∃ xs,SqL K H p xs)\/(T="tuple"/\∃ o,K.lookup p=some o/\o.cls=.type "tuple"/\o.dict=none) \/
   (T="dict"/\((∃ kvs,H p=some (.dK kvs))\/∃ kvs,H p=some (.dT kvs)))\/(T="set"/\∃ S n,H p=some (.set S n))
 | _=>False
theorem BP4 {pins:List (Addr × Obj)}{σ:St}{H:Hp}{s:Shared}{T:String}{x:V}{v:Value}(I:Inv X pins σ H s)(r:RelV x v)(ty:tyV X.K T x H) :
  s.TypeIs v T/\∀ a,v=.ref a->∃ ob,s.heap.get? a=some ob/\ob.dict=none:=by
 cases x with
 | str z =>
  obtain ⟨t,rfl⟩:=r
  cases (show T="str" from ty)
  exact ⟨typeIs_str s z t,fun _ e=>nomatch e⟩
 | int i =>
  obtain ⟨t,rfl⟩:=r
  cases (show T="int" from ty)
  exact ⟨typeIs_int s i t,fun _ e=>nomatch e⟩
 | ref p =>
  cases r
  rcases ty with ⟨rfl,xs,hq⟩ | ⟨rfl,o,hk,hc,hd⟩ | ⟨rfl,hk⟩ | ⟨rfl,S,n,hk⟩
  ·obtain ⟨its,_,pl,_⟩:=I.list hq
   refine ⟨pl.isList.typeIs,fun a e=>?_⟩
   cases e
   obtain ⟨o,n,e,c,hd,_⟩:=pl
   exact ⟨o,e,hd⟩
  ·refine ⟨⟨o,I.kIn p o hk,hc⟩,fun a e=>?_⟩
   cases e
   exact ⟨o,I.kIn _ o hk,hd⟩
  ·have z:∃ o,s.heap.get? p=some o/\o.ExactDict:=by
    rcases hk with ⟨kvs,hk⟩ | ⟨kvs,hk⟩
    ·obtain ⟨_,_,_,_,o,_,_,e,ex,_⟩:=I.hok p _ hk
     exact ⟨o,e,ex⟩
    ·obtain ⟨_,_,_,_,o,_,_,e,ex,_⟩:=I.hok p _ hk
     exact ⟨o,e,ex⟩
   obtain ⟨o,e,ex⟩:=z
   refine ⟨⟨o,e,ex.1⟩,fun a e2=>?_⟩
   cases e2
   exact ⟨o,e,ex.2.1⟩
  ·obtain ⟨o,_,_,_,e,ex,_⟩:=I.hok p _ hk
   refine ⟨⟨o,e,ex.1⟩,fun a e2=>?_⟩
   cases e2
   exact ⟨o,e,ex.2.1⟩
 | _=>exact False.elim ty
def CQ5 (K:Frag)(T:String)(r:V->List V->Hp->VK->Prop)(to:TE):TE:=fun σ H Q=>to σ H fun x H1=>tyV K T x H1/\r x [] H1 Q
def tBM (K:Frag)(T:String)(r:V->List V->Hp->VK->Prop)(to:TE)(t:TA):TE:=fun σ H Q=>to σ H fun x H1=>tyV K T x H1/\t σ H1 fun xs H2=>r x xs H2 Q
variable {o e:Expr}{es:List Expr}{to:TE}{t:TA}{name:Str}{apos cpos:Pos}{T id:String}{r:V->List V->Hp->VK->Prop}
theorem CD5 (pa:PlainAttrs T)(slot:Slot T name id)(hty:typeOf (.builtin id)=pure (.type "method_descriptor"))(hm:MtR X id r)(ho:PE X o to)(hbase:attributeBase o name X.env (eval o X.env)=eval o X.env:=by rfl)(hline:(apos.endLine == cpos.line)=true:=by rfl):PE X (.Call (.Attribute o name apos) [] [] cpos) (CQ5 X.K T r to):=by
 intro pins s σ H Q I h
 refine wpAny_Call_method0_late hbase hline (thn (ho pins s σ H _ I h) fun v s1 ⟨x,H1,I1,r1,ty,q1⟩=>?_)
 obtain ⟨h1,h2⟩:=BP4 I1 r1 ty
 exact ⟨T,id,pa,slot,hty,h1,h2,Calls.callWith_builtin rfl (PySem.evalArgs_none (hm pins s1 σ H1 x [] v [] Q I1 r1 .nil q1))⟩
theorem jO (pa:PlainAttrs T)(slot:Slot T name id)(hty:typeOf (.builtin id)=pure (.type "method_descriptor"))(hm:MtR X id r)(ho:PE X o to)(ha:PA X (e::es) t)(hbase:attributeBase o name X.env (eval o X.env)=eval o X.env:=by rfl)(hfew:((backTo cpos (starEach (e::es) X.env)).all (fun x=>!x.1) && (backToKw cpos (keywordEach [] X.env)).all (fun x=>x.1.isSome)
   && decide ((e::es).length+([]:List Keyword).length+(if ([]:List Keyword).isEmpty then 0 else 1) < 30))=true:=by rfl)(hline:(apos.endLine == cpos.line)=true:=by rfl)(hs:starEach (e::es) X.env=(false,eval e X.env)::starEach es X.env:=by rfl)(hplain:(backTo cpos (starEach es X.env)).any (·.1)=false:=by rfl) :
  PE X (.Call (.Attribute o name apos) (e::es) [] cpos) (tBM X.K T r to t):=by
 intro pins s σ H Q I h
 refine wpAny_Call_method_late hbase hfew hline rfl (thn (ho pins s σ H _ I h) fun v s1 ⟨x,H1,I1,r1,ty,q1⟩=>?_)
 obtain ⟨h1,h2⟩:=BP4 I1 r1 ty
 refine ⟨T,id,pa,slot,hty,h1,h2,?_⟩
 have hA:=ha cpos pins s1 σ H1 _ I1 q1
 rw [hs] at hA ⊢
 refine Calls.callWith_builtin (by show (false || (backTo cpos (starEach es X.env)).any (·.1))=false; rw [hplain] <;> rfl) (Calls.evalArgs_plain ?_)
 exact thn hA fun us s2 ⟨vs,H2,I2,r2,q2⟩=>hm pins s2 σ H2 x vs v us Q I2 r1 r2 q2
/- xs.append(e),list.index on a module's tuple .. are MtR facts of 06m -/
end
def MtM (X:Cx)(id:String)(r:V->List V->Hp->VK->Prop):Prop :=
 ∀ (pins:List (Addr × Obj)) (s:Shared) (σ:St) (H:Hp) (x:V) (xs:List V) (v:Value) (us:List Value) (Q:VK),Inv X pins σ H s->RelV x v->Vals xs us->r x xs H Q ->
  wpAny (model X.prog X.w) X.A (call (.builtin id) (v::us)) (EP X pins σ Q) X.xe s
theorem Vals.one:∀ {x:V}{us:List Value},Vals [x] us->∃ u,us=[u]/\RelV x u
 | _,_,.cons r .nil=>⟨_,rfl,r⟩
theorem Vals.zero:∀ {us:List Value},Vals [] us->us=[]
 | _,.nil=>rfl
theorem Vals.dropLast {xs:List V}{us:List Value}(h:Vals xs us):Vals xs.dropLast us.dropLast:=by
 induction h with
 | nil=>exact .nil
 | cons r t ih =>
  cases t with
  | nil=>exact .nil
  | cons q t'=>exact .cons r ih
theorem AV3 {α:Type}(l:List α):l.eraseIdx (l.length - 1)=l.dropLast:=by
 induction l with
 | nil=>rfl
 | cons a r ih =>
  cases r with
  | nil=>rfl
  | cons b r =>
   have e:(a::b::r).length - 1=((b::r).length - 1)+1:=by
    have h1:(a::b::r).length=r.length+2:=rfl
    have h2:(b::r).length=r.length+1:=rfl
    omega
   rw [e,List.eraseIdx_cons_succ,ih]
   all_goals rfl
section
variable {X:Cx}{pins:List (Addr × Obj)}{σ:St}{H:Hp}{s:Shared}{l b:Addr}{xs ys zs:List V}
theorem Inv.lset {its its':List Value}{n:Nat}{f:Array Value->Array Value}{t':Nat}(I:Inv X pins σ H s)(hH:H l=some (.lst xs))(e:s.heap.get? l=some { cls:=.type "list",data:=.seq its.toArray n })(hf:f its.toArray=its'.toArray)(hv:Vals ys its')(hz:ys.length<=sizeLine) :
  Inv X pins σ (upd H l (.lst ys)) { s with heap:=s.heap.update l (Obj.mapSeq f),toks:=t' }:=by
 have q:=PySem.IsL.update e f
 rw [hf] at q
 refine I.write (x:=l) (e:=l) (by rw [hH]; exact trivial) (.inl rfl) (fun b' u hb hu=>(Heap.get?_update_other s.heap (Obj.mapSeq f) (Ne.symm hb)).trans hu) ⟨_,q⟩ ?_
 exact ⟨hz,its',_,hv,q⟩
theorem Inv.lnew {its:List Value}{t':Nat}(I:Inv X pins σ H s)(hv:Vals ys its)(hz:ys.length<=sizeLine) :
  Inv X pins σ (upd H s.heap.objs.size (.lst ys)) { s with heap:=s.heap.push { cls:=.type "list",data:=.seq its.toArray },toks:=t' } :=
 I.laid (fun _ _ q=>Heap.get?_push_of_some _ q) (Nat.le_refl _) ⟨hz,its,0,hv,Heap.get?_push_size _ rfl⟩
theorem Inv.fresh (I:Inv X pins σ H s):H s.heap.objs.size=none:=I.hok.fresh (Nat.le_refl _)
theorem Inv.lstM (I:Inv X pins σ H s)(hH:H l=some (.lst xs)):xs.length<=sizeLine/\∃ (its:List Value) (n:Nat),Vals xs its/\xs.length=its.length/\s.heap.get? l=some { cls:=.type "list",data:=.seq its.toArray n }:=by
 obtain ⟨z,its,n,r,e⟩:=I.hok l _ hH
 exact ⟨z,its,n,r,r.length,e⟩
end
section
variable {X:Cx}
def BT0:V->List V->Hp->VK->Prop:=fun x vs H Q=>∃ l xs y,x=.ref l/\vs=[y]/\H l=some (.lst xs)/\xs.length < sizeLine/\Q .non (upd H l (.lst (xs++[y])))
theorem fE:MtM X "list.append" BT0:=by
 intro pins s σ H x vs v us Q I rx rv h
 obtain ⟨l,xs,y,rfl,rfl,hH,hz,q⟩:=h
 cases rx
 obtain ⟨u,rfl,ru⟩:=rv.one
 obtain ⟨z,its,n,r,hl,e⟩:=I.lstM hH
 refine call_meets F.slot_list_append ⟨_,e,rfl⟩ F.entry_list_append (F.args_list_append_2 _ _) (PySem.list_append l its.toArray n u (by rw [List.size_toArray]; omega)) ⟨e,?_⟩
 refine ⟨.non,_,I.lset (its':=its++[u]) hH e (by simp) (r.append (.cons ru .nil)) ?_,rfl,q⟩
 rw [List.length_append,List.length_singleton]
 omega
def CQ6:V->List V->Hp->VK->Prop:=fun x vs H Q=>∃ l xs y,x=.ref l/\vs=[]/\H l=some (.lst xs)/\xs[xs.length - 1]?=some y/\Q y (upd H l (.lst xs.dropLast))
theorem CD6:MtM X "list.pop" CQ6:=by
 intro pins s σ H x vs v us Q I rx rv h
 obtain ⟨l,xs,y,rfl,rfl,hH,hy,q⟩:=h
 cases rx
 have hus:=rv.zero
 subst hus
 obtain ⟨z,its,n,r,hl,e⟩:=I.lstM hH
 obtain ⟨u,hu,ru⟩:=r.get hy
 have hy':its.toArray[its.toArray.size - 1]?=some u:=by
  show its.toArray[its.length - 1]?=some u
  rw [<- Array.getElem?_toList,<- hl]
  exact hu
 refine call_meets F.slot_list_pop ⟨_,e,rfl⟩ F.entry_list_pop (F.args_list_pop_1 _) (MeetsSeq.list_pop_last l its.toArray n u hy' (by rw [List.size_toArray]; omega)) ⟨e,?_⟩
 refine ⟨y,_,I.lset (its':=its.dropLast) hH e ?_ r.dropLast ?_,ru,q⟩
 ·show its.toArray.eraseIdxIfInBounds (its.toArray.size - 1)=its.dropLast.toArray
  rw [List.size_toArray,List.eraseIdxIfInBounds_toArray,AV3]
 ·rw [List.length_dropLast]
  omega
def CR7:R2:=fun x y H Q=>∃ l b xs zs,x=.ref l/\y=.ref b/\H l=some (.lst xs)/\H b=some (.lst zs)/\xs.length+zs.length<=sizeLine/\∀ p,H p=none->Q (.ref p) (upd H p (.lst (xs++zs)))
theorem AH3:OpR X (binaryOp .Add) CR7:=by
 intro pins s σ H x y v u Q I rx ry h
 obtain ⟨l,b,xs,zs,rfl,rfl,hH,hB,hz,q⟩:=h
 cases rx
 cases ry
 obtain ⟨z,its,n,r,hl,e⟩:=I.lstM hH
 obtain ⟨z2,its2,n2,r2,hl2,e2⟩:=I.lstM hB
 refine PySem.P.add_list e e2 ?_ (by rw [List.size_toArray,List.size_toArray]; omega)
 have ea:its.toArray++its2.toArray=(its++its2).toArray:=by simp
 rw [ea]
 exact ⟨.ref _,_,I.lnew (t':=s.toks) (r.append r2) (by rw [List.length_append]; omega),rfl,q _ I.fresh⟩
end
end L2
namespace Att
open PySem PySem.W PySem.Calls PyProof.Rows
theorem ints_of_wellAll {P:Params}{h:Heap}:∀ (ns:List Int) (vs:List Value),WellAll P h vs (ns.map WData.int)->IntsAre vs ns:=by
 intro ns
 induction ns with
 | nil =>
  intro vs w
  rw [List.map_nil] at w
  cases w
  exact .nil
 | cons n ns ih =>
  intro vs w
  rw [List.map_cons] at w
  cases w with
  | cons a b =>
   cases a
   exact .cons _ _ (ih _ b)
theorem script_of {l:OpenLaw}{n:Nat}(hn:l.most=some n){P:Params}{h:Heap}{args:List WData}{vals:List Value}(hpre:l.row.toRowW.claim.pre args=true)(hwl:WellAll P h vals args) :
  ∃ a vs ns,vals=[Value.ref a]/\args=[WData.list (ns.map WData.int)]/\h.get? a=some { cls:=.type "list",data:=.seq vs.toArray }/\IntsAre vs ns/\ns.length<=n:=by
 have hsh:WShape.hasAll [] args [.list .int]=true:=(pre_splitW hpre).1
 have hc:l.pre.holds [] { args:=args }=true:=(pre_splitW hpre).2
 obtain ⟨d,r,rfl,h1,h2⟩:=hasAllW_cons hsh
 obtain rfl:=hasAllW_nil h2
 obtain ⟨xs,rfl,h3⟩:=hasW_list h1
 obtain ⟨ns,rfl⟩:=items_int h3
 have hlen:ns.length<=n:=by
  unfold OpenLaw.pre at hc
  have h4:(WTm.not (.lt (.lit (.int (n:Int))) (.len (.arg 0)))).holds [] { args:=[.list (ns.map .int)] }=true:=by
   have h4:=(holds_andW hc).1
   rw [hn] at h4
   exact h4
  have h5:=condW_of h4 (w_not (w_lt w_lit (w_len_list (w_arg rfl))))
  rw [List.length_map] at h5
  refine Nat.le_of_not_lt fun q=>?_
  have q':(n:Int) < ((ns.length:Nat):Int):=by omega
  first
   | (rw [decide_eq_true q'] at h5; exact absurd h5 (by decide))
   | (simp at h5; omega)
 cases hwl with
 | cons w1 w2 =>
  cases w2
  cases w1 with
  | list ho hall=>exact ⟨_,_,ns,rfl,rfl,ho,ints_of_wellAll ns _ hall,hlen⟩
theorem post_true (l:OpenLaw)(args:List WData):l.row.toRowW.claim.post args (.bool true) args=true :=
 postW_of (r:=l.row.toRowW) (X:=(true == true))
  (show WShape.has [] (.bool true) .bool=true by first | rfl | decide | simp [WShape.has,WShape.arms,WShape.armsAll])
  (show (WTm.eq .res (.lit (.bool true))).value [] { args:=args,res:=some (.bool true),after:=args }=some (.bool (true == true)) from w_eq_bool (w_res rfl) w_lit) rfl
theorem attach_call {l:OpenLaw}{n:Nat}{q:Program}{loose:List Str}{XP:(Str->Option Value)->Heap->Prop}{YP:World->Heap->Prop}{d:DefRec}(hn:l.most=some n)(hdf:d.params.defaults=[])(call:∀ (w:World) (s₀ s₁:Shared) (mg mb:Str->Option Value) (fa:Addr) (o:Obj) (pm cd doc:Value) (a:Addr) (vs:List Value) (ns:List Int),
   Ground q loose [] XP w s₀ mg mb s₁.heap->YP w s₁.heap ->
   s₁.heap.get? fa=some o->o.data=.func (docDef d.name d.params d.body d.scope pm cd doc)->s₁.heap.CodeRec cd d.name->mg d.name=some (.ref fa) ->
   s₁.heap.get? a=some { cls:=.type "list",data:=.seq vs.toArray }->IntsAre vs ns->ns.length<=n->s₁.gens=#[] ->
   codeAny (model l.prog w) callerA (.call (.ref fa) ⟨[.ref a],[]⟩) (fun r s'=>r=.ok (.ret (.bool true))/\OldK s₁.heap s'.heap/\s'.os=s₁.os/\AllBare s'.gens) s₁) :
  WalkO q loose XP YP l.row.toRowW d [] (fun f vs=>PySem.call f vs):=by
 intro w s₀ s₁ mg mb G Y fa o pm cd doc dV kV ho hd hcd hD hmg hg args vals as hpre hlay hrd hwl hlo
 obtain rfl:dV=.none:=Dflts.none hD hdf
 obtain rfl:kV=.none:=Dflts.noKw hD
 obtain ⟨a,vs,ns,rfl,rfl,hobj,hints,hlen⟩:=script_of hn hpre hwl
 refine enter_call (codeAny_mono (call w s₀ s₁ mg mb fa o pm cd doc a vs ns G Y ho (fd_plain hd) hcd hmg hobj hints hlen hg) fun r s' hq=>?_)
 obtain ⟨rfl,h2,h3,h4⟩:=hq
 exact ⟨.inl ⟨.bool true,.bool true,[],rfl,fun _=>rfl,.bool true,post_true l _,fun _=>⟨List.Pairwise.nil,fun _ hm=>(nomatch hm)⟩⟩,h2,h3,h4⟩
end Att
namespace L2
open PySem PySem.Spec PyProof.Rows PySem.W
theorem AH4:∀ {vs:List Value}{ns:List Int},IntsAre vs ns->Vals (ns.map V.int) vs
 | _,_,.nil=>.nil
 | _,_,.cons n t h=>.cons ⟨t,rfl⟩ (AH4 h)
def CK8 (H:Hp):Prop:=∀ b,H b=none\/∃ o xs,H b=some (.frz o (.lst xs))
theorem BK2 {P:Program}{w:World}{K:Frag}{mg mb:Str->Option Value}{CX:CXT}{k:Nat}{fa a:Addr}{fd:FuncData}{x:Str}{sp:Sp}{s₁:Shared}{vs:List Value}{ns:List Int}(KX:K.In s₁.heap)(hns:s₁.heap.Ns mainGlobals mg)(hb:s₁.heap.Ns builtinsNs mb)(hbb:∀ x:Str,x≠"__name__"->mb x=bootBuiltins x)(hlim:s₁.heap.NoLimit)(hg:s₁.gens=#[])(ha:s₁.heap.get? a=some { cls:=.type "list",data:=.seq vs.toArray })(hi:IntsAre vs ns)(hl:ns.length<=sizeLine)(hr:Room k callerA)(F:∀ base:Heap,K.In base->base.Ns mainGlobals mg->FnOk P w K mg base CX k fa fd [x] sp)(hbind:∀ (s:Shared) (u:Value),BindsTo s fd ⟨[u],[]⟩ [(x,u)])(hsp:∀ H:Hp,CK8 H->SqL K H a (ns.map V.int)->sp [.ref a] H (fun v _=>v=.bl true) fun _ _ _=>False)(hCX:∀ H e s',CX [] H s₁ (fun _ _ _=>False) e s'->False) :
  codeAny (model P w) callerA (.call (.ref fa) ⟨[.ref a],[]⟩) (fun r s'=>r=.ok (.ret (.bool true))/\OldK s₁.heap s'.heap/\s'.os=s₁.os/\AllBare s'.gens) s₁:=by
 have rv:=AH4 hi
 have lenV:=hi.length
 -- from an abstract heap in which nothing but the script may be tracked
 have core:∀ H:Hp,CK8 H->SqL K H a (ns.map V.int)->HOk P w H s₁.heap->(∀ b,H b≠none->b=a)->(H a≠none->K.lookup a=none) ->
   codeAny (model P w) callerA (.call (.ref fa) ⟨[.ref a],[]⟩) (fun r s'=>r=.ok (.ret (.bool true))/\OldK s₁.heap s'.heap/\s'.os=s₁.os/\AllBare s'.gens) s₁:=by
  intro H hO hS hok hA hK
  have base_of:∀ {b:Addr}{o:Obj},s₁.heap.get? b=some o->H b=none->(BI8 s₁.heap H).get? b=some o:=fun e n=>BI9 e n
  have noA:∀ {b:Addr}{o:Obj}{es:Array DictEntry}{ep:Nat},s₁.heap.get? b=some o->o.data=.dict es ep->H b=none:=fun {b o es ep} e d=>by
   cases q:H b with
   | none=>rfl
   | some u =>
    have e':b=a:=hA b (by rw [q]; simp)
    subst e'
    rw [ha] at e; cases e
    have d':Data.seq vs.toArray _=Data.dict es ep:=d
    cases d'
  have nsK:∀ {b:Addr}{m:Str->Option Value},s₁.heap.Ns b m->(BI8 s₁.heap H).Ns b m:=fun {b m} ⟨o,es,ep,e,d,r⟩=>⟨o,es,ep,base_of e (noA e d),d,r⟩
  have hKb:K.In (BI8 s₁.heap H):=fun b o e=>base_of (KX b o e) (by
   cases q:H b with
   | none=>rfl
   | some u =>
    have e':b=a:=hA b (by rw [q]; simp)
    subst e'
    rw [hK (by rw [q]; simp)] at e; cases e)
  have hM:Mod K mg (BI8 s₁.heap H):=⟨hKb,nsK hns,⟨mb,nsK hb,hbb⟩,let ⟨mc,h1,h2⟩:=hlim; ⟨mc,nsK h1,h2⟩⟩
  have e0:Env0 P w K mg (BI8 s₁.heap H) callerA [] s₁ H:=⟨rfl,hM,fun b o e=>BS0 e,Nat.le_of_eq (AY8 _ _),trivial,fun b hb=>absurd (show b∈([]:List Addr) from hb) (by simp),hok,.of_eq hg⟩
  refine codeAny_mono ((F _ hKb (nsK hns)).run callerA [] s₁ H ⟨[.ref a],[]⟩ [.ref a] [.ref a] _ _ hr e0 (hbind s₁ (.ref a)) (.cons rfl .nil) (hsp H hO hS)) fun r s' h=>?_
  cases r with
  | error e=>exact (hCX H e s' h).elim
  | ok fl =>
   cases fl with
   | next=>exact False.elim h
   | brk=>exact False.elim h
   | cont=>exact False.elim h
   | ret u =>
    obtain ⟨v,H',os,bare,un,hok',r',q⟩:=h
    have q':v=.bl true:=q
    subst q'
    obtain rfl:u=Value.bool true:=r'
    refine ⟨rfl,OldK.of_keep fun b o e=>?_,os,bare⟩
    cases q:H b with
    | none=>exact un.keep b o e q (by intro z; exact absurd (show b∈([]:List Addr) from z) (by simp)) (by simp)
    | some u =>
     rcases hO b with z | ⟨ob,xs,z⟩
     ·rw [q] at z; cases z
     ·have z2:=un.frzs b ob _ z
      obtain ⟨e1,_⟩:=hok b _ z
      obtain ⟨e2,_⟩:=hok' b _ z2
      rw [e] at e1; cases e1
      exact e2
 cases hk:K.lookup a with
 | some o =>
  -- the script is one of the module's own objects
  have e:=KX a o hk
  rw [ha] at e
  cases e
  refine core (fun _=>none) (fun _=>.inl rfl) (.inr ⟨_,vs.toArray,_,hk,rfl,rfl,rfl,by rw [List.size_toArray,lenV]; exact hl,by simpa using rv⟩) (fun b u z=>by have z':(none:Option HO)=some u:=z; cases z') (fun b z=>absurd rfl z) fun z=>absurd rfl z
 | none =>
  refine core (fun b=>if b=a then some (.frz { cls:=.type "list",data:=.seq vs.toArray } (.lst (ns.map V.int))) else none) (fun b=>?_) (.inl (.inr ⟨{ cls:=.type "list",data:=.seq vs.toArray },if_pos rfl⟩)) (fun b u z=>?_) (fun b z=>?_) fun _=>hk
  ·by_cases hb:b=a
   ·exact .inr ⟨_,_,if_pos hb⟩
   ·exact .inl (if_neg hb)
  ·by_cases hb:b=a
   ·have z':=(if_pos hb).symm.trans z
    cases z'
    subst hb
    exact ⟨ha,by rw [List.length_map]; exact hl,vs,_,rv,ha⟩
   ·have z':=(if_neg hb).symm.trans z
    cases z'
  ·by_cases hb:b=a
   ·exact hb
   ·exact absurd (if_neg hb) z
theorem CK9 {l:OpenLaw}{n k:Nat}{q:Program}{loose:List Str}{XP:(Str->Option Value)->Heap->Prop}{YP:World->Heap->Prop}{d:DefRec}{K:Params->Frag}{CX:World->CXT}{sp:World->Sp}{x:Str}(hn:l.most=some n)(hn2:n<=sizeLine)(hdf:d.params.defaults=[])(hr:Room k callerA)(hY:∀ (w:World) (h:Heap),YP w h->(K w.params).In h)(F:∀ (w:World) (mg:Str->Option Value) (fa:Addr) (h:Heap),(K w.params).In h->h.Ns mainGlobals mg->mg d.name=some (.ref fa) ->
   ∃ fd:FuncData,(∀ (s:Shared) (u:Value),BindsTo s fd ⟨[u],[]⟩ [(x,u)]) /\
    ∀ base:Heap,(K w.params).In base->base.Ns mainGlobals mg->FnOk l.prog w (K w.params) mg base (CX w) k fa fd [x] (sp w))(hsp:∀ (w:World) (H:Hp) (a:Addr) (ns:List Int),ns.length<=n->CK8 H->SqL (K w.params) H a (ns.map V.int)->sp w [.ref a] H (fun v _=>v=.bl true) fun _ _ _=>False)(hCX:∀ (w:World) (H:Hp) (s:Shared) (e:Value) (s':Shared),CX w [] H s (fun _ _ _=>False) e s'->False) :
  WalkO q loose XP YP l.row.toRowW d [] (fun f vs=>PySem.call f vs):=by
 refine Att.attach_call hn hdf fun w s₀ s₁ mg mb fa o pm cd doc a vs ns G Y ho hd hcd hmg hobj hints hlen hg=>?_
 have KX:=hY w _ Y
 obtain ⟨fd,hb,hF⟩:=F w mg fa _ KX G.T.g hmg
 exact BK2 KX G.T.g G.T.b G.T.builtins G.T.nolimit hg hobj hints (Nat.le_trans hlen hn2) hr hF hb (fun H hO hS=>hsp w H a ns hlen hO hS) fun H e s'=>hCX w H s₁ e s'
def aI (s:Stmt)(j:Nat):Stmt:=match s with
 | .ClassDef _ _ _ body _ _ _ _ _ _ _=>body.getD j (.Pass ⟨0,0,0,0⟩)
 | _=>.Pass ⟨0,0,0,0⟩
def cW (s:Stmt):Arguments:=match s with
 | .FunctionDef _ a _ _ _ _ _ _ _ _=>a
 | _=>{ posonlyargs:=[],args:=[],vararg:=none,kwonlyargs:=[],kw_defaults:=[],kwarg:=none,defaults:=[] }
def cB (s:Stmt):List Stmt:=match s with
 | .FunctionDef _ _ b _ _ _ _ _ _ _=>b
 | _=>[]
def aE (s:Stmt):Scope:=match s with
 | .FunctionDef _ _ _ _ _ _ sc _ _ _=>sc
 | _=>{ kind:=.function,names:=[],isGenerator:=false,isCoroutine:=false }
abbrev CX0:CXT:=fun _ _ _ _ _ _=>False
abbrev E0:XK:=fun _ _ _=>False
structure Fun (K:Frag) (x qual:Str) (st:Stmt) (f:Addr) (fd:FuncData):Prop where
 ex:∃ (oc:Value) (od:Option Addr) (kV doc pm:Value) (an:Option Addr) (cdv ct:Value) (osl:Array (Option Value)),
  fd=fnOf x qual (cW st) (cB st) (aE st) .none kV doc pm an cdv ct/\K.lookup f=some ⟨oc,od,.func fd,osl⟩/\codeIn K cdv qual=true
 kp:keepIn K (.ref f)=true
section
variable {P:Program}{w:World}{K:Frag}{mg:Str->Option Value}{base:Heap}
theorem Fun.ok {x qual:Str}{st:Stmt}{f:Addr}{fd:FuncData}{N ps:List Str}{k:Nat}{sp:Sp}(F:Fun K x qual st f fd)(S:FnScope N ps (aE st))(len:∀ vs H Q E,sp vs H Q E->vs.length=ps.length)(hbody:∀ (cdv:Value) (A:Around) (outer:List Env) (s:Shared) (H:Hp) (vs:List V) (Q:VK) (E:XK),Room k (A.deeper (envOfC qual (aE st) s.heap.objs.size f cdv))->sp vs H Q E ->
   ∃ t,PSs (AG0 CX0 P w K mg base N qual (aE st) f cdv A outer s H E).nox (cB st) t/\t { nx:=fun _ H'=>Q .non H',rt:=Q } (start N vs) H):FnOk P w K mg base CX0 (k+1) f fd ps sp:=by
 obtain ⟨oc,od,kV,doc,pm,an,cdv,ct,osl,rfl,lk,hcd⟩:=F.ex
 refine BA0 lk hcd S len fun A outer s H vs Q E hr hsp=>?_
 obtain ⟨t,h,q⟩:=hbody cdv A outer s H vs Q E hr hsp
 exact ⟨t,h.nox,q⟩
theorem Fun.binds {x qual:Str}{st:Stmt}{f:Addr}{fd:FuncData}{ps:List Str}(F:Fun K x qual st f fd)(h:∀ (kV doc pm:Value) (an:Option Addr) (cdv ct:Value) (us:List Value),us.length=ps.length->bindArgs (fnOf x qual (cW st) (cB st) (aE st) .none kV doc pm an cdv ct) ⟨us,[]⟩=pure (ps.zip us)):Binds K fd ps []:=by
 obtain ⟨oc,od,kV,doc,pm,an,cdv,ct,osl,rfl,lk,hcd⟩:=F.ex
 exact .all (h kV doc pm an cdv ct)
theorem BP5 {x qual:Str}{st:Stmt}{f:Addr}{oc:Value}{od an:Option Addr}{osl:Array (Option Value)}{kV doc pm cdv ct:Value}(l:K.lookup f=some ⟨oc,od,.func (fnOf x qual (cW st) (cB st) (aE st) .none kV doc pm an cdv ct),osl⟩)(c:codeIn K cdv qual=true)(k:keepIn K (.ref f)=true):Fun K x qual st f (fnOf x qual (cW st) (cB st) (aE st) .none kV doc pm an cdv ct):=⟨⟨oc,od,kV,doc,pm,an,cdv,ct,osl,rfl,l,c⟩,k⟩
end
theorem BA4 {n:Nat}(h:n<=1000):n < sizeLine:=Nat.lt_of_le_of_lt h (by decide)
section
variable {X:Cx}
theorem pv (i:Nat){x:Str}{pos:Pos}(hN:X.N[i]?=some x:=by rfl)(hv:Vis X.env.scope x:=by first | exact Or.inl rfl | exact Or.inr (Or.inl rfl) | exact Or.inr (Or.inr rfl))(hd:(x == ("__debug__":Str))=false:=by decide)(hcd:(x == ("__classdict__":Str))=false:=by decide):PE X (.Name x pos) (CJ7 i):=BO6 hN hv hd hcd
end
def Same (H H':Hp):Prop:=∀ b o,H b=some o->H' b=some o
theorem Same.trans {H H1 H2:Hp}(a:Same H H1)(b:Same H1 H2):Same H H2:=fun c o h=>b c o (a c o h)
theorem Same.free {H H':Hp}(e:Same H H'){l:Addr}(h:H' l=Option.none):H l=Option.none:=by
 cases q:H l with
 | none=>rfl
 | some o =>
  rw [e l o q] at h
  cases h
theorem Same.seq {K:Frag}{H H':Hp}{a:Addr}{xs:List V}(e:Same H H')(h:SqL K H a xs):SqL K H' a xs:=by
 rcases h with (h | ⟨o,h⟩) | h
 ·exact .inl (.inl (e _ _ h))
 ·exact .inl (.inr ⟨o,e _ _ h⟩)
 ·exact .inr h
end L2
namespace Bw
open PySem PySem.Spec PyProof.Rows L2 PySem.W
section
variable {X:Cx}
def CL0 (i j:Int):Prop:=0 < j/\j < 2 ^ 62
theorem qI:OpR X (binaryOp .FloorDiv) (rI CL0 fun i j=>.int (i / j)):=opI fun i j _ _ _ _ _ hc q=>by
 have h1:(0:Int) < j:=hc.1
 have h2:j < 2 ^ 62:=hc.2
 refine floordiv_int (by omega) (by rw [Int.fdiv_eq_ediv_of_nonneg i (by omega)]; exact q) (.inl (PyProof.noPylong_of_log2 ?_))
 have h0:j.natAbs≠0:=by omega
 have:j.natAbs.log2 < 62:=(Nat.log2_lt h0).mpr (by omega)
 omega
def BP6:V->Bool
 | .int _=>true
 | .bl _=>true
 | _=>false
def BA5:V->Bool
 | .bl _=>true
 | _=>false
theorem BT1 {pins:List (Addr × Obj)}{σ:L2.St}{H:Hp}{s:Shared}{x:V}{c T:String}{b:Bool}{us:List Value}{Q:VK}(I:Inv X pins σ H s)(r:Vals [x,.ty c] us)(ty:TyOf X.K H x (.type T))(e:kitOne X.K (.type T) (.type c)=some b)(q:Q (.bl b) H) :
  wpAny (model X.prog X.w) X.A (call (.builtin "isinstance") us) (EP X pins σ Q) X.xe s:=by
 obtain ⟨u,w',rfl,rx,rc⟩:=BJ6 r
 cases (show w'=Value.type c from rc)
 exact wD I rx ty e fun tk=>⟨.bl b,H,I.tok _,rfl,q⟩
end
theorem aH {H:Hp}{p:Addr}(h:H p=none)(o:HO):Same H (upd H p o):=fun b u q=>by rw [aG (aQ q h)]; exact q
def But (w:Addr)(H H':Hp):Prop:=∀ b o,b≠w->H b=some o->H' b=some o
theorem But.refl (w:Addr)(H:Hp):But w H H:=fun _ _ _ h=>h
theorem But.trans {w:Addr}{H H1 H2:Hp}(a:But w H H1)(b:But w H1 H2):But w H H2:=fun c o n h=>b c o n (a c o n h)
theorem But.upd {w:Addr}{H:Hp}(o:HO):But w H (upd H w o):=fun b u n h=>by rw [aG n]; exact h
theorem Same.but {w:Addr}{H H':Hp}(h:Same H H'):But w H H':=fun b o _ e=>h b o e
theorem CD7 {ns:List Int}{i:Int}(h0:0<=i)(h:i < ns.length):∃ z∈ns,atI (ns.map V.int) i=some (.int z):=by
 have hk:i.toNat < ns.length:=by omega
 have ek:i=((i.toNat:Nat):Int):=by omega
 refine ⟨ns[i.toNat],List.getElem_mem hk,?_⟩
 have q:atI (ns.map V.int) ((i.toNat:Nat):Int)=some (.int ns[i.toNat]):=wF (by rw [List.getElem?_map,List.getElem?_eq_getElem hk] <;> rfl)
 rwa [<- ek] at q
theorem CD8 {ns:List Int}{i:Nat}{x:V}(h:(ns.map V.int)[i]?=some x):∃ c,x=.int c:=by
 rw [List.getElem?_map] at h
 cases e:ns[i]? with
 | none=>rw [e] at h; cases h
 | some c=>rw [e] at h; exact ⟨c,(Option.some.inj h).symm⟩
theorem sz8 {n:Nat}(h:n<=1000):n<=sizeLine:=Nat.le_of_lt (BA4 h)
section
variable {K:Frag}{ta tb tc te:TE}{tA tB':TT}{t u:TS}{tr:TA}{D:Ends}{σ:L2.St}{H:Hp}{Q:VK}{QB:Bool->Hp->Prop}{QA:List V->Hp->Prop}{v x y z:V}{i j:Nat}{g:TG}{QS:L2.St->Hp->Prop}
theorem BK3:CJ9 t u D σ H=t { D with nx:=u D } σ H:=rfl
theorem BA6:BS1 D σ H=D.nx σ H:=rfl
theorem BT2:CK0 tA t u D σ H=tA σ H (fun b H1=>if b=true then t D σ H1 else u D σ H1):=rfl
theorem BT3:CI9 te D σ H=te σ H D.rt:=rfl
theorem BA7:CC5 D σ H=D.rt .non H:=rfl
theorem BA8:CC3 te D σ H=te σ H (fun _ H1=>D.nx σ H1):=rfl
theorem BK4:CA8 te g D σ H=te σ H (fun x H1=>g x σ H1 D.nx):=rfl
theorem AA1:AU9 i v σ H QS=QS (σ.set i (some v)) H:=rfl
theorem BA9 {ts:CJ0}:CP7 ta tb ts v σ H QS=ta σ H (fun o H1=>tb σ H1 (fun i H2=>ts o i v H2 (fun H3=>QS σ H3))):=rfl
theorem BK5:CJ7 i σ H Q=isV σ[i]? (fun v=>Q v H):=rfl
theorem CJ2 {k:V->Prop}{v:V}:isV (some (some v)) k=k v:=rfl
theorem CD9 {k:Bool->Prop}{c:Bool}:isB (.bl c) k=k c:=rfl
theorem CA9 {k:Int->Prop}{c:Int}:isI (.int c) k=k c:=rfl
theorem CL1 {k:Addr->Prop}{c:Addr}:isR (.ref c) k=k c:=rfl
theorem CL2 {k:V->List V->Prop}{v:V}{r:List V}:isC (v::r) k=k v r:=rfl
theorem CL3 {p:Prop}:isN [] p=p:=rfl
theorem CL4 {k:Str->Prop}{c:Str}:isT (.str c) k=k c:=rfl
theorem w_c:tC v σ H Q=Q v H:=rfl
theorem CJ3 {r:R2}:tOp r ta tb σ H Q=ta σ H (fun x H1=>tb σ H1 (fun y H2=>r x y H2 Q)):=rfl
theorem CL5 {r:V->Hp->VK->Prop}:tUn r ta σ H Q=ta σ H (fun x H1=>r x H1 Q):=rfl
theorem CL6 {f:Int->V}:rU f x H Q=isI x (fun i=>Q (f i) H):=rfl
theorem BK6 {f:Int->Int->V}:rI0 f x y H Q=isI x (fun i=>isI y fun j=>Q (f i j) H):=rfl
theorem CL7 {C:Int->Int->Prop}{f:Int->Int->V}:rI C f x y H Q=isI x (fun i=>isI y fun j=>C i j/\Q (f i j) H):=rfl
theorem BB0:CC9 te σ H QB=te σ H (fun x H'=>isB x fun k=>QB k H'):=rfl
theorem w_b:L2.tB te σ H QB=te σ H (fun x H1=>isB x fun c=>QB c H1):=rfl
theorem BT4:CP2 tA tB' σ H QB=tA σ H (fun c H1=>if c=true then tB' σ H1 QB else QB false H1):=rfl
theorem CL8:tOr tA tB' σ H QB=tA σ H (fun c H1=>if c=true then QB true H1 else tB' σ H1 QB):=rfl
theorem w_not:CP3 tA σ H QB=tA σ H (fun c H1=>QB (!c) H1):=rfl
theorem BB1:CC1 ta tb σ H Q=ta σ H (fun x H1=>isB x fun c=>if c=true then tb σ H1 Q else Q (.bl false) H1):=rfl
theorem BT5:CP4 ta tb σ H Q=ta σ H (fun x H1=>isB x fun c=>if c=true then Q (.bl true) H1 else tb σ H1 Q):=rfl
theorem BB2:CC2 ta σ H Q=ta σ H (fun x H1=>isB x fun c=>Q (.bl (!c)) H1):=rfl
theorem CL9:tIf tA ta tb σ H Q=tA σ H (fun c H1=>if c=true then ta σ H1 Q else tb σ H1 Q):=rfl
theorem AR8:BJ9 ta tr σ H QA=ta σ H (fun x H1=>tr σ H1 (fun xs H2=>QA (x::xs) H2)):=rfl
theorem BK7:CD0 σ H QA=QA [] H:=rfl
theorem BT6:CQ2 tr σ H Q=tr σ H (fun xs H1=>xs.length<=sizeLine/\∀ p,H1 p=none->Q (.ref p) (L2.upd H1 p (.tup xs))):=rfl
theorem BT7:CK6 tr σ H Q=tr σ H (fun xs H1=>xs.length<=sizeLine/\∀ p,H1 p=none->Q (.ref p) (L2.upd H1 p (.lst xs))):=rfl
theorem AR9 {sp:Sp}{dvs:List V}{E:XK}:AL7 sp dvs E tr σ H Q=tr σ H (fun vs H1=>sp (vs++dvs) H1 Q E):=rfl
theorem CM0 {r:List V->Hp->VK->Prop}:tCB r tr σ H Q=tr σ H (fun vs H1=>r vs H1 Q):=rfl
theorem CM1:rEq x y H Q=(BJ5 x y=true/\Q (.bl (decide (x=y))) H):=rfl
theorem CM2:rNe x y H Q=(BJ5 x y=true/\Q (.bl (!decide (x=y))) H):=rfl
theorem CM3 {a b:Int}:BJ5 (.int a) (.int b)=true:=rfl
theorem CM4 {a b:Bool}:BJ5 (.bl a) (.bl b)=true:=rfl
theorem CM5 {a b:Str}:BJ5 (.str a) (.str b)=true:=rfl
theorem CM6 {a:Int}:BJ5 (.int a) .non=true:=rfl
theorem CM7 {a:Bool}:BJ5 (.bl a) .non=true:=rfl
theorem BT8:CP1 ta σ H Q=ta σ H (fun x H1=>Q (.bl (decide (x=.non))) H1):=rfl
theorem BB3:CC0 ta σ H Q=ta σ H (fun x H1=>Q (.bl (!decide (x=.non))) H1):=rfl
theorem CM8 {r:V->Option Int->Option Int->Hp->VK->Prop}{tl th:TO}:tSl r te tl th σ H Q=te σ H (fun x H1=>tl σ H1 (fun l H2=>th σ H2 (fun u H3=>r x l u H3 Q))):=rfl
theorem BB4 {QO:Option Int->Hp->Prop}:CD2 te σ H QO=te σ H (fun x H1=>isI x fun i=>QO (some i) H1):=rfl
theorem AA2 {QO:Option Int->Hp->Prop}:BA1 σ H QO=QO none H:=rfl
theorem w_K {CX:CXT}{P:Program}{w:World}{mg:Str->Option Value}{base:Heap}{N:List Str}{qual:Str}{sc:Scope}{f:Addr}{cd:Value}{A:Around}{outer:List Env}{s:Shared}{H:Hp}{E:XK}:(AG0 CX P w K mg base N qual sc f cd A outer s H E).K=K:=rfl
def ForL (K:Frag)(a:Addr)(g:TG)(tb:TS)(D:Ends)(σ:L2.St)(H:Hp):Prop:=∃ W:Nat->Nat->L2.St->Hp->Prop,(∃ m,W 0 m σ H)/\∀ i m σ H,W i m σ H ->
 ((Itl K a).stop i H/\D.nx σ H)\/((Itl K a).go i H/\∃ N:L2.St->Hp->Prop,(∀ σ' H',N σ' H'->∃ m',m' < m/\W (i+1) m' σ' H')/\∀ x H',(Itl K a).yld i H x H'->g x σ H' fun σ2 H2=>tb { D with nx:=N,ct:=N,bk:=D.nx } σ2 H2)
theorem BB5:CC8 (BS3 K ta) g t D σ H=ta σ H (fun x H1=>isR x fun a=>(∃ xs,SqL K H1 a xs)/\ForL K a g t D σ H1):=rfl
theorem ForL.by {a:Addr}{xs:List V}(Pv:Nat->L2.St->Hp->Prop)(h0:Pv 0 σ H)(hl:∀ i σ H,i<=xs.length->Pv i σ H->SqL K H a xs)(hs:∀ i x σ H,xs[i]?=some x->Pv i σ H->g x σ H fun σ2 H2=>t { D with nx:=Pv (i+1),ct:=Pv (i+1),bk:=D.nx } σ2 H2)(hd:∀ σ H,Pv xs.length σ H->D.nx σ H):ForL K a g t D σ H:=BJ4 Pv h0 hl hs hd
theorem whl (Pv:L2.St->Hp->Prop)(μ:L2.St->Hp->Nat)(h0:Pv σ H)(hs:∀ σ H,Pv σ H->tA σ H fun b H1=>if b=true then ∃ N:L2.St->Hp->Prop,(∀ σ' H',N σ' H'->∃ m',m' < μ σ H/\(m'=μ σ' H'/\Pv σ' H'))/\t { D with nx:=N,ct:=N,bk:=D.nx } σ H1 else D.nx σ H1):BP0 tA t D σ H:=by
 refine ⟨fun m σ H=>m=μ σ H/\Pv σ H,⟨_,rfl,h0⟩,?_⟩
 rintro m σ H ⟨rfl,p⟩
 exact hs σ H p
theorem ixl {p:Addr}{xs:List V}{k:Int}(hS:SqL K H p xs)(hv:atI xs k=some v)(q:Q v H):CQ3 K (.ref p) (.int k) H Q:=⟨p,xs,k,v,rfl,rfl,hS,hv,q⟩
theorem ixt {p:Addr}{xs:List V}{k:Int}(hS:SqT K H p xs)(hv:atI xs k=some v)(q:Q v H):CK7 K (.ref p) (.int k) H Q:=⟨p,xs,k,v,rfl,rfl,hS,hv,q⟩
theorem CJ4 {p:Addr}{xs:List V}{k:Int}{QH:Hp->Prop}(h:H p=some (.lst xs))(hj:ixN xs.length k=some j)(q:QH (L2.upd H p (.lst (xs.set j v)))):CD3 (.ref p) (.int k) v H QH:=⟨p,xs,k,j,rfl,rfl,h,hj,q⟩
end
end Bw
set_option maxHeartbeats 1000000
namespace Bw
open PySem PySem.Spec PyProof.Rows L2 PySem.W
def C2 (o o':Obj):Prop:=∀ vs,o.data=.fields vs->∃ vs',o'.data=.fields vs'/\vs'[2]?=vs[2]?
theorem C2.refl (o:Obj):C2 o o:=fun vs e=>⟨vs,e,rfl⟩
theorem C2.trans {a b c:Obj}(x:C2 a b)(y:C2 b c):C2 a c:=fun vs e=>by
 obtain ⟨v1,e1,q1⟩:=x vs e
 obtain ⟨v2,e2,q2⟩:=y v1 e1
 exact ⟨v2,e2,q2.trans q1⟩
def BT9 (f:Obj->Obj):Prop:=∀ o,(f o).dict=o.dict/\((f o).isFreed=o.isFreed)/\C2 o (f o)
def DK (h h':Heap):Prop:=∀ b o,h.get? b=some o->∃ o',h'.get? b=some o'/\o'.dict=o.dict/\C2 o o'
theorem DK.refl (h:Heap):DK h h:=fun _ o e=>⟨o,e,rfl,C2.refl o⟩
theorem DK.trans {h1 h2 h3:Heap}(a:DK h1 h2)(b:DK h2 h3):DK h1 h3:=fun c o e=>by
 obtain ⟨o1,e1,d1,c1⟩:=a c o e
 obtain ⟨o2,e2,d2,c2⟩:=b c o1 e1
 exact ⟨o2,e2,d2.trans d1,c1.trans c2⟩
def KD {α:Type}:Sem α->Prop
 | .pure _=>True
 | .raise _=>True
 | .unsupported _=>True
 | .finish _=>True
 | .rule _ k=>KD (k ())
 | .at _ k=>KD (k ())
 | .load _ _ k=>∀ o,KD (k o)
 | .update _ _ f k=>BT9 f/\KD (k ())
 | .alloc _ k=>∀ b,KD (k b)
 | .loadIfAlive _ k=>∀ o,KD (k o)
 | .point _ k=>KD (k ())
 | .register _ _=>True
 | .fresh k=>∀ t,KD (k t)
 | .ask k=>∀ x,KD (k x)
 | .choose _ _ k=>∀ n,KD (k n)
 | .os _ _ k=>∀ x,KD (k x)
 | .call _ _ _ _ _=>False
 | .handled _ k=>∀ x,KD (k x)
 | .newGen _ k=>∀ n,KD (k n)
 | .genState _ k=>∀ x,KD (k x)
 | .resume _ _ _ _=>False
 | .yield _ _ _ _=>True
 | .stack k=>∀ x,KD (k x)
 | .fork _ _=>True
 | .thread k=>∀ n,KD (k n)
 | .await _ _ _ _ _=>True
theorem KD.bind {α β:Type}{t:Sem α}{f:α->Sem β}(h:KD t)(k:∀ x,KD (f x)):KD (t >>= f):=by
 show KD (t.bind f)
 induction t with
 | pure x=>exact k x
 | raise _ | unsupported _ | finish _=>trivial
 | rule _ _ ih | «at» _ _ ih | point _ _ ih=>exact ih _ h
 | load _ _ _ ih | alloc _ _ ih | loadIfAlive _ _ ih | fresh _ ih | ask _ ih | choose _ _ _ ih | os _ _ _ ih | handled _ _ ih | newGen _ _ ih | genState _ _ ih | stack _ ih | thread _ ih=>exact fun x=>ih x (h x)
 | update _ _ _ _ ih=>exact ⟨h.1,ih _ h.2⟩
 | register _ _ _ | yield _ _ _ _ _ | fork _ _ _ | await _ _ _ _ _ _=>trivial
 | call _ _ _ _ _ _ | resume _ _ _ _ _=>exact h.elim
theorem BB7 {h:Heap}{a:Addr}{f:Obj->Obj}(s:BT9 f):DK h (h.update a f):=fun b o e=>by
 by_cases c:b=a
 ·subst c
  refine ⟨f o,Heap.get?_update_self f e ?_,(s o).1,(s o).2.2⟩
  rw [(s o).2.1]
  unfold Heap.get? at e
  split at e
  ·cases e
  ·rename_i hn
   obtain ⟨cl,dd,da,sl⟩:=o
   cases da with
   | freed=>exact absurd e (fun z=>hn _ _ _ z)
   | _=>rfl
 ·exact ⟨o,by rw [Heap.get?_update_other _ _ (fun z=>c z.symm)]; exact e,rfl,C2.refl o⟩
theorem BU0 {h:Heap}{o:Obj}:DK h (h.push o):=fun b q e=>⟨q,Heap.get?_push_of_some _ e,rfl,C2.refl q⟩
theorem CM9 {M:Model}{Γ:PySem.Ctx}{α:Type}{t:Sem α}{Q:α->Pos->Shared->Prop}{E:Value->Pos->Shared->Prop}(k:KD t):∀ {h0:Heap}{p:Pos}{s:Shared},DK h0 s.heap->Sem.wp M Γ t Q E p s ->
  Sem.wp M Γ t (fun x p' s'=>Q x p' s'/\DK h0 s'.heap) (fun v p' s'=>E v p' s'/\DK h0 s'.heap) p s:=by
 induction t with
 | pure x=>exact fun d w=>⟨w,d⟩
 | raise v=>exact fun d w=>⟨w,d⟩
 | unsupported _ | finish _ | register _ _ _ | yield _ _ _ _ _ | fork _ _ _ | await _ _ _ _ _ _=>exact fun _ w=>w
 | rule _ _ ih | «at» _ _ ih | point _ _ ih=>exact fun d w=>ih _ k d w
 | load _ _ _ ih=>exact fun d ⟨o,e,w⟩=>⟨o,e,ih _ (k o) d w⟩
 | alloc _ _ ih=>exact fun d w=>ih _ (k _) (d.trans BU0) w
 | loadIfAlive _ _ ih | fresh _ ih | ask _ ih | os _ _ _ ih | handled _ _ ih | newGen _ _ ih | stack _ ih | thread _ ih=>exact fun d w=>ih _ (k _) d w
 | choose _ _ _ ih=>exact fun d ⟨n,w⟩=>⟨n,ih _ (k _) d w⟩
 | genState _ _ ih=>exact fun d ⟨o,e,w⟩=>⟨o,e,ih _ (k _) d w⟩
 | update _ _ _ _ ih=>exact fun d ⟨e,w⟩=>⟨e,ih _ k.2 (d.trans (BB7 k.1)) w⟩
 | call _ _ _ _ _ _ | resume _ _ _ _ _=>exact k.elim
theorem qJ {M:Model}{A:Around}{α:Type}{t:Sem α}{Q:α->Shared->Prop}{E:Value->Shared->Prop}{s:Shared}(k:KD t)(h:wpAny M A t Q E s) :
  wpAny M A t (fun x s'=>Q x s'/\DK s.heap s'.heap) (fun v s'=>E v s'/\DK s.heap s'.heap) s:=fun Γ p hΓ=>CM9 k (DK.refl _) (h Γ p hΓ)
section
variable {M:Model}{A:Around}{E:Value->Shared->Prop}{env:Env}
variable {nm q:Str}{C N:Addr}{bs bm:List Value}{hdct:Bool}{sn:List Str}{sub:List Value}{ab:Bool}{col:Option Bool}{dd:Option Addr}{k0 k1 k2 k3 k5:Option Value}{newId:String}
theorem lF {s:Shared}{x:Sem Value}{Q:Flow->Shared->Prop}(hbase:bm.contains (.type "BaseException")=true)(hh:A.handled=none)(h:wpAny M A x (fun v s₁=>∃ e oe vs,v=.ref e/\s₁.heap.get? C=some (excClassObj nm q C N bs bm hdct sn sub ab col dd k0 k1 k2 k3 k5 newId) /\
   s₁.heap.get? e=some oe/\oe.cls=.ref C/\oe.data=.fields vs/\vs[1]?=some .none/\E (.ref e) s₁) E s) :
  wpAny M A (raiseStmt env (some x) none) Q E s:=by
 have hcB:(Value.ref C::bm).contains (.type "BaseException")=true:=by rw [List.contains_cons,hbase,Bool.or_true]
 unfold raiseStmt
 refine wpAny_bind (wpAny_mono h (fun v s₁ h₁=>?_) fun _ _ x=>x)
 obtain ⟨e,oe,vs,rfl,hC,he,hcl,hda,hv1,hE⟩:=h₁
 obtain ⟨hp,g,d,tk,os⟩:=s₁
 obtain ⟨oc,od,odt,osl⟩:=oe
 dsimp only at hcl hda
 subst hcl hda
 repeat (first | with_reducible refine wpAny_loadPart_at he ?_ | with_reducible refine wpAny_loadPart_at hC ?_ | (with_reducible refine wpAny_isSubtype_exc hC ?_; rw [hcB]) | wp_step)
 rw [hv1]
 repeat (first | wp_step)
 exact wpAny_raiseNew_none hh hE
end
theorem CE0 {f:Array Value->Array Value}(hf:∀ vs,(f vs)[2]?=vs[2]?):BT9 (Obj.mapFields f):=fun o=>by
 obtain ⟨oc,od,odt,osl⟩:=o
 cases odt with
 | fields vs=>exact ⟨rfl,rfl,fun ws e=>by cases e; exact ⟨_,rfl,hf _⟩⟩
 | _=>exact ⟨rfl,rfl,C2.refl _⟩
theorem AM1 {a:Addr}:KD (load a):=fun _=>trivial
theorem AM2 {v:Value}:KD (fieldsOf v):=by
 unfold fieldsOf
 split
 ·refine KD.bind AM1 fun o=>?_
  split <;> trivial
 ·trivial
theorem vP {v:Value}{i:Nat}:KD (field v i):=by
 unfold field
 refine KD.bind AM2 fun vs=>?_
 split <;> trivial
theorem lG {v x:Value}{i:Nat}(hi:i≠2:=by decide):KD (setField v i x):=by
 unfold setField
 split
 ·unfold updateField
  refine KD.bind AM1 fun o=>?_
  split
  ·split
   ·exact ⟨CE0 fun vs=>by rw [Array.getElem?_setIfInBounds_ne hi],trivial⟩
   ·trivial
  ·trivial
 ·trivial
theorem mW {v:Value}{f:Option Addr}:KD (setFlight v f):=by
 unfold setFlight
 refine KD.bind vP fun tb=>?_
 split
 ·exact lG (by decide)
 ·trivial
theorem BK8:KD underTheClaimsCaller:=by
 unfold underTheClaimsCaller
 first
  | exact KD.bind (fun _=>trivial) fun _=>trivial
  | (repeat (first | exact fun _=>trivial | trivial | refine KD.bind ?_ fun _=>?_ | split))
theorem BB8 {env:Env}{outer:List Env}:KD (behindIsImport env outer):=by
 unfold behindIsImport
 split
 ·trivial
 split
 ·trivial
 exact KD.bind vP fun _=>trivial
theorem AM3 {env:Env}{b:Bool}{outer:List Env}:KD (keptBack env b outer):=by
 unfold keptBack
 split
 ·split
  ·trivial
  ·exact KD.bind BK8 fun _=>trivial
 ·trivial
theorem AS0:∀ {l:List Env},KD (readyFrames l)
 | []=>trivial
 | env::outer=>by
  unfold readyFrames
  split
  ·refine KD.bind AM1 fun o=>?_
   split
   ·trivial
   ·refine KD.bind BB8 fun b=>KD.bind AM3 fun v=>KD.bind ⟨fun o=>?_,trivial⟩ fun _=>AS0
    refine ⟨rfl,?_,fun vs e=>⟨vs,e,rfl⟩⟩
    obtain ⟨oc,od,odt,osl⟩:=o
    cases odt <;> rfl
  ·trivial
theorem zD {env:Env}:KD (PySem.frameOf env):=by
 unfold PySem.frameOf
 refine KD.bind (show KD frameEnvs from KD.bind (t:=stack) (fun _=>trivial) fun _=>trivial) fun l=>KD.bind ?_ fun r=>?_
 ·unfold frameObject
  split
  ·trivial
  ·exact KD.bind AS0 fun _=>trivial
 ·split <;> trivial
theorem AS1 {f:Addr}{b:Bool}:KD (entryPlaceOf f b):=by
 unfold entryPlaceOf
 refine KD.bind (t:=stack) (fun _=>trivial) fun l=>?_
 split <;> trivial
theorem BU1 {n:String}{dt:Data}:KD (newObjAsIs (.type n) dt):=by
 unfold newObjAsIs
 refine KD.bind (t:=alloc _) (fun _=>trivial) fun _=>?_
 trivial
theorem AS2 {a b c d e:Value}{l:List Value}:KD (EntryCells.newEntry a b c d e l):=by
 unfold EntryCells.newEntry newFields newObj
 dsimp only
 generalize ([a,b,c,d,e]++if l.isEmpty=true then List.replicate 6 Value.none else l).toArray=z
 split
 ·trivial
 ·exact BU1
theorem BB9 {v:Value}{env:Env}:KD (noteFrame v env):=by
 unfold noteFrame
 split
 ·refine KD.bind vP fun hd=>?_
  dsimp only
  split
  ·refine KD.bind vP fun x=>?_
   split
   ·trivial
   ·exact KD.bind (lG (by decide)) fun _=>KD.bind zD fun _=>KD.bind AS1 fun _=>KD.bind AS2 fun _=>lG (by decide)
  ·exact KD.bind zD fun _=>KD.bind AS1 fun _=>KD.bind AS2 fun _=>lG (by decide)
 ·trivial
theorem zE {v:Value}{env:Env}:KD (leaving env v):=KD.bind BB9 fun _=>mW
abbrev vbm:List Value:=[.type "ValueError",.type "Exception",.type "BaseException",.type "object"]
theorem AS3 {P:Program}{w:World}{H:Hp}{h:Heap}{a:Addr}{o:HO}(x:ObjOk P w H h a o):∃ ob,h.get? a=some ob:=by
 cases o with
 | lst xs=>exact ⟨_,x.2.choose_spec.choose_spec.2⟩
 | tup xs=>exact let ⟨_,_,_,ob,e,_⟩:=x; ⟨ob,e⟩
 | dK kvs=>exact let ⟨_,_,_,_,ob,_,_,e,_⟩:=x; ⟨ob,e⟩
 | dT kvs=>exact let ⟨_,_,_,_,ob,_,_,e,_⟩:=x; ⟨ob,e⟩
 | set S n=>exact let ⟨ob,_,_,_,e,_⟩:=x; ⟨ob,e⟩
 | ins C dx fs=>exact let ⟨_,_,_,e,_⟩:=x; ⟨_,e⟩
 | own y=>exact x
 | xd fs=>exact let ⟨_,⟨ob,_,_,e,_⟩,_⟩:=x; ⟨ob,e⟩
 | rng lo hi=>exact let ⟨_,_,_,e⟩:=x; ⟨_,e⟩
 | frz ob u=>exact ⟨ob,x.1⟩
 | tbl ps=>exact ⟨_,show h.get? a=some _ from x⟩
 | met f y=>exact ⟨_,show h.get? a=some _ from x⟩
 | ext φ=>exact x.2.1
section
variable {M:Model}{A:Around}{E:Value->Shared->Prop}{s:Shared}
theorem AV4 {base:Heap}{env:Env}{outer:List Env}{L e:Addr}{cls a0:Value}{Q:Unit->Shared->Prop}(hfr:A.frames=some (env::outer))(hf:env.frame=some L)(hfl:Heap.FlyingW base (env::outer) e cls a0 s.heap)(hQ:∀ h',Heap.FlyingW base outer e cls a0 h'->s.heap.UpToSlots h'->DK s.heap h'->Q () { s with heap:=h' }):wpAny M A (leaving env (.ref e)) Q E s :=
 wpAny_mono (qJ zE (wpAny_leaves_onW (Q:=fun _ s'=>∃ h',s'={ s with heap:=h' }/\Heap.FlyingW base outer e cls a0 h'/\s.heap.UpToSlots h') (E:=E) hfr hf hfl fun h' a b=>⟨h',rfl,a,b⟩))
  (fun _ s' ⟨⟨h',e1,a,b⟩,dk⟩=>by subst e1; exact hQ h' a b dk) fun _ _ x=>x.1
theorem AH5 {base:Heap}{env:Env}{outer:List Env}{L e:Addr}{cls a0:Value}{Q:Unit->Shared->Prop}(hfr:A.frames=some (env::outer))(hf:env.frame=some L)(hfl:Heap.FlyingW base (env::outer) e cls a0 s.heap)(hQ:∀ h',Heap.HeldW base (env::outer) e cls a0 L h'->s.heap.UpToSlots h'->DK s.heap h'->Q () { s with heap:=h' }):wpAny M A (noteFrame (.ref e) env) Q E s :=
 wpAny_mono (qJ BB9 (wpAny_looks_onW (Q:=fun _ s'=>∃ h',s'={ s with heap:=h' }/\Heap.HeldW base (env::outer) e cls a0 L h'/\s.heap.UpToSlots h') (E:=E) hfr hf hfl fun h' a b=>⟨h',rfl,a,b⟩))
  (fun _ s' ⟨⟨h',e1,a,b⟩,dk⟩=>by subst e1; exact hQ h' a b dk) fun _ _ x=>x.1
theorem BP7 {base:Heap}{l:List Env}{e L:Addr}{cls a0:Value}{Q:Unit->Shared->Prop}(hh:Heap.HeldW base l e cls a0 L s.heap)(hQ:∀ h',Heap.FlyingW base l e cls a0 h'->s.heap.UpToSlots h'->DK s.heap h'->Q () { s with heap:=h' }):wpAny M A (setFlight (.ref e) none) Q E s :=
 wpAny_mono (qJ mW (wpAny_landsW (Q:=fun _ s'=>∃ h',s'={ s with heap:=h' }/\Heap.FlyingW base l e cls a0 h'/\s.heap.UpToSlots h') (E:=E) hh fun h' a b=>⟨h',rfl,a,b⟩))
  (fun _ s' ⟨⟨h',e1,a,b⟩,dk⟩=>by subst e1; exact hQ h' a b dk) fun _ _ x=>x.1
theorem uK {base:Heap}{l:List Env}{e:Addr}{cls a0:Value}{Q:Unit->Shared->Prop}(hh:Heap.FlyingW base l e cls a0 s.heap)(hQ:∀ h',Heap.FlyingW base l e cls a0 h'->s.heap.UpToSlots h'->DK s.heap h'->Q () { s with heap:=h' }):wpAny M A (setFlight (.ref e) none) Q E s :=
 wpAny_mono (qJ mW (lands_againW (Q:=fun _ s'=>∃ h',s'={ s with heap:=h' }/\Heap.FlyingW base l e cls a0 h'/\s.heap.UpToSlots h') (E:=E) hh fun h' a b=>⟨h',rfl,a,b⟩))
  (fun _ s' ⟨⟨h',e1,a,b⟩,dk⟩=>by subst e1; exact hQ h' a b dk) fun _ _ x=>x.1
theorem AA3 {base:Heap}{env:Env}{outer:List Env}{L e:Addr}{oe:Obj}{vs:Array Value}{a0:Value}{Q:Unit->Shared->Prop}(hfr:A.frames=some (env::outer))(hl:s.heap.FunFrames base (env::outer))(hf:env.frame=some L)(he:s.heap.get? e=some oe)(hkb:base.StaysIn s.heap)(hen:base.get? e=none)(hd:oe.data=.fields vs)(h1:vs[1]?=some .none)(h0:vs[0]?=some a0)(hQ:∀ h',Heap.FlyingW base outer e oe.cls a0 h'->s.heap.UpToSlots h'->DK s.heap h'->Q () { s with heap:=h' }):wpAny M A (leaving env (.ref e)) Q E s :=
 wpAny_mono (qJ zE (wpAny_leaving_firstW (Q:=fun _ s'=>∃ h',s'={ s with heap:=h' }/\Heap.FlyingW base outer e oe.cls a0 h'/\s.heap.UpToSlots h') (E:=E) hfr hl hf he hkb hen hd h1 h0
  fun h' hL=>let ⟨k1,⟨_,_,k2⟩,k3,k4⟩:=hL; ⟨h',rfl,⟨k1,hen,k2,k3⟩,k4⟩))
  (fun _ s' ⟨⟨h',e1,a,b⟩,dk⟩=>by subst e1; exact hQ h' a b dk) fun _ _ x=>x.1
end
def ChG (g:Nat)(h:Heap)(H:Hp)(vs:Array Value):Prop:=(g=0->vs[2]?=some .none)/\(g=1->vs[2]?=some .none\/∃ y oy ys,vs[2]?=some (.ref y)/\h.get? y=some oy/\H y=none/\oy.data=.fields ys/\ys[2]?=some .none)
theorem ChG.of0 {g:Nat}{h:Heap}{H:Hp}{vs:Array Value}(e:vs[2]?=some .none):ChG g h H vs:=⟨fun _=>e,fun _=>.inl e⟩
theorem ChG.kd {g:Nat}{h h':Heap}{H:Hp}{vs vs':Array Value}(q:ChG g h H vs)(dk:DK h h')(e:vs'[2]?=vs[2]?):ChG g h' H vs':=⟨fun z=>e.trans (q.1 z),fun z=>by
 rcases q.2 z with a | ⟨y,oy,ys,a,b,n,c,d⟩
 ·exact .inl (e.trans a)
 ·obtain ⟨oy',b',_,c'⟩:=dk y oy b
  obtain ⟨ys',d',e'⟩:=c' ys c
  exact .inr ⟨y,oy',ys',e.trans a,b',n,d',e'.trans d⟩⟩
def qD (P:Program)(w:World)(c:Nat):CXT:=fun outer H s E e s' =>
 ∃ (x:Addr) (cls a0:Value) (dx:Option Addr) (H':Hp) (B:Heap),e=.ref x/\s'.os=s.os/\AllBare s'.gens/\Un (frs outer) [] H H' s.heap s'.heap/\HOk P w H' s'.heap/\Heap.FlyingW B outer x cls a0 s'.heap /\
  (∀ b u,H' b=some u->∃ o,B.get? b=some o)/\(∀ b o,s.heap.get? b=some o->H b=none->b ∉ frs outer->B.get? b=some o)/\(∀ b o,s.heap.get? b=some o->b ∉ frs outer->∃ o',B.get? b=some o')/\(∃ oe,s'.heap.get? x=some oe/\oe.dict=dx/\(c < 2->∃ vs,oe.data=.fields vs/\ChG c s'.heap H' vs))/\E cls dx H'
abbrev CXF (P:Program)(w:World):CXT:=qD P w 0
theorem BC0 {P:Program}{w:World}{c:Nat}{outer:List Env}{H:Hp}{s s':Shared}{E:XK}{e:Value}(h:qD P w 0 outer H s E e s'):qD P w c outer H s E e s':=by
 obtain ⟨x,cls,a0,dx,H',B,rfl,os,bare,un,hok,fl,cT,cO,cA,⟨oe,hoe,hdx,hc⟩,hE⟩:=h
 exact ⟨x,cls,a0,dx,H',B,rfl,os,bare,un,hok,fl,cT,cO,cA,⟨oe,hoe,hdx,fun _=>by obtain ⟨vs,a,b⟩:=hc (by decide); exact ⟨vs,a,ChG.of0 (b.1 rfl)⟩⟩,hE⟩
theorem CB0 {P:Program}{w:World}{outer:List Env}{H H':Hp}{h0 g h2 B:Heap}(un:Un (frs outer) [] H H' h0 g)(hok:HOk P w H' g)(sg:B.StaysIn g)(fr:g.FunFrames B outer)(cT:∀ b u,H' b=some u->∃ o,B.get? b=some o)(cO:∀ b o,h0.get? b=some o->H b=none->b ∉ frs outer->B.get? b=some o)(cA:∀ b o,h0.get? b=some o->b ∉ frs outer->∃ o',B.get? b=some o')(sh:B.StaysIn h2)(up:g.UpToSlots h2):Un (frs outer) [] H H' h0 h2/\HOk P w H' h2:=by
 have nf:∀ b∈frs outer,∀ o,g.get? b=some o->∀ vs,o.data≠.fields vs:=fun b hb o ho vs hd=>by
  obtain ⟨_,o',ho',hn⟩:=fr.mem hb
  rw [ho] at ho'
  cases ho'
  exact hn vs hd
 refine ⟨⟨fun b o q n hb _=>sh b o (cO b o q n hb),fun b o q n hb hx=>?_,un.free,fun b o q hx=>?_,un.tups,un.frzs,un.tbls⟩,fun b u e=>?_⟩
 ·obtain ⟨sl,e1⟩:=un.slot b o q n hb hx
  obtain ⟨sl2,e2⟩:=up b _ e1 (nf b hb _ e1)
  exact ⟨sl2,e2⟩
 ·by_cases hb:b∈frs outer
  ·obtain ⟨o',e1⟩:=un.there b o q hx
   obtain ⟨sl2,e2⟩:=up b _ e1 (nf b hb _ e1)
   exact ⟨_,e2⟩
  ·obtain ⟨o',e1⟩:=cA b o q hb
   exact ⟨o',sh _ _ e1⟩
 ·refine (hok b u e).stay (fun c v hc r=>?_) (fun _ q=>q) fun _ _ q=>q
  have tr:∃ u',H' c=some u':=by
   rcases hc with rfl | hc
   ·exact ⟨_,e⟩
   ·exact ⟨_,hc⟩
  obtain ⟨u',hu⟩:=tr
  obtain ⟨o',e1⟩:=cT c u' hu
  have e2:=sg _ _ e1
  rw [r] at e2
  cases e2
  exact sh _ _ e1
section
variable {X:Cx}{pins:List (Addr × Obj)}{σ:L2.St}{H H':Hp}{s:Shared}{h2 B:Heap}
theorem BP8 (I:Inv X pins σ H s)(hex:X.ex=[])(un:Un (frs X.stack) [] H H' s.heap h2)(cO:∀ b o,s.heap.get? b=some o->H b=none->b ∉ frs X.stack->B.get? b=some o)(cA:∀ b o,s.heap.get? b=some o->b ∉ frs X.stack->∃ o',B.get? b=some o') :
  Un (frs X.outer) [] X.H₀ H' X.s₀.heap h2/\(∀ b o,X.s₀.heap.get? b=some o->X.H₀ b=none->b ∉ frs X.outer->B.get? b=some o)/\∀ b o,X.s₀.heap.get? b=some o->b ∉ frs X.outer->∃ o',B.get? b=some o':=by
 have nx:∀ b:Addr,b ∉ X.ex:=fun b z=>by rw [hex] at z; cases z
 have nl:∀ b o,X.s₀.heap.get? b=some o->b ∉ frs X.outer->b ∉ frs X.stack:=fun b o q hb z=>by
  rcases List.mem_cons.mp (I.stkSub b z) with e | e
  ·exact absurd (Nat.lt_of_lt_of_le (Heap.lt_size q) I.ok.above) (by rw [e]; exact Nat.lt_irrefl _)
  ·exact hb e
 have ne:∀ b:Addr,b ∉ ([]:List Addr):=fun b=>by simp
 refine ⟨⟨fun b o q n hb _=>?_,fun b o q n hb _=>?_,fun b o q n _=>?_,fun b o q _=>?_,fun b xs q=>un.tups b xs (I.base.tups b xs q),fun b o u q=>un.frzs b o u (I.base.frzs b o u q),fun b ps q=>?_⟩,fun b o q n hb=>?_,fun b o q hb=>?_⟩
 ·exact un.keep b o (I.base.keep b o q n hb (nx b)) (I.base.free b o q n (nx b)) (nl b o q hb) (ne b)
 ·obtain ⟨sl,e1⟩:=I.base.slot b o q n hb (nx b)
  obtain ⟨sl2,e2⟩:=un.any e1 (I.base.free b o q n (nx b)) (ne b)
  exact ⟨sl2,e2⟩
 ·obtain ⟨o',e1⟩:=I.base.there b o q (nx b)
  exact un.free b o' e1 (I.base.free b o q n (nx b)) (ne b)
 ·obtain ⟨o',e1⟩:=I.base.there b o q (nx b)
  exact un.there b o' e1 (ne b)
 ·obtain ⟨m1,e1⟩:=I.base.tbls b ps q
  obtain ⟨m2,e2⟩:=un.tbls b _ e1
  exact ⟨m1++m2,by rw [e2,Array.append_assoc]⟩
 ·exact cO b o (I.base.keep b o q n hb (nx b)) (I.base.free b o q n (nx b)) (nl b o q hb)
 ·obtain ⟨o',e1⟩:=I.base.there b o q (nx b)
  exact cA b o' e1 (nl b o q hb)
theorem oZ {c:Nat}{s':Shared}{e:Addr}{oe:Obj}{vs:Array Value}{a0:Value}{E:XK}{F:Value->Shared->Prop}(I:Inv X pins σ H s)(hst:X.stack=X.env::X.outer)(hf:X.env.frame=some X.env.locals)(hex:X.ex=[])(os:s'.os=s.os)(bare:AllBare s'.gens)(un:Un (frs X.stack) [] H H' s.heap s'.heap)(hok:HOk X.prog X.w H' s'.heap)(fe:s.heap.get? e=none)(nH:H' e=none)(he:s'.heap.get? e=some oe)(hd:oe.data=.fields vs)(h1:vs[1]?=some .none)(h0:vs[0]?=some a0)(hch:c < 2->ChG c s'.heap H' vs)(hE:E oe.cls oe.dict H') :
  wpAny (model X.prog X.w) X.A (leaving X.env (.ref e)) (fun _ s''=>qD X.prog X.w c X.outer X.H₀ X.s₀ E (.ref e) s'') F s':=by
 have I3:Inv X pins σ H' s':=I.call' (ch:=[]) os un hok bare (fun b z=>absurd z (by simp))
 have hin:∀ env∈X.stack,∀ a,env.frame=some a->a∈e::frs X.stack:=fun env he a ha=>List.mem_cons_of_mem _ (List.mem_filterMap.mpr ⟨env,he,ha⟩)
 have hl:s'.heap.FunFrames (hideAll s'.heap (e::frs X.stack)) X.stack:=funFrames_hide I3.stack hin
 have hkb:(hideAll s'.heap (e::frs X.stack)).StaysIn s'.heap:=fun b o q=>of_hideAll _ q
 have hen:(hideAll s'.heap (e::frs X.stack)).get? e=none:=hideAll_none _ (List.mem_cons_self ..)
 have nb:∀ b o,s.heap.get? b=some o->b≠e:=fun b o q z=>by rw [z,fe] at q; cases q
 refine AA3 (base:=hideAll s'.heap (e::frs X.stack)) (outer:=X.outer) (L:=X.env.locals) (by rw [<- hst]; exact I.ok.frames) (by rw [<- hst]; exact hl) hf he hkb hen hd h1 h0 fun h2 fl up dk=>?_
 have cT:∀ b u,H' b=some u->∃ o,(hideAll s'.heap (e::frs X.stack)).get? b=some o:=fun b u q=>by
  obtain ⟨o,ho⟩:=AS3 (hok b u q)
  refine ⟨o,hideAll_get _ ho fun z=>?_⟩
  rcases List.mem_cons.mp z with y | y
  ·rw [y,nH] at q; cases q
  ·rw [I3.stkFree b y] at q; cases q
 have cO:∀ b o,s.heap.get? b=some o->H b=none->b ∉ frs X.stack->(hideAll s'.heap (e::frs X.stack)).get? b=some o:=fun b o q n hb =>
  hideAll_get _ (un.keep b o q n hb (by simp)) fun z=>(List.mem_cons.mp z).elim (nb b o q) hb
 have cA:∀ b o,s.heap.get? b=some o->b ∉ frs X.stack->∃ o',(hideAll s'.heap (e::frs X.stack)).get? b=some o':=fun b o q hb=>by
  obtain ⟨o',q'⟩:=un.there b o q (by simp)
  exact ⟨o',hideAll_get _ q' fun z=>(List.mem_cons.mp z).elim (nb b o q) hb⟩
 obtain ⟨un1,hok1⟩:=CB0 (P:=X.prog) (w:=X.w) (H:=H) (H':=H') (h0:=s.heap) (g:=s'.heap) un hok hkb hl cT cO cA fl.1 up
 obtain ⟨un2,cO2,cA2⟩:=BP8 I hex un1 cO cA
 obtain ⟨oe',he',hd',c2⟩:=dk e oe he
 exact ⟨e,oe.cls,a0,oe.dict,H',_,rfl,os.trans I.os,bare,un2,hok1,fl,cT,cO2,cA2,⟨oe',he',hd',fun z=>by obtain ⟨vs',q1,q2⟩:=c2 vs hd; exact ⟨vs',q1,(hch z).kd dk q2⟩⟩,hE⟩
theorem AV5 {c:Nat}{h':Heap}{e:Addr}{cls:Value}{args:List Value}{E:XK}{F:Value->Shared->Prop}(I:Inv X pins σ H s)(hst:X.stack=X.env::X.outer)(hf:X.env.frame=some X.env.locals)(hex:X.ex=[])(hx:Heap.MadeExcOf s.heap h' e cls args)(hE:E cls none H) :
  wpAny (model X.prog X.w) X.A (leaving X.env (.ref e)) (fun _ s''=>qD X.prog X.w c X.outer X.H₀ X.s₀ E (.ref e) s'') F { s with heap:=h' }:=by
 obtain ⟨t,he,_,_⟩:=hx.there
 have nH:H e=none:=by
  cases z:H e with
  | none=>rfl
  | some u =>
   obtain ⟨o,ho⟩:=AS3 (I.hok e u z)
   rw [hx.new] at ho
   cases ho
 have hok:HOk X.prog X.w H h':=fun b u q=>(I.hok b u q).stay (fun c v _ r=>hx.keeps _ _ r) (fun _ q=>q) fun _ _ q=>q
 exact oZ (s':={ s with heap:=h' }) I hst hf hex rfl I.bare ⟨fun b o q _ _ _=>hx.keeps _ _ q,fun b o q _ _ _=>⟨o.slots,hx.keeps _ _ q⟩,fun _ _ _ n _=>n,fun b o q _=>⟨o,hx.keeps _ _ q⟩,fun _ _ q=>q,fun _ _ _ q=>q,fun b ps q=>⟨#[],by rw [Array.append_empty]; exact q⟩⟩ hok hx.new nH he rfl rfl rfl (fun _=>ChG.of0 rfl) hE
theorem sN {c:Nat}{s':Shared}{e:Value}{E:XK}{F:Value->Shared->Prop}(I:Inv X pins σ H s)(hst:X.stack=X.env::X.outer)(hf:X.env.frame=some X.env.locals)(hex:X.ex=[])(hx:qD X.prog X.w c X.stack H s E e s') :
  wpAny (model X.prog X.w) X.A (leaving X.env e) (fun _ s''=>qD X.prog X.w c X.outer X.H₀ X.s₀ E e s'') F s':=by
 obtain ⟨x,cls,a0,dx,H',B,rfl,os,bare,un,hok,fl,cT,cO,cA,⟨oe,hoe,hdx⟩,hE⟩:=hx
 have fl':=fl
 rw [hst] at fl'
 refine AV4 (base:=B) (outer:=X.outer) (by rw [<- hst]; exact I.ok.frames) hf fl' fun h2 fl2 up dk=>?_
 obtain ⟨un1,hok1⟩:=CB0 (P:=X.prog) (w:=X.w) un hok fl.1 fl.2.2.1 cT cO cA fl2.1 up
 obtain ⟨un2,cO2,cA2⟩:=BP8 I hex un1 cO cA
 obtain ⟨oe2,hoe2,hd2,c2⟩:=dk x oe hoe
 exact ⟨x,cls,a0,dx,H',B,rfl,os.trans I.os,bare,un2,hok1,fl2,cT,cO2,cA2,⟨oe2,hoe2,hd2.trans hdx.1,fun z=>by obtain ⟨vs,q1,q2⟩:=hdx.2 z; obtain ⟨vs',q3,q4⟩:=c2 vs q1; exact ⟨vs',q3,q2.kd dk q4⟩⟩,hE⟩
end
abbrev zF (c:Nat)(P:Program)(w:World)(K:Frag)(mg:Str->Option Value)(base:Heap)(N:List Str)(qual:Str)(sc:Scope)(f:Addr)(cdv:Value)(A:Around)(outer:List Env)(s:Shared)(H:Hp)(E:XK):Cx :=
 AG0 (qD P w c) P w K mg base N qual sc f cdv A outer s H E
abbrev cxX (P:Program)(w:World)(K:Frag)(mg:Str->Option Value)(base:Heap)(N:List Str)(qual:Str)(sc:Scope)(f:Addr)(cdv:Value)(A:Around)(outer:List Env)(s:Shared)(H:Hp)(E:XK):Cx :=
 AG0 (CXF P w) P w K mg base N qual sc f cdv A outer s H E
section
variable {P:Program}{w:World}{K:Frag}{mg:Str->Option Value}{base:Heap}{N:List Str}{qual:Str}{sc:Scope}{f:Addr}{cdv:Value}{A:Around}{outer:List Env}{s:Shared}{H:Hp}{E:XK}
theorem BP9 {c:Nat}:jQ (qD P w c) (zF c P w K mg base N qual sc f cdv A outer s H E) E:=fun pins σ H1 s1 e s' I hx=>sN I rfl rfl rfl hx
theorem dJ {c:Nat}:jQ (CXF P w) (zF c P w K mg base N qual sc f cdv A outer s H E) E:=fun pins σ H1 s1 e s' I hx=>sN I rfl rfl rfl (BC0 hx)
theorem bX:jQ (CXF P w) (cxX P w K mg base N qual sc f cdv A outer s H E) E:=fun pins σ H1 s1 e s' I hx=>sN I rfl rfl rfl hx
theorem jS {pins:List (Addr × Obj)}{σ:L2.St}{H1:Hp}{s1:Shared}{h':Heap}{e:Addr}{cls:Value}{args:List Value}(I:Inv (cxX P w K mg base N qual sc f cdv A outer s H E) pins σ H1 s1)(hx:Heap.MadeExcOf s1.heap h' e cls args)(hE:E cls none H1):(cxX P w K mg base N qual sc f cdv A outer s H E).xe (.ref e) { s1 with heap:=h' }:=AV5 I rfl rfl rfl hx hE
theorem wH {X:Cx}{c:Nat}:jQ (qD P w c) X E0:=fun pins σ H1 s1 e s' I hx=>by
 obtain ⟨_,_,_,_,_,_,_,_,_,_,_,_,_,_,_,_,hE⟩:=hx
 exact hE.elim
theorem FnOk.up {k:Nat}{fd:FuncData}{ps:List Str}{sp:Sp}{CX:CXT}(F:FnOk P w K mg base CX0 k f fd ps sp):FnOk P w K mg base CX k f fd ps sp :=
 ⟨F.len,fun A outer s H args us vs Q E hr he hb hv hs=>codeAny_mono (F.run A outer s H args us vs Q E hr he hb hv hs) fun r s' q=>by
  cases r with
  | ok fl=>cases fl <;> exact q
  | error e=>exact (show False from q).elim⟩
theorem FnOk.of0 {c:Nat}{k:Nat}{fd:FuncData}{ps:List Str}{sp:Sp}(F:FnOk P w K mg base (CXF P w) k f fd ps sp):FnOk P w K mg base (qD P w c) k f fd ps sp :=
 ⟨F.len,fun A outer s H args us vs Q E hr he hb hv hs=>codeAny_mono (F.run A outer s H args us vs Q E hr he hb hv hs) fun r s' q=>by
  cases r with
  | ok fl=>cases fl <;> exact q
  | error e=>exact BC0 q⟩
theorem Fun.okW {c:Nat}{x qual:Str}{st:Stmt}{fd:FuncData}{ps:List Str}{k:Nat}{sp:Sp}(F:Fun K x qual st f fd)(S:FnScope N ps (aE st))(len:∀ vs H Q E,sp vs H Q E->vs.length=ps.length)(hbody:∀ (cdv:Value) (A:Around) (outer:List Env) (s:Shared) (H:Hp) (vs:List V) (Q:VK) (E:XK),Room k (A.deeper (envOfC qual (aE st) s.heap.objs.size f cdv))->sp vs H Q E ->
   ∃ t,PSs (zF c P w K mg base N qual (aE st) f cdv A outer s H E) (cB st) t/\t { nx:=fun _ H'=>Q .non H',rt:=Q } (L2.start N vs) H):FnOk P w K mg base (qD P w c) (k+1) f fd ps sp:=by
 obtain ⟨oc,od,kV,doc,pm,an,cdv,ct,osl,rfl,lk,hcd⟩:=F.ex
 exact BA0 lk hcd S len fun A outer s H vs Q E hr hsp=>hbody cdv A outer s H vs Q E hr hsp
theorem Fun.okX {x qual:Str}{st:Stmt}{fd:FuncData}{ps:List Str}{k:Nat}{sp:Sp}(F:Fun K x qual st f fd)(S:FnScope N ps (aE st))(len:∀ vs H Q E,sp vs H Q E->vs.length=ps.length)(hbody:∀ (cdv:Value) (A:Around) (outer:List Env) (s:Shared) (H:Hp) (vs:List V) (Q:VK) (E:XK),Room k (A.deeper (envOfC qual (aE st) s.heap.objs.size f cdv))->sp vs H Q E ->
   ∃ t,PSs (cxX P w K mg base N qual (aE st) f cdv A outer s H E) (cB st) t/\t { nx:=fun _ H'=>Q .non H',rt:=Q } (L2.start N vs) H):FnOk P w K mg base (CXF P w) (k+1) f fd ps sp:=by
 obtain ⟨oc,od,kV,doc,pm,an,cdv,ct,osl,rfl,lk,hcd⟩:=F.ex
 exact BA0 lk hcd S len fun A outer s H vs Q E hr hsp=>hbody cdv A outer s H vs Q E hr hsp
end
theorem AA4 {K:Frag}{h:Heap}{C:Addr}{bmB:List Value}{nw:String}(Z:K.In h)(q:excIn K C bmB nw=true) :
  ∃ bm N nm qn bs hd sn sub ab col dd k0 k1 k2 k3 k5 mN,h.get? C=some (excClassObj nm qn C N bs bm hd sn sub ab col dd k0 k1 k2 k3 k5 nw)/\h.Ns N mN/\mN "__init__"=none/\OwnTail h bmB bm:=by
 unfold excIn at q
 split at q
 ·rename_i dd cd sl lk
  split at q
  ·rename_i C' bm k0 k1 k2 k3 n k5 hm hs
   simp only [Bool.and_eq_true,beq_iff_eq,Bool.not_eq_true'] at q
   obtain ⟨⟨⟨⟨⟨z1,z2⟩,z3⟩,z4⟩,z5⟩,z6⟩:=q
   subst z1 z2
   obtain ⟨nm,bs,mro,ns,qn,hd,sn,sub,ab,col,del⟩:=cd
   dsimp only at hm z3 z5 z6
   subst hm z3
   obtain ⟨l⟩:=sl
   dsimp only at hs
   subst hs
   exact ⟨bm,ns,nm,qn,bs,hd,sn,sub,ab,col,dd,k0,k1,k2,k3,k5,h.nsMap ns,Z _ _ lk,.of_isNs (isNs_of_in Z z5),nsMap_none_of_in Z z5 z6,tail_of_in Z z4⟩
  ·exact absurd q Bool.false_ne_true
 ·exact absurd q Bool.false_ne_true
def BQ0 (R:Hp->Prop):TS:=fun _ _ H=>R H
theorem dZ {X:Cx}{x:Str}{C:Addr}{m:Str}{j:Nat}{np ap cpos pos:Pos}{R:Hp->Prop}(hc:X.calm=true)(hg:Gl X x)(hm:X.mg x=some (.ref C))(q:excIn X.K C vbm "ValueError.__new__"=true)(hxe:∀ pins σ H s h' e args,Inv X pins σ H s->Heap.MadeExcOf s.heap h' e (.ref C) args->R H->X.xe (.ref e) { s with heap:=h' })(hd:(x == ("__debug__":Str))=false:=by decide) :
  PS X (.Raise (some (.Call (.Name x np) [.Constant (.str m) j ap] [] cpos)) none pos) (BQ0 R):=by
 intro pins s σ H D I h
 obtain ⟨bm,N,nm,qn,bs,hd',sn,sub,ab,col,dd,k0,k1,k2,k3,k5,mN,hC,hN,hni,T⟩:=AA4 I.kIn q
 refine wpAny_Raise_call_subT (C:=C) (nm:=nm) (q:=qn) (N:=N) (bs:=bs) (bm:=bm) (hdct:=hd') (sn:=sn) (sub:=sub) (ab:=ab) (col:=col) (dd:=dd) (k0:=k0) (k1:=k1) (k2:=k2) (k3:=k3) (k5:=k5) PySem.F.excBase_ValueError (mN:=mN) (T.hasType PySem.F.excBase_ValueError.hasBase) (I.ok.hd hc) rfl hni (iT I hg hm ⟨rfl,?_⟩ hd)
 refine Calls.evalArgs_plain (Calls.spliced_cons (Calls.Constant_str (k:=j) (pos:=ap) (Calls.spliced_nil ?_)))
 exact ⟨rfl,sz8 (show 1<=1000 by decide),hC,hN,T,fun h' e hm=>hxe pins σ H _ h' e _ (I.tok _) hm h⟩
section
variable {X:Cx}{pins:List (Addr × Obj)}{σ:L2.St}{H H':Hp}{s:Shared}
abbrev cxE (X:Cx)(v:Value):Cx:={ X with A:=X.A.mark (some v),calm:=false }
theorem qK (I:Inv X pins σ H s)(v:Value):Inv (cxE X v) pins σ H s :=
 ⟨⟨I.ok.mod,I.ok.kind,I.ok.glob,I.ok.blt,I.ok.above,I.ok.inj,I.ok.has,I.ok.cab,(fun z=>nomatch z),I.ok.frames,I.ok.stk,I.ok.exf,I.ok.bs,I.ok.bsz,I.ok.noex,I.ok.exfs,I.ok.funs,I.ok.frf⟩,I.os,I.bare,I.base,I.loc,I.cell,I.free,I.freeC,I.pin,I.hok,I.len⟩
end
end Bw
set_option maxHeartbeats 400000
namespace Bw
open PySem PySem.Spec PyProof.Rows L2 PySem.W
section
variable {prog:Program}{w:World}{A:Around}{E:Value->Shared->Prop}{K:Frag}{h:Heap}{g:Array GenState}{d:Drawn}{t:Nat}{os:OsState}{x C:Addr}
structure ExcK (K:Frag) (C:Addr):Prop where
 ga:findIn K (.ref C) "__getattribute__"=some (some (.builtin "BaseException.__getattribute__"))
 gt:findIn K (.ref C) "__getattr__"=some none
 cl:findIn K (.ref C) "__class__"=some (some (.builtin "object.__class__"))
 mB:mroIn K C (.type "BaseException")=some true
 mO:mroIn K C (.type "object")=some true
 cls:(clsIn K C).isSome=true
end
structure CalX (P:Program) (w:World) (K:Frag) (mg:Str->Option Value) (base:Heap) (x:Str) (ps:List Str) (k:Nat) (sp:Sp):Prop where
 ex:∃ f fd,FnOk P w K mg base (CXF P w) k f fd ps sp/\Binds K fd ps []/\keepIn K (.ref f)=true/\mg x=some (.ref f)
theorem kG {X:Cx}{x:Str}{ps:List Str}{k:Nat}{sp:Sp}{e:Expr}{es:List Expr}{t:TA}{p pos:Pos}(C:CalX X.prog X.w X.K X.mg X.base x ps k sp)(hr:Room k X.A)(hg:Gl X x)(ha:PA X (e::es) t)(hdb:(x == ("__debug__":Str))=false:=by decide)(he:starEach (e::es) X.env=(false,eval e X.env)::starEach es X.env:=by rfl)(hpl:(backTo pos (starEach es X.env)).any (·.1)=false:=by rfl) :
  PE X (.Call (.Name x p) (e::es) [] pos) (AL7 sp [] E0 t):=by
 obtain ⟨f,fd,F,b,kp,m⟩:=C.ex
 exact zW F hr hg m kp b .nil wH ha hdb he hpl
theorem cJ {P:Program}{w:World}{K:Frag}{mg:Str->Option Value}{base:Heap}{N:List Str}{qual:Str}{sc:Scope}{f:Addr}{cdv:Value}{A:Around}{outer:List Env}{s:Shared}{H:Hp}{E:XK}{x:Str}{ps:List Str}{k:Nat}{sp:Sp}{e:Expr}{es:List Expr}{t:TA}{p pos:Pos}(C:CalX P w K mg base x ps k sp)(hr:Room k (cxX P w K mg base N qual sc f cdv A outer s H E).A)(hg:Gl (cxX P w K mg base N qual sc f cdv A outer s H E) x)(ha:PA (cxX P w K mg base N qual sc f cdv A outer s H E) (e::es) t)(hdb:(x == ("__debug__":Str))=false:=by decide)(he:starEach (e::es) (cxX P w K mg base N qual sc f cdv A outer s H E).env=(false,eval e (cxX P w K mg base N qual sc f cdv A outer s H E).env)::starEach es (cxX P w K mg base N qual sc f cdv A outer s H E).env:=by rfl)(hpl:(backTo pos (starEach es (cxX P w K mg base N qual sc f cdv A outer s H E).env)).any (·.1)=false:=by rfl) :
  PE (cxX P w K mg base N qual sc f cdv A outer s H E) (.Call (.Name x p) (e::es) [] pos) (AL7 sp [] E t):=by
 obtain ⟨f',fd,F,b,kp,m⟩:=C.ex
 exact zW F hr hg m kp b .nil bX ha hdb he hpl
structure CalG (g:Nat) (P:Program) (w:World) (K:Frag) (mg:Str->Option Value) (base:Heap) (x:Str) (ps:List Str) (k:Nat) (sp:Sp):Prop where
 ex:∃ f fd,FnOk P w K mg base (qD P w g) k f fd ps sp/\Binds K fd ps []/\keepIn K (.ref f)=true/\mg x=some (.ref f)
abbrev CR8:=CalG 2
theorem wI {g:Nat}{P:Program}{w:World}{K:Frag}{mg:Str->Option Value}{base:Heap}{N:List Str}{qual:Str}{sc:Scope}{f:Addr}{cdv:Value}{A:Around}{outer:List Env}{s:Shared}{H:Hp}{E:XK}{x:Str}{ps:List Str}{k:Nat}{sp:Sp}{e:Expr}{es:List Expr}{t:TA}{p pos:Pos}(C:CalG g P w K mg base x ps k sp)(hr:Room k (zF g P w K mg base N qual sc f cdv A outer s H E).A)(hg:Gl (zF g P w K mg base N qual sc f cdv A outer s H E) x)(ha:PA (zF g P w K mg base N qual sc f cdv A outer s H E) (e::es) t)(hdb:(x == ("__debug__":Str))=false:=by decide)(he:starEach (e::es) (zF g P w K mg base N qual sc f cdv A outer s H E).env=(false,eval e (zF g P w K mg base N qual sc f cdv A outer s H E).env)::starEach es (zF g P w K mg base N qual sc f cdv A outer s H E).env:=by rfl)(hpl:(backTo pos (starEach es (zF g P w K mg base N qual sc f cdv A outer s H E).env)).any (·.1)=false:=by rfl) :
  PE (zF g P w K mg base N qual sc f cdv A outer s H E) (.Call (.Name x p) (e::es) [] pos) (AL7 sp [] E t):=by
 obtain ⟨f',fd,F,b,kp,m⟩:=C.ex
 exact zW F hr hg m kp b .nil BP9 ha hdb he hpl
theorem AM4 {R:Hp->Prop}{D:Ends}{σ:L2.St}{H:Hp}:BQ0 R D σ H=R H:=rfl
theorem CN0 {K:Frag}{P:Program}{w:World}{mg:Str->Option Value}{base:Heap}{N:List Str}{qual:Str}{sc:Scope}{f:Addr}{cd:Value}{A:Around}{outer:List Env}{s:Shared}{H:Hp}{E:XK}:(cxX P w K mg base N qual sc f cd A outer s H E).K=K:=rfl
theorem CN1 {K:Frag}{P:Program}{w:World}{mg:Str->Option Value}{base:Heap}{N:List Str}{qual:Str}{sc:Scope}{f:Addr}{cd:Value}{A:Around}{outer:List Env}{s:Shared}{H:Hp}{E:XK}{c:Nat}:(zF c P w K mg base N qual sc f cd A outer s H E).K=K:=rfl
theorem sO {xs:List V}{i:Int}(h0:0<=i)(h:i < xs.length):∃ z∈xs,atI xs i=some z:=by
 have hk:i.toNat < xs.length:=by omega
 have ek:i=((i.toNat:Nat):Int):=by omega
 refine ⟨xs[i.toNat],List.getElem_mem hk,?_⟩
 have q:atI xs ((i.toNat:Nat):Int)=some xs[i.toNat]:=wF (List.getElem?_eq_getElem hk)
 rwa [<- ek] at q
end Bw
set_option maxHeartbeats 1000000
namespace Bw
open PySem PySem.Spec PyProof.Rows L2 PySem.W
theorem oJ {α:Type}{x:Str}{c:α}:∀ {l:List (Str × α)},l.lookup x=some c->(x,c)∈l
 | [],h=>by simp at h
 | (n,k)::r,h=>by
  rw [List.lookup_cons] at h
  cases hx:x == n with
  | true =>
   rw [hx] at h
   have e:x=n:=by simpa using hx
   have e2:k=c:=by simpa using h
   subst e e2
   exact List.mem_cons_self
  | false =>
   rw [hx] at h
   exact List.mem_cons_of_mem _ (oJ h)
theorem zG {α:Type}{x:Str}{c:α}:∀ {l:List (Str × α)},(x,c)∈l->∃ c',l.lookup x=some c'
 | [],h=>by cases h
 | (n,k)::r,h=>by
  rw [List.lookup_cons]
  cases hx:x == n with
  | true=>exact ⟨k,rfl⟩
  | false =>
   rcases List.mem_cons.mp h with e | e
   ·cases e
    simp at hx
   ·exact zG e
theorem pA {env:Env}:∀ (names:List (Str × NameKind)) (acc:List (Str × Addr)),(∀ y∈names,y.2=.free->∃ c,env.cells.lookup y.1=some c) ->
  ∃ cl:List (Str × Addr),(forIn (m:=Sem) names acc fun (x:Str × NameKind) r =>
    if (x.2 == NameKind.free)=true then do let a <- cellOf env x.1; pure (ForInStep.yield ((x.1,a)::r)) else pure (ForInStep.yield r))=pure cl /\
   (∀ p∈cl,p∈acc\/env.cells.lookup p.1=some p.2)/\(∀ p∈acc,p∈cl)/\∀ x,(x,NameKind.free)∈names->∃ c,(x,c)∈cl
 | [],acc,_=>⟨acc,rfl,fun p hp=>.inl hp,fun p hp=>hp,fun x hx=>by cases hx⟩
 | (n,k)::r,acc,h=>by
  by_cases hk:k=.free
  ·subst hk
   obtain ⟨c,hc⟩:=h (n,.free) List.mem_cons_self rfl
   obtain ⟨cl,e,h1,h2,h3⟩:=pA r ((n,c)::acc) fun y hy=>h y (List.mem_cons_of_mem _ hy)
   have hc':cellOf env n=pure c:=by unfold cellOf; rw [hc]
   refine ⟨cl,?_,fun p hp=>?_,fun p hp=>h2 p (List.mem_cons_of_mem _ hp),fun x hx=>?_⟩
   ·rw [List.forIn_cons]
    simp only [beq_self_eq_true,if_true,hc',pure_bind]
    exact e
   ·rcases h1 p hp with z | z
    ·rcases List.mem_cons.mp z with rfl | z
     ·exact .inr hc
     ·exact .inl z
    ·exact .inr z
   ·rcases List.mem_cons.mp hx with z | z
    ·cases z
     exact ⟨c,h2 _ List.mem_cons_self⟩
    ·exact h3 x z
  ·obtain ⟨cl,e,h1,h2,h3⟩:=pA r acc fun y hy=>h y (List.mem_cons_of_mem _ hy)
   have hb:(k == NameKind.free)=false:=by simpa using hk
   refine ⟨cl,?_,h1,h2,fun x hx=>?_⟩
   ·rw [List.forIn_cons]
    simp only [hb,Bool.false_eq_true,if_false,pure_bind]
    exact e
   ·rcases List.mem_cons.mp hx with z | z
    ·cases z
     exact absurd rfl hk
    ·exact h3 x z
theorem AV6 {env:Env}{scope:Scope}(h:∀ y∈scope.names,y.2=.free->∃ c,env.cells.lookup y.1=some c) :
  ∃ cl,closureFor scope env=pure cl/\(∀ x c,cl.lookup x=some c->env.cells.lookup x=some c)/\∀ x,(x,NameKind.free)∈scope.names->∃ c,cl.lookup x=some c:=by
 obtain ⟨cl,e,h1,h2,h3⟩:=pA (env:=env) scope.names [] h
 refine ⟨cl,?_,fun x c hx=>?_,fun x hx=>?_⟩
 ·unfold closureFor
  simp only [bind_pure]
  exact e
 ·rcases h1 _ (oJ hx) with z | z
  ·cases z
  ·exact z
 ·obtain ⟨c,hc⟩:=h3 x hx
  exact zG hc
theorem wJ {scope:Scope}{env:Env}{x:Str}{k:NameKind}(h:(relabel scope env).names.lookup x=some k):(x,k)∈scope.names\/(k=.cell/\(x,NameKind.free)∈scope.names):=by
 obtain ⟨⟨n,k'⟩,hm,e⟩:=List.mem_map.mp (oJ h)
 dsimp only at e
 split at e
 ·rename_i hc
  simp only [Bool.and_eq_true,beq_iff_eq] at hc
  obtain ⟨⟨rfl,_⟩,_⟩:=hc
  cases e
  exact .inr ⟨rfl,hm⟩
 ·cases e
  exact .inl hm
abbrev blk (X:Cx)(N:List Str)(scope:Scope)(cl:List (Str × Addr))(C:Addr)(s:Shared)(H:Hp)(fp:List Addr):Cx :=
 { prog:=X.prog,w:=X.w,K:=X.K,mg:=X.mg,base:=X.base,A:=X.A,N:=N,s₀:=s,H₀:=H,env:=compEnvC scope cl C X.env,outer:=X.stack,stack:=X.stack,ex:=fp,fn:=fun _=>false,calm:=X.calm,pn:=[],xe:=fun _ _=>False }
def AL3 (ix:List (Option Nat))(σ:L2.St):L2.St:=ix.map fun o=>o.bind fun j=>(σ[j]?).getD none
def PTs (X:Cx)(ifs:List Expr)(t:TT):Prop :=
 ∀ (pins:List (Addr × Obj)) (s:Shared) (σ:L2.St) (H:Hp) (Q:Bool->Hp->Prop),Inv X pins σ H s->t σ H Q ->
  wpAny (model X.prog X.w) X.A (forIn ifs true fun c r=>if r=true then do let ok <- isTrue c X.env (eval c X.env); pure (ForInStep.yield ok) else pure (ForInStep.yield r)) (TP X pins σ Q) X.xe s
def CQ7:TT:=fun _ H Q=>Q true H
theorem gC {X:Cx}:PTs X [] CQ7:=fun pins s σ H Q I h=>wpAny_tests_nil ⟨H,I,h⟩
theorem BU2 {X:Cx}{c:Expr}{t:TT}(h:PT X c t):PTs X [c] t:=fun pins s σ H Q I q=>wpAny_tests_one (h pins s σ H Q I q)
def xY (wi:TI)(ix:List (Option Nat))(g:TG)(tt:TT)(te:TE):TE:=fun σ H Q=>wi σ H fun J H1=>∃ W:Nat->Nat->List V->L2.St->Hp->Prop,(∃ m,W 0 m [] (AL3 ix σ) H1)/\∀ i m acc σ H,W i m acc σ H ->
 (J.stop i H/\∀ D,H D=none->Q (.ref D) (upd H D (.lst acc))) \/
 (J.go i H/\acc.length < sizeLine/\∃ N:List V->L2.St->Hp->Prop,(∀ acc' σ' H',N acc' σ' H'->∃ m',m' < m/\W (i+1) m' acc' σ' H') /\
  ∀ x H',J.yld i H x H'->g x σ H' fun σ2 H2=>tt σ2 H2 fun b H3=>if b=true then te σ2 H3 fun y H4=>N (acc++[y]) σ2 H4 else N acc σ2 H3)
section
variable {prog:Program}{w:World}{A:Around}{R:Result->Shared->Prop}{s:Shared}
theorem sP {elt target iter:Expr}{ifs:List Expr}{scope:Scope}{pos:Pos}{it acc:Value}{env:Env}(I:Nat->Shared->Prop)(turn:∀ n s,I n s->wpAny (model prog w) A (pyNext it) (fun r s₁=>match r with
   | none=>R (.ok .next) s₁
   | some v=>wpAny (model prog w) A (letOwnedTupleGo target it v) (fun _ s₁=>wpAny (model prog w) A (assign target env v) (fun _ s₂ =>
     wpAny (model prog w) A (forIn ifs true fun c r=>if r=true then do let ok <- isTrue c env (eval c env); pure (ForInStep.yield ok) else pure (ForInStep.yield r)) (fun ok s₃ =>
      if ok=true then wpAny (model prog w) A (eval elt env) (fun x s₄ =>
       wpAny (model prog w) A (call (.builtin "list.append") [acc,x]) (fun _ s₅=>∃ m,m < n/\I m s₅) (fun _ _=>False) s₄) (fun _ _=>False) s₃
      else ∃ m,m < n/\I m s₃) (fun _ _=>False) s₂) (fun _ _=>False) s₁) (fun _ _=>False) s₁) (fun _ _=>False) s)(n:Nat)(h:I n s) :
  codeAny (model prog w) A (.compLoop (.ListComp elt [⟨target,iter,ifs,0⟩] scope pos) 0 it acc env) R s:=by
 refine codeAny_loop rfl I (fun n s hI=>?_) n h
 show wpAny _ A ((compTurn (.ListComp elt [⟨target,iter,ifs,0⟩] scope pos) 0 it acc env).onRaise (fun x=>do noteFrame x env; theTreesLotGoes x)) _ _ s
 refine wpAny_noted ?_
 rw [compTurn_list]
 refine wpAny_bind (wpAny_standAt (wpAny_bind (wpAny_mono (turn n s hI) (fun r s₁ h₁=>?_) fun _ _ h'=>h'.elim)))
 cases r with
 | none=>exact wpAny_pure h₁
 | some v =>
  refine wpAny_bind (wpAny_mono h₁ (fun _ s₁ h₁=>?_) fun _ _ h'=>h'.elim)
  refine wpAny_bind (wpAny_mono h₁ (fun _ s₂ h₂=>wpAny_bind (wpAny_mono h₂ (fun ok s₃ h₃=>?_) fun _ _ h'=>h'.elim)) fun _ _ h'=>h'.elim)
  cases ok with
  | false=>exact wpAny_pure ⟨rfl,h₃⟩
  | true =>
   exact wpAny_bind (wpAny_bind (wpAny_mono h₃ (fun x s₄ h₄=>wpAny_bind (wpAny_mono h₄ (fun _ s₅ h₅=>wpAny_pure (wpAny_pure ⟨rfl,h₅⟩)) fun _ _ h'=>h'.elim)) fun _ _ h'=>h'.elim))
end
section
variable {X:Cx}{pins:List (Addr × Obj)}{σ:L2.St}{H:Hp}{s:Shared}{N:List Str}{scope:Scope}{cl:List (Str × Addr)}{C:Addr}{fp:List Addr}
theorem CE1 (I:Inv X pins σ H s)(hkind:scope.kind=.function)(hcell:∀ y∈scope.names,y.2≠.cell)(h1:∀ x c,cl.lookup x=some c->X.env.cells.lookup x=some c)(h2:∀ x,(x,NameKind.free)∈scope.names->∃ c,cl.lookup x=some c)(hC:s.heap.objs.size<=C)(hf:∀ b∈fp,BI5 X pins H b)(hb:∀ b∈fp,b < s.heap.objs.size):(blk X N scope cl C s H fp).Ok where
 mod:=I.ok.mod
 kind:=hkind
 glob:=I.ok.glob
 blt:=I.ok.blt
 above:=hC
 inj:=fun x y c a b=>I.ok.inj x y c (h1 x c a) (h1 y c b)
 has:=fun x hx=>by
  have:(x,NameKind.free)∈scope.names:=by
   rcases hx with z | z
   ·rcases wJ z with q | ⟨_,q⟩
    ·exact absurd rfl (hcell _ q)
    ·exact q
   ·rcases wJ z with q | ⟨e,q⟩
    ·exact q
    ·cases e
  exact h2 x this
 cab:=fun x c hx=>by cases hx
 hd:=I.ok.hd
 frames:=I.ok.frames
 stk:=.inl rfl
 exf:=fun b hm=>⟨Nat.ne_of_lt (Nat.lt_of_lt_of_le (hb b hm) hC),fun x c e=>(hf b hm).2.2.2.2.1 x c (h1 x c e)⟩
 bs:=I.bs
 bsz:=Nat.le_trans I.ok.bsz I.sz
 noex:=fun b o e hm=>by
  rcases (hf b hm).2.2.2.1 with z | z
  ·exact I.ok.noex b o e z
  ·exact absurd (Nat.lt_of_lt_of_le (Heap.lt_size e) (Nat.le_trans I.ok.bsz z)) (Nat.lt_irrefl _)
 exfs:=fun b hm hs=>(List.mem_cons.mp (I.stkSub b hs)).elim (hf b hm).2.1 (hf b hm).2.2.1
 funs:=I.stack
 frf:=I.stkFree
end
theorem iV {env:Env}:∀ {names:List (Str × NameKind)}{x:Str},names.lookup x=some .free ->
  (names.map fun (n,k)=>if (k == NameKind.free && env.scope.kind == .function && env.kindOf n == some .cell) then (n,NameKind.cell) else (n,k)).lookup x=some .cell \/
  (names.map fun (n,k)=>if (k == NameKind.free && env.scope.kind == .function && env.kindOf n == some .cell) then (n,NameKind.cell) else (n,k)).lookup x=some .free
 | [],_,h=>by simp at h
 | (n,k)::r,x,h=>by
  have ih:=@iV env r x
  rw [List.map_cons]
  cases hx:x == n with
  | true =>
   simp only [List.lookup_cons,hx] at h
   cases h
   by_cases hc:(NameKind.free == NameKind.free && env.scope.kind == .function && env.kindOf n == some .cell)=true
   ·left; simp only [hc,if_true,List.lookup_cons,hx]
   ·right; simp only [Bool.not_eq_true] at hc; simp only [hc,Bool.false_eq_true,if_false,List.lookup_cons,hx]
  | false =>
   simp only [List.lookup_cons,hx] at h
   by_cases hc:(k == NameKind.free && env.scope.kind == .function && env.kindOf n == some .cell)=true
   ·simp only [hc,if_true,List.lookup_cons,hx]; exact ih h
   ·simp only [Bool.not_eq_true] at hc; simp only [hc,Bool.false_eq_true,if_false,List.lookup_cons,hx]; exact ih h
section
variable {X:Cx}
structure Gone (X:Cx) (pins:List (Addr × Obj)) (H:Hp) (C:Addr):Prop where
 n:H C=none
 l:C≠X.env.locals
 y:X.s₀.heap.objs.size<=C
 c:∀ x c,X.env.cells.lookup x=some c->c≠C
 p:∀ p∈X.pn++pins,p.1≠C
theorem Gone.inv {pins:List (Addr × Obj)}{σ:L2.St}{H:Hp}{s:Shared}{C:Addr}{h':Heap}(G:Gone X pins H C)(I:Inv X pins σ H s)(hs:Heap.SameBut C s.heap h'):Inv X pins σ H { s with heap:=h' } :=
 I.turned (t':=s.toks) (fun b o hb e=>(hs.2 b hb).trans e) G.n G.l (.inr G.y) G.c G.p
theorem AS4 {elt iter tg:Expr}{ifs:List Expr}{scope:Scope}{pos ppos:Pos}{wi:TI}{g:TG}{tt:TT}{te:TE}{use:Option (Value->Sem Unit)}{Q':Value->Shared->Prop}{pins:List (Addr × Obj)}{s:Shared}{σ:L2.St}{H:Hp}{Q:VK}(N:List Str)(ix:List (Option Nat))(hc:X.calm=true)(hkind:scope.kind=.function)(hcell:∀ y∈scope.names,y.2≠.cell)(hnames:∀ y∈scope.names,y.2=.local->scope.names.lookup y.1=some .local)(hfree:∀ y∈scope.names,y.2=.free->X.env.kindOf y.1=some .cell\/X.env.kindOf y.1=some .free)(hlen:ix.length=N.length)(hcap:∀ (i j:Nat) (x:Str),ix[i]?=some (some j)->N[i]?=some x->X.N[j]?=some x/\scope.names.lookup x=some .free)(hi:PI X tg iter wi)(hb:∀ cl C s H fp,PG (blk X N scope cl C s H fp) tg g/\PTs (blk X N scope cl C s H fp) ifs tt/\PE (blk X N scope cl C s H fp) elt te)(hs:∀ x,foldedSetIterable iter X.env x=pure x)(I:Inv X pins σ H s)(h:xY wi ix g tt te σ H Q)(hend:∀ (D C:Addr) (H':Hp) (s4:Shared) (mC:Str->Option Value),Inv X pins σ H' s4->s4.heap.Ns C mC->Gone X pins H' C->Q (.ref D) H'->compPost (model X.prog X.w) X.A X.xe use Q' (.ref D) C (.ok .next) s4) :
  wpAny (model X.prog X.w) X.A (comprehension (.ListComp elt [⟨tg,iter,ifs,0⟩] scope pos) scope X.env ppos (newList []) false (eval iter X.env) use) Q' X.xe s:=by
 obtain ⟨cl,hclos,hcl1,hcl2⟩:=AV6 (env:=X.env) (scope:=scope) fun y hy e=>I.ok.has _ (hfree y hy e)
 refine wpAny_comprehension_free rfl hs hclos hkind hnames (thn (hi pins s σ H _ I h) fun v s1 h1=>thn h1 fun itv s2 h2=>?_)
 obtain ⟨it,fp,tn,J,H2,e,I2,T,st2,f2,W,⟨m0,w0⟩,turn⟩:=h2
 subst e
 refine wpAny_newObj_type (wpAny_newFunctionEnv hcell (by intro y hy; simp at hy) (fun h₁ hns₁ hsb₁=>?_) hkind)
 dsimp only at hns₁ hsb₁ ⊢
 generalize hH2:s2.heap.push { cls:=.type "list",dict:=none,data:=.seq ([]:List Value).toArray }=HH at hns₁ hsb₁ ⊢
 have hC:HH.objs.size=s2.heap.objs.size+1:=by rw [<- hH2,Heap.size_push]
 have hDC:s2.heap.objs.size≠HH.objs.size:=by rw [hC]; exact Nat.ne_of_lt (Nat.lt_succ_self _)
 have hCle:s2.heap.objs.size<=HH.objs.size:=by rw [hC]; exact Nat.le_succ _
 have below:∀ b,b < s2.heap.objs.size->b≠HH.objs.size/\b≠s2.heap.objs.size:=fun b hb=>⟨by rw [hC]; exact Nat.ne_of_lt (Nat.lt_succ_of_lt hb),Nat.ne_of_lt hb⟩
 have hfp:∀ b∈fp,b < s2.heap.objs.size:=fun b hm=>by
  obtain ⟨o,e,_⟩:=T.obj _ _ st2 b hm
  exact Heap.lt_size e
 have old:∀ b o,s2.heap.get? b=some o->h₁.get? b=some o:=fun b o e=>hsb₁.extBut b o (below b (Heap.lt_size e)).1 (Heap.get?_push_of_some _ (hH2 ▸ Heap.get?_push_of_some _ e))
 have hacc:h₁.get? s2.heap.objs.size=some { cls:=.type "list",data:=.seq ([]:List Value).toArray }:=hsb₁.extBut _ _ hDC (Heap.get?_push_of_some _ (hH2 ▸ Heap.get?_push_size _ rfl))
 generalize hD:s2.heap.objs.size=D at hDC hCle hacc ⊢
 generalize hCC:HH.objs.size=C at hns₁ hsb₁ hDC hCle ⊢
 have hDle:s2.heap.objs.size<=D:=by rw [hD]; exact Nat.le_refl _
 have hCle':s2.heap.objs.size<=C:=by rw [hD]; exact hCle
 obtain ⟨bg,bt,be⟩:=hb cl C s2 H2 fp
 have ok:=CE1 (N:=N) I2 hkind hcell hcl1 hcl2 hCle' f2 hfp
 have notY:∀ b,s2.heap.objs.size<=b->b ∉ frs X.stack:=fun b hle hm=>by
  rcases List.mem_cons.mp (I2.stkSub b hm) with z | z
  ·exact absurd (Nat.lt_of_lt_of_le I2.lt (z ▸ hle)) (Nat.lt_irrefl _)
  ·exact I2.nofs hle z
 -- the block's invariant at its entry
 have I4:Inv (blk X N scope cl C s2 H2 fp) [(D,{ cls:=.type "list",data:=.seq ([]:List Value).toArray })] (AL3 ix σ) H2 { s2 with heap:=h₁,toks:=s2.toks+([]:List (Str × Value)).length }:=by
  refine ⟨ok,rfl,I2.bare,Un.kept old,⟨_,hns₁,fun i x v e1 e2 e3=>?_⟩,fun x c e=>?_,I2.hok.fresh hCle',fun x c e=>I2.freeC x c (hcl1 x c e),fun p hp=>?_,I2.hok.kept old,?_⟩
  ·have q:∃ j,ix[i]?=some (some j)/\σ[j]?=some (some v):=by
    unfold AL3 at e2
    rw [List.getElem?_map] at e2
    cases z:ix[i]? with
    | none=>rw [z] at e2; cases e2
    | some o =>
     rw [z] at e2
     cases o with
     | none=>cases e2
     | some j =>
      refine ⟨j,rfl,?_⟩
      have e2':(σ[j]?).getD none=some v:=Option.some.inj e2
      cases z2:σ[j]? with
      | none=>rw [z2] at e2'; cases e2'
      | some w'=>rw [z2] at e2'; exact congrArg some e2'
   obtain ⟨j,q1,q2⟩:=q
   obtain ⟨n1,n2⟩:=hcap i j x q1 e1
   obtain ⟨m,hn,hl⟩:=I2.loc
   have hmem:=oJ n2
   have hkx:=hfree _ hmem rfl
   have hvis:Vis X.env.scope x:=by
    rcases hkx with z | z
    ·exact .inr (.inl z)
    ·exact .inr (.inr z)
   obtain ⟨u,ru,lk⟩:=hl j x v n1 q2 hvis
   refine ⟨u,ru,.inr ⟨iV n2,?_⟩⟩
   obtain ⟨c,hcc⟩:=hcl2 x hmem
   rcases lk with ⟨k,_⟩ | ⟨_,c',e',z⟩
   ·rcases hkx with z | z <;> · rw [k] at z; cases z
   ·rw [hcl1 x c hcc] at e'
    cases e'
    obtain ⟨o,ho,hd⟩:=z
    exact ⟨c,hcc,o,old _ _ ho,hd⟩
  ·obtain ⟨v,o,ho,hd⟩:=I2.cell x c (hcl1 x c e)
   exact ⟨v,o,old _ _ ho,hd⟩
  ·have e:p=(D,{ cls:=.type "list",data:=.seq ([]:List Value).toArray }):=by simpa using hp
   subst e
   exact ⟨hacc,I2.hok.fresh hDle,hDC,notY D hDle,fun v z=>by cases z⟩
  ·unfold AL3
   rw [List.length_map]
   exact hlen
 have stat:∀ {pl:List (Addr × Obj)}{H':Hp},(∀ p∈pl,p.1 ∉ fp)->(∀ b∈fp,H' b=none)->∀ b∈fp,BI5 (blk X N scope cl C s2 H2 fp) pl H' b:=fun {pl H'} hpl hn b hm =>
  ⟨hn b hm,(ok.exf b hm).1,ok.exfs b hm,.inl hm,(ok.exf b hm).2,fun p hp e=>hpl p (by simpa using hp) (e ▸ hm)⟩
 have nfp:D ∉ fp:=fun hm=>absurd (Nat.lt_of_lt_of_le (hfp D hm) hDle) (Nat.lt_irrefl _)
 have nfpP:∀ (o:Obj),∀ p∈[(D,o)],p.1 ∉ fp:=fun o p hp=>by
  have e:p=(D,o):=by simpa using hp
  subst e
  exact nfp
 have loop:∀ s3:Shared,s3={ s2 with heap:=h₁,toks:=s2.toks+([]:List (Str × Value)).length } ->
   codeAny (model X.prog X.w) X.A (.compLoop (.ListComp elt [⟨tg,iter,ifs,0⟩] scope pos) 0 (.ref it) (.ref D) (compEnvC scope cl C X.env)) (compPost (model X.prog X.w) X.A X.xe use Q' (.ref D) C) s3:=by
  rintro s3 rfl
  refine sP (fun n s'=>∃ i σ' H' acc its nn,Inv (blk X N scope cl C s2 H2 fp) [(D,{ cls:=.type "list",data:=.seq its nn })] σ' H' s'/\Vals acc its.toList/\tn i s'.heap/\(∀ b∈fp,H' b=none)/\acc.length<=sizeLine/\W i n acc σ' H') ?_ m0
   ⟨0,AL3 ix σ,H2,[],#[],0,I4,.nil,T.keep _ _ _ st2 fun b _ o e=>old b o e,fun b hm=>(f2 b hm).1,Nat.zero_le _,w0⟩
  rintro n s3 ⟨i,σ3,H3,acc,its,nn,I3,rv,st3,fr3,hz,w3⟩
  rcases turn i n acc σ3 H3 w3 with ⟨stop,qn⟩ | ⟨go,hlt,NN,hN,step⟩
  ·refine thn (T.done (blk X N scope cl C s2 H2 fp) rfl rfl rfl hc i _ s3 σ3 H3 (fun _ _=>False) I3 (stat (nfpP _) fr3) st3 stop) fun r s4 ⟨hr,I5⟩=>?_
   subst hr
   obtain ⟨eD,nD,_⟩:=I5.pin (D,{ cls:=.type "list",data:=.seq its nn }) (by simp)
   obtain ⟨mC,hnC,_⟩:=I5.loc
   -- back in the def's own frame
   have hne:∀ b u,H3 b=some u->b≠D:=fun b u q z=>by rw [z,nD] at q; cases q
   have un:Un (frs X.stack) fp H2 (upd H3 D (.lst acc)) s2.heap s4.heap:=by
    have b:=I5.base
    have neD:∀ b o,s2.heap.get? b=some o->b≠D:=fun b o e=>Nat.ne_of_lt (Nat.lt_of_lt_of_le (Heap.lt_size e) hDle)
    refine ⟨b.keep,b.slot,fun b' o q n' hx=>?_,b.there,fun b' xs q=>?_,fun b' o u q=>?_,fun b' ps q=>?_⟩
    ·rw [aG (neD b' o q)]
     exact b.free b' o q n' hx
    ·have q':=b.tups b' xs q
     rw [aG (hne _ _ q')]
     exact q'
    ·have q':=b.frzs b' o u q
     rw [aG (hne _ _ q')]
     exact q'
    ·obtain ⟨more,q'⟩:=b.tbls b' ps q
     exact ⟨more,by rw [aG (hne _ _ q')]; exact q'⟩
   have hokD:HOk X.prog X.w (upd H3 D (.lst acc)) s4.heap:=fun b u e=>by
    by_cases hbD:b=D
    ·subst hbD
     rw [aA] at e
     cases e
     exact ⟨hz,its.toList,nn,rv,by simpa using eD⟩
    ·rw [aG hbD] at e
     refine (I5.hok b u e).stay (fun _ _ _ q=>q) (fun c r=>?_) fun c xs r=>?_
     ·rw [aG (fun z=>by rw [z,nD] at r; cases r)]; exact r
     ·rw [aG (fun z=>by rw [z,nD] at r; cases r)]; exact r
   have IX:Inv X pins σ (upd H3 D (.lst acc)) s4:=I2.call' I5.os un hokD I5.bare fun b hm=>⟨(f2 b hm).2.2.2.1,(f2 b hm).2.1,(f2 b hm).2.2.2.2.1,(f2 b hm).2.2.2.2.2⟩
   refine hend D C _ s4 mC IX hnC ⟨?_,Nat.ne_of_gt (Nat.lt_of_lt_of_le I2.lt hCle'),Nat.le_trans I2.sz hCle',fun x c e z=>?_,fun p hp z=>?_⟩ (qn D nD)
   ·rw [aG (Ne.symm hDC)]
    exact I5.free
   ·obtain ⟨v,o,ho,_⟩:=I2.cell x c e
    exact absurd (Nat.lt_of_lt_of_le (Heap.lt_size ho) (z ▸ hCle')) (Nat.lt_irrefl _)
   ·exact absurd (Nat.lt_of_lt_of_le (Heap.lt_size (I2.pin p hp).1) (z ▸ hCle')) (Nat.lt_irrefl _)
  ·refine thn (T.item (blk X N scope cl C s2 H2 fp) rfl rfl rfl hc i _ s3 σ3 H3 (fun _ _=>False) I3 (stat (nfpP _) fr3) st3 go) fun r s4 ⟨u,hr,h4⟩=>?_
   subst hr
   refine thn h4 fun _ s5 ⟨x,H5,I5,r5,y5,st5,fr5⟩=>?_
   have I5':=I5.pinned (stat (nfpP _) fr5) (T.obj _ _ st5)
   refine thn (bg _ s5 σ3 H5 x u _ I5' r5 (step x H5 y5)) fun _ s6 ⟨σ6,H6,I6,q6⟩=>?_
   refine thn (bt _ s6 σ6 H6 _ I6 q6) fun b s7 ⟨H7,I7,q7⟩=>?_
   have after:∀ {o:Obj}{σ8:L2.St}{H8:Hp}{s8:Shared},Inv (blk X N scope cl C s2 H2 fp) ([(D,o)]++qF fp s5.heap) σ8 H8 s8->tn (i+1) s8.heap/\∀ b∈fp,H8 b=none:=fun {o σ8 H8 s8} I8=>by
    refine ⟨T.keep _ _ _ st5 fun b hb o e=>(I8.pin (b,o) (List.mem_append_right _ (List.mem_append_right _ (oI hb e)))).1,fun b hb=>?_⟩
    obtain ⟨o,e,d⟩:=T.obj _ _ st5 b hb
    exact (I8.pin (b,o) (List.mem_append_right _ (List.mem_append_right _ (oI hb e)))).2.1
   cases b with
   | false =>
    simp only [Bool.false_eq_true,if_false] at q7 ⊢
    obtain ⟨m',hm,w7⟩:=hN acc σ6 H7 q7
    exact ⟨m',hm,i+1,σ6,H7,acc,its,nn,I7.unpinned,rv,(after I7).1,(after I7).2,hz,w7⟩
   | true =>
    simp only [if_true] at q7 ⊢
    refine thn (be _ s7 σ6 H7 _ I7 q7) fun yv s8 ⟨y,H8,I8,r8,q8⟩=>?_
    obtain ⟨eD,nD,_⟩:=I8.pin (D,{ cls:=.type "list",data:=.seq its nn }) (by simp)
    have hl:acc.length=its.size:=by have:=rv.length; simpa using this
    refine wpAny_list_append_plain (hsz:=by omega) ⟨nn,eD⟩ fun h9 ⟨n9,e9⟩ hs9=>?_
    obtain ⟨m',hm,w9⟩:=hN _ _ _ q8
    have J1:Inv (blk X N scope cl C s2 H2 fp) (qF fp s5.heap) σ6 H8 s8:=I8.pins_of fun p hp=>I8.pin p (List.mem_append_right _ (List.mem_append_right _ hp))
    have nc:∀ x c,cl.lookup x=some c->c≠D:=fun x c e z=>by
     obtain ⟨v,o,ho,_⟩:=I2.cell x c (hcl1 x c e)
     exact absurd (Nat.lt_of_lt_of_le (Heap.lt_size ho) (z ▸ hDle)) (Nat.lt_irrefl _)
    have J2:Inv (blk X N scope cl C s2 H2 fp) (qF fp s5.heap) σ6 H8 { s8 with heap:=h9 }:=J1.turned (t':=s8.toks) (fun b o hb e=>hs9.extBut b o hb e) nD hDC (.inr hDle) nc fun p hp z=>by
     have hp':p∈qF fp s5.heap:=by simpa using hp
     exact nfp (z ▸ (AG5 hp').1)
    have J3:Inv (blk X N scope cl C s2 H2 fp) ([(D,{ cls:=.type "list",data:=.seq (its.push yv) n9 })]++qF fp s5.heap) σ6 H8 { s8 with heap:=h9 }:=J2.pins_of fun p hp=>by
     rcases List.mem_append.mp hp with hp | hp
     ·have e:p=(D,{ cls:=.type "list",data:=.seq (its.push yv) n9 }):=by simpa using hp
      subst e
      exact ⟨e9,nD,hDC,notY D hDle,fun v z=>by cases z⟩
     ·exact J2.pin p (List.mem_append_right _ hp)
    refine ⟨m',hm,i+1,σ6,H8,acc++[y],its.push yv,n9,J3.unpinned,?_,(after J3).1,(after J3).2,by rw [List.length_append,List.length_singleton]; omega,w9⟩
    rw [Array.toList_push]
    exact rv.append (.cons r8 .nil)
 exact codeAny_compStart_list (loop _ rfl) (T.self _ 0 _ _ _ (T.keep _ _ _ st2 fun b _ o e=>old b o e) (loop _ rfl))
theorem BU3 {elt iter tg:Expr}{ifs:List Expr}{scope:Scope}{pos:Pos}{wi:TI}{g:TG}{tt:TT}{te:TE}(N:List Str)(ix:List (Option Nat))(hc:X.calm=true)(hkind:scope.kind=.function)(hcell:∀ y∈scope.names,y.2≠.cell)(hnames:∀ y∈scope.names,y.2=.local->scope.names.lookup y.1=some .local)(hfree:∀ y∈scope.names,y.2=.free->X.env.kindOf y.1=some .cell\/X.env.kindOf y.1=some .free)(hlen:ix.length=N.length)(hcap:∀ (i j:Nat) (x:Str),ix[i]?=some (some j)->N[i]?=some x->X.N[j]?=some x/\scope.names.lookup x=some .free)(hi:PI X tg iter wi)(hb:∀ cl C s H fp,PG (blk X N scope cl C s H fp) tg g/\PTs (blk X N scope cl C s H fp) ifs tt/\PE (blk X N scope cl C s H fp) elt te)(hs:∀ x,foldedSetIterable iter X.env x=pure x:=by intro _; rfl):PE X (.ListComp elt [⟨tg,iter,ifs,0⟩] scope pos) (xY wi ix g tt te):=by
 intro pins s σ H Q I h
 rw [eval_ListComp]
 exact AS4 (use:=none) N ix hc hkind hcell hnames hfree hlen hcap hi hb hs I h fun D C H' s4 mC I4 hn G q=>⟨mC,hn,fun h' hs'=>⟨.ref D,H',G.inv I4 hs',rfl,q⟩⟩
theorem BU4 {i:Nat}{y:Str}{elt iter tg:Expr}{ifs:List Expr}{scope:Scope}{pos py spos:Pos}{wi:TI}{g:TG}{tt:TT}{te:TE}(N:List Str)(ix:List (Option Nat))(hc:X.calm=true)(hkind:scope.kind=.function)(hcell:∀ y∈scope.names,y.2≠.cell)(hnames:∀ y∈scope.names,y.2=.local->scope.names.lookup y.1=some .local)(hfree:∀ y∈scope.names,y.2=.free->X.env.kindOf y.1=some .cell\/X.env.kindOf y.1=some .free)(hlen:ix.length=N.length)(hcap:∀ (i j:Nat) (x:Str),ix[i]?=some (some j)->N[i]?=some x->X.N[j]?=some x/\scope.names.lookup x=some .free)(hN:X.N.Nodup)(hin:X.N[i]?=some y)(hy:X.env.scope.names.lookup y=some .local)(hi:PI X tg iter wi)(hb:∀ cl C s H fp,PG (blk X N scope cl C s H fp) tg g/\PTs (blk X N scope cl C s H fp) ifs tt/\PE (blk X N scope cl C s H fp) elt te)(hsw:swapsWith (.ListComp elt [⟨tg,iter,ifs,0⟩] scope pos) (some (.Name y py)) spos.line X.env=pure true:=by rfl)(hs:∀ x,foldedSetIterable iter X.env x=pure x:=by intro _; rfl):PS X (.Assign [.Name y py] (.ListComp elt [⟨tg,iter,ifs,0⟩] scope pos) spos) (CA8 (xY wi ix g tt te) (AU9 i)):=by
 intro pins s σ H D I h
 rw [exec_Assign_Name_used _ _ _ _ hsw]
 refine wpAny_bind (wpAny_standAt (wpAny_bind ?_))
 show wpAny _ X.A (do let _ <- comprehension (.ListComp elt [⟨tg,iter,ifs,0⟩] scope pos) scope X.env _ (newList []) false (eval iter X.env) (some (assign (.Name y py) X.env))) _ _ s
 refine wpAny_bind (thn (AS4 (use:=some (assign (.Name y py) X.env)) (Q':=fun _ s'=>SP X pins D .next s') (Q:=fun v H'=>D.nx (σ.set i (some v)) H') N ix hc hkind hcell hnames hfree hlen hcap hi hb hs I h fun Dd C H' s4 mC I4 hn G q=>?_) fun _ s' hq=>wpAny_pure (wpAny_pure hq))
 show wpAny _ X.A (assign (.Name y py) X.env (.ref Dd)) _ _ _
 refine wpAny_assign_Name (AG1 (v:=.ref Dd) I4 hN hin (.inl hy) rfl (fun s5 I5 ⟨a,sb,ha⟩=>?_) (.inr hy))
 have hCa:C≠a:=by
  rcases ha with z | z
  ·rw [z]; exact G.l
  ·exact fun e=>G.c _ _ z e.symm
 exact ⟨mC,hn.sameBut sb hCa,fun h' hs'=>⟨_,H',G.inv I5 hs',q⟩⟩
end
theorem BC1 {K:Frag}{a:Addr}{xs:List V}{g:TG}{tt:TT}{te:TE}{σ:L2.St}{H:Hp}{Q:VK}(Pv:Nat->List V->L2.St->Hp->Prop)(hz:xs.length<=sizeLine)(h0:Pv 0 [] σ H)(hl:∀ i acc σ H,i<=xs.length->Pv i acc σ H->SqL K H a xs)(hs:∀ i x acc σ H,xs[i]?=some x->Pv i acc σ H->g x σ H fun σ2 H2=>tt σ2 H2 fun b H3=>if b=true then te σ2 H3 fun y H4=>Pv (i+1) (acc++[y]) σ2 H4 else Pv (i+1) acc σ2 H3)(hacc:∀ i acc σ H,Pv i acc σ H->acc.length<=i)(hd:∀ acc σ H,Pv xs.length acc σ H->∀ D,H D=none->Q (.ref D) (upd H D (.lst acc))) :
  ∃ W:Nat->Nat->List V->L2.St->Hp->Prop,(∃ m,W 0 m [] σ H)/\∀ i m acc σ H,W i m acc σ H ->
   ((Itl K a).stop i H/\∀ D,H D=none->Q (.ref D) (upd H D (.lst acc))) \/
   ((Itl K a).go i H/\acc.length < sizeLine/\∃ N:List V->L2.St->Hp->Prop,(∀ acc' σ' H',N acc' σ' H'->∃ m',m' < m/\W (i+1) m' acc' σ' H') /\
    ∀ x H',(Itl K a).yld i H x H'->g x σ H' fun σ2 H2=>tt σ2 H2 fun b H3=>if b=true then te σ2 H3 fun y H4=>N (acc++[y]) σ2 H4 else N acc σ2 H3):=by
 refine ⟨fun i m acc σ H=>m=xs.length - i/\i<=xs.length/\Pv i acc σ H,⟨xs.length,by simp,Nat.zero_le _,h0⟩,?_⟩
 rintro i m acc σ H ⟨rfl,hi,p⟩
 have q:=hl i acc σ H hi p
 have ha:=hacc i acc σ H p
 by_cases hlt:i < xs.length
 ·refine .inr ⟨⟨xs,xs[i],q,by simp [hlt]⟩,by omega,Pv (i+1),fun acc' σ' H' p'=>⟨xs.length - (i+1),by omega,rfl,hlt,p'⟩,fun x H' y=>?_⟩
  obtain ⟨e,y⟩:=y
  subst e
  exact hs i x acc σ _ (y xs q) p
 ·have e:i=xs.length:=by omega
  subst e
  exact .inl ⟨⟨xs,q,Nat.le_refl _⟩,hd acc σ H p⟩
theorem AV7 {lo:Int}{n:Nat}{g:TG}{tt:TT}{te:TE}{σ:L2.St}{H:Hp}{Q:VK}(Pv:Nat->List V->L2.St->Hp->Prop)(hz:n<=sizeLine)(h0:Pv 0 [] σ H)(hs:∀ i acc σ H,i < n->Pv i acc σ H->g (.int (lo+i)) σ H fun σ2 H2=>tt σ2 H2 fun b H3=>if b=true then te σ2 H3 fun y H4=>Pv (i+1) (acc++[y]) σ2 H4 else Pv (i+1) acc σ2 H3)(hacc:∀ i acc σ H,Pv i acc σ H->acc.length<=i)(hd:∀ acc σ H,Pv n acc σ H->∀ D,H D=none->Q (.ref D) (upd H D (.lst acc))) :
  ∃ W:Nat->Nat->List V->L2.St->Hp->Prop,(∃ m,W 0 m [] σ H)/\∀ i m acc σ H,W i m acc σ H ->
   ((Itr lo n).stop i H/\∀ D,H D=none->Q (.ref D) (upd H D (.lst acc))) \/
   ((Itr lo n).go i H/\acc.length < sizeLine/\∃ N:List V->L2.St->Hp->Prop,(∀ acc' σ' H',N acc' σ' H'->∃ m',m' < m/\W (i+1) m' acc' σ' H') /\
    ∀ x H',(Itr lo n).yld i H x H'->g x σ H' fun σ2 H2=>tt σ2 H2 fun b H3=>if b=true then te σ2 H3 fun y H4=>N (acc++[y]) σ2 H4 else N acc σ2 H3):=by
 refine ⟨fun i m acc σ H=>m=n - i/\i<=n/\Pv i acc σ H,⟨n,by simp,Nat.zero_le _,h0⟩,?_⟩
 rintro i m acc σ H ⟨rfl,hi,p⟩
 have ha:=hacc i acc σ H p
 by_cases hlt:i < n
 ·refine .inr ⟨hlt,by omega,Pv (i+1),fun acc' σ' H' p'=>⟨n - (i+1),by omega,rfl,hlt,p'⟩,fun x H' y=>?_⟩
  obtain ⟨e,y⟩:=y
  subst e y
  exact hs i acc σ _ hlt p
 ·have e:i=n:=by omega
  subst e
  exact .inl ⟨Nat.le_refl _,hd acc σ H p⟩
def CE2 (XN:List Str)(scope:Scope):List Str->List (Option Nat)->Bool
 | _,[]=>true
 | [],_=>true
 | _::r,none::s=>CE2 XN scope r s
 | x::r,some j::s=>decide (XN[j]?=some x) && decide (scope.names.lookup x=some .free) && CE2 XN scope r s
theorem AA5 {XN:List Str}{scope:Scope}:∀ {N:List Str}{ix:List (Option Nat)},CE2 XN scope N ix=true->∀ (i j:Nat) (x:Str),ix[i]?=some (some j)->N[i]?=some x->XN[j]?=some x/\scope.names.lookup x=some .free
 | [],[],_,i,j,x,h1,_=>by simp at h1
 | _::_,[],_,i,j,x,h1,_=>by simp at h1
 | [],_::_,_,i,j,x,_,h2=>by simp at h2
 | y::r,none::s,h,i,j,x,h1,h2=>by
  cases i with
  | zero=>simp at h1
  | succ i=>exact AA5 (N:=r) (ix:=s) h i j x (by simpa using h1) (by simpa using h2)
 | y::r,some k::s,h,i,j,x,h1,h2=>by
  have h':(decide (XN[k]?=some y) && decide (scope.names.lookup y=some .free) && CE2 XN scope r s)=true:=h
  rw [Bool.and_eq_true,Bool.and_eq_true,decide_eq_true_eq,decide_eq_true_eq] at h'
  cases i with
  | zero =>
   simp at h1 h2
   subst h1 h2
   exact h'.1
  | succ i=>exact AA5 h'.2 i j x (by simpa using h1) (by simpa using h2)
def AS5 (XN:List Str)(sc scope:Scope)(N:List Str)(ix:List (Option Nat)):Bool :=
 decide (scope.kind=.function) && decide (∀ y∈scope.names,y.2≠.cell) && decide (∀ y∈scope.names,y.2=.local->scope.names.lookup y.1=some .local) &&
  decide (∀ y∈scope.names,y.2=.free->sc.names.lookup y.1=some .cell\/sc.names.lookup y.1=some .free) && decide (ix.length=N.length) && CE2 XN scope N ix
section
variable {X:Cx}
theorem eH {elt iter tg:Expr}{ifs:List Expr}{scope:Scope}{pos:Pos}{wi:TI}{g:TG}{tt:TT}{te:TE}(N:List Str)(ix:List (Option Nat))(hc:X.calm=true)(hk:AS5 X.N X.env.scope scope N ix=true)(hi:PI X tg iter wi)(hb:∀ cl C s H fp,PG (blk X N scope cl C s H fp) tg g/\PTs (blk X N scope cl C s H fp) ifs tt/\PE (blk X N scope cl C s H fp) elt te)(hs:∀ x,foldedSetIterable iter X.env x=pure x:=by intro _; rfl):PE X (.ListComp elt [⟨tg,iter,ifs,0⟩] scope pos) (xY wi ix g tt te):=by
 unfold AS5 at hk
 simp only [Bool.and_eq_true,decide_eq_true_eq] at hk
 obtain ⟨⟨⟨⟨⟨h1,h2⟩,h3⟩,h4⟩,h5⟩,h6⟩:=hk
 exact BU3 N ix hc h1 h2 h3 h4 h5 (AA5 h6) hi hb hs
theorem BK9 {i:Nat}{y:Str}{elt iter tg:Expr}{ifs:List Expr}{scope:Scope}{pos py spos:Pos}{wi:TI}{g:TG}{tt:TT}{te:TE}(N:List Str)(ix:List (Option Nat))(hc:X.calm=true)(hk:AS5 X.N X.env.scope scope N ix=true)(hN:X.N.Nodup)(hin:X.N[i]?=some y)(hy:X.env.scope.names.lookup y=some .local)(hi:PI X tg iter wi)(hb:∀ cl C s H fp,PG (blk X N scope cl C s H fp) tg g/\PTs (blk X N scope cl C s H fp) ifs tt/\PE (blk X N scope cl C s H fp) elt te)(hsw:swapsWith (.ListComp elt [⟨tg,iter,ifs,0⟩] scope pos) (some (.Name y py)) spos.line X.env=pure true:=by rfl)(hs:∀ x,foldedSetIterable iter X.env x=pure x:=by intro _; rfl):PS X (.Assign [.Name y py] (.ListComp elt [⟨tg,iter,ifs,0⟩] scope pos) spos) (CA8 (xY wi ix g tt te) (AU9 i)):=by
 unfold AS5 at hk
 simp only [Bool.and_eq_true,decide_eq_true_eq] at hk
 obtain ⟨⟨⟨⟨⟨h1,h2⟩,h3⟩,h4⟩,h5⟩,h6⟩:=hk
 exact BU4 N ix hc h1 h2 h3 h4 h5 (AA5 h6) hN hin hy hi hb hsw hs
end
section
variable {X:Cx}
theorem AH6 {pins:List (Addr × Obj)}{σ:L2.St}{H:Hp}{s:Shared}{Q:VK}{u:Str}{t:Tok}{k:Nat}(I:Inv X pins σ H s)(q:Q (.str u) H):EP X pins σ Q (.str u t) { s with toks:=k }:=⟨.str u,H,I.tok k,⟨t,rfl⟩,q⟩
def CN2:V->Option Int->Option Int->Hp->VK->Prop:=fun x lo hi H Q=>∃ u,x=.str u/\u.length<=sizeLine/\Q (.str (Txt.slice u lo hi)) H
theorem AS6:SlR X CN2:=by
 intro pins s σ H x v vl vu lo hi sl Q I rx hs pl pu h
 obtain ⟨u,rfl,hz,q⟩:=h
 obtain ⟨t,rfl⟩:=rx
 refine ⟨"str",_,PySem.F.slot_str_getitem.lookup,typeIs_str _ _ _,?_⟩
 obtain ⟨os,hos,hcs,hds⟩:=hs
 cases pl with
 | none =>
  cases pu with
  | none=>exact wpAny_getItem_str_slice (l:=none) (u:=none) (st:=none) ⟨os,hos,hcs,hds⟩ rfl (post_val_or_str ⟨Nat.le_trans (Txt.slice_le u _ _) hz,fun t' k=>AH6 I q⟩)
  | int j tj=>exact wpAny_getItem_str_slice (l:=none) (u:=some (j,tj)) (st:=none) ⟨os,hos,hcs,hds⟩ rfl (post_val_or_str ⟨Nat.le_trans (Txt.slice_le u _ _) hz,fun t' k=>AH6 I q⟩)
 | int i ti =>
  cases pu with
  | none=>exact wpAny_getItem_str_slice (l:=some (i,ti)) (u:=none) (st:=none) ⟨os,hos,hcs,hds⟩ rfl (post_val_or_str ⟨Nat.le_trans (Txt.slice_le u _ _) hz,fun t' k=>AH6 I q⟩)
  | int j tj=>exact wpAny_getItem_str_slice (l:=some (i,ti)) (u:=some (j,tj)) (st:=none) ⟨os,hos,hcs,hds⟩ rfl (post_val_or_str ⟨Nat.le_trans (Txt.slice_le u _ _) hz,fun t' k=>AH6 I q⟩)
def CN3:V->List V->Hp->VK->Prop:=fun x xs H Q=>∃ u l ts,x=.str u/\xs=[.ref l]/\H l=some (.lst (ts.map V.str))/\JoinOk u ts=true/\Q (.str (Txt.join u ts)) H
theorem AS7:∀ {ts:List Str}{us:List Value},Vals (ts.map V.str) us->∃ l:List (Str × Tok),us=strValues l/\l.map (·.1)=ts
 | [],_,r=>by
  rw [List.map_nil] at r
  cases r
  exact ⟨[],rfl,rfl⟩
 | a::ts,_,r=>by
  rw [List.map_cons] at r
  cases r with
  | cons r1 r2 =>
   obtain ⟨t,rfl⟩:=r1
   obtain ⟨l,rfl,e⟩:=AS7 r2
   exact ⟨(a,t)::l,rfl,by rw [List.map_cons,e]⟩
theorem mX:MtR X "str.join" CN3:=by
 intro pins s σ H x xs v us Q I rx rv h
 obtain ⟨u,l,ts,rfl,rfl,hl,hz,q⟩:=h
 obtain ⟨t,rfl⟩:=rx
 cases rv with
 | cons r1 r2 =>
  cases r2
  cases r1
  obtain ⟨_,its,n,r,e⟩:=I.hok l _ hl
  obtain ⟨ll,rfl,e2⟩:=AS7 r
  exact SC.join (D:=l) (l:=ll) ⟨_,e,rfl,n,rfl⟩ e2 hz fun t' k=>AH6 I q
end
section
variable {K:Frag}{ta te:TE}{tr:TA}{wi:TI}{ix:List (Option Nat)}{g:TG}{tt:TT}{σ:L2.St}{H:Hp}{Q:VK}{QB:Bool->Hp->Prop}
def CompL (K:Frag)(a:Addr)(g:TG)(tt:TT)(te:TE)(Q:VK)(σ:L2.St)(H:Hp):Prop:=∃ W:Nat->Nat->List V->L2.St->Hp->Prop,(∃ m,W 0 m [] σ H)/\∀ i m acc σ H,W i m acc σ H ->
 ((Itl K a).stop i H/\∀ D,H D=none->Q (.ref D) (L2.upd H D (.lst acc))) \/
 ((Itl K a).go i H/\acc.length < sizeLine/\∃ N:List V->L2.St->Hp->Prop,(∀ acc' σ' H',N acc' σ' H'->∃ m',m' < m/\W (i+1) m' acc' σ' H') /\
  ∀ x H',(Itl K a).yld i H x H'->g x σ H' fun σ2 H2=>tt σ2 H2 fun b H3=>if b=true then te σ2 H3 fun y H4=>N (acc++[y]) σ2 H4 else N acc σ2 H3)
def CompR (lo:Int)(n:Nat)(g:TG)(tt:TT)(te:TE)(Q:VK)(σ:L2.St)(H:Hp):Prop:=∃ W:Nat->Nat->List V->L2.St->Hp->Prop,(∃ m,W 0 m [] σ H)/\∀ i m acc σ H,W i m acc σ H ->
 ((Itr lo n).stop i H/\∀ D,H D=none->Q (.ref D) (L2.upd H D (.lst acc))) \/
 ((Itr lo n).go i H/\acc.length < sizeLine/\∃ N:List V->L2.St->Hp->Prop,(∀ acc' σ' H',N acc' σ' H'->∃ m',m' < m/\W (i+1) m' acc' σ' H') /\
  ∀ x H',(Itr lo n).yld i H x H'->g x σ H' fun σ2 H2=>tt σ2 H2 fun b H3=>if b=true then te σ2 H3 fun y H4=>N (acc++[y]) σ2 H4 else N acc σ2 H3)
theorem AM5:xY (BS3 K ta) ix g tt te σ H Q=ta σ H (fun x H1=>isR x fun a=>(∃ xs,SqL K H1 a xs)/\CompL K a g tt te Q (AL3 ix σ) H1):=rfl
theorem AM6:xY (BS4 tr) ix g tt te σ H Q=tr σ H (fun vs H1=>∃ j:Int,vs=[.int j]/\-(2 ^ 62)<=j/\j < 2 ^ 62/\CompR 0 j.toNat g tt te Q (AL3 ix σ) H1):=rfl
theorem BU5:CQ7 σ H QB=QB true H:=rfl
theorem AM7:AL3 [] σ=[]:=rfl
theorem AM8:AL3 (none::ix) σ=none::AL3 ix σ:=rfl
theorem AM9 {j:Nat}:AL3 (some j::ix) σ=((σ[j]?).getD none)::AL3 ix σ:=rfl
theorem CN4 {T:String}{r:V->List V->Hp->VK->Prop}:tBM K T r ta tr σ H Q=ta σ H (fun x H1=>tyV K T x H1/\tr σ H1 (fun xs H2=>r x xs H2 Q)):=rfl
theorem BU6 {T:String}{r:V->List V->Hp->VK->Prop}:CQ5 K T r ta σ H Q=ta σ H (fun x H1=>tyV K T x H1/\r x [] H1 Q):=rfl
theorem BU7 {u:Str}:tyV K "str" (.str u) H=True:=by simp [tyV]
theorem BC2 {u v:Str}:(∃ i j,V.str u=.str i/\V.str v=.str j/\i.length+j.length<=sizeLine/\Q (.str (i++j)) H)=(u.length+v.length<=sizeLine/\Q (.str (u++v)) H):=by simp
theorem BU8 {u:Str}{lo hi:Option Int}:CN2 (.str u) lo hi H Q=(u.length<=sizeLine/\Q (.str (Txt.slice u lo hi)) H):=by simp [CN2]
theorem BC3 {X:Cx}{N:List Str}{scope:Scope}{cl:List (Str × Addr)}{C:Addr}{s:Shared}{fp:List Addr}:(blk X N scope cl C s H fp).K=X.K:=rfl
theorem CompL.by {a:Addr}{xs:List V}(Pv:Nat->List V->L2.St->Hp->Prop)(hz:xs.length<=sizeLine)(h0:Pv 0 [] σ H)(hl:∀ i acc σ H,i<=xs.length->Pv i acc σ H->SqL K H a xs)(hs:∀ i x acc σ H,xs[i]?=some x->Pv i acc σ H->g x σ H fun σ2 H2=>tt σ2 H2 fun b H3=>if b=true then te σ2 H3 fun y H4=>Pv (i+1) (acc++[y]) σ2 H4 else Pv (i+1) acc σ2 H3)(hacc:∀ i acc σ H,Pv i acc σ H->acc.length<=i)(hd:∀ acc σ H,Pv xs.length acc σ H->∀ D,H D=none->Q (.ref D) (L2.upd H D (.lst acc))):CompL K a g tt te Q σ H:=BC1 Pv hz h0 hl hs hacc hd
theorem CompR.by {lo:Int}{n:Nat}(Pv:Nat->List V->L2.St->Hp->Prop)(hz:n<=sizeLine)(h0:Pv 0 [] σ H)(hs:∀ i acc σ H,i < n->Pv i acc σ H->g (.int (lo+i)) σ H fun σ2 H2=>tt σ2 H2 fun b H3=>if b=true then te σ2 H3 fun y H4=>Pv (i+1) (acc++[y]) σ2 H4 else Pv (i+1) acc σ2 H3)(hacc:∀ i acc σ H,Pv i acc σ H->acc.length<=i)(hd:∀ acc σ H,Pv n acc σ H->∀ D,H D=none->Q (.ref D) (L2.upd H D (.lst acc))):CompR lo n g tt te Q σ H:=AV7 Pv hz h0 hs hacc hd
theorem ixs {u:Str}{k:Int}{c:Nat}(hz:u.length<=sizeLine)(hv:atI u.cps.toList k=some c)(q:Q (.str ⟨#[c]⟩) H):CQ4 (.str u) (.int k) H Q:=⟨u,k,c,rfl,rfl,hz,hv,q⟩
end
theorem kH {X:Cx}{x:Str}(h:X.env.kindOf x=some .globalImplicit):Gl X x:=h
def Well3 (H:Hp)(w:Addr):Prop:=∃ a b c:Int,H w=some (.lst [.int a,.int b,.int c])
theorem Well3.same {H H':Hp}{w:Addr}(W:Well3 H w)(s:Same H H'):Well3 H' w:=by
 obtain ⟨a,b,c,h⟩:=W
 exact ⟨a,b,c,s _ _ h⟩
theorem Well3.ne {H:Hp}{w p:Addr}(W:Well3 H w)(h:H p=none):p≠w:=by
 obtain ⟨a,b,c,e⟩:=W
 exact (aQ e h).symm
def aZ (u:Str):Prop:=1<=u.length/\u.length<=8/\∀ c∈u.cps.toList,97<=c/\c<=122
instance (u:Str):Decidable (aZ u):=by unfold aZ; infer_instance
def letters:Str:="abcdefghijklmnopqrstuvwxyz"
theorem BC4 {i:Int}(h0:0<=i)(h1:i < 26):∃ c,atI letters.cps.toList i=some c/\97<=c/\c<=122:=by
 have h:∀ k:Fin 26,∃ c,c < 123/\atI letters.cps.toList ((k.val:Nat):Int)=some c/\97<=c/\c<=122:=by
  intro k
  refine ⟨97+k.val,?_⟩
  revert k
  decide +kernel
 obtain ⟨c,_,e,q⟩:=h ⟨i.toNat,by omega⟩
 have e2:((i.toNat:Nat):Int)=i:=by omega
 rw [e2] at e
 exact ⟨c,e,q⟩
def w8:Str:="bcdefghi"
def axz:Str:="axz"
theorem BU9 {r:Int}(h0:0<=r)(h1:r < 8):(Txt.slice w8 none (some (1+r))).length=(r+1).toNat:=by
 have h:∀ k:Fin 8,(Txt.slice w8 none (some (1+((k.val:Nat):Int)))).length=k.val+1:=by decide +kernel
 have q:=h ⟨r.toNat,by omega⟩
 have e2:((r.toNat:Nat):Int)=r:=by omega
 rw [e2] at q
 rw [q]
 show r.toNat+1=(r+1).toNat
 omega
theorem BL0 {r a k:Int}(h0:0<=r)(h1:r < 8)(a0:0<=a)(a1:a < r+1)(k0:0<=k)(k1:k < 3):∃ c,atI axz.cps.toList k=some c /\
  aZ (Txt.slice (Txt.slice w8 none (some (1+r))) none (some a)++⟨#[c]⟩++Txt.slice (Txt.slice w8 none (some (1+r))) (some (a+1)) none):=by
 have h:∀ (r a:Fin 8) (k:Fin 3),a.val < r.val+1->∃ c∈[97,120,122],atI axz.cps.toList ((k.val:Nat):Int)=some c /\
  aZ (Txt.slice (Txt.slice w8 none (some (1+((r.val:Nat):Int)))) none (some ((a.val:Nat):Int))++⟨#[c]⟩++Txt.slice (Txt.slice w8 none (some (1+((r.val:Nat):Int)))) (some (((a.val:Nat):Int)+1)) none):=by decide +kernel
 obtain ⟨c,_,q⟩:=h ⟨r.toNat,by omega⟩ ⟨a.toNat,by omega⟩ ⟨k.toNat,by omega⟩ (by show a.toNat < r.toNat+1; omega)
 have e1:((r.toNat:Nat):Int)=r:=by omega
 have e2:((a.toNat:Nat):Int)=a:=by omega
 have e3:((k.toNat:Nat):Int)=k:=by omega
 rw [e1,e2,e3] at q
 exact ⟨c,q⟩
theorem wK (u:Str)(h:u.length<=8)(l r:Option Int):(Txt.slice u l r).length<=8:=Nat.le_trans (Txt.slice_le u l r) h
theorem AS8:∀ ts:List Str,(∀ t∈ts,∃ c,t=⟨#[c]⟩/\97<=c/\c<=122)->(Str.join Str.empty ts).length=ts.length/\∀ c∈(Str.join Str.empty ts).cps.toList,97<=c/\c<=122
 | [],_=>⟨rfl,fun c hc=>by cases hc⟩
 | [x],h=>by
  obtain ⟨c,rfl,q⟩:=h x List.mem_cons_self
  refine ⟨rfl,fun c' hc=>?_⟩
  have e:c'=c:=by simpa [Str.join] using hc
  subst e
  exact q
 | x::y::r,h=>by
  obtain ⟨i1,i2⟩:=AS8 (y::r) fun t ht=>h t (List.mem_cons_of_mem _ ht)
  obtain ⟨c,rfl,q⟩:=h x List.mem_cons_self
  show ((⟨#[c]⟩:Str)++Str.empty++Str.join Str.empty (y::r)).length=_/\∀ c'∈((⟨#[c]⟩:Str)++Str.empty++Str.join Str.empty (y::r)).cps.toList,_
  refine ⟨?_,fun c' hc=>?_⟩
  ·rw [Str.length_append,Str.length_append,i1]
   show 1+0+(y::r).length=(y::r).length+1
   omega
  ·have hc':c'∈((#[c]++#[])++(Str.join Str.empty (y::r)).cps).toList:=hc
   rw [Array.toList_append] at hc'
   rcases List.mem_append.mp hc' with z | z
   ·have e:c'=c:=by simpa using z
    subst e
    exact q
   ·exact i2 c' z
theorem BC5 {ts:List Str}(h:∀ t∈ts,∃ c,t=⟨#[c]⟩/\97<=c/\c<=122)(h1:1<=ts.length)(h8:ts.length<=8):JoinOk Str.empty ts=true/\aZ (Txt.join Str.empty ts):=by
 obtain ⟨i1,i2⟩:=AS8 ts h
 have hj:Txt.join Str.empty ts=Str.join Str.empty ts:=StrLaws.glued_eq_join _ _
 refine ⟨?_,?_⟩
 ·unfold JoinOk Builtin.Str.tooLong
  rw [StrLaws.joinTotal]
  have hs:∀ l:List Str,(∀ t∈l,∃ c,t=⟨#[c]⟩/\97<=c/\c<=122)->(l.map (·.length)).sum=l.length:=by
   intro l
   induction l with
   | nil=>intro _; rfl
   | cons x r ih =>
    intro hl
    obtain ⟨c,rfl,_⟩:=hl x List.mem_cons_self
    rw [List.map_cons,List.sum_cons,ih fun t ht=>hl t (List.mem_cons_of_mem _ ht),List.length_cons]
    show 1+r.length=r.length+1
    omega
  rw [hs ts h]
  have e:Str.empty.length=0:=rfl
  rw [e]
  have z:(1000:Nat) < sizeLine:=by decide
  rw [Bool.not_eq_true',decide_eq_false_iff_not]
  omega
 ·rw [hj]
  exact ⟨by omega,by omega,i2⟩
structure CalC (P:Program) (w:World) (K:Frag) (mg:Str->Option Value) (base:Heap) (x:Str) (C:Addr) (ps:List Str) (k:Nat) (sp:Sp):Prop where
 ex:∃ f fd,FnOk P w K mg base (CXF P w) k f fd ps sp/\Binds K fd ps []/\Mk K C f/\mg x=some (.ref C)
structure CalM (P:Program) (w:World) (K:Frag) (mg:Str->Option Value) (base:Heap) (C:Addr) (m:Str) (ps:List Str) (k:Nat) (sp:Sp):Prop where
 ex:∃ f fd,FnOk P w K mg base (CXF P w) k f fd ps sp/\Binds K fd ps []/\Meth K C m f/\Cls K C
section
variable {X:Cx}{x m:Str}{C:Addr}{ps:List Str}{k:Nat}{sp:Sp}{e o:Expr}{es:List Expr}{ta:TE}{t:TA}{p pos apos:Pos}{E:XK}
theorem mL (c:CalC X.prog X.w X.K X.mg X.base x C ps k sp)(hx:jQ (CXF X.prog X.w) X E)(hr:Room (k+1) X.A)(hg:Gl X x)(ha:PA X (e::es) t)(hdb:(x == ("__debug__":Str))=false:=by decide)(he:starEach (e::es) X.env=(false,eval e X.env)::starEach es X.env:=by rfl)(hpl:(backTo pos (starEach es X.env)).any (·.1)=false:=by rfl) :
  PE X (.Call (.Name x p) (e::es) [] pos) (BK0 C sp [] E t):=by
 obtain ⟨f,fd,F,b,M,hm⟩:=c.ex
 exact AZ9 M F hr hg hm b .nil hx ha hdb he hpl
def AS9 (Mm:Addr->Sp->Prop)(m:Str)(E:XK)(ta:TE)(t:TA):TE:=fun σ H Q=>ta σ H fun x H1=>isR x fun a=>∃ C dx fs,H1 a=some (.ins C dx fs)/\fs.lookup m=none/\∃ sp,Mm C sp /\
 t σ H1 fun vs H2=>sp (x::vs) H2 Q E
theorem AN0 {Mm:Addr->Sp->Prop}{σ:L2.St}{H:Hp}{Q:VK}:AS9 Mm m E ta t σ H Q=ta σ H (fun x H1=>isR x fun a=>∃ C dx fs,H1 a=some (.ins C dx fs)/\fs.lookup m=none/\∃ sp,Mm C sp /\
 t σ H1 fun vs H2=>sp (x::vs) H2 Q E):=rfl
theorem dE {pl:Sem Bool}{Mm:Addr->Sp->Prop}(he:PE X o ta)(hM:∀ C sp,Mm C sp->CalM X.prog X.w X.K X.mg X.base C m ps k sp)(hx:jQ (CXF X.prog X.w) X E)(hr:Room k X.A)(ha:PA X (e::es) t)(hst:starEach (e::es) X.env=(false,eval e X.env)::starEach es X.env:=by rfl)(hpl:(backTo pos (starEach es X.env)).any (·.1)=false:=by rfl)(ht:eval (.Call (.Attribute o m apos) (e::es) [] pos) X.env=(do
   let ov <- eval o X.env
   standAt apos.atName
   let (f,first) <- holding [ov] (getMethod ov m pl)
   callWith pos f first (backTo pos (starEach (e::es) X.env)) (backToKw pos (keywordEach [] X.env))):=by rfl) :
  PE X (.Call (.Attribute o m apos) (e::es) [] pos) (AS9 Mm m E ta t):=by
 intro pins s σ H Q I h
 refine methodCall_KW (pl:=pl) (thn (he pins s σ H _ I h) fun u s1 ⟨x,H1,I1,rx,qq⟩=>?_) ht
 obtain ⟨a,ex,C,dx,fs,ea,l,sp,hC,q⟩:=isR.ex qq
 subst ex
 obtain rfl:u=Value.ref a:=rx
 obtain ⟨f,fd,F,b,hm,c⟩:=(hM C sp hC).ex
 refine sK I1 ea c hm l ?_
 refine callWith_K (first:=[.ref a]) (h₀:=X.base) I.ok.mod.kin hm.kp (thn (ha pos pins s1 σ H1 _ I1 q) fun us s2 ⟨vs,H2,I2,r,q2⟩=>⟨I2.kIn,?_⟩) hst hpl
 refine AR6 (us:=.ref a::us) (vs:=.ref a::vs) F hr b .nil hx I2 (.cons rfl r) ?_
 rw [List.append_nil]
 exact q2
theorem aR {pl:Sem Bool}{Mm:Addr->Sp->Prop}(he:PE X o ta)(hM:∀ C sp,Mm C sp->CalM X.prog X.w X.K X.mg X.base C m ps k sp)(hx:jQ (CXF X.prog X.w) X E)(hr:Room k X.A)(ht:eval (.Call (.Attribute o m apos) [] [] pos) X.env=(do
   let ov <- eval o X.env
   standAt apos.atName
   let (f,first) <- holding [ov] (getMethod ov m pl)
   callWith pos f first (backTo pos (starEach [] X.env)) (backToKw pos (keywordEach [] X.env))):=by rfl) :
  PE X (.Call (.Attribute o m apos) [] [] pos) (AS9 Mm m E ta CD0):=by
 intro pins s σ H Q I h
 refine methodCall_KW (pl:=pl) (thn (he pins s σ H _ I h) fun u s1 ⟨x,H1,I1,rx,qq⟩=>?_) ht
 obtain ⟨a,ex,C,dx,fs,ea,l,sp,hC,q⟩:=isR.ex qq
 subst ex
 obtain rfl:u=Value.ref a:=rx
 obtain ⟨f,fd,F,b,hm,c⟩:=(hM C sp hC).ex
 refine sK I1 ea c hm l ?_
 exact callWith_K0 (first:=[.ref a]) I1.kIn hm.kp (AR6 (us:=[.ref a]) (vs:=[.ref a]) F hr b .nil hx I1 (.cons rfl .nil) q)
structure MkN (K:Frag) (C:Addr):Prop where
 makes:makesIn K C=true
 init:findIn K (.ref C) "__init__"=some (some (.builtin "object.__init__"))
 kp:keepIn K (.ref C)=true
def BQ1 (C:Addr):TE:=fun _ H Q=>∀ x dx,H x=none->H dx=none->dx≠x->Q (.ref x) (L2.upd (L2.upd H dx (.own x)) x (.ins C dx []))
theorem AN1 {σ:L2.St}{H:Hp}{Q:VK}:BQ1 C σ H Q=∀ x dx,H x=none->H dx=none->dx≠x->Q (.ref x) (L2.upd (L2.upd H dx (.own x)) x (.ins C dx [])):=rfl
theorem AN2 (M:MkN X.K C)(hg:Gl X x)(hm:X.mg x=some (.ref C))(hdb:(x == ("__debug__":Str))=false:=by decide):PE X (.Call (.Name x p) [] [] pos) (BQ1 C):=by
 intro pins s σ H Q I h
 refine wpAny_Call_Name_kw (iT I hg hm ?_ hdb)
 refine callWith_K0 I.kIn M.kp ?_
 have hq:=h (s.heap.objs.size+1) s.heap.objs.size (I.hok.fresh (Nat.le_succ _)) (I.hok.fresh (Nat.le_refl _)) (Nat.ne_of_lt (Nat.lt_succ_self _))
 have I2:=Inv.made (C:=C) I
 have Y:=makes_of (M:=model X.prog X.w) I.kIn M.makes
 refine wpAny_call (AZ8 I.kIn M.makes M.init (fun self=>Looks.of_pure (oi_bind self)) ?_)
 obtain ⟨hh,g,d,tt,os⟩:=s
 have t1:Looks (model X.prog X.w) ((hh.push emptyDict).push (instObj C hh.objs.size)) (typeOf (.ref (hh.objs.size+1))) (.ref C):=by
  obtain ⟨mA,O,_⟩:=sJ (a:=hh.objs.size+1) (C:=C) (dx:=hh.objs.size) (fs:=[]) I2.hok aA
  obtain ⟨od,J,_⟩:=O.look
  exact J.type
 have t2:Looks (model X.prog X.w) ((hh.push emptyDict).push (instObj C hh.objs.size)) (isInstance (.ref (hh.objs.size+1)) (.type "object")) true :=
  t1.andThen (Y.top.keeps fun b o e=>Heap.get?_push_of_some _ (Heap.get?_push_of_some _ e))
 refine codeAny_call_builtin oi_plain entry_oi (@check_slot (model X.prog X.w) _ _ _ "object.__init__" "object" "__init__" (.ref (hh.objs.size+1)) [] [] _ oi_kind oi_split t2 (oi_args (.ref (hh.objs.size+1))) ?_)
 rw [oi_run]
 exact wpAny_pure (And.intro rfl ⟨V.ref (hh.objs.size+1),_,I2,rfl,hq⟩)
end
def CE3 (K:Frag):List V->Hp->VK->Prop:=fun xs H Q=>∃ (x:V) (c:Addr) (t:Value) (b:Bool),xs=[x,.ref c]/\TyOf K H x t/\kitOne K t (.ref c)=some b/\Q (.bl b) H
theorem BC6 {X:Cx}:mM X (.builtin "isinstance") (CE3 X.K):=by
 intro pins s σ H xs us Q I r h
 obtain ⟨x,c,t,b,rfl,ty,e,q⟩:=h
 obtain ⟨u,w',rfl,rx,rc⟩:=BJ6 r
 cases (show w'=Value.ref c from rc)
 exact wD I rx ty e fun tk=>⟨.bl b,H,I.tok _,rfl,q⟩
section
variable {K:Frag}{C:Addr}{sp:Sp}{dvs:List V}{E:XK}{ta tv:TE}{t:TA}{f:Str}{σ:L2.St}{H:Hp}{Q:VK}{D:Ends}{n:Nat}{ts:TGs}{v:V}{QS:L2.St->Hp->Prop}{g:TG}
theorem BC7:BK0 C sp dvs E t σ H Q=t σ H (fun vs H1=>∀ x dx,H1 x=none->H1 dx=none->dx≠x ->
 sp (.ref x::(vs++dvs)) (L2.upd (L2.upd H1 dx (.own x)) x (.ins C dx [])) (fun v H2=>v=.non/\Q (.ref x) H2) E):=rfl
theorem BV0:CP9 K ta f σ H Q=ta σ H (fun x H1=>isR x fun a=>∃ C dx fs,H1 a=some (.ins C dx fs)/\Cls K C/\NoAttr K C f/\∃ v,fs.lookup f=some v/\Q v H1):=rfl
theorem BC8:CK2 K n ts v σ H QS=isR v (fun a=>∃ xs,SqT K H a xs/\xs.length=n/\ts xs σ H QS):=rfl
theorem AN3 {vs:List V}:CC6 g ts vs σ H QS=isC vs (fun v r=>g v σ H (fun σ' H'=>ts r σ' H' QS)):=rfl
theorem BC9:CQ0 K ta tv f D σ H=tv σ H (fun y H1=>ta σ H1 (fun x H2=>isR x fun a=>∃ C dx fs,H2 a=some (.ins C dx fs)/\Cls K C/\NoAttr K C f/\fs.length < 1000 /\
 D.nx σ (L2.upd H2 a (.ins C dx (oO f y fs))))):=rfl
theorem BD0 {vs:List V}:CP6 vs σ H QS=isN vs (QS σ H):=rfl
end
theorem FnOk.lift {P:Program}{w:World}{K:Frag}{mg:Str->Option Value}{base:Heap}{CX:CXT}{j k:Nat}{f:Addr}{fd:FuncData}{ps:List Str}{sp:Sp}(F:FnOk P w K mg base CX j f fd ps sp)(h:j<=k):FnOk P w K mg base CX k f fd ps sp :=
 ⟨F.len,fun A outer s H args us vs Q E hr he hb hv hs=>F.run A outer s H args us vs Q E (hr.mono h) he hb hv hs⟩
theorem bT {H:Hp}{x dx:Addr}{o o':HO}(hx:H x=none)(hd:H dx=none):Same H (L2.upd (L2.upd H dx o) x o'):=fun b u q=>by
 rw [aG (aQ q hx),aG (aQ q hd)]
 exact q
structure ClsK (K:Frag) (C:Addr):Prop where
 cl:Cls K C
 ha:findIn K (.ref C) "__class__"=some (some (.builtin "object.__class__"))
 hn:specialIn K (.builtin "object.__class__") "__get__"=some (some (.builtin "getset_descriptor.__get__"))
 ht:takesIn K (.builtin "object.__class__")=some true
 hm:mroIn K C (.type "object")=some true
theorem ClsK.ty {K:Frag}{C:Addr}(c:ClsK K C){H:Hp}{a dx:Addr}{fs:List (Str × V)}(e:H a=some (.ins C dx fs)):TyOf K H (.ref a) (.ref C):=.ins e c.cl c.ha c.hn c.ht c.hm
theorem pB {X:Cx}{K:Frag}(hK:X.K=K):mM X (.builtin "isinstance") (CE3 K):=by
 subst hK
 exact BC6
def zH:Expr->Bool
 | .Starred _ _=>true
 | _=>false
theorem aD:∀ (e:Expr) (es:List Expr) (env:Env),zH e=false->starEach (e::es) env=(false,eval e env)::starEach es env:=by
 intro e es env h
 cases e <;> first | rfl | (cases h)
def AH7:List Expr->Bool
 | []=>true
 | e::r=>!zH e && AH7 r
theorem aF {pos:Pos}{env:Env}:∀ {es:List Expr},AH7 es=true->(backTo pos (starEach es env)).any (·.1)=false
 | [],_=>rfl
 | e::r,h=>by
  have h':(!zH e)=true/\AH7 r=true:=by simpa [AH7] using h
  rw [aD e r env (by simpa using h'.1)]
  have ih:=aF (pos:=pos) (env:=env) h'.2
  have e1:backTo pos ((false,eval e env)::starEach r env)=(false,eval e env)::backTo pos (starEach r env):=rfl
  rw [e1,List.any_cons,ih]
  rfl
theorem CR9 {X:Cx}{e:Expr}{es:List Expr}{te:TE}{t:TA}(ha:PE X e te)(hr:PA X es t)(hs:zH e=false:=by rfl):PA X (e::es) (BJ9 te t):=BS9 ha hr (aD e es X.env hs)
structure QA (X:Cx) (es:List Expr) (t:TA):Prop where
 h:PA X es t
theorem aC {X:Cx}:QA X [] CD0:=⟨CD1⟩
theorem aL {X:Cx}{e:Expr}{es:List Expr}{te:TE}{t:TA}(ha:PE X e te)(hr:QA X es t)(hs:zH e=false:=by rfl):QA X (e::es) (BJ9 te t):=⟨CR9 ha hr.h hs⟩
theorem aK {X:Cx}{es:List Expr}{t:TA}(h:QA X es t):PA X es t:=h.h
def AT0:V->Bool
 | .int _=>true
 | _=>false
def mY (x:V)(lo hi:Int):Bool:=match x with
 | .int i=>decide (lo<=i) && decide (i<=hi)
 | _=>false
def AA6 (x:V)(lo:Int):Bool:=match x with
 | .int i=>decide (lo<=i)
 | _=>false
def CN5 (t u:TS):TS:=fun D σ H=>∃ M:L2.St->Hp->Prop,t { D with nx:=M } σ H/\∀ σ' H',M σ' H'->u D σ' H'
theorem BV1 {t u:TS}{D:Ends}{σ:L2.St}{H:Hp}:CN5 t u D σ H=∃ M:L2.St->Hp->Prop,t { D with nx:=M } σ H/\∀ σ' H',M σ' H'->u D σ' H':=rfl
theorem BV2 {X:Cx}{st:Stmt}{rest:List Stmt}{t u:TS}(h1:PS X st t)(h2:PSs X rest u):PSs X (st::rest) (CN5 t u):=by
 intro pins s σ H D I h
 obtain ⟨M,ha,hb⟩:=h
 refine wpAny_execs_cons (thn (h1 pins s σ H { D with nx:=M } I ha) fun f s1 q=>?_)
 cases f with
 | next =>
  obtain ⟨σ',H',I',q⟩:=q
  exact h2 pins s1 σ' H' D I' (hb _ _ q)
 | ret v=>exact q
 | brk=>exact q
 | cont=>exact q
def eN (u:Str):Bool:=u.cps.all (· < 128)
def Its (u:Str):It:=⟨fun i _=>i < u.cps.size,fun i H x H'=>H'=H/\∃ c,u.cps[i]?=some c/\x=.str ⟨#[c]⟩,fun i _=>u.cps.size<=i⟩
theorem BL1 {P:Program}{w:World}{K:Frag}{tg:Expr}(u:Str)(t:Tok)(it:Addr):Turn P w K tg (Its u) [it] it (fun i h=>h.IsStrIter it "str_ascii_iterator" u t i) where
 mem:=by simp
 obj:=fun i h st b hb=>by
  have e:b=it:=by simpa using hb
  subst e
  obtain ⟨o,e,c,d⟩:=st
  exact ⟨o,e,fun v z=>by rw [d] at z; cases z⟩
 keep:=fun i h h' st k=>by
  obtain ⟨o,e,c,d⟩:=st
  exact ⟨o,k it (by simp) o e,c,d⟩
 item:=by
  intro X hP hw hK hc i pins s σ H E I hf st hg
  subst hP hw hK
  have hx:u.cps[i]?=some u.cps[i]:=Array.getElem?_eq_getElem hg
  obtain ⟨f0,f1,f2,f3,f4,f5⟩:=hf it (by simp)
  refine wpAny_pyNext_ascii_item st hx fun h' st' sb=>?_
  have I1:Inv X pins σ H { s with heap:=h',toks:=s.toks+1 }:=I.turned (t':=s.toks+1) (fun b o hb e=>(sb.2 b hb).trans e) f0 f1 f3 f4 f5
  obtain ⟨o,e,c,d⟩:=id st'
  exact ⟨_,rfl,BJ2 (s:={ s with heap:=h',toks:=s.toks+1 }) e c d (by decide) ⟨.str ⟨#[u.cps[i]]⟩,H,I1,⟨_,rfl⟩,⟨rfl,_,hx,rfl⟩,st',fun b hb=>(hf b hb).1⟩⟩
 done:=by
  intro X hP hw hK hc i pins s σ H E I hf st hg
  subst hP hw hK
  obtain ⟨f0,f1,f2,f3,f4,f5⟩:=hf it (by simp)
  exact wpAny_pyNext_ascii_end (I.ok.hd hc) st (Array.getElem?_eq_none hg) fun h' eb=>⟨rfl,I.turned (t':=s.toks) (fun b o hb e=>eb b o hb e) f0 f1 f3 f4 f5⟩
 self:=fun _ _ _ _ _ st h=>wpAny_pyIter_striter_ascii st h
def CQ8 (tl:TE):TI:=fun σ H R=>tl σ H fun x H1=>∃ u,x=.str u/\eN u=true/\R (Its u) H1
theorem BQ2 {X:Cx}{tg l:Expr}{tl:TE}(hl:PE X l tl):PI X tg l (CQ8 tl):=by
 intro pins s σ H R I h
 refine thn (hl pins s σ H _ I h) fun v s1 ⟨x,H1,I1,r1,q1⟩=>?_
 obtain ⟨u,e,hp,q⟩:=q1
 subst e
 obtain ⟨t,rfl⟩:=r1
 refine wpAny_pyIter_ascii hp ?_
 refine ⟨s1.heap.objs.size,[s1.heap.objs.size],_,_,H1,rfl,I1.kept (t':=s1.toks) fun b o e=>Heap.get?_push_of_some _ e,BL1 u t _,⟨_,Heap.get?_push_size _ rfl,rfl,rfl⟩,fun b hb=>?_,q⟩
 have e:b=s1.heap.objs.size:=by simpa using hb
 subst e
 exact I1.fpOk (Nat.le_refl _) (I1.hok.fresh (Nat.le_refl _))
section
variable {K:Frag}{ta te:TE}{ix:List (Option Nat)}{g:TG}{tt:TT}{σ:L2.St}{H:Hp}{Q:VK}
def CompS (u:Str)(g:TG)(tt:TT)(te:TE)(Q:VK)(σ:L2.St)(H:Hp):Prop:=∃ W:Nat->Nat->List V->L2.St->Hp->Prop,(∃ m,W 0 m [] σ H)/\∀ i m acc σ H,W i m acc σ H ->
 ((Its u).stop i H/\∀ D,H D=none->Q (.ref D) (L2.upd H D (.lst acc))) \/
 ((Its u).go i H/\acc.length < sizeLine/\∃ N:List V->L2.St->Hp->Prop,(∀ acc' σ' H',N acc' σ' H'->∃ m',m' < m/\W (i+1) m' acc' σ' H') /\
  ∀ x H',(Its u).yld i H x H'->g x σ H' fun σ2 H2=>tt σ2 H2 fun b H3=>if b=true then te σ2 H3 fun y H4=>N (acc++[y]) σ2 H4 else N acc σ2 H3)
theorem AN4:xY (CQ8 ta) ix g tt te σ H Q=ta σ H (fun x H1=>∃ u,x=.str u/\eN u=true/\CompS u g tt te Q (AL3 ix σ) H1):=rfl
theorem CompS.by {u:Str}(Pv:Nat->List V->L2.St->Hp->Prop)(hz:u.cps.size<=sizeLine)(h0:Pv 0 [] σ H)(hs:∀ i c acc σ H,u.cps[i]?=some c->Pv i acc σ H->g (.str ⟨#[c]⟩) σ H fun σ2 H2=>tt σ2 H2 fun b H3=>if b=true then te σ2 H3 fun y H4=>Pv (i+1) (acc++[y]) σ2 H4 else Pv (i+1) acc σ2 H3)(hacc:∀ i acc σ H,Pv i acc σ H->acc.length<=i)(hd:∀ acc σ H,Pv u.cps.size acc σ H->∀ D,H D=none->Q (.ref D) (L2.upd H D (.lst acc))):CompS u g tt te Q σ H:=by
  refine ⟨fun i m acc σ H=>m=u.cps.size - i/\i<=u.cps.size/\Pv i acc σ H,⟨u.cps.size,by simp,Nat.zero_le _,h0⟩,?_⟩
  rintro i m acc σ H ⟨rfl,hi,p⟩
  have ha:=hacc i acc σ H p
  by_cases hlt:i < u.cps.size
  · refine .inr ⟨hlt,by omega,Pv (i+1),fun acc' σ' H' p'=>⟨u.cps.size - (i+1),by omega,rfl,hlt,p'⟩,fun x H' y=>?_⟩
    obtain ⟨e,c,hc,y⟩:=y
    subst e y
    exact hs i c acc σ _ hc p
  · have e:i=u.cps.size:=by omega
    subst e
    exact .inl ⟨Nat.le_refl _,hd acc σ H p⟩
end
theorem AT1:∀ {bs:List Bool}{its:List Value},Vals (bs.map V.bl) its->∀ (i:Nat) (v:Value),its[i]?=some v->∃ b:Bool,bs[i]?=some b/\v=Value.bool b
 | [],_,r,i,v,h=>by
  rw [List.map_nil] at r
  cases r
  simp at h
 | b::bs,_,r,i,v,h=>by
  rw [List.map_cons] at r
  cases r with
  | cons r1 r2 =>
   cases i with
   | zero =>
    simp at h
    subst h
    exact ⟨b,rfl,r1⟩
   | succ i=>exact AT1 r2 i v (by simpa using h)
theorem vQ {X:Cx}(hc:X.calm=true):mM X (.builtin "all") (fun xs H Q=>∃ (a:Addr) (bs:List Bool),xs=[.ref a]/\SqL X.K H a (bs.map V.bl)/\Q (.bl (bs.all id)) H):=by
 intro pins s σ H xs us Q I r h
 obtain ⟨a,bs,rfl,hS,q⟩:=h
 obtain ⟨u,rfl,ru⟩:=sI r
 cases ru
 obtain ⟨its,rv,pl,hz⟩:=I.list hS
 have hl:s.heap.IsList a its.toArray:=pl.isList
 have hlt:a < s.heap.objs.size:=by obtain ⟨_,e,_⟩:=hl; exact Heap.lt_size e
 refine call_all_walk (wpAny_pyIter_list hl ?_)
 refine ⟨s.heap.objs.size,[s.heap.objs.size,a],[s.heap.objs.size],its.toArray.size,_,_,fun i=>(bs[i]?).getD true,rfl,Walks.list (A:=X.A.in1) (I.ok.hd hc) _ a (Nat.ne_of_lt hlt) its.toArray,
  ⟨⟨_,Heap.get?_push_size _ rfl,rfl,rfl⟩,hl.push _⟩,fun i v s' Q' E' hP hQ=>?_,fun h' tk hk=>?_⟩
 ·obtain ⟨b,e,rfl⟩:=AT1 rv i v (by simpa using hP)
  simp only [e,Option.getD_some] at hQ
  exact wpAny_truthy_bool hQ
 ·have hn:its.toArray.size=bs.length:=by
   have:=rv.length
   rw [List.length_map] at this
   simpa using this.symm
  have e:((List.range its.toArray.size).all fun i=>(bs[i]?).getD true)=bs.all id:=by
   rw [hn,Bool.eq_iff_iff,List.all_eq_true,List.all_eq_true]
   constructor
   ·intro z b hb
    obtain ⟨i,hi,rfl⟩:=List.getElem_of_mem hb
    have:=z i (List.mem_range.mpr hi)
    simpa [List.getElem?_eq_getElem hi] using this
   ·intro z i hi
    have hi':=List.mem_range.mp hi
    simp only [List.getElem?_eq_getElem hi',Option.getD_some]
    exact z _ (List.getElem_mem hi')
  rw [e]
  refine ⟨.bl _,H,I.kept (t':=tk) fun b o eb=>hk b o (fun hm=>by rw [List.mem_singleton.mp hm] at eb; exact Nat.lt_irrefl _ (Heap.lt_size eb)) (Heap.get?_push_of_some _ eb),rfl,q⟩
def okN (H:Hp):V->Prop
 | .non=>True
 | .bl _=>True
 | .int _=>True
 | .str u=>eN u=true/\u.length<=1000
 | .ref a=>(∃ xs,H a=some (.lst xs))\/(∃ xs,H a=some (.tup xs))\/∃ kvs,H a=some (.dK kvs)
 | _=>False
def wL:V->Bool
 | .str _=>true
 | _=>false
theorem okN.ty {K:Frag}{H:Hp}{x:V}(h:okN H x):∃ T,TyOf K H x (.type T)/\kitOne K (.type T) (.type "str")=some (wL x):=by
 cases x with
 | non=>exact ⟨_,.non,by kernel_rfl⟩
 | bl b=>exact ⟨_,.bl b,by kernel_rfl⟩
 | int i=>exact ⟨_,.int i,by kernel_rfl⟩
 | str i=>exact ⟨_,.str i,by kernel_rfl⟩
 | ref a =>
  rcases h with ⟨xs,e⟩ | ⟨xs,e⟩ | ⟨xs,e⟩
  ·exact ⟨_,.lst e,by kernel_rfl⟩
  ·exact ⟨_,.tup e,by kernel_rfl⟩
  ·exact ⟨_,.dK e,by kernel_rfl⟩
 | _=>exact h.elim
theorem AH8 {X:Cx}:mM X (.builtin "isinstance") (fun xs H Q=>∃ x,xs=[x,.ty "str"]/\okN H x/\Q (.bl (wL x)) H):=by
 intro pins s σ H xs us Q I r h
 obtain ⟨x,rfl,ok,q⟩:=h
 obtain ⟨T,ty,e⟩:=ok.ty (K:=X.K)
 exact BT1 I r ty e q
theorem okN.same {H H':Hp}{x:V}(h:okN H x)(s:Same H H'):okN H' x:=by
 cases x with
 | ref a =>
  rcases h with ⟨xs,e⟩ | ⟨xs,e⟩ | ⟨xs,e⟩
  ·exact .inl ⟨xs,s _ _ e⟩
  ·exact .inr (.inl ⟨xs,s _ _ e⟩)
  ·exact .inr (.inr ⟨xs,s _ _ e⟩)
 | non=>trivial
 | bl _=>trivial
 | int _=>trivial
 | str _=>exact h
 | _=>exact h.elim
def iL:V->Bool
 | .str u=>decide (aZ u)
 | _=>false
theorem zI {c:Nat}(h:c < 128):(!(Builtin.Str.occurrences letters ⟨#[c]⟩ 0 letters.length 1).isEmpty)=decide (97<=c/\c<=122):=by
 have q:∀ k:Fin 128,(!(Builtin.Str.occurrences letters ⟨#[k.val]⟩ 0 letters.length 1).isEmpty)=decide (97<=k.val/\k.val<=122):=by decide +kernel
 exact q ⟨c,h⟩
def LetS (u:Str):Prop:=∀ c∈u.cps.toList,97<=c/\c<=122
def Sm (u:Str):Prop:=eN u=true/\u.length<=100
theorem plain_iff {u:Str}:eN u=true ↔ ∀ c∈u.cps.toList,c < 128:=by
 unfold eN
 rw [Array.all_eq_true']
 constructor
 ·intro h c hc
  have:=h c (by simpa using hc)
  simpa using this
 ·intro h c hc
  have:=h c (by simpa using hc)
  simpa using this
theorem LetS.plain {u:Str}(h:LetS u):eN u=true:=plain_iff.mpr fun c hc=>by have:=h c hc; omega
theorem BL2 {u:Str}(h:aZ u):LetS u:=h.2.2
theorem sQ {u:Str}(h:aZ u):Sm u:=⟨(BL2 h).plain,by have:=h.2.1; omega⟩
theorem BD1 {u:Str}{l r:Option Int}{c:Nat}(h:c∈(Txt.slice u l r).cps.toList):c∈u.cps.toList:=by
 unfold Txt.slice at h
 split at h
 ·exact h
 ·simp only [List.mem_filterMap] at h
  obtain ⟨i,_,e⟩:=h
  exact Array.mem_toList_iff.mpr (Array.mem_of_getElem? e)
theorem BL3 {u:Str}(h:eN u=true):(u.cps.toList.map fun c=>!(Builtin.Str.occurrences letters ⟨#[c]⟩ 0 letters.length 1).isEmpty).all id=decide (∀ c∈u.cps.toList,97<=c/\c<=122):=by
 rw [Bool.eq_iff_iff,List.all_eq_true,decide_eq_true_eq]
 constructor
 ·intro z c hc
  have q:=z _ (List.mem_map.mpr ⟨c,hc,rfl⟩)
  rw [zI (plain_iff.mp h c hc)] at q
  simpa using q
 ·intro z b hb
  obtain ⟨c,hc,rfl⟩:=List.mem_map.mp hb
  rw [zI (plain_iff.mp h c hc)]
  simpa using z c hc
structure QE (X:Cx) (e:Expr) (t:TE):Prop where
 h:PE X e t
structure QS (X:Cx) (st:Stmt) (t:TS):Prop where
 h:PS X st t
structure QSs (X:Cx) (sts:List Stmt) (t:TS):Prop where
 h:PSs X sts t
section
variable {X:Cx}{e a b c:Expr}{es:List Expr}{st:Stmt}{rest sa sb:List Stmt}{te ta tb:TE}{tl:TA}{tc:TT}{t u:TS}{pos pos':Pos}{x:Str}{i:Nat}
theorem aS (h:PE X e te):QE X e te:=⟨h⟩
theorem bN (h:PS X st t):QS X st t:=⟨h⟩
theorem aW (h:QSs X rest t):PSs X rest t:=h.h
theorem iW (h:QA X es tl):QE X (.List es pos) (CK6 tl):=⟨mK h.h⟩
theorem BV3 {op:Operator}{r:R2}(ho:OpR X (binaryOp op) r)(ha:QE X a ta)(hb:QE X b tb):QE X (.BinOp a op b pos) (tOp r ta tb):=⟨bL ho ha.h hb.h⟩
theorem BV4 {r:R2}(hr:IxR X r)(ha:QE X a ta)(hb:QE X b tb)(hs:BA3 b):QE X (.Subscript a b pos) (tOp r ta tb):=⟨gB hr ha.h hb.h hs⟩
theorem aV (he:QE X e te):QS X (.Return (some e) pos) (CI9 te):=⟨CC4 he.h⟩
theorem bA (hN:X.N.Nodup)(hi:X.N[i]?=some x)(hx:Loc X.env.scope x)(he:QE X e te)(hs:swapsWith e (some (.Name x pos')) pos.line X.env=pure false)(hf:X.fn x=true\/X.env.scope.names.lookup x=some .local:=by first | exact .inl rfl | exact .inr rfl | assumption) :
  QS X (.Assign [.Name x pos'] e pos) (CA8 te (AU9 i)):=⟨CC7 hN hi hx he.h hs hf⟩
theorem bK (hc:PT X c tc)(ha:QSs X sa t)(hb:QSs X sb u):QS X (.If c sa sb pos) (CK0 tc t u):=⟨CK1 hc ha.h hb.h⟩
theorem aU:QSs X [] BS1:=⟨BS2⟩
theorem aJ (h:QS X st t):QSs X [st] t:=⟨bZ h.h⟩
theorem aB (h1:QS X st t)(h2:QSs X rest u):QSs X (st::rest) (CJ9 t u):=⟨BJ1 h1.h h2.h⟩
theorem pC (h1:QS X st t)(h2:QSs X rest u):QSs X (st::rest) (CN5 t u):=⟨BV2 h1.h h2.h⟩
theorem cM (h:PSs X rest t):QSs X rest t:=⟨h⟩
end
mutual
inductive RD (H:Hp):V->PyData->Prop
 | non:RD H .non .none
 | bl (b:Bool):RD H (.bl b) (.bool b)
 | int (i:Int):RD H (.int i) (.int i)
 | str (x:Str):RD H (.str x) (.str x)
 | lst {p:Addr}{xs:List V}{ds:List PyData}:H p=some (.lst xs)->RDs H xs ds->RD H (.ref p) (.list ds)
 | tup {p:Addr}{xs:List V}{ds:List PyData}:H p=some (.tup xs)->RDs H xs ds->RD H (.ref p) (.tuple ds)
inductive RDs (H:Hp):List V->List PyData->Prop
 | nil:RDs H [] []
 | cons {v:V}{d:PyData}{vs:List V}{ds:List PyData}:RD H v d->RDs H vs ds->RDs H (v::vs) (d::ds)
end
section
variable {X:Cx}{pins:List (Addr × Obj)}{σ:L2.St}{H:Hp}{s:Shared}
mutual
theorem RD.reads (I:Inv X pins σ H s):∀ {v:V}{d:PyData},RD H v d->∀ {u:Value},RelV v u->∃ as,Reads s.heap u d as
 | _,_,.non,u,r=>by cases (show u=Value.none from r); exact ⟨_,.none⟩
 | _,_,.bl b,u,r=>by cases (show u=Value.bool b from r); exact ⟨_,.bool b⟩
 | _,_,.int i,u,r=>by obtain ⟨t,rfl⟩:=(show ∃ t,u=Value.int i t from r); exact ⟨_,.int i t⟩
 | _,_,.str i,u,r=>by obtain ⟨t,rfl⟩:=(show ∃ t,u=Value.str i t from r); exact ⟨_,.str i t⟩
 | _,_,.lst h hs,u,r=>by
  cases (show u=Value.ref _ from r)
  obtain ⟨its,r1,⟨o1,n1,p1,c1,_,d1⟩,_⟩:=I.list (SqL.of h)
  obtain ⟨as,ra⟩:=RDs.reads I hs r1
  exact ⟨_,Reads.list p1 c1 d1 (by simpa using ra)⟩
 | _,_,.tup h hs,u,r=>by
  cases (show u=Value.ref _ from r)
  obtain ⟨its,r1,⟨o1,p1,c1,n1,d1⟩,_⟩:=I.tuple (SqT.of h)
  obtain ⟨as,ra⟩:=RDs.reads I hs r1
  exact ⟨_,Reads.tuple p1 c1 d1 (by simpa using ra)⟩
theorem RDs.reads (I:Inv X pins σ H s):∀ {vs:List V}{ds:List PyData},RDs H vs ds->∀ {us:List Value},Vals vs us->∃ as,ReadsAll s.heap us ds as
 | _,_,.nil,_,.nil=>⟨_,.nil⟩
 | _,_,.cons h hs,_,.cons r rs=>by
  obtain ⟨as,ra⟩:=RD.reads I h r
  obtain ⟨bs,rb⟩:=RDs.reads I hs rs
  exact ⟨_,.cons ra rb⟩
end
end
mutual
theorem AT2:∀ d:PyData,PyData.canLay0 d=true->SeqAt.noMix d d=true
 | .none,_=>by simp [SeqAt.noMix]
 | .bool _,_=>by simp [SeqAt.noMix]
 | .int _,_=>by simp [SeqAt.noMix]
 | .str _,_=>by simp [SeqAt.noMix]
 | .list xs,h=>by
  simp only [SeqAt.noMix]
  exact mixs_self xs (by simpa [PyData.canLay0] using h)
 | .tuple xs,h=>by
  simp only [SeqAt.noMix]
  exact mixs_self xs (by simpa [PyData.canLay0] using h)
 | .dict _,h=>by simp [PyData.canLay0] at h
theorem mixs_self:∀ ds:List PyData,PyData.canLayAll0 ds=true->SeqAt.noMixAll ds ds=true
 | [],_=>by simp [SeqAt.noMixAll]
 | d::r,h=>by
  have h':PyData.canLay0 d=true/\PyData.canLayAll0 r=true:=by simpa [PyData.canLayAll0] using h
  simp only [SeqAt.noMixAll,AT2 d h'.1,mixs_self r h'.2,Bool.and_self]
end
theorem BL4 {d:PyData}(h:SeqAt.shaped d=true):PyData.eqv d d=true:=by
 have hc:PyData.canLay0 d=true:=by
  have h':(PyData.canLay0 d && decide (PyData.depth d<=64))=true:=h
  rw [Bool.and_eq_true] at h'
  exact h'.1
 rw [<- SeqAt.same_eq_eqv d d (AT2 d hc)]
 exact same_self d
section
variable {X:Cx}
def CJ5 (b:Bool):R2:=fun x y H Q=>∃ (d d':PyData),RD H x d/\RD H y d'/\SeqAt.shaped d=true/\SeqAt.shaped d'=true/\Q (.bl (PyData.eqv d d' == b)) H
theorem CE4 (hu:X.A.units+64 < cLine):OpR X (compareOp .Eq) (CJ5 true):=by
 intro pins s σ H x y v u Q I rx ry h
 obtain ⟨d,d',h1,h2,s1,s2,q⟩:=h
 obtain ⟨as,r1⟩:=h1.reads I rx
 obtain ⟨bs,r2⟩:=h2.reads I ry
 refine eq_dataH r1 r2 s1 s2 hu ⟨.bl _,H,I,rfl,?_⟩
 have e:(PyData.eqv d d' == true)=PyData.eqv d d':=by cases PyData.eqv d d' <;> rfl
 rw [e] at q
 exact q
theorem AT3 (hu:X.A.units+64 < cLine):OpR X (compareOp .NotEq) (CJ5 false):=by
 intro pins s σ H x y v u Q I rx ry h
 obtain ⟨d,d',h1,h2,s1,s2,q⟩:=h
 obtain ⟨as,r1⟩:=h1.reads I rx
 obtain ⟨bs,r2⟩:=h2.reads I ry
 refine ne_dataH r1 r2 s1 s2 hu ⟨.bl _,H,I,rfl,?_⟩
 have e:(PyData.eqv d d' == false)=!PyData.eqv d d':=by cases PyData.eqv d d' <;> rfl
 rw [e] at q
 exact q
theorem eqd {H:Hp}{x y:V}{d:PyData}{b:Bool}{Q:VK}(h1:RD H x d)(h2:RD H y d)(s:SeqAt.shaped d=true)(q:Q (.bl b) H):CJ5 b x y H Q:=by
 refine ⟨d,d,h1,h2,s,s,?_⟩
 rw [BL4 s]
 cases b <;> exact q
end
theorem BQ3 {X:Cx}{K:Frag}(hK:X.K=K):IxR X (CK7 K):=by
 subst hK
 exact wG
theorem AN5 {D:Ends}{σ:L2.St}{H:Hp}:BO8 D σ H=False:=rfl
structure CalD (P:Program) (w:World) (K:Frag) (mg:Str->Option Value) (base:Heap) (x:Str) (C:Addr) (ps:List Str) (k:Nat) (dvs:List V) (sp:Sp):Prop where
 ex:∃ f fd ds,FnOk P w K mg base (CXF P w) k f fd ps sp/\Binds K fd ps ds/\Vals dvs ds/\Mk K C f/\mg x=some (.ref C)
section
variable {X:Cx}{x m:Str}{C:Addr}{ps:List Str}{k:Nat}{sp:Sp}{e o:Expr}{es:List Expr}{ta:TE}{t:TA}{p pos apos:Pos}{E:XK}{dvs:List V}
theorem AA7 (c:CalD X.prog X.w X.K X.mg X.base x C ps k dvs sp)(hx:jQ (CXF X.prog X.w) X E)(hr:Room (k+1) X.A)(hg:Gl X x)(ha:PA X (e::es) t)(hdb:(x == ("__debug__":Str))=false:=by decide)(he:starEach (e::es) X.env=(false,eval e X.env)::starEach es X.env:=by rfl)(hpl:(backTo pos (starEach es X.env)).any (·.1)=false:=by rfl) :
  PE X (.Call (.Name x p) (e::es) [] pos) (BK0 C sp dvs E t):=by
 obtain ⟨f,fd,ds,F,b,hd,M,hm⟩:=c.ex
 exact AZ9 M F hr hg hm b hd hx ha hdb he hpl
end
structure FunA (K:Frag) (x qual:Str) (st:Stmt) (f:Addr) (fd:FuncData):Prop where
 ex:∃ (oc:Value) (od:Option Addr) (dV kV doc pm:Value) (an:Option Addr) (cdv ct:Value) (osl:Array (Option Value)),
  fd=fnOf x qual (cW st) (cB st) (aE st) dV kV doc pm an cdv ct/\K.lookup f=some ⟨oc,od,.func fd,osl⟩/\codeIn K cdv qual=true
section
variable {P:Program}{w:World}{K:Frag}{mg:Str->Option Value}{base:Heap}{N:List Str}{f:Addr}
theorem FunA.okX {x qual:Str}{st:Stmt}{fd:FuncData}{ps:List Str}{k:Nat}{sp:Sp}(F:FunA K x qual st f fd)(S:FnScope N ps (aE st))(len:∀ vs H Q E,sp vs H Q E->vs.length=ps.length)(hbody:∀ (cdv:Value) (A:Around) (outer:List Env) (s:Shared) (H:Hp) (vs:List V) (Q:VK) (E:XK),Room k (A.deeper (envOfC qual (aE st) s.heap.objs.size f cdv))->sp vs H Q E ->
   ∃ t,PSs (cxX P w K mg base N qual (aE st) f cdv A outer s H E) (cB st) t/\t { nx:=fun _ H'=>Q .non H',rt:=Q } (L2.start N vs) H):FnOk P w K mg base (CXF P w) (k+1) f fd ps sp:=by
 obtain ⟨oc,od,dV,kV,doc,pm,an,cdv,ct,osl,rfl,lk,hcd⟩:=F.ex
 exact BA0 lk hcd S len fun A outer s H vs Q E hr hsp=>hbody cdv A outer s H vs Q E hr hsp
theorem FunA.ok {x qual:Str}{st:Stmt}{fd:FuncData}{ps:List Str}{k:Nat}{sp:Sp}(F:FunA K x qual st f fd)(S:FnScope N ps (aE st))(len:∀ vs H Q E,sp vs H Q E->vs.length=ps.length)(hbody:∀ (cdv:Value) (A:Around) (outer:List Env) (s:Shared) (H:Hp) (vs:List V) (Q:VK) (E:XK),Room k (A.deeper (envOfC qual (aE st) s.heap.objs.size f cdv))->sp vs H Q E ->
   ∃ t,PSs (AG0 CX0 P w K mg base N qual (aE st) f cdv A outer s H E).nox (cB st) t/\t { nx:=fun _ H'=>Q .non H',rt:=Q } (L2.start N vs) H):FnOk P w K mg base CX0 (k+1) f fd ps sp:=by
 obtain ⟨oc,od,dV,kV,doc,pm,an,cdv,ct,osl,rfl,lk,hcd⟩:=F.ex
 refine BA0 lk hcd S len fun A outer s H vs Q E hr hsp=>?_
 obtain ⟨t,h,q⟩:=hbody cdv A outer s H vs Q E hr hsp
 exact ⟨t,h.nox,q⟩
theorem AA8 {x qual:Str}{st:Stmt}{oc:Value}{od an:Option Addr}{osl:Array (Option Value)}{dV kV doc pm cdv ct:Value}(l:K.lookup f=some ⟨oc,od,.func (fnOf x qual (cW st) (cB st) (aE st) dV kV doc pm an cdv ct),osl⟩)(c:codeIn K cdv qual=true):FunA K x qual st f (fnOf x qual (cW st) (cB st) (aE st) dV kV doc pm an cdv ct):=⟨⟨oc,od,dV,kV,doc,pm,an,cdv,ct,osl,rfl,l,c⟩⟩
theorem zJ {fd:FuncData}{ps:List Str}{ds:List Value}(n:Nat)(hn:n+ds.length=ps.length)(h:∀ (s:Shared) (us:List Value),K.In s.heap->us.length=n->BindsTo s fd ⟨us,[]⟩ (ps.zip (us++ds))):Binds K fd ps ds:=fun s us X hl=>h s us X (by
 rw [List.length_append] at hl
 omega)
end
def mP (l:List Str):List Str:=l.foldl (fun a x=>if x∈a then a else a++[x]) []
theorem qM (l:List Str)(x:Str):mP (l++[x])=if x∈mP l then mP l else mP l++[x]:=by
 unfold mP; rw [List.foldl_append]; rfl
theorem AH9 {l:List Str}{i:Nat}(h:i < l.length):mP (l.take (i+1))=if l.getD i Str.empty∈mP (l.take i) then mP (l.take i) else mP (l.take i)++[l.getD i Str.empty]:=by
 rw [<- qM,List.take_succ,List.getElem?_eq_getElem h]
 simp [List.getD,List.getElem?_eq_getElem h]
theorem AA9 {p:List Str->Prop}(h0:p [])(h1:∀ l x,p l->p (l++[x]))(l:List Str):p l:=by
 have q:∀ m:List Str,p m.reverse:=fun m=>by
  induction m with
  | nil=>exact h0
  | cons a m ih=>rw [List.reverse_cons]; exact h1 _ _ ih
 have:=q l.reverse
 rwa [List.reverse_reverse] at this
theorem AT4 (x:Str)(l:List Str):x∈mP l ↔ x∈l:=by
 refine AA9 (p:=fun l=>x∈mP l ↔ x∈l) (by simp [mP]) (fun l y ih=>?_) l
 ·show x∈mP (l++[y]) ↔ x∈l++[y]
  rw [qM]
  split
  ·rename_i h
   rw [ih]
   constructor
   ·intro z; exact List.mem_append_left _ z
   ·intro z
    rcases List.mem_append.mp z with z | z
    ·exact z
    ·have e:x=y:=by simpa using z
     subst e
     exact ih.mp h
  ·simp [ih]
theorem BD2 (l:List Str):(mP l).length<=l.length:=by
 refine AA9 (p:=fun l=>(mP l).length<=l.length) (by simp [mP]) (fun l y ih=>?_) l
 ·show (mP (l++[y])).length<=(l++[y]).length
  rw [qM]
  split <;> simp <;> omega
theorem BL5 (l:List Str):(mP l).length=l.length ↔ l.Nodup:=by
 refine AA9 (p:=fun l=>(mP l).length=l.length ↔ l.Nodup) (by simp [mP]) (fun l y ih=>?_) l
 ·show (mP (l++[y])).length=(l++[y]).length ↔ (l++[y]).Nodup
  have h:=BD2 l
  rw [qM]
  by_cases m:y∈mP l
  ·rw [if_pos m,List.length_append,List.length_singleton]
   constructor
   ·intro z; omega
   ·intro z
    have:=(AT4 y l).mp m
    rw [List.nodup_append] at z
    exact absurd rfl (z.2.2 y this y (List.mem_singleton.mpr rfl))
  ·rw [if_neg m,List.length_append,List.length_append,List.length_singleton]
   have n:y ∉ l:=fun z=>m ((AT4 y l).mpr z)
   constructor
   ·intro z
    rw [List.nodup_append]
    refine ⟨ih.mp (by omega),by simp,fun a ha b hb e=>?_⟩
    have:b=y:=by simpa using hb
    subst this; subst e; exact n ha
   ·intro z
    rw [List.nodup_append] at z
    have:=ih.mpr z.1
    omega
abbrev BQ4 (l:List Str):Str->Bool:=fun k=>decide (k∈mP l)
section
variable {prog:Program}{w:World}{A:Around}{R:Result->Shared->Prop}{I:Addr}{fp wr:List Addr}{G:Array GenState->Array GenState->Prop}{P:Nat->Value->Prop}{St:Nat->Shared->Prop}
theorem BL6 {l:List Str}(W:WalksS prog w A.in1 I fp wr G l.length P St)(S:Addr)(hS0:S ∉ fp)(hv:∀ i v,P i v->∃ t,v=.str (l.getD i Str.empty) t)(hb:l.length+1 < scanBound):∀ (k i:Nat) (s:Shared) (q:∀ s',Moved (S::wr) G s s'->s'.heap.SetOf (strKind prog w) S (BQ4 l) (mP l).length->R (.ok (.ret .none)) s'),
   l.length - i=k->i<=l.length->St i s->s.heap.SetOf (strKind prog w) S (BQ4 (l.take i)) (mP (l.take i)).length ->
   codeAny (model prog w) A (.builtin "set.update.loop" ⟨[.ref S,.ref I],[]⟩) R s:=by
 have nw:S ∉ wr:=fun h=>hS0 (W.sub _ h)
 have up:∀ b∈wr,b∈S::wr:=fun b hb=>List.mem_cons_of_mem _ hb
 have move:∀ {s s':Shared}{T:Str->Bool}{n:Nat},Moved wr G s s'->s.heap.SetOf (strKind prog w) S T n->s'.heap.SetOf (strKind prog w) S T n:=fun hm z=>by
  obtain ⟨o,es,ep,t,ho,z⟩:=z
  exact ⟨o,es,ep,t,hm.heap S _ nw ho,z⟩
 intro k
 induction k with
 | zero =>
  intro i s q hk hi hst z
  have e:i=l.length:=by omega
  subst e
  rw [List.take_length] at z
  refine codeAny_builtin PyProof.Rows.F.entry_set_update_loop ?_
  rw [Around.under_plainId PyProof.Rows.F.plain_set_update_loop _]; show wpAny _ A.in1 (pyNext (.ref I) >>= _) _ _ s
  refine wpAny_bind (W.done s _ _ hst fun s' hm=>?_)
  show wpAny _ A.in1 (ret Value.none) _ _ s'; exact wpAny_pure (q s' (hm.mono up) (move hm z))
 | succ k ih =>
  intro i s q hk hi hst z
  have lt:i < l.length:=by omega
  refine codeAny_builtin PyProof.Rows.F.entry_set_update_loop ?_
  rw [Around.under_plainId PyProof.Rows.F.plain_set_update_loop _]; show wpAny _ A.in1 (pyNext (.ref I) >>= _) _ _ s
  refine wpAny_bind (W.item i s _ _ lt hst fun v s' hP hst' hm=>?_)
  obtain ⟨t,rfl⟩:=hv i v hP
  have z':=move hm z
  show wpAny _ A.in1 (holding [Value.str (l.getD i Str.empty) t] (setAdd S (.str (l.getD i Str.empty) t)) >>= _) _ _ s'
  refine wpAny_bind (wpAny_holding ?_); unfold setAdd
  refine wpAny_holding (wpAny_bind ((strKind prog w).pyHash (k:=l.getD i Str.empty) (strKind_is _ _ _ _) ?_))
  have room:(mP (l.take i)).length+1 < scanBound:=by
   have h1:=BD2 (l.take i)
   have h2:(l.take i).length<=l.length:=by rw [List.length_take]; omega
   omega
  refine wpAny_setAddHashed_of (knd:=strKind prog w) (s:={ s' with toks:=s'.toks+1 }) (strKind_is _ _ _ _) rfl z' room fun h' sb z2=>?_
  have z3:h'.SetOf (strKind prog w) S (BQ4 (l.take (i+1))) (mP (l.take (i+1))).length:=by
   refine SetOf_congr z2 (fun k'=>?_) ?_
   ·show (decide (k'∈mP (l.take i)) || decide (k'=l.getD i Str.empty))=decide (k'∈mP (l.take (i+1)))
    rw [AH9 lt]
    generalize l.getD i Str.empty=y
    split
    ·rename_i m
     by_cases e:k'=y
     ·subst e; simp [m]
     ·simp [e]
    ·by_cases e:k'=y
     ·subst e; simp
     ·simp [e]
   ·rw [AH9 lt]
    generalize l.getD i Str.empty=y
    by_cases m:y∈mP (l.take i)
    ·rw [if_pos m,if_pos (by simpa using m)]
    ·rw [if_neg m,if_neg (by simpa using m),List.length_append]; rfl
  refine wpAny_pure ⟨plainId_quiet PyProof.Rows.F.plain_set_update_loop _,ih (i+1) _ (fun s'' hm'' z4=>?_) (by omega) lt (W.frame _ s' _ _ hst' (Nat.le_succ _) fun b hb o e=>?_) z3⟩
  ·refine q s'' (Moved.trans W.gtrans ((hm.mono up).then_heap (Nat.le_succ _) fun b o hb e=>?_) hm'') z4
   rw [sb.2 b (fun h:b=S=>hb (by rw [h]; exact List.mem_cons_self))]; exact e
  ·rw [sb.2 b (fun h:b=S=>hS0 (by rw [<- h]; exact hb))]; exact e
end
abbrev gQ (led:Bool):Obj:={ cls:=.type "set",dict:=none,data:=.set #[] 0 (.fresh 0 0 led) }
theorem CS0 {its:List Value}{l:List Str}(h:Vals (l.map V.str) its)(i:Nat)(v:Value)(e:its[i]?=some v):∃ t,v=.str (l.getD i Str.empty) t:=by
 induction l generalizing its i with
 | nil=>cases h; simp at e
 | cons x l ih =>
  cases h with
  | cons r1 r2 =>
   cases i with
   | zero =>
    obtain ⟨t,rfl⟩:=r1
    have:v=.str x t:=by simpa using e.symm
    exact ⟨t,by rw [this]; rfl⟩
   | succ i=>exact ih r2 i (by simpa using e)
section
variable {prog:Program}{w:World}{A:Around}{E:Value->Shared->Prop}{s:Shared}
set_option maxHeartbeats 4000000 in
theorem BL7 {a:Addr}{its:List Value}{l:List Str}{Q:Value->Shared->Prop}(hh:A.handled=none)(hl:s.heap.IsList a its.toArray)(hv:Vals (l.map V.str) its)(hb:l.length+1 < scanBound)(q:∀ (h':Heap) (tk:Nat),h'.SetOf (strKind prog w) s.heap.objs.size (BQ4 l) (mP l).length->(∀ b o,s.heap.get? b=some o->h'.get? b=some o)->Q (.ref s.heap.objs.size) { s with heap:=h',toks:=tk }) :
  wpAny (model prog w) A (call (.type "set") [.ref a]) Q E s:=by
 have hn:its.toArray.size=l.length:=by have:=hv.length; rw [List.length_map] at this; simpa using this.symm
 obtain ⟨c,tl,hmro⟩:=PySem.F.called_set.mro
 have hmade:=PySem.F.called_set.made; have hsub:=PySem.F.called_set.sub
 refine wpAny_call (codeAny_of_tree ?_); show wpAny _ _ (callAny (.type "set") _) _ _ _
 refine wpAny_pure ⟨Code.quiet_builtin _ (by decide +kernel),codeAny_builtin PySem.F.entry_type_call ?_⟩
 rw [Around.under_plain (weight_type_call_type "set" [.ref a] []) rfl]
 have h1:=PySem.F.called_set.notType; have h2:=PySem.F.called_set.canCreate
 have hct:=PySem.F.typeCall_set_1 (.ref a)
 repeat (any_goals (first | assumption | wp_step))
 refine codeAny_mono (PySem.code_set_new_1 (.ref a) (E:=E) (Q₁:=fun obj s₁=>∃ led:Bool,obj=.ref s.heap.objs.size/\s₁={ s with heap:=s.heap.push (gQ led) }) fun led=>⟨led,rfl,rfl⟩) fun r s₁ hr=>?_
 match r,hr with
 | .error e,hr=>exact hr
 | .ok (.ret obj),hr =>
  obtain ⟨led,rfl,rfl⟩:=hr
  have hS:(s.heap.push (gQ led)).get? s.heap.objs.size=some (gQ led):=Heap.get?_push_size _ rfl
  have hT:Shared.TypeIs { s with heap:=s.heap.push (gQ led) } (.ref s.heap.objs.size) "set":=⟨_,hS,rfl⟩
  have hli:=PySem.F.called_set.init.lookup; have hbi:=PySem.F.called_set.init.bind (.ref s.heap.objs.size)
  repeat (any_goals (first | assumption | wp_step))
  refine codeAny_mono (codeAny_call_builtin (R:=wants (fun r s₂=>r=.none/\∃ h' tk,s₂={ s with heap:=h',toks:=tk }/\h'.SetOf (strKind prog w) s.heap.objs.size (BQ4 l) (mP l).length /\
    (∀ b o,s.heap.get? b=some o->h'.get? b=some o)) E) PySem.F.called_set.init.plain PySem.F.entry_set_init (PySem.check_set_init_1 hT ?_)) fun r₂ s₂ hr₂=>?_
  ·obtain ⟨⟨oc,od,odt,osl⟩,hol,hcl,nl,hdl⟩:=hl
   simp only at hcl hdl; subst hcl; subst hdl
   have hol':(s.heap.push (gQ led)).get? a=some { cls:=.type "list",dict:=od,data:=.seq its.toArray nl,slots:=osl }:=Heap.get?_push_of_some _ hol
   have n1:=PySem.F.sub_list_set; have n2:=PySem.F.sub_list_frozenset
   have n3:(Value.type "list" == Value.type "dict")=false:=by decide
   have hl1:(s.heap.push (gQ led)).IsList a its.toArray:=⟨_,hol',rfl,nl,rfl⟩
   unfold Builtin.«set.__init__» noKeywords Builtin.Frozenset.updateFrom
   generalize hPI:pyIter=PI
   wp_walk
   subst hPI
   refine wpAny_pyIter_list hl1 (wpAny_bind (wpAny_runValue ?_))
   have lt:a < s.heap.objs.size:=Heap.lt_size hol
   have hh3:A.in1.in1.in1.handled=none:=by simp [hh]
   have ne1:a≠(s.heap.push (gQ led)).objs.size:=by rw [Heap.size_push]; exact Nat.ne_of_lt (Nat.lt_succ_of_lt lt)
   have ne2:s.heap.objs.size ∉ [(s.heap.push (gQ led)).objs.size,a]:=by
    rw [Heap.size_push]; intro z
    rcases List.mem_cons.mp z with z | z
    ·exact absurd z (Nat.ne_of_lt (Nat.lt_succ_self _))
    ·exact absurd (List.mem_singleton.mp z) (Nat.ne_of_gt lt)
   have W:=(Walks.list (prog:=prog) (w:=w) hh3 _ a ne1 its.toArray).toS
   rw [hn] at W
   refine BL6 W s.heap.objs.size ne2 (fun i v hv'=>CS0 hv i v (by simpa using hv')) hb (l.length - 0) 0 _ (fun s' hm z=>?_) (by omega) (Nat.zero_le _) ⟨⟨_,Heap.get?_push_size _ rfl,rfl,rfl⟩,hl1.push _⟩ ?_
   ·obtain ⟨h',g',d',tk',os'⟩:=s'
    have eg:g'=s.gens:=hm.gens
    have ed:d'=s.drawn:=hm.drawn
    have eo:os'=s.os:=hm.os
    subst eg; subst ed; subst eo
    show wpAny _ _ _ _ _ _
    refine wpAny_pure ?_
    show wpAny _ _ (ret Value.none) _ _ _
    refine wpAny_pure ⟨rfl,h',tk',rfl,z,fun b o e=>?_⟩
    have bl:=Heap.lt_size e
    refine hm.heap b o (fun y=>?_) (Heap.get?_push_of_some _ (Heap.get?_push_of_some _ e))
    rcases List.mem_cons.mp y with y | y
    ·exact absurd y (Nat.ne_of_lt bl)
    ·have:=List.mem_singleton.mp y; rw [Heap.size_push] at this; exact absurd this (Nat.ne_of_lt (Nat.lt_succ_of_lt bl))
   ·have hg:((s.heap.push (gQ led)).push { cls:=.type "list_iterator",data:=.fields #[.ref a,.int 0 0] }).get? s.heap.objs.size=some (gQ led):=Heap.get?_push_of_some _ hS
    exact SetOf_congr ((setObjOf_fresh (knd:=strKind prog w) led).setOf hg (by unfold scanBound; omega)) (fun k=>by simp [BQ4,mP]) rfl
  ·match r₂,hr₂ with
   | .error e,hr₂=>exact hr₂
   | .ok (.ret r),hr₂ =>
    obtain ⟨rfl,h',tk,rfl,z,kp⟩:=hr₂
    repeat (any_goals (first | assumption | wp_step))
    exact q _ _ z kp
end
def BL8 (P:Program)(w:World)(a:Addr)(l:List Str):HO:=.ext fun h=>h.SetOf (strKind P w) a (BQ4 l) (mP l).length
theorem BV5 {P:Program}{w:World}{H:Hp}{h:Heap}{a:Addr}{l:List Str}(z:h.SetOf (strKind P w) a (BQ4 l) (mP l).length):ObjOk P w H h a (BL8 P w a l):=by
 refine ⟨z,?_,fun h1 h2 z1 k=>?_⟩
 ·obtain ⟨o,_,_,_,e,_⟩:=z; exact ⟨o,e⟩
 ·obtain ⟨o,es,ep,t,e,z1⟩:=z1; exact ⟨o,es,ep,t,k o e,z1⟩
theorem BD3 {X:Cx}(hc:X.calm=true):mM X (.type "set") (fun xs H Q=>∃ (a:Addr) (l:List Str),xs=[.ref a]/\SqL X.K H a (l.map V.str)/\l.length<=1000/\∀ p,H p=none->Q (.ref p) (upd H p (BL8 X.prog X.w p l))):=by
 intro pins s σ H xs us Q I r h
 obtain ⟨a,l,rfl,hS,hz,q⟩:=h
 obtain ⟨u,rfl,ru⟩:=sI r
 cases ru
 obtain ⟨its,rv,pl,_⟩:=I.list hS
 refine BL7 (I.ok.hd hc) pl.isList rv (by unfold scanBound; omega) fun h' tk z kp=>?_
 exact ⟨.ref s.heap.objs.size,_,I.laid (t':=tk) kp (Nat.le_refl _) (BV5 z),rfl,q _ (I.hok.fresh (Nat.le_refl _))⟩
theorem BD4 {X:Cx}:mM X (.builtin "len") (fun xs H Q=>∃ (a:Addr) (l:List Str),xs=[.ref a]/\H a=some (BL8 X.prog X.w a l)/\Q (.int (mP l).length) H):=by
 intro pins s σ H xs us Q I r h
 obtain ⟨a,l,rfl,e,q⟩:=h
 obtain ⟨u,rfl,ru⟩:=sI r
 cases ru
 obtain ⟨⟨o,es,ep,t,ho,hex,hd,_,_,hb,hf,hn⟩,_⟩:=I.hok a _ e
 rw [<- hn] at q
 exact call_len_set ho hex hd hf (by unfold scanBound at hb; omega) ⟨.int es.size,H,I.tok _,⟨_,rfl⟩,q⟩
def CN6 (K:Frag)(T:String):List V->Hp->VK->Prop:=fun xs H Q=>∃ (x:V) (t:Value) (b:Bool),xs=[x,.ty T]/\TyOf K H x t/\kitOne K t (.type T)=some b/\Q (.bl b) H
theorem gD {X:Cx}{K:Frag}{T:String}(hK:X.K=K):mM X (.builtin "isinstance") (CN6 K T):=by
 subst hK
 intro pins s σ H xs us Q I r h
 obtain ⟨x,t,b,rfl,ty,e,q⟩:=h
 obtain ⟨u,w',rfl,rx,rc⟩:=BJ6 r
 cases (show w'=Value.type T from rc)
 exact wD I rx ty e fun tk=>⟨.bl b,H,I.tok _,rfl,q⟩
section
variable {X:Cx}{CX:CXT}{k:Nat}{f C:Addr}{fd:FuncData}{ps ks:List Str}{sp:Sp}{E:XK}{x:Str}{p pos:Pos}{e:Expr}{es:List Expr}{kws:List Keyword}{t tk:TA}
 {g:List Value->List Value->List Value}{gV:List V->List V->List V}
end
section
variable {P:Program}{w:World}{K:Frag}{mg:Str->Option Value}{base:Heap}{f:Addr}{fd:FuncData}{ps:List Str}{x:Str}{CX:CXT}{k:Nat}
theorem FnOk.nev {sp:Sp}(h:∀ vs H Q E,¬ sp vs H Q E):FnOk P w K mg base CX k f fd ps sp:=⟨fun _ _ _ _ z=>(h _ _ _ _ z).elim,fun _ _ _ _ _ _ _ _ _ _ _ _ _ z=>(h _ _ _ _ z).elim⟩
theorem BQ5 {spf:Nat->Sp}{n0:Nat}(h0:∀ vs H Q E,¬ spf 0 vs H Q E)(b:Binds K fd ps [])(kp:keepIn K (.ref f)=true)(hm:mg x=some (.ref f))(step:∀ d n,n0<=n->CalX P w K mg base x ps n (spf d)->FnOk P w K mg base (CXF P w) (n+1) f fd ps (spf (d+1))):∀ d,FnOk P w K mg base (CXF P w) (n0+d) f fd ps (spf d)
 | 0=>FnOk.nev h0
 | d+1=>step d (n0+d) (Nat.le_add_right _ _) ⟨f,fd,BQ5 h0 b kp hm step d,b,kp,hm⟩
theorem BV6 {spf:Nat->Sp}{n0:Nat}(h0:∀ vs H Q E,¬ spf 0 vs H Q E)(b:Binds K fd ps [])(kp:keepIn K (.ref f)=true)(hm:mg x=some (.ref f))(step:∀ d n,n0<=n->CalX P w K mg base x ps n (spf d)->FnOk P w K mg base (CXF P w) (n+1) f fd ps (spf (d+1)))(d:Nat){n:Nat}(hn:n0+d<=n):CalX P w K mg base x ps n (spf d) :=
 ⟨f,fd,FnOk.lift (BQ5 h0 b kp hm step d) hn,b,kp,hm⟩
end
section
variable {K:Frag}{σ:L2.St}{H:Hp}{Q:VK}{g:TG}{tt:TT}{te ta:TE}{ix:List (Option Nat)}{t:TS}{D:Ends}
theorem BL9 {K:Frag}{a:Addr}{xs:List V}{g:TG}{tt:TT}{te:TE}{σ:L2.St}{H:Hp}{Q:VK}(Pv:Nat->List V->L2.St->Hp->Prop)(hz:xs.length<=sizeLine)(h0:Pv 0 [] σ H)(hl:∀ i acc σ H,i<=xs.length->Pv i acc σ H->SqT K H a xs)(hs:∀ i x acc σ H,xs[i]?=some x->Pv i acc σ H->g x σ H fun σ2 H2=>tt σ2 H2 fun b H3=>if b=true then te σ2 H3 fun y H4=>Pv (i+1) (acc++[y]) σ2 H4 else Pv (i+1) acc σ2 H3)(hacc:∀ i acc σ H,Pv i acc σ H->acc.length<=i)(hd:∀ acc σ H,Pv xs.length acc σ H->∀ D,H D=none->Q (.ref D) (L2.upd H D (.lst acc))) :
  ∃ W:Nat->Nat->List V->L2.St->Hp->Prop,(∃ m,W 0 m [] σ H)/\∀ i m acc σ H,W i m acc σ H ->
   ((Itt K a).stop i H/\∀ D,H D=none->Q (.ref D) (L2.upd H D (.lst acc))) \/
   ((Itt K a).go i H/\acc.length < sizeLine/\∃ N:List V->L2.St->Hp->Prop,(∀ acc' σ' H',N acc' σ' H'->∃ m',m' < m/\W (i+1) m' acc' σ' H') /\
    ∀ x H',(Itt K a).yld i H x H'->g x σ H' fun σ2 H2=>tt σ2 H2 fun b H3=>if b=true then te σ2 H3 fun y H4=>N (acc++[y]) σ2 H4 else N acc σ2 H3):=by
 refine ⟨fun i m acc σ H=>m=xs.length - i/\i<=xs.length/\Pv i acc σ H,⟨xs.length,by simp,Nat.zero_le _,h0⟩,?_⟩
 rintro i m acc σ H ⟨rfl,hi,p⟩
 have q:=hl i acc σ H hi p
 have ha:=hacc i acc σ H p
 by_cases hlt:i < xs.length
 ·refine .inr ⟨⟨xs,xs[i],q,by simp [hlt]⟩,by omega,Pv (i+1),fun acc' σ' H' p'=>⟨xs.length - (i+1),by omega,rfl,hlt,p'⟩,fun x H' y=>?_⟩
  obtain ⟨e,y⟩:=y
  subst e
  exact hs i x acc σ _ (y xs q) p
 ·have e:i=xs.length:=by omega
  subst e
  exact .inl ⟨⟨xs,q,Nat.le_refl _⟩,hd acc σ H p⟩
def CompT (K:Frag)(a:Addr)(g:TG)(tt:TT)(te:TE)(Q:VK)(σ:L2.St)(H:Hp):Prop:=∃ W:Nat->Nat->List V->L2.St->Hp->Prop,(∃ m,W 0 m [] σ H)/\∀ i m acc σ H,W i m acc σ H ->
 ((Itt K a).stop i H/\∀ D,H D=none->Q (.ref D) (L2.upd H D (.lst acc))) \/
 ((Itt K a).go i H/\acc.length < sizeLine/\∃ N:List V->L2.St->Hp->Prop,(∀ acc' σ' H',N acc' σ' H'->∃ m',m' < m/\W (i+1) m' acc' σ' H') /\
  ∀ x H',(Itt K a).yld i H x H'->g x σ H' fun σ2 H2=>tt σ2 H2 fun b H3=>if b=true then te σ2 H3 fun y H4=>N (acc++[y]) σ2 H4 else N acc σ2 H3)
theorem AN6:xY (CK3 K ta) ix g tt te σ H Q=ta σ H (fun x H1=>∃ a,x=.ref a/\(∃ xs,SqT K H1 a xs)/\CompT K a g tt te Q (AL3 ix σ) H1):=rfl
theorem CompT.by {a:Addr}{xs:List V}(Pv:Nat->List V->L2.St->Hp->Prop)(hz:xs.length<=sizeLine)(h0:Pv 0 [] σ H)(hl:∀ i acc σ H,i<=xs.length->Pv i acc σ H->SqT K H a xs)(hs:∀ i x acc σ H,xs[i]?=some x->Pv i acc σ H->g x σ H fun σ2 H2=>tt σ2 H2 fun b H3=>if b=true then te σ2 H3 fun y H4=>Pv (i+1) (acc++[y]) σ2 H4 else Pv (i+1) acc σ2 H3)(hacc:∀ i acc σ H,Pv i acc σ H->acc.length<=i)(hd:∀ acc σ H,Pv xs.length acc σ H->∀ D,H D=none->Q (.ref D) (L2.upd H D (.lst acc))):CompT K a g tt te Q σ H:=BL9 Pv hz h0 hl hs hacc hd
end
inductive All2 {α β:Type}(R:α->β->Prop):List α->List β->Prop
 | nil:All2 R [] []
 | cons {a:α}{b:β}{as:List α}{bs:List β}(h:R a b) (r:All2 R as bs):All2 R (a::as) (b::bs)
section
variable {α β:Type}{R S:α->β->Prop}{as:List α}{bs:List β}
theorem All2.len (h:All2 R as bs):as.length=bs.length:=by
 induction h with
 | nil=>rfl
 | cons _ _ ih=>rw [List.length_cons,List.length_cons,ih]
theorem All2.imp (h:All2 R as bs)(k:∀ a b,a∈as->R a b->S a b):All2 S as bs:=by
 induction h with
 | nil=>exact .nil
 | cons h _ ih=>exact .cons (k _ _ List.mem_cons_self h) (ih fun a b m=>k a b (List.mem_cons_of_mem _ m))
theorem All2.snoc {a:α}{b:β}(h:All2 R as bs)(k:R a b):All2 R (as++[a]) (bs++[b]):=by
 induction h with
 | nil=>exact .cons k .nil
 | cons h _ ih=>exact .cons h ih
theorem All2.get (h:All2 R as bs):∀ {i:Nat}{b:β},bs[i]?=some b->∃ a,as[i]?=some a/\R a b:=by
 induction h with
 | nil=>intro i b e; simp at e
 | cons h _ ih =>
  intro i b e
  cases i with
  | zero=>cases e; exact ⟨_,rfl,h⟩
  | succ i=>exact ih e
end
mutual
inductive Tr where
 | any
 | kind (us:List Str)
 | place (us:List Str)
 | weight (n:Int)
 | not (t:Tr)
 | both (ts:Trs)
 | either (ts:Trs)
inductive Trs where
 | nil
 | cons (t:Tr) (ts:Trs)
end
def Trs.ofL:List Tr->Trs
 | []=>.nil
 | t::ts=>.cons t (Trs.ofL ts)
def Trs.toL:Trs->List Tr
 | .nil=>[]
 | .cons t ts=>t::ts.toL
theorem AN7:∀ ts:List Tr,(Trs.ofL ts).toL=ts
 | []=>rfl
 | t::ts=>by rw [Trs.ofL,Trs.toL,AN7 ts]
structure FC where
 Any:Addr
 Kind:Addr
 Place:Addr
 Least:Addr
 Not:Addr
 Both:Addr
 Either:Addr
def Tr.cls (c:FC):Tr->Addr
 | .any=>c.Any
 | .kind _=>c.Kind
 | .place _=>c.Place
 | .weight _=>c.Least
 | .not _=>c.Not
 | .both _=>c.Both
 | .either _=>c.Either
mutual
def Tr.Fit (c:FC)(H:Hp):Tr->V->Prop
 | .any,v=>∃ p dx,v=.ref p/\H p=some (.ins c.Any dx [])
 | .kind us,v=>∃ p dx l,v=.ref p/\H p=some (.ins c.Kind dx [("names",.ref l)])/\H l=some (.lst (us.map V.str))
 | .place us,v=>∃ p dx l,v=.ref p/\H p=some (.ins c.Place dx [("names",.ref l)])/\H l=some (.lst (us.map V.str))
 | .weight n,v=>∃ p dx,v=.ref p/\H p=some (.ins c.Least dx [("weight",.int n)])
 | .not t,v=>∃ p dx y,v=.ref p/\H p=some (.ins c.Not dx [("fit",y)])/\Tr.Fit c H t y
 | .both ts,v=>∃ p dx l xs,v=.ref p/\H p=some (.ins c.Both dx [("fits",.ref l)])/\H l=some (.lst xs)/\Trs.Fit c H ts xs
 | .either ts,v=>∃ p dx l xs,v=.ref p/\H p=some (.ins c.Either dx [("fits",.ref l)])/\H l=some (.lst xs)/\Trs.Fit c H ts xs
def Trs.Fit (c:FC)(H:Hp):Trs->List V->Prop
 | .nil,xs=>xs=[]
 | .cons t ts,xs=>∃ y ys,xs=y::ys/\Tr.Fit c H t y/\Trs.Fit c H ts ys
end
theorem trs_fit {c:FC}{H:Hp}:∀ {ts:Trs}{xs:List V},Trs.Fit c H ts xs ↔ All2 (Tr.Fit c H) ts.toL xs
 | .nil,xs=>by
  rw [Trs.Fit,Trs.toL]
  exact ⟨fun h=>h ▸ .nil,fun h=>by cases h; rfl⟩
 | .cons t ts,xs=>by
  rw [Trs.Fit,Trs.toL]
  constructor
  ·rintro ⟨y,ys,rfl,h1,h2⟩
   exact .cons h1 (trs_fit.mp h2)
  ·intro h
   cases h with
   | cons h1 h2=>exact ⟨_,_,rfl,h1,trs_fit.mpr h2⟩
mutual
theorem Tr.Fit.same {c:FC}{H H':Hp}(s:Same H H'):∀ {t:Tr}{v:V},Tr.Fit c H t v->Tr.Fit c H' t v
 | .any,v,h=>by rw [Tr.Fit] at h ⊢; obtain ⟨p,d,e,h⟩:=h; exact ⟨p,d,e,s _ _ h⟩
 | .kind us,v,h=>by rw [Tr.Fit] at h ⊢; obtain ⟨p,d,l,e,h,k⟩:=h; exact ⟨p,d,l,e,s _ _ h,s _ _ k⟩
 | .place us,v,h=>by rw [Tr.Fit] at h ⊢; obtain ⟨p,d,l,e,h,k⟩:=h; exact ⟨p,d,l,e,s _ _ h,s _ _ k⟩
 | .weight n,v,h=>by rw [Tr.Fit] at h ⊢; obtain ⟨p,d,e,h⟩:=h; exact ⟨p,d,e,s _ _ h⟩
 | .not t,v,h=>by rw [Tr.Fit] at h ⊢; obtain ⟨p,d,y,e,h,k⟩:=h; exact ⟨p,d,y,e,s _ _ h,Tr.Fit.same s k⟩
 | .both ts,v,h=>by rw [Tr.Fit] at h ⊢; obtain ⟨p,d,l,xs,e,h,k,m⟩:=h; exact ⟨p,d,l,xs,e,s _ _ h,s _ _ k,Trs.Fit.same s m⟩
 | .either ts,v,h=>by rw [Tr.Fit] at h ⊢; obtain ⟨p,d,l,xs,e,h,k,m⟩:=h; exact ⟨p,d,l,xs,e,s _ _ h,s _ _ k,Trs.Fit.same s m⟩
theorem Trs.Fit.same {c:FC}{H H':Hp}(s:Same H H'):∀ {ts:Trs}{xs:List V},Trs.Fit c H ts xs->Trs.Fit c H' ts xs
 | .nil,xs,h=>by rw [Trs.Fit] at h ⊢; exact h
 | .cons t ts,xs,h=>by rw [Trs.Fit] at h ⊢; obtain ⟨y,ys,e,h1,h2⟩:=h; exact ⟨y,ys,e,Tr.Fit.same s h1,Trs.Fit.same s h2⟩
end
theorem Tr.Fit.ins {c:FC}{H:Hp}{t:Tr}{v:V}(h:Tr.Fit c H t v):∃ p dx fs,v=.ref p/\H p=some (.ins (t.cls c) dx fs)/\fs.lookup ("fits_it":Str)=none:=by
 cases t with
 | any=>rw [Tr.Fit] at h; obtain ⟨p,d,e,h⟩:=h; exact ⟨p,d,_,e,h,rfl⟩
 | kind us=>rw [Tr.Fit] at h; obtain ⟨p,d,l,e,h,_⟩:=h; exact ⟨p,d,_,e,h,rfl⟩
 | place us=>rw [Tr.Fit] at h; obtain ⟨p,d,l,e,h,_⟩:=h; exact ⟨p,d,_,e,h,rfl⟩
 | weight n=>rw [Tr.Fit] at h; obtain ⟨p,d,e,h⟩:=h; exact ⟨p,d,_,e,h,rfl⟩
 | not t=>rw [Tr.Fit] at h; obtain ⟨p,d,y,e,h,_⟩:=h; exact ⟨p,d,_,e,h,rfl⟩
 | both ts=>rw [Tr.Fit] at h; obtain ⟨p,d,l,xs,e,h,_⟩:=h; exact ⟨p,d,_,e,h,rfl⟩
 | either ts=>rw [Tr.Fit] at h; obtain ⟨p,d,l,xs,e,h,_⟩:=h; exact ⟨p,d,_,e,h,rfl⟩
open Builtin Builtin.ObjectAttr
def BD6:List Value->Bool
 | .ref _::r=>BD6 r
 | l=>l == vbm
theorem zK (self:Value):∀ {l:List Value},BD6 l=true->refuseLoop self "__setattr__" l=pure ()
 | [],e=>by cases e
 | .ref c::r,e=>by rw [refuseLoop_ref]; exact zK self e
 | .type n::r,e=>by rw [beq_iff_eq.mp e]; exact PySem.F.store_ValueError.passes self
 | .none::r,e=>by cases beq_iff_eq.mp e
 | .bool _::r,e=>by cases beq_iff_eq.mp e
 | .int _ _::r,e=>by cases beq_iff_eq.mp e
 | .str _ _::r,e=>by cases beq_iff_eq.mp e
 | .bytes _ _::r,e=>by cases beq_iff_eq.mp e
 | .float _ _::r,e=>by cases beq_iff_eq.mp e
 | .builtin _::r,e=>by cases beq_iff_eq.mp e
 | .notImplemented::r,e=>by cases beq_iff_eq.mp e
 | .ellipsis::r,e=>by cases beq_iff_eq.mp e
structure ExcS (K:Frag) (C:Addr) (cd:ClassData):Prop where
 at_:clsIn K C=some cd
 mro:BD6 cd.mro=true
 hd:cd.hasDict=true
 sa:findIn K (.ref C) "__setattr__"=some (some (.builtin "object.__setattr__"))
section
variable {prog:Program}{w:World}{A:Around}{E:Value->Shared->Prop}{s:Shared}{K:Frag}{x C:Addr}{cd:ClassData}{name:Str}{v:Value}
theorem BV7 {R:Result->Shared->Prop}{ox:Obj}{od:Option Obj}{tk:Tok}(X:K.In s.heap)(I:InstAt s.heap x ox C od)(F:ExcS K C cd)(hO:mroIn K C (.type "object")=some true)(ha:findIn K (.ref C) name=some none)(h:wpAny (model prog w) A.in1 (storeInOwnDict (.ref x) (.ref C) (.str name tk) name v false)
   (fun fin s'=>match fin with | .done f=>R (.ok f) s' | .again c'=>c'.quiet=true/\codeAny (model prog w) A c' R s') (fun e s'=>R (.error e) s') s) :
  codeAny (model prog w) A (.call (.builtin "object.__setattr__") ⟨[.ref x,.str name tk,v],[]⟩) R s:=by
 have SF:=PySem.F.store_object
 have sub:Looks (model prog w) s.heap (isInstance (.ref x) (.type "object")) true:=I.type.andThen (looks_mroIn X hO)
 refine codeAny_call_builtin SF.slot.plain SF.entry (@check_slot (model prog w) _ _ s "object.__setattr__" "object" "__setattr__" (.ref x) [.str name tk,v] [] _ SF.kind SF.split sub (SF.args (.ref x) (.str name tk) v) ?_)
 have hm:Looks (model prog w) s.heap (mroOf (.ref C)) cd.mro:=(looks_clsIn X F.at_).andThen .now
 have L3:Looks (model prog w) s.heap (storeTaker? none) none:=.now
 rw [osa_eq,refuse_eq]
 refine wpAny_bind (wpAny_bind (I.type.here (wpAny_bind (hm.here ?_))))
 rw [zK _ F.mro]
 refine wpAny_pure (wpAny_bind (I.type.here (wpAny_bind ((looks_findIn X ha).here (wpAny_bind (L3.here ?_))))))
 exact h
theorem CS1 {ox:Obj}{vs:Array Value}{Q:Unit->Shared->Prop}(X:K.In s.heap)(hx:s.heap.get? x=some ox)(hcl:ox.cls=.ref C)(hdt:ox.data=.fields vs)(hdn:ox.dict=none)(F:ExcS K C cd)(hO:mroIn K C (.type "object")=some true)(ha:findIn K (.ref C) name=some none)(h:∀ h' t',h'.get? x=some { ox with dict:=some s.heap.objs.size }->h'.Ns1 s.heap.objs.size (fun y=>if y=name then some v else none)->(∀ b o,b≠x->s.heap.get? b=some o->h'.get? b=some o)->Q () { s with heap:=h',toks:=t' }) :
  wpAny (model prog w) A (setAttr (.ref x) name v) Q E s:=by
 obtain ⟨oc,od0,odt,osl⟩:=ox
 dsimp only at hcl hdt hdn
 subst hcl hdt hdn
 have I:InstAt s.heap x ⟨.ref C,none,.fields vs,osl⟩ C none:=⟨hx,rfl,rfl,trivial⟩
 refine set_plain X I F.sa (BV7 (s:={ s with toks:=s.toks+1 }) X I F hO ha ?_)
 have hxs:x≠s.heap.objs.size:=Nat.ne_of_lt (Heap.lt_size hx)
 have hx₁:(s.heap.push { cls:=.type "dict",data:=.dict #[] }).get? x=some ⟨.ref C,none,.fields vs,osl⟩:=Heap.get?_push_of_some _ hx
 refine wpAny_bind (wpAny_pure (wpAny_bind (wpAny_bind (wpAny_loadPart hx (wpAny_bind (Looks.here (s:={ s with toks:=s.toks+1 }) (looks_clsIn X F.at_) ?_))))))
 rw [F.hd]
 dsimp only
 refine wpAny_bind (wpAny_alloc' ?_)
 refine wpAny_bind (wpAny_update' hx₁ ?_)
 refine wpAny_pure ?_
 have hgd:((s.heap.push { cls:=.type "dict",data:=.dict #[] }).update x fun o=>{ cls:=o.cls,dict:=some s.heap.objs.size,data:=o.data,slots:=o.slots }).get? s.heap.objs.size
   = some { cls:=.type "dict",data:=.dict #[] } :=
  (Heap.get?_update_ne _ _ _ _ hxs.symm).trans (Heap.get?_push_at rfl rfl)
 have hnd:((s.heap.push { cls:=.type "dict",data:=.dict #[] }).update x fun o=>{ cls:=o.cls,dict:=some s.heap.objs.size,data:=o.data,slots:=o.slots }).Ns s.heap.objs.size (fun _=>none) :=
  ⟨_,#[],_,hgd,rfl,fun e he=>absurd he (by simp),fun _=>rfl⟩
 show wpAny _ _ (storeInDict s.heap.objs.size (.str name _) name v) _ _ _
 unfold storeInDict newKeyGuard
 refine wpAny_bind (wpAny_pure (wpAny_bind (wpAny_nsSet1 (Heap.Ns1.of_empty hnd) fun h' hn' hs=>?_)))
 obtain ⟨oD,esD,epD,hoD,hdD,hcD⟩:=hn'.count (Within.cons name v Within.nil)
 refine wpAny_bind (wpAny_lookBehind hoD (by rw [hdD]; exact pastItsLine_dict (Nat.le_trans hcD (by rw [List.length_cons,List.length_nil,sizeLine_eq]; omega))) ?_)
 refine wpAny_pure (h h' _ ?_ hn' fun b o hbx hb=>?_)
 ·refine (hs.2 x hxs).trans (Heap.get?_update_self _ hx₁ rfl)
 ·exact (hs.2 b (Nat.ne_of_lt (Heap.lt_size hb))).trans ((Heap.get?_update_ne _ _ _ _ hbx).trans (Heap.get?_push_of_some _ hb))
end
end Bw
namespace Bw
open PySem PySem.Spec PyProof.Rows L2 PySem.W
def AI0 (x C:Addr)(dx:Option Addr)(h:Heap):Prop:=∃ ob a0,h.get? x=some ob/\ob.cls=.ref C/\ob.dict=dx/\ob.data=.fields #[a0,.none,.none,.none,.bool false,.none]
def iM (x C:Addr)(dx:Option Addr):HO:=.ext (AI0 x C dx)
section
variable {P:Program}{w:World}{H:Hp}{h:Heap}
theorem BD7 {x C:Addr}{dx:Option Addr}(p:AI0 x C dx h):ObjOk P w H h x (iM x C dx) :=
 let ⟨ob,a0,e,r⟩:=p; ⟨p,⟨ob,e⟩,fun h1 h2 ⟨o1,b0,q1,q2⟩ k=>⟨o1,b0,k _ q1,q2⟩⟩
end
section
variable {X:Cx}{pins:List (Addr × Obj)}{σ:L2.St}{H:Hp}{s:Shared}{o value:Expr}{ta tv:TE}{f:Str}{pos pos':Pos}{A:Around}{E:Value->Shared->Prop}
theorem BV8 {a C:Addr}{cd:ClassData}{y:V}{u:Value}{Q:Unit->Shared->Prop}(I:Inv X pins σ H s)(ea:H a=some (iM a C none))(F:ExcS X.K C cd)(hO:mroIn X.K C (.type "object")=some true)(n:NoAttr X.K C f)(ry:RelV y u)(h:∀ dx s',H dx=none->dx≠a->Inv X pins σ (upd (upd H dx (.xd [(f,y)])) a (iM a C (some dx))) s'->Q () s'):wpAny (model X.prog X.w) A (setAttr (.ref a) f u) Q E s:=by
 obtain ⟨⟨ob,a0,hob,hcl,hdn,hdt⟩,_,_⟩:=(show ObjOk X.prog X.w H s.heap a (.ext (AI0 a C none)) from I.hok a _ ea)
 refine CS1 I.kIn hob hcl hdt hdn F hO n fun h' t' hx' hn' hk=>?_
 have nd:H s.heap.objs.size=none:=I.hok.fresh (Nat.le_refl _)
 have da:s.heap.objs.size≠a:=fun z=>absurd (Heap.lt_size hob) (by rw [z]; exact Nat.lt_irrefl _)
 have nb:∀ b o',s.heap.get? b=some o'->b≠s.heap.objs.size:=fun b o' q=>Nat.ne_of_lt (Heap.lt_size q)
 have na:∀ b,H b=none->b≠a:=fun b q z=>by rw [z,ea] at q; cases q
 have up:∀ b v,H b=some v->b≠a->upd (upd H s.heap.objs.size (.xd [(f,y)])) a (iM a C (some s.heap.objs.size)) b=some v:=fun b v q z=>by rw [aG z,aG (aQ q nd)]; exact q
 refine h s.heap.objs.size _ nd da (I.un (t':=t') (H':=upd (upd H s.heap.objs.size (.xd [(f,y)])) a (iM a C (some s.heap.objs.size))) ⟨fun b o' q k _ _=>hk b o' (na b k) q,fun b o' q k _ _=>⟨o'.slots,hk b o' (na b k) q⟩,fun b o' q k _=>?_,fun b o' q _=>?_,fun b xs q=>up b _ q fun z=>?_,fun b o' u' q=>up b _ q fun z=>?_,fun b ps q=>⟨#[],?_⟩⟩ fun b v q=>?_)
 ·rw [aG (na b k),aG (nb b o' q)]; exact k
 ·by_cases z:b=a
  ·rw [z]; exact ⟨_,hx'⟩
  ·exact ⟨o',hk b o' z q⟩
 ·rw [z,ea] at q; cases q
 ·rw [z,ea] at q; cases q
 ·rw [Array.append_empty]
  exact up b _ q fun z=>by rw [z,ea] at q; cases q
 ·by_cases z:b=a
  ·subst z
   rw [aA] at q
   cases q
   exact BD7 ⟨_,a0,hx',hcl,rfl,hdt⟩
  ·rw [aG z] at q
   by_cases z2:b=s.heap.objs.size
   ·subst z2
    rw [aA] at q
    cases q
    refine ⟨_,hn',fun g=>?_⟩
    by_cases zg:g=f
    ·subst zg
     rw [if_pos rfl,List.lookup_cons,beq_self_eq_true]
     exact ry
    ·rw [if_neg zg,List.lookup_cons,show (g == f)=false from beq_eq_false_iff_ne.mpr zg]
     exact trivial
   ·rw [aG z2] at q
    refine (I.hok b v q).stay (fun c u' hc r=>hk c u' (fun zc=>?_) r) (fun c r=>up c _ r fun zc=>?_) fun c xs r=>up c _ r fun zc=>?_
    ·rcases hc with y' | y'
     ·exact z (y'.symm.trans zc)
     ·rw [zc,ea] at y'; cases y'
    ·rw [zc,ea] at r; cases r
    ·rw [zc,ea] at r; cases r
def CE5 (K:Frag)(ta tv:TE)(f:Str):TS:=fun D σ H=>tv σ H fun y H1=>ta σ H1 fun x H2=>∃ a C cd,x=.ref a/\H2 a=some (iM a C none)/\ExcS K C cd/\mroIn K C (.type "object")=some true/\NoAttr K C f /\
 ∀ dx,H2 dx=none->dx≠a->D.nx σ (upd (upd H2 dx (.xd [(f,y)])) a (iM a C (some dx)))
theorem BD8 (ha:PE X o ta)(hv:PE X value tv)(hs:swapsWith value (some (.Attribute o f pos')) pos.line X.env=pure false:=by rfl):PS X (.Assign [.Attribute o f pos'] value pos) (CE5 X.K ta tv f):=by
 intro pins s σ H D I h
 refine plainObj_wpAny_Assign_Attribute (thn (hv pins s σ H _ I h) fun u s1 ⟨y,H1,I1,ry,q⟩=>thn (ha pins s1 σ H1 _ I1 q) fun ov s2 ⟨x,H2,I2,rx,a,C,cd,ex,ea,F,hO,n,q2⟩=>?_) hs
 subst ex
 obtain rfl:ov=Value.ref a:=rx
 exact BV8 I2 ea F hO n ry fun dx s3 e1 e2 I3=>⟨σ,_,I3,q2 dx e1 e2⟩
end
section
variable {prog:Program}{w:World}{A:Around}{E:Value->Shared->Prop}{h:Heap}{g:Array GenState}{d:Drawn}{t:Nat}{os:OsState}{K:Frag}
variable {nm q:Str}{C N:Addr}{bs bm bmB:List Value}{hdct:Bool}{sn:List Str}{sub:List Value}{ab:Bool}{col:Option Bool}{dd:Option Addr}{k0 k1 k2 k3 k5:Option Value}{B newId initId:String}
theorem wM (F:ExcBaseFacts B newId initId bmB)(T:OwnTail h bmB bm){rest:List Value}{fI:Addr}{Q:Fin->Shared->Prop}(hC:h.get? C=some (excClassObj nm q C N bs bm hdct sn sub ab col dd k0 k1 k2 k3 k5 newId))(Z:K.In h)(hi:findIn K (.ref C) "__init__"=some (some (.ref fI)))(hf:typeIn K (.ref fI)=some (.type "function"))(hq:∀ h' e,Heap.MadeExcOf h h' e (.ref C) rest ->
   wpAny (model prog w) A (call (.ref fI) (.ref e::rest)) (fun r s'=>r=.none/\Q (.done (.ret (.ref e))) s') E ⟨h',g,d,t,os⟩)(hrest:rest.length<=sizeLine:=by size_fits) :
  wpAny (model prog w) A (Builtin.«type.__call__» ⟨.ref C::rest,[]⟩) Q E ⟨h,g,d,t,os⟩:=by
 repeat (first | with_reducible refine wpAny_loadPart_at hC ?_ | with_reducible refine wpAny_madeBy_exc hC ?_ | wp_step)
 refine codeAny_call_builtin_code (Code.quiet_builtin _ F.quiet) (wpAny_check_new_subT F T hC ?_)
 refine codeAny_exc_new_subT F T hC ?_ hrest
 show wpAny _ _ _ _ _ _
 have hC₁:=Heap.get?_push_of_some { cls:=.ref C,data:=.fields #[.ref h.objs.size,.none,.none,.none,.bool false,.none] }
  (Heap.get?_push_of_some { cls:=.type "tuple",data:=.seq rest.toArray } hC)
 have Z₁:K.In ((h.push { cls:=.type "tuple",data:=.seq rest.toArray }).push { cls:=.ref C,data:=.fields #[.ref h.objs.size,.none,.none,.none,.bool false,.none] }):=fun a o l=>Heap.get?_push_of_some _ (Heap.get?_push_of_some _ (Z a o l))
 have hget:((h.push { cls:=.type "tuple",data:=.seq rest.toArray }).push
   { cls:=.ref C,data:=.fields #[.ref h.objs.size,.none,.none,.none,.bool false,.none] }).get? (h.objs.size+1)=some
   { cls:=.ref C,data:=.fields #[.ref h.objs.size,.none,.none,.none,.bool false,.none] }:=by heap_get
 have hcC:(Value.ref C::bm).contains (.ref C)=true:=by simp
 have T₁:=T.keeps (h':=(h.push { cls:=.type "tuple",data:=.seq rest.toArray }).push { cls:=.ref C,data:=.fields #[.ref h.objs.size,.none,.none,.none,.bool false,.none] })
  fun b o e=>Heap.get?_push_of_some _ (Heap.get?_push_of_some _ e)
 unfold isInstance
 repeat (first | with_reducible refine wpAny_loadPart_at hget ?_ | (with_reducible refine wpAny_isSubtype_exc hC₁ ?_; rw [hcC]) | wp_step)
 show wpAny _ _ (typeLookup (.ref C) _) _ _ _
 refine (looks_findIn (M:=model prog w) Z₁ hi).at ?_
 refine wpAny_holding (wpAny_bind ?_)
 unfold bindSpecial
 refine wpAny_bind ((looks_typeIn (M:=model prog w) Z₁ hf).at ?_)
 rw [if_pos (by decide)]
 refine wpAny_pure (wpAny_bind (wpAny_mono (hq _ (h.objs.size+1) ⟨fun b o hb=>Heap.get?_push_of_some _ (Heap.get?_push_of_some _ hb),Heap.get?_none_of_le (Nat.le_succ _),h.objs.size,hget,Heap.get?_none_of_le (Nat.le_refl _),?_⟩) (fun r s' hr=>?_) fun _ _ x=>x))
 ·exact Heap.get?_push_of_some _ (Heap.get?_push_at rfl rfl)
 ·obtain ⟨rfl,hQ⟩:=hr
  wp_walk
  exact hQ
theorem zL (F:ExcBaseFacts B newId initId bmB)(T:OwnTail h bmB bm){rest:List Value}{fI:Addr}{Q:Value->Shared->Prop}(hC:h.get? C=some (excClassObj nm q C N bs bm hdct sn sub ab col dd k0 k1 k2 k3 k5 newId))(Z:K.In h)(hi:findIn K (.ref C) "__init__"=some (some (.ref fI)))(hf:typeIn K (.ref fI)=some (.type "function"))(hq:∀ h' e,Heap.MadeExcOf h h' e (.ref C) rest ->
   wpAny (model prog w) (A.under (.builtin "type.__call__" ⟨.ref C::rest,[]⟩)) (call (.ref fI) (.ref e::rest)) (fun r s'=>r=.none/\Q (.ref e) s') E ⟨h',g,d,t,os⟩)(hrest:rest.length<=sizeLine:=by size_fits) :
  wpAny (model prog w) A (call (.ref C) rest) Q E ⟨h,g,d,t,os⟩:=by
 have f1:=tc_lookup
 have f2:=tc_bind (.ref C)
 have hT:(⟨h,g,d,t,os⟩:Shared).TypeIs (.ref C) "type":=⟨_,hC,rfl⟩
 refine wpAny_call (codeAny_of_tree ?_)
 show wpAny _ _ (callAny (.ref C) _) _ _ _
 repeat (any_goals (first | assumption | with_reducible refine wpAny_loadPart_at hC ?_ | wp_step))
 refine ⟨rfl,?_⟩
 refine codeAny_call_builtin_at (Code.quiet_builtin _ (by decide +kernel)) entry_typeCall (wpAny_check_type_call_sub hC (wM (hrest:=hrest) F T hC Z hi hf fun h' e hm=>?_))
 exact hq h' e hm
end
section
variable {prog:Program}{w:World}{A:Around}{E:Value->Shared->Prop}{s:Shared}{env:Env}
variable {nm q:Str}{C N:Addr}{bs bm bmB:List Value}{hdct:Bool}{sn:List Str}{sub:List Value}{ab:Bool}{col:Option Bool}{dd:Option Addr}{k0 k1 k2 k3 k5:Option Value}{B newId initId:String}
theorem uU (F:ExcBaseFacts B newId initId bmB){x:Str}{np cpos pos:Pos}{args:List Expr}{Q:Flow->Shared->Prop}{fI:Addr}{K:Frag}(hbase:bm.contains (.type "BaseException")=true)(hh:A.handled=none)(hplain:(backTo cpos (starEach args env)).any (·.1)=false)(hi:findIn K (.ref C) "__init__"=some (some (.ref fI)))(hf:typeIn K (.ref fI)=some (.type "function"))(h:wpAny (model prog w) A (eval (.Name x np) env) (fun f s₁=>f=.ref C/\wpAny (model prog w) A (evalArgs (.ref C) true (backTo cpos (starEach args env)) [])
   (fun a s₂=>a.kw=[]/\a.pos.length<=sizeLine/\s₂.heap.get? C=some (excClassObj nm q C N bs bm hdct sn sub ab col dd k0 k1 k2 k3 k5 newId)/\K.In s₂.heap/\OwnTail s₂.heap bmB bm /\
    ∀ h' e,Heap.MadeExcOf s₂.heap h' e (.ref C) a.pos->wpAny (model prog w) (A.under (.builtin "type.__call__" ⟨.ref C::a.pos,[]⟩)) (call (.ref fI) (.ref e::a.pos))
     (fun r s₃=>r=.none/\s₃.heap.get? C=some (excClassObj nm q C N bs bm hdct sn sub ab col dd k0 k1 k2 k3 k5 newId)/\(∃ oe vs,s₃.heap.get? e=some oe/\oe.cls=.ref C/\oe.data=.fields vs/\vs[1]?=some .none)/\E (.ref e) s₃) E { s₂ with heap:=h' }) E s₁) E s) :
  wpAny (model prog w) A (exec (.Raise (some (.Call (.Name x np) args [] cpos)) none pos) env) Q E s:=by
 rw [arm_exec_Raise]
 first
  | refine wpAny_bind (wpAny_standAt (lF (C:=C) (nm:=nm) (q:=q) (N:=N) (bs:=bs) (bm:=bm) (hdct:=hdct) (sn:=sn) (sub:=sub) (ab:=ab) (col:=col) (dd:=dd) (k0:=k0) (k1:=k1) (k2:=k2) (k3:=k3) (k5:=k5) (newId:=newId) hbase hh (wpAny_bind (wpAny_mono (wpAny_Call_ofName (wpAny_mono h (fun f s₁ h₁=>?_) fun _ _ x=>x)) (fun v s₃ h₃=>wpAny_bind (wpAny_standAt (wpAny_pure h₃))) fun _ _ x=>x))))
  | (simp only [evalOpt,Option.map]; refine wpAny_bind (wpAny_standAt (lF (C:=C) (nm:=nm) (q:=q) (N:=N) (bs:=bs) (bm:=bm) (hdct:=hdct) (sn:=sn) (sub:=sub) (ab:=ab) (col:=col) (dd:=dd) (k0:=k0) (k1:=k1) (k2:=k2) (k3:=k3) (k5:=k5) (newId:=newId) hbase hh (wpAny_bind (wpAny_mono (wpAny_Call_ofName (wpAny_mono h (fun f s₁ h₁=>?_) fun _ _ x=>x)) (fun v s₃ h₃=>wpAny_bind (wpAny_standAt (wpAny_pure h₃))) fun _ _ x=>x)))))
  | (refine wpAny_bind (wpAny_standAt (lF (C:=C) (nm:=nm) (q:=q) (N:=N) (bs:=bs) (bm:=bm) (hdct:=hdct) (sn:=sn) (sub:=sub) (ab:=ab) (col:=col) (dd:=dd) (k0:=k0) (k1:=k1) (k2:=k2) (k3:=k3) (k5:=k5) (newId:=newId) hbase hh ?_)); refine wpAny_bind (wpAny_mono (wpAny_Call_ofName (wpAny_mono h (fun f s₁ h₁=>?_) fun _ _ x=>x)) (fun v s₃ h₃=>wpAny_bind (wpAny_standAt (wpAny_pure h₃))) fun _ _ x=>x))
 obtain ⟨rfl,h₁⟩:=h₁
 unfold callWith
 refine wpAny_bind (wpAny_holding (wpAny_mono h₁ (fun a s₂ h₂=>wpAny_bind (wpAny_standAt ?_)) fun _ _ x=>x))
 obtain ⟨apos,akw⟩:=a
 obtain ⟨hkw,hlen,hC,Z,T,h₂⟩:=h₂
 obtain rfl:akw=[]:=hkw
 obtain ⟨hp,g,d,tk,os⟩:=s₂
 simp only [hplain]
 refine wpAny_bind (wpAny_keeperOf_exc hC ?_)
 refine wpAny_bind (zL (hrest:=hlen) F T hC Z hi hf fun h' e hm=>wpAny_mono (h₂ h' e hm) (fun r s₃ h₃=>?_) fun _ _ x=>x)
 obtain ⟨hr,hC3,⟨oe,vs,he,hcl,hda,hv1⟩,hE⟩:=h₃
 exact ⟨hr,wpAny_bind (wpAny_holding (wpAny_point (wpAny_pure ⟨e,oe,vs,rfl,hC3,he,hcl,hda,hv1,hE⟩)))⟩
end
def zM (C:Addr)(f:Str):Sp:=fun vs H Q _=>∃ e y,vs=[.ref e,y]/\H e=some (iM e C none)/\∀ dx,H dx=none->dx≠e->Q .non (upd (upd H dx (.xd [(f,y)])) e (iM e C (some dx)))
structure ExcI (K:Frag) (C B fI:Addr):Prop where
 ex:∃ nm q N bs hd sn sub ab col dd k0 k1 k2 k3 k5,K.lookup C=some (excClassObj nm q C N bs (.ref B::vbm) hd sn sub ab col dd k0 k1 k2 k3 k5 "ValueError.__new__")
 base:excIn K B vbm "ValueError.__new__"=true
 init:findIn K (.ref C) "__init__"=some (some (.ref fI))
 fn:isFn K (.ref fI)=true
def AN8 (f:Str)(v:V)(R:Addr->Hp->Prop):TS:=fun _ _ H=>∀ dx,H dx=none->R dx (upd H dx (.xd [(f,v)]))
theorem BD9 {X:Cx}{x:Str}{C B fI:Addr}{k:Nat}{fd:FuncData}{f p:Str}{v:V}{u:Value}{np cpos pos:Pos}{R:Addr->Hp->Prop}(hc:X.calm=true)(hg:Gl X x)(hm:X.mg x=some (.ref C))(q:ExcI X.K C B fI)(F:FnOk X.prog X.w X.K X.mg X.base (CXF X.prog X.w) k fI fd ["self",p] (zM C f))(hr:Room (k+1) X.A)(hb:Binds X.K fd ["self",p] [u])(hv:RelV v u)(hxe:∀ pins σ H H' s s' e oe vs a0,Inv X pins σ H s->s'.os=s.os->AllBare s'.gens->Un (frs X.stack) [] H H' s.heap s'.heap->HOk X.prog X.w H' s'.heap->s.heap.get? e=none->H' e=none ->
   s'.heap.get? e=some oe->oe.data=.fields vs->vs[1]?=some .none->vs[0]?=some a0->vs[2]?=some .none->oe.cls=.ref C->(∃ dx,oe.dict=some dx/\R dx H')->X.xe (.ref e) s')(hd:(x == ("__debug__":Str))=false:=by decide):PS X (.Raise (some (.Call (.Name x np) [] [] cpos)) none pos) (AN8 f v R):=by
 intro pins s σ H D I h
 obtain ⟨nm,qn,N,bs,hd',sn,sub,ab,col,dd,k0,k1,k2,k3,k5,lk⟩:=q.ex
 obtain ⟨bm',N',nm',qn',bs',hd'',sn',sub',ab',col',dd',j0,j1,j2,j3,j5,mN',hB,hN',hni',T'⟩:=AA4 I.kIn q.base
 have T:OwnTail s.heap vbm (.ref B::vbm):=.own (cd:=_) hB hN' hni' .base
 refine uU (C:=C) (nm:=nm) (q:=qn) (N:=N) (bs:=bs) (bm:=.ref B::vbm) (bmB:=vbm) (hdct:=hd') (sn:=sn) (sub:=sub) (ab:=ab) (col:=col) (dd:=dd) (k0:=k0) (k1:=k1) (k2:=k2) (k3:=k3) (k5:=k5) (K:=X.K) (fI:=fI) PySem.F.excBase_ValueError (by rfl) (I.ok.hd hc) rfl q.init (beq_iff_eq.mp q.fn) (iT I hg hm ⟨rfl,?_⟩ hd)
 refine PySem.evalArgs_none ?_
 refine ⟨rfl,sz8 (show 0<=1000 by decide),I.kIn _ _ lk,I.kIn,T,fun h' e hx=>?_⟩
 obtain ⟨tt,he,_,_⟩:=hx.there
 have nH:H e=none:=by
  cases z:H e with
  | none=>rfl
  | some w' =>
   obtain ⟨o,ho⟩:=AS3 (I.hok e w' z)
   rw [hx.new] at ho
   cases ho
 have nb:∀ b o,s.heap.get? b=some o->b≠e:=fun b o z y=>by rw [y,hx.new] at z; cases z
 have up:∀ b w',H b=some w'->upd H e (iM e C none) b=some w':=fun b w' z=>by rw [aG (aQ z nH)]; exact z
 have I1:Inv X pins σ (upd H e (iM e C none)) { s with heap:=h' }:=I.un (t':=s.toks) ⟨fun b o z _ _ _=>hx.keeps _ _ z,fun b o z _ _ _=>⟨o.slots,hx.keeps _ _ z⟩,fun b o z n _=>by rw [aG (nb b o z)]; exact n,fun b o z _=>⟨o,hx.keeps _ _ z⟩,fun b xs z=>up _ _ z,fun b o w' z=>up _ _ z,fun b ps z=>⟨#[],by rw [Array.append_empty]; exact up _ _ z⟩⟩ fun b w' z=>by
  by_cases y:b=e
  ·subst y
   rw [aA] at z
   cases z
   exact BD7 ⟨_,.ref tt,he,rfl,rfl,rfl⟩
  ·rw [aG y] at z
   exact (I.hok b w' z).stay (fun c v' _ r=>hx.keeps _ _ r) (fun c r=>up _ _ r) fun c xs r=>up _ _ r
 refine wpAny_call (codeAny_mono (F.run _ X.stack _ _ ⟨[Value.ref e],[]⟩ [Value.ref e,u] [V.ref e,v] (fun v' H2=>v'=.non/\∃ dx,H dx=none/\dx≠e/\H2=upd (upd (upd H e (iM e C none)) dx (.xd [(f,v)])) e (iM e C (some dx))) E0 (hr.make C [] []) (I1.env0.make C [] [])
  (hb _ [Value.ref e] I1.kIn rfl) (.cons rfl (.cons hv .nil)) ⟨e,v,rfl,aA,fun dx e1 e2=>⟨rfl,dx,by rw [aG e2] at e1; exact e1,e2,rfl⟩⟩) fun r s3 hq=>?_)
 cases r with
 | error ev =>
  obtain ⟨_,_,_,_,_,_,_,_,_,_,_,_,_,_,_,_,hE⟩:=hq
  exact hE.elim
 | ok fl =>
  cases fl with
  | next=>exact False.elim hq
  | brk=>exact False.elim hq
  | cont=>exact False.elim hq
  | ret u3 =>
   obtain ⟨v3,H2,os,bare,un,hok,r3,rfl,dx,hdx,hde,rfl⟩:=hq
   have I3:Inv X pins σ _ s3:=I1.call' (ch:=[]) os un hok bare (fun b z=>absurd z (by simp))
   obtain ⟨⟨ob,a0,hob,hcl,hdi,hdt⟩,_,_⟩:=(show ObjOk X.prog X.w _ s3.heap e (.ext (AI0 e C (some dx))) from hok e _ aA)
   have eq2:∀ b,b≠e->upd (upd (upd H e (iM e C none)) dx (.xd [(f,v)])) e (iM e C (some dx)) b=upd H dx (.xd [(f,v)]) b:=fun b z=>by
    rw [aG z]
    by_cases y:b=dx
    ·rw [y,aA,aA]
    ·rw [aG y,aG y,aG z]
   have nH2:upd H dx (.xd [(f,v)]) e=none:=by rw [aG (Ne.symm hde)]; exact nH
   have ne1:∀ b w',H b=some w'->b≠e:=fun b w' z=>aQ z nH
   have un':Un (frs X.stack) [] H (upd H dx (.xd [(f,v)])) s.heap s3.heap :=
    ⟨fun b o z n hb' _=>un.keep b o (hx.keeps _ _ z) (by rw [aG (nb b o z)]; exact n) hb' (by simp),fun b o z n hb' _=>un.slot b o (hx.keeps _ _ z) (by rw [aG (nb b o z)]; exact n) hb' (by simp),
     fun b o z n _=>(eq2 b (nb b o z)).symm.trans (un.free b o (hx.keeps _ _ z) (by rw [aG (nb b o z)]; exact n) (by simp)),fun b o z _=>un.there b o (hx.keeps _ _ z) (by simp),
     fun b xs z=>(eq2 b (ne1 b _ z)).symm.trans (un.tups b xs (up _ _ z)),fun b o w' z=>(eq2 b (ne1 b _ z)).symm.trans (un.frzs b o w' (up _ _ z)),fun b ps z=>by
     obtain ⟨m1,e1⟩:=un.tbls b ps (up _ _ z)
     exact ⟨m1,(eq2 b (ne1 b _ z)).symm.trans e1⟩⟩
   have hok':HOk X.prog X.w (upd H dx (.xd [(f,v)])) s3.heap:=fun b w' z=>by
    have be:b≠e:=fun y=>by rw [y,nH2] at z; cases z
    refine (hok b w' ((eq2 b be).trans z)).stay (fun _ _ _ r=>r) (fun c r=>?_) fun c xs r=>?_
    ·have ce:c≠e:=fun y=>by rw [y,aA] at r; cases r
     exact (eq2 c ce).symm.trans r
    ·have ce:c≠e:=fun y=>by rw [y,aA] at r; cases r
     exact (eq2 c ce).symm.trans r
   refine ⟨(show u3=Value.none from r3),I3.kIn _ _ lk,⟨ob,_,hob,hcl,hdt,rfl⟩,?_⟩
   exact hxe pins σ H _ s s3 e ob _ a0 I os bare un' hok' hx.new nH2 hob hdt rfl rfl rfl hcl ⟨dx,hdi,h dx hdx⟩
structure CalI (P:Program) (w:World) (K:Frag) (mg:Str->Option Value) (base:Heap) (x:Str) (C:Addr) (f:Str) (k:Nat) (v:V):Prop where
 ex:∃ (B fI:Addr) (fd:FuncData) (p:Str) (u:Value),FnOk P w K mg base (CXF P w) k fI fd ["self",p] (zM C f)/\Binds K fd ["self",p] [u]/\RelV v u/\ExcI K C B fI/\mg x=some (.ref C)
section
variable {X:Cx}
theorem cY {x:Str}{C:Addr}{k:Nat}{f:Str}{v:V}{np cpos pos:Pos}{R:Addr->Hp->Prop}(c:CalI X.prog X.w X.K X.mg X.base x C f k v)(hc:X.calm=true)(hg:Gl X x)(hr:Room (k+1) X.A)(hxe:∀ pins σ H H' s s' e oe vs a0,Inv X pins σ H s->s'.os=s.os->AllBare s'.gens->Un (frs X.stack) [] H H' s.heap s'.heap->HOk X.prog X.w H' s'.heap->s.heap.get? e=none->H' e=none ->
   s'.heap.get? e=some oe->oe.data=.fields vs->vs[1]?=some .none->vs[0]?=some a0->vs[2]?=some .none->oe.cls=.ref C->(∃ dx,oe.dict=some dx/\R dx H')->X.xe (.ref e) s')(hd:(x == ("__debug__":Str))=false:=by decide):PS X (.Raise (some (.Call (.Name x np) [] [] cpos)) none pos) (AN8 f v R):=by
 obtain ⟨B,fI,fd,p,u,F,b,r,q,m⟩:=c.ex
 exact BD9 hc hg m q F hr b r hxe hd
end
section
variable {P:Program}{w:World}{K:Frag}{mg:Str->Option Value}{base:Heap}{N:List Str}{qual:Str}{sc:Scope}{f:Addr}{cdv:Value}{A:Around}{outer:List Env}{s:Shared}{H:Hp}{E:XK}{C:Addr}
theorem fG {c:Nat}:∀ pins σ H1 H' s1 s' e oe vs a0,Inv (zF c P w K mg base N qual sc f cdv A outer s H E) pins σ H1 s1->s'.os=s1.os->AllBare s'.gens->Un (frs (zF c P w K mg base N qual sc f cdv A outer s H E).stack) [] H1 H' s1.heap s'.heap->HOk P w H' s'.heap->s1.heap.get? e=none->H' e=none ->
   s'.heap.get? e=some oe->oe.data=.fields vs->vs[1]?=some .none->vs[0]?=some a0->vs[2]?=some .none->oe.cls=.ref C->(∃ dx,oe.dict=some dx/\E (.ref C) (some dx) H')->(zF c P w K mg base N qual sc f cdv A outer s H E).xe (.ref e) s' :=
 fun pins σ H1 H' s1 s' e oe vs a0 I os bare un hok fe nH he hd h1 h0 hch hcl ⟨dx,hdi,hE⟩=>oZ I rfl rfl rfl os bare un hok fe nH he hd h1 h0 (fun _=>ChG.of0 hch) (by rw [hcl,hdi]; exact hE)
end
section
variable {K:Frag}{σ:L2.St}{H:Hp}{Q:VK}{D:Ends}{ta tv:TE}{f:Str}{v:V}{R:Addr->Hp->Prop}
theorem AB0:AN8 f v R D σ H=∀ dx,H dx=none->R dx (L2.upd H dx (.xd [(f,v)])):=rfl
theorem AN9:CE5 K ta tv f D σ H=tv σ H fun y H1=>ta σ H1 fun x H2=>∃ a C cd,x=.ref a/\H2 a=some (iM a C none)/\ExcS K C cd/\mroIn K C (.type "object")=some true/\NoAttr K C f /\
 ∀ dx,H2 dx=none->dx≠a->D.nx σ (L2.upd (L2.upd H2 dx (.xd [(f,y)])) a (iM a C (some dx))):=rfl
end
section
open Builtin Builtin.Str
variable {prog:Program}{w:World}{A:Around}{E:Value->Shared->Prop}{s:Shared}{x y:Str}{t u:Tok}{Q:Value->Shared->Prop}
theorem AV8 (hy:(y.length == 0)=false)(hsz:x.length+2<=sizeLine)(h:∀ (l:List (Str × Tok)) (k:Nat),l.map (·.1)=Txt.split x y->Q (.ref s.heap.objs.size) { s with heap:=s.heap.push { cls:=.type "list",data:=.seq (strValues l).toArray },toks:=k }) :
  wpAny (model prog w) A (call (.builtin "str.split") [.str x t,.str y u]) Q E s:=by
 have hn:(partsBetween x (occurrences x y 0 x.length (x.length+1)) y.length).length<=sizeLine:=by
  have e:=StrLaws.occ_length_le x y 0 x.length (x.length+1)
  rw [length_partsBetween]; omega
 cases c1:(decide (x.length < y.length) || decide (strKind x < strKind y)) with
 | true=>exact call_meets F.slot_str_split (typeIs_str _ _ _) F.entry_str_split (F.args_str_split_2 _ _) (meets_str_split_cannot_occur x y t u c1) (h [(x,t)] s.toks (if_pos c1).symm)
 | false =>
  cases c2:(occurrences x y 0 x.length (x.length+1)).isEmpty with
  | true=>exact call_meets F.slot_str_split (typeIs_str _ _ _) F.entry_str_split (F.args_str_split_2 _ _) (meets_str_split_not_found x y t u c1 hy c2) (h [(x,t)] s.toks ((if_neg (ne_true_of_eq_false c1)).trans (if_pos c2)).symm)
  | false =>
   refine call_meets F.slot_str_split (typeIs_str _ _ _) F.entry_str_split (F.args_str_split_2 _ _) (meets_str_split_sep x y t u c1 hy c2 (by omega) hn) ?_
   show wants Q E _ { s with toks:=_,heap:=s.heap.push { cls:=.type "list",data:=.seq (strsFrom s.toks (partsBetween x (occurrences x y 0 x.length (x.length+1)) y.length)).toArray } }
   rw [strsFrom_eq]; exact h (numbered s.toks _) _ ((numbered_texts _ _).trans ((if_neg (ne_true_of_eq_false c1)).trans (if_neg (ne_true_of_eq_false c2))).symm)
end
section
variable {X:Cx}
theorem wN:∀ {l:List (Str × Tok)}{ts:List Str},l.map (·.1)=ts->Vals (ts.map V.str) (strValues l)
 | [],_,e=>by subst e; exact .nil
 | (a,t)::l,_,e=>by subst e; exact .cons ⟨t,rfl⟩ (wN rfl)
def BQ6:V->List V->Hp->VK->Prop:=fun x xs H Q=>∃ u y,x=.str u/\xs=[.str y]/\(y.length == 0)=false/\u.length+2<=sizeLine/\(Txt.split u y).length<=sizeLine/\∀ l,H l=none->Q (.ref l) (upd H l (.lst ((Txt.split u y).map V.str)))
theorem AB1:MtR X "str.split" BQ6:=by
 intro pins s σ H x xs v us Q I rx rv h
 obtain ⟨u,y,rfl,rfl,hy,hz,hz2,q⟩:=h
 obtain ⟨t,rfl⟩:=rx
 obtain ⟨u',rfl,t',rfl⟩:=Vals.one rv
 refine AV8 hy hz fun l k e=>?_
 exact ⟨.ref _,_,I.lnew (t':=k) (wN e) (by rw [List.length_map]; exact hz2),rfl,q _ I.fresh⟩
def BE0:V->List V->Hp->VK->Prop:=fun x xs H Q=>∃ u y,x=.str u/\xs=[.str y]/\Q (.bl (Txt.startswith u y)) H
theorem qN:MtR X "str.startswith" BE0:=by
 intro pins s σ H x xs v us Q I rx rv h
 obtain ⟨u,y,rfl,rfl,q⟩:=h
 obtain ⟨t,rfl⟩:=rx
 obtain ⟨u',rfl,t',rfl⟩:=Vals.one rv
 exact SC.startswith ⟨.bl _,H,I,rfl,q⟩
theorem AB2:mM X (.type "int") (fun xs H Q=>∃ u n,xs=[.str u]/\PySem.intText? u=some n/\u.length<=640/\Q (.int n) H):=by
 intro pins s σ H xs us Q I r h
 obtain ⟨u,n,rfl,e,hl,q⟩:=h
 obtain ⟨u',rfl,t,rfl⟩:=Vals.one r
 exact KIN.call_text e hl ⟨.int n,H,I.tok _,⟨_,rfl⟩,q⟩
theorem AB3 {K:Frag}{σ:L2.St}{H:Hp}{D:Ends}{ta tv:TE}{rd:V->V->Hp->VK->Prop}{f:Str}:zV K ta tv rd f D σ H=ta σ H fun x H1=>isR x fun a=>∃ C dx fs,H1 a=some (.ins C dx fs)/\Cls K C/\NoAttr K C f/\∃ v,fs.lookup f=some v /\
 tv σ H1 fun y H2=>rd v y H2 fun z H3=>∃ dx' fs',H3 a=some (.ins C dx' fs')/\fs'.length < 1000/\D.nx σ (upd H3 a (.ins C dx' (oO f z fs'))):=rfl
theorem BE1 {x y:V}{H:Hp}{Q:VK}:CQ1 x y H Q=isI x (fun i=>isI y fun j=>Q (.int (i+j)) H):=rfl
end
theorem AI1 {s a b:Str}{r:List Str}:Str.join s (a::b::r)=a++s++Str.join s (b::r):=rfl
theorem cK (x y:Str):(x++y).cps.toList=x.cps.toList++y.cps.toList:=by
 show (x.cps++y.cps).toList=_
 simp
theorem dU {x y:Str}(h:x.cps.toList=y.cps.toList):x=y:=Str.ext' (Array.toList_inj.mp h)
theorem AT5 {c:Nat}:∀ {a b r s:List Nat},c ∉ a->c ∉ b->a++c::r=b++c::s->a=b/\r=s
 | [],[],r,s,_,_,h=>⟨rfl,(List.cons.inj h).2⟩
 | [],y::b,r,s,_,hb,h=>by
  have e:=(List.cons.inj h).1
  exact absurd (by rw [<- e]; exact List.mem_cons_self) hb
 | x::a,[],r,s,ha,_,h=>by
  have e:=(List.cons.inj h).1
  exact absurd (by rw [e]; exact List.mem_cons_self) ha
 | x::a,y::b,r,s,ha,hb,h=>by
  obtain ⟨e1,e2⟩:=List.cons.inj h
  obtain ⟨q1,q2⟩:=AT5 (fun z=>ha (List.mem_cons_of_mem _ z)) (fun z=>hb (List.mem_cons_of_mem _ z)) e2
  exact ⟨by rw [e1,q1],q2⟩
theorem AT6 {c:Nat}{a b r:List Nat}(ha:c ∉ a)(h:a=b++c::r):False:=ha (by rw [h]; simp)
theorem AT7 {c:Nat}:∀ {as bs:List Str},as≠[]->bs≠[]->(∀ a∈as,c ∉ a.cps.toList)->(∀ b∈bs,c ∉ b.cps.toList)->Str.join ⟨#[c]⟩ as=Str.join ⟨#[c]⟩ bs->as=bs
 | [],_,h,_,_,_,_=>absurd rfl h
 | _,[],_,h,_,_,_=>absurd rfl h
 | [a],[b],_,_,_,_,h=>by
  have e:a=b:=h
  rw [e]
 | [a],b::b'::r,_,_,ha,hb,h=>by
  have e:=congrArg (fun z:Str=>z.cps.toList) (show a=b++⟨#[c]⟩++Str.join ⟨#[c]⟩ (b'::r) from h)
  simp only [cK] at e
  exact (AT6 (ha a List.mem_cons_self) (by rw [e,List.append_assoc]; rfl)).elim
 | a::a'::r,[b],_,_,ha,hb,h=>by
  have e:=congrArg (fun z:Str=>z.cps.toList) (show b=a++⟨#[c]⟩++Str.join ⟨#[c]⟩ (a'::r) from h.symm)
  simp only [cK] at e
  exact (AT6 (hb b List.mem_cons_self) (by rw [e,List.append_assoc]; rfl)).elim
 | a::a'::r,b::b'::q,_,_,ha,hb,h=>by
  have e:=congrArg (fun z:Str=>z.cps.toList) (show a++⟨#[c]⟩++Str.join ⟨#[c]⟩ (a'::r)=b++⟨#[c]⟩++Str.join ⟨#[c]⟩ (b'::q) from h)
  simp only [cK,List.append_assoc] at e
  obtain ⟨e1,e2⟩:=AT5 (ha a List.mem_cons_self) (hb b List.mem_cons_self) (show _++c::_=_++c::_ from e)
  have e3:=AT7 (c:=c) (as:=a'::r) (bs:=b'::q) (by simp) (by simp) (fun z hz=>ha z (List.mem_cons_of_mem _ hz)) (fun z hz=>hb z (List.mem_cons_of_mem _ hz)) (dU e2)
  rw [dU e1,e3]
theorem BM0 (x y:Str):Txt.split x y≠[]:=by
 intro h
 have e:=StrLaws.join_split x y
 unfold Txt.split at h
 split at h
 ·cases h
 ·split at h
  ·cases h
  ·obtain ⟨p,r,q⟩:=StrLaws.partsFrom_ne x y.length 0 (Builtin.Str.occurrences x y 0 x.length (x.length+1))
   rw [StrLaws.partsBetween_eq,q] at h
   cases h
theorem oK {c:Nat}{as:List Str}(hn:as≠[])(h:∀ a∈as,c ∉ a.cps.toList):Txt.split (Str.join ⟨#[c]⟩ as) ⟨#[c]⟩=as :=
 AT7 (BM0 _ _) hn (StrLaws.split_free _ c) h (StrLaws.join_split _ _)
theorem vR {c:Nat}:∀ {as bs:List Str},as≠[]->bs≠[]->Str.join ⟨#[c]⟩ (as++bs)=Str.join ⟨#[c]⟩ as++⟨#[c]⟩++Str.join ⟨#[c]⟩ bs
 | [],_,h,_=>absurd rfl h
 | [a],[],_,h=>absurd rfl h
 | [a],b::r,_,_=>rfl
 | a::a'::r,bs,_,h=>by
  show a++⟨#[c]⟩++Str.join ⟨#[c]⟩ ((a'::r)++bs)=a++⟨#[c]⟩++Str.join ⟨#[c]⟩ (a'::r)++⟨#[c]⟩++Str.join ⟨#[c]⟩ bs
  rw [vR (c:=c) (as:=a'::r) (bs:=bs) (by simp) h]
  apply dU
  simp only [cK,List.append_assoc]
section
variable {prog:Program}{w:World}{A:Around}{E:Value->Shared->Prop}
theorem qO:entryFor table "proto.unchain"=some Builtin.«proto.unchain»:=entryFor_of_fast (by kernel_rfl)
def Chn (e:Addr)(h:Heap)(xs:Array Value):Prop:=xs[2]?=some .none\/∃ z oz zs,xs[2]?=some (.ref z)/\z≠e/\h.get? z=some oz/\oz.data=.fields zs/\zs[2]?=some .none
theorem AB4 {s:Shared}{e x:Addr}{oe ox:Obj}{vs xs:Array Value}{α:Type}{Q:α->Shared->Prop}(hh:A.handled=some (.ref x))(hne:x≠e)(hx:s.heap.get? x=some ox)(hxd:ox.data=.fields xs)(hx2:Chn e s.heap xs)(he:s.heap.get? e=some oe)(hd:oe.data=.fields vs)(hsz:2 < vs.size)(h:E (.ref e) { s with heap:=s.heap.update e (Obj.mapFields (·.setIfInBounds 2 (.ref x))) }):wpAny (model prog w) A (raiseNew (.ref e):Sem α) Q E s:=by
 unfold raiseNew
 refine wpAny_bind (wpAny_handled ?_)
 rw [hh]
 dsimp only
 have hb:(Value.ref x != Value.ref e)=true:=by
  rw [bne_iff_ne]
  intro z
  cases z
  exact hne rfl
 rw [if_pos hb]
 have u:=fun (Q':Unit->Shared->Prop) (q:Q' () _)=>wpAny_setField (M:=model prog w) (A:=A) (E:=E) (i:=2) (x:=.ref x) he hd hsz q
 refine wpAny_bind (wpAny_holding (wpAny_runValue (codeAny_builtin qO ?_)))
 unfold Builtin.«proto.unchain»
 dsimp only
 rcases hx2 with hx2 | ⟨z,oz,zs,hx2,hze,hz,hzd,hz2⟩
 ·refine wpAny_bind (wpAny_field hx hxd hx2 ?_)
  rw [if_pos (by rfl)]
  refine wpAny_bind (wpAny_pure (wpAny_pure ?_))
  exact wpAny_bind (u _ (wpAny_throw h))
 ·have hzx:z≠x:=fun q=>by
   subst q
   rw [hx] at hz
   cases hz
   rw [hxd] at hzd
   cases hzd
   rw [hx2] at hz2
   cases hz2
  have n1:¬ (Value.ref z == Value.none)=true:=by intro q; cases q
  have n2:¬ (Value.ref z == Value.ref e)=true:=fun q=>hze (Value.ref.inj (eq_of_beq q))
  have n3:¬ (Value.ref z == Value.ref x)=true:=fun q=>hzx (Value.ref.inj (eq_of_beq q))
  refine wpAny_bind (wpAny_field hx hxd hx2 ?_)
  rw [if_neg n1]
  try dsimp only
  rw [if_neg n2]
  try dsimp only
  rw [if_neg n3]
  try dsimp only
  refine wpAny_bind (wpAny_pure ?_)
  refine wpAny_pure ⟨Code.quiet_builtin _ (by decide +kernel),?_⟩
  refine codeAny_builtin qO ?_
  unfold Builtin.«proto.unchain»
  dsimp only
  refine wpAny_bind (wpAny_field hz hzd hz2 ?_)
  rw [if_pos (by rfl)]
  refine wpAny_bind (wpAny_pure (wpAny_pure ?_))
  exact wpAny_bind (u _ (wpAny_throw h))
variable {env:Env}{nm q:Str}{C N y:Addr}{bs bm:List Value}{hdct:Bool}{sn:List Str}{sub:List Value}{ab:Bool}{col:Option Bool}{dd:Option Addr}{k0 k1 k2 k3 k5:Option Value}{newId:String}
theorem xZ {s:Shared}{x c:Sem Value}{Q:Flow->Shared->Prop}(hbase:bm.contains (.type "BaseException")=true)(hh:A.handled=some (.ref y))(hc:∀ (s':Shared) (Q':Value->Shared->Prop),Q' .none s'->wpAny (model prog w) A c Q' E s')(h:wpAny (model prog w) A x (fun v s₁=>∃ e oc od osl a0 oy ys,v=.ref e/\y≠e/\s₁.heap.get? C=some (excClassObj nm q C N bs bm hdct sn sub ab col dd k0 k1 k2 k3 k5 newId) /\
   s₁.heap.get? e=some ⟨.ref C,od,.fields #[a0,.none,.none,.none,.bool false,.none],osl⟩/\oc=Value.ref C/\s₁.heap.get? y=some oy/\oy.data=.fields ys/\Chn e s₁.heap ys /\
   ∀ h',(∀ b,b≠e->h'.get? b=s₁.heap.get? b)->h'.get? e=some ⟨.ref C,od,.fields #[a0,.none,.ref y,.none,.bool true,.none],osl⟩->E (.ref e) { s₁ with heap:=h' }) E s) :
  wpAny (model prog w) A (raiseStmt env (some x) (some c)) Q E s:=by
 have hcB:(Value.ref C::bm).contains (.type "BaseException")=true:=by rw [List.contains_cons,hbase,Bool.or_true]
 unfold raiseStmt
 refine wpAny_bind (wpAny_mono h (fun v s₁ h₁=>?_) fun _ _ x=>x)
 obtain ⟨e,oc,od,osl,a0,oy,ys,rfl,hne,hC,he,_,hy,hyd,hy2,hE⟩:=h₁
 obtain ⟨hp,g,d,tk,os⟩:=s₁
 have hCe:C≠e:=fun z=>by rw [z,he] at hC; cases hC
 refine wpAny_bind (wpAny_holding (hc _ _ (wpAny_bind (wpAny_pure ?_))))
 dsimp only at he hC hy hE ⊢
 repeat (first | with_reducible refine wpAny_loadPart_at he ?_ | with_reducible refine wpAny_loadPart_at hC ?_ | (with_reducible refine wpAny_isSubtype_exc hC ?_; rw [hcB]) | wp_step)
 have e3:=Heap.get?_update_self (Obj.mapFields fun x=>x.setIfInBounds 3 .none) he rfl
 have e4:=Heap.get?_update_self (Obj.mapFields fun x=>x.setIfInBounds 4 (.bool true)) e3 rfl
 have oth:∀ b,b≠e->((hp.update e (Obj.mapFields fun x=>x.setIfInBounds 3 Value.none)).update e (Obj.mapFields fun x=>x.setIfInBounds 4 (Value.bool true))).get? b=hp.get? b:=fun b hb=>by
  rw [Heap.get?_update_other _ _ (Ne.symm hb),Heap.get?_update_other _ _ (Ne.symm hb)]
 have hy3:Chn e ((hp.update e (Obj.mapFields fun x=>x.setIfInBounds 3 Value.none)).update e (Obj.mapFields fun x=>x.setIfInBounds 4 (Value.bool true))) ys:=by
  rcases hy2 with q | ⟨z,oz,zs,q1,q2,q3,q4⟩
  ·exact .inl q
  ·exact .inr ⟨z,oz,zs,q1,q2,(oth z q2).trans q3,q4⟩
 refine AB4 hh hne ((oth y hne).trans hy) hyd hy3 e4 rfl (show 2 < 6 by decide) ?_
 exact hE _ (fun b hb=>by rw [Heap.get?_update_other _ _ (Ne.symm hb)]; exact oth b hb) (Heap.get?_update_self _ e4 rfl)
variable {bmB:List Value}{B initId:String}
theorem zN {s:Shared}(F:ExcBaseFacts B newId initId bmB){x:Str}{np cpos cp pos:Pos}{args:List Expr}{j:Nat}{Q:Flow->Shared->Prop}{fI:Addr}{K:Frag}(hbase:bm.contains (.type "BaseException")=true)(hh:A.handled=some (.ref y))(hplain:(backTo cpos (starEach args env)).any (·.1)=false)(hi:findIn K (.ref C) "__init__"=some (some (.ref fI)))(hf:typeIn K (.ref fI)=some (.type "function"))(h:wpAny (model prog w) A (eval (.Name x np) env) (fun f s₁=>f=.ref C/\wpAny (model prog w) A (evalArgs (.ref C) true (backTo cpos (starEach args env)) [])
   (fun a s₂=>a.kw=[]/\a.pos.length<=sizeLine/\s₂.heap.get? C=some (excClassObj nm q C N bs bm hdct sn sub ab col dd k0 k1 k2 k3 k5 newId)/\K.In s₂.heap/\OwnTail s₂.heap bmB bm /\
    ∀ h' e,Heap.MadeExcOf s₂.heap h' e (.ref C) a.pos->wpAny (model prog w) (A.under (.builtin "type.__call__" ⟨.ref C::a.pos,[]⟩)) (call (.ref fI) (.ref e::a.pos))
     (fun r s₃=>r=.none/\∃ od osl a0 oy ys,y≠e/\s₃.heap.get? C=some (excClassObj nm q C N bs bm hdct sn sub ab col dd k0 k1 k2 k3 k5 newId) /\
      s₃.heap.get? e=some ⟨.ref C,od,.fields #[a0,.none,.none,.none,.bool false,.none],osl⟩/\s₃.heap.get? y=some oy/\oy.data=.fields ys/\Chn e s₃.heap ys /\
      ∀ h',(∀ b,b≠e->h'.get? b=s₃.heap.get? b)->h'.get? e=some ⟨.ref C,od,.fields #[a0,.none,.ref y,.none,.bool true,.none],osl⟩->E (.ref e) { s₃ with heap:=h' }) E { s₂ with heap:=h' }) E s₁) E s) :
  wpAny (model prog w) A (exec (.Raise (some (.Call (.Name x np) args [] cpos)) (some (.Constant .none j cp)) pos) env) Q E s:=by
 rw [arm_exec_Raise]
 refine wpAny_bind (wpAny_standAt (xZ (C:=C) (nm:=nm) (q:=q) (N:=N) (bs:=bs) (bm:=bm) (hdct:=hdct) (sn:=sn) (sub:=sub) (ab:=ab) (col:=col) (dd:=dd) (k0:=k0) (k1:=k1) (k2:=k2) (k3:=k3) (k5:=k5) (newId:=newId) hbase hh (fun s' Q' q=>wpAny_bind (wpAny_Constant_none (wpAny_bind (wpAny_standAt (wpAny_pure q)))))
  (wpAny_bind (wpAny_mono (wpAny_Call_ofName (wpAny_mono h (fun f s₁ h₁=>?_) fun _ _ x=>x)) (fun v s₃ h₃=>wpAny_bind (wpAny_standAt (wpAny_pure h₃))) fun _ _ x=>x))))
 obtain ⟨rfl,h₁⟩:=h₁
 unfold callWith
 refine wpAny_bind (wpAny_holding (wpAny_mono h₁ (fun a s₂ h₂=>wpAny_bind (wpAny_standAt ?_)) fun _ _ x=>x))
 obtain ⟨apos,akw⟩:=a
 obtain ⟨hkw,hlen,hC,Z,T,h₂⟩:=h₂
 obtain rfl:akw=[]:=hkw
 obtain ⟨hp,g,d,tk,os⟩:=s₂
 simp only [hplain]
 refine wpAny_bind (wpAny_keeperOf_exc hC ?_)
 refine wpAny_bind (zL (hrest:=hlen) F T hC Z hi hf fun h' e hm=>wpAny_mono (h₂ h' e hm) (fun r s₃ h₃=>?_) fun _ _ x=>x)
 obtain ⟨hr,od,osl,a0,oy,ys,hne,hC3,he,hy,hyd,hy2,hE⟩:=h₃
 exact ⟨hr,wpAny_bind (wpAny_holding (wpAny_point (wpAny_pure ⟨e,.ref C,od,osl,a0,oy,ys,rfl,hne,hC3,he,rfl,hy,hyd,hy2,hE⟩)))⟩
end
structure RoomH (k:Nat) (A:Around):Prop where
 dp:A.depth+3 * k+5 < recursionLimit
 un:A.units+16 * k+200 < cLine
theorem Room.held {k:Nat}{A:Around}(r:Room k A)(v:Option Value):RoomH k (A.mark v):=⟨r.dp,r.un⟩
theorem RoomH.make {k:Nat}{A:Around}(r:RoomH (k+1) A)(C:Addr)(us:List Value)(kw:List (Str × Value)):RoomH k (A.under (.builtin "type.__call__" ⟨.ref C::us,kw⟩)) :=
 ⟨by have:=r.dp; rw [zB]; omega,by have:=r.un; rw [zC]; omega⟩
structure FnOkH (P:Program) (w:World) (K:Frag) (mg:Str->Option Value) (base:Heap) (CX:CXT) (k:Nat) (f:Addr) (fd:FuncData) (ps:List Str) (sp:Sp):Prop where
 len:∀ vs H Q E,sp vs H Q E->vs.length=ps.length
 run:∀ (A:Around) (outer:List Env) (s:Shared) (H:Hp) (args:Args) (us:List Value) (vs:List V) (Q:VK) (E:XK),RoomH k A->Env0 P w K mg base A outer s H->BindsTo s fd args (ps.zip us)->Vals vs us->sp vs H Q E ->
  codeAny (model P w) A (.call (.ref f) args) (CR CX outer P w H s Q E) s
abbrev BV9 (CX:CXT)(P:Program)(w:World)(K:Frag)(mg:Str->Option Value)(base:Heap)(N:List Str)(qual:Str)(sc:Scope)(f:Addr)(cdv:Value)(A:Around)(outer:List Env)(s:Shared)(H:Hp)(E:XK):Cx :=
 { AG0 CX P w K mg base N qual sc f cdv A outer s H E with calm:=false }
theorem CE6 {CX:CXT}{P:Program}{w:World}{K:Frag}{mg:Str->Option Value}{base:Heap}{k:Nat}{f:Addr}{x qual:Str}{st:Stmt}{fd:FuncData}{N ps:List Str}{sp:Sp}(F:FunA K x qual st f fd)(S:FnScope N ps (aE st))(len:∀ vs H Q E,sp vs H Q E->vs.length=ps.length)(hbody:∀ (cdv:Value) (A:Around) (outer:List Env) (s:Shared) (H:Hp) (vs:List V) (Q:VK) (E:XK),sp vs H Q E ->
   ∃ t,PSs (BV9 CX P w K mg base N qual (aE st) f cdv A outer s H E) (cB st) t/\t { nx:=fun _ H'=>Q .non H',rt:=Q } (L2.start N vs) H):FnOkH P w K mg base CX (k+1) f fd ps sp:=by
 obtain ⟨oc,od,dV,kV,doc,pm,an,cdv,ct,osl,rfl,lk,hcd⟩:=F.ex
 refine ⟨len,fun A outer s H args us vs Q E hr e0 hb r hsp=>?_⟩
 have hl:=len _ _ _ _ hsp
 have KX:K.In s.heap:=e0.mod.kin.keeps fun b o e=>(e0.bs b o e).1
 have hkind:∀ y∈ps.zip us,(aE st).names.lookup y.1=some .local\/((aE st).names.lookup y.1=some .cell/\((cellsFrom (s.heap.objs.size+1) (aE st).names []).lookup y.1).isSome=true):=fun ⟨n,v⟩ hy=>by
  rcases S.par n (List.of_mem_zip hy).1 with q | q
  ·exact .inl q
  ·exact .inr ⟨q,cellsFrom_some _ _ _ (.inl q)⟩
 refine codeAny_call_function (by have:=hr.dp; omega) (KX _ _ lk) rfl S.co S.gen rfl (codeRec_of KX hcd) (hb _ _ _ _ ?_)
 refine wpAny_newFunctionEnv_cells S.kind hkind fun env he s1 x=>?_
 subst he
 refine ⟨(e0.mod.nolimit.keeps fun b o e=>(e0.bs b o e).1).keeps x.toInCall.keep,codeAny_func ?_⟩
 obtain ⟨t,ht,hq⟩:=hbody cdv A outer s H vs Q E hsp
 have I0:=wE (CX:=CX) (E:=E) (A:={ A with handled:=none }) S rfl ⟨e0.frames,e0.mod,e0.bs,e0.bsz,e0.funs,e0.frf,e0.hok,e0.bare⟩ hl r x
 have I:Inv (BV9 CX P w K mg base N qual (aE st) f cdv A outer s H E) [] (L2.start N vs) H s1 :=
  ⟨⟨I0.ok.mod,I0.ok.kind,I0.ok.glob,I0.ok.blt,I0.ok.above,I0.ok.inj,I0.ok.has,I0.ok.cab,(fun z=>nomatch z),I0.ok.frames,I0.ok.stk,I0.ok.exf,I0.ok.bs,I0.ok.bsz,I0.ok.noex,I0.ok.exfs,I0.ok.funs,I0.ok.frf⟩,I0.os,I0.bare,I0.base,I0.loc,I0.cell,I0.free,I0.freeC,I0.pin,I0.hok,I0.len⟩
 refine wpAny_mono (ht [] s1 (L2.start N vs) H _ I hq) (fun fl s' hs=>?_) fun e s' hs=>hs
 have fin:∀ {σ':L2.St}{H':Hp}{v:V}{u:Value},Inv (BV9 CX P w K mg base N qual (aE st) f cdv A outer s H E) [] σ' H' s'->RelV v u->Q v H'->CE outer P w H s Q u s' :=
  fun {σ' H' v u} J rv q=>⟨v,H',J.os,J.bare,J.base,J.hok,rv,q⟩
 cases fl with
 | ret u=>exact let ⟨v,σ',H',J,rv,q⟩:=hs; fin J rv q
 | next=>exact let ⟨σ',H',J,q⟩:=hs; fin (v:=V.non) (u:=Value.none) J rfl q
 | brk=>exact let ⟨_,_,_,q⟩:=hs; False.elim q
 | cont=>exact let ⟨_,_,_,q⟩:=hs; False.elim q
theorem CE7 {o:Option (Option V)}{k:V->Prop}{v:V}(e:o=some (some v))(h:k v):isV o k:=by subst e; exact h
structure CalFG (g:Nat) (P:Program) (w:World) (K:Frag) (mg:Str->Option Value) (base:Heap) (f:Addr) (ps:List Str) (k:Nat) (sp:Sp):Prop where
 ex:∃ fd,FnOk P w K mg base (qD P w g) k f fd ps sp/\Binds K fd ps []/\keepIn K (.ref f)=true
abbrev CQ9:=CalFG 0
structure CalIH (P:Program) (w:World) (K:Frag) (mg:Str->Option Value) (base:Heap) (x:Str) (C:Addr) (f:Str) (k:Nat) (v:V):Prop where
 ex:∃ (B fI:Addr) (fd:FuncData) (p:Str) (u:Value),FnOkH P w K mg base (CXF P w) k fI fd ["self",p] (zM C f)/\Binds K fd ["self",p] [u]/\RelV v u/\ExcI K C B fI/\mg x=some (.ref C)
structure CalIA (P:Program) (w:World) (K:Frag) (mg:Str->Option Value) (base:Heap) (x:Str) (C:Addr) (f:Str) (k:Nat):Prop where
 ex:∃ (B fI:Addr) (fd:FuncData) (p:Str),FnOkH P w K mg base (CXF P w) k fI fd ["self",p] (zM C f)/\Binds K fd ["self",p] []/\ExcI K C B fI/\mg x=some (.ref C)
section
variable {X:Cx}{pins:List (Addr × Obj)}{σ:L2.St}{H:Hp}{s:Shared}
theorem BQ7 (I:Inv X pins σ H s)(E:Value->Shared->Prop):Inv { X with xe:=E } pins σ H s :=
 ⟨⟨I.ok.mod,I.ok.kind,I.ok.glob,I.ok.blt,I.ok.above,I.ok.inj,I.ok.has,I.ok.cab,I.ok.hd,I.ok.frames,I.ok.stk,I.ok.exf,I.ok.bs,I.ok.bsz,I.ok.noex,I.ok.exfs,I.ok.funs,I.ok.frf⟩,I.os,I.bare,I.base,I.loc,I.cell,I.free,I.freeC,I.pin,I.hok,I.len⟩
theorem BE2 {E:Value->Shared->Prop}(I:Inv { X with xe:=E } pins σ H s):Inv X pins σ H s :=
 ⟨⟨I.ok.mod,I.ok.kind,I.ok.glob,I.ok.blt,I.ok.above,I.ok.inj,I.ok.has,I.ok.cab,I.ok.hd,I.ok.frames,I.ok.stk,I.ok.exf,I.ok.bs,I.ok.bsz,I.ok.noex,I.ok.exfs,I.ok.funs,I.ok.frf⟩,I.os,I.bare,I.base,I.loc,I.cell,I.free,I.freeC,I.pin,I.hok,I.len⟩
def CB1 (g:Nat)(X:Cx)(C:Addr)(R:Addr->Hp->Prop):Prop:=∀ pins σ H H' s s' e oe vs a0,Inv X pins σ H s->s'.os=s.os->AllBare s'.gens->Un (frs X.stack) [] H H' s.heap s'.heap->HOk X.prog X.w H' s'.heap->s.heap.get? e=none->H' e=none ->
   s'.heap.get? e=some oe->oe.data=.fields vs->vs[1]?=some .none->vs[0]?=some a0->(g < 2->ChG g s'.heap H' vs)->oe.cls=.ref C->(∃ dx,oe.dict=some dx/\R dx H')->X.xe (.ref e) s'
theorem zO {C B fI y e:Addr}{g k:Nat}{f p:Str}{v:V}{u:Value}{us:List Value}{fd:FuncData}{R:Addr->Hp->Prop}{oy:Obj}{ys:Array Value}{nm qn:Str}{N:Addr}{bs:List Value}{hd':Bool}{sn:List Str}{sub:List Value}{ab:Bool}{col:Option Bool}{dd:Option Addr}{k0 k1 k2 k3 k5:Option Value}{h':Heap}(F:FnOkH X.prog X.w X.K X.mg X.base (CXF X.prog X.w) k fI fd ["self",p] (zM C f))(lk:X.K.lookup C=some (excClassObj nm qn C N bs (.ref B::vbm) hd' sn sub ab col dd k0 k1 k2 k3 k5 "ValueError.__new__"))(hv:RelV v u)(hg0:1<=g)(hr:Room (k+1) X.A)(hxe:CB1 g X C R)(I:Inv X pins σ H s)(hy:s.heap.get? y=some oy)(hyd:oy.data=.fields ys)(hy2:ys[2]?=some .none\/∃ z oz zs,ys[2]?=some (.ref z)/\s.heap.get? z=some oz/\H z=none/\z ∉ frs X.stack/\oz.data=.fields zs/\zs[2]?=some .none)(hg1:g < 2->ys[2]?=some .none)(hyH:H y=none)(hyf:y ∉ frs X.stack)(h:∀ dx,H dx=none->R dx (upd H dx (.xd [(f,v)])))(hx:Heap.MadeExcOf s.heap h' e (.ref C) us)(hbind:BindsTo { s with heap:=h' } fd ⟨Value.ref e::us,[]⟩ (List.zip ["self",p] [Value.ref e,u])) :
  wpAny (model X.prog X.w) ((X.A.mark (some (.ref y))).under (.builtin "type.__call__" ⟨.ref C::us,[]⟩)) (call (.ref fI) (.ref e::us))
     (fun r s₃=>r=.none/\∃ od osl a0 oy ys,y≠e/\s₃.heap.get? C=some (excClassObj nm qn C N bs (.ref B::vbm) hd' sn sub ab col dd k0 k1 k2 k3 k5 "ValueError.__new__") /\
      s₃.heap.get? e=some ⟨.ref C,od,.fields #[a0,.none,.none,.none,.bool false,.none],osl⟩/\s₃.heap.get? y=some oy/\oy.data=.fields ys/\Chn e s₃.heap ys /\
      ∀ h',(∀ b,b≠e->h'.get? b=s₃.heap.get? b)->h'.get? e=some ⟨.ref C,od,.fields #[a0,.none,.ref y,.none,.bool true,.none],osl⟩->X.xe (.ref e) { s₃ with heap:=h' }) X.xe { s with heap:=h' }:=by
 obtain ⟨tt,he,_,_⟩:=hx.there
 have nH:H e=none:=by
  cases z:H e with
  | none=>rfl
  | some w' =>
   obtain ⟨o,ho⟩:=AS3 (I.hok e w' z)
   rw [hx.new] at ho
   cases ho
 have nb:∀ b o,s.heap.get? b=some o->b≠e:=fun b o z y=>by rw [y,hx.new] at z; cases z
 have up:∀ b w',H b=some w'->upd H e (iM e C none) b=some w':=fun b w' z=>by rw [aG (aQ z nH)]; exact z
 have I1:Inv X pins σ (upd H e (iM e C none)) { s with heap:=h' }:=I.un (t':=s.toks) ⟨fun b o z _ _ _=>hx.keeps _ _ z,fun b o z _ _ _=>⟨o.slots,hx.keeps _ _ z⟩,fun b o z n _=>by rw [aG (nb b o z)]; exact n,fun b o z _=>⟨o,hx.keeps _ _ z⟩,fun b xs z=>up _ _ z,fun b o w' z=>up _ _ z,fun b ps z=>⟨#[],by rw [Array.append_empty]; exact up _ _ z⟩⟩ fun b w' z=>by
  by_cases y:b=e
  ·subst y
   rw [aA] at z
   cases z
   exact BD7 ⟨_,.ref tt,he,rfl,rfl,rfl⟩
  ·rw [aG y] at z
   exact (I.hok b w' z).stay (fun c v' _ r=>hx.keeps _ _ r) (fun c r=>up _ _ r) fun c xs r=>up _ _ r
 have e1:=I1.env0
 have e2:=(show Env0 X.prog X.w X.K X.mg X.base (X.A.mark (some (.ref y))) X.stack { s with heap:=h' } (upd H e (iM e C none)) from ⟨e1.frames,e1.mod,e1.bs,e1.bsz,e1.funs,e1.frf,e1.hok,e1.bare⟩)
 refine wpAny_call (codeAny_mono (F.run _ X.stack _ _ ⟨Value.ref e::us,[]⟩ [Value.ref e,u] [V.ref e,v] (fun v' H2=>v'=.non/\∃ dx,H dx=none/\dx≠e/\H2=upd (upd (upd H e (iM e C none)) dx (.xd [(f,v)])) e (iM e C (some dx))) E0 ((Room.held hr (some (.ref y))).make C us []) (e2.make C us [])
  hbind (.cons rfl (.cons hv .nil)) ⟨e,v,rfl,aA,fun dx e1 e2=>⟨rfl,dx,by rw [aG e2] at e1; exact e1,e2,rfl⟩⟩) fun r s3 hq=>?_)
 cases r with
 | error ev =>
  obtain ⟨_,_,_,_,_,_,_,_,_,_,_,_,_,_,_,_,hE⟩:=hq
  exact hE.elim
 | ok fl =>
  cases fl with
  | next=>exact False.elim hq
  | brk=>exact False.elim hq
  | cont=>exact False.elim hq
  | ret u3 =>
   obtain ⟨v3,H2,os,bare,un,hok,r3,rfl,dx,hdx,hde,rfl⟩:=hq
   have I3:Inv X pins σ _ s3:=I1.call' (ch:=[]) os un hok bare (fun b z=>absurd z (by simp))
   obtain ⟨⟨ob,a0,hob,hcl,hdi,hdt⟩,_,_⟩:=(show ObjOk X.prog X.w _ s3.heap e (.ext (AI0 e C (some dx))) from hok e _ aA)
   have eq2:∀ b,b≠e->upd (upd (upd H e (iM e C none)) dx (.xd [(f,v)])) e (iM e C (some dx)) b=upd H dx (.xd [(f,v)]) b:=fun b z=>by
    rw [aG z]
    by_cases y:b=dx
    ·rw [y,aA,aA]
    ·rw [aG y,aG y,aG z]
   have nH2:upd H dx (.xd [(f,v)]) e=none:=by rw [aG (Ne.symm hde)]; exact nH
   have ne1:∀ b w',H b=some w'->b≠e:=fun b w' z=>aQ z nH
   have hye:y≠e:=nb y oy hy
   have hy3:s3.heap.get? y=some oy:=un.keep y oy (hx.keeps _ _ hy) (by rw [aG hye]; exact hyH) hyf (by simp)
   have hy4:Chn e s3.heap ys:=by
    rcases hy2 with q | ⟨z,oz,zs,q1,q2,q3,q4,q5⟩
    ·exact .inl q
    ·have ze:z≠e:=nb z oz q2
     exact .inr ⟨z,oz,zs,q1,ze,un.keep z oz (hx.keeps _ _ q2) (by rw [aG ze]; exact q3) q4 (by simp),q5⟩
   obtain ⟨oc,od,odt,osl⟩:=ob
   dsimp only at hcl hdi hdt
   subst hcl hdt
   refine ⟨(show u3=Value.none from r3),od,osl,a0,oy,ys,hye,I3.kIn _ _ lk,hob,hy3,hyd,hy4,fun h4 k4 e4=>?_⟩
   have keep4:∀ b o,b≠e->s3.heap.get? b=some o->h4.get? b=some o:=fun b o n z=>(k4 b n).trans z
   have un':Un (frs X.stack) [] H (upd H dx (.xd [(f,v)])) s.heap h4 :=
    ⟨fun b o z n hb' _=>keep4 _ _ (nb b o z) (un.keep b o (hx.keeps _ _ z) (by rw [aG (nb b o z)]; exact n) hb' (by simp)),fun b o z n hb' _=>by
      obtain ⟨sl,q⟩:=un.slot b o (hx.keeps _ _ z) (by rw [aG (nb b o z)]; exact n) hb' (by simp)
      exact ⟨sl,keep4 _ _ (nb b o z) q⟩,
     fun b o z n _=>(eq2 b (nb b o z)).symm.trans (un.free b o (hx.keeps _ _ z) (by rw [aG (nb b o z)]; exact n) (by simp)),fun b o z _=>by
      obtain ⟨o',q⟩:=un.there b o (hx.keeps _ _ z) (by simp)
      exact ⟨o',keep4 _ _ (nb b o z) q⟩,
     fun b xs z=>(eq2 b (ne1 b _ z)).symm.trans (un.tups b xs (up _ _ z)),fun b o w' z=>(eq2 b (ne1 b _ z)).symm.trans (un.frzs b o w' (up _ _ z)),fun b ps z=>by
     obtain ⟨m1,e1⟩:=un.tbls b ps (up _ _ z)
     exact ⟨m1,(eq2 b (ne1 b _ z)).symm.trans e1⟩⟩
   have hok':HOk X.prog X.w (upd H dx (.xd [(f,v)])) h4:=fun b w' z=>by
    have be:b≠e:=fun y=>by rw [y,nH2] at z; cases z
    refine (hok b w' ((eq2 b be).trans z)).stay (fun c o hc r=>keep4 c o ?_ r) (fun c r=>?_) fun c xs r=>?_
    ·rcases hc with rfl | hc
     ·exact be
     ·intro y
      rw [y,aA] at hc
      cases hc
    ·have ce:c≠e:=fun y=>by rw [y,aA] at r; cases r
     exact (eq2 c ce).symm.trans r
    ·have ce:c≠e:=fun y=>by rw [y,aA] at r; cases r
     exact (eq2 c ce).symm.trans r
   have hydx:y≠dx:=fun z=>by
    obtain ⟨mA,⟨ob,es,ep,ho,hdd,_⟩,_⟩:=(show ObjOk X.prog X.w _ h4 dx (.xd [(f,v)]) from hok' dx _ aA)
    rw [<- z,keep4 y oy hye hy3] at ho
    cases ho
    rw [hyd] at hdd
    cases hdd
   exact hxe pins σ H _ s { s3 with heap:=h4 } e _ _ a0 I os bare un' hok' hx.new nH2 e4 rfl rfl rfl (fun z=>⟨fun y=>absurd y (by omega),fun _=>.inr ⟨y,oy,ys,rfl,keep4 y oy hye hy3,by rw [aG hydx]; exact hyH,hyd,hg1 z⟩⟩) rfl ⟨dx,hdi,h dx hdx⟩
theorem AV9 {x:Str}{C y:Addr}{g k:Nat}{f:Str}{v:V}{np cpos cp pos:Pos}{j:Nat}{R:Addr->Hp->Prop}{Q:Flow->Shared->Prop}{oy:Obj}{ys:Array Value}(c:CalIH X.prog X.w X.K X.mg X.base x C f k v)(hg0:1<=g)(hg:Gl X x)(hr:Room (k+1) X.A)(hxe:CB1 g X C R)(I:Inv X pins σ H s)(hy:s.heap.get? y=some oy)(hyd:oy.data=.fields ys)(hy2:ys[2]?=some .none\/∃ z oz zs,ys[2]?=some (.ref z)/\s.heap.get? z=some oz/\H z=none/\z ∉ frs X.stack/\oz.data=.fields zs/\zs[2]?=some .none)(hg1:g < 2->ys[2]?=some .none)(hyH:H y=none)(hyf:y ∉ frs X.stack)(h:∀ dx,H dx=none->R dx (upd H dx (.xd [(f,v)])))(hd:(x == ("__debug__":Str))=false:=by decide) :
  wpAny (model X.prog X.w) (X.A.mark (some (.ref y))) (exec (.Raise (some (.Call (.Name x np) [] [] cpos)) (some (.Constant .none j cp)) pos) X.env) Q X.xe s:=by
 obtain ⟨B,fI,fd,p,u,F,hb,hv,q,hm⟩:=c.ex
 obtain ⟨nm,qn,N,bs,hd',sn,sub,ab,col,dd,k0,k1,k2,k3,k5,lk⟩:=q.ex
 obtain ⟨bm',N',nm',qn',bs',hd'',sn',sub',ab',col',dd',j0,j1,j2,j3,j5,mN',hB,hN',hni',T'⟩:=AA4 I.kIn q.base
 have T:OwnTail s.heap vbm (.ref B::vbm):=.own (cd:=_) hB hN' hni' .base
 refine zN (C:=C) (nm:=nm) (q:=qn) (N:=N) (bs:=bs) (bm:=.ref B::vbm) (bmB:=vbm) (hdct:=hd') (sn:=sn) (sub:=sub) (ab:=ab) (col:=col) (dd:=dd) (k0:=k0) (k1:=k1) (k2:=k2) (k3:=k3) (k5:=k5) (K:=X.K) (fI:=fI) PySem.F.excBase_ValueError (by rfl) rfl rfl q.init (beq_iff_eq.mp q.fn) (iT (X:=cxE X (.ref y)) (qK I (.ref y)) hg hm ⟨rfl,PySem.evalArgs_none ?_⟩ hd)
 refine ⟨rfl,sz8 (show 0<=1000 by decide),I.kIn _ _ lk,I.kIn,T,fun h' e hx=>?_⟩
 exact zO F lk hv hg0 hr hxe I hy hyd hy2 hg1 hyH hyf h hx (hb _ [Value.ref e] (fun b o l=>hx.keeps _ _ (I.kIn b o l)) rfl)
theorem BQ8 {i:Nat}{x:Str}{v:V}{pos:Pos}{Q:Value->Shared->Prop}{E:Value->Shared->Prop}(I:Inv X pins σ H s)(hN:X.N[i]?=some x)(hv:Vis X.env.scope x)(e:σ[i]?=some (some v))(h:∀ u,RelV v u->Q u s)(hd:(x == ("__debug__":Str))=false:=by decide)(hcd:(x == ("__classdict__":Str))=false:=by decide):wpAny (model X.prog X.w) X.A (eval (.Name x pos) X.env) Q E s:=by
 obtain ⟨m,hn,hl⟩:=I.loc
 obtain ⟨u,r,l⟩:=hl i x v hN e hv
 rcases l with ⟨hk,hm⟩ | ⟨hk,c,hc,hcell⟩
 ·exact wpAny_Name (wpAny_loadName_local I.ok.kind hk hn hm (h u r)) hd
 ·rcases hk with hk | hk
  ·exact wpAny_Name (wpAny_loadName_cell I.ok.kind hk hc hcell (h u r)) hd
  ·exact wpAny_Name (wpAny_loadName_free I.ok.kind hk hc hcell (h u r) hcd) hd
theorem AO0 {x n:Str}{C y:Addr}{g k i:Nat}{f:Str}{v:V}{np cpos cp pos pn:Pos}{j:Nat}{R:Addr->Hp->Prop}{Q:Flow->Shared->Prop}{oy:Obj}{ys:Array Value}(c:CalIA X.prog X.w X.K X.mg X.base x C f k)(hg0:1<=g)(hg:Gl X x)(hr:Room (k+1) X.A)(hxe:CB1 g X C R)(hN:X.N[i]?=some n)(hvis:Vis X.env.scope n)(hσ:σ[i]?=some (some v))(I:Inv X pins σ H s)(hy:s.heap.get? y=some oy)(hyd:oy.data=.fields ys)(hy2:ys[2]?=some .none\/∃ z oz zs,ys[2]?=some (.ref z)/\s.heap.get? z=some oz/\H z=none/\z ∉ frs X.stack/\oz.data=.fields zs/\zs[2]?=some .none)(hg1:g < 2->ys[2]?=some .none)(hyH:H y=none)(hyf:y ∉ frs X.stack)(h:∀ dx,H dx=none->R dx (upd H dx (.xd [(f,v)])))(hs:starEach [.Name n pn] X.env=[(false,eval (.Name n pn) X.env)]:=by rfl)(hd:(x == ("__debug__":Str))=false:=by decide)(hdn:(n == ("__debug__":Str))=false:=by decide)(hcn:(n == ("__classdict__":Str))=false:=by decide) :
  wpAny (model X.prog X.w) (X.A.mark (some (.ref y))) (exec (.Raise (some (.Call (.Name x np) [.Name n pn] [] cpos)) (some (.Constant .none j cp)) pos) X.env) Q X.xe s:=by
 obtain ⟨B,fI,fd,p,F,hb,q,hm⟩:=c.ex
 obtain ⟨nm,qn,N,bs,hd',sn,sub,ab,col,dd,k0,k1,k2,k3,k5,lk⟩:=q.ex
 obtain ⟨bm',N',nm',qn',bs',hd'',sn',sub',ab',col',dd',j0,j1,j2,j3,j5,mN',hB,hN',hni',T'⟩:=AA4 I.kIn q.base
 have T:OwnTail s.heap vbm (.ref B::vbm):=.own (cd:=_) hB hN' hni' .base
 have hpl:(backTo cpos (starEach [.Name n pn] X.env)).any (·.1)=false:=by rw [hs]; rfl
 refine zN (C:=C) (nm:=nm) (q:=qn) (N:=N) (bs:=bs) (bm:=.ref B::vbm) (bmB:=vbm) (hdct:=hd') (sn:=sn) (sub:=sub) (ab:=ab) (col:=col) (dd:=dd) (k0:=k0) (k1:=k1) (k2:=k2) (k3:=k3) (k5:=k5) (K:=X.K) (fI:=fI) PySem.F.excBase_ValueError (by rfl) rfl hpl q.init (beq_iff_eq.mp q.fn) (iT (X:=cxE X (.ref y)) (qK I (.ref y)) hg hm ⟨rfl,?_⟩ hd)
 rw [hs]
 refine Calls.evalArgs_plain (Calls.spliced_cons (BQ8 (X:=cxE X (.ref y)) (qK I (.ref y)) hN hvis hσ (fun u ru=>Calls.spliced_nil ?_) hdn hcn))
 refine ⟨rfl,sz8 (show 1<=1000 by decide),I.kIn _ _ lk,I.kIn,T,fun h' e hx=>?_⟩
 exact zO F lk ru hg0 hr hxe I hy hyd hy2 hg1 hyH hyf h hx (hb _ [Value.ref e,u] (fun b o l=>hx.keeps _ _ (I.kIn b o l)) rfl)
def CE8 (K:Frag)(CB:Addr)(i j:Nat)(fF:Addr)(sp:Sp)(t:TA)(f:Str)(v:V)(R:Addr->Hp->Prop):TS:=fun D σ H=>σ[j]?=some (some (.ref fF))/\t σ H fun vs H1=>sp vs H1 (fun y H2=>D.nx (σ.set i (some y)) H2)
 fun cls _ H2=>exmOne K cls (.ref CB)=some true/\∀ dx,H2 dx=none->R dx (upd H2 dx (.xd [(f,v)]))
theorem BW0 {i j jj k k':Nat}{fn xn cn rn f:Str}{fF CB C:Addr}{ps:List Str}{sp:Sp}{e:Expr}{es:List Expr}{t:TA}{v:V}{R:Addr->Hp->Prop}{p1 p2 p3 p4 cp np cpos ap rpos hpos tpos:Pos}(hst:X.stack=X.env::X.outer)(hf:X.env.frame=some X.env.locals)(CF:CQ9 X.prog X.w X.K X.mg X.base fF ps k sp)(hr:Room k X.A)(hNf:X.N[j]?=some fn)(hvf:Vis X.env.scope fn)(ha:∀ E',PA { X with xe:=E' } (e::es) t)(hN:X.N.Nodup)(hi:X.N[i]?=some xn)(hx:Loc X.env.scope xn)(hfn:X.fn xn=true)(hgC:Gl X cn)(hmC:X.mg cn=some (.ref CB))(CI:CalIH X.prog X.w X.K X.mg X.base rn C f k' v)(hgr:Gl X rn)(hr':Room (k'+1) X.A)(hp:∀ u,PassesOwnAt (model X.prog X.w) (X.A.mark (some u)) X.A X.env X.xe)(hxe:CB1 1 X C R)(hdf:(fn == ("__debug__":Str))=false:=by decide)(hcf:(fn == ("__classdict__":Str))=false:=by decide)(hdc:(cn == ("__debug__":Str))=false:=by decide)(hdr:(rn == ("__debug__":Str))=false:=by decide)(he:starEach (e::es) X.env=(false,eval e X.env)::starEach es X.env:=by rfl)(hpl:(backTo p3 (starEach es X.env)).any (·.1)=false:=by rfl)(hsw:swapsWith (.Call (.Name fn p2) (e::es) [] p3) (some (.Name xn p1)) p4.line X.env=pure false:=by rfl) :
  PS X (.Try [.Assign [.Name xn p1] (.Call (.Name fn p2) (e::es) [] p3) p4] [.ExceptHandler (some (.Name cn cp)) none [.Raise (some (.Call (.Name rn np) [] [] cpos)) (some (.Constant .none jj ap)) rpos] hpos] [] [] tpos) (CE8 X.K CB i j fF sp t f v R):=by
 intro pins s σ H D I h
 obtain ⟨hσ,h⟩:=h
 obtain ⟨fd,F,hb,hk⟩:=CF.ex
 have body:wpAny (model X.prog X.w) X.A (exec (.Assign [.Name xn p1] (.Call (.Name fn p2) (e::es) [] p3) p4) X.env) (SP X pins D) (fun ev s'=>∃ H1 s1,Inv X pins σ H1 s1/\CXF X.prog X.w X.stack H1 s1 (fun cls _ H2=>exmOne X.K cls (.ref CB)=some true/\∀ dx,H2 dx=none->R dx (upd H2 dx (.xd [(f,v)]))) ev s') s:=by
  refine wpAny_Assign_Name (wpAny_Call_Name_kw ?_) hsw
  refine wpAny_mono (BO6 (X:={ X with xe:=fun _ _=>False }) hNf hvf hdf hcf pins s σ H (fun z Hz=>z=.ref fF/\Hz=H) (BQ7 I _) (CE7 hσ ⟨rfl,rfl⟩)) (fun u s1 q1=>?_) fun _ _ z=>z.elim
  obtain ⟨z,Hz,I1',rz,rfl,rfl⟩:=q1
  have I1:=BE2 I1'
  cases rz
  refine callWith_K (h₀:=X.base) I1.ok.mod.kin hk (wpAny_mono (ha (fun _ _=>False) p3 pins s1 σ Hz _ I1' h) (fun us s2 q2=>?_) fun _ _ z=>z.elim) he hpl
  obtain ⟨vs,H2,I2',r,q⟩:=q2
  have I2:=BE2 I2'
  refine ⟨I2.kIn,?_⟩
  have r2:Vals (vs++[]) (us++[]):=by rw [List.append_nil,List.append_nil]; exact r
  have q':sp (vs++[]) H2 (fun y H2=>D.nx (σ.set i (some y)) H2) (fun cls _ H2=>exmOne X.K cls (.ref CB)=some true/\∀ dx,H2 dx=none->R dx (upd H2 dx (.xd [(f,v)]))):=by rw [List.append_nil]; exact q
  have hlen:(us++[]).length=ps.length:=by rw [<- r2.length]; exact F.len _ _ _ _ q'
  refine wpAny_call (codeAny_mono (F.run X.A X.stack s2 H2 ⟨us,[]⟩ (us++[]) (vs++[]) _ _ hr I2.env0 (hb s2 us I2.kIn hlen) r2 q') fun res s' hq=>?_)
  cases res with
  | ok fl =>
   cases fl with
   | ret u =>
    obtain ⟨y,H3,I3,r3,q3⟩:=I2.after hq
    exact vM I3 hN hi hx r3 (fun s4 I4=>⟨_,H3,I4,q3⟩) (.inl hfn)
   | next=>exact False.elim hq
   | brk=>exact False.elim hq
   | cont=>exact False.elim hq
  | error ev=>exact ⟨H2,s2,I2,hq⟩
 refine wpAny_Try_except (wpAny_execs_cons (wpAny_mono body (fun fl s' q=>?_) fun ev s' hq=>?_))
 ·cases fl with
  | next=>exact wpAny_execs_nil (wpAny_execs_nil q)
  | brk=>exact q
  | cont=>exact q
  | ret u=>exact q
 obtain ⟨H1,s1,I1,hq1⟩:=hq
 obtain ⟨x',cls,a0,dx,H2,B,rfl,os,bare,un,hok,fl,cT,cO,cA,⟨oe0,hoe0,hdx0,hc2⟩,hm1,hE⟩:=hq1
 obtain ⟨vs0,hvs0,hvs2'⟩:=hc2 (by decide)
 have hvs2:=hvs2'.1 rfl
 have fl':=fl
 rw [hst] at fl'
 refine AH5 (base:=B) (outer:=X.outer) (L:=X.env.locals) (by rw [<- hst]; exact I1.ok.frames) hf fl' fun h4 held4 up4 dk4=>?_
 refine BP7 held4 fun h5 fl5 up5 dk5=>?_
 rw [<- hst] at fl5
 obtain ⟨un5,hok5⟩:=CB0 (P:=X.prog) (w:=X.w) un hok fl.1 fl.2.2.1 cT cO cA fl5.1 (up4.trans up5)
 have I5:Inv X pins σ H2 { s' with heap:=h5 }:=I1.call' (s':={ s' with heap:=h5 }) (ch:=[]) os un5 hok5 bare (fun b z=>absurd z (by simp))
 have X5:=qK I5 (.ref x')
 have ty5:Looks (model X.prog X.w) h5 (typeOf (.ref x')) cls:=by
  obtain ⟨ob,hob,hc⟩:=fl5.there
  subst hc
  exact (Looks.ld hob).andThen .now
 refine wpAny_handleBy_cons (codeAny_handlers_test (iT X5 hgC hmC ((exm_one I5.kIn ty5 hm1).here ?_) hdc)) (by intro z; cases z)
 refine codeAny_handlers_suite ?_
 refine uK fl5 fun h6 fl6 up6 dk6=>?_
 obtain ⟨un6,hok6⟩:=CB0 (P:=X.prog) (w:=X.w) un5 hok5 fl5.1 fl5.2.2.1 cT cO cA fl6.1 up6
 obtain ⟨o1,g1,d1,z1⟩:=dk4 x' oe0 hoe0
 obtain ⟨o2,g2,d2,z2⟩:=dk5 x' o1 g1
 obtain ⟨o3,g3,d3,z3⟩:=dk6 x' o2 g2
 obtain ⟨vs3,hvs3,hvs4⟩:=(z1.trans (z2.trans z3)) vs0 hvs0
 have nH:H2 x'=none:=by
  cases z:H2 x' with
  | none=>rfl
  | some u =>
   obtain ⟨o,ho⟩:=cT x' u z
   rw [fl.2.1] at ho
   cases ho
 have nF:x' ∉ frs X.stack:=fun hx'=>by
  obtain ⟨_,o',ho',hn'⟩:=fl6.2.2.1.mem hx'
  obtain ⟨oe,ws,hoe,_,hoed,_⟩:=fl6.first
  rw [hoe] at ho'
  cases ho'
  exact hn' _ hoed
 have I6:Inv X pins σ H2 { s' with heap:=h6 }:=I1.call' (s':={ s' with heap:=h6 }) (ch:=[]) os un6 hok6 bare (fun b z=>absurd z (by simp))
 refine wpAny_execs_cons (wpAny_mono (AV9 (Q:=fun _ _=>False) CI (Nat.le_refl _) hgr hr' hxe I6 g3 hvs3 (.inl (hvs4.trans hvs2)) (fun _=>hvs4.trans hvs2) nH nF hE hdr) (fun _ _ z=>z.elim) (hp (.ref x')))
def CE9 (K:Frag)(CB:Addr)(i ia:Nat)(sp:Sp)(t:TA)(f:Str)(R:Addr->Hp->Prop):TS:=fun D σ H=>t σ H fun vs H1=>sp vs H1 (fun y H2=>D.nx (σ.set i (some y)) H2)
 fun cls _ H2=>exmOne K cls (.ref CB)=some true/\∃ v,σ[ia]?=some (some v)/\∀ dx,H2 dx=none->R dx (upd H2 dx (.xd [(f,v)]))
theorem BW1 {i ia jj k k':Nat}{fn xn cn rn an f:Str}{CB C:Addr}{ps:List Str}{sp:Sp}{e:Expr}{es:List Expr}{t:TA}{R:Addr->Hp->Prop}{p1 p2 p3 p4 cp np anp cpos ap rpos hpos tpos:Pos}(hst:X.stack=X.env::X.outer)(hf:X.env.frame=some X.env.locals)(CF:CalG 1 X.prog X.w X.K X.mg X.base fn ps k sp)(hr:Room k X.A)(hgf:Gl X fn)(hNa:X.N[ia]?=some an)(hva:Vis X.env.scope an)(ha:∀ E',PA { X with xe:=E' } (e::es) t)(hN:X.N.Nodup)(hi:X.N[i]?=some xn)(hx:Loc X.env.scope xn)(hfn:X.fn xn=true)(hgC:Gl X cn)(hmC:X.mg cn=some (.ref CB))(CI:CalIA X.prog X.w X.K X.mg X.base rn C f k')(hgr:Gl X rn)(hr':Room (k'+1) X.A)(hp:∀ u,PassesOwnAt (model X.prog X.w) (X.A.mark (some u)) X.A X.env X.xe)(hxe:CB1 2 X C R)(hai:ia≠i)(hdf:(fn == ("__debug__":Str))=false:=by decide)(hda:(an == ("__debug__":Str))=false:=by decide)(hca:(an == ("__classdict__":Str))=false:=by decide)(hdc:(cn == ("__debug__":Str))=false:=by decide)(hdr:(rn == ("__debug__":Str))=false:=by decide)(he:starEach (e::es) X.env=(false,eval e X.env)::starEach es X.env:=by rfl)(hpl:(backTo p3 (starEach es X.env)).any (·.1)=false:=by rfl)(hsa:starEach [.Name an anp] X.env=[(false,eval (.Name an anp) X.env)]:=by rfl)(hsw:swapsWith (.Call (.Name fn p2) (e::es) [] p3) (some (.Name xn p1)) p4.line X.env=pure false:=by rfl) :
  PS X (.Try [.Assign [.Name xn p1] (.Call (.Name fn p2) (e::es) [] p3) p4] [.ExceptHandler (some (.Name cn cp)) none [.Raise (some (.Call (.Name rn np) [.Name an anp] [] cpos)) (some (.Constant .none jj ap)) rpos] hpos] [] [] tpos) (CE9 X.K CB i ia sp t f R):=by
 intro pins s σ H D I h
 obtain ⟨fF,fd,F,hb,hk,hmF⟩:=CF.ex
 have body:wpAny (model X.prog X.w) X.A (exec (.Assign [.Name xn p1] (.Call (.Name fn p2) (e::es) [] p3) p4) X.env) (SP X pins D) (fun ev s'=>∃ H1 s1,Inv X pins σ H1 s1/\qD X.prog X.w 1 X.stack H1 s1 (fun cls _ H2=>exmOne X.K cls (.ref CB)=some true/\∃ v,σ[ia]?=some (some v)/\∀ dx,H2 dx=none->R dx (upd H2 dx (.xd [(f,v)]))) ev s') s:=by
  refine wpAny_Assign_Name (wpAny_Call_Name_kw (iT I hgf hmF ?_ hdf)) hsw
  refine callWith_K (h₀:=X.base) I.ok.mod.kin hk (wpAny_mono (ha (fun _ _=>False) p3 pins s σ H _ (BQ7 I _) h) (fun us s2 q2=>?_) fun _ _ z=>z.elim) he hpl
  obtain ⟨vs,H2,I2',r,q⟩:=q2
  have I2:=BE2 I2'
  refine ⟨I2.kIn,?_⟩
  have r2:Vals (vs++[]) (us++[]):=by rw [List.append_nil,List.append_nil]; exact r
  have q':sp (vs++[]) H2 (fun y H2=>D.nx (σ.set i (some y)) H2) (fun cls _ H2=>exmOne X.K cls (.ref CB)=some true/\∃ v,σ[ia]?=some (some v)/\∀ dx,H2 dx=none->R dx (upd H2 dx (.xd [(f,v)]))):=by rw [List.append_nil]; exact q
  have hlen:(us++[]).length=ps.length:=by rw [<- r2.length]; exact F.len _ _ _ _ q'
  refine wpAny_call (codeAny_mono (F.run X.A X.stack s2 H2 ⟨us,[]⟩ (us++[]) (vs++[]) _ _ hr I2.env0 (hb s2 us I2.kIn hlen) r2 q') fun res s' hq=>?_)
  cases res with
  | ok fl =>
   cases fl with
   | ret u =>
    obtain ⟨y,H3,I3,r3,q3⟩:=I2.after hq
    exact vM I3 hN hi hx r3 (fun s4 I4=>⟨_,H3,I4,q3⟩) (.inl hfn)
   | next=>exact False.elim hq
   | brk=>exact False.elim hq
   | cont=>exact False.elim hq
  | error ev=>exact ⟨H2,s2,I2,hq⟩
 refine wpAny_Try_except (wpAny_execs_cons (wpAny_mono body (fun fl s' q=>?_) fun ev s' hq=>?_))
 ·cases fl with
  | next=>exact wpAny_execs_nil (wpAny_execs_nil q)
  | brk=>exact q
  | cont=>exact q
  | ret u=>exact q
 obtain ⟨H1,s1,I1,hq1⟩:=hq
 obtain ⟨x',cls,a0,dx,H2,B,rfl,os,bare,un,hok,fl,cT,cO,cA,⟨oe0,hoe0,hdx0,hc2⟩,hm1,v,hσv,hE⟩:=hq1
 obtain ⟨vs0,hvs0,hvs2⟩:=hc2 (by decide)
 have fl':=fl
 rw [hst] at fl'
 refine AH5 (base:=B) (outer:=X.outer) (L:=X.env.locals) (by rw [<- hst]; exact I1.ok.frames) hf fl' fun h4 held4 up4 dk4=>?_
 refine BP7 held4 fun h5 fl5 up5 dk5=>?_
 rw [<- hst] at fl5
 obtain ⟨un5,hok5⟩:=CB0 (P:=X.prog) (w:=X.w) un hok fl.1 fl.2.2.1 cT cO cA fl5.1 (up4.trans up5)
 have I5:Inv X pins σ H2 { s' with heap:=h5 }:=I1.call' (s':={ s' with heap:=h5 }) (ch:=[]) os un5 hok5 bare (fun b z=>absurd z (by simp))
 have X5:=qK I5 (.ref x')
 have ty5:Looks (model X.prog X.w) h5 (typeOf (.ref x')) cls:=by
  obtain ⟨ob,hob,hc⟩:=fl5.there
  subst hc
  exact (Looks.ld hob).andThen .now
 refine wpAny_handleBy_cons (codeAny_handlers_test (iT X5 hgC hmC ((exm_one I5.kIn ty5 hm1).here ?_) hdc)) (by intro z; cases z)
 refine codeAny_handlers_suite ?_
 refine uK fl5 fun h6 fl6 up6 dk6=>?_
 obtain ⟨un6,hok6⟩:=CB0 (P:=X.prog) (w:=X.w) un5 hok5 fl5.1 fl5.2.2.1 cT cO cA fl6.1 up6
 obtain ⟨o1,g1,d1,z1⟩:=dk4 x' oe0 hoe0
 obtain ⟨o2,g2,d2,z2⟩:=dk5 x' o1 g1
 obtain ⟨o3,g3,d3,z3⟩:=dk6 x' o2 g2
 obtain ⟨vs3,hvs3,hvs4⟩:=(z1.trans (z2.trans z3)) vs0 hvs0
 have nH:H2 x'=none:=by
  cases z:H2 x' with
  | none=>rfl
  | some u =>
   obtain ⟨o,ho⟩:=cT x' u z
   rw [fl.2.1] at ho
   cases ho
 have nF:x' ∉ frs X.stack:=fun hx'=>by
  obtain ⟨_,o',ho',hn'⟩:=fl6.2.2.1.mem hx'
  obtain ⟨oe,ws,hoe,_,hoed,_⟩:=fl6.first
  rw [hoe] at ho'
  cases ho'
  exact hn' _ hoed
 have I6:Inv X pins σ H2 { s' with heap:=h6 }:=I1.call' (s':={ s' with heap:=h6 }) (ch:=[]) os un6 hok6 bare (fun b z=>absurd z (by simp))
 have c6:=hvs2.kd (dk4.trans (dk5.trans dk6)) hvs4
 have hz:vs3[2]?=some .none\/∃ z oz zs,vs3[2]?=some (.ref z)/\h6.get? z=some oz/\H2 z=none/\z ∉ frs X.stack/\oz.data=.fields zs/\zs[2]?=some .none:=by
  rcases c6.2 rfl with q | ⟨z,oz,zs,q1,q2,q3,q4,q5⟩
  ·exact .inl q
  ·refine .inr ⟨z,oz,zs,q1,q2,q3,fun hz'=>?_,q4,q5⟩
   obtain ⟨_,o',ho',hn'⟩:=fl6.2.2.1.mem hz'
   rw [q2] at ho'
   cases ho'
   exact hn' _ q4
 refine wpAny_execs_cons (wpAny_mono (AO0 (Q:=fun _ _=>False) CI (by decide) hgr hr' hxe hNa hva hσv I6 g3 hvs3 hz (fun z=>absurd z (by decide)) nH nF hE hsa hdr hda hca) (fun _ _ z=>z.elim) (hp (.ref x')))
end
section
variable {P:Program}{w:World}{K:Frag}{mg:Str->Option Value}{base:Heap}{N:List Str}{qual:Str}{sc:Scope}{f:Addr}{cdv:Value}{A:Around}{outer:List Env}{s:Shared}{H:Hp}{E:XK}{C:Addr}
theorem CF0 {g:Nat}:CB1 g (zF g P w K mg base N qual sc f cdv A outer s H E) C (fun dx H9=>E (.ref C) (some dx) H9) :=
 fun pins σ H1 H' s1 s' e oe vs a0 I os bare un hok fe nH he hd h1 h0 hch hcl ⟨dx,hdi,hE⟩=>oZ I rfl rfl rfl os bare un hok fe nH he hd h1 h0 hch (by rw [hcl,hdi]; exact hE)
theorem AT8 {g:Nat}:∀ u,PassesOwnAt (model P w) ((zF g P w K mg base N qual sc f cdv A outer s H E).A.mark (some u)) (zF g P w K mg base N qual sc f cdv A outer s H E).A (zF g P w K mg base N qual sc f cdv A outer s H E).env (zF g P w K mg base N qual sc f cdv A outer s H E).xe:=fun _=>PassesOwnAt.leaving
end
theorem BE3 {K:Frag}{CB:Addr}{i j:Nat}{fF:Addr}{sp:Sp}{t:TA}{f:Str}{v:V}{R:Addr->Hp->Prop}{D:Ends}{σ:L2.St}{H:Hp}:CE8 K CB i j fF sp t f v R D σ H=(σ[j]?=some (some (.ref fF))/\t σ H fun vs H1=>sp vs H1 (fun y H2=>D.nx (σ.set i (some y)) H2)
 fun cls _ H2=>exmOne K cls (.ref CB)=some true/\∀ dx,H2 dx=none->R dx (upd H2 dx (.xd [(f,v)]))):=rfl
theorem BE4 {K:Frag}{CB:Addr}{i ia:Nat}{sp:Sp}{t:TA}{f:Str}{R:Addr->Hp->Prop}{D:Ends}{σ:L2.St}{H:Hp}:CE9 K CB i ia sp t f R D σ H=(t σ H fun vs H1=>sp vs H1 (fun y H2=>D.nx (σ.set i (some y)) H2)
 fun cls _ H2=>exmOne K cls (.ref CB)=some true/\∃ v,σ[ia]?=some (some v)/\∀ dx,H2 dx=none->R dx (upd H2 dx (.xd [(f,v)]))):=rfl
abbrev sp1:Str:=⟨#[32]⟩
def bB (n:Int):Str:=((toString n:String):Str)
mutual
def Tr.ws:Tr->List Str
 | .any=>[("any":Str)]
 | .kind us=>("kind":Str)::us
 | .place us=>("place":Str)::us
 | .weight n=>[("weight":Str),bB n]
 | .not t=>("not":Str)::t.ws
 | .both ts=>("(":Str)::(ts.ws "&"++[(")":Str)])
 | .either ts=>("(":Str)::(ts.ws "|"++[(")":Str)])
def Trs.ws (s:Str):Trs->List Str
 | .nil=>[]
 | .cons t .nil=>t.ws
 | .cons t (.cons t' ts)=>t.ws++s::Trs.ws s (.cons t' ts)
end
theorem uL (s:Str)(t:Tr):Trs.ws s (.cons t .nil)=t.ws:=by rw [Trs.ws.eq_def]
theorem mZ (s:Str)(t t':Tr)(ts:Trs):Trs.ws s (.cons t (.cons t' ts))=t.ws++s::Trs.ws s (.cons t' ts):=by rw [Trs.ws.eq_def]
theorem AT9:∀ t:Tr,t.ws≠[]
 | .any=>by rw [Tr.ws]; exact List.cons_ne_nil _ _
 | .kind us=>by rw [Tr.ws]; exact List.cons_ne_nil _ _
 | .place us=>by rw [Tr.ws]; exact List.cons_ne_nil _ _
 | .weight n=>by rw [Tr.ws]; exact List.cons_ne_nil _ _
 | .not t=>by rw [Tr.ws]; exact List.cons_ne_nil _ _
 | .both ts=>by rw [Tr.ws]; exact List.cons_ne_nil _ _
 | .either ts=>by rw [Tr.ws]; exact List.cons_ne_nil _ _
mutual
def Tr.wf:Tr->Prop
 | .any=>True
 | .kind us=>us≠[]/\(∀ u∈us,aZ u)/\us.Nodup
 | .place us=>us≠[]/\(∀ u∈us,aZ u)/\us.Nodup
 | .weight n=>0<=n/\n < 1000000
 | .not t=>t.wf
 | .both ts=>2<=ts.toL.length/\ts.wf
 | .either ts=>2<=ts.toL.length/\ts.wf
def Trs.wf:Trs->Prop
 | .nil=>True
 | .cons t ts=>t.wf/\ts.wf
end
theorem CF1 {ts:Trs}(h:2<=ts.toL.length):ts.toL≠[]:=fun z=>by rw [z] at h; simp at h
def AI2 (u:Str):Bool:=decide (1<=u.length/\u.length<=60/\∀ c∈u.cps.toList,48<=c/\c<=57) && (decide (u="0") || !Txt.startswith u "0")
def kI (u:Str):Bool:=if Txt.startswith u "-"=true then AI2 (Txt.slice u (some 1) none) && !decide (u="-0") else AI2 u
def dH (u:Str):Int:=(PySem.intText? u).getD 0
theorem gE (x:Str)(c:Nat):Txt.startswith x ⟨#[c]⟩=decide (x.cps.toList.head?=some c):=by
 obtain ⟨⟨l⟩⟩:=x
 cases l with
 | nil=>rfl
 | cons a l =>
  unfold Txt.startswith Builtin.Str.subAt
  have e:(⟨#[c]⟩:Str).length=1:=rfl
  rw [e,Bool.eq_iff_iff]
  simp only [Bool.and_eq_true,decide_eq_true_eq,beq_iff_eq]
  constructor
  ·rintro ⟨_,h⟩
   have h2:=congrArg Array.toList h
   simp at h2
   simp [h2]
  ·intro h
   simp at h
   refine ⟨by show 0+1<=(a::l).length; simp,?_⟩
   apply Array.toList_inj.mp
   simp [h]
theorem pD:∀ m:Nat,0 < m->(Nat.toDigits 10 m).head?≠some '0'/\Nat.toDigits 10 m≠[]:=by
 intro m
 induction m using Nat.strongRecOn with
 | _ m ih =>
  intro h0
  by_cases h:m < 10
  ·rw [Nat.toDigits_of_lt_base h]
   have q:∀ k:Nat,k < 10->0 < k->Nat.digitChar k≠'0':=by decide
   exact ⟨by simpa using q m h h0,by simp⟩
  ·have hm:m % 10 < 10:=Nat.mod_lt m (by decide)
   have t:Nat.toDigits 10 (m / 10)++Nat.toDigits 10 (m % 10)=Nat.toDigits 10 (10 * (m / 10)+m % 10):=Nat.toDigits_append_toDigits (by decide) (by omega) hm
   rw [Nat.div_add_mod] at t
   obtain ⟨i1,i2⟩:=ih (m / 10) (by omega) (by omega)
   rw [<- t]
   refine ⟨?_,by simp [i2]⟩
   cases e:Nat.toDigits 10 (m / 10) with
   | nil=>exact absurd e i2
   | cons a l=>rw [e] at i1; simpa using i1
theorem kX {n:Int}(h:0<=n):(bB n).cps.toList=(Nat.toDigits 10 n.toNat).map Char.toNat:=by
 obtain ⟨m,rfl⟩:=Int.eq_ofNat_of_zero_le h
 exact KIN.signs_num m
theorem fH {n:Int}(h:0<=n):∀ c∈(bB n).cps.toList,48<=c/\c<=57:=by
 intro c hc
 rw [kX h] at hc
 obtain ⟨ch,hch,e⟩:=List.mem_map.mp hc
 have r:=PyProof.Rows.digit_range (Nat.isDigit_of_mem_toDigits (by decide) (by decide) hch)
 rw [<- e]
 exact r
theorem AO1 {n:Int}(h0:0<=n)(h1:n < 1000000):1<=(bB n).length/\(bB n).length<=10:=by
 have hl:=KT.len_num h0 (show n < 10 ^ 10 by omega)
 refine ⟨?_,hl⟩
 have e:(bB n).length=(bB n).cps.toList.length:=by simp [Str.length]
 rw [e,kX h0,List.length_map]
 by_cases z:n=0
 ·subst z; decide
 ·exact List.length_pos_iff.mpr (pD n.toNat (by omega)).2
theorem AU0 {n:Int}(h0:0<=n)(hn:n≠0):(bB n).cps.toList.head?≠some 48:=by
 rw [kX h0]
 obtain ⟨i1,i2⟩:=pD n.toNat (by omega)
 cases e:Nat.toDigits 10 n.toNat with
 | nil=>exact absurd e i2
 | cons a l =>
  rw [e] at i1
  intro h
  simp at h i1
  exact i1 (Char.ext (UInt32.toNat_inj.mp h))
theorem iN {n:Int}(h0:0<=n)(h1:n < 1000000):kI (bB n)=true/\PySem.intText? (bB n)=some n/\dH (bB n)=n:=by
 have e:=KIN.num_reads h0 (show n < 10 ^ 10 by omega)
 refine ⟨?_,e,?_⟩
 ·obtain ⟨l1,l2⟩:=AO1 h0 h1
  have hd:=fH h0
  have ns:Txt.startswith (bB n) "-"=false:=by
   show Txt.startswith (bB n) ⟨#[45]⟩=false
   rw [gE]
   refine decide_eq_false fun h=>?_
   cases q:(bB n).cps.toList with
   | nil=>rw [q] at h; cases h
   | cons a l =>
    have:=hd a (by rw [q]; exact List.mem_cons_self)
    rw [q] at h
    simp at h
    omega
  unfold kI AI2
  rw [ns,if_neg (by decide),Bool.and_eq_true]
  refine ⟨decide_eq_true ⟨l1,by omega,hd⟩,?_⟩
  by_cases z:n=0
  ·subst z; decide +kernel
  ·rw [Bool.or_eq_true]
   right
   show (!Txt.startswith (bB n) ⟨#[48]⟩)=true
   rw [gE,decide_eq_false (AU0 h0 z)]
   rfl
 ·unfold dH
  rw [show PySem.intText? (bB n)=some n from e]
  rfl
structure Fm where
 sg:Str
 inn:List Tr
def plainF:List Str->List Fm->Option (Tr × List Str × List Fm)
 | [],_=>none
 | w::r,S =>
  if w="not"\/w="(" then plainF r (⟨w,[]⟩::S)
  else if w="any" then some (.any,r,S)
  else if w="kind" then (if r.takeWhile (fun u=>decide (aZ u))≠[]/\(r.takeWhile (fun u=>decide (aZ u))).Nodup then some (.kind (r.takeWhile fun u=>decide (aZ u)),r.dropWhile (fun u=>decide (aZ u)),S) else none)
  else if w="place" then (if r.takeWhile (fun u=>decide (aZ u))≠[]/\(r.takeWhile (fun u=>decide (aZ u))).Nodup then some (.place (r.takeWhile fun u=>decide (aZ u)),r.dropWhile (fun u=>decide (aZ u)),S) else none)
  else if w="weight" then (match r with
   | []=>none
   | n::r'=>if kI n=true/\0<=dH n then some (.weight (dH n),r',S) else none)
  else none
def closeF:List Fm->Tr->List Str->Option ((Tr × List Str) ⊕ (List Str × List Fm))
 | [],t,r=>some (.inl (t,r))
 | f::S,t,r =>
  if f.sg="not" then closeF S (.not t) r
  else match r with
   | []=>none
   | w::r' =>
    if w=")" then (if f.sg="&" then closeF S (.both (Trs.ofL (f.inn++[t]))) r' else if f.sg="|" then closeF S (.either (Trs.ofL (f.inn++[t]))) r' else none)
    else if (w="&"\/w="|")/\(f.sg="("\/f.sg=w) then some (.inr (r',⟨w,f.inn++[t]⟩::S)) else none
theorem cE (w:Str)(r:List Str)(S:List Fm):plainF (w::r) S=(
  if w="not"\/w="(" then plainF r (⟨w,[]⟩::S)
  else if w="any" then some (.any,r,S)
  else if w="kind" then (if r.takeWhile (fun u=>decide (aZ u))≠[]/\(r.takeWhile (fun u=>decide (aZ u))).Nodup then some (.kind (r.takeWhile fun u=>decide (aZ u)),r.dropWhile (fun u=>decide (aZ u)),S) else none)
  else if w="place" then (if r.takeWhile (fun u=>decide (aZ u))≠[]/\(r.takeWhile (fun u=>decide (aZ u))).Nodup then some (.place (r.takeWhile fun u=>decide (aZ u)),r.dropWhile (fun u=>decide (aZ u)),S) else none)
  else if w="weight" then (match r with
   | []=>none
   | n::r'=>if kI n=true/\0<=dH n then some (.weight (dH n),r',S) else none)
  else none):=by rw [plainF.eq_def]
theorem dB (f:Fm)(S:List Fm)(t:Tr)(r:List Str):closeF (f::S) t r=(
  if f.sg="not" then closeF S (.not t) r
  else match r with
   | []=>none
   | w::r' =>
    if w=")" then (if f.sg="&" then closeF S (.both (Trs.ofL (f.inn++[t]))) r' else if f.sg="|" then closeF S (.either (Trs.ofL (f.inn++[t]))) r' else none)
    else if (w="&"\/w="|")/\(f.sg="("\/f.sg=w) then some (.inr (r',⟨w,f.inn++[t]⟩::S)) else none):=by rw [closeF.eq_def]
def BW2:Nat->List Str->List Fm->Option (Tr × List Str)
 | 0,_,_=>none
 | n+1,r,S=>match plainF r S with
  | none=>none
  | some (t,r',S')=>match closeF S' t r' with
   | none=>none
   | some (.inl x)=>some x
   | some (.inr (r2,S2))=>BW2 n r2 S2
def BE5 (r:List Str)(S:List Fm):Option (Tr × List Str):=BW2 (r.length+1) r S
def CS2 (u:Str):Prop:=u ∉ ([("not":Str),"(","any","kind","place","weight",")","&","|"]:List Str)/\¬ aZ u/\kI u=false
def Eats (r r':List Str):Prop:=∃ p,r=p++r'/\∀ x∈p,¬ CS2 x
theorem Eats.refl (r:List Str):Eats r r:=⟨[],rfl,fun x h=>by cases h⟩
theorem Eats.trans {a b c:List Str}(x:Eats a b)(y:Eats b c):Eats a c:=by
 obtain ⟨p,rfl,hp⟩:=x
 obtain ⟨q,rfl,hq⟩:=y
 exact ⟨p++q,by rw [List.append_assoc],fun z hz=>(List.mem_append.mp hz).elim (hp z) (hq z)⟩
theorem Eats.one {w:Str}{r:List Str}(h:w∈([("not":Str),"(","any","kind","place","weight",")","&","|"]:List Str)):Eats (w::r) r:=⟨[w],rfl,fun x hx=>by rw [List.mem_singleton.mp hx]; exact fun z=>z.1 h⟩
theorem Eats.num {w:Str}{r:List Str}(h:kI w=true):Eats (w::r) r:=⟨[w],rfl,fun x hx=>by rw [List.mem_singleton.mp hx]; exact fun z=>by have q:=z.2.2; rw [h] at q; cases q⟩
theorem vS {α:Type}{p:α->Bool}{x:α}:∀ {l:List α},x∈l.takeWhile p->p x=true
 | [],h=>by cases h
 | a::l,h=>by
  rw [List.takeWhile_cons] at h
  split at h
  ·rename_i ha
   rcases List.mem_cons.mp h with rfl | h
   ·exact ha
   ·exact vS h
  ·cases h
theorem Eats.names (r:List Str):Eats r (r.dropWhile fun u=>decide (aZ u)):=⟨r.takeWhile fun u=>decide (aZ u),List.takeWhile_append_dropWhile.symm,fun x hx=>fun z=>z.2.1 (of_decide_eq_true (p:=aZ x) (vS (p:=fun u=>decide (aZ u)) hx))⟩
theorem Eats.len {a b:List Str}(x:Eats a b):b.length<=a.length:=by
 obtain ⟨p,rfl,_⟩:=x
 rw [List.length_append]
 omega
theorem sR:∀ {r:List Str}{S:List Fm}{t:Tr}{r':List Str}{S':List Fm},plainF r S=some (t,r',S')->Eats r r'/\r'.length < r.length
 | [],S,t,r',S',h=>by cases h
 | w::r,S,t,r',S',h=>by
  rw [cE] at h
  split at h
  ·rename_i hw
   obtain ⟨a,b⟩:=sR h
   exact ⟨(Eats.one (by rcases hw with rfl | rfl <;> simp)).trans a,by rw [List.length_cons]; omega⟩
  split at h
  ·rename_i hw
   cases h
   exact ⟨Eats.one (by rw [hw]; simp),by rw [List.length_cons]; omega⟩
  split at h
  ·rename_i hw
   split at h
   ·cases h
    exact ⟨(Eats.one (by rw [hw]; simp)).trans (Eats.names r),by have:=(Eats.names r).len; rw [List.length_cons]; omega⟩
   ·cases h
  split at h
  ·rename_i hw
   split at h
   ·cases h
    exact ⟨(Eats.one (by rw [hw]; simp)).trans (Eats.names r),by have:=(Eats.names r).len; rw [List.length_cons]; omega⟩
   ·cases h
  split at h
  ·rename_i hw
   cases r with
   | nil=>cases h
   | cons n r =>
    dsimp only at h
    split at h
    ·rename_i hn
     cases h
     exact ⟨(Eats.one (by rw [hw]; simp)).trans (Eats.num hn.1),by rw [List.length_cons,List.length_cons]; omega⟩
    ·cases h
  ·cases h
def CN7 (r:List Str):(Tr × List Str) ⊕ (List Str × List Fm)->Prop
 | .inl x=>Eats r x.2
 | .inr x=>Eats r x.1/\x.1.length < r.length
theorem kY:∀ {S:List Fm}{t:Tr}{r:List Str}{x:(Tr × List Str) ⊕ (List Str × List Fm)},closeF S t r=some x->CN7 r x
 | [],t,r,x,h=>by cases h; exact Eats.refl r
 | f::S,t,r,x,h=>by
  rw [dB] at h
  split at h
  ·exact kY h
  cases r with
  | nil=>cases h
  | cons w r =>
   dsimp only at h
   have up:∀ {y},CN7 r y->w∈([("not":Str),"(","any","kind","place","weight",")","&","|"]:List Str)->CN7 (w::r) y:=fun {y} hy hw=>by
    cases y with
    | inl y=>exact (Eats.one hw).trans hy
    | inr y=>exact ⟨(Eats.one hw).trans hy.1,by have:=hy.2; rw [List.length_cons]; omega⟩
   split at h
   ·rename_i hw
    split at h
    ·exact up (kY h) (by rw [hw]; simp)
    split at h
    ·exact up (kY h) (by rw [hw]; simp)
    ·cases h
   split at h
   ·rename_i hw
    cases h
    exact ⟨Eats.one (by rcases hw.1 with rfl | rfl <;> simp),by show r.length < (w::r).length; rw [List.length_cons]; omega⟩
   ·cases h
theorem AI3:∀ {n m:Nat}{r:List Str}{S:List Fm},r.length < n->r.length < m->BW2 n r S=BW2 m r S
 | 0,m,r,S,h,_=>absurd h (Nat.not_lt_zero _)
 | n,0,r,S,_,h=>absurd h (Nat.not_lt_zero _)
 | n+1,m+1,r,S,h1,h2=>by
  rw [BW2,BW2]
  cases e:plainF r S with
  | none=>rfl
  | some x =>
   obtain ⟨t,r',S'⟩:=x
   dsimp only
   have l1:=(sR e).2
   cases e2:closeF S' t r' with
   | none=>rfl
   | some y =>
    cases y with
    | inl y=>rfl
    | inr y =>
     have l2:=(kY e2).2
     exact AI3 (by omega) (by omega)
def after (S:List Fm)(t:Tr)(r:List Str):Option (Tr × List Str):=match closeF S t r with
 | none=>none
 | some (.inl x)=>some x
 | some (.inr (r2,S2))=>BE5 r2 S2
theorem iX (r:List Str)(S:List Fm):BE5 r S=match plainF r S with
  | none=>none
  | some (t,r',S')=>after S' t r':=by
 rw [BE5,BW2]
 cases e:plainF r S with
 | none=>rfl
 | some x =>
  obtain ⟨t,r',S'⟩:=x
  dsimp only
  have l1:=(sR e).2
  rw [after]
  cases e2:closeF S' t r' with
  | none=>rfl
  | some y =>
   cases y with
   | inl y=>rfl
   | inr y =>
    have l2:=(kY e2).2
    exact AI3 (by omega) (Nat.lt_succ_self _)
def BI6:List Str->Prop
 | []=>True
 | w::_=>¬ aZ w
theorem zP {us r:List Str}(h:∀ u∈us,aZ u)(hr:BI6 r):(us++r).takeWhile (fun u=>decide (aZ u))=us/\(us++r).dropWhile (fun u=>decide (aZ u))=r:=by
 induction us with
 | nil =>
  cases r with
  | nil=>exact ⟨rfl,rfl⟩
  | cons w r =>
   have e:decide (aZ w)=false:=decide_eq_false hr
   rw [List.nil_append,List.takeWhile_cons,List.dropWhile_cons,e]
   exact ⟨rfl,rfl⟩
 | cons u us ih =>
  have e:decide (aZ u)=true:=decide_eq_true (h u List.mem_cons_self)
  obtain ⟨i1,i2⟩:=ih fun v hv=>h v (List.mem_cons_of_mem _ hv)
  rw [List.cons_append,List.takeWhile_cons,List.dropWhile_cons,e,if_pos rfl,if_pos rfl,i1,i2]
  exact ⟨rfl,rfl⟩
theorem AO2:∀ ts:Trs,Trs.ofL ts.toL=ts
 | .nil=>rfl
 | .cons t ts=>by rw [Trs.toL,Trs.ofL,AO2 ts]
mutual
theorem BM1:∀ {t:Tr}{r:List Str}{S:List Fm},t.wf->BI6 r->BE5 (t.ws++r) S=after S t r
 | .any,r,S,_,_=>by
  rw [Tr.ws,iX]
  rfl
 | .kind us,r,S,h,hr=>by
  rw [Tr.wf] at h
  obtain ⟨e1,e2⟩:=zP h.2.1 hr
  rw [Tr.ws,iX,List.cons_append,cE,if_neg (by decide),if_neg (by decide),if_pos rfl,e1,e2,if_pos ⟨h.1,h.2.2⟩]
 | .place us,r,S,h,hr=>by
  rw [Tr.wf] at h
  obtain ⟨e1,e2⟩:=zP h.2.1 hr
  rw [Tr.ws,iX,List.cons_append,cE,if_neg (by decide),if_neg (by decide),if_neg (by decide),if_pos rfl,e1,e2,if_pos ⟨h.1,h.2.2⟩]
 | .weight n,r,S,h,_=>by
  rw [Tr.wf] at h
  obtain ⟨e1,e2,e3⟩:=iN h.1 h.2
  rw [Tr.ws,iX,List.cons_append,cE,if_neg (by decide),if_neg (by decide),if_neg (by decide),if_neg (by decide),if_pos rfl]
  dsimp only [List.cons_append,List.nil_append]
  rw [if_pos ⟨e1,by rw [e3]; exact h.1⟩,e3]
 | .not t,r,S,h,hr=>by
  rw [Tr.wf] at h
  have i:=BM1 (t:=t) (r:=r) (S:=⟨"not",[]⟩::S) h hr
  rw [iX] at i
  rw [Tr.ws,iX,List.cons_append,cE,if_pos (by decide),i,after,dB,if_pos rfl]
  rfl
 | .both ts,r,S,h,hr=>by
  rw [Tr.wf] at h
  have i:=rounds (s:="&") (mk:=.both) (fun S t r f hf=>by rw [after,after,dB,hf.1,if_neg (by decide)]; dsimp only; rw [if_pos rfl,if_pos rfl]) (by decide) (by decide) (by decide) (by decide) (ts:=ts) (r:=r) (S:=S) (f:=⟨"(",[]⟩) h.2 (CF1 h.1) (.inl rfl) (by rw [List.nil_append]; exact h.1) (fun _=>rfl) (fun z=>absurd z (by decide))
  rw [iX] at i
  rw [Tr.ws,iX,List.cons_append,cE,if_pos (by decide),List.append_assoc,List.singleton_append]
  rw [i,List.nil_append,AO2]
 | .either ts,r,S,h,hr=>by
  rw [Tr.wf] at h
  have i:=rounds (s:="|") (mk:=.either) (fun S t r f hf=>by rw [after,after,dB,hf.1,if_neg (by decide)]; dsimp only; rw [if_pos rfl,if_neg (by decide),if_pos rfl]) (by decide) (by decide) (by decide) (by decide) (ts:=ts) (r:=r) (S:=S) (f:=⟨"(",[]⟩) h.2 (CF1 h.1) (.inl rfl) (by rw [List.nil_append]; exact h.1) (fun _=>rfl) (fun z=>absurd z (by decide))
  rw [iX] at i
  rw [Tr.ws,iX,List.cons_append,cE,if_pos (by decide),List.append_assoc,List.singleton_append]
  rw [i,List.nil_append,AO2]
theorem rounds {s:Str}{mk:Trs->Tr}(hc:∀ (S:List Fm) (t:Tr) (r:List Str) (f:Fm),f.sg=s/\True->after (f::S) t ((")":Str)::r)=after S (mk (Trs.ofL (f.inn++[t]))) r)(h1:s="&"\/s="|")(h2:s≠")")(h3:s≠"not")(h4:¬ aZ s) :
  ∀ {ts:Trs}{r:List Str}{S:List Fm}{f:Fm},ts.wf->ts.toL≠[]->(f.sg="("\/f.sg=s)->2<=(f.inn++ts.toL).length->(f.sg="("->f.inn=[])->(f.sg="not"->False)->BE5 (ts.ws s++((")":Str)::r)) (f::S)=after S (mk (Trs.ofL (f.inn++ts.toL))) r
 | .nil,r,S,f,_,h,_,_,_,_=>absurd rfl h
 | .cons t .nil,r,S,f,h,_,hf,hl,h0,hn=>by
  rw [Trs.wf] at h
  have i:=BM1 (t:=t) (r:=(")":Str)::r) (S:=f::S) h.1 (show ¬ aZ ")" by decide)
  have hs:f.sg=s:=by
   rcases hf with z | z
   ·rw [h0 z] at hl
    simp [Trs.toL] at hl
   ·exact z
  rw [uL,i,hc S t r f ⟨hs,trivial⟩]
  rfl
 | .cons t (.cons t' ts),r,S,f,h,_,hf,hl,h0,hn=>by
  rw [Trs.wf] at h
  have i:=BM1 (t:=t) (r:=s::(Trs.ws s (.cons t' ts)++((")":Str)::r))) (S:=f::S) h.1 h4
  have j:=rounds hc h1 h2 h3 h4 (ts:=.cons t' ts) (r:=r) (S:=S) (f:=⟨s,f.inn++[t]⟩) h.2 (by rw [Trs.toL]; simp) (.inr rfl) (by rw [Trs.toL,List.length_append,List.length_append,List.length_cons,List.length_cons,List.length_nil]; omega) (fun z=>by
   have z:s="(":=z
   rcases h1 with y | y
   ·rw [y] at z; exact absurd z (by decide)
   ·rw [y] at z; exact absurd z (by decide)) (fun z=>h3 z)
  rw [mZ,List.append_assoc,List.cons_append,i,after,dB,if_neg (fun z=>hn z)]
  dsimp only
  rw [if_neg h2,if_pos ⟨h1,hf.imp id id⟩]
  dsimp only
  rw [j]
  show after S (mk (Trs.ofL (f.inn++[t]++(Trs.cons t' ts).toL))) r=after S (mk (Trs.ofL (f.inn++(t::(Trs.cons t' ts).toL)))) r
  rw [List.append_assoc]
  rfl
end
theorem AB5 (H:Hp):Same H H:=fun _ _ z=>z
def Out (M:List Addr)(H:Hp):Hp:=fun b=>if b∈M then none else H b
theorem eC {M:List Addr}{H:Hp}{b:Addr}{o:HO}(n:b ∉ M)(h:H b=some o):Out M H b=some o:=by
 unfold Out; rw [if_neg n]; exact h
theorem iY {M:List Addr}{H:Hp}:Same (Out M H) H:=fun b o h=>by
 unfold Out at h
 split at h
 ·cases h
 ·exact h
theorem lH {M M':List Addr}{H H':Hp}(h:∀ b o,b ∉ M->H b=some o->b ∉ M'/\H' b=some o):Same (Out M H) (Out M' H'):=fun b o e=>by
 unfold Out at e
 split at e
 ·cases e
 ·rename_i n
  exact eC (h b o n e).1 (h b o n e).2
theorem jT {M:List Addr}{H H':Hp}(S:Same H H'):Same (Out M H) (Out M H'):=lH fun b o n e=>⟨n,S b o e⟩
structure OF where
 r:Addr
 d:Addr
 il:Addr
 sg:Str
 vs:List V
 inn:List Tr
def OF.fm (f:OF):Fm:=⟨f.sg,f.inn⟩
def OF.app (f:OF)(v:V)(t:Tr):OF:={ f with vs:=f.vs++[v],inn:=f.inn++[t] }
def OF.sign (f:OF)(s:Str):OF:={ f with sg:=s }
def bF (wl:Addr)(i:Nat):List (Str × V):=[("words",.ref wl),("at",.int (i:Int))]
def lI (s:Str)(il:Addr):List (Str × V):=[("sign",.str s),("inner",.ref il)]
theorem AI4 {s:Str}{il wl:Addr}{i:Nat}:lI s il≠bF wl i:=fun z=>absurd (Prod.mk.inj (List.cons.inj z).1).1 (by decide)
def AB6 (wp op:Addr)(fs:List OF):List Addr:=wp::op::(fs.map (·.r)++fs.map (·.il))
structure WAt (C:Addr) (H:Hp) (wp dw wl:Addr) (ts:List Str) (i:Nat):Prop where
 w:H wp=some (.ins C dw (bF wl i))
 l:H wl=some (.lst (ts.map V.str))
theorem WAt.same {C:Addr}{H H':Hp}{wp dw wl:Addr}{ts:List Str}{i:Nat}(h:WAt C H wp dw wl ts i)(S:Same H H'):WAt C H' wp dw wl ts i:=⟨S _ _ h.w,S _ _ h.l⟩
theorem WAt.ne {C:Addr}{H:Hp}{wp dw wl:Addr}{ts:List Str}{i:Nat}(h:WAt C H wp dw wl ts i):wl≠wp:=xW h.l h.w (by intro z; cases z)
theorem WAt.take {C:Addr}{H:Hp}{wp dw wl:Addr}{ts:List Str}{i:Nat}(h:WAt C H wp dw wl ts i)(j:Nat):WAt C (upd H wp (.ins C dw (bF wl j))) wp dw wl ts j:=⟨aA,by rw [aG h.ne]; exact h.l⟩
structure PSt (Cw Co:Addr) (c:FC) (H:Hp) (wp dw wl:Addr) (ts:List Str) (i:Nat) (op:Addr) (fs:List OF) (G:Hp):Prop where
 W:WAt Cw H wp dw wl ts i
 O:H op=some (.lst (fs.reverse.map fun f=>V.ref f.r))
 F:∀ f∈fs,H f.r=some (.ins Co f.d (lI f.sg f.il))/\H f.il=some (.lst f.vs)
 N:(wl::op::fs.map (·.il)).Nodup
 R:(fs.map (·.r)).Nodup
 T:∀ f∈fs,All2 (Tr.Fit c (Out (AB6 wp op fs) H)) f.inn f.vs
 K:But wp G H
 Z:∀ b∈AB6 wp op fs,b≠wp->G b=none
section
variable {Cw Co:Addr}{c:FC}{H H':Hp}{wp dw wl:Addr}{ts:List Str}{i:Nat}{op:Addr}{fs:List OF}{f:OF}{G:Hp}
theorem mem_muts {b:Addr}:b∈AB6 wp op fs ↔ b=wp\/b=op\/(∃ f∈fs,f.r=b)\/∃ f∈fs,f.il=b:=by
 unfold AB6
 simp only [List.mem_cons,List.mem_append,List.mem_map]
theorem PSt.there (h:PSt Cw Co c H wp dw wl ts i op fs G){b:Addr}(hb:b∈AB6 wp op fs):∃ o,H b=some o:=by
 rcases mem_muts.mp hb with rfl | rfl | ⟨f,hf,rfl⟩ | ⟨f,hf,rfl⟩
 ·exact ⟨_,h.W.w⟩
 ·exact ⟨_,h.O⟩
 ·exact ⟨_,(h.F f hf).1⟩
 ·exact ⟨_,(h.F f hf).2⟩
theorem PSt.new (h:PSt Cw Co c H wp dw wl ts i op fs G){b:Addr}(hb:H b=none):b ∉ AB6 wp op fs:=fun z=>by
 obtain ⟨o,e⟩:=h.there z
 rw [hb] at e
 cases e
theorem PSt.same (h:PSt Cw Co c H wp dw wl ts i op fs G)(S:Same H H'):PSt Cw Co c H' wp dw wl ts i op fs G :=
 ⟨h.W.same S,S _ _ h.O,fun f hf=>⟨S _ _ (h.F f hf).1,S _ _ (h.F f hf).2⟩,h.N,h.R,fun f hf=>(h.T f hf).imp fun t v _ q=>q.same (jT S),h.K.trans (Same.but S),h.Z⟩
theorem PSt.words {j:Nat}(h:PSt Cw Co c H wp dw wl ts i op fs G)(B:But wp H H')(w':WAt Cw H' wp dw wl ts j):PSt Cw Co c H' wp dw wl ts j op fs G:=by
 have nw:∀ b o,H b=some o->o≠.ins Cw dw (bF wl i)->H' b=some o:=fun b o e n=>B b o (xW e h.W.w n) e
 refine ⟨w',nw _ _ h.O (by intro z; cases z),fun f hf=>⟨nw _ _ (h.F f hf).1 (fun z=>AI4 (HO.ins.inj z).2.2),nw _ _ (h.F f hf).2 (by intro z; cases z)⟩,h.N,h.R,fun f hf=>(h.T f hf).imp fun t v _ q=>q.same (lH fun b o n e=>⟨n,B b o (fun z=>n (by rw [z]; exact List.mem_cons_self)) e⟩),h.K.trans B,h.Z⟩
theorem PSt.take (h:PSt Cw Co c H wp dw wl ts i op fs G)(j:Nat):PSt Cw Co c (upd H wp (.ins Cw dw (bF wl j))) wp dw wl ts j op fs G:=h.words (But.upd _) (h.W.take j)
theorem PSt.ow (h:PSt Cw Co c H wp dw wl ts i op fs G):op≠wp/\op≠wl/\(∀ f∈fs,op≠f.il/\op≠f.r/\f.r≠wp/\f.r≠wl/\f.il≠wp/\f.il≠wl):=by
 obtain ⟨n1,n2⟩:=List.nodup_cons.mp h.N
 obtain ⟨n3,n4⟩:=List.nodup_cons.mp n2
 refine ⟨xW h.O h.W.w (by intro z; cases z),fun z=>n1 (by rw [z]; exact List.mem_cons_self),fun f hf=>⟨fun z=>n3 (by rw [z]; exact List.mem_map.mpr ⟨f,hf,rfl⟩),xW h.O (h.F f hf).1 (by intro z; cases z),xW (h.F f hf).1 h.W.w (fun z=>AI4 (HO.ins.inj z).2.2),xW (h.F f hf).1 h.W.l (by intro z; cases z),xW (h.F f hf).2 h.W.w (by intro z; cases z),fun z=>n1 (List.mem_cons_of_mem _ (by rw [<- z]; exact List.mem_map.mpr ⟨f,hf,rfl⟩))⟩⟩
theorem PSt.free (h:PSt Cw Co c H wp dw wl ts i op fs G){b:Addr}(hb:H b=none):G b=none:=by
 cases e:G b with
 | none=>rfl
 | some o =>
  have q:=h.K b o (fun z=>by rw [z,h.W.w] at hb; cases hb) e
  rw [hb] at q
  cases q
theorem PSt.kupd (h:PSt Cw Co c H wp dw wl ts i op fs G){p:Addr}{o:HO}(hp:p∈AB6 wp op fs)(hn:p≠wp){H1:Hp}(S:Same H H1):But wp G (upd H1 p o):=fun b u n e=>by
 rw [aG (fun z=>by rw [z,h.Z p hp hn] at e; cases e)]
 exact S _ _ (h.K b u n e)
theorem PSt.push {H1:Hp}{r d il:Addr}{sg:Str}(h:PSt Cw Co c H wp dw wl ts i op fs G)(S:Same H H1)(hr:H r=none)(hil:H il=none)(h1:H1 r=some (.ins Co d (lI sg il)))(h2:H1 il=some (.lst [])) :
  PSt Cw Co c (upd H1 op (.lst ((fs.reverse.map fun f=>V.ref f.r)++[.ref r]))) wp dw wl ts i op (⟨r,d,il,sg,[],[]⟩::fs) G:=by
 obtain ⟨o1,o2,o3⟩:=h.ow
 have nr:∀ b,(∃ o,H b=some o)->b≠r/\b≠il:=fun b ⟨o,e⟩=>⟨aQ e hr,aQ e hil⟩
 have k:=h.same S
 have no:=nr op ⟨_,h.O⟩
 refine ⟨⟨by rw [aG o1.symm]; exact k.W.w,by rw [aG o2.symm]; exact k.W.l⟩,?_,fun f hf=>?_,?_,?_,fun f hf=>?_,h.kupd (mem_muts.mpr (.inr (.inl rfl))) o1 S,fun b hb hn=>?_⟩
 ·rw [aA,List.reverse_cons,List.map_append]; rfl
 ·rcases List.mem_cons.mp hf with rfl | hf
  ·exact ⟨by rw [aG no.1.symm]; exact h1,by rw [aG no.2.symm]; exact h2⟩
  ·exact ⟨by rw [aG (o3 f hf).2.1.symm]; exact (k.F f hf).1,by rw [aG (o3 f hf).1.symm]; exact (k.F f hf).2⟩
 ·obtain ⟨n1,n2⟩:=List.nodup_cons.mp h.N
  obtain ⟨n3,n4⟩:=List.nodup_cons.mp n2
  have nl:=nr wl ⟨_,h.W.l⟩
  rw [List.map_cons]
  refine List.nodup_cons.mpr ⟨?_,List.nodup_cons.mpr ⟨?_,List.nodup_cons.mpr ⟨?_,n4⟩⟩⟩
  ·intro z
   rcases List.mem_cons.mp z with z | z
   ·exact o2 z.symm
   rcases List.mem_cons.mp z with z | z
   ·exact nl.2 z
   ·exact n1 (List.mem_cons_of_mem _ z)
  ·intro z
   rcases List.mem_cons.mp z with z | z
   ·exact no.2 z
   ·exact n3 z
  ·intro z
   obtain ⟨f,hf,e⟩:=List.mem_map.mp z
   exact (nr f.il ⟨_,(h.F f hf).2⟩).2 e
 ·rw [List.map_cons]
  refine List.nodup_cons.mpr ⟨fun z=>?_,h.R⟩
  obtain ⟨f,hf,e⟩:=List.mem_map.mp z
  exact (nr f.r ⟨_,(h.F f hf).1⟩).1 e
 ·rcases List.mem_cons.mp hf with rfl | hf
  ·exact .nil
  ·refine (h.T f hf).imp fun t v _ q=>q.same (lH fun b o n e=>⟨fun z=>?_,?_⟩)
   ·rcases mem_muts.mp z with z | z | ⟨g,hg,z⟩ | ⟨g,hg,z⟩
    ·exact n (mem_muts.mpr (.inl z))
    ·exact n (mem_muts.mpr (.inr (.inl z)))
    ·rcases List.mem_cons.mp hg with rfl | hg
     ·exact (nr b ⟨_,e⟩).1 z.symm
     ·exact n (mem_muts.mpr (.inr (.inr (.inl ⟨g,hg,z⟩))))
    ·rcases List.mem_cons.mp hg with rfl | hg
     ·exact (nr b ⟨_,e⟩).2 z.symm
     ·exact n (mem_muts.mpr (.inr (.inr (.inr ⟨g,hg,z⟩))))
   ·rw [aG (fun z=>n (mem_muts.mpr (.inr (.inl z))))]
    exact S b o e
 ·rcases mem_muts.mp hb with z | z | ⟨g,hg,z⟩ | ⟨g,hg,z⟩
  ·exact absurd z hn
  ·exact h.Z b (mem_muts.mpr (.inr (.inl z))) hn
  ·rcases List.mem_cons.mp hg with rfl | hg
   ·rw [<- z]; exact h.free hr
   ·exact h.Z b (mem_muts.mpr (.inr (.inr (.inl ⟨g,hg,z⟩)))) hn
  ·rcases List.mem_cons.mp hg with rfl | hg
   ·rw [<- z]; exact h.free hil
   ·exact h.Z b (mem_muts.mpr (.inr (.inr (.inr ⟨g,hg,z⟩)))) hn
theorem BE6 {M:List Addr}{p:Addr}{o:HO}(h:p∈M):Same (Out M H) (Out M (upd H p o)):=lH fun b u n e=>⟨n,by rw [aG (fun z=>n (by rw [z]; exact h))]; exact e⟩
theorem BQ9 (h:PSt Cw Co c H wp dw wl ts i op (f::fs) G):(∀ g∈fs,g.r≠f.r/\g.il≠f.il/\g.r≠f.il/\g.il≠f.r)/\f.r≠f.il:=by
 obtain ⟨n1,n2⟩:=List.nodup_cons.mp h.N
 obtain ⟨n3,n4⟩:=List.nodup_cons.mp n2
 rw [List.map_cons] at n4
 have n5:=(List.nodup_cons.mp n4).1
 have r5:=h.R
 rw [List.map_cons] at r5
 have r6:=(List.nodup_cons.mp r5).1
 have hf:=h.F f List.mem_cons_self
 refine ⟨fun g hg=>?_,xW hf.1 hf.2 (by intro z; cases z)⟩
 have hG:=h.F g (List.mem_cons_of_mem _ hg)
 exact ⟨fun z=>r6 (by rw [<- z]; exact List.mem_map.mpr ⟨g,hg,rfl⟩),fun z=>n5 (by rw [<- z]; exact List.mem_map.mpr ⟨g,hg,rfl⟩),xW hG.1 hf.2 (by intro z; cases z),xW hG.2 hf.1 (by intro z; cases z)⟩
theorem PSt.inner {v:V}{t:Tr}(h:PSt Cw Co c H wp dw wl ts i op (f::fs) G)(hv:Tr.Fit c (Out (AB6 wp op (f::fs)) H) t v):PSt Cw Co c (upd H f.il (.lst (f.vs++[v]))) wp dw wl ts i op (f.app v t::fs) G:=by
 obtain ⟨o1,o2,o3⟩:=h.ow
 obtain ⟨t1,t2⟩:=BQ9 h
 obtain ⟨p1,p2,p3,p4,p5,p6⟩:=o3 f List.mem_cons_self
 have mi:f.il∈AB6 wp op (f::fs):=mem_muts.mpr (.inr (.inr (.inr ⟨f,List.mem_cons_self,rfl⟩)))
 have So:=BE6 (H:=H) (o:=.lst (f.vs++[v])) mi
 refine ⟨⟨by rw [aG p5.symm]; exact h.W.w,by rw [aG p6.symm]; exact h.W.l⟩,by rw [aG p1]; have e:=h.O; rw [List.reverse_cons,List.map_append] at e ⊢; exact e,fun g hg=>?_,h.N,h.R,fun g hg=>?_,h.kupd mi p5 (AB5 _),h.Z⟩
 ·rcases List.mem_cons.mp hg with rfl | hg
  ·exact ⟨by rw [show (f.app v t).r=f.r from rfl,aG t2]; exact (h.F f List.mem_cons_self).1,aA⟩
  ·have q:=t1 g hg
   have k:=h.F g (List.mem_cons_of_mem _ hg)
   exact ⟨by rw [aG q.2.2.1]; exact k.1,by rw [aG q.2.1]; exact k.2⟩
 ·rcases List.mem_cons.mp hg with rfl | hg
  ·exact ((h.T f List.mem_cons_self).imp fun t v _ q=>q.same So).snoc (hv.same So)
  ·exact (h.T g (List.mem_cons_of_mem _ hg)).imp fun t v _ q=>q.same So
theorem PSt.sign {s:Str}(h:PSt Cw Co c H wp dw wl ts i op (f::fs) G):PSt Cw Co c (upd H f.r (.ins Co f.d (lI s f.il))) wp dw wl ts i op (f.sign s::fs) G:=by
 obtain ⟨o1,o2,o3⟩:=h.ow
 obtain ⟨t1,t2⟩:=BQ9 h
 obtain ⟨p1,p2,p3,p4,p5,p6⟩:=o3 f List.mem_cons_self
 have mi:f.r∈AB6 wp op (f::fs):=mem_muts.mpr (.inr (.inr (.inl ⟨f,List.mem_cons_self,rfl⟩)))
 have So:=BE6 (H:=H) (o:=.ins Co f.d (lI s f.il)) mi
 refine ⟨⟨by rw [aG p3.symm]; exact h.W.w,by rw [aG p4.symm]; exact h.W.l⟩,by rw [aG p2]; have e:=h.O; rw [List.reverse_cons,List.map_append] at e ⊢; exact e,fun g hg=>?_,h.N,h.R,fun g hg=>?_,h.kupd mi p3 (AB5 _),h.Z⟩
 ·rcases List.mem_cons.mp hg with rfl | hg
  ·exact ⟨aA,by rw [show (f.sign s).il=f.il from rfl,aG t2.symm]; exact (h.F f List.mem_cons_self).2⟩
  ·have q:=t1 g hg
   have k:=h.F g (List.mem_cons_of_mem _ hg)
   exact ⟨by rw [aG q.1]; exact k.1,by rw [aG q.2.2.2]; exact k.2⟩
 ·rcases List.mem_cons.mp hg with rfl | hg
  ·exact (h.T f List.mem_cons_self).imp fun t v _ q=>q.same So
  ·exact (h.T g (List.mem_cons_of_mem _ hg)).imp fun t v _ q=>q.same So
theorem AU1 (h:PSt Cw Co c H wp dw wl ts i op (f::fs) G):Same (Out (AB6 wp op (f::fs)) H) (Out (AB6 wp op fs) (upd H op (.lst (fs.reverse.map fun f=>V.ref f.r)))) :=
 lH fun b o n e=>⟨fun z=>n (mem_muts.mpr (by
  rcases mem_muts.mp z with z | z | ⟨g,hg,z⟩ | ⟨g,hg,z⟩
  ·exact .inl z
  ·exact .inr (.inl z)
  ·exact .inr (.inr (.inl ⟨g,List.mem_cons_of_mem _ hg,z⟩))
  ·exact .inr (.inr (.inr ⟨g,List.mem_cons_of_mem _ hg,z⟩)))),by rw [aG (fun z=>n (mem_muts.mpr (.inr (.inl z))))]; exact e⟩
theorem PSt.pop (h:PSt Cw Co c H wp dw wl ts i op (f::fs) G):PSt Cw Co c (upd H op (.lst (fs.reverse.map fun f=>V.ref f.r))) wp dw wl ts i op fs G:=by
 obtain ⟨o1,o2,o3⟩:=h.ow
 refine ⟨⟨by rw [aG o1.symm]; exact h.W.w,by rw [aG o2.symm]; exact h.W.l⟩,aA,fun g hg=>?_,?_,?_,fun g hg=>(h.T g (List.mem_cons_of_mem _ hg)).imp fun t v _ q=>q.same (AU1 h),h.kupd (mem_muts.mpr (.inr (.inl rfl))) o1 (AB5 _),fun b hb hn=>h.Z b (mem_muts.mpr (by
  rcases mem_muts.mp hb with z | z | ⟨g,hg,z⟩ | ⟨g,hg,z⟩
  ·exact .inl z
  ·exact .inr (.inl z)
  ·exact .inr (.inr (.inl ⟨g,List.mem_cons_of_mem _ hg,z⟩))
  ·exact .inr (.inr (.inr ⟨g,List.mem_cons_of_mem _ hg,z⟩)))) hn⟩
 ·have k:=h.F g (List.mem_cons_of_mem _ hg)
  have q:=o3 g (List.mem_cons_of_mem _ hg)
  exact ⟨by rw [aG q.2.1.symm]; exact k.1,by rw [aG q.1.symm]; exact k.2⟩
 ·have n:=h.N
  rw [List.map_cons] at n
  obtain ⟨n1,n2⟩:=List.nodup_cons.mp n
  obtain ⟨n3,n4⟩:=List.nodup_cons.mp n2
  refine List.nodup_cons.mpr ⟨fun z=>n1 ?_,List.nodup_cons.mpr ⟨fun z=>n3 (List.mem_cons_of_mem _ z),(List.nodup_cons.mp n4).2⟩⟩
  rcases List.mem_cons.mp z with z | z
  ·exact List.mem_cons.mpr (.inl z)
  ·exact List.mem_cons_of_mem _ (List.mem_cons_of_mem _ z)
 ·have r:=h.R
  rw [List.map_cons] at r
  exact (List.nodup_cons.mp r).2
end
def gY (u:Str):Prop:=eN u=true/\u.length<=100/\(kI u=true->∃ n,PySem.intText? u=some n)
def oM (u:Str):Prop:=32 ∉ u.cps.toList/\10 ∉ u.cps.toList/\u.length<=20/\gY u
instance (u:Str):Decidable (32 ∉ u.cps.toList):=inferInstance
theorem CF2 {u:Str}{c:Nat}(hc:c∈u.cps.toList)(h:¬ (48<=c/\c<=57)):AI2 u=false:=by
 unfold AI2
 rw [decide_eq_false fun z=>h (z.2.2 c hc)]
 rfl
theorem CF3 {u:Str}{c:Nat}(hc:u.cps.toList.head?=some c)(h:¬ (48<=c/\c<=57))(h2:c≠45):kI u=false:=by
 unfold kI
 have e:Txt.startswith u "-"=false:=by
  show Txt.startswith u ⟨#[45]⟩=false
  rw [gE,hc]
  exact decide_eq_false fun z=>h2 (Option.some.inj z)
 rw [e,if_neg (by decide)]
 refine CF2 (c:=c) ?_ h
 cases q:u.cps.toList with
 | nil=>rw [q] at hc; cases hc
 | cons a l=>rw [q] at hc; rw [<- Option.some.inj hc]; exact List.mem_cons_self
theorem BM2 {u:Str}(g:aZ u):kI u=false:=by
 cases q:u.cps.toList with
 | nil =>
  have h:=g.1
  have e:u.length=u.cps.toList.length:=by simp [Str.length]
  rw [e,q] at h
  exact absurd h (by decide)
 | cons a l =>
  have r:=g.2.2 a (by rw [q]; exact List.mem_cons_self)
  exact CF3 (c:=a) (by rw [q]; rfl) (by omega) (by omega)
theorem gR {u:Str}(g:aZ u):oM u:=by
 refine ⟨fun z=>?_,fun z=>?_,by have:=g.2.1; omega,(sQ g).1,(sQ g).2,fun z=>?_⟩
 ·have:=g.2.2 32 z; omega
 ·have:=g.2.2 10 z; omega
 ·rw [BM2 g] at z; cases z
theorem iZ {n:Int}(h0:0<=n)(h1:n < 1000000):oM (bB n):=by
 have hd:=fH h0
 have hl:=AO1 h0 h1
 refine ⟨fun z=>?_,fun z=>?_,by omega,?_,by omega,fun _=>⟨n,(iN h0 h1).2.1⟩⟩
 ·have:=hd 32 z; omega
 ·have:=hd 10 z; omega
 ·rw [plain_iff]
  intro c hc
  have:=hd c hc
  omega
theorem BW3:oM "any":=⟨by decide +kernel,by decide +kernel,by decide +kernel,by decide +kernel,by decide +kernel,fun z=>absurd z (by decide +kernel)⟩
theorem BM3:oM "kind":=⟨by decide +kernel,by decide +kernel,by decide +kernel,by decide +kernel,by decide +kernel,fun z=>absurd z (by decide +kernel)⟩
theorem BE7:oM "place":=⟨by decide +kernel,by decide +kernel,by decide +kernel,by decide +kernel,by decide +kernel,fun z=>absurd z (by decide +kernel)⟩
theorem AW0:oM "weight":=⟨by decide +kernel,by decide +kernel,by decide +kernel,by decide +kernel,by decide +kernel,fun z=>absurd z (by decide +kernel)⟩
theorem BW4:oM "not":=⟨by decide +kernel,by decide +kernel,by decide +kernel,by decide +kernel,by decide +kernel,fun z=>absurd z (by decide +kernel)⟩
theorem AU2:oM "(":=⟨by decide +kernel,by decide +kernel,by decide +kernel,by decide +kernel,by decide +kernel,fun z=>absurd z (by decide +kernel)⟩
theorem AU3:oM ")":=⟨by decide +kernel,by decide +kernel,by decide +kernel,by decide +kernel,by decide +kernel,fun z=>absurd z (by decide +kernel)⟩
theorem BW5:oM "&":=⟨by decide +kernel,by decide +kernel,by decide +kernel,by decide +kernel,by decide +kernel,fun z=>absurd z (by decide +kernel)⟩
theorem CF4:oM "|":=⟨by decide +kernel,by decide +kernel,by decide +kernel,by decide +kernel,by decide +kernel,fun z=>absurd z (by decide +kernel)⟩
theorem BE8:oM ":":=⟨by decide +kernel,by decide +kernel,by decide +kernel,by decide +kernel,by decide +kernel,fun z=>absurd z (by decide +kernel)⟩
theorem BM4:oM "":=⟨by decide +kernel,by decide +kernel,by decide +kernel,by decide +kernel,by decide +kernel,fun z=>absurd z (by decide +kernel)⟩
theorem all_cons {p:Str->Prop}{a:Str}{l:List Str}(h:p a)(k:∀ x∈l,p x):∀ x∈a::l,p x:=fun x hx=>by
 rcases List.mem_cons.mp hx with rfl | hx
 ·exact h
 ·exact k x hx
theorem kJ {p:Str->Prop}{l m:List Str}(h:∀ x∈l,p x)(k:∀ x∈m,p x):∀ x∈l++m,p x:=fun x hx=>(List.mem_append.mp hx).elim (h x) (k x)
theorem eU {p:Str->Prop}:∀ x∈([]:List Str),p x:=fun x hx=>by cases hx
mutual
theorem wO:∀ {t:Tr},t.wf->∀ x∈t.ws,oM x
 | .any,_=>by rw [Tr.ws]; exact all_cons BW3 eU
 | .kind us,h=>by rw [Tr.wf] at h; rw [Tr.ws]; exact all_cons BM3 fun x hx=>gR (h.2.1 x hx)
 | .place us,h=>by rw [Tr.wf] at h; rw [Tr.ws]; exact all_cons BE7 fun x hx=>gR (h.2.1 x hx)
 | .weight n,h=>by rw [Tr.wf] at h; rw [Tr.ws]; exact all_cons AW0 (all_cons (iZ h.1 h.2) eU)
 | .not t,h=>by rw [Tr.wf] at h; rw [Tr.ws]; exact all_cons BW4 (wO h)
 | .both ts,h=>by rw [Tr.wf] at h; rw [Tr.ws]; exact all_cons AU2 (kJ (wss_tok BW5 h.2) (all_cons AU3 eU))
 | .either ts,h=>by rw [Tr.wf] at h; rw [Tr.ws]; exact all_cons AU2 (kJ (wss_tok CF4 h.2) (all_cons AU3 eU))
theorem wss_tok {s:Str}(hs:oM s):∀ {ts:Trs},ts.wf->∀ x∈ts.ws s,oM x
 | .nil,_=>by rw [Trs.ws]; exact eU
 | .cons t .nil,h=>by rw [Trs.wf] at h; rw [uL]; exact wO h.1
 | .cons t (.cons t' ts),h=>by rw [Trs.wf] at h; rw [mZ]; exact kJ (wO h.1) (all_cons hs (wss_tok hs h.2))
end
def CB2 (u:Str):Prop:=u.length<=200000/\(Txt.split u sp1).length<=1000/\∀ x∈Txt.split u sp1,gY x
theorem uM {k:Nat}:∀ {ws:List Str},(∀ x∈ws,x.length<=k)->(ws.map (·.length)).sum<=ws.length * k
 | [],_=>Nat.zero_le _
 | a::l,h=>by
  have h1:=h a List.mem_cons_self
  have h2:=uM (ws:=l) fun x hx=>h x (List.mem_cons_of_mem _ hx)
  rw [List.map_cons,List.sum_cons,List.length_cons,Nat.succ_mul]
  omega
theorem wP {ws:List Str}(h:∀ x∈ws,x.length<=20)(hl:ws.length<=1000):(Str.join sp1 ws).length<=30000:=by
 have h1:=StrLaws.join_length_le sp1 ws
 have h2:=uM h
 have e:sp1.length=1:=rfl
 rw [e] at h1
 omega
theorem CF5 {ws:List Str}(hn:ws≠[])(h:∀ x∈ws,oM x)(hl:ws.length<=1000):CB2 (Str.join sp1 ws)/\Txt.split (Str.join sp1 ws) sp1=ws:=by
 have e:=oK (c:=32) hn fun a ha=>(h a ha).1
 refine ⟨⟨?_,?_,?_⟩,e⟩
 ·have:=wP (fun x hx=>(h x hx).2.2.1) hl; omega
 ·rw [e]; exact hl
 ·rw [e]; exact fun x hx=>(h x hx).2.2.2
theorem nA {s:Str}{ts:List Str}(h:(ts.map (·.length)).sum+ts.length * s.length<=sizeLine):JoinOk s ts=true:=by
 unfold JoinOk
 rw [StrLaws.joinTotal]
 unfold Builtin.Str.tooLong
 rw [decide_eq_false (by omega)]
 rfl
theorem szM {n:Nat}(h:n<=1000000):n<=sizeLine:=Nat.le_trans h (by decide)
theorem gZ {ts:List Str}{i:Nat}(h:i < ts.length):ts.drop i=ts.getD i ""::ts.drop (i+1):=by
 rw [List.drop_eq_getElem_cons h,List.getD_eq_getElem?_getD,List.getElem?_eq_getElem h]
 rfl
theorem jA {ts:List Str}{i:Nat}(h:ts.length<=i):ts.getD i ""=""/\ts.drop i=[]:=by
 rw [List.getD_eq_getElem?_getD,List.getElem?_eq_none h]
 exact ⟨rfl,List.drop_eq_nil_of_le h⟩
theorem bJ {ts:List Str}(h:∀ x∈ts,gY x)(i:Nat):gY (ts.getD i ""):=by
 by_cases c:i < ts.length
 ·rw [List.getD_eq_getElem?_getD,List.getElem?_eq_getElem c]
  exact h _ (List.getElem_mem c)
 ·rw [(jA (by omega)).1]
  exact BM4.2.2.2
theorem AB7 {x:V}{xs:List V}{H:Hp}{Q:VK}:BE0 x xs H Q=∃ u y,x=.str u/\xs=[.str y]/\Q (.bl (Txt.startswith u y)) H:=rfl
theorem AO3 {x:V}{xs:List V}{H:Hp}{Q:VK}:BQ6 x xs H Q=∃ u y,x=.str u/\xs=[.str y]/\(y.length == 0)=false/\u.length+2<=sizeLine/\(Txt.split u y).length<=sizeLine/\∀ l,H l=none->Q (.ref l) (upd H l (.lst ((Txt.split u y).map V.str))):=rfl
theorem wQ {M:Model}{Γ:PySem.Ctx}{p:Pos}{t:Sem Fin}{fs:List Frame}{s s':Shared}{e:End}(h:Runs M Γ p t fs s e s'):s.toks<=s'.toks:=by
 induction h <;> first
  | exact Nat.le_refl _
  | (rename_i ih; exact ih)
  | (rename_i ih; exact Nat.le_of_succ_le ih)
  | (rename_i ih1 ih2; exact Nat.le_trans ih1 ih2)
theorem AW1 {M:Model}{Γ:PySem.Ctx}{p:Pos}{g:Nat}{r:Resume}{s s':Shared}{res:GenResult}(h:Wakes M Γ p g r s res s'):s.toks<=s'.toks:=by
 unfold Wakes at h
 split at h
 ·exact h.elim
 ·split at h
  ·obtain ⟨e,s1,a,_,_,rfl⟩:=h
   have q:(s.setGen g .running).toks<=s1.toks:=wQ a
   exact q
  ·obtain ⟨_,rfl⟩:=h; exact Nat.le_refl _
  ·obtain ⟨_,rfl⟩:=h; exact Nat.le_refl _
 ·obtain ⟨e,s1,a,_,_,rfl⟩:=h
  have q:(s.setGen g .running).toks<=s1.toks:=wQ a
  exact q
 ·obtain ⟨_,rfl⟩:=h; exact Nat.le_refl _
 ·obtain ⟨_,rfl⟩:=h; exact Nat.le_refl _
theorem BW6 {M:Model}{Γ:PySem.Ctx}{α:Type}{t:Sem α}{Q:α->Pos->Shared->Prop}{E:Value->Pos->Shared->Prop}{n:Nat}:∀ {p:Pos}{s:Shared},n<=s.toks->Sem.wp M Γ t Q E p s ->
  Sem.wp M Γ t (fun x p' s'=>Q x p' s'/\n<=s'.toks) (fun v p' s'=>E v p' s'/\n<=s'.toks) p s:=by
 induction t with
 | pure x=>exact fun d w=>⟨w,d⟩
 | raise v=>exact fun d w=>⟨w,d⟩
 | unsupported _ | finish _ | register _ _ _ | yield _ _ _ _ _ | fork _ _ _ | await _ _ _ _ _ _=>exact fun _ w=>w
 | rule _ _ ih | «at» _ _ ih | point _ _ ih=>exact fun d w=>ih _ d w
 | load _ _ _ ih=>exact fun d ⟨o,e,w⟩=>⟨o,e,ih _ d w⟩
 | fresh _ ih=>exact fun d w=>ih _ (Nat.le_succ_of_le d) w
 | alloc _ _ ih | loadIfAlive _ _ ih | ask _ ih | os _ _ _ ih | handled _ _ ih | newGen _ _ ih | stack _ ih | thread _ ih=>exact fun d w=>ih _ d w
 | choose _ _ _ ih=>exact fun d ⟨m,w⟩=>⟨m,ih _ d w⟩
 | genState _ _ ih=>exact fun d ⟨o,e,w⟩=>⟨o,e,ih _ d w⟩
 | update _ _ _ _ ih=>exact fun d ⟨e,w⟩=>⟨e,ih _ d w⟩
 | call _ _ _ _ _ ih=>exact fun d ⟨r,s',hr,w⟩=>⟨r,s',hr,ih _ (Nat.le_trans d (wQ hr)) w⟩
 | resume _ _ _ _ ih=>exact fun d ⟨r,s',hr,w⟩=>⟨r,s',hr,ih _ (Nat.le_trans d (AW1 hr)) w⟩
theorem CJ6 {M:Model}{A:Around}{α:Type}{t:Sem α}{Q Q':α->Shared->Prop}{E:Value->Shared->Prop}{s:Shared}(h:wpAny M A t Q E s)(hp:0 < s.toks)(hQ:∀ a s',Q a s'->0 < s'.toks->Q' a s'):wpAny M A t Q' E s :=
 wpAny_mono (fun Γ p hΓ=>BW6 (Nat.le_refl _) (h Γ p hΓ):wpAny M A t (fun x s'=>Q x s'/\s.toks<=s'.toks) (fun v s'=>E v s'/\s.toks<=s'.toks) s) (fun a s' q=>hQ a s' q.1 (Nat.lt_of_lt_of_le hp q.2)) fun _ _ z=>z.1
section
variable {X:Cx}{pins:List (Addr × Obj)}{σ:L2.St}{H:Hp}{s:Shared}
theorem AO4 {a C dx:Addr}{f:Str}{v:V}{fs:List (Str × V)}{A:Around}{E:Value->Shared->Prop}{b:Bool}{Q:Value->Shared->Prop}(I:Inv X pins σ H s)(e:H a=some (.ins C dx fs))(c:Cls X.K C)(n:NoAttr X.K C f)(l:fs.lookup f=some v)(h:∀ u s',Inv X pins σ H s'->RelV v u->0 < s'.toks->Q u s'):wpAny (model X.prog X.w) A (getAttr (.ref a) f b) Q E s:=by
 obtain ⟨mA,O,r,_,_,_⟩:=sJ I.hok e
 obtain ⟨u,hu,ru⟩:=RelO.some_of (v:=v) (o:=mA f) (by rw [<- l]; exact r f)
 exact AZ7 I.kIn O (c.get f) c.hd n hu (AG7 ru) (h u _ (I.tok _) ru (Nat.succ_pos _))
theorem BW7 {o value:Expr}{ta tv:TE}{f:Str}{tpos pos:Pos}{D:Ends}{op:Operator}{rd:V->V->Hp->VK->Prop}(ha:PE X o ta)(hv:PE X value tv)(hop:CJ1 X op rd)(I:Inv X pins σ H s)(h:zV X.K ta tv rd f D σ H) :
  wpAny (model X.prog X.w) X.A (exec (.AugAssign (.Attribute o f tpos) op value pos) X.env) (fun fl s'=>SP X pins D fl s'/\0 < s'.toks) X.xe s:=by
 refine wpAny_AugAssign_AttributeAny (thn (ha pins s σ H _ I h) fun ov s1 ⟨x,H1,I1,rx,qq⟩=>?_)
 obtain ⟨a,ex,C,dx,fs,ea,c,n,v,l,q⟩:=isR.ex qq
 subst ex
 obtain rfl:ov=Value.ref a:=rx
 refine AO4 I1 ea c n l fun u s2 I2 ru p2=>CJ6 (hv pins s2 σ H1 _ I2 q) p2 fun w3 s3 ⟨y,H2,I3,ry,q3⟩ p3=>CJ6 (hop pins s3 σ H2 v y u w3 _ I3 ru ry q3) p3 fun w4 s4 ⟨z,H3,I4,rz,dx',fs',ea',l',q4⟩ p4=>?_
 exact CJ6 (Q:=fun _ s5=>SP X pins D .next s5) (sL I4 ea' c n l' rz fun s5 I5=>⟨σ,_,I5,q4⟩) p4 fun _ s5 q5 p5=>⟨q5,p5⟩
theorem BW8 {a1:Stmt}{t1 t3:TS}{rest:List Stmt}{o value:Expr}{ta tv:TE}{f:Str}{tpos pos:Pos}{D:Ends}{op:Operator}{rd:V->V->Hp->VK->Prop}(h1:PS X a1 t1)(ha:PE X o ta)(hv:PE X value tv)(hop:CJ1 X op rd)(h3:PSs X rest t3)(I:Inv X pins σ H s)(h:t1 { nx:=fun σ1 H1=>zV X.K ta tv rd f { nx:=fun σ2 H2=>t3 D σ2 H2,rt:=fun _ _=>False } σ1 H1,rt:=fun _ _=>False } σ H) :
  wpAny (model X.prog X.w) X.A (execs (a1::.AugAssign (.Attribute o f tpos) op value pos::rest) X.env) (fun fl s'=>SP X pins D fl s'/\0 < s'.toks) X.xe s:=by
 refine wpAny_execs_cons (thn (h1 pins s σ H _ I h) fun fl s1 q=>?_)
 cases fl with
 | next =>
  obtain ⟨σ1,H1,I1,q1⟩:=q
  refine wpAny_execs_cons (thn (BW7 ha hv hop I1 q1) fun fl s2 q=>?_)
  obtain ⟨q,p2⟩:=q
  cases fl with
  | next =>
   obtain ⟨σ2,H2,I2,q2⟩:=q
   exact CJ6 (h3 pins s2 σ2 H2 D I2 q2) p2 fun _ _ a b=>⟨a,b⟩
  | brk=>exact let ⟨_,_,_,z⟩:=q; z.elim
  | cont=>exact let ⟨_,_,_,z⟩:=q; z.elim
  | ret u=>exact let ⟨_,_,_,_,_,z⟩:=q; z.elim
 | brk=>exact let ⟨_,_,_,z⟩:=q; z.elim
 | cont=>exact let ⟨_,_,_,z⟩:=q; z.elim
 | ret u=>exact let ⟨_,_,_,_,_,z⟩:=q; z.elim
end
structure FnT (P:Program) (w:World) (K:Frag) (mg:Str->Option Value) (base:Heap) (CX:CXT) (k:Nat) (f:Addr) (fd:FuncData) (ps:List Str) (sp:Sp):Prop where
 len:∀ vs H Q E,sp vs H Q E->vs.length=ps.length
 run:∀ (A:Around) (outer:List Env) (s:Shared) (H:Hp) (args:Args) (us:List Value) (vs:List V) (Q:VK) (E:XK),Room k A->Env0 P w K mg base A outer s H->BindsTo s fd args (ps.zip us)->Vals vs us->sp vs H Q E ->
  codeAny (model P w) A (.call (.ref f) args) (fun r s'=>CR CX outer P w H s Q E r s'/\∀ u,r=.ok (.ret u)->0 < s'.toks) s
theorem CF6 {CX:CXT}{P:Program}{w:World}{K:Frag}{mg:Str->Option Value}{base:Heap}{k:Nat}{f:Addr}{x qual:Str}{st:Stmt}{fd:FuncData}{N ps:List Str}{sp:Sp}(F:Fun K x qual st f fd)(S:FnScope N ps (aE st))(len:∀ vs H Q E,sp vs H Q E->vs.length=ps.length)(hbody:∀ (cdv:Value) (A:Around) (outer:List Env) (s:Shared) (H:Hp) (vs:List V) (Q:VK) (E:XK),Room k (A.deeper (envOfC qual (aE st) s.heap.objs.size f cdv))->sp vs H Q E->∀ s1,Inv (AG0 CX P w K mg base N qual (aE st) f cdv A outer s H E) [] (L2.start N vs) H s1 ->
   wpAny (model P w) (AG0 CX P w K mg base N qual (aE st) f cdv A outer s H E).A (execs (cB st) (AG0 CX P w K mg base N qual (aE st) f cdv A outer s H E).env) (fun fl s'=>SP (AG0 CX P w K mg base N qual (aE st) f cdv A outer s H E) [] { nx:=fun _ H'=>Q .non H',rt:=Q } fl s'/\0 < s'.toks) (AG0 CX P w K mg base N qual (aE st) f cdv A outer s H E).xe s1):FnT P w K mg base CX (k+1) f fd ps sp:=by
 obtain ⟨oc,od,kV,doc,pm,an,cdv,ct,osl,rfl,lk,hcd⟩:=F.ex
 refine ⟨len,fun A outer s H args us vs Q E hr e0 hb r hsp=>?_⟩
 have hl:=len _ _ _ _ hsp
 have KX:K.In s.heap:=e0.mod.kin.keeps fun b o e=>(e0.bs b o e).1
 have hkind:∀ y∈ps.zip us,(aE st).names.lookup y.1=some .local\/((aE st).names.lookup y.1=some .cell/\((cellsFrom (s.heap.objs.size+1) (aE st).names []).lookup y.1).isSome=true):=fun ⟨n,v⟩ hy=>by
  rcases S.par n (List.of_mem_zip hy).1 with q | q
  ·exact .inl q
  ·exact .inr ⟨q,cellsFrom_some _ _ _ (.inl q)⟩
 refine codeAny_call_function hr.depth (KX _ _ lk) rfl S.co S.gen rfl (codeRec_of KX hcd) (hb _ _ _ _ ?_)
 refine wpAny_newFunctionEnv_cells S.kind hkind fun env he s1 x=>?_
 subst he
 refine ⟨(e0.mod.nolimit.keeps fun b o e=>(e0.bs b o e).1).keeps x.toInCall.keep,codeAny_func ?_⟩
 have I:Inv (AG0 CX P w K mg base N qual (aE st) f cdv A outer s H E) [] (L2.start N vs) H s1:=wE S hr.hd e0 hl r x
 refine wpAny_mono (hbody cdv A outer s H vs Q E (hr.deeper _) hsp s1 I) (fun fl s' hs=>?_) fun e s' hs=>?_
 ·obtain ⟨hs,hp⟩:=hs
  have fin:∀ {σ':L2.St}{H':Hp}{v:V}{u:Value},Inv (AG0 CX P w K mg base N qual (aE st) f cdv A outer s H E) [] σ' H' s'->RelV v u->Q v H'->CE outer P w H s Q u s' :=
   fun {σ' H' v u} J rv q=>⟨v,H',J.os,J.bare,J.base,J.hok,rv,q⟩
  cases fl with
  | ret u=>exact let ⟨v,σ',H',J,rv,q⟩:=hs; ⟨fin J rv q,fun _ _=>hp⟩
  | next=>exact let ⟨σ',H',J,q⟩:=hs; ⟨fin (v:=V.non) (u:=Value.none) J rfl q,fun _ _=>hp⟩
  | brk=>exact let ⟨_,_,_,q⟩:=hs; False.elim q
  | cont=>exact let ⟨_,_,_,q⟩:=hs; False.elim q
 ·exact wpAny_mono hs (fun _ _ z=>⟨z,fun _ y=>nomatch y⟩) fun _ _ z=>⟨z,fun _ y=>nomatch y⟩
structure CalMT (P:Program) (w:World) (K:Frag) (mg:Str->Option Value) (base:Heap) (C:Addr) (m:Str) (ps:List Str) (k:Nat) (sp:Sp):Prop where
 ex:∃ f fd,FnT P w K mg base (CXF P w) k f fd ps sp/\Binds K fd ps []/\Meth K C m f/\Cls K C
def PET (X:Cx)(e:Expr)(t:TE):Prop :=
 ∀ (pins:List (Addr × Obj)) (s:Shared) (σ:L2.St) (H:Hp) (Q:VK),Inv X pins σ H s->t σ H Q->wpAny (model X.prog X.w) X.A (eval e X.env) (fun u s'=>EP X pins σ Q u s'/\0 < s'.toks) X.xe s
section
variable {X:Cx}{m:Str}{ps:List Str}{k:Nat}{e o:Expr}{es:List Expr}{ta:TE}{t:TA}{pos apos cpos:Pos}{E:XK}
theorem BM5 {pl:Sem Bool}{Mm:Addr->Sp->Prop}(he:PE X o ta)(hM:∀ C sp,Mm C sp->CalMT X.prog X.w X.K X.mg X.base C m ps k sp)(hx:jQ (CXF X.prog X.w) X E)(hr:Room k X.A)(ht:eval (.Call (.Attribute o m apos) [] [] pos) X.env=(do
   let ov <- eval o X.env
   standAt apos.atName
   let (f,first) <- holding [ov] (getMethod ov m pl)
   callWith pos f first (backTo pos (starEach [] X.env)) (backToKw pos (keywordEach [] X.env))):=by rfl) :
  PET X (.Call (.Attribute o m apos) [] [] pos) (AS9 Mm m E ta CD0):=by
 intro pins s σ H Q I h
 refine methodCall_KW (pl:=pl) (thn (he pins s σ H _ I h) fun u s1 ⟨x,H1,I1,rx,qq⟩=>?_) ht
 obtain ⟨a,ex,C,dx,fs,ea,l,sp,hC,q⟩:=isR.ex qq
 subst ex
 obtain rfl:u=Value.ref a:=rx
 obtain ⟨f,fd,F,b,hm,c⟩:=(hM C sp hC).ex
 refine sK I1 ea c hm l ?_
 refine callWith_K0 (first:=[.ref a]) I1.kIn hm.kp ?_
 have r2:Vals [V.ref a] [Value.ref a]:=.cons rfl .nil
 have hl:[Value.ref a].length=ps.length:=by rw [<- r2.length]; exact F.len _ _ _ _ q
 refine wpAny_call (codeAny_mono (F.run X.A X.stack s1 H1 ⟨[.ref a],[]⟩ [.ref a] [.ref a] Q E hr I1.env0 (by have z:=b s1 [Value.ref a] I1.kIn (by rw [List.append_nil]; exact hl); rw [List.append_nil] at z; exact z) r2 q) fun r s' hq=>?_)
 obtain ⟨hq,hp⟩:=hq
 cases r with
 | error e=>exact hx pins σ H1 s1 e s' I1 hq
 | ok fl =>
  cases fl with
  | ret u=>exact ⟨I1.after hq,hp u rfl⟩
  | next=>exact False.elim hq
  | brk=>exact False.elim hq
  | cont=>exact False.elim hq
def CF7 (to:TE)(y z:Str):TE:=fun σ H Q=>to σ H fun x H1=>isT x fun u=>(y == z)=false/\u.length<=1048576/\z.length<=14/\Q (.str (Txt.replace u y z)) H1
theorem BW9 {y z:Str}{j1 j2:Nat}{p1 p2:Pos}(ho:PET X o ta)(hbase:attributeBase o "replace" X.env (eval o X.env)=eval o X.env:=by rfl)(hs:starEach [.Constant (.str y) j1 p1,.Constant (.str z) j2 p2] X.env=[(false,eval (.Constant (.str y) j1 p1) X.env),(false,eval (.Constant (.str z) j2 p2) X.env)]:=by rfl)(hfew:((backTo cpos (starEach [.Constant (.str y) j1 p1,.Constant (.str z) j2 p2] X.env)).all (fun x=>!x.1) && (backToKw cpos (keywordEach [] X.env)).all (fun x=>x.1.isSome)
   && decide ([Expr.Constant (.str y) j1 p1,.Constant (.str z) j2 p2].length+([]:List Keyword).length+(if ([]:List Keyword).isEmpty then 0 else 1) < 30))=true:=by rfl)(hline:(apos.endLine == cpos.line)=true:=by rfl) :
  PE X (.Call (.Attribute o "replace" apos) [.Constant (.str y) j1 p1,.Constant (.str z) j2 p2] [] cpos) (CF7 ta y z):=by
 intro pins s σ H Q I h
 refine wpAny_Call_method_late hbase hfew hline rfl (thn (ho pins s σ H _ I h) fun v s1 ⟨⟨x,H1,I1,r1,qq⟩,hp⟩=>?_)
 obtain ⟨u,ex,hyz,hu,hz,q⟩:=isT.ex qq
 subst ex
 obtain ⟨tk,rfl⟩:=r1
 refine ⟨"str","str.replace",PySem.F.plainAttrs_str,PySem.F.slot_str_replace,PySem.F.type_str_replace,typeIs_str _ _ _,(fun a e=>by cases e),?_⟩
 rw [hs]
 refine Calls.callWith_builtin (by rfl) (Calls.evalArgs_plain (Calls.spliced_cons (Calls.Constant_str (k:=j1) (pos:=p1) (Calls.spliced_cons (Calls.Constant_str (k:=j2) (pos:=p2) (Calls.spliced_nil ?_))))))
 have hp':0 < s1.toks:=hp
 refine SC.replaceW (u:=s1.toks) (v:=s1.toks+1) (fun z=>absurd (show s1.toks=0 from z) (by omega)) (fun z=>absurd (show s1.toks+1=0 from z) (by omega)) (fun z=>absurd (show s1.toks=s1.toks+1 from z) (by omega)) hyz hu hz fun t' k=>?_
 exact ⟨.str _,H1,(I1.tok k),⟨_,rfl⟩,q⟩
def BR0 (j:Nat)(fF:Addr)(sp:Sp)(E:XK)(t:TA):TE:=fun σ H Q=>σ[j]?=some (some (.ref fF))/\t σ H fun vs H1=>sp vs H1 Q E
theorem BX0 {g j:Nat}{fn:Str}{fF:Addr}{sp:Sp}{p:Pos}(CF:CalFG g X.prog X.w X.K X.mg X.base fF ps k sp)(hx:jQ (qD X.prog X.w g) X E)(hr:Room k X.A)(hNf:X.N[j]?=some fn)(hvf:Vis X.env.scope fn)(ha:PA X (e::es) t)(hdf:(fn == ("__debug__":Str))=false:=by decide)(hcf:(fn == ("__classdict__":Str))=false:=by decide)(he:starEach (e::es) X.env=(false,eval e X.env)::starEach es X.env:=by rfl)(hpl:(backTo pos (starEach es X.env)).any (·.1)=false:=by rfl):PE X (.Call (.Name fn p) (e::es) [] pos) (BR0 j fF sp E t):=by
 intro pins s σ H Q I h
 obtain ⟨hσ,h⟩:=h
 obtain ⟨fd,F,hb,hk⟩:=CF.ex
 refine wpAny_Call_Name_kw (BQ8 I hNf hvf hσ (fun u ru=>?_) hdf hcf)
 cases ru
 refine callWith_K (h₀:=X.base) I.ok.mod.kin hk (thn (ha pos pins s σ H _ I h) fun us s2 ⟨vs,H2,I2,r,q⟩=>⟨I2.kIn,?_⟩) he hpl
 exact AR6 F hr hb .nil hx I2 r (by rw [List.append_nil]; exact q)
theorem AO5 {j:Nat}{fF:Addr}{sp:Sp}{σ:L2.St}{H:Hp}{Q:VK}:BR0 j fF sp E t σ H Q=(σ[j]?=some (some (.ref fF))/\t σ H fun vs H1=>sp vs H1 Q E):=rfl
theorem BE9 {y z:Str}{σ:L2.St}{H:Hp}{Q:VK}:CF7 ta y z σ H Q=ta σ H (fun x H1=>isT x fun u=>(y == z)=false/\u.length<=1048576/\z.length<=14/\Q (.str (Txt.replace u y z)) H1):=rfl
end
end Bw
namespace Bw
open PySem PySem.Spec PyProof.Rows L2 PySem.W
section
variable {X:Cx}
def Ite (K:Frag)(a:Addr):It :=
 ⟨fun i H=>∃ xs x,SqL K H a xs/\xs[i]?=some x,fun i H x H'=>∃ p y,x=.ref p/\H p=none/\H'=L2.upd H p (.tup [.int i,y])/\∀ xs,SqL K H a xs->xs[i]?=some y,fun i H=>∃ xs,SqL K H a xs/\xs.length<=i⟩
theorem BM6 {pins:List (Addr × Obj)}{σ:L2.St}{H:Hp}{s:Shared}{h':Heap}{t':Nat}{e it p:Addr}{o:HO}(I:L2.Inv X pins σ H s)(k:∀ b u,b≠e->b≠it->s.heap.get? b=some u->h'.get? b=some u)(fe:BI5 X pins H e)(fi:BI5 X pins H it)(hp:s.heap.objs.size<=p)(new:ObjOk X.prog X.w (L2.upd H p o) h' p o):L2.Inv X pins σ (L2.upd H p o) { s with heap:=h',toks:=t' }:=by
 have hn:=I.hok.fresh hp
 have nch:∀ b,b ∉ [e,it]->b≠e/\b≠it:=fun b hb=>⟨fun z=>hb (by simp [z]),fun z=>hb (by simp [z])⟩
 have nn:∀ b u,H b=some u->b≠e/\b≠it:=fun b u q=>⟨fun z=>(by rw [z,fe.1] at q; cases q),fun z=>(by rw [z,fi.1] at q; cases q)⟩
 refine I.step (g':=s.gens) (d':=s.drawn) (ch:=[e,it]) (fun b hb=>?_) (fun b o _ _ hc q _=>k b o (nch b hc).1 (nch b hc).2 q) (fun b o _ _ hc q _=>⟨o.slots,k b o (nch b hc).1 (nch b hc).2 q⟩) (fun b u hc q n=>?_)
  (fun b o hc q=>⟨o,k b o (nch b hc).1 (nch b hc).2 q⟩) (fun b xs q=>by rw [aG (aQ q hn)]; exact q) (fun b u xs q=>by rw [aG (aQ q hn)]; exact q) (fun b ps q=>⟨#[],by rw [aG (aQ q hn),q]; simp⟩) (fun m hm=>?_) (fun b u q=>?_) I.bare
 ·rcases List.mem_cons.mp hb with z | z
  ·subst z; exact ⟨fe.2.2.2.1,fe.2.1,fe.2.2.2.2.1,fe.2.2.2.2.2⟩
  ·rw [List.mem_singleton.mp z]; exact ⟨fi.2.2.2.1,fi.2.1,fi.2.2.2.2.1,fi.2.2.2.2.2⟩
 ·rw [aG (Nat.ne_of_lt (Nat.lt_of_lt_of_le (Heap.lt_size q) hp))]; exact n
 ·obtain ⟨o,es,ep,ho,r⟩:=hm
  exact ⟨o,es,ep,k _ o (Ne.symm fe.2.1) (Ne.symm fi.2.1) ho,r⟩
 ·by_cases hb:b=p
  ·subst hb; rw [aA] at q; cases q; exact new
  ·rw [aG hb] at q
   refine (I.hok b u q).stay (fun c v hc z=>?_) (fun c z=>by rw [aG (aQ z hn)]; exact z) fun c xs z=>by rw [aG (aQ z hn)]; exact z
   rcases hc with y | y
   ·rw [y] at z ⊢; exact k _ _ (nn b u q).1 (nn b u q).2 z
   ·exact k _ _ (nn c _ y).1 (nn c _ y).2 z
theorem BF0 {P:Program}{w:World}{K:Frag}{elts:List Expr}{x1:Nat}{pos:Pos}(a it e:Addr)(hne:e≠it) :
  Turn P w K (.Tuple elts x1 pos) (Ite K a) [e,it] e (fun i h=>(∃ old,IsEnum h e it ((i:Nat):Int) old)/\h.IsListIter it a i) where
 mem:=by simp
 obj:=fun i h st b hb=>by
  obtain ⟨⟨old,h1⟩,o,h2,c,d⟩:=st
  rcases List.mem_cons.mp hb with z | z
  ·subst z; exact ⟨_,h1,fun v z=>by cases z⟩
  ·rw [List.mem_singleton.mp z]; exact ⟨o,h2,fun v z=>by rw [d] at z; cases z⟩
 keep:=fun i h h' st k=>⟨by obtain ⟨old,h1⟩:=st.1; exact ⟨old,k e (by simp) _ h1⟩,st.2.at fun o q=>k it (by simp) o q⟩
 item:=by
  intro X hP hw hK hc i pins s σ H E I hf st hg
  subst hP hw hK
  obtain ⟨xs,x,hq,hx⟩:=hg
  obtain ⟨its,rv,p,hz⟩:=I.list hq
  obtain ⟨u,hu,ru⟩:=rv.get hx
  have fe:=hf e (by simp)
  have fi:=hf it (by simp)
  obtain ⟨⟨old,he⟩,hit⟩:=st
  have le:e < s.heap.objs.size:=Heap.lt_size he
  have li:it < s.heap.objs.size:=by obtain ⟨o,q,_⟩:=hit; exact Heap.lt_size q
  refine wpAny_pyNext_enum_item he hit p.isList (x:=u) (by simpa using hu) hne fun h1 he1 hit1 ht1 hz1 hk1=>?_
  refine ⟨_,rfl,wpAny_letOwnedTupleGo_enum he1 fun h2 he2 hs2=>?_⟩
  have hn:=I.hok.fresh (Nat.le_refl s.heap.objs.size)
  have ht2:h2.get? s.heap.objs.size=some { cls:=.type "tuple",data:=.seq #[.int i s.toks,u] }:=(hs2.2 _ (Nat.ne_of_gt le)).trans ht1
  have new:ObjOk X.prog X.w (L2.upd H s.heap.objs.size (.tup [.int i,x])) h2 s.heap.objs.size (.tup [.int i,x]) :=
   ⟨by rw [sizeLine_eq]; simp,[.int i s.toks,u],.cons ⟨_,rfl⟩ (.cons ru .nil),_,ht2,rfl,_,rfl⟩
  have I2:=BM6 (t':=s.toks+1) I (fun b o hbe hbi q=>hs2.extBut b o hbe (hk1 b o hbe hbi q)) fe fi (Nat.le_refl _) new
  refine ⟨.ref s.heap.objs.size,_,I2,rfl,⟨_,x,rfl,hn,rfl,fun ys hy=>by rw [I.list_inj hy hq]; exact hx⟩,⟨⟨u,?_⟩,?_⟩,fun b hb=>?_⟩
  ·have:((i+1:Nat):Int)=(i:Int)+1:=by push_cast; rfl
   rw [this]; exact he2
  ·exact hit1.extBut hs2.extBut (Ne.symm hne)
  ·rcases List.mem_cons.mp hb with z | z
   ·rw [z,aG (Nat.ne_of_lt le)]; exact fe.1
   ·rw [List.mem_singleton.mp z,aG (Nat.ne_of_lt li)]; exact fi.1
 done:=by
  intro X hP hw hK hc i pins s σ H E I hf st hg
  subst hP hw hK
  obtain ⟨xs,hq,hx⟩:=hg
  obtain ⟨its,rv,p,hz⟩:=I.list hq
  obtain ⟨f0,f1,f2,f3,f4,f5⟩:=hf it (by simp)
  have hl:=rv.length
  obtain ⟨⟨old,he⟩,hit⟩:=st
  exact wpAny_pyNext_enum_end (I.ok.hd hc) he hit p.isList (by simp; omega) fun h' eb=>⟨rfl,I.turned (t':=s.toks) (fun b o hb e=>eb b o hb e) f0 f1 f3 f4 f5⟩
 self:=fun _ _ _ _ _ st h=>by
  obtain ⟨⟨old,he⟩,_⟩:=st
  exact wpAny_pyIter_enum he h
def CF8 (K:Frag)(ta:TA):TI:=fun σ H R=>ta σ H fun vs H1=>∃ a,vs=[.ref a]/\(∃ xs,SqL K H1 a xs)/\R (Ite K a) H1
theorem BX1 {elts:List Expr}{x1:Nat}{tp:Pos}{l:Expr}{tl:TA}{p pos:Pos}(hg:Gl X "enumerate")(hm:X.mg "enumerate"=none)(hl:PA X [l] tl)(hs:starEach [l] X.env=[(false,eval l X.env)]:=by rfl) :
  PI X (.Tuple elts x1 tp) (.Call (.Name "enumerate" p) [l] [] pos) (CF8 X.K tl):=by
 intro pins s σ H R I h
 refine Call_ (AG2 I hg hm PyProof.Rows.boot_enumerate (PyProof.Rows.callWith_type1 (thn (hl pos pins s σ H _ I h) fun us s1 ⟨vs,H1,I1,r1,a,ev,⟨xs,hq⟩,q⟩=>?_) hs rfl))
 subst ev
 obtain ⟨u,rfl,rx⟩:=sI r1
 cases rx
 obtain ⟨its,rv,pl,hz⟩:=I1.list hq
 refine call_enumerate_list pl.isList fun h' he hit hsz hk=>?_
 have I2:L2.Inv X pins σ H1 { s1 with heap:=h' }:=I1.kept (t':=s1.toks) hk
 refine wpAny_pyIter_enum he ⟨s1.heap.objs.size+1,[s1.heap.objs.size+1,s1.heap.objs.size],_,_,H1,rfl,I2,BF0 a s1.heap.objs.size (s1.heap.objs.size+1) (Nat.succ_ne_self _),⟨⟨_,he⟩,hit⟩,fun b hb=>?_,q⟩
 rcases List.mem_cons.mp hb with z | z
 ·subst z; exact I1.fpOk (Nat.le_succ _) (I1.hok.fresh (Nat.le_succ _))
 ·rw [List.mem_singleton.mp z]; exact I1.fpOk (Nat.le_refl _) (I1.hok.fresh (Nat.le_refl _))
end
section
variable {K:Frag}{σ:L2.St}{H:Hp}{Q:VK}{g:TG}{te ta tk tv:TE}{tA:TA}{t:TS}{D:Ends}{i:Nat}
def ForE (K:Frag)(a:Addr)(g:TG)(tb:TS)(D:Ends)(σ:L2.St)(H:Hp):Prop:=∃ W:Nat->Nat->L2.St->Hp->Prop,(∃ m,W 0 m σ H)/\∀ i m σ H,W i m σ H ->
   ((Ite K a).stop i H/\D.nx σ H)\/((Ite K a).go i H/\∃ N:L2.St->Hp->Prop,(∀ σ' H',N σ' H'->∃ m',m' < m/\W (i+1) m' σ' H')/\∀ x H',(Ite K a).yld i H x H'->g x σ H' fun σ2 H2=>tb { D with nx:=N,ct:=N,bk:=D.nx } σ2 H2)
theorem BF1:CC8 (CF8 K tA) g t D σ H=tA σ H (fun vs H1=>∃ a,vs=[.ref a]/\(∃ xs,SqL K H1 a xs)/\ForE K a g t D σ H1):=rfl
theorem ForE.by {a:Addr}{xs:List V}(Pv:Nat->L2.St->Hp->Prop)(h0:Pv 0 σ H)(hl:∀ i σ H,i<=xs.length->Pv i σ H->SqL K H a xs)(hs:∀ i x σ H p,xs[i]?=some x->Pv i σ H->H p=none->g (.ref p) σ (L2.upd H p (.tup [.int (i:Nat),x])) fun σ2 H2=>t { D with nx:=Pv (i+1),ct:=Pv (i+1),bk:=D.nx } σ2 H2)(hd:∀ σ H,Pv xs.length σ H->D.nx σ H):ForE K a g t D σ H:=by
  refine ⟨fun i m σ H=>m=xs.length - i/\i<=xs.length/\Pv i σ H,⟨xs.length,by simp,Nat.zero_le _,h0⟩,?_⟩
  rintro i m σ H ⟨rfl,hi,p⟩
  have q:=hl i σ H hi p
  by_cases hlt:i < xs.length
  · refine .inr ⟨⟨xs,xs[i],q,by simp [hlt]⟩,Pv (i+1),fun σ' H' p'=>⟨xs.length - (i+1),by omega,rfl,hlt,p'⟩,fun x H' y=>?_⟩
    obtain ⟨pt,y1,e1,hn,e2,y⟩:=y
    subst e1 e2
    exact hs i y1 σ _ pt (y xs q) p hn
  · have e:i=xs.length:=by omega
    subst e
    exact .inl ⟨⟨xs,q,Nat.le_refl _⟩,hd σ H p⟩
end
theorem CalX.g {c:Nat}{P:Program}{w:World}{K:Frag}{mg:Str->Option Value}{base:Heap}{x:Str}{ps:List Str}{k:Nat}{sp:Sp}(C:CalX P w K mg base x ps k sp):CalG c P w K mg base x ps k sp :=
 let ⟨f,fd,F,r⟩:=C.ex; ⟨f,fd,FnOk.of0 F,r⟩
abbrev nl1:Str:=⟨#[10]⟩
def BX2 (u:Str):Str:=Txt.replace u "." " "
def BX3 (u:Str):Bool:=kI u && decide (0<=dH u)
def nmB (u:Str):Bool:=decide (aZ u)
def CF9 (u:Str):List Str:=Txt.split (BX2 u) sp1
def CN8 (u:Str):Bool:=eN u && decide (u.length<=100) && (!kI u || (PySem.intText? u).isSome)
theorem BX4 {u:Str}(h:CN8 u=true):gY u:=by
 unfold CN8 at h
 rw [Bool.and_eq_true,Bool.and_eq_true,decide_eq_true_eq,Bool.or_eq_true] at h
 obtain ⟨⟨h1,h2⟩,h3⟩:=h
 refine ⟨h1,h2,fun z=>?_⟩
 rcases h3 with q | q
 ·rw [z] at q; cases q
 ·exact Option.isSome_iff_exists.mp q
structure Ln where
 k:Nat
 m:Int
 rs:List Str
 su:Bool
 ra:Option (Int × Int × Option Str)
def wWs (k:Nat)(m:Int):List Str:=if k=0 then ["now"] else if k=1 then ["hour",bB m] else if k=2 then ["day",bB m] else ["never"]
def BI7:Option Str->List Str
 | none=>[]
 | some u=>[u]
def AY5:Option (Int × Int × Option Str)->List Str
 | none=>[]
 | some x=>("raise":Str)::bB x.1::bB x.2.1::BI7 x.2.2
def Ln.ws (L:Ln):List Str:=(":":Str)::(wWs L.k L.m++((if L.k=3 then [] else ("by":Str)::bB L.rs.length::L.rs)++((if L.su=true then [("sure":Str)] else [])++AY5 L.ra)))
structure Ln.ok (L:Ln):Prop where
 k:L.k<=3
 m:0<=L.m/\L.m<=1439/\(L.k=1->L.m<=59)/\(L.k=0\/L.k=3->L.m=0)
 r:(∀ u∈L.rs,aZ u)/\L.rs.Nodup/\L.rs.length<=4
 n:L.k≠3->L.rs≠[]
 v:L.k=3->L.rs=[]/\L.su=false/\L.ra=none
 a:∀ x,L.ra=some x->1<=x.1/\x.1 < 1000000/\0<=x.2.1/\x.2.1 < 1000000/\∀ u,x.2.2=some u->aZ u
def AW2 (lo hi:Int)(u:Str):Bool:=kI u && decide (lo<=dH u/\dH u<=hi)
def BX5 (r:List Str):Option (Nat × Int × List Str) :=
 if r.getD 0 ""="now" then some (0,0,r.drop 1)
 else if r.getD 0 ""="hour" then (if AW2 0 59 (r.getD 1 "")=true then some (1,dH (r.getD 1 ""),r.drop 2) else none)
 else if r.getD 0 ""="day" then (if AW2 0 1439 (r.getD 1 "")=true then some (2,dH (r.getD 1 ""),r.drop 2) else none)
 else if r.getD 0 ""="never" then some (3,0,r.drop 1) else none
def raF (r:List Str):Option ((Int × Int × Option Str) × List Str) :=
 if (kI (r.getD 0 "")=true/\1<=dH (r.getD 0 ""))/\(kI (r.getD 1 "")=true/\0<=dH (r.getD 1 "")) then
  (if aZ (r.getD 2 "") then some ((dH (r.getD 0 ""),dH (r.getD 1 ""),some (r.getD 2 "")),r.drop 3) else some ((dH (r.getD 0 ""),dH (r.getD 1 ""),none),r.drop 2))
 else none
def qP (r:List Str):Option (Option (Int × Int × Option Str) × List Str) :=
 if r.getD 0 ""="raise" then (raF (r.drop 1)).map (fun x=>(some x.1,x.2)) else some (none,r)
def qQ (r:List Str):Bool × List Str:=if r.getD 0 ""="sure" then (true,r.drop 1) else (false,r)
def rsOk (us:List Str):Prop:=us≠[]/\(∀ u∈us,aZ u)/\us.Nodup
instance (us:List Str):Decidable (rsOk us):=by unfold rsOk; infer_instance
def byF (k:Nat)(m:Int)(r:List Str):Option (Ln × List Str) :=
 if (r.getD 0 ""="by"/\AW2 0 (r.drop 2).length (r.getD 1 "")=true)/\rsOk ((r.drop 2).take (dH (r.getD 1 "")).toNat) then
  (qP (qQ ((r.drop 2).drop (dH (r.getD 1 "")).toNat)).2).map (fun x=>(⟨k,m,(r.drop 2).take (dH (r.getD 1 "")).toNat,(qQ ((r.drop 2).drop (dH (r.getD 1 "")).toNat)).1,x.1⟩,x.2))
 else none
def AI5 (r:List Str):Option (Ln × List Str) :=
 if r.getD 0 ""=":" then (match BX5 (r.drop 1) with
  | none=>none
  | some (k,m,q)=>if k=3 then some (⟨3,0,[],false,none⟩,q) else byF k m q)
 else none
def AI6 (r:List Str):Option (Tr × Ln × List Str):=match BE5 r [] with
 | none=>none
 | some (t,q)=>(AI5 q).map fun x=>(t,x)
theorem AB8 {r:List Str}(h:BI6 r):¬ aZ (r.getD 0 ""):=by
 cases r with
 | nil=>decide
 | cons u r=>exact h
theorem AB9 {n lo hi:Int}(h0:0<=n)(h1:n < 1000000)(h2:lo<=n)(h3:n<=hi):AW2 lo hi (bB n)=true/\dH (bB n)=n:=by
 obtain ⟨a,_,c⟩:=iN h0 h1
 unfold AW2
 rw [a,c,decide_eq_true ⟨h2,h3⟩]
 exact ⟨rfl,rfl⟩
theorem BF2 {L:Ln}(h:L.ok)(r:List Str):BX5 (wWs L.k L.m++r)=some (L.k,L.m,r):=by
 obtain ⟨m0,m1,m2,m3⟩:=h.m
 rcases (by have:=h.k; omega:L.k=0\/L.k=1\/L.k=2\/L.k=3) with e | e | e | e
 ·rw [e,m3 (.inl e)]; rfl
 ·have q:=AB9 (lo:=0) (hi:=59) m0 (by omega) m0 (m2 e)
  rw [e]
  show (if AW2 0 59 (bB L.m)=true then some (1,dH (bB L.m),r) else none)=_
  rw [if_pos q.1,q.2]
 ·have q:=AB9 (lo:=0) (hi:=1439) m0 (by omega) m0 m1
  rw [e]
  show (if AW2 0 1439 (bB L.m)=true then some (2,dH (bB L.m),r) else none)=_
  rw [if_pos q.1,q.2]
 ·rw [e,m3 (.inr e)]; rfl
theorem BM7 {x:Int × Int × Option Str}(h:1<=x.1/\x.1 < 1000000/\0<=x.2.1/\x.2.1 < 1000000/\∀ u,x.2.2=some u->aZ u){r:List Str}(hr:BI6 r):raF (bB x.1::bB x.2.1::(BI7 x.2.2++r))=some (x,r):=by
 obtain ⟨m,n,o⟩:=x
 obtain ⟨h1,h2,h3,h4,h5⟩:=h
 obtain ⟨a,_,c⟩:=iN (n:=m) (by omega) h2
 obtain ⟨a',_,c'⟩:=iN (n:=n) h3 h4
 show (if (kI (bB m)=true/\1<=dH (bB m))/\(kI (bB n)=true/\0<=dH (bB n)) then (if aZ ((BI7 o++r).getD 0 "") then some ((dH (bB m),dH (bB n),some ((BI7 o++r).getD 0 "")),(BI7 o++r).drop 1) else some ((dH (bB m),dH (bB n),none),BI7 o++r)) else none)=_
 rw [c,c',if_pos ⟨⟨a,h1⟩,a',h3⟩]
 cases o with
 | none=>exact if_neg (AB8 hr)
 | some u=>exact if_pos (h5 u rfl)
theorem AO6 {L:Ln}(h:L.ok){r:List Str}(hr:BI6 r):qP (AY5 L.ra++r)=some (L.ra,r):=by
 cases e:L.ra with
 | none =>
  show qP r=_
  unfold qP
  rw [if_neg (fun z=>AB8 hr (by rw [z]; decide))]
 | some x =>
  show (raF (bB x.1::bB x.2.1::(BI7 x.2.2++r))).map _=_
  rw [BM7 (h.a x e) hr]
  rfl
theorem AW3 {L:Ln}{r:List Str}(hr:BI6 r):qQ ((if L.su=true then [("sure":Str)] else [])++(AY5 L.ra++r))=(L.su,AY5 L.ra++r):=by
 cases e:L.su with
 | true=>rfl
 | false =>
  show qQ (AY5 L.ra++r)=_
  unfold qQ
  rw [if_neg]
  intro z
  cases e2:L.ra with
  | none=>rw [e2] at z; exact AB8 hr (by rw [show r.getD 0 ""="sure" from z]; decide)
  | some x=>rw [e2] at z; exact absurd z (by show ¬ ("raise":Str)="sure"; decide)
theorem CN9 {k:Nat}{m:Int}{rs q:List Str}(hl:rs.length<=4):byF k m (("by":Str)::bB rs.length::(rs++q))=if rsOk rs then (qP (qQ q).2).map (fun x=>(⟨k,m,rs,(qQ q).1,x.1⟩,x.2)) else none:=by
 have nq:=AB9 (n:=rs.length) (lo:=0) (hi:=(rs++q).length) (by omega) (by omega) (by omega) (by rw [List.length_append]; omega)
 unfold byF
 have d2:(("by":Str)::bB rs.length::(rs++q)).drop 2=rs++q:=rfl
 have g1:(("by":Str)::bB rs.length::(rs++q)).getD 1 ""=bB rs.length:=rfl
 rw [d2,g1,nq.2]
 have t1:(rs++q).take ((rs.length:Int)).toNat=rs:=by simp
 have t2:(rs++q).drop ((rs.length:Int)).toNat=q:=by simp
 rw [t1,t2]
 by_cases c:rsOk rs
 ·rw [if_pos c,if_pos ⟨⟨rfl,nq.1⟩,c⟩]
 ·rw [if_neg c,if_neg fun z=>c z.2]
theorem BX6 {L:Ln}(h:L.ok)(q:List Str):AI5 ((":":Str)::(wWs L.k L.m++q))=if L.k=3 then some (⟨3,0,[],false,none⟩,q) else byF L.k L.m q:=by
 unfold AI5
 rw [List.getD_cons_zero,if_pos rfl,List.drop_one,List.tail_cons,BF2 h]
theorem Ln.ok.rsOk {L:Ln}(h:L.ok)(e:¬ L.k=3):rsOk L.rs:=⟨h.n e,h.r.1,h.r.2.1⟩
theorem AW4 {L:Ln}(h:L.ok){r:List Str}(hr:BI6 r):AI5 (L.ws++r)=some (L,r):=by
 have e0:L.ws++r=(":":Str)::(wWs L.k L.m++((if L.k=3 then [] else ("by":Str)::bB L.rs.length::L.rs)++((if L.su=true then [("sure":Str)] else [])++(AY5 L.ra++r)))):=by
  unfold Ln.ws
  simp only [List.cons_append,List.append_assoc]
 rw [e0,BX6 h]
 by_cases e:L.k=3
 ·obtain ⟨v1,v2,v3⟩:=h.v e
  have v4:=h.m.2.2.2 (.inr e)
  obtain ⟨k,m,rs,su,ra⟩:=L
  dsimp only at e v1 v2 v3 v4
  subst e v1 v2 v3 v4
  rfl
 ·rw [if_neg e,if_neg e]
  show byF L.k L.m (("by":Str)::bB L.rs.length::(L.rs++_))=_
  rw [CN9 h.r.2.2,if_pos (h.rsOk e),AW3 hr]
  dsimp only
  rw [AO6 h hr]
  rfl
theorem BM8:¬ aZ ":":=by decide
theorem BX7 {t:Tr}(ht:t.wf)(q:List Str):AI6 (t.ws++((":":Str)::q))=(AI5 ((":":Str)::q)).map fun x=>(t,x):=by
 have e:BE5 (t.ws++((":":Str)::q)) []=some (t,(":":Str)::q):=BM1 (S:=[]) ht (show BI6 ((":":Str)::q) from BM8)
 unfold AI6
 rw [e]
theorem AW5 {t:Tr}{L:Ln}(ht:t.wf)(h:L.ok){r:List Str}(hr:BI6 r):AI6 (t.ws++(L.ws++r))=some (t,L,r):=by
 have e:=AW4 h hr
 have e2:L.ws++r=(":":Str)::(L.ws.tail++r):=rfl
 rw [e2] at e ⊢
 rw [BX7 ht,e]
 rfl
def NmNum (x:Str):Prop:=aZ x\/∃ n:Int,0<=n/\n < 1000000/\x=bB n
theorem BM9 {L:Ln}(h:L.ok):∀ x∈L.ws.tail,NmNum x:=by
 obtain ⟨m0,m1,m2,m3⟩:=h.m
 have g:∀ u:Str,aZ u->NmNum u:=fun u=>.inl
 have nn:∀ n:Int,0<=n->n < 1000000->NmNum (bB n):=fun n a b=>.inr ⟨n,a,b,rfl⟩
 show ∀ x∈wWs L.k L.m++((if L.k=3 then [] else ("by":Str)::bB L.rs.length::L.rs)++((if L.su=true then [("sure":Str)] else [])++AY5 L.ra)),NmNum x
 refine kJ ?_ (kJ ?_ (kJ ?_ ?_))
 ·unfold wWs
  repeat' split
  ·exact all_cons (g _ (by decide)) eU
  ·exact all_cons (g _ (by decide)) (all_cons (nn _ m0 (by omega)) eU)
  ·exact all_cons (g _ (by decide)) (all_cons (nn _ m0 (by omega)) eU)
  ·exact all_cons (g _ (by decide)) eU
 ·split
  ·exact eU
  ·exact all_cons (g _ (by decide)) (all_cons (nn _ (by omega) (by have:=h.r.2.2; omega)) fun x hx=>g _ (h.r.1 x hx))
 ·split
  ·exact all_cons (g _ (by decide)) eU
  ·exact eU
 ·cases e:L.ra with
  | none=>exact eU
  | some x =>
   obtain ⟨a1,a2,a3,a4,a5⟩:=h.a x e
   refine all_cons (g _ (by decide)) (all_cons (nn _ (by omega) a2) (all_cons (nn _ a3 a4) ?_))
   cases e2:x.2.2 with
   | none=>exact eU
   | some u=>exact all_cons (g _ (a5 u e2)) eU
theorem NmNum.tok {x:Str}(h:NmNum x):oM x:=by
 rcases h with g | ⟨n,a,b,rfl⟩
 ·exact gR g
 ·exact iZ a b
theorem BR1 {L:Ln}(h:L.ok):∀ x∈L.ws,oM x:=fun x hx=>(List.mem_cons.mp hx).elim (fun e=>e ▸ BE8) fun m=>(BM9 h x m).tok
theorem BR2 {L:Ln}(h:L.ok):L.ws.length<=14:=by
 have h4:=h.r.2.2
 have l1:(wWs L.k L.m).length<=2:=by unfold wWs; (repeat' split) <;> simp
 have l2:(if L.k=3 then [] else ("by":Str)::bB L.rs.length::L.rs).length<=6:=by
  split
  ·decide
  ·simp only [List.length_cons]; omega
 have l3:(if L.su=true then [("sure":Str)] else []).length<=1:=by split <;> decide
 have l4:(AY5 L.ra).length<=4:=by
  cases L.ra with
  | none=>decide
  | some x =>
   obtain ⟨m,n,o⟩:=x
   cases o <;> (simp only [AY5,BI7,List.length_cons,List.length_nil]; omega)
 unfold Ln.ws
 simp only [List.length_cons,List.length_append]
 omega
section
variable {t:Tr}{L:Ln}(ht:t.wf) (h:L.ok) (hl:t.ws.length<=900)
include ht h hl
theorem CG0:(∀ x∈t.ws++L.ws,oM x)/\(t.ws++L.ws).length<=914/\t.ws++L.ws≠[]:=⟨kJ (wO ht) (BR1 h),by have:=BR2 h; rw [List.length_append]; omega,fun z=>AT9 t (List.append_eq_nil_iff.mp z).1⟩
end
theorem BF3 {a b:Str}:Txt.slice (a++b) (some (a.length:Int)) none=b:=by
 have hl:(a++b).length=a.length+b.length:=Str.length_append ..
 rw [slice_from_eq (b:=((a++b).length:Int)) (by omega) (by omega) rfl]
 have e1:((a.length:Int)).toNat=a.length:=by omega
 have e2:(((a++b).length:Int) - (a.length:Int)).toNat=b.length:=by omega
 have la:a.cps.toList.length=a.length:=by simp [Str.length]
 have lb:b.cps.toList.length=b.length:=by simp [Str.length]
 refine dU ?_
 show (((a++b).cps.toList.drop ((a.length:Int)).toNat).take (((a++b).length:Int) - (a.length:Int)).toNat)=b.cps.toList
 rw [e1,e2,cK,<- la,List.drop_left,<- lb,List.take_length]
section
variable {t:Tr}{L:Ln}(ht:t.wf) (h:L.ok) (hl:t.ws.length<=400)
include ht h hl
end
end Bw
namespace Bw
open PySem PySem.Spec PyProof.Rows L2 PySem.StrLaws PySem.Builtin PySem.Builtin.Str PySem.W
theorem wR {c:Nat}(hc:c≠32):∀ {ws:List Str},(∀ x∈ws,c ∉ x.cps.toList)->c ∉ (Str.join sp1 ws).cps.toList
 | [],_=>by intro m; cases m
 | [a],h=>h a List.mem_cons_self
 | a::b::r,h=>by
  rw [AI1,cK,cK]
  intro m
  rcases List.mem_append.mp m with m | m
  ·rcases List.mem_append.mp m with m | m
   ·exact h a List.mem_cons_self m
   ·exact hc (by simpa using (show c∈([32]:List Nat) from m))
  ·exact wR hc (fun x hx=>h x (List.mem_cons_of_mem _ hx)) m
section
variable {t:Tr}{L:Ln}(ht:t.wf) (h:L.ok) (hl:t.ws.length<=400)
include ht h hl
end
end Bw
namespace Bw
open PySem PySem.Spec PyProof.Rows L2 PySem.W
section
variable {t:Tr}{L:Ln}(ht:t.wf) (h:L.ok) (hl:t.ws.length<=400)
include ht h hl
end
theorem uN {k:Bool->Prop}{c:Bool}(h:k c):isB (.bl c) k:=h
theorem qR {n:Int}(h0:0<=n)(h1:n < 10 ^ 14):1<=(bB n).length/\(bB n).length<=14:=by
 have hl:(bB n).length<=14:=toString_length_le h0 (by decide) h1
 refine ⟨?_,hl⟩
 have e:(bB n).length=(bB n).cps.toList.length:=by simp [Str.length]
 rw [e,kX h0,List.length_map]
 by_cases z:n=0
 ·subst z; decide
 ·exact List.length_pos_iff.mpr (pD n.toNat (by omega)).2
theorem zQ {n:Int}(h0:0<=n)(h1:n < 10 ^ 14):PySem.intText? (bB n)=some n:=by
 have hl:=qR h0 h1
 have hd:PySem.NumText.AllDigits (bB n).cps.toList:=fun c hc=>fH h0 c hc
 have hne:(bB n).cps.toList≠[]:=fun e=>by
  have q:(bB n).length=(bB n).cps.toList.length:=by simp [Str.length]
  rw [e] at q
  have:=hl.1
  simp at q
  omega
 rw [PySem.intText_digits hd hne (by omega),kX h0,KIN.val_back]
 congr 1
 omega
theorem AI7 {n:Int}(h0:0<=n)(h1:n < 10 ^ 14):AI2 (bB n)=true/\kI (bB n)=true/\PySem.intText? (bB n)=some n/\dH (bB n)=n:=by
 have e:=zQ h0 h1
 have fg:AI2 (bB n)=true:=by
  obtain ⟨l1,l2⟩:=qR h0 h1
  have hd:=fH h0
  unfold AI2
  rw [Bool.and_eq_true]
  refine ⟨decide_eq_true ⟨l1,by omega,hd⟩,?_⟩
  by_cases z:n=0
  ·subst z; decide +kernel
  ·rw [Bool.or_eq_true]
   right
   show (!Txt.startswith (bB n) ⟨#[48]⟩)=true
   rw [gE,decide_eq_false (AU0 h0 z)]
   rfl
 refine ⟨fg,?_,e,?_⟩
 ·have hd:=fH h0
  have ns:Txt.startswith (bB n) "-"=false:=by
   show Txt.startswith (bB n) ⟨#[45]⟩=false
   rw [gE]
   refine decide_eq_false fun h=>?_
   cases q:(bB n).cps.toList with
   | nil=>rw [q] at h; cases h
   | cons a l =>
    have:=hd a (by rw [q]; exact List.mem_cons_self)
    rw [q] at h
    simp at h
    omega
  unfold kI
  rw [ns,if_neg (by decide)]
  exact fg
 ·unfold dH
  rw [e]
  rfl
theorem wS (m:Nat):(bB (Int.negSucc m)).cps.toList=45::(bB ((m+1:Nat):Int)).cps.toList:=by
 rw [kX (show (0:Int)<=((m+1:Nat):Int) by omega)]
 unfold bB
 rw [signs_ofString]
 show ("-"++Nat.repr (m+1)).toList.map Char.toNat=45::(Nat.toDigits 10 (m+1)).map Char.toNat
 rw [String.toList_append,List.map_append,Nat.toList_repr]
 rfl
theorem BF4 {m:Nat}(h:m+1 < 10 ^ 14):PySem.intText? (bB (Int.negSucc m))=some (Int.negSucc m):=by
 have h0:(0:Int)<=((m+1:Nat):Int):=by omega
 have h1:((m+1:Nat):Int) < 10 ^ 14:=by omega
 have e:=zQ h0 h1
 have hd:=fH h0
 have s:=wS m
 have ey:=PySem.intText_of (x:=bB ((m+1:Nat):Int)) (fun c hc=>.inr (hd c hc))
 have ex:=PySem.intText_of (x:=bB (Int.negSucc m)) (fun c hc=>by
  rw [s] at hc
  rcases List.mem_cons.mp hc with z | z
  ·exact .inl z
  ·exact .inr (hd c z))
 rw [e] at ey
 rw [ex,s]
 generalize hy:(bB ((m+1:Nat):Int)).cps.toList=y at *
 cases y with
 | nil =>
  have q:=(qR h0 h1).1
  have q2:(bB ((m+1:Nat):Int)).length=(bB ((m+1:Nat):Int)).cps.toList.length:=by simp [Str.length]
  rw [hy,List.length_nil] at q2
  omega
 | cons a l =>
  have ra:=hd a List.mem_cons_self
  have ba:PySem.NumText.blank a=false:=by
   unfold PySem.NumText.blank
   simp
   omega
  have b45:PySem.NumText.blank 45=false:=by decide
  have d1:List.dropWhile PySem.NumText.blank (a::l)=a::l:=by rw [List.dropWhile_cons,ba]; rfl
  have d2:List.dropWhile PySem.NumText.blank (45::a::l)=45::a::l:=by rw [List.dropWhile_cons,b45]; rfl
  have s1:PySem.NumText.sign (a::l)=(false,a::l):=by
   unfold PySem.NumText.sign
   split
   ·rename_i z; cases z; omega
   ·rename_i z; cases z; omega
   ·rfl
  have s2:PySem.NumText.sign (45::a::l)=(true,a::l):=rfl
  have c12:PySem.NumText.core (45::a::l)=PySem.NumText.core (a::l):=by
   unfold PySem.NumText.core
   rw [d1,d2,s1,s2]
  rw [c12,d2,s2]
  rw [d1,s1] at ey
  cases q:PySem.NumText.digits? 10 (PySem.NumText.core (a::l)) with
  | none=>rw [q] at ey; cases ey
  | some ds =>
   rw [q] at ey
   dsimp only at ey ⊢
   split at ey
   ·rename_i z
    rw [if_pos z]
    have w:=Option.some.inj ey
    unfold PySem.NumText.worth at w ⊢
    rw [if_neg (by decide)] at w
    rw [if_pos rfl,<- w]
    rfl
   ·cases ey
def pE (n:Int):Prop:=-(10 ^ 14) < n/\n < 10 ^ 14
theorem dF {n:Int}(h:pE n):kI (bB n)=true/\PySem.intText? (bB n)=some n/\dH (bB n)=n:=by
 obtain ⟨h1,h2⟩:=h
 cases n with
 | ofNat m=>exact (AI7 (Int.natCast_nonneg m) h2).2
 | negSucc m =>
  have hm:m+1 < 10 ^ 14:=by omega
  have e:=BF4 hm
  have s:=wS m
  refine ⟨?_,e,?_⟩
  ·have g:=(AI7 (n:=((m+1:Nat):Int)) (by omega) (by omega)).1
   have st:Txt.startswith (bB (Int.negSucc m)) "-"=true:=by
    show Txt.startswith (bB (Int.negSucc m)) ⟨#[45]⟩=true
    rw [gE,s]
    rfl
   have sl:Txt.slice (bB (Int.negSucc m)) (some 1) none=bB ((m+1:Nat):Int):=by
    have ap:bB (Int.negSucc m)=("-":Str)++bB ((m+1:Nat):Int):=dU (by rw [s,cK]; rfl)
    rw [ap]
    exact BF3 (a:="-")
   unfold kI
   rw [st,if_pos rfl,sl,g,Bool.true_and]
   have ne:bB (Int.negSucc m)≠"-0":=fun z=>by
    rw [z] at e
    have q:PySem.intText? ("-0":Str)=some 0:=by decide +kernel
    rw [q] at e
    cases e
   simp [ne]
  ·unfold dH
   rw [e]
   rfl
def QuAt (H:Hp)(x:V):Option (Int × Int)->Prop
 | none=>x=.non
 | some q=>∃ r,x=.ref r/\H r=some (.tup [.int q.1,.int q.2])
def CB3:Option (Int × Int)->Prop
 | none=>True
 | some q=>(0<=q.1/\q.1<=1439)/\(0<=q.2/\q.2<=1439)/\q.1≠q.2
structure Wq where
 z:Int
 q:Option (Int × Int)
 k:Option Int
 ls:List (Tr × Ln)
def AC0:List (Tr × Ln)->List Str
 | []=>[]
 | x::l=>(";":Str)::(x.1.ws++(x.2.ws++AC0 l))
def wkW:Option Int->List Str
 | none=>[]
 | some n=>[bB n]
def quW:Option (Int × Int)->Option Int->List Str
 | none,_=>[]
 | some q,k=>(";":Str)::("quiet":Str)::bB q.1::bB q.2::wkW k
def Wq.ws (W:Wq):List Str:=("zone":Str)::bB W.z::(quW W.q W.k++AC0 W.ls)
structure Wq.ok (W:Wq):Prop where
 z:-1439<=W.z/\W.z<=1439
 q:CB3 W.q
 k:∀ n,W.k=some n->0<=n/\n < 1000000
 n:W.q=none->W.k=none
 l:∀ x∈W.ls,x.1.wf/\x.1.ws.length<=20/\x.2.ok
 c:W.ls.length<=3
def CG1 (ts:List Str):Prop:=∃ W:Wq,W.ok/\ts=W.ws
structure Rw where
 as:List V
 st:Option (List (Int × Int))
def stW (x:Int × Int):Str:=(bB x.1++".")++bB x.2
def sS (x:Int × Int):Prop:=(0<=x.1/\x.1 < 1000000)/\0<=x.2/\x.2 < 1000000
def aT:V->Str
 | .str u=>u
 | .int n=>bB n
 | _=>Str.empty
def Rw.ps (r:Rw):List Str:=r.as.map aT++(match r.st with | none=>[] | some l=>[Str.join sp1 (l.map stW)])
def Rw.tx (r:Rw):Str:=Str.join sp1 r.ps
def StAt (H:Hp)(x:Int × Int)(y:V):Prop:=∃ s,y=.ref s/\H s=some (.tup [.int x.1,.int x.2])
def RwAt (H:Hp)(v:V)(r:Rw):Prop:=∃ p,v=.ref p/\(match r.st with
 | none=>H p=some (.tup r.as)
 | some l=>∃ q qs,H p=some (.tup (r.as++[.ref q]))/\H q=some (.tup qs)/\All2 (StAt H) l qs)
theorem StAt.same {H H':Hp}{x:Int × Int}{y:V}(h:StAt H x y)(S:Same H H'):StAt H' x y:=by
 obtain ⟨s,e,q⟩:=h
 exact ⟨s,e,S _ _ q⟩
theorem RwAt.same {H H':Hp}{v:V}{r:Rw}(h:RwAt H v r)(S:Same H H'):RwAt H' v r:=by
 obtain ⟨p,e,q⟩:=h
 refine ⟨p,e,?_⟩
 split at q
 ·exact S _ _ q
 ·obtain ⟨t,qs,q1,q2,q3⟩:=q
  exact ⟨t,qs,S _ _ q1,S _ _ q2,q3.imp fun _ _ _ z=>z.same S⟩
inductive RwOk:Rw->List Str->Prop
 | wish {m:Int}{h:Str}{W:Wq}:pE m->aZ h->W.ok->RwOk ⟨[.str "wish",.int m,.str h,.str (Str.join sp1 W.ws)],none⟩ (("wish":Str)::bB m::h::W.ws)
 | happen {m n:Int}{k p:Str}:pE m->aZ k->aZ p->0<=n/\n < 1000000->RwOk ⟨[.str "happen",.int m,.str k,.str p,.int n],none⟩ ["happen",bB m,k,p,bB n]
 | take {m n:Int}{h:Str}:pE m->aZ h->0<=n/\n < 1000000->RwOk ⟨[.str "take",.int m,.str h,.int n],none⟩ ["take",bB m,h,bB n]
 | later {m n u:Int}{h:Str}:pE m->aZ h->0<=n/\n < 1000000->pE u->RwOk ⟨[.str "later",.int m,.str h,.int n,.int u],none⟩ ["later",bB m,h,bB n,bB u]
 | back {m n:Int}:pE m->0<=n/\n < 1000000->RwOk ⟨[.str "back",.int m,.int n],none⟩ ["back",bB m,bB n]
 | go {m:Int}:pE m->RwOk ⟨[.str "go",.int m],none⟩ ["go",bB m]
 | tries {m:Int}{h d o:Str}{l:List (Int × Int)}:pE m->aZ h->d="bell"\/d="off"->aZ o->l≠[]->l.length<=8->(∀ x∈l,sS x)->RwOk ⟨[.str "try",.int m,.str h,.str d,.str o],some l⟩ (("try":Str)::bB m::h::d::o::l.map stW)
 | fin {m:Int}{d:Str}:pE m->d="took"\/d="not"\/d="perhaps"->RwOk ⟨[.str "end",.int m,.str d],none⟩ ["end",bB m,d]
def Plain:Nat->Hp->V->Prop
 | 0,_,v=>(∃ u,v=.str u)\/∃ n,v=.int n
 | n+1,H,v=>(∃ u,v=.str u)\/(∃ n,v=.int n)\/∃ p xs,v=.ref p/\(H p=some (.lst xs)\/H p=some (.tup xs))/\xs.length<=100/\∀ x∈xs,Plain n H x
theorem kK {ts:List Str}{i:Nat}{w:Str}{r:List Str}(h:ts.drop i=w::r):ts.getD i ""=w/\ts.drop (i+1)=r/\i < ts.length:=by
 have hl:i < ts.length:=by
  rcases Nat.lt_or_ge i ts.length with z | z
  ·exact z
  ·rw [List.drop_eq_nil_of_le z] at h; cases h
 rw [List.drop_eq_getElem_cons hl] at h
 cases h
 exact ⟨by rw [List.getD_eq_getElem?_getD,List.getElem?_eq_getElem hl]; rfl,rfl,hl⟩
theorem BF5 {ts:List Str}{i:Nat}(h:ts.drop i=[]):ts.getD i ""=""/\ts.length<=i:=by
 have hl:=List.drop_eq_nil_iff.mp h
 exact ⟨by rw [List.getD_eq_getElem?_getD,List.getElem?_eq_none hl]; rfl,hl⟩
theorem BF6 (t:Tr):∃ w r,t.ws=w::r/\w≠("quiet":Str)/\w≠(";":Str):=by
 cases t with
 | any=>rw [Tr.ws]; exact ⟨_,_,rfl,by decide,by decide⟩
 | kind us=>rw [Tr.ws]; exact ⟨_,_,rfl,by decide,by decide⟩
 | place us=>rw [Tr.ws]; exact ⟨_,_,rfl,by decide,by decide⟩
 | weight n=>rw [Tr.ws]; exact ⟨_,_,rfl,by decide,by decide⟩
 | not t=>rw [Tr.ws]; exact ⟨_,_,rfl,by decide,by decide⟩
 | both ts=>rw [Tr.ws]; exact ⟨_,_,rfl,by decide,by decide⟩
 | either ts=>rw [Tr.ws]; exact ⟨_,_,rfl,by decide,by decide⟩
def BF7 (ts:List Str)(i:Nat)(m:Bool)(ls:List (Tr × Ln)):Prop:=(m=false/\ls=[]/\i=ts.length)\/(m=true/\∃ x l,ls=x::l/\ts.drop i=x.1.ws++(x.2.ws++AC0 l))
theorem AO7 {ts:List Str}{i:Nat}{ls:List (Tr × Ln)}(h:ts.drop i=AC0 ls)(hi:i<=ts.length):(ls=[]/\i=ts.length/\ts.getD i ""≠(";":Str))\/(ts.getD i ""=(";":Str)/\BF7 ts (i+1) true ls/\i+1<=ts.length):=by
 cases ls with
 | nil =>
  obtain ⟨g,l⟩:=BF5 h
  exact .inl ⟨rfl,by omega,by rw [g]; decide⟩
 | cons x l =>
  obtain ⟨g,d,q⟩:=kK h
  exact .inr ⟨g,.inr ⟨rfl,x,l,rfl,d⟩,q⟩
theorem CG2 (l:List (Tr × Ln)):BI6 (AC0 l):=by
 cases l with
 | nil=>exact trivial
 | cons x l=>exact (by decide:¬ aZ (";":Str))
theorem nB {n:Int}(h:pE n):oM (bB n):=by
 have g:=dF h
 obtain ⟨h1,h2⟩:=h
 have key:(∀ c∈(bB n).cps.toList,c=45\/(48<=c/\c<=57))/\(bB n).length<=15:=by
  cases n with
  | ofNat m =>
   have h0:(0:Int)<=Int.ofNat m:=Int.natCast_nonneg m
   exact ⟨fun c hc=>.inr (fH h0 c hc),by have:=(qR h0 h2).2; omega⟩
  | negSucc m =>
   have h0:(0:Int)<=((m+1:Nat):Int):=by omega
   have s:=wS m
   have l2:=(qR h0 (by omega)).2
   refine ⟨fun c hc=>?_,?_⟩
   ·rw [s] at hc
    rcases List.mem_cons.mp hc with z | z
    ·exact .inl z
    ·exact .inr (fH h0 c z)
   ·have e1:(bB (Int.negSucc m)).length=(bB (Int.negSucc m)).cps.toList.length:=by simp [Str.length]
    have e2:(bB ((m+1:Nat):Int)).length=(bB ((m+1:Nat):Int)).cps.toList.length:=by simp [Str.length]
    rw [e1,s,List.length_cons,<- e2]
    omega
 refine ⟨fun z=>?_,fun z=>?_,by omega,?_,by omega,fun _=>⟨n,g.2.1⟩⟩
 ·have:=key.1 32 z; omega
 ·have:=key.1 10 z; omega
 ·rw [plain_iff]
  intro c hc
  have:=key.1 c hc
  omega
theorem fB {n:Int}(h0:0<=n)(h1:n < 1000000):(bB n).length<=6:=toString_length_le h0 (by decide) (show n < 10 ^ 6 by omega)
theorem BX8 (x:Int × Int):stW x=Str.join ⟨#[46]⟩ [bB x.1,bB x.2]:=rfl
theorem vT {n:Int}(h0:0<=n){c:Nat}(hc:¬ (48<=c/\c<=57)):c ∉ (bB n).cps.toList:=fun z=>hc (fH h0 c z)
theorem CG3 {x:Int × Int}(h:sS x):BX2 (stW x)=Str.join sp1 [bB x.1,bB x.2]/\CF9 (stW x)=[bB x.1,bB x.2]:=by
 have e:BX2 (stW x)=Str.join sp1 [bB x.1,bB x.2]:=by
  have hs:∀ a∈[bB x.1,bB x.2],46 ∉ a.cps.toList:=fun a ha=>by
   rcases List.mem_cons.mp ha with rfl | ha
   ·exact vT h.1.1 (by omega)
   ·rw [List.mem_singleton.mp ha]; exact vT h.2.1 (by omega)
  unfold BX2
  rw [show (".":Str)=⟨#[46]⟩ from rfl,StrLaws.replace_one,BX8,oK (by simp) hs]
  rfl
 refine ⟨e,?_⟩
 unfold CF9
 rw [e]
 refine oK (by simp) (fun a ha=>?_)
 rcases List.mem_cons.mp ha with rfl | ha
 ·exact vT h.1.1 (by omega)
 ·rw [List.mem_singleton.mp ha]; exact vT h.2.1 (by omega)
theorem BF8 {x:Int × Int}(h:sS x):oM (stW x):=by
 have l1:=fB h.1.1 h.1.2
 have l2:=fB h.2.1 h.2.2
 have k1:=AO1 h.1.1 h.1.2
 have ch:(stW x).cps.toList=(bB x.1).cps.toList++(46::(bB x.2).cps.toList):=by
  unfold stW
  rw [cK,cK,List.append_assoc]
  rfl
 have key:∀ c∈(stW x).cps.toList,c=46\/(48<=c/\c<=57):=fun c hc=>by
  rw [ch] at hc
  rcases List.mem_append.mp hc with z | z
  ·exact .inr (fH h.1.1 c z)
  ·rcases List.mem_cons.mp z with z | z
   ·exact .inl z
   ·exact .inr (fH h.2.1 c z)
 have ln:(stW x).length<=13:=by
  have:(stW x).length=(bB x.1).length+1+(bB x.2).length:=by
   unfold stW
   rw [Str.length_append,Str.length_append]
   rfl
  omega
 refine ⟨fun z=>?_,fun z=>?_,by omega,?_,by omega,fun z=>?_⟩
 ·have:=key 32 z; omega
 ·have:=key 10 z; omega
 ·rw [plain_iff]
  intro c hc
  have:=key c hc
  omega
 ·exfalso
  have ns:Txt.startswith (stW x) "-"=false:=by
   show Txt.startswith (stW x) ⟨#[45]⟩=false
   rw [gE]
   refine decide_eq_false fun q=>?_
   have:=key 45 (by
    cases e:(stW x).cps.toList with
    | nil=>rw [e] at q; cases q
    | cons a l=>rw [e] at q; cases q; exact List.mem_cons_self)
   omega
  unfold kI AI2 at z
  rw [ns,if_neg (by decide),Bool.and_eq_true,decide_eq_true_eq] at z
  have:=z.1.2.2 46 (by rw [ch]; simp)
  omega
theorem BN0:oM "zone":=⟨by decide +kernel,by decide +kernel,by decide +kernel,by decide +kernel,by decide +kernel,fun z=>absurd z (by decide +kernel)⟩
theorem BF9:oM "quiet":=⟨by decide +kernel,by decide +kernel,by decide +kernel,by decide +kernel,by decide +kernel,fun z=>absurd z (by decide +kernel)⟩
theorem AU4:oM ";":=⟨by decide +kernel,by decide +kernel,by decide +kernel,by decide +kernel,by decide +kernel,fun z=>absurd z (by decide +kernel)⟩
theorem bE {p:Str->Prop}{a:Str}{l:List Str}(h:p a)(k:∀ x∈l,p x):∀ x∈a::l,p x:=fun x hx=>(List.mem_cons.mp hx).elim (fun e=>e ▸ h) (k x)
theorem jB {p:Str->Prop}:∀ x∈([]:List Str),p x:=fun x hx=>by cases hx
theorem BG0:∀ {ls:List (Tr × Ln)},(∀ x∈ls,x.1.wf/\x.1.ws.length<=20/\x.2.ok)->(∀ y∈AC0 ls,oM y)/\(AC0 ls).length<=35 * ls.length
 | [],_=>⟨jB,Nat.zero_le _⟩
 | x::l,h=>by
  obtain ⟨h1,h2,h3⟩:=h x List.mem_cons_self
  obtain ⟨i1,i2⟩:=BG0 (ls:=l) fun y hy=>h y (List.mem_cons_of_mem _ hy)
  have:=BR2 h3
  refine ⟨bE AU4 (kJ (wO h1) (kJ (BR1 h3) i1)),?_⟩
  show (x.1.ws++(x.2.ws++AC0 l)).length+1<=35 * (l.length+1)
  rw [List.length_append,List.length_append]
  omega
theorem AI8 {W:Wq}(h:W.ok):(∀ y∈W.ws,oM y)/\W.ws.length<=112/\W.ws≠[]:=by
 obtain ⟨i1,i2⟩:=BG0 h.l
 have hz:pE W.z:=⟨by have:=h.z; omega,by have:=h.z; omega⟩
 have hq:(∀ y∈quW W.q W.k,oM y)/\(quW W.q W.k).length<=5:=by
  cases e:W.q with
  | none=>exact ⟨jB,Nat.zero_le _⟩
  | some q =>
   have qo:=h.q
   rw [e] at qo
   obtain ⟨⟨a1,a2⟩,⟨b1,b2⟩,_⟩:=qo
   have hk:(∀ y∈wkW W.k,oM y)/\(wkW W.k).length<=1:=by
    cases e2:W.k with
    | none=>exact ⟨jB,Nat.zero_le _⟩
    | some n=>exact ⟨bE (iZ (h.k n e2).1 (h.k n e2).2) jB,Nat.le_refl _⟩
   refine ⟨bE AU4 (bE BF9 (bE (iZ a1 (by omega)) (bE (iZ b1 (by omega)) hk.1))),?_⟩
   show (wkW W.k).length+4<=5
   omega
 refine ⟨bE BN0 (bE (nB hz) (kJ hq.1 i1)),?_,by unfold Wq.ws; simp⟩
 show (quW W.q W.k++AC0 W.ls).length+2<=112
 rw [List.length_append]
 have:=h.c
 have:=hq.2
 omega
theorem BG1 {a:List Str}{b:List Str}(ha:a≠[])(hb:b≠[]):Str.join sp1 (a++[Str.join sp1 b])=Str.join sp1 (a++b):=by
 rw [vR ha (by simp),vR ha hb]
 rfl
theorem sT {u:Str}(h:CN8 u=true/\(32 ∉ u.cps.toList/\10 ∉ u.cps.toList)/\u.length<=20):oM u:=⟨h.2.1.1,h.2.1.2,h.2.2,BX4 h.1⟩
theorem BR3 {r:Rw}{ws:List Str}(h:RwOk r ws):(∀ y∈ws,oM y)/\ws.length<=120/\ws≠[]/\r.tx=Str.join sp1 ws:=by
 cases h with
 | wish m h W =>
  obtain ⟨w1,w2,w3⟩:=AI8 W
  refine ⟨bE (sT (by decide +kernel)) (bE (nB m) (bE (gR h) w1)),by simp only [List.length_cons]; omega,by simp,?_⟩
  exact BG1 (a:=[_,_,_]) (by simp) w3
 | happen m k p n=>exact ⟨bE (sT (by decide +kernel)) (bE (nB m) (bE (gR k) (bE (gR p) (bE (iZ n.1 n.2) jB)))),by simp,by simp,rfl⟩
 | take m h n=>exact ⟨bE (sT (by decide +kernel)) (bE (nB m) (bE (gR h) (bE (iZ n.1 n.2) jB))),by simp,by simp,rfl⟩
 | later m h n u=>exact ⟨bE (sT (by decide +kernel)) (bE (nB m) (bE (gR h) (bE (iZ n.1 n.2) (bE (nB u) jB)))),by simp,by simp,rfl⟩
 | back m n=>exact ⟨bE (sT (by decide +kernel)) (bE (nB m) (bE (iZ n.1 n.2) jB)),by simp,by simp,rfl⟩
 | go m=>exact ⟨bE (sT (by decide +kernel)) (bE (nB m) jB),by simp,by simp,rfl⟩
 | @tries mm hh dd oo ll m h d o l1 l2 l3 =>
  have td:oM dd:=by
   rcases d with rfl | rfl
   ·exact sT (u:="bell") (by decide +kernel)
   ·exact sT (u:="off") (by decide +kernel)
  refine ⟨bE (sT (by decide +kernel)) (bE (nB m) (bE (gR h) (bE td (bE (gR o) fun y hy=>?_)))),by simp only [List.length_cons,List.length_map]; omega,by simp,?_⟩
  ·obtain ⟨x,hx,rfl⟩:=List.mem_map.mp hy
   exact BF8 (l3 x hx)
  ·exact BG1 (a:=[_,_,_,_,_]) (by simp) (by simpa using l1)
 | @fin mm dd m d =>
  have td:oM dd:=by
   rcases d with rfl | rfl | rfl
   ·exact sT (u:="took") (by decide +kernel)
   ·exact sT (u:="not") (by decide +kernel)
   ·exact sT (u:="perhaps") (by decide +kernel)
  exact ⟨bE (sT (by decide +kernel)) (bE (nB m) (bE td jB)),by simp,by simp,rfl⟩
theorem BG2 {r:Rw}{ws:List Str}(h:RwOk r ws):CB2 r.tx/\Txt.split r.tx sp1=ws/\10 ∉ r.tx.cps.toList/\r.tx.length<=3000:=by
 obtain ⟨h1,h2,h3,h4⟩:=BR3 h
 rw [h4]
 obtain ⟨q1,q2⟩:=CF5 h3 h1 (by omega)
 refine ⟨q1,q2,wR (by decide) (fun x hx=>(h1 x hx).2.1),?_⟩
 have a:=StrLaws.join_length_le sp1 ws
 have b:=uM (k:=20) (ws:=ws) fun x hx=>(h1 x hx).2.2.1
 have e:sp1.length=1:=rfl
 rw [e] at a
 omega
def CO0:List V->Hp->VK->Prop:=fun xs H Q=>∃ v,xs=[v]/\((∃ i,v=.int i/\i.natAbs.log2 < 1920/\Q (.str (bB i)) H)\/(∃ u,v=.str u/\Q (.str u) H) \/
 ∃ p ds,v=.ref p/\RD H v (.tuple ds)/\(PyData.tuple ds).showable=true/\(PyData.tuple ds).hasDict=false/\(PyData.tuple ds).depth<=20/\(PyData.tuple ds).shown.length<=sizeLine/\∀ u,Q (.str u) H)
theorem uO {X:Cx}{k:Nat}(hr:Room k X.A):mM X (.type "str") CO0:=by
 intro pins s σ H xs us Q I r h
 obtain ⟨v,rfl,h⟩:=h
 rcases h with ⟨i,rfl,hz,q⟩ | ⟨u,rfl,q⟩ | ⟨p,ds,rfl,rd,h1,h2,h3,h4,q⟩
 ·obtain ⟨u,rfl,t,rfl⟩:=sI r
  exact PySem.P.str_of_int hz ⟨.str _,H,I.tok _,⟨_,rfl⟩,q⟩
 ·obtain ⟨u',rfl,t,rfl⟩:=sI r
  exact PySem.P.str_of_str ⟨.str _,H,I,⟨_,rfl⟩,q⟩
 ·obtain ⟨u',rfl,r1⟩:=sI r
  obtain ⟨as,ra⟩:=RD.reads I rd r1
  cases r1
  refine str_of_reads ra h1 (PyData.noDict_hsm h2) hr.gd (by have:=hr.un; omega) (fun _ _ e=>e) (fun h' u tk hk=>⟨.str _,H,I.kept (t':=tk) hk,⟨_,rfl⟩,q _⟩) h4
def stD (x:Int × Int):PyData:=.tuple [.int x.1,.int x.2]
theorem BX9 {H:Hp}:∀ {l:List (Int × Int)}{qs:List V},All2 (StAt H) l qs->RDs H qs (l.map stD)
 | _,_,.nil=>.nil
 | _,_,.cons h hs=>by
  obtain ⟨s,rfl,e⟩:=h
  exact .cons (.tup e (.cons (.int _) (.cons (.int _) .nil))) (BX9 hs)
theorem jU {n:Int}(h0:0<=n)(h1:n < 1000000):n.natAbs.log2 < 1920:=by
 by_cases z:n.natAbs=0
 ·rw [z]; decide
 ·rw [Nat.log2_lt z]
  exact Nat.lt_of_lt_of_le (show n.natAbs < 2 ^ 20 by omega) (Nat.pow_le_pow_right (by decide) (by decide))
theorem AU5 {n:Int}(h:pE n):n.natAbs.log2 < 1920:=by
 obtain ⟨h0,h1⟩:=h
 by_cases z:n.natAbs=0
 ·rw [z]; decide
 ·rw [Nat.log2_lt z]
  exact Nat.lt_of_lt_of_le (show n.natAbs < 2 ^ 47 by omega) (Nat.pow_le_pow_right (by decide) (by decide))
theorem BG3:∀ {l:List (Int × Int)},(∀ x∈l,sS x)->PyData.showableAll (l.map stD)=true/\PyData.hasDictAll (l.map stD)=false
 | [],_=>⟨rfl,rfl⟩
 | x::l,h=>by
  obtain ⟨i1,i2⟩:=BG3 (l:=l) fun y hy=>h y (List.mem_cons_of_mem _ hy)
  have hx:=h x List.mem_cons_self
  have d1:=jU hx.1.1 hx.1.2
  have d2:=jU hx.2.1 hx.2.2
  refine ⟨?_,?_⟩
  ·show (PyData.showable (stD x) && PyData.showableAll (l.map stD))=true
   rw [i1,Bool.and_true]
   show (decide (x.1.natAbs.log2 < 1920) && (decide (x.2.natAbs.log2 < 1920) && true))=true
   simp [d1,d2]
  ·show (PyData.hasDict (stD x) || PyData.hasDictAll (l.map stD))=false
   rw [i2]
   rfl
theorem BY0 {l:List (Int × Int)}(h:∀ x∈l,sS x)(hl:l.length<=8):(PyData.tuple (l.map stD)).shown.length<=1000:=by
 have one:∀ x∈l,(stD x).shown.length<=30:=fun x hx=>by
  have a:=fB (h x hx).1.1 (h x hx).1.2
  have b:=fB (h x hx).2.1 (h x hx).2.2
  have c:=tupleText_len_le [bB x.1,bB x.2]
  show (tupleText [bB x.1,bB x.2]).length<=30
  simp only [List.map_cons,List.map_nil,List.sum_cons,List.sum_nil,List.length_cons,List.length_nil] at c
  omega
 have all:∀ {m:List (Int × Int)},(∀ x∈m,(stD x).shown.length<=30)->((PyData.shownAll (m.map stD)).map (·.length)).sum<=30 * m.length/\(PyData.shownAll (m.map stD)).length=m.length:=fun {m}=>by
  induction m with
  | nil=>exact fun _=>⟨Nat.le_refl _,rfl⟩
  | cons x m ih =>
   intro hm
   obtain ⟨i1,i2⟩:=ih fun y hy=>hm y (List.mem_cons_of_mem _ hy)
   have hx:=hm x List.mem_cons_self
   refine ⟨?_,?_⟩
   ·show (stD x).shown.length+((PyData.shownAll (m.map stD)).map (·.length)).sum<=30 * (m.length+1)
    omega
   ·show (PyData.shownAll (m.map stD)).length+1=m.length+1
    omega
 obtain ⟨a1,a2⟩:=all one
 have c:=tupleText_len_le (PyData.shownAll (l.map stD))
 show (tupleText (PyData.shownAll (l.map stD))).length<=1000
 omega
theorem BY1:∀ {l:List (Int × Int)},(PyData.tuple (l.map stD)).depth<=20:=fun {l}=>by
 have all:∀ m:List (Int × Int),PyData.depthAll (m.map stD)<=3:=fun m=>by
  induction m with
  | nil=>exact Nat.zero_le _
  | cons x m ih =>
   show max (PyData.depth (stD x)) (PyData.depthAll (m.map stD))<=3
   have:PyData.depth (stD x)<=3:=by simp [stD,PyData.depth,PyData.depthAll]
   omega
 have:=all l
 show PyData.depthAll (l.map stD)+1<=20
 omega
theorem AU6 {n:Int}(h:0<=n/\n < 1000000):pE n:=⟨by omega,by omega⟩
theorem vU {r:Rw}{ws:List Str}(h:RwOk r ws):r.as.length<=5/\∀ y∈r.as,(∃ u,y=.str u/\u.length<=3000)\/∃ n,y=.int n/\pE n:=by
 have S:∀ u:Str,u.length<=3000->(∃ u',V.str u=.str u'/\u'.length<=3000)\/∃ n,V.str u=.int n/\pE n:=fun u h=>.inl ⟨u,rfl,h⟩
 have N:∀ n:Int,pE n->(∃ u',V.int n=.str u'/\u'.length<=3000)\/∃ n',V.int n=.int n'/\pE n':=fun n h=>.inr ⟨n,rfl,h⟩
 have G:∀ u:Str,aZ u->u.length<=3000:=fun u h=>by have:=h.2.1; omega
 have C:∀ {a:V}{l:List V}{p:V->Prop},p a->(∀ y∈l,p y)->∀ y∈a::l,p y:=fun {a l p} h k y hy=>(List.mem_cons.mp hy).elim (fun e=>e ▸ h) (k y)
 have E:∀ {p:V->Prop},∀ y∈([]:List V),p y:=fun {p} y hy=>by cases hy
 cases h with
 | @wish m h W hm hh hw =>
  obtain ⟨t1,t2,t3⟩:=AI8 hw
  have a:=StrLaws.join_length_le sp1 W.ws
  have b:=uM (k:=20) (ws:=W.ws) fun x hx=>(t1 x hx).2.2.1
  have e:sp1.length=1:=rfl
  rw [e] at a
  exact ⟨by simp,C (S _ (by decide)) (C (N _ hm) (C (S _ (G _ hh)) (C (S _ (by omega)) E)))⟩
 | happen m k p n=>exact ⟨by simp,C (S _ (by decide)) (C (N _ m) (C (S _ (G _ k)) (C (S _ (G _ p)) (C (N _ (AU6 n)) E))))⟩
 | take m h n=>exact ⟨by simp,C (S _ (by decide)) (C (N _ m) (C (S _ (G _ h)) (C (N _ (AU6 n)) E)))⟩
 | later m h n u=>exact ⟨by simp,C (S _ (by decide)) (C (N _ m) (C (S _ (G _ h)) (C (N _ (AU6 n)) (C (N _ u) E))))⟩
 | back m n=>exact ⟨by simp,C (S _ (by decide)) (C (N _ m) (C (N _ (AU6 n)) E))⟩
 | go m=>exact ⟨by simp,C (S _ (by decide)) (C (N _ m) E)⟩
 | @tries mm hh dd oo ll m h d o l1 l2 l3 =>
  have hd:dd.length<=3000:=by rcases d with rfl | rfl <;> decide
  exact ⟨by simp,C (S _ (by decide)) (C (N _ m) (C (S _ (G _ h)) (C (S _ hd) (C (S _ (G _ o)) E))))⟩
 | @fin mm dd m d =>
  have hd:dd.length<=3000:=by rcases d with rfl | rfl | rfl <;> decide
  exact ⟨by simp,C (S _ (by decide)) (C (N _ m) (C (S _ hd) E))⟩
def tenF:List Str:=["any","kind fire","kind not any fire","place attic","weight 3","not kind flood","not not place roof","( kind fire & weight 2 )","( place attic | not ( kind flood & weight 5 ) )","place any attic"]
def CS3 (u:Str):Prop:=∃ t:Tr,t.wf/\t.ws.length<=20/\u=Str.join sp1 t.ws
theorem AO8 {us:List Str}(h:us≠[]/\us.Nodup/\∀ u∈us,aZ u):(Tr.kind us).wf/\(Tr.place us).wf:=by
 refine ⟨?_,?_⟩
 ·rw [Tr.wf]; first | exact h | exact ⟨h.1,h.2.2,h.2.1⟩ | simp [h]
 ·rw [Tr.wf]; first | exact h | exact ⟨h.1,h.2.2,h.2.1⟩ | simp [h]
theorem CG4:∀ u∈tenF,CS3 u:=by
 intro u hu
 simp only [tenF,List.mem_cons,List.not_mem_nil,or_false] at hu
 rcases hu with rfl | rfl | rfl | rfl | rfl | rfl | rfl | rfl | rfl | rfl
 ·exact ⟨.any,by rw [Tr.wf]; trivial,by rw [Tr.ws]; decide,by rw [Tr.ws]; decide +kernel⟩
 ·exact ⟨.kind ["fire"],(AO8 (by decide)).1,by rw [Tr.ws]; decide,by rw [Tr.ws]; decide +kernel⟩
 ·exact ⟨.kind ["not","any","fire"],(AO8 (by decide)).1,by rw [Tr.ws]; decide,by rw [Tr.ws]; decide +kernel⟩
 ·exact ⟨.place ["attic"],(AO8 (by decide)).2,by rw [Tr.ws]; decide,by rw [Tr.ws]; decide +kernel⟩
 ·exact ⟨.weight 3,by rw [Tr.wf]; decide,by rw [Tr.ws]; decide,by rw [Tr.ws]; decide +kernel⟩
 ·exact ⟨.not (.kind ["flood"]),by rw [Tr.wf]; exact (AO8 (by decide)).1,by rw [Tr.ws,Tr.ws]; decide,by rw [Tr.ws,Tr.ws]; decide +kernel⟩
 ·exact ⟨.not (.not (.place ["roof"])),by rw [Tr.wf,Tr.wf]; exact (AO8 (by decide)).2,by rw [Tr.ws,Tr.ws,Tr.ws]; decide,by rw [Tr.ws,Tr.ws,Tr.ws]; decide +kernel⟩
 ·refine ⟨.both (.cons (.kind ["fire"]) (.cons (.weight 2) .nil)),?_,?_,?_⟩
  ·rw [Tr.wf,Trs.wf,Trs.wf,Trs.wf]
   exact ⟨by decide,(AO8 (by decide)).1,by rw [Tr.wf]; decide,trivial⟩
  ·rw [Tr.ws,mZ,uL,Tr.ws,Tr.ws]; decide
  ·rw [Tr.ws,mZ,uL,Tr.ws,Tr.ws]; decide +kernel
 ·refine ⟨.either (.cons (.place ["attic"]) (.cons (.not (.both (.cons (.kind ["flood"]) (.cons (.weight 5) .nil)))) .nil)),?_,?_,?_⟩
  ·simp only [Tr.wf,Trs.wf]; decide
  ·rw [Tr.ws,mZ,uL,Tr.ws,Tr.ws,Tr.ws,mZ,uL,Tr.ws,Tr.ws]; decide
  ·rw [Tr.ws,mZ,uL,Tr.ws,Tr.ws,Tr.ws,mZ,uL,Tr.ws,Tr.ws]; decide +kernel
 ·exact ⟨.place ["any","attic"],(AO8 (by decide)).2,by rw [Tr.ws]; decide,by rw [Tr.ws]; decide +kernel⟩
theorem jn {a b:List Str}(ha:a≠[])(hb:b≠[]):Str.join sp1 (a++b)=Str.join sp1 a++(sp1++Str.join sp1 b):=by
 rw [vR ha hb]
 exact dU (by simp only [cK,List.append_assoc])
theorem BG4 {f wt rt n:Str}{T ww rs:List Str}(hf:f=Str.join sp1 T)(hw:wt=Str.join sp1 ww)(hr:rt=Str.join sp1 rs)(h1:T≠[])(h2:ww≠[])(h3:rs≠[]) :
  f++" : "++wt++" by "++n++" "++rt=Str.join sp1 (T++((":":Str)::(ww++(("by":Str)::n::rs)))):=by
 have e:T++((":":Str)::(ww++(("by":Str)::n::rs)))=T++([(":":Str)]++(ww++([("by":Str),n]++rs))):=rfl
 rw [e,jn h1 (by simp),jn (by simp) (by simp),jn h2 (by simp),jn (by simp) h3,hf,hw,hr]
 refine dU ?_
 show (Str.join sp1 T++" : "++Str.join sp1 ww++" by "++n++" "++Str.join sp1 rs).cps.toList=(Str.join sp1 T++(sp1++((":":Str)++(sp1++(Str.join sp1 ww++(sp1++((("by":Str)++sp1++n)++(sp1++Str.join sp1 rs)))))))).cps.toList
 simp only [cK,List.append_assoc]
 rfl
theorem AW6 {f:Str}{T:List Str}(hf:f=Str.join sp1 T)(h1:T≠[]):f++" : never"=Str.join sp1 (T++[(":":Str),"never"]):=by
 rw [jn h1 (by simp),hf]
 refine dU ?_
 show (Str.join sp1 T++" : never").cps.toList=(Str.join sp1 T++(sp1++((":":Str)++sp1++("never":Str)))).cps.toList
 simp only [cK,List.append_assoc]
 rfl
theorem BN1 {A:List Str}(h:A≠[]):Str.join sp1 A++" sure"=Str.join sp1 (A++[("sure":Str)]):=by
 rw [jn h (by simp)]
 refine dU ?_
 show (Str.join sp1 A++" sure").cps.toList=(Str.join sp1 A++(sp1++("sure":Str))).cps.toList
 simp only [cK,List.append_assoc]
 rfl
theorem BG5 {A:List Str}{a b:Str}(h:A≠[]):Str.join sp1 A++" raise "++a++" "++b=Str.join sp1 (A++[("raise":Str),a,b]):=by
 rw [jn h (by simp)]
 refine dU ?_
 show (Str.join sp1 A++" raise "++a++" "++b).cps.toList=(Str.join sp1 A++(sp1++(("raise":Str)++sp1++(a++sp1++b)))).cps.toList
 simp only [cK,List.append_assoc]
 rfl
theorem CG5 {A:List Str}{u:Str}(h:A≠[]):Str.join sp1 A++(sp1++u)=Str.join sp1 (A++[u]):=by
 rw [jn h (by simp)]
 rfl
def roadT:List Str:=["mail","pager mail","pager","mail horn","horn pager mail"]
theorem BY2:∀ u∈roadT,∃ rs:List Str,u=Str.join sp1 rs/\Txt.split u sp1=rs/\(∀ x∈rs,aZ x)/\rs.Nodup/\rs.length<=4/\rs≠[]/\u.length<=30:=by
 intro u hu
 simp only [roadT,List.mem_cons,List.not_mem_nil,or_false] at hu
 rcases hu with rfl | rfl | rfl | rfl | rfl
 ·exact ⟨["mail"],by decide +kernel,by decide +kernel,by decide +kernel,by decide +kernel,by decide,by decide,by decide⟩
 ·exact ⟨["pager","mail"],by decide +kernel,by decide +kernel,by decide +kernel,by decide +kernel,by decide,by decide,by decide⟩
 ·exact ⟨["pager"],by decide +kernel,by decide +kernel,by decide +kernel,by decide +kernel,by decide,by decide,by decide⟩
 ·exact ⟨["mail","horn"],by decide +kernel,by decide +kernel,by decide +kernel,by decide +kernel,by decide,by decide,by decide⟩
 ·exact ⟨["horn","pager","mail"],by decide +kernel,by decide +kernel,by decide +kernel,by decide +kernel,by decide,by decide,by decide⟩
theorem AU7:∀ {Ts:List String}{us:List Value},Vals (Ts.map V.ty) us->us=Ts.map Value.type
 | [],_,.nil=>rfl
 | T::Ts,_,.cons r rs=>by
  cases (show _=Value.type T from r)
  rw [AU7 rs]
  rfl
def CG6 (K:Frag):List V->Hp->VK->Prop:=fun xs H Q=>∃ (x:V) (tp:Addr) (t:Value) (Ts:List String) (b:Bool),xs=[x,.ref tp]/\H tp=some (.tup (Ts.map V.ty))/\((∃ i,x=.int i/\t=.type "int")\/(∃ u,x=.str u/\t=.type "str")\/(∃ p ys,x=.ref p/\H p=some (.lst ys)/\t=.type "list")\/∃ p ys,x=.ref p/\H p=some (.tup ys)/\t=.type "tuple")/\kitAny K t (Ts.map Value.type)=some b/\Q (.bl b) H
theorem BN2 {X:Cx}{K:Frag}(hK:X.K=K):mM X (.builtin "isinstance") (CG6 K):=by
 subst hK
 intro pins s σ H xs us Q I r h
 obtain ⟨x,tp,t,Ts,b,rfl,ht,ty,e,q⟩:=h
 obtain ⟨u,w',rfl,rx,rc'⟩:=BJ6 r
 cases (show w'=Value.ref tp from rc')
 obtain ⟨_,its,rv,o,ho,hc,n,hd⟩:=(show ObjOk X.prog X.w H s.heap tp (.tup (Ts.map V.ty)) from I.hok tp _ ht)
 have hv:=AU7 rv
 subst hv
 obtain ⟨oc,dd,dt,sl⟩:=o
 dsimp only at hc hd
 subst hc hd
 rcases ty with ⟨i,rfl,rfl⟩ | ⟨i,rfl,rfl⟩ | ⟨p,ys,rfl,hp,rfl⟩ | ⟨p,ys,rfl,hp,rfl⟩
 ·obtain ⟨t,rfl⟩:=(show ∃ t,u=Value.int i t from rx)
  exact kia_tup kitx_int I.kIn True.intro ho e (fun z=>nomatch z) fun tk=>⟨.bl b,H,I.tok _,rfl,q⟩
 ·obtain ⟨t,rfl⟩:=(show ∃ t,u=Value.str i t from rx)
  exact kia_tup kitx_str I.kIn True.intro ho e (fun z=>nomatch z) fun tk=>⟨.bl b,H,I.tok _,rfl,q⟩
 ·cases (show u=Value.ref p from rx)
  obtain ⟨_,_,n1,_,h1⟩:=(show ObjOk X.prog X.w H s.heap p (.lst ys) from I.hok p _ hp)
  exact kia_tup kitx_list I.kIn ⟨_,h1,rfl⟩ ho e (fun z=>nomatch z) fun tk=>⟨.bl b,H,I.tok _,rfl,q⟩
 ·cases (show u=Value.ref p from rx)
  obtain ⟨_,_,_,pp⟩:=(show ObjOk X.prog X.w H s.heap p (.tup ys) from I.hok p _ hp)
  obtain ⟨o1,h1,h2,_⟩:=pp
  exact kia_tup kitx_tuple I.kIn ⟨o1,h1,h2⟩ ho e (fun z=>nomatch z) fun tk=>⟨.bl b,H,I.tok _,rfl,q⟩
def iLT (K:Frag)(tl:TE):TI:=fun σ H R=>tl σ H fun x H1=>isR x fun a=>((∃ xs,SqL K H1 a xs)/\R (Itl K a) H1)\/((∃ xs,SqT K H1 a xs)/\R (Itt K a) H1)
theorem CO1 {X:Cx}{tg l:Expr}{tl:TE}(hl:PE X l tl):PI X tg l (iLT X.K tl):=by
 intro pins s σ H R I h
 refine thn (hl pins s σ H _ I h) fun v s1 ⟨x,H1,I1,r1,q1⟩=>?_
 obtain ⟨a,e,q1⟩:=isR.ex q1
 subst e
 cases r1
 have fp:∀ b∈[s1.heap.objs.size],_:=fun b hb=>by
  have e:b=s1.heap.objs.size:=by simpa using hb
  subst e
  exact I1.fpOk (Nat.le_refl _) (I1.hok.fresh (Nat.le_refl _))
 rcases q1 with ⟨⟨xs,hq⟩,q⟩ | ⟨⟨xs,hq⟩,q⟩
 ·obtain ⟨its,rv,p,hz⟩:=I1.list hq
  refine wpAny_pyIter_list p.isList ?_
  exact ⟨s1.heap.objs.size,[s1.heap.objs.size],_,_,H1,rfl,I1.kept (t':=s1.toks) fun b o e=>Heap.get?_push_of_some _ e,AG4 a _,⟨_,Heap.get?_push_size _ rfl,rfl,rfl⟩,fp,q⟩
 ·obtain ⟨its,rv,p,hz⟩:=I1.tuple hq
  refine wpAny_pyIter_tuple (show s1.heap.IsTuple a its.toArray from p) ?_
  exact ⟨s1.heap.objs.size,[s1.heap.objs.size],_,_,H1,rfl,I1.kept (t':=s1.toks) fun b o e=>Heap.get?_push_of_some _ e,yZ a _,⟨_,Heap.get?_push_size _ rfl,rfl,rfl⟩,fp,q⟩
theorem BN3 {K:Frag}{ta:TE}{ix:List (Option Nat)}{g:TG}{tt:TT}{te:TE}{σ:L2.St}{H:Hp}{Q:VK}:xY (iLT K ta) ix g tt te σ H Q=ta σ H (fun x H1=>isR x fun a=>((∃ xs,SqL K H1 a xs)/\CompL K a g tt te Q (AL3 ix σ) H1)\/((∃ xs,SqT K H1 a xs)/\CompT K a g tt te Q (AL3 ix σ) H1)):=rfl
theorem Plain.same {H H':Hp}:∀ {n:Nat}{v:V},Plain n H v->Same H H'->Plain n H' v
 | 0,_,h,_=>h
 | n+1,_,h,S=>by
  rcases h with h | h | ⟨p,xs,e,hx,l,hp⟩
  ·exact .inl h
  ·exact .inr (.inl h)
  ·exact .inr (.inr ⟨p,xs,e,hx.imp (S _ _) (S _ _),l,fun x m=>(hp x m).same S⟩)
theorem CG7 {X:Cx}{K:Frag}{es:List Expr}{k:Nat}{t:TGs}{n:Nat}{pos:Pos}(hK:X.K=K)(hc:X.calm=true)(h:PGs X es t)(hn:(assignEach es X.env).length=n:=by rfl)(hst:(assignEach es X.env).findIdx? (·.1)=none:=by rfl):PG X (.Tuple es k pos) (CK2 K n t):=by
 subst hK
 exact BO9 hc h hn hst
end Bw
set_option maxHeartbeats 8000000
namespace Bw
open PySem L2 PySem.W
def tpl0 (n:Lean.Name):Option Nat:=match n with |.str .anonymous s=>if s.length==2&&s.front=='Z' then some ((s.get ⟨1⟩).toNat-48) else none |_=>none
def tpl1 (T:Array Lean.Syntax):Nat->Lean.Syntax->Lean.MacroM Lean.Syntax
 |0,s=>pure s
 |n+1,s=>s.replaceM fun t=>do
  let k:=t.getKind
  if k==``Lean.Parser.Tactic.«tacticExists_,,»||k==``Lean.Parser.Term.nomatch||k==``coeNotation then
   let a:=if k==``coeNotation then #[t[1]] else t[1].getSepArgs
   match a[0]!.isNatLit? with
   |some i=>do
    let b←T[i]!.replaceM fun u=>match u with |.ident _ _ m _=>pure ((tpl0 m).map fun j=>a[j+1]!) |_=>pure none
    if k==``Lean.Parser.Tactic.«tacticExists_,,» then
     let z:Lean.TSyntax ``Lean.Parser.Tactic.tacticSeq:=⟨b[1]⟩
     return some (←tpl1 T n (←`(tactic|($z))))
    else
     let z:Lean.Term:=⟨b⟩
     return some (←tpl1 T n (←`(($z))))
   |none=>pure none
  else pure none
local macro_rules
 |`(command| mutual $cs* end)=>do
  let mut T:=#[]
  let mut r:=#[]
  for c in cs do
   match c with
   |`(command| example:=$v)=>T:=T.push v.raw
   |_=>r:=r.push c.raw
  if T.size==0 then Lean.Macro.throwUnsupported
  return Lean.mkNullNode (←r.mapM (tpl1 T 9))
local macro_rules | `(tactic| walk_at "sc") => `(tactic| exact ⟨rfl,rfl,rfl,by decide +kernel,rfl,by decide +kernel,by decide +kernel⟩)
set_option hygiene false
local macro_rules | `(tactic| nofun) => `(tactic| exists and_self)
local macro_rules | `(tactic| exists $[$es:term],*) => `(tactic| try simp only [$[$es:term],*, BK3, CJ2, CD9, CA9, CL1, CL4, CL2, CL3, BA6, BT2, BT3, BA7, BA8, BK4, AA1, BA9, BK5, w_c, CJ3, CL5, CL6, BK6, CL7, BB0, w_b, BT4, CL8, w_not, BB1, BT5, BB2, CL9, AR8, BK7, BT6, BT7, AR9, CM0, CM1, CM2, BT8, BB3, CM8, BB4, AA2, BB5, w_K, AM4, CN0, BV1, AM5, AM6, BU5, AM7, AM8, AM9, CN4, BU6, BU7, BC2, BU8, BC3, AN0, AN1, BC7, BV0, BC8, AN3, BD0, BC9, AN4, AB7, AO3, BF1, BE4, AO5, BE9, AB0, AN9, AB3, BE1, BE3, CN1, AN6, AN5, Option.getD_some,  exists_const, false_or, or_false, exists_false, CM3, CM4, CM5, CM6, CM7, L2.start, List.map_cons, List.map_nil, List.length_cons, List.length_nil, List.replicate, List.replicate_zero, List.replicate_succ, Nat.reduceAdd, Nat.reduceSub, Nat.reduceLeDiff, List.cons_append, List.nil_append, List.append_nil, List.set_cons_zero, List.set_cons_succ, List.getElem?_cons_zero, List.getElem?_cons_succ, Option.some.injEq, V.int.injEq, V.bl.injEq, V.ref.injEq, V.str.injEq, V.ty.injEq, List.cons.injEq, and_true, true_and, exists_eq_left, exists_eq_left', exists_and_left, exists_eq, exists_eq', and_self, decide_eq_true_eq, Bool.not_eq_true', decide_eq_false_iff_not, Bool.true_eq_false, Bool.false_eq_true, if_true, if_false, ite_true, ite_false, false_and, and_false, and_assoc, reduceCtorEq])
theorem pc {X:Cx}{x:Str}{ps:List Str}{k j:Nat}{sp:Sp}{e:Expr}{es:List Expr}{t:TA}{p pos:Pos}(C:CalX X.prog X.w X.K X.mg X.base x ps k sp)(hr:Room j X.A)(hg:Gl X x)(ha:PA X (e::es) t)(hk:k<=j:=by decide)(hdb:(x == ("__debug__":Str))=false:=by decide)(h1:zH e=false:=by rfl)(h2:AH7 es=true:=by rfl):PE X (.Call (.Name x p) (e::es) [] pos) (AL7 sp [] E0 t):=kG C (hr.mono hk) hg ha hdb (aD _ _ _ h1) (aF h2)
local macro_rules | `(tactic| walk_at "ln") => `(tactic| (intro vs H Q E h; (repeat (obtain ⟨_, h⟩ := h)); all_goals (subst_vars; rfl)))
def top (i:Nat):Stmt:=PySem.Challenge.pw_bellsaway_k81_books_as_texts.main.body.getD i (.Pass ⟨0,0,0,0⟩)
abbrev bI:Stmt:=aI (top 11) 0
theorem jV:FnScope ["self","line"] ["self","line"] (aE bI):=by walk_at "sc"
abbrev sU:Stmt:=top 13
theorem AO9:FnScope ["thing"] ["thing"] (aE sU):=by walk_at "sc"
abbrev fJ:Stmt:=top 14
theorem pF:FnScope ["thing","least","most"] ["thing","least","most"] (aE fJ):=by walk_at "sc"
abbrev jC:Stmt:=top 15
theorem uV:FnScope ["thing","least"] ["thing","least"] (aE jC):=by walk_at "sc"
abbrev wT:Stmt:=top 19
theorem AW7:FnScope ["thing"] ["thing"] (aE wT):=by walk_at "sc"
abbrev fK:Stmt:=top 23
theorem pG:FnScope ["thing"] ["thing"] (aE fK):=by walk_at "sc"
abbrev nC:Stmt:=top 24
theorem AC1:FnScope ["word"] ["word"] (aE nC):=by walk_at "sc"
abbrev pH:Stmt:=top 25
theorem AI9:FnScope ["word"] ["word"] (aE pH):=by walk_at "sc"
abbrev hJ:Stmt:=aI (top 26) 0
theorem sV:FnScope ["self","text"] ["self","text"] (aE hJ):=by walk_at "sc"
abbrev hU:Stmt:=aI (top 26) 1
theorem sW:FnScope ["self"] ["self"] (aE hU):=by walk_at "sc"
abbrev nE:Stmt:=aI (top 26) 2
theorem AC2:FnScope ["self"] ["self"] (aE nE):=by walk_at "sc"
abbrev jW:Stmt:=aI (top 26) 3
theorem sc_Words_take:FnScope ["self","word"] ["self"] (aE jW):=by walk_at "sc"
abbrev lJ:Stmt:=aI (top 26) 4
theorem yA:FnScope ["self","word"] ["self","word"] (aE lJ):=by walk_at "sc"
abbrev kL:Stmt:=aI (top 26) 5
theorem wU:FnScope ["self","word"] ["self","word"] (aE kL):=by walk_at "sc"
abbrev fL:Stmt:=aI (top 26) 6
theorem pI:FnScope ["self"] ["self"] (aE fL):=by walk_at "sc"
abbrev eV:Stmt:=aI (top 26) 7
theorem sc_Words_take_number:FnScope ["self","word"] ["self"] (aE eV):=by walk_at "sc"
abbrev fM:Stmt:=aI (top 26) 8
theorem sc_Words_take_count:FnScope ["self","count"] ["self"] (aE fM):=by walk_at "sc"
abbrev gF:Stmt:=aI (top 26) 9
theorem sc_Words_take_name:FnScope ["self","word"] ["self"] (aE gF):=by walk_at "sc"
abbrev eW:Stmt:=aI (top 26) 10
theorem sc_Words_take_one_of:FnScope ["self","choices","word"] ["self","choices"] (aE eW):=by walk_at "sc"
abbrev fN:Stmt:=aI (top 26) 11
theorem sc_Words_take_names:FnScope ["self","names"] ["self"] (aE fN):=by walk_at "sc"
abbrev gG:Stmt:=aI (top 26) 12
theorem sc_Words_take_some:FnScope ["self","count","some"] ["self","count"] (aE gG):=by walk_at "sc"
abbrev gH:Stmt:=aI (top 26) 13
theorem qS:FnScope ["self"] ["self"] (aE gH):=by walk_at "sc"
abbrev jD:Stmt:=aI (top 30) 0
theorem uW:FnScope ["self","names"] ["self","names"] (aE jD):=by walk_at "sc"
abbrev hV:Stmt:=aI (top 31) 0
theorem sX:FnScope ["self","names"] ["self","names"] (aE hV):=by walk_at "sc"
abbrev hW:Stmt:=aI (top 32) 0
theorem sY:FnScope ["self","weight"] ["self","weight"] (aE hW):=by walk_at "sc"
abbrev kM:Stmt:=aI (top 33) 0
theorem wV:FnScope ["self","fit"] ["self","fit"] (aE kM):=by walk_at "sc"
abbrev jE:Stmt:=aI (top 34) 0
theorem uX:FnScope ["self","fits"] ["self","fits"] (aE jE):=by walk_at "sc"
abbrev gI:Stmt:=aI (top 35) 0
theorem qT:FnScope ["self","fits"] ["self","fits"] (aE gI):=by walk_at "sc"
abbrev lK:Stmt:=top 36
theorem yB:FnScope ["names"] ["names"] (aE lK):=by walk_at "sc"
abbrev pJ:Stmt:=top 37
theorem AJ0:FnScope ["fit"] ["fit"] (aE pJ):=by walk_at "sc"
abbrev nG:Stmt:=top 38
theorem sc_check_fits:FnScope ["fits","fit"] ["fits"] (aE nG):=by walk_at "sc"
abbrev fO:Stmt:=top 42
theorem pK:FnScope ["thing"] ["thing"] (aE fO):=by walk_at "sc"
abbrev hX:Stmt:=top 43
theorem sZ:FnScope ["thing"] ["thing"] (aE hX):=by walk_at "sc"
abbrev nI:Stmt:=top 44
theorem AC3:FnScope ["zone"] ["zone"] (aE nI):=by walk_at "sc"
abbrev lL:Stmt:=top 45
theorem yC:FnScope ["quiet"] ["quiet"] (aE lL):=by walk_at "sc"
abbrev dW:Stmt:=top 46
theorem lM:FnScope ["minute"] ["minute"] (aE dW):=by walk_at "sc"
abbrev eF:Stmt:=top 47
theorem mQ:FnScope ["minute"] ["minute"] (aE eF):=by walk_at "sc"
abbrev jF:Stmt:=aI (top 51) 0
theorem uY:FnScope ["self","minute"] ["self","minute"] (aE jF):=by walk_at "sc"
abbrev kN:Stmt:=aI (top 52) 0
theorem wW:FnScope ["self","minute"] ["self","minute"] (aE kN):=by walk_at "sc"
abbrev bR:Stmt:=aI (top 55) 0
theorem qU:FnScope ["self","minutes","times","to"] ["self","minutes","times","to"] (aE bR):=by walk_at "sc"
abbrev bO:Stmt:=aI (top 56) 0
theorem uZ:FnScope ["self","fit","way","roads","sure","raised"] ["self","fit","way","roads","sure","raised"] (aE bO):=by walk_at "sc"
abbrev kO:Stmt:=top 57
theorem wX:FnScope ["way","roads","sure","raised"] ["way","roads","sure","raised"] (aE kO):=by walk_at "sc"
abbrev bS:Stmt:=aI (top 58) 0
theorem qV:FnScope ["self","zone","quiet","wake","lines"] ["self","zone","quiet","wake","lines"] (aE bS):=by walk_at "sc"
abbrev nJ:Stmt:=top 59
theorem AC4:FnScope ["wake","quiet"] ["wake","quiet"] (aE nJ):=by walk_at "sc"
abbrev lN:Stmt:=top 60
theorem yD:FnScope ["lines"] ["lines"] (aE lN):=by walk_at "sc"
abbrev lO:Stmt:=top 62
theorem yE:FnScope ["text"] ["text"] (aE lO):=by walk_at "sc"
abbrev nK:Stmt:=top 63
theorem sc_read_whole:FnScope ["text","part_from","words","found"] ["text","part_from"] (aE nK):=by walk_at "sc"
abbrev gJ:Stmt:=aI (top 64) 0
theorem qW:FnScope ["self","sign"] ["self","sign"] (aE gJ):=by walk_at "sc"
abbrev tD:Stmt:=top 65
theorem sc_fit_from:FnScope ["words","opened","fit"] ["words"] (aE tD):=by walk_at "sc"
abbrev hZ:Stmt:=top 66
theorem sc_plain_fit_from:FnScope ["words","opened","word"] ["words","opened"] (aE hZ):=by walk_at "sc"
abbrev AC5:Stmt:=top 67
theorem sc_closed:FnScope ["fit","words","opened","last"] ["fit","words","opened"] (aE AC5):=by walk_at "sc"
abbrev iA:Stmt:=top 68
theorem sc_is_closed_here:FnScope ["bracket","words","word"] ["bracket","words"] (aE iA):=by walk_at "sc"
abbrev AC6:Stmt:=top 69
theorem BG6:FnScope ["opened"] ["opened"] (aE AC6):=by walk_at "sc"
abbrev tE:Stmt:=top 70
theorem sc_way_from:FnScope ["words","word"] ["words"] (aE tE):=by walk_at "sc"
abbrev lP:Stmt:=top 71
theorem sc_raised_from:FnScope ["words","minutes","times","to"] ["words"] (aE lP):=by walk_at "sc"
abbrev cF:Stmt:=top 72
theorem sc_line_from_wording:FnScope ["words","fit","way","roads","sure","raised"] ["words"] (aE cF):=by walk_at "sc"
abbrev lQ:Stmt:=top 74
theorem sc_wishes_from:FnScope ["words","zone","quiet","wake","more","start","lines"] ["words"] (aE lQ):=by walk_at "sc"
abbrev lR:Stmt:=top 76
theorem yF:FnScope ["stamps"] ["stamps"] (aE lR):=by walk_at "sc"
abbrev nL:Stmt:=top 77
theorem AC7:FnScope ["parts"] ["parts"] (aE nL):=by walk_at "sc"
abbrev pL:Stmt:=top 78
theorem AJ1:FnScope ["lines"] ["lines"] (aE pL):=by walk_at "sc"
abbrev pM:Stmt:=top 79
theorem sc_read_book:FnScope ["text","rows","lines","number","row","line"] ["text"] (aE pM):=by walk_at "sc"
abbrev gK:Stmt:=top 80
theorem sc_read_whole_line:FnScope ["text","part_from","words","line"] ["text","part_from"] (aE gK):=by walk_at "sc"
abbrev cR:Stmt:=top 81
theorem qX:FnScope ["words"] ["words"] (aE cR):=by walk_at "sc"
abbrev tF:Stmt:=top 83
theorem sc_try_from:FnScope ["words","moment","hand","word","road","stamps"] ["words"] (aE tF):=by walk_at "sc"
abbrev nM:Stmt:=top 84
theorem sc_stamp_from:FnScope ["words","parts","stamp"] ["words"] (aE nM):=by walk_at "sc"
abbrev tG:Stmt:=top 85
theorem sc_row_from:FnScope ["words","word"] ["words"] (aE tG):=by walk_at "sc"
abbrev fP:Stmt:=top 86
theorem sc_wishes_text_from:FnScope ["words","text"] ["words"] (aE fP):=by walk_at "sc"
abbrev lS:Stmt:=top 88
theorem yG:FnScope ["_law_script","_law_k"] ["_law_script","_law_k"] (aE lS):=by walk_at "sc"
abbrev pN:Stmt:=top 89
theorem AJ2:FnScope ["_law_cell"] ["_law_cell"] (aE pN):=by walk_at "sc"
abbrev tH:Stmt:=top 90
theorem sc_law_next:FnScope ["_law_state","_law_base","_law_found","_law_number_here"] ["_law_state","_law_base"] (aE tH):=by walk_at "sc"
abbrev tI:Stmt:=top 91
theorem sc_law_name:FnScope ["_law_state","_law_letters","_law_way","_law_some","_law_word","_law_at"] ["_law_state"] (aE tI):=by walk_at "sc"
abbrev wY:Stmt:=top 92
theorem sc_law_fit:FnScope ["_law_state","_law_some"] ["_law_state"] (aE wY):=by walk_at "sc"
abbrev tJ:Stmt:=top 93
theorem sc_law_line:FnScope ["_law_state","_law_way","_law_word","_law_roads","_law_many","_law_found","_law_minutes"] ["_law_state"] (aE tJ):=by walk_at "sc"
abbrev nN:Stmt:=top 94
theorem sc_law_wishes:FnScope ["_law_state","_law_parts","_law_start"] ["_law_state"] (aE nN):=by walk_at "sc"
abbrev nO:Stmt:=top 95
theorem sc_law_moment:FnScope ["_law_state","_law_far"] ["_law_state"] (aE nO):=by walk_at "sc"
abbrev nP:Stmt:=top 96
theorem AC8:FnScope ["_law_state"] ["_law_state"] (aE nP):=by walk_at "sc"
abbrev wZ:Stmt:=top 97
theorem sc_law_row:FnScope ["_law_state","_law_kind","_law_moment_here","_law_name_here","_law_stamps"] ["_law_state","_law_kind"] (aE wZ):=by walk_at "sc"
abbrev tK:Stmt:=top 98
theorem sc_law_text:FnScope ["_law_line_here","_law_words"] ["_law_line_here"] (aE tK):=by walk_at "sc"
abbrev nQ:Stmt:=top 99
theorem AC9:FnScope ["_law_thing"] ["_law_thing"] (aE nQ):=by walk_at "sc"
abbrev AW8:Stmt:=top 100
theorem sc_law:FnScope ["_law_script","_law_lines","_law_cell","_law_state","_law_text_here","_law_handed","_law_found","_law_told"] ["_law_script"] (aE AW8):=by walk_at "sc"
structure Ad where
 BellError:Addr
 NoClock:Addr
 NoFit:Addr
 NoWish:Addr
 NoText:Addr
 Words:Addr
 Fit:Addr
 Any:Addr
 Kind:Addr
 Place:Addr
 Least:Addr
 Not:Addr
 Both:Addr
 Either:Addr
 Way:Addr
 Now:Addr
 Hour:Addr
 Day:Addr
 Never:Addr
 Raised:Addr
 Line:Addr
 Wishes:Addr
 Opened:Addr
 wishes_from:Addr
 line_from_texts:Addr
 t0:Tok
 t1:Tok
 t2:Tok
 t3:Tok
 t4:Tok
 t5:Tok
 t6:Tok
 t7:Tok
 t8:Tok
 t9:Tok
 t10:Tok
structure Bt (K:Frag) (mg:Str->Option Value) (a:Ad):Prop where
 len:mg "len"=none
 int:mg "int"=none
 bool:mg "bool"=none
 str:mg "str"=none
 tuple:mg "tuple"=none
 list:mg "list"=none
 all:mg "all"=none
 isinstance:mg "isinstance"=none
 range:mg "range"=none
 set:mg "set"=none
 enumerate:mg "enumerate"=none
 LETTERS:mg "LETTERS"=some (.str "abcdefghijklmnopqrstuvwxyz" a.t0)
 MOST_LETTERS:mg "MOST_LETTERS"=some (.int 8 a.t1)
 FIGURES:mg "FIGURES"=some (.str "0123456789" a.t2)
 MOST_FIGURES:mg "MOST_FIGURES"=some (.int 60 a.t3)
 MINUTES_OF_HOUR:mg "MINUTES_OF_HOUR"=some (.int 60 a.t4)
 MINUTES_OF_DAY:mg "MINUTES_OF_DAY"=some (.int 1440 a.t5)
 BELL:mg "BELL"=some (.str "bell" a.t6)
 OFF:mg "OFF"=some (.str "off" a.t7)
 TOOK:mg "TOOK"=some (.str "took" a.t8)
 NOT:mg "NOT"=some (.str "not" a.t9)
 PERHAPS:mg "PERHAPS"=some (.str "perhaps" a.t10)
 BellError:mg "BellError"=some (.ref a.BellError)
 NoClock:mg "NoClock"=some (.ref a.NoClock)
 NoFit:mg "NoFit"=some (.ref a.NoFit)
 NoWish:mg "NoWish"=some (.ref a.NoWish)
 NoText:mg "NoText"=some (.ref a.NoText)
 Words:mg "Words"=some (.ref a.Words)
 Fit:mg "Fit"=some (.ref a.Fit)
 Any:mg "Any"=some (.ref a.Any)
 Kind:mg "Kind"=some (.ref a.Kind)
 Place:mg "Place"=some (.ref a.Place)
 Least:mg "Least"=some (.ref a.Least)
 Not:mg "Not"=some (.ref a.Not)
 Both:mg "Both"=some (.ref a.Both)
 Either:mg "Either"=some (.ref a.Either)
 Way:mg "Way"=some (.ref a.Way)
 Now:mg "Now"=some (.ref a.Now)
 Hour:mg "Hour"=some (.ref a.Hour)
 Day:mg "Day"=some (.ref a.Day)
 Never:mg "Never"=some (.ref a.Never)
 Raised:mg "Raised"=some (.ref a.Raised)
 Line:mg "Line"=some (.ref a.Line)
 Wishes:mg "Wishes"=some (.ref a.Wishes)
 Opened:mg "Opened"=some (.ref a.Opened)
 wishes_from:mg "wishes_from"=some (.ref a.wishes_from)
 line_from_texts:mg "line_from_texts"=some (.ref a.line_from_texts)
 excK_NoText:ExcK K a.NoText
 exc_NoFit:excIn K a.NoFit vbm "ValueError.__new__"=true
 exm_NoFit:exmOne K (.ref a.NoFit) (.ref a.BellError)=some true
 exm_NoText:exmOne K (.ref a.NoText) (.ref a.BellError)=some true
 xhd:hasDictIn K a.NoText=true
 xmo:mroIn K a.NoText (.type "object")=some true
 xna:NoAttr K a.NoText "line"
 xs:∃ cd,ExcS K a.NoText cd
 ck_Any:ClsK K a.Any
 ck_Kind:ClsK K a.Kind
 na_Kind_names:NoAttr K a.Kind "names"
 ck_Place:ClsK K a.Place
 na_Place_names:NoAttr K a.Place "names"
 ck_Least:ClsK K a.Least
 na_Least_weight:NoAttr K a.Least "weight"
 ck_Not:ClsK K a.Not
 na_Not_fit:NoAttr K a.Not "fit"
 ck_Both:ClsK K a.Both
 na_Both_fits:NoAttr K a.Both "fits"
 ck_Either:ClsK K a.Either
 na_Either_fits:NoAttr K a.Either "fits"
 ck_Words:ClsK K a.Words
 na_Words_words:NoAttr K a.Words "words"
 na_Words_at:NoAttr K a.Words "at"
 ck_Opened:ClsK K a.Opened
 na_Opened_sign:NoAttr K a.Opened "sign"
 na_Opened_inner:NoAttr K a.Opened "inner"
 is_Any_Fit:kitOne K (.ref a.Any) (.ref a.Fit)=some true
 is_Kind_Fit:kitOne K (.ref a.Kind) (.ref a.Fit)=some true
 is_Place_Fit:kitOne K (.ref a.Place) (.ref a.Fit)=some true
 is_Least_Fit:kitOne K (.ref a.Least) (.ref a.Fit)=some true
 is_Not_Fit:kitOne K (.ref a.Not) (.ref a.Fit)=some true
 is_Both_Fit:kitOne K (.ref a.Both) (.ref a.Fit)=some true
 is_Either_Fit:kitOne K (.ref a.Either) (.ref a.Fit)=some true
 mk_Any:MkN K a.Any
 exc_NoClock:excIn K a.NoClock vbm "ValueError.__new__"=true
 exm_NoClock:exmOne K (.ref a.NoClock) (.ref a.BellError)=some true
 exc_NoWish:excIn K a.NoWish vbm "ValueError.__new__"=true
 exm_NoWish:exmOne K (.ref a.NoWish) (.ref a.BellError)=some true
 exm_Self:exmOne K (.ref a.NoText) (.ref a.NoText)=some true
 ck_Now:ClsK K a.Now
 ck_Hour:ClsK K a.Hour
 na_Hour_minute:NoAttr K a.Hour "minute"
 ck_Day:ClsK K a.Day
 na_Day_minute:NoAttr K a.Day "minute"
 ck_Never:ClsK K a.Never
 ck_Raised:ClsK K a.Raised
 na_Raised_minutes:NoAttr K a.Raised "minutes"
 na_Raised_times:NoAttr K a.Raised "times"
 na_Raised_to:NoAttr K a.Raised "to"
 ck_Line:ClsK K a.Line
 na_Line_fit:NoAttr K a.Line "fit"
 na_Line_way:NoAttr K a.Line "way"
 na_Line_roads:NoAttr K a.Line "roads"
 na_Line_sure:NoAttr K a.Line "sure"
 na_Line_raised:NoAttr K a.Line "raised"
 ck_Wishes:ClsK K a.Wishes
 na_Wishes_zone:NoAttr K a.Wishes "zone"
 na_Wishes_quiet:NoAttr K a.Wishes "quiet"
 na_Wishes_wake:NoAttr K a.Wishes "wake"
 na_Wishes_lines:NoAttr K a.Wishes "lines"
 is_Now_Way:kitOne K (.ref a.Now) (.ref a.Way)=some true
 is_Now_Never:kitOne K (.ref a.Now) (.ref a.Never)=some false
 is_Hour_Way:kitOne K (.ref a.Hour) (.ref a.Way)=some true
 is_Hour_Never:kitOne K (.ref a.Hour) (.ref a.Never)=some false
 is_Day_Way:kitOne K (.ref a.Day) (.ref a.Way)=some true
 is_Day_Never:kitOne K (.ref a.Day) (.ref a.Never)=some false
 is_Never_Way:kitOne K (.ref a.Never) (.ref a.Way)=some true
 is_Never_Never:kitOne K (.ref a.Never) (.ref a.Never)=some true
 is_Raised_Raised:kitOne K (.ref a.Raised) (.ref a.Raised)=some true
 is_Line_Line:kitOne K (.ref a.Line) (.ref a.Line)=some true
 mk_Now:MkN K a.Now
 mk_Never:MkN K a.Never
def okI (K:Frag)(H:Hp)(x:V):Prop:=∃ t,TyOf K H x t/\kitOne K t (.type "int")=some (BP6 x)/\kitOne K t (.type "bool")=some (BA5 x)
def okK (K:Frag)(c:Value)(H:Hp)(x:V)(b:Bool):Prop:=∃ t,TyOf K H x t/\kitOne K t c=some b
abbrev noL (K:Frag)(H:Hp)(x:V):Prop:=∃ t,TyOf K H x t/\kitOne K t (.type "list")=some false
def AY6:V->Str
 | .str u=>u
 | _=>Str.empty
def qY (xs:List V):Bool:=xs.all iL && decide ((xs.map AY6).Nodup)
theorem BG7 {x:V}(h:iL x=true):x=.str (AY6 x):=by cases x <;> first | rfl | cases h
theorem BG8:∀ {xs:List V},xs.all iL=true->xs=(xs.map AY6).map V.str
 | [],_=>rfl
 | x::xs,h=>by
  simp only [List.all_cons,Bool.and_eq_true] at h
  rw [List.map_cons,List.map_cons,<- BG7 h.1,<- BG8 h.2]
def CS4 (K:Frag)(H:Hp)(x:V)(b:Bool):Prop:=(∃ p xs,x=.ref p/\H p=some (.lst xs)/\xs.length<=1000/\(∀ y∈xs,okN H y)/\b=qY xs)\/(b=false/\noL K H x)
theorem gS {k:Str}{v:V}:∀ {fs:List (Str × V)},(∀ q∈fs,q.1≠k)->oO k v fs=fs++[(k,v)]
 | [],_=>rfl
 | (k0,v0)::fs,h=>by
  show (if k0=k then _ else _:List (Str × V))=_
  rw [if_neg (h (k0,v0) List.mem_cons_self),gS fun q hq=>h q (List.mem_cons_of_mem _ hq)]
  rfl
def BY3 (t:TS):TS:=t
theorem BR4 {t:TS}{D:Ends}{σ:L2.St}{H:Hp}:BY3 t D σ H=t D σ H:=rfl
theorem jX {t:TE}{nx:L2.St->Hp->Prop}{rt:VK}{bk ct:L2.St->Hp->Prop}{σ:L2.St}{H:Hp}(h:t σ H rt):BY3 (CI9 t) { nx:=nx,rt:=rt,bk:=bk,ct:=ct } σ H:=h
local macro_rules | `(tactic| walk_at "ho") => `(tactic| (first | rw [BR4] | (dsimp only; rw [BR4])))
theorem bG {X:Cx}{b:List Stmt}{t:TS}(h:QSs X b t):QSs X b (BY3 t):=h
theorem eA {H H':Hp}{x dx:Addr}{o o':HO}(hx:H x=none)(hd:H dx=none)(b:But x (upd (upd H dx o) x o') H'):Same H H':=fun c u e=>b c u (aQ e hx) (bT hx hd c u e)
abbrev fc (a:Ad):FC:=⟨a.Any,a.Kind,a.Place,a.Least,a.Not,a.Both,a.Either⟩
def IsX (a:Ad)(cls:Value):Prop:=cls=.ref a.NoFit\/cls=.ref a.NoText
def FrOk (k i:Nat)(f:OF):Prop:=((f.sg="not"/\f.inn=[])\/(f.sg="("/\f.inn=[])\/((f.sg="&"\/f.sg="|")/\f.inn≠[]))/\f.inn.length+k<=i
def mkF (sg:Str)(inn:List Tr):Option Tr:=if sg="not" then inn.head?.map Tr.not else if sg="&" then some (.both (Trs.ofL inn)) else if sg="|" then some (.either (Trs.ofL inn)) else none
def yH (wp:Addr)(H:Hp):Nat:=match H wp with
 | some (.ins _ _ fs)=>(match fs.lookup ("at":Str) with | some (.int i)=>i.toNat | _=>0)
 | _=>0
theorem qZ {C:Addr}{H:Hp}{wp dw wl:Addr}{ts:List Str}{i:Nat}(h:WAt C H wp dw wl ts i):yH wp H=i:=by
 unfold yH
 rw [h.w]
 show (i:Int).toNat=i
 omega
def AP0 (op:Addr)(H:Hp):Nat:=match H op with
 | some (.lst xs)=>xs.length
 | _=>0
theorem BR5 {H:Hp}{op:Addr}{xs:List V}(h:H op=some (.lst xs)):AP0 op H=xs.length:=by unfold AP0; rw [h]
theorem AD0 {H:Hp}{u:Str}(h:gY u):okN H (.str u):=⟨h.1,by have:=h.2.1; omega⟩
def IsL (a:Ad)(cls:Value):Prop:=IsX a cls\/cls=.ref a.NoClock\/cls=.ref a.NoWish
def lFs (f y r s z:V):List (Str × V):=[("fit",f),("way",y),("roads",r),("sure",s),("raised",z)]
def CG8 (a:Ad)(k:Nat):Addr:=if k=0 then a.Now else if k=1 then a.Hour else if k=2 then a.Day else a.Never
def wFs (k:Nat)(m:Int):List (Str × V):=if k=1\/k=2 then [("minute",.int m)] else []
def WyIs (a:Ad)(H:Hp)(v:V)(k:Nat)(m:Int):Prop:=∃ q d,v=.ref q/\H q=some (.ins (CG8 a k) d (wFs k m))/\k<=3
def toV:Option Str->V
 | none=>.non
 | some u=>.str u
def RaIs (a:Ad)(H:Hp)(v:V):Option (Int × Int × Option Str)->Prop
 | none=>v=.non
 | some x=>∃ q d,v=.ref q/\H q=some (.ins a.Raised d [("minutes",.int x.1),("times",.int x.2.1),("to",toV x.2.2)])
structure LnIs (a:Ad) (H:Hp) (v:V) (t:Tr) (L:Ln):Prop where
 ex:∃ p d fv wv l rv,v=.ref p/\H p=some (.ins a.Line d (lFs fv wv (.ref l) (.bl L.su) rv))/\t.Fit (fc a) H fv/\WyIs a H wv L.k L.m/\H l=some (.lst (L.rs.map V.str))/\RaIs a H rv L.ra
theorem WyIs.same {a:Ad}{H H':Hp}{v:V}{k:Nat}{m:Int}(h:WyIs a H v k m)(S:Same H H'):WyIs a H' v k m:=by
 obtain ⟨q,d,e,h,z⟩:=h
 exact ⟨q,d,e,S _ _ h,z⟩
theorem RaIs.same {a:Ad}{H H':Hp}{v:V}{x:Option (Int × Int × Option Str)}(h:RaIs a H v x)(S:Same H H'):RaIs a H' v x:=by
 cases x with
 | none=>exact h
 | some x =>
  obtain ⟨q,d,e,h⟩:=h
  exact ⟨q,d,e,S _ _ h⟩
abbrev jY (K:Frag)(a:Ad):Sp:=zM a.NoText "line"
def pO (K:Frag)(a:Ad):Sp:=fun vs H Q E=>∃ x,vs=[x]/\okI K H x/\Q (.bl (AT0 x)) H
def dP (K:Frag)(a:Ad):Sp:=fun vs H Q E=>∃ x lo hi,vs=[x,.int lo,.int hi]/\okI K H x/\Q (.bl (mY x lo hi)) H
def eQ (K:Frag)(a:Ad):Sp:=fun vs H Q E=>∃ x lo,vs=[x,.int lo]/\okI K H x/\Q (.bl (AA6 x lo)) H
def iR (K:Frag)(a:Ad):Sp:=fun vs H Q E=>∃ x,vs=[x]/\okN H x/\∀ H',Same H H'->Q (.bl (iL x)) H'
def eX (K:Frag)(a:Ad):Sp:=fun vs H Q E=>∃ (x:V) (b:Bool),vs=[x]/\CS4 K H x b/\∀ H',Same H H'->Q (.bl b) H'
def rA (K:Frag)(a:Ad):Sp:=fun vs H Q E=>∃ (u:Str),vs=[.str u]/\eN u=true/\u.length<=1000/\∀ H',Same H H'->Q (.bl (AI2 u)) H'
def uP (K:Frag)(a:Ad):Sp:=fun vs H Q E=>∃ (u:Str),vs=[.str u]/\eN u=true/\u.length<=1000/\∀ H',Same H H'->Q (.bl (kI u)) H'
def dG (K:Frag)(a:Ad):Sp:=fun vs H Q E=>∃ (p dx:Addr) (x:V),vs=[.ref p,x]/\H p=some (.ins a.Words dx [])/\((∃ u,x=.str u/\u.length<=200000/\(Txt.split u sp1).length<=1000/\∀ wl H',H wl=none->But p H H'->WAt a.Words H' p dx wl (Txt.split u sp1) 0->Q .non H')\/(okK K (.type "str") H x false/\∀ y H',Same H H'->H' y=some (.xd [("line",.int 0)])->E (.ref a.NoText) (some y) H'))
def kZ (K:Frag)(a:Ad):Sp:=fun vs H Q E=>∃ (wp dw wl:Addr) (ts:List Str) (i:Nat),vs=[.ref wp]/\WAt a.Words H wp dw wl ts i/\Q (.bl (decide ((i:Int)=(ts.length:Int)))) H
def rB (K:Frag)(a:Ad):Sp:=fun vs H Q E=>∃ (wp dw wl:Addr) (ts:List Str) (i:Nat),vs=[.ref wp]/\WAt a.Words H wp dw wl ts i/\Q (.str (ts.getD i "")) H
def lU (K:Frag)(a:Ad):Sp:=fun vs H Q E=>∃ (wp dw wl:Addr) (ts:List Str) (i:Nat),vs=[.ref wp]/\WAt a.Words H wp dw wl ts i/\Q (.str (ts.getD i "")) (upd H wp (.ins a.Words dw (bF wl (i+1))))
def oT (K:Frag)(a:Ad):Sp:=fun vs H Q E=>∃ (wp dw wl:Addr) (ts:List Str) (i:Nat) (wd:Str),vs=[.ref wp,.str wd]/\WAt a.Words H wp dw wl ts i/\((ts.getD i ""=wd/\Q (.bl true) (upd H wp (.ins a.Words dw (bF wl (i+1)))))\/(ts.getD i ""≠wd/\Q (.bl false) H))
def nR (K:Frag)(a:Ad):Sp:=fun vs H Q E=>∃ (wp dw wl:Addr) (ts:List Str) (i:Nat) (wd:Str),vs=[.ref wp,.str wd]/\WAt a.Words H wp dw wl ts i/\((ts.getD i ""=wd/\Q .non (upd H wp (.ins a.Words dw (bF wl (i+1)))))\/(ts.getD i ""≠wd/\∀ y H',Same H H'->E (.ref a.NoText) (some y) H'))
def jG (K:Frag)(a:Ad):Sp:=fun vs H Q E=>∃ (wp dw wl:Addr) (ts:List Str) (i:Nat),vs=[.ref wp]/\WAt a.Words H wp dw wl ts i/\((i=ts.length/\Q .non H)\/(i≠ts.length/\∀ y H',Same H H'->H' y=some (.xd [("line",.int 0)])->E (.ref a.NoText) (some y) H'))
def iI (K:Frag)(a:Ad):Sp:=fun vs H Q E=>∃ (wp dw wl:Addr) (ts:List Str) (i:Nat),vs=[.ref wp]/\WAt a.Words H wp dw wl ts i/\gY (ts.getD i "")/\((kI (ts.getD i "")=true/\∀ H',But wp H H'->WAt a.Words H' wp dw wl ts (i+1)->Q (.int (dH (ts.getD i ""))) H')\/(kI (ts.getD i "")=false/\∀ y H',But wp H H'->E (.ref a.NoText) (some y) H'))
def jH (K:Frag)(a:Ad):Sp:=fun vs H Q E=>∃ (wp dw wl:Addr) (ts:List Str) (i:Nat),vs=[.ref wp]/\WAt a.Words H wp dw wl ts i/\gY (ts.getD i "")/\((BX3 (ts.getD i "")=true/\∀ H',But wp H H'->WAt a.Words H' wp dw wl ts (i+1)->Q (.int (dH (ts.getD i ""))) H')\/(BX3 (ts.getD i "")=false/\∀ y H',But wp H H'->E (.ref a.NoText) (some y) H'))
def jZ (K:Frag)(a:Ad):Sp:=fun vs H Q E=>∃ (wp dw wl:Addr) (ts:List Str) (i:Nat),vs=[.ref wp]/\WAt a.Words H wp dw wl ts i/\gY (ts.getD i "")/\((nmB (ts.getD i "")=true/\∀ H',But wp H H'->WAt a.Words H' wp dw wl ts (i+1)->Q (.str (ts.getD i "")) H')\/(nmB (ts.getD i "")=false/\∀ y H',But wp H H'->E (.ref a.NoText) (some y) H'))
def iJ (K:Frag)(a:Ad):Sp:=fun vs H Q E=>∃ (wp dw wl:Addr) (ts:List Str) (i:Nat) (c:Addr) (us:List Str),vs=[.ref wp,.ref c]/\WAt a.Words H wp dw wl ts i/\H c=some (.tup (us.map V.str))/\us.length<=10/\((decide (ts.getD i ""∈us)=true/\∀ H',But wp H H'->WAt a.Words H' wp dw wl ts (i+1)->Q (.str (ts.getD i "")) H')\/(decide (ts.getD i ""∈us)=false/\∀ y H',But wp H H'->E (.ref a.NoText) (some y) H'))
def jI (K:Frag)(a:Ad):Sp:=fun vs H Q E=>∃ (wp dw wl:Addr) (ts:List Str) (i:Nat),vs=[.ref wp]/\WAt a.Words H wp dw wl ts i/\(∀ x∈ts,gY x)/\ts.length<=1000/\∀ l H',But wp H H'->H l=none->H' l=some (.lst (((ts.drop i).takeWhile fun u=>decide (aZ u)).map V.str))->WAt a.Words H' wp dw wl ts (i+((ts.drop i).takeWhile fun u=>decide (aZ u)).length)->Q (.ref l) H'
def fQ (K:Frag)(a:Ad):Sp:=fun vs H Q E=>∃ (wp dw wl:Addr) (ts:List Str) (i:Nat) (n:Int),vs=[.ref wp,.int n]/\WAt a.Words H wp dw wl ts i/\i<=ts.length/\ts.length<=1000/\(((0<=n/\n<=((ts.length - i:Nat):Int))/\∀ l H',But wp H H'->H l=none->H' l=some (.lst (((ts.drop i).take n.toNat).map V.str))->WAt a.Words H' wp dw wl ts (i+n.toNat)->Q (.ref l) H')\/(¬ (0<=n/\n<=((ts.length - i:Nat):Int))/\∀ y H',Same H H'->E (.ref a.NoText) (some y) H'))
def kA (K:Frag)(a:Ad):Sp:=fun vs H Q E=>∃ (wp dw wl:Addr) (ts:List Str) (i:Nat),vs=[.ref wp]/\WAt a.Words H wp dw wl ts i/\i<=ts.length/\ts.length<=1000/\∀ l H',But wp H H'->H l=none->H' l=some (.lst ((ts.drop i).map V.str))->WAt a.Words H' wp dw wl ts ts.length->Q (.ref l) H'
def iB (K:Frag)(a:Ad):Sp:=fun vs H Q E=>∃ (p dx l:Addr) (us:List Str),vs=[.ref p,.ref l]/\H p=some (.ins a.Kind dx [])/\H l=some (.lst (us.map V.str))/\((∀ u∈us,aZ u)/\us.length<=1000)/\(((us≠[]/\us.Nodup)/\∀ l' H',But p H H'->H l'=none->H' l'=some (.lst (us.map V.str))->H' p=some (.ins a.Kind dx [("names",.ref l')])->Q .non H')\/(¬ (us≠[]/\us.Nodup)/\∀ H',Same H H'->E (.ref a.NoFit) none H'))
def gL (K:Frag)(a:Ad):Sp:=fun vs H Q E=>∃ (p dx l:Addr) (us:List Str),vs=[.ref p,.ref l]/\H p=some (.ins a.Place dx [])/\H l=some (.lst (us.map V.str))/\((∀ u∈us,aZ u)/\us.length<=1000)/\(((us≠[]/\us.Nodup)/\∀ l' H',But p H H'->H l'=none->H' l'=some (.lst (us.map V.str))->H' p=some (.ins a.Place dx [("names",.ref l')])->Q .non H')\/(¬ (us≠[]/\us.Nodup)/\∀ H',Same H H'->E (.ref a.NoFit) none H'))
def gM (K:Frag)(a:Ad):Sp:=fun vs H Q E=>∃ (p dx:Addr) (n:Int),vs=[.ref p,.int n]/\H p=some (.ins a.Least dx [])/\((0<=n/\Q .non (upd H p (.ins a.Least dx [("weight",.int n)])))\/(¬ 0<=n/\E (.ref a.NoFit) none H))
def jJ (K:Frag)(a:Ad):Sp:=fun vs H Q E=>∃ (p dx:Addr) (v:V) (t:Tr),vs=[.ref p,v]/\H p=some (.ins a.Not dx [])/\t.Fit (fc a) H v/\Q .non (upd H p (.ins a.Not dx [("fit",v)]))
def iC (K:Frag)(a:Ad):Sp:=fun vs H Q E=>∃ (p dx l:Addr) (xs:List V) (ts:List Tr),vs=[.ref p,.ref l]/\H p=some (.ins a.Both dx [])/\H l=some (.lst xs)/\All2 (Tr.Fit (fc a) H) ts xs/\2<=xs.length/\xs.length<=1000/\∀ l' H',But p H H'->H l'=none->H' l'=some (.lst xs)->H' p=some (.ins a.Both dx [("fits",.ref l')])->Q .non H'
def fR (K:Frag)(a:Ad):Sp:=fun vs H Q E=>∃ (p dx l:Addr) (xs:List V) (ts:List Tr),vs=[.ref p,.ref l]/\H p=some (.ins a.Either dx [])/\H l=some (.lst xs)/\All2 (Tr.Fit (fc a) H) ts xs/\2<=xs.length/\xs.length<=1000/\∀ l' H',But p H H'->H l'=none->H' l'=some (.lst xs)->H' p=some (.ins a.Either dx [("fits",.ref l')])->Q .non H'
def kP (K:Frag)(a:Ad):Sp:=fun vs H Q E=>∃ (l:Addr) (us:List Str),vs=[.ref l]/\H l=some (.lst (us.map V.str))/\((∀ u∈us,aZ u)/\us.length<=1000)/\(((us≠[]/\us.Nodup)/\∀ H',Same H H'->Q .non H')\/(¬ (us≠[]/\us.Nodup)/\∀ H',Same H H'->E (.ref a.NoFit) none H'))
def nS (K:Frag)(a:Ad):Sp:=fun vs H Q E=>∃ (v:V) (t:Tr),vs=[v]/\t.Fit (fc a) H v/\Q .non H
def lV (K:Frag)(a:Ad):Sp:=fun vs H Q E=>∃ (l:Addr) (xs:List V) (ts:List Tr),vs=[.ref l]/\H l=some (.lst xs)/\All2 (Tr.Fit (fc a) H) ts xs/\2<=xs.length/\xs.length<=1000/\Q .non H
def eY (K:Frag)(a:Ad):Sp:=fun vs H Q E=>∃ x,vs=[x]/\okI K H x/\Q (.bl (mY x 0 1439)) H
def lA (K:Frag)(a:Ad):Sp:=fun vs H Q E=>∃ (x:V) (q:Option (Int × Int)),vs=[x]/\QuAt H x q/\CB3 q/\Q (.bl true) H
def rC (K:Frag)(a:Ad):Sp:=fun vs H Q E=>∃ z:Int,vs=[.int z]/\(-1439<=z/\z<=1439)/\Q .non H
def oU (K:Frag)(a:Ad):Sp:=fun vs H Q E=>∃ (x:V) (q:Option (Int × Int)),vs=[x]/\QuAt H x q/\CB3 q/\Q .non H
def fS (K:Frag)(a:Ad):Sp:=fun vs H Q E=>∃ n:Int,vs=[.int n]/\(((0<=n/\n<=59)/\Q .non H)\/(¬ (0<=n/\n<=59)/\E (.ref a.NoClock) none H))
def gA (K:Frag)(a:Ad):Sp:=fun vs H Q E=>∃ n:Int,vs=[.int n]/\(((0<=n/\n<=1439)/\Q .non H)\/(¬ (0<=n/\n<=1439)/\E (.ref a.NoClock) none H))
def iD (K:Frag)(a:Ad):Sp:=fun vs H Q E=>∃ (p dx:Addr) (n:Int),vs=[.ref p,.int n]/\H p=some (.ins a.Hour dx [])/\(((0<=n/\n<=59)/\Q .non (upd H p (.ins a.Hour dx [("minute",.int n)])))\/(¬ (0<=n/\n<=59)/\E (.ref a.NoClock) none H))
def jK (K:Frag)(a:Ad):Sp:=fun vs H Q E=>∃ (p dx:Addr) (n:Int),vs=[.ref p,.int n]/\H p=some (.ins a.Day dx [])/\(((0<=n/\n<=1439)/\Q .non (upd H p (.ins a.Day dx [("minute",.int n)])))\/(¬ (0<=n/\n<=1439)/\E (.ref a.NoClock) none H))
def fT (K:Frag)(a:Ad):Sp:=fun vs H Q E=>∃ (p dx:Addr) (x:Int × Int × Option Str),vs=[.ref p,.int x.1,.int x.2.1,toV x.2.2]/\H p=some (.ins a.Raised dx [])/\(∀ u,x.2.2=some u->aZ u)/\(((1<=x.1/\0<=x.2.1)/\∀ H',But p H H'->H' p=some (.ins a.Raised dx [("minutes",.int x.1),("times",.int x.2.1),("to",toV x.2.2)])->Q .non H')\/(¬ (1<=x.1/\0<=x.2.1)/\E (.ref a.NoWish) none H))
def cX (K:Frag)(a:Ad):Sp:=fun vs H Q E=>∃ (p dx l:Addr) (fv y rv:V) (t:Tr) (k:Nat) (m:Int) (us:List Str) (su:Bool) (ra:Option (Int × Int × Option Str)),vs=[.ref p,fv,y,.ref l,.bl su,rv]/\H p=some (.ins a.Line dx [])/\t.Fit (fc a) H fv/\WyIs a H y k m/\H l=some (.lst (us.map V.str))/\us.length<=1000/\(∀ u∈us,gY u)/\RaIs a H rv ra/\((((∀ u∈us,aZ u)/\us.Nodup)/\((k=3/\us=[]/\su=false/\ra=none)\/(k≠3/\us≠[])))/\(∀ l' H',But p H H'->H l'=none->H' l'=some (.lst (us.map V.str))->H' p=some (.ins a.Line dx (lFs fv y (.ref l') (.bl su) rv))->Q .non H')\/(¬ (((∀ u∈us,aZ u)/\us.Nodup)/\((k=3/\us=[]/\su=false/\ra=none)\/(k≠3/\us≠[])))/\∀ H',Same H H'->E (.ref a.NoWish) none H'))
def nT (K:Frag)(a:Ad):Sp:=fun vs H Q E=>∃ (y:V) (k:Nat) (m:Int) (l:Addr) (us:List Str) (su:Bool) (rv:V) (ra:Option (Int × Int × Option Str)),vs=[y,.ref l,.bl su,rv]/\WyIs a H y k m/\H l=some (.lst (us.map V.str))/\us.length<=1000/\RaIs a H rv ra/\((((k=3/\us=[]/\su=false/\ra=none)\/(k≠3/\us≠[]))/\Q .non H)\/(¬ ((k=3/\us=[]/\su=false/\ra=none)\/(k≠3/\us≠[]))/\E (.ref a.NoWish) none H))
def fU (K:Frag)(a:Ad):Sp:=fun vs H Q E=>∃ (p dx l:Addr) (z:Int) (k x:V) (q:Option (Int × Int)) (xs:List V),vs=[.ref p,.int z,x,k,.ref l]/\H p=some (.ins a.Wishes dx [])/\(-1439<=z/\z<=1439)/\QuAt H x q/\CB3 q/\(k=.non\/((∃ n:Int,k=.int n/\0<=n)/\∃ r,x=.ref r))/\H l=some (.lst xs)/\xs.length<=10/\(∀ y∈xs,∃ r d fs,y=.ref r/\H r=some (.ins a.Line d fs))/\∀ H',But p H H'->Q .non H'
def rD (K:Frag)(a:Ad):Sp:=fun vs H Q E=>∃ k x:V,vs=[k,x]/\(k=.non\/((∃ n:Int,k=.int n/\0<=n)/\∃ r,x=.ref r))/\Q .non H
def oV (K:Frag)(a:Ad):Sp:=fun vs H Q E=>∃ (l:Addr) (xs:List V),vs=[.ref l]/\H l=some (.lst xs)/\xs.length<=10/\(∀ y∈xs,∃ r d fs,y=.ref r/\H r=some (.ins a.Line d fs))/\∀ H',Same H H'->Q .non H'
def kQ (K:Frag)(a:Ad):Sp:=fun vs H Q E=>∃ u:Str,vs=[.str u]/\CB2 u/\CG1 (Txt.split u sp1)/\∀ v H',Same H H'->Q v H'
def lW (K:Frag)(a:Ad):Sp:=fun vs H Q E=>∃ u:Str,vs=[.str u,.ref a.wishes_from]/\CB2 u/\CG1 (Txt.split u sp1)/\∀ v H',Same H H'->Q v H'
def fV (K:Frag)(a:Ad):Sp:=fun vs H Q E=>∃ (p dx:Addr) (s:Str),vs=[.ref p,.str s]/\H p=some (.ins a.Opened dx [])/\∀ il H',H il=none->But p H H'->H' il=some (.lst [])->H' p=some (.ins a.Opened dx (lI s il))->Q .non H'
def xA (K:Frag)(a:Ad):Sp:=fun vs H Q E=>∃ (wp dw wl:Addr) (ts:List Str) (i:Nat),vs=[.ref wp]/\WAt a.Words H wp dw wl ts i/\(∀ x∈ts,gY x)/\ts.length<=1000/\i<=ts.length/\(∀ t r,BE5 (ts.drop i) []=some (t,r)->∀ v H' j,r=ts.drop j->i < j->j<=ts.length->But wp H H'->WAt a.Words H' wp dw wl ts j->t.Fit (fc a) (Out [wp] H') v->Q v H')/\(BE5 (ts.drop i) []=none->∀ cls y H',IsX a cls->But wp H H'->E cls y H')
def lB (K:Frag)(a:Ad):Sp:=fun vs H Q E=>∃ (wp dw wl op:Addr) (ts:List Str) (i:Nat) (fs:List OF) (G:Hp),vs=[.ref wp,.ref op]/\PSt a.Words a.Opened (fc a) H wp dw wl ts i op fs G/\(∀ x∈ts,gY x)/\ts.length<=1000/\i<=ts.length/\fs.length<=i/\(∀ f∈fs,FrOk 1 i f)/\(∀ t r Sf,plainF (ts.drop i) (fs.map OF.fm)=some (t,r,Sf)->∀ v H' j fs',r=ts.drop j->i < j->j<=ts.length->PSt a.Words a.Opened (fc a) H' wp dw wl ts j op fs' G->fs'.map OF.fm=Sf->(∀ f∈fs',FrOk 2 j f)->fs'.length<=j->t.Fit (fc a) (Out (AB6 wp op fs') H') v->Q v H')/\(plainF (ts.drop i) (fs.map OF.fm)=none->∀ cls y H',IsX a cls->But wp G H'->E cls y H')
def AJ3 (K:Frag)(a:Ad):Sp:=fun vs H Q E=>∃ (v:V) (t:Tr) (wp dw wl op:Addr) (ts:List Str) (i:Nat) (fs:List OF) (G:Hp),vs=[v,.ref wp,.ref op]/\PSt a.Words a.Opened (fc a) H wp dw wl ts i op fs G/\(∀ x∈ts,gY x)/\ts.length<=1000/\i<=ts.length/\fs.length<=i/\(∀ f∈fs,FrOk 2 i f)/\t.Fit (fc a) (Out (AB6 wp op fs) H) v/\(∀ t' r,closeF (fs.map OF.fm) t (ts.drop i)=some (.inl (t',r))->∀ v' H' j,r=ts.drop j->i<=j->j<=ts.length->PSt a.Words a.Opened (fc a) H' wp dw wl ts j op [] G->t'.Fit (fc a) (Out (AB6 wp op []) H') v'->Q v' H')/\(∀ r Sf,closeF (fs.map OF.fm) t (ts.drop i)=some (.inr (r,Sf))->∀ H' j fs',r=ts.drop j->i<=j->j<=ts.length->PSt a.Words a.Opened (fc a) H' wp dw wl ts j op fs' G->fs'.map OF.fm=Sf->(∀ f∈fs',FrOk 1 j f)->fs'.length<=j->Q .non H')/\(closeF (fs.map OF.fm) t (ts.drop i)=none->∀ cls y H',IsX a cls->But wp G H'->E cls y H')
def lC (K:Frag)(a:Ad):Sp:=fun vs H Q E=>∃ (wp dw wl op:Addr) (ts:List Str) (i:Nat) (f:OF) (fs:List OF) (G:Hp),vs=[.ref f.r,.ref wp]/\PSt a.Words a.Opened (fc a) H wp dw wl ts i op (f::fs) G/\(∀ H',PSt a.Words a.Opened (fc a) H' wp dw wl ts (i+1) op (f::fs) G->ts.getD i ""=")"->Q (.bl true) H')/\(∀ H',PSt a.Words a.Opened (fc a) H' wp dw wl ts (i+1) op (f.sign (ts.getD i "")::fs) G->ts.getD i ""≠")"->(ts.getD i ""="&"\/ts.getD i ""="|")/\(f.sg="("\/f.sg=ts.getD i "")->Q (.bl false) H')/\(ts.getD i ""≠")"->¬ ((ts.getD i ""="&"\/ts.getD i ""="|")/\(f.sg="("\/f.sg=ts.getD i ""))->∀ y H',But wp G H'->E (.ref a.NoText) (some y) H')
def xB (K:Frag)(a:Ad):Sp:=fun vs H Q E=>∃ (r d il:Addr) (sg:Str) (xs:List V) (inn:List Tr) (M:List Addr),vs=[.ref r]/\H r=some (.ins a.Opened d (lI sg il))/\H il=some (.lst xs)/\All2 (Tr.Fit (fc a) (Out M H)) inn xs/\(∀ b,H b=none->b ∉ M)/\xs.length<=1000/\(sg="not"->inn≠[])/\(sg="&"\/sg="|"->2<=inn.length)/\((∃ t,mkF sg inn=some t/\∀ v H',Same H H'->t.Fit (fc a) (Out M H') v->Q v H')\/(mkF sg inn=none/\∀ y H',Same H H'->H' y=some (.xd [("line",.int 0)])->E (.ref a.NoText) (some y) H'))
def xC (K:Frag)(a:Ad):Sp:=fun vs H Q E=>∃ (wp dw wl:Addr) (ts:List Str) (i:Nat),vs=[.ref wp]/\WAt a.Words H wp dw wl ts i/\(∀ x∈ts,gY x)/\ts.length<=1000/\i<=ts.length/\(∀ k m r,BX5 (ts.drop i)=some (k,m,r)->∀ v H' j,r=ts.drop j->i < j->j<=ts.length->But wp H H'->WAt a.Words H' wp dw wl ts j->WyIs a (Out [wp] H') v k m->Q v H')/\(BX5 (ts.drop i)=none->∀ cls y H',IsL a cls->But wp H H'->E cls y H')
def oW (K:Frag)(a:Ad):Sp:=fun vs H Q E=>∃ (wp dw wl:Addr) (ts:List Str) (i:Nat),vs=[.ref wp]/\WAt a.Words H wp dw wl ts i/\(∀ x∈ts,gY x)/\ts.length<=1000/\i<=ts.length/\(∀ x r,raF (ts.drop i)=some (x,r)->∀ v H' j,r=ts.drop j->i < j->j<=ts.length->But wp H H'->WAt a.Words H' wp dw wl ts j->RaIs a (Out [wp] H') v (some x)->Q v H')/\(raF (ts.drop i)=none->∀ cls y H',IsL a cls->But wp H H'->E cls y H')
def iK (K:Frag)(a:Ad):Sp:=fun vs H Q E=>∃ (wp dw wl:Addr) (ts:List Str) (i:Nat),vs=[.ref wp]/\WAt a.Words H wp dw wl ts i/\(∀ x∈ts,gY x)/\ts.length<=1000/\i<=ts.length/\(∀ t L r,AI6 (ts.drop i)=some (t,L,r)->∀ v H' j,r=ts.drop j->i < j->j<=ts.length->But wp H H'->WAt a.Words H' wp dw wl ts j->LnIs a (Out [wp] H') v t L->Q v H')/\(AI6 (ts.drop i)=none->∀ cls y H',IsL a cls->But wp H H'->E cls y H')
def gT (K:Frag)(a:Ad):Sp:=fun vs H Q E=>∃ (wp dw wl:Addr) (ts:List Str),vs=[.ref wp]/\WAt a.Words H wp dw wl ts 0/\(∀ x∈ts,gY x)/\ts.length<=1000/\CG1 ts/\∀ v H',But wp H H'->WAt a.Words H' wp dw wl ts (ts.length)->Q v H'
def oX (K:Frag)(a:Ad):Sp:=fun vs H Q E=>∃ (q:Addr) (qs:List V) (l:List (Int × Int)),vs=[.ref q]/\H q=some (.tup qs)/\All2 (StAt H) l qs/\(∀ x∈l,sS x)/\l.length<=8/\∀ H',Same H H'->Q (.str (Str.join sp1 (l.map stW))) H'
def rE (K:Frag)(a:Ad):Sp:=fun vs H Q E=>∃ (v:V) (r:Rw),vs=[v]/\RwAt H v r/\(∃ ws,RwOk r ws)/\∀ H',Same H H'->Q (.str r.tx) H'
def uQ (K:Frag)(a:Ad):Sp:=fun vs H Q E=>∃ (l:Addr) (xs:List V) (rs:List Rw),vs=[.ref l]/\H l=some (.lst xs)/\All2 (fun r v=>RwAt H v r) rs xs/\(∀ r∈rs,∃ ws,RwOk r ws)/\rs.length<=16/\∀ H',Same H H'->Q (.str (Str.join nl1 (rs.map Rw.tx))) H'
def nU (K:Frag)(a:Ad):Sp:=fun vs H Q E=>∃ (rs:List Rw),vs=[.str (Str.join nl1 (rs.map Rw.tx))]/\(∀ r∈rs,∃ ws,RwOk r ws)/\rs.length<=16/\∀ l xs H',Same H H'->H l=none->H' l=some (.lst xs)->All2 (fun r v=>RwAt H' v r) rs xs->Q (.ref l) H'
def fW (K:Frag)(a:Ad):Sp:=fun vs H Q E=>∃ (u:Str) (r:Rw),vs=[.str u,.ref a.line_from_texts]/\CB2 u/\RwOk r (Txt.split u sp1)/\∀ v H',Same H H'->RwAt H' v r->Q v H'
def cZ (K:Frag)(a:Ad):Sp:=fun vs H Q E=>∃ (wp dw wl:Addr) (ts:List Str) (r:Rw),vs=[.ref wp]/\WAt a.Words H wp dw wl ts 0/\(∀ x∈ts,gY x)/\ts.length<=1000/\RwOk r ts/\∀ v H',But wp H H'->WAt a.Words H' wp dw wl ts ts.length->RwAt H' v r->Q v H'
def xD (K:Frag)(a:Ad):Sp:=fun vs H Q E=>∃ (wp dw wl:Addr) (ts:List Str) (r:Rw),vs=[.ref wp]/\WAt a.Words H wp dw wl ts 1/\(∀ x∈ts,gY x)/\ts.length<=1000/\RwOk r ts/\r.st≠none/\∀ v H',But wp H H'->WAt a.Words H' wp dw wl ts ts.length->RwAt H' v r->Q v H'
def rF (K:Frag)(a:Ad):Sp:=fun vs H Q E=>∃ (wp dw wl:Addr) (ts:List Str) (i:Nat) (x:Int × Int),vs=[.ref wp]/\WAt a.Words H wp dw wl ts i/\ts.getD i ""=stW x/\sS x/\∀ s H',But wp H H'->H s=none->H' s=some (.tup [.int x.1,.int x.2])->WAt a.Words H' wp dw wl ts (i+1)->Q (.ref s) H'
def pP (K:Frag)(a:Ad):Sp:=fun vs H Q E=>∃ (wp dw wl:Addr) (ts:List Str) (r:Rw),vs=[.ref wp]/\WAt a.Words H wp dw wl ts 0/\(∀ x∈ts,gY x)/\ts.length<=1000/\RwOk r ts/\r.st=none/\ts.getD 0 ""≠"end"/\∀ v H',But wp H H'->WAt a.Words H' wp dw wl ts ts.length->RwAt H' v r->Q v H'
def eZ (K:Frag)(a:Ad):Sp:=fun vs H Q E=>∃ (wp dw wl:Addr) (ts:List Str) (z:List Str),vs=[.ref wp]/\WAt a.Words H wp dw wl ts 3/\(∀ x∈ts,gY x)/\ts.length<=1000/\ts.drop 3=z/\CG1 z/\∀ H',But wp H H'->WAt a.Words H' wp dw wl ts ts.length->Q (.str (Str.join sp1 z)) H'
def oY (K:Frag)(a:Ad):Sp:=fun vs H Q E=>∃ (b:Addr) (ns:List Int) (k:Int),vs=[.ref b,.int k]/\SqL K H b (ns.map V.int)/\0<=k/\∀ c,Q (.int c) H
def uR (K:Frag)(a:Ad):Sp:=fun vs H Q E=>∃ c:Int,vs=[.int c]/\∀ p a b c,H p=none->Q (.ref p) (upd H p (.lst [.int a,.int b,.int c]))
def dC (K:Frag)(a:Ad):Sp:=fun vs H Q E=>∃ (w:Addr) (m:Int),vs=[.ref w,.int m]/\Well3 H w/\0 < m/\m < 2 ^ 62/\∀ (r:Int) (H':Hp),0<=r->r < m->Well3 H' w->But w H H'->Q (.int r) H'
def xE (K:Frag)(a:Ad):Sp:=fun vs H Q E=>∃ w:Addr,vs=[.ref w]/\Well3 H w/\∀ (u:Str) (H':Hp),aZ u->Well3 H' w->But w H H'->Q (.str u) H'
def zR (K:Frag)(a:Ad):Sp:=fun vs H Q E=>∃ w:Addr,vs=[.ref w]/\Well3 H w/\∀ (t:Tr) (H':Hp),t.wf->t.ws.length<=20->Well3 H' w->But w H H'->Q (.str (Str.join sp1 t.ws)) H'
def xF (K:Frag)(a:Ad):Sp:=fun vs H Q E=>∃ w:Addr,vs=[.ref w]/\Well3 H w/\∀ (t:Tr) (L:Ln) (H':Hp),t.wf->t.ws.length<=20->L.ok->Well3 H' w->But w H H'->Q (.str (Str.join sp1 (t.ws++L.ws))) H'
def rG (K:Frag)(a:Ad):Sp:=fun vs H Q E=>∃ w:Addr,vs=[.ref w]/\Well3 H w/\∀ (z:List Str) (H':Hp),CG1 z->Well3 H' w->But w H H'->Q (.str (Str.join sp1 z)) H'
def rH (K:Frag)(a:Ad):Sp:=fun vs H Q E=>∃ w:Addr,vs=[.ref w]/\Well3 H w/\∀ (n:Int) (H':Hp),pE n->Well3 H' w->But w H H'->Q (.int n) H'
def rJ (K:Frag)(a:Ad):Sp:=fun vs H Q E=>∃ w:Addr,vs=[.ref w]/\Well3 H w/\∀ (n:Int) (H':Hp),0<=n->n < 1000000->Well3 H' w->But w H H'->Q (.int n) H'
def zS (K:Frag)(a:Ad):Sp:=fun vs H Q E=>∃ (w:Addr) (k:Int),vs=[.ref w,.int k]/\Well3 H w/\0<=k/\k < 8/\∀ (v:V) (r:Rw) (H':Hp),RwAt H' v r->(∃ ws,RwOk r ws)->Well3 H' w->But w H H'->Q v H'
def xG (K:Frag)(a:Ad):Sp:=fun vs H Q E=>∃ (v:V) (r:Rw),vs=[v]/\RwAt H v r/\(∃ ws,RwOk r ws)/\∀ H',Same H H'->Q (.str r.tx) H'
def eI (K:Frag)(a:Ad)(d:Nat):Sp:=fun vs H Q E=>∃ (v:V) (n:Nat),n < d/\vs=[v]/\Plain n H v/\∀ H',Same H H'->Q (.bl false) H'
def spL (K:Frag):Sp:=fun vs H Q _=>∃ (a:Addr) (ns:List Int),vs=[.ref a]/\SqL K H a (ns.map V.int)/\ns.length<=63/\∀ H',Q (.bl true) H'
abbrev BG9 (K:Frag)(_:Ad):Sp:=spL K
theorem yI {K:Frag}{a:Ad}:∀ vs H Q E,¬ eI K a 0 vs H Q E:=by
 rintro vs H Q E ⟨v,n,h,_⟩
 exact absurd h (Nat.not_lt_zero _)
def xH (K:Frag)(a:Ad)(C:Addr)(sp:Sp):Prop:=C=a.Words/\sp=nR K a
def iO (K:Frag)(a:Ad)(C:Addr)(sp:Sp):Prop:=C=a.Words/\sp=jG K a
def lX (K:Frag)(a:Ad)(C:Addr)(sp:Sp):Prop:=C=a.Words/\sp=kZ K a
def pQ (K:Frag)(a:Ad)(C:Addr)(sp:Sp):Prop:=C=a.Words/\sp=rB K a
def iE (K:Frag)(a:Ad)(C:Addr)(sp:Sp):Prop:=C=a.Words/\sp=lU K a
def lY (K:Frag)(a:Ad)(C:Addr)(sp:Sp):Prop:=C=a.Words/\sp=jH K a
def nV (K:Frag)(a:Ad)(C:Addr)(sp:Sp):Prop:=C=a.Words/\sp=jZ K a
def rK (K:Frag)(a:Ad)(C:Addr)(sp:Sp):Prop:=C=a.Words/\sp=jI K a
def bY (K:Frag)(a:Ad)(C:Addr)(sp:Sp):Prop:=C=a.Words/\sp=iI K a
def kR (K:Frag)(a:Ad)(C:Addr)(sp:Sp):Prop:=C=a.Words/\sp=iJ K a
def uS (K:Frag)(a:Ad)(C:Addr)(sp:Sp):Prop:=C=a.Words/\sp=kA K a
def nW (K:Frag)(a:Ad)(C:Addr)(sp:Sp):Prop:=C=a.Words/\sp=fQ K a
def rL (K:Frag)(a:Ad)(C:Addr)(sp:Sp):Prop:=C=a.Words/\sp=oT K a
section
variable {P:Program}{w:World}{K:Frag}{mg:Str->Option Value}{base:Heap}{f:Addr}{fd:FuncData}{a:Ad}
mutual
example:=by
 refine Z0 F Z1 (fun vs H Q E h=>?_) (fun cdv A outer s H vs Q E hr h=>?_)
example:=by
 refine F.ok Z0 (by walk_at "ln") fun cdv A outer s H vs Q E hr h=>?_
example:=by
 first | rw [if_neg (by decide)] | skip
example:=by
 by_cases Z0:ts.getD i ""=Z1
 ·rw [if_pos Z0]
  rw [if_pos Z0] at good fail
  have kl:=cP Z0 (by decide)
  refine ⟨_,_,_,W1.w,rfl,_,⟨rfl,rfl⟩,wp,dw,wl,ts,i+1,rfl,W1,bJ hT _,?_⟩
  by_cases hn:kI (ts.getD (i+1) "")=true
  ·have kl2:=AJ6 hn
   refine .inl ⟨hn,fun H3 B3 W3=>?_⟩
   intro x dx hx hd ne
   have M0:=bT (o:=.own x) (o':=.ins Z2 dx []) hx hd
   refine ⟨x,dx,_,rfl,aA,?_⟩
   by_cases n0:0<=dH (ts.getD (i+1) "")/\dH (ts.getD (i+1) "")<=Z3
   ·rw [if_pos (numF_iff.mpr ⟨hn,n0⟩)] at good
    have SS:Same H3 (upd (upd (upd H3 dx (.own x)) x (.ins Z2 dx [])) x (.ins Z2 dx [("minute",.int (dH (ts.getD (i+1) "")))])):=fun b o e=>by rw [aG (aQ e hx)]; exact M0 b o e
    exact .inl ⟨n0,rfl,good _ _ _ rfl (.ref x) _ (i+2) rfl (by omega) (by omega) (B1.trans (B3.trans (Same.but SS))) (W3.same SS) ⟨x,dx,rfl,eC (fX W3.w hx) aA,by decide⟩⟩
   ·rw [if_neg (fun z=>n0 (numF_iff.mp z).2)] at fail
    exact .inr ⟨n0,fail rfl _ _ _ (.inr (.inl rfl)) (B1.trans (B3.trans (Same.but M0)))⟩
  ·rw [if_neg (fun z=>hn (numF_iff.mp z).1)] at fail
   exact .inr ⟨by simpa using hn,fun y H3 B3=>fail rfl _ _ _ (.inl (.inr rfl)) (B1.trans B3)⟩
 rw [if_neg Z0]
 rw [if_neg Z0] at good fail
example:=by
 by_cases Z0:ts.getD k ""=Z1
 ·rw [if_pos Z0]
  rw [Z2 Z0] at hR
  refine ⟨_,_,_,hP.W.w,rfl,_,⟨rfl,rfl⟩,wp,dw,wl,ts,k+1,rfl,hP.W,hT,hl,fun l H3 B3 hl0 el W3=>?_⟩
  have hP3:=hP.words B3 W3
  have tl:=AP2 (p:=fun u=>decide (aZ u)) (ts.drop (k+1))
  rw [List.length_drop] at tl
  have kl:=cP Z0 (by decide)
  have hg:∀ u∈((ts.drop (k+1)).takeWhile fun u=>decide (aZ u)),aZ u:=fun u hu=>of_decide_eq_true (p:=aZ u) (vS (p:=fun u=>decide (aZ u)) hu)
  generalize ((ts.drop (k+1)).takeWhile fun u=>decide (aZ u))=us at *
  intro x dx hx hd ne
  have M0:=bT (o:=.own x) (o':=.ins Z3 dx []) hx hd
  refine ⟨x,dx,l,us,rfl,aA,M0 _ _ el,⟨hg,by omega⟩,?_⟩
  by_cases c:us≠[]/\us.Nodup
  ·rw [if_pos c] at hR
   refine .inl ⟨c,fun l' H' Bx hl' e1 e2=>⟨rfl,?_⟩⟩
   have SS:=eA hx hd Bx
   exact good _ _ _ hR.symm (.ref x) _ (k+1+us.length) fs rfl (by omega) (by omega) (hP3.same SS) rfl (fun f hf=>(hF f hf).up (by omega)) (by omega) (by rw [Tr.Fit]; exact ⟨x,dx,l',rfl,eC (hP3.new hx) e2,eC (hP3.new (M0.free hl')) e1⟩)
  ·rw [if_neg c] at hR
   exact .inr ⟨c,fun H' S'=>fail hR.symm _ _ _ (.inl rfl) (hP3.K.trans (Same.but (M0.trans S')))⟩
 rw [if_neg Z0]
example:=by
 first | rw [if_pos rfl] | skip
 refine ⟨_,_,_,W1.w,rfl,_,⟨rfl,rfl⟩,wp,dw,wl,ts,1,rfl,W1,bJ hT _,.inl ⟨by rw [g1]; exact (dF hm).1,fun H2 D2 W2=>?_⟩⟩
 have B2:=B1.trans D2
 rw [g1,(dF hm).2.2]
 nofun
 refine ⟨_,_,_,W2.w,rfl,_,⟨rfl,rfl⟩,wp,dw,wl,ts,2,rfl,W2,bJ hT _,.inl ⟨by rw [g2]; exact BZ5 Z0,fun H3 D3 W3=>?_⟩⟩
 have B3:=B2.trans D3
 rw [g2]
 nofun
example:=by
 first | rw [if_pos rfl] | skip
 refine ⟨_,_,_,W1.w,rfl,_,⟨rfl,rfl⟩,wp,dw,wl,ts,1,rfl,W1,bJ hT _,.inl ⟨by rw [g1]; exact (dF hm).1,fun H2 D2 W2=>?_⟩⟩
 have B2:=B1.trans D2
 rw [g1,(dF hm).2.2]
 nofun
example:=by
 rw [if_neg h2]
 refine ⟨hp,?_⟩
 refine CompS.by (fun i acc σ H'=>acc=(u.cps.toList.take i).map (fun c=>V.bl (!(Builtin.Str.occurrences Z0 ⟨#[c]⟩ 0 Z1 1).isEmpty))/\(∃ v,σ=[v])/\H'=H) (sz8 hl) ⟨rfl,⟨_,rfl⟩,rfl⟩ ?_ ?_ ?_
 ·rintro i c acc σ H' hc ⟨rfl,⟨v,rfl⟩,rfl⟩
  have hc':u.cps.toList[i]?=some c:=by simpa using hc
  have ea:(u.cps.toList.take i).map (fun c=>V.bl (!(Builtin.Str.occurrences Z0 ⟨#[c]⟩ 0 Z1 1).isEmpty))++[V.bl (!(Builtin.Str.occurrences Z0 ⟨#[c]⟩ 0 Z1 1).isEmpty)]=(u.cps.toList.take (i+1)).map (fun c=>V.bl (!(Builtin.Str.occurrences Z0 ⟨#[c]⟩ 0 Z1 1).isEmpty)):=by
   rw [List.take_succ,hc',List.map_append]
   rfl
  nofun
  first | exact ea | exact ⟨ea,⟨_,rfl⟩,rfl⟩
 ·rintro i acc σ H' ⟨rfl,_,_⟩
  rw [List.length_map,List.length_take]
  omega
example:=by
 nofun
 refine ⟨_,_,_,W7.w,rfl,_,⟨rfl,rfl⟩,wp,dw,wl,ts,Z0,_,rfl,W7,?_⟩
 by_cases c3:ts.getD Z0 ""="raise"
 ·refine .inl ⟨c3,uN ?_⟩
  have z73:=cP c3 (by decide)
  have W8:=W7.take (Z0+1)
  have BX:But wp Z1 (upd Z1 wp (.ins a.Words dw (bF wl (Z0+1)))):=But.upd _
  generalize upd Z1 wp (.ins a.Words dw (bF wl (Z0+1)))=H8 at *
  rw [if_pos rfl]
  refine ⟨wp,dw,wl,ts,Z0+1,rfl,W8,hT,hl,by omega,fun x r e v H9 z9 er z91 z92 B9 W9 hra=>?_,fun e cls y H9 hc B9=>fail ?_ cls y H9 hc (B6.trans (BY.trans (BX.trans B9)))⟩
  ·exact fin _ _ v (some x) H9 z9 es (by rw [oN,if_pos c3,e,er]; rfl) (by omega) z92 (BY.trans (BX.trans B9)) W9 hra
  ·unfold CB4
   rw [es]
   dsimp only
   rw [oN,if_pos c3,e]
   split <;> rfl
 ·refine .inr ⟨c3,uN ?_⟩
  rw [if_neg (by decide)]
  exact fin _ _ .non none Z1 Z0 es (by rw [oN,if_neg c3]) z71 z72 BY W7 rfl
example:=by
 refine mU Z0 (by decide) (by decide) fun Z1 Z2 Z3 Z4 Z5 Z6=>?_
example:=by
 ·refine ⟨_,tp,_,["list","tuple"],true,rfl,e1,.inr (.inr (Z0 ⟨p,xs,rfl,S1 _ _ hx,rfl⟩)),by kernel_rfl,?_⟩
  nofun
  refine Z0 ⟨⟨xs,Z1 (S1 _ _ hx)⟩,?_⟩
  refine Z2 (xs:=xs) (fun i acc σ H'=>acc=[]/\(∃ v,σ=[v])/\Same H H') (sz8 (by omega)) ⟨rfl,⟨_,rfl⟩,S1⟩ (fun i acc σ H' _ h=>Z1 (h.2.2 _ _ hx)) ?_ ?_ ?_
  ·rintro i y acc σ H' hy ⟨rfl,⟨v,rfl⟩,S2⟩
   nofun
   refine ⟨y,m,by omega,rfl,step i y H' hy S2,fun H3 S3=>?_⟩
   refine uN ?_
   rw [if_neg (by decide)]
   first | exact ⟨rfl,⟨_,rfl⟩,S2.trans S3⟩ | exact S2.trans S3 | exact ⟨rfl,S2.trans S3⟩
  ·rintro i acc σ H' ⟨rfl,_,_⟩
   exact Nat.zero_le _
  ·rintro acc σ H' ⟨rfl,⟨v,rfl⟩,S2⟩ D hD
   refine ⟨Nat.zero_le _,fun p9 h9=>?_⟩
   exact eqd (.lst (aH h9 _ _ _ aA) .nil) (.lst aA .nil) (by decide +kernel) (q _ (S2.trans ((aH hD _).trans (aH h9 _))))
example:=by
 refine ⟨sz8 (by decide),fun Z0 Z1=>?_⟩
example:=by
 refine ⟨_,_,_,W1.w,rfl,_,⟨rfl,rfl⟩,wp,dw,wl,ts,1,rfl,W1,bJ hT _,.inl ⟨by rw [g1]; exact (dF hm).1,fun H2 Z0 W2=>?_⟩⟩
example:=by
 have Z0:=Z1 (Z2+Z3)
 have Z4:But wp Z5 (upd Z5 wp (.ins a.Words dw (bF wl (Z2+Z3)))):=But.upd _
example:=by
 intro x dx hx hd ne
 have M0:=bT (o:=.own x) (o':=.ins Z0 dx []) hx hd
example:=by
 by_cases Z0:ts.getD k ""=Z1
 ·rw [if_pos Z0]
  refine ⟨fun σ' H'=>BN5 a wp dw wl op ts i G R σ' H'/\3000 - yH wp H' < 3000 - yH wp H2,fun σ' H' h=>⟨_,h.2,rfl,h.1⟩,.inl ⟨rfl,_,SqL.of hP.O⟩,fun x dx hx hd ne=>?_⟩
  have M0:=bT (o:=.own x) (o':=.ins a.Opened dx []) hx hd
  refine ⟨x,dx,_,rfl,aA,fun il H3 hil B3 e1 e2=>⟨rfl,?_⟩⟩
  have S3:=eA hx hd B3
  have hP3:=hP.push S3 hx (M0.free hil) e2 e1
  refine ⟨op,_,_,rfl,rfl,S3 _ _ hP.O,?_,_,_,_,hP3.W.w,rfl,_,⟨rfl,rfl⟩,wp,dw,wl,ts,k+1,rfl,hP3.W,?_⟩
  ·rw [List.length_map,List.length_reverse]
   exact Nat.lt_of_le_of_lt (show fs.length<=1000 by omega) (by decide)
  rw [Z0] at e2
  exact push _ Z0 (Z2 rfl) x dx il H3 hx (M0.free hil) S3 e1 e2
 rw [if_neg Z0]
example:=by
 ·obtain ⟨p,dx,l,us,rfl,_⟩:=h
  rfl
 obtain ⟨p,dx,l,us,rfl,hp,hl,hok,q⟩:=h
 refine ⟨_,(aW (aB (bN (bW (cJ eJ (hr.mono (by decide)) rfl (aK (aL (pv 1) aC)) (he:=aD _ _ _ rfl) (hpl:=aF rfl)))) (aJ (bN (dR (pv 0) (bM eB rfl B.list PyProof.Rows.boot_list (aK (aL (pv 1) aC))) rfl))))),?_⟩
 nofun
 refine ⟨l,us,rfl,hl,hok,?_⟩
 rcases q with ⟨c,q⟩ | ⟨c,q⟩
 ·refine .inl ⟨c,fun H1 S1=>?_⟩
  nofun
  refine ⟨_,.inl (SqL.of (S1 _ _ hl)),fun p2 h2=>?_⟩
  have S2:=aH h2 (.lst (us.map V.str))
  refine ⟨_,_,_,S2 _ _ (S1 _ _ hp),Z0,Z1,by decide,?_⟩
  refine q p2 _ (fun b o n e=>?_) (S1.free h2) ?_ aA
  ·rw [aG n]
   exact S2 _ _ (S1 _ _ e)
  ·rw [aG (aQ (S1 _ _ hp) h2).symm]
   exact aA
 ·exact .inr ⟨c,q⟩
example:=by
 refine CompL.by (xs:=Z0) (fun i acc σ H'=>acc=((Z1 i).map Rw.tx).map V.str/\(∃ v,σ=[v])/\Same Z2 H') (sz8 (by omega)) ⟨rfl,⟨_,rfl⟩,fun _ _ z=>z⟩ (fun i acc σ H' _ h=>SqL.of (h.2.2 _ _ Z3)) ?_ ?_ ?_
 ·rintro i y acc σ H' hy ⟨rfl,⟨v,rfl⟩,S1⟩
  obtain ⟨r,e,hr1⟩:=Z4 hy
  have ea:((Z1 i).map Rw.tx).map V.str++[V.str r.tx]=((Z1 (i+1)).map Rw.tx).map V.str:=by
   rw [List.take_succ,e,List.map_append,List.map_append]
   rfl
  nofun
  refine ⟨y,r,rfl,hr1.same S1,ho r (List.mem_of_getElem? e),fun H2 S2=>?_⟩
  first | exact ⟨ea,⟨_,rfl⟩,S1.trans S2⟩ | exact ⟨ea,S1.trans S2⟩
 ·rintro i acc σ H' ⟨rfl,_,_⟩
  rw [List.length_map,List.length_map,List.length_take]
  omega
example:=by
 nofun
 refine ⟨_,_,_,Z0,rfl,_,⟨rfl,rfl⟩,wp,dw,wl,ts,Z1,rfl,Z2,?_⟩
example:=by
 by_cases cw:(k=3/\us=[]/\su=false/\ra=none)\/(k≠3/\us≠[])
 rotate_left
 ·exact .inr ⟨cw,bads (fun z=>cw z.2) _ S1⟩
 refine .inl ⟨cw,?_⟩
 have q:=good ⟨cn,cw⟩
 nofun
 have nrp:l≠p:=fun z=>by rw [z,hp] at hl; cases hl
 refine ⟨_,_,_,S1 _ _ hp,B.ck_Line.cl,B.na_Line_fit,by decide,_,_,_,aA,B.ck_Line.cl,B.na_Line_way,by rw [e1]; simp only [List.length_cons,List.length_nil]; decide,?_⟩
 refine ⟨_,.inl (SqL.of (by rw [aG nrp,aG nrp]; exact S1 _ _ hl)),fun l2 hl2=>?_⟩
 have nlp:l2≠p:=fun z=>by rw [z,aA] at hl2; cases hl2
 have hl1:H1 l2=none:=by rw [aG nlp,aG nlp] at hl2; exact hl2
example:=by
 refine ⟨_,_,_,by rw [aG nlp.symm]; exact aA,B.ck_Line.cl,B.na_Line_roads,by rw [e1,e2]; simp only [List.length_cons,List.length_nil]; decide,_,_,_,aA,B.ck_Line.cl,B.na_Line_sure,by rw [e1,e2,e3]; simp only [List.length_cons,List.length_nil]; decide,_,_,_,aA,B.ck_Line.cl,B.na_Line_raised,by rw [e1,e2,e3,e4]; simp only [List.length_cons,List.length_nil]; decide,?_⟩
 refine q l2 _ (fun b o n e=>?_) (S1.free hl1) ?_ ?_
 ·rw [aG n,aG n,aG n,aG (aQ (S1 _ _ e) hl1),aG n,aG n]
  exact S1 b o e
 ·rw [aG nlp,aG nlp,aG nlp]
  exact aA
 ·rw [aA,e1,e2,e3,e4,e5]
example:=by
 refine ⟨_,_,_,Z0,rfl,_,⟨rfl,rfl⟩,wp,dw,wl,ts,Z1,_,rfl,Z2,.inl ⟨Z3,?_⟩⟩
 have Z4:=Z5 (Z1+1)
 have Z6:But wp Z7 (upd Z7 wp (.ins a.Words dw (bF wl (Z1+1)))):=But.upd _
 generalize upd Z7 wp (.ins a.Words dw (bF wl (Z1+1)))=Z8 at *
 nofun
example:=by
 simp only [List.mem_cons,List.not_mem_nil,or_false] at Z0
example:=by
 generalize upd Z0 wp (.ins a.Words dw (bF wl (Z1+Z2)))=Z3 at *
example:=by
 nofun
 refine ⟨_,_,_,Z0,rfl,_,⟨rfl,rfl⟩,wp,dw,wl,ts,Z1,rfl,Z2,bJ hT _,.inl ⟨by rw [Z3]; exact BZ5 Z4,fun Z5 Z6 Z7=>?_⟩⟩
example:=by
 have S2:=aH hp2 (.lst [.str Z0,.str Z1,.str Z2])
 have e2:upd H2 p2 (.lst [.str Z0,.str Z1,.str Z2]) p2=some (.lst [.str Z0,.str Z1,.str Z2]):=aA
 have e1':=S2 _ _ e1
 generalize upd H2 p2 (.lst [.str Z0,.str Z1,.str Z2])=H3 at *
example:=by
 refine ⟨_,_,_,W.w,B.ck_Words.cl,B.na_Words_at,.int i,rfl,?_⟩
example:=by
 obtain ⟨p,dx,l,xs,ts,rfl,hp,hl,hf,l2,l100,q⟩:=h
 refine ⟨_,(aW (aB (bN (bW (pc fC hr rfl (aK (aL (pv 1) aC))))) (aJ (bN (dR (pv 0) (bM eB rfl B.list PyProof.Rows.boot_list (aK (aL (pv 1) aC))) rfl))))),?_⟩
 nofun
 refine ⟨l,xs,ts,rfl,hl,hf,l2,l100,?_⟩
 nofun
 refine ⟨_,.inl (SqL.of hl),fun p2 h2=>?_⟩
 have S2:=aH h2 (.lst xs)
 refine ⟨_,_,_,S2 _ _ hp,Z0,Z1,by decide,?_⟩
 refine q p2 _ (fun b o n e=>?_) h2 ?_ aA
 ·rw [aG n]
  exact S2 _ _ e
 ·rw [aG (aQ hp h2).symm]
  exact aA
example:=by
 refine ⟨_,_,_,Z0 _ _ hp,Z1,Z2,by decide,_,_,_,aA,Z1,Z3,by rw [e1]; simp only [List.length_cons,List.length_nil]; decide,_,_,_,aA,Z1,Z4,by rw [e1,e2]; simp only [List.length_cons,List.length_nil]; decide,?_⟩
example:=by
 refine Z0 (xs:=Z1) (fun i acc σ H'=>acc=((Z2 i).map Z3).map Z4/\(∃ v,σ=[v])/\Same H H') (sz8 (by omega)) ⟨rfl,⟨_,rfl⟩,fun _ _ z=>z⟩ (fun i acc σ H' _ h=>Z5 (h.2.2 _ _ Z6)) ?_ ?_ ?_
example:=by
 obtain ⟨Z0,Z1,fs,rfl,Z2,_⟩:=Z3
 have hk:ClsK K (t.cls (fc a))/\kitOne K (.ref (t.cls (fc a))) (.ref a.Fit)=some true:=by
  cases t with
  | any=>exact ⟨B.ck_Any,B.is_Any_Fit⟩
  | kind us=>exact ⟨B.ck_Kind,B.is_Kind_Fit⟩
  | place us=>exact ⟨B.ck_Place,B.is_Place_Fit⟩
  | weight n=>exact ⟨B.ck_Least,B.is_Least_Fit⟩
  | not t=>exact ⟨B.ck_Not,B.is_Not_Fit⟩
  | both ts=>exact ⟨B.ck_Both,B.is_Both_Fit⟩
  | either ts=>exact ⟨B.ck_Either,B.is_Either_Fit⟩
example:=by
 by_cases n0:1<=dH (ts.getD i "")/\0<=dH (ts.getD (i+1) "")
 ·rw [if_pos ⟨⟨n1,n0.1⟩,n2,n0.2⟩] at good
  refine .inl ⟨n0,fun H' Bx e2=>⟨rfl,?_⟩⟩
  have SS:=eA hx hd Bx
  exact good _ _ rfl (.ref x) _ (i+Z0) rfl (by omega) (by omega) (BA.trans (Same.but SS)) (WA_.same SS) ⟨x,dx,rfl,eC (fX WA_.w hx) e2⟩
 ·rw [if_neg (fun z=>n0 ⟨z.1.2,z.2.2⟩)] at fail
  exact .inr ⟨n0,fail rfl _ _ _ (.inr (.inr rfl)) (BA.trans (Same.but M0))⟩
example:=by
 have g0:ts.getD 0 ""=(Z0:Str):=by rw [e]; rfl
 have g1:ts.getD 1 ""=(bB m:Str):=by rw [e]; rfl
example:=by
 refine ⟨x,dx,il,xs,inn,rfl,aA,M0 _ _ hil,hA.imp (fun t v _ h=>(h.same iY).same M0),by omega,hz,fun l' H' Bx hl' e1 e2=>?_⟩
 nofun
 have SS:=eA hx hd Bx
 rcases q with ⟨t',e,q⟩ | ⟨e,_⟩
 ·rw [em] at e
  cases e
  exact q (.ref x) _ SS (by rw [Tr.Fit]; exact ⟨x,dx,l',xs,rfl,eC (hM x hx) e2,eC (hM l' (M0.free hl')) e1,trs_fit.mpr (by rw [AN7]; exact hA.imp fun t v _ h=>h.same (jT SS))⟩)
 ·rw [em] at e; cases e
example:=by
 refine ⟨_,_,_,Z0,rfl,_,⟨rfl,rfl⟩,wp,dw,wl,ts,Z1,rfl,Z2,bJ hT _,.inl ⟨by rw [Z3]; exact (kS hn.1 hn.2).1,fun Z4 Z5 Z6=>?_⟩⟩
 have Z7:=Z8 Z5
 rw [Z3,(kS hn.1 hn.2).2]
 nofun
example:=by
 have Z0:Z1≠Z2:=fun z=>by rw [z,Z3] at Z4; cases Z4
example:=by
 ·obtain ⟨wp,dw,wl,ts,Z0,rfl,_⟩:=h
  rfl
example:=by
 first | rw [if_pos rfl] | skip
example:=by
 ·rintro i acc σ H' ⟨rfl,_,_⟩
  rw [List.length_map,List.length_map,List.length_take]
  omega
example:=by
 ·obtain ⟨p,dx,n,rfl,_⟩:=h
  rfl
 obtain ⟨p,dx,n,rfl,hp,q⟩:=h
 refine ⟨_,(aW (aB (bN (bW (cJ Z0 (hr.mono (by decide)) rfl (aK (aL (pv 1) aC)) (he:=aD _ _ _ rfl) (hpl:=aF rfl)))) (aJ (bN (dR (pv 0) (pv 1) rfl))))),?_⟩
 nofun
 rcases q with ⟨c,q⟩ | ⟨c,q⟩
 ·refine ⟨n,rfl,.inl ⟨c,?_⟩⟩
  nofun
  exact ⟨_,_,_,hp,Z1,Z2,by decide,q⟩
 ·exact ⟨n,rfl,.inr ⟨c,q⟩⟩
example:=by
 by_cases Z0:ts.getD i ""=Z1
 ·rw [if_pos Z0]
  rw [if_pos Z0] at good fail
  have kl:=cP Z0 (by decide)
  intro x dx hx hd ne
  exact good _ _ _ rfl (.ref x) _ (i+1) rfl (by omega) (by omega) (B1.trans (Same.but (bT hx hd))) (W1.same (bT hx hd)) ⟨x,dx,rfl,eC (fX W1.w hx) aA,by decide⟩
 rw [if_neg Z0]
 rw [if_neg Z0] at good fail
example:=by
 rcases q with ⟨Z0,q⟩ | ⟨Z0,q⟩
example:=by
 have Z0:ts.getD Z1 ""=(bB Z2:Str):=by rw [e]; rfl
 have en:ts.length=Z3:=by rw [e]; rfl
 rw [g0]
 nofun
example:=by
 exact q _ _ (Z0 (Same.but (aH Z1 _))) (by rw [en]; exact Z2 (aH Z1 _)) ⟨Z3,rfl,aA⟩
example:=by
 refine ⟨_,_,true,rfl,Z0 Z1,by kernel_rfl,?_⟩
 exists Bool.not_true
example:=by
 refine ⟨_,_,_,W.w,B.ck_Words.cl,B.na_Words_words,.ref wl,rfl,?_⟩
 refine ⟨wl,rfl,_,.inl (SqL.of W.l),?_⟩
example:=by
 rintro acc σ Z0 ⟨rfl,⟨v,rfl⟩,Z1⟩ D hD
 rw [<- lq,List.take_length]
 refine ⟨nl1,D,Z2 Rw.tx,rfl,rfl,aA,nA ?_,?_⟩
 ·exact Nat.le_trans (AX1 (k:=3000) (fun u hu=>by obtain ⟨x,hx,rfl⟩:=List.mem_map.mp hu; obtain ⟨ws,h⟩:=ho x hx; exact (BG2 h).2.2.2) (by rw [List.length_map]; omega) (by decide)) (by decide)
 rw [AJ7]
example:=by
 obtain ⟨x,Z0,s,rfl,Z1⟩:=hA.get hy
 have hx:=Z2 x (List.mem_of_getElem? Z0)
 have ea:((l.take i).map stW).map V.str++[V.str (stW x)]=((l.take (i+1)).map stW).map V.str:=by
  rw [List.take_succ,Z0,List.map_append,List.map_append]
  rfl
 have k1:=fB hx.1.1 hx.1.2
 have k2:=fB hx.2.1 hx.2.2
 nofun
example:=by
 first | refine ⟨p0,rfl,⟨Z0,SqT.of hp⟩,?_⟩ | refine ⟨⟨Z0,SqT.of hp⟩,?_⟩
 refine CompT.by (xs:=Z0) (fun i acc σ H'=>acc=(r.ps.take i).map V.str/\(∃ v,σ=[v])/\Same H H') (sz8 (by omega)) ⟨rfl,⟨_,rfl⟩,fun _ _ z=>z⟩ (fun i acc σ H' _ h=>SqT.of (h.2.2 _ _ hp)) ?_ ?_ ?_
example:=by
 refine ⟨_,_,_,Z0,rfl,_,⟨rfl,rfl⟩,wp,dw,wl,ts,Z1,_,rfl,Z2,Z3 ⟨Z4,?_⟩⟩
example:=by
 refine ⟨_,_,_,Z0,rfl,_,⟨rfl,rfl⟩,wp,dw,wl,ts,Z1+1,rfl,Z2,bJ hT _,?_⟩
 by_cases Z3:kI (ts.getD (Z1+1) "")=true
example:=by
 refine ⟨_,_,Z0,rfl,Z1 Z2,by kernel_rfl,?_⟩
example:=by
 walk_at "ho"
 nofun
example:=by
 have Z0:=hT.imp fun _ _ _ z=>RwAt.same z Z1
example:=by
 refine ⟨Nat.zero_le _,fun Z0 Z1=>?_⟩
 have Z2:=aH Z1 (.lst [])
example:=by
 refine ⟨_,_,_,Z0,rfl,_,⟨rfl,rfl⟩,wp,dw,wl,ts,Z1,_,rfl,Z2,Z3 ⟨Z4,?_⟩⟩
example:=by
 have Z0:=aH Z1 (Z2 Z3)
 have Z4:upd Z5 Z6 (Z2 Z3) Z6=some (Z2 Z3):=aA
 have Z7:All2 (StAt (upd Z5 Z6 (Z2 Z3))) Z8 Z3:=Z9 fun _ _ _ z=>z.same Z0
example:=by
 ·rintro i acc σ H' ⟨rfl,_,_⟩
  rw [List.length_map,List.length_take]
  omega
example:=by
 ·intro σ' H3 hM
  obtain ⟨D,us,rfl,SM,eD,ej,ul,uc⟩:=hM
  nofun
  refine ⟨sp1,D,us,rfl,rfl,eD,nA ?_,?_⟩
  ·exact Nat.le_trans (AX1 (k:=3000) ul uc (by decide)) (by decide)
  rw [AJ7,ej]
  exact q _ SM
example:=by
 rintro i y acc σ H' hy ⟨rfl,⟨v,rfl⟩,S1⟩
example:=by
 exists Bool.not_true
example:=by
 exact ⟨.tup Z0 i1,by show PyData.canLay0 (.tuple _)=true; rw [PyData.canLay0]; exact i2.1,by show PyData.depth (.tuple _)<=3; rw [PyData.depth]; have:=i2.2; exact Nat.succ_le_succ this⟩
example:=by
 ·cases hy
  exact .inr (.inl ⟨_,rfl,.inl ⟨by decide,rfl⟩,S1⟩)
example:=by
 ·obtain ⟨e,y,rfl,_⟩:=h
  rfl
 obtain ⟨e,y,rfl,he,q⟩:=h
 refine ⟨_,(aW (aJ (bN (BD8 (pv 0) (pv 1) rfl)))),?_⟩
 nofun
 obtain ⟨cdR,xs⟩:=B.xs
 exact ⟨_,he,_,xs,B.xmo,B.xna,q⟩
example:=by
 rintro acc σ H' ⟨rfl,⟨v,rfl⟩,S1⟩ D hD
example:=by
 rcases List.mem_append.mp Z0 with Z1 | Z1
example:=by
 refine ⟨_,_,_,hr1,B.ck_Opened.cl,B.na_Opened_sign,.str sg,rfl,?_⟩
 nofun
 by_cases Z0:sg=Z1
example:=by
 refine ⟨_,_,rfl,⟨_,.int Z0,by kernel_rfl,by kernel_rfl⟩,?_⟩
example:=by
 refine good ⟨hx,hy⟩ _ (fun b o n e=>?_) ?_
 ·rw [aG n,aG n,aG n]
  exact Z0 b o e
 ·rw [aA,e1,e2]
  exact congrArg (fun z=>some (HO.ins a.Raised dx z)) e3
example:=by
 nofun
 refine ⟨wl,rfl,W2,fun x H3 x0 x1 W3 D3=>?_⟩
 have B3:=B2.trans D3
 nofun
example:=by
 ·refine ⟨.inl ⟨by decide,by decide⟩,.inr ⟨by decide,by decide⟩,?_⟩
  exact q _ H4 ⟨by omega,by omega⟩ W4 (B1.trans (B2.trans (B3.trans B4)))
example:=by
 obtain ⟨wp,dw,wl,ts,i,rfl,W,hT,hl,hi,good,fail⟩:=h
example:=by
 have Z0:(Str.ofString Z1).length=Z2:=rfl
example:=by
 replace hf:=hf.same (Z0 Z1)
 replace hw:=hw.same (Z0 Z1)
example:=by
 rw [if_pos (show ¬ ((6:Nat):Int)=(ts.length:Int) by omega)]
 refine ⟨_,_,_,V6'.w,rfl,_,⟨rfl,rfl⟩,wp,dw,wl,ts,6,rfl,V6',?_⟩
example:=by
 refine ixt (SqT.of hp) (v:=.int Z0) rfl ?_
 nofun
example:=by
 have Z0:ts.getD Z1 ""=(Z2:Str):=by rw [e]; rfl
example:=by
 ·rw [if_pos Z0]
  have e:iL (.str u)=false:=decide_eq_false fun g=>by have:=Z1; omega
  rw [e] at q
  exact q _ fun _ _ z=>z
example:=by
 nofun
 refine ⟨_,_,W.w,(show 2 < 1000 by decide),?_⟩
 exact q
example:=by
 exact ⟨r,e1,B r _ (fun z=>by rw [z,e] at h1; cases h1) h1⟩
example:=by
 ·exact ⟨_,rfl,by decide,.inr ⟨Z0,by decide,by decide +kernel⟩⟩
example:=by
 show (bB x.1++".").length+(bB x.2).length<=1000000
 rw [Str.length_append]
 have:(".":Str).length=1:=rfl
 omega
example:=by
 have Z0:=aH Z1 (Z2 [.str "bell",.str "off"])
 have Z3:upd Z4 Z5 (Z2 [.str "bell",.str "off"]) Z5=some (Z2 [.str "bell",.str "off"]):=aA
example:=by
 refine ⟨sz8 (by first | decide | (simp only [List.length_cons,List.length_nil]; decide)),fun tp htp=>?_⟩
example:=by
 obtain ⟨wp,dw,wl,ts,i,rfl,W,q⟩:=h
example:=by
 refine ⟨x,dx,.str u,rfl,aA,.inl ⟨u,rfl,ht.1,ht.2.1,fun wl H1 hwl B1 W1=>⟨rfl,?_⟩⟩⟩
 have S1:=eA hx hd B1
example:=by
 have Z0:=Z1 Z2
 have Z3:=Z4 (Same.but Z2)
example:=by
 exact ⟨_,_,_,Z0,rfl,_,⟨rfl,rfl⟩,wp,dw,wl,ts,Z1,_,rfl,Z2,.inr ⟨Z3,fun y H2 S2=>fail rfl _ _ _ (.inl (.inr rfl)) (Z4 (Same.but S2))⟩⟩
example:=by
 first | refine jX ?_ | (dsimp only; refine jX ?_)
 nofun
example:=by
 by_cases Z0:k=Z1
 ·rw [if_pos Z0,decide_eq_false (by omega)]
  exact ⟨Z2,Z3,Z4⟩
example:=by
 unfold Ln.ws
 simp only [List.append_assoc,List.cons_append,AY5,BI7,List.append_nil,List.nil_append]
example:=by
 rw [Z0 (by omega)]
example:=by
 exists Z0,Bool.not_true
example:=by
 refine mU (Z0 Z1) (by decide) (by decide) fun Z2 H5 Z3 Z4 W5 B5=>?_
 have e5:=B5 Z5 _ Z6 Z7
example:=by
 refine ⟨_,rfl,⟨_,.int Z0,by kernel_rfl,by kernel_rfl⟩,?_⟩
example:=by
 have Z0:=aH Z1 (.tup [.int Z2,.int Z3])
 have Z4:upd Z5 Z6 (.tup [.int Z2,.int Z3]) Z6=some (.tup [.int Z2,.int Z3]):=aA
 have Z7:=Z8 Z0
example:=by
 exists wL
 exact ⟨ox,q _ fun _ _ z=>z⟩
example:=by
 obtain ⟨r,e1,h1⟩:=h
 exact ⟨r,e1,by rw [aG (fun z=>by rw [z,e] at h1; cases h1)]; exact h1⟩
example:=by
 exists decide_eq_false Z0,Bool.not_false
 exact fun y hy=>q3 c1 (fun z=>Z0 Z1) y _ (Z2 (Same.but (aH hy _)))
example:=by
 rcases hq with rfl | rfl <;> (dsimp only; decide)
example:=by
 simp only [cK,List.append_assoc]
 rfl
example:=by
 rcases q with ⟨c,_⟩ | ⟨_,q⟩
 ·exact absurd c (by omega)
 ·exact fun y hy=>q y _ (aH hy _)
example:=by
 refine ixl (SqL.of hw) (v:=.int a) rfl ?_
 nofun
example:=by
 exists Z0,Bool.not_false
 exact fun y hy=>q y _ (B1.trans (Same.but (S2.trans (aH hy _))))
example:=by
 obtain ⟨Z0,Z1,rfl⟩:=List.mem_map.mp Z2
example:=by
 rcases Z0 with ⟨Z1,_⟩ | ⟨_,Z0⟩
 ·exact absurd Z2 Z3
example:=by
 have e2:(us.map V.str).map AY6=us:=by rw [List.map_map]; exact List.map_id us
example:=by
 rw [if_neg (fun Z0=>Z0 rfl)]
example:=by
 refine .inr (.inr ⟨Z0,Z1,rfl,Z2 Z3,by omega,fun x hx=>?_⟩)
 obtain ⟨i,hi⟩:=List.mem_iff_getElem?.mp hx
example:=by
 rcases hq with rfl <;> (dsimp only; decide)
example:=by
 by_cases Z0:Z1 < ts.length
example:=by
 have g1:ts.getD 1 ""=bB m:=by rw [e]; rfl
 have g2:ts.getD 2 ""=Z0:=by rw [e]; rfl
example:=by
 refine ⟨_,_,_,hr1,B.ck_Opened.cl,B.na_Opened_inner,.ref il,rfl,?_⟩
 have l2:=h2 (Z0 Z1)
example:=by
 refine ⟨_,.inl (SqL.of hl),?_⟩
 rw [List.length_map]
 by_cases l0:us.length=0
example:=by
 rcases rV Z0 with ⟨m,h',d,o,l',⟨_,_,_,_,_,l8,l9⟩,er,_⟩ | ⟨m,d,_,er,_⟩ | ⟨z,_⟩
example:=by
 rcases rV Z0 with ⟨m,h,d,o,l,⟨hm,hh,hd,Z1,l1,l2,l3⟩,rfl,e⟩ | ⟨m,d,_,rfl,_⟩ | ⟨z,_⟩
example:=by
 ·rw [if_pos Z0]
  rw [e0 (fun z=>by have:=Z1; omega)] at q
  exact q _ fun _ _ z=>z
example:=by
 rw [if_neg h1]
 refine ⟨sz8 hl,?_⟩
 by_cases h2:(Z0:Int) < ((u.length:Nat):Int)
example:=by
 refine ⟨wl,rfl,Z0,fun Z1 Z2 Z3 Z4 Z5=>?_⟩
 have Z6:=Z7 Z5
 nofun
example:=by
 refine ⟨_,_,_,W2.w,rfl,_,⟨rfl,rfl⟩,x,dx,wl,_,_,rfl,W2,.inl ⟨rfl,?_⟩⟩
example:=by
 rw [(jA (by omega)).1] at Z0
example:=by
 have Z0:AA6 (.int Z1) Z2=false:=decide_eq_false Z3
 exists Z0,Bool.not_false
 exact bads fun z=>Z3 Z4
example:=by
 refine ⟨D,rfl,_,SqL.of aA,?_⟩
example:=by
 have lq:=hA.len
 nofun
 first | refine ⟨Z0,rfl,⟨Z1,Z2 Z3⟩,?_⟩ | refine ⟨⟨Z1,Z2 Z3⟩,?_⟩
example:=by
 rintro acc σ H' ⟨rfl,⟨v,rfl⟩,rfl⟩ D hD
example:=by
 refine ⟨LL _ (Nat.le_trans (Nat.add_le_add_right Z0 _) (by decide)),?_⟩
example:=by
 exists 2
 exists 2
 exists 2
 exists Z0
 exists Z1
example:=by
 exists 0,Fun.okX,Z0
example:=by
 exists 18,W.w,i,W
 exists 13,W1,W.take,i,1,B1,H
 exists 23,H,i,1,H1
example:=by
 refine mU Z0 (by decide) (by decide) fun Z1 Z2 Z3 Z4 Z5 Z6=>?_
 have Z7:=Z6 _ _ n2 Z8
example:=by
 have Z0:=aH Z1 (.tup [.str (Str.ofString "go"),.int Z2])
 have Z3:=Z0 _ _ Z4
 have Z5:=Z0 _ _ Z6
 exists 53,hT,Z0
 generalize upd Z7 Z8 (.tup [.str (Str.ofString "go"),.int Z2])=Z9 at *
example:=by
 ·exists 22,hq
  exists 109
 ·exists 22,hq
  exists 99
 ·exists 22,hq
  rcases hq with rfl | rfl | rfl <;> (dsimp only; decide)
example:=by
 exists 1,Z0
 obtain ⟨Z1,rfl,Z2,q⟩:=h
example:=by
 exists 11,pt,hpt
 exists 43,Z0,hpt,Z1,pt
example:=by
 exists 9,W1,Z0,H2,a2,b2,W2,B2
example:=by
 exists 28,Z0,B.ck_Raised.cl,B.na_Raised_minutes,B.na_Raised_times,B.na_Raised_to
 exists 68,Z0
example:=by
 exists 36,i
 obtain ⟨wp,dw,wl,ts,i,rfl,W,ht,q⟩:=h
example:=by
 exists Bool.not_false
example:=by
 have Z0:AA6 (.int Z1) Z2=true:=decide_eq_true Z3
example:=by
 have Z0:upd Z1 wp (.ins a.Words dw (bF wl (Z2+1))) Z3=some (Z4 (us.map V.str)):=by rw [aG Z5]; exact Z6
 exists 23,Z1,Z2,1,Z7
example:=by
 exists 2
 exists 2
 exists 5,hh
 exists 34,W3.w,3,W3,g3,H4,D4,W4,B4,B3.trans
example:=by
 nofun
 exists 9,W,r1,H1,a1,b1,W1,B1
 nofun
example:=by
 exists 127,Z0
 ·obtain ⟨wp,dw,wl,ts,i,Z1,rfl,_⟩:=h
  rfl
example:=by
 exists 127,Z0
 exists 36,i
 exists Z1
example:=hr.mono (by decide)
example:=bC (gD (K:=K) (T:=Z0) rfl) rfl B.isinstance PyProof.Rows.boot_isinstance (aK (aL (pv Z1) (aL (eO (v:=.ty Z0) rfl Z2 Z3 rfl) aC))) (he:=aD _ _ _ rfl) (hpl:=aF rfl)
example:=AD1 jN (hr.mono (by decide)) rfl (aK (aL (pv 4) aC)) (he:=aD _ _ _ rfl) (hpl:=aF rfl)
example:=pc aP hr rfl (aK (aL (pv 0) (aL aN aC)))
example:=cM (bZ (dZ (R:=fun H9=>E (.ref Z0) none H9) rfl rfl Z1 Z2 (fun _ _ _ _ _ _ _ I hx hE=>jS I hx hE)))
example:=dN (i:=0) (by decide:List.Nodup ([Z0]:List Str)) rfl (Or.inl (by kernel_rfl)) (Or.inr (by kernel_rfl))
example:=.lst ([.str "any",.str "kind fire",.str "kind not any fire",.str "place attic",.str "weight 3",.str "not kind flood",.str "not not place roof"]++[.str "( kind fire & weight 2 )",.str "( place attic | not ( kind flood & weight 5 ) )",.str "place any attic"])
example:=bP (bC (pB (K:=K) rfl) rfl B.isinstance PyProof.Rows.boot_isinstance (aK (aL (pv Z0) (aL (cV (v:=.ref _) rfl Z1 rfl) aC))) (he:=aD _ _ _ rfl) (hpl:=aF rfl))
example:=.lst ([.str "any",.str "kind",.str "place",.str "weight",.str "not",.str "by",.str "now",.str "hour",.str "day",.str "never",.str "sure",.str "raise",.str "zone"]++[.str "quiet",.str "a",.str "to"])
example:=.lst [.str "any",.str "kind",.str "place",.str "weight",.str "not",.str "by",.str "now",.str "hour",.str "day",.str "never",.str "sure",.str "raise",.str "zone"]
example:=.lst [.str "any",.str "kind fire",.str "kind not any fire",.str "place attic",.str "weight 3",.str "not kind flood",.str "not not place roof"]
example:=pv 0 (hv:=Or.inl (by kernel_rfl))
example:=.lst [.str "now",.str "now",.str "now",.str ("hour "++Str.ofString (toString m1)),.str ("day "++Str.ofString (toString m2)),.str "never"]
example:=bC Z0 rfl B.len PySem.boot_len (aK (aL (pv Z1) aC))
example:=pc Z0 hr rfl (aK (aL (pv Z1) aC))
example:=.lst ((wqT (r1 - 1439) none none []).map V.str++[.str (Str.join sp1 (("quiet":Str)::bB r4::bB ((r4+1+r5) % 1440)::wkW none))])
example:=Str.join sp1 (("quiet":Str)::bB r4::bB ((r4+1+r5) % 1440)::wkW none)
example:=aL (pv 0) aC
example:=aK (aL (pv Z0) aC)
example:=.lst [.str (Str.ofString "zone "++Str.ofString (toString (r1 - 1439)))]
example:=.inr ⟨rfl,(by decide:(Z0:Str)≠"end"),(by decide:(Z0:Str)≠"try")⟩
example:=(ts.drop (Z0+1)).takeWhile fun u=>decide (aZ u)
example:=dN (i:=Z0) (by decide:List.Nodup ([Z1,Z2]:List Str)) rfl (Or.inl (by kernel_rfl)) (Or.inr (by kernel_rfl))
example:=kG Z0 (hr.mono (by decide)) (kH (by kernel_rfl)) (aK (aL (pv 1 (hv:=Or.inr (Or.inl (by kernel_rfl)))) aC)) (he:=aD _ _ _ rfl) (hpl:=aF rfl)
example:=!(Builtin.Str.occurrences figs ⟨#[Z0]⟩ 0 figs.length 1).isEmpty
example:=Z0 (by kernel_rfl)
example:=bA (i:=Z0) Z1 rfl (Or.inl rfl) (Z2 Z3) (by kernel_rfl)
example:=eK (pv 0) rfl
example:=jO PySem.F.plainAttrs_str PySem.F.slot_str_split PySem.F.type_str_split AB1 (pv Z0) (aK (aL aO aC))
example:=aX dD (pv Z0) aO (bD _)
example:=gB Z0 (pv 0) aN (fun _ _=>rfl)
example:=[("try":Str),bB m,h,d,o]++[w]
example:=bN (dR (pv 0) (pv Z0) rfl)
example:=aK (aL aO aC)
example:=(r4+1+r5) % 1440
example:=.lst [.str "",.str " ann",.str " bo",.str " boss"]
example:=fs.reverse.map fun f=>V.ref f.r
example:=aJ (aV (aS uT))
example:=aL aO (aL aO (aL aO aC))
example:=S (by decide +kernel)
example:=.ref a.NoText
example:=bA (i:=3) sc_law_next.nd rfl (Or.inl rfl) (aS (bL qG (bL uJ (pv 3) (bL jP (bL qI (pv 3) aN) aN)) aN)) (by kernel_rfl)
example:=ts.getD i ""
example:=.lst ([("try":Str),bB m,h,d,o].map V.str)
example:=Same.but (aH hpt _)
example:=Z0 [.str "took",.str "not",.str "perhaps"]
example:=.lst (xs++[.ref pl])
example:=pc aP hr rfl (aK (aL (pv 0) (aL (bL AR3 aN aN) aC)))
example:=cV (v:=.int 1440) rfl B.MINUTES_OF_DAY ⟨_,rfl⟩
example:=ts.getD (Z0+1) ""
example:=aJ (aV (aS (pv Z0)))
example:=(ts.drop Z0).takeWhile fun u=>decide (aZ u)
example:=.lst ([.int 0]++ms.map V.int)
example:=.lst (rs.map (V.str ∘ Rw.tx))
example:=(lnL ls).map (Str.join sp1)
example:=Str.join sp1 (t.ws++L.ws)
example:=(ys++[V.ref p15]).set 0 (V.ref p17)
example:=.lst (roadT.map V.str)
example:=Int × Int × Option Str
example:=Txt.slice w8 none (some (1+r2))
example:=.lst [.int wa,.int wb,.int wc]
example:=upd (upd H1 p (.lst [.int 0])) p2 (.lst (ms.map V.int))
example:=List.replicate xs.length true
example:=aL (pv Z0) (aL (pv Z1) aC)
example:=.tup [.ty "list",.ty "tuple"]
example:=.tup [.str "try",.int m,.str Z0,.str Z1,.str Z2,.ref Z3]
example:=List.mem_cons_of_mem _ Z0
example:=u.cps.toList.map fun c=>!(Builtin.Str.occurrences Z0 ⟨#[c]⟩ 0 Z1 1).isEmpty
example:=(k=3/\us=[]/\su=false/\ra=none)\/(k≠3/\us≠[])
example:=toString (rs.length:Int)
example:=cV (v:=.str Z0) rfl Z1 ⟨_,rfl⟩
example:=(∀ u∈us,aZ u)/\us.Nodup
example:=(k:Int)=(ts.length:Int)
example:=upd (upd Z0 dx (.own x)) x (.ins Z1 dx [])
example:=("quiet":Str)++sp1++(bB x++sp1++bB y)
example:=bK (qE (yY (pv 0))) (aJ (bN AY9)) aU
example:=bA (i:=Z0) Z1 rfl (Or.inl rfl) (aS (aR (pv Z2) Z3 Z4 ↑144)) (by kernel_rfl)
example:=cM (bZ (cY (R:=fun dx H9=>E ↑184 (some dx) H9) aY rfl rfl ↑144 fG))
example:=Z0 (dE (pv 0) Z1 Z2 ↑144 ↑177 (hst:=aD _ _ _ rfl) (hpl:=aF rfl))
example:=bK (nomatch 173,Z0) (aJ (aV (aS (mL Z1 bX ↑144 rfl (aK (aL (aR (pv 0) Z2 bX ↑144) aC)) (he:=aD _ _ _ rfl) (hpl:=aF rfl))))) aU
example:=Z0 Z1 ↑144 rfl (aK ↑161) (he:=aD _ _ _ rfl) (hpl:=aF rfl)
example:=bC (vQ rfl) rfl B.all PyProof.Rows.boot_all (aK (aL (eH ["sign"] [none] rfl (by kernel_rfl) (BQ2 (pv 0)) (fun cl C s H fp=>⟨(nomatch 149,"sign"),gC,(gX AG6 ↑155 (cV (v:=.str Z0) (nomatch 169,kH) Z1 ⟨_,rfl⟩) (by with_unfolding_all rfl))⟩)) aC)) (he:=aD _ _ _ rfl) (hpl:=aF rfl)
example:=Z0 (Z1 Z2 ↑144 rfl (nomatch 162,Z3) (he:=aD _ _ _ rfl) (hpl:=aF rfl))
example:=bK (cH (bP (cJ bU ↑144 rfl (aK (aL (pv Z0) (aL aN aC))) (he:=aD _ _ _ rfl) (hpl:=aF rfl)))) (nomatch 148,Z1,Z2,Z3) aU
example:=aK (aL (eH [Z0] [none] rfl (by kernel_rfl) (sH (pv 0)) (fun cl C s H fp=>⟨(nomatch 149,Z0),gC,(kG Z1 ↑144 (nomatch 169,kH) (aK (aL ↑155 aC)) (he:=aD _ _ _ rfl) (hpl:=aF rfl))⟩)) aC)
example:=bM bV rfl B.str PyProof.Rows.boot_str (aK (aL ↑147 aC))
example:=aL (aR (pv 0) Z0 Z1 ↑144) aC
example:=aR (pv 0) Z0 Z1 ↑144
example:=cH (bP (nomatch 145,"list",Z0,B.list,PyProof.Rows.boot_list))
example:=bK (aX dD (pv 1) aN (bD _)) (aJ (aV (aS (dI (aK (aL aO (aL (pv 2) (aL (pv 3) (aL (nomatch 158,Z0,0) (aL (nomatch 158,Z1,0) aC)))))))))) aU
example:=bM bV (nomatch 169,kH) B.str PyProof.Rows.boot_str (aK (aL (gB (BQ3 (K:=K) rfl) ↑155 aN (fun _ _=>rfl)) aC))
example:=jO PySem.F.plainAttrs_str PySem.F.slot_str_startswith PySem.F.type_str_startswith qN (pv 0) ↑177
example:=bK (aX dD ↑171 aO (bD _)) (aJ (aV (aS (mL Z0 bX ↑144 rfl (aK (aL ↑171 aC)) (he:=aD _ _ _ rfl) (hpl:=aF rfl))))) aU
example:=bK (aX dD (pv 1) aN (bD _)) (aJ (aV (aS (dI (aK (aL aO (aL (pv 2) (aL (pv 3) (aL (nomatch 158,Z0,0) aC))))))))) aU
example:=aX Z0 (nomatch 157,Z1,Z2) aN (bD _)
example:=bA (i:=2) Z0 rfl (Or.inl rfl) (aS (mL iQ dJ ↑144 rfl (aK ↑161) (he:=aD _ _ _ rfl) (hpl:=aF rfl))) (by kernel_rfl)
example:=aK (aL ↑155 aC)
example:=bA (i:=Z0) Z1 rfl (Or.inl rfl) (aS (nomatch 158,Z2,Z3)) (by kernel_rfl)
example:=bM eB rfl B.list PyProof.Rows.boot_list (nomatch 162,Z0)
example:=u.cps.toList.map fun c=>(nomatch 168,c)
example:=upd (upd H3 op (.lst (↑180++[.ref x]))) wp (.ins a.Words dw (bF wl (k+2)))
example:=aX dD ↑147 aN (bD _)
example:=ts.getD (i+2) ""
example:=.lst ((↑175).map V.str)
example:=(ts.drop (Z0+2)).take (dH (nomatch 193,Z0)).toNat
example:=bL oS (bC cI rfl B.len PySem.boot_len (aK (aL ↑171 aC))) ↑171
example:=bA (i:=Z0) Z1 rfl (Or.inl rfl) (aS ↑Z2) (by kernel_rfl)
example:=.lst (ys++[.ref p15])
example:=B1.trans (Same.but (aH hy _))
example:=bK (nomatch 173,Z0) (aJ (aV (aS (AN2 Z1 rfl Z2)))) aU
example:=aB (bN (bW (aR (pv Z0) cQ Z1 ↑144))) (nomatch 194,Z2)
example:=bK (cH (nomatch 151,Z0,Z1)) (nomatch 148,a.NoWish,B.NoWish,B.exc_NoWish) aU
example:=cJ Z0 ↑144 rfl (aK (nomatch 207,Z1,1)) (he:=aD _ _ _ rfl) (hpl:=aF rfl)
example:=aX xX (nomatch 158,gP,Z0) (pv 4) (bD _)
example:=vX rfl B.range (aK (aL (bL jP aN ↑147) aC))
example:=Z0 Z1 ↑171 (bC cI rfl B.len PySem.boot_len (aK (aL ↑171 aC))) (bD _)
example:=pc cC hr rfl (aK (aL (nomatch 174,wG) aC))
example:=pc Z0 hr rfl (aK (aL (pv Z1) (aL aN aC)))
example:=aX AV1 (nomatch 157,gU,0) (cV (v:=.int Z0) rfl Z1 ⟨_,rfl⟩) (bD _)
example:=aS (gB dO (pv 1) ↑147 (fun _ _=>rfl))
example:=bN (bW (nomatch 158,Z0,Z1))
example:=bA (i:=4) Z0 rfl (Or.inl rfl) (nomatch 222,aS,dA,bX) (by kernel_rfl)
example:=bK (nomatch 173,1) (aJ (aV (aS (dI (aK (aL (pv 1) (aL (nomatch 231,aM,dJ) (aL (nomatch 231,cL,dJ) (aL (nomatch 231,Z0,dJ) (nomatch 230,Z1,dJ)))))))))) aU
example:=bN (bW (jO PySem.F.plainAttrs_list PySem.F.slot_list_append PySem.F.type_list_append fE (pv Z0) (aK (aL (nomatch 224,cJ,Z1) aC))))
example:=bM bV rfl B.str PyProof.Rows.boot_str (nomatch 162,Z0)
example:=Z0 (Z1 (nomatch 145,"bool",Z2,B.bool,PyProof.Rows.boot_bool))
example:=bA (i:=Z0) sc_line_from_wording.nd rfl (Or.inl rfl) (aS (nomatch 224,cJ,Z1)) (by kernel_rfl)
example:=bM (uO hr) (nomatch 169,kH) B.str PyProof.Rows.boot_str ↑240
example:=bK (cH (bP (nomatch 145,"str",Z0,B.str,PyProof.Rows.boot_str))) ↑221 aU
example:=bN (nomatch 222,bW,jM,bX)
example:=aB (nomatch 253,Z0,Z1,Z2) (aB (nomatch 223,Z0,Z3,Z4) (aB (nomatch 223,Z0,Z5,Z4) (aB (nomatch Z6,Z0,Z7,Z8) ↑221)))
example:=bK (nomatch Z0,Z1,Z2,Z3) (nomatch 148,a.NoWish,B.NoWish,B.exc_NoWish) aU
theorem mU {H:Hp}{w:Addr}{m:Int}{Q:VK}{E:XK}(W:Well3 H w)(h0:0 < m)(h1:m < 2 ^ 62)(q:∀ (r:Int) (H':Hp),0<=r->r < m->Well3 H' w->But w H H'->Q (.int r) H'):dC K a [.ref w,.int m] H Q E:=⟨w,m,rfl,W,h0,h1,q⟩
theorem AD1 {X:Cx}{x:Str}{ps:List Str}{k:Nat}{sp:Sp}{e:Expr}{es:List Expr}{t:TA}{p pos:Pos}(C:CR8 X.prog X.w X.K X.mg X.base x ps k sp)(hr:Room k X.A)(hg:Gl X x)(ha:PA X (e::es) t)(hdb:(x == ("__debug__":Str))=false:=by decide)(he:starEach (e::es) X.env=(false,eval e X.env)::starEach es X.env:=by rfl)(hpl:(backTo pos (starEach es X.env)).any (·.1)=false:=by rfl) :
  PE X (.Call (.Name x p) (e::es) [] pos) (AL7 sp [] E0 t):=by
 obtain ⟨f,fd,F,b,kp,m⟩:=C.ex
 exact zW F hr hg m kp b .nil wH ha hdb he hpl
theorem AP1 (B:Bt K mg a)(F:Fun K "is_whole" "is_whole" sU f fd):FnOk P w K mg base CX0 1 f fd ["thing"] (pO K a):=by
 exists 1,AO9
 obtain ⟨x,rfl,⟨t,ty,ki,kb⟩,q⟩:=h
 refine ⟨_,(aW (aJ (aV (aS (uI (nomatch 145,"int",0,B.int,PyProof.Rows.boot_int) (nomatch 269,vW,BO7,0)))))),?_⟩
 nofun
 refine ⟨x,t,_,rfl,ty,ki,?_⟩
 nofun
 cases x <;> try simp only [BP6,AT0,BK3,CJ2,CD9,CA9,CL1,CL4,CL2,CL3,BA6,BT2,BT3,BA7,BA8,BK4,AA1,BA9,BK5,w_c,CJ3,CL5,CL6,BK6,CL7,BB0,w_b,BT4,CL8,w_not,BB1,BT5,BB2,CL9,AR8,BK7,BT6,BT7,AR9,CM0,CM1,CM2,BT8,BB3,CM8,BB4,AA2,BB5,w_K,AM4,CN0,BV1,AM5,AM6,BU5,AM7,AM8,AM9,CN4,BU6,BU7,BC2,BU8,BC3,AN0,AN1,BC7,BV0,BC8,AN3,BD0,BC9,AN4,AB7,AO3,BF1,BE4,AO5,BE9,AB0,AN9,AB3,BE1,BE3,CN1,AN6,AN5,Option.getD_some, exists_const,false_or,or_false,exists_false,CM3,CM4,CM5,CM6,CM7,L2.start,List.map_cons,List.map_nil,List.length_cons,List.length_nil,List.replicate,List.replicate_zero,List.replicate_succ,Nat.reduceAdd,Nat.reduceSub,Nat.reduceLeDiff,List.cons_append,List.nil_append,List.append_nil,List.set_cons_zero,List.set_cons_succ,List.getElem?_cons_zero,List.getElem?_cons_succ,Option.some.injEq,V.int.injEq,V.bl.injEq,V.ref.injEq,V.str.injEq,V.ty.injEq,List.cons.injEq,and_true,true_and,exists_eq_left,exists_eq_left',exists_and_left,exists_eq,exists_eq',and_self,decide_eq_true_eq,Bool.not_eq_true',decide_eq_false_iff_not,Bool.true_eq_false,Bool.false_eq_true,if_true,if_false,ite_true,ite_false,false_and,and_false,and_assoc,reduceCtorEq] at * <;> first | exact q | exact ⟨_,t,_,rfl,ty,kb,q⟩ | (refine ⟨_,t,_,rfl,ty,kb,?_⟩; simpa [BA5] using q)
theorem vA (B:Bt K mg a)(iS:CalX P w K mg base "is_whole" ["thing"] 1 (pO K a))(F:Fun K "is_whole_from" "is_whole_from" jC f fd):FnOk P w K mg base CX0 2 f fd ["thing","least"] (eQ K a):=by
 exists 1,uV
 obtain ⟨x,lo,rfl,ox,q⟩:=h
 refine ⟨_,(aW (aJ (aV (aS (uI (nomatch 158,iS,0) (vW (gX BS6 (pv 1) (pv 0) (bD _)))))))),?_⟩
 nofun
 refine ⟨x,rfl,ox,?_⟩
 cases x <;> simp_all [CD9,CA9,AT0,AA6]
theorem AW9 (B:Bt K mg a)(F:Fun K "is_name" "is_name" wT f fd):FnOk P w K mg base CX0 1 f fd ["thing"] (iR K a):=by
 exists 132,AW7,x,ox
 refine ⟨_,(aW (aB (bK (L2.PW.pt (kE (cH (bP (bC AH8 rfl B.isinstance PyProof.Rows.boot_isinstance (aK (aL (pv 0) (aL (eO (v:=.ty "str") rfl B.str PyProof.Rows.boot_str rfl) aC))) (he:=aD _ _ _ rfl) (hpl:=aF rfl)))) (kE (nomatch 238,AL5,gU,0) (iU (nomatch 262,8,B.MOST_LETTERS))))) ↑181 aU) (aJ (aV (aS (nomatch 225,"abcdefghijklmnopqrstuvwxyz",B.LETTERS)))))),?_⟩
 cases x with
 | str u =>
  obtain ⟨hp,hl⟩:=id ox
  exists wL
  refine ⟨ox,sz8 hl,?_⟩
  by_cases h1:((u.length:Nat):Int) < 1
  exists 77,h1,g.1
  exists 117,8
  exists 77,h2,g.2.1
  exists 7,letters,letters.length
  ·exists 124
   have e:(u.cps.toList.take u.cps.size).map (fun c=>V.bl (!(Builtin.Str.occurrences letters ⟨#[c]⟩ 0 letters.length 1).isEmpty))=(nomatch 211,letters,letters.length).map V.bl:=by
    rw [List.take_of_length_le (by simp),List.map_map]
    rfl
   rw [e]
   exists 122
   have e2:iL (.str u)=decide (∀ c∈u.cps.toList,97<=c/\c<=122):=by
    rw [Bool.eq_iff_iff]
    refine ⟨fun g=>?_,fun g=>?_⟩
    ·have g':aZ u:=of_decide_eq_true g
     exact decide_eq_true g'.2.2
    ·exact decide_eq_true (p:=aZ u) ⟨by omega,by omega,of_decide_eq_true g⟩
   rw [BL3 hp,<- e2]
   exact q _ (aH hD _)
 | non =>
  exists 96
 | bl b =>
  exists 96
 | int b =>
  exists 96
 | ref b =>
  exists 96
 | _=>exact ox.elim
theorem rM (B:Bt K mg a)(F:FunA K "__init__" "NoText.__init__" bI f fd):FnOk P w K mg base CX0 1 f fd ["self","line"] (jY K a):=by
 exists 0,FunA.ok,jV
 exists 63
theorem zT (B:Bt K mg a)(F:FunA K "__init__" "NoText.__init__" bI f fd):FnOkH P w K mg base (CXF P w) 1 f fd ["self","line"] (jY K a):=by
 refine CE6 F jV (fun vs H Q E h=>?_) (fun cdv A outer s H vs Q E h=>?_)
 exists 63
def figs:Str:="0123456789"
theorem BH0 {c:Nat}(h:c < 128):(nomatch 168,c)=decide (48<=c/\c<=57):=by
 have q:∀ k:Fin 128,(nomatch 168,k.val)=decide (48<=k.val/\k.val<=57):=by decide +kernel
 exact q ⟨c,h⟩
theorem BN4 {u:Str}(h:eN u=true):(nomatch 211,figs,figs.length).all id=decide (∀ c∈u.cps.toList,48<=c/\c<=57):=by
 rw [Bool.eq_iff_iff,List.all_eq_true,decide_eq_true_eq]
 constructor
 ·intro z c hc
  have q:=z _ (List.mem_map.mpr ⟨c,hc,rfl⟩)
  rw [BH0 (plain_iff.mp h c hc)] at q
  simpa using q
 ·intro z x hx
  exists 104,c,hc,hx
  rw [BH0 (plain_iff.mp h c hc)]
  exact decide_eq_true (z c hc)
theorem AD2 (B:Bt K mg a)(F:Fun K "is_figures" "is_figures" nC f fd):FnOk P w K mg base CX0 1 f fd ["word"] (rA K a):=by
 exists 1,AC1
 obtain ⟨u,rfl,hp,hl,q⟩:=h
 refine ⟨_,(aW (aB (bK (L2.PW.pt (kE (nomatch 238,AL5,gU,0) (kE (nomatch 262,60,B.MOST_FIGURES) (iU (cH (bP (nomatch 225,"0123456789",B.FIGURES))))))) ↑181 aU) (aJ (aV (aS (CJ8 (gX dD (pv 0) aO (bD _)) (vW (BO7 ↑235)))))))),?_⟩
 have e0:¬ (1<=u.length/\u.length<=60/\∀ c∈u.cps.toList,48<=c/\c<=57)->AI2 u=false:=fun z=>by unfold AI2; rw [decide_eq_false z]; rfl
 nofun
 refine ⟨sz8 hl,?_⟩
 by_cases h1:((u.length:Nat):Int) < 1
 exists 116,h1,z.1
 exists 117,60
 exists 116,h2,z.2.1
 exists 7,figs,figs.length
 ·exists 124
  have e:(u.cps.toList.take u.cps.size).map (fun c=>V.bl (nomatch 168,c))=(↑243).map V.bl:=by
   rw [List.take_of_length_le (by simp),List.map_map]
   rfl
  rw [e]
  exists 122
  have S2:=aH hD (.lst ((↑243).map V.bl))
  generalize upd H' D (.lst ((↑243).map V.bl))=H2 at *
  rw [BN4 hp]
  by_cases c:∀ c∈u.cps.toList,48<=c/\c<=57
  ·rw [decide_eq_true c]
   have e2:AI2 u=(decide (u="0") || !Txt.startswith u "0"):=by unfold AI2; rw [decide_eq_true ⟨by omega,by omega,c⟩,Bool.true_and]
   exists 60
   rw [e2] at q
   by_cases z:u="0"
   ·rw [decide_eq_true z,Bool.true_or] at q
    rw [if_pos z]
    exact q _ S2
   ·rw [decide_eq_false z,Bool.false_or] at q
    rw [if_neg z]
    exact q _ S2
  ·rw [decide_eq_false c]
   rw [e0 (fun z=>c z.2.2)] at q
   exists 137
   exact q _ S2
theorem AJ4 (B:Bt K mg a)(kB:CalX P w K mg base "is_figures" ["word"] 1 (rA K a))(F:Fun K "is_number" "is_number" pH f fd):FnOk P w K mg base CX0 2 f fd ["word"] (uP K a):=by
 exists 1,AI9
 obtain ⟨u,rfl,hp,hl,q⟩:=h
 refine ⟨_,(aW (aB (bK (bP ↑235) (aJ (aV (aS (uI (pc kB hr rfl (aK (aL (jR AS6 (pv 0) (kF aN) sM) aC))) (vW (gX xX (pv 0) aO (bD _))))))) aU) (aJ (aV (aS (nomatch 158,kB,0)))))),?_⟩
 nofun
 cases c:Txt.startswith u "-" with
 | true =>
  have e:kI u=(AI2 (Txt.slice u (some 1) none) && !decide (u="-0")):=by unfold kI; rw [if_pos c]
  rw [e] at q
  rw [if_pos rfl]
  refine ⟨sz8 hl,_,rfl,?_,Nat.le_trans (Txt.slice_le u _ _) hl,fun H1 S1=>?_⟩
  ·rw [plain_iff]
   intro c hc
   exact plain_iff.mp hp c (BD1 hc)
  cases d:AI2 (Txt.slice u (some 1) none) with
  | true =>
   rw [d,Bool.true_and] at q
   nofun
   exact q _ S1
  | false =>
   rw [d,Bool.false_and] at q
   nofun
   exact q _ S1
 | false =>
  have e:kI u=AI2 u:=by unfold kI; rw [if_neg (by rw [c]; decide)]
  rw [e] at q
  rw [if_neg (by decide)]
  exact ⟨u,rfl,hp,hl,q⟩
theorem tL (B:Bt K mg a)(aY:CalI P w K mg base "NoText" a.NoText "line" 1 (.int 0))(F:Fun K "__init__" "Words.__init__" hJ f fd):FnOk P w K mg base (CXF P w) 3 f fd ["self","text"] (dG K a):=by
 exists 127,sV
 ·obtain ⟨p,dx,x,rfl,_⟩:=h
  rfl
 obtain ⟨p,dx,x,rfl,hp,q⟩:=h
 refine ⟨_,(aW (aB (nomatch 272,1) (aB (bN (dR (pv 0) (nomatch 172,1) rfl)) (aJ (bN (dR (pv 0) aN rfl)))))),?_⟩
 nofun
 rcases q with ⟨u,rfl,hl,hz,q⟩ | ⟨⟨t,ty,e⟩,q⟩
 ·exists 44,.str,u
  refine ⟨by decide,Nat.le_trans (by omega) (show (200002:Nat)<=sizeLine by decide),by exact sz8 hz,fun l hl1=>?_⟩
  have nl:p≠l:=aQ hp hl1
  have hp1:upd H l (.lst ((Txt.split u sp1).map V.str)) p=some (.ins a.Words dx []):=by rw [aG nl]; exact hp
  refine ⟨_,_,_,hp1,B.ck_Words.cl,B.na_Words_words,by decide,_,_,_,aA,B.ck_Words.cl,B.na_Words_at,(show 1 < 1000 by decide),?_⟩
  refine q l _ hl1 (fun b o n e=>?_) ⟨aA,?_⟩
  ·rw [aG n,aG n,aG (aQ e hl1)]
   exact e
  ·rw [aG nl.symm,aG nl.symm]
   exact aA
 ·refine ⟨_,_,false,rfl,ty,e,?_⟩
  exists 137
  exact fun y hy=>q y _ (aH hy _) aA
theorem tM (B:Bt K mg a)(F:Fun K "is_ended" "Words.is_ended" hU f fd):FnOk P w K mg base CX0 1 f fd ["self"] (kZ K a):=by
 exists 1,sW
 exists 84
 refine ⟨_,(aW (aJ (aV (aS (nomatch 259,gX,dD))))),?_⟩
 nofun
 exists 26
 nofun
 exists 45
 exists List.length_map
 exact q
theorem AD3 (B:Bt K mg a)(F:Fun K "look" "Words.look" nE f fd):FnOk P w K mg base CX0 1 f fd ["self"] (rB K a):=by
 exists 1,AC2
 exists 84
 refine ⟨_,(aW (aJ (aV (aS (oG (nomatch 259,aX,AL5) (gB dO ↑171 ↑171 (fun _ _=>rfl)) aO))))),?_⟩
 nofun
 exists 26
 nofun
 exists 45
 exists List.length_map
 exists 110,c,i
 ·exists 91,if_pos
  refine ⟨_,_,_,W.w,B.ck_Words.cl,B.na_Words_words,.ref wl,rfl,?_⟩
  nofun
  exists 26
  refine ixl (SqL.of W.l) (v:=.str ↑186) ?_ q
  refine wF ?_
  rw [List.getElem?_map,List.getD_eq_getElem?_getD,List.getElem?_eq_getElem c]
  rfl
 ·exists 91,if_neg
  exists 120,q
  exact q
theorem AD4 (B:Bt K mg a)(dX:∀ C sp,pQ K a C sp->CalM P w K mg base C "look" ["self"] 1 sp)(F:Fun K "take" "Words.take" jW f fd):FnOk P w K mg base CX0 2 f fd ["self"] (lU K a):=by
 exists 1,sc_Words_take
 exists 84
 refine ⟨_,(aW (aB (nomatch 220,1,sc_Words_take.nd,0,dX,wH) (aB (bN (wC (pv 0) aN AR5)) (nomatch 194,1)))),?_⟩
 exists 18,W.w,i,W
 nofun
 exists 26
 exists 78
theorem pR (B:Bt K mg a)(dQ:∀ C sp,lX K a C sp->CalM P w K mg base C "is_ended" ["self"] 1 sp)(aY:CalI P w K mg base "NoText" a.NoText "line" 1 (.int 0))(F:Fun K "expect_end" "Words.expect_end" fL f fd):FnOk P w K mg base (CXF P w) 3 f fd ["self"] (jG K a):=by
 exists 143,pI,84
 refine ⟨_,(aW (aJ (bK (cH (bP (nomatch 231,dQ,bX))) ↑221 aU))),?_⟩
 exists 18,W.w,i,W
 nofun
 exists 41,e
 ·exists 91,if_neg
  exact q
 ·exists 91,if_pos
  exact fun y hy=>q y _ (aH hy _) aA
theorem oP (B:Bt K mg a)(cD:∀ C sp,iE K a C sp->CalM P w K mg base C "take" ["self"] 2 sp)(pY:CalX P w K mg base "is_number" ["word"] 2 (uP K a))(aY:CalI P w K mg base "NoText" a.NoText "line" 1 (.int 0))(F:Fun K "take_number" "Words.take_number" eV f fd):FnOk P w K mg base (CXF P w) 3 f fd ["self"] (iI K a):=by
 exists 127,sc_Words_take_number
 exists 136
 refine ⟨_,(aW (aB (nomatch 220,1,sc_Words_take_number.nd,0,cD,bX) (aB (bK (cH (nomatch 226,bP,cJ,pY,1)) ↑221 aU) (aJ (aV (aS (bM AB2 rfl B.int PyProof.Rows.boot_int (nomatch 162,1)))))))),?_⟩
 exists 128
 nofun
 refine ⟨_,rfl,ht.1,by have:=ht.2.1; omega,fun H2 S2=>?_⟩
 nofun
 exists 41,e
 ·exists 92,e
  obtain ⟨n,hn⟩:=ht.2.2 e
  have e2:dH ↑186=n:=by unfold dH; rw [hn]; rfl
  refine ⟨n,hn,by have:=ht.2.1; omega,?_⟩
  rw [<- e2]
  exact q _ (B1.trans (Same.but S2)) (W1.same S2)
 ·exists 103,e
theorem AX0 {ts:List Str}{i k:Nat}(h:k=i)(c:aZ ↑186):(nomatch 195,i)=ts.getD i ""::(nomatch 165,i):=by
 exists 110,hi,i
 ·rw [gZ hi,List.takeWhile_cons,decide_eq_true c,if_pos rfl]
 ·exists 120,c
  exact absurd c (by decide)
theorem BH1 {ts:List Str}{i:Nat}(c:¬ aZ ↑186):(nomatch 195,i)=[]:=by
 exists 110,hi,i
 ·rw [gZ hi,List.takeWhile_cons,decide_eq_false c]
  rfl
 ·rw [(jA (by omega)).2]
  rfl
def CG9 (a:Ad)(H:Hp)(wp dw wl l:Addr)(ts:List Str)(i:Nat)(σ:L2.St)(H1:Hp):Prop:=∃ (us:List Str) (k:Nat),σ=[some (.ref wp),some (.ref l)]/\But wp H H1/\WAt a.Words H1 wp dw wl ts k/\H1 l=some (.lst (us.map V.str))/\us.length<=k/\k=i+us.length/\k<=i+ts.length/\(i<=ts.length->k<=ts.length)/\us++(nomatch 195,k)=(nomatch 195,i)
theorem BY4 {ts:List Str}{i:Nat}(c:aZ ↑186):i < ts.length:=by
 exists 110,hi,i
 ·exact hi
 ·exists 120,c
  exact absurd c (by decide)
theorem pS (B:Bt K mg a)(cU:CalX P w K mg base "is_name" ["thing"] 1 (iR K a))(dX:∀ C sp,pQ K a C sp->CalM P w K mg base C "look" ["self"] 1 sp)(cD:∀ C sp,iE K a C sp->CalM P w K mg base C "take" ["self"] 2 sp)(F:Fun K "take_names" "Words.take_names" fN f fd):FnOk P w K mg base CX0 3 f fd ["self"] (jI K a):=by
 exists 1,sc_Words_take_names
 obtain ⟨wp,dw,wl,ts,i,rfl,W,hT,hl,q⟩:=h
 refine ⟨_,(aW (aB (nomatch 170,1,sc_Words_take_names.nd,iW,aC) (aB (bN (oH PassesOwn.never (bP (pc cU hr rfl (aK (nomatch 230,dX,wH)))) (aW (aJ (bN (bW (jO PySem.F.plainAttrs_list PySem.F.slot_list_append PySem.F.type_list_append fE (pv 1) (aK (nomatch 230,cD,wH))))))))) (nomatch 194,1)))),?_⟩
 nofun
 exists 54,l,hl0,S0
 exists 35,nl,l,wp,W.w,hl0
 exists 35,nl2,l,wl,W.l,hl0
 refine whl (CG9 a H wp dw wl l ts i) (fun _ H1=>3000+i - yH wp H1) ⟨[],i,rfl,Same.but S0,W.same S0,aA,Nat.zero_le _,rfl,by omega,fun h=>h,by rw [List.nil_append]⟩ ?_
 rintro σ H1 ⟨us,k,rfl,B1,W1,e1,l1,ek,lk,lk2,eq⟩
 exists 18,W1.w,k,W1
 refine ⟨_,rfl,AD0 (bJ hT k),fun H2 S2=>?_⟩
 have B2:=B1.trans (Same.but S2)
 have W2:=W1.same S2
 have e2:=S2 _ _ e1
 nofun
 by_cases c:aZ (ts.getD k "")
 ·have cn:iL (.str (ts.getD k ""))=true:=decide_eq_true c
  rw [cn,if_pos rfl]
  have kl:=BY4 c
  refine ⟨fun σ' H'=>CG9 a H wp dw wl l ts i σ' H'/\3000+i - yH wp H' < 3000+i - yH wp H1,fun σ' H' h=>⟨_,h.2,rfl,h.1⟩,?_⟩
  nofun
  refine ⟨.inl ⟨rfl,_,SqL.of e2⟩,?_⟩
  exists 18,W2.w,k,W2
  have W3:=W2.take (k+1)
  have B3:But wp H (upd H2 wp (.ins a.Words dw (bF wl (k+1)))):=B2.trans (But.upd _)
  exists 139,e3,H2,k,l,.lst,nl,e2,H3
  refine ⟨l,_,_,rfl,rfl,e3,?_,?_⟩
  ·rw [List.length_map]
   exact Nat.lt_of_le_of_lt (show us.length<=1000 by omega) (by decide)
  have W4:WAt a.Words (upd H3 l (.lst (us.map V.str++[.str (ts.getD k "")]))) wp dw wl ts (k+1):=⟨by rw [aG nl.symm]; exact W3.w,by rw [aG nl2.symm]; exact W3.l⟩
  refine ⟨⟨us++[ts.getD k ""],k+1,rfl,fun b o n e=>?_,W4,by rw [aA,List.map_append]; rfl,by rw [List.length_append,List.length_singleton]; omega,by rw [List.length_append,List.length_singleton]; omega,by omega,fun _=>by omega,?_⟩,?_⟩
  ·rw [aG (aQ e hl0)]
   exact B3 b o n e
  ·rw [List.append_assoc,List.singleton_append,<- AX0 rfl c]
   exact eq
  ·rw [qZ W4,qZ W1]
   omega
 ·have cn:iL (.str (ts.getD k ""))=false:=decide_eq_false c
  rw [cn,if_neg (by decide)]
  rw [BH1 c,List.append_nil] at eq
  rw [<- eq] at q
  nofun
  refine q l H2 B2 hl0 e2 ?_
  rw [<- ek]
  exact W2
theorem AD5 (u:Str):∀ us:List Str,inV (.str u) (us.map V.str)=decide (u∈us)
 | []=>rfl
 | v::us=>by
  have e:inV (.str u) ((v::us).map V.str)=(eqV (.str v) (.str u) || inV (.str u) (us.map V.str)):=rfl
  rw [e,AD5 u us]
  have e2:eqV (.str v) (.str u)=decide (v=u):=by
   first | rfl | (unfold eqV; by_cases c:v=u <;> simp [c])
  rw [e2]
  by_cases c:v=u
  ·simp [c]
  ·have c':¬ u=v:=fun z=>c z.symm
   simp [c,c']
theorem xI:∀ us:List Str,(us.map V.str).all zZ=true
 | []=>rfl
 | v::us=>by rw [List.map_cons,List.all_cons,xI us]; rfl
theorem pT (B:Bt K mg a)(cU:CalX P w K mg base "is_name" ["thing"] 1 (iR K a))(F:Fun K "are_unlike_names" "are_unlike_names" fK f fd):FnOk P w K mg base CX0 2 f fd ["thing"] (eX K a):=by
 exists 1,pG
 obtain ⟨x,b,rfl,hx,q⟩:=h
 refine ⟨_,(aW (aB (bK (L2.PW.pt (kE (nomatch 232,0) (iU (cH (bP (bC (vQ rfl) rfl B.all PyProof.Rows.boot_all (nomatch 228,"name",cU) (he:=aD _ _ _ rfl) (hpl:=aF rfl))))))) ↑181 aU) (aJ (aV (aS (gX dD (bC BD4 rfl B.len PySem.boot_len (aK (aL (bM (BD3 rfl) rfl B.set PyProof.Rows.boot_set (aK ↑161)) aC))) (nomatch 157,cI,0) (bD _))))))),?_⟩
 nofun
 rcases hx with ⟨p,xs,rfl,hp,hl,hn,rfl⟩ | ⟨rfl,t,ty,e⟩
 ·exists 44,.lst,hp
  refine ⟨⟨xs,SqL.of hp⟩,?_⟩
  exists 29,CompL.by,xs,xs.take,iL,V.bl,SqL.of,hp
  ·exists 59
   have ea:((xs.take i).map iL).map V.bl++[V.bl (iL y)]=((xs.take (i+1)).map iL).map V.bl:=by
    rw [List.take_succ,hy,List.map_append,List.map_append]
    rfl
   nofun
   refine ⟨y,rfl,(hn y (List.mem_of_getElem? hy)).same S1,fun H2 S2=>?_⟩
   first | exact ⟨ea,⟨_,rfl⟩,S1.trans S2⟩ | exact ⟨ea,S1.trans S2⟩
  exists 38
  ·exists 64
   rw [List.take_length]
   have S2:=S1.trans (aH hD (.lst ((xs.map iL).map V.bl)))
   exists 122
   have eall:(xs.map iL).all id=xs.all iL:=by rw [List.all_map]; rfl
   rw [eall]
   generalize upd H' D (.lst ((xs.map iL).map V.bl))=H2 at *
   by_cases ha:xs.all iL=true
   ·exists 92,ha
    have es:=BG8 ha
    have hz:(xs.map AY6).length=xs.length:=List.length_map ..
    refine ⟨xs.map AY6,by rw [<- es]; exact SqL.of (S2 _ _ hp),by omega,fun p3 h3=>?_⟩
    have S3:=aH h3 (BL8 P w p3 (xs.map AY6))
    refine ⟨xs.map AY6,aA,?_⟩
    nofun
    refine ⟨xs,.inl (SqL.of (S3 _ _ (S2 _ _ hp))),?_⟩
    nofun
    have hq:=q _ (S2.trans S3)
    have ed:qY xs=decide ((((mP (xs.map AY6)).length:Nat):Int)=((xs.length:Nat):Int)):=by
     unfold qY
     rw [ha,Bool.true_and]
     have:=BL5 (xs.map AY6)
     rw [hz] at this
     by_cases c:(xs.map AY6).Nodup
     ·rw [decide_eq_true c,decide_eq_true (by have:=this.mpr c; omega)]
     ·rw [decide_eq_false c,decide_eq_false (fun z=>c (this.mp (by omega)))]
    rw [ed] at hq
    exact hq
   ·have ha':=Bool.eq_false_iff.mpr ha
    exists ha',Bool.not_false
    have hq:=q _ S2
    unfold qY at hq
    rw [ha',Bool.false_and] at hq
    exact hq
 ·refine ⟨x,t,false,rfl,ty,e,?_⟩
  exists 137
  exact q _ fun _ _ z=>z
theorem yJ (B:Bt K mg a)(cN:CalX P w K mg base "are_unlike_names" ["thing"] 2 (eX K a))(F:Fun K "check_names" "check_names" lK f fd):FnOk P w K mg base (CXF P w) 3 f fd ["names"] (kP K a):=by
 exists 127,yB
 ·obtain ⟨l,us,rfl,_⟩:=h
  rfl
 obtain ⟨l,us,rfl,hl,⟨hg,l9⟩,q⟩:=h
 refine ⟨_,(aW (aJ (bK (L2.PW.pt (kE (cH (bP (nomatch 224,cJ,cN))) (iU (nomatch 238,dD,cI,0)))) (nomatch 148,a.NoFit,B.NoFit,B.exc_NoFit) aU))),?_⟩
 nofun
 have hB:qY (us.map V.str)=decide us.Nodup:=by
  unfold qY
  have e1:(us.map V.str).all iL=true:=by
   rw [List.all_map,List.all_eq_true]
   intro u hu
   exact decide_eq_true (hg u hu)
  exists 106
  rw [e1,e2,Bool.true_and]
 have hN:∀ y∈us.map V.str,okN H y:=fun y hy=>by
  exists 104,u,hu,hy
  exact ⟨(sQ (hg u hu)).1,by have:=(sQ (hg u hu)).2; omega⟩
 refine ⟨_,_,rfl,.inl ⟨l,_,rfl,hl,by rw [List.length_map]; omega,hN,rfl⟩,fun H1 S1=>?_⟩
 rw [hB]
 by_cases nd:us.Nodup
 ·exists decide_eq_true nd,Bool.not_true
  refine ⟨_,.inl (SqL.of (S1 _ _ hl)),?_⟩
  exists List.length_map
  by_cases ne:us=[]
  ·exists 105,q,c,ne,c.1
   ·rw [if_pos (by rw [ne]; rfl)]
    exact q _ S1
  ·have l0:us.length≠0:=fun z=>ne (List.eq_nil_of_length_eq_zero z)
   exists 91,if_neg
   rcases q with ⟨_,q⟩ | ⟨c,_⟩
   ·exact q _ S1
   ·exact absurd ⟨ne,nd⟩ c
 ·exists decide_eq_false nd,Bool.not_false
  exists 105,q,c,c.2,nd
  ·exact q _ S1
theorem AJ5 (B:Bt K mg a)(F:Fun K "check_fit" "check_fit" pJ f fd):FnOk P w K mg base CX0 1 f fd ["fit"] (nS K a):=by
 exists 1,AJ0
 obtain ⟨v,t,rfl,h,q⟩:=h
 refine ⟨_,(aW (aJ (bK (cH (nomatch 151,0,B.Fit)) (cM kW) aU))),?_⟩
 nofun
 exists 30,p,dx,hp,h.ins
 refine ⟨_,_,_,true,rfl,hk.1.ty hp,hk.2,?_⟩
 exists 60
 exact q
theorem AD6 (B:Bt K mg a)(gN:CalX P w K mg base "check_fit" ["fit"] 1 (nS K a))(F:Fun K "check_fits" "check_fits" nG f fd):FnOk P w K mg base CX0 2 f fd ["fits"] (lV K a):=by
 exists 1,sc_check_fits
 obtain ⟨l,xs,ts,rfl,hl,hf,l2,l100,q⟩:=h
 refine ⟨_,(aW (aB (bK (L2.PW.pt (kE (nomatch 232,0) (iU (nomatch 238,AL5,cI,0)))) (cM kW) aU) (aJ (bN (AZ1 PassesOwn.never rfl (sH (pv 0)) (dN (i:=1) sc_check_fits.nd rfl (Or.inl rfl)) (aW (aJ (nomatch 264,gN,1)))))))),?_⟩
 nofun
 exists 44,.lst,hl
 refine ⟨_,.inl (SqL.of hl),?_⟩
 exists 91,if_neg
 refine ⟨⟨_,SqL.of hl⟩,?_⟩
 refine ForL.by (xs:=xs) (fun _ σ H1=>(∃ v,σ=[some (.ref l),v])/\H1=H) ⟨⟨_,rfl⟩,rfl⟩ (fun i σ H1 _ h=>by rw [h.2]; exact SqL.of hl) ?_ ?_
 ·rintro i y σ H1 hy ⟨⟨v,rfl⟩,rfl⟩
  obtain ⟨t,_,ht⟩:=hf.get hy
  nofun
  refine ⟨y,t,rfl,ht,?_⟩
  first | exact ⟨⟨_,rfl⟩,rfl⟩ | trivial
 ·rintro σ H1 ⟨⟨v,rfl⟩,rfl⟩
  first | exact q | (nofun; exact q)
theorem vB (B:Bt K mg a)(eJ:CalX P w K mg base "check_names" ["names"] 3 (kP K a))(F:Fun K "__init__" "Kind.__init__" jD f fd):FnOk P w K mg base (CXF P w) 4 f fd ["self","names"] (iB K a):=by
 exists 127,uW
 exists 16,B.ck_Kind.cl,B.na_Kind_names
theorem tN (B:Bt K mg a)(eJ:CalX P w K mg base "check_names" ["names"] 3 (kP K a))(F:Fun K "__init__" "Place.__init__" hV f fd):FnOk P w K mg base (CXF P w) 4 f fd ["self","names"] (gL K a):=by
 exists 127,sX
 exists 16,B.ck_Place.cl,B.na_Place_names
theorem tO (B:Bt K mg a)(bU:CalX P w K mg base "is_whole_from" ["thing","least"] 2 (eQ K a))(F:Fun K "__init__" "Least.__init__" hW f fd):FnOk P w K mg base (CXF P w) 3 f fd ["self","weight"] (gM K a):=by
 exists 127,sY
 ·obtain ⟨p,dx,n,rfl,_⟩:=h
  rfl
 obtain ⟨p,dx,n,rfl,hp,q⟩:=h
 refine ⟨_,(aW (aB (nomatch 227,1,a.NoFit,B.NoFit,B.exc_NoFit) (aJ (nomatch 176,1)))),?_⟩
 nofun
 exists 67,n
 exists 41,n0
 ·exists 138,e,n,0,n0
  exists e
  exact ⟨_,_,_,hp,B.ck_Least.cl,B.na_Least_weight,by decide,q⟩
 ·have e:AA6 (.int n) 0=false:=decide_eq_false n0
  exists e
  exact q
theorem xJ (B:Bt K mg a)(gN:CalX P w K mg base "check_fit" ["fit"] 1 (nS K a))(F:Fun K "__init__" "Not.__init__" kM f fd):FnOk P w K mg base CX0 2 f fd ["self","fit"] (jJ K a):=by
 exists 1,wV
 obtain ⟨p,dx,v,t,rfl,hp,hf,q⟩:=h
 refine ⟨_,(aW (aB (nomatch 264,gN,1) (aJ (nomatch 176,1)))),?_⟩
 nofun
 refine ⟨v,t,rfl,hf,?_⟩
 nofun
 exact ⟨_,_,_,hp,B.ck_Not.cl,B.na_Not_fit,by decide,q⟩
theorem vC (B:Bt K mg a)(fC:CalX P w K mg base "check_fits" ["fits"] 2 (lV K a))(F:Fun K "__init__" "Both.__init__" jE f fd):FnOk P w K mg base CX0 3 f fd ["self","fits"] (iC K a):=by
 exists 1,uX
 exists 27,B.ck_Both.cl,B.na_Both_fits
theorem rN (B:Bt K mg a)(fC:CalX P w K mg base "check_fits" ["fits"] 2 (lV K a))(F:Fun K "__init__" "Either.__init__" gI f fd):FnOk P w K mg base CX0 3 f fd ["self","fits"] (fR K a):=by
 exists 1,qT
 exists 27,B.ck_Either.cl,B.na_Either_fits
theorem rO (B:Bt K mg a)(F:Fun K "__init__" "Opened.__init__" gJ f fd):FnOk P w K mg base CX0 1 f fd ["self","sign"] (fV K a):=by
 exists 1,qW
 obtain ⟨p,dx,s,rfl,hp,q⟩:=h
 refine ⟨_,(aW (aB (nomatch 176,1) (aJ (bN (dR (pv 0) (mK (aK aC)) rfl))))),?_⟩
 nofun
 refine ⟨_,_,_,hp,B.ck_Opened.cl,B.na_Opened_sign,by decide,?_⟩
 refine ⟨Nat.zero_le _,fun il hil=>?_⟩
 exists 35,nl,il,p,aA,hil
 have h0:H il=none:=by rw [aG nl] at hil; exact hil
 have e1:upd (upd H p (.ins a.Opened dx (oO "sign" (.str s) []))) il (.lst []) p=some (.ins a.Opened dx [("sign",.str s)]):=by rw [aG nl.symm]; exact aA
 refine ⟨_,_,_,e1,B.ck_Opened.cl,B.na_Opened_inner,(show 1 < 1000 by decide),?_⟩
 refine q il _ h0 (fun b o n e=>?_) (by rw [aG nl]; exact aA) aA
 rw [aG n,aG (aQ e h0),aG n]
 exact e
theorem tP (B:Bt K mg a)(cD:∀ C sp,iE K a C sp->CalM P w K mg base C "take" ["self"] 2 sp)(aY:CalI P w K mg base "NoText" a.NoText "line" 1 (.int 0))(F:Fun K "is_closed_here" "is_closed_here" iA f fd):FnOk P w K mg base (CXF P w) 3 f fd ["bracket","words"] (lC K a):=by
 exists 127,sc_is_closed_here
 ·obtain ⟨wp,dw,wl,op,ts,i,f,fs,G,rfl,_⟩:=h
  rfl
 obtain ⟨wp,dw,wl,op,ts,i,f,fs,G,rfl,hP,q1,q2,q3⟩:=h
 refine ⟨_,(aW (aB (nomatch 220,2,sc_is_closed_here.nd,1,cD,bX) (aB (bK (nomatch 173,2) ↑181 aU) (aB (bK (L2.PW.pt (kE (aX mV (pv 2) (dI (aK (aL aO (aL aO aC)))) (by with_unfolding_all rfl)) (iU (aX mV ↑171 (dI (aK (aL aO (aL (pv 2) aC)))) (by with_unfolding_all rfl))))) ↑221 aU) (aB (nomatch 176,2) ↑181))))),?_⟩
 have hf:=hP.F f List.mem_cons_self
 exists 13,hP1,hP.take,i,1,B1,H
 exists 18,hP.W.w,i,hP.W
 exists 23,H,i,1,H1
 generalize ts.getD i ""=x at *
 nofun
 by_cases c1:x=")"
 ·rw [if_pos c1]
  exact q1 _ hP1 c1
 rw [if_neg c1]
 exists 11,p1,h1
 have S1:=aH h1 (.tup [.str "&",.str "|"])
 refine ⟨p1,_,rfl,.inr (SqT.of aA),rfl,rfl,?_⟩
 have hP2:=hP1.same S1
 generalize upd H1 p1 (.tup [.str "&",.str "|"])=H2 at *
 have ei:inV (.str x) [.str "&",.str "|"]=decide (x="&"\/x="|"):=by
  rw [show ([.str "&",.str "|"]:List V)=([("&":Str),"|"]:List Str).map V.str from rfl,AD5]
  simp
 rw [ei]
 by_cases c2:x="&"\/x="|"
 ·exists decide_eq_true c2,Bool.not_true
  refine ⟨_,_,_,(hP2.F f List.mem_cons_self).1,B.ck_Opened.cl,B.na_Opened_sign,.str f.sg,rfl,?_⟩
  exists 11,p2,h2
  have S2:=aH h2 (.tup [.str "(",.str x])
  refine ⟨p2,_,rfl,.inr (SqT.of aA),rfl,rfl,?_⟩
  have hP3:=hP2.same S2
  generalize upd H2 p2 (.tup [.str "(",.str x])=H3 at *
  have ej:inV (.str f.sg) [.str "(",.str x]=decide (f.sg="("\/f.sg=x):=by
   rw [show ([.str "(",.str x]:List V)=([("(":Str),x]:List Str).map V.str from rfl,AD5]
   simp
  rw [ej]
  by_cases c3:f.sg="("\/f.sg=x
  ·exists decide_eq_true c3,Bool.not_true
   refine ⟨_,_,_,(hP3.F f List.mem_cons_self).1,B.ck_Opened.cl,B.na_Opened_sign,(show 2 < 1000 by decide),?_⟩
   exact q2 _ hP3.sign c1 ⟨c2,c3⟩
  ·exists 98,c3,z.2,hP3.K.trans
 ·exists 98,c2,z.1,hP2.K.trans
theorem BH2 (B:Bt K mg a)(BI0:CalC P w K mg base "Not" a.Not ["self","fit"] 2 (jJ K a))(AQ1:CalC P w K mg base "Both" a.Both ["self","fits"] 3 (iC K a))(xP:CalC P w K mg base "Either" a.Either ["self","fits"] 3 (fR K a))(aY:CalI P w K mg base "NoText" a.NoText "line" 1 (.int 0))(F:Fun K "fit_of" "fit_of" AC6 f fd):FnOk P w K mg base (CXF P w) 5 f fd ["opened"] (xB K a):=by
 exists 127,BG6
 ·obtain ⟨r,d,il,sg,xs,inn,M,rfl,_⟩:=h
  rfl
 obtain ⟨r,d,il,sg,xs,inn,M,rfl,hr1,hil,hA,hM,hz,h0,h2,q⟩:=h
 refine ⟨_,(aW (aB (bK (aX dD ↑171 aO (bD _)) (aJ (aV (aS (mL BI0 bX ↑144 rfl (aK (aL (gB dO ↑171 aN (fun _ _=>rfl)) aC)) (he:=aD _ _ _ rfl) (hpl:=aF rfl))))) aU) (aB (nomatch 236,AQ1) (aB (nomatch 236,xP) ↑221)))),?_⟩
 have ln:=hA.len
 nofun
 exists 66,c1,"not"
 ·rw [if_pos c1]
  refine ⟨_,_,_,hr1,B.ck_Opened.cl,B.na_Opened_inner,.ref il,rfl,?_⟩
  cases hA with
  | nil=>exact absurd rfl (h0 c1)
  | @cons t v ts vs ht hr2 =>
   refine ixl (SqL.of hil) (v:=v) (show atI (v::vs) ((0:Nat):Int)=some v from wF rfl) ?_
   exists 14,a.Not
   refine ⟨x,dx,v,t,rfl,aA,(ht.same iY).same M0,?_⟩
   nofun
   have SS:Same H (upd (nomatch 217,H,a.Not) x (.ins a.Not dx [("fit",v)])):=fun b o e=>by rw [aG (aQ e hx)]; exact M0 b o e
   have em:mkF sg (t::ts)=some (.not t):=by unfold mkF; rw [if_pos c1]; rfl
   rcases q with ⟨t',e,q⟩ | ⟨e,_⟩
   ·rw [em] at e
    cases e
    exact q (.ref x) _ SS (by rw [Tr.Fit]; exact ⟨x,dx,v,rfl,eC (hM x hx) aA,ht.same (jT SS)⟩)
   ·rw [em] at e; cases e
 rw [if_neg c1]
 exists 66,c2,"&"
 ·rw [if_pos c2]
  have em:mkF sg inn=some (.both (Trs.ofL inn)):=by unfold mkF; rw [if_neg c1,if_pos c2]
  exists 112,.inl,c2
  exists 14,a.Both
  exists 33
 rw [if_neg c2]
 exists 66,c3,"|"
 ·rw [if_pos c3]
  have em:mkF sg inn=some (.either (Trs.ofL inn)):=by unfold mkF; rw [if_neg c1,if_neg c2,if_pos c3]
  exists 112,.inr,c3
  exists 14,a.Either
  exists 33
 rw [if_neg c3]
 have em:mkF sg inn=none:=by unfold mkF; rw [if_neg c1,if_neg c2,if_neg c3]
 rcases q with ⟨t',e,_⟩ | ⟨_,q⟩
 ·rw [em] at e; cases e
 ·exact fun y hy=>q y _ (aH hy _) aA
theorem zU {p:Str->Bool}:∀ l:List Str,l.dropWhile p=l.drop (l.takeWhile p).length
 | []=>rfl
 | a::l=>by
  rw [List.dropWhile_cons,List.takeWhile_cons]
  cases p a with
  | true=>exact zU l
  | false=>rfl
theorem AP2 {p:Str->Bool}:∀ l:List Str,(l.takeWhile p).length<=l.length
 | []=>Nat.zero_le _
 | a::l=>by
  rw [List.takeWhile_cons]
  cases p a with
  | true=>exact Nat.succ_le_succ (AP2 l)
  | false=>exact Nat.zero_le _
theorem FrOk.up {k i j:Nat}{f:OF}(h:FrOk k i f){k':Nat}(e:k'+i<=k+j):FrOk k' j f:=⟨h.1,by have:=h.2; omega⟩
def BN5 (a:Ad)(wp dw wl op:Addr)(ts:List Str)(i:Nat)(G:Hp)(R:Option (Tr × List Str × List Fm))(σ:L2.St)(H1:Hp):Prop:=∃ (k:Nat) (fs:List OF),σ=[some (.ref wp),some (.ref op),some (.str (ts.getD k ""))]/\PSt a.Words a.Opened (fc a) H1 wp dw wl ts (k+1) op fs G/\i<=k/\k<=ts.length/\(∀ f∈fs,FrOk 1 k f)/\fs.length<=k/\plainF (ts.drop k) (fs.map OF.fm)=R
theorem cP {ts:List Str}{k:Nat}{wd:Str}(c:ts.getD k ""=wd)(h:wd≠""):k < ts.length:=by
 exists 110,z,k
 ·exact z
 ·exists 120,c
  exact absurd c.symm h
theorem CH0 {ts:List Str}{S:List Fm}{k:Nat}(c:ts.getD k ""="any"):plainF (ts.drop k) S=some (.any,ts.drop (k+1),S):=by
 rw [gZ (cP c (by decide)),cE,c,if_neg (by decide),if_pos rfl]
theorem BH3 {ts:List Str}{k:Nat}{p:Str->Bool}:(ts.drop k).dropWhile p=ts.drop (k+((ts.drop k).takeWhile p).length):=by
 rw [zU,List.drop_drop]
theorem BY5 {ts:List Str}{S:List Fm}{k:Nat}(c:ts.getD k ""="kind"):plainF (ts.drop k) S=if (nomatch 165,k)≠[]/\(nomatch 165,k).Nodup then some (.kind (nomatch 165,k),ts.drop (k+1+(nomatch 165,k).length),S) else none:=by
 rw [gZ (cP c (by decide)),cE,c,if_neg (by decide),if_neg (by decide),if_pos rfl,BH3]
theorem BN6 {ts:List Str}{S:List Fm}{k:Nat}(c:ts.getD k ""="place"):plainF (ts.drop k) S=if (nomatch 165,k)≠[]/\(nomatch 165,k).Nodup then some (.place (nomatch 165,k),ts.drop (k+1+(nomatch 165,k).length),S) else none:=by
 rw [gZ (cP c (by decide)),cE,c,if_neg (by decide),if_neg (by decide),if_neg (by decide),if_pos rfl,BH3]
theorem BH4 {ts:List Str}{S:List Fm}{k:Nat}(c:ts.getD k ""="weight"):plainF (ts.drop k) S=if kI (nomatch 193,k)=true/\0<=dH (nomatch 193,k) then some (.weight (dH (nomatch 193,k)),ts.drop (k+2),S) else none:=by
 rw [gZ (cP c (by decide)),cE,c,if_neg (by decide),if_neg (by decide),if_neg (by decide),if_neg (by decide),if_pos rfl]
 by_cases z:k+1 < ts.length
 ·rw [gZ z]
 ·rw [(jA (by omega)).1,(jA (by omega)).2,if_neg (fun z=>absurd z.1 (by decide +kernel))]
theorem BY6 {ts:List Str}{S:List Fm}{k:Nat}(c1:¬ ts.getD k ""="not")(c2:¬ ts.getD k ""="(")(c3:¬ ts.getD k ""="any")(c4:¬ ts.getD k ""="kind")(c5:¬ ts.getD k ""="place")(c6:¬ ts.getD k ""="weight"):plainF (ts.drop k) S=none:=by
 exists 110,z,k
 ·rw [gZ z,cE,if_neg (fun z=>z.elim c1 c2),if_neg c3,if_neg c4,if_neg c5,if_neg c6]
 ·rw [(jA (by omega)).2]
  rfl
theorem tQ (B:Bt K mg a)(cD:∀ C sp,iE K a C sp->CalM P w K mg base C "take" ["self"] 2 sp)(AQ2:CalC P w K mg base "Kind" a.Kind ["self","names"] 4 (iB K a))(AE8:CalC P w K mg base "Place" a.Place ["self","names"] 4 (gL K a))(AE9:CalC P w K mg base "Least" a.Least ["self","weight"] 3 (gM K a))(xQ:CalC P w K mg base "Opened" a.Opened ["self","sign"] 1 (fV K a))(iP:∀ C sp,rK K a C sp->CalM P w K mg base C "take_names" ["self"] 3 sp)(aM:∀ C sp,bY K a C sp->CalM P w K mg base C "take_number" ["self"] 3 sp)(aY:CalI P w K mg base "NoText" a.NoText "line" 1 (.int 0))(F:Fun K "plain_fit_from" "plain_fit_from" hZ f fd):FnOk P w K mg base (CXF P w) 6 f fd ["words","opened"] (lB K a):=by
 exists 127,sc_plain_fit_from
 ·obtain ⟨wp,dw,wl,op,ts,i,fs,G,rfl,_⟩:=h
  rfl
 obtain ⟨wp,dw,wl,op,ts,i,fs,G,rfl,hP,hT,hl,hi,hfl,hF,good,fail⟩:=h
 refine ⟨_,(aW (aB (nomatch 220,2,sc_plain_fit_from.nd,0,cD,bX) (aB (bN (oH PassesOwn.leaving (L2.PW.pt (kE (nomatch 173,2) (iU (nomatch 173,2)))) (aW (aB (bN (bW (jO PySem.F.plainAttrs_list PySem.F.slot_list_append PySem.F.type_list_append fE (pv 1) (aK (aL (mL xQ bX ↑144 rfl (nomatch 162,2) (he:=aD _ _ _ rfl) (hpl:=aF rfl)) aC))))) (aJ (nomatch 220,2,sc_plain_fit_from.nd,0,cD,bX)))))) (nomatch 274,2,B.mk_Any,B.Any,AQ2,iP,AE8,223,AE9,aM)))),?_⟩
 generalize hR:plainF (ts.drop i) (fs.map OF.fm)=R at good fail
 exists 18,hP.W.w,i,hP.W
 have hP1:=hP.take (i+1)
 exists 23,H,i,1,H1
 nofun
 refine whl (BN5 a wp dw wl op ts i G R) (fun _ H1=>3000 - yH wp H1) ⟨i,fs,rfl,hP1,Nat.le_refl _,hi,hF,hfl,hR⟩ ?_
 clear hP hP1 hF hR hfl
 rintro σ H2 ⟨k,fs,rfl,hP,hik,hk,hF,hfl,hR⟩
 nofun
 have push:∀ wd:Str,ts.getD k ""=wd->(wd="not"\/wd="(")->(∀ x dx il H3,H2 x=none->H2 il=none->Same H2 H3->H3 il=some (.lst [])->H3 x=some (.ins a.Opened dx (lI wd il))->BN5 a wp dw wl op ts i G R [some (.ref wp),some (.ref op),some (.str (nomatch 193,k))] ↑244/\3000 - yH wp ↑244 < 3000 - yH wp H2):=by
  intro wd e1 e2 x dx il H3 hx hil S3 eil ex
  have kl:k < ts.length:=by
   exists 110,z,k
   ·exact z
   ·exists 120,e1
    rw [<- e1] at e2
    exact absurd e2 (by decide)
  have hP3:=(hP.push S3 hx hil ex eil).take (k+2)
  refine ⟨⟨k+1,_,rfl,hP3,by omega,by omega,fun f hf=>?_,by rw [List.length_cons]; omega,?_⟩,?_⟩
  ·rcases List.mem_cons.mp hf with rfl | hf
   ·exact ⟨e2.elim (fun z=>.inl ⟨z,rfl⟩) (fun z=>.inr (.inl ⟨z,rfl⟩)),by show 0+1<=k+1; omega⟩
   ·exact (hF f hf).up (by omega)
  ·rw [<- hR,gZ kl,cE,if_pos (by rw [e1]; exact e2),e1]
   rfl
  ·rw [qZ hP3.W,qZ hP.W]
   omega
 exists 15,c1,"not",.inl
 exists 15,c2,"(",.inr
 by_cases c3:ts.getD k ""="any"
 ·rw [if_pos c3]
  rw [CH0 c3] at hR
  have kl:=cP c3 (by decide)
  intro x dx hx hd ne
  exact good _ _ _ hR.symm (.ref x) _ (k+1) fs rfl (by omega) (by omega) (hP.same (bT hx hd)) rfl (fun f hf=>(hF f hf).up (by omega)) (by omega) (by rw [Tr.Fit]; exact ⟨x,dx,rfl,eC (hP.new hx) aA⟩)
 rw [if_neg c3]
 exists 4,c4,"kind",BY5,a.Kind
 exists 4,c5,"place",BN6,a.Place
 by_cases c6:ts.getD k ""="weight"
 ·rw [if_pos c6]
  rw [BH4 c6] at hR
  have kl:=cP c6 (by decide)
  exists 50,hP.W.w,k,hP.W,hn
  ·have kl2:=cP (ts:=ts) (k:=k+1) rfl (fun z=>by rw [z] at hn; exact absurd hn (by decide +kernel))
   refine .inl ⟨hn,fun H3 B3 W3=>?_⟩
   have hP3:=hP.words B3 W3
   exists 14,a.Least
   refine ⟨x,dx,_,rfl,aA,?_⟩
   by_cases n0:0<=dH (nomatch 193,k)
   ·rw [if_pos ⟨hn,n0⟩] at hR
    have SS:Same H3 (upd (nomatch 217,H3,a.Least) x (.ins a.Least dx [("weight",.int (dH (nomatch 193,k)))])):=fun b o e=>by rw [aG (aQ e hx)]; exact M0 b o e
    exact .inl ⟨n0,rfl,good _ _ _ hR.symm (.ref x) _ (k+2) fs rfl (by omega) (by omega) (hP3.same SS) rfl (fun f hf=>(hF f hf).up (by omega)) (by omega) (by rw [Tr.Fit]; exact ⟨x,dx,rfl,eC (hP3.new hx) aA⟩)⟩
   ·rw [if_neg (fun z=>n0 z.2)] at hR
    exact .inr ⟨n0,fail hR.symm _ _ _ (.inl rfl) (hP3.K.trans (Same.but M0))⟩
  ·rw [if_neg (fun z=>hn z.1)] at hR
   exact .inr ⟨by simpa using hn,fun y H3 B3=>fail hR.symm _ _ _ (.inr rfl) (hP.K.trans B3)⟩
 rw [if_neg c6]
 rw [BY6 c1 c2 c3 c4 c5 c6] at hR
 exact fun y hy=>fail hR.symm _ _ _ (.inr rfl) (hP.K.trans (Same.but (aH hy _)))
theorem BY7 {xs:List V}{x:V}:atI (xs++[x]) (-1)=some x:=by
 unfold atI ixN
 rw [if_neg (by decide)]
 have e:(xs++[x]).length=xs.length+1:=by rw [List.length_append,List.length_singleton]
 rw [e]
 exists 91,if_pos
 show (xs++[x])[((-1:Int)+((xs.length+1:Nat):Int)).toNat]?=some x
 rw [show ((-1:Int)+((xs.length+1:Nat):Int)).toNat=xs.length by omega]
 simp
theorem CH1 {f:Fm}{S:List Fm}{t:Tr}{r:List Str}(c:f.sg="not"):closeF (f::S) t r=closeF S (.not t) r:=by rw [dB,if_pos c]
theorem BY8 {ts:List Str}{f:Fm}{S:List Fm}{t:Tr}{k:Nat}(c:¬ f.sg="not")(e:ts.getD k ""=")"):closeF (f::S) t (ts.drop k)=if f.sg="&" then closeF S (.both (Trs.ofL (f.inn++[t]))) (ts.drop (k+1)) else if f.sg="|" then closeF S (.either (Trs.ofL (f.inn++[t]))) (ts.drop (k+1)) else none:=by
 rw [dB,if_neg c,gZ (cP e (by decide))]
 dsimp only
 rw [if_pos e]
theorem CH2 {ts:List Str}{f:Fm}{S:List Fm}{t:Tr}{k:Nat}(c:¬ f.sg="not")(n:ts.getD k ""≠")")(e:(ts.getD k ""="&"\/ts.getD k ""="|")/\(f.sg="("\/f.sg=ts.getD k "")):k < ts.length/\closeF (f::S) t (ts.drop k)=some (.inr (ts.drop (k+1),⟨ts.getD k "",f.inn++[t]⟩::S)):=by
 have kl:k < ts.length:=e.1.elim (fun z=>cP z (by decide)) fun z=>cP z (by decide)
 refine ⟨kl,?_⟩
 rw [dB,if_neg c,gZ kl]
 dsimp only
 rw [if_neg n,if_pos e]
theorem CH3 {ts:List Str}{f:Fm}{S:List Fm}{t:Tr}{k:Nat}(c:¬ f.sg="not")(n:ts.getD k ""≠")")(e:¬ ((ts.getD k ""="&"\/ts.getD k ""="|")/\(f.sg="("\/f.sg=ts.getD k ""))):closeF (f::S) t (ts.drop k)=none:=by
 exists 110,kl,k
 ·rw [dB,if_neg c,gZ kl]
  dsimp only
  rw [if_neg n,if_neg e]
 ·rw [dB,if_neg c,(jA (by omega)).2]
def BY9 (a:Ad)(wp dw wl op:Addr)(ts:List Str)(i:Nat)(G:Hp)(R:Option ((Tr × List Str) ⊕ (List Str × List Fm)))(σ:L2.St)(H1:Hp):Prop:=∃ (k:Nat) (fs:List OF) (t:Tr) (v:V) (lv:Option V),σ=[some v,some (.ref wp),some (.ref op),lv]/\PSt a.Words a.Opened (fc a) H1 wp dw wl ts k op fs G/\i<=k/\k<=ts.length/\(∀ f∈fs,FrOk 2 k f)/\fs.length<=k/\t.Fit (fc a) (Out (AB6 wp op fs) H1) v/\closeF (fs.map OF.fm) t (ts.drop k)=R
theorem BH5 (B:Bt K mg a)(AF0:CalX P w K mg base "fit_of" ["opened"] 5 (xB K a))(iF:CalX P w K mg base "is_closed_here" ["bracket","words"] 3 (lC K a))(F:Fun K "closed" "closed" AC5 f fd):FnOk P w K mg base (CXF P w) 6 f fd ["fit","words","opened"] (AJ3 K a):=by
 exists 127,sc_closed
 ·obtain ⟨v,t,wp,dw,wl,op,ts,i,fs,G,rfl,_⟩:=h
  rfl
 obtain ⟨v,t,wp,dw,wl,op,ts,i,fs,G,rfl,hP,hT,hl,hi,hfl,hF,hv,good,more,fail⟩:=h
 refine ⟨_,(aW (aB (bN (oH PassesOwn.leaving (nomatch 238,AV1,cI,2) (aW (aB (bA (i:=3) sc_closed.nd rfl (Or.inl rfl) (aS (gB dO (pv 2) (BS5 AZ2 aN) (fun _ _=>rfl))) (by kernel_rfl)) (aB (bN (bW (jO PySem.F.plainAttrs_list PySem.F.slot_list_append PySem.F.type_list_append fE (eK (pv 3) rfl) (aK ↑161)))) (aB (bK (L2.PW.pt (AG3 (aX xX (eK (pv 3) rfl) aO (bD _)) (vV (cH (bP (nomatch 256,iF,3)))))) (aJ (aV (aS yX))) aU) (aB (bN (bW (CD5 PySem.F.plainAttrs_list PySem.F.slot_list_pop PySem.F.type_list_pop CD6 (pv 2)))) (aJ (bA (i:=0) sc_closed.nd rfl (Or.inl rfl) (nomatch 226,aS,cJ,AF0,3) (by kernel_rfl)))))))))) (nomatch 194,0))),?_⟩
 generalize hR:closeF (fs.map OF.fm) t (ts.drop i)=R at good more fail
 nofun
 refine whl (BY9 a wp dw wl op ts i G R) (fun _ H1=>AP0 op H1) ⟨i,fs,t,v,none,rfl,hP,Nat.le_refl _,hi,hF,hfl,hv,hR⟩ ?_
 clear hP hF hR hfl hv
 rintro σ H2 ⟨k,fs,t,v,lv,rfl,hP,hik,hk,hF,hfl,hv,hR⟩
 nofun
 refine ⟨_,.inl (SqL.of hP.O),?_⟩
 exists List.length_map,List.length_reverse
 cases fs with
 | nil =>
  rw [if_neg (by decide)]
  exact good _ _ hR.symm v H2 k rfl hik hk hP hv
 | cons f fs =>
 rw [if_pos (by rw [List.length_cons]; omega)]
 have mem:f∈f::fs:=List.mem_cons_self
 have hf:=hP.F f mem
 have hFf:=hF f mem
 have hP1:=hP.inner hv
 have O':H2 op=some (.lst (↑180++[.ref f.r])):=by
  have e:=hP.O
  rw [List.reverse_cons,List.map_append] at e
  exact e
 have lv:=(hP.T f mem).len
 have fin:∀ (k':Nat) (H4:Hp),PSt a.Words a.Opened (fc a) H4 wp dw wl ts k' op (f.app v t::fs) G->k<=k'->k'<=ts.length->(mkF f.sg (f.inn++[t])=none->R=none)->(∀ t',mkF f.sg (f.inn++[t])=some t'->closeF (fs.map OF.fm) t' (ts.drop k')=R) ->
   (tyV K "list" (V.ref op) H4/\CQ6 (V.ref op) [] H4 fun _ H1=>xB K a [.ref f.r] H1 (fun x H1=>BY9 a wp dw wl op ts i G R [some x,some (V.ref wp),some (V.ref op),some (.ref f.r)] H1/\AP0 op H1 < AP0 op H2) E):=by
  intro k' H4 hP4 hk1 hk2 e1 e2
  have mem4:f.app v t∈f.app v t::fs:=List.mem_cons_self
  have O4:H4 op=some (.lst (↑180++[.ref f.r])):=by
   have e:=hP4.O
   rw [List.reverse_cons,List.map_append] at e
   exact e
  refine ⟨.inl ⟨rfl,_,SqL.of O4⟩,op,_,.ref f.r,rfl,rfl,O4,by simp,?_⟩
  rw [List.dropLast_concat]
  have hP5:=hP4.pop
  obtain ⟨o1,o2,o3⟩:=hP4.ow
  have q3:=o3 _ mem4
  have hA5:=(hP4.T _ mem4).imp fun t v _ h=>h.same (AU1 hP4)
  have hr5:upd H4 op (.lst ↑180) f.r=some (.ins a.Opened f.d (lI f.sg f.il)):=by
   rw [aG (show f.r≠op from q3.2.1.symm)]
   exact (hP4.F _ mem4).1
  have hi5:upd H4 op (.lst ↑180) f.il=some (.lst (f.vs++[v])):=by
   rw [aG (show f.il≠op from q3.1.symm)]
   exact (hP4.F _ mem4).2
  have li:=hFf.2
  refine ⟨f.r,f.d,f.il,f.sg,f.vs++[v],f.inn++[t],AB6 wp op fs,rfl,hr5,hi5,hA5,fun b hb=>hP5.new hb,by rw [List.length_append,List.length_singleton,<- lv]; omega,fun _=>by simp,fun z=>?_,?_⟩
  ·rw [List.length_append,List.length_singleton]
   rcases hFf.1 with ⟨y,_⟩ | ⟨y,_⟩ | ⟨_,y⟩
   ·rw [y] at z; exact absurd z (by decide)
   ·rw [y] at z; exact absurd z (by decide)
   ·have:=List.length_pos_iff.mpr y
    omega
  cases em:mkF f.sg (f.inn++[t]) with
  | none=>exact .inr ⟨rfl,fun y H' S' _=>fail (e1 em) _ _ _ (.inr rfl) (hP5.K.trans (Same.but S'))⟩
  | some t' =>
   refine .inl ⟨t',rfl,fun v' H' S' hv'=>⟨⟨k',fs,t',v',_,rfl,hP5.same S',by omega,hk2,fun g hg=>(hF g (nomatch 210,hg)).up (by omega),by rw [List.length_cons] at hfl; omega,hv',e2 t' em⟩,?_⟩⟩
   rw [BR5 (hP5.same S').O,BR5 O',List.length_append,List.length_map,List.length_reverse,List.length_singleton]
   omega
 refine ⟨fun σ' H'=>BY9 a wp dw wl op ts i G R σ' H'/\AP0 op H' < AP0 op H2,fun σ' H' h=>⟨_,h.2,rfl,h.1⟩,ixl (SqL.of O') BY7 ?_⟩
 refine ⟨_,_,_,hf.1,B.ck_Opened.cl,B.na_Opened_inner,.ref f.il,rfl,.inl ⟨rfl,_,SqL.of hf.2⟩,f.il,_,_,rfl,rfl,hf.2,?_,?_⟩
 ·have li:=hFf.2
  exact Nat.lt_of_le_of_lt (show f.vs.length<=1000 by omega) (by decide)
 have mem1:f.app v t∈f.app v t::fs:=List.mem_cons_self
 refine ⟨_,_,_,(hP1.F _ mem1).1,B.ck_Opened.cl,B.na_Opened_sign,.str f.sg,rfl,rfl,?_⟩
 generalize upd H2 f.il (.lst (f.vs++[v]))=H3 at *
 rw [List.map_cons] at hR
 by_cases c:f.sg="not"
 ·rw [if_neg (fun z=>z (by rw [c]))]
  rw [CH1 (f:=f.fm) c] at hR
  have e0:f.inn=[]:=by
   rcases hFf.1 with ⟨_,y⟩ | ⟨_,y⟩ | ⟨y,_⟩
   ·exact y
   ·exact y
   ·rw [c] at y; exact absurd y (by decide)
  have em:mkF f.sg (f.inn++[t])=some (.not t):=by rw [e0]; unfold mkF; rw [if_pos c]; rfl
  exact fin k H3 hP1 (Nat.le_refl _) hk (fun z=>by rw [em] at z; cases z) (fun t' z=>by rw [em] at z; cases z; exact hR)
 rw [if_pos (fun z=>c (V.str.inj z))]
 refine ⟨wp,dw,wl,op,ts,k,f.app v t,fs,G,rfl,hP1,fun H4 hP4 e=>uN ?_,fun H4 hP4 n e=>uN ?_,fun n e y H4 B4=>?_⟩
 ·rw [if_neg (by decide)]
  rw [BY8 (f:=f.fm) c e,show f.fm.sg=f.sg from rfl] at hR
  have kl:=cP e (by decide)
  refine fin (k+1) H4 hP4 (by omega) (by omega) (fun z=>?_) (fun t' z=>?_)
  ·unfold mkF at z
   rw [if_neg c] at z
   by_cases c2:f.sg="&"
   ·rw [if_pos c2] at z; cases z
   rw [if_neg c2] at z
   by_cases c3:f.sg="|"
   ·rw [if_pos c3] at z; cases z
   rw [if_neg c2,if_neg c3] at hR
   exact hR.symm
  ·unfold mkF at z
   rw [if_neg c] at z
   by_cases c2:f.sg="&"
   ·rw [if_pos c2] at z hR
    cases z
    exact hR
   rw [if_neg c2] at z
   by_cases c3:f.sg="|"
   ·rw [if_pos c3] at z
    rw [if_neg c2,if_pos c3] at hR
    cases z
    exact hR
   rw [if_neg c3] at z
   cases z
 ·rw [if_pos rfl]
  obtain ⟨kl,eq⟩:=CH2 (f:=f.fm) (S:=fs.map OF.fm) (t:=t) c n e
  rw [eq] at hR
  refine more _ _ hR.symm H4 (k+1) _ rfl (by omega) (by omega) hP4 rfl (fun g hg=>?_) (by rw [List.length_cons] at hfl ⊢; omega)
  rcases List.mem_cons.mp hg with rfl | hg
  ·refine ⟨.inr (.inr ⟨e.1,by show f.inn++[t]≠[]; simp⟩),?_⟩
   have li:=hFf.2
   show (f.inn++[t]).length+1<=k+1
   rw [List.length_append,List.length_singleton]
   omega
  ·exact (hF g (nomatch 210,hg)).up (by omega)
 ·rw [CH3 (f:=f.fm) c n e] at hR
  exact fail hR.symm _ _ _ (.inr rfl) B4
def CH4 (a:Ad)(wp dw wl op:Addr)(ts:List Str)(i:Nat)(G:Hp)(R:Option (Tr × List Str))(σ:L2.St)(H1:Hp):Prop:=∃ (k:Nat) (fs:List OF) (fv:V),σ=[some (.ref wp),some (.ref op),some fv]/\PSt a.Words a.Opened (fc a) H1 wp dw wl ts k op fs G/\i<=k/\k<=ts.length/\fs.length<=k/\((fv=.non/\(∀ f∈fs,FrOk 1 k f)/\BE5 (ts.drop k) (fs.map OF.fm)=R)\/(∃ t,fs=[]/\i < k/\t.Fit (fc a) (Out (AB6 wp op []) H1) fv/\R=some (t,ts.drop k)))
theorem PSt.start {Cw Co:Addr}{c:FC}{H:Hp}{wp dw wl op:Addr}{ts:List Str}{i:Nat}(W:WAt Cw H wp dw wl ts i)(ho:H op=none):PSt Cw Co c (upd H op (.lst [])) wp dw wl ts i op [] H:=by
 have n1:wp≠op:=aQ W.w ho
 have n2:wl≠op:=aQ W.l ho
 refine ⟨⟨by rw [aG n1]; exact W.w,by rw [aG n2]; exact W.l⟩,aA,fun f hf=>(by cases hf),?_,List.nodup_nil,fun f hf=>(by cases hf),Same.but (aH ho _),fun b hb hn=>?_⟩
 ·refine List.nodup_cons.mpr ⟨fun z=>n2 ?_,List.nodup_cons.mpr ⟨fun z=>(by cases z),List.nodup_nil⟩⟩
  rcases List.mem_cons.mp z with z | z
  ·exact z
  ·cases z
 ·rcases mem_muts.mp hb with z | z | ⟨g,hg,_⟩ | ⟨g,hg,_⟩
  ·exact absurd z hn
  ·rw [z]; exact ho
  ·cases hg
  ·cases hg
theorem CH5 {H:Hp}{wp op:Addr}:Same (Out (AB6 wp op []) H) (Out [wp] H):=lH fun b o n e=>⟨fun z=>n (mem_muts.mpr (.inl (List.mem_singleton.mp z))),e⟩
theorem AP3 (B:Bt K mg a)(AF1:CalX P w K mg base "closed" ["fit","words","opened"] 6 (AJ3 K a))(iG:CalX P w K mg base "plain_fit_from" ["words","opened"] 6 (lB K a))(F:Fun K "fit_from" "fit_from" tD f fd):FnOk P w K mg base (CXF P w) 7 f fd ["words"] (xA K a):=by
 exists 143,sc_fit_from,71
 refine ⟨_,(aW (aB (nomatch 170,1,sc_fit_from.nd,iW,aC) (aB (nomatch 170,2,sc_fit_from.nd,aS,yX) (aB (bN (oH PassesOwn.leaving (qE (yY (pv 2))) (aW (aJ (bA (i:=2) sc_fit_from.nd rfl (Or.inl rfl) (aS (cJ AF1 ↑144 rfl (aK (aL (nomatch 256,iG,0) (nomatch 207,0,1))) (he:=aD _ _ _ rfl) (hpl:=aF rfl))) (by kernel_rfl)))))) (nomatch 194,2))))),?_⟩
 generalize hR:BE5 (ts.drop i) []=R at good fail
 nofun
 refine ⟨Nat.zero_le _,fun op hop=>?_⟩
 have hP0:=PSt.start (Co:=a.Opened) (c:=fc a) W hop
 refine whl (CH4 a wp dw wl op ts i H R) (fun _ H1=>3000 - yH wp H1) ⟨i,[],.non,rfl,hP0,Nat.le_refl _,hi,Nat.zero_le _,.inl ⟨rfl,(fun f hf=>by cases hf),hR⟩⟩ ?_
 clear hP0 hR
 rintro σ H2 ⟨k,fs,fv,rfl,hP,hik,hk,hfl,hc⟩
 nofun
 rcases hc with ⟨rfl,hF,hR⟩ | ⟨t,rfl,hik2,hv,hR⟩
 ·rw [if_pos rfl]
  refine ⟨fun σ' H'=>CH4 a wp dw wl op ts i H R σ' H'/\3000 - yH wp H' < 3000 - yH wp H2,fun σ' H' h=>⟨_,h.2,rfl,h.1⟩,?_⟩
  rw [iX] at hR
  refine ⟨wp,dw,wl,op,ts,k,fs,H,rfl,hP,hT,hl,hk,hfl,hF,fun t r Sf e v H3 j fs' er hj1 hj2 hP3 eS hF3 hl3 hv3=>?_,fun e cls y H3 hx B3=>?_⟩
  ·rw [e] at hR
   dsimp only at hR
   subst er eS
   unfold after at hR
   refine ⟨v,t,wp,dw,wl,op,ts,j,fs',H,rfl,hP3,hT,hl,hj2,hl3,hF3,hv3,fun t' r' e' v' H4 j' er' hj3 hj4 hP4 hv4=>?_,fun r' Sf' e' H4 j' fs4 er' hj3 hj4 hP4 eS4 hF4 hl4=>?_,fun e' cls y H4 hx B4=>?_⟩
   ·rw [e'] at hR
    subst er'
    refine ⟨⟨j',[],v',rfl,hP4,by omega,hj4,Nat.zero_le _,.inr ⟨t',rfl,by omega,hv4,hR.symm⟩⟩,?_⟩
    rw [qZ hP4.W,qZ hP.W]
    omega
   ·rw [e'] at hR
    subst er' eS4
    refine ⟨⟨j',fs4,.non,rfl,hP4,by omega,hj4,hl4,.inl ⟨rfl,hF4,hR⟩⟩,?_⟩
    rw [qZ hP4.W,qZ hP.W]
    omega
   ·rw [e'] at hR
    exact fail hR.symm cls y H4 hx B4
  ·rw [e] at hR
   exact fail hR.symm cls y H3 hx B3
 ·obtain ⟨p,_,_,rfl,_⟩:=id hv.ins
  rw [if_neg (by intro z; cases z)]
  exact good _ _ hR (.ref p) H2 k rfl hik2 hk hP.K hP.W (hv.same CH5)
theorem pU (B:Bt K mg a)(iS:CalX P w K mg base "is_whole" ["thing"] 1 (pO K a))(F:Fun K "is_whole_between" "is_whole_between" fJ f fd):FnOk P w K mg base CX0 2 f fd ["thing","least","most"] (dP K a):=by
 exists 1,pF
 obtain ⟨x,lo,hi,rfl,ox,q⟩:=h
 refine ⟨_,(aW (aJ (aV (aS (uI (nomatch 158,iS,0) (uI (gX BS6 (pv 1) (pv 0) (bD _)) (vW (gX BS6 (pv 0) (pv 2) (bD _))))))))),?_⟩
 nofun
 refine ⟨x,rfl,ox,?_⟩
 cases x <;> simp_all [CD9,CA9,AT0,mY]
 split <;> simp_all
theorem pV (B:Bt K mg a)(bQ:CalX P w K mg base "is_whole_between" ["thing","least","most"] 2 (dP K a))(F:Fun K "is_minute_of_day" "is_minute_of_day" fO f fd):FnOk P w K mg base CX0 3 f fd ["thing"] (eY K a):=by
 exists 132,pK,x,ox
 refine ⟨_,(aW (aJ (aV (aS (pc bQ hr rfl (aK (aL (pv 0) (aL aN (aL (bL oS ↑192 aN) aC))))))))),?_⟩
 nofun
 exact ⟨x,0,1440 - 1,rfl,ox,q⟩
theorem lZ (B:Bt K mg a)(bQ:CalX P w K mg base "is_whole_between" ["thing","least","most"] 2 (dP K a))(F:Fun K "check_minute_of_hour" "check_minute_of_hour" dW f fd):FnOk P w K mg base (CXF P w) 3 f fd ["minute"] (fS K a):=by
 exists 127,lM
 ·obtain ⟨n,rfl,_⟩:=h
  rfl
 obtain ⟨n,rfl,q⟩:=h
 refine ⟨_,(aW (aJ (bK (cH (bP (cJ bQ ↑144 rfl (aK (aL (pv 0) (aL aN (aL (bL oS (cV (v:=.int 60) rfl B.MINUTES_OF_HOUR ⟨_,rfl⟩) aN) aC)))) (he:=aD _ _ _ rfl) (hpl:=aF rfl)))) (nomatch 148,a.NoClock,B.NoClock,B.exc_NoClock) aU))),?_⟩
 nofun
 refine ⟨_,_,_,rfl,⟨_,.int n,by kernel_rfl,by kernel_rfl⟩,?_⟩
 exists 41,c
 ·have e:mY (.int n) 0 (60 - 1)=true:=by simp only [mY,Bool.and_eq_true,decide_eq_true_eq]; omega
  exists 92,e
  exact q
 ·have e:mY (.int n) 0 (60 - 1)=false:=by simp only [mY,Bool.and_eq_false_iff,decide_eq_false_iff_not]; omega
  exists e,Bool.not_false
  exact q
theorem mR (B:Bt K mg a)(cC:CalX P w K mg base "is_minute_of_day" ["thing"] 3 (eY K a))(F:Fun K "check_minute_of_day" "check_minute_of_day" eF f fd):FnOk P w K mg base (CXF P w) 4 f fd ["minute"] (gA K a):=by
 exists 127,mQ
 ·obtain ⟨n,rfl,_⟩:=h
  rfl
 obtain ⟨n,rfl,q⟩:=h
 refine ⟨_,(aW (aJ (bK (cH (bP (nomatch 224,cJ,cC))) (nomatch 148,a.NoClock,B.NoClock,B.exc_NoClock) aU))),?_⟩
 nofun
 exists 94,n
 exists 41,c
 ·have e:mY (.int n) 0 1439=true:=by simp only [mY,Bool.and_eq_true,decide_eq_true_eq]; omega
  exists 92,e
  exact q
 ·have e:mY (.int n) 0 1439=false:=by simp only [mY,Bool.and_eq_false_iff,decide_eq_false_iff_not]; omega
  exists e,Bool.not_false
  exact q
theorem vD (B:Bt K mg a)(dY:CalX P w K mg base "check_minute_of_hour" ["minute"] 3 (fS K a))(F:Fun K "__init__" "Hour.__init__" jF f fd):FnOk P w K mg base (CXF P w) 4 f fd ["self","minute"] (iD K a):=by
 exists 127,uY
 exists 39,dY,B.ck_Hour.cl,B.na_Hour_minute
theorem xK (B:Bt K mg a)(eG:CalX P w K mg base "check_minute_of_day" ["minute"] 4 (gA K a))(F:Fun K "__init__" "Day.__init__" kN f fd):FnOk P w K mg base (CXF P w) 5 f fd ["self","minute"] (jK K a):=by
 exists 127,wW
 exists 39,eG,B.ck_Day.cl,B.na_Day_minute
def rFs (x y z:V):List (Str × V):=[("minutes",x),("times",y),("to",z)]
theorem rfs (x y z:V):oO ("minutes":Str) x []=([("minutes",x)]:List (Str × V))/\oO ("times":Str) y ([("minutes",x)]:List (Str × V))=([("minutes",x),("times",y)]:List (Str × V))/\oO ("to":Str) z ([("minutes",x),("times",y)]:List (Str × V))=rFs x y z:=by
 refine ⟨rfl,gS fun q hq=>?_,gS fun q hq=>?_⟩
 ·exists 22,hq
  exists 109
 ·exists 22,hq
  exists 99
theorem lfs (f y r s z:V):oO ("fit":Str) f []=([("fit",f)]:List (Str × V))/\oO ("way":Str) y ([("fit",f)]:List (Str × V))=([("fit",f),("way",y)]:List (Str × V))/\oO ("roads":Str) r ([("fit",f),("way",y)]:List (Str × V))=([("fit",f),("way",y),("roads",r)]:List (Str × V))/\oO ("sure":Str) s ([("fit",f),("way",y),("roads",r)]:List (Str × V))=([("fit",f),("way",y),("roads",r),("sure",s)]:List (Str × V))/\oO ("raised":Str) z ([("fit",f),("way",y),("roads",r),("sure",s)]:List (Str × V))=lFs f y r s z:=by
 refine ⟨rfl,gS fun q hq=>?_,gS fun q hq=>?_,gS fun q hq=>?_,gS fun q hq=>?_⟩
 exists 131
 ·exists 22,hq
  rcases hq with rfl | rfl | rfl | rfl <;> (dsimp only; decide)
theorem rP (B:Bt K mg a)(bU:CalX P w K mg base "is_whole_from" ["thing","least"] 2 (eQ K a))(cU:CalX P w K mg base "is_name" ["thing"] 1 (iR K a))(F:FunA K "__init__" "Raised.__init__" bR f fd):FnOk P w K mg base (CXF P w) 3 f fd ["self","minutes","times","to"] (fT K a):=by
 exists 0,FunA.okX,qU
 ·obtain ⟨p,dx,x,rfl,_⟩:=h
  rfl
 obtain ⟨p,dx,x,rfl,hp,gz,q⟩:=h
 refine ⟨_,(aW (aB (nomatch 227,1,a.NoWish,B.NoWish,B.exc_NoWish) (aB (nomatch 227,2,a.NoWish,B.NoWish,B.exc_NoWish) (aB (bK (L2.PW.pt (AG3 (qE (AL4 (pv 3))) (vV (cH (nomatch 226,bP,cJ,cU,3))))) (nomatch 148,a.NoWish,B.NoWish,B.exc_NoWish) aU) (aB (nomatch 176,1) (aB (nomatch 176,2) (aJ (nomatch 176,3)))))))),?_⟩
 obtain ⟨x,y,z⟩:=x
 dsimp only at q gz ⊢
 have bads:¬ (1<=x/\0<=y)->E (.ref a.NoWish) none H:=fun b=>by
  exists 105,q,e,e,b
  ·exact q
 have good:=fun b:1<=x/\0<=y=>q.elim And.right fun z=>absurd b z.1
 clear q
 obtain ⟨e1,e2,e3⟩:=rfs (.int x) (.int y) (toV z)
 nofun
 exists 67,x
 by_cases hx:1<=x
 ·exists 138,f1,x,1,hx
  exists 92,f1
  exists 67,y
  by_cases hy:0<=y
  ·exists 138,f2,y,0,hy
   exists 92,f2
   cases z with
   | none =>
    exists 107,h
    have S0:Same H H:=fun _ _ z=>z
    exists 135,S0
   | some u =>
    rw [if_pos (by intro h; cases h)]
    refine ⟨_,rfl,⟨(sQ (gz u rfl)).1,by have:=(sQ (gz u rfl)).2; omega⟩,fun H1 S1=>?_⟩
    have hb:iL (.str u)=true:=decide_eq_true (gz u rfl)
    exists toV,hb,Bool.not_true
    exists 135,S1
  ·exists 121,f2,y,0,hy,z.2
 ·exists 121,f1,x,1,hx,z.1
theorem BZ0 (B:Bt K mg a)(k:Nat):ClsK K (CG8 a k)/\kitOne K (.ref (CG8 a k)) (.ref a.Way)=some true/\kitOne K (.ref (CG8 a k)) (.ref a.Never)=some (decide (¬ (k=0\/k=1\/k=2))):=by
 unfold CG8
 exists 89,k0,0,B.ck_Now,B.is_Now_Way,B.is_Now_Never
 rw [if_neg k0]
 exists 89,k1,1,B.ck_Hour,B.is_Hour_Way,B.is_Hour_Never
 rw [if_neg k1]
 exists 89,k2,2,B.ck_Day,B.is_Day_Way,B.is_Day_Never
 rw [if_neg k2,decide_eq_true (by omega)]
 exact ⟨B.ck_Never,B.is_Never_Way,B.is_Never_Never⟩
theorem CH6 {a:Ad}{H:Hp}{v:V}{ra:Option ↑202}(h:RaIs a H v ra):v=.non ↔ ra=none:=by
 cases ra with
 | none=>exact ⟨fun _=>rfl,fun _=>h⟩
 | some x =>
  obtain ⟨q,d,rfl,_⟩:=h
  exact ⟨fun z=>(by cases z),fun z=>(by cases z)⟩
theorem xL (B:Bt K mg a)(F:Fun K "check_by_way" "check_by_way" kO f fd):FnOk P w K mg base (CXF P w) 1 f fd ["way","roads","sure","raised"] (nT K a):=by
 exists 127,wX
 ·obtain ⟨y,k,m,l,us,su,rv,ra,rfl,_⟩:=h
  rfl
 obtain ⟨y,k,m,l,us,su,rv,ra,rfl,hy,hl,l9,hra,q⟩:=h
 refine ⟨_,(aW (aJ (bK (cH (nomatch 151,0,B.Never)) (aJ (nomatch 275,238,dD,cI,1)) (aJ (bK (L2.PW.pt (kE (nomatch 238,AV1,cI,1) (kE (bP (pv 2)) (iU (qE (AL4 (pv 3))))))) (nomatch 148,a.NoWish,B.NoWish,B.exc_NoWish) aU))))),?_⟩
 obtain ⟨yp,d,rfl,hyp,k3⟩:=hy
 obtain ⟨c1,c2,c3⟩:=BZ0 B k
 have hn:=CH6 hra
 have le:us.length=0 ↔ us=[]:=List.length_eq_zero_iff
 nofun
 refine ⟨_,_,_,_,rfl,c1.ty hyp,c3,?_⟩
 by_cases kk:k=3
 ·exists 91,decide_eq_true
  exists 60
  exists 113
  ·exists 91,if_neg
   cases su with
   | true =>
    nofun
    exists 41,b
    ·rcases b with ⟨_,_,b,_⟩ | ⟨b,_⟩
     ·cases b
     ·exact absurd kk b
    ·exact q
   | false =>
    nofun
    by_cases hz:rv=.non
    ·have er:=hn.mp hz
     subst hz
     exists decide_true,not_true_eq_false,Bool.not_true
     exists 41,b
     ·first | exact q | (rw [if_neg (fun h=>h rfl)]; exact q)
     ·exact absurd (.inl ⟨kk,le.mp l0,rfl,er⟩) b
    ·exists 41,b
     ·rcases b with ⟨_,_,_,b⟩ | ⟨b,_⟩
      ·exact absurd (hn.mpr b) hz
      ·exact absurd kk b
     ·first | (rw [if_pos hz]; exact q) | (exists hz,decide_false,Bool.not_false; exact q)
  ·exists 91,if_pos
   exists 41,b
   ·rcases b with ⟨_,b,_⟩ | ⟨b,_⟩
    ·exact absurd (le.mpr b) l0
    ·exact absurd kk b
   ·exact q
 ·exists 91,decide_eq_false
  exists 137
  exists 113
  ·exists 91,if_pos
   exists 41,b
   ·exists 105,b,b,b,kk
    ·exact absurd (le.mp l0) b
   ·exact q
  ·exists 91,if_neg
   exists 41,b
   ·exact q
   ·exact absurd (.inr ⟨kk,fun z=>l0 (le.mpr z)⟩) b
theorem BH6 {us:List Str}:qY (us.map V.str)=decide ↑215:=by
 unfold qY
 exists 106
 rw [e2,Bool.eq_iff_iff,Bool.and_eq_true,decide_eq_true_eq,decide_eq_true_eq,List.all_map,List.all_eq_true]
 exact and_congr_left fun _=>forall_congr' fun u=>imp_congr_right fun _=>decide_eq_true_iff
theorem BZ1 {a:Ad}{H:Hp}{v:V}{ra:Option ↑202}(h:RaIs a H v ra):v=.non\/∃ q d fs,v=.ref q/\H q=some (.ins a.Raised d fs):=by
 cases ra with
 | none=>exact .inl h
 | some x =>
  obtain ⟨q,d,e,h⟩:=h
  exact .inr ⟨q,d,_,e,h⟩
theorem vE (B:Bt K mg a)(kT:CalX P w K mg base "check_by_way" ["way","roads","sure","raised"] 1 (nT K a))(cN:CalX P w K mg base "are_unlike_names" ["thing"] 2 (eX K a))(F:FunA K "__init__" "Line.__init__" bO f fd):FnOk P w K mg base (CXF P w) 3 f fd ["self","fit","way","roads","sure","raised"] (cX K a):=by
 exists 0,FunA.okX,uZ
 ·obtain ⟨p,dx,l,fv,y,rv,t,k,m,us,su,ra,rfl,_⟩:=h
  rfl
 obtain ⟨p,dx,l,fv,y,rv,t,k,m,us,su,ra,rfl,hp,hf,hy,hl,l9,htk,hra,q⟩:=h
 refine ⟨_,(aW (aB (nomatch 255,1,B.Fit) (aB (nomatch 255,2,B.Way) (aB (bK (cH (nomatch 226,bP,cJ,cN,3)) (nomatch 148,a.NoWish,B.NoWish,B.exc_NoWish) aU) (aB (nomatch 275,269,cH,bP,4) (aB (bK (L2.PW.pt (AG3 (qE (AL4 (pv 5))) (vV (cH (nomatch 151,5,B.Raised))))) (nomatch 148,a.NoWish,B.NoWish,B.exc_NoWish) aU) (aB (bN (bW (cJ kT ↑144 rfl (aK (aL (pv 2) (aL (pv 3) (nomatch 207,4,5)))) (he:=aD _ _ _ rfl) (hpl:=aF rfl)))) (aB (nomatch 176,1) (aB (nomatch 176,2) (aB (bN (dR (pv 0) (nomatch 242,3) rfl)) (aB (nomatch 176,4) (aJ (nomatch 176,5))))))))))))),?_⟩
 have bads:=fun (z:¬ (↑215/\↑212))=>q.elim (fun x=>absurd x.1 z) And.right
 have good:=fun (z:↑215/\↑212)=>q.elim And.right (fun x=>absurd z x.1)
 clear q
 exists 30,pf,dxf,hpf,hf.ins
 obtain ⟨yp,dy,ey,hyp,k3⟩:=id hy
 obtain ⟨c1,c2,c3⟩:=BZ0 B k
 obtain ⟨e1,_⟩:=lfs (.ref pf) y (.ref l) (.bl su) rv
 nofun
 refine ⟨_,_,_,true,rfl,hk.1.ty hpf,hk.2,?_⟩
 exists 60
 refine ⟨_,_,_,true,rfl,(by rw [ey]; exact c1.ty hyp),c2,?_⟩
 exists 60
 refine ⟨_,qY (us.map V.str),rfl,.inl ⟨l,_,rfl,hl,by rw [List.length_map]; omega,fun z hz=>?_,rfl⟩,fun H1 S1=>?_⟩
 ·exists 104,u,hu,hz
  exact AD0 (htk u hu)
 rw [BH6]
 by_cases cn:(∀ u∈us,aZ u)/\us.Nodup
 rotate_left
 ·rw [decide_eq_false cn]
  exists 137
  exact bads (fun z=>cn z.1) _ S1
 rw [decide_eq_true cn]
 exists 60
 have hy1:=hy.same S1
 have hra1:=hra.same S1
 exists 44,.bl,su
 rcases BZ1 hra1 with ez | ⟨q3,d3,f3,ez,h3⟩
 ·subst ez
  exists 107,h
  refine ⟨y,k,m,l,us,su,.non,ra,rfl,hy1,S1 _ _ hl,l9,hra1,?_⟩
  exists 19
  obtain ⟨e1,e2,e3,e4,e5⟩:=lfs (.ref pf) y (.ref l2) (.bl su) .non
  exists 20
 ·subst ez
  rw [if_pos (by intro h; cases h)]
  refine ⟨_,_,_,true,rfl,B.ck_Raised.ty h3,B.is_Raised_Raised,?_⟩
  exists 60
  refine ⟨y,k,m,l,us,su,(.ref q3),ra,rfl,hy1,S1 _ _ hl,l9,hra1,?_⟩
  exists 19
  obtain ⟨e1,e2,e3,e4,e5⟩:=lfs (.ref pf) y (.ref l2) (.bl su) (.ref q3)
  exists 20
theorem yK (B:Bt K mg a)(dX:∀ C sp,pQ K a C sp->CalM P w K mg base C "look" ["self"] 1 sp)(F:Fun K "takes" "Words.takes" lJ f fd):FnOk P w K mg base CX0 2 f fd ["self","word"] (oT K a):=by
 exists 1,yA
 obtain ⟨wp,dw,wl,ts,i,wd,rfl,W,q⟩:=h
 refine ⟨_,(aW (aB (bK (aX xX (nomatch 231,dX,wH) (pv 1) (bD _)) ↑181 aU) (aB (bN (wC (pv 0) aN AR5)) ↑181))),?_⟩
 exists 18,W.w,i,W
 nofun
 exists 41,e
 ·first | rw [if_neg (fun z=>z e)] | rw [if_neg (fun z=>z (congrArg V.str e))]
  exists 26
  exists 78
 ·first | rw [if_pos e] | rw [if_pos (fun z=>e (V.str.inj z))]
  exact q
theorem xM (B:Bt K mg a)(dA:∀ C sp,rL K a C sp->CalM P w K mg base C "takes" ["self","word"] 2 sp)(aY:CalI P w K mg base "NoText" a.NoText "line" 1 (.int 0))(F:Fun K "expect" "Words.expect" kL f fd):FnOk P w K mg base (CXF P w) 3 f fd ["self","word"] (nR K a):=by
 exists 142,wU,wd
 obtain ⟨wp,dw,wl,ts,i,wd,rfl,W,q⟩:=h
 refine ⟨_,(aW (aJ (bK (cH (bP (dE (pv 0) dA bX ↑144 (nomatch 162,1) (hst:=aD _ _ _ rfl) (hpl:=aF rfl)))) ↑221 aU))),?_⟩
 nofun
 exists 41,e
 ·refine ⟨_,_,_,W.w,rfl,_,⟨rfl,rfl⟩,wp,dw,wl,ts,i,wd,rfl,W,.inl ⟨e,?_⟩⟩
  exists 60
  exact q
 ·refine ⟨_,_,_,W.w,rfl,_,⟨rfl,rfl⟩,wp,dw,wl,ts,i,wd,rfl,W,.inr ⟨e,?_⟩⟩
  exists 137
  exact fun y hy=>q y _ (aH hy _)
theorem BN7 {ts:List Str}{i n:Nat}(h:i+n<=ts.length):AY4 (ts.map V.str) (some (i:Int)) (some ((i:Int)+(n:Int)))=((ts.drop i).take n).map V.str:=by
 have e:((i:Int)+(n:Int))=((i+n:Nat):Int):=by omega
 rw [e]
 unfold AY4
 rw [HT.sIx_nat,HT.sIx_nat,List.length_map,Nat.min_eq_left (by omega),Nat.min_eq_left (by omega),Nat.add_sub_cancel_left,<- List.map_drop,<- List.map_take]
theorem rQ (B:Bt K mg a)(aY:CalI P w K mg base "NoText" a.NoText "line" 1 (.int 0))(F:Fun K "take_some" "Words.take_some" gG f fd):FnOk P w K mg base (CXF P w) 3 f fd ["self","count"] (fQ K a):=by
 exists 142,sc_Words_take_some,n
 obtain ⟨wp,dw,wl,ts,i,n,rfl,W,hi,h9,q⟩:=h
 refine ⟨_,(aW (aB (bK (L2.PW.pt (kE (aX AL5 (pv 1) aN (bD _)) (iU (aX AV1 (pv 1) ↑249 (bD _))))) ↑221 aU) (aB (bA (i:=2) sc_Words_take_some.nd rfl (Or.inl rfl) (aS (jR zY ↑171 (kF ↑171) (kF (bL jP ↑171 (pv 1))))) (by kernel_rfl)) (aB (bN (wC (pv 0) (pv 1) AR5)) (nomatch 194,2))))),?_⟩
 nofun
 by_cases n0:n < 0
 ·rw [if_pos n0]
  exists 101
 rw [if_neg n0]
 exists 45
 exists 26
 exists List.length_map
 by_cases n1:n<=((ts.length - i:Nat):Int)
 rotate_left
 ·rw [if_pos (by omega)]
  exists 101
 exists 91,if_neg
 obtain ⟨n,rfl⟩:∃ k:Nat,n=k:=⟨n.toNat,by omega⟩
 have q:=q.elim And.right fun z=>absurd ⟨by omega,n1⟩ z.1
 rw [show ((n:Nat):Int).toNat=n from by omega] at q
 refine ⟨_,_,_,W.w,B.ck_Words.cl,B.na_Words_words,.ref wl,rfl,?_⟩
 exists 26
 exists 26
 refine ⟨wl,_,rfl,SqL.of W.l,fun l hl=>?_⟩
 exists 91,BN7
 have S1:=aH hl (.lst (((ts.drop i).take n).map V.str))
 have W1:=W.same S1
 exists 35,nlw,l,wp,W.w,hl
 refine ⟨_,_,_,W1.w,B.ck_Words.cl,B.na_Words_at,.int i,rfl,_,_,W1.w,(show 2 < 1000 by decide),?_⟩
 exact q l _ (fun b o nb e=>by rw [aG nb]; exact S1 b o e) hl (by rw [aG nlw]; exact aA) (W1.take (i+n))
theorem eP {ts:List Str}{i k:Nat}:(ts.drop i).getD k ""=ts.getD (i+k) "":=by simp [List.getD_eq_getElem?_getD]
theorem CH7 {ts:List Str}{i:Nat}:BX5 (ts.drop i)=(
  if ts.getD i ""="now" then some (0,0,ts.drop (i+1))
  else if ts.getD i ""="hour" then (if AW2 0 59 (nomatch 193,i)=true then some (1,dH (nomatch 193,i),ts.drop (i+2)) else none)
  else if ts.getD i ""="day" then (if AW2 0 1439 (nomatch 193,i)=true then some (2,dH (nomatch 193,i),ts.drop (i+2)) else none)
  else if ts.getD i ""="never" then some (3,0,ts.drop (i+1)) else none):=by
 unfold BX5
 rw [eP,eP,List.drop_drop,List.drop_drop,Nat.add_zero]
theorem AJ6 {ts:List Str}{k:Nat}(h:kI (ts.getD k "")=true):k < ts.length:=cP (ts:=ts) (k:=k) rfl (fun z=>by rw [z] at h; exact absurd h (by decide +kernel))
theorem fX {wp x:Addr}{H:Hp}{o:HO}(hw:H wp=some o)(hx:H x=none):x ∉ [wp]:=fun z=>by
 rw [List.mem_singleton.mp z,hw] at hx
 cases hx
theorem numF_iff {lo hi:Int}{u:Str}:AW2 lo hi u=true ↔ kI u=true/\lo<=dH u/\dH u<=hi:=by
 unfold AW2
 rw [Bool.and_eq_true,decide_eq_true_eq]
theorem AP4 (B:Bt K mg a)(cD:∀ C sp,iE K a C sp->CalM P w K mg base C "take" ["self"] 2 sp)(AQ3:CalC P w K mg base "Hour" a.Hour ["self","minute"] 4 (iD K a))(BI1:CalC P w K mg base "Day" a.Day ["self","minute"] 5 (jK K a))(aM:∀ C sp,bY K a C sp->CalM P w K mg base C "take_number" ["self"] 3 sp)(aY:CalI P w K mg base "NoText" a.NoText "line" 1 (.int 0))(F:Fun K "way_from" "way_from" tE f fd):FnOk P w K mg base (CXF P w) 7 f fd ["words"] (xC K a):=by
 exists 143,sc_way_from,71
 refine ⟨_,(aW (aB (nomatch 220,1,sc_way_from.nd,0,cD,bX) (nomatch 274,1,B.mk_Now,B.Now,AQ3,aM,BI1,253,B.mk_Never,B.Never))),?_⟩
 rw [CH7] at good fail
 exists 128
 nofun
 exists 40,c1,"now"
 exists 3,c2,"hour",a.Hour,59
 exists 3,c3,"day",a.Day,1439
 exists 40,c4,"never"
 exact fun y hy=>fail rfl _ _ _ (.inl (.inr rfl)) ↑252
theorem CO2 {ts:List Str}{i:Nat}:raF (ts.drop i)=(
  if (kI ↑186=true/\1<=dH ↑186)/\(kI (nomatch 193,i)=true/\0<=dH (nomatch 193,i)) then
   (if aZ ↑246 then some ((dH ↑186,dH (nomatch 193,i),some ↑246),ts.drop (i+3)) else some ((dH ↑186,dH (nomatch 193,i),none),ts.drop (i+2)))
  else none):=by
 unfold raF
 rw [eP,eP,eP,List.drop_drop,List.drop_drop,Nat.add_zero]
theorem yL (B:Bt K mg a)(aM:∀ C sp,bY K a C sp->CalM P w K mg base C "take_number" ["self"] 3 sp)(CD_Raised_3:CalD P w K mg base "Raised" a.Raised ["self","minutes","times","to"] 3 [] (fT K a))(cU:CalX P w K mg base "is_name" ["thing"] 1 (iR K a))(cD:∀ C sp,iE K a C sp->CalM P w K mg base C "take" ["self"] 2 sp)(dX:∀ C sp,pQ K a C sp->CalM P w K mg base C "look" ["self"] 1 sp)(F:Fun K "raised_from" "raised_from" lP f fd):FnOk P w K mg base (CXF P w) 5 f fd ["words"] (oW K a):=by
 exists 143,sc_raised_from,71
 refine ⟨_,(aW (aB (nomatch 220,1,sc_raised_from.nd,0,aM,bX) (aB (nomatch 220,2,sc_raised_from.nd,0,aM,bX) (aB (bA (i:=3) sc_raised_from.nd rfl (Or.inl rfl) (aS (oG (bP (cJ cU ↑144 rfl (aK (nomatch 230,dX,bX)) (he:=aD _ _ _ rfl) (hpl:=aF rfl))) (nomatch 231,cD,bX) yX)) (by kernel_rfl)) (aJ (aV (aS (AA7 CD_Raised_3 bX ↑144 rfl (aK (aL (pv 1) (nomatch 207,2,3))) (he:=aD _ _ _ rfl) (hpl:=aF rfl))))))))),?_⟩
 rw [CO2] at good fail
 nofun
 refine ⟨_,_,_,W.w,rfl,_,⟨rfl,rfl⟩,wp,dw,wl,ts,i,rfl,W,bJ hT _,?_⟩
 by_cases n1:kI ↑186=true
 rotate_left
 ·rw [if_neg (fun z=>n1 z.1.1)] at fail
  exact .inr ⟨by simpa using n1,fun y H3 B3=>fail rfl _ _ _ (.inl (.inr rfl)) B3⟩
 refine .inl ⟨n1,fun H1 B1 W1=>?_⟩
 have k1:=AJ6 n1
 nofun
 exists 50,W1.w,i,W1,n2
 rotate_left
 ·rw [if_neg (fun z=>n2 z.2.1)] at fail
  exact .inr ⟨by simpa using n2,fun y H3 B3=>fail rfl _ _ _ (.inl (.inr rfl)) (B1.trans B3)⟩
 refine .inl ⟨n2,fun H2 B2 W2=>?_⟩
 have k2:=AJ6 n2
 have B12:=B1.trans B2
 nofun
 refine ⟨_,_,_,W2.w,rfl,_,⟨rfl,rfl⟩,wp,dw,wl,ts,i+2,rfl,W2,?_⟩
 refine ⟨_,rfl,AD0 (bJ hT _),fun H3 S3=>?_⟩
 exists 86,W3,W2.same,S3,B3,B12.trans
 by_cases g:aZ ↑246
 ·have e:iL (.str ↑246)=true:=decide_eq_true g
  rw [if_pos g] at good
  have k3:i+2 < ts.length:=cP (ts:=ts) (k:=i+2) rfl (fun z=>by rw [z] at g; exact absurd g (by decide))
  exists e
  refine ⟨_,_,_,W3.w,rfl,_,⟨rfl,rfl⟩,wp,dw,wl,ts,i+2,rfl,W3,?_⟩
  exists 13,WA_,W3.take,i,3,BX,H3
  have BA:=B3.trans BX
  ·exists 23,H3,i,3,H4
   nofun
   exists 14,a.Raised
   refine ⟨x,dx,(dH ↑186,dH (nomatch 193,i),some ↑246),rfl,aA,(fun u e=>by cases e; exact g),?_⟩
   exists 31,3
 ·have e:iL (.str ↑246)=false:=decide_eq_false g
  rw [if_neg g] at good
  exists e
  have WA_:=W3
  have BA:=B3
  ·exists 14,a.Raised
   refine ⟨x,dx,(dH ↑186,dH (nomatch 193,i),none),rfl,aA,(fun u e=>by cases e),?_⟩
   exists 31,2
theorem jL {wp:Addr}{H H':Hp}(B:But wp H H'):Same (Out [wp] H) (Out [wp] H'):=lH fun b o n e=>⟨n,B b o (fun z=>n (List.mem_singleton.mpr z)) e⟩
theorem BZ2 {ts:List Str}{j:Nat}:AI5 (ts.drop j)=if ts.getD j ""=":" then (match BX5 (ts.drop (j+1)) with
  | none=>none
  | some (k,m,q)=>if k=3 then some (⟨3,0,[],false,none⟩,q) else byF k m q) else none:=by
 unfold AI5
 rw [eP,List.drop_drop,Nat.add_zero]
 all_goals rfl
theorem BH7 {ts:List Str}{j:Nat}:qQ (ts.drop j)=if ts.getD j ""="sure" then (true,ts.drop (j+1)) else (false,ts.drop j):=by
 unfold qQ
 rw [eP,List.drop_drop,Nat.add_zero]
theorem oN {ts:List Str}{j:Nat}:qP (ts.drop j)=if ts.getD j ""="raise" then (raF (ts.drop (j+1))).map (fun x=>(some x.1,x.2)) else some (none,ts.drop j):=by
 unfold qP
 rw [eP,List.drop_drop,Nat.add_zero]
def CB4 (ts:List Str)(k:Nat)(m:Int)(us:List Str)(j:Nat):Option (Ln × List Str):=if rsOk us then (qP (qQ (ts.drop j)).2).map (fun x=>(⟨k,m,us,(qQ (ts.drop j)).1,x.1⟩,x.2)) else none
theorem CO3 {ts:List Str}{k:Nat}{m:Int}{j:Nat}:byF k m (ts.drop j)=if ts.getD j ""="by"/\AW2 0 ((ts.length - (j+2):Nat):Int) (nomatch 193,j)=true then CB4 ts k m (nomatch 248,j) (j+2+(dH (nomatch 193,j)).toNat) else none:=by
 unfold byF CB4
 rw [eP,eP,List.drop_drop,List.drop_drop,List.length_drop,Nat.add_zero]
 by_cases c:ts.getD j ""="by"/\AW2 0 ((ts.length - (j+2):Nat):Int) (nomatch 193,j)=true
 ·rw [if_pos c]
  by_cases d:rsOk (nomatch 248,j)
  ·rw [if_pos ⟨c,d⟩,if_pos d]
  ·rw [if_neg (fun z=>d z.2),if_neg d]
 ·rw [if_neg c,if_neg (fun z=>c z.1)]
theorem oQ (B:Bt K mg a)(tS:CalX P w K mg base "fit_from" ["words"] 7 (xA K a))(jM:∀ C sp,xH K a C sp->CalM P w K mg base C "expect" ["self","word"] 3 sp)(tT:CalX P w K mg base "way_from" ["words"] 7 (xC K a))(fD:∀ C sp,nW K a C sp->CalM P w K mg base C "take_some" ["self","count"] 3 sp)(dA:∀ C sp,rL K a C sp->CalM P w K mg base C "takes" ["self","word"] 2 sp)(CD_Line_5:CalD P w K mg base "Line" a.Line ["self","fit","way","roads","sure","raised"] 3 [] (cX K a))(CD_Line_3:CalD P w K mg base "Line" a.Line ["self","fit","way","roads","sure","raised"] 3 [.bl false,.non] (cX K a))(aM:∀ C sp,bY K a C sp->CalM P w K mg base C "take_number" ["self"] 3 sp)(mE:CalX P w K mg base "raised_from" ["words"] 5 (oW K a))(F:Fun K "line_from" "line_from" cF f fd):FnOk P w K mg base (CXF P w) 8 f fd ["words"] (iK K a):=by
 exists 143,sc_line_from_wording,71
 refine ⟨_,(aW (aB (nomatch 270,1,tS) (aB ↑273 (aB (nomatch 270,2,tT) (aB (bK (nomatch 151,2,B.Never) (aJ (aV (aS (AA7 CD_Line_3 bX ↑144 rfl (aK (aL (pv 1) (aL (pv 2) (aL (mK (aK aC)) aC)))) (he:=aD _ _ _ rfl) (hpl:=aF rfl))))) aU) (aB ↑273 (aB (bA (i:=3) sc_line_from_wording.nd rfl (Or.inl rfl) (aS (dE (pv 0) fD bX ↑144 (aK (nomatch 230,aM,bX)) (hst:=aD _ _ _ rfl) (hpl:=aF rfl))) (by kernel_rfl)) (aB (nomatch 265,sc_line_from_wording.nd) (aB (bA (i:=5) sc_line_from_wording.nd rfl (Or.inl rfl) (aS (oG (nomatch 222,bP,dA,bX) (nomatch 224,cJ,mE) yX)) (by kernel_rfl)) (aJ (aV (aS (AA7 CD_Line_5 bX ↑144 rfl (aK (aL (pv 1) (aL (pv 2) (aL (pv 3) (nomatch 207,4,5))))) (he:=aD _ _ _ rfl) (hpl:=aF rfl)))))))))))))),?_⟩
 nofun
 refine ⟨wp,dw,wl,ts,i,rfl,W,hT,hl,hi,fun t r e fv H1 j er ij jl B1 W1 hf=>?_,fun e cls y H1 hc B1=>fail (by unfold AI6; rw [e]) cls y H1 (.inl hc) B1⟩
 have eL:AI6 (ts.drop i)=(AI5 (ts.drop j)).map fun x=>(t,x):=by unfold AI6; rw [e,er]
 rw [eL,BZ2] at good fail
 clear e er eL
 nofun
 by_cases c1:ts.getD j ""=":"
 rotate_left
 ·rw [if_neg c1] at fail
  exists 87,W1.w,j,W1,c1,B1.trans
 rw [if_pos c1] at good fail
 exists 55,W1.w,j,W1,.inl,c1
 have j1:=cP c1 (by decide)
 exists 13,W2,W1.take,j,1,BX,H1
 have B2:=B1.trans BX
 replace hf:=hf.same (jL BX)
 exists 23,H1,j,1,H2
 clear BX W1 B1 H1
 nofun
 refine ⟨wp,dw,wl,ts,j+1,rfl,W2,hT,hl,by omega,fun k m r e wv H3 q er jq ql BX W3 hw=>?_,fun e cls y H3 hc B3=>fail (by rw [e]; rfl) cls y H3 hc (B2.trans B3)⟩
 rw [e,er] at good fail
 dsimp only at good fail
 have B3:=B2.trans BX
 replace hf:=hf.same (jL BX)
 clear e er BX W2 B2 H2
 obtain ⟨yq,dy,rfl,hyq,k3⟩:=id hw
 obtain ⟨k1,k2,k4⟩:=BZ0 B k
 nofun
 refine ⟨_,_,_,_,rfl,k1.ty (iY _ _ hyq),k4,?_⟩
 by_cases kk:k=3
 ·exists 91,decide_eq_true
  rw [if_pos kk] at good fail
  nofun
  subst kk
  exists 54,l,hll,S4
  have W4:=W3.same S4
  have e4:upd H3 l (.lst []) l=some (.lst ([].map V.str)):=aA
  have B4:=B3.trans (Same.but S4)
  exists 73,jT,S4
  generalize upd H3 l (.lst [])=H4 at *
  exists 14,a.Line
  refine ⟨x,dx,l,fv,.ref yq,.non,t,3,m,[],false,none,rfl,aA,(hf.same iY).same M0,(hw.same iY).same M0,M0 _ _ e4,by decide,(fun u h=>by cases h),rfl,.inl ⟨⟨⟨(fun u h=>by cases h),List.nodup_nil⟩,.inl ⟨rfl,rfl,rfl,rfl⟩⟩,fun l' H' Bx hl' e1 e2=>⟨rfl,?_⟩⟩⟩
  have SS:=eA hx hd Bx
  have SO:=jT (M:=[wp]) SS
  exact good t ⟨3,0,[],false,none⟩ _ rfl (.ref x) H' q rfl (by omega) (by omega) (B4.trans (Same.but SS)) (W4.same SS) ⟨x,dx,fv,.ref yq,l',.non,rfl,eC (fX W4.w hx) e2,hf.same SO,hw.same SO,eC (fX W4.w (M0.free hl')) e1,rfl⟩
 ·exists 91,decide_eq_false
  rw [if_neg kk,CO3] at good fail
  nofun
  by_cases c2:ts.getD q ""="by"
  rotate_left
  ·rw [if_neg (fun z=>c2 z.1)] at fail
   exists 87,W3.w,q,W3,c2,B3.trans
  exists 55,W3.w,q,W3,.inl,c2
  have q1:=cP c2 (by decide)
  exists 13,W4,W3.take,q,1,BX,H3
  have B4:=B3.trans BX
  exists 73,jL,BX
  exists 23,H3,q,1,H4
  clear BX
  nofun
  refine ⟨_,_,_,W4.w,rfl,_,⟨rfl,rfl⟩,_,_,_,W4.w,rfl,_,⟨rfl,rfl⟩,wp,dw,wl,ts,q+1,rfl,W4,bJ hT _,?_⟩
  by_cases n1:kI (nomatch 193,q)=true
  rotate_left
  ·rw [if_neg (fun z=>n1 (numF_iff.mp z.2).1)] at fail
   exact .inr ⟨by simpa using n1,fun y H5 B5=>fail rfl _ _ _ (.inl (.inr rfl)) (B4.trans B5)⟩
  refine .inl ⟨n1,fun H5 BX W5=>?_⟩
  have q2:=AJ6 n1
  have B5:=B4.trans BX
  exists 73,jL,BX
  clear BX
  refine ⟨wp,dw,wl,ts,q+2,dH (nomatch 193,q),rfl,W5,by omega,hl,?_⟩
  by_cases n2:0<=dH (nomatch 193,q)/\dH (nomatch 193,q)<=((ts.length - (q+2):Nat):Int)
  rotate_left
  ·rw [if_neg (fun z=>n2 (numF_iff.mp z.2).2)] at fail
   exact .inr ⟨n2,fun y H6 S6=>fail rfl _ _ _ (.inl (.inr rfl)) (B5.trans (Same.but S6))⟩
  rw [if_pos ⟨c2,numF_iff.mpr ⟨n1,n2⟩⟩] at good fail
  refine .inl ⟨n2,fun l H6 BX hl0 hll W6=>?_⟩
  have B6:=B5.trans BX
  exists 73,jL,BX
  have nlw:l ∉ [wp]:=fX W5.w hl0
  clear BX hl0 B5 W5 B4 W4 B3 W3
  have q6:q+2+(dH (nomatch 193,q)).toNat<=ts.length:=by omega
  have qz:q+2<=q+2+(dH (nomatch 193,q)).toNat:=Nat.le_add_right _ _
  have tk:∀ u∈(ts.drop (q+2)).take (dH (nomatch 193,q)).toNat,gY u:=fun u hu=>hT u (List.mem_of_mem_drop (List.mem_of_mem_take hu))
  have lu:(nomatch 248,q).length<=1000:=by rw [List.length_take,List.length_drop]; omega
  generalize (ts.drop (q+2)).take (dH (nomatch 193,q)).toNat=us at *
  generalize q+2+(dH (nomatch 193,q)).toNat=z at *
  nofun
  have fin:∀ (su:Bool) (z7:Nat) (rv:V) (ra:Option ↑202) (H8:Hp) (z8:Nat),qQ (ts.drop z)=(su,ts.drop z7)->qP (ts.drop z7)=some (ra,ts.drop z8)->z<=z8->z8<=ts.length->But wp H6 H8->WAt a.Words H8 wp dw wl ts z8->RaIs a (Out [wp] H8) rv ra->∀ x dx,H8 x=none->H8 dx=none->dx≠x->cX K a [.ref x,fv,.ref yq,.ref l,.bl su,rv] (nomatch 217,H8,a.Line) (fun v H2=>v=.non/\Q (.ref x) H2) E:=by
   intro su z7 rv ra H8 z8 es er z81 z82 BX W8 hra x dx hx hd ne
   have B8:=B6.trans BX
   have hf:=hf.same (jL BX)
   have hw:=hw.same (jL BX)
   have h8:=iY _ _ (jL BX _ _ (eC nlw hll))
   have M0:=bT (o:=.own x) (o':=.ins a.Line dx []) hx hd
   have eE:CB4 ts k m us z=if rsOk us then some (⟨k,m,us,su,ra⟩,ts.drop z8) else none:=by unfold CB4; rw [es]; dsimp only; rw [er]; rfl
   rw [eE] at good fail
   refine ⟨x,dx,l,fv,.ref yq,rv,t,k,m,us,su,ra,rfl,aA,(hf.same iY).same M0,(hw.same iY).same M0,M0 _ _ h8,lu,tk,(hra.same iY).same M0,?_⟩
   by_cases g:rsOk us
   ·refine .inl ⟨⟨g.2,.inr ⟨kk,g.1⟩⟩,fun l' H' Bx hl' e1 e2=>⟨rfl,?_⟩⟩
    rw [if_pos g] at good
    have SS:=eA hx hd Bx
    have SO:=jT (M:=[wp]) SS
    exact good t ⟨k,m,us,su,ra⟩ _ rfl (.ref x) H' z8 rfl (by omega) (by omega) (B8.trans (Same.but SS)) (W8.same SS) ⟨x,dx,fv,.ref yq,l',rv,rfl,eC (fX W8.w hx) e2,hf.same SO,hw.same SO,eC (fX W8.w (M0.free hl')) e1,hra.same SO⟩
   ·rw [if_neg g] at fail
    refine .inr ⟨fun y=>g ⟨?_,y.1⟩,fun H' S'=>fail rfl _ _ _ (.inr (.inr rfl)) (B8.trans (Same.but (M0.trans S')))⟩
    rcases y.2 with y | y
    ·exact absurd y.1 kk
    ·exact y.2
  refine ⟨_,_,_,W6.w,rfl,_,⟨rfl,rfl⟩,wp,dw,wl,ts,z,_,rfl,W6,?_⟩
  by_cases c9:ts.getD z ""="sure"
  ·refine .inl ⟨c9,?_⟩
   have es:qQ (ts.drop z)=(true,ts.drop (z+1)):=by rw [BH7,if_pos c9]
   have z72:z+1<=ts.length:=cP c9 (by decide)
   exists 13,W7,W6.take,z,1,BY,H6
   have z71:z<=z+1:=Nat.le_succ _
   exists 23,H6,z,1,H7
   generalize z+1=z7 at *
   exists 8,z7,H7
  ·refine .inr ⟨c9,?_⟩
   have es:qQ (ts.drop z)=(false,ts.drop z):=by rw [BH7,if_neg c9]
   have z72:=q6
   have W7:=W6
   have BY:But wp H6 H6:=fun _ _ _ e=>e
   have z71:z<=z:=Nat.le_refl _
   exists 8,z,H6
theorem yM (B:Bt K mg a)(dX:∀ C sp,pQ K a C sp->CalM P w K mg base C "look" ["self"] 1 sp)(F:Fun K "take" "Words.take" jW f fd):FnT P w K mg base (CXF P w) 2 f fd ["self"] (lU K a):=by
 refine CF6 F sc_Words_take (fun vs H Q E h=>?_) (fun cdv A outer s H vs Q E hr h s1 I=>?_)
 exists 36,i
 exists 84
 refine BW8 (QS.h (nomatch 220,1,sc_Words_take.nd,0,dX,wH)) (pv 0) aN AR5 (aW (nomatch 194,1)) I ?_
 exists 18,W.w,i,W
 nofun
 exists 26
 exists 78
theorem pW (B:Bt K mg a)(aM:∀ C sp,bY K a C sp->CalM P w K mg base C "take_number" ["self"] 3 sp)(aY:CalI P w K mg base "NoText" a.NoText "line" 1 (.int 0))(F:Fun K "take_count" "Words.take_count" fM f fd):FnOk P w K mg base (CXF P w) 4 f fd ["self"] (jH K a):=by
 exists 127,sc_Words_take_count
 exists 136
 refine ⟨_,(aW (aB (nomatch 220,1,sc_Words_take_count.nd,0,aM,bX) (aB (bK (aX AL5 (pv 1) aN (bD _)) ↑221 aU) (nomatch 194,1)))),?_⟩
 nofun
 cases c:kI ↑186 with
 | false =>
  exists 41,e
  ·unfold BX3 at e
   rw [c] at e
   cases e
  ·exact ⟨_,_,_,W.w,rfl,_,⟨rfl,rfl⟩,wp,dw,wl,ts,i,rfl,W,ht,.inr ⟨c,q⟩⟩
 | true =>
  refine ⟨_,_,_,W.w,rfl,_,⟨rfl,rfl⟩,wp,dw,wl,ts,i,rfl,W,ht,.inl ⟨c,fun H1 B1 W1=>?_⟩⟩
  nofun
  exists 41,e
  ·unfold BX3 at e
   rw [c,Bool.true_and,decide_eq_true_eq] at e
   exists 91,if_neg
   exact q _ B1 W1
  ·unfold BX3 at e
   rw [c,Bool.true_and,decide_eq_false_iff_not] at e
   exists 91,if_pos
   exact fun y hy=>q y _ ↑252
theorem rR (B:Bt K mg a)(cD:∀ C sp,iE K a C sp->CalM P w K mg base C "take" ["self"] 2 sp)(cU:CalX P w K mg base "is_name" ["thing"] 1 (iR K a))(aY:CalI P w K mg base "NoText" a.NoText "line" 1 (.int 0))(F:Fun K "take_name" "Words.take_name" gF f fd):FnOk P w K mg base (CXF P w) 3 f fd ["self"] (jZ K a):=by
 exists 127,sc_Words_take_name
 exists 136
 refine ⟨_,(aW (aB (nomatch 220,1,sc_Words_take_name.nd,0,cD,bX) (aB (bK (cH (nomatch 226,bP,cJ,cU,1)) ↑221 aU) (nomatch 194,1)))),?_⟩
 exists 128
 nofun
 refine ⟨_,rfl,AD0 ht,fun H2 S2=>?_⟩
 nofun
 exists 41,e
 ·have e2:iL (.str ↑186)=true:=e
  exists 92,e2
  exact q _ (B1.trans (Same.but S2)) (W1.same S2)
 ·have e2:iL (.str ↑186)=false:=e
  exists 103,e2
theorem oR (B:Bt K mg a)(cD:∀ C sp,iE K a C sp->CalM P w K mg base C "take" ["self"] 2 sp)(aY:CalI P w K mg base "NoText" a.NoText "line" 1 (.int 0))(F:Fun K "take_one_of" "Words.take_one_of" eW f fd):FnOk P w K mg base (CXF P w) 3 f fd ["self","choices"] (iJ K a):=by
 exists 127,sc_Words_take_one_of
 ·obtain ⟨wp,dw,wl,ts,i,c,us,rfl,_⟩:=h
  rfl
 obtain ⟨wp,dw,wl,ts,i,c,us,rfl,W,hc,l10,q⟩:=h
 refine ⟨_,(aW (aB (nomatch 220,2,sc_Words_take_one_of.nd,0,cD,bX) (aB (bK (aX mV (pv 2) (pv 1) (by with_unfolding_all rfl)) ↑221 aU) (nomatch 194,2)))),?_⟩
 exists 35,nc,c,wp,W.w,hc
 exists 18,W.w,i,W
 exists 13,W1,W.take,i,1,B1,H
 exists 139,hc1,H,i,c,.tup,nc,hc,H1
 nofun
 first | refine ⟨_,.inr (SqT.of hc1),rfl,xI us,?_⟩ | refine ⟨c,_,rfl,.inr (SqT.of hc1),rfl,xI us,?_⟩
 rw [AD5]
 exists 41,e
 ·rw [e]
  exists 60
  exact q _ B1 W1
 ·rw [e]
  exists 137
  exact fun y hy=>q y _ ↑252
theorem rS (B:Bt K mg a)(fD:∀ C sp,nW K a C sp->CalM P w K mg base C "take_some" ["self","count"] 3 sp)(F:Fun K "take_rest" "Words.take_rest" gH f fd):FnOk P w K mg base (CXF P w) 4 f fd ["self"] (kA K a):=by
 exists 127,qS
 exists 36,i
 obtain ⟨wp,dw,wl,ts,i,rfl,W,hin,h9,q⟩:=h
 refine ⟨_,(aW (aJ (aV (aS (dE (pv 0) fD bX ↑144 (aK (aL ↑249 aC)) (hst:=aD _ _ _ rfl) (hpl:=aF rfl)))))),?_⟩
 nofun
 refine ⟨_,_,_,W.w,rfl,_,⟨rfl,rfl⟩,?_⟩
 exists 45
 exists 26
 have e:(((ts.map V.str).length:Nat):Int) - (i:Int)=((ts.length - i:Nat):Int):=by rw [List.length_map]; omega
 show fQ K a [.ref wp,.int ((((ts.map V.str).length:Nat):Int) - (i:Int))] H _ E
 rw [e]
 refine ⟨wp,dw,wl,ts,i,_,rfl,W,hin,h9,.inl ⟨⟨by omega,Int.le_refl _⟩,fun l H' Bx hl hl' W'=>?_⟩⟩
 have n1:(((ts.length - i:Nat):Int)).toNat=ts.length - i:=by omega
 rw [n1,List.take_of_length_le (by rw [List.length_drop]; exact Nat.le_refl _)] at hl'
 rw [n1,show i+(ts.length - i)=ts.length by omega] at W'
 exact q l H' Bx hl hl' W'
theorem tR (B:Bt K mg a)(cC:CalX P w K mg base "is_minute_of_day" ["thing"] 3 (eY K a))(F:Fun K "is_quiet_hours" "is_quiet_hours" hX f fd):FnOk P w K mg base CX0 4 f fd ["thing"] (lA K a):=by
 exists 1,sZ
 obtain ⟨x,qu,rfl,hx,ho,q⟩:=h
 refine ⟨_,(aW (aB (bK (qE (yY (pv 0))) ↑181 aU) (aB (bK (L2.PW.pt (kE (cH (bP (nomatch 145,"tuple",0,B.tuple,PyProof.Rows.boot_tuple))) (iU (nomatch 238,xX,cI,0)))) ↑181 aU) (aJ (aV (aS (uI ↑260 (uI ↑260 (vW (gX xX (nomatch 174,wG) (nomatch 174,wG) (bD _))))))))))),?_⟩
 nofun
 cases qu with
 | none =>
  cases hx
  exists decide_true
  exact q
 | some qu =>
  obtain ⟨p,rfl,hp⟩:=hx
  obtain ⟨⟨a1,a2⟩,⟨b1,b2⟩,ne⟩:=ho
  nofun
  exists 44,.tup,hp
  refine ⟨_,.inr (SqT.of hp),?_⟩
  rw [if_neg (by simp)]
  exists 75,qu.1
  exists 94,qu.1
  have e1:mY (.int qu.1) 0 1439=true:=by unfold mY; simp [a1,a2]
  have e2:mY (.int qu.2) 0 1439=true:=by unfold mY; simp [b1,b2]
  exists e1
  exists 75,qu.2
  exists 94,qu.2
  exists e2
  exists 75,qu.1
  exists 75,qu.2
  have en:decide (¬ qu.1=qu.2)=true:=decide_eq_true ne
  first | (rw [en]; exact q) | (simp only [ne,not_false_eq_true,decide_true]; exact q) | (simp [ne]; exact q)
theorem AD7 (B:Bt K mg a)(bQ:CalX P w K mg base "is_whole_between" ["thing","least","most"] 2 (dP K a))(F:Fun K "check_zone" "check_zone" nI f fd):FnOk P w K mg base CX0 3 f fd ["zone"] (rC K a):=by
 exists 1,AC3
 obtain ⟨z,rfl,⟨z1,z2⟩,q⟩:=h
 refine ⟨_,(aW (aJ (bK (cH (bP (pc bQ hr rfl (aK (aL (pv 0) (aL (bL oS aN ↑192) (aL (bL oS ↑192 aN) aC))))))) (cM kW) aU))),?_⟩
 nofun
 refine ⟨_,_,_,rfl,⟨_,.int z,by kernel_rfl,by kernel_rfl⟩,?_⟩
 have e:mY (.int z) (1 - 1440) (1440 - 1)=true:=by unfold mY; simp; omega
 exists 92,e
 exact q
theorem yN (B:Bt K mg a)(iH:CalX P w K mg base "is_quiet_hours" ["thing"] 4 (lA K a))(F:Fun K "check_quiet" "check_quiet" lL f fd):FnOk P w K mg base CX0 5 f fd ["quiet"] (oU K a):=by
 exists 1,yC
 obtain ⟨x,qu,rfl,hx,ho,q⟩:=h
 refine ⟨_,(aW (aJ (bK (cH (bP (nomatch 158,iH,0))) (cM kW) aU))),?_⟩
 nofun
 refine ⟨_,qu,rfl,hx,ho,?_⟩
 exists 60
 exact q
theorem AD8 (B:Bt K mg a)(bU:CalX P w K mg base "is_whole_from" ["thing","least"] 2 (eQ K a))(F:Fun K "check_wake" "check_wake" nJ f fd):FnOk P w K mg base CX0 3 f fd ["wake","quiet"] (rD K a):=by
 exists 1,AC4
 obtain ⟨k,qq,rfl,hk,q⟩:=h
 refine ⟨_,(aW (aB ↑219 (aJ (bK (L2.PW.pt (kE (qE (yY (pv 1))) (iU (cH (bP (nomatch 261,bU,0)))))) (cM kW) aU)))),?_⟩
 nofun
 rcases hk with rfl | ⟨⟨n,rfl,n0⟩,r,rfl⟩
 ·exists decide_true
  exact q
 ·nofun
  first | rw [if_neg (by intro z; cases z)] | skip
  first | rw [if_neg (by intro z; cases z)] | skip
  exists 67,n
  exists 138,e,n,0,n0
  exists 92,e
  exact q
theorem yO (B:Bt K mg a)(F:Fun K "check_lines" "check_lines" lN f fd):FnOk P w K mg base CX0 1 f fd ["lines"] (oV K a):=by
 exists 1,yD
 obtain ⟨p,xs,rfl,hp,hl,hy,q⟩:=h
 refine ⟨_,(aW (aB ↑219 (aJ (bK (L2.PW.pt (kE (nomatch 232,0) (iU (cH (bP (bC (vQ rfl) rfl B.all PyProof.Rows.boot_all (aK (aL (eH ["line"] [none] rfl (by kernel_rfl) (sH (pv 0)) (fun cl C s H fp=>⟨(nomatch 149,"line"),gC,(bC (pB (K:=K) rfl) (nomatch 169,kH) B.isinstance PyProof.Rows.boot_isinstance (aK (aL ↑155 (aL (cV (v:=.ref _) (nomatch 169,kH) B.Line rfl) aC))) (he:=aD _ _ _ rfl) (hpl:=aF rfl))⟩)) aC)) (he:=aD _ _ _ rfl) (hpl:=aF rfl))))))) (cM kW) aU)))),?_⟩
 nofun
 exists 44,.lst,hp
 refine ⟨⟨xs,SqL.of hp⟩,?_⟩
 refine CompL.by (xs:=xs) (fun i acc σ H'=>acc=(List.replicate i true).map V.bl/\(∃ v,σ=[v])/\H'=H) (sz8 (by omega)) ⟨rfl,⟨_,rfl⟩,rfl⟩ (fun i acc σ H' _ h=>by rw [h.2.2]; exact SqL.of hp) ?_ ?_ ?_
 ·rintro i y acc σ H' hy2 ⟨rfl,⟨v,rfl⟩,rfl⟩
  obtain ⟨r,d,fs,rfl,hr1⟩:=hy y (List.mem_of_getElem? hy2)
  have ea:(List.replicate i true).map V.bl++[V.bl true]=(List.replicate (i+1) true).map V.bl:=by rw [List.replicate_succ',List.map_append]; rfl
  nofun
  refine ⟨_,_,_,true,rfl,B.ck_Line.ty hr1,B.is_Line_Line,?_⟩
  first | exact ⟨ea,⟨_,rfl⟩,rfl⟩ | exact ea | exact ⟨ea,rfl⟩
 ·rintro i acc σ H' ⟨rfl,_,_⟩
  rw [List.length_map,List.length_replicate]
  omega
 ·exists 124
  have S2:=aH hD (.lst ((↑206).map V.bl))
  exists 122
  generalize upd H' D (.lst ((↑206).map V.bl))=H2 at *
  have ha:(↑206).all id=true:=by
   rw [List.all_eq_true]
   intro b hb
   exact List.eq_of_mem_replicate hb
  exists 92,ha
  exact q _ S2
def CS5 (z q k l:V):List (Str × V):=[("zone",z),("quiet",q),("wake",k),("lines",l)]
theorem wfs (z q k l:V):oO ("zone":Str) z []=([("zone",z)]:List (Str × V))/\oO ("quiet":Str) q ([("zone",z)]:List (Str × V))=([("zone",z),("quiet",q)]:List (Str × V))/\oO ("wake":Str) k ([("zone",z),("quiet",q)]:List (Str × V))=([("zone",z),("quiet",q),("wake",k)]:List (Str × V))/\oO ("lines":Str) l ([("zone",z),("quiet",q),("wake",k)]:List (Str × V))=CS5 z q k l:=by
 refine ⟨rfl,gS fun q hq=>?_,gS fun q hq=>?_,gS fun q hq=>?_⟩
 exists 131
theorem rT (B:Bt K mg a)(nX:CalX P w K mg base "check_zone" ["zone"] 3 (rC K a))(mF:CalX P w K mg base "check_quiet" ["quiet"] 5 (oU K a))(nY:CalX P w K mg base "check_wake" ["wake","quiet"] 3 (rD K a))(mG:CalX P w K mg base "check_lines" ["lines"] 1 (oV K a))(F:FunA K "__init__" "Wishes.__init__" bS f fd):FnOk P w K mg base CX0 6 f fd ["self","zone","quiet","wake","lines"] (fU K a):=by
 exists 0,FunA.ok,qV
 ·obtain ⟨p,dx,l,z,k,qq,qu,xs,rfl,_⟩:=h
  rfl
 obtain ⟨p,dx,l,z,k,qq,qu,xs,rfl,hp,hz,hq,ho,hk,hl,l10,hx,q⟩:=h
 refine ⟨_,(aW (aB (nomatch 264,nX,1) (aB (nomatch 264,mF,2) (aB (bN (bW (pc nY hr rfl (aK (nomatch 207,3,2))))) (aB (nomatch 264,mG,4) (aB (nomatch 176,1) (aB (nomatch 176,2) (aB (nomatch 176,3) (aJ (bN (dR (pv 0) (oG (qE (yY (pv 4))) (mK (aK aC)) (nomatch 242,4)) rfl))))))))))),?_⟩
 nofun
 refine ⟨z,rfl,hz,?_⟩
 nofun
 refine ⟨qq,qu,rfl,hq,ho,?_⟩
 nofun
 refine ⟨k,qq,rfl,hk,?_⟩
 nofun
 refine ⟨l,xs,rfl,hl,l10,hx,fun H1 S1=>?_⟩
 nofun
 exists 35,nlq,l,p,hp,hl
 obtain ⟨e1,e2,e3,e4⟩:=wfs (.int z) qq k .non
 exists 28,S1,B.ck_Wishes.cl,B.na_Wishes_zone,B.na_Wishes_quiet,B.na_Wishes_wake
 nofun
 refine ⟨_,.inl (SqL.of (by rw [aG nlq,aG nlq,aG nlq]; exact S1 _ _ hl)),fun l' hl'=>?_⟩
 exists 35,nlp,l',p,aA,hl'
 have hl1:H1 l'=none:=by rw [aG nlp,aG nlp,aG nlp] at hl'; exact hl'
 refine ⟨_,_,_,by rw [aG nlp.symm]; exact aA,B.ck_Wishes.cl,B.na_Wishes_lines,by rw [e1,e2,e3]; simp only [List.length_cons,List.length_nil]; decide,?_⟩
 refine q _ (fun b o n e=>?_)
 rw [aG n,aG (aQ (S1 _ _ e) hl1),aG n,aG n,aG n]
 exact S1 b o e
theorem AD9 {H H':Hp}{w x:Addr}{o:HO}(B:But w H H')(hw:H' w=some o)(hx:H' x=none):H x=none:=by
 cases e:H x with
 | none=>rfl
 | some u =>
  have q:=B x u (fun z=>by rw [z,hw] at hx; cases hx) e
  rw [hx] at q
  cases q
theorem WAt.but {C:Addr}{H H':Hp}{wp dw wl x:Addr}{ts:List Str}{i:Nat}(h:WAt C H wp dw wl ts i)(B:But x H H')(n1:wp≠x)(n2:wl≠x):WAt C H' wp dw wl ts i:=⟨B _ _ n1 h.w,B _ _ n2 h.l⟩
def WKv (kv qv:V):Prop:=kv=.non\/((∃ n:Int,kv=.int n/\0<=n)/\∃ r,qv=.ref r)
theorem QuAt.but {H H':Hp}{wp C d:Addr}{fs:List (Str × V)}{x:V}{q:Option (Int × Int)}(h:QuAt H x q)(e:H wp=some (.ins C d fs))(B:But wp H H'):QuAt H' x q:=by
 cases q with
 | none=>exact h
 | some q =>
  obtain ⟨r,e1,h1⟩:=h
  exists 79
theorem QuAt.same {H H':Hp}{x:V}{q:Option (Int × Int)}(h:QuAt H x q)(S:Same H H'):QuAt H' x q:=by
 cases q with
 | none=>exact h
 | some q =>
  obtain ⟨r,e1,h1⟩:=h
  exact ⟨r,e1,S _ _ h1⟩
theorem QuAt.lst {H:Hp}{lp:Addr}{xs:List V}{o:HO}{x:V}{q:Option (Int × Int)}(h:QuAt H x q)(e:H lp=some (.lst xs)):QuAt (upd H lp o) x q:=by
 cases q with
 | none=>exact h
 | some q =>
  exists 97
def WsM (a:Ad)(H:Hp)(wp dw wl:Addr)(ts:List Str)(W:Wq)(σ:L2.St)(H':Hp):Prop:=∃ (qv kv:V) (m:Bool) (sv:Option V) (i:Nat),σ=[some (.ref wp),some (.int W.z),some qv,some kv,some (.bl m),sv,none]/\But wp H H'/\WAt a.Words H' wp dw wl ts i/\QuAt H' qv W.q/\WKv kv qv/\BF7 ts i m W.ls/\i<=ts.length
def WkM (a:Ad)(H:Hp)(wp dw wl:Addr)(ts:List Str)(W:Wq)(σ:L2.St)(H':Hp):Prop:=∃ (qv kv:V) (sv:Option V) (i:Nat),σ=[some (.ref wp),some (.int W.z),some qv,some kv,some (.bl true),sv,none]/\But wp H H'/\WAt a.Words H' wp dw wl ts i/\QuAt H' qv W.q/\WKv kv qv/\ts.drop i=AC0 W.ls/\i<=ts.length
def WsL (a:Ad)(H:Hp)(wp dw wl lp:Addr)(ts:List Str)(W:Wq)(σ:L2.St)(H':Hp):Prop:=∃ (qv kv:V) (m:Bool) (sv:Option V) (i:Nat) (xs:List V) (ls:List (Tr × Ln)),σ=[some (.ref wp),some (.int W.z),some qv,some kv,some (.bl m),sv,some (.ref lp)]/\But wp H H'/\WAt a.Words H' wp dw wl ts i/\QuAt H' qv W.q/\WKv kv qv/\BF7 ts i m ls/\i<=ts.length/\H' lp=some (.lst xs)/\(∀ y∈xs,∃ r d fs,y=.ref r/\r≠wp/\H' r=some (.ins a.Line d fs))/\xs.length+ls.length<=3/\(∀ x∈ls,x.1.wf/\x.1.ws.length<=20/\x.2.ok)
def WmM (a:Ad)(H:Hp)(wp dw wl:Addr)(ts:List Str)(W:Wq)(σ:L2.St)(H':Hp):Prop:=∃ (m:Bool) (i:Nat),σ=[some (.ref wp),some (.int W.z),some .non,some .non,some (.bl m),none,none]/\But wp H H'/\WAt a.Words H' wp dw wl ts i/\i<=ts.length/\((m=false/\W.q=none/\W.ls=[]/\i=ts.length)\/(m=true/\i=3/\quW W.q W.k++AC0 W.ls=(";":Str)::ts.drop 3))
theorem BZ3 {q:Option (Int × Int)}{k:Option Int}{ls:List (Tr × Ln)}:(q=none/\ls=[]/\quW q k++AC0 ls=[])\/∃ r,quW q k++AC0 ls=(";":Str)::r:=by
 cases q with
 | none =>
  cases ls with
  | nil=>exact .inl ⟨rfl,rfl,rfl⟩
  | cons x l=>exact .inr ⟨_,rfl⟩
 | some q=>exact .inr ⟨_,rfl⟩
theorem yP (B:Bt K mg a)(jM:∀ C sp,xH K a C sp->CalM P w K mg base C "expect" ["self","word"] 3 sp)(aM:∀ C sp,bY K a C sp->CalM P w K mg base C "take_number" ["self"] 3 sp)(dA:∀ C sp,rL K a C sp->CalM P w K mg base C "takes" ["self","word"] 2 sp)(CD_Wishes_4:CalD P w K mg base "Wishes" a.Wishes ["self","zone","quiet","wake","lines"] 6 [] (fU K a))(fA:CalX P w K mg base "line_from_wording" ["words"] 8 (iK K a))(dQ:∀ C sp,lX K a C sp->CalM P w K mg base C "is_ended" ["self"] 1 sp)(dX:∀ C sp,pQ K a C sp->CalM P w K mg base C "look" ["self"] 1 sp)(F:Fun K "wishes_from" "wishes_from" lQ f fd):FnOk P w K mg base (CXF P w) 9 f fd ["words"] (gT K a):=by
 exists 127,sc_wishes_from
 ·obtain ⟨wp,dw,wl,ts,rfl,_⟩:=h
  rfl
 obtain ⟨wp,dw,wl,ts,rfl,W0,hT,hl,⟨W,ok,e⟩,q⟩:=h
 refine ⟨_,(aW (aB ↑273 (aB (nomatch 220,1,sc_wishes_from.nd,0,aM,bX) (aB (nomatch 170,2,sc_wishes_from.nd,aS,yX) (aB (nomatch 170,3,sc_wishes_from.nd,aS,yX) (pC (nomatch 265,sc_wishes_from.nd) (pC (bK (L2.PW.pt (AG3 (bP (pv 4)) (vV (nomatch 222,bP,dA,bX)))) (aB (nomatch 220,5,sc_wishes_from.nd,0,aM,bX) (aB (bA (i:=2) sc_wishes_from.nd rfl (Or.inl rfl) (aS (dI (aK (aL (pv 5) (nomatch 230,aM,bX))))) (by kernel_rfl)) (pC (bK (L2.PW.pt (AG3 (cH (bP (nomatch 231,dQ,bX))) (vV (aX xX (nomatch 231,dX,bX) aO (bD _))))) (aJ (nomatch 220,3,sc_wishes_from.nd,0,aM,bX)) aU) (aJ (nomatch 265,sc_wishes_from.nd))))) aU) (aB (nomatch 170,6,sc_wishes_from.nd,iW,aC) (aB (bN (oH PassesOwn.leaving (bP (pv 4)) (aW (aB (nomatch 267,6,fA) (aJ (nomatch 265,sc_wishes_from.nd)))))) (aJ (aV (aS (AA7 CD_Wishes_4 bX ↑144 rfl (aK (aL (pv 1) (aL (pv 2) (nomatch 207,3,6)))) (he:=aD _ _ _ rfl) (hpl:=aF rfl)))))))))))))),?_⟩
 nofun
 have d0:ts.drop 0=("zone":Str)::bB W.z::(quW W.q W.k++AC0 W.ls):=e
 obtain ⟨g0,d1,l0⟩:=kK d0
 obtain ⟨g1,d2,l1⟩:=kK d1
 have zo:=dF (show pE W.z from ⟨by have:=ok.z; omega,by have:=ok.z; omega⟩)
 have zv:dH (ts.getD (0+1) "")=W.z:=by rw [g1]; exact zo.2.2
 exists 21,W0.w,0,W0,g0,W01,W0.take,D1,H,J1
 refine ⟨_,_,_,W01.w,rfl,_,⟨rfl,rfl⟩,wp,dw,wl,ts,(0+1),rfl,W01,bJ hT _,.inl ⟨by rw [g1]; exact zo.1,fun J2 D2 V2=>?_⟩⟩
 rw [zv]
 nofun
 have BA:=D1.trans D2
 have V3:WAt a.Words J2 wp dw wl ts 2:=V2
 clear V2
 refine ⟨WmM a H wp dw wl ts W,?_,?_⟩
 ·rcases BZ3 (q:=W.q) (k:=W.k) (ls:=W.ls) with ⟨r1,r2,r3⟩ | ⟨r,r3⟩
  ·rw [r3] at d2
   obtain ⟨g2,l2⟩:=BF5 d2
   refine ⟨_,_,_,V3.w,rfl,_,⟨rfl,rfl⟩,wp,dw,wl,ts,2,_,rfl,V3,.inr ⟨by rw [g2]; decide,?_⟩⟩
   exact ⟨false,2,rfl,BA,V3,by omega,.inl ⟨rfl,r1,r2,by omega⟩⟩
  ·rw [r3] at d2
   obtain ⟨g2,d3,l2⟩:=kK d2
   exists 49,V3.w,2,V3,.inl,g2
   exact ⟨true,3,rfl,BA.trans (But.upd _),V3.take 3,by omega,.inr ⟨rfl,rfl,by rw [r3]; exact congrArg _ d3.symm⟩⟩
 rintro σ H2 ⟨m,i,rfl,B2,W2,i2,hm⟩
 nofun
 refine ⟨WsM a H wp dw wl ts W,?_,?_⟩
 ·rcases hm with ⟨rfl,m1,m2,m3⟩ | ⟨rfl,rfl,m1⟩
  ·exists 2
   nofun
   exact ⟨_,_,false,none,i,rfl,B2,W2,by rw [m1]; rfl,.inl rfl,.inl ⟨rfl,m2,m3⟩,i2⟩
  ·exists 37
   nofun
   cases hq:W.q with
   | none =>
    rw [hq,quW,List.nil_append] at m1
    cases hls:W.ls with
    | nil=>rw [hls] at m1; cases m1
    | cons x l =>
     rw [hls] at m1
     have m2:ts.drop 3=x.1.ws++(x.2.ws++AC0 l):=(List.cons.inj m1).2.symm
     obtain ⟨w1,r1,t1,t2,t3⟩:=BF6 x.1
     have m3:=m2
     rw [t1,List.cons_append] at m3
     obtain ⟨g3,_,_⟩:=kK m3
     refine ⟨_,_,_,W2.w,rfl,_,⟨rfl,rfl⟩,wp,dw,wl,ts,3,_,rfl,W2,.inr ⟨by rw [g3]; exact t2,?_⟩⟩
     nofun
     exists 2
     exact ⟨_,_,true,none,3,rfl,B2,W2,by rw [hq]; rfl,.inl rfl,by rw [hls]; exact .inr ⟨rfl,x,l,rfl,m2⟩,i2⟩
   | some qu =>
    rw [hq] at m1
    have m2:ts.drop 3=("quiet":Str)::bB qu.1::bB qu.2::(wkW W.k++AC0 W.ls):=(List.cons.inj m1).2.symm
    obtain ⟨g3,d4,l3⟩:=kK m2
    obtain ⟨g4,d5,l4⟩:=kK d4
    obtain ⟨g5,d6,l5⟩:=kK d5
    have qo:=ok.q
    rw [hq] at qo
    obtain ⟨⟨a1,a2⟩,⟨b1,b2⟩,ne⟩:=qo
    have n4:=iN (n:=qu.1) a1 (by omega)
    have n5:=iN (n:=qu.2) b1 (by omega)
    exists 21,W2.w,3,W2,g3,W23,W2.take,D3,H2,J3
    exists 37
    refine ⟨_,_,_,W23.w,rfl,_,⟨rfl,rfl⟩,wp,dw,wl,ts,(3+1),rfl,W23,bJ hT _,.inl ⟨by rw [g4]; exact n4.1,fun J4 D4 V4=>?_⟩⟩
    rw [g4,n4.2.2]
    nofun
    refine ⟨_,_,_,V4.w,rfl,_,⟨rfl,rfl⟩,wp,dw,wl,ts,(3+1+1),rfl,V4,bJ hT _,.inl ⟨by rw [g5]; exact n5.1,fun J5 D5 V5=>?_⟩⟩
    rw [g5,n5.2.2]
    nofun
    exists 11,qp,hqp
    exists 95,Sq,hqp,qu.1,qu.2,eq,J5,qp,V6,V5.same
    have B6:=B2.trans (D3.trans (D4.trans (D5.trans (Same.but Sq))))
    generalize upd J5 qp (.tup [.int qu.1,.int qu.2])=J6 at *
    nofun
    have QA:QuAt J6 (.ref qp) W.q:=by rw [hq]; exact ⟨qp,rfl,eq⟩
    have V6':WAt a.Words J6 wp dw wl ts 6:=V6
    refine ⟨WkM a H wp dw wl ts W,?_,?_⟩
    ·refine ⟨_,_,_,V6'.w,rfl,_,⟨rfl,rfl⟩,wp,dw,wl,ts,6,rfl,V6',?_⟩
     nofun
     cases hk:W.k with
     | none =>
      rw [hk,wkW,List.nil_append] at d6
      have fin:WkM a H wp dw wl ts W [some (.ref wp),some (.int W.z),some (.ref qp),some .non,some (.bl true),some (.int qu.1),none] J6:=⟨_,_,_,6,rfl,B6,V6',QA,.inl rfl,d6,by omega⟩
      rcases AO7 d6 (by omega) with ⟨s1,s2,s3⟩ | ⟨s1,s2,s3⟩
      ·rw [if_neg (fun z=>z (show ((6:Nat):Int)=(ts.length:Int) by omega))]
       exact fin
      ·exists 74
       rw [show ts.getD 6 ""=(";":Str) from s1]
       nofun
       first | exact fin | (rw [if_neg (by decide)]; exact fin)
     | some n =>
      rw [hk,wkW,List.cons_append,List.nil_append] at d6
      obtain ⟨g6,d7,l6⟩:=kK d6
      obtain ⟨k0,k1⟩:=ok.k n hk
      have n6:=iN k0 k1
      exists 74
      have g6':ts.getD 6 ""=bB n:=g6
      have nsem:bB n≠(";":Str):=fun z=>by
       have:=n6.1
       rw [z] at this
       exact absurd this (by decide +kernel)
      nofun
      first | rw [if_pos (by rw [g6']; exact nsem)] | rw [if_pos (fun z=>nsem (by rw [<- g6']; exact V.str.inj z))] | rw [if_neg (fun z=>z (by rw [g6']))]
      refine ⟨_,_,_,V6'.w,rfl,_,⟨rfl,rfl⟩,wp,dw,wl,ts,6,rfl,V6',bJ hT _,.inl ⟨by rw [g6']; exact n6.1,fun J7 D7 V7=>?_⟩⟩
      rw [g6',n6.2.2]
      nofun
      exact ⟨_,_,_,7,rfl,B6.trans D7,V7,QA.but V6'.w D7,.inr ⟨⟨n,rfl,k0⟩,qp,rfl⟩,d7,by omega⟩
    ·rintro σ H5 ⟨qv,kv,sv,i,rfl,B5,W5,Q5,K5,d5,i5⟩
     nofun
     rcases AO7 d5 i5 with ⟨s1,s2,s3⟩ | ⟨s1,s2,s3⟩
     ·exists 55,W5.w,i,W5,.inr,s3
      exact ⟨qv,kv,false,sv,i,rfl,B5,W5,Q5,K5,.inl ⟨rfl,s1,s2⟩,i5⟩
     ·exists 55,W5.w,i,W5,.inl,s1
      exact ⟨qv,kv,true,sv,i+1,rfl,B5.trans (But.upd _),W5.take (i+1),Q5.but W5.w (But.upd _),K5,s2,s3⟩
 ·rintro σ H3 ⟨qv,kv,m,sv,i,rfl,B3,W3,Q3,K3,M3,i3⟩
  nofun
  exists 54,lp,hlp,Sl
  have el:upd H3 lp (.lst []) lp=some (.lst []):=aA
  exists 35,nlp,lp,wp,W3.w,hlp
  have flp:H lp=none:=AD9 B3 W3.w hlp
  exists 86,W4,W3.same,Sl,B4,B3.trans
  have Q4:=Q3.same Sl
  generalize upd H3 lp (.lst [])=H4 at *
  nofun
  refine whl (fun σ H9=>WsL a H wp dw wl lp ts W σ H9) (fun _ H9=>3000 - yH wp H9) ⟨qv,kv,m,sv,i,[],W.ls,rfl,B4,W4,Q4,K3,M3,i3,el,fun y hy=>(by cases hy),by have:=ok.c; simpa using this,ok.l⟩ ?_
  rintro σ H9 ⟨qv,kv,m,sv,i,xs,ls,rfl,B9,W9,Q9,K9,M9,i9,l9,x9,c9,o9⟩
  nofun
  rcases M9 with ⟨rfl,rfl,i10⟩ | ⟨rfl,x,l,rfl,d9⟩
  ·exists 2
   nofun
   exists 14,a.Wishes
   refine ⟨x,dx,lp,W.z,kv,qv,W.q,xs,rfl,aA,ok.z,Q9.same M0,ok.q,K9,M0 _ _ l9,by simp at c9; omega,fun y hy=>?_,fun H8 B8=>⟨rfl,?_⟩⟩
   ·obtain ⟨r,d,fs,y1,_,y2⟩:=x9 y hy
    exact ⟨r,d,fs,y1,M0 _ _ y2⟩
   ·have S8:=eA hx hd B8
    have W8:=W9.same S8
    rw [i10] at W8
    exact q _ H8 (B9.trans (Same.but S8)) W8
  ·exists 37
   refine ⟨fun σ H8=>WsL a H wp dw wl lp ts W σ H8/\3000 - yH wp H8 < 3000 - yH wp H9,fun _ _ z=>⟨_,z.2,rfl,z.1⟩,?_⟩
   first | refine ⟨.inl ⟨rfl,_,SqL.of l9⟩,?_⟩ | skip
   nofun
   obtain ⟨o1,o2,o3⟩:=o9 x List.mem_cons_self
   have lr:=AW5 o1 o3 (CG2 l)
   rw [<- d9] at lr
   refine ⟨wp,dw,wl,ts,i,rfl,W9,hT,hl,i9,fun t L r e v H7 j er j1 j2 B7 W7 hL=>?_,fun z=>by rw [lr] at z; cases z⟩
   rw [lr] at e
   cases e
   obtain ⟨pl,dl,fv,wv,rl,rv,ev,hpl,_⟩:=hL.ex
   subst ev
   have hp7:=iY _ _ hpl
   have l7:=B7 _ _ nlp l9
   have q7:=Q9.but W9.w B7
   exists 35,npl,pl,lp,l7,hp7
   have nwl:wl≠lp:=fun z=>by have:=W0.l; rw [z,flp] at this; cases this
   have nw7:pl≠wp:=fun z=>by
    have h:=hpl
    unfold Out at h
    rw [if_pos (by rw [z]; exact List.mem_singleton.mpr rfl)] at h
    cases h
   have lc:xs.length<=3:=by rw [List.length_cons] at c9; omega
   refine ⟨lp,xs,.ref pl,rfl,rfl,l7,Nat.lt_of_le_of_lt lc (by decide),?_⟩
   have W6:WAt a.Words (upd H7 lp ↑190) wp dw wl ts j:=⟨by rw [aG (Ne.symm nlp)]; exact W7.w,by rw [aG nwl]; exact W7.l⟩
   have B6:But wp H (upd H7 lp ↑190):=fun b o n e=>by rw [aG (fun z=>by rw [z,flp] at e; cases e)]; exact (B9.trans B7) b o n e
   have Q6:QuAt (upd H7 lp ↑190) qv W.q:=q7.lst l7
   have e6:upd H7 lp ↑190 lp=some ↑190:=aA
   have x6:∀ y∈xs++[V.ref pl],∃ r d fs,y=.ref r/\r≠wp/\upd H7 lp ↑190 r=some (.ins a.Line d fs):=fun y hy=>by
    exists 65,hy,hy
    ·obtain ⟨r,d,fs,y1,y2,y3⟩:=x9 y hy
     have y4:=B7 _ _ y2 y3
     exact ⟨r,d,fs,y1,y2,by rw [aG (fun z=>by rw [z,l7] at y4; cases y4)]; exact y4⟩
    ·rw [List.mem_singleton.mp hy]
     exact ⟨pl,_,_,rfl,nw7,by rw [aG npl]; exact hp7⟩
   have c6:(xs++[V.ref pl]).length+l.length<=3:=by rw [List.length_append,List.length_singleton]; rw [List.length_cons] at c9; omega
   have o6:∀ x∈l,x.1.wf/\x.1.ws.length<=20/\x.2.ok:=fun x h=>o9 x (nomatch 210,h)
   generalize upd H7 lp ↑190=H6 at *
   nofun
   rcases AO7 er.symm j2 with ⟨s1,s2,s3⟩ | ⟨s1,s2,s3⟩
   ·exists 55,W6.w,j,W6,.inr,s3
    exact ⟨⟨qv,kv,false,sv,j,_,l,rfl,B6,W6,Q6,K9,.inl ⟨rfl,s1,s2⟩,j2,e6,x6,c6,o6⟩,by rw [qZ W6,qZ W9]; omega⟩
   ·exists 55,W6.w,j,W6,.inl,s1
    have W5:=W6.take (j+1)
    exact ⟨⟨qv,kv,true,sv,j+1,_,l,rfl,B6.trans (But.upd _),W5,Q6.but W6.w (But.upd _),K9,s2,s3,by rw [aG nlp]; exact e6,fun y hy=>(by obtain ⟨r,d,fs,y1,y2,y3⟩:=x6 y hy; exact ⟨r,d,fs,y1,y2,by rw [aG y2]; exact y3⟩),c6,o6⟩,by rw [qZ W5,qZ W9]; omega⟩
theorem AE0 (B:Bt K mg a)(iQ:CalC P w K mg base "Words" a.Words ["self","text"] 3 (dG K a))(cQ:∀ C sp,iO K a C sp->CalM P w K mg base C "expect_end" ["self"] 3 sp)(tU:CalIH P w K mg base "NoText" a.NoText "line" 1 (.int 0))(kU:CalFG 0 P w K mg base a.wishes_from ["words"] 9 (gT K a))(F:Fun K "read_whole" "read_whole" nK f fd):FnOk P w K mg base (qD P w 1) 10 f fd ["text","part_from"] (lW K a):=by
 exists 0,Fun.okW,sc_read_whole
 ·obtain ⟨u,rfl,_⟩:=h
  rfl
 obtain ⟨u,rfl,ht,g,q⟩:=h
 refine ⟨_,(aW (aB (nomatch 239,sc_read_whole.nd) (aB (bN (BW0 (i:=3) (j:=1) rfl rfl kU ↑144 rfl (Or.inl rfl) (fun _=>(nomatch 162,2)) sc_read_whole.nd rfl (Or.inl rfl) rfl rfl B.BellError tU rfl ↑144 AT8 CF0)) (nomatch 254,2,dJ,3)))),?_⟩
 nofun
 exists 14,a.Words
 exists 85
 refine ⟨x,dx,wl,_,rfl,W1,ht.2.2,ht.2.1,g,fun v H2 B2 W2=>?_⟩
 exists 119
 exact q v H2 (fun b o e=>B2 b o (aQ e hx) (S1 b o e))
theorem yQ (B:Bt K mg a)(nZ:CalG 1 P w K mg base "read_whole" ["text","part_from"] 10 (lW K a))(F:Fun K "read_wishes" "read_wishes" lO f fd):FnOk P w K mg base (qD P w 1) 11 f fd ["text"] (kQ K a):=by
 exists 0,Fun.okW,yE
 ·obtain ⟨u,rfl,_⟩:=h
  rfl
 obtain ⟨u,rfl,ht,q⟩:=h
 refine ⟨_,(aW (aJ (aV (aS (wI nZ ↑144 rfl (aK (aL (pv 0) (aL (cV (v:=.ref _) rfl B.wishes_from rfl) aC))) (he:=aD _ _ _ rfl) (hpl:=aF rfl)))))),?_⟩
 nofun
 exact ⟨u,rfl,ht,q⟩
theorem kS {n:Int}(h0:0<=n)(h1:n < 1000000):BX3 (bB n)=true/\dH (bB n)=n:=by
 have g:=iN h0 h1
 refine ⟨?_,g.2.2⟩
 unfold BX3
 rw [g.1,g.2.2,Bool.true_and]
 exact decide_eq_true h0
theorem AE1 (B:Bt K mg a)(iQ:CalC P w K mg base "Words" a.Words ["self","text"] 3 (dG K a))(cQ:∀ C sp,iO K a C sp->CalM P w K mg base C "expect_end" ["self"] 3 sp)(cG:∀ C sp,lY K a C sp->CalM P w K mg base C "take_count" ["self"] 4 sp)(CMT_take:∀ C sp,iE K a C sp->CalMT P w K mg base C "take" ["self"] 2 sp)(F:Fun K "stamp_from" "stamp_from" nM f fd):FnOk P w K mg base (CXF P w) 5 f fd ["words"] (rF K a):=by
 exists 142,sc_stamp_from,x0
 obtain ⟨wp,dw,wl,ts,i,x0,rfl,W,e0,hn,q⟩:=h
 refine ⟨_,(aW (aB (bA (i:=1) sc_stamp_from.nd rfl (Or.inl rfl) (aS (mL iQ bX ↑144 rfl (aK (aL (BW9 (BM5 (pv 0) CMT_take bX ↑144)) aC)) (he:=aD _ _ _ rfl) (hpl:=aF rfl))) (by kernel_rfl)) (aB (bA (i:=2) sc_stamp_from.nd rfl (Or.inl rfl) (aS (dI (aK (aL (aR (pv 1) cG bX ↑144) (aL (aR (pv 1) cG bX ↑144) aC))))) (by kernel_rfl)) (nomatch 254,1,bX,2)))),?_⟩
 obtain ⟨p1,p2⟩:=CG3 hn
 have tk:=BF8 hn
 have c0:=kS hn.1.1 hn.1.2
 have c1:=kS hn.2.1 hn.2.2
 have d3:∀ y∈CF9 (stW x0),gY y:=by
  rw [p2]
  exact bE (iZ hn.1.1 hn.1.2).2.2.2 (bE (iZ hn.2.1 hn.2.2).2.2.2 jB)
 have d1:(BX2 (stW x0)).length<=100:=by
  have l1:=fB hn.1.1 hn.1.2
  have l2:=fB hn.2.1 hn.2.2
  have a:=StrLaws.join_length_le sp1 [bB x0.1,bB x0.2]
  have e:sp1.length=1:=rfl
  rw [p1]
  simp only [List.map_cons,List.map_nil,List.sum_cons,List.sum_nil,List.length_cons,List.length_nil,e] at a
  omega
 exists 128
 rw [e0]
 nofun
 refine ⟨by decide,by have:=tk.2.2.1; omega,by decide,?_⟩
 intro x dx hx hd ne
 have nwx:wp≠x:=aQ W1.w hx
 have nlx:wl≠x:=aQ W1.l hx
 refine ⟨x,dx,.str (BX2 (stW x0)),rfl,aA,.inl ⟨BX2 (stW x0),rfl,by omega,by show (CF9 (stW x0)).length<=1000; rw [p2]; exact (by decide:2<=1000),fun pl H2 hpl B2 P2=>⟨rfl,?_⟩⟩⟩
 have S2:=eA hx hd B2
 have P2:WAt a.Words H2 x dx pl (CF9 (stW x0)) 0:=P2
 have W2:=W1.same S2
 have BX:∀ H',But x H2 H'->But wp H H':=fun H' b c o n e=>b c o (fun z=>by have:=B1 c o n e; rw [z,hx] at this; cases this) (S2 c o (B1 c o n e))
 rw [p2] at P2 d3
 nofun
 refine ⟨_,_,_,P2.w,rfl,_,⟨rfl,rfl⟩,x,dx,pl,_,0,rfl,P2,bJ d3 _,.inl ⟨c0.1,fun H3 B3 P3=>?_⟩⟩
 refine ⟨_,_,_,P3.w,rfl,_,⟨rfl,rfl⟩,x,dx,pl,_,1,rfl,P3,bJ d3 _,.inl ⟨c1.1,fun H4 B4 P4=>?_⟩⟩
 exists 83
 have W4:=W2.but (B3.trans B4) nwx nlx
 have ft:H tp=none:=AD9 (BX _ (B3.trans B4)) W4.w htp
 have v0:dH ([bB x0.1,bB x0.2].getD 0 "")=x0.1:=c0.2
 have v1:dH ([bB x0.1,bB x0.2].getD 1 "")=x0.2:=c1.2
 rw [v0,v1]
 exists 95,S5,htp,x0.1,x0.2,e5,H4,tp,P5,P4.same
 have W5:=W4.same S5
 have B5:=BX _ ((B3.trans B4).trans (Same.but S5))
 generalize upd H4 tp (.tup [.int x0.1,.int x0.2])=H5 at *
 nofun
 refine ⟨_,_,_,P5.w,rfl,_,⟨rfl,rfl⟩,x,dx,pl,_,2,rfl,P5,.inl ⟨rfl,?_⟩⟩
 exact q tp _ B5 ft e5 W5
theorem AJ7 (s:Str)(ts:List Str):Txt.join s ts=Str.join s ts:=StrLaws.glued_eq_join s ts
theorem BZ4 {k:Nat}:∀ {ws:List Str},(∀ x∈ws,x.length<=k)->ws.length<=1000->k<=1000->(ws.map (·.length)).sum+ws.length * 1<=2000000:=fun {ws} h hl hk=>by
 have h2:=uM h
 have h3:ws.length * k<=1000 * 1000:=Nat.mul_le_mul hl hk
 omega
theorem pX (B:Bt K mg a)(mH:CalG 1 P w K mg base "read_wishes" ["text"] 11 (kQ K a))(oA:∀ C sp,uS K a C sp->CalM P w K mg base C "take_rest" ["self"] 4 sp)(F:Fun K "wishes_text_from" "wishes_text_from" fP f fd):FnOk P w K mg base (qD P w 1) 12 f fd ["words"] (eZ K a):=by
 exists 0,Fun.okW,sc_wishes_text_from
 exists 36,z
 obtain ⟨wp,dw,wl,ts,z,rfl,W,hT,hl,rfl,⟨Wz,okz,ez⟩,q⟩:=h
 refine ⟨_,(aW (aB (bA (i:=1) sc_wishes_text_from.nd rfl (Or.inl rfl) (aS (jO PySem.F.plainAttrs_str PySem.F.slot_str_join PySem.F.type_str_join mX aO (aK (nomatch 230,oA,dJ)))) (by kernel_rfl)) (aB (bN (nomatch 226,bW,wI,mH,1)) (nomatch 194,1)))),?_⟩
 obtain ⟨t1,t2,t3⟩:=AI8 okz
 have h3:3<=ts.length:=by
  rcases Nat.lt_or_ge ts.length 3 with z | z
  ·rw [List.drop_eq_nil_of_le (by omega)] at ez
   exact absurd ez.symm t3
  ·exact z
 rw [<- ez] at t1 t2 t3
 obtain ⟨tx,sx⟩:=CF5 t3 t1 (by omega)
 nofun
 refine ⟨_,_,_,W.w,rfl,_,⟨rfl,rfl⟩,wp,dw,wl,ts,3,rfl,W,h3,hl,fun l H1 B1 hl1 e1 W1=>?_⟩
 refine ⟨sp1,l,ts.drop 3,rfl,rfl,e1,nA ?_,?_⟩
 ·exact Nat.le_trans (BZ4 (k:=100) (fun x hx=>(hT x (List.mem_of_mem_drop hx)).2.1) (by rw [List.length_drop]; omega) (by decide)) (by decide)
 rw [AJ7]
 nofun
 refine ⟨_,rfl,tx,⟨Wz,okz,by rw [sx,ez]⟩,fun v H2 S2=>?_⟩
 nofun
 exact q H2 (B1.trans (Same.but S2)) (W1.same S2)
theorem BN8 {r:Rw}{ts:List Str}(h:RwOk r ts)(sn:r.st=none)(ne:ts.getD 0 ""≠"end") :
  (∃ m h' W,(pE m/\aZ h'/\Wq.ok W)/\r=⟨[.str "wish",.int m,.str h',.str (Str.join sp1 W.ws)],none⟩/\ts=("wish":Str)::bB m::h'::W.ws) \/
  (∃ m k p n,(pE m/\aZ k/\aZ p/\0<=n/\n < 1000000)/\r=⟨[.str "happen",.int m,.str k,.str p,.int n],none⟩/\ts=[("happen":Str),bB m,k,p,bB n]) \/
  (∃ m h' n,(pE m/\aZ h'/\0<=n/\n < 1000000)/\r=⟨[.str "take",.int m,.str h',.int n],none⟩/\ts=[("take":Str),bB m,h',bB n]) \/
  (∃ m h' n u,(pE m/\aZ h'/\(0<=n/\n < 1000000)/\pE u)/\r=⟨[.str "later",.int m,.str h',.int n,.int u],none⟩/\ts=[("later":Str),bB m,h',bB n,bB u]) \/
  (∃ m n,(pE m/\0<=n/\n < 1000000)/\r=⟨[.str "back",.int m,.int n],none⟩/\ts=[("back":Str),bB m,bB n]) \/
  ∃ m,pE m/\r=⟨[.str "go",.int m],none⟩/\ts=[("go":Str),bB m]:=by
 cases h with
 | wish m h W=>exact .inl ⟨_,_,_,⟨m,h,W⟩,rfl,rfl⟩
 | happen m k p n=>exact .inr (.inl ⟨_,_,_,_,⟨m,k,p,n⟩,rfl,rfl⟩)
 | take m h n=>exact .inr (.inr (.inl ⟨_,_,_,⟨m,h,n⟩,rfl,rfl⟩))
 | later m h n u=>exact .inr (.inr (.inr (.inl ⟨_,_,_,_,⟨m,h,n,u⟩,rfl,rfl⟩)))
 | back m n=>exact .inr (.inr (.inr (.inr (.inl ⟨_,_,⟨m,n⟩,rfl,rfl⟩))))
 | go m=>exact .inr (.inr (.inr (.inr (.inr ⟨_,m,rfl,rfl⟩))))
 | tries=>cases sn
 | fin=>exact absurd rfl ne
theorem BZ5 {u:Str}(h:aZ u):nmB u=true:=decide_eq_true h
theorem AP5 (B:Bt K mg a)(cD:∀ C sp,iE K a C sp->CalM P w K mg base C "take" ["self"] 2 sp)(aM:∀ C sp,bY K a C sp->CalM P w K mg base C "take_number" ["self"] 3 sp)(cL:∀ C sp,nV K a C sp->CalM P w K mg base C "take_name" ["self"] 3 sp)(fY:CalG 1 P w K mg base "wishes_text_from" ["words"] 12 (eZ K a))(cG:∀ C sp,lY K a C sp->CalM P w K mg base C "take_count" ["self"] 4 sp)(aY:CalI P w K mg base "NoText" a.NoText "line" 1 (.int 0))(F:Fun K "row_from" "row_from" tG f fd):FnOk P w K mg base (qD P w 1) 13 f fd ["words"] (pP K a):=by
 exists 0,Fun.okW,sc_row_from
 exists 36,r
 obtain ⟨wp,dw,wl,ts,r,rfl,W,hT,hl,rk,hs,hne,q⟩:=h
 refine ⟨_,(aW (aB (nomatch 220,1,sc_row_from.nd,0,cD,dJ) (aB (bK (nomatch 173,1) (aJ (aV (aS (dI (aK (aL (pv 1) (aL (nomatch 231,aM,dJ) (aL (nomatch 231,cL,dJ) (aL (nomatch 224,wI,fY) aC))))))))) aU) (aB (nomatch 266,cL,cG) (aB (bK (nomatch 173,1) (aJ (aV (aS (dI (aK (aL (pv 1) (aL (nomatch 231,aM,dJ) (aL (nomatch 231,cL,dJ) (nomatch 230,cG,dJ))))))))) aU) (aB (nomatch 266,cG,aM) (aB (bK (nomatch 173,1) (aJ (aV (aS (dI (aK (aL (pv 1) (aL (nomatch 231,aM,dJ) (nomatch 230,cG,dJ)))))))) aU) (aB (bK (nomatch 173,1) (aJ (aV (aS (dI (aK (aL (pv 1) (nomatch 230,aM,dJ))))))) aU) ↑221)))))))),?_⟩
 have rk:=BN8 rk hs hne
 nofun
 refine ⟨_,_,_,W.w,rfl,_,⟨rfl,rfl⟩,wp,dw,wl,ts,0,rfl,W,?_⟩
 have W1:=W.take (0+1)
 have B1:But wp H (upd H wp (.ins a.Words dw (bF wl (0+1)))):=But.upd _
 generalize upd H wp (.ins a.Words dw (bF wl (0+1)))=H1 at *
 nofun
 rcases rk with rk | rk | rk | rk | rk | rk
 ·obtain ⟨m,h,Wz,⟨hm,hh,hw⟩,rfl,e⟩:=rk
  exists 32,"wish"
  exists 76,g2,2,h
  rw [g0]
  nofun
  exists 5,hh
  have dz:ts.drop 3=Wz.ws:=by rw [e]; rfl
  refine ⟨wp,dw,wl,ts,_,rfl,W3,hT,hl,dz,⟨Wz,hw,rfl⟩,fun H9 B9 W9=>?_⟩
  nofun
  exists 11,pt,hpt
  exact q _ _ ((B3.trans B9).trans ↑188) (W9.same (aH hpt _)) ⟨pt,rfl,aA⟩
 ·obtain ⟨m,k,p,n,⟨hm,hk,hp,hn⟩,rfl,e⟩:=rk
  exists 32,"happen"
  exists 76,g2,2,k
  exists 76,g3,3,p
  exists 42,g4,4,n,5
  exists 2
  exists 5,hk
  refine ⟨_,_,_,W3.w,rfl,_,⟨rfl,rfl⟩,wp,dw,wl,ts,3,rfl,W3,bJ hT _,.inl ⟨by rw [g3]; exact BZ5 hp,fun H4 D4 W4=>?_⟩⟩
  have B4:=B3.trans D4
  rw [g3]
  nofun
  exists 34,W4.w,4,W4,g4,H5,D5,W5,B5,B4.trans
  exists 133,B5.trans,W5.same
 ·obtain ⟨m,h,n,⟨hm,hh,hn⟩,rfl,e⟩:=rk
  exists 32,"take"
  exists 76,g2,2,h
  exists 42,g3,3,n,4
  exists 140
  exists 133,B4.trans,W4.same
 ·obtain ⟨m,h,n,u,⟨hm,hh,hn,hu⟩,rfl,e⟩:=rk
  exists 32,"later"
  exists 76,g2,2,h
  have g3:ts.getD 3 ""=(bB n:Str):=by rw [e]; rfl
  exists 42,g4,4,u,5
  exists 2
  exists 140
  refine ⟨_,_,_,W4.w,rfl,_,⟨rfl,rfl⟩,wp,dw,wl,ts,4,rfl,W4,bJ hT _,.inl ⟨by rw [g4]; exact (dF hu).1,fun H5 D5 W5=>?_⟩⟩
  have B5:=B4.trans D5
  rw [g4,(dF hu).2.2]
  nofun
  exists 133,B5.trans,W5.same
 ·obtain ⟨m,n,⟨hm,hn⟩,rfl,e⟩:=rk
  exists 32,"back"
  exists 42,g2,2,n,3
  exists 126,2,6
  exists 34,W2.w,2,W2,g2,H3,D3,W3,B3,B2.trans
  exists 133,B3.trans,W3.same
 ·obtain ⟨m,hm,rfl,e⟩:=rk
  exists 32,"go"
  have en:ts.length=2:=by rw [e]; rfl
  rw [g0]
  nofun
  exists 126,2,2
  exists 6
  exists 133,B2.trans,W2.same
theorem StAt.but {H H':Hp}{wp C d:Addr}{fs:List (Str × V)}{x:Int × Int}{y:V}(h:StAt H x y)(e:H wp=some (.ins C d fs))(B:But wp H H'):StAt H' x y:=by
 obtain ⟨r,e1,h1⟩:=h
 exists 79
theorem StAt.lst {H:Hp}{lp:Addr}{xs:List V}{o:HO}{x:Int × Int}{y:V}(h:StAt H x y)(e:H lp=some (.lst xs)):StAt (upd H lp o) x y:=by
 exists 97
theorem rV {r:Rw}{ts:List Str}(h:RwOk r ts) :
  (∃ (m:Int) (h' d o:Str) (l:List (Int × Int)),(pE m/\aZ h'/\(d="bell"\/d="off")/\aZ o/\l≠[]/\l.length<=8/\∀ x∈l,sS x)/\r=⟨[.str "try",.int m,.str h',.str d,.str o],some l⟩/\ts=("try":Str)::bB m::h'::d::o::l.map stW) \/
  (∃ (m:Int) (d:Str),(pE m/\(d="took"\/d="not"\/d="perhaps"))/\r=⟨[.str "end",.int m,.str d],none⟩/\ts=[("end":Str),bB m,d]) \/
  (r.st=none/\ts.getD 0 ""≠"end"/\ts.getD 0 ""≠"try"):=by
 cases h with
 | tries m h d o l1 l2 l3=>exact .inl ⟨_,_,_,_,_,⟨m,h,d,o,l1,l2,l3⟩,rfl,rfl⟩
 | fin m d=>exact .inr (.inl ⟨_,_,⟨m,d⟩,rfl,rfl⟩)
 | wish=>exact .inr (nomatch 164,"wish")
 | happen=>exact .inr (nomatch 164,"happen")
 | take=>exact .inr (nomatch 164,"take")
 | later=>exact .inr (nomatch 164,"later")
 | back=>exact .inr (nomatch 164,"back")
 | go=>exact .inr (nomatch 164,"go")
def TrQ (a:Ad)(H:Hp)(wp dw wl lp:Addr)(ts:List Str)(m:Int)(h d o:Str)(l:List (Int × Int))(σ:L2.St)(H1:Hp):Prop:=∃ (k:Nat) (xs:List V) (dn rm:List (Int × Int)),σ=[some (.ref wp),some (.int m),some (.str h),some (.str d),some (.str o),some (.ref lp)]/\But wp H H1/\H1 lp=some (.lst xs)/\All2 (StAt H1) dn xs/\l=dn++rm/\WAt a.Words H1 wp dw wl ts k/\ts.drop k=rm.map stW/\k<=ts.length/\xs.length<=8
theorem AP6 (B:Bt K mg a)(aM:∀ C sp,bY K a C sp->CalM P w K mg base C "take_number" ["self"] 3 sp)(cL:∀ C sp,nV K a C sp->CalM P w K mg base C "take_name" ["self"] 3 sp)(dS:∀ C sp,kR K a C sp->CalM P w K mg base C "take_one_of" ["self","choices"] 3 sp)(kC:CalX P w K mg base "stamp_from" ["words"] 5 (rF K a))(dQ:∀ C sp,lX K a C sp->CalM P w K mg base C "is_ended" ["self"] 1 sp)(F:Fun K "try_from" "try_from" tF f fd):FnOk P w K mg base (CXF P w) 6 f fd ["words"] (xD K a):=by
 exists 127,sc_try_from
 exists 36,r
 obtain ⟨wp,dw,wl,ts,r,rfl,W1,hT,hl,rk,hs,q⟩:=h
 refine ⟨_,(aW (aB (nomatch 220,1,sc_try_from.nd,0,aM,bX) (aB (nomatch 220,2,sc_try_from.nd,0,cL,bX) (aB (bA (i:=3) sc_try_from.nd rfl (Or.inl rfl) (aS (dE (pv 0) dS bX ↑144 (aK (aL (dI (aK (aL (nomatch 214,"bell",B.BELL) (aL (nomatch 214,"off",B.OFF) aC)))) aC)) (hst:=aD _ _ _ rfl) (hpl:=aF rfl))) (by kernel_rfl)) (aB (nomatch 220,4,sc_try_from.nd,0,cL,bX) (aB (bA (i:=5) sc_try_from.nd rfl (Or.inl rfl) (iW (aL (nomatch 224,cJ,kC) aC)) (by kernel_rfl)) (aB (bN (oH PassesOwn.leaving (cH (bP (aR (pv 0) dQ bX ↑144))) (aW (aJ (nomatch 267,5,kC))))) (aJ (aV (aS (dI (aK (aL aO (aL (pv 1) (aL (pv 2) (aL (pv 3) (aL (pv 4) (aL (bM qH rfl B.tuple PyProof.Rows.boot_tuple (nomatch 162,5)) aC)))))))))))))))))),?_⟩
 have B1:But wp H H:=fun _ _ _ e=>e
 exists 115,rk,ho
 ·exists 111,h
  have g3:ts.getD 3 ""=d:=by rw [e]; rfl
  have g4:ts.getD 4 ""=o:=by rw [e]; rfl
  obtain ⟨x0,l0,el⟩:∃ x0 l0,l=x0::l0:=List.exists_cons_of_ne_nil l1
  have g5:ts.getD 5 ""=stW x0:=by rw [e,el]; rfl
  have d6:ts.drop 6=l0.map stW:=by rw [e,el]; rfl
  have ln:ts.length=5+l.length:=by rw [e]; simp only [List.length_cons,List.length_map]; omega
  have l0n:l.length=l0.length+1:=by rw [el,List.length_cons]
  nofun
  exists 12,D2
  rw [g1,(dF hm).2.2]
  exists 24,W2.w,2,W2,g2,hh,H3,D3,W3
  rw [g2]
  nofun
  refine ⟨_,_,_,W3.w,rfl,_,⟨rfl,rfl⟩,sz8 (by decide),fun c hc=>?_⟩
  exists 82,S3,hc,.tup,e3,H3,c
  have W4:=W3.same S3
  generalize upd H3 c (.tup [.str "bell",.str "off"])=H4 at *
  refine ⟨wp,dw,wl,ts,3,c,[("bell":Str),"off"],rfl,W4,e3,by decide,.inl ⟨by rw [g3]; rcases hd with rfl | rfl <;> decide,fun H5 D5 W5=>?_⟩⟩
  rw [g3]
  exists 24,W5.w,4,W5,g4,ho,H6,D6,W6
  rw [g4]
  nofun
  have B6:=D2.trans (D3.trans ((Same.but S3).trans (D5.trans D6)))
  refine ⟨wp,dw,wl,ts,5,x0,rfl,W6,g5,l3 x0 (by rw [el]; exact List.mem_cons_self),fun s0 H7 D7 hs0 e7 W7=>?_⟩
  have B7:=B6.trans D7
  nofun
  exists 11,lp,hlp
  have S8:=aH hlp (.lst [.ref s0])
  have e8:upd H7 lp (.lst [.ref s0]) lp=some (.lst [.ref s0]):=aA
  exists 35,nlw,lp,wp,W7.w,hlp
  have fl:H lp=none:=AD9 B7 W7.w hlp
  exists 86,W8,W7.same,S8,B8,B7.trans
  have a8:All2 (StAt (upd H7 lp (.lst [.ref s0]))) [x0] [.ref s0]:=.cons ⟨s0,rfl,S8 _ _ e7⟩ .nil
  generalize upd H7 lp (.lst [.ref s0])=H8 at *
  nofun
  refine whl (TrQ a H wp dw wl lp ts m h d o l) (fun _ H1=>3000 - yH wp H1) ⟨6,_,[x0],l0,rfl,B8,e8,a8,el,W8,d6,by omega,(show 1<=8 by decide)⟩ ?_
  rintro σ H9 ⟨k,xs,dn,rm,rfl,B9,e9,a9,sp,W9,dk,k9,lx⟩
  exists 18,W9.w,k,W9
  cases rm with
  | nil =>
   obtain ⟨_,dl⟩:=BF5 dk
   have ck:k=ts.length:=by omega
   have dk2:decide ↑216=true:=decide_eq_true (by omega)
   first | rw [if_neg (fun z=>z (by omega))] | rw [if_neg (by omega)] | (rw [dk2]; exists Bool.not_true)
   nofun
   refine ⟨_,.inl ⟨SqL.of e9,fun tp htp=>?_⟩⟩
   exists 56,S10,htp,.tup,xs,e10,H9,tp,a10,dn,a9.imp
   exists 86,W10,W9.same,S10,B10,B9.trans
   generalize upd H9 tp (.tup xs)=H10 at *
   exists 11,t2,ht2
   rw [List.append_nil] at sp
   rw [ck] at W10
   rw [<- sp] at a10
   have S12:=aH ht2 (nomatch 209,h,d,o,tp)
   exact q _ _ (B10.trans (Same.but S12)) (W10.same S12) ⟨t2,rfl,tp,xs,aA,S12 _ _ e10,a10.imp fun _ _ _ z=>z.same S12⟩
  | cons x1 r1 =>
   obtain ⟨gk,dk',kl⟩:=kK dk
   have dk2:decide ↑216=false:=decide_eq_false (by omega)
   first | rw [if_pos (show ¬ ↑216 by omega)] | (rw [dk2]; exists Bool.not_false)
   refine ⟨fun σ' H'=>TrQ a H wp dw wl lp ts m h d o l σ' H'/\3000 - yH wp H' < 3000 - yH wp H9,fun σ' H' h=>⟨_,h.2,rfl,h.1⟩,?_⟩
   first | refine ⟨.inl ⟨rfl,_,SqL.of e9⟩,?_⟩ | skip
   have x1n:sS x1:=l3 x1 (by rw [sp]; simp)
   refine ⟨wp,dw,wl,ts,k,x1,rfl,W9,gk,x1n,fun s1 H11 D11 hs1 e11 W11=>?_⟩
   have l11:=D11 _ _ nlw e9
   have a11:=a9.imp fun _ _ _ z=>StAt.but z W9.w D11
   have len8:xs.length+1<=8:=by
    have q1:=a9.len
    have q2:l.length=dn.length+(r1.length+1):=by rw [sp,List.length_append,List.length_cons]
    omega
   refine ⟨lp,xs,.ref s1,rfl,rfl,l11,Nat.lt_of_le_of_lt lx (by decide),?_⟩
   have nwl:wl≠lp:=fun z=>by have:=W1.l; rw [z,fl] at this; cases this
   have W12:WAt a.Words (upd H11 lp (.lst (xs++[.ref s1]))) wp dw wl ts (k+1):=⟨by rw [aG (Ne.symm nlw)]; exact W11.w,by rw [aG nwl]; exact W11.l⟩
   refine ⟨⟨k+1,_,dn++[x1],r1,rfl,fun b o n e=>?_,aA,(a11.imp fun _ _ _ z=>z.lst l11).snoc (StAt.lst ⟨s1,rfl,e11⟩ l11),by rw [sp,List.append_assoc]; rfl,W12,dk',by omega,by rw [List.length_append,List.length_singleton]; omega⟩,?_⟩
   ·rw [aG (fun z=>by rw [z,fl] at e; cases e)]
    exact (B9.trans D11) b o n e
   ·rw [qZ W12,qZ W9]
    omega
 ·exact absurd rfl hs
 ·exact absurd z hs
theorem rW (B:Bt K mg a)(dA:∀ C sp,rL K a C sp->CalM P w K mg base C "takes" ["self","word"] 2 sp)(tV:CalG 1 P w K mg base "row_from" ["words"] 13 (pP K a))(tW:CalX P w K mg base "try_from" ["words"] 6 (xD K a))(aM:∀ C sp,bY K a C sp->CalM P w K mg base C "take_number" ["self"] 3 sp)(dS:∀ C sp,kR K a C sp->CalM P w K mg base C "take_one_of" ["self","choices"] 3 sp)(F:Fun K "line_from" "line_from" cR f fd):FnOk P w K mg base (qD P w 1) 14 f fd ["words"] (cZ K a):=by
 exists 0,Fun.okW,qX
 exists 36,r
 obtain ⟨wp,dw,wl,ts,r,rfl,W,hT,hl,rk,q⟩:=h
 refine ⟨_,(aW (aB (bK (nomatch 222,bP,dA,dJ) (aJ (aV (aS (wI (CalX.g tW) ↑144 rfl (aK ↑161) (he:=aD _ _ _ rfl) (hpl:=aF rfl))))) aU) (aB (bK (nomatch 222,bP,dA,dJ) (aJ (aV (aS (dI (aK (aL aO (aL (aR (pv 0) aM dJ ↑144) (aL (dE (pv 0) dS dJ ↑144 (aK (aL (dI (aK (aL (nomatch 214,"took",B.TOOK) (aL (nomatch 214,"not",B.NOT) (aL (nomatch 214,"perhaps",B.PERHAPS) aC))))) aC)) (hst:=aD _ _ _ rfl) (hpl:=aF rfl)) aC)))))))) aU) (aJ (aV (aS (nomatch 224,wI,tV))))))),?_⟩
 nofun
 rcases rV rk with ⟨m,h,d,o,l,⟨hm,hh,hd,ho,l1,l2,l3⟩,er,e⟩ | ⟨m,d,⟨hm,hd⟩,rfl,e⟩ | ⟨z0,z1,z2⟩
 ·have g0:ts.getD 0 ""=("try":Str):=by rw [e]; rfl
  exists 21,W.w,0,W,g0,W1,W.take,B1,H,H1
  exact ⟨wp,dw,wl,ts,r,rfl,W1,hT,hl,rk,by rw [er]; exact Option.some_ne_none _,fun v H' B' W' R'=>q v H' (B1.trans B') W' R'⟩
 ·have g0:ts.getD 0 ""=("end":Str):=by rw [e]; rfl
  exists 111,d
  have en:ts.length=3:=by rw [e]; rfl
  refine ⟨_,_,_,W.w,rfl,_,⟨rfl,rfl⟩,wp,dw,wl,ts,0,_,rfl,W,.inr ⟨by rw [g0]; decide,?_⟩⟩
  nofun
  exists 21,W.w,0,W,g0,W1,W.take,B1,H,H1
  exists 12,B2
  rw [g1,(dF hm).2.2]
  refine ⟨_,_,_,W2.w,rfl,_,⟨rfl,rfl⟩,sz8 (by decide),fun c hc=>?_⟩
  have S3:=aH hc (nomatch 189,.tup)
  have W3:=W2.same S3
  have B3:=B1.trans (B2.trans (Same.but S3))
  refine ⟨wp,dw,wl,ts,2,c,[("took":Str),"not","perhaps"],rfl,W3,aA,by decide,.inl ⟨by rw [g2]; rcases hd with rfl | rfl | rfl <;> decide,fun H4 B4 W4=>?_⟩⟩
  rw [g2]
  have B4:=B3.trans B4
  exists 83
  exists 43,B4.trans,htp,W4.same,tp
 ·exists 49,W.w,0,W,.inr,z2
  nofun
  exists 49,W.w,0,W,.inr,z1
  nofun
  exact ⟨wp,dw,wl,ts,r,rfl,W,hT,hl,rk,z0,z1,q⟩
theorem rX (B:Bt K mg a)(iQ:CalC P w K mg base "Words" a.Words ["self","text"] 3 (dG K a))(cQ:∀ C sp,iO K a C sp->CalM P w K mg base C "expect_end" ["self"] 3 sp)(fZ:CalFG 1 P w K mg base a.line_from_texts ["words"] 14 (cZ K a))(F:Fun K "read_whole_line" "read_whole_line" gK f fd):FnOk P w K mg base (qD P w 1) 15 f fd ["text","part_from"] (fW K a):=by
 exists 0,Fun.okW,sc_read_whole_line
 ·obtain ⟨u,r,rfl,_⟩:=h
  rfl
 obtain ⟨u,r,rfl,ht,rk,q⟩:=h
 refine ⟨_,(aW (aB (nomatch 239,sc_read_whole_line.nd) (aB (bA (i:=3) sc_read_whole_line.nd rfl (Or.inl rfl) (aS (BX0 (j:=1) fZ BP9 ↑144 rfl (Or.inl rfl) (nomatch 162,2) (he:=aD _ _ _ rfl) (hpl:=aF rfl))) (by kernel_rfl)) (nomatch 254,2,dJ,3)))),?_⟩
 nofun
 intro x dx hx hd ne
 exists 85
 have SB:∀ H',But x H1 H'->Same H H':=fun H' b c o e=>b c o (aQ e hx) (S1 c o e)
 nofun
 refine ⟨x,dx,wl,_,r,rfl,W1,ht.2.2,ht.2.1,rk,fun v H2 B2 W2 R2=>?_⟩
 nofun
 exists 119
 exact q v H2 (SB _ B2) R2
theorem RwAt.lst {H:Hp}{lp:Addr}{xs:List V}{o:HO}{v:V}{r:Rw}(h:RwAt H v r)(e:H lp=some (.lst xs)):RwAt (upd H lp o) v r:=by
 have k:∀ {p:Addr}{ys:List V},H p=some (.tup ys)->upd H lp o p=some (.tup ys):=fun {p ys} h1=>by rw [aG (fun z=>by rw [z,e] at h1; cases h1)]; exact h1
 obtain ⟨p,e1,q⟩:=h
 refine ⟨p,e1,?_⟩
 split at q
 ·exact k q
 ·obtain ⟨t,qs,q1,q2,q3⟩:=q
  exact ⟨t,qs,k q1,k q2,q3.imp fun _ _ _ z=>z.lst e⟩
theorem CH8 {ls:List Str}(h:∀ x∈ls,x.length<=3000)(hl:ls.length<=16):(Str.join nl1 ls).length<=100000:=by
 have h1:=StrLaws.join_length_le nl1 ls
 have h2:=uM (k:=3000) (ws:=ls) h
 have e:nl1.length=1:=rfl
 rw [e] at h1
 omega
def RbQ (H:Hp)(x:V)(rl l:Addr)(rs:List Rw)(i:Nat)(σ:L2.St)(H1:Hp):Prop:=∃ (xs:List V) (s3 s4 s5:Option V),σ=[some x,some (.ref rl),some (.ref l),s3,s4,s5]/\Same H H1/\H l=none/\l≠rl/\H1 rl=some (.lst (rs.map fun r=>V.str r.tx))/\H1 l=some (.lst xs)/\i<=rs.length/\All2 (fun r v=>RwAt H1 v r) (rs.take i) xs
theorem BZ6 {ls:List Str}{a:Str}{r:List Str}(e:ls=a::r)(h:a≠""):Str.join nl1 ls≠"":=fun z=>by
 have q:(Str.join nl1 ls).cps.toList=[]:=by rw [z]; rfl
 have ha:a.cps.toList≠[]:=fun y=>h (dU y)
 rw [e] at q
 cases r with
 | nil=>exact ha q
 | cons b r =>
  rw [AI1,cK,cK] at q
  exact ha (List.append_eq_nil_iff.mp (List.append_eq_nil_iff.mp q).1).1
theorem CO4 {r:Rw}{ws:List Str}(h:RwOk r ws):r.tx≠"":=fun z=>by
 have q:=(BG2 h).2.1
 rw [z] at q
 have e:Txt.split ("":Str) sp1=[("":Str)]:=by decide +kernel
 rw [e] at q
 cases h <;> exact absurd (List.cons.inj q).1 (by decide)
theorem AJ8 (B:Bt K mg a)(gO:CalG 1 P w K mg base "read_whole_line" ["text","part_from"] 15 (fW K a))(CIA_NoText:CalIA P w K mg base "NoText" a.NoText "line" 1)(aY:CalI P w K mg base "NoText" a.NoText "line" 1 (.int 0))(F:Fun K "read_book" "read_book" pM f fd):FnOk P w K mg base (qD P w 2) 16 f fd ["text"] (nU K a):=by
 exists 0,Fun.okW,sc_read_book
 ·obtain ⟨rs,rfl,_⟩:=h
  rfl
 obtain ⟨rs,rfl,ro,r16,q⟩:=h
 refine ⟨_,(aW (aB (nomatch 272,0) (aB (bA (i:=1) sc_read_book.nd rfl (Or.inl rfl) (aS (oG (nomatch 173,0) (mK (aK aC)) (nomatch 172,0))) (by kernel_rfl)) (aB (nomatch 170,2,sc_read_book.nd,iW,aC) (aB (bN (AZ1 PassesOwn.leaving rfl (BX1 rfl B.enumerate (nomatch 162,1)) (BO9 (n:=2) rfl (vN (dN (i:=3) sc_read_book.nd rfl (Or.inl rfl)) (vN (dN (i:=4) sc_read_book.nd rfl (Or.inl rfl)) AZ0))) (aW (aB (bN (BW1 (i:=5) (ia:=3) rfl rfl gO ↑144 rfl rfl (Or.inl rfl) (fun _=>(aK (aL (pv 4) (aL (cV (v:=.ref _) rfl B.line_from_texts rfl) aC)))) sc_read_book.nd rfl (Or.inl rfl) rfl rfl B.NoText CIA_NoText rfl ↑144 AT8 CF0 (by decide))) (aJ (bN (bW (jO PySem.F.plainAttrs_list PySem.F.slot_list_append PySem.F.type_list_append fE (pv 2) (nomatch 162,5))))))))) (nomatch 194,2)))))),?_⟩
 nofun
 refine ⟨_,_,true,rfl,.str _,by kernel_rfl,?_⟩
 exists 60
 cases rs with
 | nil =>
  exists 37
  nofun
  exists 54,rl,hrl,S1
  exists 54,l,hl,S2
  refine ⟨⟨[],SqL.of (S2 _ _ aA)⟩,?_⟩
  refine ForE.by (xs:=[]) (fun _ σ H1=>(∃ s0 s3 s4 s5,σ=[s0,some (.ref rl),some (.ref l),s3,s4,s5])/\H1=upd (upd H rl (.lst [])) l (.lst [])) ⟨⟨_,_,_,_,rfl⟩,rfl⟩ (fun i σ H1 _ h=>by rw [h.2]; exact SqL.of (S2 _ _ aA)) (fun i y σ H1 p hy=>by simp at hy) ?_
  rintro σ H1 ⟨⟨s0,s3,s4,s5,rfl⟩,rfl⟩
  nofun
  exact q l [] _ (S1.trans S2) (S1.free hl) aA .nil
 | cons r0 r1 =>
  have txo:∀ r∈r0::r1,CB2 r.tx/\(∃ ws,RwOk r ws/\Txt.split r.tx sp1=ws)/\10 ∉ r.tx.cps.toList/\r.tx.length<=3000:=fun r hr=>by
   obtain ⟨ws,h⟩:=ro r hr
   obtain ⟨a1,a2,a3,a4⟩:=BG2 h
   exact ⟨a1,⟨ws,h,a2⟩,a3,a4⟩
  have es:Txt.split (Str.join nl1 ((r0::r1).map Rw.tx)) nl1=(r0::r1).map Rw.tx:=oK (c:=10) (by simp) (fun x hx=>by obtain ⟨r,hr,rfl⟩:=List.mem_map.mp hx; exact (txo r hr).2.2.1)
  have lz:=CH8 (ls:=(r0::r1).map Rw.tx) (fun x hx=>by obtain ⟨r,hr,rfl⟩:=List.mem_map.mp hx; exact (txo r hr).2.2.2) (by rw [List.length_map]; exact r16)
  have nz:Str.join nl1 ((r0::r1).map Rw.tx)≠"":=by
   obtain ⟨ws,h⟩:=ro r0 List.mem_cons_self
   exact BZ6 rfl (CO4 h)
  generalize hrs:r0::r1=rs at *
  first | rw [if_neg nz] | rw [if_neg (fun z=>nz (V.str.inj z))]
  nofun
  refine ⟨by decide,Nat.le_trans (show (Str.join nl1 (rs.map Rw.tx)).length+2<=1000000 by omega) (by decide),by rw [show (("\n":Str))=nl1 from rfl,es,List.length_map]; exact sz8 (by omega),fun rl hrl=>?_⟩
  rw [show (("\n":Str))=nl1 from rfl,es,List.map_map] at *
  have S1:=aH hrl ↑197
  have e1:upd H rl ↑197 rl=some ↑197:=aA
  generalize upd H rl ↑197=H1 at *
  exists 54,l,hl,S2
  exists 35,nlr,l,rl,e1,hl
  refine ⟨⟨_,SqL.of (S2 _ _ e1)⟩,?_⟩
  refine ForE.by (xs:=rs.map (V.str ∘ Rw.tx)) (RbQ H (.str (Str.join nl1 (rs.map Rw.tx))) rl l rs) ⟨[],_,_,_,rfl,S1.trans S2,S1.free hl,nlr,S2 _ _ e1,aA,Nat.zero_le _,.nil⟩ (fun i σ H2 _ h=>by obtain ⟨_,_,_,_,_,_,_,_,h,_⟩:=h; exact SqL.of h) ?_ ?_
  ·rintro i y σ H2 p hy ⟨xs,s3,s4,s5,rfl,S3,fl,_,e3,e4,li,ax⟩ hp
   rw [List.getElem?_map] at hy
   obtain ⟨r,hr1,rfl⟩:∃ r,rs[i]?=some r/\V.str r.tx=y:=by
    cases z:rs[i]? with
    | none=>rw [z] at hy; cases hy
    | some u=>rw [z] at hy; exact ⟨u,rfl,Option.some.inj hy⟩
   have um:r∈rs:=List.mem_of_getElem? hr1
   have ul:i < rs.length:=(List.getElem?_eq_some_iff.mp hr1).1
   obtain ⟨x1,⟨ws,x2,x3⟩,_,_⟩:=txo r um
   have S4:=aH hp (.tup [.int (i:Nat),.str r.tx])
   nofun
   refine ⟨_,SqT.of aA,rfl,r.tx,r,rfl,x1,by rw [x3]; exact x2,fun v H5 S5 R5=>?_⟩
   have SS:=S3.trans (S4.trans S5)
   have e5:=S5 _ _ (S4 _ _ e4)
   have lx:xs.length<=16:=by have:=ax.len; rw [List.length_take] at this; omega
   refine ⟨.inl ⟨rfl,_,SqL.of e5⟩,l,xs,v,rfl,rfl,e5,Nat.lt_of_le_of_lt lx (by decide),?_⟩
   refine ⟨xs++[v],_,_,_,rfl,fun b o e=>by rw [aG (fun z=>by rw [z,fl] at e; cases e)]; exact SS b o e,fl,nlr,by rw [aG (Ne.symm nlr)]; exact S5 _ _ (S4 _ _ e3),aA,ul,?_⟩
   rw [List.take_succ,hr1]
   exact (ax.imp fun _ _ _ z=>(z.same (S4.trans S5)).lst e5).snoc (R5.lst e5)
  ·rintro σ H2 ⟨xs,s3,s4,s5,rfl,S3,fl,_,e3,e4,li,ax⟩
   nofun
   rw [List.length_map,List.take_length] at ax
   exact q l xs H2 S3 fl e4 ax
theorem AX1 {k:Nat}{ws:List Str}(h:∀ x∈ws,x.length<=k)(hl:ws.length<=20)(hk:k<=10000):(ws.map (·.length)).sum+ws.length * 1<=300000:=by
 have h2:=uM h
 have h3:ws.length * k<=20 * 10000:=Nat.mul_le_mul hl hk
 omega
theorem yR (B:Bt K mg a)(F:Fun K "show_stamps" "show_stamps" lR f fd):FnOk P w K mg base CX0 1 f fd ["stamps"] (oX K a):=by
 exists 1,yF
 obtain ⟨q0,qs,l,rfl,hq,hA,hn,l8,q⟩:=h
 refine ⟨_,(aW (aJ (aV (aS (jO PySem.F.plainAttrs_str PySem.F.slot_str_join PySem.F.type_str_join mX aO (aK (aL (eH ["stamp"] [none] rfl (by kernel_rfl) (AR2 (pv 0)) (fun cl C s H fp=>⟨(nomatch 149,"stamp"),gC,(bL bH (bL bH ↑234 aO) ↑234)⟩)) aC))))))),?_⟩
 exists 123,q0,qs,SqT.of,hq
 exists 29,CompT.by,qs,l.take,stW,V.str,SqT.of,hq
 ·exists 59
  exists 47,e,hs,hn
  refine ixt (SqT.of (S1 _ _ hs)) (v:=.int x.1) rfl ?_
  refine ⟨x.1,rfl,jU hx.1.1 hx.1.2,?_⟩
  refine ⟨szM (show (bB x.1).length+1<=1000000 by omega),?_⟩
  refine ixt (SqT.of (S1 _ _ hs)) (v:=.int x.2) rfl ?_
  refine ⟨x.2,rfl,jU hx.2.1 hx.2.2,szM ?_,?_⟩
  ·exists 81
  ·first | exact ⟨ea,S1⟩ | exact ⟨ea,⟨_,rfl⟩,S1⟩
 exists 38
 ·exists 64
  rw [<- lq,List.take_length]
  refine ⟨sp1,D,l.map stW,rfl,rfl,aA,nA ?_,?_⟩
  ·exact Nat.le_trans (AX1 (k:=20) (fun u hu=>by obtain ⟨x,hx,rfl⟩:=List.mem_map.mp hu; exact (BF8 (hn x hx)).2.2.1) (by rw [List.length_map]; omega) (by decide)) (by decide)
  rw [AJ7]
  exact q _ (S1.trans (aH hD _))
theorem xN {s:Str}:∀ {ts:List Str}{x:Str},x∈ts->x.length<=(Str.join s ts).length
 | [],x,h=>by cases h
 | [a],x,h=>by rw [List.mem_singleton.mp h]; exact Nat.le_refl _
 | a::b::r,x,h=>by
  show x.length<=(a++s++Str.join s (b::r)).length
  rw [Str.length_append,Str.length_append]
  rcases List.mem_cons.mp h with rfl | h
  ·omega
  ·have:=xN (s:=s) h
   omega
theorem BR6 {r:Rw}{ws:List Str}(h:RwOk r ws):r.ps.length<=6/\∀ x∈r.ps,x.length<=3000:=by
 obtain ⟨a1,a2⟩:=vU h
 have lx:(Str.join sp1 r.ps).length<=3000:=(BG2 h).2.2.2
 refine ⟨?_,fun x hx2=>Nat.le_trans (xN (s:=sp1) hx2) lx⟩
 unfold Rw.ps
 rw [List.length_append,List.length_map]
 split
 ·rw [List.length_nil]; omega
 ·rw [List.length_singleton]; omega
def IsIt (H:Hp)(y:V)(o:Option Str):Prop:=(∃ u,y=.str u/\o=some u)\/(∃ n,y=.int n/\pE n/\o=some (bB n))\/∃ q0 qs l,y=.ref q0/\H q0=some (.tup qs)/\All2 (StAt H) l qs/\(∀ x∈l,sS x)/\l.length<=8/\o=some (Str.join sp1 (l.map stW))
theorem BN9 {H:Hp}{v:V}{r:Rw}{ws:List Str}(h:RwOk r ws)(hv:RwAt H v r):∃ (p0:Addr) (xs:List V),v=.ref p0/\H p0=some (.tup xs)/\xs.length=r.ps.length/\∀ (i:Nat) (y:V),xs[i]?=some y->IsIt H y r.ps[i]?:=by
 obtain ⟨p0,e0,hv⟩:=hv
 have at2:=(vU h).2
 have atm:∀ (i:Nat) (y:V),r.as[i]?=some y->IsIt H y (r.as.map aT)[i]?:=fun i y e=>by
  rw [List.getElem?_map,e]
  rcases at2 y (List.mem_of_getElem? e) with ⟨u,rfl,_⟩ | ⟨n,rfl,hn⟩
  ·exact .inl ⟨u,rfl,rfl⟩
  ·exact .inr (.inl ⟨n,rfl,hn,rfl⟩)
 cases hs:r.st with
 | none =>
  rw [hs] at hv
  have ep:r.ps=r.as.map aT:=by unfold Rw.ps; rw [hs]; exact List.append_nil _
  exact ⟨p0,r.as,e0,hv,by rw [ep,List.length_map],fun i y e=>by rw [ep]; exact atm i y e⟩
 | some l =>
  rw [hs] at hv
  obtain ⟨q0,qs,h1,h2,h3⟩:=hv
  have ep:r.ps=r.as.map aT++[Str.join sp1 (l.map stW)]:=by unfold Rw.ps; rw [hs]
  have lb:l.length<=8/\∀ x∈l,sS x:=by
   exists 114,h
   ·rw [er] at hs
    cases hs
    exact ⟨l8,l9⟩
   ·rw [er] at hs; cases hs
   ·rw [hs] at z; cases z
  refine ⟨p0,_,e0,h1,by rw [ep,List.length_append,List.length_append,List.length_map]; rfl,fun i y e=>?_⟩
  rw [ep]
  rcases Nat.lt_or_ge i r.as.length with c | c
  ·rw [List.getElem?_append_left c] at e
   rw [List.getElem?_append_left (by rw [List.length_map]; exact c)]
   exact atm i y e
  ·rw [List.getElem?_append_right c] at e
   rw [List.getElem?_append_right (by rw [List.length_map]; exact c),List.length_map]
   cases z:i - r.as.length with
   | zero =>
    rw [z] at e
    cases e
    exact .inr (.inr ⟨q0,qs,l,rfl,h2,h3,lb.2,lb.1,rfl⟩)
   | succ k=>rw [z] at e; cases e
theorem IsIt.same {H H':Hp}{y:V}{o:Option Str}(h:IsIt H y o)(S:Same H H'):IsIt H' y o:=by
 rcases h with h | h | ⟨q0,qs,l,e,h1,h2,h3⟩
 ·exact .inl h
 ·exact .inr (.inl h)
 ·exact .inr (.inr ⟨q0,qs,l,e,S _ _ h1,h2.imp fun _ _ _ z=>z.same S,h3⟩)
theorem AE2 (B:Bt K mg a)(mI:CalX P w K mg base "show_stamps" ["stamps"] 1 (oX K a))(F:Fun K "show_parts" "show_parts" nL f fd):FnOk P w K mg base CX0 2 f fd ["parts"] (rE K a):=by
 exists 1,AC7
 obtain ⟨v,r,rfl,hv,⟨ws,ho⟩,q⟩:=h
 refine ⟨_,(aW (aJ (aV (aS (jO PySem.F.plainAttrs_str PySem.F.slot_str_join PySem.F.type_str_join mX aO (aK (aL (eH ["part"] [none] rfl (by kernel_rfl) (AR2 (pv 0)) (fun cl C s H fp=>⟨(nomatch 149,"part"),gC,(oG (bP (bC (gD (K:=K) (T:="tuple") rfl) (nomatch 169,kH) B.isinstance PyProof.Rows.boot_isinstance (aK (aL ↑155 (aL (eO (v:=.ty "tuple") (nomatch 169,kH) B.tuple PyProof.Rows.boot_tuple rfl) aC))) (he:=aD _ _ _ rfl) (hpl:=aF rfl))) (kG mI ↑144 (nomatch 169,kH) ↑240 (he:=aD _ _ _ rfl) (hpl:=aF rfl)) ↑271)⟩)) aC))))))),?_⟩
 obtain ⟨p0,xs,rfl,hp,lx,it⟩:=BN9 ho hv
 obtain ⟨b1,b2⟩:=BR6 ho
 nofun
 exists 48,xs
 ·exists 59
  have fin:∀ u,r.ps[i]?=some u->(r.ps.take i).map V.str++[V.str u]=(r.ps.take (i+1)).map V.str:=fun u e=>by
   rw [List.take_succ,e,List.map_append]
   rfl
  nofun
  rcases (it i y hy).same S1 with ⟨u,rfl,e⟩ | ⟨n,rfl,hn,e⟩ | ⟨q0,qs,l,rfl,h1,h2,h3,h4,e⟩
  ·exists 51,false,.str,u
   nofun
   refine ⟨_,rfl,.inr (.inl ⟨u,rfl,?_⟩)⟩
   first | exact ⟨fin u e,⟨_,rfl⟩,S1⟩ | exact ⟨fin u e,S1⟩
  ·exists 51,false,.int,n
   nofun
   refine ⟨_,rfl,.inl ⟨n,rfl,AU5 hn,?_⟩⟩
   first | exact ⟨fin _ e,⟨_,rfl⟩,S1⟩ | exact ⟨fin _ e,S1⟩
  ·exists 51,true,.tup,h1
   nofun
   refine ⟨q0,qs,l,rfl,h1,h2,h3,h4,fun H2 S2=>?_⟩
   first | exact ⟨fin _ e,⟨_,rfl⟩,S1.trans S2⟩ | exact ⟨fin _ e,S1.trans S2⟩
 exists 57
 ·exists 64
  rw [lx,List.take_length]
  refine ⟨sp1,D,r.ps,rfl,rfl,aA,nA ?_,?_⟩
  ·exact Nat.le_trans (AX1 (k:=3000) b2 (by omega) (by decide)) (by decide)
  rw [AJ7]
  exact q _ (S1.trans (aH hD _))
theorem AJ9 (B:Bt K mg a)(oB:CalX P w K mg base "show_parts" ["parts"] 2 (rE K a))(F:Fun K "show_book" "show_book" pL f fd):FnOk P w K mg base CX0 3 f fd ["lines"] (uQ K a):=by
 exists 1,AJ1
 obtain ⟨l,xs,rs,rfl,hl,hA,ho,r16,q⟩:=h
 refine ⟨_,(aW (aJ (aV (aS (jO PySem.F.plainAttrs_str PySem.F.slot_str_join PySem.F.type_str_join mX aO (nomatch 228,"line",oB)))))),?_⟩
 exists 123,l,xs,SqL.of,hl
 exists 17,xs,rs.take,H,hl,hA.get
 ·exists 46,H',S1,rs.map
  exact q _ (S1.trans (aH hD _))
theorem AK0 (B:Bt K mg a)(F:Fun K "_law_begin" "_law_begin" pN f fd):FnOk P w K mg base CX0 1 f fd ["_law_cell"] (uR K a):=by
 exists 1,AJ2
 obtain ⟨c,rfl,q⟩:=h
 refine ⟨_,(aW (aJ (aV (iW (aL (bL uJ (bL qI (pv 0) aN) (bL oS aN (bL qG (pv 0) aN))) (aL (bL qG (pv 0) aN) (aL aN aC))))))),?_⟩
 nofun
 exact ⟨⟨by decide,by decide⟩,by decide,.inr ⟨by omega,by omega⟩,by decide,by decide,fun p hp=>q p _ _ _ hp⟩
theorem AP7 (B:Bt K mg a)(F:Fun K "_law_next" "_law_next" tH f fd):FnOk P w K mg base CX0 1 f fd ["_law_state","_law_base"] (dC K a):=by
 exists 1,sc_law_next
 obtain ⟨wl,m,rfl,⟨a,b,c,hw⟩,m0,m1,q⟩:=h
 refine ⟨_,(aW (aB (bK (aX AV1 (nomatch 174,dO) aN (bD _)) (aB (bA (i:=2) sc_law_next.nd rfl (Or.inl rfl) (aS (bL qG (nomatch 174,dO) (pv 1))) (by kernel_rfl)) (aB (bN (AR1 (bL qI (nomatch 174,dO) (pv 1)) (AR0 (pv 0) aN vO))) (nomatch 194,2))) aU) (aB (bN (AR1 (bL jP (nomatch 174,dO) aN) (AR0 (pv 0) aN vO))) (aB (bA (i:=3) sc_law_next.nd rfl (Or.inl rfl) (aS (bL qG (bL uJ (bL jP (bL jP (nomatch 174,dO) (bL uJ aN (nomatch 174,dO))) aN) aN) aN)) (by kernel_rfl)) (aB ↑185 (aB ↑185 (aJ (aV (aS (bL qG (bL qI (pv 3) aN) (pv 1))))))))))),?_⟩
 have em:∀ x k:Int,0 < k->0<=x % k/\x % k < k:=fun x k h=>⟨Int.emod_nonneg _ (by omega),Int.emod_lt_of_pos _ h⟩
 nofun
 exists 102
 split
 ·exists 102
  refine ⟨m0,?_⟩
  exists 102
  refine ⟨⟨m0,m1⟩,?_⟩
  refine CJ4 hw (j:=0) rfl ?_
  exact q _ _ (em a m m0).1 (em a m m0).2 ⟨_,_,_,aA⟩ (But.upd _)
 ·refine ixl (SqL.of hw) (v:=.int c) rfl ?_
  nofun
  refine CJ4 hw (j:=2) rfl ?_
  refine ixl (SqL.of aA) (v:=.int b) rfl ?_
  refine ixl (SqL.of aA) (v:=.int (c+1)) rfl ?_
  nofun
  generalize hn1:(b+7919 * (c+1)+1) * 48271 % 2147483647=n1
  have b1:0<=n1/\n1 < 2147483647:=hn1 ▸ em _ _ (by decide)
  generalize hn2:n1 * (n1 / 1009+69621) % 2147483647=n2
  have b2:0<=n2/\n2 < 2147483647:=hn2 ▸ em _ _ (by decide)
  refine ⟨.inl ⟨by decide,by decide⟩,.inr ⟨by decide,by decide⟩,by decide,⟨by decide,by decide⟩,.inl ⟨by omega,by omega⟩,by decide,⟨by decide,by decide⟩,.inl ⟨by omega,by omega⟩,by decide,⟨by decide,by decide⟩,m0,?_⟩
  exact q _ _ (em _ m m0).1 (em _ m m0).2 ⟨_,_,_,aA⟩ (But.upd _)
theorem yS (B:Bt K mg a)(F:Fun K "_law_cell_at" "_law_cell_at" lS f fd):FnOk P w K mg base CX0 1 f fd ["_law_script","_law_k"] (oY K a):=by
 exists 1,yG
 obtain ⟨b,ns,k,rfl,hS,k0,q⟩:=h
 refine ⟨_,(aW (aB (bK (aX AL5 (pv 1) (nomatch 157,AR4,0) (bD _)) (aJ (aV (aS (gB dO (pv 0) (pv 1) (fun _ _=>rfl))))) aU) (aJ (aV (aS aN))))),?_⟩
 nofun
 refine ⟨_,.inl ⟨_,hS,rfl⟩,?_⟩
 nofun
 split
 ·rename_i hk
  rw [List.length_map] at hk
  obtain ⟨z,_,ez⟩:=CD7 k0 hk
  exact ixl hS ez (q z)
 ·exact q 0
theorem AP8 (B:Bt K mg a)(aP:CalX P w K mg base "_law_next" ["_law_state","_law_base"] 1 (dC K a))(F:Fun K "_law_name" "_law_name" tI f fd):FnOk P w K mg base CX0 2 f fd ["_law_state"] (xE K a):=by
 exists 132,sc_law_name,wl,W
 refine ⟨_,(aW (aB (bA (i:=1) sc_law_name.nd rfl (Or.inr rfl) (aS aO) (by kernel_rfl)) (aB (nomatch 250,2,sc_law_name.nd,147) (aB (bK (aX dD (pv 2) aN (bD _)) (aB (bA (i:=3) sc_law_name.nd rfl (Or.inl rfl) (iW (aL aO (aL aO (aL aO (aL aO (aL aO (aL aO (aL aO (aL aO (aL aO (aL aO ↑182))))))))))) (by kernel_rfl)) (aJ (aV (BV4 dO (BV3 AH3 (aS (pv 3)) (iW ↑182)) (aS ↑147) (fun _ _=>rfl))))) aU) (aB (bK (aX dD (pv 2) aN (bD _)) (aB (bA (i:=4) sc_law_name.nd rfl (Or.inl rfl) (aS (jR AS6 aO sM (kF (bL jP aN ↑147)))) (by kernel_rfl)) (aB (bA (i:=5) sc_law_name.nd rfl (Or.inl rfl) (aS (pc aP hr rfl (aK (aL (pv 0) (aL (nomatch 157,gU,4) aC))))) (by kernel_rfl)) (aJ (aV (aS (bL bH (bL bH (jR AS6 (pv 4) sM (kF (pv 5))) (gB BP2 aO ↑147 (fun _ _=>rfl))) (jR AS6 (pv 4) (kF (bL jP (pv 5) aN)) sM))))))) aU) (aJ (aV (aS (jO PySem.F.plainAttrs_str PySem.F.slot_str_join PySem.F.type_str_join mX aO (aK (aL (eH ["_law_k","_law_letters","_law_state"] [none,some 1,some 0] rfl (by kernel_rfl) ↑258 (fun cl C s H fp=>⟨(dN (i:=0) (by decide:List.Nodup (["_law_k","_law_letters","_law_state"]:List Str)) rfl (nomatch 169,Or.inl) (nomatch 169,Or.inr)),gC,(gB BP2 (pv 1 (hv:=Or.inr (nomatch 169,Or.inl))) (kG aP (hr.mono (by decide)) (nomatch 169,kH) (aK (aL (pv 2 (hv:=Or.inr (nomatch 169,Or.inl))) (aL aN aC))) (he:=aD _ _ _ rfl) (hpl:=aF rfl)) (fun _ _=>rfl))⟩)) aC))))))))))),?_⟩
 exists 141
 by_cases h0:r1=0
 ·rw [if_pos h0]
  exists 11,p,hp
  have S1:=aH hp ↑153
  have e1:upd H1 p ↑153 p=some ↑153:=aA
  generalize upd H1 p ↑153=H2 at *
  exists 11,p2,hp2
  exists 25,"quiet","a","to"
  refine ⟨p,p2,[.str "any",.str "kind",.str "place",.str "weight",.str "not",.str "by",.str "now",.str "hour",.str "day",.str "never",.str "sure",.str "raise",.str "zone"],[.str "quiet",.str "a",.str "to"],rfl,rfl,e1',e2,sz8 (by decide),fun p3 hp3=>?_⟩
  have S3:=aH hp3 ↑152
  have e3:upd H3 p3 ↑152 p3=some ↑152:=aA
  have n3:=(W1.same (S1.trans S2)).ne hp3
  generalize upd H3 p3 ↑152=H4 at *
  have SS:=S1.trans (S2.trans S3)
  exists 93,W1.same,SS,r4,a4,b4,p3,n3,e3
  obtain ⟨v,hv,ev⟩:=sO (xs:=([.str "any",.str "kind",.str "place",.str "weight",.str "not",.str "by",.str "now",.str "hour",.str "day",.str "never",.str "sure",.str "raise",.str "zone"]:List V)++[.str "quiet",.str "a",.str "to"]) a4 (by simp only [List.length_append,List.length_cons,List.length_nil]; omega)
  refine ixl (SqL.of e5) ev ?_
  obtain ⟨u,rfl,g⟩:∃ u,v=.str u/\aZ u:=by
   simp only [List.cons_append,List.nil_append,List.mem_cons,List.not_mem_nil,or_false] at hv
   rcases hv with rfl | rfl | rfl | rfl | rfl | rfl | rfl | rfl | rfl | rfl | rfl | rfl | rfl | rfl | rfl | rfl <;> exact ⟨_,rfl,by decide +kernel⟩
  exact q u H5 g W5 (B1.trans ((Same.but SS).trans B5))
 rw [if_neg h0]
 by_cases h1:r1=1
 ·rw [if_pos h1]
  exists 134,r2
  nofun
  have e8:Str.ofString "bcdefghi"=w8:=rfl
  have e3:Str.ofString "axz"=axz:=rfl
  rw [e8]
  have hw:=BU9 a2 b2
  have hl:(↑203).length<=8:=wK w8 (by decide) _ _
  refine ⟨sz8 (by decide),sz8 (by omega),?_⟩
  refine mU W2 (by rw [hw]; omega) (by rw [hw]; omega) fun r3 H3 a3 b3 W3 B3=>?_
  have b3':r3 < r2+1:=by rw [hw] at b3; omega
  nofun
  refine ⟨sz8 (by omega),?_⟩
  exists 9,W3,r4,H4,a4,b4,W4,B4
  obtain ⟨c,ec,gd⟩:=BL0 a2 b2 a3 b3' a4 b4
  refine ixs (u:=axz) (sz8 (by decide)) ec ?_
  nofun
  have l1:=wK ↑203 hl none (some r3)
  have l2:=wK ↑203 hl (some (r3+1)) none
  have l3:(⟨#[c]⟩:Str).length=1:=rfl
  refine ⟨sz8 (by rw [l3]; omega),sz8 (by omega),sz8 (by rw [Str.length_append,l3]; omega),?_⟩
  exact q _ H4 gd W4 (B1.trans (B2.trans (B3.trans B4)))
 ·rw [if_neg h1]
  exists 134,r2
  nofun
  refine ⟨by omega,by omega,?_⟩
  refine CompR.by (fun i acc σ H'=>(∃ ts:List Str,acc=ts.map V.str/\ts.length=i/\∀ t∈ts,∃ c,t=⟨#[c]⟩/\97<=c/\c<=122)/\(∃ v,σ=[v,some (.str letters),some (.ref wl)])/\Well3 H' wl/\But wl H2 H') (sz8 (by omega)) ⟨⟨[],rfl,rfl,fun t ht=>by cases ht⟩,⟨_,rfl⟩,W2,But.refl _ _⟩ ?_ ?_ ?_
  ·rintro i acc σ H' hi ⟨⟨ts,rfl,hl,ht⟩,⟨v,rfl⟩,W3,B3⟩
   nofun
   exists 9,W3,r3,H3,a3,b3,W4,B4
   obtain ⟨c,ec,c0,c1⟩:=BC4 a3 b3
   refine ixs (u:=letters) (sz8 (by decide)) ec ?_
   have new:∃ us:List Str,ts.map V.str++[V.str ⟨#[c]⟩]=us.map V.str/\us.length=i+1/\∀ t∈us,∃ c,t=⟨#[c]⟩/\97<=c/\c<=122:=by
    refine ⟨ts++[⟨#[c]⟩],by rw [List.map_append]; rfl,by rw [List.length_append,hl]; rfl,fun t h=>?_⟩
    exists 65,h,z
    ·exact ht t z
    ·rw [List.mem_singleton.mp z]
     exact ⟨c,rfl,c0,c1⟩
   first | exact ⟨new,⟨_,rfl⟩,W4,B3.trans B4⟩ | exact ⟨new,W4,B3.trans B4⟩
  ·rintro i acc σ H' ⟨⟨ts,rfl,hl,_⟩,_⟩
   rw [List.length_map,hl]
   exact Nat.le_refl _
  ·rintro acc σ H' ⟨⟨ts,rfl,hl,ht⟩,⟨v,rfl⟩,W3,B3⟩ D hD
   have hn:ts.length=(1+r2).toNat:=hl
   obtain ⟨j1,j2⟩:=BC5 ht (by omega) (by omega)
   have n0:=W3.ne hD
   have S9:=aH hD (.lst (ts.map V.str))
   refine ⟨Str.empty,D,ts,rfl,rfl,aA,j1,?_⟩
   exact q _ _ j2 (W3.same S9) (B1.trans (B2.trans (B3.trans (Same.but S9))))
theorem AE3 (B:Bt K mg a)(aP:CalX P w K mg base "_law_next" ["_law_state","_law_base"] 1 (dC K a))(F:Fun K "_law_number" "_law_number" nP f fd):FnOk P w K mg base CX0 2 f fd ["_law_state"] (rJ K a):=by
 exists 132,AC8,wl,W
 refine ⟨_,(aW (aJ (aV (BV4 dO (iW (aL ↑147 (aL ↑191 aC))) (aS ↑147) (fun _ _=>rfl))))),?_⟩
 exists 141
 refine ⟨⟨by decide,by decide,by decide⟩,?_⟩
 exists 134,r2
 have b2':r2 < 1000000:=by first | exact b2 | simpa using b2
 exists 11,p,hp
 have S4:=aH hp (.lst [.int r1,.int r2])
 have np:=W2.ne hp
 exists 93,W2.same,S4,r3,a3,b3,p,np,aA
 nofun
 obtain ⟨v,hv,ev⟩:=sO (xs:=[.int r1,.int r2]) (i:=r3) (by omega) (by simp only [List.length_cons,List.length_nil]; omega)
 obtain ⟨nn,rfl,n0,n1⟩:∃ nn:Int,v=.int nn/\0<=nn/\nn < 1000000:=by
  exists 22,hv
  rcases hv with rfl | rfl
  ·exact ⟨r1,rfl,a1,by omega⟩
  ·exact ⟨r2,rfl,a2,b2'⟩
 refine ixl (SqL.of e5) ev ?_
 exact q nn H5 n0 n1 W5 (B1.trans (B2.trans ((Same.but S4).trans B5)))
theorem AE4 (B:Bt K mg a)(aP:CalX P w K mg base "_law_next" ["_law_state","_law_base"] 1 (dC K a))(F:Fun K "_law_moment" "_law_moment" nO f fd):FnOk P w K mg base CX0 2 f fd ["_law_state"] (rH K a):=by
 exists 132,sc_law_moment,wl,W
 refine ⟨_,(aW (aB (bK ↑245 (aJ (aV (aS (bL oS ↑147 aN)))) aU) (aB (bA (i:=1) sc_law_moment.nd rfl (Or.inl rfl) (aS (bL jP (bL uJ ↑191 (bL AR3 aN aN)) ↑191)) (by kernel_rfl)) (aJ (aV (aS (bL uJ (pv 1) (bL oS aN (bL uJ aN ↑147))))))))),?_⟩
 exists 141
 by_cases c:r1=0
 ·rw [if_pos c]
  exists 134,r2
  nofun
  exact q _ H2 ⟨by omega,by omega⟩ W2 (B1.trans B2)
 ·rw [if_neg c]
  have e7:(10:Int) ^ Int.toNat 7=10000000:=by decide
  have e6:(10:Int) ^ Int.toNat 6=1000000:=by decide
  simp only [e7,e6]
  refine ⟨⟨by decide,by decide,by decide⟩,?_⟩
  exists 134,r2
  nofun
  refine ⟨⟨by decide,by decide,by decide⟩,.inr ⟨by decide,by decide⟩,⟨by decide,by decide,by decide⟩,?_⟩
  exists 9,W2,r3,H3,a3,b3,W3,B3
  nofun
  exists 9,W3,r4,H4,a4,b4,W4,B4
  nofun
  rcases (by omega:r4=0\/r4=1) with rfl | rfl
  exists 70
  exists 70
theorem AX2 (B:Bt K mg a)(aP:CalX P w K mg base "_law_next" ["_law_state","_law_base"] 1 (dC K a))(F:Fun K "_law_fit" "_law_fit" wY f fd):FnOk P w K mg base CX0 2 f fd ["_law_state"] (zR K a):=by
 exists 132,sc_law_fit,wl,W1
 refine ⟨_,(aW (aB (bA (i:=1) sc_law_fit.nd rfl (Or.inl rfl) (iW (aL aO (aL aO (aL aO (aL aO ↑182))))) (by kernel_rfl)) (aB (bA (i:=1) sc_law_fit.nd rfl (Or.inl rfl) (BV3 AH3 (aS (pv 1)) (iW ↑182)) (by kernel_rfl)) (aJ (aV ↑263))))),?_⟩
 nofun
 exists 11,p,hp
 have S1:=aH hp ↑154
 have e1:upd H p ↑154 p=some ↑154:=aA
 generalize upd H p ↑154=H2 at *
 nofun
 exists 11,p2,hp2
 exists 25,"( kind fire & weight 2 )","( place attic | not ( kind flood & weight 5 ) )","place any attic"
 refine ⟨p,p2,[.str "any",.str "kind fire",.str "kind not any fire",.str "place attic",.str "weight 3",.str "not kind flood",.str "not not place roof"],[.str "( kind fire & weight 2 )",.str "( place attic | not ( kind flood & weight 5 ) )",.str "place any attic"],rfl,rfl,e1',e2,sz8 (by decide),fun p3 hp3=>?_⟩
 have S3:=aH hp3 ↑150
 have e3:upd H3 p3 ↑150 p3=some ↑150:=aA
 have n3:=(W1.same (S1.trans S2)).ne hp3
 generalize upd H3 p3 ↑150=H4 at *
 have SS:=S1.trans (S2.trans S3)
 nofun
 exists 93,W1.same,SS,r4,a4,b4,p3,n3,e3
 obtain ⟨v,hv,ev⟩:=sO (xs:=([.str "any",.str "kind fire",.str "kind not any fire",.str "place attic",.str "weight 3",.str "not kind flood",.str "not not place roof"]:List V)++[.str "( kind fire & weight 2 )",.str "( place attic | not ( kind flood & weight 5 ) )",.str "place any attic"]) a4 (by simp only [List.length_append,List.length_cons,List.length_nil]; omega)
 refine ixl (SqL.of e5) ev ?_
 obtain ⟨u,rfl,hu⟩:∃ u,v=.str u/\u∈tenF:=by
  have em:([.str "any",.str "kind fire",.str "kind not any fire",.str "place attic",.str "weight 3",.str "not kind flood",.str "not not place roof"]:List V)++[.str "( kind fire & weight 2 )",.str "( place attic | not ( kind flood & weight 5 ) )",.str "place any attic"]=tenF.map V.str:=rfl
  rw [em] at hv
  exists 104,u,hu,hv
  exact ⟨u,rfl,hu⟩
 obtain ⟨t,t1,t2,rfl⟩:=CG4 u hu
 exact q t H5 t1 t2 W5 ((Same.but SS).trans B5)
theorem StAt.well {H H':Hp}{w:Addr}{x:Int × Int}{y:V}(h:StAt H x y)(W:Well3 H w)(B:But w H H'):StAt H' x y:=by
 obtain ⟨r,e1,h1⟩:=h
 obtain ⟨_,_,_,e⟩:=W
 exists 79
theorem AX3 (B:Bt K mg a)(kD:CalX P w K mg base "_law_moment" ["_law_state"] 2 (rH K a))(lD:CalX P w K mg base "_law_name" ["_law_state"] 2 (xE K a))(oC:CalX P w K mg base "_law_wishes" ["_law_state"] 4 (rG K a))(dL:CalX P w K mg base "_law_number" ["_law_state"] 2 (rJ K a))(aP:CalX P w K mg base "_law_next" ["_law_state","_law_base"] 1 (dC K a))(F:Fun K "_law_row" "_law_row" wZ f fd):FnOk P w K mg base CX0 5 f fd ["_law_state","_law_kind"] (zS K a):=by
 exists 1,sc_law_row
 obtain ⟨wl,k,rfl,W,k0,k8,q⟩:=h
 refine ⟨_,(aW (aB (nomatch 241,2,sc_law_row.nd,kD,0) (aB (nomatch 241,3,sc_law_row.nd,lD,0) (aB (nomatch 237,oC) (aB (nomatch 233,lD,dL) (aB (nomatch 237,dL) (aB (nomatch 233,dL,kD) (aB (bK (aX dD (pv 1) aN (bD _)) (aJ (aV (aS (dI (aK (aL aO (aL (pv 2) (aL (nomatch 158,dL,0) aC)))))))) aU) (aB (bK (aX dD (pv 1) aN (bD _)) (aJ (aV (aS (dI (aK (aL aO (aL (pv 2) aC))))))) aU) (aB (bK (aX dD (pv 1) aN (bD _)) (aB (bA (i:=4) sc_law_row.nd rfl (Or.inl rfl) (aS (bM qH rfl B.tuple PyProof.Rows.boot_tuple (aK (aL (eH ["_law_k","_law_state"] [none,some 0] rfl (by kernel_rfl) ↑258 (fun cl C s H fp=>⟨(nomatch 166,0,"_law_k","_law_state"),gC,(dI (aK (aL (nomatch 167,dL) (aL (nomatch 167,dL) aC))))⟩)) aC)))) (by kernel_rfl)) (aJ (aV (aS (dI (aK (aL aO (aL (pv 2) (aL (pv 3) (aL (gB dO (mK (aK (aL aO (aL aO aC)))) ↑147 (fun _ _=>rfl)) (aL (nomatch 158,lD,0) (aL (pv 4) aC)))))))))))) aU) (aJ (aV (aS (dI (aK (aL aO (aL (pv 2) (aL (gB dO (mK (aK ↑182)) ↑147 (fun _ _=>rfl)) aC)))))))))))))))))),?_⟩
 nofun
 refine ⟨wl,rfl,W,fun m H1 hm W1 B1=>?_⟩
 nofun
 exists 118,W1,nm,H2,gn,W2,D2,B2,B1.trans
 rcases (by omega:k=0\/k=1\/k=2\/k=3\/k=4\/k=5\/k=6\/k=7) with rfl | rfl | rfl | rfl | rfl | rfl | rfl | rfl
 ·-- 0
  exists 37
  nofun
  exists 118,W2,z,H3,hz,W3,D3,B3,B2.trans
  obtain ⟨Wz,okz,rfl⟩:=hz
  exists 11,pt,hpt
  exact q _ _ _ ⟨pt,rfl,aA⟩ ⟨_,.wish hm gn okz⟩ (W3.same (aH hpt _)) (B3.trans ↑188)
 ·-- 1
  exists 2
  exists 37
  nofun
  exists 118,W2,n2,H3,hn2,W3,D3,B3,B2.trans
  refine ⟨wl,rfl,W3,fun x H4 x0 x1 W4 D4=>?_⟩
  have B4:=B3.trans D4
  nofun
  exists 11,pt,hpt
  exact q _ _ _ ⟨pt,rfl,aA⟩ ⟨_,.happen hm gn hn2 ⟨x0,x1⟩⟩ (W4.same (aH hpt _)) (B4.trans ↑188)
 ·-- 2
  exists 2
  exists 2
  exists 37
  exists 69
  exists 11,pt,hpt
  exact q _ _ _ ⟨pt,rfl,aA⟩ ⟨_,.take hm gn ⟨x0,x1⟩⟩ (W3.same (aH hpt _)) (B3.trans ↑188)
 ·-- 3
  exists 126,37,69
  exists 118,W3,m2,H4,hm2,W4,D4,B4,B3.trans
  exists 11,pt,hpt
  exact q _ _ _ ⟨pt,rfl,aA⟩ ⟨_,.later hm gn ⟨x0,x1⟩ hm2⟩ (W4.same (aH hpt _)) (B4.trans ↑188)
 ·-- 4
  exists 126,2,37
  exists 69
  exists 11,pt,hpt
  exact q _ _ _ ⟨pt,rfl,aA⟩ ⟨_,.back hm ⟨x0,x1⟩⟩ (W3.same (aH hpt _)) (B3.trans ↑188)
 ·-- 5
  exists 126,2,2
  exists 37
  nofun
  exists 11,pt,hpt
  exact q _ _ _ ⟨pt,rfl,aA⟩ ⟨_,.go hm⟩ (W2.same (aH hpt _)) (B2.trans ↑188)
 ·-- 6
  exists 126,2,2
  exists 2
  exists 37
  nofun
  exists 9,W2,r3,H3,a3,b3,W3,B3
  nofun
  refine ⟨by omega,by omega,?_⟩
  refine CompR.by (fun i acc σ H'=>∃ l:List (Int × Int),All2 (StAt H') l acc/\l.length=i/\(∀ x∈l,sS x)/\(∃ v,σ=[v,some (.ref wl)])/\Well3 H' wl/\But wl H3 H') (sz8 (by omega)) ⟨[],.nil,rfl,(fun x hx=>by cases hx),⟨_,rfl⟩,W3,But.refl _ _⟩ ?_ ?_ ?_
  ·rintro i acc σ H' hi ⟨l,hA,hl,hn,⟨v,rfl⟩,W4,B4⟩
   nofun
   refine ⟨wl,rfl,W4,fun n1 H5 c0 c1 W5 B5=>?_⟩
   refine ⟨wl,rfl,W5,fun n2 H6 d0 d1 W6 B6=>?_⟩
   exists 11,ps,hps
   have S7:=aH hps (.tup [.int n1,.int n2])
   have A7:All2 (StAt (upd H6 ps (.tup [.int n1,.int n2]))) (l++[(n1,n2)]) (acc++[.ref ps]):=(hA.imp fun _ _ _ z=>(z.well W4 (B5.trans B6)).same S7).snoc ⟨ps,rfl,aA⟩
   have n7:∀ x∈l++[(n1,n2)],sS x:=fun x hx=>by
    exists 65,hx,hx
    ·exact hn x hx
    ·rw [List.mem_singleton.mp hx]; exact ⟨⟨c0,c1⟩,d0,d1⟩
   have l7:(l++[(n1,n2)]).length=i+1:=by rw [List.length_append,hl]; rfl
   first | exact ⟨_,A7,l7,n7,⟨_,rfl⟩,W6.same S7,B4.trans (B5.trans (B6.trans (Same.but S7)))⟩ | exact ⟨_,A7,l7,n7,W6.same S7,B4.trans (B5.trans (B6.trans (Same.but S7)))⟩
  ·rintro i acc σ H' ⟨l,hA,hl,_⟩
   rw [<- hA.len]
   omega
  ·rintro acc σ H4 ⟨l,hA,hl,hn,⟨v,rfl⟩,W4,B4⟩ D hD
   exists 56,S5,hD,.lst,acc,e5,H4,D,A5,l,hA.imp
   have W5:=W4.same S5
   generalize upd H4 D (.lst acc)=H5 at *
   refine ⟨D,rfl,_,.inl ⟨SqL.of e5,fun tp htp=>?_⟩⟩
   exists 56,S6,htp,.tup,acc,e6,H5,tp,A6,l,A5.imp
   have W6:=W5.same S6
   generalize upd H5 tp (.tup acc)=H6 at *
   have B6:But wl H H6:=B2.trans (B3.trans (B4.trans ((Same.but S5).trans (Same.but S6))))
   exists 11,pb,hpb
   exists 82,S7,hpb,.lst,e7,H6,pb
   have n7:=W6.ne hpb
   have W7:=W6.same S7
   have e67:=S7 _ _ e6
   have A7:=A6.imp fun _ _ _ z=>StAt.same z S7
   generalize upd H6 pb (.lst [.str "bell",.str "off"])=H7 at *
   exists 9,W7,r8,H8,a8,b8,W8,B8
   have e8:=B8 pb _ n7 e7
   obtain ⟨v8,hv8,ev8⟩:=sO (xs:=[.str "bell",.str "off"]) a8 (by simp only [List.length_cons,List.length_nil]; omega)
   refine ixl (SqL.of e8) ev8 ?_
   obtain ⟨u,rfl,hu⟩:∃ u:Str,v8=.str u/\(u="bell"\/u="off"):=by
    exists 22,hv8
    rcases hv8 with rfl | rfl
    ·exact ⟨_,rfl,.inl rfl⟩
    ·exact ⟨_,rfl,.inr rfl⟩
   refine ⟨wl,rfl,W8,fun n9 H9 h9 W9 B9=>?_⟩
   have ntw:tp≠wl:=fun z=>by
    obtain ⟨_,_,_,ew⟩:=W7
    rw [z,ew] at e67
    cases e67
   have e69:=B9 _ _ ntw (B8 _ _ ntw e67)
   have A9:=A7.imp fun _ _ _ z=>StAt.well z W7 (B8.trans B9)
   exists 11,pt,hpt
   have Sp:=aH hpt (nomatch 209,nm,u,n9,tp)
   have ln:l≠[]:=fun z=>by
    rw [z,List.length_nil] at hl
    omega
   exact q _ ⟨[.str "try",.int m,.str nm,.str u,.str n9],some l⟩ _ ⟨pt,rfl,tp,acc,aA,Sp _ _ e69,A9.imp fun _ _ _ z=>StAt.same z Sp⟩ ⟨_,.tries hm gn hu h9 ln (by omega) hn⟩ (W9.same Sp) (B6.trans ((Same.but S7).trans (B8.trans (B9.trans (Same.but Sp)))))
 ·-- 7
  exists 126,2,2
  exists 2
  exists 2
  nofun
  exists 11,p,hp
  have S3:=aH hp (nomatch 189,.lst)
  have e3:upd H2 p (nomatch 189,.lst) p=some (nomatch 189,.lst):=aA
  have n3:=W2.ne hp
  have W3:=W2.same S3
  generalize upd H2 p (nomatch 189,.lst)=H3 at *
  exists 9,W3,r4,H5,a4,b4,W5,B5
  have e5:=B5 p _ n3 e3
  obtain ⟨v,hv,ev⟩:=sO (xs:=[.str "took",.str "not",.str "perhaps"]) a4 (by simp only [List.length_cons,List.length_nil]; omega)
  refine ixl (SqL.of e5) ev ?_
  obtain ⟨u,rfl,hu⟩:∃ u:Str,v=.str u/\(u="took"\/u="not"\/u="perhaps"):=by
   exists 22,hv
   rcases hv with rfl | rfl | rfl
   ·exact ⟨_,rfl,.inl rfl⟩
   ·exact ⟨_,rfl,.inr (.inl rfl)⟩
   ·exact ⟨_,rfl,.inr (.inr rfl)⟩
  exists 11,pt,hpt
  exact q _ _ _ ⟨pt,rfl,aA⟩ ⟨_,.fin hm hu⟩ (W5.same (aH hpt _)) ((B2.trans ((Same.but S3).trans B5)).trans ↑188)
theorem AE5 {d n:Nat}(hn:0<=n)(B:Bt K mg a)(gW:CalX P w K mg base "_law_truths" ["_law_thing"] n (eI K a d))(F:Fun K "_law_truths" "_law_truths" nQ f fd):FnOk P w K mg base CX0 (n+1) f fd ["_law_thing"] (eI K a (d+1)):=by
 exists 1,AC9
 obtain ⟨v,n,hd0,rfl,hP,q⟩:=h
 refine ⟨_,(aW (aB (bK (bP (bC (BN2 (K:=K) rfl) rfl B.isinstance PyProof.Rows.boot_isinstance (aK (aL (pv 0) (aL (dI (aK (aL (eO (v:=.ty "list") rfl B.list PyProof.Rows.boot_list rfl) (aL (eO (v:=.ty "tuple") rfl B.tuple PyProof.Rows.boot_tuple rfl) aC)))) aC))) (he:=aD _ _ _ rfl) (hpl:=aF rfl))) (aJ (aV (aS (gX (AT3 hr.units) (eH ["_law_part"] [none] rfl (by kernel_rfl) (CO1 (pv 0)) (fun cl C s H fp=>⟨(nomatch 149,"_law_part"),(BU2 (bP (kG gW (hr.mono (by omega)) (nomatch 169,kH) ↑240 (he:=aD _ _ _ rfl) (hpl:=aF rfl)))),↑155⟩)) (mK (aK aC)) (bD _))))) aU) (aJ (nomatch 269,aV,aS,0)))),?_⟩
 have one:((∃ u,v=.str u)\/∃ m,v=.int m)\/∃ (m:Nat) (p:Addr) (xs:List V),n=m+1/\v=.ref p/\(H p=some (.lst xs)\/H p=some (.tup xs))/\xs.length<=100/\∀ x∈xs,Plain m H x:=by
  cases n with
  | zero=>exact .inl hP
  | succ m =>
   rcases hP with h | h | ⟨p,xs,h⟩
   ·exact .inl (.inl h)
   ·exact .inl (.inr h)
   ·exact .inr ⟨m,p,xs,rfl,h⟩
 clear hP
 exists BN3
 exists 11,tp,htp
 have S1:=aH htp ↑208
 have e1:upd H tp ↑208 tp=some (.tup (["list","tuple"].map V.ty)):=aA
 generalize upd H tp ↑208=H1 at *
 rcases one with (⟨u,rfl⟩ | ⟨m,rfl⟩) | ⟨m,p,xs,rfl,rfl,hx,lx,hp⟩
 ·refine ⟨_,tp,_,["list","tuple"],false,rfl,e1,.inr (.inl ⟨u,rfl,rfl⟩),by kernel_rfl,?_⟩
  nofun
  exact ⟨_,_,false,rfl,.str u,by kernel_rfl,q _ S1⟩
 ·refine ⟨_,tp,_,["list","tuple"],false,rfl,e1,.inl ⟨m,rfl,rfl⟩,by kernel_rfl,?_⟩
  nofun
  exact ⟨_,_,false,rfl,.int m,by kernel_rfl,q _ S1⟩
 ·have step:∀ (i:Nat) (y:V) (H':Hp),xs[i]?=some y->Same H H'->Plain m H' y:=fun i y H' hy S=>(hp y (List.mem_of_getElem? hy)).same S
  rcases hx with hx | hx
  exists 10,.inl,SqL.of,CompL.by
  exists 10,.inr,SqT.of,CompT.by
def TxM (H:Hp)(v:V)(r:Rw)(σ:L2.St)(H':Hp):Prop:=∃ (D:Addr) (us:List Str),σ=[some v,some (.ref D)]/\Same H H'/\H' D=some (.lst (us.map V.str))/\Str.join sp1 us=r.tx/\(∀ x∈us,x.length<=3000)/\us.length<=20
theorem BZ7 {r:Rw}{ws:List Str}(h:RwOk r ws)(z:r.st=none):∃ k rest,r.as=.str k::rest/\k≠"try":=by
 cases h with
 | tries=>cases z
 | wish=>exact ⟨_,_,rfl,by decide⟩
 | happen=>exact ⟨_,_,rfl,by decide⟩
 | take=>exact ⟨_,_,rfl,by decide⟩
 | later=>exact ⟨_,_,rfl,by decide⟩
 | back=>exact ⟨_,_,rfl,by decide⟩
 | go=>exact ⟨_,_,rfl,by decide⟩
 | fin=>exact ⟨_,_,rfl,by decide⟩
theorem BZ8 {H:Hp}{v:V}{r:Rw}(hv:RwAt H v r)(z:r.st=none):(∃ p0,v=.ref p0/\H p0=some (.tup r.as))/\r.ps=r.as.map aT:=by
 obtain ⟨p0,e0,hv⟩:=hv
 rw [z] at hv
 exact ⟨⟨p0,e0,hv⟩,by unfold Rw.ps; rw [z]; exact List.append_nil _⟩
theorem AP9 (B:Bt K mg a)(F:Fun K "_law_text" "_law_text" tK f fd):FnOk P w K mg base CX0 1 f fd ["_law_line_here"] (xG K a):=by
 exists 1,sc_law_text
 obtain ⟨v,r,rfl,hv,⟨ws,ho⟩,q⟩:=h
 refine ⟨_,(aW (aB (bN (BK9 (i:=1) ["_law_part"] [none] rfl (by kernel_rfl) sc_law_text.nd rfl rfl (AR2 (pv 0)) (fun cl C s H fp=>⟨(nomatch 149,"_law_part"),gC,↑271⟩))) (pC (bK (aX dD (nomatch 174,wG) aO (bD _)) (aJ (bA (i:=1) sc_law_text.nd rfl (Or.inl rfl) (BV3 AH3 (aS (jR zY (pv 1) sM (kF (BS5 AZ2 aN)))) (aS (eH ["_law_number_here","_law_times"] [none,none] rfl (by kernel_rfl) (AR2 (gB wG (pv 0) (BS5 AZ2 aN) (fun _ _=>rfl))) (fun cl C s H fp=>⟨(CG7 (K:=K) (n:=2) rfl rfl (vN (nomatch 166,0,"_law_number_here","_law_times") (vN (nomatch 166,1,"_law_number_here","_law_times") AZ0))),gC,(bL bH (bL bH (bM bV (nomatch 169,kH) B.str PyProof.Rows.boot_str ↑240) aO) (bM bV (nomatch 169,kH) B.str PyProof.Rows.boot_str (aK (aL (pv 1 (hv:=Or.inl (by kernel_rfl))) aC))))⟩)))) (by kernel_rfl))) aU) (aJ (aV (aS (jO PySem.F.plainAttrs_str PySem.F.slot_str_join PySem.F.type_str_join mX aO (nomatch 162,1)))))))),?_⟩
 obtain ⟨b1,b2⟩:=BR6 ho
 have tok:=BR3 ho
 have at2:=(vU ho).2
 nofun
 by_cases hs:r.st=none
 ·obtain ⟨⟨p0,rfl,hp⟩,ep⟩:=BZ8 hv hs
  obtain ⟨kd,rest,ea,kne⟩:=BZ7 ho hs
  have lp:r.as.length=r.ps.length:=by rw [ep,List.length_map]
  exists 48,r.as
  ·exists 59
   have e:r.ps[i]?=some (aT y):=by rw [ep,List.getElem?_map,hy]; rfl
   have fin:(r.ps.take i).map V.str++[V.str (aT y)]=(r.ps.take (i+1)).map V.str:=by rw [List.take_succ,e,List.map_append]; rfl
   nofun
   refine ⟨_,rfl,?_⟩
   rcases at2 y (List.mem_of_getElem? hy) with ⟨u,rfl,_⟩ | ⟨n,rfl,hn⟩
   ·refine .inr (.inl ⟨u,rfl,?_⟩)
    first | exact ⟨fin,⟨_,rfl⟩,S1⟩ | exact ⟨fin,S1⟩
   ·refine .inl ⟨n,rfl,AU5 hn,?_⟩
    first | exact ⟨fin,⟨_,rfl⟩,S1⟩ | exact ⟨fin,S1⟩
  exists 57
  ·exists 64
   rw [lp,List.take_length]
   have S2:=aH hD (.lst (r.ps.map V.str))
   refine ⟨TxM H (.ref p0) r,?_,?_⟩
   ·refine ixt (SqT.of (S2 _ _ (S1 _ _ hp))) (v:=.str kd) (by rw [ea]; exact (show atI (V.str kd::rest) ((0:Nat):Int)=some (V.str kd) from wF rfl)) ?_
    refine ⟨rfl,?_⟩
    rw [if_neg (fun z=>kne (V.str.inj z))]
    exact ⟨D,r.ps,rfl,S1.trans S2,aA,rfl,b2,by omega⟩
   exists 58
 ·exists 115,ho,hoo
  ·obtain ⟨p0,rfl,q0,qs,hp,hq,hA⟩:=hv
   have lq:=hA.len
   have hp':H p0=some (nomatch 209,h,d,o,q0):=hp
   have dl:d.length<=3000:=by rcases hd with rfl | rfl <;> decide
   first | refine ⟨p0,rfl,⟨_,SqT.of hp'⟩,?_⟩ | refine ⟨⟨_,SqT.of hp'⟩,?_⟩
   refine CompT.by (xs:=[.str "try",.int m,.str h,.str d,.str o,.ref q0]) (fun i acc σ H'=>((i<=5/\acc=([("try":Str),bB m,h,d,o].take i).map V.str)\/(i=6/\∃ w:Str,acc=(↑175).map V.str))/\(∃ v,σ=[v])/\Same H H') (sz8 (show 6<=1000 by decide)) ⟨.inl ⟨by decide,rfl⟩,⟨_,rfl⟩,fun _ _ z=>z⟩ (fun i acc σ H' _ h=>SqT.of (h.2.2 _ _ hp')) ?_ ?_ ?_
   ·rintro i y acc σ H' hy ⟨hacc,⟨v,rfl⟩,S1⟩
    nofun
    refine ⟨_,rfl,?_⟩
    have il:i < 6:=(List.getElem?_eq_some_iff.mp hy).1
    have hacc:acc=([("try":Str),bB m,h,d,o].take i).map V.str:=by
     rcases hacc with ⟨_,e⟩ | ⟨z,_⟩
     ·exact e
     ·omega
    subst hacc
    rcases (by omega:i=0\/i=1\/i=2\/i=3\/i=4\/i=5) with rfl | rfl | rfl | rfl | rfl | rfl
    exists 62
    ·cases hy
     exact .inl ⟨_,rfl,AU5 hm,.inl ⟨by decide,rfl⟩,S1⟩
    exists 62
    exists 62
    exists 62
    ·cases hy
     have sh:=BG3 l3
     refine .inr (.inr ⟨q0,l.map stD,rfl,.tup (S1 _ _ hq) (BX9 (hA.imp fun _ _ _ z=>z.same S1)),sh.1,sh.2,BY1,szM (by have:=BY0 l3 l2; omega),fun u=>?_⟩)
     exact ⟨.inr ⟨rfl,u,rfl⟩,S1⟩
   ·rintro i acc σ H' ⟨h1 | ⟨h1,w,rfl⟩,_,_⟩
    ·rw [h1.2,List.length_map,List.length_take]; omega
    ·rw [h1]; exact Nat.le_refl _
   ·rintro acc σ H1 ⟨hacc,⟨v,rfl⟩,S1⟩ D hD
    obtain ⟨w,rfl⟩:∃ w:Str,acc=(↑175).map V.str:=by
     rcases hacc with ⟨z,_⟩ | ⟨_,z⟩
     ·exact absurd (show 6<=5 from z) (by decide)
     ·exact z
    have S2:=aH hD ↑247
    have e2:upd H1 D ↑247 D=some ↑247:=aA
    have SS:=S1.trans S2
    generalize upd H1 D ↑247=H2 at *
    refine ⟨TxM H (.ref p0) ⟨[.str "try",.int m,.str h,.str d,.str o],some l⟩,?_,?_⟩
    ·refine ixt (SqT.of (SS _ _ hp')) (v:=.str "try") rfl ?_
     refine ⟨rfl,?_⟩
     rw [if_pos rfl]
     refine ⟨D,_,rfl,SqL.of e2,fun p3 hp3=>?_⟩
     have ec:AY4 ((↑175).map V.str) none (some (-1))=[("try":Str),bB m,h,d,o].map V.str:=rfl
     rw [ec]
     have S3:=aH hp3 ↑187
     have e3:upd H2 p3 ↑187 p3=some ↑187:=aA
     have S13:=SS.trans S3
     generalize upd H2 p3 ↑187=H3 at *
     refine ixt (SqT.of (S13 _ _ hp')) (v:=.ref q0) rfl ?_
     refine ⟨q0,rfl,⟨qs,SqT.of (S13 _ _ hq)⟩,?_⟩
     refine CompT.by (xs:=qs) (fun i acc σ H'=>acc=((l.take i).map stW).map V.str/\(∃ v1 v2,σ=[v1,v2])/\Same H3 H') (sz8 (by omega)) ⟨rfl,⟨_,_,rfl⟩,fun _ _ z=>z⟩ (fun i acc σ H' _ h=>SqT.of (h.2.2 _ _ (S13 _ _ hq))) ?_ ?_ ?_
     ·rintro i y acc σ H' hy ⟨rfl,⟨v1,v2,rfl⟩,S4⟩
      exists 47,ex,hsx,l3
      refine ⟨_,SqT.of (S4 _ _ (S13 _ _ hsx)),rfl,x.1,rfl,jU hx.1.1 hx.1.2,szM (show (bB x.1).length+1<=1000000 by omega),x.2,rfl,jU hx.2.1 hx.2.2,szM ?_,ea,S4⟩
      exists 81
     exists 38
     ·rintro acc σ H' ⟨rfl,⟨v1,v2,rfl⟩,S4⟩ D2 hD2
      rw [<- lq,List.take_length]
      have S5:=aH hD2 (.lst ((l.map stW).map V.str))
      refine ⟨p3,D2,_,_,rfl,rfl,S5 _ _ (S4 _ _ e3),aA,szM ?_,fun p6 h6=>?_⟩
      ·rw [List.length_map,List.length_map,List.length_map]; simp only [List.length_cons,List.length_nil]; omega
      ·refine ⟨p6,[("try":Str),bB m,h,d,o]++l.map stW,rfl,S13.trans (S4.trans (S5.trans (aH h6 _))),by rw [List.map_append]; exact aA,?_,fun x hx=>?_,?_⟩
       ·rw [tok.2.2.2,e]
        rfl
       ·have:=(tok.1 x (by rw [e]; exact hx)).2.2.1
        omega
       ·rw [List.length_append,List.length_map]; simp only [List.length_cons,List.length_nil]; omega
    exists 58
  ·exact absurd rfl hs
  ·exact absurd z hs
theorem CH9 {m1 m2 r:Int}(h1:0<=m1/\m1<=59)(h2:0<=m2/\m2<=1439)(r0:0<=r)(r1:r < 6) :
  ∃ u,atI [V.str "now",.str "now",.str "now",.str ("hour "++bB m1),.str ("day "++bB m2),.str "never"] r=some (.str u) /\
   (u="never"\/(u≠"never"/\∃ (k:Nat) (m:Int),k<=2/\u=Str.join sp1 (wWs k m)/\0<=m/\m<=1439/\(k=1->m<=59)/\(k=0->m=0)/\u.length<=20)):=by
 have c:r=0\/r=1\/r=2\/r=3\/r=4\/r=5:=by omega
 have w0:("now":Str)=Str.join sp1 (wWs 0 0):=by decide +kernel
 have n0:("now":Str)≠"never":=by decide
 rcases c with rfl | rfl | rfl | rfl | rfl | rfl
 ·exact ⟨_,rfl,.inr ⟨n0,0,0,by omega,w0,by omega,by omega,by omega,by omega,by decide⟩⟩
 ·exact ⟨_,rfl,.inr ⟨n0,0,0,by omega,w0,by omega,by omega,by omega,by omega,by decide⟩⟩
 ·exact ⟨_,rfl,.inr ⟨n0,0,0,by omega,w0,by omega,by omega,by omega,by omega,by decide⟩⟩
 ·refine ⟨_,rfl,.inr ⟨fun z=>?_,1,m1,by omega,?_,by omega,by omega,by omega,by omega,by rw [Str.length_append]; have:=fB h1.1 (show m1 < 1000000 by omega); exact Nat.le_trans (Nat.add_le_add_left this _) (by decide)⟩⟩
  ·have z:=congrArg (fun s:Str=>s.cps.toList.head?) z
   simp only [cK,List.head?_append] at z
   exact absurd z (show ¬ ((some _:Option _).or _=some _) from by simp only [Option.some_or]; decide)
  ·refine dU ?_
   show _=(("hour":Str)++sp1++bB m1).cps.toList
   simp only [cK,List.append_assoc]
   rfl
 ·refine ⟨_,rfl,.inr ⟨fun z=>?_,2,m2,by omega,?_,by omega,by omega,by omega,by omega,by rw [Str.length_append]; have:=fB h2.1 (show m2 < 1000000 by omega); exact Nat.le_trans (Nat.add_le_add_left this _) (by decide)⟩⟩
  ·have z:=congrArg (fun s:Str=>s.cps.toList.head?) z
   simp only [cK,List.head?_append] at z
   exact absurd z (show ¬ ((some _:Option _).or _=some _) from by simp only [Option.some_or]; decide)
  ·refine dU ?_
   show _=(("day":Str)++sp1++bB m2).cps.toList
   simp only [cK,List.append_assoc]
   rfl
 ·exact ⟨_,rfl,.inl rfl⟩
theorem BO0:(⟨3,0,[],false,none⟩:Ln).ok where
 k:=by decide
 m:=⟨by decide,by decide,fun _=>by decide,fun _=>rfl⟩
 r:=⟨fun u hu=>absurd hu (by simp),List.nodup_nil,by decide⟩
 n:=fun z=>absurd rfl z
 v:=fun _=>⟨rfl,rfl,rfl⟩
 a:=fun x hx=>(nomatch hx)
theorem CI0 {k:Nat}{m:Int}{rs:List Str}(hk:k<=2)(m0:0<=m)(m9:m<=1439)(k1:k=1->m<=59)(k0:k=0->m=0)(gg:∀ x∈rs,aZ x)(gd:rs.Nodup)(gl:rs.length<=4)(gn:rs≠[]):(⟨k,m,rs,false,none⟩:Ln).ok where
 k:=Nat.le_trans hk (by decide)
 m:=⟨m0,m9,k1,fun z=>z.elim k0 (fun z=>absurd (show k=3 from z) (by omega))⟩
 r:=⟨gg,gd,gl⟩
 n:=fun _=>gn
 v:=fun z=>absurd (show k=3 from z) (by omega)
 a:=fun x hx=>(nomatch hx)
theorem BR7 {L:Ln}(h:L.ok)(h3:L.k≠3){su:Bool}{o:Option ↑202}(ho:∀ x,o=some x->1<=x.1/\x.1 < 1000000/\0<=x.2.1/\x.2.1 < 1000000/\∀ u,x.2.2=some u->aZ u):(⟨L.k,L.m,L.rs,su,o⟩:Ln).ok where
 k:=h.k
 m:=h.m
 r:=h.r
 n:=h.n
 v:=fun z=>absurd z h3
 a:=ho
theorem BZ9 {t:Tr}{k:Nat}{m:Int}{rs:List Str}(hk:k<=2):t.ws++((":":Str)::(wWs k m++(("by":Str)::bB rs.length::rs)))=t.ws++(⟨k,m,rs,false,none⟩:Ln).ws:=by
 show _=t.ws++((":":Str)::(wWs k m++((if k=3 then [] else ("by":Str)::bB rs.length::rs)++([]++[]))))
 rw [if_neg (by omega),List.append_nil,List.append_nil]
theorem CA0 {t:Tr}{L:Ln}(h0:L.ra=none)(h1:L.su=false):(t.ws++L.ws)++[("sure":Str)]=t.ws++(⟨L.k,L.m,L.rs,true,none⟩:Ln).ws:=by
 obtain ⟨k,m,rs,su,ra⟩:=L
 cases h0
 cases h1
 unfold Ln.ws
 simp only [List.append_assoc,List.cons_append,AY5,List.append_nil,List.nil_append,if_true,Bool.false_eq_true,if_false]
theorem BO1 {t:Tr}{L:Ln}{x y:Int}(h0:L.ra=none):(t.ws++L.ws)++[("raise":Str),bB x,bB y]=t.ws++(⟨L.k,L.m,L.rs,L.su,some (x,y,none)⟩:Ln).ws:=by
 obtain ⟨k,m,rs,su,ra⟩:=L
 cases h0
 exists 90
theorem CO5 {t:Tr}{L:Ln}{x y:Int}{u:Str}:(t.ws++(⟨L.k,L.m,L.rs,L.su,some (x,y,none)⟩:Ln).ws)++[u]=t.ws++(⟨L.k,L.m,L.rs,L.su,some (x,y,some u)⟩:Ln).ws:=by
 exists 90
def LvS (H:Hp)(wl pw:Addr)(u g:Str)(n:Int)(σ:L2.St)(H':Hp):Prop:=∃ (t:Tr) (L:Ln),σ=[some (.ref wl),some (.ref pw),some (.str u),some (.str g),some (.int n),some (.str ↑199),none]/\t.wf/\t.ws.length<=20/\L.ok/\L.k≠3/\L.ra=none/\Well3 H' wl/\But wl H H'
def LvR (H:Hp)(wl pw:Addr)(u g:Str)(n:Int)(σ:L2.St)(H':Hp):Prop:=∃ (t:Tr) (L:Ln) (x:Option V),σ=[some (.ref wl),some (.ref pw),some (.str u),some (.str g),some (.int n),some (.str ↑199),x]/\t.wf/\t.ws.length<=20/\L.ok/\Well3 H' wl/\But wl H H'
theorem CA1 {t:Tr}{L:Ln}(h:t.wf)(hl:t.ws.length<=20)(ho:L.ok):(↑199).length<=30000:=by
 obtain ⟨tk,tl,_⟩:=CG0 h ho (by omega)
 exact wP (fun x hx=>(tk x hx).2.2.1) (by omega)
theorem BO2 {t:Tr}{L:Ln}:t.ws++L.ws≠[]:=fun z=>AT9 t (List.append_eq_nil_iff.mp z).1
theorem CA2 {r:Int}(a:0<=r)(b:r < 4):∃ u,atI [V.str "",.str " ann",.str " bo",.str " boss"] r=some (.str u)/\u.length<=10/\(u=""\/∃ v,aZ v/\u=sp1++v):=by
 have c:r=0\/r=1\/r=2\/r=3:=by omega
 rcases c with rfl | rfl | rfl | rfl
 ·exact ⟨_,rfl,by decide,.inl rfl⟩
 exists 80,"ann"
 exists 80,"bo"
 exists 80,"boss"
theorem AQ0 (B:Bt K mg a)(aP:CalX P w K mg base "_law_next" ["_law_state","_law_base"] 1 (dC K a))(rY:CalX P w K mg base "_law_fit" ["_law_state"] 2 (zR K a))(F:Fun K "_law_line" "_law_line" tJ f fd):FnOk P w K mg base CX0 3 f fd ["_law_state"] (xF K a):=by
 exists 132,sc_law_line,wl,W
 refine ⟨_,(aW (bG (aB (bA (i:=1) sc_law_line.nd rfl (Or.inl rfl) (iW (aL aO (aL aO (aL aO (aL (bL bH aO ↑229) (aL (bL bH aO ↑229) (aL aO aC))))))) (by kernel_rfl)) (bG (aB (bA (i:=2) sc_law_line.nd rfl (Or.inl rfl) ↑263 (by kernel_rfl)) (bG (aB (bK (nomatch 173,2) (bG (aJ (aV (aS (bL bH (nomatch 158,rY,0) aO))))) aU) (bG (aB (bA (i:=3) sc_law_line.nd rfl (Or.inl rfl) (BV4 dO (iW (aL aO (aL aO ↑182))) (aS ↑147) (fun _ _=>rfl)) (by kernel_rfl)) (bG (aB (bA (i:=4) sc_law_line.nd rfl (Or.inl rfl) (aS (bC AR4 rfl B.len PySem.boot_len (aK (aL (nomatch 172,3) aC)))) (by kernel_rfl)) (bG (aB (bA (i:=5) sc_law_line.nd rfl (Or.inl rfl) (aS (bL bH (bL bH (bL bH (bL bH (bL bH (bL bH (nomatch 158,rY,0) aO) (pv 2)) aO) (nomatch 268,4)) aO) (pv 3))) (by kernel_rfl)) (bG (pC (bK ↑245 (bG (aJ (bA (i:=5) sc_law_line.nd rfl (Or.inl rfl) (aS (bL bH (pv 5) aO)) (by kernel_rfl)))) aU) (bG (pC (bK ↑245 (bG (aB (bA (i:=6) sc_law_line.nd rfl (Or.inl rfl) (aS (bL jP aN ↑147)) (by kernel_rfl)) (bG (aB (bA (i:=5) sc_law_line.nd rfl (Or.inl rfl) (aS (bL bH (bL bH (bL bH (bL bH (pv 5) aO) (nomatch 268,6)) aO) ↑229)) (by kernel_rfl)) (bG (aJ (bA (i:=5) sc_law_line.nd rfl (Or.inl rfl) (aS (bL bH (pv 5) (gB dO (mK (aK (aL aO ↑182))) ↑147 (fun _ _=>rfl)))) (by kernel_rfl)))))))) aU) (bG (nomatch 194,5))))))))))))))))))),?_⟩
 nofun
 exists 52
 have LL:∀ n,n<=40000->n<=sizeLine:=fun n h=>by rw [sizeLine_eq]; omega
 exists 9,W,m1,H1,a1,b1,W1,B1
 have lm1:=fB a1 (show m1 < 1000000 by omega)
 refine ⟨m1,rfl,jU a1 (by omega),sz8 (show 5+(bB m1).length<=1000 by omega),?_⟩
 exists 134,m2
 have lm2:=fB a2 (show m2 < 1000000 by omega)
 refine ⟨m2,rfl,jU a2 (by omega),sz8 (show 4+(bB m2).length<=1000 by omega),sz8 (by decide),fun pw h2=>?_⟩
 have S3:=aH h2 ↑156
 have e3:upd H2 pw ↑156 pw=some ↑156:=aA
 have n3:=W2.ne h2
 have W3:=W2.same S3
 have B3:=B1.trans (B2.trans (Same.but S3))
 generalize upd H2 pw ↑156=H3 at *
 clear B1 B2 S3 h2 W1 W2
 exists 52
 exists 9,W3,r4,H4,a4,b4,W4,B4
 have e4:=B4 pw _ n3 e3
 obtain ⟨u,hu,cu⟩:=CH9 ⟨a1,by omega⟩ ⟨a2,by omega⟩ a4 b4
 refine ixl (SqL.of e4) hu ?_
 have B4:=B3.trans B4
 clear B3 W3 e3 n3 e4 hu
 exists 52
 rcases cu with rfl | ⟨un,k,m,hk,eu,m0,m9,k1,k0,lu⟩
 ·rw [if_pos rfl]
  first | refine jX ?_ | (dsimp only; refine jX ?_)
  nofun
  refine ⟨wl,rfl,W4,fun t H5 t1 t2 W5 B5=>?_⟩
  have lt:=wP (fun x hx=>(wO t1 x hx).2.2.1) (show t.ws.length<=1000 by omega)
  exists 125,lt
  rw [AW6 rfl (AT9 t)]
  exact q t ⟨3,0,[],false,none⟩ H5 t1 t2 BO0 W5 (B4.trans B5)
 rw [if_neg un]
 exists 52
 exists 11,pr,h5
 have S5:=aH h5 ↑201
 have e5:upd H4 pr ↑201 pr=some ↑201:=aA
 have n5:=W4.ne h5
 exists 86,W5,W4.same,S5,B5,B4.trans
 have eR:roadT.map V.str=[.str "mail",.str "pager mail",.str "pager",.str "mail horn",.str "horn pager mail"]:=rfl
 rw [<- eR]
 generalize upd H4 pr ↑201=H5 at *
 clear S5 h5 B4 W4
 exists 9,W5,r6,H6,a6,b6,W6,B6
 obtain ⟨v,hv,ev⟩:=sO (xs:=roadT.map V.str) a6 b6
 refine ixl (SqL.of (B6 pr _ n5 e5)) ev ?_
 have B6:=B5.trans B6
 exists 104,g,hg,hv
 obtain ⟨rs,eg,es,gg,gd,gl,gn,glen⟩:=BY2 g hg
 clear B5 W5 e5 n5 ev hv hg
 exists 52
 have es:Txt.split g (Str.ofString " ")=rs:=es
 refine ⟨rfl,sz8 (by omega),sz8 (by rw [es]; omega),fun l hl=>⟨_,.inl ⟨_,SqL.of aA,rfl⟩,?_⟩⟩
 rw [List.length_map,es]
 have S7:=aH hl (.lst (rs.map V.str))
 exists 86,W7,W6.same,S7,B7,B6.trans
 generalize upd H6 l (.lst (rs.map V.str))=H7 at *
 clear S7 hl B6 W6
 exists 52
 refine ⟨wl,rfl,W7,fun t H8 t1 t2 W8 B8=>?_⟩
 have lt:=wP (fun x hx=>(wO t1 x hx).2.2.1) (show t.ws.length<=1000 by omega)
 have lm:(Str.ofString ↑213).length<=6:=fB (by omega) (by omega)
 exists 72,x1," : ",3
 exists 72,x2," by ",4
 exists 72,x3," ",1
 refine ⟨LL _ ?_,LL _ ?_,LL _ ?_,jU (by omega) (by omega),LL _ ?_,LL _ ?_,LL _ ?_,?_⟩
 iterate 6
  ·try simp only [Str.length_append]
   omega
 rw [BG4 (n:=Str.ofString ↑213) rfl eu eg (AT9 t) (by unfold wWs; (repeat' split) <;> simp) gn]
 have eL:=BZ9 (t:=t) (k:=k) (m:=m) (rs:=rs) hk
 have eM:t.ws++(Str.ofString ":"::(wWs k m++(Str.ofString "by"::Str.ofString ↑213::rs)))=_:=eL
 rw [eM]
 have hL:=CI0 hk m0 m9 k1 k0 gg gd gl gn
 have h3:(⟨k,m,rs,false,none⟩:Ln).k≠3:=by show k≠3; omega
 have h0:(⟨k,m,rs,false,none⟩:Ln).ra=none:=rfl
 have hs:(⟨k,m,rs,false,none⟩:Ln).su=false:=rfl
 generalize (⟨k,m,rs,false,none⟩:Ln)=L at *
 have B8:=B7.trans B8
 have lj:=CA1 t1 t2 hL
 clear eL eM x1 x2 x3 B7 W7
 exists 52
 refine ⟨LvS H wl pw u g rs.length,?_,?_⟩
 ·exists 9,W8,r9,H9,a9,b9,W9,B9
  try nofun
  by_cases c:r9=0
  ·rw [if_pos c]
   walk_at "ho"
   nofun
   exists 125,lj
   have eS:=BN1 (BO2 (t:=t) (L:=L))
   rw [CA0 (t:=t) h0 hs] at eS
   rw [eS]
   exact ⟨t,_,rfl,t1,t2,BR7 hL h3 (fun x hx=>(nomatch hx)),h3,rfl,W9,B8.trans B9⟩
  ·rw [if_neg c]
   exact ⟨t,L,rfl,t1,t2,hL,h3,h0,W9,B8.trans B9⟩
 clear hL h3 h0 hs lj lt t1 t2 W8 B8
 clear L t
 rintro σ' H9 ⟨t,L,rfl,t1,t2,hL,h3,h0,W9,B9⟩
 have lj:=CA1 t1 t2 hL
 nofun
 exists 52
 refine ⟨LvR H wl pw u g rs.length,?_,?_⟩
 ·exists 9,W9,r,H10,a10,b10,W10,B10
  try nofun
  have B10:=B9.trans B10
  by_cases c:r=0
  ·rw [if_pos c]
   walk_at "ho"
   simp only [BK3,BK4,CJ3,w_c,AR9,BK6,AR8,BK7,BK5,CJ2,AA1,List.getElem?_cons_zero,List.cons_append,List.nil_append,List.append_nil]
   exists 9,W10,n1,H11,a11,b11,W11,B11
   simp only [CA9,List.set_cons_zero,List.set_cons_succ]
   have B11:=B10.trans B11
   exists 52
   exists 72,x1," raise ",7
   exists 72,x2," ",1
   have lm:(Str.ofString (toString (1+n1))).length<=6:=fB (by omega) (by omega)
   refine ⟨LL _ ?_,jU (by omega) (by omega),LL _ ?_,LL _ ?_,?_⟩
   iterate 3
    ·try simp only [Str.length_append]
     omega
   exists 9,W11,n2,H12,a12,b12,W12,B12
   have B12:=B11.trans B12
   have l2:(Str.ofString (toString n2)).length<=6:=fB (by omega) (by omega)
   refine ⟨n2,rfl,jU a12 (by omega),LL _ ?_,?_⟩
   ·simp only [Str.length_append]
    omega
   have eL:=BO1 (t:=t) (x:=1+n1) (y:=n2) h0
   have eM:(t.ws++L.ws)++[Str.ofString "raise",Str.ofString (toString (1+n1)),Str.ofString (toString n2)]=_:=eL
   have eR:=BG5 (a:=Str.ofString (toString (1+n1))) (b:=Str.ofString (toString n2)) (BO2 (t:=t) (L:=L))
   rw [eM] at eR
   rw [eR]
   have hok:∀ o:Option Str,(∀ u,o=some u->aZ u)->(⟨L.k,L.m,L.rs,L.su,some (1+n1,n2,o)⟩:Ln).ok:=fun o ho=>BR7 hL h3 (fun x hx=>by
    cases hx
    exact ⟨by show 1<=1+n1; omega,by show 1+n1 < 1000000; omega,a12,by show n2 < 1000000; omega,ho⟩)
   have lk:=CA1 t1 t2 (hok none (fun u hu=>(nomatch hu)))
   clear eL eM B11 W11 B10 W10 x1 x2
   exists 52
   exists 11,pq,hq
   have S13:=aH hq ↑179
   have e13:upd H12 pq ↑179 pq=some ↑179:=aA
   have n13:=W12.ne hq
   exists 86,W13,W12.same,S13,B13,B12.trans
   generalize upd H12 pq ↑179=H13 at *
   exists 9,W13,r4,H14,a14,b14,W14,B14
   obtain ⟨v,hv,lv,cv⟩:=CA2 a14 b14
   refine ixl (SqL.of (B14 pq _ n13 e13)) hv ?_
   refine ⟨LL _ (by omega),?_⟩
   have B14:=B13.trans B14
   rcases cv with rfl | ⟨v,gv,rfl⟩
   ·have e:∀ z:Str,z++Str.ofString ""=z:=fun z=>dU (by simp only [cK]; exact List.append_nil _)
    rw [e]
    exact ⟨t,_,_,rfl,t1,t2,hok none (fun u hu=>(nomatch hu)),W14,B14⟩
   ·have eT:=CG5 (u:=v) (BO2 (t:=t) (L:=⟨L.k,L.m,L.rs,L.su,some (1+n1,n2,none)⟩))
    rw [CO5] at eT
    rw [eT]
    exact ⟨t,_,_,rfl,t1,t2,hok (some v) (fun u hu=>by cases hu; exact gv),W14,B14⟩
  ·rw [if_neg c]
   exact ⟨t,L,_,rfl,t1,t2,hL,W10,B10⟩
 rintro σ' H10 ⟨t,L,x,rfl,t1,t2,hL,W10,B10⟩
 exists 88
 exact q t L H10 t1 t2 hL W10 B10
def smW:List (List Str)->List Str
 | []=>[]
 | a::l=>(";":Str)::(a++smW l)
theorem AU8:∀ {l:List (List Str)}{a:List Str},a≠[]->(∀ x∈l,x≠[])->Str.join " ; " (Str.join sp1 a::l.map (Str.join sp1))=Str.join sp1 (a++smW l)
 | [],a,_,_=>by
  show Str.join sp1 a=Str.join sp1 (a++[])
  rw [List.append_nil]
 | b::l,a,ha,hl=>by
  have ih:=AU8 (l:=l) (a:=b) (hl b List.mem_cons_self) (fun x hx=>hl x (nomatch 210,hx))
  have hb:b++smW l≠[]:=fun z=>hl b List.mem_cons_self (List.append_eq_nil_iff.mp z).1
  show Str.join sp1 a++" ; "++Str.join " ; " (Str.join sp1 b::l.map (Str.join sp1))=Str.join sp1 (a++([(";":Str)]++(b++smW l)))
  rw [ih,jn ha (by simp),jn (by simp) hb]
  refine dU ?_
  show _=(Str.join sp1 a++(sp1++((";":Str)++(sp1++Str.join sp1 (b++smW l))))).cps.toList
  exists 100
def qL:Option (Int × Int)->Option Int->List (List Str)
 | none,_=>[]
 | some q,k=>[("quiet":Str)::bB q.1::bB q.2::wkW k]
def lnL (ls:List (Tr × Ln)):List (List Str):=ls.map fun x=>x.1.ws++x.2.ws
theorem CI1:∀ ls:List (Tr × Ln),smW (lnL ls)=AC0 ls
 | []=>rfl
 | x::l=>by
  show (";":Str)::((x.1.ws++x.2.ws)++smW (lnL l))=(";":Str)::(x.1.ws++(x.2.ws++AC0 l))
  rw [CI1 l,List.append_assoc]
def wqT (z:Int)(q:Option (Int × Int))(k:Option Int)(ls:List (Tr × Ln)):List Str:=Str.join sp1 [("zone":Str),bB z]::(qL q k++lnL ls).map (Str.join sp1)
theorem CI2 {W:Wq}:Str.join " ; " (wqT W.z W.q W.k W.ls)=Str.join sp1 W.ws:=by
 unfold wqT
 rw [AU8 (by simp) (fun x hx=>?_)]
 ·refine congrArg (Str.join sp1) ?_
  show [("zone":Str),bB W.z]++smW (qL W.q W.k++lnL W.ls)=[("zone":Str),bB W.z]++(quW W.q W.k++AC0 W.ls)
  rw [<- CI1]
  cases W.q with
  | none=>rfl
  | some q=>rfl
 ·exists 65,hx,h
  ·cases e:W.q with
   | none=>rw [e] at h; cases h
   | some q=>rw [e] at h; rw [List.mem_singleton.mp h]; simp
  ·obtain ⟨y,_,rfl⟩:=List.mem_map.mp h
   exact BO2
theorem CI3 (z:Int):("zone ":Str)++bB z=Str.join sp1 [("zone":Str),bB z]:=by
 refine dU ?_
 show _=(("zone":Str)++sp1++bB z).cps.toList
 exists 100
theorem CA3 (x y:Int):("quiet ":Str)++bB x++" "++bB y=Str.join sp1 (("quiet":Str)::bB x::bB y::wkW none):=by
 refine dU ?_
 show _=(↑218).cps.toList
 exists 100
theorem CI4 (x y n:Int):Str.join sp1 (("quiet":Str)::bB x::bB y::wkW none)++" "++bB n=Str.join sp1 (("quiet":Str)::bB x::bB y::wkW (some n)):=by
 refine dU ?_
 show (↑218++" "++bB n).cps.toList=(("quiet":Str)++sp1++(bB x++sp1++(bB y++sp1++bB n))).cps.toList
 exists 100
theorem CA4 {W:Wq}(h:W.ok):(∀ x∈wqT W.z W.q W.k W.ls,x.length<=30000)/\(wqT W.z W.q W.k W.ls).length<=5:=by
 have e:=CI2 (W:=W)
 obtain ⟨t1,t2,t3⟩:=AI8 h
 have l:=wP (fun x hx=>(t1 x hx).2.2.1) (show W.ws.length<=1000 by omega)
 refine ⟨fun x hx=>?_,?_⟩
 ·have:=xN (s:=" ; ") hx
  rw [e] at this
  omega
 ·unfold wqT
  rw [List.length_cons,List.length_map,List.length_append]
  have q:(qL W.q W.k).length<=1:=by
   cases W.q with
   | none=>exact Nat.zero_le _
   | some q=>exact Nat.le_refl _
  have:(lnL W.ls).length=W.ls.length:=List.length_map _
  have:=h.c
  omega
def WiI (H:Hp)(wl pl:Addr)(σ:L2.St)(H':Hp):Prop:=∃ (z:Int) (q:Option (Int × Int)) (k:Option Int) (x:Option V),σ=[some (.ref wl),some (.ref pl),x]/\(⟨z,q,k,[]⟩:Wq).ok/\H' pl=some (.lst ((wqT z q k []).map V.str))/\pl≠wl/\Well3 H' wl/\But wl H H'
theorem AE6 (B:Bt K mg a)(aP:CalX P w K mg base "_law_next" ["_law_state","_law_base"] 1 (dC K a))(tX:CalX P w K mg base "_law_line" ["_law_state"] 3 (xF K a))(F:Fun K "_law_wishes" "_law_wishes" nN f fd):FnOk P w K mg base CX0 4 f fd ["_law_state"] (rG K a):=by
 exists 132,sc_law_wishes,wl,W
 refine ⟨_,(aW (bG (aB (bA (i:=1) sc_law_wishes.nd rfl (Or.inl rfl) (iW (aL (bL bH aO (bM bV rfl B.str PyProof.Rows.boot_str (aK (aL (bL oS ↑147 aN) aC)))) aC)) (by kernel_rfl)) (bG (pC (bK ↑245 (bG (aB (nomatch 250,2,sc_law_wishes.nd,147) (bG (aB (bN (bW (jO PySem.F.plainAttrs_list PySem.F.slot_list_append PySem.F.type_list_append fE (pv 1) (aK (aL (bL bH (bL bH (bL bH aO (nomatch 268,2)) aO) (bM bV rfl B.str PyProof.Rows.boot_str (aK (aL (bL qG (bL jP (bL jP (pv 2) aN) ↑147) aN) aC)))) aC))))) (bG (aJ (bK ↑245 (bG (aJ (bN (AR1 (bL bH (bL bH (gB dO (pv 1) aN (fun _ _=>rfl)) aO) ↑229) (AR0 (pv 1) aN vO))))) aU))))))) aU) (bG (aJ (aV (aS (jO PySem.F.plainAttrs_str PySem.F.slot_str_join PySem.F.type_str_join mX aO (aK (aL (bL AH3 (pv 1) (eH ["_law_k","_law_state"] [none,some 0] rfl (by kernel_rfl) (vX rfl B.range (aK (aL ↑147 aC))) (fun cl C s H fp=>⟨(nomatch 166,0,"_law_k","_law_state"),gC,(nomatch 167,tX)⟩))) aC)))))))))))),?_⟩
 nofun
 exists 52
 exists 9,W,r1,H1,a1,b1,W1,B1
 nofun
 have hz:pE (r1 - 1439):=⟨by omega,by omega⟩
 have lz:=(nB hz).2.2.1
 have ez:=CI3 (r1 - 1439)
 have okz:∀ q k,CB3 q->(∀ n,k=some n->0<=n/\n < 1000000)->(q=none->k=none)->(⟨r1 - 1439,q,k,[]⟩:Wq).ok:=fun q k h1 h2 h3=>⟨⟨by show -1439<=r1 - 1439; omega,by show r1 - 1439<=1439; omega⟩,h1,h2,h3,fun x hx=>(nomatch hx),Nat.zero_le _⟩
 refine ⟨AU5 hz,sz8 (show 5+(bB (r1 - 1439)).length<=1000 by omega),sz8 (by decide),fun pl h2=>?_⟩
 have S2:=aH h2 ↑163
 have e2:upd H1 pl ↑163 pl=some (.lst ((wqT (r1 - 1439) none none []).map V.str)):=(show upd H1 pl ↑163 pl=some ↑163 from aA).trans (congrArg (fun u=>some (HO.lst [V.str u])) ez)
 have n2:=W1.ne h2
 exists 86,W2,W1.same,S2,B2,B1.trans
 have f2:H pl=none\/pl=wl:=by
  cases e:H pl with
  | none=>exact .inl rfl
  | some o=>rw [B1 pl o n2 e] at h2; cases h2
 have f2:=f2.resolve_right n2
 have BU:∀ (H':Hp) (o:HO),But wl H H'->But wl H (upd H' pl o):=fun H' o b c u n e=>by rw [aG (fun z=>by rw [z,f2] at e; cases e)]; exact b c u n e
 generalize upd H1 pl ↑163=H2 at *
 clear S2 h2 B1 W1 ez lz
 exists 52
 refine ⟨WiI H wl pl,?_,?_⟩
 ·refine mU W2 (by decide) (by decide) fun r3 H3 a3 b3 W3 B3=>?_
  try nofun
  have B3':=B2.trans B3
  have e3:=B3 _ _ n2 e2
  by_cases c:r3=0
  ·rw [if_pos c]
   exists 52
   exists 129,W3,r4,H4,a4,b4,W4,B4,e4,e3
   have B4':=B3'.trans B4
   have l4:(Str.ofString (toString r4)).length<=6:=fB a4 (by omega)
   try nofun
   exists 52
   refine ⟨.inl ⟨rfl,_,SqL.of e4⟩,jU a4 (by omega),sz8 ?_,sz8 ?_,?_⟩
   ·exact Nat.le_trans (Nat.add_le_add_left l4 _) (by decide)
   ·rw [Str.length_append]; exact Nat.le_trans (Nat.add_le_add_right (Nat.add_le_add_left l4 _) _) (by decide)
   exists 129,W4,r5,H5,a5,b5,W5,B5,e5,e4
   have B5':=B4'.trans B5
   try nofun
   have m0:0<=(r4+1+r5) % 1440:=Int.emod_nonneg _ (by decide)
   have m1:(r4+1+r5) % 1440 < 1440:=Int.emod_lt_of_pos _ (by decide)
   have mn:r4≠(r4+1+r5) % 1440:=by omega
   have l5:(Str.ofString (toString ↑178)).length<=6:=fB m0 (by omega)
   have qo:CB3 (some (r4,(r4+1+r5) % 1440)):=⟨⟨a4,by omega⟩,⟨m0,by omega⟩,mn⟩
   have eq:=CA3 r4 ↑178
   refine ⟨by decide,jU m0 (by omega),sz8 ?_,?_⟩
   ·simp only [Str.length_append]
    exists 72,x1,"quiet ",6
    exists 72,x2," ",1
    omega
   have eq:(Str.ofString "quiet "++Str.ofString (toString r4)++Str.ofString " "++Str.ofString (toString ↑178))=_:=eq
   rw [eq]
   refine ⟨pl,_,_,rfl,rfl,e5,sz8 (show 2<=1000 by decide),?_⟩
   have e6:upd H5 pl ↑159 pl=some (.lst ((wqT (r1 - 1439) (some (r4,(r4+1+r5) % 1440)) none []).map V.str)):=aA
   have B6:=BU _ ↑159 B5'
   have W6:Well3 (upd H5 pl ↑159) wl:=by
    obtain ⟨x,y,z,e⟩:=W5
    exact ⟨x,y,z,by rw [aG (Ne.symm n2)]; exact e⟩
   generalize upd H5 pl ↑159=H6 at *
   clear e5 e4 e3 e2 B5' B4' B3' B5 B4 B3 B2 W5 W4 W3 W2 eq
   exists 52
   exists 129,W6,r7,H7,a7,b7,W7,B7,e7,e6
   have B7':=B6.trans B7
   try nofun
   by_cases c7:r7=0
   ·rw [if_pos c7]
    exists 52
    refine ixl (SqL.of e7) (v:=.str ↑160) rfl ?_
    have lq:(↑160).length<=30:=by
     show (("quiet":Str)++sp1++(bB r4++sp1++bB ↑178)).length<=30
     simp only [Str.length_append]
     have x1:("quiet":Str).length=5:=rfl
     have x2:sp1.length=1:=rfl
     have l4:(bB r4).length<=6:=l4
     have l5:(bB ↑178).length<=6:=l5
     omega
    refine ⟨sz8 (Nat.le_trans (Nat.add_le_add_right lq _) (by decide)),?_⟩
    exists 129,W7,r8,H8,a8,b8,W8,B8,e8,e7
    have B8':=B7'.trans B8
    have l8:(Str.ofString (toString r8)).length<=6:=fB a8 (by omega)
    refine ⟨r8,rfl,jU a8 (by omega),sz8 ?_,?_⟩
    ·rw [Str.length_append]
     exact Nat.le_trans (Nat.add_le_add (Nat.add_le_add_right lq _) l8) (by decide)
    refine CJ4 e8 (j:=1) rfl ?_
    have ek:Str.join sp1 (("quiet":Str)::bB r4::bB ↑178::wkW none)++Str.ofString " "++Str.ofString (toString r8)=_:=CI4 r4 ↑178 r8
    rw [ek]
    refine ⟨r1 - 1439,some (r4,(r4+1+r5) % 1440),some r8,_,rfl,okz _ _ qo (fun n hn=>by cases hn; exact ⟨a8,by omega⟩) (fun z=>by cases z),aA,n2,?_,BU _ _ B8'⟩
    obtain ⟨x,y,z,e⟩:=W8
    exact ⟨x,y,z,by rw [aG (Ne.symm n2)]; exact e⟩
   ·rw [if_neg c7]
    exact ⟨r1 - 1439,some (r4,(r4+1+r5) % 1440),none,_,rfl,okz _ _ qo (fun n hn=>(nomatch hn)) (fun z=>by cases z),e7,n2,W7,B7'⟩
  ·rw [if_neg c]
   exact ⟨r1 - 1439,none,none,_,rfl,okz _ _ trivial (fun n hn=>(nomatch hn)) (fun _=>rfl),e3,n2,W3,B3'⟩
 rintro σ' H9 ⟨z,qq,k,x,rfl,ok9,e9,n9,W9,B9⟩
 try nofun
 exists 88
 exists 9,W9,r6,H6,a6,b6,W6,B6
 have e6:=B6 _ _ n9 e9
 refine ⟨r6,rfl,by omega,by omega,?_⟩
 refine CompR.by (fun i acc σ H'=>∃ ls:List (Tr × Ln),acc=(↑198).map V.str/\ls.length=i/\(∀ x∈ls,x.1.wf/\x.1.ws.length<=20/\x.2.ok)/\(∃ v,σ=[v,some (.ref wl)])/\Well3 H' wl/\But wl H6 H') (sz8 (by omega)) ⟨[],rfl,rfl,(fun x hx=>(nomatch hx)),⟨_,rfl⟩,W6,But.refl _ _⟩ ?_ ?_ ?_
 ·rintro i acc σ H' hi ⟨ls,rfl,hl,hn,⟨v,rfl⟩,W7,B7⟩
  nofun
  refine ⟨wl,rfl,W7,fun t L H8 t1 t2 hL W8 B8=>?_⟩
  have ea:(↑198).map V.str++[V.str ↑199]=((lnL (ls++[(t,L)])).map (Str.join sp1)).map V.str:=by
   unfold lnL
   simp only [List.map_append,List.map_cons,List.map_nil]
  have hn':∀ x∈ls++[(t,L)],x.1.wf/\x.1.ws.length<=20/\x.2.ok:=fun x hx=>by
   exists 65,hx,hx
   ·exact hn x hx
   ·rw [List.mem_singleton.mp hx]; exact ⟨t1,t2,hL⟩
  have l8:(ls++[(t,L)]).length=i+1:=by rw [List.length_append,hl]; rfl
  first | exact ⟨_,ea,l8,hn',⟨_,rfl⟩,W8,B7.trans B8⟩ | exact ⟨_,ea,l8,hn',W8,B7.trans B8⟩
 ·rintro i acc σ H' ⟨ls,rfl,hl,_⟩
  unfold lnL
  simp only [List.length_map]
  omega
 ·rintro acc σ H7 ⟨ls,rfl,hl,hn,⟨v,rfl⟩,W7,B7⟩ D hD
  have okW:(⟨z,qq,k,ls⟩:Wq).ok:=⟨ok9.z,ok9.q,ok9.k,ok9.n,hn,by show ls.length<=3; omega⟩
  have e7:=B7 _ _ n9 e6
  have S8:=aH hD (.lst ((↑198).map V.str))
  obtain ⟨y1,y2⟩:=CA4 okW
  have ew:(wqT z qq k []).map V.str++(↑198).map V.str=(wqT z qq k ls).map V.str:=by
   unfold wqT lnL
   simp only [List.map_append,List.map_cons,List.map_nil,List.append_nil,List.cons_append]
  refine ⟨pl,D,_,_,rfl,rfl,S8 _ _ e7,aA,szM ?_,fun p9 h9=>?_⟩
  ·have:=congrArg List.length ew
   rw [List.length_append,List.length_map (as:=wqT z qq k ls)] at this
   rw [this]
   have y2:(wqT z qq k ls).length<=5:=y2
   omega
  rw [ew]
  refine ⟨_,p9,_,rfl,rfl,aA,nA ?_,?_⟩
  ·exact Nat.le_trans (Nat.add_le_add (Nat.le_trans (uM (k:=30000) y1) (Nat.mul_le_mul_right _ y2)) (Nat.mul_le_mul_right _ y2)) (by decide)
  rw [AJ7]
  have ej:Str.join (Str.ofString " ; ") (wqT z qq k ls)=_:=CI2 (W:=⟨z,qq,k,ls⟩)
  rw [ej]
  have S9:=aH h9 (.lst ((wqT z qq k ls).map V.str))
  exact q _ _ ⟨_,okW,rfl⟩ ((W7.same S8).same S9) (B9.trans (B6.trans (B7.trans ((Same.but S8).trans (Same.but S9)))))
theorem CO6 (ns:List Int):∃ ms:List Int,AY4 (ns.map V.int) (some 1) (some 16)=ms.map V.int/\ms.length<=15:=by
 unfold AY4
 rw [List.length_map,<- List.map_drop,<- List.map_take]
 refine ⟨_,rfl,?_⟩
 rw [List.length_take,List.length_drop]
 have a:HT.sIx ns.length 0 (some 1)=min 1 ns.length:=by unfold HT.sIx; simp
 have b:HT.sIx ns.length ns.length (some 16)=min 16 ns.length:=by unfold HT.sIx; simp
 rw [a,b]
 omega
theorem All2.drop {α β:Type}{R:α->β->Prop}:∀ {rs:List α}{vs:List β},All2 R rs vs->∀ n,All2 R (rs.drop n) (vs.drop n)
 | _,_,h,0=>h
 | _,_,.nil,_+1=>.nil
 | _,_,.cons _ hs,n+1=>All2.drop hs n
theorem All2.take {α β:Type}{R:α->β->Prop}:∀ {rs:List α}{vs:List β},All2 R rs vs->∀ n,All2 R (rs.take n) (vs.take n)
 | _,_,_,0=>.nil
 | _,_,.nil,_+1=>.nil
 | _,_,.cons h hs,n+1=>.cons h (All2.take hs n)
theorem All2.cut {R:Rw->V->Prop}{rs:List Rw}{vs:List V}(h:All2 R rs vs)(lo hi:Option Int):∃ ts,All2 R ts (AY4 vs lo hi)/\(∀ r∈ts,r∈rs)/\ts.length<=rs.length:=by
 unfold AY4
 exact ⟨_,(h.drop _).take _,fun r hr=>List.mem_of_mem_drop (List.mem_of_mem_take hr),by rw [List.length_take,List.length_drop]; omega⟩
def atD:V->PyData
 | .str u=>.str u
 | .int n=>.int n
 | _=>.none
def rwD (r:Rw):PyData:=.tuple (r.as.map atD++(match r.st with | none=>[] | some l=>[.tuple (l.map stD)]))
theorem CI5 {u:Str}(h:eN u=true):PyData.strOk u=true:=by
 unfold PyData.strOk
 rw [Array.all_eq_true']
 intro c hc
 have:=plain_iff.mp h c (by simpa using hc)
 simp only [decide_eq_true_eq]
 omega
theorem CA5 {u:Str}(h:aZ u):eN u=true:=plain_iff.mpr fun c hc=>by have:=h.2.2 c hc; omega
theorem CO7 {ws:List Str}(h:∀ x∈ws,oM x):eN (Str.join sp1 ws)=true:=plain_iff.mpr fun c hc=>by
 refine Classical.byContradiction fun n=>wR (c:=c) (by omega) (fun x hx z=>n ?_) hc
 exact plain_iff.mp (h x hx).2.2.2.1 c z
theorem CI6 {r:Rw}{ws:List Str}(h:RwOk r ws):∀ y∈r.as,(∃ u,y=.str u/\eN u=true)\/∃ n,y=.int n:=by
 have C:∀ {a:V}{l:List V}{p:V->Prop},p a->(∀ y∈l,p y)->∀ y∈a::l,p y:=fun {a l p} h k y hy=>(List.mem_cons.mp hy).elim (fun e=>e ▸ h) (k y)
 have E:∀ {p:V->Prop},∀ y∈([]:List V),p y:=fun {p} y hy=>by cases hy
 have S:∀ {u:Str},eN u=true->(∃ u',V.str u=.str u'/\eN u'=true)\/∃ n,V.str u=.int n:=fun h=>.inl ⟨_,rfl,h⟩
 have G:∀ {u:Str},aZ u->(∃ u',V.str u=.str u'/\eN u'=true)\/∃ n,V.str u=.int n:=fun h=>.inl ⟨_,rfl,CA5 h⟩
 have N:∀ {n:Int},(∃ u',V.int n=.str u'/\eN u'=true)\/∃ n',V.int n=.int n':=.inr ⟨_,rfl⟩
 cases h with
 | @wish m h W hm hh hw=>exact C ↑183 (C N (C (G hh) (C (S (CO7 (AI8 hw).1)) E)))
 | happen m k p n=>exact C ↑183 (C N (C (G k) (C (G p) (C N E))))
 | take m h n=>exact C ↑183 (C N (C (G h) (C N E)))
 | later m h n u=>exact C ↑183 (C N (C (G h) (C N (C N E))))
 | back m n=>exact C ↑183 (C N (C N E))
 | go m=>exact C ↑183 (C N E)
 | @tries mm hh dd oo ll m h d o l1 l2 l3=>exact C ↑183 (C N (C (G h) (C (S (by rcases d with rfl | rfl <;> decide +kernel)) (C (G o) E))))
 | @fin mm dd m d=>exact C ↑183 (C N (C (S (by rcases d with rfl | rfl | rfl <;> decide +kernel)) E))
def BR8 (ds:List PyData)(n:Nat):Prop:=PyData.canLayAll0 ds=true/\PyData.depthAll ds<=n
theorem mD {d:PyData}{ds:List PyData}{n:Nat}(h1:PyData.canLay0 d=true)(h2:PyData.depth d<=n)(h:BR8 ds n):BR8 (d::ds) n:=by
 obtain ⟨a,b⟩:=h
 refine ⟨?_,?_⟩
 ·rw [PyData.canLayAll0,h1,a]; rfl
 ·rw [PyData.depthAll]; omega
theorem xO {n:Nat}:BR8 [] n:=⟨by rw [PyData.canLayAll0],by rw [PyData.depthAll]; omega⟩
theorem CA6 {H:Hp}:∀ {as:List V}{vs:List V}{ds:List PyData}{n:Nat},(∀ y∈as,(∃ u,y=.str u/\eN u=true)\/∃ n,y=.int n)->RDs H vs ds->BR8 ds n->RDs H (as++vs) (as.map atD++ds)/\BR8 (as.map atD++ds) n
 | [],_,_,_,_,h,l=>⟨h,l⟩
 | y::as,vs,ds,n,hy,h,l=>by
  obtain ⟨i1,i2⟩:=CA6 (as:=as) (fun z hz=>hy z (nomatch 210,hz)) h l
  rcases hy y List.mem_cons_self with ⟨u,rfl,p⟩ | ⟨m,rfl⟩
  ·exact ⟨.cons (.str u) i1,mD (d:=.str u) (by rw [PyData.canLay0]; exact CI5 p) (by rw [PyData.depth]; omega) i2⟩
  ·exact ⟨.cons (.int m) i1,mD (d:=.int m) (by rw [PyData.canLay0]) (by rw [PyData.depth]; omega) i2⟩
theorem BR9:∀ (l:List (Int × Int)),BR8 (l.map stD) 1
 | []=>xO
 | x::l=>by
  have z:BR8 [PyData.int x.1,.int x.2] 0:=mD (by rw [PyData.canLay0]) (by rw [PyData.depth]; omega) (mD (by rw [PyData.canLay0]) (by rw [PyData.depth]; omega) xO)
  exact mD (d:=stD x) (by unfold stD; rw [PyData.canLay0]; exact z.1) (by unfold stD; rw [PyData.depth]; have:=z.2; omega) (BR9 l)
theorem CA7 {H:Hp}{v:V}{r:Rw}{ws:List Str}(ho:RwOk r ws)(hv:RwAt H v r):RD H v (rwD r)/\PyData.canLay0 (rwD r)=true/\PyData.depth (rwD r)<=3:=by
 have hp:=CI6 ho
 obtain ⟨as,st⟩:=r
 obtain ⟨p,rfl,h⟩:=hv
 cases st with
 | none =>
  obtain ⟨i1,i2⟩:=CA6 (H:=H) (n:=2) hp .nil xO
  rw [List.append_nil] at i1
  exists 61,h
 | some l =>
  obtain ⟨q,qs,h1,h2,h3⟩:=h
  have sl:=BR9 l
  obtain ⟨i1,i2⟩:=CA6 (H:=H) (n:=2) hp (.cons (.tup h2 (BX9 h3)) .nil) (mD (by rw [PyData.canLay0]; exact sl.1) (by rw [PyData.depth]; have:=sl.2; omega) xO)
  exists 61,h1
theorem AE7 {H:Hp}:∀ {rs:List Rw}{vs:List V},All2 (fun r v=>RwAt H v r) rs vs->(∀ r∈rs,∃ ws,RwOk r ws)->RDs H vs (rs.map rwD)/\BR8 (rs.map rwD) 3
 | _,_,.nil,_=>⟨.nil,xO⟩
 | r::_,_,.cons h hs,ho=>by
  obtain ⟨ws,o⟩:=ho r List.mem_cons_self
  obtain ⟨i1,i2⟩:=AE7 hs fun x hx=>ho x (nomatch 210,hx)
  obtain ⟨j1,j2,j3⟩:=CA7 o h
  exact ⟨.cons j1 i1,mD j2 j3 i2⟩
theorem BH8 {H:Hp}{p q:Addr}{rs:List Rw}{vs us:List V}{b:Bool}{Q:VK}(e1:H p=some (.lst vs))(e2:H q=some (.lst us))(h1:All2 (fun r v=>RwAt H v r) rs vs)(h2:All2 (fun r v=>RwAt H v r) rs us)(ho:∀ r∈rs,∃ ws,RwOk r ws)(k:Q (.bl b) H):CJ5 b (.ref p) (.ref q) H Q:=by
 obtain ⟨i1,i2⟩:=AE7 h1 ho
 refine eqd (.lst e1 i1) (.lst e2 (AE7 h2 ho).1) ?_ k
 show (PyData.canLay0 (.list (rs.map rwD)) && decide (PyData.depth (.list (rs.map rwD))<=64))=true
 rw [PyData.canLay0,i2.1,PyData.depth,Bool.true_and]
 exact decide_eq_true (by have:=i2.2; omega)
theorem CO8 {n:Nat}{H:Hp}{v:V}(h:(∃ u,v=.str u)\/∃ n,v=.int n):Plain n H v:=by
 cases n with
 | zero=>exact h
 | succ n=>exact h.elim .inl fun z=>.inr (.inl z)
theorem CI7 {H:Hp}{v:V}{r:Rw}{ws:List Str}(ho:RwOk r ws)(hv:RwAt H v r):Plain 3 H v:=by
 have hp:=CI6 ho
 have la:=(vU ho).1
 have l8:∀ l,r.st=some l->l.length<=8:=fun l e=>by
  exists 114,ho
  ·rw [er] at e; cases e; exact l8
  ·rw [er] at e; cases e
  ·rw [e] at z; cases z
 obtain ⟨as,st⟩:=r
 obtain ⟨p,rfl,h⟩:=hv
 have pa:∀ y∈as,Plain 2 H y:=fun y hy=>CO8 ((hp y hy).imp (fun ⟨u,e,_⟩=>⟨u,e⟩) id)
 have la:as.length<=5:=la
 cases st with
 | none=>exact .inr (.inr ⟨p,as,rfl,.inr h,by omega,pa⟩)
 | some l =>
  obtain ⟨q,qs,h1,h2,h3⟩:=h
  refine .inr (.inr ⟨p,_,rfl,.inr h1,by rw [List.length_append,List.length_singleton]; omega,fun y hy=>?_⟩)
  exists 65,hy,z
  ·exact pa y z
  ·rw [List.mem_singleton.mp z]
   have lq:=h3.len
   have:=l8 l rfl
   exists 108,q,qs,.inr,h2
   obtain ⟨s,_,t,rfl,ht⟩:=h3.get hi
   refine .inr (.inr ⟨t,_,rfl,.inr ht,by simp,fun u hu=>?_⟩)
   exists 22,hu
   rcases hu with rfl | rfl
   ·exact .inr ⟨_,rfl⟩
   ·exact .inr ⟨_,rfl⟩
theorem BH9 {H:Hp}{p:Addr}{rs:List Rw}{vs:List V}(e:H p=some (.lst vs))(h:All2 (fun r v=>RwAt H v r) rs vs)(ho:∀ r∈rs,∃ ws,RwOk r ws)(hl:rs.length<=16):Plain 4 H (.ref p):=by
 have:=h.len
 exists 108,p,vs,.inl,e
 obtain ⟨r,hr,hv⟩:=h.get hi
 obtain ⟨ws,o⟩:=ho r (List.mem_of_getElem? hr)
 exact CI7 o hv
theorem RwAt.well {H H':Hp}{w:Addr}{v:V}{r:Rw}(h:RwAt H v r)(W:Well3 H w)(B:But w H H'):RwAt H' v r:=by
 obtain ⟨x,y,z,e⟩:=W
 have k:∀ {p:Addr}{ys:List V},H p=some (.tup ys)->H' p=some (.tup ys):=fun {p ys} h1=>B p _ (fun z=>by rw [z,e] at h1; cases h1) h1
 obtain ⟨p,e1,q⟩:=h
 refine ⟨p,e1,?_⟩
 split at q
 ·exact k q
 ·obtain ⟨t,qs,q1,q2,q3⟩:=q
  exact ⟨t,qs,k q1,k q2,q3.imp fun _ _ _ z=>z.well ⟨x,y,_,e⟩ B⟩
def LwA (H:Hp)(sc ll l:Addr)(xs:List V)(i:Nat)(σ:L2.St)(H1:Hp):Prop:=∃ (rs:List Rw) (vs:List V) (s2 s3 s4 s5 s6 s7:Option V),σ=[some (.ref sc),some (.ref ll),s2,s3,s4,s5,s6,s7]/\Same H H1/\H ll=none/\l≠ll/\H1 l=some (.lst xs)/\H1 ll=some (.lst vs)/\All2 (fun r v=>RwAt H1 v r) rs vs/\(∀ r∈rs,∃ ws,RwOk r ws)/\rs.length=i
theorem ix0 (n:Nat):ixN (n+1) 0=some 0:=by
 unfold ixN
 simp
theorem CI8 (B:Bt K mg a)(jN:CalG 2 P w K mg base "read_book" ["text"] 16 (nU K a))(pZ:CalX P w K mg base "_law_begin" ["_law_cell"] 1 (uR K a))(gW:CalX P w K mg base "_law_truths" ["_law_thing"] 5 (eI K a 5))(xR:CalX P w K mg base "_law_row" ["_law_state","_law_kind"] 5 (zS K a))(tY:CalX P w K mg base "_law_text" ["_law_line_here"] 1 (xG K a))(gP:CalX P w K mg base "show_book" ["lines"] 3 (uQ K a))(aP:CalX P w K mg base "_law_next" ["_law_state","_law_base"] 1 (dC K a))(mJ:CalX P w K mg base "_law_cell_at" ["_law_script","_law_k"] 1 (oY K a))(F:Fun K "law" "law" AW8 f fd):FnOk P w K mg base CX0 17 f fd ["_law_script"] (BG9 K a):=by
 exists 1,sc_law
 obtain ⟨sc,ns,rfl,hS,h63,q⟩:=h
 refine ⟨_,(aW (bG (aB (nomatch 170,1,sc_law.nd,iW,aC) (bG (aB (bN (AZ1 PassesOwn.never rfl (sH (bL AH3 (mK (aK (aL aN aC))) (jR zY (pv 0) (kF aN) (kF aN)))) (dN (i:=2) sc_law.nd rfl (Or.inl rfl)) (aW (bG (aB (nomatch 241,3,sc_law.nd,pZ,2) (bG (aJ (bN (bW (jO PySem.F.plainAttrs_list PySem.F.slot_list_append PySem.F.type_list_append fE (pv 1) (aK (aL (pc xR hr rfl (aK (aL (pv 3) (aL (nomatch 261,aP,3) aC)))) aC)))))))))))) (bG (aB (bA (i:=1) sc_law.nd rfl (Or.inl rfl) (aS (jR zY (pv 1) (kF (bL qG (nomatch 261,mJ,0) aN)) sM)) (by kernel_rfl)) (bG (aB (bA (i:=4) sc_law.nd rfl (Or.inl rfl) (aS (jO PySem.F.plainAttrs_str PySem.F.slot_str_join PySem.F.type_str_join mX aO (aK (aL (eH ["_law_line_here"] [none] rfl (by kernel_rfl) (sH (pv 1)) (fun cl C s H fp=>⟨(nomatch 149,"_law_line_here"),gC,(kG tY (hr.mono (by decide)) (nomatch 169,kH) ↑240 (he:=aD _ _ _ rfl) (hpl:=aF rfl))⟩)) aC)))) (by kernel_rfl)) (bG (aB (bA (i:=5) sc_law.nd rfl (Or.inl rfl) (aS (nomatch 242,1)) (by kernel_rfl)) (bG (aB (bK (L2.PW.pt (kE (nomatch 257,5) (kE (nomatch 257,5) (iU (aX (AT3 hr.units) (pv 5) (pv 1) (bD _)))))) (bG ↑181) aU) (bG (aB (nomatch 250,6,sc_law.nd,146) (bG (aB (bK (L2.PW.pt (kE (nomatch 232,6) (kE (aX (AT3 hr.units) (pv 6) (pv 1) (bD _)) (kE (bP (nomatch 158,gW,6)) (iU (nomatch 257,6)))))) (bG ↑181) aU) (bG (aB (bN (bW (jO PySem.F.plainAttrs_list PySem.F.slot_list_append PySem.F.type_list_append fE (pv 6) (aK (aL (dI (aK (aL aO (aL aN aC)))) aC))))) (bG (aB (bN (AR1 (dI (aK (aL aO (aL aN aC)))) (AR0 (pv 6) aN vO))) (bG (aB (bK (L2.PW.pt (kE (aX (AT3 hr.units) ↑146 (pv 1) (bD _)) (iU (aX xX (pc gP hr rfl (aK (aL (mK (aK aC)) aC))) aO (bD _))))) (bG ↑181) aU) (bG (aB (bA (i:=7) sc_law.nd rfl (Or.inl rfl) (aS (AD1 jN (hr.mono (by decide)) rfl ↑177 (he:=aD _ _ _ rfl) (hpl:=aF rfl))) (by kernel_rfl)) (bG (aJ (aV (aS (uI (nomatch 145,"list",7,B.list,PyProof.Rows.boot_list) (vW (gX (CE4 hr.units) (pv 7) (mK (aK aC)) (bD _))))))))))))))))))))))))))))))))),?_⟩
 nofun
 exists 52
 exists 11,ll,hll
 have S1:=aH hll (.lst [])
 have e1:upd H ll (.lst []) ll=some (.lst []):=aA
 generalize upd H ll (.lst [])=H1 at *
 exists 52
 exists 11,p,hp
 have S2:=aH hp (.lst [.int 0])
 have S12:=S1.trans S2
 refine ⟨sc,_,rfl,S12.seq hS,fun p2 hp2=>?_⟩
 obtain ⟨ms,em,lm⟩:=CO6 ns
 rw [em]
 have S3:=S12.trans (aH hp2 (.lst (ms.map V.int)))
 have e3:=aH hp2 (.lst (ms.map V.int)) _ _ (S2 _ _ e1)
 refine ⟨p,p2,[.int 0],_,rfl,rfl,?_,aA,?_,fun l hl=>?_⟩
 ·rw [aG (aQ aA hp2)]; exact aA
 ·simp only [List.length_cons,List.length_nil,List.length_map]
  exact sz8 (by omega)
 refine ⟨⟨_,SqL.of aA⟩,?_⟩
 have nl:l≠ll:=(aQ e3 hl).symm
 have S4:=S3.trans (aH hl ↑196)
 have e4:=aH hl ↑196 _ _ e3
 have f4:upd ↑205 l ↑196 l=some (.lst (([0]++ms).map V.int)):=by rw [List.map_append]; exact aA
 generalize upd ↑205 l ↑196=H4 at *
 clear S12 S3 e3 hl hp2 S2 hp S1 e1
 refine ForL.by (xs:=([0]++ms).map V.int) (LwA H sc ll l (([0]++ms).map V.int)) ⟨[],[],_,_,_,_,_,_,rfl,S4,hll,nl,f4,e4,.nil,(fun r hr=>(nomatch hr)),rfl⟩ (fun i σ H1 _ h=>by obtain ⟨_,_,_,_,_,_,_,_,_,_,_,_,h,_⟩:=h; exact SqL.of h) ?_ ?_
 ·rintro i x σ H1 hx ⟨rs,vs,s2,s3,s4,s5,s6,s7,rfl,SS,fl,_,el,ev,hA,ho,hn⟩
  obtain ⟨c,rfl⟩:=CD8 hx
  have hi:i < 16:=by
   have:=(List.getElem?_eq_some_iff.mp hx).1
   rw [List.length_map,List.length_append,List.length_singleton] at this
   omega
  generalize ([0]++ms).map V.int=xs at *
  nofun
  walk_at "ho"
  nofun
  refine ⟨c,rfl,fun pw wa wb wc hpw=>?_⟩
  have W0:Well3 (upd H1 pw ↑204) pw:=⟨_,_,_,aA⟩
  have S0:=aH hpw ↑204
  have fp:H pw=none:=SS.free hpw
  have nlp:ll≠pw:=aQ ev hpw
  have nlq:l≠pw:=aQ el hpw
  have el:=S0 _ _ el
  have ev:=S0 _ _ ev
  have hA:=hA.imp fun _ _ _ z=>RwAt.same z S0
  have SS:=SS.trans S0
  generalize upd H1 pw ↑204=H2 at *
  clear S0 hpw hx
  walk_at "ho"
  nofun
  refine ⟨.inl ⟨rfl,_,SqL.of ev⟩,?_⟩
  exists 9,W0,k,H3,k0,k8,W3,B3
  refine ⟨pw,k,rfl,W3,k0,k8,fun v r H5 hR hr2 W5 B5=>?_⟩
  have B:=B3.trans B5
  have ev:=B _ _ nlp ev
  have el:=B _ _ nlq el
  have hA:=hA.imp fun _ _ _ z=>RwAt.well z W0 B
  have SS:Same H H5:=fun b o e=>B b o (aQ e fp) (SS b o e)
  have lv:vs.length<=16:=by have:=hA.len; omega
  refine ⟨ll,vs,v,rfl,rfl,ev,Nat.lt_of_le_of_lt lv (by decide),?_⟩
  refine ⟨rs++[r],vs++[v],_,_,_,_,_,_,rfl,fun b o e=>by rw [aG (aQ e fl)]; exact SS b o e,fl,nl,by rw [aG nl]; exact el,aA,(hA.imp fun _ _ _ z=>RwAt.lst z ev).snoc (hR.lst ev),fun x hx=>?_,by rw [List.length_append,hn]; rfl⟩
  exists 65,hx,hx
  ·exact ho x hx
  ·rw [List.mem_singleton.mp hx]; exact hr2
 rintro σ H5 ⟨rs,vs,s2,s3,s4,s5,s6,s7,rfl,SS,fl,_,el,ev,hA,ho,hn⟩
 have lr:rs.length<=16:=by
  rw [hn,List.length_map,List.length_append,List.length_singleton]
  omega
 clear el hn f4 e4 nl S4 em lm
 exists 52
 refine ⟨sc,ns,0,rfl,SS.seq hS,by decide,fun c=>?_⟩
 obtain ⟨ts,hT,mT,lT⟩:=hA.cut (some (c % 3)) none
 nofun
 refine ⟨by decide,ll,vs,rfl,SqL.of ev,fun lp hlp=>?_⟩
 generalize AY4 vs (some (c % 3)) none=us at *
 have S6:=aH hlp (.lst us)
 have e6:upd H5 lp (.lst us) lp=some (.lst us):=aA
 exists 53,hT,S6
 have ho:∀ r∈ts,∃ ws,RwOk r ws:=fun r hr=>ho r (mT r hr)
 have lt:ts.length<=16:=by omega
 generalize upd H5 lp (.lst us)=H6 at *
 clear S6 mT lT lr hA ev fl SS hlp hll
 exists 52
 refine ⟨⟨us,SqL.of e6⟩,?_⟩
 have lq:=hT.len
 exists 17,us,ts.take,H6,e6,hT.get
 exists 46,H7,S7,ts.map
 have S8:=S7.trans (aH hD (.lst ((ts.map Rw.tx).map V.str)))
 have e8:=S8 _ _ e6
 exists 53,hT,S8
 generalize upd H7 D (.lst ((ts.map Rw.tx).map V.str))=H8 at *
 clear S7 S8 e6 hD
 exists 52
 refine ⟨us,.inl (SqL.of e8),fun lh hlh=>?_⟩
 have S9:=aH hlh (.lst us)
 have e9:upd H8 lh (.lst us) lh=some (.lst us):=aA
 have d9:=S9 _ _ e8
 exists 53,hT,S9
 generalize upd H8 lh (.lst us)=H9 at *
 clear S9 e8 hlh
 exists 52
 refine ⟨lh,us,ts,rfl,e9,hT,ho,lt,fun H10 S10=>?_⟩
 refine ⟨rfl,?_⟩
 exists 107,z
 exists 53,hT10,S10
 refine ⟨lh,us,ts,rfl,S10 _ _ e9,hT10,ho,lt,fun H11 S11=>⟨rfl,?_⟩⟩
 exists 107,z
 have e11:=S11 _ _ (S10 _ _ e9)
 have d11:=S11 _ _ (S10 _ _ d9)
 have hT:=hT10.imp fun _ _ _ z=>RwAt.same z S11
 clear hT10 S10 S11 e9 d9
 refine BH8 e11 d11 hT hT ho ?_
 try nofun
 exists 52
 refine ⟨ts,rfl,ho,lt,fun lf ys H12 S12 f12 e12 A12=>?_⟩
 try nofun
 have d12:=S12 _ _ d11
 have nlf:lp≠lf:=aQ d11 f12
 exists 53,hT,S12
 clear S12 f12 d11 e11
 exists 52
 exists 44,.lst,e12
 refine BH8 e12 d12 A12 hT ho ?_
 try nofun
 refine ⟨.ref lf,4,by decide,rfl,BH9 e12 A12 ho lt,fun H13 S13=>?_⟩
 try nofun
 refine ⟨lf,ys,ts,rfl,S13 _ _ e12,A12.imp fun _ _ _ z=>RwAt.same z S13,ho,lt,fun H14 S14=>?_⟩
 refine ⟨rfl,?_⟩
 exists 107,z
 have S14:=S13.trans S14
 have e14:=S14 _ _ e12
 have d14:=S14 _ _ d12
 exists 53,hT,S14
 have ly:ys.length<=16:=by have:=A12.len; omega
 clear S13 S14 e12 d12 A12
 exists 52
 refine ⟨.inl ⟨rfl,_,SqL.of e14⟩,sz8 (by decide),fun p15 h15=>?_⟩
 exists 130,S15,h15,5,e15,e14,d15,d14,H14,p15,H15
 refine ⟨lf,ys,_,rfl,rfl,e15,Nat.lt_of_le_of_lt ly (by decide),?_⟩
 have e16:upd H15 lf ↑251 lf=some ↑251:=aA
 have d16:upd H15 lf ↑251 lp=some (.lst us):=by rw [aG nlf]; exact d15
 have hT:=hT.imp fun _ _ _ z=>RwAt.lst (o:=.lst (ys++[.ref p15])) z e15
 generalize upd H15 lf ↑251=H16 at *
 clear S15 h15 e15 d15 e14 d14
 exists 52
 exists 11,p17,h17
 exists 130,S17,h17,6,e17,e16,d17,d16,H16,p17,H17
 refine CJ4 e17 (j:=0) (by rw [List.length_append]; exact ix0 _) ?_
 have d18:upd H17 lf (.lst ↑200) lp=some (.lst us):=by rw [aG nlf]; exact d17
 have hT:=hT.imp fun _ _ _ z=>RwAt.lst (o:=.lst ↑200) z e17
 generalize upd H17 lf (.lst ↑200)=H18 at *
 clear S17 h17 e17 d17 e16 d16
 exists 52
 refine ⟨ts,rfl,ho,lt,fun lg zs H19 S19 f19 e19 A19=>?_⟩
 have d19:=S19 _ _ d18
 exists 53,hT,S19
 refine BH8 e19 d19 A19 hT ho ?_
 try nofun
 exists 11,p20,h20
 refine ⟨p20,[],[],rfl,aA,.nil,(fun r hr=>(nomatch hr)),by decide,fun H21 S21=>?_⟩
 refine ⟨rfl,?_⟩
 exists 107,z
 exists 52
 refine ⟨[],rfl,(fun r hr=>(nomatch hr)),by decide,fun lt2 xs2 H22 S22 f22 e22 A22=>?_⟩
 cases A22
 try nofun
 exists 88
 exists 51,true,.lst,e22
 refine ⟨Nat.zero_le _,fun p23 h23=>?_⟩
 exact eqd (.lst (aH h23 _ _ _ e22) .nil) (.lst aA .nil) (by decide +kernel) (q _)
end
end
end Bw
set_option hygiene false
def hB (x:Array Lean.Term):Nat->Nat->Nat->Lean.MacroM Lean.Term
 |0,_,_=>`(L)
 |n+1,o,s=>if o<x.size then do `(N $(x[o]!) $(← hB x n (o+s) (2*s)) $(← hB x n (o+2*s) (2*s))) else `(L)
def hI (s:String):Lean.Ident:=Lean.mkIdent (.mkSimple s)
def hO (i:Nat):Lean.Term:=hI s!"o{i}"
local macro_rules
 |`(command| #check (0,$xs,*))=>do
  let mut E:Array (Array Lean.Term):=#[]
  let mut r:Array Lean.Syntax:=#[]
  for x in xs.getElems do
   let m:=hI s!"o{E.size}"
   match x with
   |`(($b,$n,$ys,*))=>
    let mut a:Array Lean.Term:=match b with |`($k:num)=>E[k.getNat]! |_=>#[]
    for y in ys.getElems do
     match y with
     |`($k:num*$v)=>a:=a.set! k.getNat v
     |_=>a:=a.push y
    E:=E.push a
    match n with
    |`($k:num)=>r:=r.push (← `(command| def $m := di #[$a,*] $k))
    |_=>r:=r.push (← `(command| def $m := fd #[$a,*]))
   |_=>
    E:=E.push #[]
    r:=r.push (← `(command| def $m := $x))
  return Lean.mkNullNode r
 |`(command| #check (1,$xs,*))=>do
  let mut a:Array Lean.Term:=#[]
  let mut r:Array Lean.Syntax:=#[]
  for x in xs.getElems do
   match x with
   |`((1,$n:num,$l))=>
    let m:=hI s!"heap_{n.getNat}_"
    r:=r.push (← `(command| def $m : PySem.Heap := Heap.mk (Array.mk [$a,*]) ($l)))
   |`(($n:num,$ys,*))=>
    let mut f:Array Lean.Term:=#[]
    let z:=n.getNat==0
    for y in ys.getElems do
     match y with
     |`($k:num*$v:num)=>a:=a.set! k.getNat (hO v.getNat)
     |`($k:num-$v:num)=>
      for i in [k.getNat:v.getNat+1] do
       if z then
        let q:Lean.Term:=Lean.quote i
        f:=f.push (← `(($q,$(a[i]!))))
       else a:=a.push (hO i)
     |`($k:num)=>if z then f:=f.push (← `(($k,$(a[k.getNat]!)))) else a:=a.push (hO k.getNat)
     |_=>pure ()
    if z then
     let m:=hI "heap_39_"
     r:=r.push (← `(command| def $m : Frag := [$f,*]))
    else
     let m:=hI s!"tree_{n.getNat}_"
     let v← hB a 12 0 1
     r:=r.push (← `(command| def $m : BT := $v))
   |_=>pure ()
  return Lean.mkNullNode r
 |`(command| #check (2,$xs,*))=>do
  let mut r:Array Lean.Syntax:=#[]
  for x in xs.getElems do
   match x with
   |`(($n:num,$t,$m:num))=>
    let w:=hI s!"tw{n.getNat}"
    let e:=hI s!"te{n.getNat}"
    let i:=hI s!"y{m.getNat}"
    let y← match t with
     |`($s:str)=>
      let g:=hI s!"{s.getString}_{m.getNat}_"
      r:=r.push (← `(command| noncomputable def $i (A:AT) := fun P:Params=>@$g A ⟨P⟩))
      `($i)
     |_=>`($t $m)
    r:=r.push (← `(command| noncomputable def $w := $y B0))
    r:=r.push (← `(command| theorem $e : $y A0 = $w := congrArg $y ab))
   |_=>pure ()
  return Lean.mkNullNode r
 |`(command| #check (3,$xs,*))=>do
  let mut a:Array Lean.Term:=#[]
  let mut b:Array Lean.Term:=#[]
  let ys:=xs.getElems
  for i in [0:(ys.size+15)/16] do
   let z:=ys.extract (16*i) (16*i+16)
   a:=a.push (← `([$z,*]))
   let mut u:Array Lean.Term:=#[]
   for y in z do
    let c:Array Lean.Term:=(match y with |`($s:str)=>s.getString.toList |_=>[]).toArray.map fun c=>Lean.quote c.toNat
    u:=u.push (← `(⟨⟨[$c,*]⟩⟩))
   b:=b.push (← `([$u,*]))
  let m:=hI "a0"
  let n:=hI "a1"
  return Lean.mkNullNode #[← `(command| noncomputable def $m : List (List Str) := [$a,*]),← `(command| noncomputable def $n : List (List Str) := [$b,*])]
namespace Hd
open PySem PySem.W L2
set_option maxRecDepth 100000
set_option maxHeartbeats 0
class AT where
 p:Program
 a:List (List Str)
 t:List String
class CP where
 P:Params
section
variable [A:AT]
noncomputable def s (i:Nat):Str:=(A.a.getD (i/16) []).getD (i%16) Str.empty
noncomputable def t (i:Nat):String:=A.t.getD i ""
noncomputable def stm (i:Nat):Stmt:=A.p.main.body.getD i (.Pass ⟨0,0,0,0⟩)
noncomputable abbrev N:Obj->BT->BT->BT:=BT.node
noncomputable abbrev L:BT:=BT.nil
open PyData
noncomputable section
variable [c:CP]
noncomputable def ob (i:Nat)(x:Array Value):Obj:=Obj.mk (.type (t i)) none (.fields x) #[]
noncomputable def sq (i:Nat)(x:Array Value):Obj:=Obj.mk (.type (t i)) none (.seq x 0) #[]
noncomputable def fo (i n q:Nat)(x:Stmt)(k:Nat)(g:List Addr)(d e y:Value)(v:Nat)(u:Tok)(z:Addr):Obj:=Obj.mk (.type (t i)) none (.func (FuncData.mk (s n) (s q) (cW x) (FuncBody.stmts (cB x)) (aE x) k [] d e y (.str (s v) u) none (.ref z) .none 0)) #[]
noncomputable abbrev f (n:Nat)(k:Tok):Value:=.str (s n) k
noncomputable abbrev r (n:Addr):Value:=.ref n
noncomputable abbrev j (n:Int)(k:Tok):Value:=.int n k
noncomputable def d (i:Nat)(k:Tok)(v:Value):DictEntry:=DictEntry.mk (keyHash c.P (s i)) (f i k) v
noncomputable def di (x:Array DictEntry)(n:Nat):Obj:=Obj.mk (.type (t 9)) none (.dict x n) #[]
noncomputable def fn (n q:Nat)(x:Stmt):Obj:=Obj.mk .none none (.func (FuncData.mk (s n) (s q) (cW x) (FuncBody.stmts (cB x)) (aE x) 0 [] .none .none .none .none none .none .none 0)) #[]
noncomputable def fd (x:Array Value):Obj:=Obj.mk .none none (.fields x) #[]
noncomputable abbrev i (n:Int):Value:=.int n 0
noncomputable abbrev u:Value:=.none
noncomputable abbrev T (n:Nat):Value:=.type (t n)
noncomputable abbrev bi (n:Nat):Value:=.builtin (t n)
noncomputable def co (a b c d e f1 f2 f3 f4 f5 g:Nat)(w:Bool)(k:Nat)(x1 x2 x3 x4:Value)(y z v:Nat):Obj:=ob 1 #[f a b,f c d,f 1 e,i f1,i f2,i f3,i f4,i f5,r g,.bool w,i 181,r k,x1,x2,x3,x4,i y,i z,f 1 v]
#check (0,boot_o_0 c.P,boot_o_1 c.P,boot_o_2 c.P,boot_o_3 c.P,boot_o_4 c.P,boot_o_5 c.P,boot_o_6 c.P,boot_o_7 c.P,boot_o_8 c.P,boot_o_9 c.P,boot_o_10 c.P,sq 0 #[],fd #[],co 248 182 248 183 184 1 0 0 0 0 11 false 12 u u u u 185 1 186,Obj.mk (.type (t 17)) none .plain #[some (r 13),some (r 3),some (r 3),none,some (f 232 164),none,some (r 0)],(u,16,d 34 165 (f 117 204),d 35 166 .none,d 36 167 .none,d 37 168 (bi 10),d 38 169 .none,d 39 170 (r 6),d 40 171 (r 4),d 41 173 (f 1 172),d 42 174 .none,d 43 193 (r 21),d 44 195 (f 45 194),d 46 197 (f 47 196),d 48 199 (f 49 198),d 50 201 (f 51 200),d 52 203 (f 53 202),d 54 223 (r 31)),(u,u,i 1,i 0,r 20,i 10,i 0,r 27),sq 0 #[f 273 190],fn 43 43 (stm 0),co 43 187 43 188 189 1 1 0 0 3 15 true 16 u (r 17) (r 18) (r 19) 191 1 192,fo 4 43 43 (stm 0) 3 [] .none .none .none 232 164 20,sq 0 #[T 12],ob 6 #[bi 7,T 8],(u,4,d 19 213 (f 117 204),d 21 215 (f 54 214),d 23 217 (j 10 216),d 24 218 (r 29)),co 54 208 54 209 210 10 0 0 0 0 25 false 26 u u u u 211 10 212,Obj.mk (.type (t 17)) none .plain #[some (r 27),some (r 3),some (r 24),none,some (f 117 204),none,some (r 0)],(23,3,1*d 23 217 (j 10 216),2*d 24 218 (r 29),3*d 2 220 (r 32),d 35 221 .none),Obj.mk (.type (t 8)) none (.cls (ClassData.mk (s 54) [(T 12)] [(r 31),(T 12),(T 13),(T 14),(T 15)] 30 (s 54) true [] [] false none false)) #[some (r 22),none,some (f 54 206),some (f 54 214),some (bi 16),some (.bool true)],ob 2 #[f 2 219,r 31,bi 3,u],ob 5 #[r 31,r 31,r 31],ob 6 #[bi 11,r 31],(15,17,d 55 239 (r 44)),(u,u,i 1,i 0,r 20,i 10,i 0,r 27,i 12,i 0,r 40),Obj.mk (.type (t 8)) none (.cls (ClassData.mk (s 54) [(T 12)] [(r 31),(T 12),(T 13),(T 14),(T 15)] 30 (s 54) true [] [(r 44)] false none false)) #[some (r 22),none,some (f 54 206),some (f 54 214),some (bi 16),some (.bool true)],sq 0 #[r 31],(u,4,d 19 231 (f 117 204),d 21 233 (f 55 232),d 23 235 (j 12 234),d 24 236 (r 42)),co 55 226 55 227 228 12 0 0 0 0 38 false 39 u u u u 229 12 230,Obj.mk (.type (t 17)) none .plain #[some (r 40),some (r 3),some (r 37),none,some (f 117 204),none,some (r 0)],(35,2,1*d 23 235 (j 12 234),2*d 24 236 (r 42),3*d 35 237 .none),Obj.mk (.type (t 8)) none (.cls (ClassData.mk (s 55) [(r 31)] [(r 44),(r 31),(T 12),(T 13),(T 14),(T 15)] 43 (s 55) true [] [] false none false)) #[some (r 35),none,some (f 55 224),some (f 55 232),some (bi 16),some (.bool true)],ob 5 #[r 44,r 44,r 44],ob 6 #[bi 11,r 44],(31,18,d 56 255 (r 56)),(u,u,i 1,i 0,r 20,i 10,i 0,r 27,i 12,i 0,r 40,i 14,i 0,r 52),Obj.mk (.type (t 8)) none (.cls (ClassData.mk (s 54) [(T 12)] [(r 31),(T 12),(T 13),(T 14),(T 15)] 30 (s 54) true [] [(r 44),(r 56)] false none false)) #[some (r 22),none,some (f 54 206),some (f 54 214),some (bi 16),some (.bool true)],(u,4,d 19 247 (f 117 204),d 21 249 (f 56 248),d 23 251 (j 14 250),d 24 252 (r 54)),co 56 242 56 243 244 14 0 0 0 0 50 false 51 u u u u 245 14 246,Obj.mk (.type (t 17)) none .plain #[some (r 52),some (r 3),some (r 49),none,some (f 117 204),none,some (r 0)],(45,2,1*d 23 251 (j 14 250),2*d 24 252 (r 54),3*d 35 253 .none),Obj.mk (.type (t 8)) none (.cls (ClassData.mk (s 56) [(r 31)] [(r 56),(r 31),(T 12),(T 13),(T 14),(T 15)] 55 (s 56) true [] [] false none false)) #[some (r 47),none,some (f 56 240),some (f 56 248),some (bi 16),some (.bool true)],ob 5 #[r 56,r 56,r 56],ob 6 #[bi 11,r 56],(42,19,d 57 271 (r 68)),(43,u,i 16,i 0,r 64),Obj.mk (.type (t 8)) none (.cls (ClassData.mk (s 54) [(T 12)] [(r 31),(T 12),(T 13),(T 14),(T 15)] 30 (s 54) true [] [(r 44),(r 56),(r 68)] false none false)) #[some (r 22),none,some (f 54 206),some (f 54 214),some (bi 16),some (.bool true)],(u,4,d 19 263 (f 117 204),d 21 265 (f 57 264),d 23 267 (j 16 266),d 24 268 (r 66)),co 57 258 57 259 260 16 0 0 0 0 62 false 63 u u u u 261 16 262,Obj.mk (.type (t 17)) none .plain #[some (r 64),some (r 3),some (r 61),none,some (f 117 204),none,some (r 0)],(55,2,1*d 23 267 (j 16 266),2*d 24 268 (r 66),3*d 35 269 .none),Obj.mk (.type (t 8)) none (.cls (ClassData.mk (s 57) [(r 31)] [(r 68),(r 31),(T 12),(T 13),(T 14),(T 15)] 67 (s 57) true [] [] false none false)) #[some (r 59),none,some (f 57 256),some (f 57 264),some (bi 16),some (.bool true)],ob 5 #[r 68,r 68,r 68],ob 6 #[bi 11,r 68],(52,26,0*d 34 165 (f 247 324),d 58 297 (r 88),d 59 306 (r 97),d 60 315 (r 104),d 61 323 (r 111),d 62 327 (f 63 326),d 64 329 (j 8 328),d 65 335 (r 116)),(53,u,i 18,i 0,r 76,i 23,i 0,r 96,i 25,i 0,r 103,i 27,i 0,r 110,i 32,i 0,r 115),Obj.mk (.type (t 8)) none (.cls (ClassData.mk (s 54) [(T 12)] [(r 31),(T 12),(T 13),(T 14),(T 15)] 30 (s 54) true [] [(r 44),(r 56),(r 68),(r 88)] false none false)) #[some (r 22),none,some (f 54 206),some (f 54 214),some (bi 16),some (.bool true)],(u,5,d 19 279 (f 117 204),d 21 281 (f 58 280),d 23 283 (j 18 282),d 3 292 (r 85),d 24 294 (r 86)),(u,u,i 20,i 4,r 84),co 58 274 58 275 276 18 0 0 0 0 74 false 75 u u u u 277 18 278,Obj.mk (.type (t 17)) none .plain #[some (r 76),some (r 3),some (r 73),none,some (f 117 204),none,some (r 0)],sq 0 #[j 0 284],sq 0 #[f 11 288,f 206 289],fn 3 270 (aI (stm 11) 0),co 3 285 270 286 287 20 2 0 0 3 79 true 80 u (r 81) (r 82) (r 83) 290 20 291,fo 4 3 270 (aI (stm 11) 0) 3 [] (r 78) .none .none 117 204 84,sq 0 #[f 206 293],(65,2,1*d 23 283 (j 18 282),2*d 3 292 (r 85),3*d 24 294 (r 86),4*d 35 295 .none),Obj.mk (.type (t 8)) none (.cls (ClassData.mk (s 58) [(r 31)] [(r 88),(r 31),(T 12),(T 13),(T 14),(T 15)] 87 (s 58) true [] [] false none false)) #[some (r 71),none,some (f 58 272),some (f 58 280),some (bi 16),some (.bool true)],ob 5 #[r 88,r 88,r 88],ob 6 #[bi 11,r 88],sq 0 #[f 167 303],fn 59 59 (stm 13),co 59 300 59 301 302 23 1 0 0 3 91 true 92 u (r 93) (r 94) (r 95) 304 23 305,fo 4 59 59 (stm 13) 3 [] .none .none .none 115 298 96,sq 0 #[f 167 310,f 263 311,f 265 312],fn 60 60 (stm 14),co 60 307 60 308 309 25 3 0 0 3 98 true 99 u (r 100) (r 101) (r 102) 313 25 314,fo 4 60 60 (stm 14) 3 [] .none .none .none 115 298 103,sq 0 #[f 167 319,f 263 320],fn 61 61 (stm 15),co 61 316 61 317 318 27 2 0 0 3 105 true 106 u (r 107) (r 108) (r 109) 321 27 322,fo 4 61 61 (stm 15) 3 [] .none .none .none 115 298 110,fn 65 65 (stm 19),co 65 330 65 331 332 32 1 0 0 3 112 true 113 u u u (r 114) 333 32 334,fo 4 65 65 (stm 19) 3 [] .none .none .none 247 324 115,(62,31,0*d 34 165 (f 33 336),d 66 339 (f 67 338),d 68 341 (j 60 340),d 69 347 (r 121),d 70 353 (r 126),d 71 360 (r 133)),(63,u,i 39,i 0,r 120,i 43,i 0,r 125,i 47,i 0,r 132),fn 69 69 (stm 23),co 69 342 69 343 344 39 1 0 0 3 117 true 118 u u u (r 119) 345 39 346,fo 4 69 69 (stm 23) 3 [] .none .none .none 33 336 120,fn 70 70 (stm 24),co 70 348 70 349 350 43 1 0 0 3 122 true 123 u u u (r 124) 351 43 352,fo 4 70 70 (stm 24) 3 [] .none .none .none 33 336 125,sq 0 #[f 16 357],fn 71 71 (stm 25),co 71 354 71 355 356 47 1 0 0 3 127 true 128 u (r 129) (r 130) (r 131) 358 47 359,fo 4 71 71 (stm 25) 3 [] .none .none .none 33 336 132,(94,32,d 72 492 (r 241)),(95,u,i 51,i 0,r 139),(u,18,d 19 368 (f 33 336),d 21 370 (f 72 369),d 23 372 (j 51 371),d 3 380 (r 147),d 88 387 (r 154),d 89 394 (r 161),d 90 402 (r 168),d 17 410 (r 175),d 91 418 (r 182),d 92 425 (r 189),d 93 433 (r 196),d 94 441 (r 203),d 95 449 (r 210),d 31 458 (r 217),d 96 466 (r 224),d 97 475 (r 231),d 98 482 (r 238),d 24 485 (r 239)),(u,u,i 53,i 4,r 146,i 59,i 4,r 153,i 62,i 4,r 160,i 65,i 4,r 167,i 70,i 4,r 174,i 76,i 4,r 181,i 80,i 4,r 188,i 84,i 4,r 195,i 90,i 4,r 202,i 96,i 4,r 209,i 102,i 4,r 216,i 108,i 4,r 223,i 114,i 4,r 230,i 121,i 4,r 237),co 72 363 72 364 365 51 0 0 0 0 137 false 138 u u u u 366 51 367,Obj.mk (.type (t 17)) none .plain #[some (r 139),some (r 3),some (r 136),none,some (f 33 336),none,some (r 0)],sq 0 #[f 11 376,f 151 377],fn 3 80 (aI (stm 26) 0),co 3 373 80 374 375 53 2 0 0 3 141 true 142 u (r 143) (r 144) (r 145) 378 53 379,fo 4 3 80 (aI (stm 26) 0) 3 [] .none .none .none 33 336 146,sq 0 #[f 11 384],fn 88 235 (aI (stm 26) 1),co 88 381 235 382 383 59 1 0 0 3 148 true 149 u (r 150) (r 151) (r 152) 385 59 386,fo 4 88 235 (aI (stm 26) 1) 3 [] .none .none .none 33 336 153,sq 0 #[f 11 391],fn 89 236 (aI (stm 26) 2),co 89 388 236 389 390 62 1 0 0 3 155 true 156 u (r 157) (r 158) (r 159) 392 62 393,fo 4 89 236 (aI (stm 26) 2) 3 [] .none .none .none 33 336 160,sq 0 #[f 11 398,f 16 399],fn 90 219 (aI (stm 26) 3),co 90 395 219 396 397 65 1 0 0 3 162 true 163 u (r 164) (r 165) (r 166) 400 65 401,fo 4 90 219 (aI (stm 26) 3) 3 [] .none .none .none 33 336 167,sq 0 #[f 11 406,f 16 407],fn 17 18 (aI (stm 26) 4),co 17 403 18 404 405 70 2 0 0 3 169 true 170 u (r 171) (r 172) (r 173) 408 70 409,fo 4 17 18 (aI (stm 26) 4) 3 [] .none .none .none 33 336 174,sq 0 #[f 11 414,f 16 415],fn 91 156 (aI (stm 26) 5),co 91 411 156 412 413 76 2 0 0 3 176 true 177 u (r 178) (r 179) (r 180) 416 76 417,fo 4 91 156 (aI (stm 26) 5) 3 [] .none .none .none 33 336 181,sq 0 #[f 11 422],fn 92 153 (aI (stm 26) 6),co 92 419 153 420 421 80 1 0 0 3 183 true 184 u (r 185) (r 186) (r 187) 423 80 424,fo 4 92 153 (aI (stm 26) 6) 3 [] .none .none .none 33 336 188,sq 0 #[f 11 429,f 16 430],fn 93 123 (aI (stm 26) 7),co 93 426 123 427 428 84 1 0 0 3 190 true 191 u (r 192) (r 193) (r 194) 431 84 432,fo 4 93 123 (aI (stm 26) 7) 3 [] .none .none .none 33 336 195,sq 0 #[f 11 437,f 261 438],fn 94 231 (aI (stm 26) 8),co 94 434 231 435 436 90 1 0 0 3 197 true 198 u (r 199) (r 200) (r 201) 439 90 440,fo 4 94 231 (aI (stm 26) 8) 3 [] .none .none .none 33 336 202,sq 0 #[f 11 445,f 16 446],fn 95 212 (aI (stm 26) 9),co 95 442 212 443 444 96 1 0 0 3 204 true 205 u (r 206) (r 207) (r 208) 447 96 448,fo 4 95 212 (aI (stm 26) 9) 3 [] .none .none .none 33 336 209,sq 0 #[f 11 453,f 251 454,f 16 455],fn 31 32 (aI (stm 26) 10),co 31 450 32 451 452 102 2 0 0 3 211 true 212 u (r 213) (r 214) (r 215) 456 102 457,fo 4 31 32 (aI (stm 26) 10) 3 [] .none .none .none 33 336 216,sq 0 #[f 11 462,f 12 463],fn 96 197 (aI (stm 26) 11),co 96 459 197 460 461 108 1 0 0 3 218 true 219 u (r 220) (r 221) (r 222) 464 108 465,fo 4 96 197 (aI (stm 26) 11) 3 [] .none .none .none 33 336 223,sq 0 #[f 11 470,f 261 471,f 269 472],fn 97 262 (aI (stm 26) 12),co 97 467 262 468 469 114 2 0 0 3 225 true 226 u (r 227) (r 228) (r 229) 473 114 474,fo 4 97 262 (aI (stm 26) 12) 3 [] .none .none .none 33 336 230,sq 0 #[f 11 479],fn 98 143 (aI (stm 26) 13),co 98 476 143 477 478 121 1 0 0 3 232 true 233 u (r 234) (r 235) (r 236) 480 121 481,fo 4 98 143 (aI (stm 26) 13) 3 [] .none .none .none 33 336 237,sq 0 #[f 238 483,f 101 484],(u,4,d 19 368 (f 33 336),d 23 372 (j 51 371),d 3 380 (r 147),d 88 387 (r 154),d 89 394 (r 161),d 90 402 (r 168),d 17 410 (r 175),d 91 418 (r 182),d 92 425 (r 189),d 93 433 (r 196),d 94 441 (r 203),d 95 449 (r 210),d 31 458 (r 217),d 96 466 (r 224),d 97 475 (r 231),d 98 482 (r 238),d 24 485 (r 239),d 99 487 (r 242),d 2 489 (r 243),d 35 490 .none),Obj.mk (.type (t 8)) none (.cls (ClassData.mk (s 72) [(T 15)] [(r 241),(T 15)] 240 (s 72) true [] [] false none false)) #[none,none,some (f 72 361),some (f 72 369),some (bi 18),some (.bool true)],ob 2 #[f 99 486,r 241,bi 19,bi 20],ob 2 #[f 2 488,r 241,bi 3,u],ob 5 #[r 241,r 241,r 241],ob 6 #[bi 11,r 241],(u,14,d 19 368 (f 33 336),d 21 370 (f 72 369),d 23 372 (j 51 371),d 3 380 (r 147),d 88 387 (r 154),d 89 394 (r 161),d 90 402 (r 168),d 17 410 (r 175),d 91 418 (r 182),d 92 425 (r 189),d 93 433 (r 196),d 94 441 (r 203),d 95 449 (r 210),d 31 458 (r 217)),(u,u,i 53,i 4,r 146,i 59,i 4,r 153,i 62,i 4,r 160,i 65,i 4,r 167,i 70,i 4,r 174,i 76,i 4,r 181,i 80,i 4,r 188,i 84,i 4,r 195,i 90,i 4,r 202,i 96,i 4,r 209,i 102,i 4,r 216),(106,33,0*d 34 165 (f 5 493),d 73 514 (r 255)),(107,u,i 124,i 0,r 251),(u,4,d 19 502 (f 5 493),d 21 504 (f 73 503),d 23 506 (j 124 505),d 24 507 (r 253)),co 73 497 73 498 499 124 0 0 0 0 249 false 250 u u u u 500 124 501,Obj.mk (.type (t 17)) none .plain #[some (r 251),some (r 3),some (r 248),none,some (f 5 493),none,some (r 0)],(179,4,1*d 23 506 (j 124 505),2*d 24 507 (r 253),3*d 99 509 (r 256),d 2 511 (r 257),d 35 512 .none),Obj.mk (.type (t 8)) none (.cls (ClassData.mk (s 73) [(T 15)] [(r 255),(T 15)] 254 (s 73) true [] [] false none false)) #[none,none,some (f 73 495),some (f 73 503),some (bi 18),some (.bool true)],ob 2 #[f 99 508,r 255,bi 19,bi 20],ob 2 #[f 2 510,r 255,bi 3,u],ob 5 #[r 255,r 255,r 255],ob 6 #[bi 11,r 255],(177,34,d 74 558 (r 290)),(178,u,i 126,i 0,r 265),Obj.mk (.type (t 8)) none (.cls (ClassData.mk (s 73) [(T 15)] [(r 255),(T 15)] 254 (s 73) true [] [(r 290)] false none false)) #[none,none,some (f 73 495),some (f 73 503),some (bi 18),some (.bool true)],sq 0 #[r 255],(u,7,d 19 522 (f 5 493),d 21 524 (f 74 523),d 23 526 (j 126 525),d 83 534 (r 273),d 9 544 (r 280),d 85 554 (r 287),d 24 555 (r 288)),(u,u,i 128,i 4,r 272,i 131,i 4,r 279,i 134,i 4,r 286),co 74 517 74 518 519 126 0 0 0 0 263 false 264 u u u u 520 126 521,Obj.mk (.type (t 17)) none .plain #[some (r 265),some (r 3),some (r 262),none,some (f 5 493),none,some (r 0)],sq 0 #[f 11 530,f 135 531],fn 83 234 (aI (stm 29) 0),co 83 527 234 528 529 128 2 0 0 3 267 true 268 u (r 269) (r 270) (r 271) 532 128 533,fo 4 83 234 (aI (stm 29) 0) 3 [] .none .none .none 5 493 272,sq 0 #[f 11 538,f 147 539,f 148 540,f 149 541],fn 9 208 (aI (stm 29) 1),co 9 535 208 536 537 131 4 0 0 3 274 true 275 u (r 276) (r 277) (r 278) 542 131 543,fo 4 9 208 (aI (stm 29) 1) 3 [] .none .none .none 5 493 279,sq 0 #[f 11 548,f 240 549,f 241 550,f 242 551],fn 85 112 (aI (stm 29) 2),co 85 545 112 546 547 134 4 0 0 3 281 true 282 u (r 283) (r 284) (r 285) 552 134 553,fo 4 85 112 (aI (stm 29) 2) 3 [] .none .none .none 5 493 286,(192,2,1*d 23 526 (j 126 525),2*d 83 534 (r 273),3*d 9 544 (r 280),4*d 85 554 (r 287),5*d 24 555 (r 288),6*d 35 556 .none),Obj.mk (.type (t 8)) none (.cls (ClassData.mk (s 74) [(r 255)] [(r 290),(r 255),(T 15)] 289 (s 74) true [] [] false none false)) #[some (r 260),none,some (f 74 515),some (f 74 523),some (bi 18),some (.bool true)],ob 5 #[r 290,r 290,r 290],ob 6 #[bi 11,r 290],(188,35,d 75 611 (r 330)),(189,u,i 136,i 0,r 298),Obj.mk (.type (t 8)) none (.cls (ClassData.mk (s 73) [(T 15)] [(r 255),(T 15)] 254 (s 73) true [] [(r 290),(r 330)] false none false)) #[none,none,some (f 73 495),some (f 73 503),some (bi 18),some (.bool true)],(u,8,d 19 566 (f 5 493),d 21 568 (f 75 567),d 23 570 (j 136 569),d 3 578 (r 306),d 83 586 (r 313),d 9 596 (r 320),d 85 606 (r 327),d 24 608 (r 328)),(u,u,i 138,i 4,r 305,i 142,i 4,r 312,i 145,i 4,r 319,i 148,i 4,r 326),co 75 561 75 562 563 136 0 0 0 0 296 false 297 u u u u 564 136 565,Obj.mk (.type (t 17)) none .plain #[some (r 298),some (r 3),some (r 295),none,some (f 5 493),none,some (r 0)],sq 0 #[f 11 574,f 12 575],fn 3 132 (aI (stm 30) 0),co 3 571 132 572 573 138 2 0 0 3 300 true 301 u (r 302) (r 303) (r 304) 576 138 577,fo 4 3 132 (aI (stm 30) 0) 3 [] .none .none .none 5 493 305,sq 0 #[f 11 582,f 135 583],fn 83 84 (aI (stm 30) 1),co 83 579 84 580 581 142 2 0 0 3 307 true 308 u (r 309) (r 310) (r 311) 584 142 585,fo 4 83 84 (aI (stm 30) 1) 3 [] .none .none .none 5 493 312,sq 0 #[f 11 590,f 147 591,f 148 592,f 149 593],fn 9 255 (aI (stm 30) 2),co 9 587 255 588 589 145 4 0 0 3 314 true 315 u (r 316) (r 317) (r 318) 594 145 595,fo 4 9 255 (aI (stm 30) 2) 3 [] .none .none .none 5 493 319,sq 0 #[f 11 600,f 240 601,f 241 602,f 242 603],fn 85 120 (aI (stm 30) 3),co 85 597 120 598 599 148 4 0 0 3 321 true 322 u (r 323) (r 324) (r 325) 604 148 605,fo 4 85 120 (aI (stm 30) 3) 3 [] .none .none .none 5 493 326,sq 0 #[f 12 607],(215,2,1*d 23 570 (j 136 569),2*d 3 578 (r 306),3*d 83 586 (r 313),4*d 9 596 (r 320),5*d 85 606 (r 327),6*d 24 608 (r 328),7*d 35 609 .none),Obj.mk (.type (t 8)) none (.cls (ClassData.mk (s 75) [(r 255)] [(r 330),(r 255),(T 15)] 329 (s 75) true [] [] false none false)) #[some (r 293),none,some (f 75 559),some (f 75 567),some (bi 18),some (.bool true)],ob 5 #[r 330,r 330,r 330],ob 6 #[bi 11,r 330],(212,36,d 76 664 (r 370)),(213,u,i 150,i 0,r 338),Obj.mk (.type (t 8)) none (.cls (ClassData.mk (s 73) [(T 15)] [(r 255),(T 15)] 254 (s 73) true [] [(r 290),(r 330),(r 370)] false none false)) #[none,none,some (f 73 495),some (f 73 503),some (bi 18),some (.bool true)],(u,8,d 19 619 (f 5 493),d 21 621 (f 76 620),d 23 623 (j 150 622),d 3 631 (r 346),d 83 639 (r 353),d 9 649 (r 360),d 85 659 (r 367),d 24 661 (r 368)),(u,u,i 152,i 4,r 345,i 156,i 4,r 352,i 159,i 4,r 359,i 162,i 4,r 366),co 76 614 76 615 616 150 0 0 0 0 336 false 337 u u u u 617 150 618,Obj.mk (.type (t 17)) none .plain #[some (r 338),some (r 3),some (r 335),none,some (f 5 493),none,some (r 0)],sq 0 #[f 11 627,f 12 628],fn 3 171 (aI (stm 31) 0),co 3 624 171 625 626 152 2 0 0 3 340 true 341 u (r 342) (r 343) (r 344) 629 152 630,fo 4 3 171 (aI (stm 31) 0) 3 [] .none .none .none 5 493 345,sq 0 #[f 11 635,f 135 636],fn 83 144 (aI (stm 31) 1),co 83 632 144 633 634 156 2 0 0 3 347 true 348 u (r 349) (r 350) (r 351) 637 156 638,fo 4 83 144 (aI (stm 31) 1) 3 [] .none .none .none 5 493 352,sq 0 #[f 11 643,f 147 644,f 148 645,f 149 646],fn 9 128 (aI (stm 31) 2),co 9 640 128 641 642 159 4 0 0 3 354 true 355 u (r 356) (r 357) (r 358) 647 159 648,fo 4 9 128 (aI (stm 31) 2) 3 [] .none .none .none 5 493 359,sq 0 #[f 11 653,f 240 654,f 241 655,f 242 656],fn 85 218 (aI (stm 31) 3),co 85 650 218 651 652 162 4 0 0 3 361 true 362 u (r 363) (r 364) (r 365) 657 162 658,fo 4 85 218 (aI (stm 31) 3) 3 [] .none .none .none 5 493 366,sq 0 #[f 12 660],(243,2,1*d 23 623 (j 150 622),2*d 3 631 (r 346),3*d 83 639 (r 353),4*d 9 649 (r 360),5*d 85 659 (r 367),6*d 24 661 (r 368),7*d 35 662 .none),Obj.mk (.type (t 8)) none (.cls (ClassData.mk (s 76) [(r 255)] [(r 370),(r 255),(T 15)] 369 (s 76) true [] [] false none false)) #[some (r 333),none,some (f 76 612),some (f 76 620),some (bi 18),some (.bool true)],ob 5 #[r 370,r 370,r 370],ob 6 #[bi 11,r 370],(240,37,d 77 717 (r 410)),(241,u,i 164,i 0,r 378),Obj.mk (.type (t 8)) none (.cls (ClassData.mk (s 73) [(T 15)] [(r 255),(T 15)] 254 (s 73) true [] [(r 290),(r 330),(r 370),(r 410)] false none false)) #[none,none,some (f 73 495),some (f 73 503),some (bi 18),some (.bool true)],(u,8,d 19 672 (f 5 493),d 21 674 (f 77 673),d 23 676 (j 164 675),d 3 684 (r 386),d 83 692 (r 393),d 9 702 (r 400),d 85 712 (r 407),d 24 714 (r 408)),(u,u,i 166,i 4,r 385,i 171,i 4,r 392,i 174,i 4,r 399,i 177,i 4,r 406),co 77 667 77 668 669 164 0 0 0 0 376 false 377 u u u u 670 164 671,Obj.mk (.type (t 17)) none .plain #[some (r 378),some (r 3),some (r 375),none,some (f 5 493),none,some (r 0)],sq 0 #[f 11 680,f 245 681],fn 3 216 (aI (stm 32) 0),co 3 677 216 678 679 166 2 0 0 3 380 true 381 u (r 382) (r 383) (r 384) 682 166 683,fo 4 3 216 (aI (stm 32) 0) 3 [] .none .none .none 5 493 385,sq 0 #[f 11 688,f 135 689],fn 83 127 (aI (stm 32) 1),co 83 685 127 686 687 171 2 0 0 3 387 true 388 u (r 389) (r 390) (r 391) 690 171 691,fo 4 83 127 (aI (stm 32) 1) 3 [] .none .none .none 5 493 392,sq 0 #[f 11 696,f 147 697,f 148 698,f 149 699],fn 9 233 (aI (stm 32) 2),co 9 693 233 694 695 174 4 0 0 3 394 true 395 u (r 396) (r 397) (r 398) 700 174 701,fo 4 9 233 (aI (stm 32) 2) 3 [] .none .none .none 5 493 399,sq 0 #[f 11 706,f 240 707,f 241 708,f 242 709],fn 85 121 (aI (stm 32) 3),co 85 703 121 704 705 177 4 0 0 3 401 true 402 u (r 403) (r 404) (r 405) 710 177 711,fo 4 85 121 (aI (stm 32) 3) 3 [] .none .none .none 5 493 406,sq 0 #[f 245 713],(271,2,1*d 23 676 (j 164 675),2*d 3 684 (r 386),3*d 83 692 (r 393),4*d 9 702 (r 400),5*d 85 712 (r 407),6*d 24 714 (r 408),7*d 35 715 .none),Obj.mk (.type (t 8)) none (.cls (ClassData.mk (s 77) [(r 255)] [(r 410),(r 255),(T 15)] 409 (s 77) true [] [] false none false)) #[some (r 373),none,some (f 77 665),some (f 77 673),some (bi 18),some (.bool true)],ob 5 #[r 410,r 410,r 410],ob 6 #[bi 11,r 410],(268,38,d 169 770 (r 450)),(269,u,i 179,i 0,r 418),Obj.mk (.type (t 8)) none (.cls (ClassData.mk (s 73) [(T 15)] [(r 255),(T 15)] 254 (s 73) true [] [(r 290),(r 330),(r 370),(r 410),(r 450)] false none false)) #[none,none,some (f 73 495),some (f 73 503),some (bi 18),some (.bool true)],(u,8,d 19 725 (f 5 493),d 21 727 (f 169 726),d 23 729 (j 179 728),d 3 737 (r 426),d 83 745 (r 433),d 9 755 (r 440),d 85 765 (r 447),d 24 767 (r 448)),(u,u,i 181,i 4,r 425,i 185,i 4,r 432,i 188,i 4,r 439,i 191,i 4,r 446),co 169 720 169 721 722 179 0 0 0 0 416 false 417 u u u u 723 179 724,Obj.mk (.type (t 17)) none .plain #[some (r 418),some (r 3),some (r 415),none,some (f 5 493),none,some (r 0)],sq 0 #[f 11 733,f 100 734],fn 3 4 (aI (stm 33) 0),co 3 730 4 731 732 181 2 0 0 3 420 true 421 u (r 422) (r 423) (r 424) 735 181 736,fo 4 3 4 (aI (stm 33) 0) 3 [] .none .none .none 5 493 425,sq 0 #[f 11 741,f 135 742],fn 83 133 (aI (stm 33) 1),co 83 738 133 739 740 185 2 0 0 3 427 true 428 u (r 429) (r 430) (r 431) 743 185 744,fo 4 83 133 (aI (stm 33) 1) 3 [] .none .none .none 5 493 432,sq 0 #[f 11 749,f 147 750,f 148 751,f 149 752],fn 9 10 (aI (stm 33) 2),co 9 746 10 747 748 188 4 0 0 3 434 true 435 u (r 436) (r 437) (r 438) 753 188 754,fo 4 9 10 (aI (stm 33) 2) 3 [] .none .none .none 5 493 439,sq 0 #[f 11 759,f 240 760,f 241 761,f 242 762],fn 85 122 (aI (stm 33) 3),co 85 756 122 757 758 191 4 0 0 3 441 true 442 u (r 443) (r 444) (r 445) 763 191 764,fo 4 85 122 (aI (stm 33) 3) 3 [] .none .none .none 5 493 446,sq 0 #[f 100 766],(299,2,1*d 23 729 (j 179 728),2*d 3 737 (r 426),3*d 83 745 (r 433),4*d 9 755 (r 440),5*d 85 765 (r 447),6*d 24 767 (r 448),7*d 35 768 .none),Obj.mk (.type (t 8)) none (.cls (ClassData.mk (s 169) [(r 255)] [(r 450),(r 255),(T 15)] 449 (s 169) true [] [] false none false)) #[some (r 413),none,some (f 169 718),some (f 169 726),some (bi 18),some (.bool true)],ob 5 #[r 450,r 450,r 450],ob 6 #[bi 11,r 450],(296,39,d 170 823 (r 490)),(297,u,i 193,i 0,r 458),Obj.mk (.type (t 8)) none (.cls (ClassData.mk (s 73) [(T 15)] [(r 255),(T 15)] 254 (s 73) true [] [(r 290),(r 330),(r 370),(r 410),(r 450),(r 490)] false none false)) #[none,none,some (f 73 495),some (f 73 503),some (bi 18),some (.bool true)],(u,8,d 19 778 (f 5 493),d 21 780 (f 170 779),d 23 782 (j 193 781),d 3 790 (r 466),d 83 798 (r 473),d 9 808 (r 480),d 85 818 (r 487),d 24 820 (r 488)),(u,u,i 195,i 4,r 465,i 199,i 4,r 472,i 202,i 4,r 479,i 205,i 4,r 486),co 170 773 170 774 775 193 0 0 0 0 456 false 457 u u u u 776 193 777,Obj.mk (.type (t 17)) none .plain #[some (r 458),some (r 3),some (r 455),none,some (f 5 493),none,some (r 0)],sq 0 #[f 11 786,f 155 787],fn 3 126 (aI (stm 34) 0),co 3 783 126 784 785 195 2 0 0 3 460 true 461 u (r 462) (r 463) (r 464) 788 195 789,fo 4 3 126 (aI (stm 34) 0) 3 [] .none .none .none 5 493 465,sq 0 #[f 11 794,f 135 795],fn 83 134 (aI (stm 34) 1),co 83 791 134 792 793 199 2 0 0 3 467 true 468 u (r 469) (r 470) (r 471) 796 199 797,fo 4 83 134 (aI (stm 34) 1) 3 [] .none .none .none 5 493 472,sq 0 #[f 11 802,f 147 803,f 148 804,f 149 805],fn 9 136 (aI (stm 34) 2),co 9 799 136 800 801 202 4 0 0 3 474 true 475 u (r 476) (r 477) (r 478) 806 202 807,fo 4 9 136 (aI (stm 34) 2) 3 [] .none .none .none 5 493 479,sq 0 #[f 11 812,f 240 813,f 241 814,f 242 815],fn 85 87 (aI (stm 34) 3),co 85 809 87 810 811 205 4 0 0 3 481 true 482 u (r 483) (r 484) (r 485) 816 205 817,fo 4 85 87 (aI (stm 34) 3) 3 [] .none .none .none 5 493 486,sq 0 #[f 155 819],(327,2,1*d 23 782 (j 193 781),2*d 3 790 (r 466),3*d 83 798 (r 473),4*d 9 808 (r 480),5*d 85 818 (r 487),6*d 24 820 (r 488),7*d 35 821 .none),Obj.mk (.type (t 8)) none (.cls (ClassData.mk (s 170) [(r 255)] [(r 490),(r 255),(T 15)] 489 (s 170) true [] [] false none false)) #[some (r 453),none,some (f 170 771),some (f 170 779),some (bi 18),some (.bool true)],ob 5 #[r 490,r 490,r 490],ob 6 #[bi 11,r 490],(324,41,d 173 876 (r 530),d 174 883 (r 539)),(325,u,i 207,i 0,r 498,i 221,i 0,r 538),Obj.mk (.type (t 8)) none (.cls (ClassData.mk (s 73) [(T 15)] [(r 255),(T 15)] 254 (s 73) true [] [(r 290),(r 330),(r 370),(r 410),(r 450),(r 490),(r 530)] false none false)) #[none,none,some (f 73 495),some (f 73 503),some (bi 18),some (.bool true)],(u,8,d 19 831 (f 5 493),d 21 833 (f 173 832),d 23 835 (j 207 834),d 3 843 (r 506),d 83 851 (r 513),d 9 861 (r 520),d 85 871 (r 527),d 24 873 (r 528)),(u,u,i 209,i 4,r 505,i 213,i 4,r 512,i 216,i 4,r 519,i 219,i 4,r 526),co 173 826 173 827 828 207 0 0 0 0 496 false 497 u u u u 829 207 830,Obj.mk (.type (t 17)) none .plain #[some (r 498),some (r 3),some (r 495),none,some (f 5 493),none,some (r 0)],sq 0 #[f 11 839,f 155 840],fn 3 28 (aI (stm 35) 0),co 3 836 28 837 838 209 2 0 0 3 500 true 501 u (r 502) (r 503) (r 504) 841 209 842,fo 4 3 28 (aI (stm 35) 0) 3 [] .none .none .none 5 493 505,sq 0 #[f 11 847,f 135 848],fn 83 154 (aI (stm 35) 1),co 83 844 154 845 846 213 2 0 0 3 507 true 508 u (r 509) (r 510) (r 511) 849 213 850,fo 4 83 154 (aI (stm 35) 1) 3 [] .none .none .none 5 493 512,sq 0 #[f 11 855,f 147 856,f 148 857,f 149 858],fn 9 145 (aI (stm 35) 2),co 9 852 145 853 854 216 4 0 0 3 514 true 515 u (r 516) (r 517) (r 518) 859 216 860,fo 4 9 145 (aI (stm 35) 2) 3 [] .none .none .none 5 493 519,sq 0 #[f 11 865,f 240 866,f 241 867,f 242 868],fn 85 86 (aI (stm 35) 3),co 85 862 86 863 864 219 4 0 0 3 521 true 522 u (r 523) (r 524) (r 525) 869 219 870,fo 4 85 86 (aI (stm 35) 3) 3 [] .none .none .none 5 493 526,sq 0 #[f 155 872],(355,2,1*d 23 835 (j 207 834),2*d 3 843 (r 506),3*d 83 851 (r 513),4*d 9 861 (r 520),5*d 85 871 (r 527),6*d 24 873 (r 528),7*d 35 874 .none),Obj.mk (.type (t 8)) none (.cls (ClassData.mk (s 173) [(r 255)] [(r 530),(r 255),(T 15)] 529 (s 173) true [] [] false none false)) #[some (r 493),none,some (f 173 824),some (f 173 832),some (bi 18),some (.bool true)],ob 5 #[r 530,r 530,r 530],ob 6 #[bi 11,r 530],sq 0 #[f 12 880],fn 174 174 (stm 36),co 174 877 174 878 879 221 1 0 0 3 533 true 534 u (r 535) (r 536) (r 537) 881 221 882,fo 4 174 174 (stm 36) 3 [] .none .none .none 5 493 538,(352,51,0*d 34 165 (f 15 947),d 118 890 (r 546),d 175 898 (r 553),d 176 902 (j 60 901),d 177 904 (j 1440 903),d 6 911 (r 560),d 178 918 (r 567),d 179 925 (r 574),d 180 932 (r 581),d 0 939 (r 588),d 129 946 (r 595)),(353,u,i 224,i 0,r 545,i 227,i 0,r 552,i 235,i 0,r 559,i 237,i 0,r 566,i 243,i 0,r 573,i 246,i 0,r 580,i 249,i 0,r 587,i 252,i 0,r 594),sq 0 #[f 100 887],fn 118 118 (stm 37),co 118 884 118 885 886 224 1 0 0 3 540 true 541 u (r 542) (r 543) (r 544) 888 224 889,fo 4 118 118 (stm 37) 3 [] .none .none .none 5 493 545,sq 0 #[f 155 894,f 100 895],fn 175 175 (stm 38),co 175 891 175 892 893 227 1 0 0 3 547 true 548 u (r 549) (r 550) (r 551) 896 227 897,fo 4 175 175 (stm 38) 3 [] .none .none .none 5 493 552,sq 0 #[f 167 908],fn 6 6 (stm 42),co 6 905 6 906 907 235 1 0 0 3 554 true 555 u (r 556) (r 557) (r 558) 909 235 910,fo 4 6 6 (stm 42) 3 [] .none .none .none 264 899 559,sq 0 #[f 167 915],fn 178 178 (stm 43),co 178 912 178 913 914 237 1 0 0 3 561 true 562 u (r 563) (r 564) (r 565) 916 237 917,fo 4 178 178 (stm 43) 3 [] .none .none .none 264 899 566,sq 0 #[f 198 922],fn 179 179 (stm 44),co 179 919 179 920 921 243 1 0 0 3 568 true 569 u (r 570) (r 571) (r 572) 923 243 924,fo 4 179 179 (stm 44) 3 [] .none .none .none 264 899 573,sq 0 #[f 199 929],fn 180 180 (stm 45),co 180 926 180 927 928 246 1 0 0 3 575 true 576 u (r 577) (r 578) (r 579) 930 246 931,fo 4 180 180 (stm 45) 3 [] .none .none .none 264 899 580,sq 0 #[f 196 936],fn 0 0 (stm 46),co 0 933 0 934 935 249 1 0 0 3 582 true 583 u (r 584) (r 585) (r 586) 937 249 938,fo 4 0 0 (stm 46) 3 [] .none .none .none 264 899 587,sq 0 #[f 196 943],fn 129 129 (stm 47),co 129 940 129 941 942 252 1 0 0 3 589 true 590 u (r 591) (r 592) (r 593) 944 252 945,fo 4 129 129 (stm 47) 3 [] .none .none .none 264 899 594,(384,52,d 105 968 (r 605)),(385,u,i 256,i 0,r 601),(u,4,d 19 956 (f 15 947),d 21 958 (f 105 957),d 23 960 (j 256 959),d 24 961 (r 603)),co 105 951 105 952 953 256 0 0 0 0 599 false 600 u u u u 954 256 955,Obj.mk (.type (t 17)) none .plain #[some (r 601),some (r 3),some (r 598),none,some (f 15 947),none,some (r 0)],(420,4,1*d 23 960 (j 256 959),2*d 24 961 (r 603),3*d 99 963 (r 606),d 2 965 (r 607),d 35 966 .none),Obj.mk (.type (t 8)) none (.cls (ClassData.mk (s 105) [(T 15)] [(r 605),(T 15)] 604 (s 105) true [] [] false none false)) #[none,none,some (f 105 949),some (f 105 957),some (bi 18),some (.bool true)],ob 2 #[f 99 962,r 605,bi 19,bi 20],ob 2 #[f 2 964,r 605,bi 3,u],ob 5 #[r 605,r 605,r 605],ob 6 #[bi 11,r 605],(418,53,d 181 1000 (r 633)),(419,u,i 258,i 0,r 615),Obj.mk (.type (t 8)) none (.cls (ClassData.mk (s 105) [(T 15)] [(r 605),(T 15)] 604 (s 105) true [] [(r 633)] false none false)) #[none,none,some (f 105 949),some (f 105 957),some (bi 18),some (.bool true)],sq 0 #[r 605],(u,6,d 19 976 (f 15 947),d 21 978 (f 181 977),d 23 980 (j 258 979),d 13 989 (r 623),d 7 996 (r 630),d 24 997 (r 631)),(u,u,i 260,i 4,r 622,i 263,i 4,r 629),co 181 971 181 972 973 258 0 0 0 0 613 false 614 u u u u 974 258 975,Obj.mk (.type (t 17)) none .plain #[some (r 615),some (r 3),some (r 612),none,some (f 15 947),none,some (r 0)],sq 0 #[f 11 984,f 246 985,f 198 986],fn 13 107 (aI (stm 50) 0),co 13 981 107 982 983 260 3 0 0 3 617 true 618 u (r 619) (r 620) (r 621) 987 260 988,fo 4 13 107 (aI (stm 50) 0) 3 [] .none .none .none 15 947 622,sq 0 #[f 11 993],fn 7 243 (aI (stm 50) 1),co 7 990 243 991 992 263 1 0 0 3 624 true 625 u (r 626) (r 627) (r 628) 994 263 995,fo 4 7 243 (aI (stm 50) 1) 3 [] .none .none .none 15 947 629,(433,2,1*d 23 980 (j 258 979),2*d 13 989 (r 623),3*d 7 996 (r 630),4*d 24 997 (r 631),5*d 35 998 .none),Obj.mk (.type (t 8)) none (.cls (ClassData.mk (s 181) [(r 605)] [(r 633),(r 605),(T 15)] 632 (s 181) true [] [] false none false)) #[some (r 610),none,some (f 181 969),some (f 181 977),some (bi 18),some (.bool true)],ob 5 #[r 633,r 633,r 633],ob 6 #[bi 11,r 633],(429,54,d 172 1041 (r 666)),(430,u,i 265,i 0,r 641),Obj.mk (.type (t 8)) none (.cls (ClassData.mk (s 105) [(T 15)] [(r 605),(T 15)] 604 (s 105) true [] [(r 633),(r 666)] false none false)) #[none,none,some (f 105 949),some (f 105 957),some (bi 18),some (.bool true)],(u,7,d 19 1008 (f 15 947),d 21 1010 (f 172 1009),d 23 1012 (j 265 1011),d 3 1020 (r 649),d 13 1029 (r 656),d 7 1036 (r 663),d 24 1038 (r 664)),(u,u,i 267,i 4,r 648,i 271,i 4,r 655,i 274,i 4,r 662),co 172 1003 172 1004 1005 265 0 0 0 0 639 false 640 u u u u 1006 265 1007,Obj.mk (.type (t 17)) none .plain #[some (r 641),some (r 3),some (r 638),none,some (f 15 947),none,some (r 0)],sq 0 #[f 11 1016,f 196 1017],fn 3 79 (aI (stm 51) 0),co 3 1013 79 1014 1015 267 2 0 0 3 643 true 644 u (r 645) (r 646) (r 647) 1018 267 1019,fo 4 3 79 (aI (stm 51) 0) 3 [] .none .none .none 15 947 648,sq 0 #[f 11 1024,f 246 1025,f 198 1026],fn 13 237 (aI (stm 51) 1),co 13 1021 237 1022 1023 271 3 0 0 3 650 true 651 u (r 652) (r 653) (r 654) 1027 271 1028,fo 4 13 237 (aI (stm 51) 1) 3 [] .none .none .none 15 947 655,sq 0 #[f 11 1033],fn 7 124 (aI (stm 51) 2),co 7 1030 124 1031 1032 274 1 0 0 3 657 true 658 u (r 659) (r 660) (r 661) 1034 274 1035,fo 4 7 124 (aI (stm 51) 2) 3 [] .none .none .none 15 947 662,sq 0 #[f 196 1037],(452,2,1*d 23 1012 (j 265 1011),2*d 3 1020 (r 649),3*d 13 1029 (r 656),4*d 7 1036 (r 663),5*d 24 1038 (r 664),6*d 35 1039 .none),Obj.mk (.type (t 8)) none (.cls (ClassData.mk (s 172) [(r 605)] [(r 666),(r 605),(T 15)] 665 (s 172) true [] [] false none false)) #[some (r 636),none,some (f 172 1001),some (f 172 1009),some (bi 18),some (.bool true)],ob 5 #[r 666,r 666,r 666],ob 6 #[bi 11,r 666],(449,55,d 125 1082 (r 699)),(450,u,i 276,i 0,r 674),Obj.mk (.type (t 8)) none (.cls (ClassData.mk (s 105) [(T 15)] [(r 605),(T 15)] 604 (s 105) true [] [(r 633),(r 666),(r 699)] false none false)) #[none,none,some (f 105 949),some (f 105 957),some (bi 18),some (.bool true)],(u,7,d 19 1049 (f 15 947),d 21 1051 (f 125 1050),d 23 1053 (j 276 1052),d 3 1061 (r 682),d 13 1070 (r 689),d 7 1077 (r 696),d 24 1079 (r 697)),(u,u,i 278,i 4,r 681,i 282,i 4,r 688,i 285,i 4,r 695),co 125 1044 125 1045 1046 276 0 0 0 0 672 false 673 u u u u 1047 276 1048,Obj.mk (.type (t 17)) none .plain #[some (r 674),some (r 3),some (r 671),none,some (f 15 947),none,some (r 0)],sq 0 #[f 11 1057,f 196 1058],fn 3 130 (aI (stm 52) 0),co 3 1054 130 1055 1056 278 2 0 0 3 676 true 677 u (r 678) (r 679) (r 680) 1059 278 1060,fo 4 3 130 (aI (stm 52) 0) 3 [] .none .none .none 15 947 681,sq 0 #[f 11 1065,f 246 1066,f 198 1067],fn 13 209 (aI (stm 52) 1),co 13 1062 209 1063 1064 282 3 0 0 3 683 true 684 u (r 685) (r 686) (r 687) 1068 282 1069,fo 4 13 209 (aI (stm 52) 1) 3 [] .none .none .none 15 947 688,sq 0 #[f 11 1074],fn 7 8 (aI (stm 52) 2),co 7 1071 8 1072 1073 285 1 0 0 3 690 true 691 u (r 692) (r 693) (r 694) 1075 285 1076,fo 4 7 8 (aI (stm 52) 2) 3 [] .none .none .none 15 947 695,sq 0 #[f 196 1078],(476,2,1*d 23 1053 (j 276 1052),2*d 3 1061 (r 682),3*d 13 1070 (r 689),4*d 7 1077 (r 696),5*d 24 1079 (r 697),6*d 35 1080 .none),Obj.mk (.type (t 8)) none (.cls (ClassData.mk (s 125) [(r 605)] [(r 699),(r 605),(T 15)] 698 (s 125) true [] [] false none false)) #[some (r 669),none,some (f 125 1042),some (f 125 1050),some (bi 18),some (.bool true)],ob 5 #[r 699,r 699,r 699],ob 6 #[bi 11,r 699],(473,56,0*d 34 165 (f 20 1115),d 82 1114 (r 725)),(474,u,i 287,i 0,r 707),Obj.mk (.type (t 8)) none (.cls (ClassData.mk (s 105) [(T 15)] [(r 605),(T 15)] 604 (s 105) true [] [(r 633),(r 666),(r 699),(r 725)] false none false)) #[none,none,some (f 105 949),some (f 105 957),some (bi 18),some (.bool true)],(u,6,d 19 1090 (f 15 947),d 21 1092 (f 82 1091),d 23 1094 (j 287 1093),d 13 1103 (r 715),d 7 1110 (r 722),d 24 1111 (r 723)),(u,u,i 289,i 4,r 714,i 292,i 4,r 721),co 82 1085 82 1086 1087 287 0 0 0 0 705 false 706 u u u u 1088 287 1089,Obj.mk (.type (t 17)) none .plain #[some (r 707),some (r 3),some (r 704),none,some (f 15 947),none,some (r 0)],sq 0 #[f 11 1098,f 246 1099,f 198 1100],fn 13 14 (aI (stm 53) 0),co 13 1095 14 1096 1097 289 3 0 0 3 709 true 710 u (r 711) (r 712) (r 713) 1101 289 1102,fo 4 13 14 (aI (stm 53) 0) 3 [] .none .none .none 15 947 714,sq 0 #[f 11 1107],fn 7 215 (aI (stm 53) 1),co 7 1104 215 1105 1106 292 1 0 0 3 716 true 717 u (r 718) (r 719) (r 720) 1108 292 1109,fo 4 7 215 (aI (stm 53) 1) 3 [] .none .none .none 15 947 721,(500,2,1*d 23 1094 (j 287 1093),2*d 13 1103 (r 715),3*d 7 1110 (r 722),4*d 24 1111 (r 723),5*d 35 1112 .none),Obj.mk (.type (t 8)) none (.cls (ClassData.mk (s 82) [(r 605)] [(r 725),(r 605),(T 15)] 724 (s 82) true [] [] false none false)) #[some (r 702),none,some (f 82 1083),some (f 82 1091),some (bi 18),some (.bool true)],ob 5 #[r 725,r 725,r 725],ob 6 #[bi 11,r 725],(497,57,d 22 1149 (r 745)),(498,u,i 295,i 0,r 733),(u,5,d 19 1124 (f 20 1115),d 21 1126 (f 22 1125),d 23 1128 (j 295 1127),d 3 1138 (r 742),d 24 1142 (r 743)),(u,u,i 297,i 4,r 741),co 22 1119 22 1120 1121 295 0 0 0 0 731 false 732 u u u u 1122 295 1123,Obj.mk (.type (t 17)) none .plain #[some (r 733),some (r 3),some (r 730),none,some (f 20 1115),none,some (r 0)],sq 0 #[u],sq 0 #[f 11 1132,f 138 1133,f 139 1134,f 140 1135],fn 3 250 (aI (stm 55) 0),co 3 1129 250 1130 1131 297 4 0 0 3 736 true 737 u (r 738) (r 739) (r 740) 1136 297 1137,fo 4 3 250 (aI (stm 55) 0) 3 [] (r 735) .none .none 20 1115 741,sq 0 #[f 138 1139,f 139 1140,f 140 1141],(518,4,1*d 23 1128 (j 295 1127),2*d 3 1138 (r 742),3*d 24 1142 (r 743),4*d 99 1144 (r 746),d 2 1146 (r 747),d 35 1147 .none),Obj.mk (.type (t 8)) none (.cls (ClassData.mk (s 22) [(T 15)] [(r 745),(T 15)] 744 (s 22) true [] [] false none false)) #[none,none,some (f 22 1117),some (f 22 1125),some (bi 18),some (.bool true)],ob 2 #[f 99 1143,r 745,bi 19,bi 20],ob 2 #[f 2 1145,r 745,bi 3,u],ob 5 #[r 745,r 745,r 745],ob 6 #[bi 11,r 745],(516,59,d 142 1186 (r 767),d 119 1196 (r 778)),(517,u,i 307,i 0,r 755,i 326,i 0,r 777),(u,5,d 19 1157 (f 20 1115),d 21 1159 (f 142 1158),d 23 1161 (j 307 1160),d 3 1173 (r 764),d 24 1179 (r 765)),(u,u,i 309,i 4,r 763),co 142 1152 142 1153 1154 307 0 0 0 0 753 false 754 u u u u 1155 307 1156,Obj.mk (.type (t 17)) none .plain #[some (r 755),some (r 3),some (r 752),none,some (f 20 1115),none,some (r 0)],sq 0 #[.bool false,u],sq 0 #[f 11 1165,f 100 1166,f 220 1167,f 221 1168,f 222 1169,f 223 1170],fn 3 217 (aI (stm 56) 0),co 3 1162 217 1163 1164 309 6 0 0 3 758 true 759 u (r 760) (r 761) (r 762) 1171 309 1172,fo 4 3 217 (aI (stm 56) 0) 3 [] (r 757) .none .none 20 1115 763,sq 0 #[f 100 1174,f 223 1175,f 221 1176,f 222 1177,f 220 1178],(536,4,1*d 23 1161 (j 307 1160),2*d 3 1173 (r 764),3*d 24 1179 (r 765),4*d 99 1181 (r 768),d 2 1183 (r 769),d 35 1184 .none),Obj.mk (.type (t 8)) none (.cls (ClassData.mk (s 142) [(T 15)] [(r 767),(T 15)] 766 (s 142) true [] [] false none false)) #[none,none,some (f 142 1150),some (f 142 1158),some (bi 18),some (.bool true)],ob 2 #[f 99 1180,r 767,bi 19,bi 20],ob 2 #[f 2 1182,r 767,bi 3,u],ob 5 #[r 767,r 767,r 767],ob 6 #[bi 11,r 767],sq 0 #[f 220 1190,f 221 1191,f 222 1192,f 223 1193],fn 119 119 (stm 57),co 119 1187 119 1188 1189 326 4 0 0 3 772 true 773 u (r 774) (r 775) (r 776) 1194 326 1195,fo 4 119 119 (stm 57) 3 [] .none .none .none 20 1115 777,(534,61,d 182 1263 (r 824),d 183 1271 (r 835)),(535,u,i 332,i 0,r 784,i 355,i 0,r 834),(u,9,d 19 1204 (f 20 1115),d 21 1206 (f 182 1205),d 23 1208 (j 332 1207),d 3 1220 (r 793),d 108 1228 (r 800),d 109 1236 (r 807),d 110 1244 (r 814),d 111 1251 (r 821),d 24 1256 (r 822)),(u,u,i 334,i 4,r 792,i 344,i 4,r 799,i 347,i 4,r 806,i 350,i 4,r 813,i 353,i 4,r 820),co 182 1199 182 1200 1201 332 0 0 0 0 782 false 783 u u u u 1202 332 1203,Obj.mk (.type (t 17)) none .plain #[some (r 784),some (r 3),some (r 781),none,some (f 20 1115),none,some (r 0)],sq 0 #[j 0 1209,u,u,u],sq 0 #[f 11 1213,f 198 1214,f 199 1215,f 200 1216,f 203 1217],fn 3 150 (aI (stm 58) 0),co 3 1210 150 1211 1212 334 5 0 0 3 787 true 788 u (r 789) (r 790) (r 791) 1218 334 1219,fo 4 3 150 (aI (stm 58) 0) 3 [] (r 786) .none .none 20 1115 792,sq 0 #[f 11 1224,f 135 1225],fn 108 166 (aI (stm 58) 1),co 108 1221 166 1222 1223 344 2 0 0 3 794 true 795 u (r 796) (r 797) (r 798) 1226 344 1227,fo 4 108 166 (aI (stm 58) 1) 3 [] .none .none .none 20 1115 799,sq 0 #[f 11 1232,f 135 1233],fn 109 244 (aI (stm 58) 2),co 109 1229 244 1230 1231 347 2 0 0 3 801 true 802 u (r 803) (r 804) (r 805) 1234 347 1235,fo 4 109 244 (aI (stm 58) 2) 3 [] .none .none .none 20 1115 806,sq 0 #[f 11 1240,f 253 1241],fn 110 239 (aI (stm 58) 3),co 110 1237 239 1238 1239 350 2 0 0 3 808 true 809 u (r 810) (r 811) (r 812) 1242 350 1243,fo 4 110 239 (aI (stm 58) 3) 3 [] .none .none .none 20 1115 813,sq 0 #[f 11 1248],fn 111 225 (aI (stm 58) 4),co 111 1245 225 1246 1247 353 1 0 0 3 815 true 816 u (r 817) (r 818) (r 819) 1249 353 1250,fo 4 111 225 (aI (stm 58) 4) 3 [] .none .none .none 20 1115 820,sq 0 #[f 203 1252,f 199 1253,f 200 1254,f 198 1255],(558,4,1*d 23 1208 (j 332 1207),2*d 3 1220 (r 793),3*d 108 1228 (r 800),4*d 109 1236 (r 807),5*d 110 1244 (r 814),6*d 111 1251 (r 821),7*d 24 1256 (r 822),8*d 99 1258 (r 825),d 2 1260 (r 826),d 35 1261 .none),Obj.mk (.type (t 8)) none (.cls (ClassData.mk (s 182) [(T 15)] [(r 824),(T 15)] 823 (s 182) true [] [] false none false)) #[none,none,some (f 182 1197),some (f 182 1205),some (bi 18),some (.bool true)],ob 2 #[f 99 1257,r 824,bi 19,bi 20],ob 2 #[f 2 1259,r 824,bi 3,u],ob 5 #[r 824,r 824,r 824],ob 6 #[bi 11,r 824],sq 0 #[f 200 1267,f 199 1268],fn 183 183 (stm 59),co 183 1264 183 1265 1266 355 2 0 0 3 829 true 830 u (r 831) (r 832) (r 833) 1269 355 1270,fo 4 183 183 (stm 59) 3 [] .none .none .none 20 1115 834,(556,67,0*d 34 165 (f 27 1278),d 184 1277 (r 840),d 26 1286 (r 847),d 185 1296 (r 854),d 186 1326 (r 871),d 146 1335 (r 882),d 187 1344 (r 889)),(557,u,i 360,i 0,r 839,i 366,i 0,r 846,i 368,i 0,r 853,i 376,i 0,r 860,i 381,i 0,r 881,i 387,i 0,r 888),fn 184 184 (stm 60),co 184 1272 184 1273 1274 360 1 0 0 3 836 true 837 u u u (r 838) 1275 360 1276,fo 4 184 184 (stm 60) 3 [] .none .none .none 20 1115 839,sq 0 #[f 151 1283],fn 26 26 (stm 62),co 26 1280 26 1281 1282 366 1 0 0 3 841 true 842 u (r 843) (r 844) (r 845) 1284 366 1285,fo 4 26 26 (stm 62) 3 [] .none .none .none 27 1278 846,sq 0 #[f 151 1290,f 213 1291,f 101 1292,f 214 1293],fn 185 185 (stm 63),co 185 1287 185 1288 1289 368 2 0 0 3 848 true 849 u (r 850) (r 851) (r 852) 1294 368 1295,fo 4 185 185 (stm 63) 3 [] .none .none .none 27 1278 853,(u,5,d 19 1304 (f 27 1278),d 21 1306 (f 186 1305),d 23 1308 (j 376 1307),d 3 1316 (r 868),d 24 1319 (r 869)),(u,u,i 378,i 4,r 867),co 186 1299 186 1300 1301 376 0 0 0 0 858 false 859 u u u u 1302 376 1303,Obj.mk (.type (t 17)) none .plain #[some (r 860),some (r 3),some (r 857),none,some (f 27 1278),none,some (r 0)],sq 0 #[f 11 1312,f 211 1313],fn 3 106 (aI (stm 64) 0),co 3 1309 106 1310 1311 378 2 0 0 3 862 true 863 u (r 864) (r 865) (r 866) 1314 378 1315,fo 4 3 106 (aI (stm 64) 0) 3 [] .none .none .none 27 1278 867,sq 0 #[f 210 1317,f 211 1318],(607,4,1*d 23 1308 (j 376 1307),2*d 3 1316 (r 868),3*d 24 1319 (r 869),4*d 99 1321 (r 872),d 2 1323 (r 873),d 35 1324 .none),Obj.mk (.type (t 8)) none (.cls (ClassData.mk (s 186) [(T 15)] [(r 871),(T 15)] 870 (s 186) true [] [] false none false)) #[none,none,some (f 186 1297),some (f 186 1305),some (bi 18),some (.bool true)],ob 2 #[f 99 1320,r 871,bi 19,bi 20],ob 2 #[f 2 1322,r 871,bi 3,u],ob 5 #[r 871,r 871,r 871],ob 6 #[bi 11,r 871],sq 0 #[f 101 1330,f 102 1331,f 100 1332],fn 146 146 (stm 65),co 146 1327 146 1328 1329 381 1 0 0 3 876 true 877 u (r 878) (r 879) (r 880) 1333 381 1334,fo 4 146 146 (stm 65) 3 [] .none .none .none 27 1278 881,sq 0 #[f 101 1339,f 102 1340,f 16 1341],fn 187 187 (stm 66),co 187 1336 187 1337 1338 387 2 0 0 3 883 true 884 u (r 885) (r 886) (r 887) 1342 387 1343,fo 4 187 187 (stm 66) 3 [] .none .none .none 27 1278 888,(594,80,0*d 34 165 (f 114 1415),d 188 1354 (r 896),d 165 1363 (r 903),d 189 1370 (r 910),d 131 1378 (r 917),d 168 1388 (r 924),d 190 1400 (r 931),d 191 1401 (r 931),d 25 1414 (r 938),d 192 1422 (r 943),d 193 1428 (r 948),d 116 1434 (r 953),d 194 1446 (r 960),d 195 1456 (r 967)),(595,u,i 401,i 0,r 895,i 410,i 0,r 902,i 418,i 0,r 909,i 426,i 0,r 916,i 437,i 0,r 923,i 442,i 0,r 930,i 454,i 0,r 937,i 472,i 0,r 942,i 474,i 0,r 947,i 476,i 0,r 952,i 478,i 0,r 959,i 490,i 0,r 966),sq 0 #[f 100 1348,f 101 1349,f 102 1350,f 103 1351],fn 188 188 (stm 67),co 188 1345 188 1346 1347 401 3 0 0 3 890 true 891 u (r 892) (r 893) (r 894) 1352 401 1353,fo 4 188 188 (stm 67) 3 [] .none .none .none 27 1278 895,sq 0 #[f 249 1358,f 101 1359,f 16 1360],fn 165 165 (stm 68),co 165 1355 165 1356 1357 410 2 0 0 3 897 true 898 u (r 899) (r 900) (r 901) 1361 410 1362,fo 4 165 165 (stm 68) 3 [] .none .none .none 27 1278 902,sq 0 #[f 102 1367],fn 189 189 (stm 69),co 189 1364 189 1365 1366 418 1 0 0 3 904 true 905 u (r 906) (r 907) (r 908) 1368 418 1369,fo 4 189 189 (stm 69) 3 [] .none .none .none 27 1278 909,sq 0 #[f 101 1374,f 16 1375],fn 131 131 (stm 70),co 131 1371 131 1372 1373 426 1 0 0 3 911 true 912 u (r 913) (r 914) (r 915) 1376 426 1377,fo 4 131 131 (stm 70) 3 [] .none .none .none 27 1278 916,sq 0 #[f 101 1382,f 138 1383,f 139 1384,f 140 1385],fn 168 168 (stm 71),co 168 1379 168 1380 1381 437 1 0 0 3 918 true 919 u (r 920) (r 921) (r 922) 1386 437 1387,fo 4 168 168 (stm 71) 3 [] .none .none .none 27 1278 923,sq 0 #[f 101 1392,f 100 1393,f 220 1394,f 221 1395,f 222 1396,f 223 1397],fn 190 190 (stm 72),co 190 1389 190 1390 1391 442 1 0 0 3 925 true 926 u (r 927) (r 928) (r 929) 1398 442 1399,fo 4 190 190 (stm 72) 3 [] .none .none .none 27 1278 930,sq 0 #[f 101 1405,f 198 1406,f 199 1407,f 200 1408,f 201 1409,f 202 1410,f 203 1411],fn 25 25 (stm 74),co 25 1402 25 1403 1404 454 1 0 0 3 932 true 933 u (r 934) (r 935) (r 936) 1412 454 1413,fo 4 25 25 (stm 74) 3 [] .none .none .none 27 1278 937,fn 192 192 (stm 76),co 192 1417 192 1418 1419 472 1 0 0 3 939 true 940 u u u (r 941) 1420 472 1421,fo 4 192 192 (stm 76) 3 [] .none .none .none 114 1415 942,fn 193 193 (stm 77),co 193 1423 193 1424 1425 474 1 0 0 3 944 true 945 u u u (r 946) 1426 474 1427,fo 4 193 193 (stm 77) 3 [] .none .none .none 114 1415 947,fn 116 116 (stm 78),co 116 1429 116 1430 1431 476 1 0 0 3 949 true 950 u u u (r 951) 1432 476 1433,fo 4 116 116 (stm 78) 3 [] .none .none .none 114 1415 952,sq 0 #[f 151 1438,f 252 1439,f 203 1440,f 253 1441,f 254 1442,f 206 1443],fn 194 194 (stm 79),co 194 1435 194 1436 1437 478 1 0 0 3 954 true 955 u (r 956) (r 957) (r 958) 1444 478 1445,fo 4 194 194 (stm 79) 3 [] .none .none .none 114 1415 959,sq 0 #[f 151 1450,f 213 1451,f 101 1452,f 206 1453],fn 195 195 (stm 80),co 195 1447 195 1448 1449 490 2 0 0 3 961 true 962 u (r 963) (r 964) (r 965) 1454 490 1455,fo 4 195 195 (stm 80) 3 [] .none .none .none 114 1415 966,(630,92,0*d 34 165 (f 30 1502),72*d 190 1400 (r 974),d 226 1464 (r 974),d 113 1476 (r 981),d 205 1485 (r 988),d 204 1493 (r 995),d 224 1501 (r 1002),d 152 1511 (r 1009),d 227 1518 (r 1016),d 78 1528 (r 1023),d 207 1534 (r 1028),d 164 1542 (r 1035),d 81 1555 (r 1042),d 141 1561 (r 1047)),(631,u,i 495,i 0,r 973,i 502,i 0,r 980,i 511,i 0,r 987,i 516,i 0,r 994,i 531,i 0,r 1001,i 536,i 0,r 1008,i 540,i 0,r 1015,i 542,i 0,r 1022,i 552,i 0,r 1027,i 563,i 0,r 1034,i 567,i 0,r 1041,i 582,i 0,r 1046),sq 0 #[f 101 1460],fn 190 190 (stm 81),co 190 1457 190 1458 1459 495 1 0 0 3 968 true 969 u (r 970) (r 971) (r 972) 1461 495 1462,fo 4 190 190 (stm 81) 3 [] .none .none .none 114 1415 973,sq 0 #[f 101 1468,f 246 1469,f 258 1470,f 16 1471,f 259 1472,f 260 1473],fn 113 113 (stm 83),co 113 1465 113 1466 1467 502 1 0 0 3 975 true 976 u (r 977) (r 978) (r 979) 1474 502 1475,fo 4 113 113 (stm 83) 3 [] .none .none .none 114 1415 980,sq 0 #[f 101 1480,f 266 1481,f 267 1482],fn 205 205 (stm 84),co 205 1477 205 1478 1479 511 1 0 0 3 982 true 983 u (r 984) (r 985) (r 986) 1483 511 1484,fo 4 205 205 (stm 84) 3 [] .none .none .none 114 1415 987,sq 0 #[f 101 1489,f 16 1490],fn 204 204 (stm 85),co 204 1486 204 1487 1488 516 1 0 0 3 989 true 990 u (r 991) (r 992) (r 993) 1491 516 1492,fo 4 204 204 (stm 85) 3 [] .none .none .none 114 1415 994,sq 0 #[f 101 1497,f 151 1498],fn 224 224 (stm 86),co 224 1494 224 1495 1496 531 1 0 0 3 996 true 997 u (r 998) (r 999) (r 1000) 1499 531 1500,fo 4 224 224 (stm 86) 3 [] .none .none .none 114 1415 1001,sq 0 #[f 271 1507,f 272 1508],fn 152 152 (stm 88),co 152 1504 152 1505 1506 536 2 0 0 3 1003 true 1004 u (r 1005) (r 1006) (r 1007) 1509 536 1510,fo 4 152 152 (stm 88) 3 [] .none .none .none 30 1502 1008,sq 0 #[f 268 1515],fn 227 227 (stm 89),co 227 1512 227 1513 1514 540 1 0 0 3 1010 true 1011 u (r 1012) (r 1013) (r 1014) 1516 540 1517,fo 4 227 227 (stm 89) 3 [] .none .none .none 30 1502 1015,sq 0 #[f 157 1522,f 274 1523,f 162 1524,f 275 1525],fn 78 78 (stm 90),co 78 1519 78 1520 1521 542 2 0 0 3 1017 true 1018 u (r 1019) (r 1020) (r 1021) 1526 542 1527,fo 4 78 78 (stm 90) 3 [] .none .none .none 30 1502 1022,fn 207 207 (stm 91),co 207 1529 207 1530 1531 552 1 0 0 3 1024 true 1025 u u u (r 1026) 1532 552 1533,fo 4 207 207 (stm 91) 3 [] .none .none .none 30 1502 1027,sq 0 #[f 157 1538,f 256 1539],fn 164 164 (stm 92),co 164 1535 164 1536 1537 563 1 0 0 3 1029 true 1030 u (r 1031) (r 1032) (r 1033) 1540 563 1541,fo 4 164 164 (stm 92) 3 [] .none .none .none 30 1502 1034,sq 0 #[f 157 1546,f 158 1547,f 159 1548,f 160 1549,f 161 1550,f 162 1551,f 163 1552],fn 81 81 (stm 93),co 81 1543 81 1544 1545 567 1 0 0 3 1036 true 1037 u (r 1038) (r 1039) (r 1040) 1553 567 1554,fo 4 81 81 (stm 93) 3 [] .none .none .none 30 1502 1041,fn 141 141 (stm 94),co 141 1556 141 1557 1558 582 1 0 0 3 1043 true 1044 u u u (r 1045) 1559 582 1560,fo 4 141 141 (stm 94) 3 [] .none .none .none 30 1502 1046,(677,98,d 29 1569 (r 1054),d 228 1576 (r 1061),d 137 1582 (r 1066),d 104 1588 (r 1071),d 229 1594 (r 1076),d 230 1600 (r 1081)),(678,u,i 590,i 0,r 1053,i 595,i 0,r 1060,i 597,i 0,r 1065,i 616,i 0,r 1070,i 621,i 0,r 1075,i 625,i 0,r 1080),sq 0 #[f 157 1565,f 257 1566],fn 29 29 (stm 95),co 29 1562 29 1563 1564 590 1 0 0 3 1048 true 1049 u (r 1050) (r 1051) (r 1052) 1567 590 1568,fo 4 29 29 (stm 95) 3 [] .none .none .none 30 1502 1053,sq 0 #[f 157 1573],fn 228 228 (stm 96),co 228 1570 228 1571 1572 595 1 0 0 3 1055 true 1056 u (r 1057) (r 1058) (r 1059) 1574 595 1575,fo 4 228 228 (stm 96) 3 [] .none .none .none 30 1502 1060,fn 137 137 (stm 97),co 137 1577 137 1578 1579 597 2 0 0 3 1062 true 1063 u u u (r 1064) 1580 597 1581,fo 4 137 137 (stm 97) 3 [] .none .none .none 30 1502 1065,fn 104 104 (stm 98),co 104 1583 104 1584 1585 616 1 0 0 3 1067 true 1068 u u u (r 1069) 1586 616 1587,fo 4 104 104 (stm 98) 3 [] .none .none .none 30 1502 1070,fn 229 229 (stm 99),co 229 1589 229 1590 1591 621 1 0 0 3 1072 true 1073 u u u (r 1074) 1592 621 1593,fo 4 229 229 (stm 99) 3 [] .none .none .none 30 1502 1075,fn 230 230 (stm 100),co 230 1595 230 1596 1597 625 1 0 0 3 1077 true 1078 u u u (r 1079) 1598 625 1599,fo 4 230 230 (stm 100) 3 [] .none .none .none 30 1502 1080,Obj.mk .none none (.dict #[] 0) #[])
#check (1,(47,0-14),(1,46,Life.mk [] [] [] 0 [] [] false #[] [] 0 false false false 0 [2000,10,10] false 0 true [] [] 0 false),(70,3*15,12*16,11,12,17,11,18-23,11,12,24,25,11,26-30),(85,3*31,12*32,31*33,34,22,35,11,12,36,37,11,38-41),(100,3*42,12*43,31*44,34,22,45,11,12,46,47,11,48-51),(115,3*52,12*53,31*54,34,22,55,11,12,56,57,11,58-61),(164,3*62,12*63,31*64,34,22,65,11,66-69,11,12,70,11,71-78,11,12,79,11,80-82,11,12,83,11,84-86,11,12,87,11,88-90,11,12,91-93),(183,3*94,12*95,11,12,96-98,11,12,99-101,11,12,102,11,103-105),(382,12*107,11,22,175,11,176,110,111,11,12,112,11,113-115,11,12,116,11,117-119,11,12,120,11,121-123,11,12,124,11,125-127,11,12,128,11,129-131,11,12,132,11,133-135,11,12,136,11,137-139,11,12,140,11,141-143,11,12,144,11,145-147,11,12,148,11,149-151,11,12,152,11,153-155),(297,3*106,136*108,138*109,11,12,156,11,157-159,11,12,160,11,161-163,11,12,164,11,165-174),(401,3*177,12*178,11,22,179,11,12,180,181,11,182-187),(437,3*188,12*189,255*190,191,22,192,11,193-195,11,12,196,11,197-199,11,12,200,11,201-203,11,12,204,11,205-207,11,208-211),(480,3*212,12*213,255*214,191,22,215,11,216-218,11,12,219,11,220-222,11,12,223,11,224-226,11,12,227,11,228-230,11,12,231,11,232-239),(523,3*240,12*241,255*242,191,22,243,11,244-246,11,12,247,11,248-250,11,12,251,11,252-254,11,12,255,11,256-258,11,12,259,11,260-267),(566,3*268,12*269,255*270,191,22,271,11,272-274,11,12,275,11,276-278,11,12,279,11,280-282,11,12,283,11,284-286,11,12,287,11,288-295),(609,3*296,12*297,255*298,191,22,299,11,300-302,11,12,303,11,304-306,11,12,307,11,308-310,11,12,311,11,312-314,11,12,315,11,316-323),(652,3*324,12*325,255*326,191,22,327,11,328-330,11,12,331,11,332-334,11,12,335,11,336-338,11,12,339,11,340-342,11,12,343,11,344-351),(702,3*352,12*353,255*354,191,22,355,11,356-358,11,12,359,11,360-362,11,12,363,11,364-366,11,12,367,11,368-370,11,12,371,11,372-379,11,12,380,11,381-383),(760,3*384,12*385,11,12,386,11,387-389,11,12,390,11,391-393,11,12,394,11,395-397,11,12,398,11,399-401,11,12,402,11,403-405,11,12,406,11,407-409,11,12,410,11,411-413,11,12,414,11,415-417),(776,3*418,12*419,11,22,420,11,12,421,422,11,423-428),(805,3*429,12*430,605*431,432,22,433,11,434-436,11,12,437,11,438-440,11,12,441,11,442-444,11,445-448),(841,3*449,12*450,605*451,432,22,452,11,453-455,11,12,456,11,457-459,11,12,460,11,461-463,11,12,464,11,465-472),(877,3*473,12*474,605*475,432,22,476,11,477-479,11,12,480,11,481-483,11,12,484,11,485-487,11,12,488,11,489-496),(906,3*497,12*498,605*499,432,22,500,11,501-503,11,12,504,11,505-507,11,12,508,11,509-511,11,512-515),(930,3*516,12*517,11,22,518,11,519-522,11,12,523,11,524-533),(961,3*534,12*535,11,22,536,11,537-540,11,12,541,11,542-551,11,12,552,11,553-555),(1020,3*556,12*557,11,22,558,11,559-562,11,12,563,11,564-566,11,12,567,11,568-570,11,12,571,11,572-574,11,12,575,11,576-578,11,12,579,11,580-589,11,12,590,11,591-593),(1076,3*594,12*595,11,12,596-598,11,12,599,11,600-602,11,12,603,11,604-606,11,22,607,11,608-610,11,12,611,11,612-621,11,12,622,11,623-625,11,12,626,11,627-629),(1156,3*630,12*631,11,12,632,11,633-635,11,12,636,11,637-639,11,12,640,11,641-643,11,12,644,11,645-647,11,12,648,11,649-651,11,12,652,11,653-655,11,12,656,11,657-659,11,12,660-662,11,12,663-665,11,12,666-668,11,12,669,11,670-672,11,12,673,11,674-676),(1238,3*677,12*678,11,12,679,11,680-682,11,12,683,11,684-686,11,12,687,11,688-690,11,12,691,11,692-694,11,12,695,11,696-698,11,12,699,11,700-702,11,12,703,11,704-706,11,12,707,11,708-710,11,12,711-713,11,12,714,11,715-717,11,12,718,11,719-721,11,12,722-724),(1274,3*725,12*726,11,12,727,11,728-730,11,12,731,11,732-734,11,12,735-737,11,12,738-740,11,12,741-743,11,12,744-746),(1,1275,Life.mk [] [] [] 0 [] [] false #[] [] 0 false false false 0 [2000,10,10] false 0 true [] [] 0 false),(0,2*747,2,3,15,17,18,20-22,29-32,35,42-44,47,54-56,59,66-68,71,78,79,81,82,84-88,91,93,94,96-98,100,101,103-105,107,108,110-112,115-117,120-122,125-127,129,130,132,133,141,143,144,146-148,150,151,153-155,157,158,160-162,164,165,167-169,171,172,174-176,178,179,181-183,185,186,188-190,192,193,195-197,199,200,202-204,206,207,209-211,213,214,216-218,220,221,223-225,227,228,230-232,234,235,237-243,253-257,260,267,269,270,272-274,276,277,279-281,283,284,286-290,293,300,302,303,305-307,309,310,312-314,316,317,319-321,323,324,326-330,333,340,342,343,345-347,349,350,352-354,356,357,359-361,363,364,366-370,373,380,382,383,385-387,389,390,392-394,396,397,399-401,403,404,406-410,413,420,422,423,425-427,429,430,432-434,436,437,439-441,443,444,446-450,453,460,462,463,465-467,469,470,472-474,476,477,479-481,483,484,486-490,493,500,502,503,505-507,509,510,512-514,516,517,519-521,523,524,526-530,533,535,536,538-540,542,543,545-547,549,550,552-554,556,557,559-561,563,564,566-568,570,571,573-575,577,578,580-582,584,585,587-589,591,592,594,595,603-607,610,617,619,620,622-624,626,627,629-633,636,643,645,646,648-650,652,653,655-657,659,660,662-666,669,676,678,679,681-683,685,686,688-690,692,693,695-699,702,709,711,712,714-716,718,719,721-725,735,736,738,739,741-747,757,758,760,761,763-769,772,774,775,777,778,786,787,789,790,792-794,796,797,799-801,803,804,806-808,810,811,813-815,817,818,820-826,829,831,832,834-836,839-841,843,844,846-848,850,851,853,854,862,864,865,867-873,876,878,879,881-883,885,886,888-890,892,893,895-897,899,900,902-904,906,907,909-911,913,914,916-918,920,921,923-925,927,928,930-932,934,935,937-939,942-944,947-949,952-954,956,957,959-961,963,964,966-968,970,971,973-975,977,978,980-982,984,985,987-989,991,992,994-996,998,999,1001-1003,1005,1006,1008-1010,1012,1013,1015-1017,1019,1020,1022-1024,1027-1029,1031,1032,1034-1036,1038,1039,1041-1043,1046-1048,1050,1051,1053-1055,1057,1058,1060-1062,1065-1067,1070-1072,1075-1077,1080,1081))
end
end
noncomputable section
end
noncomputable def _root_.PySem.W.Fast.tw15015918297900992223:Program:=PySem.Challenge.pw_bellsaway_k81_books_as_texts
theorem _root_.PySem.W.Fast.te15015918297900992223:PySem.Challenge.pw_bellsaway_k81_books_as_texts=Fast.tw15015918297900992223:=rfl
#check (3,"check_minute_of_hour","/claim/cut.py","__weakref__","__init__","Not.__init__","bellsaway.fits","is_minute_of_day","is_gathered","Day.is_gathered","note_turns","Not.note_turns","self","names","moment_from","Never.moment_from","bellsaway.ways","word","takes","Words.takes","__module__","bellsaway.wishes","__qualname__","Raised","__firstlineno__","__static_attributes__","wishes_from","read_wishes","bellsaway.wording","Either.__init__","_law_moment","law_bellsaway_k81_books_as_texts","take_one_of","Words.take_one_of","bellsaway.words","__name__","__doc__","__package__","__loader__","__spec__","__annotations__","__builtins__","__file__","__cached__","_wall","BELL","bell","OFF","off","TOOK","took","NOT","not","PERHAPS","perhaps","BellError","NoClock","NoFit","NoWish","NoText","is_whole","is_whole_between","is_whole_from","LETTERS","abcdefghijklmnopqrstuvwxyz","MOST_LETTERS","is_name","FIGURES","0123456789","MOST_FIGURES","are_unlike_names","is_figures","is_number","Words","Fit","Any","Kind","Place","Least","_law_next","Hour.__init__","Words.__init__","_law_line","Never","fits_it","Kind.fits_it","weight_bits","Either.weight_bits","Both.weight_bits","is_ended","look","take","expect","expect_end","take_number","take_count","take_name","take_names","take_some","take_rest","__dict__","fit","words","opened","last","_law_text","Way","Opened.__init__","Now.moment_from","winning","line_for","winner","idle","Any.weight_bits","try_from","bellsaway.texts","bellsaway.wholes","show_book","bellsaway.errors","check_fit","check_by_way","Kind.weight_bits","Least.weight_bits","Not.weight_bits","Words.take_number","Hour.is_gathered","Day","Both.__init__","Least.fits_it","Place.note_turns","check_minute_of_day","Day.__init__","way_from","Kind.__init__","Not.fits_it","Both.fits_it","happening","Both.note_turns","_law_row","minutes","times","to","_law_wishes","Line","Words.take_rest","Place.fits_it","Either.note_turns","fit_from","kinds","places","weights","Wishes.__init__","text","_law_cell_at","Words.expect_end","Either.fits_it","fits","Words.expect","_law_state","_law_way","_law_word","_law_roads","_law_many","_law_found","_law_minutes","_law_fit","is_closed_here","Wishes.winning","thing","raised_from","Not","Both","Place.__init__","Hour","Either","check_names","check_fits","MINUTES_OF_HOUR","MINUTES_OF_DAY","is_quiet_hours","check_zone","check_quiet","Now","Wishes","check_wake","check_lines","read_whole","Opened","plain_fit_from","closed","fit_of","line_from","line_from_wording","show_stamps","show_parts","read_book","read_whole_line","minute","Words.take_names","zone","quiet","wake","more","start","lines","row_from","stamp_from","line","_law_name","Any.note_turns","Day.moment_from","inner","sign","Words.take_name","part_from","found","Never.is_gathered","Least.__init__","Line.__init__","Place.weight_bits","Words.take","way","roads","sure","raised","wishes_text_from","Wishes.idle","line_from_texts","_law_begin","_law_number","_law_truths","law","Words.take_count","__main__","Least.note_turns","Any.fits_it","Words.is_ended","Words.look","Hour.moment_from","at","Wishes.winner","kind","place","from_weight","Now.is_gathered","Wishes.line_for","weight","moment","bellsaway.happenings","<module>","bracket","Raised.__init__","choices","rows","number","row","Kind.note_turns","_law_some","_law_far","hand","road","stamps","count","Words.take_some","least","bellsaway.clocks","most","parts","stamp","_law_cell","some","NoText.__init__","_law_script","_law_k","k","_law_base","_law_number_here")
noncomputable def t0:List String:=["tuple","code","getset_descriptor","ExceptionGroup.__weakref__","function","super","builtin_function_or_method","type.__prepare__","type","dict","__main__.__loader__#opaque","object.__init_subclass__","ValueError","Exception","BaseException","object","ValueError.__new__","frame","object.__new__","function.__dict__","function.__dict__#set"]
noncomputable def t1:List String:=[SL.s2766695959194262286x5,SL.s5856160107412720595x4,SL.s14755015743595814543x17,SL.s10220274742760427390x26,SL.s7174869446012820540x8,SL.s4290257624100764138x5,SL.s11030030927630378310x26,SL.s10062305145149207511x16,SL.s17162191345867700912x4,SL.s14018661285674007319x4,SL.s7097527257260152453x26,SL.s4860613602091757760x24,SL.s6070975301684473832x10,SL.s5946037652744460706x9,SL.s4278001404047624695x13,SL.s2742458400755230247x6,SL.s4209523147560561109x18,SL.s658472552662922059x5,SL.s11443829558043349243x14,SL.s6511155373996960695x17,SL.s12411053484034534018x21]
theorem cc {α:Type}{x y:α}{l m:List α}(h:x=y)(k:l=m):x::l=y::m:=by rw [h,k]
theorem ea:a0=a1:=by
 iterate 18 refine cc (by kernel_rfl) ?_
 exact rfl
theorem et:t0=t1:=(cc SL.e2766695959194262286x5 (cc SL.e5856160107412720595x4 (cc SL.e14755015743595814543x17 (cc SL.e10220274742760427390x26 (cc SL.e7174869446012820540x8 (cc SL.e4290257624100764138x5 (cc SL.e11030030927630378310x26 (cc SL.e10062305145149207511x16 (cc SL.e17162191345867700912x4 (cc SL.e14018661285674007319x4 (cc SL.e7097527257260152453x26 (cc SL.e4860613602091757760x24 (cc SL.e6070975301684473832x10 (cc SL.e5946037652744460706x9 (cc SL.e4278001404047624695x13 (cc SL.e2742458400755230247x6 (cc SL.e4209523147560561109x18 (cc SL.e658472552662922059x5 (cc SL.e11443829558043349243x14 (cc SL.e6511155373996960695x17 (cc SL.e12411053484034534018x21 rfl)))))))))))))))))))))
noncomputable def A0:AT:=⟨PySem.Challenge.pw_bellsaway_k81_books_as_texts,a0,t0⟩
noncomputable def B0:AT:=⟨Fast.tw15015918297900992223,a1,t1⟩
theorem ab:A0=B0:=by
 unfold A0 B0
 rw [ea,et,Fast.te15015918297900992223]
end Hd
namespace PySem.W.Fast
open Hd
noncomputable def vw (l:List Nat)(A:AT):Program:={ A.p with main:={ A.p.main with body:=l.map (@stm A) } }
noncomputable def sl (i n:Nat)(A:AT):List Stmt:=(A.p.main.body.drop i).take n
noncomputable def tw17406923331994902479:=vw [0,1,2,3,4,5,7,8,9,10,11,13,14,15,17,18,19,21,22,23,24,25,26,28,29,30,31,32,33,34,35,36,37,38,40,41,42,43,44,45,46,47,49,50,51,52,53,55,56,57,58,59,60,62,63,64,65,66,67,68,69,70,71,73,74,76,77,78,79,80,81,82,83,84,85,86,88,89,90,91,92,93,94,95,96,97,98,99,100] B0
theorem te17406923331994902479:vw [0,1,2,3,4,5,7,8,9,10,11,13,14,15,17,18,19,21,22,23,24,25,26,28,29,30,31,32,33,34,35,36,37,38,40,41,42,43,44,45,46,47,49,50,51,52,53,55,56,57,58,59,60,62,63,64,65,66,67,68,69,70,71,73,74,76,77,78,79,80,81,82,83,84,85,86,88,89,90,91,92,93,94,95,96,97,98,99,100] A0=tw17406923331994902479:=congrArg _ ab
#check (2,(1745618351540792890,sl 32,1),(3004389055079917134,sl 26,1),(17671200164525693182,sl 55,1),(904804221451976054,sl 53,2),(2438873025737784153,sl 27,2),(9551261585065092964,sl 29,1),(688726646265678388,sl 60,7),(54333534010042999,sl 10,1),(16324858464665342369,sl 11,9),(10670875766623685867,sl 34,1),(16158378425244705899,sl 8,1),(9272645620448506707,sl 49,1),(12381268781776624184,sl 56,2),(3130106097458714961,sl 20,6),(3328382717948961121,sl 58,2),(7366349579784612400,sl 37,12),(8973096613570035059,sl 0,8),(465913788003088013,sl 67,14),(12502967531845403438,sl 95,6),(3830393987538787994,sl 50,1),(18023013774207532750,sl 9,1),(17573287139453442997,sl 51,1),(3406916822496668504,sl 33,1),(12527714500462346332,sl 81,14),(4539728007567226226,sl 31,1),(11127306838146535304,sl 30,1),(10571452929986047574,sl 35,2),(4857277578043427486,sl 52,1),(16017180696156447808,"tree",702),(15815969916674028800,"tree",47),(105142539961674465,"tree",652),(15610569464653131745,"tree",164),(5522351241085447490,"heap",46),(4696331853380360803,"tree",805),(10071153332445186019,"tree",776),(515960683572285125,"tree",1020),(10618541266809352454,"tree",297),(16480766481459300521,"tree",841),(3292023243428806537,"tree",480),(10256496023340002954,"heap",39),(10406290538300351595,"tree",930),(14771629880120348331,"tree",115),(13588109290159140493,"tree",1156),(4782025667082397038,"tree",609),(3732173773457088206,"tree",401),(12027919628951720943,"tree",382),(14140425147645511024,"tree",100),(2669448602732054896,"tree",877),(15384991155134102128,"tree",961),(13136856567065138545,"tree",1274),(8670949628049225169,"tree",183),(14841366949328630323,"tree",85),(8097063001265618483,"tree",523),(3713393743812046964,"tree",437),(15631287812894477525,"heap",1275),(18238098042312288597,"tree",760),(11153378377576333655,"tree",1238),(15717476675131604887,"tree",566),(8824850460500989528,"tree",906),(13177157366545912539,"tree",1076),(11525152831379771710,"tree",70))
end PySem.W.Fast
namespace Bw
open PySem L2 PySem.W
theorem CO9 {K:Frag}{C B N:Addr}{nm q:Str}{bs:List Value}{sn:List Str}{sub:List Value}{ab:Bool}{col:Option Bool}{dd:Option Addr}{k0 k1 k2 k3 k5:Option Value}(l:K.lookup C=some ⟨.type "type",dd,.cls ⟨nm,bs,[.ref C,.ref B,.type "ValueError",.type "Exception",.type "BaseException",.type "object"],N,q,true,sn,sub,ab,col,false⟩,#[k0,k1,k2,k3,some (.builtin "ValueError.__new__"),k5]⟩)(sa:findIn K (.ref C) "__setattr__"=some (some (.builtin "object.__setattr__"))):∃ cd,ExcS K C cd:=⟨_,by unfold clsIn; rw [l],rfl,rfl,sa⟩
def GG (K:Frag)(x:Str)(s:Stmt)(f:Addr):Prop:=nsIn K mainGlobals x=some (some (.ref f))/\∃ d,Fun K x x s f d
def MM (K:Frag)(C:Addr)(x q:Str)(s:Stmt)(f:Addr):Prop:=findIn K (.ref C) x=some (some (.ref f))/\isFn K (.ref f)=true/\∃ d,Fun K x q s f d
local macro_rules | `(tactic| walk_at "b1") => `(tactic| exact fun _ _ _ _ _ _ us hl => match us, hl with | [_], _ => rfl)
local macro_rules | `(tactic| walk_at "b2") => `(tactic| exact fun _ _ _ _ _ _ us hl => match us, hl with | [_, _], _ => rfl)
local macro_rules | `(tactic| walk_at "b3") => `(tactic| exact fun _ _ _ _ _ _ us hl => match us, hl with | [_, _, _], _ => rfl)
local macro_rules | `(tactic| walk_at "b4") => `(tactic| exact fun _ _ _ _ _ _ us hl => match us, hl with | [_, _, _, _], _ => rfl)
theorem CR0 {l:OpenLaw}{w:World}{K:Frag}{h:Heap}{mg:Str->Option Value}{fa f0 f1 f2 f3 f4 f5 f6 f7 f8 f9 f10 f11 f12 f13 f14 f15 f16 f17 f18 f19 f20 f21 f22 f23 f24 f25 f26 f27 f28 f29 f30 f31 f32 f33 f34 f35 f36 f37 f38 f39 f40 f41 f42 f43 f44 f45 f46 f47 f48 f49 f50 f51 f52 f53 f54 f55 f56 f57 f58 f59 f60 f61 f62 f63 f64 f65 f66 f67 f68 f69 f70 f71 f72 f73 f74 f75 f76 f77 f78 f79 z0 z1 z2 z3 z4 z5 z6 z7 z8 z9 z10 z11 z12 z13 z14 z15 z16 z17 z18 z19 z20 z21 z22:Addr}{t0 t1 t2 t3 t4 t5 t6 t7 t8 t9 t10:Tok}(X:K.In h)(G:h.Ns mainGlobals mg)(hfa:mg "law"=some (.ref fa)){od0 an0 sl0 oc0 kV0 dc0 pm0 cd0 ct0}(a0:findIn K (.ref z4) "__init__"=some (some (.ref f0)))(i0:isFn K (.ref f0)=true){T0:Addr}{doc0:Value}{dod0:Option Addr}{dn0:Nat}{dsl0:Array (Option Value)}{dt0_0:Tok}(l0:K.lookup f0=some ⟨oc0,od0,.func (fnOf "__init__" "NoText.__init__" (cW bI) (cB bI) (aE bI) (.ref T0) kV0 dc0 pm0 an0 cd0 ct0),sl0⟩)(d0:K.lookup T0=some ⟨doc0,dod0,.seq #[.int 0 dt0_0] dn0,dsl0⟩)(c0:codeIn K cd0 "NoText.__init__"=true)(g1:GG K "is_whole" sU f1)(g2:GG K "is_whole_between" fJ f2)(g3:GG K "is_whole_from" jC f3)(g4:GG K "is_name" wT f4)(g5:GG K "are_unlike_names" fK f5)(g6:GG K "is_figures" nC f6)(g7:GG K "is_number" pH f7)(g8:MM K z5 "__init__" "Words.__init__" hJ f8)(g9:MM K z5 "is_ended" "Words.is_ended" hU f9)(g10:MM K z5 "look" "Words.look" nE f10)(g11:MM K z5 "take" "Words.take" jW f11)(g12:MM K z5 "takes" "Words.takes" lJ f12)(g13:MM K z5 "expect" "Words.expect" kL f13)(g14:MM K z5 "expect_end" "Words.expect_end" fL f14)(g15:MM K z5 "take_number" "Words.take_number" eV f15)(g16:MM K z5 "take_count" "Words.take_count" fM f16)(g17:MM K z5 "take_name" "Words.take_name" gF f17)(g18:MM K z5 "take_one_of" "Words.take_one_of" eW f18)(g19:MM K z5 "take_names" "Words.take_names" fN f19)(g20:MM K z5 "take_some" "Words.take_some" gG f20)(g21:MM K z5 "take_rest" "Words.take_rest" gH f21)(g22:MM K z8 "__init__" "Kind.__init__" jD f22)(g23:MM K z9 "__init__" "Place.__init__" hV f23)(g24:MM K z10 "__init__" "Least.__init__" hW f24)(g25:MM K z11 "__init__" "Not.__init__" kM f25)(g26:MM K z12 "__init__" "Both.__init__" jE f26)(g27:MM K z13 "__init__" "Either.__init__" gI f27)(g28:GG K "check_names" lK f28)(g29:GG K "check_fit" pJ f29)(g30:GG K "check_fits" nG f30)(g31:GG K "is_minute_of_day" fO f31)(g32:GG K "is_quiet_hours" hX f32)(g33:GG K "check_zone" nI f33)(g34:GG K "check_quiet" lL f34)(g35:GG K "check_minute_of_hour" dW f35)(g36:GG K "check_minute_of_day" eF f36)(g37:MM K z16 "__init__" "Hour.__init__" jF f37)(g38:MM K z17 "__init__" "Day.__init__" kN f38){od39 an39 sl39 oc39 kV39 dc39 pm39 cd39 ct39}(a39:findIn K (.ref z19) "__init__"=some (some (.ref f39)))(i39:isFn K (.ref f39)=true){T39:Addr}{doc39:Value}{dod39:Option Addr}{dn39:Nat}{dsl39:Array (Option Value)}(l39:K.lookup f39=some ⟨oc39,od39,.func (fnOf "__init__" "Raised.__init__" (cW bR) (cB bR) (aE bR) (.ref T39) kV39 dc39 pm39 an39 cd39 ct39),sl39⟩)(d39:K.lookup T39=some ⟨doc39,dod39,.seq #[.none] dn39,dsl39⟩)(c39:codeIn K cd39 "Raised.__init__"=true){od40 an40 sl40 oc40 kV40 dc40 pm40 cd40 ct40}(a40:findIn K (.ref z20) "__init__"=some (some (.ref f40)))(i40:isFn K (.ref f40)=true){T40:Addr}{doc40:Value}{dod40:Option Addr}{dn40:Nat}{dsl40:Array (Option Value)}(l40:K.lookup f40=some ⟨oc40,od40,.func (fnOf "__init__" "Line.__init__" (cW bO) (cB bO) (aE bO) (.ref T40) kV40 dc40 pm40 an40 cd40 ct40),sl40⟩)(d40:K.lookup T40=some ⟨doc40,dod40,.seq #[.bool false,.none] dn40,dsl40⟩)(c40:codeIn K cd40 "Line.__init__"=true)(g41:GG K "check_by_way" kO f41){od42 an42 sl42 oc42 kV42 dc42 pm42 cd42 ct42}(a42:findIn K (.ref z21) "__init__"=some (some (.ref f42)))(i42:isFn K (.ref f42)=true){T42:Addr}{doc42:Value}{dod42:Option Addr}{dn42:Nat}{dsl42:Array (Option Value)}{dt42_0:Tok}(l42:K.lookup f42=some ⟨oc42,od42,.func (fnOf "__init__" "Wishes.__init__" (cW bS) (cB bS) (aE bS) (.ref T42) kV42 dc42 pm42 an42 cd42 ct42),sl42⟩)(d42:K.lookup T42=some ⟨doc42,dod42,.seq #[.int 0 dt42_0,.none,.none,.none] dn42,dsl42⟩)(c42:codeIn K cd42 "Wishes.__init__"=true)(g43:GG K "check_wake" nJ f43)(g44:GG K "check_lines" lN f44)(g45:GG K "read_wishes" lO f45)(g46:GG K "read_whole" nK f46)(g47:MM K z22 "__init__" "Opened.__init__" gJ f47)(g48:GG K "fit_from" tD f48)(g49:GG K "plain_fit_from" hZ f49)(g50:GG K "closed" AC5 f50)(g51:GG K "is_closed_here" iA f51)(g52:GG K "fit_of" AC6 f52)(g53:GG K "way_from" tE f53)(g54:GG K "raised_from" lP f54){od55 an55 sl55 oc55 kV55 dc55 pm55 cd55 ct55}(a55:nsIn K mainGlobals "line_from_wording"=some (some (.ref f55)))(l55:K.lookup f55=some ⟨oc55,od55,.func (fnOf "line_from" "line_from" (cW cF) (cB cF) (aE cF) .none kV55 dc55 pm55 an55 cd55 ct55),sl55⟩)(c55:codeIn K cd55 "line_from"=true)(k55:keepIn K (.ref f55)=true)(g56:GG K "wishes_from" lQ f56)(g57:GG K "show_stamps" lR f57)(g58:GG K "show_parts" nL f58)(g59:GG K "show_book" pL f59)(g60:GG K "read_book" pM f60)(g61:GG K "read_whole_line" gK f61){od62 an62 sl62 oc62 kV62 dc62 pm62 cd62 ct62}(a62:nsIn K mainGlobals "line_from_texts"=some (some (.ref f62)))(l62:K.lookup f62=some ⟨oc62,od62,.func (fnOf "line_from" "line_from" (cW cR) (cB cR) (aE cR) .none kV62 dc62 pm62 an62 cd62 ct62),sl62⟩)(c62:codeIn K cd62 "line_from"=true)(k62:keepIn K (.ref f62)=true)(g63:GG K "try_from" tF f63)(g64:GG K "stamp_from" nM f64)(g65:GG K "row_from" tG f65)(g66:GG K "wishes_text_from" fP f66)(g67:GG K "_law_cell_at" lS f67)(g68:GG K "_law_begin" pN f68)(g69:GG K "_law_next" tH f69)(g70:GG K "_law_name" tI f70)(g71:GG K "_law_fit" wY f71)(g72:GG K "_law_line" tJ f72)(g73:GG K "_law_wishes" nN f73)(g74:GG K "_law_moment" nO f74)(g75:GG K "_law_number" nP f75)(g76:GG K "_law_row" wZ f76)(g77:GG K "_law_text" tK f77)(g78:GG K "_law_truths" nQ f78)(g79:GG K "law" AW8 f79)(y0:nsIn K mainGlobals "len"=some none)(y1:nsIn K mainGlobals "int"=some none)(y2:nsIn K mainGlobals "bool"=some none)(y3:nsIn K mainGlobals "str"=some none)(y4:nsIn K mainGlobals "tuple"=some none)(y5:nsIn K mainGlobals "list"=some none)(y6:nsIn K mainGlobals "all"=some none)(y7:nsIn K mainGlobals "isinstance"=some none)(y8:nsIn K mainGlobals "range"=some none)(y9:nsIn K mainGlobals "set"=some none)(y10:nsIn K mainGlobals "enumerate"=some none)(y11:nsIn K mainGlobals "LETTERS"=some (some (.str "abcdefghijklmnopqrstuvwxyz" t0)))(y12:nsIn K mainGlobals "MOST_LETTERS"=some (some (.int 8 t1)))(y13:nsIn K mainGlobals "FIGURES"=some (some (.str "0123456789" t2)))(y14:nsIn K mainGlobals "MOST_FIGURES"=some (some (.int 60 t3)))(y15:nsIn K mainGlobals "MINUTES_OF_HOUR"=some (some (.int 60 t4)))(y16:nsIn K mainGlobals "MINUTES_OF_DAY"=some (some (.int 1440 t5)))(y17:nsIn K mainGlobals "BELL"=some (some (.str "bell" t6)))(y18:nsIn K mainGlobals "OFF"=some (some (.str "off" t7)))(y19:nsIn K mainGlobals "TOOK"=some (some (.str "took" t8)))(y20:nsIn K mainGlobals "NOT"=some (some (.str "not" t9)))(y21:nsIn K mainGlobals "PERHAPS"=some (some (.str "perhaps" t10)))(y22:nsIn K mainGlobals "BellError"=some (some (.ref z0)))(y23:nsIn K mainGlobals "NoClock"=some (some (.ref z1)))(y24:nsIn K mainGlobals "NoFit"=some (some (.ref z2)))(y25:nsIn K mainGlobals "NoWish"=some (some (.ref z3)))(y26:nsIn K mainGlobals "NoText"=some (some (.ref z4)))(y27:nsIn K mainGlobals "Words"=some (some (.ref z5)))(y28:nsIn K mainGlobals "Fit"=some (some (.ref z6)))(y29:nsIn K mainGlobals "Any"=some (some (.ref z7)))(y30:nsIn K mainGlobals "Kind"=some (some (.ref z8)))(y31:nsIn K mainGlobals "Place"=some (some (.ref z9)))(y32:nsIn K mainGlobals "Least"=some (some (.ref z10)))(y33:nsIn K mainGlobals "Not"=some (some (.ref z11)))(y34:nsIn K mainGlobals "Both"=some (some (.ref z12)))(y35:nsIn K mainGlobals "Either"=some (some (.ref z13)))(y36:nsIn K mainGlobals "Way"=some (some (.ref z14)))(y37:nsIn K mainGlobals "Now"=some (some (.ref z15)))(y38:nsIn K mainGlobals "Hour"=some (some (.ref z16)))(y39:nsIn K mainGlobals "Day"=some (some (.ref z17)))(y40:nsIn K mainGlobals "Never"=some (some (.ref z18)))(y41:nsIn K mainGlobals "Raised"=some (some (.ref z19)))(y42:nsIn K mainGlobals "Line"=some (some (.ref z20)))(y43:nsIn K mainGlobals "Wishes"=some (some (.ref z21)))(y44:nsIn K mainGlobals "Opened"=some (some (.ref z22)))(y45:nsIn K mainGlobals "wishes_from"=some (some (.ref f56)))(y46:nsIn K mainGlobals "line_from_texts"=some (some (.ref f62)))(y47_0:findIn K (.ref z4) "__getattribute__"=some (some (.builtin "BaseException.__getattribute__")))(y47_1:findIn K (.ref z4) "__getattr__"=some none)(y47_2:findIn K (.ref z4) "__class__"=some (some (.builtin "object.__class__")))(y47_3:mroIn K z4 (.type "BaseException")=some true)(y47_4:mroIn K z4 (.type "object")=some true)(y47_5:isClsIn K z4=true)(y48:excIn K z2 vbm "ValueError.__new__"=true)(y49:exmOne K (.ref z2) (.ref z0)=some true)(y50:exmOne K (.ref z4) (.ref z0)=some true)(y51:hasDictIn K z4=true)(y52:mroIn K z4 (.type "object")=some true)(y53:findIn K (.ref z4) "line"=some none)(y55_0:plainGet K z7 Str.empty=true)(y55_1:hasDictIn K z7=true)(y55_2:plainOver K z7=true)(y55_3:findIn K (.ref z7) "__setattr__"=some (some (.builtin "object.__setattr__")))(y55_4:findIn K (.ref z7) "__class__"=some (some (.builtin "object.__class__")))(y55_5:specialIn K (.builtin "object.__class__") "__get__"=some (some (.builtin "getset_descriptor.__get__")))(y55_6:takesIn K (.builtin "object.__class__")=some true)(y55_7:mroIn K z7 (.type "object")=some true)(y56_0:plainGet K z8 Str.empty=true)(y56_1:hasDictIn K z8=true)(y56_2:plainOver K z8=true)(y56_3:findIn K (.ref z8) "__setattr__"=some (some (.builtin "object.__setattr__")))(y56_4:findIn K (.ref z8) "__class__"=some (some (.builtin "object.__class__")))(y56_5:specialIn K (.builtin "object.__class__") "__get__"=some (some (.builtin "getset_descriptor.__get__")))(y56_6:takesIn K (.builtin "object.__class__")=some true)(y56_7:mroIn K z8 (.type "object")=some true)(y57:findIn K (.ref z8) "names"=some none)(y58_0:plainGet K z9 Str.empty=true)(y58_1:hasDictIn K z9=true)(y58_2:plainOver K z9=true)(y58_3:findIn K (.ref z9) "__setattr__"=some (some (.builtin "object.__setattr__")))(y58_4:findIn K (.ref z9) "__class__"=some (some (.builtin "object.__class__")))(y58_5:specialIn K (.builtin "object.__class__") "__get__"=some (some (.builtin "getset_descriptor.__get__")))(y58_6:takesIn K (.builtin "object.__class__")=some true)(y58_7:mroIn K z9 (.type "object")=some true)(y59:findIn K (.ref z9) "names"=some none)(y60_0:plainGet K z10 Str.empty=true)(y60_1:hasDictIn K z10=true)(y60_2:plainOver K z10=true)(y60_3:findIn K (.ref z10) "__setattr__"=some (some (.builtin "object.__setattr__")))(y60_4:findIn K (.ref z10) "__class__"=some (some (.builtin "object.__class__")))(y60_5:specialIn K (.builtin "object.__class__") "__get__"=some (some (.builtin "getset_descriptor.__get__")))(y60_6:takesIn K (.builtin "object.__class__")=some true)(y60_7:mroIn K z10 (.type "object")=some true)(y61:findIn K (.ref z10) "weight"=some none)(y62_0:plainGet K z11 Str.empty=true)(y62_1:hasDictIn K z11=true)(y62_2:plainOver K z11=true)(y62_3:findIn K (.ref z11) "__setattr__"=some (some (.builtin "object.__setattr__")))(y62_4:findIn K (.ref z11) "__class__"=some (some (.builtin "object.__class__")))(y62_5:specialIn K (.builtin "object.__class__") "__get__"=some (some (.builtin "getset_descriptor.__get__")))(y62_6:takesIn K (.builtin "object.__class__")=some true)(y62_7:mroIn K z11 (.type "object")=some true)(y63:findIn K (.ref z11) "fit"=some none)(y64_0:plainGet K z12 Str.empty=true)(y64_1:hasDictIn K z12=true)(y64_2:plainOver K z12=true)(y64_3:findIn K (.ref z12) "__setattr__"=some (some (.builtin "object.__setattr__")))(y64_4:findIn K (.ref z12) "__class__"=some (some (.builtin "object.__class__")))(y64_5:specialIn K (.builtin "object.__class__") "__get__"=some (some (.builtin "getset_descriptor.__get__")))(y64_6:takesIn K (.builtin "object.__class__")=some true)(y64_7:mroIn K z12 (.type "object")=some true)(y65:findIn K (.ref z12) "fits"=some none)(y66_0:plainGet K z13 Str.empty=true)(y66_1:hasDictIn K z13=true)(y66_2:plainOver K z13=true)(y66_3:findIn K (.ref z13) "__setattr__"=some (some (.builtin "object.__setattr__")))(y66_4:findIn K (.ref z13) "__class__"=some (some (.builtin "object.__class__")))(y66_5:specialIn K (.builtin "object.__class__") "__get__"=some (some (.builtin "getset_descriptor.__get__")))(y66_6:takesIn K (.builtin "object.__class__")=some true)(y66_7:mroIn K z13 (.type "object")=some true)(y67:findIn K (.ref z13) "fits"=some none)(y68_0:plainGet K z5 Str.empty=true)(y68_1:hasDictIn K z5=true)(y68_2:plainOver K z5=true)(y68_3:findIn K (.ref z5) "__setattr__"=some (some (.builtin "object.__setattr__")))(y68_4:findIn K (.ref z5) "__class__"=some (some (.builtin "object.__class__")))(y68_5:specialIn K (.builtin "object.__class__") "__get__"=some (some (.builtin "getset_descriptor.__get__")))(y68_6:takesIn K (.builtin "object.__class__")=some true)(y68_7:mroIn K z5 (.type "object")=some true)(y69:findIn K (.ref z5) "words"=some none)(y70:findIn K (.ref z5) "at"=some none)(y71_0:plainGet K z22 Str.empty=true)(y71_1:hasDictIn K z22=true)(y71_2:plainOver K z22=true)(y71_3:findIn K (.ref z22) "__setattr__"=some (some (.builtin "object.__setattr__")))(y71_4:findIn K (.ref z22) "__class__"=some (some (.builtin "object.__class__")))(y71_5:specialIn K (.builtin "object.__class__") "__get__"=some (some (.builtin "getset_descriptor.__get__")))(y71_6:takesIn K (.builtin "object.__class__")=some true)(y71_7:mroIn K z22 (.type "object")=some true)(y72:findIn K (.ref z22) "sign"=some none)(y73:findIn K (.ref z22) "inner"=some none)(y74:kitOne K (.ref z7) (.ref z6)=some true)(y75:kitOne K (.ref z8) (.ref z6)=some true)(y76:kitOne K (.ref z9) (.ref z6)=some true)(y77:kitOne K (.ref z10) (.ref z6)=some true)(y78:kitOne K (.ref z11) (.ref z6)=some true)(y79:kitOne K (.ref z12) (.ref z6)=some true)(y80:kitOne K (.ref z13) (.ref z6)=some true)(y81_0:makesIn K z7=true)(y81_1:findIn K (.ref z7) "__init__"=some (some (.builtin "object.__init__")))(y81_2:keepIn K (.ref z7)=true)(y82:excIn K z1 vbm "ValueError.__new__"=true)(y83:exmOne K (.ref z1) (.ref z0)=some true)(y84:excIn K z3 vbm "ValueError.__new__"=true)(y85:exmOne K (.ref z3) (.ref z0)=some true)(y86:exmOne K (.ref z4) (.ref z4)=some true)(y87_0:plainGet K z15 Str.empty=true)(y87_1:hasDictIn K z15=true)(y87_2:plainOver K z15=true)(y87_3:findIn K (.ref z15) "__setattr__"=some (some (.builtin "object.__setattr__")))(y87_4:findIn K (.ref z15) "__class__"=some (some (.builtin "object.__class__")))(y87_5:specialIn K (.builtin "object.__class__") "__get__"=some (some (.builtin "getset_descriptor.__get__")))(y87_6:takesIn K (.builtin "object.__class__")=some true)(y87_7:mroIn K z15 (.type "object")=some true)(y88_0:plainGet K z16 Str.empty=true)(y88_1:hasDictIn K z16=true)(y88_2:plainOver K z16=true)(y88_3:findIn K (.ref z16) "__setattr__"=some (some (.builtin "object.__setattr__")))(y88_4:findIn K (.ref z16) "__class__"=some (some (.builtin "object.__class__")))(y88_5:specialIn K (.builtin "object.__class__") "__get__"=some (some (.builtin "getset_descriptor.__get__")))(y88_6:takesIn K (.builtin "object.__class__")=some true)(y88_7:mroIn K z16 (.type "object")=some true)(y89:findIn K (.ref z16) "minute"=some none)(y90_0:plainGet K z17 Str.empty=true)(y90_1:hasDictIn K z17=true)(y90_2:plainOver K z17=true)(y90_3:findIn K (.ref z17) "__setattr__"=some (some (.builtin "object.__setattr__")))(y90_4:findIn K (.ref z17) "__class__"=some (some (.builtin "object.__class__")))(y90_5:specialIn K (.builtin "object.__class__") "__get__"=some (some (.builtin "getset_descriptor.__get__")))(y90_6:takesIn K (.builtin "object.__class__")=some true)(y90_7:mroIn K z17 (.type "object")=some true)(y91:findIn K (.ref z17) "minute"=some none)(y92_0:plainGet K z18 Str.empty=true)(y92_1:hasDictIn K z18=true)(y92_2:plainOver K z18=true)(y92_3:findIn K (.ref z18) "__setattr__"=some (some (.builtin "object.__setattr__")))(y92_4:findIn K (.ref z18) "__class__"=some (some (.builtin "object.__class__")))(y92_5:specialIn K (.builtin "object.__class__") "__get__"=some (some (.builtin "getset_descriptor.__get__")))(y92_6:takesIn K (.builtin "object.__class__")=some true)(y92_7:mroIn K z18 (.type "object")=some true)(y93_0:plainGet K z19 Str.empty=true)(y93_1:hasDictIn K z19=true)(y93_2:plainOver K z19=true)(y93_3:findIn K (.ref z19) "__setattr__"=some (some (.builtin "object.__setattr__")))(y93_4:findIn K (.ref z19) "__class__"=some (some (.builtin "object.__class__")))(y93_5:specialIn K (.builtin "object.__class__") "__get__"=some (some (.builtin "getset_descriptor.__get__")))(y93_6:takesIn K (.builtin "object.__class__")=some true)(y93_7:mroIn K z19 (.type "object")=some true)(y94:findIn K (.ref z19) "minutes"=some none)(y95:findIn K (.ref z19) "times"=some none)(y96:findIn K (.ref z19) "to"=some none)(y97_0:plainGet K z20 Str.empty=true)(y97_1:hasDictIn K z20=true)(y97_2:plainOver K z20=true)(y97_3:findIn K (.ref z20) "__setattr__"=some (some (.builtin "object.__setattr__")))(y97_4:findIn K (.ref z20) "__class__"=some (some (.builtin "object.__class__")))(y97_5:specialIn K (.builtin "object.__class__") "__get__"=some (some (.builtin "getset_descriptor.__get__")))(y97_6:takesIn K (.builtin "object.__class__")=some true)(y97_7:mroIn K z20 (.type "object")=some true)(y98:findIn K (.ref z20) "fit"=some none)(y99:findIn K (.ref z20) "way"=some none)(y100:findIn K (.ref z20) "roads"=some none)(y101:findIn K (.ref z20) "sure"=some none)(y102:findIn K (.ref z20) "raised"=some none)(y103_0:plainGet K z21 Str.empty=true)(y103_1:hasDictIn K z21=true)(y103_2:plainOver K z21=true)(y103_3:findIn K (.ref z21) "__setattr__"=some (some (.builtin "object.__setattr__")))(y103_4:findIn K (.ref z21) "__class__"=some (some (.builtin "object.__class__")))(y103_5:specialIn K (.builtin "object.__class__") "__get__"=some (some (.builtin "getset_descriptor.__get__")))(y103_6:takesIn K (.builtin "object.__class__")=some true)(y103_7:mroIn K z21 (.type "object")=some true)(y104:findIn K (.ref z21) "zone"=some none)(y105:findIn K (.ref z21) "quiet"=some none)(y106:findIn K (.ref z21) "wake"=some none)(y107:findIn K (.ref z21) "lines"=some none)(y108:kitOne K (.ref z15) (.ref z14)=some true)(y109:kitOne K (.ref z15) (.ref z18)=some false)(y110:kitOne K (.ref z16) (.ref z14)=some true)(y111:kitOne K (.ref z16) (.ref z18)=some false)(y112:kitOne K (.ref z17) (.ref z14)=some true)(y113:kitOne K (.ref z17) (.ref z18)=some false)(y114:kitOne K (.ref z18) (.ref z14)=some true)(y115:kitOne K (.ref z18) (.ref z18)=some true)(y116:kitOne K (.ref z19) (.ref z19)=some true)(y117:kitOne K (.ref z20) (.ref z20)=some true)(y118_0:makesIn K z15=true)(y118_1:findIn K (.ref z15) "__init__"=some (some (.builtin "object.__init__")))(y118_2:keepIn K (.ref z15)=true)(y119_0:makesIn K z18=true)(y119_1:findIn K (.ref z18) "__init__"=some (some (.builtin "object.__init__")))(y119_2:keepIn K (.ref z18)=true){nmXNoText qXNoText:Str}{NXNoText:Addr}{bsXNoText:List Value}{snXNoText:List Str}{subXNoText:List Value}{abXNoText:Bool}{colXNoText:Option Bool}{ddXNoText:Option Addr}{kx0NoText kx1NoText kx2NoText kx3NoText kx5NoText:Option Value}(lxNoText:K.lookup z4=some ⟨.type "type",ddXNoText,.cls ⟨nmXNoText,bsXNoText,[.ref z4,.ref z0,.type "ValueError",.type "Exception",.type "BaseException",.type "object"],NXNoText,qXNoText,true,snXNoText,subXNoText,abXNoText,colXNoText,false⟩,#[kx0NoText,kx1NoText,kx2NoText,kx3NoText,some (.builtin "ValueError.__new__"),kx5NoText]⟩)(xbNoText:excIn K z0 vbm "ValueError.__new__"=true)(sxNoText:findIn K (.ref z4) "__setattr__"=some (some (.builtin "object.__setattr__")))(mkWords:makesIn K z5=true)(kcWords:keepIn K (.ref z5)=true)(mkKind:makesIn K z8=true)(kcKind:keepIn K (.ref z8)=true)(mkPlace:makesIn K z9=true)(kcPlace:keepIn K (.ref z9)=true)(mkLeast:makesIn K z10=true)(kcLeast:keepIn K (.ref z10)=true)(mkNot:makesIn K z11=true)(kcNot:keepIn K (.ref z11)=true)(mkBoth:makesIn K z12=true)(kcBoth:keepIn K (.ref z12)=true)(mkEither:makesIn K z13=true)(kcEither:keepIn K (.ref z13)=true)(mkHour:makesIn K z16=true)(kcHour:keepIn K (.ref z16)=true)(mkDay:makesIn K z17=true)(kcDay:keepIn K (.ref z17)=true)(mkRaised:makesIn K z19=true)(kcRaised:keepIn K (.ref z19)=true)(mkLine:makesIn K z20=true)(kcLine:keepIn K (.ref z20)=true)(mkWishes:makesIn K z21=true)(kcWishes:keepIn K (.ref z21)=true)(mkOpened:makesIn K z22=true)(kcOpened:keepIn K (.ref z22)=true) :
  ∃ (a:Ad) (fd:FuncData),(∀ (s:Shared) (v:Value),BindsTo s fd ⟨[v],[]⟩ [("_law_script",v)])/\∀ base:Heap,K.In base->base.Ns mainGlobals mg->FnOk l.prog w K mg base CX0 17 fa fd ["_law_script"] (BG9 K a):=by
 refine Classical.byContradiction fun hN=>?_
 obtain ⟨a79,d79,F79⟩:=g79
 have e:=hfa.symm.trans (mg_of X G a79)
 cases e
 obtain ⟨a,e0,e1,e2,e3,e4,e5,e6,e7,e8,e9,e10,e11,e12,e13,e14,e15,e16,e17,e18,e19,e20,e21,e22,e23,e24,e25,e26,e27,e28,e29,e30,e31,e32,e33,e34,e35⟩:∃ a:Ad,z0=a.BellError/\z1=a.NoClock/\z2=a.NoFit/\z3=a.NoWish/\z4=a.NoText/\z5=a.Words/\z6=a.Fit/\z7=a.Any/\z8=a.Kind/\z9=a.Place/\z10=a.Least/\z11=a.Not/\z12=a.Both/\z13=a.Either/\z14=a.Way/\z15=a.Now/\z16=a.Hour/\z17=a.Day/\z18=a.Never/\z19=a.Raised/\z20=a.Line/\z21=a.Wishes/\z22=a.Opened/\f56=a.wishes_from/\f62=a.line_from_texts/\t0=a.t0/\t1=a.t1/\t2=a.t2/\t3=a.t3/\t4=a.t4/\t5=a.t5/\t6=a.t6/\t7=a.t7/\t8=a.t8/\t9=a.t9/\t10=a.t10:=⟨(⟨z0,z1,z2,z3,z4,z5,z6,z7,z8,z9,z10,z11,z12,z13,z14,z15,z16,z17,z18,z19,z20,z21,z22,f56,f62,t0,t1,t2,t3,t4,t5,t6,t7,t8,t9,t10⟩:Ad),rfl,rfl,rfl,rfl,rfl,rfl,rfl,rfl,rfl,rfl,rfl,rfl,rfl,rfl,rfl,rfl,rfl,rfl,rfl,rfl,rfl,rfl,rfl,rfl,rfl,rfl,rfl,rfl,rfl,rfl,rfl,rfl,rfl,rfl,rfl,rfl⟩
 subst e0 e1 e2 e3 e4 e5 e6 e7 e8 e9 e10 e11 e12 e13 e14 e15 e16 e17 e18 e19 e20 e21 e22 e23 e24 e25 e26 e27 e28 e29 e30 e31 e32 e33 e34 e35
 have B:Bt K mg a:=⟨mg_none_of X G y0,mg_none_of X G y1,mg_none_of X G y2,mg_none_of X G y3,mg_none_of X G y4,mg_none_of X G y5,mg_none_of X G y6,mg_none_of X G y7,mg_none_of X G y8,mg_none_of X G y9,mg_none_of X G y10,mg_of X G y11,mg_of X G y12,mg_of X G y13,mg_of X G y14,mg_of X G y15,mg_of X G y16,mg_of X G y17,mg_of X G y18,mg_of X G y19,mg_of X G y20,mg_of X G y21,mg_of X G y22,mg_of X G y23,mg_of X G y24,mg_of X G y25,mg_of X G y26,mg_of X G y27,mg_of X G y28,mg_of X G y29,mg_of X G y30,mg_of X G y31,mg_of X G y32,mg_of X G y33,mg_of X G y34,mg_of X G y35,mg_of X G y36,mg_of X G y37,mg_of X G y38,mg_of X G y39,mg_of X G y40,mg_of X G y41,mg_of X G y42,mg_of X G y43,mg_of X G y44,mg_of X G y45,mg_of X G y46,⟨y47_0,y47_1,y47_2,y47_3,y47_4,y47_5⟩,y48,y49,y50,y51,y52,y53,CO9 lxNoText sxNoText,⟨⟨y55_0,y55_1,y55_2,y55_3⟩,y55_4,y55_5,y55_6,y55_7⟩,⟨⟨y56_0,y56_1,y56_2,y56_3⟩,y56_4,y56_5,y56_6,y56_7⟩,y57,⟨⟨y58_0,y58_1,y58_2,y58_3⟩,y58_4,y58_5,y58_6,y58_7⟩,y59,⟨⟨y60_0,y60_1,y60_2,y60_3⟩,y60_4,y60_5,y60_6,y60_7⟩,y61,⟨⟨y62_0,y62_1,y62_2,y62_3⟩,y62_4,y62_5,y62_6,y62_7⟩,y63,⟨⟨y64_0,y64_1,y64_2,y64_3⟩,y64_4,y64_5,y64_6,y64_7⟩,y65,⟨⟨y66_0,y66_1,y66_2,y66_3⟩,y66_4,y66_5,y66_6,y66_7⟩,y67,⟨⟨y68_0,y68_1,y68_2,y68_3⟩,y68_4,y68_5,y68_6,y68_7⟩,y69,y70,⟨⟨y71_0,y71_1,y71_2,y71_3⟩,y71_4,y71_5,y71_6,y71_7⟩,y72,y73,y74,y75,y76,y77,y78,y79,y80,⟨y81_0,y81_1,y81_2⟩,y82,y83,y84,y85,y86,⟨⟨y87_0,y87_1,y87_2,y87_3⟩,y87_4,y87_5,y87_6,y87_7⟩,⟨⟨y88_0,y88_1,y88_2,y88_3⟩,y88_4,y88_5,y88_6,y88_7⟩,y89,⟨⟨y90_0,y90_1,y90_2,y90_3⟩,y90_4,y90_5,y90_6,y90_7⟩,y91,⟨⟨y92_0,y92_1,y92_2,y92_3⟩,y92_4,y92_5,y92_6,y92_7⟩,⟨⟨y93_0,y93_1,y93_2,y93_3⟩,y93_4,y93_5,y93_6,y93_7⟩,y94,y95,y96,⟨⟨y97_0,y97_1,y97_2,y97_3⟩,y97_4,y97_5,y97_6,y97_7⟩,y98,y99,y100,y101,y102,⟨⟨y103_0,y103_1,y103_2,y103_3⟩,y103_4,y103_5,y103_6,y103_7⟩,y104,y105,y106,y107,y108,y109,y110,y111,y112,y113,y114,y115,y116,y117,⟨y118_0,y118_1,y118_2⟩,⟨y119_0,y119_1,y119_2⟩⟩
 have F0:=AA8 (st:=bI) l0 c0
 have b0_0:Binds K _ ["self","line"] [.int 0 dt0_0]:=zJ (fd:=fnOf "__init__" "NoText.__init__" (cW bI) (cB bI) (aE bI) (.ref T0) kV0 dc0 pm0 an0 cd0 ct0) 1 rfl fun s us X hl=>match us,hl with | [_],_=>by first | exact .of_eq rfl | exact binds_K X rfl d0 rfl rfl rfl
 obtain ⟨a1,d1,F1⟩:=g1
 have b1:=F1.binds (ps:=["thing"]) (by walk_at "b1")
 obtain ⟨a2,d2,F2⟩:=g2
 have b2:=F2.binds (ps:=["thing","least","most"]) (by walk_at "b3")
 obtain ⟨a3,d3,F3⟩:=g3
 have b3:=F3.binds (ps:=["thing","least"]) (by walk_at "b2")
 obtain ⟨a4,d4,F4⟩:=g4
 have b4:=F4.binds (ps:=["thing"]) (by walk_at "b1")
 obtain ⟨a5,d5,F5⟩:=g5
 have b5:=F5.binds (ps:=["thing"]) (by walk_at "b1")
 obtain ⟨a6,d6,F6⟩:=g6
 have b6:=F6.binds (ps:=["word"]) (by walk_at "b1")
 obtain ⟨a7,d7,F7⟩:=g7
 have b7:=F7.binds (ps:=["word"]) (by walk_at "b1")
 obtain ⟨a8,i8,d8,F8⟩:=g8
 have b8:=F8.binds (ps:=["self","text"]) (by walk_at "b2")
 obtain ⟨a9,i9,d9,F9⟩:=g9
 have b9:=F9.binds (ps:=["self"]) (by walk_at "b1")
 obtain ⟨a10,i10,d10,F10⟩:=g10
 have b10:=F10.binds (ps:=["self"]) (by walk_at "b1")
 obtain ⟨a11,i11,d11,F11⟩:=g11
 have b11:=F11.binds (ps:=["self"]) (by walk_at "b1")
 obtain ⟨a12,i12,d12,F12⟩:=g12
 have b12:=F12.binds (ps:=["self","word"]) (by walk_at "b2")
 obtain ⟨a13,i13,d13,F13⟩:=g13
 have b13:=F13.binds (ps:=["self","word"]) (by walk_at "b2")
 obtain ⟨a14,i14,d14,F14⟩:=g14
 have b14:=F14.binds (ps:=["self"]) (by walk_at "b1")
 obtain ⟨a15,i15,d15,F15⟩:=g15
 have b15:=F15.binds (ps:=["self"]) (by walk_at "b1")
 obtain ⟨a16,i16,d16,F16⟩:=g16
 have b16:=F16.binds (ps:=["self"]) (by walk_at "b1")
 obtain ⟨a17,i17,d17,F17⟩:=g17
 have b17:=F17.binds (ps:=["self"]) (by walk_at "b1")
 obtain ⟨a18,i18,d18,F18⟩:=g18
 have b18:=F18.binds (ps:=["self","choices"]) (by walk_at "b2")
 obtain ⟨a19,i19,d19,F19⟩:=g19
 have b19:=F19.binds (ps:=["self"]) (by walk_at "b1")
 obtain ⟨a20,i20,d20,F20⟩:=g20
 have b20:=F20.binds (ps:=["self","count"]) (by walk_at "b2")
 obtain ⟨a21,i21,d21,F21⟩:=g21
 have b21:=F21.binds (ps:=["self"]) (by walk_at "b1")
 obtain ⟨a22,i22,d22,F22⟩:=g22
 have b22:=F22.binds (ps:=["self","names"]) (by walk_at "b2")
 obtain ⟨a23,i23,d23,F23⟩:=g23
 have b23:=F23.binds (ps:=["self","names"]) (by walk_at "b2")
 obtain ⟨a24,i24,d24,F24⟩:=g24
 have b24:=F24.binds (ps:=["self","weight"]) (by walk_at "b2")
 obtain ⟨a25,i25,d25,F25⟩:=g25
 have b25:=F25.binds (ps:=["self","fit"]) (by walk_at "b2")
 obtain ⟨a26,i26,d26,F26⟩:=g26
 have b26:=F26.binds (ps:=["self","fits"]) (by walk_at "b2")
 obtain ⟨a27,i27,d27,F27⟩:=g27
 have b27:=F27.binds (ps:=["self","fits"]) (by walk_at "b2")
 obtain ⟨a28,d28,F28⟩:=g28
 have b28:=F28.binds (ps:=["names"]) (by walk_at "b1")
 obtain ⟨a29,d29,F29⟩:=g29
 have b29:=F29.binds (ps:=["fit"]) (by walk_at "b1")
 obtain ⟨a30,d30,F30⟩:=g30
 have b30:=F30.binds (ps:=["fits"]) (by walk_at "b1")
 obtain ⟨a31,d31,F31⟩:=g31
 have b31:=F31.binds (ps:=["thing"]) (by walk_at "b1")
 obtain ⟨a32,d32,F32⟩:=g32
 have b32:=F32.binds (ps:=["thing"]) (by walk_at "b1")
 obtain ⟨a33,d33,F33⟩:=g33
 have b33:=F33.binds (ps:=["zone"]) (by walk_at "b1")
 obtain ⟨a34,d34,F34⟩:=g34
 have b34:=F34.binds (ps:=["quiet"]) (by walk_at "b1")
 obtain ⟨a35,d35,F35⟩:=g35
 have b35:=F35.binds (ps:=["minute"]) (by walk_at "b1")
 obtain ⟨a36,d36,F36⟩:=g36
 have b36:=F36.binds (ps:=["minute"]) (by walk_at "b1")
 obtain ⟨a37,i37,d37,F37⟩:=g37
 have b37:=F37.binds (ps:=["self","minute"]) (by walk_at "b2")
 obtain ⟨a38,i38,d38,F38⟩:=g38
 have b38:=F38.binds (ps:=["self","minute"]) (by walk_at "b2")
 have F39:=AA8 (st:=bR) l39 c39
 have b39_3:Binds K _ ["self","minutes","times","to"] []:=zJ (fd:=fnOf "__init__" "Raised.__init__" (cW bR) (cB bR) (aE bR) (.ref T39) kV39 dc39 pm39 an39 cd39 ct39) 4 rfl fun s us X hl=>match us,hl with | [_,_,_,_],_=>by first | exact .of_eq rfl | exact binds_K X rfl d39 rfl rfl rfl
 have F40:=AA8 (st:=bO) l40 c40
 have b40_5:Binds K _ ["self","fit","way","roads","sure","raised"] []:=zJ (fd:=fnOf "__init__" "Line.__init__" (cW bO) (cB bO) (aE bO) (.ref T40) kV40 dc40 pm40 an40 cd40 ct40) 6 rfl fun s us X hl=>match us,hl with | [_,_,_,_,_,_],_=>by first | exact .of_eq rfl | exact binds_K X rfl d40 rfl rfl rfl
 have b40_3:Binds K _ ["self","fit","way","roads","sure","raised"] [.bool false,.none]:=zJ (fd:=fnOf "__init__" "Line.__init__" (cW bO) (cB bO) (aE bO) (.ref T40) kV40 dc40 pm40 an40 cd40 ct40) 4 rfl fun s us X hl=>match us,hl with | [_,_,_,_],_=>by first | exact .of_eq rfl | exact binds_K X rfl d40 rfl rfl rfl
 obtain ⟨a41,d41,F41⟩:=g41
 have b41:=F41.binds (ps:=["way","roads","sure","raised"]) (by walk_at "b4")
 have F42:=AA8 (st:=bS) l42 c42
 have b42_4:Binds K _ ["self","zone","quiet","wake","lines"] []:=zJ (fd:=fnOf "__init__" "Wishes.__init__" (cW bS) (cB bS) (aE bS) (.ref T42) kV42 dc42 pm42 an42 cd42 ct42) 5 rfl fun s us X hl=>match us,hl with | [_,_,_,_,_],_=>by first | exact .of_eq rfl | exact binds_K X rfl d42 rfl rfl rfl
 obtain ⟨a43,d43,F43⟩:=g43
 have b43:=F43.binds (ps:=["wake","quiet"]) (by walk_at "b2")
 obtain ⟨a44,d44,F44⟩:=g44
 have b44:=F44.binds (ps:=["lines"]) (by walk_at "b1")
 obtain ⟨a45,d45,F45⟩:=g45
 have b45:=F45.binds (ps:=["text"]) (by walk_at "b1")
 obtain ⟨a46,d46,F46⟩:=g46
 have b46:=F46.binds (ps:=["text","part_from"]) (by walk_at "b2")
 obtain ⟨a47,i47,d47,F47⟩:=g47
 have b47:=F47.binds (ps:=["self","sign"]) (by walk_at "b2")
 obtain ⟨a48,d48,F48⟩:=g48
 have b48:=F48.binds (ps:=["words"]) (by walk_at "b1")
 obtain ⟨a49,d49,F49⟩:=g49
 have b49:=F49.binds (ps:=["words","opened"]) (by walk_at "b2")
 obtain ⟨a50,d50,F50⟩:=g50
 have b50:=F50.binds (ps:=["fit","words","opened"]) (by walk_at "b3")
 obtain ⟨a51,d51,F51⟩:=g51
 have b51:=F51.binds (ps:=["bracket","words"]) (by walk_at "b2")
 obtain ⟨a52,d52,F52⟩:=g52
 have b52:=F52.binds (ps:=["opened"]) (by walk_at "b1")
 obtain ⟨a53,d53,F53⟩:=g53
 have b53:=F53.binds (ps:=["words"]) (by walk_at "b1")
 obtain ⟨a54,d54,F54⟩:=g54
 have b54:=F54.binds (ps:=["words"]) (by walk_at "b1")
 have F55:=BP5 (st:=cF) l55 c55 k55
 have b55:=F55.binds (ps:=["words"]) (by walk_at "b1")
 obtain ⟨a56,d56,F56⟩:=g56
 have b56:=F56.binds (ps:=["words"]) (by walk_at "b1")
 obtain ⟨a57,d57,F57⟩:=g57
 have b57:=F57.binds (ps:=["stamps"]) (by walk_at "b1")
 obtain ⟨a58,d58,F58⟩:=g58
 have b58:=F58.binds (ps:=["parts"]) (by walk_at "b1")
 obtain ⟨a59,d59,F59⟩:=g59
 have b59:=F59.binds (ps:=["lines"]) (by walk_at "b1")
 obtain ⟨a60,d60,F60⟩:=g60
 have b60:=F60.binds (ps:=["text"]) (by walk_at "b1")
 obtain ⟨a61,d61,F61⟩:=g61
 have b61:=F61.binds (ps:=["text","part_from"]) (by walk_at "b2")
 have F62:=BP5 (st:=cR) l62 c62 k62
 have b62:=F62.binds (ps:=["words"]) (by walk_at "b1")
 obtain ⟨a63,d63,F63⟩:=g63
 have b63:=F63.binds (ps:=["words"]) (by walk_at "b1")
 obtain ⟨a64,d64,F64⟩:=g64
 have b64:=F64.binds (ps:=["words"]) (by walk_at "b1")
 obtain ⟨a65,d65,F65⟩:=g65
 have b65:=F65.binds (ps:=["words"]) (by walk_at "b1")
 obtain ⟨a66,d66,F66⟩:=g66
 have b66:=F66.binds (ps:=["words"]) (by walk_at "b1")
 obtain ⟨a67,d67,F67⟩:=g67
 have b67:=F67.binds (ps:=["_law_script","_law_k"]) (by walk_at "b2")
 obtain ⟨a68,d68,F68⟩:=g68
 have b68:=F68.binds (ps:=["_law_cell"]) (by walk_at "b1")
 obtain ⟨a69,d69,F69⟩:=g69
 have b69:=F69.binds (ps:=["_law_state","_law_base"]) (by walk_at "b2")
 obtain ⟨a70,d70,F70⟩:=g70
 have b70:=F70.binds (ps:=["_law_state"]) (by walk_at "b1")
 obtain ⟨a71,d71,F71⟩:=g71
 have b71:=F71.binds (ps:=["_law_state"]) (by walk_at "b1")
 obtain ⟨a72,d72,F72⟩:=g72
 have b72:=F72.binds (ps:=["_law_state"]) (by walk_at "b1")
 obtain ⟨a73,d73,F73⟩:=g73
 have b73:=F73.binds (ps:=["_law_state"]) (by walk_at "b1")
 obtain ⟨a74,d74,F74⟩:=g74
 have b74:=F74.binds (ps:=["_law_state"]) (by walk_at "b1")
 obtain ⟨a75,d75,F75⟩:=g75
 have b75:=F75.binds (ps:=["_law_state"]) (by walk_at "b1")
 obtain ⟨a76,d76,F76⟩:=g76
 have b76:=F76.binds (ps:=["_law_state","_law_kind"]) (by walk_at "b2")
 obtain ⟨a77,d77,F77⟩:=g77
 have b77:=F77.binds (ps:=["_law_line_here"]) (by walk_at "b1")
 obtain ⟨a78,d78,F78⟩:=g78
 have b78:=F78.binds (ps:=["_law_thing"]) (by walk_at "b1")
 have b79:=F79.binds (ps:=["_law_script"]) (by walk_at "b1")
 obtain ⟨_,_,kVx,dcx,pmx,anx,cdx,ctx,_,rfl,_,_⟩:=F79.ex
 refine hN ⟨a,fnOf "law" "law" (cW AW8) (cB AW8) (aE AW8) .none kVx dcx pmx anx cdx ctx,fun s v=>.of_eq rfl,fun base _ _=>?_⟩
 have tZ:FnOk l.prog w K mg base (CXF l.prog w) 1 _ _ _ _:=FnOk.up (rM B  F0)
 have aY:CalI l.prog w K mg base "NoText" a.NoText "line" 1 (.int 0):=⟨a.BellError,f0,_,_,_,tZ,b0_0,⟨_,rfl⟩,⟨⟨_,_,_,_,_,_,_,_,_,_,_,_,_,_,_,lxNoText⟩,xbNoText,a0,i0⟩,B.NoText⟩
 have b0_1:Binds K _ ["self","line"] []:=zJ (fd:=fnOf "__init__" "NoText.__init__" (cW bI) (cB bI) (aE bI) (.ref T0) kV0 dc0 pm0 an0 cd0 ct0) 2 rfl fun s us X hl=>match us,hl with | [_,_],_=>by first | exact .of_eq rfl | exact binds_K X rfl d0 rfl rfl rfl
 have CIA_NoText:CalIA l.prog w K mg base "NoText" a.NoText "line" 1:=⟨a.BellError,f0,_,_,zT (P:=l.prog) (w:=w) (base:=base) B F0,b0_1,⟨⟨_,_,_,_,_,_,_,_,_,_,_,_,_,_,_,lxNoText⟩,xbNoText,a0,i0⟩,B.NoText⟩
 have tU:CalIH l.prog w K mg base "NoText" a.NoText "line" 1 (.int 0):=⟨a.BellError,f0,_,_,_,zT (P:=l.prog) (w:=w) (base:=base) B F0,b0_0,⟨_,rfl⟩,⟨⟨_,_,_,_,_,_,_,_,_,_,_,_,_,_,_,lxNoText⟩,xbNoText,a0,i0⟩,B.NoText⟩
 have AX4:FnOk l.prog w K mg base (CXF l.prog w) 1 _ _ _ _:=FnOk.up (AP1 B  F1)
 have iS:CalX l.prog w K mg base _ _ 1 _:=⟨_,_,AX4,b1,F1.kp,mg_of X G a1⟩
 have BI2:FnOk l.prog w K mg base (CXF l.prog w) 1 _ _ _ _:=FnOk.up (AW9 B  F4)
 have cU:CalX l.prog w K mg base _ _ 1 _:=⟨_,_,BI2,b4,F4.kp,mg_of X G a4⟩
 have AK1:FnOk l.prog w K mg base (CXF l.prog w) 1 _ _ _ _:=FnOk.up (AD2 B  F6)
 have kB:CalX l.prog w K mg base _ _ 1 _:=⟨_,_,AK1,b6,F6.kp,mg_of X G a6⟩
 have vF:FnOk l.prog w K mg base (CXF l.prog w) 1 _ _ _ _:=FnOk.up (tM B  F9)
 have AK2:FnOk l.prog w K mg base (CXF l.prog w) 1 _ _ _ _:=FnOk.up (AD3 B  F10)
 have AQ4:FnOk l.prog w K mg base (CXF l.prog w) 1 _ _ _ _:=FnOk.up (AJ5 B  F29)
 have gN:CalX l.prog w K mg base _ _ 1 _:=⟨_,_,AQ4,b29,F29.kp,mg_of X G a29⟩
 have yT:FnOk l.prog w K mg base (CXF l.prog w) 1 _ _ _ _:=xL B  F41
 have kT:CalX l.prog w K mg base _ _ 1 _:=⟨_,_,yT,b41,F41.kp,mg_of X G a41⟩
 have AF2:FnOk l.prog w K mg base (CXF l.prog w) 1 _ _ _ _:=FnOk.up (yO B  F44)
 have mG:CalX l.prog w K mg base _ _ 1 _:=⟨_,_,AF2,b44,F44.kp,mg_of X G a44⟩
 have uA:FnOk l.prog w K mg base (CXF l.prog w) 1 _ _ _ _:=FnOk.up (rO B  F47)
 have xQ:CalC l.prog w K mg base "Opened" a.Opened ["self","sign"] 1 (fV K _):=⟨_,_,uA,b47,⟨mkOpened,a47,i47,kcOpened⟩,B.Opened⟩
 have AF3:FnOk l.prog w K mg base (CXF l.prog w) 1 _ _ _ _:=FnOk.up (yR B  F57)
 have mI:CalX l.prog w K mg base _ _ 1 _:=⟨_,_,AF3,b57,F57.kp,mg_of X G a57⟩
 have AF4:FnOk l.prog w K mg base (CXF l.prog w) 1 _ _ _ _:=FnOk.up (yS B  F67)
 have mJ:CalX l.prog w K mg base _ _ 1 _:=⟨_,_,AF4,b67,F67.kp,mg_of X G a67⟩
 have AQ5:FnOk l.prog w K mg base (CXF l.prog w) 1 _ _ _ _:=FnOk.up (AK0 B  F68)
 have pZ:CalX l.prog w K mg base _ _ 1 _:=⟨_,_,AQ5,b68,F68.kp,mg_of X G a68⟩
 have AX5:FnOk l.prog w K mg base (CXF l.prog w) 1 _ _ _ _:=FnOk.up (AP7 B  F69)
 have aP:CalX l.prog w K mg base _ _ 1 _:=⟨_,_,AX5,b69,F69.kp,mg_of X G a69⟩
 have AX6:FnOk l.prog w K mg base (CXF l.prog w) 1 _ _ _ _:=FnOk.up (AP9 B  F77)
 have tY:CalX l.prog w K mg base _ _ 1 _:=⟨_,_,AX6,b77,F77.kp,mg_of X G a77⟩
 have rZ:FnOk l.prog w K mg base (CXF l.prog w) 2 _ _ _ _:=FnOk.up (pU B iS F2)
 have bQ:CalX l.prog w K mg base _ _ 2 _:=⟨_,_,rZ,b2,F2.kp,mg_of X G a2⟩
 have xS:FnOk l.prog w K mg base (CXF l.prog w) 2 _ _ _ _:=FnOk.up (vA B iS F3)
 have bU:CalX l.prog w K mg base _ _ 2 _:=⟨_,_,xS,b3,F3.kp,mg_of X G a3⟩
 have sA:FnOk l.prog w K mg base (CXF l.prog w) 2 _ _ _ _:=FnOk.up (pT B cU F5)
 have cN:CalX l.prog w K mg base _ _ 2 _:=⟨_,_,sA,b5,F5.kp,mg_of X G a5⟩
 have AQ6:FnOk l.prog w K mg base (CXF l.prog w) 2 _ _ _ _:=FnOk.up (AJ4 B kB F7)
 have pY:CalX l.prog w K mg base _ _ 2 _:=⟨_,_,AQ6,b7,F7.kp,mg_of X G a7⟩
 have dX:∀ C sp,pQ K a C sp->CalM l.prog w K mg base C "look" ["self"] 1 sp:=by
  rintro C sp ⟨rfl,rfl⟩
  exact ⟨⟨_,_,FnOk.lift AK2 (by decide),b10,⟨a10,i10,F10.kp⟩,B.ck_Words.cl⟩⟩
 have AK3:FnOk l.prog w K mg base (CXF l.prog w) 2 _ _ _ _:=FnOk.up (AD4 B dX F11)
 have AF5:FnOk l.prog w K mg base (CXF l.prog w) 2 _ _ _ _:=FnOk.up (yK B dX F12)
 have yU:FnOk l.prog w K mg base (CXF l.prog w) 2 _ _ _ _:=FnOk.up (xJ B gN F25)
 have BI0:CalC l.prog w K mg base "Not" a.Not ["self","fit"] 2 (jJ K _):=⟨_,_,yU,b25,⟨mkNot,a25,i25,kcNot⟩,B.Not⟩
 have AK4:FnOk l.prog w K mg base (CXF l.prog w) 2 _ _ _ _:=FnOk.up (AD6 B gN F30)
 have fC:CalX l.prog w K mg base _ _ 2 _:=⟨_,_,AK4,b30,F30.kp,mg_of X G a30⟩
 have AK5:FnOk l.prog w K mg base (CXF l.prog w) 2 _ _ _ _:=FnOk.up (AE2 B mI F58)
 have oB:CalX l.prog w K mg base _ _ 2 _:=⟨_,_,AK5,b58,F58.kp,mg_of X G a58⟩
 have AX7:FnOk l.prog w K mg base (CXF l.prog w) 2 _ _ _ _:=FnOk.up (AP8 B aP F70)
 have lD:CalX l.prog w K mg base _ _ 2 _:=⟨_,_,AX7,b70,F70.kp,mg_of X G a70⟩
 have BI3:FnOk l.prog w K mg base (CXF l.prog w) 2 _ _ _ _:=FnOk.up (AX2 B aP F71)
 have rY:CalX l.prog w K mg base _ _ 2 _:=⟨_,_,BI3,b71,F71.kp,mg_of X G a71⟩
 have AK6:FnOk l.prog w K mg base (CXF l.prog w) 2 _ _ _ _:=FnOk.up (AE4 B aP F74)
 have kD:CalX l.prog w K mg base _ _ 2 _:=⟨_,_,AK6,b74,F74.kp,mg_of X G a74⟩
 have AK7:FnOk l.prog w K mg base (CXF l.prog w) 2 _ _ _ _:=FnOk.up (AE3 B aP F75)
 have dL:CalX l.prog w K mg base _ _ 2 _:=⟨_,_,AK7,b75,F75.kp,mg_of X G a75⟩
 have vG:FnOk l.prog w K mg base (CXF l.prog w) 3 _ _ _ _:=tL B aY F8
 have iQ:CalC l.prog w K mg base "Words" a.Words ["self","text"] 3 (dG K _):=⟨_,_,vG,b8,⟨mkWords,a8,i8,kcWords⟩,B.Words⟩
 have dA:∀ C sp,rL K a C sp->CalM l.prog w K mg base C "takes" ["self","word"] 2 sp:=by
  rintro C sp ⟨rfl,rfl⟩
  exact ⟨⟨_,_,FnOk.lift AF5 (by decide),b12,⟨a12,i12,F12.kp⟩,B.ck_Words.cl⟩⟩
 have yV:FnOk l.prog w K mg base (CXF l.prog w) 3 _ _ _ _:=xM B dA aY F13
 have dQ:∀ C sp,lX K a C sp->CalM l.prog w K mg base C "is_ended" ["self"] 1 sp:=by
  rintro C sp ⟨rfl,rfl⟩
  exact ⟨⟨_,_,FnOk.lift vF (by decide),b9,⟨a9,i9,F9.kp⟩,B.ck_Words.cl⟩⟩
 have sB:FnOk l.prog w K mg base (CXF l.prog w) 3 _ _ _ _:=pR B dQ aY F14
 have cD:∀ C sp,iE K a C sp->CalM l.prog w K mg base C "take" ["self"] 2 sp:=by
  rintro C sp ⟨rfl,rfl⟩
  exact ⟨⟨_,_,FnOk.lift AK3 (by decide),b11,⟨a11,i11,F11.kp⟩,B.ck_Words.cl⟩⟩
 have qA:FnOk l.prog w K mg base (CXF l.prog w) 3 _ _ _ _:=oP B cD pY aY F15
 have uB:FnOk l.prog w K mg base (CXF l.prog w) 3 _ _ _ _:=rR B cD cU aY F17
 have qB:FnOk l.prog w K mg base (CXF l.prog w) 3 _ _ _ _:=oR B cD aY F18
 have sC:FnOk l.prog w K mg base (CXF l.prog w) 3 _ _ _ _:=FnOk.up (pS B cU dX cD F19)
 have uC:FnOk l.prog w K mg base (CXF l.prog w) 3 _ _ _ _:=rQ B aY F20
 have vH:FnOk l.prog w K mg base (CXF l.prog w) 3 _ _ _ _:=tO B bU F24
 have AE9:CalC l.prog w K mg base "Least" a.Least ["self","weight"] 3 (gM K _):=⟨_,_,vH,b24,⟨mkLeast,a24,i24,kcLeast⟩,B.Least⟩
 have xT:FnOk l.prog w K mg base (CXF l.prog w) 3 _ _ _ _:=FnOk.up (vC B fC F26)
 have AQ1:CalC l.prog w K mg base "Both" a.Both ["self","fits"] 3 (iC K _):=⟨_,_,xT,b26,⟨mkBoth,a26,i26,kcBoth⟩,B.Both⟩
 have uD:FnOk l.prog w K mg base (CXF l.prog w) 3 _ _ _ _:=FnOk.up (rN B fC F27)
 have xP:CalC l.prog w K mg base "Either" a.Either ["self","fits"] 3 (fR K _):=⟨_,_,uD,b27,⟨mkEither,a27,i27,kcEither⟩,B.Either⟩
 have AF6:FnOk l.prog w K mg base (CXF l.prog w) 3 _ _ _ _:=yJ B cN F28
 have eJ:CalX l.prog w K mg base _ _ 3 _:=⟨_,_,AF6,b28,F28.kp,mg_of X G a28⟩
 have sD:FnOk l.prog w K mg base (CXF l.prog w) 3 _ _ _ _:=FnOk.up (pV B bQ F31)
 have cC:CalX l.prog w K mg base _ _ 3 _:=⟨_,_,sD,b31,F31.kp,mg_of X G a31⟩
 have AK8:FnOk l.prog w K mg base (CXF l.prog w) 3 _ _ _ _:=FnOk.up (AD7 B bQ F33)
 have nX:CalX l.prog w K mg base _ _ 3 _:=⟨_,_,AK8,b33,F33.kp,mg_of X G a33⟩
 have mS:FnOk l.prog w K mg base (CXF l.prog w) 3 _ _ _ _:=lZ B bQ F35
 have dY:CalX l.prog w K mg base _ _ 3 _:=⟨_,_,mS,b35,F35.kp,mg_of X G a35⟩
 have uE:FnOk l.prog w K mg base (CXF l.prog w) 3 _ _ _ _:=rP B bU cU F39
 have CD_Raised_3:CalD l.prog w K mg base "Raised" a.Raised ["self","minutes","times","to"] 3 [] (fT K a):=⟨_,_,_,uE,b39_3,.nil,⟨mkRaised,a39,i39,kcRaised⟩,B.Raised⟩
 have oE:FnOk l.prog w K mg base (CXF l.prog w) 3 _ _ _ _:=vE B kT cN F40
 have CD_Line_5:CalD l.prog w K mg base "Line" a.Line ["self","fit","way","roads","sure","raised"] 3 [] (cX K a):=⟨_,_,_,oE,b40_5,.nil,⟨mkLine,a40,i40,kcLine⟩,B.Line⟩
 have CD_Line_3:CalD l.prog w K mg base "Line" a.Line ["self","fit","way","roads","sure","raised"] 3 [.bl false,.non] (cX K a):=⟨_,_,_,oE,b40_3,(.cons rfl (.cons rfl .nil)),⟨mkLine,a40,i40,kcLine⟩,B.Line⟩
 have AK9:FnOk l.prog w K mg base (CXF l.prog w) 3 _ _ _ _:=FnOk.up (AD8 B bU F43)
 have nY:CalX l.prog w K mg base _ _ 3 _:=⟨_,_,AK9,b43,F43.kp,mg_of X G a43⟩
 have vI:FnOk l.prog w K mg base (CXF l.prog w) 3 _ _ _ _:=tP B cD aY F51
 have iF:CalX l.prog w K mg base _ _ 3 _:=⟨_,_,vI,b51,F51.kp,mg_of X G a51⟩
 have AQ7:FnOk l.prog w K mg base (CXF l.prog w) 3 _ _ _ _:=FnOk.up (AJ9 B oB F59)
 have gP:CalX l.prog w K mg base _ _ 3 _:=⟨_,_,AQ7,b59,F59.kp,mg_of X G a59⟩
 have AX8:FnOk l.prog w K mg base (CXF l.prog w) 3 _ _ _ _:=FnOk.up (AQ0 B aP rY F72)
 have tX:CalX l.prog w K mg base _ _ 3 _:=⟨_,_,AX8,b72,F72.kp,mg_of X G a72⟩
 have aM:∀ C sp,bY K a C sp->CalM l.prog w K mg base C "take_number" ["self"] 3 sp:=by
  rintro C sp ⟨rfl,rfl⟩
  exact ⟨⟨_,_,FnOk.lift qA (by decide),b15,⟨a15,i15,F15.kp⟩,B.ck_Words.cl⟩⟩
 have sE:FnOk l.prog w K mg base (CXF l.prog w) 4 _ _ _ _:=pW B aM aY F16
 have fD:∀ C sp,nW K a C sp->CalM l.prog w K mg base C "take_some" ["self","count"] 3 sp:=by
  rintro C sp ⟨rfl,rfl⟩
  exact ⟨⟨_,_,FnOk.lift uC (by decide),b20,⟨a20,i20,F20.kp⟩,B.ck_Words.cl⟩⟩
 have uF:FnOk l.prog w K mg base (CXF l.prog w) 4 _ _ _ _:=rS B fD F21
 have xU:FnOk l.prog w K mg base (CXF l.prog w) 4 _ _ _ _:=vB B eJ F22
 have AQ2:CalC l.prog w K mg base "Kind" a.Kind ["self","names"] 4 (iB K _):=⟨_,_,xU,b22,⟨mkKind,a22,i22,kcKind⟩,B.Kind⟩
 have vJ:FnOk l.prog w K mg base (CXF l.prog w) 4 _ _ _ _:=tN B eJ F23
 have AE8:CalC l.prog w K mg base "Place" a.Place ["self","names"] 4 (gL K _):=⟨_,_,vJ,b23,⟨mkPlace,a23,i23,kcPlace⟩,B.Place⟩
 have vK:FnOk l.prog w K mg base (CXF l.prog w) 4 _ _ _ _:=FnOk.up (tR B cC F32)
 have iH:CalX l.prog w K mg base _ _ 4 _:=⟨_,_,vK,b32,F32.kp,mg_of X G a32⟩
 have oF:FnOk l.prog w K mg base (CXF l.prog w) 4 _ _ _ _:=mR B cC F36
 have eG:CalX l.prog w K mg base _ _ 4 _:=⟨_,_,oF,b36,F36.kp,mg_of X G a36⟩
 have xV:FnOk l.prog w K mg base (CXF l.prog w) 4 _ _ _ _:=vD B dY F37
 have AQ3:CalC l.prog w K mg base "Hour" a.Hour ["self","minute"] 4 (iD K _):=⟨_,_,xV,b37,⟨mkHour,a37,i37,kcHour⟩,B.Hour⟩
 have AL0:FnOk l.prog w K mg base (CXF l.prog w) 4 _ _ _ _:=FnOk.up (AE6 B aP tX F73)
 have oC:CalX l.prog w K mg base _ _ 4 _:=⟨_,_,AL0,b73,F73.kp,mg_of X G a73⟩
 have AF7:FnOk l.prog w K mg base (CXF l.prog w) 5 _ _ _ _:=FnOk.up (yN B iH F34)
 have mF:CalX l.prog w K mg base _ _ 5 _:=⟨_,_,AF7,b34,F34.kp,mg_of X G a34⟩
 have yW:FnOk l.prog w K mg base (CXF l.prog w) 5 _ _ _ _:=xK B eG F38
 have BI1:CalC l.prog w K mg base "Day" a.Day ["self","minute"] 5 (jK K _):=⟨_,_,yW,b38,⟨mkDay,a38,i38,kcDay⟩,B.Day⟩
 have BO3:FnOk l.prog w K mg base (CXF l.prog w) 5 _ _ _ _:=BH2 B BI0 AQ1 xP aY F52
 have AF0:CalX l.prog w K mg base _ _ 5 _:=⟨_,_,BO3,b52,F52.kp,mg_of X G a52⟩
 have AF8:FnOk l.prog w K mg base (CXF l.prog w) 5 _ _ _ _:=yL B aM CD_Raised_3 cU cD dX F54
 have mE:CalX l.prog w K mg base _ _ 5 _:=⟨_,_,AF8,b54,F54.kp,mg_of X G a54⟩
 have cQ:∀ C sp,iO K a C sp->CalM l.prog w K mg base C "expect_end" ["self"] 3 sp:=by
  rintro C sp ⟨rfl,rfl⟩
  exact ⟨⟨_,_,FnOk.lift sB (by decide),b14,⟨a14,i14,F14.kp⟩,B.ck_Words.cl⟩⟩
 have cG:∀ C sp,lY K a C sp->CalM l.prog w K mg base C "take_count" ["self"] 4 sp:=by
  rintro C sp ⟨rfl,rfl⟩
  exact ⟨⟨_,_,FnOk.lift sE (by decide),b16,⟨a16,i16,F16.kp⟩,B.ck_Words.cl⟩⟩
 have CMT_take:∀ C sp,iE K a C sp->CalMT l.prog w K mg base C "take" ["self"] 2 sp:=by
  rintro C sp ⟨rfl,rfl⟩
  exact ⟨⟨_,_,yM (P:=l.prog) (w:=w) (base:=base) B dX F11,b11,⟨a11,i11,F11.kp⟩,B.ck_Words.cl⟩⟩
 have AL1:FnOk l.prog w K mg base (CXF l.prog w) 5 _ _ _ _:=AE1 B iQ cQ cG CMT_take F64
 have kC:CalX l.prog w K mg base _ _ 5 _:=⟨_,_,AL1,b64,F64.kp,mg_of X G a64⟩
 have BI4:FnOk l.prog w K mg base (CXF l.prog w) 5 _ _ _ _:=FnOk.up (AX3 B kD lD oC dL aP F76)
 have xR:CalX l.prog w K mg base _ _ 5 _:=⟨_,_,BI4,b76,F76.kp,mg_of X G a76⟩
 have gW:CalX l.prog w K mg base "_law_truths" ["_law_thing"] 5 (eI K _ 5):=BV6 (spf:=eI K a) (n0:=0) yI b78 F78.kp (mg_of X G a78) (fun d n hn C=>FnOk.up (AE5 (P:=l.prog) (w:=w) (base:=base) hn B C F78)) 5 (by decide)
 have uG:FnOk l.prog w K mg base (CXF l.prog w) 6 _ _ _ _:=FnOk.up (rT B nX mF nY mG F42)
 have CD_Wishes_4:CalD l.prog w K mg base "Wishes" a.Wishes ["self","zone","quiet","wake","lines"] 6 [] (fU K a):=⟨_,_,_,uG,b42_4,.nil,⟨mkWishes,a42,i42,kcWishes⟩,B.Wishes⟩
 have iP:∀ C sp,rK K a C sp->CalM l.prog w K mg base C "take_names" ["self"] 3 sp:=by
  rintro C sp ⟨rfl,rfl⟩
  exact ⟨⟨_,_,FnOk.lift sC (by decide),b19,⟨a19,i19,F19.kp⟩,B.ck_Words.cl⟩⟩
 have vL:FnOk l.prog w K mg base (CXF l.prog w) 6 _ _ _ _:=tQ B cD AQ2 AE8 AE9 xQ iP aM aY F49
 have iG:CalX l.prog w K mg base _ _ 6 _:=⟨_,_,vL,b49,F49.kp,mg_of X G a49⟩
 have BO4:FnOk l.prog w K mg base (CXF l.prog w) 6 _ _ _ _:=BH5 B AF0 iF F50
 have AF1:CalX l.prog w K mg base _ _ 6 _:=⟨_,_,BO4,b50,F50.kp,mg_of X G a50⟩
 have cL:∀ C sp,nV K a C sp->CalM l.prog w K mg base C "take_name" ["self"] 3 sp:=by
  rintro C sp ⟨rfl,rfl⟩
  exact ⟨⟨_,_,FnOk.lift uB (by decide),b17,⟨a17,i17,F17.kp⟩,B.ck_Words.cl⟩⟩
 have dS:∀ C sp,kR K a C sp->CalM l.prog w K mg base C "take_one_of" ["self","choices"] 3 sp:=by
  rintro C sp ⟨rfl,rfl⟩
  exact ⟨⟨_,_,FnOk.lift qB (by decide),b18,⟨a18,i18,F18.kp⟩,B.ck_Words.cl⟩⟩
 have AX9:FnOk l.prog w K mg base (CXF l.prog w) 6 _ _ _ _:=AP6 B aM cL dS kC dQ F63
 have tW:CalX l.prog w K mg base _ _ 6 _:=⟨_,_,AX9,b63,F63.kp,mg_of X G a63⟩
 have AY0:FnOk l.prog w K mg base (CXF l.prog w) 7 _ _ _ _:=AP3 B AF1 iG F48
 have tS:CalX l.prog w K mg base _ _ 7 _:=⟨_,_,AY0,b48,F48.kp,mg_of X G a48⟩
 have AY1:FnOk l.prog w K mg base (CXF l.prog w) 7 _ _ _ _:=AP4 B cD AQ3 BI1 aM aY F53
 have tT:CalX l.prog w K mg base _ _ 7 _:=⟨_,_,AY1,b53,F53.kp,mg_of X G a53⟩
 have jM:∀ C sp,xH K a C sp->CalM l.prog w K mg base C "expect" ["self","word"] 3 sp:=by
  rintro C sp ⟨rfl,rfl⟩
  exact ⟨⟨_,_,FnOk.lift yV (by decide),b13,⟨a13,i13,F13.kp⟩,B.ck_Words.cl⟩⟩
 have qC:FnOk l.prog w K mg base (CXF l.prog w) 8 _ _ _ _:=oQ B tS jM tT fD dA CD_Line_5 CD_Line_3 aM mE F55
 have fA:CalX l.prog w K mg base _ _ 8 _:=⟨_,_,qC,b55,k55,mg_of X G a55⟩
 have sF:FnOk l.prog w K mg base (CXF l.prog w) 9 a.wishes_from _ ["words"] (gT K _):=yP (P:=l.prog) (w:=w) (base:=base) B jM aM dA CD_Wishes_4 fA dQ dX F56
 have BO5:CalX l.prog w K mg base _ _ 9 _:=⟨_,_,sF,b56,F56.kp,mg_of X G a56⟩
 have kU:CQ9 l.prog w K mg base a.wishes_from ["words"] 9 (gT K _):=⟨_,sF,b56,F56.kp⟩
 have AL2:FnOk l.prog w K mg base (qD l.prog w 1) 10 _ _ _ _:=AE0 B iQ cQ tU kU F46
 have nZ:CalG 1 l.prog w K mg base "read_whole" ["text","part_from"] 10 (lW K _):=⟨_,_,AL2,b46,F46.kp,mg_of X G a46⟩
 have AF9:FnOk l.prog w K mg base (qD l.prog w 1) 11 _ _ _ _:=yQ B nZ F45
 have mH:CalG 1 l.prog w K mg base "read_wishes" ["text"] 11 (kQ K _):=⟨_,_,AF9,b45,F45.kp,mg_of X G a45⟩
 have oA:∀ C sp,uS K a C sp->CalM l.prog w K mg base C "take_rest" ["self"] 4 sp:=by
  rintro C sp ⟨rfl,rfl⟩
  exact ⟨⟨_,_,FnOk.lift uF (by decide),b21,⟨a21,i21,F21.kp⟩,B.ck_Words.cl⟩⟩
 have sG:FnOk l.prog w K mg base (qD l.prog w 1) 12 _ _ _ _:=pX B mH oA F66
 have fY:CalG 1 l.prog w K mg base "wishes_text_from" ["words"] 12 (eZ K _):=⟨_,_,sG,b66,F66.kp,mg_of X G a66⟩
 have AY2:FnOk l.prog w K mg base (qD l.prog w 1) 13 _ _ _ _:=AP5 B cD aM cL fY cG aY F65
 have tV:CalG 1 l.prog w K mg base "row_from" ["words"] 13 (pP K _):=⟨_,_,AY2,b65,F65.kp,mg_of X G a65⟩
 have lE:FnOk l.prog w K mg base (qD l.prog w 1) 14 a.line_from_texts _ ["words"] (cZ K _):=rW (P:=l.prog) (w:=w) (base:=base) B dA tV tW aM dS F62
 have fZ:CalFG 1 l.prog w K mg base a.line_from_texts ["words"] 14 (cZ K _):=⟨_,lE,b62,k62⟩
 have AY3:CalG 1 l.prog w K mg base "line_from_texts" ["words"] 14 (cZ K _):=⟨_,_,lE,b62,k62,mg_of X G a62⟩
 have uH:FnOk l.prog w K mg base (qD l.prog w 1) 15 _ _ _ _:=rX B iQ cQ fZ F61
 have gO:CalG 1 l.prog w K mg base "read_whole_line" ["text","part_from"] 15 (fW K _):=⟨_,_,uH,b61,F61.kp,mg_of X G a61⟩
 have AQ8:FnOk l.prog w K mg base (qD l.prog w 2) 16 _ _ _ _:=AJ8 B gO CIA_NoText aY F60
 have jN:CalG 2 l.prog w K mg base "read_book" ["text"] 16 (nU K _):=⟨_,_,AQ8,b60,F60.kp,mg_of X G a60⟩
 exact CI8 (P:=l.prog) (w:=w) (base:=base) B jN pZ gW xR tY gP aP mJ F79
theorem CS6 {l:OpenLaw}{q:Program}{loose:List Str}{XP:(Str->Option Value)->Heap->Prop}{YP:World->Heap->Prop}{d:DefRec}{K:Params->Frag}(hn:l.most=some 63)(hdf:d.params.defaults=[])(hY:∀ (w:World) (h:Heap),YP w h->(K w.params).In h)(F:∀ (w:World) (mg:Str->Option Value) (fa:Addr) (h:Heap),(K w.params).In h->h.Ns mainGlobals mg->mg d.name=some (.ref fa) ->
   ∃ fd:FuncData,(∀ (s:Shared) (u:Value),BindsTo s fd ⟨[u],[]⟩ [("_law_script",u)])/\∀ base:Heap,(K w.params).In base->base.Ns mainGlobals mg->FnOk l.prog w (K w.params) mg base CX0 17 fa fd ["_law_script"] (spL (K w.params))) :
  WalkO q loose XP YP l.row.toRowW d [] (fun f vs=>PySem.call f vs) :=
 L2.CK9 (n:=63) (k:=17) (x:="_law_script") (CX:=fun _=>CX0) (sp:=fun w=>spL (K w.params)) hn (by decide) hdf ⟨rfl,by decide,by decide,rfl⟩ hY F (fun _ _ a ns hl _ hS=>⟨a,ns,rfl,hS,hl,fun _=>rfl⟩) fun _ _ _ _ _ z=>z
theorem CP0 {P:Program}{w:World}{K:Frag}{mg:Str->Option Value}{fa:Addr}(h:∃ (a:Ad) (fd:FuncData),(∀ (s:Shared) (v:Value),BindsTo s fd ⟨[v],[]⟩ [("_law_script",v)])/\∀ base:Heap,K.In base->base.Ns mainGlobals mg->FnOk P w K mg base CX0 17 fa fd ["_law_script"] (BG9 K a)) :
  ∃ fd:FuncData,(∀ (s:Shared) (v:Value),BindsTo s fd ⟨[v],[]⟩ [("_law_script",v)])/\∀ base:Heap,K.In base->base.Ns mainGlobals mg->FnOk P w K mg base CX0 17 fa fd ["_law_script"] (spL K):=by
 obtain ⟨a,fd,b,q⟩:=h
 exact ⟨fd,b,fun base x y=>q base x y⟩
end Bw
open PySem PySem.W PyProof.Rows
set_option maxRecDepth 100000 in
set_option maxHeartbeats 0 in
theorem PySem.Challenge.cw_bellsaway_k81_books_as_texts_holds : PySem.Challenge.rw_bellsaway_k81_books_as_texts.Holds := by
 w_on; o_law; k_head; (case hw=>w_witness2)
 k_fill
 refine Bw.CS6 (l:=PySem.Challenge.rw_bellsaway_k81_books_as_texts) rfl rfl (fun w h Y=>PySem.W.kIn_of Y) ?F
 case F =>
  intro w mg fa h KX G hmg
  refine Bw.CP0 ?Z
  refine' Bw.CR0 KX G hmg ?a0 ?i0 ?l0 ?d0 ?c0 ?g1 ?g2 ?g3 ?g4 ?g5 ?g6 ?g7 ?g8 ?g9 ?g10 ?g11 ?g12 ?g13 ?g14 ?g15 ?g16 ?g17 ?g18 ?g19 ?g20 ?g21 ?g22 ?g23 ?g24 ?g25 ?g26 ?g27 ?g28 ?g29 ?g30 ?g31 ?g32 ?g33 ?g34 ?g35 ?g36 ?g37 ?g38 ?a39 ?i39 ?l39 ?d39 ?c39 ?a40 ?i40 ?l40 ?d40 ?c40 ?g41 ?a42 ?i42 ?l42 ?d42 ?c42 ?g43 ?g44 ?g45 ?g46 ?g47 ?g48 ?g49 ?g50 ?g51 ?g52 ?g53 ?g54 ?a55 ?l55 ?c55 ?k55 ?g56 ?g57 ?g58 ?g59 ?g60 ?g61 ?a62 ?l62 ?c62 ?k62 ?g63 ?g64 ?g65 ?g66 ?g67 ?g68 ?g69 ?g70 ?g71 ?g72 ?g73 ?g74 ?g75 ?g76 ?g77 ?g78 ?g79 ?y0 ?y1 ?y2 ?y3 ?y4 ?y5 ?y6 ?y7 ?y8 ?y9 ?y10 ?y11 ?y12 ?y13 ?y14 ?y15 ?y16 ?y17 ?y18 ?y19 ?y20 ?y21 ?y22 ?y23 ?y24 ?y25 ?y26 ?y27 ?y28 ?y29 ?y30 ?y31 ?y32 ?y33 ?y34 ?y35 ?y36 ?y37 ?y38 ?y39 ?y40 ?y41 ?y42 ?y43 ?y44 ?y45 ?y46 ?y47_0 ?y47_1 ?y47_2 ?y47_3 ?y47_4 ?y47_5 ?y48 ?y49 ?y50 ?y51 ?y52 ?y53 ?y55_0 ?y55_1 ?y55_2 ?y55_3 ?y55_4 ?y55_5 ?y55_6 ?y55_7 ?y56_0 ?y56_1 ?y56_2 ?y56_3 ?y56_4 ?y56_5 ?y56_6 ?y56_7 ?y57 ?y58_0 ?y58_1 ?y58_2 ?y58_3 ?y58_4 ?y58_5 ?y58_6 ?y58_7 ?y59 ?y60_0 ?y60_1 ?y60_2 ?y60_3 ?y60_4 ?y60_5 ?y60_6 ?y60_7 ?y61 ?y62_0 ?y62_1 ?y62_2 ?y62_3 ?y62_4 ?y62_5 ?y62_6 ?y62_7 ?y63 ?y64_0 ?y64_1 ?y64_2 ?y64_3 ?y64_4 ?y64_5 ?y64_6 ?y64_7 ?y65 ?y66_0 ?y66_1 ?y66_2 ?y66_3 ?y66_4 ?y66_5 ?y66_6 ?y66_7 ?y67 ?y68_0 ?y68_1 ?y68_2 ?y68_3 ?y68_4 ?y68_5 ?y68_6 ?y68_7 ?y69 ?y70 ?y71_0 ?y71_1 ?y71_2 ?y71_3 ?y71_4 ?y71_5 ?y71_6 ?y71_7 ?y72 ?y73 ?y74 ?y75 ?y76 ?y77 ?y78 ?y79 ?y80 ?y81_0 ?y81_1 ?y81_2 ?y82 ?y83 ?y84 ?y85 ?y86 ?y87_0 ?y87_1 ?y87_2 ?y87_3 ?y87_4 ?y87_5 ?y87_6 ?y87_7 ?y88_0 ?y88_1 ?y88_2 ?y88_3 ?y88_4 ?y88_5 ?y88_6 ?y88_7 ?y89 ?y90_0 ?y90_1 ?y90_2 ?y90_3 ?y90_4 ?y90_5 ?y90_6 ?y90_7 ?y91 ?y92_0 ?y92_1 ?y92_2 ?y92_3 ?y92_4 ?y92_5 ?y92_6 ?y92_7 ?y93_0 ?y93_1 ?y93_2 ?y93_3 ?y93_4 ?y93_5 ?y93_6 ?y93_7 ?y94 ?y95 ?y96 ?y97_0 ?y97_1 ?y97_2 ?y97_3 ?y97_4 ?y97_5 ?y97_6 ?y97_7 ?y98 ?y99 ?y100 ?y101 ?y102 ?y103_0 ?y103_1 ?y103_2 ?y103_3 ?y103_4 ?y103_5 ?y103_6 ?y103_7 ?y104 ?y105 ?y106 ?y107 ?y108 ?y109 ?y110 ?y111 ?y112 ?y113 ?y114 ?y115 ?y116 ?y117 ?y118_0 ?y118_1 ?y118_2 ?y119_0 ?y119_1 ?y119_2 ?lxNoText ?xbNoText ?sxNoText ?mkWords ?kcWords ?mkKind ?kcKind ?mkPlace ?kcPlace ?mkLeast ?kcLeast ?mkNot ?kcNot ?mkBoth ?kcBoth ?mkEither ?kcEither ?mkHour ?kcHour ?mkDay ?kcDay ?mkRaised ?kcRaised ?mkLine ?kcLine ?mkWishes ?kcWishes ?mkOpened ?kcOpened
  (case y0|y1|y2|y3|y4|y5|y6|y7|y8|y9|y10|y11|y12|y13|y14|y15|y16|y17|y18|y19|y20|y21|y22|y23|y24|y25|y26|y27|y28|y29|y30|y31|y32|y33|y34|y35|y36|y37|y38|y39|y40|y41|y42|y43|y44|y45|y46|a0|i0|l0|d0|c0|a39|i39|l39|d39|c39|a40|i40|l40|d40|c40|a42|i42|l42|d42|c42|a55|l55|c55|k55|a62|l62|c62|k62|y47_0|y47_1|y47_2|y47_3|y47_4|y47_5=>k_is)
  (case y48=>k_exc)
  (case y49=>kts_exm)
  (case y50=>kts_exm)
  (case y51|y52|y53|y55_0|y55_1|y55_2|y55_3|y55_4|y55_5|y55_6|y55_7|y56_0|y56_1|y56_2|y56_3|y56_4|y56_5|y56_6|y56_7|y57|y58_0|y58_1|y58_2|y58_3|y58_4|y58_5|y58_6|y58_7|y59|y60_0|y60_1|y60_2|y60_3|y60_4|y60_5|y60_6|y60_7|y61|y62_0|y62_1|y62_2|y62_3|y62_4|y62_5|y62_6|y62_7|y63|y64_0|y64_1|y64_2|y64_3|y64_4|y64_5|y64_6|y64_7|y65|y66_0|y66_1|y66_2|y66_3|y66_4|y66_5|y66_6|y66_7|y67|y68_0|y68_1|y68_2|y68_3|y68_4|y68_5|y68_6|y68_7|y69|y70|y71_0|y71_1|y71_2|y71_3|y71_4|y71_5|y71_6|y71_7|y72|y73=>k_is)
  (case y74|y75|y76|y77|y78|y79|y80=>kit_is)
  (case y81_0|y81_1|y81_2=>k_is)
  (case y82=>k_exc)
  (case y83=>kts_exm)
  (case y84=>k_exc)
  (case y85=>kts_exm)
  (case y86=>kts_exm)
  (case y87_0|y87_1|y87_2|y87_3|y87_4|y87_5|y87_6|y87_7|y88_0|y88_1|y88_2|y88_3|y88_4|y88_5|y88_6|y88_7|y89|y90_0|y90_1|y90_2|y90_3|y90_4|y90_5|y90_6|y90_7|y91|y92_0|y92_1|y92_2|y92_3|y92_4|y92_5|y92_6|y92_7|y93_0|y93_1|y93_2|y93_3|y93_4|y93_5|y93_6|y93_7|y94|y95|y96|y97_0|y97_1|y97_2|y97_3|y97_4|y97_5|y97_6|y97_7|y98|y99|y100|y101|y102|y103_0|y103_1|y103_2|y103_3|y103_4|y103_5|y103_6|y103_7|y104|y105|y106|y107=>k_is)
  (case y108|y109|y110|y111|y112|y113|y114|y115|y116|y117=>kit_is)
  (case y118_0|y118_1|y118_2|y119_0|y119_1|y119_2|lxNoText=>k_is)
  (case xbNoText=>k_exc)
  (case sxNoText|mkWords|kcWords|mkKind|kcKind|mkPlace|kcPlace|mkLeast|kcLeast|mkNot|kcNot|mkBoth|kcBoth|mkEither|kcEither|mkHour|kcHour|mkDay|kcDay|mkRaised|kcRaised|mkLine|kcLine|mkWishes|kcWishes|mkOpened|kcOpened=>k_is)
  (case g1 | g2 | g3 | g4 | g5 | g6 | g7 | g28 | g29 | g30 | g31 | g32 | g33 | g34 | g35 | g36 | g41 | g43 | g44 | g45 | g46 | g48 | g49 | g50 | g51 | g52 | g53 | g54 | g56 | g57 | g58 | g59 | g60 | g61 | g63 | g64 | g65 | g66 | g67 | g68 | g69 | g70 | g71 | g72 | g73 | g74 | g75 | g76 | g77 | g78 | g79=>(refine' ⟨?a,_,L2.BP5 ?l ?c ?k⟩; (case a=>k_is); (case l=>k_is); (case c=>k_is); (case k=>k_is)))
  (case g8 | g9 | g10 | g11 | g12 | g13 | g14 | g15 | g16 | g17 | g18 | g19 | g20 | g21 | g22 | g23 | g24 | g25 | g26 | g27 | g37 | g38 | g47=>(refine' ⟨?a,?i,_,L2.BP5 ?l ?c ?k⟩; (case a=>k_is); (case i=>k_is); (case l=>k_is); (case c=>k_is); (case k=>k_is)))
