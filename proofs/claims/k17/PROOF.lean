import PyProof.Rows.All
import Imp.Common
import Imp.FormA
import Imp.PinsA
import KE.IntText
import KE.KIntText
import KE.KIsAll
import KE.KItem
import KE.KTryMore
import ObjForm.Claim3
import Open.Boot
import Open.Claim
import Open.Fast
import Open.FastLooks
import Open.FastRun
import Open.FastT1
import Open.FastT9
import Open.FastTabs
import Open.Head
import Open.Line
import Open.Pieces
import Open.Recs
import Open.Row
import Open.Seg
import Open.Strs
import Open.Tree
import OpenK.KCall
import OpenK.KCls
import OpenK.KDescr
import OpenK.KFacts
import OpenK.KGet
import OpenK.KLine
import OpenK.KMake
import OpenK.KMore
import OpenK.KOwn
import OpenK.KRaise
import OpenK.KWalk
import OpenK.Peek
import PyProof.EqAt
import PyProof.EqKinds
import PyProof.TupleCall
import Wide.BridgeG
import Wide.BytesRules
import Wide.Claim
import Wide.Data
import Wide.Ends
import Wide.Head
import Wide.Lay
import Wide.Line
import Wide.Loose
import Wide.ObjOpen
import Wide.OneHead
import Wide.Pins
import Wide.Reads
import Wide.Row
import Wide.Tac
import Wide.Tm
import Wide.Top
import Wide.Vals
import Wide.Well
import KE.RegKIsAll
import KE.RegKTryMore
import OpenK.KQuick
import Wide.All
import Wide.FinOn
import Open.Dig
import Open.FastParts
import Open.FastTables
import Open.FastU1
import Open.FastU10
import Open.FastU11
import Open.FastU12
import Open.FastU2
import Open.FastU3
import Open.FastU4
import Open.FastU5
import Open.FastU6
import Open.FastU7
import Open.FastU8
import Open.FastU9
import Open.Fors
import Open.Gens
import Open.Split
import Open.TopsExt
import Open.TreeImp
import Open.Trees2
import PySem.Challenge.RW_bellsaway_k17_lines_as_texts
set_option Elab.async false
set_option linter.all false
set_option compiler.extract_closed false
set_option maxRecDepth 100000
namespace L2
open PySem PySem.Spec PyProof.Rows PySem.W
abbrev Key:=Sum Int Str
def BV4:Key->Value->Bool
 | .inl k,v=>Value.isInt k v
 | .inr x,v=>Value.isStrOf x v
def CK3 (w:World):Key->Int
 | .inl k=>hashInt k
 | .inr x=>hashStr w x
theorem cZ:∀ {k:Key}{v:Value},BV4 k v=true->(∃ i t,k=Sum.inl i/\v=Value.int i t)\/(∃ x t,k=Sum.inr x/\v=Value.str x t)
 | .inl i,v,h=>by
  obtain ⟨t,e⟩:=Value.isInt_shape (k:=i) (v:=v) h
  exact .inl ⟨i,t,rfl,e⟩
 | .inr x,v,h=>by
  obtain ⟨t,e⟩:=Value.isStrOf_shape (x:=x) (v:=v) h
  exact .inr ⟨x,t,rfl,e⟩
theorem BV5 (a b:Int):decide ((Sum.inl a:Key)=Sum.inl b)=(a == b):=by
 by_cases e:a=b
 ·subst e; simp
 ·have h:¬ (Sum.inl a:Key)=Sum.inl b:=fun q=>e (Sum.inl.inj q)
  rw [decide_eq_false h]
  exact (beq_eq_false_iff_ne.mpr e).symm
theorem BV6 (a b:Str):decide ((Sum.inr a:Key)=Sum.inr b)=decide (a=b):=by
 by_cases e:a=b
 ·subst e; simp
 ·have h:¬ (Sum.inr a:Key)=Sum.inr b:=fun q=>e (Sum.inr.inj q)
  rw [decide_eq_false h,decide_eq_false e]
theorem BV7 (a:Int)(b:Str):decide ((Sum.inl a:Key)=Sum.inr b)=false:=decide_eq_false (fun q=>nomatch q)
theorem BV8 (a:Str)(b:Int):decide ((Sum.inr a:Key)=Sum.inl b)=false:=decide_eq_false (fun q=>nomatch q)
def AS8 (prog:Program)(w:World):PySem.KeyKind prog w Key where
 is:=BV4
 hash:=CK3 w
 inj:=fun v a b ha hb=>by
  rcases cZ ha with ⟨i,t,rfl,rfl⟩ | ⟨x,t,rfl,rfl⟩
  ·rcases cZ hb with ⟨j,u,rfl,e⟩ | ⟨y,u,rfl,e⟩
   ·injection e with e1 _; rw [e1]
   ·exact nomatch e
  ·rcases cZ hb with ⟨j,u,rfl,e⟩ | ⟨y,u,rfl,e⟩
   ·exact nomatch e
   ·injection e with e1 _; rw [e1]
 byValue:=fun k v h=>by
  rcases cZ h with ⟨i,t,rfl,rfl⟩ | ⟨x,t,rfl,rfl⟩ <;> rfl
 pyHash:=fun hv h=>by
  rcases cZ hv with ⟨i,t,rfl,rfl⟩ | ⟨x,t,rfl,rfl⟩
  ·exact wpAny_pyHash_int h
  ·exact wpAny_pyHash_str h
 eqBool:=fun hu hv h=>by
  rcases cZ hu with ⟨i,t,rfl,rfl⟩ | ⟨x,t,rfl,rfl⟩
  ·rcases cZ hv with ⟨j,u,rfl,rfl⟩ | ⟨y,u,rfl,rfl⟩
   ·rw [BV5] at h; exact wpAny_eqBool_int h
   ·rw [BV7] at h; exact SeqAt.EqAt.int_str i t y u _ _ _ _ h
  ·rcases cZ hv with ⟨j,u,rfl,rfl⟩ | ⟨y,u,rfl,rfl⟩
   ·rw [BV8] at h; exact SeqAt.EqAt.str_int x t j u _ _ _ _ h
   ·rw [BV6] at h; exact wpAny_eqBool_str h
 «strs»:=fun k x t v h=>by
  rcases cZ h with ⟨i,u,rfl,e⟩ | ⟨y,u,rfl,e⟩
  ·exact nomatch e
  ·injection e with e1 _
   subst e1
   cases v <;> rfl
inductive V where
 | non | bl (b:Bool) | int (i:Int) | str (x:Str) | byt (b:Array UInt8) | flt (b:UInt64) | ref (a:Addr) | ty (n:String)
 deriving DecidableEq
def RelV:V->Value->Prop
 | .non,u=>u=Value.none
 | .bl b,u=>u=Value.bool b
 | .int i,u=>∃ t,u=Value.int i t
 | .str x,u=>∃ t,u=Value.str x t
 | .byt b,u=>∃ t,u=Value.bytes b t
 | .flt b,u=>∃ t,u=Value.float b t
 | .ref a,u=>u=Value.ref a
 | .ty n,u=>u=Value.type n
abbrev Vals:List V->List Value->Prop:=Paired RelV
theorem Vals.length {xs:List V}{us:List Value}(r:Vals xs us):xs.length=us.length:=Paired.length r
theorem Vals.get:∀ {xs:List V}{us:List Value}{i:Nat}{x:V},Vals xs us->xs[i]?=some x->∃ u,us[i]?=some u/\RelV x u
 | _,_,_,_,.nil,e=>by simp at e
 | _,_,0,_,.cons r _,e=>by simp at e; subst e; exact ⟨_,rfl,r⟩
 | _,_,i+1,x,.cons _ t,e=>by
  obtain ⟨u,h1,h2⟩:=Vals.get (i:=i) (x:=x) t (by simpa using e)
  exact ⟨u,by simpa using h1,h2⟩
theorem Vals.set {x:V}{u:Value}(r:RelV x u):∀ {xs:List V}{us:List Value}(i:Nat),Vals xs us->Vals (xs.set i x) (us.set i u)
 | _,_,_,.nil=>.nil
 | _,_,0,.cons _ t=>.cons r t
 | _,_,i+1,.cons q t=>.cons q (Vals.set r i t)
theorem Vals.append:∀ {xs ys:List V}{us ws:List Value},Vals xs us->Vals ys ws->Vals (xs++ys) (us++ws)
 | _,_,_,_,.nil,s=>s
 | _,_,_,_,.cons r t,s=>.cons r (Vals.append t s)
theorem Vals.take:∀ {xs:List V}{us:List Value}(n:Nat),Vals xs us->Vals (xs.take n) (us.take n)
 | _,_,0,_=>.nil
 | _,_,_+1,.nil=>.nil
 | _,_,n+1,.cons r t=>.cons r (Vals.take n t)
theorem Vals.drop:∀ {xs:List V}{us:List Value}(n:Nat),Vals xs us->Vals (xs.drop n) (us.drop n)
 | _,_,0,r=>r
 | _,_,_+1,.nil=>.nil
 | _,_,n+1,.cons _ t=>Vals.drop n t
def RelO:Option V->Option Value->Prop
 | some v,some u=>RelV v u
 | none,none=>True
 | _,_=>False
def KV {κ:Type}:List (κ × V)->List (κ × Value)->Prop:=Paired fun (p:κ × V) (q:κ × Value)=>p.1=q.1/\RelV p.2 q.2
def kV:Key->V
 | .inl i=>.int i
 | .inr x=>.str x
inductive HO where
  | lst (xs:List V)
  | tup (xs:List V)
  | dK (kvs:List (Key × V)) | dT (kvs:List (List Key × V))
  | set (S:Int->Bool) (n:Nat)
  | ins (C dx:Addr) (fs:List (Str × V))
  | own (x:Addr)
  | xd (fs:List (Str × V))
  | met (f x:Addr)
  | rng (lo hi:Int)
  | frz (o:Obj) (u:HO)
  | tbl (ps:Array Value)
  | ext (φ:Heap->Prop)
abbrev Hp:=Addr->Option HO
def upd (H:Hp)(a:Addr)(o:HO):Hp:=fun b=>if b=a then some o else H b
theorem aA {H:Hp}{a:Addr}{o:HO}:upd H a o a=some o:=by unfold upd; rw [if_pos rfl]
theorem aJ {H:Hp}{a b:Addr}{o:HO}(h:b≠a):upd H a o b=H b:=by unfold upd; rw [if_neg h]
theorem wP {H:Hp}{a b:Addr}{o u:HO}(h:H a=some o)(h':H b=some u)(d:o≠u):a≠b:=by
 intro e; subst e; rw [h] at h'; exact d (Option.some.inj h')
theorem aQ {H:Hp}{a b:Addr}{o:HO}(h:H a=some o)(h':H b=none):a≠b:=by
 intro e; subst e; rw [h] at h'; cases h'
section
variable (P:Program) (w:World)
def ObjOk (H:Hp)(h:Heap)(a:Addr):HO->Prop
 | .lst xs=>xs.length<=sizeLine/\∃ (its:List Value) (n:Nat),Vals xs its/\h.get? a=some { cls:=.type "list",data:=.seq its.toArray n }
 | .tup xs=>xs.length<=sizeLine/\∃ its:List Value,Vals xs its/\IsTup h a its.toArray
 | .dK kvs=>kvs.length<=sizeLine/\(a == sysModules)=false/\∃ vs,KV kvs vs/\h.DictOf (AS8 P w) a vs
 | .dT kvs=>kvs.length<=sizeLine/\(a == sysModules)=false/\∃ xs:List (List Key × Addr × Value),
   Paired (fun (p:List Key × V) (q:List Key × Addr × Value)=>p.1=q.1/\H q.2.1=some (.tup (p.1.map kV))/\RelV p.2 q.2.2) kvs xs /\
   ∃ o es ep,h.get? a=some o/\o.ExactDict/\o.data=.dict es ep/\es.toList=xs.map (entryOfKey (tupleKind (AS8 P w)))/\(xs.map (·.1)).Nodup
 | .set S n=>h.SetOf (intKind P w) a S n
 | .ins C dx fs=>H dx=some (.own a)/\fs.length<=1000/\dx≠a/\h.get? a=some (instObj C dx) /\
   ∃ mA,h.Ns1 dx mA/\(∀ f,RelO (fs.lookup f) (mA f))/\PySem.Within mA (fs.map (·.1))
 | .own _=>∃ o,h.get? a=some o
 | .xd fs=>∃ mA,h.Ns1 a mA/\∀ f,RelO (fs.lookup f) (mA f)
 | .rng lo hi=>∃ t u v,h.get? a=some { cls:=.type "range",data:=.fields #[.int lo t,.int hi u,.int 1 v] }
 | .frz o u=>h.get? a=some o/\ObjOk H h a u
 | .tbl ps=>h.get? a=some { cls:=.none,data:=.fields ps }
 | .met f x=>h.get? a=some (methodObj (.ref f) (.ref x))
 | .ext φ=>φ h/\(∃ o,h.get? a=some o)/\∀ h1 h2:Heap,φ h1->(∀ o,h1.get? a=some o->h2.get? a=some o)->φ h2
def HOk (H:Hp)(h:Heap):Prop:=∀ a o,H a=some o->ObjOk P w H h a o
end
section
variable {P:Program}{w:World}{H H':Hp}{h h':Heap}{a:Addr}{o:HO}
theorem ObjOk.lt (x:ObjOk P w H h a o):a < h.objs.size:=by
 cases o with
 | lst xs=>obtain ⟨_,_,_,_,e⟩:=x; exact Heap.lt_size e
 | tup xs=>obtain ⟨_,_,_,p⟩:=x; exact p.lt
 | dK kvs=>obtain ⟨_,_,_,_,o,_,_,e,_⟩:=x; exact Heap.lt_size e
 | dT kvs=>obtain ⟨_,_,_,_,o,_,_,e,_⟩:=x; exact Heap.lt_size e
 | set S n=>obtain ⟨o,_,_,_,e,_⟩:=x; exact Heap.lt_size e
 | ins C dx fs=>obtain ⟨_,_,_,e,_⟩:=x; exact Heap.lt_size e
 | own y=>obtain ⟨_,e⟩:=x; exact Heap.lt_size e
 | xd fs=>obtain ⟨_,⟨_,_,_,e,_⟩,_⟩:=x; exact Heap.lt_size e
 | rng lo hi=>obtain ⟨_,_,_,e⟩:=x; exact Heap.lt_size e
 | frz ob u=>obtain ⟨e,_⟩:=x; exact Heap.lt_size e
 | tbl ps=>exact Heap.lt_size (show h.get? a=some _ from x)
 | met f y=>exact Heap.lt_size (show h.get? a=some _ from x)
 | ext φ=>obtain ⟨_,⟨_,e⟩,_⟩:=x; exact Heap.lt_size e
theorem Paired.mapP {α β:Type}{F G:α->β->Prop}:∀ {l₁:List α}{l₂:List β},Paired F l₁ l₂->(∀ a b,F a b->G a b)->Paired G l₁ l₂
 | _,_,.nil,_=>.nil
 | _,_,.cons r t,f=>.cons (f _ _ r) (Paired.mapP t f)
theorem ObjOk.stay (x:ObjOk P w H h a o)(k:∀ b u,(b=a\/H b=some (.own a))->h.get? b=some u->h'.get? b=some u)(ho:∀ b,H b=some (.own a)->H' b=some (.own a))(ht:∀ b xs,H b=some (.tup xs)->H' b=some (.tup xs)):ObjOk P w H' h' a o:=by
 induction o with
 | lst xs=>obtain ⟨z,its,n,r,e⟩:=x; exact ⟨z,its,n,r,k _ _ (.inl rfl) e⟩
 | tup xs=>obtain ⟨z,its,r,ob,e,c⟩:=x; exact ⟨z,its,r,ob,k _ _ (.inl rfl) e,c⟩
 | dK kvs=>obtain ⟨z,y,vs,r,ob,es,ep,e,c⟩:=x; exact ⟨z,y,vs,r,ob,es,ep,k _ _ (.inl rfl) e,c⟩
 | dT kvs =>
  obtain ⟨z,y,xs,r,ob,es,ep,e,c⟩:=x
  exact ⟨z,y,xs,Paired.mapP r fun p q z=>⟨z.1,ht _ _ z.2.1,z.2.2⟩,ob,es,ep,k _ _ (.inl rfl) e,c⟩
 | set S n=>obtain ⟨ob,es,ep,t,e,c⟩:=x; exact ⟨ob,es,ep,t,k _ _ (.inl rfl) e,c⟩
 | ins C dx fs =>
  obtain ⟨d,z,ne,e,mA,⟨od,es,ep,e2,c⟩,r⟩:=x
  exact ⟨ho _ d,z,ne,k _ _ (.inl rfl) e,mA,⟨od,es,ep,k _ _ (.inr d) e2,c⟩,r⟩
 | own y=>obtain ⟨ob,e⟩:=x; exact ⟨ob,k _ _ (.inl rfl) e⟩
 | xd fs=>obtain ⟨mA,⟨od,es,ep,e,c⟩,r⟩:=x; exact ⟨mA,⟨od,es,ep,k _ _ (.inl rfl) e,c⟩,r⟩
 | rng lo hi=>obtain ⟨t,u,v,e⟩:=x; exact ⟨t,u,v,k _ _ (.inl rfl) e⟩
 | frz ob u ih=>obtain ⟨e,q⟩:=x; exact ⟨k _ _ (.inl rfl) e,ih q⟩
 | tbl ps =>
  have e:h.get? a=some { cls:=.none,data:=.fields ps }:=x
  show h'.get? a=some { cls:=.none,data:=.fields ps }
  exact k a _ (.inl rfl) e
 | met f y =>
  have e:h.get? a=some (methodObj (.ref f) (.ref y)):=x
  show h'.get? a=some (methodObj (.ref f) (.ref y))
  exact k a _ (.inl rfl) e
 | ext φ=>obtain ⟨p,⟨o,e⟩,st⟩:=x; exact ⟨st _ _ p fun o q=>k _ _ (.inl rfl) q,⟨o,k _ _ (.inl rfl) e⟩,st⟩
theorem HOk.lt (x:HOk P w H h)(e:H a=some o):a < h.objs.size:=(x a o e).lt
theorem HOk.fresh (x:HOk P w H h)(e:h.objs.size<=a):H a=none:=by
 cases q:H a with
 | none=>rfl
 | some u=>exact absurd (Nat.lt_of_lt_of_le (x.lt q) e) (Nat.lt_irrefl _)
theorem HOk.kept (x:HOk P w H h)(k:∀ b u,h.get? b=some u->h'.get? b=some u):HOk P w H h':=fun a o e =>
 (x a o e).stay (fun b u _ q=>k b u q) (fun _ q=>q) fun _ _ q=>q
theorem HOk.laid (x:HOk P w H h)(k:∀ b u,h.get? b=some u->h'.get? b=some u)(hp:h.objs.size<=a)(new:ObjOk P w (upd H a o) h' a o):HOk P w (upd H a o) h':=fun b u e=>by
 have hn:=x.fresh hp
 by_cases hb:b=a
 ·subst hb; rw [aA] at e; cases e; exact new
 ·rw [aJ hb] at e
  exact (x b u e).stay (fun c v _ q=>k c v q) (fun c q=>by rw [aJ (aQ q hn)]; exact q) fun c xs q=>by rw [aJ (aQ q hn)]; exact q
end
def Rd (H:Hp)(a:Addr)(u:HO):Prop:=H a=some u\/∃ o,H a=some (.frz o u)
theorem Rd.ok {P:Program}{w:World}{H:Hp}{h:Heap}{a:Addr}{u:HO}(r:Rd H a u)(x:HOk P w H h):ObjOk P w H h a u:=by
 rcases r with r | ⟨o,r⟩
 ·exact x a u r
 ·obtain ⟨_,q⟩:=x a _ r
  exact q
def Mut:Option HO->Prop
 | some (.lst _)=>True
 | some (.dK _)=>True
 | some (.dT _)=>True
 | some (.set _ _)=>True
 | some (.ins _ _ _)=>True
 | some (.ext _)=>True
 | _=>False
section
variable {P:Program}{w:World}{H:Hp}{h h':Heap}{x e:Addr}{o':HO}
theorem HOk.write (ok:HOk P w H h)(mu:Mut (H x))(he:e=x\/H e=some (.own x))(k:∀ b u,b≠e->h.get? b=some u->h'.get? b=some u)(heo:∃ u,h'.get? e=some u)(new:ObjOk P w (upd H x o') h' x o'):HOk P w (upd H x o') h':=fun b u q=>by
 have nown:∀ c y,H c=some (.own y)->c≠x:=fun c y r z=>by subst z; rw [r] at mu; exact mu
 have ntup:∀ c xs,H c=some (.tup xs)->c≠x:=fun c xs r z=>by subst z; rw [r] at mu; exact mu
 by_cases hb:b=x
 ·subst hb; rw [aA] at q; cases q; exact new
 ·rw [aJ hb] at q
  by_cases hbe:b=e
  ·have q':H b=some (.own x):=by
    rcases he with z | z
    ·exact absurd (hbe.trans z) hb
    ·rw [hbe]; exact z
   rw [q] at q'; cases q'
   obtain ⟨v,hv⟩:=heo
   exact ⟨v,by rw [hbe]; exact hv⟩
  ·refine (ok b u q).stay (fun c v hc r=>k c v ?_ r) (fun c r=>by rw [aJ (nown c b r)]; exact r) fun c xs r=>by rw [aJ (ntup c xs r)]; exact r
   rcases hc with rfl | hc
   ·exact hbe
   ·rintro rfl
    rcases he with z | z
    ·exact nown c b hc z
    ·rw [hc] at z; cases z; exact hb rfl
end
structure Un (fs ex:List Addr) (H H':Hp) (h h':Heap):Prop where
 keep:∀ b o,h.get? b=some o->H b=none->b ∉ fs->b ∉ ex->h'.get? b=some o
 slot:∀ b o,h.get? b=some o->H b=none->b∈fs->b ∉ ex->∃ sl,h'.get? b=some { o with slots:=sl }
 free:∀ b o,h.get? b=some o->H b=none->b ∉ ex->H' b=none
 there:∀ b o,h.get? b=some o->b ∉ ex->∃ o',h'.get? b=some o'
 tups:∀ b xs,H b=some (.tup xs)->H' b=some (.tup xs)
 frzs:∀ b o u,H b=some (.frz o u)->H' b=some (.frz o u)
 tbls:∀ b ps,H b=some (.tbl ps)->∃ more,H' b=some (.tbl (ps++more))
section
variable {fs fs' ex ex':List Addr}{H H1 H2:Hp}{h h1 h2 h':Heap}{a x e:Addr}{o:HO}
theorem Un.any (u:Un fs ex H H1 h h1){b:Addr}{ob:Obj}(q:h.get? b=some ob)(n:H b=none)(hx:b ∉ ex):∃ sl,h1.get? b=some { ob with slots:=sl }:=by
 by_cases hb:b∈fs
 ·exact u.slot b ob q n hb hx
 ·exact ⟨ob.slots,u.keep b ob q n hb hx⟩
theorem Un.kept (k:∀ b u,h.get? b=some u->h'.get? b=some u):Un fs ex H H h h' :=
 ⟨fun b ob q _ _ _=>k b ob q,fun b ob q _ _ _=>⟨ob.slots,k b ob q⟩,fun _ _ _ n _=>n,fun b ob q _=>⟨ob,k b ob q⟩,fun _ _ q=>q,fun _ _ _ q=>q,fun _ ps q=>⟨#[],by rw [q]; simp⟩⟩
theorem Un.refl:Un fs ex H H h h:=Un.kept fun _ _ q=>q
theorem Un.laid (k:∀ b u,h.get? b=some u->h'.get? b=some u)(hp:h.objs.size<=a)(hn:H a=none):Un fs ex H (upd H a o) h h' where
 keep:=fun b u q _ _ _=>k b u q
 slot:=fun b u q _ _ _=>⟨u.slots,k b u q⟩
 free:=fun b u q n _=>by rw [aJ (Nat.ne_of_lt (Nat.lt_of_lt_of_le (Heap.lt_size q) hp))]; exact n
 there:=fun b u q _=>⟨u,k b u q⟩
 tups:=fun b xs q=>by rw [aJ (aQ q hn)]; exact q
 frzs:=fun b u xs q=>by rw [aJ (aQ q hn)]; exact q
 tbls:=fun b ps q=>⟨#[],by rw [aJ (aQ q hn),q]; simp⟩
theorem Un.write (mu:Mut (H x))(he:e=x\/H e=some (.own x))(k:∀ b u,b≠e->h.get? b=some u->h'.get? b=some u)(heo:∃ u,h'.get? e=some u):Un fs ex H (upd H x o) h h':=by
 have hx:∀ b,H b=none->b≠x:=fun b n z=>by subst z; rw [n] at mu; exact mu
 have hb:∀ b,H b=none->b≠e:=fun b n z=>by
  subst z
  rcases he with r | r
  ·exact hx b n r
  ·rw [n] at r; cases r
 have hm:∀ b u,H b=some u->¬ Mut (some u)->b≠x:=fun b u q nm z=>by subst z; rw [q] at mu; exact nm mu
 refine ⟨fun b u q n _ _=>k b u (hb b n) q,fun b u q n _ _=>⟨u.slots,k b u (hb b n) q⟩,fun b u q n _=>by rw [aJ (hx b n)]; exact n,fun b u q _=>?_,
  fun b xs q=>by rw [aJ (hm b _ q fun z=>z)]; exact q,fun b u xs q=>by rw [aJ (hm b _ q fun z=>z)]; exact q,fun b ps q=>⟨#[],by rw [aJ (hm b _ q fun z=>z),q]; simp⟩⟩
 by_cases hbe:b=e
 ·subst hbe; exact heo
 ·exact ⟨u,k b u hbe q⟩
end
def trk (h:Heap)(H:Hp):List Addr:=(List.range h.objs.size).filter fun a=>(H a).isSome
def BE3 (h:Heap)(H:Hp):Heap:=hideAll h (trk h H)
theorem AS9 (h:Heap)(H:Hp):(BE3 h H).objs.size=h.objs.size:=hideAll_size _ _
theorem BE4 {h:Heap}{H:Hp}{b:Addr}{o:Obj}(e:h.get? b=some o)(n:H b=none):(BE3 h H).get? b=some o :=
 hideAll_get _ e fun hm=>by
  have q:(H b).isSome=true:=(List.mem_filter.mp hm).2
  rw [n] at q; simp at q
theorem BN4 {h:Heap}{H:Hp}{b:Addr}{o:Obj}(e:(BE3 h H).get? b=some o):h.get? b=some o/\H b=none:=by
 have e':h.get? b=some o:=of_hideAll (trk h H) e
 refine ⟨e',?_⟩
 cases q:H b with
 | none=>rfl
 | some x =>
  have hm:b∈trk h H:=List.mem_filter.mpr ⟨List.mem_range.mpr (Heap.lt_size e'),by simp [q]⟩
  have z:(BE3 h H).get? b=none:=hideAll_none (trk h H) hm
  rw [z] at e; cases e
structure Mod (K:Frag) (mg:Str->Option Value) (base:Heap):Prop where
 kin:K.In base
 glob:base.Ns mainGlobals mg
 blt:∃ mb,base.Ns builtinsNs mb/\∀ x:Str,x≠"__name__"->mb x=bootBuiltins x
 nolimit:base.NoLimit
structure Cx where
 prog:Program
 w:World
 K:Frag
 mg:Str->Option Value
 base:Heap
 A:Around
 N:List Str
 s₀:Shared
 H₀:Hp
 env:Env
 outer:List Env
 stack:List Env
 ex:List Addr
 fn:Str->Bool
 calm:Bool
 pn:List (Addr × Obj)
 xe:Value->Shared->Prop
def frs (l:List Env):List Addr:=l.filterMap (·.frame)
abbrev Cx.fs (X:Cx):List Addr:=frs X.outer
def Vis (sc:Scope)(x:Str):Prop:=sc.names.lookup x=some .local\/sc.names.lookup x=some .cell\/sc.names.lookup x=some .free
def Loc (sc:Scope)(x:Str):Prop:=sc.names.lookup x=some .local\/sc.names.lookup x=some .cell
def CK4 (env:Env)(h:Heap)(m:Str->Option Value)(x:Str)(u:Value):Prop :=
 (env.kindOf x=some .local/\m x=some u)\/((env.kindOf x=some .cell\/env.kindOf x=some .free)/\∃ c,env.cells.lookup x=some c/\h.IsCell c (some u))
structure Cx.Ok (X:Cx):Prop where
 mod:Mod X.K X.mg X.base
 kind:X.env.scope.kind=.function
 glob:X.env.globals=mainGlobals
 blt:X.env.builtins=builtinsNs
 above:X.s₀.heap.objs.size<=X.env.locals
 inj:∀ x y c,X.env.cells.lookup x=some c->X.env.cells.lookup y=some c->x=y
 has:∀ x,(X.env.kindOf x=some .cell\/X.env.kindOf x=some .free)->∃ c,X.env.cells.lookup x=some c
 cab:∀ x c,X.fn x=true->X.env.cells.lookup x=some c->X.s₀.heap.objs.size<=c
 hd:X.calm=true->X.A.handled=none
 frames:X.A.frames=some X.stack
 stk:X.stack=X.outer\/(X.stack=X.env::X.outer/\X.env.frame=some X.env.locals)
 exf:∀ b∈X.ex,b≠X.env.locals/\∀ x c,X.env.cells.lookup x=some c->c≠b
 bs:∀ b o,X.base.get? b=some o->X.s₀.heap.get? b=some o/\X.H₀ b=none
 bsz:X.base.objs.size<=X.s₀.heap.objs.size
 noex:∀ b o,X.base.get? b=some o->b ∉ X.ex
 exfs:∀ b∈X.ex,b ∉ X.fs
 funs:X.s₀.heap.FunFrames X.base X.outer
 frf:∀ b∈X.fs,X.H₀ b=none
structure Inv (X:Cx) (pins:List (Addr × Obj)) (σ:List (Option V)) (H:Hp) (s:Shared):Prop where
 ok:X.Ok
 os:s.os=X.s₀.os
 bare:AllBare s.gens
 base:Un X.fs X.ex X.H₀ H X.s₀.heap s.heap
 loc:∃ m,s.heap.Ns X.env.locals m/\∀ (i:Nat) (x:Str) (v:V),X.N[i]?=some x->σ[i]?=some (some v)->Vis X.env.scope x->∃ u,RelV v u/\CK4 X.env s.heap m x u
 cell:∀ x c,X.env.cells.lookup x=some c->∃ v,s.heap.IsCell c v
 free:H X.env.locals=none
 freeC:∀ x c,X.env.cells.lookup x=some c->H c=none
 pin:∀ p∈X.pn++pins,s.heap.get? p.1=some p.2/\H p.1=none/\p.1≠X.env.locals/\p.1 ∉ X.fs/\∀ v,p.2.data≠.cell v
 hok:HOk X.prog X.w H s.heap
 len:σ.length=X.N.length
section
variable {X:Cx}{pins:List (Addr × Obj)}{σ:List (Option V)}{H H':Hp}{s:Shared}{h':Heap}
theorem Cx.Ok.nofr (ok:X.Ok){b:Addr}{o:Obj}(e:X.base.get? b=some o):b ∉ X.fs:=fun hb=>by
 have:=(ok.funs.mem hb).1
 rw [e] at this; cases this
theorem Inv.bs (I:Inv X pins σ H s):∀ b o,X.base.get? b=some o->s.heap.get? b=some o/\H b=none:=fun b o e =>
 ⟨I.base.keep b o (I.ok.bs b o e).1 (I.ok.bs b o e).2 (I.ok.nofr e) (I.ok.noex b o e),I.base.free b o (I.ok.bs b o e).1 (I.ok.bs b o e).2 (I.ok.noex b o e)⟩
theorem Inv.bk (I:Inv X pins σ H s):∀ b o,X.base.get? b=some o->s.heap.get? b=some o:=fun b o e=>(I.bs b o e).1
theorem Inv.mod (I:Inv X pins σ H s):Mod X.K X.mg X.base:=I.ok.mod
theorem Inv.kIn (I:Inv X pins σ H s):X.K.In s.heap:=I.ok.mod.kin.keeps I.bk
theorem Inv.lt (I:Inv X pins σ H s):X.env.locals < s.heap.objs.size:=let ⟨_,hn,_⟩:=I.loc; hn.lt
theorem Inv.sz (I:Inv X pins σ H s):X.s₀.heap.objs.size<=s.heap.objs.size:=Nat.le_trans I.ok.above (Nat.le_of_lt I.lt)
theorem Inv.nofs (I:Inv X pins σ H s){a:Addr}(h:s.heap.objs.size<=a):a ∉ X.fs:=fun hb=>by
 obtain ⟨_,o,ho,_⟩:=I.ok.funs.mem hb
 exact absurd (Nat.lt_of_lt_of_le (Heap.lt_size ho) (Nat.le_trans I.sz h)) (Nat.lt_irrefl _)
theorem Inv.cne (I:Inv X pins σ H s):∀ x c,X.env.cells.lookup x=some c->c≠X.env.locals:=fun x c e z=>by
 obtain ⟨v,o,ho,hd⟩:=I.cell x c e
 obtain ⟨m,⟨o',es,ep,ho',hd',_⟩,_⟩:=I.loc
 rw [z,ho'] at ho; cases ho; rw [hd'] at hd; cases hd
theorem Inv.funs (I:Inv X pins σ H s):s.heap.FunFrames X.base X.outer:=by
 have all:∀ (l:List Env),(∀ b∈frs l,b∈X.fs)->X.s₀.heap.FunFrames X.base l->s.heap.FunFrames X.base l:=by
  intro l
  induction l with
  | nil=>intro _ _; trivial
  | cons env r ih =>
   intro hs hl
   obtain ⟨hk,⟨L,o,hf,hn,ho,hd⟩,hr⟩:=hl
   have hL:L∈X.fs:=hs L (by unfold frs; rw [List.filterMap_cons,hf]; exact List.mem_cons_self)
   obtain ⟨sl,e⟩:=I.base.slot L o ho (I.ok.frf L hL) hL fun z=>I.ok.exfs L z hL
   exact ⟨hk,⟨L,_,hf,hn,e,hd⟩,ih (fun b hb=>hs b (by unfold frs; rw [List.filterMap_cons,hf]; exact List.mem_cons_of_mem _ hb)) hr⟩
 exact all X.outer (fun _ hb=>hb) I.ok.funs
theorem Inv.stack (I:Inv X pins σ H s):s.heap.FunFrames X.base X.stack:=by
 rcases I.ok.stk with e | ⟨e,hf⟩
 ·rw [e]; exact I.funs
 ·rw [e]
  obtain ⟨m,hn,_⟩:=I.loc
  refine .cons (by rw [I.ok.kind]; decide) hf hn ?_ I.funs
  exact Heap.get?_none_of_le (Nat.le_trans I.ok.bsz I.ok.above)
theorem Inv.stkSub (I:Inv X pins σ H s):∀ b∈frs X.stack,b∈X.env.locals::X.fs:=fun b hb=>by
 rcases I.ok.stk with e | ⟨e,hf⟩
 ·rw [e] at hb; exact List.mem_cons_of_mem _ hb
 ·rw [e] at hb
  unfold frs at hb
  rw [List.filterMap_cons,hf] at hb
  exact hb
theorem Inv.stkFree (I:Inv X pins σ H s):∀ b∈frs X.stack,H b=none:=fun b hb=>by
 rcases List.mem_cons.mp (I.stkSub b hb) with e | hb
 ·rw [e]; exact I.free
 ·obtain ⟨_,o,ho,_⟩:=I.ok.funs.mem hb
  exact I.base.free b o ho (I.ok.frf b hb) fun z=>I.ok.exfs b z hb
theorem Inv.step {g':Array GenState}{t':Nat}{d':Drawn}{ch:List Addr}(I:Inv X pins σ H s)(hch:∀ b∈ch,(b∈X.ex\/X.s₀.heap.objs.size<=b)/\b≠X.env.locals/\(∀ x c,X.env.cells.lookup x=some c->c≠b)/\∀ p∈X.pn++pins,p.1≠b)(keep:∀ b o,b≠X.env.locals->b ∉ X.fs->b ∉ ch->s.heap.get? b=some o->H b=none->h'.get? b=some o)(slot:∀ b o,b≠X.env.locals->b∈X.fs->b ∉ ch->s.heap.get? b=some o->H b=none->∃ sl,h'.get? b=some { o with slots:=sl })(free:∀ b o,b ∉ ch->s.heap.get? b=some o->H b=none->H' b=none)(there:∀ b o,b ∉ ch->s.heap.get? b=some o->∃ o',h'.get? b=some o')(tups:∀ b xs,H b=some (.tup xs)->H' b=some (.tup xs))(frzs:∀ b o u,H b=some (.frz o u)->H' b=some (.frz o u))(tbls:∀ b ps,H b=some (.tbl ps)->∃ more,H' b=some (.tbl (ps++more)))(ns:∀ m,s.heap.Ns X.env.locals m->h'.Ns X.env.locals m)(hok:HOk X.prog X.w H' h')(hg:AllBare g') :
  Inv X pins σ H' { s with heap:=h',gens:=g',drawn:=d',toks:=t' }:=by
 have neL:∀ b o,X.s₀.heap.get? b=some o->b≠X.env.locals:=fun b o e=>Nat.ne_of_lt (Nat.lt_of_lt_of_le (Heap.lt_size e) I.ok.above)
 have neC:∀ b o,X.s₀.heap.get? b=some o->b ∉ X.ex->b ∉ ch:=fun b o e hx hb=>by
  rcases (hch b hb).1 with z | z
  ·exact hx z
  ·exact absurd (Nat.lt_of_lt_of_le (Heap.lt_size e) z) (Nat.lt_irrefl _)
 have cellK:∀ x c,X.env.cells.lookup x=some c->∀ v,s.heap.IsCell c v->h'.IsCell c v:=fun x c e v ⟨o,ho,hd⟩=>by
  have nch:c ∉ ch:=fun z=>(hch c z).2.2.1 x c e rfl
  by_cases hc:c∈X.fs
  ·obtain ⟨sl,q⟩:=slot c o (I.cne x c e) hc nch ho (I.freeC x c e)
   exact ⟨_,q,hd⟩
  ·exact ⟨o,keep c o (I.cne x c e) hc nch ho (I.freeC x c e),hd⟩
 refine ⟨I.ok,I.os,hg,⟨fun b o e n hb hx=>?_,fun b o e n hb hx=>?_,fun b o e n hx=>?_,fun b o e hx=>?_,fun b xs e=>tups b xs (I.base.tups b xs e),fun b o xs e=>frzs b o xs (I.base.frzs b o xs e),fun b ps e=>?_⟩,?_,fun x c e=>?_,?_,fun x c e=>?_,fun p hp=>?_,hok,I.len⟩
 ·exact keep b o (neL b o e) hb (neC b o e hx) (I.base.keep b o e n hb hx) (I.base.free b o e n hx)
 ·obtain ⟨sl,e1⟩:=I.base.slot b o e n hb hx
  obtain ⟨sl',e2⟩:=slot b _ (neL b o e) hb (neC b o e hx) e1 (I.base.free b o e n hx)
  exact ⟨sl',e2⟩
 ·obtain ⟨o',e1⟩:=I.base.there b o e hx
  exact free b o' (neC b o e hx) e1 (I.base.free b o e n hx)
 ·obtain ⟨o',e1⟩:=I.base.there b o e hx
  exact there b o' (neC b o e hx) e1
 ·obtain ⟨m1,e1⟩:=I.base.tbls b ps e
  obtain ⟨m2,e2⟩:=tbls b _ e1
  exact ⟨m1++m2,by rw [e2,Array.append_assoc]⟩
 ·obtain ⟨m,hn,hl⟩:=I.loc
  refine ⟨m,ns m hn,fun i x v e1 e2 e3=>?_⟩
  obtain ⟨u,r,l⟩:=hl i x v e1 e2 e3
  refine ⟨u,r,?_⟩
  rcases l with l | ⟨k,c,e,z⟩
  ·exact .inl l
  ·exact .inr ⟨k,c,e,cellK x c e _ z⟩
 ·obtain ⟨v,z⟩:=I.cell x c e
  exact ⟨v,cellK x c e v z⟩
 ·obtain ⟨m,⟨o,_,_,ho,_⟩,_⟩:=I.loc
  exact free _ o (fun z=>(hch _ z).2.1 rfl) ho I.free
 ·obtain ⟨v,o,ho,hd⟩:=I.cell x c e
  exact free c o (fun z=>(hch c z).2.2.1 x c e rfl) ho (I.freeC x c e)
 ·obtain ⟨e,n,ne,nf,d⟩:=I.pin p hp
  have nch:p.1 ∉ ch:=fun z=>(hch p.1 z).2.2.2 p hp rfl
  exact ⟨keep p.1 p.2 ne nf nch e n,free p.1 p.2 nch e n,ne,nf,d⟩
theorem Inv.un {t':Nat}(I:Inv X pins σ H s)(u:Un X.fs [] H H' s.heap h')(hok:HOk X.prog X.w H' h'):Inv X pins σ H' { s with heap:=h',toks:=t' }:=by
 obtain ⟨m,⟨o,es,ep,ho,r⟩,_⟩:=id I.loc
 obtain ⟨sl,hL⟩:=u.any ho I.free (by simp)
 exact I.step (g':=s.gens) (d':=s.drawn) (ch:=[]) (fun _ z=>nomatch z) (fun b o _ hb _ e n=>u.keep b o e n hb (by simp)) (fun b o _ hb _ e n=>u.slot b o e n hb (by simp)) (fun b o _ e n=>u.free b o e n (by simp)) (fun b o _ e=>u.there b o e (by simp)) u.tups u.frzs u.tbls (fun m' hm=>by
  obtain ⟨o',es',ep',ho',r'⟩:=hm
  rw [ho] at ho'; cases ho'
  exact ⟨_,es',ep',hL,r'⟩) hok I.bare
theorem Inv.call {g':Array GenState}{t':Nat}{d':Drawn}{ch:List Addr}(I:Inv X pins σ H s)(u:Un (frs X.stack) ch H H' s.heap h')(hok:HOk X.prog X.w H' h')(hg:AllBare g')(hch:∀ b∈ch,(b∈X.ex\/X.s₀.heap.objs.size<=b)/\b≠X.env.locals/\(∀ x c,X.env.cells.lookup x=some c->c≠b)/\∀ p∈X.pn++pins,p.1≠b) :
  Inv X pins σ H' { s with heap:=h',gens:=g',drawn:=d',toks:=t' }:=by
 obtain ⟨m,⟨o,es,ep,ho,r⟩,_⟩:=id I.loc
 obtain ⟨sl,hL⟩:=u.any ho I.free fun z=>(hch _ z).2.1 rfl
 exact I.step (ch:=ch) hch (fun b o hL hb hc e n=>u.keep b o e n (fun z=>(List.mem_cons.mp (I.stkSub b z)).elim hL hb) hc) (fun b o _ _ hc e n=>u.any e n hc) (fun b o hc e n=>u.free b o e n hc) (fun b o hc e=>u.there b o e hc) u.tups u.frzs u.tbls (fun m' hm=>by
  obtain ⟨o',es',ep',ho',r'⟩:=hm
  rw [ho] at ho'; cases ho'
  exact ⟨_,es',ep',hL,r'⟩) hok hg
theorem Inv.turned {t':Nat}{it:Addr}(I:Inv X pins σ H s)(k:∀ b o,b≠it->s.heap.get? b=some o->h'.get? b=some o)(hn:H it=none)(hL:it≠X.env.locals)(h1:it∈X.ex\/X.s₀.heap.objs.size<=it)(h2:∀ x c,X.env.cells.lookup x=some c->c≠it)(h3:∀ p∈X.pn++pins,p.1≠it):Inv X pins σ H { s with heap:=h',toks:=t' }:=by
 have nit:∀ b u,H b=some u->b≠it:=fun b u e z=>by rw [z,hn] at e; cases e
 refine I.step (g':=s.gens) (d':=s.drawn) (ch:=[it]) (fun b hb=>?_) (fun b o _ _ hc e _=>k b o (fun z=>hc (by simp [z])) e) (fun b o _ _ hc e _=>⟨o.slots,k b o (fun z=>hc (by simp [z])) e⟩) (fun _ _ _ _ n=>n)
  (fun b o hc e=>⟨o,k b o (fun z=>hc (by simp [z])) e⟩) (fun _ _ e=>e) (fun _ _ _ e=>e) (fun b ps e=>⟨#[],by rw [e]; simp⟩) (fun m hm=>?_) (fun b u e=>?_) I.bare
 ·have e:b=it:=by simpa using hb
  subst e
  exact ⟨h1,hL,h2,h3⟩
 ·obtain ⟨o,es,ep,ho,r⟩:=hm
  exact ⟨o,es,ep,k _ o (Ne.symm hL) ho,r⟩
 ·refine (I.hok b u e).stay (fun c v hc q=>k c v ?_ q) (fun _ q=>q) fun _ _ q=>q
  rcases hc with z | z
  ·rw [z]; exact nit b u e
  ·exact nit c _ z
theorem Inv.tok (I:Inv X pins σ H s)(t:Nat):Inv X pins σ H { s with toks:=t }:=I.un (h':=s.heap) (t':=t) Un.refl I.hok
theorem Inv.kept {t':Nat}(I:Inv X pins σ H s)(k:∀ b u,s.heap.get? b=some u->h'.get? b=some u):Inv X pins σ H { s with heap:=h',toks:=t' }:=I.un (Un.kept k) (I.hok.kept k)
theorem Inv.laid {a:Addr}{o:HO}{t':Nat}(I:Inv X pins σ H s)(k:∀ b u,s.heap.get? b=some u->h'.get? b=some u)(hp:s.heap.objs.size<=a)(new:ObjOk X.prog X.w (upd H a o) h' a o) :
  Inv X pins σ (upd H a o) { s with heap:=h',toks:=t' }:=I.un (Un.laid k hp (I.hok.fresh hp)) (I.hok.laid k hp new)
theorem Inv.write {x e:Addr}{o:HO}{t':Nat}(I:Inv X pins σ H s)(mu:Mut (H x))(he:e=x\/H e=some (.own x))(k:∀ b u,b≠e->s.heap.get? b=some u->h'.get? b=some u)(heo:∃ u,h'.get? e=some u)(new:ObjOk X.prog X.w (upd H x o) h' x o):Inv X pins σ (upd H x o) { s with heap:=h',toks:=t' }:=I.un (Un.write mu he k heo) (I.hok.write mu he k heo new)
theorem Inv.pins_of {pins':List (Addr × Obj)}(I:Inv X pins σ H s)(h:∀ p∈pins',s.heap.get? p.1=some p.2/\H p.1=none/\p.1≠X.env.locals/\p.1 ∉ X.fs/\∀ v,p.2.data≠.cell v):Inv X pins' σ H s :=
 ⟨I.ok,I.os,I.bare,I.base,I.loc,I.cell,I.free,I.freeC,fun p hp=>(List.mem_append.mp hp).elim (fun z=>I.pin p (List.mem_append_left _ z)) (h p),I.hok,I.len⟩
theorem yC {N:List Str}(hN:N.Nodup){i j:Nat}{x:Str}(a:N[i]?=some x)(b:N[j]?=some x):i=j:=by
 obtain ⟨h1,e1⟩:=List.getElem?_eq_some_iff.mp a
 obtain ⟨h2,e2⟩:=List.getElem?_eq_some_iff.mp b
 exact (List.getElem_inj hN).mp (e1.trans e2.symm)
theorem zX {M:Model}{A:Around}{E:Value->Shared->Prop}{i:Nat}{x:Str}{v:V}{u:Value}{Q:Unit->Shared->Prop}(I:Inv X pins σ H s)(hN:X.N.Nodup)(hi:X.N[i]?=some x)(hx:Loc X.env.scope x)(r:RelV v u)(h:∀ s',Inv X pins (σ.set i (some v)) H s'->(∃ a,Heap.SameBut a s.heap s'.heap/\(a=X.env.locals\/X.env.cells.lookup x=some a))->Q () s')(hf:X.fn x=true\/X.env.scope.names.lookup x=some .local:=by first | exact .inl rfl | exact .inr rfl | assumption):wpAny M A (storeName X.env x u) Q E s:=by
 obtain ⟨m,hn,hl⟩:=id I.loc
 have hcls:(X.env.scope.kind == .class || (X.env.scope.kind == .module && X.env.locals != X.env.globals))=false:=by rw [I.ok.kind]; rfl
 have hiσ:i < σ.length:=by rw [I.len]; exact (List.getElem?_eq_some_iff.mp hi).1
 have cne:=I.cne
 have tracked:∀ {a:Addr}{h':Heap},(∃ o,s.heap.get? a=some o/\H a=none)->Heap.SameBut a s.heap h'->HOk X.prog X.w H h':=fun {a h'} ha hs b ob e=>by
  obtain ⟨_,_,hfree⟩:=ha
  refine (I.hok b ob e).stay (fun c w' hc q=>(hs.2 c ?_).trans q) (fun _ q=>q) fun _ _ q=>q
  rintro rfl
  rcases hc with rfl | hc
  ·rw [hfree] at e; cases e
  ·rw [hfree] at hc; cases hc
 rcases hx with hk | hk
 ·refine wpAny_storeName_local hk hn (fun h' hn' hs=>?_) hcls
  obtain ⟨oL,_,_,hoL,_⟩:=id hn
  refine h _ ⟨I.ok,I.os,I.bare,⟨fun b o e n hb hx=>?_,fun b o e n hb hx=>?_,I.base.free,fun b o e hx=>?_,I.base.tups,I.base.frzs,I.base.tbls⟩,⟨_,hn',fun j y v' e1 e2 e3=>?_⟩,fun y c e=>?_,I.free,I.freeC,fun p hp=>?_,tracked ⟨oL,hoL,I.free⟩ hs,by simpa using I.len⟩ ⟨_,hs,.inl rfl⟩
  ·exact (hs.2 b (Nat.ne_of_lt (Nat.lt_of_lt_of_le (Heap.lt_size e) I.ok.above))).trans (I.base.keep b o e n hb hx)
  ·obtain ⟨sl,e1⟩:=I.base.slot b o e n hb hx
   exact ⟨sl,(hs.2 b (Nat.ne_of_lt (Nat.lt_of_lt_of_le (Heap.lt_size e) I.ok.above))).trans e1⟩
  ·obtain ⟨o',e1⟩:=I.base.there b o e hx
   exact ⟨o',(hs.2 b (Nat.ne_of_lt (Nat.lt_of_lt_of_le (Heap.lt_size e) I.ok.above))).trans e1⟩
  ·by_cases hj:j=i
   ·subst hj
    rw [hi] at e1; cases e1
    rw [List.getElem?_set_self hiσ] at e2
    cases e2
    exact ⟨u,r,.inl ⟨hk,by simp⟩⟩
   ·rw [List.getElem?_set_ne (Ne.symm hj)] at e2
    obtain ⟨u',r',q⟩:=hl j y v' e1 e2 e3
    refine ⟨u',r',?_⟩
    rcases q with ⟨k,e⟩ | ⟨k,c,e,z⟩
    ·refine .inl ⟨k,?_⟩
     have:y≠x:=fun e=>hj (yC hN e1 (e ▸ hi))
     simp [this,e]
    ·exact .inr ⟨k,c,e,z.sameBut hs (cne y c e)⟩
  ·obtain ⟨w',z⟩:=I.cell y c e
   exact ⟨w',z.sameBut hs (cne y c e)⟩
  ·obtain ⟨e,n,ne,nf,d⟩:=I.pin p hp
   exact ⟨(hs.2 p.1 ne).trans e,n,ne,nf,d⟩
 ·have hfn:X.fn x=true:=by
   rcases hf with z | z
   ·exact z
   ·rw [z] at hk; cases hk
  obtain ⟨c,hc⟩:=I.ok.has x (.inl hk)
  obtain ⟨w',z⟩:=I.cell x c hc
  refine wpAny_storeName_cell I.ok.kind hk hc z (fun h' hc' hs=>?_)
  obtain ⟨oc,hoc,hocd⟩:=id z
  refine h { s with heap:=h' } ⟨I.ok,I.os,I.bare,⟨fun b o e n hb hx=>?_,fun b o e n hb hx=>?_,I.base.free,fun b o e hx=>?_,I.base.tups,I.base.frzs,I.base.tbls⟩,⟨m,hn.sameBut hs (Ne.symm (cne x c hc)),fun j y v' e1 e2 e3=>?_⟩,fun y c' e=>?_,I.free,I.freeC,fun p hp=>?_,tracked ⟨oc,hoc,I.freeC x c hc⟩ hs,by simpa using I.len⟩ ⟨c,hs,.inr hc⟩
  ·exact (hs.2 b (Nat.ne_of_lt (Nat.lt_of_lt_of_le (Heap.lt_size e) (I.ok.cab x c hfn hc)))).trans (I.base.keep b o e n hb hx)
  ·obtain ⟨sl,e1⟩:=I.base.slot b o e n hb hx
   exact ⟨sl,(hs.2 b (Nat.ne_of_lt (Nat.lt_of_lt_of_le (Heap.lt_size e) (I.ok.cab x c hfn hc)))).trans e1⟩
  ·obtain ⟨o',e1⟩:=I.base.there b o e hx
   exact ⟨o',(hs.2 b (Nat.ne_of_lt (Nat.lt_of_lt_of_le (Heap.lt_size e) (I.ok.cab x c hfn hc)))).trans e1⟩
  ·by_cases hj:j=i
   ·subst hj
    rw [hi] at e1; cases e1
    rw [List.getElem?_set_self hiσ] at e2
    cases e2
    exact ⟨u,r,.inr ⟨.inl hk,c,hc,hc'⟩⟩
   ·rw [List.getElem?_set_ne (Ne.symm hj)] at e2
    obtain ⟨u',r',q⟩:=hl j y v' e1 e2 e3
    refine ⟨u',r',?_⟩
    rcases q with q | ⟨k,c',e,z'⟩
    ·exact .inl q
    ·refine .inr ⟨k,c',e,z'.sameBut hs ?_⟩
     rintro rfl
     exact hj (yC hN e1 (I.ok.inj _ _ _ e hc ▸ hi))
  ·by_cases hcc:c'=c
   ·subst hcc; exact ⟨_,hc'⟩
   ·obtain ⟨w2,z2⟩:=I.cell y c' e
    exact ⟨w2,z2.sameBut hs hcc⟩
  ·obtain ⟨e,n,ne,nf,d⟩:=I.pin p hp
   refine ⟨(hs.2 p.1 ?_).trans e,n,ne,nf,d⟩
   intro q
   rw [q,hoc] at e
   have q':oc=p.2:=Option.some.inj e
   exact d w' (by rw [<- q']; exact hocd)
theorem nC {M:Model}{A:Around}{E:Value->Shared->Prop}{i:Nat}{x:Str}{v:V}{u:Value}{Q:Unit->Shared->Prop}(I:Inv X pins σ H s)(hN:X.N.Nodup)(hi:X.N[i]?=some x)(hx:Loc X.env.scope x)(r:RelV v u)(h:∀ s',Inv X pins (σ.set i (some v)) H s'->Q () s')(hf:X.fn x=true\/X.env.scope.names.lookup x=some .local:=by first | exact .inl rfl | exact .inr rfl | assumption):wpAny M A (storeName X.env x u) Q E s :=
 zX I hN hi hx r (fun s' I' _=>h s' I') hf
theorem Inv.call' {s':Shared}{ch:List Addr}(I:Inv X pins σ H s)(ho:s'.os=s.os)(u:Un (frs X.stack) ch H H' s.heap s'.heap)(hok:HOk X.prog X.w H' s'.heap)(hg:AllBare s'.gens)(hch:∀ b∈ch,(b∈X.ex\/X.s₀.heap.objs.size<=b)/\b≠X.env.locals/\(∀ x c,X.env.cells.lookup x=some c->c≠b)/\∀ p∈X.pn++pins,p.1≠b):Inv X pins σ H' s':=by
 obtain ⟨h',g',d',t',o'⟩:=s'
 have e:o'=s.os:=ho
 subst e
 exact I.call (g':=g') (t':=t') (d':=d') u hok hg hch
end
abbrev XK:=Value->Option Addr->Hp->Prop
abbrev St:=List (Option V)
abbrev VK:=V->Hp->Prop
abbrev TE:=St->Hp->VK->Prop
abbrev TT:=St->Hp->(Bool->Hp->Prop)->Prop
abbrev TA:=St->Hp->(List V->Hp->Prop)->Prop
structure Ends where
 nx:St->Hp->Prop
 rt:VK
 bk:St->Hp->Prop:=fun _ _=>False
 ct:St->Hp->Prop:=fun _ _=>False
abbrev TS:=Ends->St->Hp->Prop
def EP (X:Cx)(pins:List (Addr × Obj))(σ:St)(Q:VK)(u:Value)(s':Shared):Prop:=∃ v H',Inv X pins σ H' s'/\RelV v u/\Q v H'
def TP (X:Cx)(pins:List (Addr × Obj))(σ:St)(Q:Bool->Hp->Prop)(b:Bool)(s':Shared):Prop:=∃ H',Inv X pins σ H' s'/\Q b H'
def AP (X:Cx)(pins:List (Addr × Obj))(σ:St)(Q:List V->Hp->Prop)(us:List Value)(s':Shared):Prop:=∃ vs H',Inv X pins σ H' s'/\Vals vs us/\Q vs H'
def SP (X:Cx)(pins:List (Addr × Obj))(D:Ends)(f:Flow)(s':Shared):Prop :=
 match f with
 | .next=>∃ σ' H',Inv X pins σ' H' s'/\D.nx σ' H'
 | .brk=>∃ σ' H',Inv X pins σ' H' s'/\D.bk σ' H'
 | .cont=>∃ σ' H',Inv X pins σ' H' s'/\D.ct σ' H'
 | .ret u=>∃ v σ' H',Inv X pins σ' H' s'/\RelV v u/\D.rt v H'
def PE (X:Cx)(e:Expr)(t:TE):Prop :=
 ∀ (pins:List (Addr × Obj)) (s:Shared) (σ:St) (H:Hp) (Q:VK),Inv X pins σ H s->t σ H Q->wpAny (model X.prog X.w) X.A (eval e X.env) (EP X pins σ Q) X.xe s
def PT (X:Cx)(e:Expr)(t:TT):Prop :=
 ∀ (pins:List (Addr × Obj)) (s:Shared) (σ:St) (H:Hp) (Q:Bool->Hp->Prop),Inv X pins σ H s->t σ H Q->wpAny (model X.prog X.w) X.A (isTrue e X.env (eval e X.env)) (TP X pins σ Q) X.xe s
def PW (X:Cx)(e:Expr)(t:TT):Prop :=
 ∀ (whole:Sem Value) (pins:List (Addr × Obj)) (s:Shared) (σ:St) (H:Hp) (Q:Bool->Hp->Prop),Inv X pins σ H s->t σ H Q->wpAny (model X.prog X.w) X.A (isTrue e X.env whole) (TP X pins σ Q) X.xe s
theorem PW.pt {X:Cx}{e:Expr}{t:TT}(h:PW X e t):PT X e t:=h _
def PA (X:Cx)(es:List Expr)(t:TA):Prop :=
 ∀ (pos:Pos) (pins:List (Addr × Obj)) (s:Shared) (σ:St) (H:Hp) (Q:List V->Hp->Prop),Inv X pins σ H s->t σ H Q->wpAny (model X.prog X.w) X.A (spliced (backTo pos (starEach es X.env))) (AP X pins σ Q) X.xe s
def PS (X:Cx)(st:Stmt)(t:TS):Prop :=
 ∀ (pins:List (Addr × Obj)) (s:Shared) (σ:St) (H:Hp) (D:Ends),Inv X pins σ H s->t D σ H->wpAny (model X.prog X.w) X.A (exec st X.env) (SP X pins D) X.xe s
def PSs (X:Cx)(st:List Stmt)(t:TS):Prop :=
 ∀ (pins:List (Addr × Obj)) (s:Shared) (σ:St) (H:Hp) (D:Ends),Inv X pins σ H s->t D σ H->wpAny (model X.prog X.w) X.A (execs st X.env) (SP X pins D) X.xe s
theorem thn {α:Type}{t:Sem α}{Q Q':α->Shared->Prop}{M:Model}{A:Around}{E:Value->Shared->Prop}{s:Shared}(h:wpAny M A t Q E s)(hQ:∀ a s,Q a s->Q' a s):wpAny M A t Q' E s:=wpAny_mono h hQ fun _ _ x=>x
section
variable {X:Cx}
def isV (o:Option (Option V))(k:V->Prop):Prop:=match o with | some (some v)=>k v | _=>False
theorem isV.ex {k:V->Prop}:∀ {o:Option (Option V)},isV o k->∃ v,o=some (some v)/\k v
 | some (some v),h=>⟨v,rfl,h⟩
 | some none,h=>h.elim
 | none,h=>h.elim
def isB (x:V)(k:Bool->Prop):Prop:=match x with | .bl c=>k c | _=>False
theorem isB.ex {k:Bool->Prop}{x:V}(h:isB x k):∃ c,x=.bl c/\k c:=by
 cases x <;> first | exact h.elim | exact ⟨_,rfl,h⟩
def isI (x:V)(k:Int->Prop):Prop:=match x with | .int c=>k c | _=>False
theorem isI.ex {k:Int->Prop}{x:V}(h:isI x k):∃ c,x=.int c/\k c:=by
 cases x <;> first | exact h.elim | exact ⟨_,rfl,h⟩
def isR (x:V)(k:Addr->Prop):Prop:=match x with | .ref c=>k c | _=>False
theorem isR.ex {k:Addr->Prop}{x:V}(h:isR x k):∃ c,x=.ref c/\k c:=by
 cases x <;> first | exact h.elim | exact ⟨_,rfl,h⟩
def isT (x:V)(k:Str->Prop):Prop:=match x with | .str c=>k c | _=>False
theorem isT.ex {k:Str->Prop}{x:V}(h:isT x k):∃ c,x=.str c/\k c:=by
 cases x <;> first | exact h.elim | exact ⟨_,rfl,h⟩
def isC (vs:List V)(k:V->List V->Prop):Prop:=match vs with | v::r=>k v r | []=>False
theorem isC.ex {k:V->List V->Prop}:∀ {vs:List V},isC vs k->∃ v r,vs=v::r/\k v r
 | _::_,h=>⟨_,_,rfl,h⟩
 | [],h=>h.elim
def isN (vs:List V)(p:Prop):Prop:=match vs with | []=>p | _=>False
theorem isN.ex {p:Prop}:∀ {vs:List V},isN vs p->vs=[]/\p
 | [],h=>⟨rfl,h⟩
 | _::_,h=>h.elim
def CC0 (i:Nat):TE:=fun σ H Q=>isV σ[i]? fun v=>Q v H
def tC (v:V):TE:=fun _ H Q=>Q v H
theorem BK0 {i:Nat}{x:Str}{pos:Pos}(hN:X.N[i]?=some x)(hv:Vis X.env.scope x)(hd:(x == ("__debug__":Str))=false:=by decide)(hcd:(x == ("__classdict__":Str))=false:=by decide):PE X (.Name x pos) (CC0 i):=by
 intro pins s σ H Q I h
 obtain ⟨v,e,h⟩:=isV.ex h
 obtain ⟨m,hn,hl⟩:=I.loc
 obtain ⟨u,r,l⟩:=hl i x v hN e hv
 have fin:EP X pins σ Q u s:=⟨v,H,I,r,h⟩
 rcases l with ⟨hk,hm⟩ | ⟨hk,c,hc,hcell⟩
 ·exact wpAny_Name (wpAny_loadName_local I.ok.kind hk hn hm fin) hd
 ·rcases hk with hk | hk
  ·exact wpAny_Name (wpAny_loadName_cell I.ok.kind hk hc hcell fin) hd
  ·exact wpAny_Name (wpAny_loadName_free I.ok.kind hk hc hcell fin hcd) hd
theorem aM {i j pos}:PE X (.Constant (.int i) j pos) (tC (.int i)):=fun _ _ _ H _ I h=>wpAny_Constant_int ⟨.int i,H,I.tok _,⟨_,rfl⟩,h⟩
theorem kC {b j pos}:PE X (.Constant (.bool b) j pos) (tC (.bl b)):=fun _ _ _ H _ I h=>Constant_bool ⟨.bl b,H,I,rfl,h⟩
theorem pK {j pos}:PE X (.Constant .none j pos) (tC .non):=fun _ _ _ H _ I h=>Constant_none ⟨.non,H,I,rfl,h⟩
theorem aN {x j pos}:PE X (.Constant (.str x) j pos) (tC (.str x)):=fun _ _ _ H _ I h=>Calls.Constant_str ⟨.str x,H,I.tok _,⟨_,rfl⟩,h⟩
def Gl (X:Cx)(x:Str):Prop:=X.env.kindOf x=some .globalImplicit
theorem iK {E:Value->Shared->Prop}{pins:List (Addr × Obj)}{s:Shared}{σ:St}{H:Hp}{x:Str}{u:Value}{pos:Pos}{Q:Value->Shared->Prop}(I:Inv X pins σ H s)(hg:Gl X x)(hm:X.mg x=some u)(h:Q u s)(hd:(x == ("__debug__":Str))=false:=by decide):wpAny (model X.prog X.w) X.A (eval (.Name x pos) X.env) Q E s :=
 Calls.Name_function_global I.ok.kind hg (Calls.loadGlobal_global (by rw [I.ok.glob]; exact I.mod.glob.keeps I.bk) hm h) hd
theorem AL7 {E:Value->Shared->Prop}{pins:List (Addr × Obj)}{s:Shared}{σ:St}{H:Hp}{x:Str}{u:Value}{pos:Pos}{Q:Value->Shared->Prop}(I:Inv X pins σ H s)(hg:Gl X x)(hm:X.mg x=none)(hv:bootBuiltins x=some u)(h:Q u s)(hn:x≠"__name__":=by decide)(hd:(x == ("__debug__":Str))=false:=by decide):wpAny (model X.prog X.w) X.A (eval (.Name x pos) X.env) Q E s:=by
 obtain ⟨mb,h1,h2⟩:=I.mod.blt
 exact Calls.Name_function_global I.ok.kind hg (Calls.loadGlobal_builtin (by rw [I.ok.glob]; exact I.mod.glob.keeps I.bk) hm (by rw [I.ok.blt]; exact h1.keeps I.bk) ((h2 x hn).trans hv) h) hd
theorem bF {x:Str}{v:V}{u:Value}{pos:Pos}(hg:Gl X x)(hm:X.mg x=some u)(r:RelV v u)(hd:(x == ("__debug__":Str))=false:=by decide):PE X (.Name x pos) (tC v) :=
 fun _ _ _ H _ I h=>iK I hg hm ⟨v,H,I,r,h⟩ hd
theorem fR {x:Str}{v:V}{u:Value}{pos:Pos}(hg:Gl X x)(hm:X.mg x=none)(hv:bootBuiltins x=some u)(r:RelV v u)(hn:x≠"__name__":=by decide)(hd:(x == ("__debug__":Str))=false:=by decide):PE X (.Name x pos) (tC v) :=
 fun _ _ _ H _ I h=>AL7 I hg hm hv ⟨v,H,I,r,h⟩ hn hd
variable {a b:Expr}{ta tb:TE}{pos:Pos}
def PC (X:Cx)(op:CmpOp)(a b:Expr)(t:TE):Prop :=
 ∀ (pins:List (Addr × Obj)) (s:Shared) (σ:St) (H:Hp) (Q:VK),Inv X pins σ H s->t σ H Q ->
  wpAny (model X.prog X.w) X.A (eval a X.env) (fun v s₁=>wpAny (model X.prog X.w) X.A (eval b X.env) (fun u s₂=>wpAny (model X.prog X.w) X.A (compareOp op v u) (EP X pins σ Q) X.xe s₂) X.xe s₁) X.xe s
theorem AL8 (b:Expr){op:CmpOp}(h:op≠.In)(h2:op≠.NotIn):behindInMarks op b=false:=by
 have e1:(op == CmpOp.In)=false:=by cases op <;> first | rfl | exact absurd rfl h
 have e2:(op == CmpOp.NotIn)=false:=by cases op <;> first | rfl | exact absurd rfl h2
 cases b <;> simp [behindInMarks,e1,e2]
def CH8 (ta:TE):TE:=fun σ H Q=>ta σ H fun x H1=>Q (.bl (decide (x=.non))) H1
def BV9 (ta:TE):TE:=fun σ H Q=>ta σ H fun x H1=>Q (.bl (!decide (x=.non))) H1
theorem RelV.none_iff {x:V}{v:Value}(r:RelV x v):(v == Value.none)=decide (x=.non):=by
 cases x with
 | non=>cases r; rfl
 | bl _=>cases r; rfl
 | int _=>obtain ⟨t,rfl⟩:=r; rfl
 | str _=>obtain ⟨t,rfl⟩:=r; rfl
 | byt _=>obtain ⟨t,rfl⟩:=r; rfl
 | flt _=>obtain ⟨t,rfl⟩:=r; rfl
 | ref _=>cases r; rfl
 | ty _=>cases r; rfl
theorem AT0 {j pos'}(ha:PE X a ta):PC X .Is a (.Constant .none j pos') (CH8 ta):=by
 intro pins s σ H Q I h
 refine thn (ha pins s σ H _ I h) fun v s1 ⟨x,H1,I1,r1,q1⟩=>?_
 exact Constant_none (is_none_gen ⟨.bl _,H1,I1,by rw [r1.none_iff]; rfl,q1⟩)
theorem kP {j pos'}(ha:PE X a ta):PC X .IsNot a (.Constant .none j pos') (BV9 ta):=by
 intro pins s σ H Q I h
 refine thn (ha pins s σ H _ I h) fun v s1 ⟨x,H1,I1,r1,q1⟩=>?_
 exact Constant_none (isnot_none_gen ⟨.bl _,H1,I1,by rw [r1.none_iff]; rfl,q1⟩)
def tB (t:TE):TT:=fun σ H Q=>t σ H fun x H1=>isB x fun c=>Q c H1
theorem BW0 {op:CmpOp}{t:TE}(h:PC X op a b t)(h1:behindInMarks op b=false:=by first | exact AL8 _ (by decide) (by decide) | rfl):PE X (.Compare a [op] [b] pos) t:=fun pins s σ H Q I hw=>wpAny_Compare1 (h pins s σ H Q I hw) h1
theorem mE {op:CmpOp}{t:TE}(h:PC X op a b t)(h1:behindInMarks op b=false:=by first | exact AL8 _ (by decide) (by decide) | rfl):PT X (.Compare a [op] [b] pos) (tB t):=by
 intro pins s σ H Q I hw
 refine wpAny_isTrue_Compare1 (thn (h pins s σ H _ I hw) fun v s1 h1=>thn h1 fun u s2 h2=>thn h2 fun c s3 ⟨x,H1,I1,r1,q1⟩=>?_) h1
 obtain ⟨d,rfl,q⟩:=isB.ex q1
 cases r1
 exact wpAny_truthy_bool ⟨H1,I1,q⟩
theorem bI {e:Expr}{t:TE}(h:PE X e t)(he:∀ whole,isTrue e X.env whole=(do let v <- whole; standAt e.pos; holding [v] (truthy v)):=by intro _; rfl):PT X e (tB t):=by
 intro pins s σ H Q I hw
 refine isTrue_plain (thn (h pins s σ H _ I hw) fun v s1 ⟨x,H1,I1,r1,q1⟩=>?_) (he _)
 obtain ⟨d,rfl,q⟩:=isB.ex q1
 cases r1
 exact wpAny_truthy_bool ⟨H1,I1,q⟩
variable {tA tB':TT}{rest:List Expr}
def CH9 (t u:TT):TT:=fun σ H Q=>t σ H fun c H1=>if c=true then u σ H1 Q else Q false H1
def tOr (t u:TT):TT:=fun σ H Q=>t σ H fun c H1=>if c=true then Q true H1 else u σ H1 Q
def CI0 (t:TT):TT:=fun σ H Q=>t σ H fun c H1=>Q (!c) H1
theorem qW (ha:PT X a tA):PW X (.BoolOp .And [a] pos) tA:=by
 intro wh pins s σ H Q I h
 refine isTrue_and (thn (ha pins s σ H Q I h) fun c s1 e=>?_)
 cases c with
 | true=>exact isTrue_and_nil e
 | false=>exact e
theorem eU (ha:PT X a tA):PW X (.BoolOp .Or [a] pos) tA:=by
 intro wh pins s σ H Q I h
 refine isTrue_or (thn (ha pins s σ H Q I h) fun c s1 e=>?_)
 cases c with
 | false=>exact isTrue_or_nil e
 | true=>exact e
theorem uH (ha:PT X a tA)(hb:PW X (.BoolOp .And (b::rest) pos) tB'):PW X (.BoolOp .And (a::b::rest) pos) (CH9 tA tB'):=by
 intro wh pins s σ H Q I h
 refine isTrue_and (thn (ha pins s σ H _ I h) fun c s1 ⟨H1,I1,q1⟩=>?_)
 cases c with
 | true=>exact hb wh pins s1 σ H1 Q I1 q1
 | false=>exact ⟨H1,I1,q1⟩
theorem gO (ha:PT X a tA)(hb:PW X (.BoolOp .Or (b::rest) pos) tB'):PW X (.BoolOp .Or (a::b::rest) pos) (tOr tA tB'):=by
 intro wh pins s σ H Q I h
 refine isTrue_or (thn (ha pins s σ H _ I h) fun c s1 ⟨H1,I1,q1⟩=>?_)
 cases c with
 | true=>exact ⟨H1,I1,q1⟩
 | false=>exact hb wh pins s1 σ H1 Q I1 q1
theorem cC (ha:PT X a tA):PT X (.UnaryOp .Not a pos) (CI0 tA):=by
 intro pins s σ H Q I h
 exact isTrue_not (ha pins s σ H (fun c H1=>Q (!c) H1) I h)
def BW1 (ta tb:TE):TE:=fun σ H Q=>ta σ H fun x H1=>isB x fun c=>if c=true then tb σ H1 Q else Q (.bl false) H1
def CI1 (ta tb:TE):TE:=fun σ H Q=>ta σ H fun x H1=>isB x fun c=>if c=true then Q (.bl true) H1 else tb σ H1 Q
def BW2 (ta:TE):TE:=fun σ H Q=>ta σ H fun x H1=>isB x fun c=>Q (.bl (!c)) H1
theorem pL {op}{t:TE}(h:PE X a t):PE X (.BoolOp op [a] pos) t:=fun pins s σ H Q I hw=>BoolOp_one (h pins s σ H Q I hw)
theorem nU (ha:PE X a ta)(hb:PE X (.BoolOp .And (b::rest) pos) tb):PE X (.BoolOp .And (a::b::rest) pos) (BW1 ta tb):=by
 intro pins s σ H Q I h
 refine BoolOp_and (thn (ha pins s σ H _ I h) fun v s1 ⟨x,H1,I1,r1,q1⟩=>?_)
 obtain ⟨c,rfl,q1⟩:=isB.ex q1
 cases r1
 refine wpAny_truthy_bool ?_
 cases c with
 | true=>exact hb pins s1 σ H1 Q I1 q1
 | false=>exact ⟨.bl false,H1,I1,rfl,q1⟩
theorem CC1 (ha:PE X a ta)(hb:PE X (.BoolOp .Or (b::rest) pos) tb):PE X (.BoolOp .Or (a::b::rest) pos) (CI1 ta tb):=by
 intro pins s σ H Q I h
 refine BoolOp_or (thn (ha pins s σ H _ I h) fun v s1 ⟨x,H1,I1,r1,q1⟩=>?_)
 obtain ⟨c,rfl,q1⟩:=isB.ex q1
 cases r1
 refine wpAny_truthy_bool ?_
 cases c with
 | false=>exact hb pins s1 σ H1 Q I1 q1
 | true=>exact ⟨.bl true,H1,I1,rfl,q1⟩
theorem AL9 (ha:PE X a ta):PE X (.UnaryOp .Not a pos) (BW2 ta):=by
 intro pins s σ H Q I h
 refine UnaryOp_ (thn (ha pins s σ H _ I h) fun v s1 ⟨x,H1,I1,r1,q1⟩=>?_)
 obtain ⟨c,rfl,q1⟩:=isB.ex q1
 cases r1
 exact not_of (wpAny_truthy_bool ⟨.bl (!c),H1,I1,rfl,q1⟩)
def tIf (t:TT)(ta tb:TE):TE:=fun σ H Q=>t σ H fun c H1=>if c=true then ta σ H1 Q else tb σ H1 Q
theorem uA {c:Expr}(hc:PT X c tA)(ha:PE X a ta)(hb:PE X b tb):PE X (.IfExp c a b pos) (tIf tA ta tb):=by
 intro pins s σ H Q I h
 refine wpAny_IfExp (thn (hc pins s σ H _ I h) fun d s1 ⟨H1,I1,q1⟩=>?_)
 cases d with
 | true=>exact ha pins s1 σ H1 Q I1 q1
 | false=>exact hb pins s1 σ H1 Q I1 q1
end
def SqL (K:Frag)(H:Hp)(a:Addr)(xs:List V):Prop :=
 Rd H a (.lst xs) \/
  ∃ (o:Obj) (its:Array Value) (n:Nat),K.lookup a=some o/\o.cls=.type "list"/\o.dict=none/\o.data=.seq its n/\its.size<=sizeLine/\Vals xs its.toList
def SqT (K:Frag)(H:Hp)(a:Addr)(xs:List V):Prop :=
 Rd H a (.tup xs) \/
  ∃ (o:Obj) (its:Array Value) (n:Nat),K.lookup a=some o/\o.cls=.type "tuple"/\o.data=.seq its n/\its.size<=sizeLine/\Vals xs its.toList
def CK5:Value->Option V
 | .none=>some .non
 | .bool b=>some (.bl b)
 | .int i _=>some (.int i)
 | .str x _=>some (.str x)
 | .bytes b _=>some (.byt b)
 | .float b _=>some (.flt b)
 | .ref a=>some (.ref a)
 | .type n=>some (.ty n)
 | _=>none
theorem RelV.abs {x:V}{u:Value}(r:RelV x u):CK5 u=some x:=by
 cases x with
 | non=>cases r; rfl
 | bl _=>cases r; rfl
 | int _=>obtain ⟨t,rfl⟩:=r; rfl
 | str _=>obtain ⟨t,rfl⟩:=r; rfl
 | byt _=>obtain ⟨t,rfl⟩:=r; rfl
 | flt _=>obtain ⟨t,rfl⟩:=r; rfl
 | ref _=>cases r; rfl
 | ty _=>cases r; rfl
theorem RelV.inj {x y:V}{u:Value}(r:RelV x u)(q:RelV y u):x=y:=Option.some.inj (r.abs.symm.trans q.abs)
theorem Vals.inj:∀ {xs ys:List V}{us:List Value},Vals xs us->Vals ys us->xs=ys
 | _,_,_,.nil,.nil=>rfl
 | _,_,_,.cons r t,.cons r' t'=>by rw [r.inj r',Vals.inj t t']
section
variable {X:Cx}{pins:List (Addr × Obj)}{σ:St}{H:Hp}{s:Shared}{a:Addr}{xs ys:List V}
theorem SqL.of {K:Frag}(h:H a=some (.lst xs)):SqL K H a xs:=.inl (.inl h)
theorem SqT.of {K:Frag}(h:H a=some (.tup xs)):SqT K H a xs:=.inl (.inl h)
theorem Inv.list (I:Inv X pins σ H s)(h:SqL X.K H a xs):∃ its:List Value,Vals xs its/\PlainL s.heap a its.toArray/\xs.length<=sizeLine:=by
 rcases h with h | ⟨o,its,n,hk,hc,hd,hs,hz,r⟩
 ·obtain ⟨z,its,n,r,e⟩:=h.ok I.hok
  exact ⟨its,r,⟨_,n,e,rfl,rfl,rfl⟩,z⟩
 ·refine ⟨its.toList,r,⟨o,n,I.kIn a o hk,hc,hd,by simpa using hs⟩,?_⟩
  have e:=r.length
  simp only [Array.length_toList] at e
  omega
theorem Inv.tuple (I:Inv X pins σ H s)(h:SqT X.K H a xs):∃ its:List Value,Vals xs its/\IsTup s.heap a its.toArray/\xs.length<=sizeLine:=by
 rcases h with h | ⟨o,its,n,hk,hc,hs,hz,r⟩
 ·obtain ⟨z,its,r,p⟩:=h.ok I.hok
  exact ⟨its,r,p,z⟩
 ·refine ⟨its.toList,r,⟨o,I.kIn a o hk,hc,n,by simpa using hs⟩,?_⟩
  have e:=r.length
  simp only [Array.length_toList] at e
  omega
theorem Inv.list_inj (I:Inv X pins σ H s)(h:SqL X.K H a xs)(h':SqL X.K H a ys):xs=ys:=by
 obtain ⟨its,r,⟨o,n,e,_,_,d⟩,_⟩:=I.list h
 obtain ⟨its',r',⟨o',n',e',_,_,d'⟩,_⟩:=I.list h'
 rw [e] at e'; cases e'
 rw [d] at d'
 injection d' with d1 _
 have:its=its':=by simpa using congrArg Array.toList d1
 subst this
 exact r.inj r'
theorem Inv.tuple_inj (I:Inv X pins σ H s)(h:SqT X.K H a xs)(h':SqT X.K H a ys):xs=ys:=by
 obtain ⟨its,r,⟨o,e,_,n,d⟩,_⟩:=I.tuple h
 obtain ⟨its',r',⟨o',e',_,n',d'⟩,_⟩:=I.tuple h'
 rw [e] at e'; cases e'
 rw [d] at d'
 injection d' with d1 _
 have:its=its':=by simpa using congrArg Array.toList d1
 subst this
 exact r.inj r'
end
abbrev Cx.wish (X:Cx)(E:Value->Shared->Prop):Cx:={ X with xe:=E }
abbrev Cx.nox (X:Cx):Cx:=X.wish fun _ _=>False
theorem Cx.Ok.wish {X:Cx}(ok:X.Ok)(E:Value->Shared->Prop):(X.wish E).Ok :=
 ⟨ok.mod,ok.kind,ok.glob,ok.blt,ok.above,ok.inj,ok.has,ok.cab,ok.hd,ok.frames,ok.stk,ok.exf,ok.bs,ok.bsz,ok.noex,ok.exfs,ok.funs,ok.frf⟩
theorem Cx.Ok.unwish {X:Cx}{E:Value->Shared->Prop}(ok:(X.wish E).Ok):X.Ok :=
 ⟨ok.mod,ok.kind,ok.glob,ok.blt,ok.above,ok.inj,ok.has,ok.cab,ok.hd,ok.frames,ok.stk,ok.exf,ok.bs,ok.bsz,ok.noex,ok.exfs,ok.funs,ok.frf⟩
section
variable {X:Cx}{pins:List (Addr × Obj)}{σ:St}{H:Hp}{s:Shared}{E:Value->Shared->Prop}
theorem Inv.wish (I:Inv X pins σ H s)(E:Value->Shared->Prop):Inv (X.wish E) pins σ H s:=⟨I.ok.wish E,I.os,I.bare,I.base,I.loc,I.cell,I.free,I.freeC,I.pin,I.hok,I.len⟩
theorem Inv.unwish (I:Inv (X.wish E) pins σ H s):Inv X pins σ H s:=⟨I.ok.unwish,I.os,I.bare,I.base,I.loc,I.cell,I.free,I.freeC,I.pin,I.hok,I.len⟩
theorem SP.unwish {D:Ends}{f:Flow}{s':Shared}(h:SP (X.wish E) pins D f s'):SP X pins D f s':=by
 cases f with
 | next=>obtain ⟨σ',H',I,q⟩:=h; exact ⟨σ',H',I.unwish,q⟩
 | brk=>obtain ⟨σ',H',I,q⟩:=h; exact ⟨σ',H',I.unwish,q⟩
 | cont=>obtain ⟨σ',H',I,q⟩:=h; exact ⟨σ',H',I.unwish,q⟩
 | ret u=>obtain ⟨v,σ',H',I,r,q⟩:=h; exact ⟨v,σ',H',I.unwish,r,q⟩
theorem PSs.nox {st:List Stmt}{t:TS}(h:PSs X.nox st t):PSs X st t:=fun pins s σ H D I hw =>
 wpAny_mono (h pins s σ H D (I.wish _) hw) (fun _ _ q=>q.unwish) fun _ _ z=>False.elim z
end
section
variable {X:Cx}{st:Stmt}{rest:List Stmt}{t u:TS}{e:Expr}{te:TE}{pos:Pos}
def BN5:TS:=fun D σ H=>D.nx σ H
def BW3 (t u:TS):TS:=fun D σ H=>t { D with nx:=u D } σ H
theorem BN6:PSs X [] BN5:=fun _ _ σ H _ I h=>wpAny_execs_nil ⟨σ,H,I,h⟩
theorem BE5 (h1:PS X st t)(h2:PSs X rest u):PSs X (st::rest) (BW3 t u):=by
 intro pins s σ H D I h
 refine wpAny_execs_cons (thn (h1 pins s σ H { D with nx:=u D } I h) fun f s1 q=>?_)
 cases f with
 | next =>
  obtain ⟨σ',H',I',q⟩:=q
  exact h2 pins s1 σ' H' D I' q
 | ret v=>exact q
 | brk=>exact q
 | cont=>exact q
theorem cJ (h1:PS X st t):PSs X [st] t:=by
 intro pins s σ H D I h
 refine wpAny_execs_cons (thn (h1 pins s σ H D I h) fun f s1 q=>?_)
 cases f with
 | next=>exact wpAny_execs_nil q
 | ret v=>exact q
 | brk=>exact q
 | cont=>exact q
theorem Inv.quiet {pins:List (Addr × Obj)}{σ:St}{H:Hp}{s:Shared}(I:Inv X pins σ H s):interactive X.env=false:=by simp [interactive,I.ok.kind]
def BW4 (te:TE):TS:=fun D σ H=>te σ H fun _ H1=>D.nx σ H1
theorem cD (he:PE X e te)(hs:swapsWith e none pos.line X.env=pure false:=by rfl):PS X (.Expr e pos) (BW4 te):=by
 intro pins s σ H D I h
 exact wpAny_Expr_any (thn (he pins s σ H _ I h) fun v s1 ⟨x,H1,I1,r1,q1⟩=>⟨σ,H1,I1,q1⟩) I.quiet hs
def CB3 (te:TE):TS:=fun D σ H=>te σ H D.rt
theorem BW5 (he:PE X e te):PS X (.Return (some e) pos) (CB3 te):=by
 intro pins s σ H D I h
 exact wpAny_Return_some (thn (he pins s σ H _ I h) fun v s1 ⟨x,H1,I1,r1,q1⟩=>⟨x,σ,H1,I1,r1,q1⟩)
def CC2 (c:TT)(t u:TS):TS:=fun D σ H=>c σ H fun b H1=>if b=true then t D σ H1 else u D σ H1
theorem CC3 {c:Expr}{a b:List Stmt}{tc:TT}(hc:PT X c tc)(ha:PSs X a t)(hb:PSs X b u):PS X (.If c a b pos) (CC2 tc t u):=by
 intro pins s σ H D I h
 refine wpAny_If (thn (hc pins s σ H _ I h) fun d s1 ⟨H1,I1,q1⟩=>?_)
 cases d with
 | true=>exact ha pins s1 σ H1 D I1 q1
 | false=>exact hb pins s1 σ H1 D I1 q1
def BK1:TS:=fun _ _ _=>False
theorem zY {sts:List Stmt}:PSs X sts BK1:=fun _ _ _ _ _ _ h=>h.elim
end
abbrev TG:=V->St->Hp->(St->Hp->Prop)->Prop
abbrev TGs:=List V->St->Hp->(St->Hp->Prop)->Prop
def PG (X:Cx)(target:Expr)(t:TG):Prop :=
 ∀ (pins:List (Addr × Obj)) (s:Shared) (σ:St) (H:Hp) (v:V) (u:Value) (Q:St->Hp->Prop),Inv X pins σ H s->RelV v u->t v σ H Q ->
  wpAny (model X.prog X.w) X.A (assign target X.env u) (fun _ s'=>∃ σ' H',Inv X pins σ' H' s'/\Q σ' H') X.xe s
def PGs (X:Cx)(ts:List Expr)(t:TGs):Prop :=
 ∀ (pins:List (Addr × Obj)) (s:Shared) (σ:St) (H:Hp) (vs:List V) (us:List Value) (Q:St->Hp->Prop),Inv X pins σ H s->Vals vs us->t vs σ H Q ->
  wpAny (model X.prog X.w) X.A (assignInOrder ((assignEach ts X.env).map (·.2)) us) (fun _ s'=>∃ σ' H',Inv X pins σ' H' s'/\Q σ' H') X.xe s
abbrev CB4:=V->V->V->Hp->(Hp->Prop)->Prop
def CI2 (X:Cx)(t:CB4):Prop :=
 ∀ (pins:List (Addr × Obj)) (s:Shared) (σ:St) (H:Hp) (o i v:V) (ov iv u:Value) (Q:Hp->Prop),Inv X pins σ H s->RelV o ov->RelV i iv->RelV v u->t o i v H Q ->
  wpAny (model X.prog X.w) X.A (setItem ov iv u) (fun _ s'=>∃ H',Inv X pins σ H' s'/\Q H') X.xe s
section
variable {X:Cx}{pos:Pos}
def zZ (i:Nat):TG:=fun v σ H Q=>Q (σ.set i (some v)) H
theorem bS {i:Nat}{x:Str}(hN:X.N.Nodup)(hi:X.N[i]?=some x)(hx:Loc X.env.scope x)(hf:X.fn x=true\/X.env.scope.names.lookup x=some .local:=by first | exact .inl rfl | exact .inr rfl | assumption):PG X (.Name x pos) (zZ i):=by
 intro pins s σ H v u Q I r h
 exact wpAny_assign_Name (nC I hN hi hx r (fun s' I'=>⟨_,H,I',h⟩) hf)
def CI3:TGs:=fun vs σ H Q=>isN vs (Q σ H)
def BW6 (t:TG)(u:TGs):TGs:=fun vs σ H Q=>isC vs fun v r=>t v σ H fun σ' H'=>u r σ' H' Q
theorem AG0:PGs X [] CI3:=by
 intro pins s σ H vs us Q I r h
 obtain ⟨e,h⟩:=isN.ex h
 subst e
 cases r
 exact assignInOrder_nil ⟨σ,H,I,h⟩
theorem dA {e:Expr}{es:List Expr}{t:TG}{u:TGs}(h1:PG X e t)(h2:PGs X es u)(hs:(assignEach (e::es) X.env).map (·.2)=assign e X.env::(assignEach es X.env).map (·.2):=by rfl):PGs X (e::es) (BW6 t u):=by
 intro pins s σ H vs us Q I r h
 obtain ⟨v,vr,e1,h⟩:=isC.ex h
 subst e1
 cases r with
 | cons r rr =>
  rw [hs]
  refine assignInOrder_cons (thn (h1 pins s σ H _ _ _ I r h) fun _ s1 ⟨σ1,H1,I1,q1⟩=>?_)
  exact h2 pins s1 σ1 H1 _ _ Q I1 rr q1
def CI4 (K:Frag)(n:Nat)(t:TGs):TG:=fun v σ H Q=>isR v fun a=>∃ xs,SqT K H a xs/\xs.length=n/\t xs σ H Q
theorem AT1 {es:List Expr}{k:Nat}{t:TGs}{n:Nat}(hc:X.calm=true)(h:PGs X es t)(hn:(assignEach es X.env).length=n:=by rfl)(hst:(assignEach es X.env).findIdx? (·.1)=none:=by rfl):PG X (.Tuple es k pos) (CI4 X.K n t):=by
 intro pins s σ H v u Q I r hw
 obtain ⟨a,e1,xs,hq,hl,hw2⟩:=isR.ex hw
 subst e1
 cases r
 obtain ⟨its,rv,ht,hz⟩:=I.tuple hq
 refine assign_Tuple_tuple (I.ok.hd hc) ht (by simp [hn,<- hl,rv.length]) hst fun h' hx=>?_
 have I1:Inv X pins σ H { s with heap:=h' }:=I.kept (t':=s.toks) fun b o e=>hx b o (Nat.ne_of_lt (Heap.lt_size e)) e
 exact h pins _ σ H xs _ Q I1 (by simpa using rv) hw2
def CI5 (to ti:TE)(t:CB4):TG:=fun v σ H Q=>to σ H fun o H1=>ti σ H1 fun i H2=>t o i v H2 fun H3=>Q σ H3
theorem BK2 {o i:Expr}{to ti:TE}{t:CB4}(ho:PE X o to)(hi:PE X i ti)(hs:CI2 X t)(ha:∀ v,assign (.Subscript o i pos) X.env v=(do
   let ov <- holding [v] (eval o X.env)
   let iv <- holding [v,ov] (eval i X.env)
   standAt pos
   holding [v,ov,iv] (setItem ov iv v)
   release [v,ov,iv] []):=by intro _; rfl):PG X (.Subscript o i pos) (CI5 to ti t):=by
 intro pins s σ H v u Q I r h
 rw [ha]
 refine wpAny_bind (wpAny_holding (thn (ho pins s σ H _ I h) fun ov s1 ⟨x,H1,I1,r1,q1⟩=>?_))
 refine wpAny_bind (wpAny_holding (thn (hi pins s1 σ H1 _ I1 q1) fun iv s2 ⟨y,H2,I2,r2,q2⟩=>?_))
 refine wpAny_bind (wpAny_standAt (wpAny_bind (wpAny_holding (thn (hs pins s2 σ H2 x y v ov iv u _ I2 r1 r2 r q2) fun _ s3 ⟨H3,I3,q3⟩=>?_))))
 exact wpAny_release ⟨σ,H3,I3,q3⟩
def BK3 (te:TE)(g:TG):TS:=fun D σ H=>te σ H fun x H1=>g x σ H1 D.nx
theorem AA0 {tg e:Expr}{te:TE}{g:TG}(he:PE X e te)(hg:PG X tg g)(hs:swapsWithSole [tg] e pos.line X.env=pure false:=by rfl)(hw:swappedStores [tg] e X.env=pure none:=by rfl)(h1:(assignEach [tg] X.env).map (·.2)=[assign tg X.env]:=by rfl):PS X (.Assign [tg] e pos) (BK3 te g):=by
 intro pins s σ H D I h
 refine wpAny_Assign_stores (thn (he pins s σ H _ I h) fun v s1 ⟨x,H1,I1,r1,q1⟩=>?_) hs hw
 rw [h1]
 exact thn (hg pins s1 σ H1 x v _ I1 r1 q1) fun _ s2 q=>q
theorem BW7 {i:Nat}{x:Str}{e:Expr}{te:TE}{pos':Pos}(hN:X.N.Nodup)(hi:X.N[i]?=some x)(hx:Loc X.env.scope x)(he:PE X e te)(hs:swapsWith e (some (.Name x pos')) pos.line X.env=pure false:=by rfl)(hf:X.fn x=true\/X.env.scope.names.lookup x=some .local:=by first | exact .inl rfl | exact .inr rfl | assumption) :
  PS X (.Assign [.Name x pos'] e pos) (BK3 te (zZ i)):=by
 intro pins s σ H D I h
 refine wpAny_Assign_Name (thn (he pins s σ H _ I h) fun v s1 ⟨y,H1,I1,r1,q1⟩=>?_) hs
 exact nC I1 hN hi hx r1 (fun s2 I2=>⟨_,H1,I2,q1⟩) hf
end
section
variable {X:Cx}{pos:Pos}
def BK4 (c:TT)(tb:TS):TS:=fun D σ H=>∃ W:Nat->St->Hp->Prop,(∃ m,W m σ H)/\∀ m σ H,W m σ H ->
 c σ H fun b H1=>if b=true then ∃ N:St->Hp->Prop,(∀ σ' H',N σ' H'->∃ m',m' < m/\W m' σ' H')/\tb { D with nx:=N,ct:=N,bk:=D.nx } σ H1 else D.nx σ H1
theorem uB {c:Expr}{body:List Stmt}{tc:TT}{tb:TS}(hp:PassesOwn (model X.prog X.w) X.A X.env X.xe)(hc:PT X c tc)(hb:PSs X body tb):PS X (.While c body [] pos) (BK4 tc tb):=by
 intro pins s σ H D I h
 obtain ⟨W,⟨m0,w0⟩,turn⟩:=h
 refine wpAny_While (codeAny_whileLoop (fun n s'=>∃ σ' H',Inv X pins σ' H' s'/\W n σ' H') ?_ m0 ⟨σ,H,I,w0⟩)
 rintro n s1 ⟨σ1,H1,I1,w1⟩
 refine wpAny_passesOwn hp (thn (hc pins s1 σ1 H1 _ I1 (turn n σ1 H1 w1)) fun b s2 ⟨H2,I2,q2⟩=>?_)
 cases b with
 | true =>
  obtain ⟨N,hN,q2⟩:=q2
  rw [if_pos rfl]
  refine wpAny_passesOwn hp (thn (hb pins s2 σ1 H2 _ I2 q2) fun f s3 q3=>?_)
  cases f with
  | next =>
   obtain ⟨σ3,H3,I3,n3⟩:=q3
   obtain ⟨m',hm,w3⟩:=hN σ3 H3 n3
   exact ⟨m',hm,σ3,H3,I3,w3⟩
  | cont =>
   obtain ⟨σ3,H3,I3,n3⟩:=q3
   obtain ⟨m',hm,w3⟩:=hN σ3 H3 n3
   exact ⟨m',hm,σ3,H3,I3,w3⟩
  | brk=>exact q3
  | ret v=>exact q3
 | false =>
  rw [if_neg Bool.false_ne_true]
  exact wpAny_execs_nil ⟨σ1,H2,I2,q2⟩
end
structure It where
 go:Nat->Hp->Prop
 yld:Nat->Hp->V->Hp->Prop
 stop:Nat->Hp->Prop
def BK5 (X:Cx)(pins:List (Addr × Obj))(H:Hp)(b:Addr):Prop :=
 H b=none/\b≠X.env.locals/\b ∉ X.fs/\(b∈X.ex\/X.s₀.heap.objs.size<=b)/\(∀ x c,X.env.cells.lookup x=some c->c≠b)/\∀ p∈X.pn++pins,p.1≠b
theorem Inv.fpOk {X:Cx}{pins:List (Addr × Obj)}{σ:St}{H H':Hp}{s:Shared}{b:Addr}(I:Inv X pins σ H s)(hb:s.heap.objs.size<=b)(hn:H' b=none):BK5 X pins H' b:=by
 refine ⟨hn,Nat.ne_of_gt (Nat.lt_of_lt_of_le I.lt hb),I.nofs hb,.inr (Nat.le_trans I.sz hb),fun x c e z=>?_,fun p hp z=>?_⟩
 ·obtain ⟨v,q⟩:=I.cell x c e
  exact absurd (Nat.lt_of_lt_of_le q.lt (by rw [z]; exact hb)) (Nat.lt_irrefl _)
 ·exact absurd (Nat.lt_of_lt_of_le (Heap.lt_size (I.pin p hp).1) (by rw [z]; exact hb)) (Nat.lt_irrefl _)
structure Turn (P:Program) (w:World) (K:Frag) (tg:Expr) (J:It) (fp:List Addr) (it:Addr) (tn:Nat->Heap->Prop):Prop where
 mem:it∈fp
 obj:∀ i h,tn i h->∀ b∈fp,∃ o,h.get? b=some o/\∀ v,o.data≠.cell v
 keep:∀ i h h',tn i h->(∀ b∈fp,∀ o,h.get? b=some o->h'.get? b=some o)->tn i h'
 item:∀ (X:Cx),X.prog=P->X.w=w->X.K=K->X.calm=true->∀ (i:Nat) (pins:List (Addr × Obj)) (s:Shared) (σ:St) (H:Hp) (E:Value->Shared->Prop),Inv X pins σ H s->(∀ b∈fp,BK5 X pins H b)->tn i s.heap->J.go i H ->
  wpAny (model P w) X.A (pyNext (.ref it)) (fun r s1=>∃ u,r=some u /\
   wpAny (model P w) X.A (letOwnedTupleGo tg (.ref it) u) (fun _ s2=>∃ x H',Inv X pins σ H' s2/\RelV x u/\J.yld i H x H'/\tn (i+1) s2.heap/\∀ b∈fp,H' b=none) E s1) E s
 done:∀ (X:Cx),X.prog=P->X.w=w->X.K=K->X.calm=true->∀ (i:Nat) (pins:List (Addr × Obj)) (s:Shared) (σ:St) (H:Hp) (E:Value->Shared->Prop),Inv X pins σ H s->(∀ b∈fp,BK5 X pins H b)->tn i s.heap->J.stop i H ->
  wpAny (model P w) X.A (pyNext (.ref it)) (fun r s1=>r=none/\Inv X pins σ H s1) E s
 self:∀ (A:Around) (i:Nat) (s:Shared) (Q:Value->Shared->Prop) (E:Value->Shared->Prop),tn i s.heap->Q (.ref it) s->wpAny (model P w) A (pyIter (.ref it)) Q E s
abbrev TI:=St->Hp->(It->Hp->Prop)->Prop
def PIE (X:Cx)(pins:List (Addr × Obj))(σ:St)(tg:Expr)(R:It->Hp->Prop)(itv:Value)(s2:Shared):Prop :=
 ∃ (it:Addr) (fp:List Addr) (tn:Nat->Heap->Prop) (J:It) (H':Hp),itv=.ref it/\Inv X pins σ H' s2/\Turn X.prog X.w X.K tg J fp it tn/\tn 0 s2.heap/\(∀ b∈fp,BK5 X pins H' b)/\R J H'
def PI (X:Cx)(tg iter:Expr)(wi:TI):Prop :=
 ∀ (pins:List (Addr × Obj)) (s:Shared) (σ:St) (H:Hp) (R:It->Hp->Prop),Inv X pins σ H s->wi σ H R ->
  wpAny (model X.prog X.w) X.A (eval iter X.env) (fun v s1=>wpAny (model X.prog X.w) X.A (pyIter v) (PIE X pins σ tg R) X.xe s1) X.xe s
theorem BE6 {M:Model}{A:Around}{E:Value->Shared->Prop}{s:Shared}{tg:Expr}{it:Addr}{u:Value}{o:Obj}{n:String}{vs:Array Value}{Q:Unit->Shared->Prop}(ho:s.heap.get? it=some o)(hc:o.cls=.type n)(hd:o.data=.fields vs)(hn:["enumerate","zip","dict_itemiterator","dict_reverseitemiterator","odict_iterator","itertools.zip_longest","itertools.pairwise"].contains n=false)(hQ:Q () s):wpAny M A (letOwnedTupleGo tg (.ref it) u) Q E s:=by
  unfold letOwnedTupleGo
  cases tg <;> first
    | exact wpAny_pure hQ
    | (cases u <;> first
        | exact wpAny_pure hQ
        | (refine wpAny_bind (wpAny_load ho ?_)
           rw [hc,hd]
           show wpAny M A (if (["enumerate","zip","dict_itemiterator","dict_reverseitemiterator","odict_iterator","itertools.zip_longest","itertools.pairwise"].contains n && vs[0]? == some (rawInt _))=true then _ else _) Q E s
           rw [if_neg (by intro h; rw [hn,Bool.false_and] at h; cases h)]
           exact wpAny_pure hQ))
def Itl (K:Frag)(a:Addr):It :=
 ⟨fun i H=>∃ xs x,SqL K H a xs/\xs[i]?=some x,fun i H x H'=>H'=H/\∀ xs,SqL K H a xs->xs[i]?=some x,fun i H=>∃ xs,SqL K H a xs/\xs.length<=i⟩
def Itt (K:Frag)(a:Addr):It :=
 ⟨fun i H=>∃ xs x,SqT K H a xs/\xs[i]?=some x,fun i H x H'=>H'=H/\∀ xs,SqT K H a xs->xs[i]?=some x,fun i H=>∃ xs,SqT K H a xs/\xs.length<=i⟩
def Itr (lo:Int)(n:Nat):It:=⟨fun i _=>i < n,fun i H x H'=>H'=H/\x=.int (lo+i),fun i _=>n<=i⟩
theorem AT2 {P:Program}{w:World}{K:Frag}{tg:Expr}(a it:Addr):Turn P w K tg (Itl K a) [it] it (fun i h=>h.IsListIter it a i) where
 mem:=by simp
 obj:=fun i h st b hb=>by
  have e:b=it:=by simpa using hb
  subst e
  obtain ⟨o,e,c,d⟩:=st
  exact ⟨o,e,fun v z=>by rw [d] at z; cases z⟩
 keep:=fun i h h' st k=>st.at fun o e=>k it (by simp) o e
 item:=by
  intro X hP hw hK hc i pins s σ H E I hf st hg
  subst hP hw hK
  obtain ⟨xs,x,hq,hx⟩:=hg
  obtain ⟨its,rv,p,hz⟩:=I.list hq
  obtain ⟨u,hu,ru⟩:=rv.get hx
  obtain ⟨f0,f1,f2,f3,f4,f5⟩:=hf it (by simp)
  refine wpAny_pyNext_list_item st p.isList (x:=u) (by simpa using hu) fun h' st' sb=>?_
  have I1:Inv X pins σ H { s with heap:=h' }:=I.turned (t':=s.toks) (fun b o hb e=>(sb.2 b hb).trans e) f0 f1 f3 f4 f5
  obtain ⟨o,e,c,d⟩:=id st'
  exact ⟨u,rfl,BE6 (s:={ s with heap:=h' }) e c d (by decide) ⟨x,H,I1,ru,⟨rfl,fun ys hy=>by rw [I.list_inj hy hq]; exact hx⟩,st',fun b hb=>(hf b hb).1⟩⟩
 done:=by
  intro X hP hw hK hc i pins s σ H E I hf st hg
  subst hP hw hK
  obtain ⟨xs,hq,hx⟩:=hg
  obtain ⟨its,rv,p,hz⟩:=I.list hq
  obtain ⟨f0,f1,f2,f3,f4,f5⟩:=hf it (by simp)
  have hl:=rv.length
  exact wpAny_pyNext_list_end (I.ok.hd hc) st p.isList (by simp; omega) fun h' eb=>⟨rfl,I.turned (t':=s.toks) (fun b o hb e=>eb b o hb e) f0 f1 f3 f4 f5⟩
 self:=fun _ _ _ _ _ st h=>wpAny_pyIter_listiter st h
theorem AP1 {P:Program}{w:World}{K:Frag}{tg:Expr}(a it:Addr):Turn P w K tg (Itt K a) [it] it (fun i h=>h.IsTupleIter it a i) where
 mem:=by simp
 obj:=fun i h st b hb=>by
  have e:b=it:=by simpa using hb
  subst e
  obtain ⟨o,e,c,d⟩:=st
  exact ⟨o,e,fun v z=>by rw [d] at z; cases z⟩
 keep:=fun i h h' st k=>st.at fun o e=>k it (by simp) o e
 item:=by
  intro X hP hw hK hc i pins s σ H E I hf st hg
  subst hP hw hK
  obtain ⟨xs,x,hq,hx⟩:=hg
  obtain ⟨its,rv,p,hz⟩:=I.tuple hq
  obtain ⟨u,hu,ru⟩:=rv.get hx
  obtain ⟨f0,f1,f2,f3,f4,f5⟩:=hf it (by simp)
  refine wpAny_pyNext_tuple_item st (show s.heap.IsTuple a its.toArray from p) (x:=u) (by simpa using hu) fun h' st' sb=>?_
  have I1:Inv X pins σ H { s with heap:=h' }:=I.turned (t':=s.toks) (fun b o hb e=>(sb.2 b hb).trans e) f0 f1 f3 f4 f5
  obtain ⟨o,e,c,d⟩:=id st'
  exact ⟨u,rfl,BE6 (s:={ s with heap:=h' }) e c d (by decide) ⟨x,H,I1,ru,⟨rfl,fun ys hy=>by rw [I.tuple_inj hy hq]; exact hx⟩,st',fun b hb=>(hf b hb).1⟩⟩
 done:=by
  intro X hP hw hK hc i pins s σ H E I hf st hg
  subst hP hw hK
  obtain ⟨xs,hq,hx⟩:=hg
  obtain ⟨its,rv,p,hz⟩:=I.tuple hq
  obtain ⟨f0,f1,f2,f3,f4,f5⟩:=hf it (by simp)
  have hl:=rv.length
  exact wpAny_pyNext_tuple_end (I.ok.hd hc) st (show s.heap.IsTuple a its.toArray from p) (by simp; omega) fun h' eb=>⟨rfl,I.turned (t':=s.toks) (fun b o hb e=>eb b o hb e) f0 f1 f3 f4 f5⟩
 self:=fun _ _ _ _ _ st h=>wpAny_pyIter_tupleiter st h
theorem AP2 {P:Program}{w:World}{K:Frag}{tg:Expr}(it:Addr)(lo:Int)(n:Nat):Turn P w K tg (Itr lo n) [it] it (fun i h=>IsRangeIter h it (lo+(i:Nat) * 1) ((n:Int) - (i:Nat)) 1) where
 mem:=by simp
 obj:=fun i h st b hb=>by
  have e:b=it:=by simpa using hb
  subst e
  exact ⟨_,st,fun v z=>by
   have z':Data.fields _=Data.cell v:=z
   cases z'⟩
 keep:=fun i h h' st k=>k it (by simp) _ st
 item:=by
  intro X hP hw hK hc i pins s σ H E I hf st hg
  subst hP hw hK
  obtain ⟨f0,f1,f2,f3,f4,f5⟩:=hf it (by simp)
  have W:=Walks.range (prog:=X.prog) (w:=X.w) (I.ok.hd hc) it lo 1 n
  refine W.item i s _ _ hg st fun v h' tk hv st' kk=>?_
  obtain ⟨t,rfl⟩:=hv
  have I1:Inv X pins σ H { s with heap:=h',toks:=tk }:=I.turned (fun b o hb e=>kk b o (by simpa using hb) e) f0 f1 f3 f4 f5
  refine ⟨_,rfl,BE6 (s:={ s with heap:=h',toks:=tk }) (n:="range_iterator") st' rfl rfl (by decide) ⟨.int (lo+i),H,I1,⟨t,?_⟩,⟨rfl,rfl⟩,st',fun b hb=>(hf b hb).1⟩⟩
  rw [Int.mul_one]
 done:=by
  intro X hP hw hK hc i pins s σ H E I hf st hg
  subst hP hw hK
  obtain ⟨f0,f1,f2,f3,f4,f5⟩:=hf it (by simp)
  exact wpAny_pyNext_range_end (I.ok.hd hc) st (by have:n<=i:=hg; omega) fun h' eb=>⟨rfl,I.turned (t':=s.toks) (fun b o hb e=>eb b o hb e) f0 f1 f3 f4 f5⟩
 self:=fun _ _ _ _ _ st h=>wpAny_pyIter_rangeiter st h
section
variable {X:Cx}{tg:Expr}
def BN7 (K:Frag)(tl:TE):TI:=fun σ H R=>tl σ H fun x H1=>isR x fun a=>(∃ xs,SqL K H1 a xs)/\R (Itl K a) H1
def CC4 (K:Frag)(tl:TE):TI:=fun σ H R=>tl σ H fun x H1=>∃ a,x=.ref a/\(∃ xs,SqT K H1 a xs)/\R (Itt K a) H1
theorem oC {l:Expr}{tl:TE}(hl:PE X l tl):PI X tg l (BN7 X.K tl):=by
 intro pins s σ H R I h
 refine thn (hl pins s σ H _ I h) fun v s1 ⟨x,H1,I1,r1,q1⟩=>?_
 obtain ⟨a,e,⟨xs,hq⟩,q⟩:=isR.ex q1
 subst e
 cases r1
 obtain ⟨its,rv,p,hz⟩:=I1.list hq
 refine wpAny_pyIter_list p.isList ?_
 refine ⟨s1.heap.objs.size,[s1.heap.objs.size],_,_,H1,rfl,I1.kept (t':=s1.toks) fun b o e=>Heap.get?_push_of_some _ e,AT2 a _,⟨_,Heap.get?_push_size _ rfl,rfl,rfl⟩,fun b hb=>?_,q⟩
 have e:b=s1.heap.objs.size:=by simpa using hb
 subst e
 exact I1.fpOk (Nat.le_refl _) (I1.hok.fresh (Nat.le_refl _))
theorem AT3 {l:Expr}{tl:TE}(hl:PE X l tl):PI X tg l (CC4 X.K tl):=by
 intro pins s σ H R I h
 refine thn (hl pins s σ H _ I h) fun v s1 ⟨x,H1,I1,r1,q1⟩=>?_
 obtain ⟨a,e,⟨xs,hq⟩,q⟩:=q1
 subst e
 cases r1
 obtain ⟨its,rv,p,hz⟩:=I1.tuple hq
 refine wpAny_pyIter_tuple (show s1.heap.IsTuple a its.toArray from p) ?_
 refine ⟨s1.heap.objs.size,[s1.heap.objs.size],_,_,H1,rfl,I1.kept (t':=s1.toks) fun b o e=>Heap.get?_push_of_some _ e,AP1 a _,⟨_,Heap.get?_push_size _ rfl,rfl,rfl⟩,fun b hb=>?_,q⟩
 have e:b=s1.heap.objs.size:=by simpa using hb
 subst e
 exact I1.fpOk (Nat.le_refl _) (I1.hok.fresh (Nat.le_refl _))
theorem BE7 {pins:List (Addr × Obj)}{σ:St}{H:Hp}{s:Shared}{R:It->Hp->Prop}{E:Value->Shared->Prop}{lo hi:Int}{t u v:Tok}{tk:Nat}(I:Inv X pins σ H s)(h1:-(2 ^ 62)<=lo)(h2:lo < 2 ^ 62)(h3:-(2 ^ 62)<=hi)(h4:hi < 2 ^ 62)(q:R (Itr lo (hi - lo).toNat) H):wpAny (model X.prog X.w) X.A (pyIter (.ref s.heap.objs.size)) (PIE X pins σ tg R) E { s with heap:=s.heap.push { cls:=.type "range",data:=.fields #[.int lo t,.int hi u,.int 1 v] },toks:=tk }:=by
 refine wpAny_pyIter_range (IsRange.new ..) (small_one h1 h2 h3 h4) ?_
 have I1:Inv X pins σ H { s with heap:=s.heap.push { cls:=.type "range",data:=.fields #[.int lo t,.int hi u,.int 1 v] },toks:=tk }:=I.kept fun b o e=>Heap.get?_push_of_some _ e
 refine ⟨(s.heap.push { cls:=.type "range",data:=.fields #[.int lo t,.int hi u,.int 1 v] }).objs.size,[(s.heap.push { cls:=.type "range",data:=.fields #[.int lo t,.int hi u,.int 1 v] }).objs.size],_,_,H,rfl,
  I1.kept (t':=tk) fun b o e=>Heap.get?_push_of_some _ e,AP2 _ lo (hi - lo).toNat,?_,fun b hb=>?_,q⟩
 ·have e1:lo+((0:Nat):Int) * 1=lo:=by simp
  have e2:(((hi - lo).toNat:Nat):Int) - ((0:Nat):Int)=Builtin.Range.rangeSize lo hi 1:=by rw [rangeSize_one]; split <;> omega
  show IsRangeIter _ _ (lo+((0:Nat):Int) * 1) ((((hi - lo).toNat:Nat):Int) - ((0:Nat):Int)) 1
  rw [e1,e2]
  exact Heap.get?_push_size _ rfl
 ·have e:b=(s.heap.push { cls:=.type "range",data:=.fields #[.int lo t,.int hi u,.int 1 v] }).objs.size:=by simpa using hb
  subst e
  exact I1.fpOk (Nat.le_refl _) (I1.hok.fresh (Nat.le_refl _))
def BN8 (ta:TA):TI:=fun σ H R=>ta σ H fun vs H1=>∃ j:Int,vs=[.int j]/\-(2 ^ 62)<=j/\j < 2 ^ 62/\R (Itr 0 j.toNat) H1
theorem mF {a:Expr}{ta:TA}{p pos:Pos}(hg:Gl X "range")(hm:X.mg "range"=none)(ha:PA X [a] ta)(hs:starEach [a] X.env=[(false,eval a X.env)]:=by rfl):PI X tg (.Call (.Name "range" p) [a] [] pos) (BN8 ta):=by
 intro pins s σ H R I h
 refine Call_ (AL7 I hg hm boot_range (PyProof.Rows.callWith_type1 (thn (ha pos pins s σ H _ I h) fun us s1 ⟨vs,H1,I1,r1,q1⟩=>?_) hs rfl))
 obtain ⟨j,e,q1,q2,q⟩:=q1
 subst e
 cases r1 with
 | cons r rr =>
  cases rr
  obtain ⟨t,rfl⟩:=r
  exact call_range_1 (BE7 I1 (by omega) (by omega) q1 q2 (by simpa using q))
def CB5 (wi:TI)(g:TG)(tb:TS):TS:=fun D σ H=>wi σ H fun J H1=>∃ W:Nat->Nat->St->Hp->Prop,(∃ m,W 0 m σ H1)/\∀ i m σ H,W i m σ H ->
 (J.stop i H/\D.nx σ H)\/(J.go i H/\∃ N:St->Hp->Prop,(∀ σ' H',N σ' H'->∃ m',m' < m/\W (i+1) m' σ' H')/\∀ x H',J.yld i H x H'->g x σ H' fun σ2 H2=>tb { D with nx:=N,ct:=N,bk:=D.nx } σ2 H2)
def pM (fp:List Addr)(h:Heap):List (Addr × Obj):=fp.filterMap fun b=>(h.get? b).map fun o=>(b,o)
theorem nE {fp:List Addr}{h:Heap}{b:Addr}{o:Obj}(hb:b∈fp)(e:h.get? b=some o):(b,o)∈pM fp h:=List.mem_filterMap.mpr ⟨b,hb,by rw [e]; rfl⟩
theorem AA1 {fp:List Addr}{h:Heap}{p:Addr × Obj}(hp:p∈pM fp h):p.1∈fp/\h.get? p.1=some p.2:=by
 obtain ⟨b,hb,e⟩:=List.mem_filterMap.mp hp
 cases q:h.get? b with
 | none=>rw [q] at e; cases e
 | some o =>
  rw [q] at e
  have e':(b,o)=p:=Option.some.inj e
  subst e'
  exact ⟨hb,q⟩
theorem Inv.pinned {pins:List (Addr × Obj)}{σ:St}{H:Hp}{s:Shared}{fp:List Addr}(I:Inv X pins σ H s)(hf:∀ b∈fp,BK5 X pins H b)(ho:∀ b∈fp,∃ o,s.heap.get? b=some o/\∀ v,o.data≠.cell v):Inv X (pins++pM fp s.heap) σ H s :=
 I.pins_of fun p hp=>(List.mem_append.mp hp).elim (fun z=>I.pin p (List.mem_append_right _ z)) fun z=>by
  obtain ⟨hb,e⟩:=AA1 z
  obtain ⟨f0,f1,f2,_⟩:=hf p.1 hb
  obtain ⟨o,e',d⟩:=ho p.1 hb
  rw [e] at e'; cases e'
  exact ⟨e,f0,f1,f2,d⟩
theorem Inv.unpinned {pins pl:List (Addr × Obj)}{σ:St}{H:Hp}{s:Shared}(I:Inv X (pins++pl) σ H s):Inv X pins σ H s:=I.pins_of fun p hp=>I.pin p (List.mem_append_right _ (List.mem_append_left _ hp))
theorem AM0 {iter:Expr}{body:List Stmt}{wi:TI}{g:TG}{tb:TS}{pos:Pos}(hp:PassesOwn (model X.prog X.w) X.A X.env X.xe)(hc:X.calm=true)(hi:PI X tg iter wi)(hg:PG X tg g)(hb:PSs X body tb)(hs:∀ x,foldedSetIterable iter X.env x=pure x:=by intro _; rfl):PS X (.For tg iter body [] pos) (CB5 wi g tb):=by
 intro pins s σ H D I h
 refine wpAny_For (thn (hi pins s σ H _ I h) fun v s1 h1=>thn h1 fun itv s2 h2=>?_) hs
 obtain ⟨it,fp,tn,J,H2,e,I2,T,st2,f2,W,⟨m0,w0⟩,turn⟩:=h2
 subst e
 -- what stays true of the iterator's objects through the loop
 have stat:∀ {H':Hp},(∀ b∈fp,H' b=none)->∀ b∈fp,BK5 X pins H' b:=fun hn b hb=>⟨hn b hb,(f2 b hb).2⟩
 refine codeAny_forLoop_any (fun n s'=>∃ i σ' H',Inv X pins σ' H' s'/\tn i s'.heap/\(∀ b∈fp,H' b=none)/\W i n σ' H') ?_ m0 ⟨0,σ,H2,I2,st2,fun b hb=>(f2 b hb).1,w0⟩
 rintro n s3 ⟨i,σ3,H3,I3,st3,fr3,w3⟩
 rcases turn i n σ3 H3 w3 with ⟨stop,qn⟩ | ⟨go,N,hN,step⟩
 ·refine wpAny_passesOwn hp (thn (T.done X rfl rfl rfl hc i pins s3 σ3 H3 X.xe I3 (stat fr3) st3 stop) fun r s4 ⟨hr,I4⟩=>?_)
  subst hr
  exact wpAny_execs_nil ⟨σ3,H3,I4,qn⟩
 ·refine wpAny_passesOwn hp (thn (T.item X rfl rfl rfl hc i pins s3 σ3 H3 X.xe I3 (stat fr3) st3 go) fun r s4 ⟨u,hr,h4⟩=>?_)
  subst hr
  refine wpAny_passesOwn hp (thn h4 fun _ s5 ⟨x,H5,I5,r5,y5,st5,fr5⟩=>?_)
  have I5':=I5.pinned (stat fr5) (T.obj _ _ st5)
  refine wpAny_passesOwn hp (thn (hg _ s5 σ3 H5 x u _ I5' r5 (step x H5 y5)) fun _ s6 ⟨σ6,H6,I6,q6⟩=>?_)
  refine wpAny_passesOwn hp (thn (hb _ s6 σ6 H6 _ I6 q6) fun f s7 q7=>?_)
  have again:∀ {σ7:St}{H7:Hp},Inv X (pins++pM fp s5.heap) σ7 H7 s7->N σ7 H7->∃ m,m < n/\∃ i σ' H',Inv X pins σ' H' s7/\tn i s7.heap/\(∀ b∈fp,H' b=none)/\W i m σ' H':=fun {σ7 H7} I7 n7=>by
   obtain ⟨m',hm,w7⟩:=hN σ7 H7 n7
   refine ⟨m',hm,i+1,σ7,H7,I7.unpinned,T.keep _ _ _ st5 fun b hb o e=>(I7.pin (b,o) (List.mem_append_right _ (List.mem_append_right _ (nE hb e)))).1,fun b hb=>?_,w7⟩
   obtain ⟨o,e,d⟩:=T.obj _ _ st5 b hb
   exact (I7.pin (b,o) (List.mem_append_right _ (List.mem_append_right _ (nE hb e)))).2.1
  cases f with
  | next=>obtain ⟨σ7,H7,I7,n7⟩:=q7; exact again I7 n7
  | cont=>obtain ⟨σ7,H7,I7,n7⟩:=q7; exact again I7 n7
  | brk=>obtain ⟨σ7,H7,I7,q7⟩:=q7; exact ⟨σ7,H7,I7.unpinned,q7⟩
  | ret v=>obtain ⟨x7,σ7,H7,I7,r7,q7⟩:=q7; exact ⟨x7,σ7,H7,I7.unpinned,r7,q7⟩
end
theorem BE8 {K:Frag}{a:Addr}{xs:List V}{g:TG}{tb:TS}{D:Ends}{σ:St}{H:Hp}(Pv:Nat->St->Hp->Prop)(h0:Pv 0 σ H)(hl:∀ i σ H,i<=xs.length->Pv i σ H->SqL K H a xs)(hs:∀ i x σ H,xs[i]?=some x->Pv i σ H->g x σ H fun σ2 H2=>tb { D with nx:=Pv (i+1),ct:=Pv (i+1),bk:=D.nx } σ2 H2)(hd:∀ σ H,Pv xs.length σ H->D.nx σ H) :
  ∃ W:Nat->Nat->St->Hp->Prop,(∃ m,W 0 m σ H)/\∀ i m σ H,W i m σ H ->
   ((Itl K a).stop i H/\D.nx σ H)\/((Itl K a).go i H/\∃ N:St->Hp->Prop,(∀ σ' H',N σ' H'->∃ m',m' < m/\W (i+1) m' σ' H')/\∀ x H',(Itl K a).yld i H x H'->g x σ H' fun σ2 H2=>tb { D with nx:=N,ct:=N,bk:=D.nx } σ2 H2):=by
 refine ⟨fun i m σ H=>m=xs.length - i/\i<=xs.length/\Pv i σ H,⟨xs.length,by simp,Nat.zero_le _,h0⟩,?_⟩
 rintro i m σ H ⟨rfl,hi,p⟩
 have q:=hl i σ H hi p
 by_cases hlt:i < xs.length
 ·refine .inr ⟨⟨xs,xs[i],q,by simp [hlt]⟩,Pv (i+1),fun σ' H' p'=>⟨xs.length - (i+1),by omega,rfl,hlt,p'⟩,fun x H' y=>?_⟩
  obtain ⟨e,y⟩:=y
  subst e
  exact hs i x σ _ (y xs q) p
 ·have e:i=xs.length:=by omega
  subst e
  exact .inl ⟨⟨xs,q,Nat.le_refl _⟩,hd σ H p⟩
theorem AT4 {lo:Int}{n:Nat}{g:TG}{tb:TS}{D:Ends}{σ:St}{H:Hp}(Pv:Nat->St->Hp->Prop)(h0:Pv 0 σ H)(hs:∀ i σ H,i < n->Pv i σ H->g (.int (lo+i)) σ H fun σ2 H2=>tb { D with nx:=Pv (i+1),ct:=Pv (i+1),bk:=D.nx } σ2 H2)(hd:∀ σ H,Pv n σ H->D.nx σ H) :
  ∃ W:Nat->Nat->St->Hp->Prop,(∃ m,W 0 m σ H)/\∀ i m σ H,W i m σ H ->
   ((Itr lo n).stop i H/\D.nx σ H)\/((Itr lo n).go i H/\∃ N:St->Hp->Prop,(∀ σ' H',N σ' H'->∃ m',m' < m/\W (i+1) m' σ' H')/\∀ x H',(Itr lo n).yld i H x H'->g x σ H' fun σ2 H2=>tb { D with nx:=N,ct:=N,bk:=D.nx } σ2 H2):=by
 refine ⟨fun i m σ H=>m=n - i/\i<=n/\Pv i σ H,⟨n,by simp,Nat.zero_le _,h0⟩,?_⟩
 rintro i m σ H ⟨rfl,hi,p⟩
 by_cases hlt:i < n
 ·refine .inr ⟨hlt,Pv (i+1),fun σ' H' p'=>⟨n - (i+1),by omega,rfl,hlt,p'⟩,fun x H' y=>?_⟩
  obtain ⟨e,y⟩:=y
  subst e y
  exact hs i σ _ hlt p
 ·have e:i=n:=by omega
  subst e
  exact .inl ⟨Nat.le_refl _,hd σ H p⟩
abbrev R2:=V->V->Hp->VK->Prop
def OpR (X:Cx)(f:Value->Value->Sem Value)(r:R2):Prop :=
 ∀ (pins:List (Addr × Obj)) (s:Shared) (σ:St) (H:Hp) (x y:V) (v u:Value) (Q:VK),Inv X pins σ H s->RelV x v->RelV y u->r x y H Q ->
  wpAny (model X.prog X.w) X.A (f v u) (EP X pins σ Q) X.xe s
def UnR (X:Cx)(f:Value->Sem Value)(r:V->Hp->VK->Prop):Prop :=
 ∀ (pins:List (Addr × Obj)) (s:Shared) (σ:St) (H:Hp) (x:V) (v:Value) (Q:VK),Inv X pins σ H s->RelV x v->r x H Q ->
  wpAny (model X.prog X.w) X.A (f v) (EP X pins σ Q) X.xe s
def kD (X:Cx)(f:Value)(r:List V->Hp->VK->Prop):Prop :=
 ∀ (pins:List (Addr × Obj)) (s:Shared) (σ:St) (H:Hp) (xs:List V) (us:List Value) (Q:VK),Inv X pins σ H s->Vals xs us->r xs H Q ->
  wpAny (model X.prog X.w) X.A (call f us) (EP X pins σ Q) X.xe s
def tOp (r:R2)(ta tb:TE):TE:=fun σ H Q=>ta σ H fun x H1=>tb σ H1 fun y H2=>r x y H2 Q
def tUn (r:V->Hp->VK->Prop)(ta:TE):TE:=fun σ H Q=>ta σ H fun x H1=>r x H1 Q
def rI (C:Int->Int->Prop)(g:Int->Int->V):R2:=fun x y H Q=>isI x fun i=>isI y fun j=>C i j/\Q (g i j) H
def rI0 (g:Int->Int->V):R2:=fun x y H Q=>isI x fun i=>isI y fun j=>Q (g i j) H
def rU (g:Int->V):V->Hp->VK->Prop:=fun x H Q=>isI x fun i=>Q (g i) H
section
variable {X:Cx}{a b c:Expr}{ta tb tc:TE}{pos:Pos}
theorem CC5 (ha:PE X a ta)(hb:PE X b tb){pins:List (Addr × Obj)}{s:Shared}{σ:St}{H:Hp}{R:V->V->Hp->Prop}(I:Inv X pins σ H s)(h:ta σ H fun x H1=>tb σ H1 fun y H2=>R x y H2){Q:Value->Shared->Prop}{f:Value->Value->Sem Value}(hf:∀ v u s2 x y H2,Inv X pins σ H2 s2->RelV x v->RelV y u->R x y H2->wpAny (model X.prog X.w) X.A (f v u) Q X.xe s2) :
  wpAny (model X.prog X.w) X.A (eval a X.env) (fun v s₁=>wpAny (model X.prog X.w) X.A (eval b X.env) (fun u s₂=>wpAny (model X.prog X.w) X.A (f v u) Q X.xe s₂) X.xe s₁) X.xe s:=by
 refine thn (ha pins s σ H _ I h) fun v s1 ⟨x,H1,I1,r1,q1⟩=>?_
 refine thn (hb pins s1 σ H1 _ I1 q1) fun u s2 ⟨y,H2,I2,r2,q2⟩=>?_
 exact hf v u s2 x y H2 I2 r1 r2 q2
theorem bO {op:Operator}{r:R2}(ho:OpR X (binaryOp op) r)(ha:PE X a ta)(hb:PE X b tb):PE X (.BinOp a op b pos) (tOp r ta tb):=by
 intro pins s σ H Q I h
 exact wpAny_BinOp (CC5 ha hb I h fun v u s2 x y H2 I2 rx ry q=>ho pins s2 σ H2 x y v u Q I2 rx ry q)
theorem CC6 {op:UnaryOp}{r:V->Hp->VK->Prop}(ho:UnR X (unaryOp op) r)(ha:PE X a ta):PE X (.UnaryOp op a pos) (tUn r ta):=by
 intro pins s σ H Q I h
 exact UnaryOp_ (thn (ha pins s σ H _ I h) fun v s1 ⟨x,H1,I1,r1,q1⟩=>ho pins s1 σ H1 x v Q I1 r1 q1)
theorem opI {f:Value->Value->Sem Value}{C:Int->Int->Prop}{g:Int->Int->Int}(rule:∀ (i j:Int) (t u:Tok) (s:Shared) (Q:Value->Shared->Prop) (E:Value->Shared->Prop),C i j->Q (.int (g i j) s.toks) { s with toks:=s.toks+1 }->wpAny (model X.prog X.w) X.A (f (.int i t) (.int j u)) Q E s) :
  OpR X f (rI C fun i j=>.int (g i j)):=by
 intro pins s σ H x y v u Q I rx ry h
 obtain ⟨i,rfl,h2⟩:=isI.ex h
 obtain ⟨j,rfl,hc,q⟩:=isI.ex h2
 obtain ⟨t,rfl⟩:=rx
 obtain ⟨t',rfl⟩:=ry
 exact rule i j t t' s _ _ hc ⟨.int (g i j),H,I.tok _,⟨_,rfl⟩,q⟩
theorem CI6 {f:Value->Value->Sem Value}{g:Int->Int->Int}(rule:∀ (i j:Int) (t u:Tok) (s:Shared) (Q:Value->Shared->Prop) (E:Value->Shared->Prop),Q (.int (g i j) s.toks) { s with toks:=s.toks+1 }->wpAny (model X.prog X.w) X.A (f (.int i t) (.int j u)) Q E s) :
  OpR X f (rI0 fun i j=>.int (g i j)):=by
 intro pins s σ H x y v u Q I rx ry h
 obtain ⟨i,rfl,h2⟩:=isI.ex h
 obtain ⟨j,rfl,q⟩:=isI.ex h2
 obtain ⟨t,rfl⟩:=rx
 obtain ⟨t',rfl⟩:=ry
 exact rule i j t t' s _ _ ⟨.int (g i j),H,I.tok _,⟨_,rfl⟩,q⟩
theorem CC7 {f:Value->Value->Sem Value}{g:Int->Int->Bool}(rule:∀ (i j:Int) (t u:Tok) (s:Shared) (Q:Value->Shared->Prop) (E:Value->Shared->Prop),Q (.bool (g i j)) s->wpAny (model X.prog X.w) X.A (f (.int i t) (.int j u)) Q E s) :
  OpR X f (rI0 fun i j=>.bl (g i j)):=by
 intro pins s σ H x y v u Q I rx ry h
 obtain ⟨i,rfl,h2⟩:=isI.ex h
 obtain ⟨j,rfl,q⟩:=isI.ex h2
 obtain ⟨t,rfl⟩:=rx
 obtain ⟨t',rfl⟩:=ry
 exact rule i j t t' s _ _ ⟨.bl (g i j),H,I,rfl,q⟩
def CK6 (i j:Int):Prop:=0<=j/\j<=1000000/\i.natAbs < 2 ^ 64
def CMul (i j:Int):Prop:=(-(2 ^ 64) < i/\i < 2 ^ 64)\/(-(2 ^ 64) < j/\j < 2 ^ 64)
theorem CMul.ok {i j:Int}(h:CMul i j):IntMulOk i j:=by
 rcases h with ⟨h1,h2⟩ | ⟨h1,h2⟩
 ·exact .of_left (intBits_le_64 h1 h2)
 ·exact .of_right (intBits_le_64 h1 h2)
theorem jI:OpR X (binaryOp .Add) (rI0 fun i j=>.int (i+j)):=CI6 fun _ _ _ _ _ _ _ q=>add_int q
theorem xD:OpR X (binaryOp .Sub) (rI0 fun i j=>.int (i - j)):=CI6 fun _ _ _ _ _ _ _ q=>sub_int q
theorem xE:OpR X (binaryOp .Mult) (rI CMul fun i j=>.int (i * j)):=opI fun _ _ _ _ _ _ _ hc q=>mul_int q hc.ok
theorem pN:OpR X (binaryOp .Mod) (rI (fun _ j=>0 < j) fun i j=>.int (i % j)):=opI fun i j _ _ _ _ _ hc q=>by
 have h1:(0:Int) < j:=hc
 exact mod_int' (by omega) (by rw [Int.fmod_eq_emod_of_nonneg i (by omega)]; exact q)
theorem BW8:OpR X (binaryOp .Pow) (rI CK6 fun i j=>.int (i ^ j.toNat)):=opI fun _ _ _ _ _ _ _ hc q=>pow_int_small hc.1 hc.2.1 hc.2.2 q
theorem unI {f:Value->Sem Value}{g:Int->Int}(rule:∀ (i:Int) (t:Tok) (s:Shared) (Q:Value->Shared->Prop) (E:Value->Shared->Prop),Q (.int (g i) s.toks) { s with toks:=s.toks+1 }->wpAny (model X.prog X.w) X.A (f (.int i t)) Q E s) :
  UnR X f (rU fun i=>.int (g i)):=by
 intro pins s σ H x v Q I rx h
 obtain ⟨i,rfl,q⟩:=isI.ex h
 obtain ⟨t,rfl⟩:=rx
 exact rule i t s _ _ ⟨.int (g i),H,I.tok _,⟨_,rfl⟩,q⟩
theorem BW9:UnR X (unaryOp .USub) (rU fun i=>.int (-i)):=unI fun _ _ _ _ _ q=>neg_int q
end
def BE9:V->V->Bool
 | .non,.non=>true | .non,.int _=>true | .int _,.non=>true | .non,.bl _=>true | .bl _,.non=>true | .non,.str _=>true | .str _,.non=>true
 | .int _,.int _=>true | .bl _,.bl _=>true | .str _,.str _=>true | .byt _,.byt _=>true
 | .int _,.str _=>true | .str _,.int _=>true | .bl _,.str _=>true | .str _,.bl _=>true
 | _,_=>false
def rEq:R2:=fun x y H Q=>BE9 x y=true/\Q (.bl (decide (x=y))) H
def rNe:R2:=fun x y H Q=>BE9 x y=true/\Q (.bl (!decide (x=y))) H
theorem AT5 {i j:Int}:decide (V.int i=V.int j)=(i == j):=by
 rw [Bool.eq_iff_iff]
 simp
theorem BK6 {i j:Bool}:decide (V.bl i=V.bl j)=(i == j):=by
 rw [Bool.eq_iff_iff]
 simp
theorem AT6 {i j:Str}:decide (V.str i=V.str j)=(i == j):=by
 rw [Bool.eq_iff_iff]
 simp
theorem AT7 {i j:Array UInt8}:decide (V.byt i=V.byt j)=(i.toList == j.toList):=by
 rw [Bool.eq_iff_iff]
 cases i
 cases j
 simp
section
variable {X:Cx}{a b c:Expr}{ta tb tc:TE}{pos:Pos}
theorem cP {pins:List (Addr × Obj)}{σ:St}{H:Hp}{s:Shared}{Q:VK}{k k':Bool}(I:Inv X pins σ H s)(q:Q (.bl k) H)(e:k=k'):EP X pins σ Q (.bool k') s:=by
 subst e
 exact ⟨.bl k,H,I,rfl,q⟩
theorem bZ:OpR X (compareOp .Eq) rEq:=by
 intro pins s σ H x y v u Q I rx ry h
 obtain ⟨hs,q⟩:=h
 cases x with
 | non =>
  cases rx
  cases y with
  | non=>cases ry; exact PySem.EqNone.eq_none_none (cP I q (by simp))
  | bl j=>cases ry; exact PySem.EqNone.eq_none_bool (cP I q (by simp))
  | int j=>obtain ⟨t',rfl⟩:=ry; exact PySem.EqNone.eq_none_int (cP I q (by simp))
  | str j=>obtain ⟨t',rfl⟩:=ry; exact PySem.EqNone.eq_none_str (cP I q (by simp))
  | _=>exact absurd (show false=true from hs) Bool.false_ne_true
 | bl i =>
  cases rx
  cases y with
  | non=>cases ry; exact PySem.EqNone.eq_bool_none (cP I q (by simp))
  | bl j=>cases ry; exact eq_bool (cP I q BK6)
  | str j=>obtain ⟨t',rfl⟩:=ry; exact PySem.EqMixed.eq_bool_str (cP I q (by simp))
  | _=>exact absurd (show false=true from hs) Bool.false_ne_true
 | int i =>
  obtain ⟨t,rfl⟩:=rx
  cases y with
  | non=>cases ry; exact PySem.EqNone.eq_int_none (cP I q (by simp))
  | int j=>obtain ⟨t',rfl⟩:=ry; exact eq_int (cP I q AT5)
  | str j=>obtain ⟨t',rfl⟩:=ry; exact PySem.EqMixed.eq_int_str (cP I q (by simp))
  | _=>exact absurd (show false=true from hs) Bool.false_ne_true
 | str i =>
  obtain ⟨t,rfl⟩:=rx
  cases y with
  | non=>cases ry; exact PySem.EqNone.eq_str_none (cP I q (by simp))
  | bl j=>cases ry; exact PySem.EqMixed.eq_str_bool (cP I q (by simp))
  | int j=>obtain ⟨t',rfl⟩:=ry; exact PySem.EqMixed.eq_str_int (cP I q (by simp))
  | str j=>obtain ⟨t',rfl⟩:=ry; exact eq_str (cP I q AT6)
  | _=>exact absurd (show false=true from hs) Bool.false_ne_true
 | byt i =>
  obtain ⟨t,rfl⟩:=rx
  cases y with
  | byt j=>obtain ⟨t',rfl⟩:=ry; exact eq_bytes (cP I q AT7)
  | _=>exact absurd (show false=true from hs) Bool.false_ne_true
 | _=>cases y <;> exact absurd (show false=true from hs) Bool.false_ne_true
theorem yD:OpR X (compareOp .NotEq) rNe:=by
 intro pins s σ H x y v u Q I rx ry h
 obtain ⟨hs,q⟩:=h
 cases x with
 | non =>
  cases rx
  cases y with
  | non=>cases ry; exact PySem.EqNone.ne_none_none (cP I q (by simp))
  | bl j=>cases ry; exact PySem.EqNone.ne_none_bool (cP I q (by simp))
  | int j=>obtain ⟨t',rfl⟩:=ry; exact PySem.EqNone.ne_none_int (cP I q (by simp))
  | str j=>obtain ⟨t',rfl⟩:=ry; exact PySem.EqNone.ne_none_str (cP I q (by simp))
  | _=>exact absurd (show false=true from hs) Bool.false_ne_true
 | bl i =>
  cases rx
  cases y with
  | non=>cases ry; exact PySem.EqNone.ne_bool_none (cP I q (by simp))
  | bl j=>cases ry; exact ne_bool (cP I q (congrArg not BK6))
  | str j=>obtain ⟨t',rfl⟩:=ry; exact PySem.EqMixed.ne_bool_str (cP I q (by simp))
  | _=>exact absurd (show false=true from hs) Bool.false_ne_true
 | int i =>
  obtain ⟨t,rfl⟩:=rx
  cases y with
  | non=>cases ry; exact PySem.EqNone.ne_int_none (cP I q (by simp))
  | int j=>obtain ⟨t',rfl⟩:=ry; exact ne_int (cP I q (congrArg not AT5))
  | str j=>obtain ⟨t',rfl⟩:=ry; exact PySem.EqMixed.ne_int_str (cP I q (by simp))
  | _=>exact absurd (show false=true from hs) Bool.false_ne_true
 | str i =>
  obtain ⟨t,rfl⟩:=rx
  cases y with
  | non=>cases ry; exact PySem.EqNone.ne_str_none (cP I q (by simp))
  | bl j=>cases ry; exact PySem.EqMixed.ne_str_bool (cP I q (by simp))
  | int j=>obtain ⟨t',rfl⟩:=ry; exact PySem.EqMixed.ne_str_int (cP I q (by simp))
  | str j=>obtain ⟨t',rfl⟩:=ry; exact ne_str (cP I q (congrArg not AT6))
  | _=>exact absurd (show false=true from hs) Bool.false_ne_true
 | byt i =>
  obtain ⟨t,rfl⟩:=rx
  cases y with
  | byt j=>obtain ⟨t',rfl⟩:=ry; exact ne_bytes (cP I q (congrArg not AT7))
  | _=>exact absurd (show false=true from hs) Bool.false_ne_true
 | _=>cases y <;> exact absurd (show false=true from hs) Bool.false_ne_true
theorem AG1:OpR X (compareOp .Lt) (rI0 fun i j=>.bl (decide (i < j))):=CC7 fun _ _ _ _ _ _ _ q=>lt_int q
theorem BN9:OpR X (compareOp .LtE) (rI0 fun i j=>.bl (decide (i<=j))):=CC7 fun _ _ _ _ _ _ _ q=>le_int q
theorem yE:OpR X (compareOp .Gt) (rI0 fun i j=>.bl (decide (j < i))):=CC7 fun _ _ _ _ _ _ _ q=>gt_int q
theorem AA2:OpR X (compareOp .In) (fun x y H Q=>isT x fun i=>isT y fun j=>Q (.bl (!(Builtin.Str.occurrences j i 0 j.length 1).isEmpty)) H):=by
 intro pins s σ H x y v u Q I rx ry h
 obtain ⟨i,rfl,h2⟩:=isT.ex h
 obtain ⟨j,rfl,q⟩:=isT.ex h2
 obtain ⟨t,rfl⟩:=rx
 obtain ⟨t',rfl⟩:=ry
 exact in_str (cP I q rfl)
theorem aV (b:Expr){op:CmpOp}(h:op≠.In:=by decide)(h2:op≠.NotIn:=by decide):behindInMarks op b=false:=by
 have e1:(op == CmpOp.In)=false:=by cases op <;> first | rfl | exact absurd rfl h
 have e2:(op == CmpOp.NotIn)=false:=by cases op <;> first | rfl | exact absurd rfl h2
 cases b <;> simp [behindInMarks,e1,e2]
theorem cU {op:CmpOp}{r:R2}(ho:OpR X (compareOp op) r)(ha:PE X a ta)(hb:PE X b tb)(hm:behindInMarks op b=false):PE X (.Compare a [op] [b] pos) (tOp r ta tb):=by
 intro pins s σ H Q I h
 exact wpAny_Compare1 (CC5 ha hb I h fun v u s2 x y H2 I2 rx ry q=>ho pins s2 σ H2 x y v u Q I2 rx ry q) hm
def BX0 (t:TE):TT:=fun σ H Q=>t σ H fun x H'=>isB x fun k=>Q k H'
theorem aU {op:CmpOp}{r:R2}(ho:OpR X (compareOp op) r)(ha:PE X a ta)(hb:PE X b tb)(hm:behindInMarks op b=false):PT X (.Compare a [op] [b] pos) (BX0 (tOp r ta tb)):=by
 intro pins s σ H Q I h
 refine wpAny_isTrue_Compare1 (thn (ha pins s σ H _ I h) fun v s1 ⟨x,H1,I1,r1,q1⟩=>thn (hb pins s1 σ H1 _ I1 q1) fun u s2 ⟨y,H2,I2,r2,q2⟩ =>
  thn (ho pins s2 σ H2 x y v u _ I2 r1 r2 q2) fun c s3 ⟨z,H3,I3,r3,q3⟩=>?_) hm
 obtain ⟨k,e,q3⟩:=isB.ex q3
 subst e
 cases r3
 exact wpAny_truthy_bool ⟨H3,I3,q3⟩
theorem xF:(sizeLine:Nat) < 2 ^ 63:=by rw [sizeLine_eq]; decide
theorem bG:OpR X (binaryOp .Add) (fun x y H Q=>isT x fun i=>isT y fun j=>i.length+j.length<=sizeLine/\Q (.str (i++j)) H):=by
 intro pins s σ H x y v u Q I rx ry h
 obtain ⟨i,rfl,h2⟩:=isT.ex h
 obtain ⟨j,rfl,hz,q⟩:=isT.ex h2
 obtain ⟨t,rfl⟩:=rx
 obtain ⟨t',rfl⟩:=ry
 exact add_str (fun t' tk=>⟨.str (i++j),H,I.tok _,⟨_,rfl⟩,q⟩) hz
theorem wQ {x:V}{us:List Value}(r:Vals [x] us):∃ u,us=[u]/\RelV x u:=by
 cases r with
 | cons r1 r2=>cases r2; exact ⟨_,rfl,r1⟩
theorem AT8 {x y:V}{us:List Value}(r:Vals [x,y] us):∃ u w',us=[u,w']/\RelV x u/\RelV y w':=by
 cases r with
 | cons r1 r2 =>
  cases r2 with
  | cons r3 r4=>cases r4; exact ⟨_,_,rfl,r1,r3⟩
theorem uI:kD X (.type "int") (fun xs H Q=>(∃ i,xs=[.int i]/\Q (.int i) H)\/∃ k,xs=[.bl k]/\Q (.int (if k then 1 else 0)) H):=by
 intro pins s σ H xs us Q I r h
 rcases h with ⟨i,rfl,q⟩ | ⟨k,rfl,q⟩
 ·obtain ⟨u,rfl,t,rfl⟩:=wQ r
  exact call_int_int ⟨.int i,H,I,⟨_,rfl⟩,q⟩
 ·obtain ⟨u,rfl,r1⟩:=wQ r
  cases r1
  exact call_int_bool ⟨.int (if k then 1 else 0),H,I.tok _,⟨_,rfl⟩,q⟩
theorem cE:kD X (.type "str") (fun xs H Q=>∃ i,xs=[.int i]/\i.natAbs.log2 < 1920/\Q (.str (toString i)) H):=by
 intro pins s σ H xs us Q I r h
 obtain ⟨i,rfl,hz,q⟩:=h
 obtain ⟨u,rfl,t,rfl⟩:=wQ r
 exact PySem.P.str_of_int hz ⟨.str _,H,I.tok _,⟨_,rfl⟩,q⟩
end
structure ObjM (h:Heap) (x dx C:Addr) (mA:Str->Option Value):Prop where
 obj:h.get? x=some (instObj C dx)
 ns:h.Ns1 dx mA
 ne:dx≠x
theorem AA3 {h:Heap}{dx:Addr}{mA:Str->Option Value}(n:h.Ns1 dx mA):∃ od,h.get? dx=some od/\∀ name,lookIn name od=some (mA name):=by
 obtain ⟨o,es,ep,ho,hd,hk,_,hm⟩:=n
 refine ⟨o,ho,fun name=>?_⟩
 have e:=hm name
 unfold nsFind findBy at e
 rw [<- Array.find?_toList] at e
 unfold lookIn
 rw [hd]
 dsimp only
 split
 ·rename_i y q
  rw [q] at e
  exact congrArg some e
 ·rename_i q
  rw [q] at e
  have a:es.toList.any (·.refKey)=false:=by
   rw [List.any_eq_false]
   intro y hy
   obtain ⟨z,t,hkey⟩:=hk y (Array.mem_toList_iff.mp hy)
   simp [DictEntry.refKey,hkey]
  have a':¬ es.toList.any (·.refKey)=true:=by rw [a]; exact Bool.false_ne_true
  rw [if_neg a']
  exact congrArg some e
theorem ObjM.look {h:Heap}{x dx C:Addr}{mA:Str->Option Value}(I:ObjM h x dx C mA):∃ od,InstAt h x (instObj C dx) C (some od)/\∀ name,lookIn name od=some (mA name) :=
 let ⟨od,ho,hl⟩:=AA3 I.ns
 ⟨od,⟨I.obj,rfl,rfl,ho⟩,hl⟩
section
variable {prog:Program}{w:World}{A:Around}{E:Value->Shared->Prop}{s:Shared}{K:Frag}{x dx C f:Addr}{mA:Str->Option Value}{name:Str}{v:Value}
theorem BO0 {expr:Bool}{Q:Value->Shared->Prop}(X:K.In s.heap)(I:ObjM s.heap x dx C mA)(hg:plainGet K C name=true)(hh:hasDictIn K C=true)(ha:findIn K (.ref C) name=some none)(hv:mA name=some v)(hv':handedIn v=true)(h:Q v { s with toks:=s.toks+1 }) :
  wpAny (model prog w) A (getAttr (.ref x) name expr) Q E s:=by
 obtain ⟨od,J,hl⟩:=I.look
 exact get_value X J (plainGet_of hg).1 (findObj_own hh ha rfl (by rw [hl,hv])) hv' h
theorem BF0 {pl:Sem Bool}{Q:Value × List Value->Shared->Prop}(X:K.In s.heap)(I:ObjM s.heap x dx C mA)(hg:plainGet K C name=true)(hf:findIn K (.ref C) name=some (some (.ref f)))(ht:isFn K (.ref f)=true)(hv:mA name=none)(h:Q (.ref f,[.ref x]) s) :
  wpAny (model prog w) A (getMethod (.ref x) name pl) Q E s:=by
 obtain ⟨od,J,hl⟩:=I.look
 exact method_fn X J (plainGet_of hg).1 (plainGet_of hg).2 hf (beq_iff_eq.mp ht) (by show (lookIn name od).map (·.isSome)=some false; rw [hl,hv]; rfl) h
theorem BO1 {ns:List Str}{Q:Unit->Shared->Prop}(X:K.In s.heap)(I:ObjM s.heap x dx C mA)(hs:findIn K (.ref C) "__setattr__"=some (some (.builtin "object.__setattr__")))(hp:plainOver K C=true)(ht:takerIn K C name=some none)(hh:hasDictIn K C=true)(hw:PySem.Within mA ns)(hsz:ns.length<=sizeLine)(h:∀ h',ObjM h' x dx C (fun y=>if y=name then some v else mA y)->Heap.SameBut dx s.heap h'->Q () { s with heap:=h',toks:=s.toks+2 }) :
  wpAny (model prog w) A (setAttr (.ref x) name v) Q E s:=by
 obtain ⟨od,J,hl⟩:=I.look
 refine set_plain X J hs (osa_open (s:={ s with toks:=s.toks+1 }) (r:=none) X J hp ht fun b=>?_)
 obtain ⟨cd,hc,hd'⟩:=any_some hh
 have hx:s.heap.get? x=some ⟨.ref C,some dx,.plain,#[]⟩:=I.obj
 refine wpAny_bind (wpAny_pure (wpAny_bind (wpAny_bind (wpAny_loadPart hx (wpAny_bind (Looks.here (s:={ s with toks:=s.toks+1 }) (looks_clsIn X hc) ?_))))))
 rw [hd']
 refine wpAny_pure (a:=some dx) (wpAny_bind (wpAny_pure (wpAny_bind ?_)))
 refine wpAny_nsSet1 (s:={ s with toks:=s.toks+1 }) I.ns fun h' hn2 hs2=>?_
 obtain ⟨oD,esD,epD,hoD,hdD,hcD⟩:=hn2.count (PySem.Within.cons name v hw)
 refine wpAny_bind (wpAny_lookBehind hoD (by rw [hdD]; exact pastItsLine_dict (Nat.le_trans hcD (by rw [List.length_cons]; omega))) ?_)
 exact wpAny_pure (h _ ⟨(hs2.2 _ (Ne.symm I.ne)).trans I.obj,hn2,I.ne⟩ hs2)
theorem BF1 {R:Result->Shared->Prop}{vs:List Value}{kw:List (Str × Value)}(X:K.In s.heap)(hm:makesIn K C=true)(hi:findIn K (.ref C) "__init__"=some (some (.ref f)))(hf:typeIn K (.ref f)=some (.type "function"))(h:codeAny (model prog w) (A.under (.builtin "type.__call__" ⟨.ref C::vs,kw⟩)) (.call (.ref f) ⟨.ref (s.heap.objs.size+1)::vs,kw⟩) (InitBack (s.heap.objs.size+1) R)
   { s with heap:=(s.heap.push emptyDict).push (instObj C s.heap.objs.size) }) :
  codeAny (model prog w) A (.call (.ref C) ⟨vs,kw⟩) R s:=by
 obtain ⟨hh,g,d,t,os⟩:=s
 exact make_core (makes_of X hm) (looks_findIn X hi) (fun self=>bind_fn X self hf) (.inl rfl) h
theorem AT9 {R:Result->Shared->Prop}(X:K.In s.heap)(hm:makesIn K C=true)(hi:findIn K (.ref C) "__init__"=some (some (.builtin "object.__init__")))(hb:∀ self,Looks (model prog w) s.heap (bindSpecial (.builtin "object.__init__") self) (.builtin "object.__init__",[self]))(h:codeAny (model prog w) (A.under (.builtin "type.__call__" ⟨[.ref C],[]⟩)) (.call (.builtin "object.__init__") ⟨[.ref (s.heap.objs.size+1)],[]⟩) (InitBack (s.heap.objs.size+1) R)
   { s with heap:=(s.heap.push emptyDict).push (instObj C s.heap.objs.size) }) :
  codeAny (model prog w) A (.call (.ref C) ⟨[],[]⟩) R s:=by
 obtain ⟨hh,g,d,t,os⟩:=s
 exact make_core (makes_of X hm) (looks_findIn X hi) hb (.inr ⟨rfl,rfl⟩) h
end
def pO (f:Str)(v:V):List (Str × V)->List (Str × V)
 | []=>[(f,v)]
 | (g,x)::r=>if g=f then (g,v)::r else (g,x)::pO f v r
theorem uJ (f g:Str)(v:V):∀ fs:List (Str × V),(pO f v fs).lookup g=if g=f then some v else fs.lookup g
 | []=>by
  show List.lookup g [(f,v)]=_
  by_cases h:g=f
  ·have hb:(g == f)=true:=beq_iff_eq.mpr h
   simp only [List.lookup,hb,if_pos h]
  ·have hb:(g == f)=false:=beq_eq_false_iff_ne.mpr h
   simp only [List.lookup,hb,if_neg h]
 | (k,x)::r=>by
  have ih:=uJ f g v r
  rw [show pO f v ((k,x)::r)=(if k=f then (k,v)::r else (k,x)::pO f v r) from rfl]
  by_cases hk:k=f
  ·rw [if_pos hk]
   by_cases h:g=k
   ·have hb:(g == k)=true:=beq_iff_eq.mpr h
    simp only [List.lookup,hb,if_pos (h.trans hk)]
   ·have hb:(g == k)=false:=beq_eq_false_iff_ne.mpr h
    simp only [List.lookup,hb,if_neg (fun e:g=f=>h (e.trans hk.symm))]
  ·rw [if_neg hk]
   by_cases h:g=k
   ·have hb:(g == k)=true:=beq_iff_eq.mpr h
    simp only [List.lookup,hb,if_neg (fun e:g=f=>hk (h.symm.trans e))]
   ·have hb:(g == k)=false:=beq_eq_false_iff_ne.mpr h
    simp only [List.lookup,hb]
    exact ih
theorem uK (f:Str)(v:V):∀ fs:List (Str × V),f∈(pO f v fs).map (·.1)/\∀ g,g∈fs.map (·.1)->g∈(pO f v fs).map (·.1)
 | []=>⟨by simp [pO],fun g h=>by simp at h⟩
 | (k,x)::r=>by
  obtain ⟨i1,i2⟩:=uK f v r
  rw [show pO f v ((k,x)::r)=(if k=f then (k,v)::r else (k,x)::pO f v r) from rfl]
  by_cases hk:k=f
  ·rw [if_pos hk]
   subst hk
   exact ⟨by simp,fun g h=>by simpa using h⟩
  ·rw [if_neg hk]
   refine ⟨?_,fun g h=>?_⟩
   ·rw [List.map_cons]
    exact List.mem_cons_of_mem _ i1
   ·rw [List.map_cons] at h ⊢
    rcases List.mem_cons.mp h with e | e
    ·exact List.mem_cons.mpr (.inl e)
    ·exact List.mem_cons_of_mem _ (i2 g e)
theorem uL (f:Str)(v:V):∀ fs:List (Str × V),(pO f v fs).length<=fs.length+1
 | []=>by simp [pO]
 | (k,x)::r=>by
  have ih:=uL f v r
  rw [show pO f v ((k,x)::r)=(if k=f then (k,v)::r else (k,x)::pO f v r) from rfl]
  by_cases hk:k=f
  ·rw [if_pos hk,List.length_cons,List.length_cons]; omega
  ·rw [if_neg hk,List.length_cons,List.length_cons]; omega
theorem RelO.some_of {v:V}{o:Option Value}(r:RelO (some v) o):∃ u,o=some u/\RelV v u:=by
 cases o with
 | none=>exact (show False from r).elim
 | some u=>exact ⟨u,rfl,r⟩
theorem RelO.none_of {o:Option Value}(r:RelO none o):o=none:=by
 cases o with
 | none=>rfl
 | some u=>exact (show False from r).elim
theorem AA4 {v:V}{u:Value}(r:RelV v u):handedIn u=true:=by
 cases v with
 | non=>cases (show u=Value.none from r); rfl
 | bl b=>cases (show u=Value.bool b from r); rfl
 | int i=>obtain ⟨t,e⟩:=(show ∃ t,u=Value.int i t from r); cases e; rfl
 | str x=>obtain ⟨t,e⟩:=(show ∃ t,u=Value.str x t from r); cases e; rfl
 | byt b=>obtain ⟨t,e⟩:=(show ∃ t,u=Value.bytes b t from r); cases e; rfl
 | flt b=>obtain ⟨t,e⟩:=(show ∃ t,u=Value.float b t from r); cases e; rfl
 | ref a=>cases (show u=Value.ref a from r); rfl
 | ty n=>cases (show u=Value.type n from r); rfl
section
variable {P:Program}{w:World}{H H':Hp}{h h':Heap}{a C dx:Addr}{fs fs':List (Str × V)}
theorem uM (hok:HOk P w H h)(e:H a=some (.ins C dx fs)):∃ mA,ObjM h a dx C mA/\(∀ f,RelO (fs.lookup f) (mA f))/\PySem.Within mA (fs.map (·.1))/\fs.length<=1000/\H dx=some (.own a):=by
 obtain ⟨d,z,ne,ob,mA,n,r,q⟩:=(show ObjOk P w H h a (.ins C dx fs) from hok a _ e)
 exact ⟨mA,⟨ob,n,ne⟩,r,q,z,d⟩
end
structure Cls (K:Frag) (C:Addr):Prop where
 pg:plainGet K C Str.empty=true
 hd:hasDictIn K C=true
 po:plainOver K C=true
 sa:findIn K (.ref C) "__setattr__"=some (some (.builtin "object.__setattr__"))
theorem Cls.get {K:Frag}{C:Addr}(c:Cls K C)(f:Str):plainGet K C f=true:=c.pg
def NoAttr (K:Frag)(C:Addr)(f:Str):Prop:=findIn K (.ref C) f=some none
theorem NoAttr.taker {K:Frag}{C:Addr}{f:Str}(n:NoAttr K C f):takerIn K C f=some none:=by
 unfold takerIn
 rw [show findIn K (.ref C) f=some none from n]
 rfl
structure Con (K:Frag) (C:Addr) (f:Str) (v:V) (u:Value):Prop where
 at_:findIn K (.ref C) f=some (some u)
 rel:RelV v u
 get:specialIn K u "__get__"=some none
 cp:copiedNames.contains f=false
structure Meth (K:Frag) (C:Addr) (m:Str) (f:Addr):Prop where
 at_:findIn K (.ref C) m=some (some (.ref f))
 fn:isFn K (.ref f)=true
 kp:keepIn K (.ref f)=true
section
variable {X:Cx}{pins:List (Addr × Obj)}{σ:St}{H:Hp}{s:Shared}{a C dx:Addr}{fs:List (Str × V)}{f:Str}{v:V}{A:Around}{E:Value->Shared->Prop}
theorem xG {b:Bool}{Q:Value->Shared->Prop}(I:Inv X pins σ H s)(e:H a=some (.ins C dx fs))(c:Cls X.K C)(n:NoAttr X.K C f)(l:fs.lookup f=some v)(h:∀ u s',Inv X pins σ H s'->RelV v u->Q u s'):wpAny (model X.prog X.w) A (getAttr (.ref a) f b) Q E s:=by
 obtain ⟨mA,O,r,_,_,_⟩:=uM I.hok e
 obtain ⟨u,hu,ru⟩:=RelO.some_of (v:=v) (o:=mA f) (by rw [<- l]; exact r f)
 exact BO0 I.kIn O (c.get f) c.hd n hu (AA4 ru) (h u _ (I.tok _) ru)
theorem xH {m:Str}{g:Addr}{pl:Sem Bool}{Q:Value × List Value->Shared->Prop}(I:Inv X pins σ H s)(e:H a=some (.ins C dx fs))(c:Cls X.K C)(k:Meth X.K C m g)(l:fs.lookup m=none)(h:Q (.ref g,[.ref a]) s):wpAny (model X.prog X.w) A (getMethod (.ref a) m pl) Q E s:=by
 obtain ⟨mA,O,r,_,_,_⟩:=uM I.hok e
 have hn:mA m=none:=RelO.none_of (by rw [<- l]; exact r m)
 exact BF0 I.kIn O (c.get m) k.at_ k.fn hn h
theorem xI {y:V}{u:Value}{Q:Unit->Shared->Prop}(I:Inv X pins σ H s)(e:H a=some (.ins C dx fs))(c:Cls X.K C)(n:NoAttr X.K C f)(hl:fs.length < 1000)(ry:RelV y u)(h:∀ s',Inv X pins σ (upd H a (.ins C dx (pO f y fs))) s'->Q () s'):wpAny (model X.prog X.w) A (setAttr (.ref a) f u) Q E s:=by
 obtain ⟨mA,O,r,wi,_,ho⟩:=uM I.hok e
 have hz:(fs.map (·.1)).length<=sizeLine:=by rw [List.length_map,sizeLine_eq]; omega
 refine BO1 I.kIn O c.sa c.po n.taker c.hd wi hz fun h' O' sb=>h _ ?_
 have hd:∃ o,h'.get? dx=some o:=let ⟨o,_,_,e',_⟩:=O'.ns; ⟨o,e'⟩
 refine I.write (x:=a) (e:=dx) (by rw [e]; exact True.intro) (.inr ho) (fun b q hb z=>(sb.2 b hb).trans z) hd ?_
 refine ⟨by rw [aJ O.ne]; exact ho,?_,O.ne,O'.obj,_,O'.ns,fun g=>?_,fun g hg=>?_⟩
 ·have:=uL f y fs; omega
 ·show RelO ((pO f y fs).lookup g) (if g=f then some u else mA g)
  rw [uJ]
  by_cases q:g=f
  ·rw [if_pos q,if_pos q]; exact ry
  ·rw [if_neg q,if_neg q]; exact r g
 ·by_cases q:g=f
  ·rw [q]; exact (uK f y fs).1
  ·refine (uK f y fs).2 g (wi g fun z=>hg ?_)
   show (if g=f then some u else mA g)=none
   rw [if_neg q]; exact z
theorem Inv.made (I:Inv X pins σ H s):Inv X pins σ (upd (upd H s.heap.objs.size (.own (s.heap.objs.size+1))) (s.heap.objs.size+1) (.ins C s.heap.objs.size []))
  { s with heap:=(s.heap.push emptyDict).push (instObj C s.heap.objs.size) }:=by
 have e1:(s.heap.push emptyDict).get? s.heap.objs.size=some emptyDict:=Heap.get?_push_size s.heap rfl
 have e2:((s.heap.push emptyDict).push (instObj C s.heap.objs.size)).get? (s.heap.objs.size+1)=some (instObj C s.heap.objs.size):=by
  have:=Heap.get?_push_size (s.heap.push emptyDict) (o:=instObj C s.heap.objs.size) rfl
  rwa [Heap.size_push] at this
 have e3:(s.heap.push emptyDict).Ns s.heap.objs.size (fun _=>none):=⟨emptyDict,#[],_,e1,rfl,(fun e he=>absurd he (by simp)),fun _=>rfl⟩
 have I1:=I.laid (a:=s.heap.objs.size) (o:=.own (s.heap.objs.size+1)) (h':=s.heap.push emptyDict) (t':=s.toks) (fun b u q=>Heap.get?_push_of_some _ q) (Nat.le_refl _) ⟨_,e1⟩
 refine I1.laid (a:=s.heap.objs.size+1) (o:=.ins C s.heap.objs.size []) (t':=s.toks) (fun b u q=>Heap.get?_push_of_some _ q) (Nat.le_of_eq (Heap.size_push _ _)) ?_
 have ne:s.heap.objs.size≠s.heap.objs.size+1:=Nat.ne_of_lt (Nat.lt_succ_self _)
 refine ⟨by rw [aJ ne,aA],Nat.zero_le _,ne,e2,fun _=>none,(Heap.Ns1.of_empty e3).at fun o q=>Heap.get?_push_of_some _ q,fun _=>True.intro,fun y hy=>absurd rfl hy⟩
theorem AU0 {prog:Program}{w:World}{env:Env}{e:Expr}{f:Str}{pos:Pos}{s:Shared}{Q:Value->Shared->Prop}(hb:attributeBase e f env (eval e env)=eval e env)(h:wpAny (model prog w) A (eval e env) (fun o s₁=>wpAny (model prog w) A (getAttr o f true) Q E s₁) E s):wpAny (model prog w) A (eval (.Attribute e f pos) env) Q E s :=
 Attribute_any_ h (by rw [arm_eval_Attribute,hb])
end
def CC8 (K:Frag)(ta:TE)(f:Str):TE:=fun σ H Q=>ta σ H fun x H1=>isR x fun a=>∃ C dx fs,H1 a=some (.ins C dx fs)/\Cls K C/\NoAttr K C f/\∃ v,fs.lookup f=some v/\Q v H1
def CI7 (K:Frag)(ta tv:TE)(f:Str):TS:=fun D σ H=>tv σ H fun y H1=>ta σ H1 fun x H2=>isR x fun a=>∃ C dx fs,H2 a=some (.ins C dx fs)/\Cls K C/\NoAttr K C f/\fs.length < 1000 /\
 D.nx σ (upd H2 a (.ins C dx (pO f y fs)))
def CI8 (X:Cx)(op:Operator)(rd:V->V->Hp->VK->Prop):Prop :=
 ∀ (pins:List (Addr × Obj)) (s:Shared) (σ:St) (H:Hp) (x y:V) (u v:Value) (Q:VK),Inv X pins σ H s->RelV x u->RelV y v->rd x y H Q->wpAny (model X.prog X.w) X.A (inplaceOp op u v) (EP X pins σ Q) X.xe s
def AU1 (K:Frag)(ta tv:TE)(rd:V->V->Hp->VK->Prop)(f:Str):TS:=fun D σ H=>ta σ H fun x H1=>isR x fun a=>∃ C dx fs,H1 a=some (.ins C dx fs)/\Cls K C/\NoAttr K C f/\∃ v,fs.lookup f=some v /\
 tv σ H1 fun y H2=>rd v y H2 fun z H3=>∃ dx' fs',H3 a=some (.ins C dx' fs')/\fs'.length < 1000/\D.nx σ (upd H3 a (.ins C dx' (pO f z fs')))
section
variable {X:Cx}{o e value:Expr}{f:Str}{pos pos' tpos:Pos}{ta tv:TE}
theorem bB (he:PE X e ta)(hb:attributeBase e f X.env (eval e X.env)=eval e X.env):PE X (.Attribute e f pos) (CC8 X.K ta f):=by
 intro pins s σ H Q I h
 refine AU0 hb (thn (he pins s σ H _ I h) fun u s1 ⟨x,H1,I1,rx,qq⟩=>?_)
 obtain ⟨a,ex,C,dx,fs,ea,c,n,v,l,q⟩:=isR.ex qq
 subst ex
 obtain rfl:u=Value.ref a:=rx
 exact xG I1 ea c n l fun u' s2 I2 ru=>⟨v,H1,I2,ru,q⟩
theorem eA (ha:PE X o ta)(hv:PE X value tv)(hs:swapsWith value (some (.Attribute o f pos')) pos.line X.env=pure false):PS X (.Assign [.Attribute o f pos'] value pos) (CI7 X.K ta tv f):=by
 intro pins s σ H D I h
 refine plainObj_wpAny_Assign_Attribute (thn (hv pins s σ H _ I h) fun u s1 ⟨y,H1,I1,ry,q⟩=>thn (ha pins s1 σ H1 _ I1 q) fun ov s2 ⟨x,H2,I2,rx,qq⟩=>?_) hs
 obtain ⟨a,ex,C,dx,fs,ea,c,n,l,q2⟩:=isR.ex qq
 subst ex
 obtain rfl:ov=Value.ref a:=rx
 exact xI I2 ea c n l ry fun s3 I3=>⟨σ,_,I3,q2⟩
theorem uN {op:Operator}{rd:V->V->Hp->VK->Prop}(ha:PE X o ta)(hv:PE X value tv)(hop:CI8 X op rd):PS X (.AugAssign (.Attribute o f tpos) op value pos) (AU1 X.K ta tv rd f):=by
 intro pins s σ H D I h
 refine wpAny_AugAssign_AttributeAny (thn (ha pins s σ H _ I h) fun ov s1 ⟨x,H1,I1,rx,qq⟩=>?_)
 obtain ⟨a,ex,C,dx,fs,ea,c,n,v,l,q⟩:=isR.ex qq
 subst ex
 obtain rfl:ov=Value.ref a:=rx
 refine xG I1 ea c n l fun u s2 I2 ru=>thn (hv pins s2 σ H1 _ I2 q) fun w3 s3 ⟨y,H2,I3,ry,q3⟩=>thn (hop pins s3 σ H2 v y u w3 _ I3 ru ry q3) fun w4 s4 ⟨z,H3,I4,rz,dx',fs',ea',l',q4⟩=>?_
 exact xI I4 ea' c n l' rz fun s5 I5=>⟨σ,_,I5,q4⟩
def CI9:V->V->Hp->VK->Prop:=fun x y H Q=>isI x fun i=>isI y fun j=>Q (.int (i+j)) H
theorem AU2:CI8 X .Add CI9:=by
 intro pins s σ H x y u v Q I rx ry h
 obtain ⟨i,rfl,h2⟩:=isI.ex h
 obtain ⟨j,rfl,q⟩:=isI.ex h2
 obtain ⟨t,rfl⟩:=(show ∃ t,u=Value.int i t from rx)
 obtain ⟨t',rfl⟩:=(show ∃ t',v=Value.int j t' from ry)
 exact PyProof.Rows.iadd_int ⟨.int (i+j),H,I.tok _,⟨_,rfl⟩,q⟩
end
section
variable {X:Cx}{pins:List (Addr × Obj)}{σ:St}{H:Hp}{s:Shared}{A:Around}{E:Value->Shared->Prop}{Q:Value->Shared->Prop}{c:Value}{b:Bool}
inductive TyOf (K:Frag) (H:Hp):V->Value->Prop where
 | non:TyOf K H .non (.type "NoneType")
 | bl (x:Bool):TyOf K H (.bl x) (.type "bool")
 | int (i:Int):TyOf K H (.int i) (.type "int")
 | str (x:Str):TyOf K H (.str x) (.type "str")
 | flt (x:UInt64):TyOf K H (.flt x) (.type "float")
 | lst {a:Addr}{xs:List V}(e:H a=some (.lst xs)):TyOf K H (.ref a) (.type "list")
 | frz {a:Addr}{o:Obj}{xs:List V}(e:H a=some (.frz o (.lst xs))):TyOf K H (.ref a) (.type "list")
 | tup {a:Addr}{xs:List V}(e:H a=some (.tup xs)):TyOf K H (.ref a) (.type "tuple")
 | dK {a:Addr}{kvs:List (Key × V)}(e:H a=some (.dK kvs)):TyOf K H (.ref a) (.type "dict")
 | dT {a:Addr}{kvs:List (List Key × V)}(e:H a=some (.dT kvs)):TyOf K H (.ref a) (.type "dict")
 | ins {a C dx:Addr}{fs:List (Str × V)}(e:H a=some (.ins C dx fs)) (cl:Cls K C) (ha:findIn K (.ref C) "__class__"=some (some (.builtin "object.__class__")))
   (hn:specialIn K (.builtin "object.__class__") "__get__"=some (some (.builtin "getset_descriptor.__get__"))) (htk:takesIn K (.builtin "object.__class__")=some true)
   (hm:mroIn K C (.type "object")=some true):TyOf K H (.ref a) (.ref C)
theorem uO {x:V}{u t:Value}(I:Inv X pins σ H s)(rx:RelV x u)(ty:TyOf X.K H x t)(e:kitOne X.K t c=some b)(h:∀ tk,Q (.bool b) { s with toks:=tk }) :
  wpAny (model X.prog X.w) A (call (.builtin "isinstance") [u,c]) Q E s:=by
 cases ty with
 | non=>cases (show u=Value.none from rx); exact kia_one kitx_none I.kIn True.intro e (fun z=>nomatch z) h
 | bl y=>cases (show u=Value.bool y from rx); exact kia_one kitx_bool I.kIn True.intro e (fun z=>nomatch z) h
 | int i=>obtain ⟨t,q⟩:=(show ∃ t,u=Value.int i t from rx); cases q; exact kia_one kitx_int I.kIn True.intro e (fun z=>nomatch z) h
 | str y=>obtain ⟨t,q⟩:=(show ∃ t,u=Value.str y t from rx); cases q; exact kia_one kitx_str I.kIn True.intro e (fun z=>nomatch z) h
 | flt y=>obtain ⟨t,q⟩:=(show ∃ t,u=Value.float y t from rx); cases q; exact kia_one kitx_float I.kIn True.intro e (fun z=>nomatch z) h
 | @lst a xs ea =>
  cases (show u=Value.ref a from rx)
  obtain ⟨_,_,n,_,h1⟩:=(show ObjOk X.prog X.w H s.heap a (.lst xs) from I.hok a _ ea)
  exact kia_one kitx_list I.kIn ⟨_,h1,rfl⟩ e (fun z=>nomatch z) h
 | @frz a ob xs ea =>
  cases (show u=Value.ref a from rx)
  obtain ⟨_,_,_,n,_,h1⟩:=(show ObjOk X.prog X.w H s.heap a (.frz ob (.lst xs)) from I.hok a _ ea)
  exact kia_one kitx_list I.kIn ⟨_,h1,rfl⟩ e (fun z=>nomatch z) h
 | @tup a xs ea =>
  cases (show u=Value.ref a from rx)
  obtain ⟨_,_,_,p⟩:=(show ObjOk X.prog X.w H s.heap a (.tup xs) from I.hok a _ ea)
  obtain ⟨o,h1,h2,_⟩:=p
  exact kia_one kitx_tuple I.kIn ⟨o,h1,h2⟩ e (fun z=>nomatch z) h
 | @dK a kvs ea =>
  cases (show u=Value.ref a from rx)
  obtain ⟨_,_,vs,_,p⟩:=(show ObjOk X.prog X.w H s.heap a (.dK kvs) from I.hok a _ ea)
  obtain ⟨o,es,ep,h1,h2,_⟩:=p
  exact kia_one kitx_dict I.kIn ⟨o,h1,h2.1⟩ e (fun z=>nomatch z) h
 | @dT a kvs ea =>
  cases (show u=Value.ref a from rx)
  obtain ⟨_,_,xs,_,o,es,ep,h1,h2,_⟩:=(show ObjOk X.prog X.w H s.heap a (.dT kvs) from I.hok a _ ea)
  exact kia_one kitx_dict I.kIn ⟨o,h1,h2.1⟩ e (fun z=>nomatch z) h
 | @ins a C dx fs ea cl ha hn htk hm =>
  cases (show u=Value.ref a from rx)
  obtain ⟨mA,O,_⟩:=uM I.hok ea
  obtain ⟨od,J,_⟩:=O.look
  exact kia_one (kitx_own (cl.get _) cl.hd ha hn htk hm) I.kIn J e (fun z=>nomatch z) h
end
structure Room (k:Nat) (A:Around):Prop where
 hd:A.handled=none
 dp:A.depth+3 * k+5 < recursionLimit
 un:A.units+16 * k+200 < cLine
theorem Room.mono {j k:Nat}{A:Around}(r:Room k A)(h:j<=k):Room j A:=⟨r.hd,by have:=r.dp; omega,by have:=r.un; omega⟩
theorem Room.deeper {k:Nat}{A:Around}(r:Room (k+1) A)(env:Env):Room k (A.deeper env) :=
 ⟨r.hd,by have:=r.dp; show A.depth+1+3 * k+5 < _; omega,by have:=r.un; show A.units+3+16 * k+200 < _; omega⟩
theorem xJ {A:Around}{C:Addr}{us:List Value}{kw:List (Str × Value)}:(A.under (.builtin "type.__call__" ⟨.ref C::us,kw⟩)).depth=A.depth+1:=by
 first | rfl | simp [Around.under,Code.weight,Code.isCreation,Code.isGuard,Code.isCaller,Code.frames,Code.isFrame,guardIds]
theorem xK {A:Around}{C:Addr}{us:List Value}{kw:List (Str × Value)}:(A.under (.builtin "type.__call__" ⟨.ref C::us,kw⟩)).units=A.units+1:=by
 first | rfl | simp [Around.under,Code.cUnits,Code.frames,Code.isFrame]
theorem Room.make {k:Nat}{A:Around}(r:Room (k+1) A)(C:Addr)(us:List Value)(kw:List (Str × Value)):Room k (A.under (.builtin "type.__call__" ⟨.ref C::us,kw⟩)) :=
 ⟨r.hd,by have:=r.dp; rw [xJ]; omega,by have:=r.un; rw [xK]; omega⟩
theorem Room.depth {k:Nat}{A:Around}(r:Room k A):A.depth < recursionLimit:=by have:=r.dp; omega
theorem Room.units {k:Nat}{A:Around}(r:Room k A):A.units+64 < cLine:=by have:=r.un; omega
def BO2:TA:=fun _ H Q=>Q [] H
def AA5 (ta:TE)(tr:TA):TA:=fun σ H Q=>ta σ H fun x H1=>tr σ H1 fun xs H2=>Q (x::xs) H2
section
variable {X:Cx}{e:Expr}{es:List Expr}{te:TE}{t:TA}{pos:Pos}
theorem BX1:PA X [] BO2:=fun _ _ _ _ H Q I h=>Calls.spliced_nil ⟨[],H,I,.nil,h⟩
theorem AU3 (ha:PE X e te)(hr:PA X es t)(hs:starEach (e::es) X.env=(false,eval e X.env)::starEach es X.env:=by rfl):PA X (e::es) (AA5 te t):=by
 intro pos pins s σ H Q I h
 rw [hs]
 show wpAny _ _ (spliced ((false,eval e X.env)::backTo pos (starEach es X.env))) _ _ s
 refine Calls.spliced_cons (thn (ha pins s σ H _ I h) fun u s1 ⟨x,H1,I1,r1,q1⟩=>?_)
 exact thn (hr pos pins s1 σ H1 _ I1 q1) fun us s2 ⟨xs,H2,I2,r2,q2⟩=>⟨x::xs,H2,I2,.cons r1 r2,q2⟩
def CJ0 (t:TA):TE:=fun σ H Q=>t σ H fun xs H1=>xs.length<=sizeLine/\∀ p,H1 p=none->Q (.ref p) (upd H1 p (.tup xs))
def BO3 (t:TA):TE:=fun σ H Q=>t σ H fun xs H1=>xs.length<=sizeLine/\∀ p,H1 p=none->Q (.ref p) (upd H1 p (.lst xs))
theorem gJ {x1}(h:PA X es t):PE X (.Tuple es x1 pos) (CJ0 t):=by
 intro pins s σ H Q I hq
 refine wpAny_Tuple_spliced (thn (h pos pins s σ H _ I hq) fun us s1 ⟨xs,H1,I1,r,z,q⟩=>⟨by rw [<- r.length]; exact z,?_⟩)
 have hf:H1 s1.heap.objs.size=none:=I1.hok.fresh (Nat.le_refl _)
 refine ⟨.ref s1.heap.objs.size,upd H1 s1.heap.objs.size (.tup xs),I1.laid (t':=s1.toks) (fun b u e=>Heap.get?_push_of_some _ e) (Nat.le_refl _) ?_,rfl,q _ hf⟩
 exact ⟨z,us,r,⟨_,Heap.get?_push_size _ rfl,rfl,_,rfl⟩⟩
theorem iB (h:PA X es t):PE X (.List es pos) (BO3 t):=by
 intro pins s σ H Q I hq
 refine wpAny_List_spliced (thn (h pos pins s σ H _ I hq) fun us s1 ⟨xs,H1,I1,r,z,q⟩=>⟨by rw [<- r.length]; exact z,?_⟩)
 have hf:H1 s1.heap.objs.size=none:=I1.hok.fresh (Nat.le_refl _)
 refine ⟨.ref s1.heap.objs.size,upd H1 s1.heap.objs.size (.lst xs),I1.laid (t':=s1.toks) (fun b u e=>Heap.get?_push_of_some _ e) (Nat.le_refl _) ?_,rfl,q _ hf⟩
 exact ⟨z,us,0,r,Heap.get?_push_size _ rfl⟩
end
abbrev Sp:=List V->Hp->VK->XK->Prop
abbrev CXT:=List Env->Hp->Shared->XK->Value->Shared->Prop
structure Env0 (P:Program) (w:World) (K:Frag) (mg:Str->Option Value) (base:Heap) (A:Around) (outer:List Env) (s:Shared) (H:Hp):Prop where
 frames:A.frames=some outer
 mod:Mod K mg base
 bs:∀ b o,base.get? b=some o->s.heap.get? b=some o/\H b=none
 bsz:base.objs.size<=s.heap.objs.size
 funs:s.heap.FunFrames base outer
 frf:∀ b∈frs outer,H b=none
 hok:HOk P w H s.heap
 bare:AllBare s.gens
def CE (outer:List Env)(P:Program)(w:World)(H:Hp)(s:Shared)(Q:VK)(u:Value)(s':Shared):Prop :=
 ∃ v H',s'.os=s.os/\AllBare s'.gens/\Un (frs outer) [] H H' s.heap s'.heap/\HOk P w H' s'.heap/\RelV v u/\Q v H'
def CR (CX:CXT)(outer:List Env)(P:Program)(w:World)(H:Hp)(s:Shared)(Q:VK)(E:XK)(r:Result)(s':Shared):Prop :=
 match r with
 | .ok (.ret u)=>CE outer P w H s Q u s'
 | .ok _=>False
 | .error e=>CX outer H s E e s'
structure FnOk (P:Program) (w:World) (K:Frag) (mg:Str->Option Value) (base:Heap) (CX:CXT) (k:Nat) (f:Addr) (fd:FuncData) (ps:List Str) (sp:Sp):Prop where
 len:∀ vs H Q E,sp vs H Q E->vs.length=ps.length
 run:∀ (A:Around) (outer:List Env) (s:Shared) (H:Hp) (args:Args) (us:List Value) (vs:List V) (Q:VK) (E:XK),Room k A->Env0 P w K mg base A outer s H->BindsTo s fd args (ps.zip us)->Vals vs us->sp vs H Q E ->
  codeAny (model P w) A (.call (.ref f) args) (CR CX outer P w H s Q E) s
theorem Env0.make {P:Program}{w:World}{K:Frag}{mg:Str->Option Value}{base:Heap}{A:Around}{outer:List Env}{s:Shared}{H:Hp}(e:Env0 P w K mg base A outer s H)(C:Addr)(us:List Value)(kw:List (Str × Value)) :
  Env0 P w K mg base (A.under (.builtin "type.__call__" ⟨.ref C::us,kw⟩)) outer s H:=⟨by first | exact e.frames | (simpa [Around.under,Code.envs,Code.isFrame,pushEnvs] using e.frames),e.mod,e.bs,e.bsz,e.funs,e.frf,e.hok,e.bare⟩
section
variable {X:Cx}{pins:List (Addr × Obj)}{σ:St}{H:Hp}{s s':Shared}
theorem Inv.env0 (I:Inv X pins σ H s):Env0 X.prog X.w X.K X.mg X.base X.A X.stack s H :=
 ⟨I.ok.frames,I.ok.mod,I.bs,Nat.le_trans I.ok.bsz I.sz,I.stack,I.stkFree,I.hok,I.bare⟩
theorem Inv.after {Q:VK}{u:Value}(I:Inv X pins σ H s)(h:CE X.stack X.prog X.w H s Q u s'):EP X pins σ Q u s':=by
 obtain ⟨v,H',os,bare,un,hok,r,q⟩:=h
 obtain ⟨hh,g,d,t,os'⟩:=s'
 obtain rfl:os'=s.os:=os
 exact ⟨v,H',I.call (h':=hh) (g':=g) (d':=d) (t':=t) (ch:=[]) un hok bare (fun b z=>absurd z (by simp)),r,q⟩
end
def yF (sp:Sp)(dvs:List V)(E:XK)(t:TA):TE:=fun σ H Q=>t σ H fun vs H1=>sp (vs++dvs) H1 Q E
def BF2 (C:Addr)(sp:Sp)(dvs:List V)(E:XK)(t:TA):TE:=fun σ H Q=>t σ H fun vs H1=>∀ x dx,H1 x=none->H1 dx=none->dx≠x ->
 sp (.ref x::(vs++dvs)) (upd (upd H1 dx (.own x)) x (.ins C dx [])) (fun v H2=>v=.non/\Q (.ref x) H2) E
def Binds (K:Frag)(fd:FuncData)(ps:List Str)(ds:List Value):Prop :=
 ∀ (s:Shared) (us:List Value),K.In s.heap->(us++ds).length=ps.length->BindsTo s fd ⟨us,[]⟩ (ps.zip (us++ds))
theorem Binds.all {K:Frag}{fd:FuncData}{ps:List Str}(h:∀ us:List Value,us.length=ps.length->bindArgs fd ⟨us,[]⟩=pure (ps.zip us)):Binds K fd ps []:=fun s us _ hl=>by
 rw [List.append_nil] at hl ⊢
 exact .of_eq (h us hl)
def kE (CX:CXT)(X:Cx)(E:XK):Prop:=∀ (pins:List (Addr × Obj)) (σ:St) (H:Hp) (s:Shared) (e:Value) (s':Shared),Inv X pins σ H s->CX X.stack H s E e s'->X.xe e s'
section
variable {X:Cx}{CX:CXT}{k:Nat}{f C:Addr}{fd:FuncData}{ps:List Str}{sp:Sp}{dvs:List V}{ds:List Value}{E:XK}{x m:Str}{p pos apos:Pos}{e o:Expr}{es:List Expr}{ta:TE}{t:TA}
theorem AM1 {pins:List (Addr × Obj)}{σ:St}{H:Hp}{s:Shared}{Q:VK}{us:List Value}{vs:List V}(F:FnOk X.prog X.w X.K X.mg X.base CX k f fd ps sp)(hr:Room k X.A)(hb:Binds X.K fd ps ds)(hd:Vals dvs ds)(hx:kE CX X E)(I:Inv X pins σ H s)(r:Vals vs us)(h:sp (vs++dvs) H Q E):wpAny (model X.prog X.w) X.A (call (.ref f) us) (EP X pins σ Q) X.xe s:=by
 have r2:Vals (vs++dvs) (us++ds):=r.append hd
 have hl:(us++ds).length=ps.length:=by rw [<- r2.length]; exact F.len _ _ _ _ h
 refine wpAny_call (codeAny_mono (F.run X.A X.stack s H ⟨us,[]⟩ (us++ds) (vs++dvs) Q E hr I.env0 (hb s us I.kIn hl) r2 h) fun r s' hq=>?_)
 cases r with
 | error e=>exact hx pins σ H s e s' I hq
 | ok fl =>
  cases fl with
  | ret u=>exact I.after hq
  | next=>exact False.elim hq
  | brk=>exact False.elim hq
  | cont=>exact False.elim hq
theorem yG (F:FnOk X.prog X.w X.K X.mg X.base CX k f fd ps sp)(hr:Room k X.A)(hg:Gl X x)(hm:X.mg x=some (.ref f))(hk:keepIn X.K (.ref f)=true)(hb:Binds X.K fd ps ds)(hd:Vals dvs ds)(hx:kE CX X E)(ha:PA X (e::es) t)(hdb:(x == ("__debug__":Str))=false:=by decide)(he:starEach (e::es) X.env=(false,eval e X.env)::starEach es X.env:=by rfl)(hpl:(backTo pos (starEach es X.env)).any (·.1)=false:=by rfl) :
  PE X (.Call (.Name x p) (e::es) [] pos) (yF sp dvs E t):=by
 intro pins s σ H Q I h
 refine wpAny_Call_Name_kw (iK I hg hm ?_ hdb)
 refine callWith_K (h₀:=X.base) I.ok.mod.kin hk (thn (ha pos pins s σ H _ I h) fun us s1 ⟨vs,H1,I1,r,q⟩=>⟨I1.kIn,?_⟩) he hpl
 exact AM1 F hr hb hd hx I1 r q
theorem BF3 (F:FnOk X.prog X.w X.K X.mg X.base CX k f fd ps sp)(hr:Room k X.A)(hg:Gl X x)(hm:X.mg x=some (.ref f))(hk:keepIn X.K (.ref f)=true)(hb:Binds X.K fd ps ds)(hd:Vals dvs ds)(hx:kE CX X E)(hdb:(x == ("__debug__":Str))=false:=by decide):PE X (.Call (.Name x p) [] [] pos) (yF sp dvs E BO2):=by
 intro pins s σ H Q I h
 refine wpAny_Call_Name_kw (iK I hg hm ?_ hdb)
 exact callWith_K0 I.kIn hk (AM1 (us:=[]) F hr hb hd hx I .nil h)
structure Mk (K:Frag) (C f:Addr):Prop where
 makes:makesIn K C=true
 init:findIn K (.ref C) "__init__"=some (some (.ref f))
 fn:isFn K (.ref f)=true
 kp:keepIn K (.ref C)=true
theorem BF4 {pins:List (Addr × Obj)}{σ:St}{H:Hp}{s:Shared}{Q:VK}{us:List Value}{vs:List V}(M:Mk X.K C f)(F:FnOk X.prog X.w X.K X.mg X.base CX k f fd ps sp)(hr:Room (k+1) X.A)(hb:Binds X.K fd ps ds)(hd:Vals dvs ds)(hx:kE CX X E)(I:Inv X pins σ H s)(r:Vals vs us)(h:∀ x dx,H x=none->H dx=none->dx≠x->sp (.ref x::(vs++dvs)) (upd (upd H dx (.own x)) x (.ins C dx [])) (fun v H2=>v=.non/\Q (.ref x) H2) E) :
  wpAny (model X.prog X.w) X.A (call (.ref C) us) (EP X pins σ Q) X.xe s:=by
 have hq:=h (s.heap.objs.size+1) s.heap.objs.size (I.hok.fresh (Nat.le_succ _)) (I.hok.fresh (Nat.le_refl _)) (Nat.ne_of_lt (Nat.lt_succ_self _))
 have I2:=Inv.made (C:=C) I
 have r2:Vals (V.ref (s.heap.objs.size+1)::(vs++dvs)) (Value.ref (s.heap.objs.size+1)::(us++ds)):=.cons rfl (r.append hd)
 have hl:(Value.ref (s.heap.objs.size+1)::us++ds).length=ps.length:=by
  have e:=r2.length
  rw [F.len _ _ _ _ hq] at e
  exact e.symm
 refine wpAny_call (BF1 (f:=f) I.kIn M.makes M.init (beq_iff_eq.mp M.fn) (codeAny_mono (F.run _ X.stack _ _ ⟨Value.ref (s.heap.objs.size+1)::us,[]⟩ (Value.ref (s.heap.objs.size+1)::(us++ds)) _ _ E (hr.make C us [])
  (I2.env0.make C us []) (hb _ (Value.ref (s.heap.objs.size+1)::us) I2.kIn hl) r2 hq) fun r s' hq'=>?_))
 cases r with
 | error e=>exact hx pins σ _ _ e s' I2 hq'
 | ok fl =>
  cases fl with
  | ret u =>
   obtain ⟨v,H',I3,rv,ev,q3⟩:=I2.after hq'
   subst ev
   exact ⟨rv,⟨V.ref (s.heap.objs.size+1),H',I3,rfl,q3⟩⟩
  | next=>exact False.elim hq'
  | brk=>exact False.elim hq'
  | cont=>exact False.elim hq'
theorem AU4 (M:Mk X.K C f)(F:FnOk X.prog X.w X.K X.mg X.base CX k f fd ps sp)(hr:Room (k+1) X.A)(hg:Gl X x)(hm:X.mg x=some (.ref C))(hb:Binds X.K fd ps ds)(hd:Vals dvs ds)(hx:kE CX X E)(ha:PA X (e::es) t)(hdb:(x == ("__debug__":Str))=false:=by decide)(he:starEach (e::es) X.env=(false,eval e X.env)::starEach es X.env:=by rfl)(hpl:(backTo pos (starEach es X.env)).any (·.1)=false:=by rfl) :
  PE X (.Call (.Name x p) (e::es) [] pos) (BF2 C sp dvs E t):=by
 intro pins s σ H Q I h
 refine wpAny_Call_Name_kw (iK I hg hm ?_ hdb)
 refine callWith_K (h₀:=X.base) I.ok.mod.kin M.kp (thn (ha pos pins s σ H _ I h) fun us s1 ⟨vs,H1,I1,r,q⟩=>⟨I1.kIn,?_⟩) he hpl
 exact BF4 M F hr hb hd hx I1 r q
end
section
variable {X:Cx}{CX:CXT}{k:Nat}{f C:Addr}{fd:FuncData}{ps ks:List Str}{sp:Sp}{E:XK}{x m:Str}{p pos apos kpos:Pos}{e o:Expr}{es:List Expr}{kws:List Keyword}{te ta:TE}{t tk:TA}{nm:Option Str}
structure KBinds (K:Frag) (fd:FuncData) (ps ks:List Str) (g:List Value->List Value->List Value) (gV:List V->List V->List V):Prop where
 to:∀ (s:Shared) (us ws:List Value),K.In s.heap->(g us ws).length=ps.length->BindsTo s fd ⟨us,ks.zip ws⟩ (ps.zip (g us ws))
 rel:∀ {vs:List V}{us:List Value}{zs:List V}{ws:List Value},Vals vs us->Vals zs ws->Vals (gV vs zs) (g us ws)
variable {g:List Value->List Value->List Value}{gV:List V->List V->List V}
end
structure FnScope (N P:List Str) (sc:Scope):Prop where
 kind:sc.kind=.function
 co:sc.isCoroutine=false
 gen:sc.isGenerator=false
 nd:N.Nodup
 pre:N.take P.length=P
 par:∀ x∈P,sc.names.lookup x=some .local\/sc.names.lookup x=some .cell
 nofree:∀ y∈sc.names,y.2≠.free
theorem AA6 {kindOf:Str->Option NameKind}{x:Str}:∀ {binds:List (Str × Value)}{m:Str->Option Value},(∀ v,(x,v) ∉ binds)->bindL kindOf binds m x=m x
 | [],_,_=>rfl
 | (n,v)::r,m,h=>by
  unfold bindL
  rw [AA6 fun w hw=>h w (List.mem_cons_of_mem _ hw)]
  split
  ·have:x≠n:=by rintro rfl; exact h v List.mem_cons_self
   simp [this]
  ·rfl
theorem AA7 {kindOf:Str->Option NameKind}{x:Str}:∀ {binds:List (Str × Value)}{m:Str->Option Value},(∀ v,(x,v) ∉ binds)->bindC kindOf binds m x=m x
 | [],_,_=>rfl
 | (n,v)::r,m,h=>by
  unfold bindC
  rw [AA7 fun w hw=>h w (List.mem_cons_of_mem _ hw)]
  split
  ·rfl
  ·have:x≠n:=by rintro rfl; exact h v List.mem_cons_self
   simp [this]
theorem AA8 {kindOf:Str->Option NameKind}{x:Str}{v:Value}:∀ {P:List Str}{vs:List Value}{i:Nat}{m:Str->Option Value},P.Nodup->P[i]?=some x->vs[i]?=some v->kindOf x=some .local ->
  bindL kindOf (P.zip vs) m x=some v
 | [],_,_,_,_,h,_,_=>by simp at h
 | _::_,[],_,_,_,_,h,_=>by simp at h
 | p::P,w::vs,0,m,nd,h1,h2,hk=>by
  simp at h1 h2; subst h1; subst h2
  show bindL kindOf ((p,w)::P.zip vs) m p=_
  unfold bindL
  rw [AA6 fun v hv=>(List.nodup_cons.mp nd).1 (List.of_mem_zip hv).1,if_pos hk]
  simp
 | p::P,w::vs,i+1,m,nd,h1,h2,hk=>by
  show bindL kindOf ((p,w)::P.zip vs) m x=_
  unfold bindL
  exact AA8 (i:=i) (List.nodup_cons.mp nd).2 (by simpa using h1) (by simpa using h2) hk
theorem AA9 {kindOf:Str->Option NameKind}{x:Str}{v:Value}:∀ {P:List Str}{vs:List Value}{i:Nat}{m:Str->Option Value},P.Nodup->P[i]?=some x->vs[i]?=some v->kindOf x≠some .local ->
  bindC kindOf (P.zip vs) m x=some v
 | [],_,_,_,_,h,_,_=>by simp at h
 | _::_,[],_,_,_,_,h,_=>by simp at h
 | p::P,w::vs,0,m,nd,h1,h2,hk=>by
  simp at h1 h2; subst h1; subst h2
  show bindC kindOf ((p,w)::P.zip vs) m p=_
  unfold bindC
  rw [AA7 fun v hv=>(List.nodup_cons.mp nd).1 (List.of_mem_zip hv).1,if_neg hk]
  simp
 | p::P,w::vs,i+1,m,nd,h1,h2,hk=>by
  show bindC kindOf ((p,w)::P.zip vs) m x=_
  unfold bindC
  exact AA9 (i:=i) (List.nodup_cons.mp nd).2 (by simpa using h1) (by simpa using h2) hk
def start (N:List Str)(vs:List V):St:=vs.map some++List.replicate (N.length - vs.length) none
def AU5 (CX:CXT)(P:Program)(w:World)(K:Frag)(mg:Str->Option Value)(base:Heap)(N:List Str)(qual:Str)(scope:Scope)(f:Addr)(cd:Value)(A:Around)(outer:List Env)(s:Shared)(H:Hp)(E:XK):Cx where
 prog:=P
 w:=w
 K:=K
 mg:=mg
 base:=base
 A:=A.deeper (envOfC qual scope s.heap.objs.size f cd)
 N:=N
 s₀:=s
 H₀:=H
 env:=envOfC qual scope s.heap.objs.size f cd
 outer:=outer
 stack:=envOfC qual scope s.heap.objs.size f cd::outer
 ex:=[]
 calm:=true
 fn:=fun _=>true
 pn:=[]
 xe:=fun e s'=>wpAny (model P w) (A.deeper (envOfC qual scope s.heap.objs.size f cd)) (leaving (envOfC qual scope s.heap.objs.size f cd) e) (fun _ s''=>CX outer H s E e s'') (fun e' s''=>CX outer H s E e' s'') s'
theorem AM2 {sc:Scope}{n:Nat}{x:Str}(h:sc.names.lookup x=some .cell):∃ c,(cellsFrom n sc.names []).lookup x=some c:=by
 have q:=cellsFrom_some sc.names n [] (.inl h)
 exact Option.isSome_iff_exists.mp q
theorem AB0 {CX:CXT}{P:Program}{w:World}{K:Frag}{mg:Str->Option Value}{base:Heap}{N ps:List Str}{qual:Str}{scope:Scope}{f:Addr}{cd:Value}{A:Around}{outer:List Env}{s s1:Shared}{H:Hp}{E:XK}{us:List Value}{vs:List V}(S:FnScope N ps scope)(hd:A.handled=none)(e0:Env0 P w K mg base A outer s H)(hl:vs.length=ps.length)(r:Vals vs us)(x:InCallC s s.heap.objs.size (bindL (envOfC qual scope s.heap.objs.size f cd).kindOf (ps.zip us) fun _=>none) (cellsFrom (s.heap.objs.size+1) scope.names []) (bindC (envOfC qual scope s.heap.objs.size f cd).kindOf (ps.zip us) fun _=>none) s1) :
  Inv (AU5 CX P w K mg base N qual scope f cd A outer s H E) [] (start N vs) H s1:=by
 have hpl:ps.length<=N.length:=by have:=congrArg List.length S.pre; rw [List.length_take] at this; omega
 obtain ⟨h1,tk,rfl,hk⟩:=x.done
 have noA:∀ b:Addr,b ∉ (AU5 CX P w K mg base N qual scope f cd A outer s H E).ex:=fun b z=>absurd (show b∈([]:List Addr) from z) (by simp)
 refine ⟨⟨e0.mod,S.kind,rfl,rfl,Nat.le_refl _,fun y z c h1 h2=>?_,fun y hy=>?_,fun y c _ h=>?_,fun _=>hd,Around.frames_deeper e0.frames,.inr ⟨rfl,rfl⟩,fun b z=>absurd z (noA b),e0.bs,e0.bsz,fun b _ _=>noA b,fun b z=>absurd z (noA b),e0.funs,e0.frf⟩,
  rfl,e0.bare,Un.kept hk,⟨_,x.toInCall.ns,fun i y v h1 h2 h3=>?_⟩,fun y c h=>⟨_,x.cell y c h⟩,e0.hok.fresh (Nat.le_refl _),fun y c h=>?_,fun p hp=>absurd (show p∈([]:List (Addr × Obj)) from hp) (by simp),e0.hok.kept hk,?_⟩
 ·exact name_of_addr x.apart (PySem.mem_of_lookup h1) (PySem.mem_of_lookup h2)
 ·have hy:scope.names.lookup y=some .cell\/scope.names.lookup y=some .free:=hy
  rcases hy with hy | hy
  ·exact AM2 hy
  ·exact absurd rfl (S.nofree _ (PySem.mem_of_lookup hy))
 ·exact Nat.le_of_lt (x.above y c (PySem.mem_of_lookup h))
 ·have hi:i < vs.length:=by
   unfold start at h2
   by_cases hi:i < vs.length
   ·exact hi
   ·rw [List.getElem?_append_right (by simpa using hi)] at h2
    rw [List.getElem?_replicate] at h2
    split at h2 <;> cases h2
  have ha:vs[i]?=some v:=by
   unfold start at h2
   rw [List.getElem?_append_left (by simpa using hi),List.getElem?_map] at h2
   cases e:vs[i]? with
   | none=>rw [e] at h2; cases h2
   | some a=>rw [e] at h2; cases h2; rfl
  obtain ⟨u,hu,rv⟩:=r.get ha
  have hp:ps[i]?=some y:=by
   rw [<- S.pre,List.getElem?_take_of_lt (by omega)]; exact h1
  have ndP:ps.Nodup:=by rw [<- S.pre]; exact S.nd.sublist (List.take_sublist _ _)
  refine ⟨u,rv,?_⟩
  rcases S.par y (List.mem_of_getElem? hp) with k | k
  ·exact .inl ⟨k,AA8 ndP hp hu k⟩
  ·obtain ⟨c,e⟩:=AM2 (n:=s.heap.objs.size+1) k
   refine .inr ⟨.inl k,c,e,?_⟩
   have q:=x.cell y c e
   rw [AA9 ndP hp hu (by show scope.names.lookup y≠_; rw [k]; decide)] at q
   exact q
 ·exact e0.hok.fresh (Nat.le_of_lt (x.above y c (PySem.mem_of_lookup h)))
 ·unfold start
  show _=N.length
  rw [List.length_append,List.length_map,List.length_replicate]
  omega
theorem AU6 {CX:CXT}{P:Program}{w:World}{K:Frag}{mg:Str->Option Value}{base:Heap}{k:Nat}{f:Addr}{name qual:Str}{params:Arguments}{body:List Stmt}{scope:Scope}{dV kV doc pm cdv ct oc:Value}{an od:Option Addr}{osl:Array (Option Value)}{N ps:List Str}{sp:Sp}(lk:K.lookup f=some ⟨oc,od,.func (fnOf name qual params body scope dV kV doc pm an cdv ct),osl⟩)(hcd:codeIn K cdv qual=true)(S:FnScope N ps scope)(len:∀ vs H Q E,sp vs H Q E->vs.length=ps.length)(hbody:∀ (A:Around) (outer:List Env) (s:Shared) (H:Hp) (vs:List V) (Q:VK) (E:XK),Room k (A.deeper (envOfC qual scope s.heap.objs.size f cdv))->sp vs H Q E ->
   ∃ t,PSs (AU5 CX P w K mg base N qual scope f cdv A outer s H E) body t/\t { nx:=fun _ H'=>Q .non H',rt:=Q } (start N vs) H) :
  FnOk P w K mg base CX (k+1) f (fnOf name qual params body scope dV kV doc pm an cdv ct) ps sp:=by
 refine ⟨len,fun A outer s H args us vs Q E hr e0 hb r hsp=>?_⟩
 have hl:=len _ _ _ _ hsp
 have KX:K.In s.heap:=e0.mod.kin.keeps fun b o e=>(e0.bs b o e).1
 have lim:s.heap.NoLimit:=e0.mod.nolimit.keeps fun b o e=>(e0.bs b o e).1
 have hkind:∀ y∈ps.zip us,scope.names.lookup y.1=some .local\/(scope.names.lookup y.1=some .cell/\((cellsFrom (s.heap.objs.size+1) scope.names []).lookup y.1).isSome=true):=fun ⟨n,v⟩ hy=>by
  rcases S.par n (List.of_mem_zip hy).1 with q | q
  ·exact .inl q
  ·exact .inr ⟨q,cellsFrom_some _ _ _ (.inl q)⟩
 refine codeAny_call_function hr.depth (KX _ _ lk) rfl S.co S.gen rfl (codeRec_of KX hcd) (hb _ _ _ _ ?_)
 refine wpAny_newFunctionEnv_cells S.kind hkind fun env he s1 x=>?_
 subst he
 refine ⟨lim.keeps x.toInCall.keep,codeAny_func ?_⟩
 obtain ⟨t,ht,hq⟩:=hbody A outer s H vs Q E (hr.deeper _) hsp
 have I:Inv (AU5 CX P w K mg base N qual scope f cdv A outer s H E) [] (start N vs) H s1:=AB0 S hr.hd e0 hl r x
 refine wpAny_mono (ht [] s1 (start N vs) H _ I hq) (fun fl s' hs=>?_) fun e s' hs=>hs
 have fin:∀ {σ':St}{H':Hp}{v:V}{u:Value},Inv (AU5 CX P w K mg base N qual scope f cdv A outer s H E) [] σ' H' s'->RelV v u->Q v H'->CE outer P w H s Q u s' :=
  fun {σ' H' v u} J rv q=>⟨v,H',J.os,J.bare,J.base,J.hok,rv,q⟩
 cases fl with
 | ret u =>
  obtain ⟨v,σ',H',J,rv,q⟩:=hs
  exact fin J rv q
 | next =>
  obtain ⟨σ',H',J,q⟩:=hs
  exact fin (v:=V.non) (u:=Value.none) J rfl q
 | brk =>
  obtain ⟨_,_,_,q⟩:=hs
  exact False.elim q
 | cont =>
  obtain ⟨_,_,_,q⟩:=hs
  exact False.elim q
section
variable {X:Cx}{x:Str}{p pos:Pos}{e:Expr}{es:List Expr}{t:TA}{id T:String}{r:List V->Hp->VK->Prop}
def tCB (r:List V->Hp->VK->Prop)(t:TA):TE:=fun σ H Q=>t σ H fun vs H1=>r vs H1 Q
theorem aR (hc:kD X (.builtin id) r)(hg:Gl X x)(hm:X.mg x=none)(hv:bootBuiltins x=some (.builtin id))(ha:PA X (e::es) t)(hn:x≠"__name__":=by decide)(hdb:(x == ("__debug__":Str))=false:=by decide)(he:starEach (e::es) X.env=(false,eval e X.env)::starEach es X.env:=by rfl)(hpl:(backTo pos (starEach es X.env)).any (·.1)=false:=by rfl):PE X (.Call (.Name x p) (e::es) [] pos) (tCB r t):=by
 intro pins s σ H Q I h
 refine wpAny_Call_Name_kw (AL7 I hg hm hv ?_ hn hdb)
 exact PyProof.Rows.callWith_builtin1 (thn (ha pos pins s σ H _ I h) fun us s1 ⟨vs,H1,I1,r1,q1⟩=>hc pins s1 σ H1 vs us Q I1 r1 q1) he hpl
theorem bE (hc:kD X (.type T) r)(hg:Gl X x)(hm:X.mg x=none)(hv:bootBuiltins x=some (.type T))(ha:PA X (e::es) t)(hn:x≠"__name__":=by decide)(hdb:(x == ("__debug__":Str))=false:=by decide)(he:starEach (e::es) X.env=(false,eval e X.env)::starEach es X.env:=by rfl)(hpl:(backTo pos (starEach es X.env)).any (·.1)=false:=by rfl):PE X (.Call (.Name x p) (e::es) [] pos) (tCB r t):=by
 intro pins s σ H Q I h
 refine wpAny_Call_Name_kw (AL7 I hg hm hv ?_ hn hdb)
 exact PyProof.Rows.callWith_type1 (thn (ha pos pins s σ H _ I h) fun us s1 ⟨vs,H1,I1,r1,q1⟩=>hc pins s1 σ H1 vs us Q I1 r1 q1) he hpl
end
end L2
namespace HT
open PySem PyProof.Rows PySem.W
section
open PySem.SeqAt
open PySem.AutoSeq1 (wpAny_loadPart')
open PySem.MeetsSeq PySem.MeetsSeq2 PySem.MeetsSeq3
end
section
variable {prog:Program}{w:World}{A:Around}{E:Value->Shared->Prop}{s:Shared}
def sIx (n d:Nat):Option Int->Nat
 | none=>d
 | some v=>if v < 0 then (v+(n:Int)).toNat else min v.toNat n
theorem sIx_nat (n d k:Nat):sIx n d (some (k:Int))=min k n:=by
 show (if (k:Int) < 0 then ((k:Int)+(n:Int)).toNat else min (k:Int).toNat n)=min k n
 rw [if_neg (by omega),Int.toNat_natCast]
end
end HT
namespace L2
open PySem PySem.Spec PyProof.Rows PySem.W
abbrev TO:=St->Hp->(Option Int->Hp->Prop)->Prop
def PO (X:Cx)(e:Option Expr)(t:TO):Prop :=
 ∀ (pins:List (Addr × Obj)) (s:Shared) (σ:St) (H:Hp) (Q:Option Int->Hp->Prop),Inv X pins σ H s->t σ H Q ->
  wpAny (model X.prog X.w) X.A (evalPart e X.env) (fun u s'=>∃ o H',Inv X pins σ H' s'/\IsPart u o/\Q o H') X.xe s
def AU7:TO:=fun _ H Q=>Q none H
def BX2 (t:TE):TO:=fun σ H Q=>t σ H fun x H1=>isI x fun i=>Q (some i) H1
section
variable {X:Cx}{e:Expr}{te:TE}{lo hi:Option Expr}{tl th:TO}{pos p2:Pos}
theorem oE:PO X none AU7:=by
 intro pins s σ H Q I h
 rw [evalPart_none]
 exact wpAny_pure ⟨none,H,I,.none,h⟩
theorem kQ (h:PE X e te):PO X (some e) (BX2 te):=by
 intro pins s σ H Q I hw
 rw [evalPart_some]
 refine thn (h pins s σ H _ I hw) fun u s1 ⟨x,H1,I1,r1,q1⟩=>?_
 obtain ⟨i,rfl,q⟩:=isI.ex q1
 obtain ⟨t,rfl⟩:=r1
 exact ⟨some i,H1,I1,.int i t,q⟩
def SlR (X:Cx)(r:V->Option Int->Option Int->Hp->VK->Prop):Prop :=
 ∀ (pins:List (Addr × Obj)) (s:Shared) (σ:St) (H:Hp) (x:V) (v vl vu:Value) (lo hi:Option Int) (sl:Addr) (Q:VK),Inv X pins σ H s->RelV x v->s.heap.IsSliceOf sl vl vu .none->IsPart vl lo->IsPart vu hi->r x lo hi H Q ->
  ∃ T id,typeLookup (.type T) "__getitem__"=pure (some (.builtin id))/\s.TypeIs v T/\wpAny (model X.prog X.w) X.A (getItem v (.ref sl)) (EP X pins σ Q) X.xe s
def tSl (r:V->Option Int->Option Int->Hp->VK->Prop)(te:TE)(tl th:TO):TE:=fun σ H Q=>te σ H fun x H1=>tl σ H1 fun l H2=>th σ H2 fun u H3=>r x l u H3 Q
theorem jJ {r:V->Option Int->Option Int->Hp->VK->Prop}(hr:SlR X r)(he:PE X e te)(hl:PO X lo tl)(hu:PO X hi th):PE X (.Subscript e (.Slice lo hi none p2) pos) (tSl r te tl th):=by
 intro pins s σ H Q I h
 refine Subscript_ (thn (he pins s σ H _ I h) fun v s1 ⟨x,H1,I1,r1,q1⟩=>?_)
 refine wpAny_Slice (thn (hl pins s1 σ H1 _ I1 q1) fun vl s2 ⟨l,H2,I2,pl,q2⟩=>thn (hu pins s2 σ H2 _ I2 q2) fun vu s3 ⟨u,H3,I3,pu,q3⟩=>?_)
 rw [evalPart_none]
 refine wpAny_pure ?_
 have I4:Inv X pins σ H3 { s3 with heap:=s3.heap.push { cls:=.type "slice",data:=.fields #[vl,vu,.none] } }:=I3.kept (t':=s3.toks) fun b ob q=>Heap.get?_push_of_some _ q
 obtain ⟨T,id,hT,ht,hg⟩:=hr pins { s3 with heap:=s3.heap.push { cls:=.type "slice",data:=.fields #[vl,vu,.none] } } σ H3 x v vl vu l u s3.heap.objs.size Q I4 r1 (Heap.IsSliceOf.new ..) pl pu q3
 show wpAny (model X.prog X.w) X.A (subscriptTail e (.Slice lo hi none p2) v (.ref s3.heap.objs.size)) (EP X pins σ Q) X.xe { s3 with heap:=s3.heap.push { cls:=.type "slice",data:=.fields #[vl,vu,.none] } }
 exact tail_any (ops:=[.ref s3.heap.objs.size,v]) ht hT hg (by with_unfolding_all rfl)
def BK7 (xs:List V)(lo hi:Option Int):List V:=(xs.drop (HT.sIx xs.length 0 lo)).take (HT.sIx xs.length xs.length hi - HT.sIx xs.length 0 lo)
theorem AG2 (xs:List V)(lo hi:Option Int):(BK7 xs lo hi).length<=xs.length:=by
 unfold BK7
 rw [List.length_take,List.length_drop]
 omega
end
def ixN (n:Nat)(i:Int):Option Nat:=if 0<=i then (if i < n then some i.toNat else none) else if -(n:Int)<=i then some (i+n).toNat else none
def atI {α:Type}(xs:List α)(i:Int):Option α:=(ixN xs.length i).bind fun j=>xs[j]?
theorem AU8 {n:Nat}{i:Int}{j:Nat}(h:ixN n i=some j):seqIndex? i n=some j/\j < n/\-(n:Int)<=i/\i < n:=by
 unfold ixN at h
 by_cases h0:0<=i
 ·rw [if_pos h0] at h
  by_cases h1:i < n
  ·rw [if_pos h1] at h
   have e:i.toNat=j:=Option.some.inj h
   exact ⟨by rw [seqIndex_of h0 h1,e],by omega,by omega,h1⟩
  ·rw [if_neg h1] at h; cases h
 ·rw [if_neg h0] at h
  by_cases h1:-(n:Int)<=i
  ·rw [if_pos h1] at h
   have e:(i+n).toNat=j:=Option.some.inj h
   exact ⟨by rw [seqIndex_neg (by omega) h1,e],by omega,h1,by omega⟩
  ·rw [if_neg h1] at h; cases h
theorem AG3 {α:Type}{xs:List α}{i:Int}{v:α}(h:atI xs i=some v):∃ j,seqIndex? i xs.length=some j/\xs[j]?=some v/\j < xs.length/\-(xs.length:Int)<=i/\i < xs.length:=by
 unfold atI at h
 cases e:ixN xs.length i with
 | none=>rw [e] at h; cases h
 | some j =>
  rw [e] at h
  obtain ⟨h1,h2,h3,h4⟩:=AU8 e
  exact ⟨j,h1,h,h2,h3,h4⟩
theorem mG {α:Type}{xs:List α}{j:Nat}{v:α}(h:xs[j]?=some v):atI xs (j:Int)=some v:=by
 have hj:j < xs.length:=(List.getElem?_eq_some_iff.mp h).1
 have e:ixN xs.length (j:Int)=some j:=by
  unfold ixN
  rw [if_pos (by omega),if_pos (by omega)]; simp
 unfold atI; rw [e]; exact h
def AU9 (b:Expr):Prop:=∀ o i,subscripted b false o i=operate [o,i] (getItem o i)
def IxR (X:Cx)(r:R2):Prop :=
 ∀ (value slice:Expr) (pins:List (Addr × Obj)) (s:Shared) (σ:St) (H:Hp) (x y:V) (v u:Value) (Q:VK),Inv X pins σ H s->RelV x v->RelV y u->r x y H Q ->
  subscripted slice false v u=operate [v,u] (getItem v u)->wpAny (model X.prog X.w) X.A (subscriptTail value slice v u) (EP X pins σ Q) X.xe s
def MtR (X:Cx)(id:String)(r:V->List V->Hp->VK->Prop):Prop :=
 ∀ (pins:List (Addr × Obj)) (s:Shared) (σ:St) (H:Hp) (x:V) (xs:List V) (v:Value) (us:List Value) (Q:VK),Inv X pins σ H s->RelV x v->Vals xs us->r x xs H Q ->
  wpAny (model X.prog X.w) X.A (call (.builtin id) (v::us)) (EP X pins σ Q) X.xe s
section
variable {X:Cx}{a b:Expr}{ta tb:TE}{pos:Pos}
theorem bL {r:R2}(hr:IxR X r)(ha:PE X a ta)(hb:PE X b tb)(hs:AU9 b):PE X (.Subscript a b pos) (tOp r ta tb):=by
 intro pins s σ H Q I h
 exact Subscript_ (CC5 ha hb I h fun v u s2 x y H2 I2 rx ry q=>hr a b pins s2 σ H2 x y v u Q I2 rx ry q (hs _ _))
def CC9 (K:Frag):R2:=fun x y H Q=>∃ p xs i v,x=.ref p/\y=.int i/\SqL K H p xs/\atI xs i=some v/\Q v H
def CD0 (K:Frag):R2:=fun x y H Q=>∃ p xs i v,x=.ref p/\y=.int i/\SqT K H p xs/\atI xs i=some v/\Q v H
def CJ1:R2:=fun x y H Q=>∃ z i c,x=.str z/\y=.int i/\z.length<=sizeLine/\atI z.cps.toList i=some c/\Q (.str ⟨#[c]⟩) H
theorem cX:IxR X (CC9 X.K):=by
 intro value slice pins s σ H x y v u Q I rx ry h hs
 obtain ⟨p,xs,i,z,rfl,rfl,hq,he,q⟩:=h
 cases rx
 obtain ⟨t,rfl⟩:=ry
 obtain ⟨its,r,pl,hz⟩:=I.list hq
 obtain ⟨j,h1,h2,h3,h4,h5⟩:=AG3 he
 obtain ⟨w,ew,rw'⟩:=r.get h2
 have hl:=r.length
 have hn:=xF
 have fin:EP X pins σ Q w s:=⟨z,H,I,rw',q⟩
 by_cases h0:0<=i
 ·have hj:i.toNat=j:=by
   rw [seqIndex_of h0 h5] at h1
   exact Option.some.inj h1
  exact item_listR pl.isList h0 (by omega) (by rw [hj]; simpa using ew) fin hs
 ·have hj:(i+(its.toArray.size:Int)).toNat=j:=by
   rw [seqIndex_neg (by omega) h4] at h1
   rw [List.size_toArray,<- hl]
   exact Option.some.inj h1
  exact subscriptTail_builtinR (x:=w) pl.isList.typeIs slot_list_getitem.lookup
   (wpAny_getItem_list_neg (Q:=fun r s'=>r=w/\EP X pins σ Q r s') pl.isList (by omega) (by rw [List.size_toArray] <;> omega) (by omega) (by rw [hj]; simpa using ew) ⟨rfl,fin⟩) hs
theorem bJ:IxR X (CD0 X.K):=by
 intro value slice pins s σ H x y v u Q I rx ry h hs
 obtain ⟨p,xs,i,z,rfl,rfl,hq,he,q⟩:=h
 cases rx
 obtain ⟨t,rfl⟩:=ry
 obtain ⟨its,r,pl,hz⟩:=I.tuple hq
 obtain ⟨j,h1,h2,h3,h4,h5⟩:=AG3 he
 obtain ⟨w,ew,rw'⟩:=r.get h2
 have hl:=r.length
 have hn:=xF
 have fin:EP X pins σ Q w s:=⟨z,H,I,rw',q⟩
 exact subscriptTail_builtinR (x:=w) pl.typeIs slot_tuple_getitem.lookup
  (getItem_tuple (j:=j) (Q:=fun r s'=>r=w/\EP X pins σ Q r s') pl (by omega) (by omega) (by rw [List.size_toArray,<- hl]; exact h1) (by simpa using ew) ⟨rfl,fin⟩) hs
theorem BK8:IxR X CJ1:=by
 intro value slice pins s σ H x y v u Q I rx ry h hs
 obtain ⟨z,i,c,rfl,rfl,hz,he,q⟩:=h
 obtain ⟨t,rfl⟩:=rx
 obtain ⟨t',rfl⟩:=ry
 obtain ⟨j,h1,h2,h3,h4,h5⟩:=AG3 he
 have hl:z.cps.toList.length=z.length:=by simp [Str.length]
 rw [hl] at h1 h4 h5
 have hn:=xF
 exact tail_any (typeIs_str s z t) slot_str_getitem.lookup (getItem_str (c:=c) (by
  have e1:decide (i < -(2 ^ 63:Int))=false:=decide_eq_false (by omega)
  have e2:decide (i >= 2 ^ 63)=false:=decide_eq_false (by omega)
  rw [e1,e2,Bool.or_false]) (by rw [h1]; simpa using h2) ⟨.str ⟨#[c]⟩,H,I.tok _,⟨_,rfl⟩,q⟩) hs
theorem AP3 (its:List Value)(n j:Nat)(u:Value):Obj.mapSeq (·.setIfInBounds j u) { cls:=.type "list",data:=.seq its.toArray n }={ cls:=.type "list",data:=.seq (its.set j u).toArray n }:=by
 simp [Obj.mapSeq]
theorem Inv.lst {pins:List (Addr × Obj)}{σ:St}{H:Hp}{s:Shared}{p:Addr}{xs:List V}(I:Inv X pins σ H s)(h:H p=some (.lst xs)) :
  ∃ (its:List Value) (n:Nat),Vals xs its/\s.heap.get? p=some { cls:=.type "list",data:=.seq its.toArray n }/\xs.length<=sizeLine:=by
 obtain ⟨z,its,n,r,e⟩:=I.hok p _ h
 exact ⟨its,n,r,e,z⟩
theorem Inv.lstUpd {pins:List (Addr × Obj)}{σ:St}{H:Hp}{s:Shared}{p:Addr}{xs ys:List V}{its its':List Value}{n n':Nat}{f:Obj->Obj}(I:Inv X pins σ H s)(h:H p=some (.lst xs))(ho:s.heap.get? p=some { cls:=.type "list",data:=.seq its.toArray n })(hf:f { cls:=.type "list",data:=.seq its.toArray n }={ cls:=.type "list",data:=.seq its'.toArray n' })(r:Vals ys its')(hz:ys.length<=sizeLine)(t:Nat) :
  Inv X pins σ (upd H p (.lst ys)) { s with heap:=s.heap.update p f,toks:=t }:=by
 have e:(s.heap.update p f).get? p=some { cls:=.type "list",data:=.seq its'.toArray n' }:=by
  rw [Heap.get?_update_self f ho (by rw [hf] <;> rfl),hf]
 refine I.write (x:=p) (e:=p) (by rw [h]; trivial) (.inl rfl) (fun b u hb q=>(Heap.get?_update_other _ _ (Ne.symm hb)).trans q) ⟨_,e⟩ ?_
 exact ⟨hz,its',n',r,e⟩
def BX3:V->V->V->Hp->(Hp->Prop)->Prop:=fun o i v H Q=>∃ p xs k j,o=.ref p/\i=.int k/\H p=some (.lst xs)/\ixN xs.length k=some j/\Q (upd H p (.lst (xs.set j v)))
theorem AM3:CI2 X BX3:=by
 intro pins s σ H o i v ov iv u Q I ro ri rv h
 obtain ⟨p,xs,k,j,rfl,rfl,hp,hj,q⟩:=h
 cases ro
 obtain ⟨t,rfl⟩:=ri
 obtain ⟨its,n,r,ho,hz⟩:=I.lst hp
 obtain ⟨h1,h2,h3,h4⟩:=AU8 hj
 have hl:=r.length
 have hn:=xF
 have I':Inv X pins σ (upd H p (.lst (xs.set j v))) { s with heap:=s.heap.update p (Obj.mapSeq (·.setIfInBounds j u)) } :=
  I.lstUpd hp ho (AP3 its n j u) (r.set rv j) (by rw [List.length_set]; exact hz) s.toks
 by_cases h0:0<=k
 ·have hk:k.toNat=j:=by
   rw [seqIndex_of h0 h4] at h1
   exact Option.some.inj h1
  exact ki_setAt ho h0 (by omega) (by rw [List.size_toArray,<- hl]; exact h4) (by rw [hk]; exact ⟨_,I',q⟩)
 ·have hk:(k+(its.toArray.size:Int)).toNat=j:=by
   rw [seqIndex_neg (by omega) h3] at h1
   rw [List.size_toArray,<- hl]
   exact Option.some.inj h1
  exact ki_setBack ho (by omega) (by rw [List.size_toArray,<- hl]; exact h3) (by omega) (by rw [hk]; exact ⟨_,I',q⟩)
theorem AB1 (lo hi:Option Int)(n:Nat):(sliceBounds lo hi none n).1=((HT.sIx n 0 lo:Nat):Int)/\(sliceBounds lo hi none n).2.1=((HT.sIx n n hi:Nat):Int)/\(sliceBounds lo hi none n).2.2=1:=by
 refine ⟨?_,?_,rfl⟩
 ·cases lo with
  | none=>simp [sliceBounds,HT.sIx]
  | some i =>
   simp only [sliceBounds,HT.sIx,Option.getD_none,show (1:Int) > 0 by decide,if_true]
   by_cases h:i < 0
   ·simp only [h,if_true] <;> omega
   ·simp only [h,if_false] <;> omega
 ·cases hi with
  | none=>simp [sliceBounds,HT.sIx]
  | some i =>
   simp only [sliceBounds,HT.sIx,Option.getD_none,show (1:Int) > 0 by decide,if_true]
   by_cases h:i < 0
   ·simp only [h,if_true] <;> omega
   ·simp only [h,if_false] <;> omega
theorem yH (its:List Value)(lo hi:Option Int):slicePick its.toArray lo hi none=((its.drop (HT.sIx its.length 0 lo)).take (HT.sIx its.length its.length hi - HT.sIx its.length 0 lo)).toArray:=by
 obtain ⟨h1,h2,h3⟩:=AB1 lo hi its.toArray.size
 unfold slicePick
 rw [h1,h2,h3]
 simp only [sliceRange_one,pick_run,List.size_toArray] <;> rfl
def CK7 (K:Frag):V->Option Int->Option Int->Hp->VK->Prop:=fun x lo hi H Q=>∃ a xs,x=.ref a/\SqL K H a xs/\∀ p,H p=none->Q (.ref p) (upd H p (.lst (BK7 xs lo hi)))
theorem AV0:SlR X (CK7 X.K):=by
 intro pins s σ H x v vl vu lo hi sl Q I rx hs pl pu h
 obtain ⟨a,xs,rfl,hx,q⟩:=h
 cases rx
 obtain ⟨its,r,ht,hz⟩:=I.list hx
 have hlen:=r.length
 refine ⟨"list",_,slot_list_getitem.lookup,ht.isList.typeIs,?_⟩
 refine wpAny_getItem_list_slice ht.isList hs pl pu .none (by simp) ?_ (by rw [List.size_toArray] <;> omega)
 rw [yH,<- hlen]
 refine ⟨.ref s.heap.objs.size,_,I.laid (t':=s.toks) (o:=.lst (BK7 xs lo hi)) (fun b ob q=>Heap.get?_push_of_some _ q) (Nat.le_refl _) ?_,rfl,q _ (I.hok.fresh (Nat.le_refl _))⟩
 exact ⟨Nat.le_trans (AG2 xs lo hi) hz,_,0,(r.drop (HT.sIx xs.length 0 lo)).take (HT.sIx xs.length xs.length hi - HT.sIx xs.length 0 lo),Heap.get?_push_size _ rfl⟩
def yI:V->Bool
 | .non=>true
 | .bl _=>true
 | .int _=>true
 | .str _=>true
 | _=>false
def eqV:V->V->Bool
 | .non,.non=>true
 | .bl a,.bl b=>a == b
 | .bl a,.int b=>(if a then 1 else 0) == b
 | .int a,.bl b=>a == (if b then 1 else 0)
 | .int a,.int b=>a == b
 | .str a,.str b=>a == b
 | _,_=>false
theorem BX4 {A:Around}{s:Shared}{y x:V}{u v:Value}(ry:RelV y u)(rx:RelV x v)(fy:yI y=true)(fx:yI x=true):SeqAt.EqAt A s u v (eqV y x):=by
 cases y with
 | non =>
  cases ry
  cases x with
  | non=>cases rx; exact SeqAt.EqAt.same _
  | bl b=>cases rx; exact SeqAt.EqAt.none_bool b
  | int b=>obtain ⟨t,rfl⟩:=rx; exact SeqAt.EqAt.none_int b t
  | str b=>obtain ⟨t,rfl⟩:=rx; exact SeqAt.EqAt.none_str b t
  | _=>exact absurd (show false=true from fx) Bool.false_ne_true
 | bl a =>
  cases ry
  cases x with
  | non=>cases rx; exact SeqAt.EqAt.bool_none a
  | bl b=>cases rx; exact SeqAt.EqAt.bool_bool a b
  | int b=>obtain ⟨t,rfl⟩:=rx; exact SeqAt.EqAt.bool_int a b t
  | str b=>obtain ⟨t,rfl⟩:=rx; exact SeqAt.EqAt.bool_str a b t
  | _=>exact absurd (show false=true from fx) Bool.false_ne_true
 | int a =>
  obtain ⟨t',rfl⟩:=ry
  cases x with
  | non=>cases rx; exact SeqAt.EqAt.int_none a t'
  | bl b=>cases rx; exact SeqAt.EqAt.int_bool a t' b
  | int b=>obtain ⟨t,rfl⟩:=rx; exact SeqAt.EqAt.int_int a t' b t
  | str b=>obtain ⟨t,rfl⟩:=rx; exact SeqAt.EqAt.int_str a t' b t
  | _=>exact absurd (show false=true from fx) Bool.false_ne_true
 | str a =>
  obtain ⟨t',rfl⟩:=ry
  cases x with
  | non=>cases rx; exact SeqAt.EqAt.str_none a t'
  | bl b=>cases rx; exact SeqAt.EqAt.str_bool a t' b
  | int b=>obtain ⟨t,rfl⟩:=rx; exact SeqAt.EqAt.str_int a t' b t
  | str b=>obtain ⟨t,rfl⟩:=rx; exact SeqAt.EqAt.str_str a t' b t
  | _=>exact absurd (show false=true from fx) Bool.false_ne_true
 | _=>exact absurd (show false=true from fy) Bool.false_ne_true
def eqU (x:V)(u:Value):Bool:=match u with
 | .none=>eqV .non x
 | .bool b=>eqV (.bl b) x
 | .int i _=>eqV (.int i) x
 | .str z _=>eqV (.str z) x
 | _=>false
theorem BK9 {x y:V}{u:Value}(r:RelV y u)(f:yI y=true):eqU x u=eqV y x:=by
 cases y with
 | non=>cases r; rfl
 | bl b=>cases r; rfl
 | int i=>obtain ⟨t,rfl⟩:=r; rfl
 | str z=>obtain ⟨t,rfl⟩:=r; rfl
 | _=>exact absurd (show false=true from f) Bool.false_ne_true
theorem AG4 {x:V}:∀ {xs:List V}{us:List Value},Vals xs us->xs.all yI=true->us.any (eqU x)=xs.any fun y=>eqV y x
 | _,_,.nil,_=>rfl
 | y::xs,u::us,.cons r t,f=>by
  rw [List.all_cons,Bool.and_eq_true] at f
  rw [List.any_cons,List.any_cons,BK9 r f.1,AG4 t f.2]
theorem yJ {A:Around}{s:Shared}{x:V}{v:Value}(rx:RelV x v)(fx:yI x=true):∀ {xs:List V}{us:List Value},Vals xs us->xs.all yI=true->∀ u∈us,SeqAt.EqAt A s u v (eqU x u)
 | _,_,.nil,_=>fun u hu=>by cases hu
 | y::xs,u::us,.cons r t,f=>fun u' hu=>by
  rw [List.all_cons,Bool.and_eq_true] at f
  rcases List.mem_cons.mp hu with rfl | hu
  ·rw [BK9 r f.1]; exact BX4 r rx f.1 fx
  ·exact yJ rx fx t f.2 u' hu
def inV (x:V)(xs:List V):Bool:=xs.any fun y=>eqV y x
def rIn (K:Frag)(neg:Bool):R2:=fun x y H Q=>∃ p xs,y=.ref p/\(SqL K H p xs\/SqT K H p xs)/\yI x=true/\xs.all yI=true/\Q (.bl (if neg then !inV x xs else inV x xs)) H
theorem jK:OpR X (compareOp .NotIn) (rIn X.K true):=by
 intro pins s σ H x y v u Q I rx ry h
 obtain ⟨p,xs,rfl,hq,fx,fs,q⟩:=h
 cases ry
 rcases hq with hq | hq
 ·obtain ⟨its,r,pl,hz⟩:=I.list hq
  refine SeqAt.notIn_listAt (eqU x) pl.isList (fun w hw=>yJ rx fx r fs w (by simpa using hw)) ⟨.bl _,H,I,rfl,?_⟩
  rw [show its.toArray.any (eqU x)=its.any (eqU x) by simp,AG4 r fs]
  exact q
 ·obtain ⟨its,r,pl,hz⟩:=I.tuple hq
  refine SeqAt.notIn_tupleAt (eqU x) pl (fun w hw=>yJ rx fx r fs w (by simpa using hw)) ⟨.bl _,H,I,rfl,?_⟩
  rw [show its.toArray.any (eqU x)=its.any (eqU x) by simp,AG4 r fs]
  exact q
theorem bR:kD X (.builtin "len") (fun xs H Q=>∃ p ys,xs=[.ref p]/\(SqL X.K H p ys\/SqT X.K H p ys)/\Q (.int ys.length) H):=by
 intro pins s σ H xs us Q I r h
 obtain ⟨p,ys,rfl,hq,q⟩:=h
 obtain ⟨u,rfl,rx⟩:=wQ r
 cases rx
 have hn:=xF
 rcases hq with hq | hq
 ·obtain ⟨its,r',pl,hz⟩:=I.list hq
  have hlen:=r'.length
  exact Calls.call_len_list pl.isList (by simp only [List.size_toArray] <;> omega) ⟨.int ys.length,H,I.tok _,⟨s.toks+1,by rw [List.size_toArray,hlen]⟩,q⟩
 ·obtain ⟨its,r',pl,hz⟩:=I.tuple hq
  have hlen:=r'.length
  exact len_tuple pl (by simp only [List.size_toArray] <;> omega) ⟨.int ys.length,H,I.tok _,⟨s.toks+1,by rw [List.size_toArray,hlen]⟩,q⟩
theorem eV:kD X (.builtin "len") (fun xs H Q=>∃ z,xs=[.str z]/\z.length<=sizeLine/\Q (.int z.length) H):=by
 intro pins s σ H xs us Q I r h
 obtain ⟨z,rfl,hz,q⟩:=h
 obtain ⟨u,rfl,t,rfl⟩:=wQ r
 have hn:=xF
 exact len_str (by omega) ⟨.int z.length,H,I.tok _,⟨_,rfl⟩,q⟩
theorem cF:kD X (.type "list") (fun xs H Q=>∃ p ys,xs=[.ref p]/\(SqL X.K H p ys\/SqT X.K H p ys)/\∀ l,H l=none->Q (.ref l) (upd H l (.lst ys))):=by
 intro pins s σ H xs us Q I r h
 obtain ⟨p,ys,rfl,hq,q⟩:=h
 obtain ⟨u,rfl,rx⟩:=wQ r
 cases rx
 have fin:∀ (its:List Value),Vals ys its->ys.length<=sizeLine->∀ (h':Heap) (c':Nat),(∀ b o',s.heap.get? b=some o'->h'.get? b=some o') ->
   h'.get? s.heap.objs.size=some { cls:=.type "list",dict:=none,data:=.seq its.toArray c',slots:=#[] }->EP X pins σ Q (.ref s.heap.objs.size) { s with heap:=h' }:=fun its r' hz h' c' kp e =>
  ⟨.ref s.heap.objs.size,_,I.laid (t':=s.toks) kp (Nat.le_refl _) (show ObjOk X.prog X.w _ h' _ (.lst ys) from ⟨hz,its,c',r',e⟩),rfl,q _ (I.hok.fresh (Nat.le_refl _))⟩
 rcases hq with hq | hq
 ·obtain ⟨its,r',pl,hz⟩:=I.list hq
  have hlen:=r'.length
  obtain ⟨o,ho,hc,n,hd⟩:=pl.isList
  exact call_list_seq p (.inl rfl) ho hc hd (fun h' c' kp e=>fin its r' hz h' c' kp e) (by simp only [List.size_toArray] <;> omega)
 ·obtain ⟨its,r',pl,hz⟩:=I.tuple hq
  have hlen:=r'.length
  obtain ⟨o,ho,hc,n,hd⟩:=pl
  exact call_list_seq p (.inr rfl) ho hc hd (fun h' c' kp e=>fin its r' hz h' c' kp e) (by simp only [List.size_toArray] <;> omega)
theorem kR:kD X (.type "tuple") (fun xs H Q=>∃ p ys,xs=[.ref p]/\((SqL X.K H p ys/\∀ l,H l=none->Q (.ref l) (upd H l (.tup ys)))\/(SqT X.K H p ys/\Q (.ref p) H))):=by
 intro pins s σ H xs us Q I r h
 obtain ⟨p,ys,rfl,h⟩:=h
 obtain ⟨u,rfl,rx⟩:=wQ r
 cases rx
 rcases h with ⟨hq,q⟩ | ⟨hq,q⟩
 ·obtain ⟨its,r',pl,hz⟩:=I.list hq
  have hlen:=r'.length
  refine call_tuple_list pl.isList (fun h' kp=>?_) (by simp only [List.size_toArray] <;> omega)
  have I1:Inv X pins σ H { s with heap:=h' }:=I.kept (t':=s.toks) kp
  have I2:Inv X pins σ (upd H h'.objs.size (.tup ys)) { s with heap:=h'.push { cls:=.type "tuple",data:=.seq its.toArray } } :=
   I1.laid (t':=s.toks) (fun b o e=>Heap.get?_push_of_some _ e) (Nat.le_refl _) (show ObjOk X.prog X.w _ _ _ (.tup ys) from ⟨hz,its,r',IsTup.new _ _⟩)
  exact ⟨.ref h'.objs.size,_,I2,rfl,q _ (I1.hok.fresh (Nat.le_refl _))⟩
 ·obtain ⟨its,r',pl,hz⟩:=I.tuple hq
  exact call_tuple_same pl ⟨.ref p,H,I,rfl,q⟩
def tyV (K:Frag)(T:String)(x:V)(H:Hp):Prop:=match x with
 | .str _=>T="str"
 | .int _=>T="int"
 | .ref p=>(T="list"/\∃ xs,SqL K H p xs)\/(T="tuple"/\∃ o,K.lookup p=some o/\o.cls=.type "tuple"/\o.dict=none) \/
   (T="dict"/\((∃ kvs,H p=some (.dK kvs))\/∃ kvs,H p=some (.dT kvs)))\/(T="set"/\∃ S n,H p=some (.set S n))
 | _=>False
theorem BL0 {pins:List (Addr × Obj)}{σ:St}{H:Hp}{s:Shared}{T:String}{x:V}{v:Value}(I:Inv X pins σ H s)(r:RelV x v)(ty:tyV X.K T x H) :
  s.TypeIs v T/\∀ a,v=.ref a->∃ ob,s.heap.get? a=some ob/\ob.dict=none:=by
 cases x with
 | str z =>
  obtain ⟨t,rfl⟩:=r
  cases (show T="str" from ty)
  exact ⟨typeIs_str s z t,fun _ e=>nomatch e⟩
 | int i =>
  obtain ⟨t,rfl⟩:=r
  cases (show T="int" from ty)
  exact ⟨typeIs_int s i t,fun _ e=>nomatch e⟩
 | ref p =>
  cases r
  rcases ty with ⟨rfl,xs,hq⟩ | ⟨rfl,o,hk,hc,hd⟩ | ⟨rfl,hk⟩ | ⟨rfl,S,n,hk⟩
  ·obtain ⟨its,_,pl,_⟩:=I.list hq
   refine ⟨pl.isList.typeIs,fun a e=>?_⟩
   cases e
   obtain ⟨o,n,e,c,hd,_⟩:=pl
   exact ⟨o,e,hd⟩
  ·refine ⟨⟨o,I.kIn p o hk,hc⟩,fun a e=>?_⟩
   cases e
   exact ⟨o,I.kIn _ o hk,hd⟩
  ·have z:∃ o,s.heap.get? p=some o/\o.ExactDict:=by
    rcases hk with ⟨kvs,hk⟩ | ⟨kvs,hk⟩
    ·obtain ⟨_,_,_,_,o,_,_,e,ex,_⟩:=I.hok p _ hk
     exact ⟨o,e,ex⟩
    ·obtain ⟨_,_,_,_,o,_,_,e,ex,_⟩:=I.hok p _ hk
     exact ⟨o,e,ex⟩
   obtain ⟨o,e,ex⟩:=z
   refine ⟨⟨o,e,ex.1⟩,fun a e2=>?_⟩
   cases e2
   exact ⟨o,e,ex.2.1⟩
  ·obtain ⟨o,_,_,_,e,ex,_⟩:=I.hok p _ hk
   refine ⟨⟨o,e,ex.1⟩,fun a e2=>?_⟩
   cases e2
   exact ⟨o,e,ex.2.1⟩
 | _=>exact False.elim ty
def CJ2 (K:Frag)(T:String)(r:V->List V->Hp->VK->Prop)(to:TE):TE:=fun σ H Q=>to σ H fun x H1=>tyV K T x H1/\r x [] H1 Q
def tBM (K:Frag)(T:String)(r:V->List V->Hp->VK->Prop)(to:TE)(t:TA):TE:=fun σ H Q=>to σ H fun x H1=>tyV K T x H1/\t σ H1 fun xs H2=>r x xs H2 Q
variable {o e:Expr}{es:List Expr}{to:TE}{t:TA}{name:Str}{apos cpos:Pos}{T id:String}{r:V->List V->Hp->VK->Prop}
theorem BL1 (pa:PlainAttrs T)(slot:Slot T name id)(hty:typeOf (.builtin id)=pure (.type "method_descriptor"))(hm:MtR X id r)(ho:PE X o to)(hbase:attributeBase o name X.env (eval o X.env)=eval o X.env:=by rfl)(hline:(apos.endLine == cpos.line)=true:=by rfl):PE X (.Call (.Attribute o name apos) [] [] cpos) (CJ2 X.K T r to):=by
 intro pins s σ H Q I h
 refine wpAny_Call_method0_late hbase hline (thn (ho pins s σ H _ I h) fun v s1 ⟨x,H1,I1,r1,ty,q1⟩=>?_)
 obtain ⟨h1,h2⟩:=BL0 I1 r1 ty
 exact ⟨T,id,pa,slot,hty,h1,h2,Calls.callWith_builtin rfl (PySem.evalArgs_none (hm pins s1 σ H1 x [] v [] Q I1 r1 .nil q1))⟩
theorem gK (pa:PlainAttrs T)(slot:Slot T name id)(hty:typeOf (.builtin id)=pure (.type "method_descriptor"))(hm:MtR X id r)(ho:PE X o to)(ha:PA X (e::es) t)(hbase:attributeBase o name X.env (eval o X.env)=eval o X.env:=by rfl)(hfew:((backTo cpos (starEach (e::es) X.env)).all (fun x=>!x.1) && (backToKw cpos (keywordEach [] X.env)).all (fun x=>x.1.isSome)
   && decide ((e::es).length+([]:List Keyword).length+(if ([]:List Keyword).isEmpty then 0 else 1) < 30))=true:=by rfl)(hline:(apos.endLine == cpos.line)=true:=by rfl)(hs:starEach (e::es) X.env=(false,eval e X.env)::starEach es X.env:=by rfl)(hplain:(backTo cpos (starEach es X.env)).any (·.1)=false:=by rfl) :
  PE X (.Call (.Attribute o name apos) (e::es) [] cpos) (tBM X.K T r to t):=by
 intro pins s σ H Q I h
 refine wpAny_Call_method_late hbase hfew hline rfl (thn (ho pins s σ H _ I h) fun v s1 ⟨x,H1,I1,r1,ty,q1⟩=>?_)
 obtain ⟨h1,h2⟩:=BL0 I1 r1 ty
 refine ⟨T,id,pa,slot,hty,h1,h2,?_⟩
 have hA:=ha cpos pins s1 σ H1 _ I1 q1
 rw [hs] at hA ⊢
 refine Calls.callWith_builtin (by show (false || (backTo cpos (starEach es X.env)).any (·.1))=false; rw [hplain] <;> rfl) (Calls.evalArgs_plain ?_)
 exact thn hA fun us s2 ⟨vs,H2,I2,r2,q2⟩=>hm pins s2 σ H2 x vs v us Q I2 r1 r2 q2
/- xs.append(e),list.index on a module's tuple .. are MtR facts of 06m -/
end
def MtM (X:Cx)(id:String)(r:V->List V->Hp->VK->Prop):Prop :=
 ∀ (pins:List (Addr × Obj)) (s:Shared) (σ:St) (H:Hp) (x:V) (xs:List V) (v:Value) (us:List Value) (Q:VK),Inv X pins σ H s->RelV x v->Vals xs us->r x xs H Q ->
  wpAny (model X.prog X.w) X.A (call (.builtin id) (v::us)) (EP X pins σ Q) X.xe s
theorem Vals.one:∀ {x:V}{us:List Value},Vals [x] us->∃ u,us=[u]/\RelV x u
 | _,_,.cons r .nil=>⟨_,rfl,r⟩
theorem Vals.zero:∀ {us:List Value},Vals [] us->us=[]
 | _,.nil=>rfl
theorem Vals.dropLast {xs:List V}{us:List Value}(h:Vals xs us):Vals xs.dropLast us.dropLast:=by
 induction h with
 | nil=>exact .nil
 | cons r t ih =>
  cases t with
  | nil=>exact .nil
  | cons q t'=>exact .cons r ih
theorem AP4 {α:Type}(l:List α):l.eraseIdx (l.length - 1)=l.dropLast:=by
 induction l with
 | nil=>rfl
 | cons a r ih =>
  cases r with
  | nil=>rfl
  | cons b r =>
   have e:(a::b::r).length - 1=((b::r).length - 1)+1:=by
    have h1:(a::b::r).length=r.length+2:=rfl
    have h2:(b::r).length=r.length+1:=rfl
    omega
   rw [e,List.eraseIdx_cons_succ,ih]
   all_goals rfl
section
variable {X:Cx}{pins:List (Addr × Obj)}{σ:St}{H:Hp}{s:Shared}{l b:Addr}{xs ys zs:List V}
theorem Inv.lset {its its':List Value}{n:Nat}{f:Array Value->Array Value}{t':Nat}(I:Inv X pins σ H s)(hH:H l=some (.lst xs))(e:s.heap.get? l=some { cls:=.type "list",data:=.seq its.toArray n })(hf:f its.toArray=its'.toArray)(hv:Vals ys its')(hz:ys.length<=sizeLine) :
  Inv X pins σ (upd H l (.lst ys)) { s with heap:=s.heap.update l (Obj.mapSeq f),toks:=t' }:=by
 have q:=PySem.IsL.update e f
 rw [hf] at q
 refine I.write (x:=l) (e:=l) (by rw [hH]; exact trivial) (.inl rfl) (fun b' u hb hu=>(Heap.get?_update_other s.heap (Obj.mapSeq f) (Ne.symm hb)).trans hu) ⟨_,q⟩ ?_
 exact ⟨hz,its',_,hv,q⟩
theorem Inv.lnew {its:List Value}{t':Nat}(I:Inv X pins σ H s)(hv:Vals ys its)(hz:ys.length<=sizeLine) :
  Inv X pins σ (upd H s.heap.objs.size (.lst ys)) { s with heap:=s.heap.push { cls:=.type "list",data:=.seq its.toArray },toks:=t' } :=
 I.laid (fun _ _ q=>Heap.get?_push_of_some _ q) (Nat.le_refl _) ⟨hz,its,0,hv,Heap.get?_push_size _ rfl⟩
theorem Inv.fresh (I:Inv X pins σ H s):H s.heap.objs.size=none:=I.hok.fresh (Nat.le_refl _)
theorem Inv.lstM (I:Inv X pins σ H s)(hH:H l=some (.lst xs)):xs.length<=sizeLine/\∃ (its:List Value) (n:Nat),Vals xs its/\xs.length=its.length/\s.heap.get? l=some { cls:=.type "list",data:=.seq its.toArray n }:=by
 obtain ⟨z,its,n,r,e⟩:=I.hok l _ hH
 exact ⟨z,its,n,r,r.length,e⟩
theorem BF5 {n:Nat}(h:n<=sizeLine):Builtin.List.listTooLong n=false:=by
 unfold Builtin.List.listTooLong
 exact decide_eq_false (by omega)
end
section
variable {X:Cx}
def BO4:V->List V->Hp->VK->Prop:=fun x vs H Q=>∃ l xs y,x=.ref l/\vs=[y]/\H l=some (.lst xs)/\xs.length < sizeLine/\Q .non (upd H l (.lst (xs++[y])))
theorem dC:MtM X "list.append" BO4:=by
 intro pins s σ H x vs v us Q I rx rv h
 obtain ⟨l,xs,y,rfl,rfl,hH,hz,q⟩:=h
 cases rx
 obtain ⟨u,rfl,ru⟩:=rv.one
 obtain ⟨z,its,n,r,hl,e⟩:=I.lstM hH
 refine call_meets F.slot_list_append ⟨_,e,rfl⟩ F.entry_list_append (F.args_list_append_2 _ _) (PySem.list_append l its.toArray n u (by rw [List.size_toArray]; omega)) ⟨e,?_⟩
 refine ⟨.non,_,I.lset (its':=its++[u]) hH e (by simp) (r.append (.cons ru .nil)) ?_,rfl,q⟩
 rw [List.length_append,List.length_singleton]
 omega
def BO5:V->List V->Hp->VK->Prop:=fun x vs H Q=>∃ l b xs zs,x=.ref l/\vs=[.ref b]/\H l=some (.lst xs)/\H b=some (.lst zs)/\xs.length+zs.length<=sizeLine/\Q .non (upd H l (.lst (xs++zs)))
theorem AV1:MtM X "list.extend" BO5:=by
 intro pins s σ H x vs v us Q I rx rv h
 obtain ⟨l,b,xs,zs,rfl,rfl,hH,hB,hz,q⟩:=h
 cases rx
 obtain ⟨u,rfl,ru⟩:=rv.one
 cases ru
 obtain ⟨z,its,n,r,hl,e⟩:=I.lstM hH
 obtain ⟨z2,its2,n2,r2,hl2,e2⟩:=I.lstM hB
 have hsz:its.toArray.size+its2.toArray.size<=sizeLine:=by rw [List.size_toArray,List.size_toArray]; omega
 have hlong:¬ (!its.toArray.isEmpty && Builtin.List.listTooLong (its.toArray.size+its2.toArray.size))=true:=by
  rw [BF5 hsz,Bool.and_false]
  exact Bool.false_ne_true
 refine call_meets F.slot_list_extend ⟨_,e,rfl⟩ F.entry_list_extend (F.args_list_extend_2 _ _)
  (AutoSeq1.list_extend_list_list_0 l its.toArray n b its2.toArray n2 hlong (by rw [List.size_toArray]; omega) (by omega)) ⟨e,e2,?_⟩
 refine ⟨.non,_,I.lset (its':=its++its2) hH e (by simp) (r.append r2) ?_,rfl,q⟩
 rw [List.length_append]
 omega
def CJ3:V->List V->Hp->VK->Prop:=fun x vs H Q=>∃ l xs y,x=.ref l/\vs=[]/\H l=some (.lst xs)/\xs[xs.length - 1]?=some y/\Q y (upd H l (.lst xs.dropLast))
theorem BX5:MtM X "list.pop" CJ3:=by
 intro pins s σ H x vs v us Q I rx rv h
 obtain ⟨l,xs,y,rfl,rfl,hH,hy,q⟩:=h
 cases rx
 have hus:=rv.zero
 subst hus
 obtain ⟨z,its,n,r,hl,e⟩:=I.lstM hH
 obtain ⟨u,hu,ru⟩:=r.get hy
 have hy':its.toArray[its.toArray.size - 1]?=some u:=by
  show its.toArray[its.length - 1]?=some u
  rw [<- Array.getElem?_toList,<- hl]
  exact hu
 refine call_meets F.slot_list_pop ⟨_,e,rfl⟩ F.entry_list_pop (F.args_list_pop_1 _) (MeetsSeq.list_pop_last l its.toArray n u hy' (by rw [List.size_toArray]; omega)) ⟨e,?_⟩
 refine ⟨y,_,I.lset (its':=its.dropLast) hH e ?_ r.dropLast ?_,ru,q⟩
 ·show its.toArray.eraseIdxIfInBounds (its.toArray.size - 1)=its.dropLast.toArray
  rw [List.size_toArray,List.eraseIdxIfInBounds_toArray,AP4]
 ·rw [List.length_dropLast]
  omega
def CK8:R2:=fun x y H Q=>∃ l b xs zs,x=.ref l/\y=.ref b/\H l=some (.lst xs)/\H b=some (.lst zs)/\xs.length+zs.length<=sizeLine/\∀ p,H p=none->Q (.ref p) (upd H p (.lst (xs++zs)))
theorem dZ:OpR X (binaryOp .Add) CK8:=by
 intro pins s σ H x y v u Q I rx ry h
 obtain ⟨l,b,xs,zs,rfl,rfl,hH,hB,hz,q⟩:=h
 cases rx
 cases ry
 obtain ⟨z,its,n,r,hl,e⟩:=I.lstM hH
 obtain ⟨z2,its2,n2,r2,hl2,e2⟩:=I.lstM hB
 refine PySem.P.add_list e e2 ?_ (by rw [List.size_toArray,List.size_toArray]; omega)
 have ea:its.toArray++its2.toArray=(its++its2).toArray:=by simp
 rw [ea]
 exact ⟨.ref _,_,I.lnew (t':=s.toks) (r.append r2) (by rw [List.length_append]; omega),rfl,q _ I.fresh⟩
end
end L2
namespace Att
open PySem PySem.W PySem.Calls PyProof.Rows
theorem ints_of_wellAll {P:Params}{h:Heap}:∀ (ns:List Int) (vs:List Value),WellAll P h vs (ns.map WData.int)->IntsAre vs ns:=by
 intro ns
 induction ns with
 | nil =>
  intro vs w
  rw [List.map_nil] at w
  cases w
  exact .nil
 | cons n ns ih =>
  intro vs w
  rw [List.map_cons] at w
  cases w with
  | cons a b =>
   cases a
   exact .cons _ _ (ih _ b)
theorem script_of {l:OpenLaw}{n:Nat}(hn:l.most=some n){P:Params}{h:Heap}{args:List WData}{vals:List Value}(hpre:l.row.toRowW.claim.pre args=true)(hwl:WellAll P h vals args) :
  ∃ a vs ns,vals=[Value.ref a]/\args=[WData.list (ns.map WData.int)]/\h.get? a=some { cls:=.type "list",data:=.seq vs.toArray }/\IntsAre vs ns/\ns.length<=n:=by
 have hsh:WShape.hasAll [] args [.list .int]=true:=(pre_splitW hpre).1
 have hc:l.pre.holds [] { args:=args }=true:=(pre_splitW hpre).2
 obtain ⟨d,r,rfl,h1,h2⟩:=hasAllW_cons hsh
 obtain rfl:=hasAllW_nil h2
 obtain ⟨xs,rfl,h3⟩:=hasW_list h1
 obtain ⟨ns,rfl⟩:=items_int h3
 have hlen:ns.length<=n:=by
  unfold OpenLaw.pre at hc
  have h4:(WTm.not (.lt (.lit (.int (n:Int))) (.len (.arg 0)))).holds [] { args:=[.list (ns.map .int)] }=true:=by
   have h4:=(holds_andW hc).1
   rw [hn] at h4
   exact h4
  have h5:=condW_of h4 (w_not (w_lt w_lit (w_len_list (w_arg rfl))))
  rw [List.length_map] at h5
  refine Nat.le_of_not_lt fun q=>?_
  have q':(n:Int) < ((ns.length:Nat):Int):=by omega
  first
   | (rw [decide_eq_true q'] at h5; exact absurd h5 (by decide))
   | (simp at h5; omega)
 cases hwl with
 | cons w1 w2 =>
  cases w2
  cases w1 with
  | list ho hall=>exact ⟨_,_,ns,rfl,rfl,ho,ints_of_wellAll ns _ hall,hlen⟩
theorem post_true (l:OpenLaw)(args:List WData):l.row.toRowW.claim.post args (.bool true) args=true :=
 postW_of (r:=l.row.toRowW) (X:=(true == true))
  (show WShape.has [] (.bool true) .bool=true by first | rfl | decide | simp [WShape.has,WShape.arms,WShape.armsAll])
  (show (WTm.eq .res (.lit (.bool true))).value [] { args:=args,res:=some (.bool true),after:=args }=some (.bool (true == true)) from w_eq_bool (w_res rfl) w_lit) rfl
theorem attach_call {l:OpenLaw}{n:Nat}{q:Program}{loose:List Str}{XP:(Str->Option Value)->Heap->Prop}{YP:World->Heap->Prop}{d:DefRec}(hn:l.most=some n)(hdf:d.params.defaults=[])(call:∀ (w:World) (s₀ s₁:Shared) (mg mb:Str->Option Value) (fa:Addr) (o:Obj) (pm cd doc:Value) (a:Addr) (vs:List Value) (ns:List Int),
   Ground q loose [] XP w s₀ mg mb s₁.heap->YP w s₁.heap ->
   s₁.heap.get? fa=some o->o.data=.func (docDef d.name d.params d.body d.scope pm cd doc)->s₁.heap.CodeRec cd d.name->mg d.name=some (.ref fa) ->
   s₁.heap.get? a=some { cls:=.type "list",data:=.seq vs.toArray }->IntsAre vs ns->ns.length<=n->s₁.gens=#[] ->
   codeAny (model l.prog w) callerA (.call (.ref fa) ⟨[.ref a],[]⟩) (fun r s'=>r=.ok (.ret (.bool true))/\OldK s₁.heap s'.heap/\s'.os=s₁.os/\AllBare s'.gens) s₁) :
  WalkO q loose XP YP l.row.toRowW d [] (fun f vs=>PySem.call f vs):=by
 intro w s₀ s₁ mg mb G Y fa o pm cd doc dV kV ho hd hcd hD hmg hg args vals as hpre hlay hrd hwl hlo
 obtain rfl:dV=.none:=Dflts.none hD hdf
 obtain rfl:kV=.none:=Dflts.noKw hD
 obtain ⟨a,vs,ns,rfl,rfl,hobj,hints,hlen⟩:=script_of hn hpre hwl
 refine enter_call (codeAny_mono (call w s₀ s₁ mg mb fa o pm cd doc a vs ns G Y ho (fd_plain hd) hcd hmg hobj hints hlen hg) fun r s' hq=>?_)
 obtain ⟨rfl,h2,h3,h4⟩:=hq
 exact ⟨.inl ⟨.bool true,.bool true,[],rfl,fun _=>rfl,.bool true,post_true l _,fun _=>⟨List.Pairwise.nil,fun _ hm=>(nomatch hm)⟩⟩,h2,h3,h4⟩
end Att
namespace L2
open PySem PySem.Spec PyProof.Rows PySem.W
theorem AB2:∀ {vs:List Value}{ns:List Int},IntsAre vs ns->Vals (ns.map V.int) vs
 | _,_,.nil=>.nil
 | _,_,.cons n t h=>.cons ⟨t,rfl⟩ (AB2 h)
def CD1 (H:Hp):Prop:=∀ b,H b=none\/∃ o xs,H b=some (.frz o (.lst xs))
theorem BF6 {P:Program}{w:World}{K:Frag}{mg mb:Str->Option Value}{CX:CXT}{k:Nat}{fa a:Addr}{fd:FuncData}{x:Str}{sp:Sp}{s₁:Shared}{vs:List Value}{ns:List Int}(KX:K.In s₁.heap)(hns:s₁.heap.Ns mainGlobals mg)(hb:s₁.heap.Ns builtinsNs mb)(hbb:∀ x:Str,x≠"__name__"->mb x=bootBuiltins x)(hlim:s₁.heap.NoLimit)(hg:s₁.gens=#[])(ha:s₁.heap.get? a=some { cls:=.type "list",data:=.seq vs.toArray })(hi:IntsAre vs ns)(hl:ns.length<=sizeLine)(hr:Room k callerA)(F:∀ base:Heap,K.In base->base.Ns mainGlobals mg->FnOk P w K mg base CX k fa fd [x] sp)(hbind:∀ (s:Shared) (u:Value),BindsTo s fd ⟨[u],[]⟩ [(x,u)])(hsp:∀ H:Hp,CD1 H->SqL K H a (ns.map V.int)->sp [.ref a] H (fun v _=>v=.bl true) fun _ _ _=>False)(hCX:∀ H e s',CX [] H s₁ (fun _ _ _=>False) e s'->False) :
  codeAny (model P w) callerA (.call (.ref fa) ⟨[.ref a],[]⟩) (fun r s'=>r=.ok (.ret (.bool true))/\OldK s₁.heap s'.heap/\s'.os=s₁.os/\AllBare s'.gens) s₁:=by
 have rv:=AB2 hi
 have lenV:=hi.length
 -- from an abstract heap in which nothing but the script may be tracked
 have core:∀ H:Hp,CD1 H->SqL K H a (ns.map V.int)->HOk P w H s₁.heap->(∀ b,H b≠none->b=a)->(H a≠none->K.lookup a=none) ->
   codeAny (model P w) callerA (.call (.ref fa) ⟨[.ref a],[]⟩) (fun r s'=>r=.ok (.ret (.bool true))/\OldK s₁.heap s'.heap/\s'.os=s₁.os/\AllBare s'.gens) s₁:=by
  intro H hO hS hok hA hK
  have base_of:∀ {b:Addr}{o:Obj},s₁.heap.get? b=some o->H b=none->(BE3 s₁.heap H).get? b=some o:=fun e n=>BE4 e n
  have noA:∀ {b:Addr}{o:Obj}{es:Array DictEntry}{ep:Nat},s₁.heap.get? b=some o->o.data=.dict es ep->H b=none:=fun {b o es ep} e d=>by
   cases q:H b with
   | none=>rfl
   | some u =>
    have e':b=a:=hA b (by rw [q]; simp)
    subst e'
    rw [ha] at e; cases e
    have d':Data.seq vs.toArray _=Data.dict es ep:=d
    cases d'
  have nsK:∀ {b:Addr}{m:Str->Option Value},s₁.heap.Ns b m->(BE3 s₁.heap H).Ns b m:=fun {b m} ⟨o,es,ep,e,d,r⟩=>⟨o,es,ep,base_of e (noA e d),d,r⟩
  have hKb:K.In (BE3 s₁.heap H):=fun b o e=>base_of (KX b o e) (by
   cases q:H b with
   | none=>rfl
   | some u =>
    have e':b=a:=hA b (by rw [q]; simp)
    subst e'
    rw [hK (by rw [q]; simp)] at e; cases e)
  have hM:Mod K mg (BE3 s₁.heap H):=⟨hKb,nsK hns,⟨mb,nsK hb,hbb⟩,let ⟨mc,h1,h2⟩:=hlim; ⟨mc,nsK h1,h2⟩⟩
  have e0:Env0 P w K mg (BE3 s₁.heap H) callerA [] s₁ H:=⟨rfl,hM,fun b o e=>BN4 e,Nat.le_of_eq (AS9 _ _),trivial,fun b hb=>absurd (show b∈([]:List Addr) from hb) (by simp),hok,.of_eq hg⟩
  refine codeAny_mono ((F _ hKb (nsK hns)).run callerA [] s₁ H ⟨[.ref a],[]⟩ [.ref a] [.ref a] _ _ hr e0 (hbind s₁ (.ref a)) (.cons rfl .nil) (hsp H hO hS)) fun r s' h=>?_
  cases r with
  | error e=>exact (hCX H e s' h).elim
  | ok fl =>
   cases fl with
   | next=>exact False.elim h
   | brk=>exact False.elim h
   | cont=>exact False.elim h
   | ret u =>
    obtain ⟨v,H',os,bare,un,hok',r',q⟩:=h
    have q':v=.bl true:=q
    subst q'
    obtain rfl:u=Value.bool true:=r'
    refine ⟨rfl,OldK.of_keep fun b o e=>?_,os,bare⟩
    cases q:H b with
    | none=>exact un.keep b o e q (by intro z; exact absurd (show b∈([]:List Addr) from z) (by simp)) (by simp)
    | some u =>
     rcases hO b with z | ⟨ob,xs,z⟩
     ·rw [q] at z; cases z
     ·have z2:=un.frzs b ob _ z
      obtain ⟨e1,_⟩:=hok b _ z
      obtain ⟨e2,_⟩:=hok' b _ z2
      rw [e] at e1; cases e1
      exact e2
 cases hk:K.lookup a with
 | some o =>
  -- the script is one of the module's own objects
  have e:=KX a o hk
  rw [ha] at e
  cases e
  refine core (fun _=>none) (fun _=>.inl rfl) (.inr ⟨_,vs.toArray,_,hk,rfl,rfl,rfl,by rw [List.size_toArray,lenV]; exact hl,by simpa using rv⟩) (fun b u z=>by have z':(none:Option HO)=some u:=z; cases z') (fun b z=>absurd rfl z) fun z=>absurd rfl z
 | none =>
  refine core (fun b=>if b=a then some (.frz { cls:=.type "list",data:=.seq vs.toArray } (.lst (ns.map V.int))) else none) (fun b=>?_) (.inl (.inr ⟨{ cls:=.type "list",data:=.seq vs.toArray },if_pos rfl⟩)) (fun b u z=>?_) (fun b z=>?_) fun _=>hk
  ·by_cases hb:b=a
   ·exact .inr ⟨_,_,if_pos hb⟩
   ·exact .inl (if_neg hb)
  ·by_cases hb:b=a
   ·have z':=(if_pos hb).symm.trans z
    cases z'
    subst hb
    exact ⟨ha,by rw [List.length_map]; exact hl,vs,_,rv,ha⟩
   ·have z':=(if_neg hb).symm.trans z
    cases z'
  ·by_cases hb:b=a
   ·exact hb
   ·exact absurd (if_neg hb) z
theorem CD2 {l:OpenLaw}{n k:Nat}{q:Program}{loose:List Str}{XP:(Str->Option Value)->Heap->Prop}{YP:World->Heap->Prop}{d:DefRec}{K:Params->Frag}{CX:World->CXT}{sp:World->Sp}{x:Str}(hn:l.most=some n)(hn2:n<=sizeLine)(hdf:d.params.defaults=[])(hr:Room k callerA)(hY:∀ (w:World) (h:Heap),YP w h->(K w.params).In h)(F:∀ (w:World) (mg:Str->Option Value) (fa:Addr) (h:Heap),(K w.params).In h->h.Ns mainGlobals mg->mg d.name=some (.ref fa) ->
   ∃ fd:FuncData,(∀ (s:Shared) (u:Value),BindsTo s fd ⟨[u],[]⟩ [(x,u)]) /\
    ∀ base:Heap,(K w.params).In base->base.Ns mainGlobals mg->FnOk l.prog w (K w.params) mg base (CX w) k fa fd [x] (sp w))(hsp:∀ (w:World) (H:Hp) (a:Addr) (ns:List Int),ns.length<=n->CD1 H->SqL (K w.params) H a (ns.map V.int)->sp w [.ref a] H (fun v _=>v=.bl true) fun _ _ _=>False)(hCX:∀ (w:World) (H:Hp) (s:Shared) (e:Value) (s':Shared),CX w [] H s (fun _ _ _=>False) e s'->False) :
  WalkO q loose XP YP l.row.toRowW d [] (fun f vs=>PySem.call f vs):=by
 refine Att.attach_call hn hdf fun w s₀ s₁ mg mb fa o pm cd doc a vs ns G Y ho hd hcd hmg hobj hints hlen hg=>?_
 have KX:=hY w _ Y
 obtain ⟨fd,hb,hF⟩:=F w mg fa _ KX G.T.g hmg
 exact BF6 KX G.T.g G.T.b G.T.builtins G.T.nolimit hg hobj hints (Nat.le_trans hlen hn2) hr hF hb (fun H hO hS=>hsp w H a ns hlen hO hS) fun H e s'=>hCX w H s₁ e s'
def aK (s:Stmt)(j:Nat):Stmt:=match s with
 | .ClassDef _ _ _ body _ _ _ _ _ _ _=>body.getD j (.Pass ⟨0,0,0,0⟩)
 | _=>.Pass ⟨0,0,0,0⟩
def dH (s:Stmt):Arguments:=match s with
 | .FunctionDef _ a _ _ _ _ _ _ _ _=>a
 | _=>{ posonlyargs:=[],args:=[],vararg:=none,kwonlyargs:=[],kw_defaults:=[],kwarg:=none,defaults:=[] }
def cK (s:Stmt):List Stmt:=match s with
 | .FunctionDef _ _ b _ _ _ _ _ _ _=>b
 | _=>[]
def aI (s:Stmt):Scope:=match s with
 | .FunctionDef _ _ _ _ _ _ sc _ _ _=>sc
 | _=>{ kind:=.function,names:=[],isGenerator:=false,isCoroutine:=false }
abbrev CX0:CXT:=fun _ _ _ _ _ _=>False
abbrev E0:XK:=fun _ _ _=>False
structure Fun (K:Frag) (x qual:Str) (st:Stmt) (f:Addr) (fd:FuncData):Prop where
 ex:∃ (oc:Value) (od:Option Addr) (kV doc pm:Value) (an:Option Addr) (cdv ct:Value) (osl:Array (Option Value)),
  fd=fnOf x qual (dH st) (cK st) (aI st) .none kV doc pm an cdv ct/\K.lookup f=some ⟨oc,od,.func fd,osl⟩/\codeIn K cdv qual=true
 kp:keepIn K (.ref f)=true
section
variable {P:Program}{w:World}{K:Frag}{mg:Str->Option Value}{base:Heap}
theorem Fun.ok {x qual:Str}{st:Stmt}{f:Addr}{fd:FuncData}{N ps:List Str}{k:Nat}{sp:Sp}(F:Fun K x qual st f fd)(S:FnScope N ps (aI st))(len:∀ vs H Q E,sp vs H Q E->vs.length=ps.length)(hbody:∀ (cdv:Value) (A:Around) (outer:List Env) (s:Shared) (H:Hp) (vs:List V) (Q:VK) (E:XK),Room k (A.deeper (envOfC qual (aI st) s.heap.objs.size f cdv))->sp vs H Q E ->
   ∃ t,PSs (AU5 CX0 P w K mg base N qual (aI st) f cdv A outer s H E).nox (cK st) t/\t { nx:=fun _ H'=>Q .non H',rt:=Q } (start N vs) H):FnOk P w K mg base CX0 (k+1) f fd ps sp:=by
 obtain ⟨oc,od,kV,doc,pm,an,cdv,ct,osl,rfl,lk,hcd⟩:=F.ex
 refine AU6 lk hcd S len fun A outer s H vs Q E hr hsp=>?_
 obtain ⟨t,h,q⟩:=hbody cdv A outer s H vs Q E hr hsp
 exact ⟨t,h.nox,q⟩
theorem Fun.binds {x qual:Str}{st:Stmt}{f:Addr}{fd:FuncData}{ps:List Str}(F:Fun K x qual st f fd)(h:∀ (kV doc pm:Value) (an:Option Addr) (cdv ct:Value) (us:List Value),us.length=ps.length->bindArgs (fnOf x qual (dH st) (cK st) (aI st) .none kV doc pm an cdv ct) ⟨us,[]⟩=pure (ps.zip us)):Binds K fd ps []:=by
 obtain ⟨oc,od,kV,doc,pm,an,cdv,ct,osl,rfl,lk,hcd⟩:=F.ex
 exact .all (h kV doc pm an cdv ct)
theorem CJ4 {x qual:Str}{st:Stmt}{f:Addr}{oc:Value}{od an:Option Addr}{osl:Array (Option Value)}{kV doc pm cdv ct:Value}(l:K.lookup f=some ⟨oc,od,.func (fnOf x qual (dH st) (cK st) (aI st) .none kV doc pm an cdv ct),osl⟩)(c:codeIn K cdv qual=true)(k:keepIn K (.ref f)=true):Fun K x qual st f (fnOf x qual (dH st) (cK st) (aI st) .none kV doc pm an cdv ct):=⟨⟨oc,od,kV,doc,pm,an,cdv,ct,osl,rfl,l,c⟩,k⟩
end
theorem AV2 {n:Nat}(h:n<=1000):n < sizeLine:=Nat.lt_of_le_of_lt h (by decide)
section
variable {X:Cx}
theorem pv (i:Nat){x:Str}{pos:Pos}(hN:X.N[i]?=some x:=by rfl)(hv:Vis X.env.scope x:=by first | exact Or.inl rfl | exact Or.inr (Or.inl rfl) | exact Or.inr (Or.inr rfl))(hd:(x == ("__debug__":Str))=false:=by decide)(hcd:(x == ("__classdict__":Str))=false:=by decide):PE X (.Name x pos) (CC0 i):=BK0 hN hv hd hcd
end
def Same (H H':Hp):Prop:=∀ b o,H b=some o->H' b=some o
theorem Same.trans {H H1 H2:Hp}(a:Same H H1)(b:Same H1 H2):Same H H2:=fun c o h=>b c o (a c o h)
theorem Same.free {H H':Hp}(e:Same H H'){l:Addr}(h:H' l=Option.none):H l=Option.none:=by
 cases q:H l with
 | none=>rfl
 | some o =>
  rw [e l o q] at h
  cases h
theorem Same.seq {K:Frag}{H H':Hp}{a:Addr}{xs:List V}(e:Same H H')(h:SqL K H a xs):SqL K H' a xs:=by
 rcases h with (h | ⟨o,h⟩) | h
 ·exact .inl (.inl (e _ _ h))
 ·exact .inl (.inr ⟨o,e _ _ h⟩)
 ·exact .inr h
end L2
namespace Bw
open PySem PySem.Spec PyProof.Rows L2 PySem.W
section
variable {X:Cx}
def CD3 (i j:Int):Prop:=0 < j/\j < 2 ^ 62
theorem nG:OpR X (binaryOp .FloorDiv) (rI CD3 fun i j=>.int (i / j)):=opI fun i j _ _ _ _ _ hc q=>by
 have h1:(0:Int) < j:=hc.1
 have h2:j < 2 ^ 62:=hc.2
 refine floordiv_int (by omega) (by rw [Int.fdiv_eq_ediv_of_nonneg i (by omega)]; exact q) (.inl (PyProof.noPylong_of_log2 ?_))
 have h0:j.natAbs≠0:=by omega
 have:j.natAbs.log2 < 62:=(Nat.log2_lt h0).mpr (by omega)
 omega
def BL2:V->Bool
 | .int _=>true
 | .bl _=>true
 | _=>false
def AV3:V->Bool
 | .bl _=>true
 | _=>false
theorem BO6 {pins:List (Addr × Obj)}{σ:L2.St}{H:Hp}{s:Shared}{x:V}{c T:String}{b:Bool}{us:List Value}{Q:VK}(I:Inv X pins σ H s)(r:Vals [x,.ty c] us)(ty:TyOf X.K H x (.type T))(e:kitOne X.K (.type T) (.type c)=some b)(q:Q (.bl b) H) :
  wpAny (model X.prog X.w) X.A (call (.builtin "isinstance") us) (EP X pins σ Q) X.xe s:=by
 obtain ⟨u,w',rfl,rx,rc⟩:=AT8 r
 cases (show w'=Value.type c from rc)
 exact uO I rx ty e fun tk=>⟨.bl b,H,I.tok _,rfl,q⟩
end
structure Cal (P:Program) (w:World) (K:Frag) (mg:Str->Option Value) (base:Heap) (x:Str) (ps:List Str) (k:Nat) (sp:Sp):Prop where
 ex:∃ f fd,FnOk P w K mg base CX0 k f fd ps sp/\Binds K fd ps []/\keepIn K (.ref f)=true/\mg x=some (.ref f)
theorem aE {H:Hp}{p:Addr}(h:H p=none)(o:HO):Same H (upd H p o):=fun b u q=>by rw [aJ (aQ q h)]; exact q
def But (w:Addr)(H H':Hp):Prop:=∀ b o,b≠w->H b=some o->H' b=some o
theorem But.refl (w:Addr)(H:Hp):But w H H:=fun _ _ _ h=>h
theorem But.trans {w:Addr}{H H1 H2:Hp}(a:But w H H1)(b:But w H1 H2):But w H H2:=fun c o n h=>b c o n (a c o n h)
theorem But.upd {w:Addr}{H:Hp}(o:HO):But w H (upd H w o):=fun b u n h=>by rw [aJ n]; exact h
theorem Same.but {w:Addr}{H H':Hp}(h:Same H H'):But w H H':=fun b o _ e=>h b o e
theorem BX6 {ns:List Int}{i:Nat}{x:V}(h:(ns.map V.int)[i]?=some x):∃ c,x=.int c:=by
 rw [List.getElem?_map] at h
 cases e:ns[i]? with
 | none=>rw [e] at h; cases h
 | some c=>rw [e] at h; exact ⟨c,(Option.some.inj h).symm⟩
theorem sz8 {n:Nat}(h:n<=1000):n<=sizeLine:=Nat.le_of_lt (AV2 h)
section
variable {K:Frag}{ta tb tc te:TE}{tA tB':TT}{t u:TS}{tr:TA}{D:Ends}{σ:L2.St}{H:Hp}{Q:VK}{QB:Bool->Hp->Prop}{QA:List V->Hp->Prop}{v x y z:V}{i j:Nat}{g:TG}{QS:L2.St->Hp->Prop}
theorem BO7:BW3 t u D σ H=t { D with nx:=u D } σ H:=rfl
theorem AV4:BN5 D σ H=D.nx σ H:=rfl
theorem BO8:CC2 tA t u D σ H=tA σ H (fun b H1=>if b=true then t D σ H1 else u D σ H1):=rfl
theorem BO9:CB3 te D σ H=te σ H D.rt:=rfl
theorem AV5:BW4 te D σ H=te σ H (fun _ H1=>D.nx σ H1):=rfl
theorem BP0:BK3 te g D σ H=te σ H (fun x H1=>g x σ H1 D.nx):=rfl
theorem AG5:zZ i v σ H QS=QS (σ.set i (some v)) H:=rfl
theorem AV6 {ts:CB4}:CI5 ta tb ts v σ H QS=ta σ H (fun o H1=>tb σ H1 (fun i H2=>ts o i v H2 (fun H3=>QS σ H3))):=rfl
theorem BP1:CC0 i σ H Q=isV σ[i]? (fun v=>Q v H):=rfl
theorem CD4 {k:V->Prop}{v:V}:isV (some (some v)) k=k v:=rfl
theorem BX7 {k:Bool->Prop}{c:Bool}:isB (.bl c) k=k c:=rfl
theorem BX8 {k:Int->Prop}{c:Int}:isI (.int c) k=k c:=rfl
theorem CD5 {k:Addr->Prop}{c:Addr}:isR (.ref c) k=k c:=rfl
theorem CD6 {k:V->List V->Prop}{v:V}{r:List V}:isC (v::r) k=k v r:=rfl
theorem CD7 {p:Prop}:isN [] p=p:=rfl
theorem CD8 {k:Str->Prop}{c:Str}:isT (.str c) k=k c:=rfl
theorem w_c:tC v σ H Q=Q v H:=rfl
theorem CD9 {r:R2}:tOp r ta tb σ H Q=ta σ H (fun x H1=>tb σ H1 (fun y H2=>r x y H2 Q)):=rfl
theorem CE0 {r:V->Hp->VK->Prop}:tUn r ta σ H Q=ta σ H (fun x H1=>r x H1 Q):=rfl
theorem CE1 {f:Int->V}:rU f x H Q=isI x (fun i=>Q (f i) H):=rfl
theorem BP2 {f:Int->Int->V}:rI0 f x y H Q=isI x (fun i=>isI y fun j=>Q (f i j) H):=rfl
theorem CE2 {C:Int->Int->Prop}{f:Int->Int->V}:rI C f x y H Q=isI x (fun i=>isI y fun j=>C i j/\Q (f i j) H):=rfl
theorem AV7:BX0 te σ H QB=te σ H (fun x H'=>isB x fun k=>QB k H'):=rfl
theorem w_b:L2.tB te σ H QB=te σ H (fun x H1=>isB x fun c=>QB c H1):=rfl
theorem BP3:CH9 tA tB' σ H QB=tA σ H (fun c H1=>if c=true then tB' σ H1 QB else QB false H1):=rfl
theorem CE3:tOr tA tB' σ H QB=tA σ H (fun c H1=>if c=true then QB true H1 else tB' σ H1 QB):=rfl
theorem w_not:CI0 tA σ H QB=tA σ H (fun c H1=>QB (!c) H1):=rfl
theorem AV8:BW1 ta tb σ H Q=ta σ H (fun x H1=>isB x fun c=>if c=true then tb σ H1 Q else Q (.bl false) H1):=rfl
theorem BP4:CI1 ta tb σ H Q=ta σ H (fun x H1=>isB x fun c=>if c=true then Q (.bl true) H1 else tb σ H1 Q):=rfl
theorem AV9:BW2 ta σ H Q=ta σ H (fun x H1=>isB x fun c=>Q (.bl (!c)) H1):=rfl
theorem CE4:tIf tA ta tb σ H Q=tA σ H (fun c H1=>if c=true then ta σ H1 Q else tb σ H1 Q):=rfl
theorem AW0:AA5 ta tr σ H QA=ta σ H (fun x H1=>tr σ H1 (fun xs H2=>QA (x::xs) H2)):=rfl
theorem BP5:BO2 σ H QA=QA [] H:=rfl
theorem BP6:CJ0 tr σ H Q=tr σ H (fun xs H1=>xs.length<=sizeLine/\∀ p,H1 p=none->Q (.ref p) (L2.upd H1 p (.tup xs))):=rfl
theorem BP7:BO3 tr σ H Q=tr σ H (fun xs H1=>xs.length<=sizeLine/\∀ p,H1 p=none->Q (.ref p) (L2.upd H1 p (.lst xs))):=rfl
theorem AW1 {sp:Sp}{dvs:List V}{E:XK}:yF sp dvs E tr σ H Q=tr σ H (fun vs H1=>sp (vs++dvs) H1 Q E):=rfl
theorem CE5 {r:List V->Hp->VK->Prop}:tCB r tr σ H Q=tr σ H (fun vs H1=>r vs H1 Q):=rfl
theorem CE6:rEq x y H Q=(BE9 x y=true/\Q (.bl (decide (x=y))) H):=rfl
theorem CE7:rNe x y H Q=(BE9 x y=true/\Q (.bl (!decide (x=y))) H):=rfl
theorem CE8 {a b:Int}:BE9 (.int a) (.int b)=true:=rfl
theorem CE9 {a b:Bool}:BE9 (.bl a) (.bl b)=true:=rfl
theorem CF0 {a b:Str}:BE9 (.str a) (.str b)=true:=rfl
theorem CF1 {a:Int}:BE9 (.int a) .non=true:=rfl
theorem CF2 {a:Bool}:BE9 (.bl a) .non=true:=rfl
theorem BP8:CH8 ta σ H Q=ta σ H (fun x H1=>Q (.bl (decide (x=.non))) H1):=rfl
theorem AW2:BV9 ta σ H Q=ta σ H (fun x H1=>Q (.bl (!decide (x=.non))) H1):=rfl
theorem CF3 {r:V->Option Int->Option Int->Hp->VK->Prop}{tl th:TO}:tSl r te tl th σ H Q=te σ H (fun x H1=>tl σ H1 (fun l H2=>th σ H2 (fun u H3=>r x l u H3 Q))):=rfl
theorem AW3 {QO:Option Int->Hp->Prop}:BX2 te σ H QO=te σ H (fun x H1=>isI x fun i=>QO (some i) H1):=rfl
theorem yK {QO:Option Int->Hp->Prop}:AU7 σ H QO=QO none H:=rfl
theorem w_K {CX:CXT}{P:Program}{w:World}{mg:Str->Option Value}{base:Heap}{N:List Str}{qual:Str}{sc:Scope}{f:Addr}{cd:Value}{A:Around}{outer:List Env}{s:Shared}{H:Hp}{E:XK}:(AU5 CX P w K mg base N qual sc f cd A outer s H E).K=K:=rfl
def ForL (K:Frag)(a:Addr)(g:TG)(tb:TS)(D:Ends)(σ:L2.St)(H:Hp):Prop:=∃ W:Nat->Nat->L2.St->Hp->Prop,(∃ m,W 0 m σ H)/\∀ i m σ H,W i m σ H ->
 ((Itl K a).stop i H/\D.nx σ H)\/((Itl K a).go i H/\∃ N:L2.St->Hp->Prop,(∀ σ' H',N σ' H'->∃ m',m' < m/\W (i+1) m' σ' H')/\∀ x H',(Itl K a).yld i H x H'->g x σ H' fun σ2 H2=>tb { D with nx:=N,ct:=N,bk:=D.nx } σ2 H2)
def ForR (lo:Int)(n:Nat)(g:TG)(tb:TS)(D:Ends)(σ:L2.St)(H:Hp):Prop:=∃ W:Nat->Nat->L2.St->Hp->Prop,(∃ m,W 0 m σ H)/\∀ i m σ H,W i m σ H ->
 ((Itr lo n).stop i H/\D.nx σ H)\/((Itr lo n).go i H/\∃ N:L2.St->Hp->Prop,(∀ σ' H',N σ' H'->∃ m',m' < m/\W (i+1) m' σ' H')/\∀ x H',(Itr lo n).yld i H x H'->g x σ H' fun σ2 H2=>tb { D with nx:=N,ct:=N,bk:=D.nx } σ2 H2)
theorem AW4:CB5 (BN7 K ta) g t D σ H=ta σ H (fun x H1=>isR x fun a=>(∃ xs,SqL K H1 a xs)/\ForL K a g t D σ H1):=rfl
theorem AW5:CB5 (BN8 tr) g t D σ H=tr σ H (fun vs H1=>∃ j:Int,vs=[.int j]/\-(2 ^ 62)<=j/\j < 2 ^ 62/\ForR 0 j.toNat g t D σ H1):=rfl
theorem ForL.by {a:Addr}{xs:List V}(Pv:Nat->L2.St->Hp->Prop)(h0:Pv 0 σ H)(hl:∀ i σ H,i<=xs.length->Pv i σ H->SqL K H a xs)(hs:∀ i x σ H,xs[i]?=some x->Pv i σ H->g x σ H fun σ2 H2=>t { D with nx:=Pv (i+1),ct:=Pv (i+1),bk:=D.nx } σ2 H2)(hd:∀ σ H,Pv xs.length σ H->D.nx σ H):ForL K a g t D σ H:=BE8 Pv h0 hl hs hd
theorem ForR.by {lo:Int}{n:Nat}(Pv:Nat->L2.St->Hp->Prop)(h0:Pv 0 σ H)(hs:∀ i σ H,i < n->Pv i σ H->g (.int (lo+i)) σ H fun σ2 H2=>t { D with nx:=Pv (i+1),ct:=Pv (i+1),bk:=D.nx } σ2 H2)(hd:∀ σ H,Pv n σ H->D.nx σ H):ForR lo n g t D σ H:=AT4 Pv h0 hs hd
theorem whl (Pv:L2.St->Hp->Prop)(μ:L2.St->Hp->Nat)(h0:Pv σ H)(hs:∀ σ H,Pv σ H->tA σ H fun b H1=>if b=true then ∃ N:L2.St->Hp->Prop,(∀ σ' H',N σ' H'->∃ m',m' < μ σ H/\(m'=μ σ' H'/\Pv σ' H'))/\t { D with nx:=N,ct:=N,bk:=D.nx } σ H1 else D.nx σ H1):BK4 tA t D σ H:=by
 refine ⟨fun m σ H=>m=μ σ H/\Pv σ H,⟨_,rfl,h0⟩,?_⟩
 rintro m σ H ⟨rfl,p⟩
 exact hs σ H p
theorem ixl {p:Addr}{xs:List V}{k:Int}(hS:SqL K H p xs)(hv:atI xs k=some v)(q:Q v H):CC9 K (.ref p) (.int k) H Q:=⟨p,xs,k,v,rfl,rfl,hS,hv,q⟩
theorem ixt {p:Addr}{xs:List V}{k:Int}(hS:SqT K H p xs)(hv:atI xs k=some v)(q:Q v H):CD0 K (.ref p) (.int k) H Q:=⟨p,xs,k,v,rfl,rfl,hS,hv,q⟩
theorem CJ5 {p:Addr}{xs:List V}{k:Int}{QH:Hp->Prop}(h:H p=some (.lst xs))(hj:ixN xs.length k=some j)(q:QH (L2.upd H p (.lst (xs.set j v)))):BX3 (.ref p) (.int k) v H QH:=⟨p,xs,k,j,rfl,rfl,h,hj,q⟩
end
structure QOk (H:Hp) (p:Addr) (s e:Int):Prop where
 at_:H p=some (.tup [.int s,.int e])
 s0:0<=s
 s1:s<=1439
 e0:0<=e
 e1:e<=1439
 ne:s≠e
end Bw
set_option maxHeartbeats 1000000
namespace Bw
open PySem PySem.Spec PyProof.Rows L2 PySem.W
def C2 (o o':Obj):Prop:=∀ vs,o.data=.fields vs->∃ vs',o'.data=.fields vs'/\vs'[2]?=vs[2]?
theorem C2.refl (o:Obj):C2 o o:=fun vs e=>⟨vs,e,rfl⟩
theorem C2.trans {a b c:Obj}(x:C2 a b)(y:C2 b c):C2 a c:=fun vs e=>by
 obtain ⟨v1,e1,q1⟩:=x vs e
 obtain ⟨v2,e2,q2⟩:=y v1 e1
 exact ⟨v2,e2,q2.trans q1⟩
def BP9 (f:Obj->Obj):Prop:=∀ o,(f o).dict=o.dict/\((f o).isFreed=o.isFreed)/\C2 o (f o)
def DK (h h':Heap):Prop:=∀ b o,h.get? b=some o->∃ o',h'.get? b=some o'/\o'.dict=o.dict/\C2 o o'
theorem DK.refl (h:Heap):DK h h:=fun _ o e=>⟨o,e,rfl,C2.refl o⟩
theorem DK.trans {h1 h2 h3:Heap}(a:DK h1 h2)(b:DK h2 h3):DK h1 h3:=fun c o e=>by
 obtain ⟨o1,e1,d1,c1⟩:=a c o e
 obtain ⟨o2,e2,d2,c2⟩:=b c o1 e1
 exact ⟨o2,e2,d2.trans d1,c1.trans c2⟩
def KD {α:Type}:Sem α->Prop
 | .pure _=>True
 | .raise _=>True
 | .unsupported _=>True
 | .finish _=>True
 | .rule _ k=>KD (k ())
 | .at _ k=>KD (k ())
 | .load _ _ k=>∀ o,KD (k o)
 | .update _ _ f k=>BP9 f/\KD (k ())
 | .alloc _ k=>∀ b,KD (k b)
 | .loadIfAlive _ k=>∀ o,KD (k o)
 | .point _ k=>KD (k ())
 | .register _ _=>True
 | .fresh k=>∀ t,KD (k t)
 | .ask k=>∀ x,KD (k x)
 | .choose _ _ k=>∀ n,KD (k n)
 | .os _ _ k=>∀ x,KD (k x)
 | .call _ _ _ _ _=>False
 | .handled _ k=>∀ x,KD (k x)
 | .newGen _ k=>∀ n,KD (k n)
 | .genState _ k=>∀ x,KD (k x)
 | .resume _ _ _ _=>False
 | .yield _ _ _ _=>True
 | .stack k=>∀ x,KD (k x)
 | .fork _ _=>True
 | .thread k=>∀ n,KD (k n)
 | .await _ _ _ _ _=>True
theorem KD.bind {α β:Type}{t:Sem α}{f:α->Sem β}(h:KD t)(k:∀ x,KD (f x)):KD (t >>= f):=by
 show KD (t.bind f)
 induction t with
 | pure x=>exact k x
 | raise _ | unsupported _ | finish _=>trivial
 | rule _ _ ih | «at» _ _ ih | point _ _ ih=>exact ih _ h
 | load _ _ _ ih | alloc _ _ ih | loadIfAlive _ _ ih | fresh _ ih | ask _ ih | choose _ _ _ ih | os _ _ _ ih | handled _ _ ih | newGen _ _ ih | genState _ _ ih | stack _ ih | thread _ ih=>exact fun x=>ih x (h x)
 | update _ _ _ _ ih=>exact ⟨h.1,ih _ h.2⟩
 | register _ _ _ | yield _ _ _ _ _ | fork _ _ _ | await _ _ _ _ _ _=>trivial
 | call _ _ _ _ _ _ | resume _ _ _ _ _=>exact h.elim
theorem AW6 {h:Heap}{a:Addr}{f:Obj->Obj}(s:BP9 f):DK h (h.update a f):=fun b o e=>by
 by_cases c:b=a
 ·subst c
  refine ⟨f o,Heap.get?_update_self f e ?_,(s o).1,(s o).2.2⟩
  rw [(s o).2.1]
  unfold Heap.get? at e
  split at e
  ·cases e
  ·rename_i hn
   obtain ⟨cl,dd,da,sl⟩:=o
   cases da with
   | freed=>exact absurd e (fun z=>hn _ _ _ z)
   | _=>rfl
 ·exact ⟨o,by rw [Heap.get?_update_other _ _ (fun z=>c z.symm)]; exact e,rfl,C2.refl o⟩
theorem BQ0 {h:Heap}{o:Obj}:DK h (h.push o):=fun b q e=>⟨q,Heap.get?_push_of_some _ e,rfl,C2.refl q⟩
theorem CF4 {M:Model}{Γ:PySem.Ctx}{α:Type}{t:Sem α}{Q:α->Pos->Shared->Prop}{E:Value->Pos->Shared->Prop}(k:KD t):∀ {h0:Heap}{p:Pos}{s:Shared},DK h0 s.heap->Sem.wp M Γ t Q E p s ->
  Sem.wp M Γ t (fun x p' s'=>Q x p' s'/\DK h0 s'.heap) (fun v p' s'=>E v p' s'/\DK h0 s'.heap) p s:=by
 induction t with
 | pure x=>exact fun d w=>⟨w,d⟩
 | raise v=>exact fun d w=>⟨w,d⟩
 | unsupported _ | finish _ | register _ _ _ | yield _ _ _ _ _ | fork _ _ _ | await _ _ _ _ _ _=>exact fun _ w=>w
 | rule _ _ ih | «at» _ _ ih | point _ _ ih=>exact fun d w=>ih _ k d w
 | load _ _ _ ih=>exact fun d ⟨o,e,w⟩=>⟨o,e,ih _ (k o) d w⟩
 | alloc _ _ ih=>exact fun d w=>ih _ (k _) (d.trans BQ0) w
 | loadIfAlive _ _ ih | fresh _ ih | ask _ ih | os _ _ _ ih | handled _ _ ih | newGen _ _ ih | stack _ ih | thread _ ih=>exact fun d w=>ih _ (k _) d w
 | choose _ _ _ ih=>exact fun d ⟨n,w⟩=>⟨n,ih _ (k _) d w⟩
 | genState _ _ ih=>exact fun d ⟨o,e,w⟩=>⟨o,e,ih _ (k _) d w⟩
 | update _ _ _ _ ih=>exact fun d ⟨e,w⟩=>⟨e,ih _ k.2 (d.trans (AW6 k.1)) w⟩
 | call _ _ _ _ _ _ | resume _ _ _ _ _=>exact k.elim
theorem pP {M:Model}{A:Around}{α:Type}{t:Sem α}{Q:α->Shared->Prop}{E:Value->Shared->Prop}{s:Shared}(k:KD t)(h:wpAny M A t Q E s) :
  wpAny M A t (fun x s'=>Q x s'/\DK s.heap s'.heap) (fun v s'=>E v s'/\DK s.heap s'.heap) s:=fun Γ p hΓ=>CF4 k (DK.refl _) (h Γ p hΓ)
section
variable {M:Model}{A:Around}{E:Value->Shared->Prop}{env:Env}
variable {nm q:Str}{C N:Addr}{bs bm:List Value}{hdct:Bool}{sn:List Str}{sub:List Value}{ab:Bool}{col:Option Bool}{dd:Option Addr}{k0 k1 k2 k3 k5:Option Value}{newId:String}
theorem kS {s:Shared}{x:Sem Value}{Q:Flow->Shared->Prop}(hbase:bm.contains (.type "BaseException")=true)(hh:A.handled=none)(h:wpAny M A x (fun v s₁=>∃ e oe vs,v=.ref e/\s₁.heap.get? C=some (excClassObj nm q C N bs bm hdct sn sub ab col dd k0 k1 k2 k3 k5 newId) /\
   s₁.heap.get? e=some oe/\oe.cls=.ref C/\oe.data=.fields vs/\vs[1]?=some .none/\E (.ref e) s₁) E s) :
  wpAny M A (raiseStmt env (some x) none) Q E s:=by
 have hcB:(Value.ref C::bm).contains (.type "BaseException")=true:=by rw [List.contains_cons,hbase,Bool.or_true]
 unfold raiseStmt
 refine wpAny_bind (wpAny_mono h (fun v s₁ h₁=>?_) fun _ _ x=>x)
 obtain ⟨e,oe,vs,rfl,hC,he,hcl,hda,hv1,hE⟩:=h₁
 obtain ⟨hp,g,d,tk,os⟩:=s₁
 obtain ⟨oc,od,odt,osl⟩:=oe
 dsimp only at hcl hda
 subst hcl hda
 repeat (first | with_reducible refine wpAny_loadPart_at he ?_ | with_reducible refine wpAny_loadPart_at hC ?_ | (with_reducible refine wpAny_isSubtype_exc hC ?_; rw [hcB]) | wp_step)
 rw [hv1]
 repeat (first | wp_step)
 exact wpAny_raiseNew_none hh hE
end
theorem BX9 {f:Array Value->Array Value}(hf:∀ vs,(f vs)[2]?=vs[2]?):BP9 (Obj.mapFields f):=fun o=>by
 obtain ⟨oc,od,odt,osl⟩:=o
 cases odt with
 | fields vs=>exact ⟨rfl,rfl,fun ws e=>by cases e; exact ⟨_,rfl,hf _⟩⟩
 | _=>exact ⟨rfl,rfl,C2.refl _⟩
theorem AG6 {a:Addr}:KD (load a):=fun _=>trivial
theorem AG7 {v:Value}:KD (fieldsOf v):=by
 unfold fieldsOf
 split
 ·refine KD.bind AG6 fun o=>?_
  split <;> trivial
 ·trivial
theorem uC {v:Value}{i:Nat}:KD (field v i):=by
 unfold field
 refine KD.bind AG7 fun vs=>?_
 split <;> trivial
theorem kT {v x:Value}{i:Nat}(hi:i≠2:=by decide):KD (setField v i x):=by
 unfold setField
 split
 ·unfold updateField
  refine KD.bind AG6 fun o=>?_
  split
  ·split
   ·exact ⟨BX9 fun vs=>by rw [Array.getElem?_setIfInBounds_ne hi],trivial⟩
   ·trivial
  ·trivial
 ·trivial
theorem mH {v:Value}{f:Option Addr}:KD (setFlight v f):=by
 unfold setFlight
 refine KD.bind uC fun tb=>?_
 split
 ·exact kT (by decide)
 ·trivial
theorem BF7:KD underTheClaimsCaller:=by
 unfold underTheClaimsCaller
 first
  | exact KD.bind (fun _=>trivial) fun _=>trivial
  | (repeat (first | exact fun _=>trivial | trivial | refine KD.bind ?_ fun _=>?_ | split))
theorem AW7 {env:Env}{outer:List Env}:KD (behindIsImport env outer):=by
 unfold behindIsImport
 split
 ·trivial
 split
 ·trivial
 exact KD.bind uC fun _=>trivial
theorem AG8 {env:Env}{b:Bool}{outer:List Env}:KD (keptBack env b outer):=by
 unfold keptBack
 split
 ·split
  ·trivial
  ·exact KD.bind BF7 fun _=>trivial
 ·trivial
theorem AM4:∀ {l:List Env},KD (readyFrames l)
 | []=>trivial
 | env::outer=>by
  unfold readyFrames
  split
  ·refine KD.bind AG6 fun o=>?_
   split
   ·trivial
   ·refine KD.bind AW7 fun b=>KD.bind AG8 fun v=>KD.bind ⟨fun o=>?_,trivial⟩ fun _=>AM4
    refine ⟨rfl,?_,fun vs e=>⟨vs,e,rfl⟩⟩
    obtain ⟨oc,od,odt,osl⟩:=o
    cases odt <;> rfl
  ·trivial
theorem xL {env:Env}:KD (PySem.frameOf env):=by
 unfold PySem.frameOf
 refine KD.bind (show KD frameEnvs from KD.bind (t:=stack) (fun _=>trivial) fun _=>trivial) fun l=>KD.bind ?_ fun r=>?_
 ·unfold frameObject
  split
  ·trivial
  ·exact KD.bind AM4 fun _=>trivial
 ·split <;> trivial
theorem AM5 {f:Addr}{b:Bool}:KD (entryPlaceOf f b):=by
 unfold entryPlaceOf
 refine KD.bind (t:=stack) (fun _=>trivial) fun l=>?_
 split <;> trivial
theorem BQ1 {n:String}{dt:Data}:KD (newObjAsIs (.type n) dt):=by
 unfold newObjAsIs
 refine KD.bind (t:=alloc _) (fun _=>trivial) fun _=>?_
 trivial
theorem AM6 {a b c d e:Value}{l:List Value}:KD (EntryCells.newEntry a b c d e l):=by
 unfold EntryCells.newEntry newFields newObj
 dsimp only
 generalize ([a,b,c,d,e]++if l.isEmpty=true then List.replicate 6 Value.none else l).toArray=z
 split
 ·trivial
 ·exact BQ1
theorem AW8 {v:Value}{env:Env}:KD (noteFrame v env):=by
 unfold noteFrame
 split
 ·refine KD.bind uC fun hd=>?_
  dsimp only
  split
  ·refine KD.bind uC fun x=>?_
   split
   ·trivial
   ·exact KD.bind (kT (by decide)) fun _=>KD.bind xL fun _=>KD.bind AM5 fun _=>KD.bind AM6 fun _=>kT (by decide)
  ·exact KD.bind xL fun _=>KD.bind AM5 fun _=>KD.bind AM6 fun _=>kT (by decide)
 ·trivial
theorem xM {v:Value}{env:Env}:KD (leaving env v):=KD.bind AW8 fun _=>mH
abbrev vbm:List Value:=[.type "ValueError",.type "Exception",.type "BaseException",.type "object"]
theorem AM7 {P:Program}{w:World}{H:Hp}{h:Heap}{a:Addr}{o:HO}(x:ObjOk P w H h a o):∃ ob,h.get? a=some ob:=by
 cases o with
 | lst xs=>exact ⟨_,x.2.choose_spec.choose_spec.2⟩
 | tup xs=>exact let ⟨_,_,_,ob,e,_⟩:=x; ⟨ob,e⟩
 | dK kvs=>exact let ⟨_,_,_,_,ob,_,_,e,_⟩:=x; ⟨ob,e⟩
 | dT kvs=>exact let ⟨_,_,_,_,ob,_,_,e,_⟩:=x; ⟨ob,e⟩
 | set S n=>exact let ⟨ob,_,_,_,e,_⟩:=x; ⟨ob,e⟩
 | ins C dx fs=>exact let ⟨_,_,_,e,_⟩:=x; ⟨_,e⟩
 | own y=>exact x
 | xd fs=>exact let ⟨_,⟨ob,_,_,e,_⟩,_⟩:=x; ⟨ob,e⟩
 | rng lo hi=>exact let ⟨_,_,_,e⟩:=x; ⟨_,e⟩
 | frz ob u=>exact ⟨ob,x.1⟩
 | tbl ps=>exact ⟨_,show h.get? a=some _ from x⟩
 | met f y=>exact ⟨_,show h.get? a=some _ from x⟩
 | ext φ=>exact x.2.1
section
variable {M:Model}{A:Around}{E:Value->Shared->Prop}{s:Shared}
theorem AP5 {base:Heap}{env:Env}{outer:List Env}{L e:Addr}{cls a0:Value}{Q:Unit->Shared->Prop}(hfr:A.frames=some (env::outer))(hf:env.frame=some L)(hfl:Heap.FlyingW base (env::outer) e cls a0 s.heap)(hQ:∀ h',Heap.FlyingW base outer e cls a0 h'->s.heap.UpToSlots h'->DK s.heap h'->Q () { s with heap:=h' }):wpAny M A (leaving env (.ref e)) Q E s :=
 wpAny_mono (pP xM (wpAny_leaves_onW (Q:=fun _ s'=>∃ h',s'={ s with heap:=h' }/\Heap.FlyingW base outer e cls a0 h'/\s.heap.UpToSlots h') (E:=E) hfr hf hfl fun h' a b=>⟨h',rfl,a,b⟩))
  (fun _ s' ⟨⟨h',e1,a,b⟩,dk⟩=>by subst e1; exact hQ h' a b dk) fun _ _ x=>x.1
theorem AB3 {base:Heap}{env:Env}{outer:List Env}{L e:Addr}{cls a0:Value}{Q:Unit->Shared->Prop}(hfr:A.frames=some (env::outer))(hf:env.frame=some L)(hfl:Heap.FlyingW base (env::outer) e cls a0 s.heap)(hQ:∀ h',Heap.HeldW base (env::outer) e cls a0 L h'->s.heap.UpToSlots h'->DK s.heap h'->Q () { s with heap:=h' }):wpAny M A (noteFrame (.ref e) env) Q E s :=
 wpAny_mono (pP AW8 (wpAny_looks_onW (Q:=fun _ s'=>∃ h',s'={ s with heap:=h' }/\Heap.HeldW base (env::outer) e cls a0 L h'/\s.heap.UpToSlots h') (E:=E) hfr hf hfl fun h' a b=>⟨h',rfl,a,b⟩))
  (fun _ s' ⟨⟨h',e1,a,b⟩,dk⟩=>by subst e1; exact hQ h' a b dk) fun _ _ x=>x.1
theorem BL3 {base:Heap}{l:List Env}{e L:Addr}{cls a0:Value}{Q:Unit->Shared->Prop}(hh:Heap.HeldW base l e cls a0 L s.heap)(hQ:∀ h',Heap.FlyingW base l e cls a0 h'->s.heap.UpToSlots h'->DK s.heap h'->Q () { s with heap:=h' }):wpAny M A (setFlight (.ref e) none) Q E s :=
 wpAny_mono (pP mH (wpAny_landsW (Q:=fun _ s'=>∃ h',s'={ s with heap:=h' }/\Heap.FlyingW base l e cls a0 h'/\s.heap.UpToSlots h') (E:=E) hh fun h' a b=>⟨h',rfl,a,b⟩))
  (fun _ s' ⟨⟨h',e1,a,b⟩,dk⟩=>by subst e1; exact hQ h' a b dk) fun _ _ x=>x.1
theorem sQ {base:Heap}{l:List Env}{e:Addr}{cls a0:Value}{Q:Unit->Shared->Prop}(hh:Heap.FlyingW base l e cls a0 s.heap)(hQ:∀ h',Heap.FlyingW base l e cls a0 h'->s.heap.UpToSlots h'->DK s.heap h'->Q () { s with heap:=h' }):wpAny M A (setFlight (.ref e) none) Q E s :=
 wpAny_mono (pP mH (lands_againW (Q:=fun _ s'=>∃ h',s'={ s with heap:=h' }/\Heap.FlyingW base l e cls a0 h'/\s.heap.UpToSlots h') (E:=E) hh fun h' a b=>⟨h',rfl,a,b⟩))
  (fun _ s' ⟨⟨h',e1,a,b⟩,dk⟩=>by subst e1; exact hQ h' a b dk) fun _ _ x=>x.1
theorem yL {base:Heap}{env:Env}{outer:List Env}{L e:Addr}{oe:Obj}{vs:Array Value}{a0:Value}{Q:Unit->Shared->Prop}(hfr:A.frames=some (env::outer))(hl:s.heap.FunFrames base (env::outer))(hf:env.frame=some L)(he:s.heap.get? e=some oe)(hkb:base.StaysIn s.heap)(hen:base.get? e=none)(hd:oe.data=.fields vs)(h1:vs[1]?=some .none)(h0:vs[0]?=some a0)(hQ:∀ h',Heap.FlyingW base outer e oe.cls a0 h'->s.heap.UpToSlots h'->DK s.heap h'->Q () { s with heap:=h' }):wpAny M A (leaving env (.ref e)) Q E s :=
 wpAny_mono (pP xM (wpAny_leaving_firstW (Q:=fun _ s'=>∃ h',s'={ s with heap:=h' }/\Heap.FlyingW base outer e oe.cls a0 h'/\s.heap.UpToSlots h') (E:=E) hfr hl hf he hkb hen hd h1 h0
  fun h' hL=>let ⟨k1,⟨_,_,k2⟩,k3,k4⟩:=hL; ⟨h',rfl,⟨k1,hen,k2,k3⟩,k4⟩))
  (fun _ s' ⟨⟨h',e1,a,b⟩,dk⟩=>by subst e1; exact hQ h' a b dk) fun _ _ x=>x.1
end
def ChG (g:Nat)(h:Heap)(H:Hp)(vs:Array Value):Prop:=(g=0->vs[2]?=some .none)/\(g=1->vs[2]?=some .none\/∃ y oy ys,vs[2]?=some (.ref y)/\h.get? y=some oy/\H y=none/\oy.data=.fields ys/\ys[2]?=some .none)
theorem ChG.of0 {g:Nat}{h:Heap}{H:Hp}{vs:Array Value}(e:vs[2]?=some .none):ChG g h H vs:=⟨fun _=>e,fun _=>.inl e⟩
theorem ChG.kd {g:Nat}{h h':Heap}{H:Hp}{vs vs':Array Value}(q:ChG g h H vs)(dk:DK h h')(e:vs'[2]?=vs[2]?):ChG g h' H vs':=⟨fun z=>e.trans (q.1 z),fun z=>by
 rcases q.2 z with a | ⟨y,oy,ys,a,b,n,c,d⟩
 ·exact .inl (e.trans a)
 ·obtain ⟨oy',b',_,c'⟩:=dk y oy b
  obtain ⟨ys',d',e'⟩:=c' ys c
  exact .inr ⟨y,oy',ys',e.trans a,b',n,d',e'.trans d⟩⟩
def zW (P:Program)(w:World)(c:Nat):CXT:=fun outer H s E e s' =>
 ∃ (x:Addr) (cls a0:Value) (dx:Option Addr) (H':Hp) (B:Heap),e=.ref x/\s'.os=s.os/\AllBare s'.gens/\Un (frs outer) [] H H' s.heap s'.heap/\HOk P w H' s'.heap/\Heap.FlyingW B outer x cls a0 s'.heap /\
  (∀ b u,H' b=some u->∃ o,B.get? b=some o)/\(∀ b o,s.heap.get? b=some o->H b=none->b ∉ frs outer->B.get? b=some o)/\(∀ b o,s.heap.get? b=some o->b ∉ frs outer->∃ o',B.get? b=some o')/\(∃ oe,s'.heap.get? x=some oe/\oe.dict=dx/\(c < 2->∃ vs,oe.data=.fields vs/\ChG c s'.heap H' vs))/\E cls dx H'
abbrev CXF (P:Program)(w:World):CXT:=zW P w 0
theorem BQ2 {P:Program}{w:World}{c:Nat}{outer:List Env}{H:Hp}{s s':Shared}{E:XK}{e:Value}(h:zW P w 0 outer H s E e s'):zW P w c outer H s E e s':=by
 obtain ⟨x,cls,a0,dx,H',B,rfl,os,bare,un,hok,fl,cT,cO,cA,⟨oe,hoe,hdx,hc⟩,hE⟩:=h
 exact ⟨x,cls,a0,dx,H',B,rfl,os,bare,un,hok,fl,cT,cO,cA,⟨oe,hoe,hdx,fun _=>by obtain ⟨vs,a,b⟩:=hc (by decide); exact ⟨vs,a,ChG.of0 (b.1 rfl)⟩⟩,hE⟩
theorem BV1 {P:Program}{w:World}{outer:List Env}{H H':Hp}{h0 g h2 B:Heap}(un:Un (frs outer) [] H H' h0 g)(hok:HOk P w H' g)(sg:B.StaysIn g)(fr:g.FunFrames B outer)(cT:∀ b u,H' b=some u->∃ o,B.get? b=some o)(cO:∀ b o,h0.get? b=some o->H b=none->b ∉ frs outer->B.get? b=some o)(cA:∀ b o,h0.get? b=some o->b ∉ frs outer->∃ o',B.get? b=some o')(sh:B.StaysIn h2)(up:g.UpToSlots h2):Un (frs outer) [] H H' h0 h2/\HOk P w H' h2:=by
 have nf:∀ b∈frs outer,∀ o,g.get? b=some o->∀ vs,o.data≠.fields vs:=fun b hb o ho vs hd=>by
  obtain ⟨_,o',ho',hn⟩:=fr.mem hb
  rw [ho] at ho'
  cases ho'
  exact hn vs hd
 refine ⟨⟨fun b o q n hb _=>sh b o (cO b o q n hb),fun b o q n hb hx=>?_,un.free,fun b o q hx=>?_,un.tups,un.frzs,un.tbls⟩,fun b u e=>?_⟩
 ·obtain ⟨sl,e1⟩:=un.slot b o q n hb hx
  obtain ⟨sl2,e2⟩:=up b _ e1 (nf b hb _ e1)
  exact ⟨sl2,e2⟩
 ·by_cases hb:b∈frs outer
  ·obtain ⟨o',e1⟩:=un.there b o q hx
   obtain ⟨sl2,e2⟩:=up b _ e1 (nf b hb _ e1)
   exact ⟨_,e2⟩
  ·obtain ⟨o',e1⟩:=cA b o q hb
   exact ⟨o',sh _ _ e1⟩
 ·refine (hok b u e).stay (fun c v hc r=>?_) (fun _ q=>q) fun _ _ q=>q
  have tr:∃ u',H' c=some u':=by
   rcases hc with rfl | hc
   ·exact ⟨_,e⟩
   ·exact ⟨_,hc⟩
  obtain ⟨u',hu⟩:=tr
  obtain ⟨o',e1⟩:=cT c u' hu
  have e2:=sg _ _ e1
  rw [r] at e2
  cases e2
  exact sh _ _ e1
section
variable {X:Cx}{pins:List (Addr × Obj)}{σ:L2.St}{H H':Hp}{s:Shared}{h2 B:Heap}
theorem BL4 (I:Inv X pins σ H s)(hex:X.ex=[])(un:Un (frs X.stack) [] H H' s.heap h2)(cO:∀ b o,s.heap.get? b=some o->H b=none->b ∉ frs X.stack->B.get? b=some o)(cA:∀ b o,s.heap.get? b=some o->b ∉ frs X.stack->∃ o',B.get? b=some o') :
  Un (frs X.outer) [] X.H₀ H' X.s₀.heap h2/\(∀ b o,X.s₀.heap.get? b=some o->X.H₀ b=none->b ∉ frs X.outer->B.get? b=some o)/\∀ b o,X.s₀.heap.get? b=some o->b ∉ frs X.outer->∃ o',B.get? b=some o':=by
 have nx:∀ b:Addr,b ∉ X.ex:=fun b z=>by rw [hex] at z; cases z
 have nl:∀ b o,X.s₀.heap.get? b=some o->b ∉ frs X.outer->b ∉ frs X.stack:=fun b o q hb z=>by
  rcases List.mem_cons.mp (I.stkSub b z) with e | e
  ·exact absurd (Nat.lt_of_lt_of_le (Heap.lt_size q) I.ok.above) (by rw [e]; exact Nat.lt_irrefl _)
  ·exact hb e
 have ne:∀ b:Addr,b ∉ ([]:List Addr):=fun b=>by simp
 refine ⟨⟨fun b o q n hb _=>?_,fun b o q n hb _=>?_,fun b o q n _=>?_,fun b o q _=>?_,fun b xs q=>un.tups b xs (I.base.tups b xs q),fun b o u q=>un.frzs b o u (I.base.frzs b o u q),fun b ps q=>?_⟩,fun b o q n hb=>?_,fun b o q hb=>?_⟩
 ·exact un.keep b o (I.base.keep b o q n hb (nx b)) (I.base.free b o q n (nx b)) (nl b o q hb) (ne b)
 ·obtain ⟨sl,e1⟩:=I.base.slot b o q n hb (nx b)
  obtain ⟨sl2,e2⟩:=un.any e1 (I.base.free b o q n (nx b)) (ne b)
  exact ⟨sl2,e2⟩
 ·obtain ⟨o',e1⟩:=I.base.there b o q (nx b)
  exact un.free b o' e1 (I.base.free b o q n (nx b)) (ne b)
 ·obtain ⟨o',e1⟩:=I.base.there b o q (nx b)
  exact un.there b o' e1 (ne b)
 ·obtain ⟨m1,e1⟩:=I.base.tbls b ps q
  obtain ⟨m2,e2⟩:=un.tbls b _ e1
  exact ⟨m1++m2,by rw [e2,Array.append_assoc]⟩
 ·exact cO b o (I.base.keep b o q n hb (nx b)) (I.base.free b o q n (nx b)) (nl b o q hb)
 ·obtain ⟨o',e1⟩:=I.base.there b o q (nx b)
  exact cA b o' e1 (nl b o q hb)
theorem oF {c:Nat}{s':Shared}{e:Addr}{oe:Obj}{vs:Array Value}{a0:Value}{E:XK}{F:Value->Shared->Prop}(I:Inv X pins σ H s)(hst:X.stack=X.env::X.outer)(hf:X.env.frame=some X.env.locals)(hex:X.ex=[])(os:s'.os=s.os)(bare:AllBare s'.gens)(un:Un (frs X.stack) [] H H' s.heap s'.heap)(hok:HOk X.prog X.w H' s'.heap)(fe:s.heap.get? e=none)(nH:H' e=none)(he:s'.heap.get? e=some oe)(hd:oe.data=.fields vs)(h1:vs[1]?=some .none)(h0:vs[0]?=some a0)(hch:c < 2->ChG c s'.heap H' vs)(hE:E oe.cls oe.dict H') :
  wpAny (model X.prog X.w) X.A (leaving X.env (.ref e)) (fun _ s''=>zW X.prog X.w c X.outer X.H₀ X.s₀ E (.ref e) s'') F s':=by
 have I3:Inv X pins σ H' s':=I.call' (ch:=[]) os un hok bare (fun b z=>absurd z (by simp))
 have hin:∀ env∈X.stack,∀ a,env.frame=some a->a∈e::frs X.stack:=fun env he a ha=>List.mem_cons_of_mem _ (List.mem_filterMap.mpr ⟨env,he,ha⟩)
 have hl:s'.heap.FunFrames (hideAll s'.heap (e::frs X.stack)) X.stack:=funFrames_hide I3.stack hin
 have hkb:(hideAll s'.heap (e::frs X.stack)).StaysIn s'.heap:=fun b o q=>of_hideAll _ q
 have hen:(hideAll s'.heap (e::frs X.stack)).get? e=none:=hideAll_none _ (List.mem_cons_self ..)
 have nb:∀ b o,s.heap.get? b=some o->b≠e:=fun b o q z=>by rw [z,fe] at q; cases q
 refine yL (base:=hideAll s'.heap (e::frs X.stack)) (outer:=X.outer) (L:=X.env.locals) (by rw [<- hst]; exact I.ok.frames) (by rw [<- hst]; exact hl) hf he hkb hen hd h1 h0 fun h2 fl up dk=>?_
 have cT:∀ b u,H' b=some u->∃ o,(hideAll s'.heap (e::frs X.stack)).get? b=some o:=fun b u q=>by
  obtain ⟨o,ho⟩:=AM7 (hok b u q)
  refine ⟨o,hideAll_get _ ho fun z=>?_⟩
  rcases List.mem_cons.mp z with y | y
  ·rw [y,nH] at q; cases q
  ·rw [I3.stkFree b y] at q; cases q
 have cO:∀ b o,s.heap.get? b=some o->H b=none->b ∉ frs X.stack->(hideAll s'.heap (e::frs X.stack)).get? b=some o:=fun b o q n hb =>
  hideAll_get _ (un.keep b o q n hb (by simp)) fun z=>(List.mem_cons.mp z).elim (nb b o q) hb
 have cA:∀ b o,s.heap.get? b=some o->b ∉ frs X.stack->∃ o',(hideAll s'.heap (e::frs X.stack)).get? b=some o':=fun b o q hb=>by
  obtain ⟨o',q'⟩:=un.there b o q (by simp)
  exact ⟨o',hideAll_get _ q' fun z=>(List.mem_cons.mp z).elim (nb b o q) hb⟩
 obtain ⟨un1,hok1⟩:=BV1 (P:=X.prog) (w:=X.w) (H:=H) (H':=H') (h0:=s.heap) (g:=s'.heap) un hok hkb hl cT cO cA fl.1 up
 obtain ⟨un2,cO2,cA2⟩:=BL4 I hex un1 cO cA
 obtain ⟨oe',he',hd',c2⟩:=dk e oe he
 exact ⟨e,oe.cls,a0,oe.dict,H',_,rfl,os.trans I.os,bare,un2,hok1,fl,cT,cO2,cA2,⟨oe',he',hd',fun z=>by obtain ⟨vs',q1,q2⟩:=c2 vs hd; exact ⟨vs',q1,(hch z).kd dk q2⟩⟩,hE⟩
theorem AP6 {c:Nat}{h':Heap}{e:Addr}{cls:Value}{args:List Value}{E:XK}{F:Value->Shared->Prop}(I:Inv X pins σ H s)(hst:X.stack=X.env::X.outer)(hf:X.env.frame=some X.env.locals)(hex:X.ex=[])(hx:Heap.MadeExcOf s.heap h' e cls args)(hE:E cls none H) :
  wpAny (model X.prog X.w) X.A (leaving X.env (.ref e)) (fun _ s''=>zW X.prog X.w c X.outer X.H₀ X.s₀ E (.ref e) s'') F { s with heap:=h' }:=by
 obtain ⟨t,he,_,_⟩:=hx.there
 have nH:H e=none:=by
  cases z:H e with
  | none=>rfl
  | some u =>
   obtain ⟨o,ho⟩:=AM7 (I.hok e u z)
   rw [hx.new] at ho
   cases ho
 have hok:HOk X.prog X.w H h':=fun b u q=>(I.hok b u q).stay (fun c v _ r=>hx.keeps _ _ r) (fun _ q=>q) fun _ _ q=>q
 exact oF (s':={ s with heap:=h' }) I hst hf hex rfl I.bare ⟨fun b o q _ _ _=>hx.keeps _ _ q,fun b o q _ _ _=>⟨o.slots,hx.keeps _ _ q⟩,fun _ _ _ n _=>n,fun b o q _=>⟨o,hx.keeps _ _ q⟩,fun _ _ q=>q,fun _ _ _ q=>q,fun b ps q=>⟨#[],by rw [Array.append_empty]; exact q⟩⟩ hok hx.new nH he rfl rfl rfl (fun _=>ChG.of0 rfl) hE
theorem qX {c:Nat}{s':Shared}{e:Value}{E:XK}{F:Value->Shared->Prop}(I:Inv X pins σ H s)(hst:X.stack=X.env::X.outer)(hf:X.env.frame=some X.env.locals)(hex:X.ex=[])(hx:zW X.prog X.w c X.stack H s E e s') :
  wpAny (model X.prog X.w) X.A (leaving X.env e) (fun _ s''=>zW X.prog X.w c X.outer X.H₀ X.s₀ E e s'') F s':=by
 obtain ⟨x,cls,a0,dx,H',B,rfl,os,bare,un,hok,fl,cT,cO,cA,⟨oe,hoe,hdx⟩,hE⟩:=hx
 have fl':=fl
 rw [hst] at fl'
 refine AP5 (base:=B) (outer:=X.outer) (by rw [<- hst]; exact I.ok.frames) hf fl' fun h2 fl2 up dk=>?_
 obtain ⟨un1,hok1⟩:=BV1 (P:=X.prog) (w:=X.w) un hok fl.1 fl.2.2.1 cT cO cA fl2.1 up
 obtain ⟨un2,cO2,cA2⟩:=BL4 I hex un1 cO cA
 obtain ⟨oe2,hoe2,hd2,c2⟩:=dk x oe hoe
 exact ⟨x,cls,a0,dx,H',B,rfl,os.trans I.os,bare,un2,hok1,fl2,cT,cO2,cA2,⟨oe2,hoe2,hd2.trans hdx.1,fun z=>by obtain ⟨vs,q1,q2⟩:=hdx.2 z; obtain ⟨vs',q3,q4⟩:=c2 vs q1; exact ⟨vs',q3,q2.kd dk q4⟩⟩,hE⟩
end
abbrev xN (c:Nat)(P:Program)(w:World)(K:Frag)(mg:Str->Option Value)(base:Heap)(N:List Str)(qual:Str)(sc:Scope)(f:Addr)(cdv:Value)(A:Around)(outer:List Env)(s:Shared)(H:Hp)(E:XK):Cx :=
 AU5 (zW P w c) P w K mg base N qual sc f cdv A outer s H E
abbrev cxX (P:Program)(w:World)(K:Frag)(mg:Str->Option Value)(base:Heap)(N:List Str)(qual:Str)(sc:Scope)(f:Addr)(cdv:Value)(A:Around)(outer:List Env)(s:Shared)(H:Hp)(E:XK):Cx :=
 AU5 (CXF P w) P w K mg base N qual sc f cdv A outer s H E
section
variable {P:Program}{w:World}{K:Frag}{mg:Str->Option Value}{base:Heap}{N:List Str}{qual:Str}{sc:Scope}{f:Addr}{cdv:Value}{A:Around}{outer:List Env}{s:Shared}{H:Hp}{E:XK}
theorem BY0 {c:Nat}:kE (zW P w c) (xN c P w K mg base N qual sc f cdv A outer s H E) E:=fun pins σ H1 s1 e s' I hx=>qX I rfl rfl rfl hx
theorem BL5 {c:Nat}:kE (CXF P w) (xN c P w K mg base N qual sc f cdv A outer s H E) E:=fun pins σ H1 s1 e s' I hx=>qX I rfl rfl rfl (BQ2 hx)
theorem dP:kE (CXF P w) (cxX P w K mg base N qual sc f cdv A outer s H E) E:=fun pins σ H1 s1 e s' I hx=>qX I rfl rfl rfl hx
theorem jL {pins:List (Addr × Obj)}{σ:L2.St}{H1:Hp}{s1:Shared}{h':Heap}{e:Addr}{cls:Value}{args:List Value}(I:Inv (cxX P w K mg base N qual sc f cdv A outer s H E) pins σ H1 s1)(hx:Heap.MadeExcOf s1.heap h' e cls args)(hE:E cls none H1):(cxX P w K mg base N qual sc f cdv A outer s H E).xe (.ref e) { s1 with heap:=h' }:=AP6 I rfl rfl rfl hx hE
theorem gM {X:Cx}{c:Nat}:kE (zW P w c) X E0:=fun pins σ H1 s1 e s' I hx=>by
 obtain ⟨_,_,_,_,_,_,_,_,_,_,_,_,_,_,_,_,hE⟩:=hx
 exact hE.elim
theorem FnOk.up {k:Nat}{fd:FuncData}{ps:List Str}{sp:Sp}{CX:CXT}(F:FnOk P w K mg base CX0 k f fd ps sp):FnOk P w K mg base CX k f fd ps sp :=
 ⟨F.len,fun A outer s H args us vs Q E hr he hb hv hs=>codeAny_mono (F.run A outer s H args us vs Q E hr he hb hv hs) fun r s' q=>by
  cases r with
  | ok fl=>cases fl <;> exact q
  | error e=>exact (show False from q).elim⟩
theorem Fun.okW {c:Nat}{x qual:Str}{st:Stmt}{fd:FuncData}{ps:List Str}{k:Nat}{sp:Sp}(F:Fun K x qual st f fd)(S:FnScope N ps (aI st))(len:∀ vs H Q E,sp vs H Q E->vs.length=ps.length)(hbody:∀ (cdv:Value) (A:Around) (outer:List Env) (s:Shared) (H:Hp) (vs:List V) (Q:VK) (E:XK),Room k (A.deeper (envOfC qual (aI st) s.heap.objs.size f cdv))->sp vs H Q E ->
   ∃ t,PSs (xN c P w K mg base N qual (aI st) f cdv A outer s H E) (cK st) t/\t { nx:=fun _ H'=>Q .non H',rt:=Q } (L2.start N vs) H):FnOk P w K mg base (zW P w c) (k+1) f fd ps sp:=by
 obtain ⟨oc,od,kV,doc,pm,an,cdv,ct,osl,rfl,lk,hcd⟩:=F.ex
 exact AU6 lk hcd S len fun A outer s H vs Q E hr hsp=>hbody cdv A outer s H vs Q E hr hsp
theorem Fun.okX {x qual:Str}{st:Stmt}{fd:FuncData}{ps:List Str}{k:Nat}{sp:Sp}(F:Fun K x qual st f fd)(S:FnScope N ps (aI st))(len:∀ vs H Q E,sp vs H Q E->vs.length=ps.length)(hbody:∀ (cdv:Value) (A:Around) (outer:List Env) (s:Shared) (H:Hp) (vs:List V) (Q:VK) (E:XK),Room k (A.deeper (envOfC qual (aI st) s.heap.objs.size f cdv))->sp vs H Q E ->
   ∃ t,PSs (cxX P w K mg base N qual (aI st) f cdv A outer s H E) (cK st) t/\t { nx:=fun _ H'=>Q .non H',rt:=Q } (L2.start N vs) H):FnOk P w K mg base (CXF P w) (k+1) f fd ps sp:=by
 obtain ⟨oc,od,kV,doc,pm,an,cdv,ct,osl,rfl,lk,hcd⟩:=F.ex
 exact AU6 lk hcd S len fun A outer s H vs Q E hr hsp=>hbody cdv A outer s H vs Q E hr hsp
end
theorem AG9 {K:Frag}{h:Heap}{C:Addr}{bmB:List Value}{nw:String}(Z:K.In h)(q:excIn K C bmB nw=true) :
  ∃ bm N nm qn bs hd sn sub ab col dd k0 k1 k2 k3 k5 mN,h.get? C=some (excClassObj nm qn C N bs bm hd sn sub ab col dd k0 k1 k2 k3 k5 nw)/\h.Ns N mN/\mN "__init__"=none/\OwnTail h bmB bm:=by
 unfold excIn at q
 split at q
 ·rename_i dd cd sl lk
  split at q
  ·rename_i C' bm k0 k1 k2 k3 n k5 hm hs
   simp only [Bool.and_eq_true,beq_iff_eq,Bool.not_eq_true'] at q
   obtain ⟨⟨⟨⟨⟨z1,z2⟩,z3⟩,z4⟩,z5⟩,z6⟩:=q
   subst z1 z2
   obtain ⟨nm,bs,mro,ns,qn,hd,sn,sub,ab,col,del⟩:=cd
   dsimp only at hm z3 z5 z6
   subst hm z3
   obtain ⟨l⟩:=sl
   dsimp only at hs
   subst hs
   exact ⟨bm,ns,nm,qn,bs,hd,sn,sub,ab,col,dd,k0,k1,k2,k3,k5,h.nsMap ns,Z _ _ lk,.of_isNs (isNs_of_in Z z5),nsMap_none_of_in Z z5 z6,tail_of_in Z z4⟩
  ·exact absurd q Bool.false_ne_true
 ·exact absurd q Bool.false_ne_true
def BL6 (R:Hp->Prop):TS:=fun _ _ H=>R H
theorem dL {X:Cx}{x:Str}{C:Addr}{m:Str}{j:Nat}{np ap cpos pos:Pos}{R:Hp->Prop}(hc:X.calm=true)(hg:Gl X x)(hm:X.mg x=some (.ref C))(q:excIn X.K C vbm "ValueError.__new__"=true)(hxe:∀ pins σ H s h' e args,Inv X pins σ H s->Heap.MadeExcOf s.heap h' e (.ref C) args->R H->X.xe (.ref e) { s with heap:=h' })(hd:(x == ("__debug__":Str))=false:=by decide) :
  PS X (.Raise (some (.Call (.Name x np) [.Constant (.str m) j ap] [] cpos)) none pos) (BL6 R):=by
 intro pins s σ H D I h
 obtain ⟨bm,N,nm,qn,bs,hd',sn,sub,ab,col,dd,k0,k1,k2,k3,k5,mN,hC,hN,hni,T⟩:=AG9 I.kIn q
 refine wpAny_Raise_call_subT (C:=C) (nm:=nm) (q:=qn) (N:=N) (bs:=bs) (bm:=bm) (hdct:=hd') (sn:=sn) (sub:=sub) (ab:=ab) (col:=col) (dd:=dd) (k0:=k0) (k1:=k1) (k2:=k2) (k3:=k3) (k5:=k5) PySem.F.excBase_ValueError (mN:=mN) (T.hasType PySem.F.excBase_ValueError.hasBase) (I.ok.hd hc) rfl hni (iK I hg hm ⟨rfl,?_⟩ hd)
 refine Calls.evalArgs_plain (Calls.spliced_cons (Calls.Constant_str (k:=j) (pos:=ap) (Calls.spliced_nil ?_)))
 exact ⟨rfl,sz8 (show 1<=1000 by decide),hC,hN,T,fun h' e hm=>hxe pins σ H _ h' e _ (I.tok _) hm h⟩
section
variable {X:Cx}{pins:List (Addr × Obj)}{σ:L2.St}{H H':Hp}{s:Shared}
abbrev cxE (X:Cx)(v:Value):Cx:={ X with A:=X.A.mark (some v),calm:=false }
theorem uD (I:Inv X pins σ H s)(v:Value):Inv (cxE X v) pins σ H s :=
 ⟨⟨I.ok.mod,I.ok.kind,I.ok.glob,I.ok.blt,I.ok.above,I.ok.inj,I.ok.has,I.ok.cab,(fun z=>nomatch z),I.ok.frames,I.ok.stk,I.ok.exf,I.ok.bs,I.ok.bsz,I.ok.noex,I.ok.exfs,I.ok.funs,I.ok.frf⟩,I.os,I.bare,I.base,I.loc,I.cell,I.free,I.freeC,I.pin,I.hok,I.len⟩
theorem nI {v:Value}(ok:X.Ok)(I:Inv (cxE X v) pins σ H s):Inv X pins σ H s :=
 ⟨ok,I.os,I.bare,I.base,I.loc,I.cell,I.free,I.freeC,I.pin,I.hok,I.len⟩
theorem CB6 {M:Model}{A:Around}{E:Value->Shared->Prop}{n:Str}{i:Nat}{pos:Pos}{Q:Unit->Shared->Prop}(I:Inv X pins σ H s)(hN:X.N.Nodup)(hi:X.N[i]?=some n)(hl:X.env.kindOf n=some .local)(h:∀ s',Inv X pins (σ.set i none) H s'->Q () s'):wpAny M A (do bindName X.env n .none; unbindBehindTheSuite X.env n pos) Q E s:=by
 obtain ⟨m,hn,hl'⟩:=id I.loc
 have hiσ:i < σ.length:=by rw [I.len]; exact (List.getElem?_eq_some_iff.mp hi).1
 refine wpAny_nameGoes_keeps hl hn (by rw [I.ok.kind]; rfl) fun h' v hn' hs=>h _ ?_
 have ltL:∀ b o,X.s₀.heap.get? b=some o->b≠X.env.locals:=fun b o e=>Nat.ne_of_lt (Nat.lt_of_lt_of_le (Heap.lt_size e) I.ok.above)
 have hok:HOk X.prog X.w H h':=fun b ob e=>by
  refine (I.hok b ob e).stay (fun c w' hc q=>(hs.2 c ?_).trans q) (fun _ q=>q) fun _ _ q=>q
  intro z
  rcases hc with y | y
  ·rw [<- y,z,I.free] at e; cases e
  ·rw [z,I.free] at y; cases y
 refine ⟨I.ok,I.os,I.bare,⟨fun b o e k hb hx=>?_,fun b o e k hb hx=>?_,I.base.free,fun b o e hx=>?_,I.base.tups,I.base.frzs,I.base.tbls⟩,⟨_,hn',fun j y v' e1 e2 e3=>?_⟩,fun y c e=>?_,I.free,I.freeC,fun p hp=>?_,hok,?_⟩
 ·exact (hs.2 b (ltL b o e)).trans (I.base.keep b o e k hb hx)
 ·obtain ⟨sl,q⟩:=I.base.slot b o e k hb hx
  exact ⟨sl,(hs.2 b (ltL b o e)).trans q⟩
 ·obtain ⟨o',q⟩:=I.base.there b o e hx
  exact ⟨o',(hs.2 b (ltL b o e)).trans q⟩
 ·by_cases hj:j=i
  ·rw [hj,List.getElem?_set_self hiσ] at e2
   cases e2
  ·rw [List.getElem?_set_ne (Ne.symm hj)] at e2
   obtain ⟨u,r,q⟩:=hl' j y v' e1 e2 e3
   refine ⟨u,r,?_⟩
   rcases q with ⟨k,e⟩ | ⟨k,c,e,z⟩
   ·have ny:y≠n:=fun z=>hj (yC hN e1 (z ▸ hi))
    exact .inl ⟨k,by show (if y=n then v else m y)=some u; rw [if_neg ny]; exact e⟩
   ·exact .inr ⟨k,c,e,z.sameBut hs (I.cne y c e)⟩
 ·obtain ⟨w',z⟩:=I.cell y c e
  exact ⟨w',z.sameBut hs (I.cne y c e)⟩
 ·obtain ⟨e,k,ne,nf,d⟩:=I.pin p hp
  exact ⟨(hs.2 p.1 ne).trans e,k,ne,nf,d⟩
 ·rw [List.length_set]; exact I.len
def tD (x:Addr)(cls:Value)(h:Heap):Prop:=∃ ob,h.get? x=some ob/\ob.cls=cls
def excAtD (x:Addr)(cls:Value)(dx:Option Addr)(h:Heap):Prop:=∃ ob,h.get? x=some ob/\ob.cls=cls/\ob.dict=dx/\∃ vs,ob.data=.fields vs
def kF (x:Addr)(cls:Value)(dx:Option Addr):HO:=.ext (excAtD x cls dx)
def CF5 (K:Frag)(CB:Addr)(i:Nat)(sp:Sp)(t:TA)(ts:TS):TS:=fun D σ H=>t σ H fun vs H1=>sp vs H1 (fun _ H2=>D.nx σ H2) fun cls dx H2=>exmOne K cls (.ref CB)=some true /\
 ∀ x,H2 x=none->ts { nx:=fun σ' H3=>D.nx (σ'.set i none) H3,rt:=D.rt,bk:=fun σ' H3=>D.bk (σ'.set i none) H3,ct:=fun σ' H3=>D.ct (σ'.set i none) H3 } (σ.set i (some (.ref x))) (L2.upd H2 x (kF x cls dx))
theorem AP7 {c:Nat}{x cn n:Str}{i k:Nat}{f CB:Addr}{fd:FuncData}{ps:List Str}{sp:Sp}{e:Expr}{es:List Expr}{t:TA}{b₀:Stmt}{suite:List Stmt}{ts:TS}{p pos pos' cp hpos tpos:Pos}(hst:X.stack=X.env::X.outer)(hf:X.env.frame=some X.env.locals)(hnx:∀ v s,¬ X.xe v s)(F:FnOk X.prog X.w X.K X.mg X.base (zW X.prog X.w c) k f fd ps sp)(hr:Room k X.A)(hg:Gl X x)(hm:X.mg x=some (.ref f))(hk:keepIn X.K (.ref f)=true)(hb:Binds X.K fd ps [])(ha:PA X (e::es) t)(hgC:Gl X cn)(hmC:X.mg cn=some (.ref CB))(hN:X.N.Nodup)(hi:X.N[i]?=some n)(hl:X.env.scope.names.lookup n=some .local)(hs:∀ v:Value,PSs (cxE X v) (b₀::suite) ts)(hdb:(x == ("__debug__":Str))=false:=by decide)(hdc:(cn == ("__debug__":Str))=false:=by decide)(he:starEach (e::es) X.env=(false,eval e X.env)::starEach es X.env:=by rfl)(hpl:(backTo pos (starEach es X.env)).any (·.1)=false:=by rfl)(hsw:swapsWith (.Call (.Name x p) (e::es) [] pos) none pos'.line X.env=pure false:=by rfl) :
  PS X (.Try [.Expr (.Call (.Name x p) (e::es) [] pos) pos'] [.ExceptHandler (some (.Name cn cp)) (some n) (b₀::suite) hpos] [] [] tpos) (CF5 X.K CB i sp t ts):=by
 intro pins s σ H D I h
 refine wpAny_Try_except (wpAny_execs_cons (wpAny_Expr_any ?_ I.quiet hsw))
 refine wpAny_Call_Name_kw (iK I hg hm ?_ hdb)
 refine callWith_K (h₀:=X.base) I.ok.mod.kin hk (wpAny_mono (ha pos pins s σ H _ I h) (fun us s1 q1=>?_) fun _ _ z=>(hnx _ _ z).elim) he hpl
 obtain ⟨vs,H1,I1,r,q⟩:=q1
 refine ⟨I1.kIn,?_⟩
 have hlen:us.length=ps.length:=by rw [<- r.length]; exact F.len _ _ _ _ q
 have hbind:=hb s1 us I1.kIn (by rw [List.append_nil]; exact hlen)
 rw [List.append_nil] at hbind
 refine wpAny_call (codeAny_mono (F.run X.A X.stack s1 H1 ⟨us,[]⟩ us vs _ _ hr I1.env0 hbind r q) fun res s' hq=>?_)
 cases res with
 | ok fl =>
  cases fl with
  | ret u =>
   obtain ⟨v,H2,I2,_,q2⟩:=I1.after hq
   exact wpAny_execs_nil (wpAny_execs_nil ⟨σ,H2,I2,q2⟩)
  | next=>exact False.elim hq
  | brk=>exact False.elim hq
  | cont=>exact False.elim hq
 | error ev =>
  obtain ⟨x',cls,a0,dx,H2,B,rfl,os,bare,un,hok,fl,cT,cO,cA,⟨oe0,hoe0,hdx0⟩,hm1,hE⟩:=hq
  have fl':=fl
  rw [hst] at fl'
  refine AB3 (base:=B) (outer:=X.outer) (L:=X.env.locals) (by rw [<- hst]; exact I1.ok.frames) hf fl' fun h4 held4 up4 dk4=>?_
  refine BL3 held4 fun h5 fl5 up5 dk5=>?_
  rw [<- hst] at fl5
  obtain ⟨un5,hok5⟩:=BV1 (P:=X.prog) (w:=X.w) un hok fl.1 fl.2.2.1 cT cO cA fl5.1 (up4.trans up5)
  have I5:Inv X pins σ H2 { s' with heap:=h5 }:=I1.call' (s':={ s' with heap:=h5 }) (ch:=[]) os un5 hok5 bare (fun b z=>absurd z (by simp))
  have X5:=uD I5 (.ref x')
  have ty5:Looks (model X.prog X.w) h5 (typeOf (.ref x')) cls:=by
   obtain ⟨ob,hob,hc⟩:=fl5.there
   subst hc
   exact (Looks.ld hob).andThen .now
  refine wpAny_handleBy_cons (codeAny_handlers_test (iK X5 hgC hmC ((exm_one I5.kIn ty5 hm1).here ?_) hdc)) (by intro z; cases z)
  refine codeAny_handlers_suite_as ?_
  refine sQ fl5 fun h6 fl6 up6 dk6=>?_
  obtain ⟨un6,hok6⟩:=BV1 (P:=X.prog) (w:=X.w) un5 hok5 fl5.1 fl5.2.2.1 cT cO cA fl6.1 up6
  obtain ⟨ob,vs6,hob,hcl,hdt6,_⟩:=fl6.first
  have hdx:ob.dict=dx:=by
   obtain ⟨o1,g1,d1,_⟩:=dk4 x' oe0 hoe0
   obtain ⟨o2,g2,d2,_⟩:=dk5 x' o1 g1
   obtain ⟨o3,g3,d3,_⟩:=dk6 x' o2 g2
   rw [hob] at g3
   cases g3
   rw [d3,d2,d1,hdx0.1]
  have nH:H2 x'=none:=by
   cases z:H2 x' with
   | none=>rfl
   | some u =>
    obtain ⟨o,ho⟩:=cT x' u z
    rw [fl.2.1] at ho
    cases ho
  have nS:∀ o,s1.heap.get? x'≠some o:=fun o ho=>by
   by_cases hx':x'∈frs X.stack
   ·obtain ⟨_,o',ho',hn'⟩:=fl6.2.2.1.mem hx'
    obtain ⟨oe,ws,hoe,_,hoed,_⟩:=fl6.first
    rw [hoe] at ho'
    cases ho'
    exact hn' _ hoed
   ·obtain ⟨o',ho'⟩:=cA x' o ho hx'
    rw [fl.2.1] at ho'
    cases ho'
  have hT:∀ b u,H2 b=some u->L2.upd H2 x' (kF x' cls dx) b=some u:=fun b u z=>by rw [aJ (aQ z nH)]; exact z
  have un7:Un (frs X.stack) [] H1 (L2.upd H2 x' (kF x' cls dx)) s1.heap h6 :=
   ⟨un6.keep,un6.slot,fun b o q n hx=>by
    have nb:b≠x':=fun z=>nS o (by rw [<- z]; exact q)
    rw [aJ nb]
    exact un6.free b o q n hx,un6.there,fun b xs z=>hT _ _ (un6.tups b xs z),fun b o u z=>hT _ _ (un6.frzs b o u z),fun b ps z=>by
    obtain ⟨m1,e1⟩:=un6.tbls b ps z
    exact ⟨m1,hT _ _ e1⟩⟩
  have hok7:HOk X.prog X.w (L2.upd H2 x' (kF x' cls dx)) h6:=fun b u z=>by
   by_cases hbx:b=x'
   ·subst hbx
    rw [aA] at z
    cases z
    exact ⟨⟨ob,hob,hcl,hdx,vs6,hdt6⟩,⟨ob,hob⟩,fun h1 h2 ⟨o1,q1,q2⟩ k=>⟨o1,k _ q1,q2⟩⟩
   ·rw [aJ hbx] at z
    exact (hok6 b u z).stay (fun _ _ _ q=>q) (fun c q=>hT _ _ q) fun c xs q=>hT _ _ q
  have I6:Inv X pins σ (L2.upd H2 x' (kF x' cls dx)) { s' with heap:=h6 }:=I1.call' (s':={ s' with heap:=h6 }) (ch:=[]) os un7 hok7 bare (fun b z=>absurd z (by simp))
  refine nC (X:=cxE X (.ref x')) (uD I6 (.ref x')) hN hi (.inl hl) (v:=.ref x') rfl (fun s7 I7=>?_) (.inr hl)
  refine wpAny_mono (hs (.ref x') pins s7 _ _ _ I7 (hE x' nH)) (fun f8 s8 q8=>?_) fun _ _ z=>(hnx _ _ z).elim
  cases f8 with
  | next =>
   obtain ⟨σ8,H8,I8,q8⟩:=q8
   exact CB6 (nI I1.ok I8) hN hi hl fun s9 I9=>⟨_,H8,I9,q8⟩
  | brk =>
   obtain ⟨σ8,H8,I8,q8⟩:=q8
   exact CB6 (nI I1.ok I8) hN hi hl fun s9 I9=>⟨_,H8,I9,q8⟩
  | cont =>
   obtain ⟨σ8,H8,I8,q8⟩:=q8
   exact CB6 (nI I1.ok I8) hN hi hl fun s9 I9=>⟨_,H8,I9,q8⟩
  | ret u =>
   obtain ⟨v,σ8,H8,I8,r8,q8⟩:=q8
   exact CB6 (nI I1.ok I8) hN hi hl fun s9 I9=>⟨v,_,H8,I9,r8,q8⟩
end
end Bw
set_option maxHeartbeats 400000
namespace Bw
open PySem PySem.Spec PyProof.Rows L2 PySem.W
section
variable {prog:Program}{w:World}{A:Around}{E:Value->Shared->Prop}{K:Frag}{h:Heap}{g:Array GenState}{d:Drawn}{t:Nat}{os:OsState}{x C:Addr}
structure ExcK (K:Frag) (C:Addr):Prop where
 ga:findIn K (.ref C) "__getattribute__"=some (some (.builtin "BaseException.__getattribute__"))
 gt:findIn K (.ref C) "__getattr__"=some none
 cl:findIn K (.ref C) "__class__"=some (some (.builtin "object.__class__"))
 mB:mroIn K C (.type "BaseException")=some true
 mO:mroIn K C (.type "object")=some true
 cls:(clsIn K C).isSome=true
theorem excAtD.at {cls:Value}{dx:Option Addr}(p:excAtD x cls dx h):tD x cls h:=let ⟨ob,a,b,_⟩:=p; ⟨ob,a,b⟩
theorem AB4 {cls:Value}(p:tD x cls h)(M:Model):Looks M h (typeOf (.ref x)) cls:=by
 obtain ⟨ob,h1,h2⟩:=p
 exact h2 ▸ (Looks.ld h1).andThen .now
theorem BQ3 {tp:Value}{R:Result->Shared->Prop}(Z:K.In h)(F:ExcK K C)(p:tD x (.ref C) h)(hq:R (.ok (.ret (.ref C))) ⟨h,g,d,t,os⟩) :
  codeAny (model prog w) A (.call (.builtin "getset_descriptor.__get__") ⟨[.builtin "object.__class__",.ref x,tp],[]⟩) R ⟨h,g,d,t,os⟩:=by
 have L0:=AB4 p (model prog w)
 have L1:=looks_mroIn (M:=model prog w) Z F.mO
 refine codeAny_call_builtin KF.slot_gs.plain KF.entry_gs (KF.slot_gs.check _ _ _ _ _ _ _ _ KF.type_class (KF.args_gs _ _ _) ?_)
 unfold Builtin.«getset_descriptor.__get__» Builtin.Getset_descriptor.descrGet
 rw [dga_obj]
 refine wpAny_bind (wpAny_pure ?_)
 unfold Builtin.Getset_descriptor.descrGetter Builtin.Getset_descriptor.descrCheckInstance Builtin.Getset_descriptor.descrNameAndClass isInstance
 simp only [KF.owner_class]
 repeat lk
 refine ⟨Code.quiet_builtin _ (by decide +kernel),codeAny_builtin KF.entry_class ?_⟩
 unfold Builtin.«object.__class__» shownTypeOf
 repeat lk
 exact hq
theorem AW9 {tk:Tok}{Q:Fin->Shared->Prop}(Z:K.In h)(F:ExcK K C)(p:tD x (.ref C) h)(hq:Q (.done (.ret (.ref C))) ⟨h,g,d,t,os⟩) :
  wpAny (model prog w) A (Builtin.«object.__getattribute__» ⟨[.ref x,.str "__class__" tk],[]⟩) Q E ⟨h,g,d,t,os⟩:=by
 have L0:=AB4 p (model prog w)
 have L1:=looks_findIn (M:=model prog w) Z F.cl
 have hT5:(⟨h,g,d,t,os⟩:Shared).TypeIs (.builtin "object.__class__") "getset_descriptor":=PySem.F.typeOf_object_class
 have f5:=PySem.F.typeOf_object_class
 have f6:=PySem.F.slot_gs_get.lookup
 have f7:=PySem.F.slot_gs_set.lookup
 repeat (any_goals (first | assumption | (with_reducible refine Looks.at (by assumption) ?_) | wp_step))
 refine BQ3 Z F p ?_
 repeat (any_goals (first | assumption | wp_step))
theorem BQ4 {M:Model}(Z:K.In h)(F:ExcK K C)(p:tD x (.ref C) h):Looks M h (isInstance (.ref x) (.type "BaseException")) true:=(AB4 p M).andThen (looks_mroIn Z F.mB)
theorem BQ5:builtinKind "BaseException.__getattribute__"=some .slot:=by decide +kernel
theorem BF8:splitId "BaseException.__getattribute__"=some ("BaseException","__getattribute__"):=by decide +kernel
theorem AB5 {M:Model}{nameV:Value}{Q:Unit->Shared->Prop}(Z:K.In h)(F:ExcK K C)(p:tD x (.ref C) h)(hq:Q () ⟨h,g,d,t,os⟩) :
  wpAny M A (checkBuiltinCall "BaseException.__getattribute__" ⟨[.ref x,nameV],[]⟩) Q E ⟨h,g,d,t,os⟩:=by
 have ha:=PySem.F.args_bexc_ga (.ref x) nameV
 simp only [checkBuiltinCall,BQ5,BF8]
 refine wpAny_bind ((BQ4 (M:=M) Z F p).here (s:=⟨h,g,d,t,os⟩) ?_)
 repeat wp_step
 exact hq
theorem BF9 {tk:Tok}{R:Result->Shared->Prop}(Z:K.In h)(F:ExcK K C)(p:tD x (.ref C) h)(hq:R (.ok (.ret (.ref C))) ⟨h,g,d,t,os⟩) :
  codeAny (model prog w) A (.call (.builtin "BaseException.__getattribute__") ⟨[.ref x,.str "__class__" tk],[]⟩) R ⟨h,g,d,t,os⟩ :=
 codeAny_call_builtin PySem.F.excAttr_ValueError.ga.plain PySem.F.entry_bexc_ga (AB5 Z F p (AW9 Z F p hq))
theorem BY1 {tk:Tok}{Q:Value->Shared->Prop}(Z:K.In h)(F:ExcK K C)(p:tD x (.ref C) h)(hq:Q (.ref C) ⟨h,g,d,t,os⟩) :
  wpAny (model prog w) A (getAttrBy (.ref x) (.str "__class__" tk) false) Q E ⟨h,g,d,t,os⟩:=by
 have L0:=AB4 p (model prog w)
 have L1:=looks_findIn (M:=model prog w) Z F.ga
 have L2:=looks_findIn (M:=model prog w) Z F.gt
 have f3:=PySem.F.excAttr_ValueError.ga.bind (.ref x)
 have hx2:(Value.builtin "BaseException.__getattribute__" == Value.builtin "object.__getattribute__")=false:=by decide +kernel
 have hx1:(onTheHeap (Value.ref C) && Value.builtin "BaseException.__getattribute__" == Value.builtin "object.__getattribute__")=false:=by rw [hx2]; rfl
 repeat (any_goals (first | assumption | (with_reducible refine Looks.at (by assumption) ?_) | wp_step))
 refine BF9 Z F p ?_
 repeat (any_goals (first | assumption | wp_step))
theorem BG0 {Q:Option Value->Shared->Prop}(Z:K.In h)(F:ExcK K C)(p:tD x (.ref C) h)(hq:Q (some (.ref C)) ⟨h,g,d,t+1,os⟩) :
  wpAny (model prog w) A (getAttr? (.ref x) "__class__") Q E ⟨h,g,d,t,os⟩:=by
 unfold getAttr? getAttrBy?
 repeat (any_goals (first | assumption | with_reducible apply BY1 Z F p | wp_step))
theorem AM8 (F:ExcK K C):KitX K (.ref x) (.ref C) (tD x (.ref C)) where
 ty:=fun M _ _ p=>AB4 p M
 it:=fun M h' Z _=>by
  obtain ⟨cd,hcd⟩:=Option.isSome_iff_exists.mp F.cls
  unfold clsIn at hcd
  split at hcd
  ·rename_i lk
   intro A' Q' E' s' k q
   unfold isType loadHead
   exact wpAny_bind (wpAny_loadPart (k _ _ (Z _ _ lk)) (wpAny_pure q))
  ·cases hcd
 ne:=fun h' tp dd its n sl Z htp=>by
  obtain ⟨cd,hcd⟩:=Option.isSome_iff_exists.mp F.cls
  refine Bool.eq_false_iff.mpr fun q=>?_
  have e:C=tp:=Value.ref.inj (beq_iff_eq.mp q)
  subst e
  unfold clsIn at hcd
  split at hcd
  ·rename_i lk
   have z:=(Z _ _ lk).symm.trans htp
   cases z
  ·cases hcd
 ca:=fun {prog w A E Q s} Z p k=>by
  obtain ⟨h1,g1,d1,t1,os1⟩:=s
  exact BG0 Z F p k
end
section
variable {X:Cx}
def XAt (H:Hp)(x C:Addr):Prop:=∃ dx,H x=some (kF x (.ref C) dx)
def CF6 (K:Frag)(C:Addr):List V->Hp->VK->Prop:=fun xs H Q=>∃ (x:Addr) (c:V) (cv:Value) (b:Bool),xs=[.ref x,c]/\RelV c cv/\XAt H x C/\kitOne K (.ref C) cv=some b/\Q (.bl b) H
theorem AX0 {C:Addr}(F:ExcK X.K C):kD X (.builtin "isinstance") (CF6 X.K C):=by
 intro pins s σ H xs us Q I r h
 obtain ⟨x,c,cv,b,rfl,rc,⟨dx,hx⟩,e,q⟩:=h
 obtain ⟨u,w',rfl,rx,rc'⟩:=AT8 r
 cases (show u=Value.ref x from rx)
 have hw:w'=cv:=by
  cases c with
  | ref a=>exact (show w'=Value.ref a from rc').trans (show cv=Value.ref a from rc).symm
  | ty n=>exact (show w'=Value.type n from rc').trans (show cv=Value.type n from rc).symm
  | non=>exact (show w'=Value.none from rc').trans (show cv=Value.none from rc).symm
  | bl z=>exact (show w'=Value.bool z from rc').trans (show cv=Value.bool z from rc).symm
  | int i =>
   obtain ⟨t,rfl⟩:=rc
   exact absurd e (by unfold kitOne kitCls; simp)
  | str i =>
   obtain ⟨t,rfl⟩:=rc
   exact absurd e (by unfold kitOne kitCls; simp)
  | byt i =>
   obtain ⟨t,rfl⟩:=rc
   exact absurd e (by unfold kitOne kitCls; simp)
  | flt i =>
   obtain ⟨t,rfl⟩:=rc
   exact absurd e (by unfold kitOne kitCls; simp)
 subst hw
 have hp:tD x (.ref C) s.heap:=((show ObjOk X.prog X.w H s.heap x (.ext (excAtD x (.ref C) dx)) from I.hok x _ hx).1).at
 exact kia_one (AM8 F) I.kIn hp e (fun z=>nomatch z) fun tk=>⟨.bl b,H,I.tok _,rfl,q⟩
def CF7 (K:Frag)(C:Addr):List V->Hp->VK->Prop:=fun xs H Q=>∃ (x tp:Addr) (cs:List Addr) (b:Bool),xs=[.ref x,.ref tp]/\XAt H x C/\H tp=some (.tup (cs.map V.ref))/\kitAny K (.ref C) (cs.map Value.ref)=some b/\Q (.bl b) H
theorem AB6:∀ {cs:List Addr}{us:List Value},Vals (cs.map V.ref) us->us=cs.map Value.ref
 | [],_,.nil=>rfl
 | a::cs,_,.cons r t=>by
  cases (show _=Value.ref a from r)
  rw [AB6 t]
  rfl
theorem AX1 {C:Addr}(F:ExcK X.K C):kD X (.builtin "isinstance") (CF7 X.K C):=by
 intro pins s σ H xs us Q I r h
 obtain ⟨x,tp,cs,b,rfl,⟨dx,hx⟩,ht,e,q⟩:=h
 obtain ⟨u,w',rfl,rx,rc'⟩:=AT8 r
 cases (show u=Value.ref x from rx)
 cases (show w'=Value.ref tp from rc')
 have hp:tD x (.ref C) s.heap:=((show ObjOk X.prog X.w H s.heap x (.ext (excAtD x (.ref C) dx)) from I.hok x _ hx).1).at
 obtain ⟨_,its,rv,o,ho,hc,n,hd⟩:=(show ObjOk X.prog X.w H s.heap tp (.tup (cs.map V.ref)) from I.hok tp _ ht)
 have hv:=AB6 rv
 subst hv
 obtain ⟨oc,dd,dt,sl⟩:=o
 dsimp only at hc hd
 subst hc hd
 exact kia_tup (AM8 F) I.kIn hp ho e (fun z=>nomatch z) fun tk=>⟨.bl b,H,I.tok _,rfl,q⟩
end
structure CalX (P:Program) (w:World) (K:Frag) (mg:Str->Option Value) (base:Heap) (x:Str) (ps:List Str) (k:Nat) (sp:Sp):Prop where
 ex:∃ f fd,FnOk P w K mg base (CXF P w) k f fd ps sp/\Binds K fd ps []/\keepIn K (.ref f)=true/\mg x=some (.ref f)
theorem jV {X:Cx}{x:Str}{ps:List Str}{k:Nat}{sp:Sp}{e:Expr}{es:List Expr}{t:TA}{p pos:Pos}(C:CalX X.prog X.w X.K X.mg X.base x ps k sp)(hr:Room k X.A)(hg:Gl X x)(ha:PA X (e::es) t)(hdb:(x == ("__debug__":Str))=false:=by decide)(he:starEach (e::es) X.env=(false,eval e X.env)::starEach es X.env:=by rfl)(hpl:(backTo pos (starEach es X.env)).any (·.1)=false:=by rfl) :
  PE X (.Call (.Name x p) (e::es) [] pos) (yF sp [] E0 t):=by
 obtain ⟨f,fd,F,b,kp,m⟩:=C.ex
 exact yG F hr hg m kp b .nil gM ha hdb he hpl
theorem cR {P:Program}{w:World}{K:Frag}{mg:Str->Option Value}{base:Heap}{N:List Str}{qual:Str}{sc:Scope}{f:Addr}{cdv:Value}{A:Around}{outer:List Env}{s:Shared}{H:Hp}{E:XK}{x:Str}{ps:List Str}{k:Nat}{sp:Sp}{e:Expr}{es:List Expr}{t:TA}{p pos:Pos}(C:CalX P w K mg base x ps k sp)(hr:Room k (cxX P w K mg base N qual sc f cdv A outer s H E).A)(hg:Gl (cxX P w K mg base N qual sc f cdv A outer s H E) x)(ha:PA (cxX P w K mg base N qual sc f cdv A outer s H E) (e::es) t)(hdb:(x == ("__debug__":Str))=false:=by decide)(he:starEach (e::es) (cxX P w K mg base N qual sc f cdv A outer s H E).env=(false,eval e (cxX P w K mg base N qual sc f cdv A outer s H E).env)::starEach es (cxX P w K mg base N qual sc f cdv A outer s H E).env:=by rfl)(hpl:(backTo pos (starEach es (cxX P w K mg base N qual sc f cdv A outer s H E).env)).any (·.1)=false:=by rfl) :
  PE (cxX P w K mg base N qual sc f cdv A outer s H E) (.Call (.Name x p) (e::es) [] pos) (yF sp [] E t):=by
 obtain ⟨f',fd,F,b,kp,m⟩:=C.ex
 exact yG F hr hg m kp b .nil dP ha hdb he hpl
structure CalG (g:Nat) (P:Program) (w:World) (K:Frag) (mg:Str->Option Value) (base:Heap) (x:Str) (ps:List Str) (k:Nat) (sp:Sp):Prop where
 ex:∃ f fd,FnOk P w K mg base (zW P w g) k f fd ps sp/\Binds K fd ps []/\keepIn K (.ref f)=true/\mg x=some (.ref f)
theorem BQ6 {g:Nat}{P:Program}{w:World}{K:Frag}{mg:Str->Option Value}{base:Heap}{N:List Str}{qual:Str}{sc:Scope}{f:Addr}{cdv:Value}{A:Around}{outer:List Env}{s:Shared}{H:Hp}{E:XK}{x:Str}{ps:List Str}{k:Nat}{sp:Sp}{e:Expr}{es:List Expr}{t:TA}{p pos:Pos}(C:CalG g P w K mg base x ps k sp)(hr:Room k (xN g P w K mg base N qual sc f cdv A outer s H E).A)(hg:Gl (xN g P w K mg base N qual sc f cdv A outer s H E) x)(ha:PA (xN g P w K mg base N qual sc f cdv A outer s H E) (e::es) t)(hdb:(x == ("__debug__":Str))=false:=by decide)(he:starEach (e::es) (xN g P w K mg base N qual sc f cdv A outer s H E).env=(false,eval e (xN g P w K mg base N qual sc f cdv A outer s H E).env)::starEach es (xN g P w K mg base N qual sc f cdv A outer s H E).env:=by rfl)(hpl:(backTo pos (starEach es (xN g P w K mg base N qual sc f cdv A outer s H E).env)).any (·.1)=false:=by rfl) :
  PE (xN g P w K mg base N qual sc f cdv A outer s H E) (.Call (.Name x p) (e::es) [] pos) (yF sp [] E t):=by
 obtain ⟨f',fd,F,b,kp,m⟩:=C.ex
 exact yG F hr hg m kp b .nil BY0 ha hdb he hpl
theorem BQ7 {X:Cx}{g:Nat}{x cn n:Str}{i k:Nat}{CB:Addr}{ps:List Str}{sp:Sp}{e:Expr}{es:List Expr}{t:TA}{b₀:Stmt}{suite:List Stmt}{ts:TS}{p pos pos' cp hpos tpos:Pos}(hst:X.stack=X.env::X.outer)(hf:X.env.frame=some X.env.locals)(hnx:∀ v s,¬ X.xe v s)(C:CalG g X.prog X.w X.K X.mg X.base x ps k sp)(hr:Room k X.A)(hg:Gl X x)(ha:PA X (e::es) t)(hgC:Gl X cn)(hmC:X.mg cn=some (.ref CB))(hN:X.N.Nodup)(hi:X.N[i]?=some n)(hl:X.env.scope.names.lookup n=some .local)(hs:∀ v:Value,PSs (cxE X v) (b₀::suite) ts)(hdb:(x == ("__debug__":Str))=false:=by decide)(hdc:(cn == ("__debug__":Str))=false:=by decide)(he:starEach (e::es) X.env=(false,eval e X.env)::starEach es X.env:=by rfl)(hpl:(backTo pos (starEach es X.env)).any (·.1)=false:=by rfl)(hsw:swapsWith (.Call (.Name x p) (e::es) [] pos) none pos'.line X.env=pure false:=by rfl) :
  PS X (.Try [.Expr (.Call (.Name x p) (e::es) [] pos) pos'] [.ExceptHandler (some (.Name cn cp)) (some n) (b₀::suite) hpos] [] [] tpos) (CF5 X.K CB i sp t ts):=by
 obtain ⟨f,fd,F,b,kp,m⟩:=C.ex
 exact AP7 hst hf hnx F hr hg m kp b ha hgC hmC hN hi hl hs hdb hdc he hpl hsw
theorem AH0 {R:Hp->Prop}{D:Ends}{σ:L2.St}{H:Hp}:BL6 R D σ H=R H:=rfl
theorem BQ8 {K:Frag}{CB:Addr}{i:Nat}{sp:Sp}{t:TA}{ts:TS}{D:Ends}{σ:L2.St}{H:Hp}:CF5 K CB i sp t ts D σ H=t σ H (fun vs H1=>sp vs H1 (fun _ H2=>D.nx σ H2) fun cls dx H2=>exmOne K cls (.ref CB)=some true /\
 ∀ x,H2 x=none->ts { nx:=fun σ' H3=>D.nx (σ'.set i none) H3,rt:=D.rt,bk:=fun σ' H3=>D.bk (σ'.set i none) H3,ct:=fun σ' H3=>D.ct (σ'.set i none) H3 } (σ.set i (some (.ref x))) (L2.upd H2 x (kF x cls dx))):=rfl
theorem CF8 {K:Frag}{P:Program}{w:World}{mg:Str->Option Value}{base:Heap}{N:List Str}{qual:Str}{sc:Scope}{f:Addr}{cd:Value}{A:Around}{outer:List Env}{s:Shared}{H:Hp}{E:XK}:(cxX P w K mg base N qual sc f cd A outer s H E).K=K:=rfl
theorem CF9 {K:Frag}{P:Program}{w:World}{mg:Str->Option Value}{base:Heap}{N:List Str}{qual:Str}{sc:Scope}{f:Addr}{cd:Value}{A:Around}{outer:List Env}{s:Shared}{H:Hp}{E:XK}{c:Nat}:(xN c P w K mg base N qual sc f cd A outer s H E).K=K:=rfl
theorem qY {xs:List V}{i:Int}(h0:0<=i)(h:i < xs.length):∃ z∈xs,atI xs i=some z:=by
 have hk:i.toNat < xs.length:=by omega
 have ek:i=((i.toNat:Nat):Int):=by omega
 refine ⟨xs[i.toNat],List.getElem_mem hk,?_⟩
 have q:atI xs ((i.toNat:Nat):Int)=some xs[i.toNat]:=mG (List.getElem?_eq_getElem hk)
 rwa [<- ek] at q
theorem uP:bootBuiltins "ValueError"=some (.type "ValueError"):=by decide +kernel
end Bw
set_option maxHeartbeats 1000000
namespace Bw
open PySem PySem.Spec PyProof.Rows L2 PySem.W
theorem nJ {α:Type}{x:Str}{c:α}:∀ {l:List (Str × α)},l.lookup x=some c->(x,c)∈l
 | [],h=>by simp at h
 | (n,k)::r,h=>by
  rw [List.lookup_cons] at h
  cases hx:x == n with
  | true =>
   rw [hx] at h
   have e:x=n:=by simpa using hx
   have e2:k=c:=by simpa using h
   subst e e2
   exact List.mem_cons_self
  | false =>
   rw [hx] at h
   exact List.mem_cons_of_mem _ (nJ h)
theorem xO {α:Type}{x:Str}{c:α}:∀ {l:List (Str × α)},(x,c)∈l->∃ c',l.lookup x=some c'
 | [],h=>by cases h
 | (n,k)::r,h=>by
  rw [List.lookup_cons]
  cases hx:x == n with
  | true=>exact ⟨k,rfl⟩
  | false =>
   rcases List.mem_cons.mp h with e | e
   ·cases e
    simp at hx
   ·exact xO e
theorem oG {env:Env}:∀ (names:List (Str × NameKind)) (acc:List (Str × Addr)),(∀ y∈names,y.2=.free->∃ c,env.cells.lookup y.1=some c) ->
  ∃ cl:List (Str × Addr),(forIn (m:=Sem) names acc fun (x:Str × NameKind) r =>
    if (x.2 == NameKind.free)=true then do let a <- cellOf env x.1; pure (ForInStep.yield ((x.1,a)::r)) else pure (ForInStep.yield r))=pure cl /\
   (∀ p∈cl,p∈acc\/env.cells.lookup p.1=some p.2)/\(∀ p∈acc,p∈cl)/\∀ x,(x,NameKind.free)∈names->∃ c,(x,c)∈cl
 | [],acc,_=>⟨acc,rfl,fun p hp=>.inl hp,fun p hp=>hp,fun x hx=>by cases hx⟩
 | (n,k)::r,acc,h=>by
  by_cases hk:k=.free
  ·subst hk
   obtain ⟨c,hc⟩:=h (n,.free) List.mem_cons_self rfl
   obtain ⟨cl,e,h1,h2,h3⟩:=oG r ((n,c)::acc) fun y hy=>h y (List.mem_cons_of_mem _ hy)
   have hc':cellOf env n=pure c:=by unfold cellOf; rw [hc]
   refine ⟨cl,?_,fun p hp=>?_,fun p hp=>h2 p (List.mem_cons_of_mem _ hp),fun x hx=>?_⟩
   ·rw [List.forIn_cons]
    simp only [beq_self_eq_true,if_true,hc',pure_bind]
    exact e
   ·rcases h1 p hp with z | z
    ·rcases List.mem_cons.mp z with rfl | z
     ·exact .inr hc
     ·exact .inl z
    ·exact .inr z
   ·rcases List.mem_cons.mp hx with z | z
    ·cases z
     exact ⟨c,h2 _ List.mem_cons_self⟩
    ·exact h3 x z
  ·obtain ⟨cl,e,h1,h2,h3⟩:=oG r acc fun y hy=>h y (List.mem_cons_of_mem _ hy)
   have hb:(k == NameKind.free)=false:=by simpa using hk
   refine ⟨cl,?_,h1,h2,fun x hx=>?_⟩
   ·rw [List.forIn_cons]
    simp only [hb,Bool.false_eq_true,if_false,pure_bind]
    exact e
   ·rcases List.mem_cons.mp hx with z | z
    ·cases z
     exact absurd rfl hk
    ·exact h3 x z
theorem AP8 {env:Env}{scope:Scope}(h:∀ y∈scope.names,y.2=.free->∃ c,env.cells.lookup y.1=some c) :
  ∃ cl,closureFor scope env=pure cl/\(∀ x c,cl.lookup x=some c->env.cells.lookup x=some c)/\∀ x,(x,NameKind.free)∈scope.names->∃ c,cl.lookup x=some c:=by
 obtain ⟨cl,e,h1,h2,h3⟩:=oG (env:=env) scope.names [] h
 refine ⟨cl,?_,fun x c hx=>?_,fun x hx=>?_⟩
 ·unfold closureFor
  simp only [bind_pure]
  exact e
 ·rcases h1 _ (nJ hx) with z | z
  ·cases z
  ·exact z
 ·obtain ⟨c,hc⟩:=h3 x hx
  exact xO hc
theorem uQ {scope:Scope}{env:Env}{x:Str}{k:NameKind}(h:(relabel scope env).names.lookup x=some k):(x,k)∈scope.names\/(k=.cell/\(x,NameKind.free)∈scope.names):=by
 obtain ⟨⟨n,k'⟩,hm,e⟩:=List.mem_map.mp (nJ h)
 dsimp only at e
 split at e
 ·rename_i hc
  simp only [Bool.and_eq_true,beq_iff_eq] at hc
  obtain ⟨⟨rfl,_⟩,_⟩:=hc
  cases e
  exact .inr ⟨rfl,hm⟩
 ·cases e
  exact .inl hm
abbrev blk (X:Cx)(N:List Str)(scope:Scope)(cl:List (Str × Addr))(C:Addr)(s:Shared)(H:Hp)(fp:List Addr):Cx :=
 { prog:=X.prog,w:=X.w,K:=X.K,mg:=X.mg,base:=X.base,A:=X.A,N:=N,s₀:=s,H₀:=H,env:=compEnvC scope cl C X.env,outer:=X.stack,stack:=X.stack,ex:=fp,fn:=fun _=>false,calm:=X.calm,pn:=[],xe:=fun _ _=>False }
def AM9 (ix:List (Option Nat))(σ:L2.St):L2.St:=ix.map fun o=>o.bind fun j=>(σ[j]?).getD none
def PTs (X:Cx)(ifs:List Expr)(t:TT):Prop :=
 ∀ (pins:List (Addr × Obj)) (s:Shared) (σ:L2.St) (H:Hp) (Q:Bool->Hp->Prop),Inv X pins σ H s->t σ H Q ->
  wpAny (model X.prog X.w) X.A (forIn ifs true fun c r=>if r=true then do let ok <- isTrue c X.env (eval c X.env); pure (ForInStep.yield ok) else pure (ForInStep.yield r)) (TP X pins σ Q) X.xe s
def CJ6:TT:=fun _ H Q=>Q true H
theorem gP {X:Cx}:PTs X [] CJ6:=fun pins s σ H Q I h=>wpAny_tests_nil ⟨H,I,h⟩
theorem BQ9 {X:Cx}{c:Expr}{t:TT}(h:PT X c t):PTs X [c] t:=fun pins s σ H Q I q=>wpAny_tests_one (h pins s σ H Q I q)
def yM (wi:TI)(ix:List (Option Nat))(g:TG)(tt:TT)(te:TE):TE:=fun σ H Q=>wi σ H fun J H1=>∃ W:Nat->Nat->List V->L2.St->Hp->Prop,(∃ m,W 0 m [] (AM9 ix σ) H1)/\∀ i m acc σ H,W i m acc σ H ->
 (J.stop i H/\∀ D,H D=none->Q (.ref D) (upd H D (.lst acc))) \/
 (J.go i H/\acc.length < sizeLine/\∃ N:List V->L2.St->Hp->Prop,(∀ acc' σ' H',N acc' σ' H'->∃ m',m' < m/\W (i+1) m' acc' σ' H') /\
  ∀ x H',J.yld i H x H'->g x σ H' fun σ2 H2=>tt σ2 H2 fun b H3=>if b=true then te σ2 H3 fun y H4=>N (acc++[y]) σ2 H4 else N acc σ2 H3)
section
variable {prog:Program}{w:World}{A:Around}{R:Result->Shared->Prop}{s:Shared}
theorem qZ {elt target iter:Expr}{ifs:List Expr}{scope:Scope}{pos:Pos}{it acc:Value}{env:Env}(I:Nat->Shared->Prop)(turn:∀ n s,I n s->wpAny (model prog w) A (pyNext it) (fun r s₁=>match r with
   | none=>R (.ok .next) s₁
   | some v=>wpAny (model prog w) A (letOwnedTupleGo target it v) (fun _ s₁=>wpAny (model prog w) A (assign target env v) (fun _ s₂ =>
     wpAny (model prog w) A (forIn ifs true fun c r=>if r=true then do let ok <- isTrue c env (eval c env); pure (ForInStep.yield ok) else pure (ForInStep.yield r)) (fun ok s₃ =>
      if ok=true then wpAny (model prog w) A (eval elt env) (fun x s₄ =>
       wpAny (model prog w) A (call (.builtin "list.append") [acc,x]) (fun _ s₅=>∃ m,m < n/\I m s₅) (fun _ _=>False) s₄) (fun _ _=>False) s₃
      else ∃ m,m < n/\I m s₃) (fun _ _=>False) s₂) (fun _ _=>False) s₁) (fun _ _=>False) s₁) (fun _ _=>False) s)(n:Nat)(h:I n s) :
  codeAny (model prog w) A (.compLoop (.ListComp elt [⟨target,iter,ifs,0⟩] scope pos) 0 it acc env) R s:=by
 refine codeAny_loop rfl I (fun n s hI=>?_) n h
 show wpAny _ A ((compTurn (.ListComp elt [⟨target,iter,ifs,0⟩] scope pos) 0 it acc env).onRaise (fun x=>do noteFrame x env; theTreesLotGoes x)) _ _ s
 refine wpAny_noted ?_
 rw [compTurn_list]
 refine wpAny_bind (wpAny_standAt (wpAny_bind (wpAny_mono (turn n s hI) (fun r s₁ h₁=>?_) fun _ _ h'=>h'.elim)))
 cases r with
 | none=>exact wpAny_pure h₁
 | some v =>
  refine wpAny_bind (wpAny_mono h₁ (fun _ s₁ h₁=>?_) fun _ _ h'=>h'.elim)
  refine wpAny_bind (wpAny_mono h₁ (fun _ s₂ h₂=>wpAny_bind (wpAny_mono h₂ (fun ok s₃ h₃=>?_) fun _ _ h'=>h'.elim)) fun _ _ h'=>h'.elim)
  cases ok with
  | false=>exact wpAny_pure ⟨rfl,h₃⟩
  | true =>
   exact wpAny_bind (wpAny_bind (wpAny_mono h₃ (fun x s₄ h₄=>wpAny_bind (wpAny_mono h₄ (fun _ s₅ h₅=>wpAny_pure (wpAny_pure ⟨rfl,h₅⟩)) fun _ _ h'=>h'.elim)) fun _ _ h'=>h'.elim))
end
section
variable {X:Cx}{pins:List (Addr × Obj)}{σ:L2.St}{H:Hp}{s:Shared}{N:List Str}{scope:Scope}{cl:List (Str × Addr)}{C:Addr}{fp:List Addr}
theorem BY2 (I:Inv X pins σ H s)(hkind:scope.kind=.function)(hcell:∀ y∈scope.names,y.2≠.cell)(h1:∀ x c,cl.lookup x=some c->X.env.cells.lookup x=some c)(h2:∀ x,(x,NameKind.free)∈scope.names->∃ c,cl.lookup x=some c)(hC:s.heap.objs.size<=C)(hf:∀ b∈fp,BK5 X pins H b)(hb:∀ b∈fp,b < s.heap.objs.size):(blk X N scope cl C s H fp).Ok where
 mod:=I.ok.mod
 kind:=hkind
 glob:=I.ok.glob
 blt:=I.ok.blt
 above:=hC
 inj:=fun x y c a b=>I.ok.inj x y c (h1 x c a) (h1 y c b)
 has:=fun x hx=>by
  have:(x,NameKind.free)∈scope.names:=by
   rcases hx with z | z
   ·rcases uQ z with q | ⟨_,q⟩
    ·exact absurd rfl (hcell _ q)
    ·exact q
   ·rcases uQ z with q | ⟨e,q⟩
    ·exact q
    ·cases e
  exact h2 x this
 cab:=fun x c hx=>by cases hx
 hd:=I.ok.hd
 frames:=I.ok.frames
 stk:=.inl rfl
 exf:=fun b hm=>⟨Nat.ne_of_lt (Nat.lt_of_lt_of_le (hb b hm) hC),fun x c e=>(hf b hm).2.2.2.2.1 x c (h1 x c e)⟩
 bs:=I.bs
 bsz:=Nat.le_trans I.ok.bsz I.sz
 noex:=fun b o e hm=>by
  rcases (hf b hm).2.2.2.1 with z | z
  ·exact I.ok.noex b o e z
  ·exact absurd (Nat.lt_of_lt_of_le (Heap.lt_size e) (Nat.le_trans I.ok.bsz z)) (Nat.lt_irrefl _)
 exfs:=fun b hm hs=>(List.mem_cons.mp (I.stkSub b hs)).elim (hf b hm).2.1 (hf b hm).2.2.1
 funs:=I.stack
 frf:=I.stkFree
end
theorem iL {env:Env}:∀ {names:List (Str × NameKind)}{x:Str},names.lookup x=some .free ->
  (names.map fun (n,k)=>if (k == NameKind.free && env.scope.kind == .function && env.kindOf n == some .cell) then (n,NameKind.cell) else (n,k)).lookup x=some .cell \/
  (names.map fun (n,k)=>if (k == NameKind.free && env.scope.kind == .function && env.kindOf n == some .cell) then (n,NameKind.cell) else (n,k)).lookup x=some .free
 | [],_,h=>by simp at h
 | (n,k)::r,x,h=>by
  have ih:=@iL env r x
  rw [List.map_cons]
  cases hx:x == n with
  | true =>
   simp only [List.lookup_cons,hx] at h
   cases h
   by_cases hc:(NameKind.free == NameKind.free && env.scope.kind == .function && env.kindOf n == some .cell)=true
   ·left; simp only [hc,if_true,List.lookup_cons,hx]
   ·right; simp only [Bool.not_eq_true] at hc; simp only [hc,Bool.false_eq_true,if_false,List.lookup_cons,hx]
  | false =>
   simp only [List.lookup_cons,hx] at h
   by_cases hc:(k == NameKind.free && env.scope.kind == .function && env.kindOf n == some .cell)=true
   ·simp only [hc,if_true,List.lookup_cons,hx]; exact ih h
   ·simp only [Bool.not_eq_true] at hc; simp only [hc,Bool.false_eq_true,if_false,List.lookup_cons,hx]; exact ih h
section
variable {X:Cx}
structure Gone (X:Cx) (pins:List (Addr × Obj)) (H:Hp) (C:Addr):Prop where
 n:H C=none
 l:C≠X.env.locals
 y:X.s₀.heap.objs.size<=C
 c:∀ x c,X.env.cells.lookup x=some c->c≠C
 p:∀ p∈X.pn++pins,p.1≠C
theorem Gone.inv {pins:List (Addr × Obj)}{σ:L2.St}{H:Hp}{s:Shared}{C:Addr}{h':Heap}(G:Gone X pins H C)(I:Inv X pins σ H s)(hs:Heap.SameBut C s.heap h'):Inv X pins σ H { s with heap:=h' } :=
 I.turned (t':=s.toks) (fun b o hb e=>(hs.2 b hb).trans e) G.n G.l (.inr G.y) G.c G.p
theorem AN0 {elt iter tg:Expr}{ifs:List Expr}{scope:Scope}{pos ppos:Pos}{wi:TI}{g:TG}{tt:TT}{te:TE}{use:Option (Value->Sem Unit)}{Q':Value->Shared->Prop}{pins:List (Addr × Obj)}{s:Shared}{σ:L2.St}{H:Hp}{Q:VK}(N:List Str)(ix:List (Option Nat))(hc:X.calm=true)(hkind:scope.kind=.function)(hcell:∀ y∈scope.names,y.2≠.cell)(hnames:∀ y∈scope.names,y.2=.local->scope.names.lookup y.1=some .local)(hfree:∀ y∈scope.names,y.2=.free->X.env.kindOf y.1=some .cell\/X.env.kindOf y.1=some .free)(hlen:ix.length=N.length)(hcap:∀ (i j:Nat) (x:Str),ix[i]?=some (some j)->N[i]?=some x->X.N[j]?=some x/\scope.names.lookup x=some .free)(hi:PI X tg iter wi)(hb:∀ cl C s H fp,PG (blk X N scope cl C s H fp) tg g/\PTs (blk X N scope cl C s H fp) ifs tt/\PE (blk X N scope cl C s H fp) elt te)(hs:∀ x,foldedSetIterable iter X.env x=pure x)(I:Inv X pins σ H s)(h:yM wi ix g tt te σ H Q)(hend:∀ (D C:Addr) (H':Hp) (s4:Shared) (mC:Str->Option Value),Inv X pins σ H' s4->s4.heap.Ns C mC->Gone X pins H' C->Q (.ref D) H'->compPost (model X.prog X.w) X.A X.xe use Q' (.ref D) C (.ok .next) s4) :
  wpAny (model X.prog X.w) X.A (comprehension (.ListComp elt [⟨tg,iter,ifs,0⟩] scope pos) scope X.env ppos (newList []) false (eval iter X.env) use) Q' X.xe s:=by
 obtain ⟨cl,hclos,hcl1,hcl2⟩:=AP8 (env:=X.env) (scope:=scope) fun y hy e=>I.ok.has _ (hfree y hy e)
 refine wpAny_comprehension_free rfl hs hclos hkind hnames (thn (hi pins s σ H _ I h) fun v s1 h1=>thn h1 fun itv s2 h2=>?_)
 obtain ⟨it,fp,tn,J,H2,e,I2,T,st2,f2,W,⟨m0,w0⟩,turn⟩:=h2
 subst e
 refine wpAny_newObj_type (wpAny_newFunctionEnv hcell (by intro y hy; simp at hy) (fun h₁ hns₁ hsb₁=>?_) hkind)
 dsimp only at hns₁ hsb₁ ⊢
 generalize hH2:s2.heap.push { cls:=.type "list",dict:=none,data:=.seq ([]:List Value).toArray }=HH at hns₁ hsb₁ ⊢
 have hC:HH.objs.size=s2.heap.objs.size+1:=by rw [<- hH2,Heap.size_push]
 have hDC:s2.heap.objs.size≠HH.objs.size:=by rw [hC]; exact Nat.ne_of_lt (Nat.lt_succ_self _)
 have hCle:s2.heap.objs.size<=HH.objs.size:=by rw [hC]; exact Nat.le_succ _
 have below:∀ b,b < s2.heap.objs.size->b≠HH.objs.size/\b≠s2.heap.objs.size:=fun b hb=>⟨by rw [hC]; exact Nat.ne_of_lt (Nat.lt_succ_of_lt hb),Nat.ne_of_lt hb⟩
 have hfp:∀ b∈fp,b < s2.heap.objs.size:=fun b hm=>by
  obtain ⟨o,e,_⟩:=T.obj _ _ st2 b hm
  exact Heap.lt_size e
 have old:∀ b o,s2.heap.get? b=some o->h₁.get? b=some o:=fun b o e=>hsb₁.extBut b o (below b (Heap.lt_size e)).1 (Heap.get?_push_of_some _ (hH2 ▸ Heap.get?_push_of_some _ e))
 have hacc:h₁.get? s2.heap.objs.size=some { cls:=.type "list",data:=.seq ([]:List Value).toArray }:=hsb₁.extBut _ _ hDC (Heap.get?_push_of_some _ (hH2 ▸ Heap.get?_push_size _ rfl))
 generalize hD:s2.heap.objs.size=D at hDC hCle hacc ⊢
 generalize hCC:HH.objs.size=C at hns₁ hsb₁ hDC hCle ⊢
 have hDle:s2.heap.objs.size<=D:=by rw [hD]; exact Nat.le_refl _
 have hCle':s2.heap.objs.size<=C:=by rw [hD]; exact hCle
 obtain ⟨bg,bt,be⟩:=hb cl C s2 H2 fp
 have ok:=BY2 (N:=N) I2 hkind hcell hcl1 hcl2 hCle' f2 hfp
 have notY:∀ b,s2.heap.objs.size<=b->b ∉ frs X.stack:=fun b hle hm=>by
  rcases List.mem_cons.mp (I2.stkSub b hm) with z | z
  ·exact absurd (Nat.lt_of_lt_of_le I2.lt (z ▸ hle)) (Nat.lt_irrefl _)
  ·exact I2.nofs hle z
 -- the block's invariant at its entry
 have I4:Inv (blk X N scope cl C s2 H2 fp) [(D,{ cls:=.type "list",data:=.seq ([]:List Value).toArray })] (AM9 ix σ) H2 { s2 with heap:=h₁,toks:=s2.toks+([]:List (Str × Value)).length }:=by
  refine ⟨ok,rfl,I2.bare,Un.kept old,⟨_,hns₁,fun i x v e1 e2 e3=>?_⟩,fun x c e=>?_,I2.hok.fresh hCle',fun x c e=>I2.freeC x c (hcl1 x c e),fun p hp=>?_,I2.hok.kept old,?_⟩
  ·have q:∃ j,ix[i]?=some (some j)/\σ[j]?=some (some v):=by
    unfold AM9 at e2
    rw [List.getElem?_map] at e2
    cases z:ix[i]? with
    | none=>rw [z] at e2; cases e2
    | some o =>
     rw [z] at e2
     cases o with
     | none=>cases e2
     | some j =>
      refine ⟨j,rfl,?_⟩
      have e2':(σ[j]?).getD none=some v:=Option.some.inj e2
      cases z2:σ[j]? with
      | none=>rw [z2] at e2'; cases e2'
      | some w'=>rw [z2] at e2'; exact congrArg some e2'
   obtain ⟨j,q1,q2⟩:=q
   obtain ⟨n1,n2⟩:=hcap i j x q1 e1
   obtain ⟨m,hn,hl⟩:=I2.loc
   have hmem:=nJ n2
   have hkx:=hfree _ hmem rfl
   have hvis:Vis X.env.scope x:=by
    rcases hkx with z | z
    ·exact .inr (.inl z)
    ·exact .inr (.inr z)
   obtain ⟨u,ru,lk⟩:=hl j x v n1 q2 hvis
   refine ⟨u,ru,.inr ⟨iL n2,?_⟩⟩
   obtain ⟨c,hcc⟩:=hcl2 x hmem
   rcases lk with ⟨k,_⟩ | ⟨_,c',e',z⟩
   ·rcases hkx with z | z <;> · rw [k] at z; cases z
   ·rw [hcl1 x c hcc] at e'
    cases e'
    obtain ⟨o,ho,hd⟩:=z
    exact ⟨c,hcc,o,old _ _ ho,hd⟩
  ·obtain ⟨v,o,ho,hd⟩:=I2.cell x c (hcl1 x c e)
   exact ⟨v,o,old _ _ ho,hd⟩
  ·have e:p=(D,{ cls:=.type "list",data:=.seq ([]:List Value).toArray }):=by simpa using hp
   subst e
   exact ⟨hacc,I2.hok.fresh hDle,hDC,notY D hDle,fun v z=>by cases z⟩
  ·unfold AM9
   rw [List.length_map]
   exact hlen
 have stat:∀ {pl:List (Addr × Obj)}{H':Hp},(∀ p∈pl,p.1 ∉ fp)->(∀ b∈fp,H' b=none)->∀ b∈fp,BK5 (blk X N scope cl C s2 H2 fp) pl H' b:=fun {pl H'} hpl hn b hm =>
  ⟨hn b hm,(ok.exf b hm).1,ok.exfs b hm,.inl hm,(ok.exf b hm).2,fun p hp e=>hpl p (by simpa using hp) (e ▸ hm)⟩
 have nfp:D ∉ fp:=fun hm=>absurd (Nat.lt_of_lt_of_le (hfp D hm) hDle) (Nat.lt_irrefl _)
 have nfpP:∀ (o:Obj),∀ p∈[(D,o)],p.1 ∉ fp:=fun o p hp=>by
  have e:p=(D,o):=by simpa using hp
  subst e
  exact nfp
 have loop:∀ s3:Shared,s3={ s2 with heap:=h₁,toks:=s2.toks+([]:List (Str × Value)).length } ->
   codeAny (model X.prog X.w) X.A (.compLoop (.ListComp elt [⟨tg,iter,ifs,0⟩] scope pos) 0 (.ref it) (.ref D) (compEnvC scope cl C X.env)) (compPost (model X.prog X.w) X.A X.xe use Q' (.ref D) C) s3:=by
  rintro s3 rfl
  refine qZ (fun n s'=>∃ i σ' H' acc its nn,Inv (blk X N scope cl C s2 H2 fp) [(D,{ cls:=.type "list",data:=.seq its nn })] σ' H' s'/\Vals acc its.toList/\tn i s'.heap/\(∀ b∈fp,H' b=none)/\acc.length<=sizeLine/\W i n acc σ' H') ?_ m0
   ⟨0,AM9 ix σ,H2,[],#[],0,I4,.nil,T.keep _ _ _ st2 fun b _ o e=>old b o e,fun b hm=>(f2 b hm).1,Nat.zero_le _,w0⟩
  rintro n s3 ⟨i,σ3,H3,acc,its,nn,I3,rv,st3,fr3,hz,w3⟩
  rcases turn i n acc σ3 H3 w3 with ⟨stop,qn⟩ | ⟨go,hlt,NN,hN,step⟩
  ·refine thn (T.done (blk X N scope cl C s2 H2 fp) rfl rfl rfl hc i _ s3 σ3 H3 (fun _ _=>False) I3 (stat (nfpP _) fr3) st3 stop) fun r s4 ⟨hr,I5⟩=>?_
   subst hr
   obtain ⟨eD,nD,_⟩:=I5.pin (D,{ cls:=.type "list",data:=.seq its nn }) (by simp)
   obtain ⟨mC,hnC,_⟩:=I5.loc
   -- back in the def's own frame
   have hne:∀ b u,H3 b=some u->b≠D:=fun b u q z=>by rw [z,nD] at q; cases q
   have un:Un (frs X.stack) fp H2 (upd H3 D (.lst acc)) s2.heap s4.heap:=by
    have b:=I5.base
    have neD:∀ b o,s2.heap.get? b=some o->b≠D:=fun b o e=>Nat.ne_of_lt (Nat.lt_of_lt_of_le (Heap.lt_size e) hDle)
    refine ⟨b.keep,b.slot,fun b' o q n' hx=>?_,b.there,fun b' xs q=>?_,fun b' o u q=>?_,fun b' ps q=>?_⟩
    ·rw [aJ (neD b' o q)]
     exact b.free b' o q n' hx
    ·have q':=b.tups b' xs q
     rw [aJ (hne _ _ q')]
     exact q'
    ·have q':=b.frzs b' o u q
     rw [aJ (hne _ _ q')]
     exact q'
    ·obtain ⟨more,q'⟩:=b.tbls b' ps q
     exact ⟨more,by rw [aJ (hne _ _ q')]; exact q'⟩
   have hokD:HOk X.prog X.w (upd H3 D (.lst acc)) s4.heap:=fun b u e=>by
    by_cases hbD:b=D
    ·subst hbD
     rw [aA] at e
     cases e
     exact ⟨hz,its.toList,nn,rv,by simpa using eD⟩
    ·rw [aJ hbD] at e
     refine (I5.hok b u e).stay (fun _ _ _ q=>q) (fun c r=>?_) fun c xs r=>?_
     ·rw [aJ (fun z=>by rw [z,nD] at r; cases r)]; exact r
     ·rw [aJ (fun z=>by rw [z,nD] at r; cases r)]; exact r
   have IX:Inv X pins σ (upd H3 D (.lst acc)) s4:=I2.call' I5.os un hokD I5.bare fun b hm=>⟨(f2 b hm).2.2.2.1,(f2 b hm).2.1,(f2 b hm).2.2.2.2.1,(f2 b hm).2.2.2.2.2⟩
   refine hend D C _ s4 mC IX hnC ⟨?_,Nat.ne_of_gt (Nat.lt_of_lt_of_le I2.lt hCle'),Nat.le_trans I2.sz hCle',fun x c e z=>?_,fun p hp z=>?_⟩ (qn D nD)
   ·rw [aJ (Ne.symm hDC)]
    exact I5.free
   ·obtain ⟨v,o,ho,_⟩:=I2.cell x c e
    exact absurd (Nat.lt_of_lt_of_le (Heap.lt_size ho) (z ▸ hCle')) (Nat.lt_irrefl _)
   ·exact absurd (Nat.lt_of_lt_of_le (Heap.lt_size (I2.pin p hp).1) (z ▸ hCle')) (Nat.lt_irrefl _)
  ·refine thn (T.item (blk X N scope cl C s2 H2 fp) rfl rfl rfl hc i _ s3 σ3 H3 (fun _ _=>False) I3 (stat (nfpP _) fr3) st3 go) fun r s4 ⟨u,hr,h4⟩=>?_
   subst hr
   refine thn h4 fun _ s5 ⟨x,H5,I5,r5,y5,st5,fr5⟩=>?_
   have I5':=I5.pinned (stat (nfpP _) fr5) (T.obj _ _ st5)
   refine thn (bg _ s5 σ3 H5 x u _ I5' r5 (step x H5 y5)) fun _ s6 ⟨σ6,H6,I6,q6⟩=>?_
   refine thn (bt _ s6 σ6 H6 _ I6 q6) fun b s7 ⟨H7,I7,q7⟩=>?_
   have after:∀ {o:Obj}{σ8:L2.St}{H8:Hp}{s8:Shared},Inv (blk X N scope cl C s2 H2 fp) ([(D,o)]++pM fp s5.heap) σ8 H8 s8->tn (i+1) s8.heap/\∀ b∈fp,H8 b=none:=fun {o σ8 H8 s8} I8=>by
    refine ⟨T.keep _ _ _ st5 fun b hb o e=>(I8.pin (b,o) (List.mem_append_right _ (List.mem_append_right _ (nE hb e)))).1,fun b hb=>?_⟩
    obtain ⟨o,e,d⟩:=T.obj _ _ st5 b hb
    exact (I8.pin (b,o) (List.mem_append_right _ (List.mem_append_right _ (nE hb e)))).2.1
   cases b with
   | false =>
    simp only [Bool.false_eq_true,if_false] at q7 ⊢
    obtain ⟨m',hm,w7⟩:=hN acc σ6 H7 q7
    exact ⟨m',hm,i+1,σ6,H7,acc,its,nn,I7.unpinned,rv,(after I7).1,(after I7).2,hz,w7⟩
   | true =>
    simp only [if_true] at q7 ⊢
    refine thn (be _ s7 σ6 H7 _ I7 q7) fun yv s8 ⟨y,H8,I8,r8,q8⟩=>?_
    obtain ⟨eD,nD,_⟩:=I8.pin (D,{ cls:=.type "list",data:=.seq its nn }) (by simp)
    have hl:acc.length=its.size:=by have:=rv.length; simpa using this
    refine wpAny_list_append_plain (hsz:=by omega) ⟨nn,eD⟩ fun h9 ⟨n9,e9⟩ hs9=>?_
    obtain ⟨m',hm,w9⟩:=hN _ _ _ q8
    have J1:Inv (blk X N scope cl C s2 H2 fp) (pM fp s5.heap) σ6 H8 s8:=I8.pins_of fun p hp=>I8.pin p (List.mem_append_right _ (List.mem_append_right _ hp))
    have nc:∀ x c,cl.lookup x=some c->c≠D:=fun x c e z=>by
     obtain ⟨v,o,ho,_⟩:=I2.cell x c (hcl1 x c e)
     exact absurd (Nat.lt_of_lt_of_le (Heap.lt_size ho) (z ▸ hDle)) (Nat.lt_irrefl _)
    have J2:Inv (blk X N scope cl C s2 H2 fp) (pM fp s5.heap) σ6 H8 { s8 with heap:=h9 }:=J1.turned (t':=s8.toks) (fun b o hb e=>hs9.extBut b o hb e) nD hDC (.inr hDle) nc fun p hp z=>by
     have hp':p∈pM fp s5.heap:=by simpa using hp
     exact nfp (z ▸ (AA1 hp').1)
    have J3:Inv (blk X N scope cl C s2 H2 fp) ([(D,{ cls:=.type "list",data:=.seq (its.push yv) n9 })]++pM fp s5.heap) σ6 H8 { s8 with heap:=h9 }:=J2.pins_of fun p hp=>by
     rcases List.mem_append.mp hp with hp | hp
     ·have e:p=(D,{ cls:=.type "list",data:=.seq (its.push yv) n9 }):=by simpa using hp
      subst e
      exact ⟨e9,nD,hDC,notY D hDle,fun v z=>by cases z⟩
     ·exact J2.pin p (List.mem_append_right _ hp)
    refine ⟨m',hm,i+1,σ6,H8,acc++[y],its.push yv,n9,J3.unpinned,?_,(after J3).1,(after J3).2,by rw [List.length_append,List.length_singleton]; omega,w9⟩
    rw [Array.toList_push]
    exact rv.append (.cons r8 .nil)
 exact codeAny_compStart_list (loop _ rfl) (T.self _ 0 _ _ _ (T.keep _ _ _ st2 fun b _ o e=>old b o e) (loop _ rfl))
theorem BR0 {elt iter tg:Expr}{ifs:List Expr}{scope:Scope}{pos:Pos}{wi:TI}{g:TG}{tt:TT}{te:TE}(N:List Str)(ix:List (Option Nat))(hc:X.calm=true)(hkind:scope.kind=.function)(hcell:∀ y∈scope.names,y.2≠.cell)(hnames:∀ y∈scope.names,y.2=.local->scope.names.lookup y.1=some .local)(hfree:∀ y∈scope.names,y.2=.free->X.env.kindOf y.1=some .cell\/X.env.kindOf y.1=some .free)(hlen:ix.length=N.length)(hcap:∀ (i j:Nat) (x:Str),ix[i]?=some (some j)->N[i]?=some x->X.N[j]?=some x/\scope.names.lookup x=some .free)(hi:PI X tg iter wi)(hb:∀ cl C s H fp,PG (blk X N scope cl C s H fp) tg g/\PTs (blk X N scope cl C s H fp) ifs tt/\PE (blk X N scope cl C s H fp) elt te)(hs:∀ x,foldedSetIterable iter X.env x=pure x:=by intro _; rfl):PE X (.ListComp elt [⟨tg,iter,ifs,0⟩] scope pos) (yM wi ix g tt te):=by
 intro pins s σ H Q I h
 rw [eval_ListComp]
 exact AN0 (use:=none) N ix hc hkind hcell hnames hfree hlen hcap hi hb hs I h fun D C H' s4 mC I4 hn G q=>⟨mC,hn,fun h' hs'=>⟨.ref D,H',G.inv I4 hs',rfl,q⟩⟩
theorem BR1 {i:Nat}{y:Str}{elt iter tg:Expr}{ifs:List Expr}{scope:Scope}{pos py spos:Pos}{wi:TI}{g:TG}{tt:TT}{te:TE}(N:List Str)(ix:List (Option Nat))(hc:X.calm=true)(hkind:scope.kind=.function)(hcell:∀ y∈scope.names,y.2≠.cell)(hnames:∀ y∈scope.names,y.2=.local->scope.names.lookup y.1=some .local)(hfree:∀ y∈scope.names,y.2=.free->X.env.kindOf y.1=some .cell\/X.env.kindOf y.1=some .free)(hlen:ix.length=N.length)(hcap:∀ (i j:Nat) (x:Str),ix[i]?=some (some j)->N[i]?=some x->X.N[j]?=some x/\scope.names.lookup x=some .free)(hN:X.N.Nodup)(hin:X.N[i]?=some y)(hy:X.env.scope.names.lookup y=some .local)(hi:PI X tg iter wi)(hb:∀ cl C s H fp,PG (blk X N scope cl C s H fp) tg g/\PTs (blk X N scope cl C s H fp) ifs tt/\PE (blk X N scope cl C s H fp) elt te)(hsw:swapsWith (.ListComp elt [⟨tg,iter,ifs,0⟩] scope pos) (some (.Name y py)) spos.line X.env=pure true:=by rfl)(hs:∀ x,foldedSetIterable iter X.env x=pure x:=by intro _; rfl):PS X (.Assign [.Name y py] (.ListComp elt [⟨tg,iter,ifs,0⟩] scope pos) spos) (BK3 (yM wi ix g tt te) (zZ i)):=by
 intro pins s σ H D I h
 rw [exec_Assign_Name_used _ _ _ _ hsw]
 refine wpAny_bind (wpAny_standAt (wpAny_bind ?_))
 show wpAny _ X.A (do let _ <- comprehension (.ListComp elt [⟨tg,iter,ifs,0⟩] scope pos) scope X.env _ (newList []) false (eval iter X.env) (some (assign (.Name y py) X.env))) _ _ s
 refine wpAny_bind (thn (AN0 (use:=some (assign (.Name y py) X.env)) (Q':=fun _ s'=>SP X pins D .next s') (Q:=fun v H'=>D.nx (σ.set i (some v)) H') N ix hc hkind hcell hnames hfree hlen hcap hi hb hs I h fun Dd C H' s4 mC I4 hn G q=>?_) fun _ s' hq=>wpAny_pure (wpAny_pure hq))
 show wpAny _ X.A (assign (.Name y py) X.env (.ref Dd)) _ _ _
 refine wpAny_assign_Name (zX (v:=.ref Dd) I4 hN hin (.inl hy) rfl (fun s5 I5 ⟨a,sb,ha⟩=>?_) (.inr hy))
 have hCa:C≠a:=by
  rcases ha with z | z
  ·rw [z]; exact G.l
  ·exact fun e=>G.c _ _ z e.symm
 exact ⟨mC,hn.sameBut sb hCa,fun h' hs'=>⟨_,H',G.inv I5 hs',q⟩⟩
end
theorem AX2 {K:Frag}{a:Addr}{xs:List V}{g:TG}{tt:TT}{te:TE}{σ:L2.St}{H:Hp}{Q:VK}(Pv:Nat->List V->L2.St->Hp->Prop)(hz:xs.length<=sizeLine)(h0:Pv 0 [] σ H)(hl:∀ i acc σ H,i<=xs.length->Pv i acc σ H->SqL K H a xs)(hs:∀ i x acc σ H,xs[i]?=some x->Pv i acc σ H->g x σ H fun σ2 H2=>tt σ2 H2 fun b H3=>if b=true then te σ2 H3 fun y H4=>Pv (i+1) (acc++[y]) σ2 H4 else Pv (i+1) acc σ2 H3)(hacc:∀ i acc σ H,Pv i acc σ H->acc.length<=i)(hd:∀ acc σ H,Pv xs.length acc σ H->∀ D,H D=none->Q (.ref D) (upd H D (.lst acc))) :
  ∃ W:Nat->Nat->List V->L2.St->Hp->Prop,(∃ m,W 0 m [] σ H)/\∀ i m acc σ H,W i m acc σ H ->
   ((Itl K a).stop i H/\∀ D,H D=none->Q (.ref D) (upd H D (.lst acc))) \/
   ((Itl K a).go i H/\acc.length < sizeLine/\∃ N:List V->L2.St->Hp->Prop,(∀ acc' σ' H',N acc' σ' H'->∃ m',m' < m/\W (i+1) m' acc' σ' H') /\
    ∀ x H',(Itl K a).yld i H x H'->g x σ H' fun σ2 H2=>tt σ2 H2 fun b H3=>if b=true then te σ2 H3 fun y H4=>N (acc++[y]) σ2 H4 else N acc σ2 H3):=by
 refine ⟨fun i m acc σ H=>m=xs.length - i/\i<=xs.length/\Pv i acc σ H,⟨xs.length,by simp,Nat.zero_le _,h0⟩,?_⟩
 rintro i m acc σ H ⟨rfl,hi,p⟩
 have q:=hl i acc σ H hi p
 have ha:=hacc i acc σ H p
 by_cases hlt:i < xs.length
 ·refine .inr ⟨⟨xs,xs[i],q,by simp [hlt]⟩,by omega,Pv (i+1),fun acc' σ' H' p'=>⟨xs.length - (i+1),by omega,rfl,hlt,p'⟩,fun x H' y=>?_⟩
  obtain ⟨e,y⟩:=y
  subst e
  exact hs i x acc σ _ (y xs q) p
 ·have e:i=xs.length:=by omega
  subst e
  exact .inl ⟨⟨xs,q,Nat.le_refl _⟩,hd acc σ H p⟩
theorem AP9 {lo:Int}{n:Nat}{g:TG}{tt:TT}{te:TE}{σ:L2.St}{H:Hp}{Q:VK}(Pv:Nat->List V->L2.St->Hp->Prop)(hz:n<=sizeLine)(h0:Pv 0 [] σ H)(hs:∀ i acc σ H,i < n->Pv i acc σ H->g (.int (lo+i)) σ H fun σ2 H2=>tt σ2 H2 fun b H3=>if b=true then te σ2 H3 fun y H4=>Pv (i+1) (acc++[y]) σ2 H4 else Pv (i+1) acc σ2 H3)(hacc:∀ i acc σ H,Pv i acc σ H->acc.length<=i)(hd:∀ acc σ H,Pv n acc σ H->∀ D,H D=none->Q (.ref D) (upd H D (.lst acc))) :
  ∃ W:Nat->Nat->List V->L2.St->Hp->Prop,(∃ m,W 0 m [] σ H)/\∀ i m acc σ H,W i m acc σ H ->
   ((Itr lo n).stop i H/\∀ D,H D=none->Q (.ref D) (upd H D (.lst acc))) \/
   ((Itr lo n).go i H/\acc.length < sizeLine/\∃ N:List V->L2.St->Hp->Prop,(∀ acc' σ' H',N acc' σ' H'->∃ m',m' < m/\W (i+1) m' acc' σ' H') /\
    ∀ x H',(Itr lo n).yld i H x H'->g x σ H' fun σ2 H2=>tt σ2 H2 fun b H3=>if b=true then te σ2 H3 fun y H4=>N (acc++[y]) σ2 H4 else N acc σ2 H3):=by
 refine ⟨fun i m acc σ H=>m=n - i/\i<=n/\Pv i acc σ H,⟨n,by simp,Nat.zero_le _,h0⟩,?_⟩
 rintro i m acc σ H ⟨rfl,hi,p⟩
 have ha:=hacc i acc σ H p
 by_cases hlt:i < n
 ·refine .inr ⟨hlt,by omega,Pv (i+1),fun acc' σ' H' p'=>⟨n - (i+1),by omega,rfl,hlt,p'⟩,fun x H' y=>?_⟩
  obtain ⟨e,y⟩:=y
  subst e y
  exact hs i acc σ _ hlt p
 ·have e:i=n:=by omega
  subst e
  exact .inl ⟨Nat.le_refl _,hd acc σ H p⟩
def BY3 (XN:List Str)(scope:Scope):List Str->List (Option Nat)->Bool
 | _,[]=>true
 | [],_=>true
 | _::r,none::s=>BY3 XN scope r s
 | x::r,some j::s=>decide (XN[j]?=some x) && decide (scope.names.lookup x=some .free) && BY3 XN scope r s
theorem yN {XN:List Str}{scope:Scope}:∀ {N:List Str}{ix:List (Option Nat)},BY3 XN scope N ix=true->∀ (i j:Nat) (x:Str),ix[i]?=some (some j)->N[i]?=some x->XN[j]?=some x/\scope.names.lookup x=some .free
 | [],[],_,i,j,x,h1,_=>by simp at h1
 | _::_,[],_,i,j,x,h1,_=>by simp at h1
 | [],_::_,_,i,j,x,_,h2=>by simp at h2
 | y::r,none::s,h,i,j,x,h1,h2=>by
  cases i with
  | zero=>simp at h1
  | succ i=>exact yN (N:=r) (ix:=s) h i j x (by simpa using h1) (by simpa using h2)
 | y::r,some k::s,h,i,j,x,h1,h2=>by
  have h':(decide (XN[k]?=some y) && decide (scope.names.lookup y=some .free) && BY3 XN scope r s)=true:=h
  rw [Bool.and_eq_true,Bool.and_eq_true,decide_eq_true_eq,decide_eq_true_eq] at h'
  cases i with
  | zero =>
   simp at h1 h2
   subst h1 h2
   exact h'.1
  | succ i=>exact yN h'.2 i j x (by simpa using h1) (by simpa using h2)
def AN1 (XN:List Str)(sc scope:Scope)(N:List Str)(ix:List (Option Nat)):Bool :=
 decide (scope.kind=.function) && decide (∀ y∈scope.names,y.2≠.cell) && decide (∀ y∈scope.names,y.2=.local->scope.names.lookup y.1=some .local) &&
  decide (∀ y∈scope.names,y.2=.free->sc.names.lookup y.1=some .cell\/sc.names.lookup y.1=some .free) && decide (ix.length=N.length) && BY3 XN scope N ix
section
variable {X:Cx}
theorem eG {elt iter tg:Expr}{ifs:List Expr}{scope:Scope}{pos:Pos}{wi:TI}{g:TG}{tt:TT}{te:TE}(N:List Str)(ix:List (Option Nat))(hc:X.calm=true)(hk:AN1 X.N X.env.scope scope N ix=true)(hi:PI X tg iter wi)(hb:∀ cl C s H fp,PG (blk X N scope cl C s H fp) tg g/\PTs (blk X N scope cl C s H fp) ifs tt/\PE (blk X N scope cl C s H fp) elt te)(hs:∀ x,foldedSetIterable iter X.env x=pure x:=by intro _; rfl):PE X (.ListComp elt [⟨tg,iter,ifs,0⟩] scope pos) (yM wi ix g tt te):=by
 unfold AN1 at hk
 simp only [Bool.and_eq_true,decide_eq_true_eq] at hk
 obtain ⟨⟨⟨⟨⟨h1,h2⟩,h3⟩,h4⟩,h5⟩,h6⟩:=hk
 exact BR0 N ix hc h1 h2 h3 h4 h5 (yN h6) hi hb hs
theorem BG1 {i:Nat}{y:Str}{elt iter tg:Expr}{ifs:List Expr}{scope:Scope}{pos py spos:Pos}{wi:TI}{g:TG}{tt:TT}{te:TE}(N:List Str)(ix:List (Option Nat))(hc:X.calm=true)(hk:AN1 X.N X.env.scope scope N ix=true)(hN:X.N.Nodup)(hin:X.N[i]?=some y)(hy:X.env.scope.names.lookup y=some .local)(hi:PI X tg iter wi)(hb:∀ cl C s H fp,PG (blk X N scope cl C s H fp) tg g/\PTs (blk X N scope cl C s H fp) ifs tt/\PE (blk X N scope cl C s H fp) elt te)(hsw:swapsWith (.ListComp elt [⟨tg,iter,ifs,0⟩] scope pos) (some (.Name y py)) spos.line X.env=pure true:=by rfl)(hs:∀ x,foldedSetIterable iter X.env x=pure x:=by intro _; rfl):PS X (.Assign [.Name y py] (.ListComp elt [⟨tg,iter,ifs,0⟩] scope pos) spos) (BK3 (yM wi ix g tt te) (zZ i)):=by
 unfold AN1 at hk
 simp only [Bool.and_eq_true,decide_eq_true_eq] at hk
 obtain ⟨⟨⟨⟨⟨h1,h2⟩,h3⟩,h4⟩,h5⟩,h6⟩:=hk
 exact BR1 N ix hc h1 h2 h3 h4 h5 (yN h6) hN hin hy hi hb hsw hs
end
section
variable {X:Cx}
theorem xP {pins:List (Addr × Obj)}{σ:L2.St}{H:Hp}{s:Shared}{Q:VK}{u:Str}{t:Tok}{k:Nat}(I:Inv X pins σ H s)(q:Q (.str u) H):EP X pins σ Q (.str u t) { s with toks:=k }:=⟨.str u,H,I.tok k,⟨t,rfl⟩,q⟩
def CG0:V->Option Int->Option Int->Hp->VK->Prop:=fun x lo hi H Q=>∃ u,x=.str u/\u.length<=sizeLine/\Q (.str (Txt.slice u lo hi)) H
theorem xQ:SlR X CG0:=by
 intro pins s σ H x v vl vu lo hi sl Q I rx hs pl pu h
 obtain ⟨u,rfl,hz,q⟩:=h
 obtain ⟨t,rfl⟩:=rx
 refine ⟨"str",_,PySem.F.slot_str_getitem.lookup,typeIs_str _ _ _,?_⟩
 obtain ⟨os,hos,hcs,hds⟩:=hs
 cases pl with
 | none =>
  cases pu with
  | none=>exact wpAny_getItem_str_slice (l:=none) (u:=none) (st:=none) ⟨os,hos,hcs,hds⟩ rfl (post_val_or_str ⟨Nat.le_trans (Txt.slice_le u _ _) hz,fun t' k=>xP I q⟩)
  | int j tj=>exact wpAny_getItem_str_slice (l:=none) (u:=some (j,tj)) (st:=none) ⟨os,hos,hcs,hds⟩ rfl (post_val_or_str ⟨Nat.le_trans (Txt.slice_le u _ _) hz,fun t' k=>xP I q⟩)
 | int i ti =>
  cases pu with
  | none=>exact wpAny_getItem_str_slice (l:=some (i,ti)) (u:=none) (st:=none) ⟨os,hos,hcs,hds⟩ rfl (post_val_or_str ⟨Nat.le_trans (Txt.slice_le u _ _) hz,fun t' k=>xP I q⟩)
  | int j tj=>exact wpAny_getItem_str_slice (l:=some (i,ti)) (u:=some (j,tj)) (st:=none) ⟨os,hos,hcs,hds⟩ rfl (post_val_or_str ⟨Nat.le_trans (Txt.slice_le u _ _) hz,fun t' k=>xP I q⟩)
def BY4:V->List V->Hp->VK->Prop:=fun x xs H Q=>∃ u,x=.str u/\xs=[]/\Builtin.Str.tooLong (placed u fun _ c=>Unicode.upperOf c).size=false/\Q (.str ⟨placed u fun _ c=>Unicode.upperOf c⟩) H
theorem BG2:MtR X "str.upper" BY4:=by
 intro pins s σ H x xs v us Q I rx rv h
 obtain ⟨u,rfl,rfl,hz,q⟩:=h
 obtain ⟨t,rfl⟩:=rx
 cases rv
 refine call_gives PySem.F.slot_str_upper (typeIs_str _ _ _) PySem.F.entry_str_upper (PySem.F.args_str_upper_1 _) (gives_str_upper u t hz) ⟨?_,⟨.str _,H,I.tok _,⟨_,rfl⟩,q⟩⟩
 unfold Builtin.Str.tooLong at hz
 have:=of_decide_eq_false hz
 show (placed u fun _ c=>Unicode.upperOf c).size<=sizeLine
 omega
def CG1:V->List V->Hp->VK->Prop:=fun x xs H Q=>∃ u l ts,x=.str u/\xs=[.ref l]/\H l=some (.lst (ts.map V.str))/\JoinOk u ts=true/\Q (.str (Txt.join u ts)) H
theorem yO:∀ {ts:List Str}{us:List Value},Vals (ts.map V.str) us->∃ l:List (Str × Tok),us=strValues l/\l.map (·.1)=ts
 | [],_,r=>by
  rw [List.map_nil] at r
  cases r
  exact ⟨[],rfl,rfl⟩
 | a::ts,_,r=>by
  rw [List.map_cons] at r
  cases r with
  | cons r1 r2 =>
   obtain ⟨t,rfl⟩:=r1
   obtain ⟨l,rfl,e⟩:=yO r2
   exact ⟨(a,t)::l,rfl,by rw [List.map_cons,e]⟩
theorem kU:MtR X "str.join" CG1:=by
 intro pins s σ H x xs v us Q I rx rv h
 obtain ⟨u,l,ts,rfl,rfl,hl,hz,q⟩:=h
 obtain ⟨t,rfl⟩:=rx
 cases rv with
 | cons r1 r2 =>
  cases r2
  cases r1
  obtain ⟨_,its,n,r,e⟩:=I.hok l _ hl
  obtain ⟨ll,rfl,e2⟩:=yO r
  exact SC.join (D:=l) (l:=ll) ⟨_,e,rfl,n,rfl⟩ e2 hz fun t' k=>xP I q
end
section
variable {K:Frag}{ta te:TE}{tr:TA}{wi:TI}{ix:List (Option Nat)}{g:TG}{tt:TT}{σ:L2.St}{H:Hp}{Q:VK}{QB:Bool->Hp->Prop}
def CompL (K:Frag)(a:Addr)(g:TG)(tt:TT)(te:TE)(Q:VK)(σ:L2.St)(H:Hp):Prop:=∃ W:Nat->Nat->List V->L2.St->Hp->Prop,(∃ m,W 0 m [] σ H)/\∀ i m acc σ H,W i m acc σ H ->
 ((Itl K a).stop i H/\∀ D,H D=none->Q (.ref D) (L2.upd H D (.lst acc))) \/
 ((Itl K a).go i H/\acc.length < sizeLine/\∃ N:List V->L2.St->Hp->Prop,(∀ acc' σ' H',N acc' σ' H'->∃ m',m' < m/\W (i+1) m' acc' σ' H') /\
  ∀ x H',(Itl K a).yld i H x H'->g x σ H' fun σ2 H2=>tt σ2 H2 fun b H3=>if b=true then te σ2 H3 fun y H4=>N (acc++[y]) σ2 H4 else N acc σ2 H3)
def CompR (lo:Int)(n:Nat)(g:TG)(tt:TT)(te:TE)(Q:VK)(σ:L2.St)(H:Hp):Prop:=∃ W:Nat->Nat->List V->L2.St->Hp->Prop,(∃ m,W 0 m [] σ H)/\∀ i m acc σ H,W i m acc σ H ->
 ((Itr lo n).stop i H/\∀ D,H D=none->Q (.ref D) (L2.upd H D (.lst acc))) \/
 ((Itr lo n).go i H/\acc.length < sizeLine/\∃ N:List V->L2.St->Hp->Prop,(∀ acc' σ' H',N acc' σ' H'->∃ m',m' < m/\W (i+1) m' acc' σ' H') /\
  ∀ x H',(Itr lo n).yld i H x H'->g x σ H' fun σ2 H2=>tt σ2 H2 fun b H3=>if b=true then te σ2 H3 fun y H4=>N (acc++[y]) σ2 H4 else N acc σ2 H3)
theorem AH1:yM (BN7 K ta) ix g tt te σ H Q=ta σ H (fun x H1=>isR x fun a=>(∃ xs,SqL K H1 a xs)/\CompL K a g tt te Q (AM9 ix σ) H1):=rfl
theorem AH2:yM (BN8 tr) ix g tt te σ H Q=tr σ H (fun vs H1=>∃ j:Int,vs=[.int j]/\-(2 ^ 62)<=j/\j < 2 ^ 62/\CompR 0 j.toNat g tt te Q (AM9 ix σ) H1):=rfl
theorem BR2:CJ6 σ H QB=QB true H:=rfl
theorem AH3:AM9 [] σ=[]:=rfl
theorem AH4:AM9 (none::ix) σ=none::AM9 ix σ:=rfl
theorem AH5 {j:Nat}:AM9 (some j::ix) σ=((σ[j]?).getD none)::AM9 ix σ:=rfl
theorem CG2 {T:String}{r:V->List V->Hp->VK->Prop}:tBM K T r ta tr σ H Q=ta σ H (fun x H1=>tyV K T x H1/\tr σ H1 (fun xs H2=>r x xs H2 Q)):=rfl
theorem BR3 {T:String}{r:V->List V->Hp->VK->Prop}:CJ2 K T r ta σ H Q=ta σ H (fun x H1=>tyV K T x H1/\r x [] H1 Q):=rfl
theorem BR4 {u:Str}:tyV K "str" (.str u) H=True:=by simp [tyV]
theorem AX3 {u v:Str}:(∃ i j,V.str u=.str i/\V.str v=.str j/\i.length+j.length<=sizeLine/\Q (.str (i++j)) H)=(u.length+v.length<=sizeLine/\Q (.str (u++v)) H):=by simp
theorem BR5 {u:Str}{lo hi:Option Int}:CG0 (.str u) lo hi H Q=(u.length<=sizeLine/\Q (.str (Txt.slice u lo hi)) H):=by simp [CG0]
theorem AX4 {X:Cx}{N:List Str}{scope:Scope}{cl:List (Str × Addr)}{C:Addr}{s:Shared}{fp:List Addr}:(blk X N scope cl C s H fp).K=X.K:=rfl
theorem CompL.by {a:Addr}{xs:List V}(Pv:Nat->List V->L2.St->Hp->Prop)(hz:xs.length<=sizeLine)(h0:Pv 0 [] σ H)(hl:∀ i acc σ H,i<=xs.length->Pv i acc σ H->SqL K H a xs)(hs:∀ i x acc σ H,xs[i]?=some x->Pv i acc σ H->g x σ H fun σ2 H2=>tt σ2 H2 fun b H3=>if b=true then te σ2 H3 fun y H4=>Pv (i+1) (acc++[y]) σ2 H4 else Pv (i+1) acc σ2 H3)(hacc:∀ i acc σ H,Pv i acc σ H->acc.length<=i)(hd:∀ acc σ H,Pv xs.length acc σ H->∀ D,H D=none->Q (.ref D) (L2.upd H D (.lst acc))):CompL K a g tt te Q σ H:=AX2 Pv hz h0 hl hs hacc hd
theorem CompR.by {lo:Int}{n:Nat}(Pv:Nat->List V->L2.St->Hp->Prop)(hz:n<=sizeLine)(h0:Pv 0 [] σ H)(hs:∀ i acc σ H,i < n->Pv i acc σ H->g (.int (lo+i)) σ H fun σ2 H2=>tt σ2 H2 fun b H3=>if b=true then te σ2 H3 fun y H4=>Pv (i+1) (acc++[y]) σ2 H4 else Pv (i+1) acc σ2 H3)(hacc:∀ i acc σ H,Pv i acc σ H->acc.length<=i)(hd:∀ acc σ H,Pv n acc σ H->∀ D,H D=none->Q (.ref D) (L2.upd H D (.lst acc))):CompR lo n g tt te Q σ H:=AP9 Pv hz h0 hs hacc hd
theorem ixs {u:Str}{k:Int}{c:Nat}(hz:u.length<=sizeLine)(hv:atI u.cps.toList k=some c)(q:Q (.str ⟨#[c]⟩) H):CJ1 (.str u) (.int k) H Q:=⟨u,k,c,rfl,rfl,hz,hv,q⟩
end
theorem uR {X:Cx}{x:Str}(h:X.env.kindOf x=some .globalImplicit):Gl X x:=h
def uS:List Expr->Option (List Str)
 | []=>some []
 | .Constant (.str x) _ _::r=>(uS r).map (x::·)
 | _=>none
def AX5 (xs:List Str):TA:=fun _ H Q=>Q (xs.map V.str) H
theorem AX6 {xs:List Str}{σ:L2.St}{H:Hp}{Q:List V->Hp->Prop}:AX5 xs σ H Q=Q (xs.map V.str) H:=rfl
theorem AX7 {X:Cx}:∀ {es:List Expr}{xs:List Str},uS es=some xs->PA X es (AX5 xs)
 | [],xs,h=>by
  have e:xs=[]:=by simpa [uS] using h.symm
  subst e
  exact fun _ _ _ _ H Q I q=>Calls.spliced_nil ⟨[],H,I,.nil,q⟩
 | e::es,xs,h=>by
  cases e with
  | Constant c j pos =>
   cases c with
   | str x =>
    have h':(uS es).map (x::·)=some xs:=h
    cases hr:uS es with
    | none=>rw [hr] at h'; cases h'
    | some ys =>
     rw [hr] at h'
     have e:xs=x::ys:=(Option.some.inj h').symm
     subst e
     have hp:PA X (.Constant (.str x) j pos::es) (AA5 (tC (.str x)) (AX5 ys)):=AU3 aN (AX7 hr)
     exact hp
   | _=>exact absurd h (by intro z; cases z)
  | _=>exact absurd h (by intro z; cases z)
theorem BR6 {X:Cx}{es:List Expr}{xs:List Str}{pos:Pos}(h:uS es=some xs):PE X (.List es pos) (BO3 (AX5 xs)):=iB (AX7 h)
def Well3 (H:Hp)(w:Addr):Prop:=∃ a b c:Int,H w=some (.lst [.int a,.int b,.int c])
theorem Well3.same {H H':Hp}{w:Addr}(W:Well3 H w)(s:Same H H'):Well3 H' w:=by
 obtain ⟨a,b,c,h⟩:=W
 exact ⟨a,b,c,s _ _ h⟩
theorem Well3.ne {H:Hp}{w p:Addr}(W:Well3 H w)(h:H p=none):p≠w:=by
 obtain ⟨a,b,c,e⟩:=W
 exact (aQ e h).symm
def aX (u:Str):Prop:=1<=u.length/\u.length<=8/\∀ c∈u.cps.toList,97<=c/\c<=122
instance (u:Str):Decidable (aX u):=by unfold aX; infer_instance
def letters:Str:="abcdefghijklmnopqrstuvwxyz"
theorem AX8 {i:Int}(h0:0<=i)(h1:i < 26):∃ c,atI letters.cps.toList i=some c/\97<=c/\c<=122:=by
 have h:∀ k:Fin 26,∃ c,c < 123/\atI letters.cps.toList ((k.val:Nat):Int)=some c/\97<=c/\c<=122:=by
  intro k
  refine ⟨97+k.val,?_⟩
  revert k
  decide +kernel
 obtain ⟨c,_,e,q⟩:=h ⟨i.toNat,by omega⟩
 have e2:((i.toNat:Nat):Int)=i:=by omega
 rw [e2] at e
 exact ⟨c,e,q⟩
def w8:Str:="bcdefghi"
def axz:Str:="axz"
theorem BR7 {r:Int}(h0:0<=r)(h1:r < 8):(Txt.slice w8 none (some (1+r))).length=(r+1).toNat:=by
 have h:∀ k:Fin 8,(Txt.slice w8 none (some (1+((k.val:Nat):Int)))).length=k.val+1:=by decide +kernel
 have q:=h ⟨r.toNat,by omega⟩
 have e2:((r.toNat:Nat):Int)=r:=by omega
 rw [e2] at q
 rw [q]
 show r.toNat+1=(r+1).toNat
 omega
theorem BG3 {r a k:Int}(h0:0<=r)(h1:r < 8)(a0:0<=a)(a1:a < r+1)(k0:0<=k)(k1:k < 3):∃ c,atI axz.cps.toList k=some c /\
  aX (Txt.slice (Txt.slice w8 none (some (1+r))) none (some a)++⟨#[c]⟩++Txt.slice (Txt.slice w8 none (some (1+r))) (some (a+1)) none):=by
 have h:∀ (r a:Fin 8) (k:Fin 3),a.val < r.val+1->∃ c∈[97,120,122],atI axz.cps.toList ((k.val:Nat):Int)=some c /\
  aX (Txt.slice (Txt.slice w8 none (some (1+((r.val:Nat):Int)))) none (some ((a.val:Nat):Int))++⟨#[c]⟩++Txt.slice (Txt.slice w8 none (some (1+((r.val:Nat):Int)))) (some (((a.val:Nat):Int)+1)) none):=by decide +kernel
 obtain ⟨c,_,q⟩:=h ⟨r.toNat,by omega⟩ ⟨a.toNat,by omega⟩ ⟨k.toNat,by omega⟩ (by show a.toNat < r.toNat+1; omega)
 have e1:((r.toNat:Nat):Int)=r:=by omega
 have e2:((a.toNat:Nat):Int)=a:=by omega
 have e3:((k.toNat:Nat):Int)=k:=by omega
 rw [e1,e2,e3] at q
 exact ⟨c,q⟩
theorem uT (u:Str)(h:u.length<=8)(l r:Option Int):(Txt.slice u l r).length<=8:=Nat.le_trans (Txt.slice_le u l r) h
theorem AN2:∀ ts:List Str,(∀ t∈ts,∃ c,t=⟨#[c]⟩/\97<=c/\c<=122)->(Str.join Str.empty ts).length=ts.length/\∀ c∈(Str.join Str.empty ts).cps.toList,97<=c/\c<=122
 | [],_=>⟨rfl,fun c hc=>by cases hc⟩
 | [x],h=>by
  obtain ⟨c,rfl,q⟩:=h x List.mem_cons_self
  refine ⟨rfl,fun c' hc=>?_⟩
  have e:c'=c:=by simpa [Str.join] using hc
  subst e
  exact q
 | x::y::r,h=>by
  obtain ⟨i1,i2⟩:=AN2 (y::r) fun t ht=>h t (List.mem_cons_of_mem _ ht)
  obtain ⟨c,rfl,q⟩:=h x List.mem_cons_self
  show ((⟨#[c]⟩:Str)++Str.empty++Str.join Str.empty (y::r)).length=_/\∀ c'∈((⟨#[c]⟩:Str)++Str.empty++Str.join Str.empty (y::r)).cps.toList,_
  refine ⟨?_,fun c' hc=>?_⟩
  ·rw [Str.length_append,Str.length_append,i1]
   show 1+0+(y::r).length=(y::r).length+1
   omega
  ·have hc':c'∈((#[c]++#[])++(Str.join Str.empty (y::r)).cps).toList:=hc
   rw [Array.toList_append] at hc'
   rcases List.mem_append.mp hc' with z | z
   ·have e:c'=c:=by simpa using z
    subst e
    exact q
   ·exact i2 c' z
theorem AX9 {ts:List Str}(h:∀ t∈ts,∃ c,t=⟨#[c]⟩/\97<=c/\c<=122)(h1:1<=ts.length)(h8:ts.length<=8):JoinOk Str.empty ts=true/\aX (Txt.join Str.empty ts):=by
 obtain ⟨i1,i2⟩:=AN2 ts h
 have hj:Txt.join Str.empty ts=Str.join Str.empty ts:=StrLaws.glued_eq_join _ _
 refine ⟨?_,?_⟩
 ·unfold JoinOk Builtin.Str.tooLong
  rw [StrLaws.joinTotal]
  have hs:∀ l:List Str,(∀ t∈l,∃ c,t=⟨#[c]⟩/\97<=c/\c<=122)->(l.map (·.length)).sum=l.length:=by
   intro l
   induction l with
   | nil=>intro _; rfl
   | cons x r ih =>
    intro hl
    obtain ⟨c,rfl,_⟩:=hl x List.mem_cons_self
    rw [List.map_cons,List.sum_cons,ih fun t ht=>hl t (List.mem_cons_of_mem _ ht),List.length_cons]
    show 1+r.length=r.length+1
    omega
  rw [hs ts h]
  have e:Str.empty.length=0:=rfl
  rw [e]
  have z:(1000:Nat) < sizeLine:=by decide
  rw [Bool.not_eq_true',decide_eq_false_iff_not]
  omega
 ·rw [hj]
  exact ⟨by omega,by omega,i2⟩
structure CalC (P:Program) (w:World) (K:Frag) (mg:Str->Option Value) (base:Heap) (x:Str) (C:Addr) (ps:List Str) (k:Nat) (sp:Sp):Prop where
 ex:∃ f fd,FnOk P w K mg base (CXF P w) k f fd ps sp/\Binds K fd ps []/\Mk K C f/\mg x=some (.ref C)
structure CalM (P:Program) (w:World) (K:Frag) (mg:Str->Option Value) (base:Heap) (C:Addr) (m:Str) (ps:List Str) (k:Nat) (sp:Sp):Prop where
 ex:∃ f fd,FnOk P w K mg base (CXF P w) k f fd ps sp/\Binds K fd ps []/\Meth K C m f/\Cls K C
section
variable {X:Cx}{x m:Str}{C:Addr}{ps:List Str}{k:Nat}{sp:Sp}{e o:Expr}{es:List Expr}{ta:TE}{t:TA}{p pos apos:Pos}{E:XK}
theorem fP (c:CalC X.prog X.w X.K X.mg X.base x C ps k sp)(hx:kE (CXF X.prog X.w) X E)(hr:Room (k+1) X.A)(hg:Gl X x)(ha:PA X (e::es) t)(hdb:(x == ("__debug__":Str))=false:=by decide)(he:starEach (e::es) X.env=(false,eval e X.env)::starEach es X.env:=by rfl)(hpl:(backTo pos (starEach es X.env)).any (·.1)=false:=by rfl) :
  PE X (.Call (.Name x p) (e::es) [] pos) (BF2 C sp [] E t):=by
 obtain ⟨f,fd,F,b,M,hm⟩:=c.ex
 exact AU4 M F hr hg hm b .nil hx ha hdb he hpl
def AY0 (Mm:Addr->Sp->Prop)(m:Str)(E:XK)(ta:TE)(t:TA):TE:=fun σ H Q=>ta σ H fun x H1=>isR x fun a=>∃ C dx fs,H1 a=some (.ins C dx fs)/\fs.lookup m=none/\∃ sp,Mm C sp /\
 t σ H1 fun vs H2=>sp (x::vs) H2 Q E
theorem AH6 {Mm:Addr->Sp->Prop}{σ:L2.St}{H:Hp}{Q:VK}:AY0 Mm m E ta t σ H Q=ta σ H (fun x H1=>isR x fun a=>∃ C dx fs,H1 a=some (.ins C dx fs)/\fs.lookup m=none/\∃ sp,Mm C sp /\
 t σ H1 fun vs H2=>sp (x::vs) H2 Q E):=rfl
theorem nK {pl:Sem Bool}{Mm:Addr->Sp->Prop}(he:PE X o ta)(hM:∀ C sp,Mm C sp->CalM X.prog X.w X.K X.mg X.base C m ps k sp)(hx:kE (CXF X.prog X.w) X E)(hr:Room k X.A)(ha:PA X (e::es) t)(hst:starEach (e::es) X.env=(false,eval e X.env)::starEach es X.env:=by rfl)(hpl:(backTo pos (starEach es X.env)).any (·.1)=false:=by rfl)(ht:eval (.Call (.Attribute o m apos) (e::es) [] pos) X.env=(do
   let ov <- eval o X.env
   standAt apos.atName
   let (f,first) <- holding [ov] (getMethod ov m pl)
   callWith pos f first (backTo pos (starEach (e::es) X.env)) (backToKw pos (keywordEach [] X.env))):=by rfl) :
  PE X (.Call (.Attribute o m apos) (e::es) [] pos) (AY0 Mm m E ta t):=by
 intro pins s σ H Q I h
 refine methodCall_KW (pl:=pl) (thn (he pins s σ H _ I h) fun u s1 ⟨x,H1,I1,rx,qq⟩=>?_) ht
 obtain ⟨a,ex,C,dx,fs,ea,l,sp,hC,q⟩:=isR.ex qq
 subst ex
 obtain rfl:u=Value.ref a:=rx
 obtain ⟨f,fd,F,b,hm,c⟩:=(hM C sp hC).ex
 refine xH I1 ea c hm l ?_
 refine callWith_K (first:=[.ref a]) (h₀:=X.base) I.ok.mod.kin hm.kp (thn (ha pos pins s1 σ H1 _ I1 q) fun us s2 ⟨vs,H2,I2,r,q2⟩=>⟨I2.kIn,?_⟩) hst hpl
 refine AM1 (us:=.ref a::us) (vs:=.ref a::vs) F hr b .nil hx I2 (.cons rfl r) ?_
 rw [List.append_nil]
 exact q2
theorem bT {pl:Sem Bool}{Mm:Addr->Sp->Prop}(he:PE X o ta)(hM:∀ C sp,Mm C sp->CalM X.prog X.w X.K X.mg X.base C m ps k sp)(hx:kE (CXF X.prog X.w) X E)(hr:Room k X.A)(ht:eval (.Call (.Attribute o m apos) [] [] pos) X.env=(do
   let ov <- eval o X.env
   standAt apos.atName
   let (f,first) <- holding [ov] (getMethod ov m pl)
   callWith pos f first (backTo pos (starEach [] X.env)) (backToKw pos (keywordEach [] X.env))):=by rfl) :
  PE X (.Call (.Attribute o m apos) [] [] pos) (AY0 Mm m E ta BO2):=by
 intro pins s σ H Q I h
 refine methodCall_KW (pl:=pl) (thn (he pins s σ H _ I h) fun u s1 ⟨x,H1,I1,rx,qq⟩=>?_) ht
 obtain ⟨a,ex,C,dx,fs,ea,l,sp,hC,q⟩:=isR.ex qq
 subst ex
 obtain rfl:u=Value.ref a:=rx
 obtain ⟨f,fd,F,b,hm,c⟩:=(hM C sp hC).ex
 refine xH I1 ea c hm l ?_
 exact callWith_K0 (first:=[.ref a]) I1.kIn hm.kp (AM1 (us:=[.ref a]) (vs:=[.ref a]) F hr b .nil hx I1 (.cons rfl .nil) q)
structure MkN (K:Frag) (C:Addr):Prop where
 makes:makesIn K C=true
 init:findIn K (.ref C) "__init__"=some (some (.builtin "object.__init__"))
 kp:keepIn K (.ref C)=true
def BL7 (C:Addr):TE:=fun _ H Q=>∀ x dx,H x=none->H dx=none->dx≠x->Q (.ref x) (L2.upd (L2.upd H dx (.own x)) x (.ins C dx []))
theorem AH7 {σ:L2.St}{H:Hp}{Q:VK}:BL7 C σ H Q=∀ x dx,H x=none->H dx=none->dx≠x->Q (.ref x) (L2.upd (L2.upd H dx (.own x)) x (.ins C dx [])):=rfl
theorem rA (M:MkN X.K C)(hg:Gl X x)(hm:X.mg x=some (.ref C))(hdb:(x == ("__debug__":Str))=false:=by decide):PE X (.Call (.Name x p) [] [] pos) (BL7 C):=by
 intro pins s σ H Q I h
 refine wpAny_Call_Name_kw (iK I hg hm ?_ hdb)
 refine callWith_K0 I.kIn M.kp ?_
 have hq:=h (s.heap.objs.size+1) s.heap.objs.size (I.hok.fresh (Nat.le_succ _)) (I.hok.fresh (Nat.le_refl _)) (Nat.ne_of_lt (Nat.lt_succ_self _))
 have I2:=Inv.made (C:=C) I
 have Y:=makes_of (M:=model X.prog X.w) I.kIn M.makes
 refine wpAny_call (AT9 I.kIn M.makes M.init (fun self=>Looks.of_pure (oi_bind self)) ?_)
 obtain ⟨hh,g,d,tt,os⟩:=s
 have t1:Looks (model X.prog X.w) ((hh.push emptyDict).push (instObj C hh.objs.size)) (typeOf (.ref (hh.objs.size+1))) (.ref C):=by
  obtain ⟨mA,O,_⟩:=uM (a:=hh.objs.size+1) (C:=C) (dx:=hh.objs.size) (fs:=[]) I2.hok aA
  obtain ⟨od,J,_⟩:=O.look
  exact J.type
 have t2:Looks (model X.prog X.w) ((hh.push emptyDict).push (instObj C hh.objs.size)) (isInstance (.ref (hh.objs.size+1)) (.type "object")) true :=
  t1.andThen (Y.top.keeps fun b o e=>Heap.get?_push_of_some _ (Heap.get?_push_of_some _ e))
 refine codeAny_call_builtin oi_plain entry_oi (@check_slot (model X.prog X.w) _ _ _ "object.__init__" "object" "__init__" (.ref (hh.objs.size+1)) [] [] _ oi_kind oi_split t2 (oi_args (.ref (hh.objs.size+1))) ?_)
 rw [oi_run]
 exact wpAny_pure (And.intro rfl ⟨V.ref (hh.objs.size+1),_,I2,rfl,hq⟩)
end
def BY5 (K:Frag):List V->Hp->VK->Prop:=fun xs H Q=>∃ (x:V) (c:Addr) (t:Value) (b:Bool),xs=[x,.ref c]/\TyOf K H x t/\kitOne K t (.ref c)=some b/\Q (.bl b) H
theorem AY1 {X:Cx}:kD X (.builtin "isinstance") (BY5 X.K):=by
 intro pins s σ H xs us Q I r h
 obtain ⟨x,c,t,b,rfl,ty,e,q⟩:=h
 obtain ⟨u,w',rfl,rx,rc⟩:=AT8 r
 cases (show w'=Value.ref c from rc)
 exact uO I rx ty e fun tk=>⟨.bl b,H,I.tok _,rfl,q⟩
section
variable {K:Frag}{C:Addr}{sp:Sp}{dvs:List V}{E:XK}{ta tv:TE}{t:TA}{f:Str}{σ:L2.St}{H:Hp}{Q:VK}{D:Ends}{n:Nat}{ts:TGs}{v:V}{QS:L2.St->Hp->Prop}{g:TG}
theorem AY2:BF2 C sp dvs E t σ H Q=t σ H (fun vs H1=>∀ x dx,H1 x=none->H1 dx=none->dx≠x ->
 sp (.ref x::(vs++dvs)) (L2.upd (L2.upd H1 dx (.own x)) x (.ins C dx [])) (fun v H2=>v=.non/\Q (.ref x) H2) E):=rfl
theorem BR8:CC8 K ta f σ H Q=ta σ H (fun x H1=>isR x fun a=>∃ C dx fs,H1 a=some (.ins C dx fs)/\Cls K C/\NoAttr K C f/\∃ v,fs.lookup f=some v/\Q v H1):=rfl
theorem AY3:CI4 K n ts v σ H QS=isR v (fun a=>∃ xs,SqT K H a xs/\xs.length=n/\ts xs σ H QS):=rfl
theorem AH8 {vs:List V}:BW6 g ts vs σ H QS=isC vs (fun v r=>g v σ H (fun σ' H'=>ts r σ' H' QS)):=rfl
theorem AY4:CI7 K ta tv f D σ H=tv σ H (fun y H1=>ta σ H1 (fun x H2=>isR x fun a=>∃ C dx fs,H2 a=some (.ins C dx fs)/\Cls K C/\NoAttr K C f/\fs.length < 1000 /\
 D.nx σ (L2.upd H2 a (.ins C dx (pO f y fs))))):=rfl
theorem AY5 {vs:List V}:CI3 vs σ H QS=isN vs (QS σ H):=rfl
end
section
variable {X:Cx}{x:Str}{ps:List Str}{k:Nat}{sp:Sp}{p pos:Pos}
theorem BG4 (C:CalX X.prog X.w X.K X.mg X.base x ps k sp)(hr:Room k X.A)(hg:Gl X x)(hdb:(x == ("__debug__":Str))=false:=by decide):PE X (.Call (.Name x p) [] [] pos) (yF sp [] E0 BO2):=by
 obtain ⟨f,fd,F,b,kp,m⟩:=C.ex
 exact BF3 F hr hg m kp b .nil gM hdb
end
theorem FnOk.lift {P:Program}{w:World}{K:Frag}{mg:Str->Option Value}{base:Heap}{CX:CXT}{j k:Nat}{f:Addr}{fd:FuncData}{ps:List Str}{sp:Sp}(F:FnOk P w K mg base CX j f fd ps sp)(h:j<=k):FnOk P w K mg base CX k f fd ps sp :=
 ⟨F.len,fun A outer s H args us vs Q E hr he hb hv hs=>F.run A outer s H args us vs Q E (hr.mono h) he hb hv hs⟩
theorem bA {H:Hp}{x dx:Addr}{o o':HO}(hx:H x=none)(hd:H dx=none):Same H (L2.upd (L2.upd H dx o) x o'):=fun b u q=>by
 rw [aJ (aQ q hx),aJ (aQ q hd)]
 exact q
structure ClsK (K:Frag) (C:Addr):Prop where
 cl:Cls K C
 ha:findIn K (.ref C) "__class__"=some (some (.builtin "object.__class__"))
 hn:specialIn K (.builtin "object.__class__") "__get__"=some (some (.builtin "getset_descriptor.__get__"))
 ht:takesIn K (.builtin "object.__class__")=some true
 hm:mroIn K C (.type "object")=some true
theorem ClsK.ty {K:Frag}{C:Addr}(c:ClsK K C){H:Hp}{a dx:Addr}{fs:List (Str × V)}(e:H a=some (.ins C dx fs)):TyOf K H (.ref a) (.ref C):=.ins e c.cl c.ha c.hn c.ht c.hm
theorem bV {X:Cx}{K:Frag}(hK:X.K=K):kD X (.builtin "isinstance") (BY5 K):=by
 subst hK
 exact AY1
def pQ:Expr->Bool
 | .Starred _ _=>true
 | _=>false
theorem aD:∀ (e:Expr) (es:List Expr) (env:Env),pQ e=false->starEach (e::es) env=(false,eval e env)::starEach es env:=by
 intro e es env h
 cases e <;> first | rfl | (cases h)
def AB7:List Expr->Bool
 | []=>true
 | e::r=>!pQ e && AB7 r
theorem aF {pos:Pos}{env:Env}:∀ {es:List Expr},AB7 es=true->(backTo pos (starEach es env)).any (·.1)=false
 | [],_=>rfl
 | e::r,h=>by
  have h':(!pQ e)=true/\AB7 r=true:=by simpa [AB7] using h
  rw [aD e r env (by simpa using h'.1)]
  have ih:=aF (pos:=pos) (env:=env) h'.2
  have e1:backTo pos ((false,eval e env)::starEach r env)=(false,eval e env)::backTo pos (starEach r env):=rfl
  rw [e1,List.any_cons,ih]
  rfl
theorem CK9 {X:Cx}{e:Expr}{es:List Expr}{te:TE}{t:TA}(ha:PE X e te)(hr:PA X es t)(hs:pQ e=false:=by rfl):PA X (e::es) (AA5 te t):=AU3 ha hr (aD e es X.env hs)
structure QA (X:Cx) (es:List Expr) (t:TA):Prop where
 h:PA X es t
theorem aB {X:Cx}:QA X [] BO2:=⟨BX1⟩
theorem aL {X:Cx}{e:Expr}{es:List Expr}{te:TE}{t:TA}(ha:PE X e te)(hr:QA X es t)(hs:pQ e=false:=by rfl):QA X (e::es) (AA5 te t):=⟨CK9 ha hr.h hs⟩
theorem aH {X:Cx}{es:List Expr}{t:TA}(h:QA X es t):PA X es t:=h.h
def AN3:V->Bool
 | .int _=>true
 | _=>false
def uU (x:V)(lo hi:Int):Bool:=match x with
 | .int i=>decide (lo<=i) && decide (i<=hi)
 | _=>false
def AB8 (x:V)(lo:Int):Bool:=match x with
 | .int i=>decide (lo<=i)
 | _=>false
def CG3 (t u:TS):TS:=fun D σ H=>∃ M:L2.St->Hp->Prop,t { D with nx:=M } σ H/\∀ σ' H',M σ' H'->u D σ' H'
theorem BR9 {t u:TS}{D:Ends}{σ:L2.St}{H:Hp}:CG3 t u D σ H=∃ M:L2.St->Hp->Prop,t { D with nx:=M } σ H/\∀ σ' H',M σ' H'->u D σ' H':=rfl
theorem BS0 {X:Cx}{st:Stmt}{rest:List Stmt}{t u:TS}(h1:PS X st t)(h2:PSs X rest u):PSs X (st::rest) (CG3 t u):=by
 intro pins s σ H D I h
 obtain ⟨M,ha,hb⟩:=h
 refine wpAny_execs_cons (thn (h1 pins s σ H { D with nx:=M } I ha) fun f s1 q=>?_)
 cases f with
 | next =>
  obtain ⟨σ',H',I',q⟩:=q
  exact h2 pins s1 σ' H' D I' (hb _ _ q)
 | ret v=>exact q
 | brk=>exact q
 | cont=>exact q
def kG (u:Str):Bool:=u.cps.all (· < 128)
def Its (u:Str):It:=⟨fun i _=>i < u.cps.size,fun i H x H'=>H'=H/\∃ c,u.cps[i]?=some c/\x=.str ⟨#[c]⟩,fun i _=>u.cps.size<=i⟩
theorem BG5 {P:Program}{w:World}{K:Frag}{tg:Expr}(u:Str)(t:Tok)(it:Addr):Turn P w K tg (Its u) [it] it (fun i h=>h.IsStrIter it "str_ascii_iterator" u t i) where
 mem:=by simp
 obj:=fun i h st b hb=>by
  have e:b=it:=by simpa using hb
  subst e
  obtain ⟨o,e,c,d⟩:=st
  exact ⟨o,e,fun v z=>by rw [d] at z; cases z⟩
 keep:=fun i h h' st k=>by
  obtain ⟨o,e,c,d⟩:=st
  exact ⟨o,k it (by simp) o e,c,d⟩
 item:=by
  intro X hP hw hK hc i pins s σ H E I hf st hg
  subst hP hw hK
  have hx:u.cps[i]?=some u.cps[i]:=Array.getElem?_eq_getElem hg
  obtain ⟨f0,f1,f2,f3,f4,f5⟩:=hf it (by simp)
  refine wpAny_pyNext_ascii_item st hx fun h' st' sb=>?_
  have I1:Inv X pins σ H { s with heap:=h',toks:=s.toks+1 }:=I.turned (t':=s.toks+1) (fun b o hb e=>(sb.2 b hb).trans e) f0 f1 f3 f4 f5
  obtain ⟨o,e,c,d⟩:=id st'
  exact ⟨_,rfl,BE6 (s:={ s with heap:=h',toks:=s.toks+1 }) e c d (by decide) ⟨.str ⟨#[u.cps[i]]⟩,H,I1,⟨_,rfl⟩,⟨rfl,_,hx,rfl⟩,st',fun b hb=>(hf b hb).1⟩⟩
 done:=by
  intro X hP hw hK hc i pins s σ H E I hf st hg
  subst hP hw hK
  obtain ⟨f0,f1,f2,f3,f4,f5⟩:=hf it (by simp)
  exact wpAny_pyNext_ascii_end (I.ok.hd hc) st (Array.getElem?_eq_none hg) fun h' eb=>⟨rfl,I.turned (t':=s.toks) (fun b o hb e=>eb b o hb e) f0 f1 f3 f4 f5⟩
 self:=fun _ _ _ _ _ st h=>wpAny_pyIter_striter_ascii st h
def CJ7 (tl:TE):TI:=fun σ H R=>tl σ H fun x H1=>∃ u,x=.str u/\kG u=true/\R (Its u) H1
theorem BL8 {X:Cx}{tg l:Expr}{tl:TE}(hl:PE X l tl):PI X tg l (CJ7 tl):=by
 intro pins s σ H R I h
 refine thn (hl pins s σ H _ I h) fun v s1 ⟨x,H1,I1,r1,q1⟩=>?_
 obtain ⟨u,e,hp,q⟩:=q1
 subst e
 obtain ⟨t,rfl⟩:=r1
 refine wpAny_pyIter_ascii hp ?_
 refine ⟨s1.heap.objs.size,[s1.heap.objs.size],_,_,H1,rfl,I1.kept (t':=s1.toks) fun b o e=>Heap.get?_push_of_some _ e,BG5 u t _,⟨_,Heap.get?_push_size _ rfl,rfl,rfl⟩,fun b hb=>?_,q⟩
 have e:b=s1.heap.objs.size:=by simpa using hb
 subst e
 exact I1.fpOk (Nat.le_refl _) (I1.hok.fresh (Nat.le_refl _))
section
variable {K:Frag}{ta te:TE}{ix:List (Option Nat)}{g:TG}{tt:TT}{σ:L2.St}{H:Hp}{Q:VK}
def CompS (u:Str)(g:TG)(tt:TT)(te:TE)(Q:VK)(σ:L2.St)(H:Hp):Prop:=∃ W:Nat->Nat->List V->L2.St->Hp->Prop,(∃ m,W 0 m [] σ H)/\∀ i m acc σ H,W i m acc σ H ->
 ((Its u).stop i H/\∀ D,H D=none->Q (.ref D) (L2.upd H D (.lst acc))) \/
 ((Its u).go i H/\acc.length < sizeLine/\∃ N:List V->L2.St->Hp->Prop,(∀ acc' σ' H',N acc' σ' H'->∃ m',m' < m/\W (i+1) m' acc' σ' H') /\
  ∀ x H',(Its u).yld i H x H'->g x σ H' fun σ2 H2=>tt σ2 H2 fun b H3=>if b=true then te σ2 H3 fun y H4=>N (acc++[y]) σ2 H4 else N acc σ2 H3)
theorem AH9:yM (CJ7 ta) ix g tt te σ H Q=ta σ H (fun x H1=>∃ u,x=.str u/\kG u=true/\CompS u g tt te Q (AM9 ix σ) H1):=rfl
theorem CompS.by {u:Str}(Pv:Nat->List V->L2.St->Hp->Prop)(hz:u.cps.size<=sizeLine)(h0:Pv 0 [] σ H)(hs:∀ i c acc σ H,u.cps[i]?=some c->Pv i acc σ H->g (.str ⟨#[c]⟩) σ H fun σ2 H2=>tt σ2 H2 fun b H3=>if b=true then te σ2 H3 fun y H4=>Pv (i+1) (acc++[y]) σ2 H4 else Pv (i+1) acc σ2 H3)(hacc:∀ i acc σ H,Pv i acc σ H->acc.length<=i)(hd:∀ acc σ H,Pv u.cps.size acc σ H->∀ D,H D=none->Q (.ref D) (L2.upd H D (.lst acc))):CompS u g tt te Q σ H:=by
  refine ⟨fun i m acc σ H=>m=u.cps.size - i/\i<=u.cps.size/\Pv i acc σ H,⟨u.cps.size,by simp,Nat.zero_le _,h0⟩,?_⟩
  rintro i m acc σ H ⟨rfl,hi,p⟩
  have ha:=hacc i acc σ H p
  by_cases hlt:i < u.cps.size
  · refine .inr ⟨hlt,by omega,Pv (i+1),fun acc' σ' H' p'=>⟨u.cps.size - (i+1),by omega,rfl,hlt,p'⟩,fun x H' y=>?_⟩
    obtain ⟨e,c,hc,y⟩:=y
    subst e y
    exact hs i c acc σ _ hc p
  · have e:i=u.cps.size:=by omega
    subst e
    exact .inl ⟨Nat.le_refl _,hd acc σ H p⟩
end
theorem AN4:∀ {bs:List Bool}{its:List Value},Vals (bs.map V.bl) its->∀ (i:Nat) (v:Value),its[i]?=some v->∃ b:Bool,bs[i]?=some b/\v=Value.bool b
 | [],_,r,i,v,h=>by
  rw [List.map_nil] at r
  cases r
  simp at h
 | b::bs,_,r,i,v,h=>by
  rw [List.map_cons] at r
  cases r with
  | cons r1 r2 =>
   cases i with
   | zero =>
    simp at h
    subst h
    exact ⟨b,rfl,r1⟩
   | succ i=>exact AN4 r2 i v (by simpa using h)
theorem yP {X:Cx}(hc:X.calm=true):kD X (.builtin "all") (fun xs H Q=>∃ (a:Addr) (bs:List Bool),xs=[.ref a]/\SqL X.K H a (bs.map V.bl)/\Q (.bl (bs.all id)) H):=by
 intro pins s σ H xs us Q I r h
 obtain ⟨a,bs,rfl,hS,q⟩:=h
 obtain ⟨u,rfl,ru⟩:=wQ r
 cases ru
 obtain ⟨its,rv,pl,hz⟩:=I.list hS
 have hl:s.heap.IsList a its.toArray:=pl.isList
 have hlt:a < s.heap.objs.size:=by obtain ⟨_,e,_⟩:=hl; exact Heap.lt_size e
 refine call_all_walk (wpAny_pyIter_list hl ?_)
 refine ⟨s.heap.objs.size,[s.heap.objs.size,a],[s.heap.objs.size],its.toArray.size,_,_,fun i=>(bs[i]?).getD true,rfl,Walks.list (A:=X.A.in1) (I.ok.hd hc) _ a (Nat.ne_of_lt hlt) its.toArray,
  ⟨⟨_,Heap.get?_push_size _ rfl,rfl,rfl⟩,hl.push _⟩,fun i v s' Q' E' hP hQ=>?_,fun h' tk hk=>?_⟩
 ·obtain ⟨b,e,rfl⟩:=AN4 rv i v (by simpa using hP)
  simp only [e,Option.getD_some] at hQ
  exact wpAny_truthy_bool hQ
 ·have hn:its.toArray.size=bs.length:=by
   have:=rv.length
   rw [List.length_map] at this
   simpa using this.symm
  have e:((List.range its.toArray.size).all fun i=>(bs[i]?).getD true)=bs.all id:=by
   rw [hn,Bool.eq_iff_iff,List.all_eq_true,List.all_eq_true]
   constructor
   ·intro z b hb
    obtain ⟨i,hi,rfl⟩:=List.getElem_of_mem hb
    have:=z i (List.mem_range.mpr hi)
    simpa [List.getElem?_eq_getElem hi] using this
   ·intro z i hi
    have hi':=List.mem_range.mp hi
    simp only [List.getElem?_eq_getElem hi',Option.getD_some]
    exact z _ (List.getElem_mem hi')
  rw [e]
  refine ⟨.bl _,H,I.kept (t':=tk) fun b o eb=>hk b o (fun hm=>by rw [List.mem_singleton.mp hm] at eb; exact Nat.lt_irrefl _ (Heap.lt_size eb)) (Heap.get?_push_of_some _ eb),rfl,q⟩
def okN (H:Hp):V->Prop
 | .non=>True
 | .bl _=>True
 | .int _=>True
 | .str u=>kG u=true/\u.length<=1000
 | .ref a=>(∃ xs,H a=some (.lst xs))\/(∃ xs,H a=some (.tup xs))\/∃ kvs,H a=some (.dK kvs)
 | _=>False
def uV:V->Bool
 | .str _=>true
 | _=>false
theorem okN.ty {K:Frag}{H:Hp}{x:V}(h:okN H x):∃ T,TyOf K H x (.type T)/\kitOne K (.type T) (.type "str")=some (uV x):=by
 cases x with
 | non=>exact ⟨_,.non,by kernel_rfl⟩
 | bl b=>exact ⟨_,.bl b,by kernel_rfl⟩
 | int i=>exact ⟨_,.int i,by kernel_rfl⟩
 | str i=>exact ⟨_,.str i,by kernel_rfl⟩
 | ref a =>
  rcases h with ⟨xs,e⟩ | ⟨xs,e⟩ | ⟨xs,e⟩
  ·exact ⟨_,.lst e,by kernel_rfl⟩
  ·exact ⟨_,.tup e,by kernel_rfl⟩
  ·exact ⟨_,.dK e,by kernel_rfl⟩
 | _=>exact h.elim
theorem AB9 {X:Cx}:kD X (.builtin "isinstance") (fun xs H Q=>∃ x,xs=[x,.ty "str"]/\okN H x/\Q (.bl (uV x)) H):=by
 intro pins s σ H xs us Q I r h
 obtain ⟨x,rfl,ok,q⟩:=h
 obtain ⟨T,ty,e⟩:=ok.ty (K:=X.K)
 exact BO6 I r ty e q
theorem okN.same {H H':Hp}{x:V}(h:okN H x)(s:Same H H'):okN H' x:=by
 cases x with
 | ref a =>
  rcases h with ⟨xs,e⟩ | ⟨xs,e⟩ | ⟨xs,e⟩
  ·exact .inl ⟨xs,s _ _ e⟩
  ·exact .inr (.inl ⟨xs,s _ _ e⟩)
  ·exact .inr (.inr ⟨xs,s _ _ e⟩)
 | non=>trivial
 | bl _=>trivial
 | int _=>trivial
 | str _=>exact h
 | _=>exact h.elim
def jH:V->Bool
 | .str u=>decide (aX u)
 | _=>false
theorem xR {c:Nat}(h:c < 128):(!(Builtin.Str.occurrences letters ⟨#[c]⟩ 0 letters.length 1).isEmpty)=decide (97<=c/\c<=122):=by
 have q:∀ k:Fin 128,(!(Builtin.Str.occurrences letters ⟨#[k.val]⟩ 0 letters.length 1).isEmpty)=decide (97<=k.val/\k.val<=122):=by decide +kernel
 exact q ⟨c,h⟩
def LetS (u:Str):Prop:=∀ c∈u.cps.toList,97<=c/\c<=122
def Sm (u:Str):Prop:=kG u=true/\u.length<=100
theorem plain_iff {u:Str}:kG u=true ↔ ∀ c∈u.cps.toList,c < 128:=by
 unfold kG
 rw [Array.all_eq_true']
 constructor
 ·intro h c hc
  have:=h c (by simpa using hc)
  simpa using this
 ·intro h c hc
  have:=h c (by simpa using hc)
  simpa using this
theorem LetS.plain {u:Str}(h:LetS u):kG u=true:=plain_iff.mpr fun c hc=>by have:=h c hc; omega
theorem BG6 {u:Str}(h:aX u):LetS u:=h.2.2
theorem rB {u:Str}(h:aX u):Sm u:=⟨(BG6 h).plain,by have:=h.2.1; omega⟩
theorem AY6 {u:Str}{l r:Option Int}{c:Nat}(h:c∈(Txt.slice u l r).cps.toList):c∈u.cps.toList:=by
 unfold Txt.slice at h
 split at h
 ·exact h
 ·simp only [List.mem_filterMap] at h
  obtain ⟨i,_,e⟩:=h
  exact Array.mem_toList_iff.mpr (Array.mem_of_getElem? e)
theorem BG7 {u:Str}(h:kG u=true):(u.cps.toList.map fun c=>!(Builtin.Str.occurrences letters ⟨#[c]⟩ 0 letters.length 1).isEmpty).all id=decide (∀ c∈u.cps.toList,97<=c/\c<=122):=by
 rw [Bool.eq_iff_iff,List.all_eq_true,decide_eq_true_eq]
 constructor
 ·intro z c hc
  have q:=z _ (List.mem_map.mpr ⟨c,hc,rfl⟩)
  rw [xR (plain_iff.mp h c hc)] at q
  simpa using q
 ·intro z b hb
  obtain ⟨c,hc,rfl⟩:=List.mem_map.mp hb
  rw [xR (plain_iff.mp h c hc)]
  simpa using z c hc
theorem uE {u:Str}(g:aX u):PyData.strOk u=true:=by
 unfold PyData.strOk
 rw [Array.all_eq_true']
 intro c hc
 have:=g.2.2 c (by simpa using hc)
 simp only [decide_eq_true_eq]
 omega
structure QE (X:Cx) (e:Expr) (t:TE):Prop where
 h:PE X e t
structure QS (X:Cx) (st:Stmt) (t:TS):Prop where
 h:PS X st t
structure QSs (X:Cx) (sts:List Stmt) (t:TS):Prop where
 h:PSs X sts t
section
variable {X:Cx}{e a b c:Expr}{es:List Expr}{st:Stmt}{rest sa sb:List Stmt}{te ta tb:TE}{tl:TA}{tc:TT}{t u:TS}{pos pos':Pos}{x:Str}{i:Nat}
theorem aS (h:PE X e te):QE X e te:=⟨h⟩
theorem bQ (h:PS X st t):QS X st t:=⟨h⟩
theorem aY (h:QSs X rest t):PSs X rest t:=h.h
theorem eY (h:QA X es tl):QE X (.List es pos) (BO3 tl):=⟨iB h.h⟩
theorem oH {op:Operator}{r:R2}(ho:OpR X (binaryOp op) r)(ha:QE X a ta)(hb:QE X b tb):QE X (.BinOp a op b pos) (tOp r ta tb):=⟨bO ho ha.h hb.h⟩
theorem BS1 {r:R2}(hr:IxR X r)(ha:QE X a ta)(hb:QE X b tb)(hs:AU9 b):QE X (.Subscript a b pos) (tOp r ta tb):=⟨bL hr ha.h hb.h hs⟩
theorem aT (he:QE X e te):QS X (.Return (some e) pos) (CB3 te):=⟨BW5 he.h⟩
theorem aZ (hN:X.N.Nodup)(hi:X.N[i]?=some x)(hx:Loc X.env.scope x)(he:QE X e te)(hs:swapsWith e (some (.Name x pos')) pos.line X.env=pure false)(hf:X.fn x=true\/X.env.scope.names.lookup x=some .local:=by first | exact .inl rfl | exact .inr rfl | assumption) :
  QS X (.Assign [.Name x pos'] e pos) (BK3 te (zZ i)):=⟨BW7 hN hi hx he.h hs hf⟩
theorem bC (hc:PT X c tc)(ha:QSs X sa t)(hb:QSs X sb u):QS X (.If c sa sb pos) (CC2 tc t u):=⟨CC3 hc ha.h hb.h⟩
theorem aO:QSs X [] BN5:=⟨BN6⟩
theorem aG (h:QS X st t):QSs X [st] t:=⟨cJ h.h⟩
theorem aC (h1:QS X st t)(h2:QSs X rest u):QSs X (st::rest) (BW3 t u):=⟨BE5 h1.h h2.h⟩
theorem iM (h1:QS X st t)(h2:QSs X rest u):QSs X (st::rest) (CG3 t u):=⟨BS0 h1.h h2.h⟩
theorem cY (h:PSs X rest t):QSs X rest t:=⟨h⟩
end
mutual
inductive RD (H:Hp):V->PyData->Prop
 | non:RD H .non .none
 | bl (b:Bool):RD H (.bl b) (.bool b)
 | int (i:Int):RD H (.int i) (.int i)
 | str (x:Str):RD H (.str x) (.str x)
 | lst {p:Addr}{xs:List V}{ds:List PyData}:H p=some (.lst xs)->RDs H xs ds->RD H (.ref p) (.list ds)
 | tup {p:Addr}{xs:List V}{ds:List PyData}:H p=some (.tup xs)->RDs H xs ds->RD H (.ref p) (.tuple ds)
inductive RDs (H:Hp):List V->List PyData->Prop
 | nil:RDs H [] []
 | cons {v:V}{d:PyData}{vs:List V}{ds:List PyData}:RD H v d->RDs H vs ds->RDs H (v::vs) (d::ds)
end
section
variable {X:Cx}{pins:List (Addr × Obj)}{σ:L2.St}{H:Hp}{s:Shared}
mutual
theorem RD.reads (I:Inv X pins σ H s):∀ {v:V}{d:PyData},RD H v d->∀ {u:Value},RelV v u->∃ as,Reads s.heap u d as
 | _,_,.non,u,r=>by cases (show u=Value.none from r); exact ⟨_,.none⟩
 | _,_,.bl b,u,r=>by cases (show u=Value.bool b from r); exact ⟨_,.bool b⟩
 | _,_,.int i,u,r=>by obtain ⟨t,rfl⟩:=(show ∃ t,u=Value.int i t from r); exact ⟨_,.int i t⟩
 | _,_,.str i,u,r=>by obtain ⟨t,rfl⟩:=(show ∃ t,u=Value.str i t from r); exact ⟨_,.str i t⟩
 | _,_,.lst h hs,u,r=>by
  cases (show u=Value.ref _ from r)
  obtain ⟨its,r1,⟨o1,n1,p1,c1,_,d1⟩,_⟩:=I.list (SqL.of h)
  obtain ⟨as,ra⟩:=RDs.reads I hs r1
  exact ⟨_,Reads.list p1 c1 d1 (by simpa using ra)⟩
 | _,_,.tup h hs,u,r=>by
  cases (show u=Value.ref _ from r)
  obtain ⟨its,r1,⟨o1,p1,c1,n1,d1⟩,_⟩:=I.tuple (SqT.of h)
  obtain ⟨as,ra⟩:=RDs.reads I hs r1
  exact ⟨_,Reads.tuple p1 c1 d1 (by simpa using ra)⟩
theorem RDs.reads (I:Inv X pins σ H s):∀ {vs:List V}{ds:List PyData},RDs H vs ds->∀ {us:List Value},Vals vs us->∃ as,ReadsAll s.heap us ds as
 | _,_,.nil,_,.nil=>⟨_,.nil⟩
 | _,_,.cons h hs,_,.cons r rs=>by
  obtain ⟨as,ra⟩:=RD.reads I h r
  obtain ⟨bs,rb⟩:=RDs.reads I hs rs
  exact ⟨_,.cons ra rb⟩
end
end
mutual
theorem AN5:∀ d:PyData,PyData.canLay0 d=true->SeqAt.noMix d d=true
 | .none,_=>by simp [SeqAt.noMix]
 | .bool _,_=>by simp [SeqAt.noMix]
 | .int _,_=>by simp [SeqAt.noMix]
 | .str _,_=>by simp [SeqAt.noMix]
 | .list xs,h=>by
  simp only [SeqAt.noMix]
  exact mixs_self xs (by simpa [PyData.canLay0] using h)
 | .tuple xs,h=>by
  simp only [SeqAt.noMix]
  exact mixs_self xs (by simpa [PyData.canLay0] using h)
 | .dict _,h=>by simp [PyData.canLay0] at h
theorem mixs_self:∀ ds:List PyData,PyData.canLayAll0 ds=true->SeqAt.noMixAll ds ds=true
 | [],_=>by simp [SeqAt.noMixAll]
 | d::r,h=>by
  have h':PyData.canLay0 d=true/\PyData.canLayAll0 r=true:=by simpa [PyData.canLayAll0] using h
  simp only [SeqAt.noMixAll,AN5 d h'.1,mixs_self r h'.2,Bool.and_self]
end
theorem BG8 {d:PyData}(h:SeqAt.shaped d=true):PyData.eqv d d=true:=by
 have hc:PyData.canLay0 d=true:=by
  have h':(PyData.canLay0 d && decide (PyData.depth d<=64))=true:=h
  rw [Bool.and_eq_true] at h'
  exact h'.1
 rw [<- SeqAt.same_eq_eqv d d (AN5 d hc)]
 exact same_self d
section
variable {X:Cx}
def CG4 (b:Bool):R2:=fun x y H Q=>∃ (d d':PyData),RD H x d/\RD H y d'/\SeqAt.shaped d=true/\SeqAt.shaped d'=true/\Q (.bl (PyData.eqv d d' == b)) H
theorem AY7 (hu:X.A.units+64 < cLine):OpR X (compareOp .Eq) (CG4 true):=by
 intro pins s σ H x y v u Q I rx ry h
 obtain ⟨d,d',h1,h2,s1,s2,q⟩:=h
 obtain ⟨as,r1⟩:=h1.reads I rx
 obtain ⟨bs,r2⟩:=h2.reads I ry
 refine eq_dataH r1 r2 s1 s2 hu ⟨.bl _,H,I,rfl,?_⟩
 have e:(PyData.eqv d d' == true)=PyData.eqv d d':=by cases PyData.eqv d d' <;> rfl
 rw [e] at q
 exact q
theorem AN6 (hu:X.A.units+64 < cLine):OpR X (compareOp .NotEq) (CG4 false):=by
 intro pins s σ H x y v u Q I rx ry h
 obtain ⟨d,d',h1,h2,s1,s2,q⟩:=h
 obtain ⟨as,r1⟩:=h1.reads I rx
 obtain ⟨bs,r2⟩:=h2.reads I ry
 refine ne_dataH r1 r2 s1 s2 hu ⟨.bl _,H,I,rfl,?_⟩
 have e:(PyData.eqv d d' == false)=!PyData.eqv d d':=by cases PyData.eqv d d' <;> rfl
 rw [e] at q
 exact q
theorem eqd {H:Hp}{x y:V}{d:PyData}{b:Bool}{Q:VK}(h1:RD H x d)(h2:RD H y d)(s:SeqAt.shaped d=true)(q:Q (.bl b) H):CG4 b x y H Q:=by
 refine ⟨d,d,h1,h2,s,s,?_⟩
 rw [BG8 s]
 cases b <;> exact q
end
theorem BY6 {X:Cx}{K:Frag}(hK:X.K=K):IxR X (CC9 K):=by
 subst hK
 exact cX
theorem AN7 {X:Cx}{K:Frag}(hK:X.K=K):IxR X (CD0 K):=by
 subst hK
 exact bJ
theorem BY7 {X:Cx}{K:Frag}{e:Expr}{f:Str}{ta:TE}{pos:Pos}(hK:X.K=K)(he:PE X e ta)(hb:attributeBase e f X.env (eval e X.env)=eval e X.env):PE X (.Attribute e f pos) (CC8 K ta f):=by
 subst hK
 exact bB he hb
theorem AI0 {D:Ends}{σ:L2.St}{H:Hp}:BK1 D σ H=False:=rfl
structure CalD (P:Program) (w:World) (K:Frag) (mg:Str->Option Value) (base:Heap) (x:Str) (C:Addr) (ps:List Str) (k:Nat) (dvs:List V) (sp:Sp):Prop where
 ex:∃ f fd ds,FnOk P w K mg base (CXF P w) k f fd ps sp/\Binds K fd ps ds/\Vals dvs ds/\Mk K C f/\mg x=some (.ref C)
section
variable {X:Cx}{x m:Str}{C:Addr}{ps:List Str}{k:Nat}{sp:Sp}{e o:Expr}{es:List Expr}{ta:TE}{t:TA}{p pos apos:Pos}{E:XK}{dvs:List V}
theorem uW (c:CalD X.prog X.w X.K X.mg X.base x C ps k dvs sp)(hx:kE (CXF X.prog X.w) X E)(hr:Room (k+1) X.A)(hg:Gl X x)(ha:PA X (e::es) t)(hdb:(x == ("__debug__":Str))=false:=by decide)(he:starEach (e::es) X.env=(false,eval e X.env)::starEach es X.env:=by rfl)(hpl:(backTo pos (starEach es X.env)).any (·.1)=false:=by rfl) :
  PE X (.Call (.Name x p) (e::es) [] pos) (BF2 C sp dvs E t):=by
 obtain ⟨f,fd,ds,F,b,hd,M,hm⟩:=c.ex
 exact AU4 M F hr hg hm b hd hx ha hdb he hpl
end
structure FunA (K:Frag) (x qual:Str) (st:Stmt) (f:Addr) (fd:FuncData):Prop where
 ex:∃ (oc:Value) (od:Option Addr) (dV kV doc pm:Value) (an:Option Addr) (cdv ct:Value) (osl:Array (Option Value)),
  fd=fnOf x qual (dH st) (cK st) (aI st) dV kV doc pm an cdv ct/\K.lookup f=some ⟨oc,od,.func fd,osl⟩/\codeIn K cdv qual=true
section
variable {P:Program}{w:World}{K:Frag}{mg:Str->Option Value}{base:Heap}{N:List Str}{f:Addr}
theorem FunA.okX {x qual:Str}{st:Stmt}{fd:FuncData}{ps:List Str}{k:Nat}{sp:Sp}(F:FunA K x qual st f fd)(S:FnScope N ps (aI st))(len:∀ vs H Q E,sp vs H Q E->vs.length=ps.length)(hbody:∀ (cdv:Value) (A:Around) (outer:List Env) (s:Shared) (H:Hp) (vs:List V) (Q:VK) (E:XK),Room k (A.deeper (envOfC qual (aI st) s.heap.objs.size f cdv))->sp vs H Q E ->
   ∃ t,PSs (cxX P w K mg base N qual (aI st) f cdv A outer s H E) (cK st) t/\t { nx:=fun _ H'=>Q .non H',rt:=Q } (L2.start N vs) H):FnOk P w K mg base (CXF P w) (k+1) f fd ps sp:=by
 obtain ⟨oc,od,dV,kV,doc,pm,an,cdv,ct,osl,rfl,lk,hcd⟩:=F.ex
 exact AU6 lk hcd S len fun A outer s H vs Q E hr hsp=>hbody cdv A outer s H vs Q E hr hsp
theorem FunA.ok {x qual:Str}{st:Stmt}{fd:FuncData}{ps:List Str}{k:Nat}{sp:Sp}(F:FunA K x qual st f fd)(S:FnScope N ps (aI st))(len:∀ vs H Q E,sp vs H Q E->vs.length=ps.length)(hbody:∀ (cdv:Value) (A:Around) (outer:List Env) (s:Shared) (H:Hp) (vs:List V) (Q:VK) (E:XK),Room k (A.deeper (envOfC qual (aI st) s.heap.objs.size f cdv))->sp vs H Q E ->
   ∃ t,PSs (AU5 CX0 P w K mg base N qual (aI st) f cdv A outer s H E).nox (cK st) t/\t { nx:=fun _ H'=>Q .non H',rt:=Q } (L2.start N vs) H):FnOk P w K mg base CX0 (k+1) f fd ps sp:=by
 obtain ⟨oc,od,dV,kV,doc,pm,an,cdv,ct,osl,rfl,lk,hcd⟩:=F.ex
 refine AU6 lk hcd S len fun A outer s H vs Q E hr hsp=>?_
 obtain ⟨t,h,q⟩:=hbody cdv A outer s H vs Q E hr hsp
 exact ⟨t,h.nox,q⟩
theorem AI1 {x qual:Str}{st:Stmt}{oc:Value}{od an:Option Addr}{osl:Array (Option Value)}{dV kV doc pm cdv ct:Value}(l:K.lookup f=some ⟨oc,od,.func (fnOf x qual (dH st) (cK st) (aI st) dV kV doc pm an cdv ct),osl⟩)(c:codeIn K cdv qual=true):FunA K x qual st f (fnOf x qual (dH st) (cK st) (aI st) dV kV doc pm an cdv ct):=⟨⟨oc,od,dV,kV,doc,pm,an,cdv,ct,osl,rfl,l,c⟩⟩
theorem AC0 {fd:FuncData}{ps:List Str}{ds:List Value}(n:Nat)(hn:n+ds.length=ps.length)(h:∀ (s:Shared) (us:List Value),K.In s.heap->us.length=n->BindsTo s fd ⟨us,[]⟩ (ps.zip (us++ds))):Binds K fd ps ds:=fun s us X hl=>h s us X (by
 rw [List.length_append] at hl
 omega)
end
theorem kW {H:Hp}:∀ us:List Str,RDs H (us.map V.str) (us.map PyData.str)
 | []=>.nil
 | u::r=>.cons (.str u) (kW r)
theorem uF:∀ {us:List Str},(∀ u∈us,PyData.strOk u=true)->PyData.canLayAll0 (us.map PyData.str)=true/\PyData.depthAll (us.map PyData.str)=0
 | [],_=>⟨by simp [PyData.canLayAll0],by simp [PyData.depthAll]⟩
 | u::r,h=>by
  obtain ⟨a,b⟩:=uF (us:=r) fun v hv=>h v (List.mem_cons_of_mem _ hv)
  exact ⟨by simp [PyData.canLayAll0,PyData.canLay0,h u List.mem_cons_self,a],by simp [PyData.depthAll,PyData.depth,b]⟩
theorem iN {ds:List PyData}{n:Nat}(hn:n<=60)(h:PyData.canLayAll0 ds=true/\PyData.depthAll ds=n):SeqAt.shaped (.list ds)=true/\SeqAt.shaped (.tuple ds)=true:=by
 have h1:=h.1
 have h2:=h.2
 constructor
 ·show (PyData.canLay0 (.list ds) && decide (PyData.depth (.list ds)<=64))=true
  rw [Bool.and_eq_true]
  exact ⟨by simp only [PyData.canLay0]; exact h1,decide_eq_true (by simp only [PyData.depth]; omega)⟩
 ·show (PyData.canLay0 (.tuple ds) && decide (PyData.depth (.tuple ds)<=64))=true
  rw [Bool.and_eq_true]
  exact ⟨by simp only [PyData.canLay0]; exact h1,decide_eq_true (by simp only [PyData.depth]; omega)⟩
def lX (l:List Str):List Str:=l.foldl (fun a x=>if x∈a then a else a++[x]) []
theorem pR (l:List Str)(x:Str):lX (l++[x])=if x∈lX l then lX l else lX l++[x]:=by
 unfold lX; rw [List.foldl_append]; rfl
theorem AC1 {l:List Str}{i:Nat}(h:i < l.length):lX (l.take (i+1))=if l.getD i Str.empty∈lX (l.take i) then lX (l.take i) else lX (l.take i)++[l.getD i Str.empty]:=by
 rw [<- pR,List.take_succ,List.getElem?_eq_getElem h]
 simp [List.getD,List.getElem?_eq_getElem h]
theorem yQ {p:List Str->Prop}(h0:p [])(h1:∀ l x,p l->p (l++[x]))(l:List Str):p l:=by
 have q:∀ m:List Str,p m.reverse:=fun m=>by
  induction m with
  | nil=>exact h0
  | cons a m ih=>rw [List.reverse_cons]; exact h1 _ _ ih
 have:=q l.reverse
 rwa [List.reverse_reverse] at this
theorem AN8 (x:Str)(l:List Str):x∈lX l ↔ x∈l:=by
 refine yQ (p:=fun l=>x∈lX l ↔ x∈l) (by simp [lX]) (fun l y ih=>?_) l
 ·show x∈lX (l++[y]) ↔ x∈l++[y]
  rw [pR]
  split
  ·rename_i h
   rw [ih]
   constructor
   ·intro z; exact List.mem_append_left _ z
   ·intro z
    rcases List.mem_append.mp z with z | z
    ·exact z
    ·have e:x=y:=by simpa using z
     subst e
     exact ih.mp h
  ·simp [ih]
theorem AY8 (l:List Str):(lX l).length<=l.length:=by
 refine yQ (p:=fun l=>(lX l).length<=l.length) (by simp [lX]) (fun l y ih=>?_) l
 ·show (lX (l++[y])).length<=(l++[y]).length
  rw [pR]
  split <;> simp <;> omega
theorem BG9 (l:List Str):(lX l).length=l.length ↔ l.Nodup:=by
 refine yQ (p:=fun l=>(lX l).length=l.length ↔ l.Nodup) (by simp [lX]) (fun l y ih=>?_) l
 ·show (lX (l++[y])).length=(l++[y]).length ↔ (l++[y]).Nodup
  have h:=AY8 l
  rw [pR]
  by_cases m:y∈lX l
  ·rw [if_pos m,List.length_append,List.length_singleton]
   constructor
   ·intro z; omega
   ·intro z
    have:=(AN8 y l).mp m
    rw [List.nodup_append] at z
    exact absurd rfl (z.2.2 y this y (List.mem_singleton.mpr rfl))
  ·rw [if_neg m,List.length_append,List.length_append,List.length_singleton]
   have n:y ∉ l:=fun z=>m ((AN8 y l).mpr z)
   constructor
   ·intro z
    rw [List.nodup_append]
    refine ⟨ih.mp (by omega),by simp,fun a ha b hb e=>?_⟩
    have:b=y:=by simpa using hb
    subst this; subst e; exact n ha
   ·intro z
    rw [List.nodup_append] at z
    have:=ih.mpr z.1
    omega
abbrev BL9 (l:List Str):Str->Bool:=fun k=>decide (k∈lX l)
section
variable {prog:Program}{w:World}{A:Around}{R:Result->Shared->Prop}{I:Addr}{fp wr:List Addr}{G:Array GenState->Array GenState->Prop}{P:Nat->Value->Prop}{St:Nat->Shared->Prop}
theorem BH0 {l:List Str}(W:WalksS prog w A.in1 I fp wr G l.length P St)(S:Addr)(hS0:S ∉ fp)(hv:∀ i v,P i v->∃ t,v=.str (l.getD i Str.empty) t)(hb:l.length+1 < scanBound):∀ (k i:Nat) (s:Shared) (q:∀ s',Moved (S::wr) G s s'->s'.heap.SetOf (strKind prog w) S (BL9 l) (lX l).length->R (.ok (.ret .none)) s'),
   l.length - i=k->i<=l.length->St i s->s.heap.SetOf (strKind prog w) S (BL9 (l.take i)) (lX (l.take i)).length ->
   codeAny (model prog w) A (.builtin "set.update.loop" ⟨[.ref S,.ref I],[]⟩) R s:=by
 have nw:S ∉ wr:=fun h=>hS0 (W.sub _ h)
 have up:∀ b∈wr,b∈S::wr:=fun b hb=>List.mem_cons_of_mem _ hb
 have move:∀ {s s':Shared}{T:Str->Bool}{n:Nat},Moved wr G s s'->s.heap.SetOf (strKind prog w) S T n->s'.heap.SetOf (strKind prog w) S T n:=fun hm z=>by
  obtain ⟨o,es,ep,t,ho,z⟩:=z
  exact ⟨o,es,ep,t,hm.heap S _ nw ho,z⟩
 intro k
 induction k with
 | zero =>
  intro i s q hk hi hst z
  have e:i=l.length:=by omega
  subst e
  rw [List.take_length] at z
  refine codeAny_builtin PyProof.Rows.F.entry_set_update_loop ?_
  rw [Around.under_plainId PyProof.Rows.F.plain_set_update_loop _]; show wpAny _ A.in1 (pyNext (.ref I) >>= _) _ _ s
  refine wpAny_bind (W.done s _ _ hst fun s' hm=>?_)
  show wpAny _ A.in1 (ret Value.none) _ _ s'; exact wpAny_pure (q s' (hm.mono up) (move hm z))
 | succ k ih =>
  intro i s q hk hi hst z
  have lt:i < l.length:=by omega
  refine codeAny_builtin PyProof.Rows.F.entry_set_update_loop ?_
  rw [Around.under_plainId PyProof.Rows.F.plain_set_update_loop _]; show wpAny _ A.in1 (pyNext (.ref I) >>= _) _ _ s
  refine wpAny_bind (W.item i s _ _ lt hst fun v s' hP hst' hm=>?_)
  obtain ⟨t,rfl⟩:=hv i v hP
  have z':=move hm z
  show wpAny _ A.in1 (holding [Value.str (l.getD i Str.empty) t] (setAdd S (.str (l.getD i Str.empty) t)) >>= _) _ _ s'
  refine wpAny_bind (wpAny_holding ?_); unfold setAdd
  refine wpAny_holding (wpAny_bind ((strKind prog w).pyHash (k:=l.getD i Str.empty) (strKind_is _ _ _ _) ?_))
  have room:(lX (l.take i)).length+1 < scanBound:=by
   have h1:=AY8 (l.take i)
   have h2:(l.take i).length<=l.length:=by rw [List.length_take]; omega
   omega
  refine wpAny_setAddHashed_of (knd:=strKind prog w) (s:={ s' with toks:=s'.toks+1 }) (strKind_is _ _ _ _) rfl z' room fun h' sb z2=>?_
  have z3:h'.SetOf (strKind prog w) S (BL9 (l.take (i+1))) (lX (l.take (i+1))).length:=by
   refine SetOf_congr z2 (fun k'=>?_) ?_
   ·show (decide (k'∈lX (l.take i)) || decide (k'=l.getD i Str.empty))=decide (k'∈lX (l.take (i+1)))
    rw [AC1 lt]
    generalize l.getD i Str.empty=y
    split
    ·rename_i m
     by_cases e:k'=y
     ·subst e; simp [m]
     ·simp [e]
    ·by_cases e:k'=y
     ·subst e; simp
     ·simp [e]
   ·rw [AC1 lt]
    generalize l.getD i Str.empty=y
    by_cases m:y∈lX (l.take i)
    ·rw [if_pos m,if_pos (by simpa using m)]
    ·rw [if_neg m,if_neg (by simpa using m),List.length_append]; rfl
  refine wpAny_pure ⟨plainId_quiet PyProof.Rows.F.plain_set_update_loop _,ih (i+1) _ (fun s'' hm'' z4=>?_) (by omega) lt (W.frame _ s' _ _ hst' (Nat.le_succ _) fun b hb o e=>?_) z3⟩
  ·refine q s'' (Moved.trans W.gtrans ((hm.mono up).then_heap (Nat.le_succ _) fun b o hb e=>?_) hm'') z4
   rw [sb.2 b (fun h:b=S=>hb (by rw [h]; exact List.mem_cons_self))]; exact e
  ·rw [sb.2 b (fun h:b=S=>hS0 (by rw [<- h]; exact hb))]; exact e
end
abbrev gH (led:Bool):Obj:={ cls:=.type "set",dict:=none,data:=.set #[] 0 (.fresh 0 0 led) }
theorem CL0 {its:List Value}{l:List Str}(h:Vals (l.map V.str) its)(i:Nat)(v:Value)(e:its[i]?=some v):∃ t,v=.str (l.getD i Str.empty) t:=by
 induction l generalizing its i with
 | nil=>cases h; simp at e
 | cons x l ih =>
  cases h with
  | cons r1 r2 =>
   cases i with
   | zero =>
    obtain ⟨t,rfl⟩:=r1
    have:v=.str x t:=by simpa using e.symm
    exact ⟨t,by rw [this]; rfl⟩
   | succ i=>exact ih r2 i (by simpa using e)
section
variable {prog:Program}{w:World}{A:Around}{E:Value->Shared->Prop}{s:Shared}
set_option maxHeartbeats 4000000 in
theorem BH1 {a:Addr}{its:List Value}{l:List Str}{Q:Value->Shared->Prop}(hh:A.handled=none)(hl:s.heap.IsList a its.toArray)(hv:Vals (l.map V.str) its)(hb:l.length+1 < scanBound)(q:∀ (h':Heap) (tk:Nat),h'.SetOf (strKind prog w) s.heap.objs.size (BL9 l) (lX l).length->(∀ b o,s.heap.get? b=some o->h'.get? b=some o)->Q (.ref s.heap.objs.size) { s with heap:=h',toks:=tk }) :
  wpAny (model prog w) A (call (.type "set") [.ref a]) Q E s:=by
 have hn:its.toArray.size=l.length:=by have:=hv.length; rw [List.length_map] at this; simpa using this.symm
 obtain ⟨c,tl,hmro⟩:=PySem.F.called_set.mro
 have hmade:=PySem.F.called_set.made; have hsub:=PySem.F.called_set.sub
 refine wpAny_call (codeAny_of_tree ?_); show wpAny _ _ (callAny (.type "set") _) _ _ _
 refine wpAny_pure ⟨Code.quiet_builtin _ (by decide +kernel),codeAny_builtin PySem.F.entry_type_call ?_⟩
 rw [Around.under_plain (weight_type_call_type "set" [.ref a] []) rfl]
 have h1:=PySem.F.called_set.notType; have h2:=PySem.F.called_set.canCreate
 have hct:=PySem.F.typeCall_set_1 (.ref a)
 repeat (any_goals (first | assumption | wp_step))
 refine codeAny_mono (PySem.code_set_new_1 (.ref a) (E:=E) (Q₁:=fun obj s₁=>∃ led:Bool,obj=.ref s.heap.objs.size/\s₁={ s with heap:=s.heap.push (gH led) }) fun led=>⟨led,rfl,rfl⟩) fun r s₁ hr=>?_
 match r,hr with
 | .error e,hr=>exact hr
 | .ok (.ret obj),hr =>
  obtain ⟨led,rfl,rfl⟩:=hr
  have hS:(s.heap.push (gH led)).get? s.heap.objs.size=some (gH led):=Heap.get?_push_size _ rfl
  have hT:Shared.TypeIs { s with heap:=s.heap.push (gH led) } (.ref s.heap.objs.size) "set":=⟨_,hS,rfl⟩
  have hli:=PySem.F.called_set.init.lookup; have hbi:=PySem.F.called_set.init.bind (.ref s.heap.objs.size)
  repeat (any_goals (first | assumption | wp_step))
  refine codeAny_mono (codeAny_call_builtin (R:=wants (fun r s₂=>r=.none/\∃ h' tk,s₂={ s with heap:=h',toks:=tk }/\h'.SetOf (strKind prog w) s.heap.objs.size (BL9 l) (lX l).length /\
    (∀ b o,s.heap.get? b=some o->h'.get? b=some o)) E) PySem.F.called_set.init.plain PySem.F.entry_set_init (PySem.check_set_init_1 hT ?_)) fun r₂ s₂ hr₂=>?_
  ·obtain ⟨⟨oc,od,odt,osl⟩,hol,hcl,nl,hdl⟩:=hl
   simp only at hcl hdl; subst hcl; subst hdl
   have hol':(s.heap.push (gH led)).get? a=some { cls:=.type "list",dict:=od,data:=.seq its.toArray nl,slots:=osl }:=Heap.get?_push_of_some _ hol
   have n1:=PySem.F.sub_list_set; have n2:=PySem.F.sub_list_frozenset
   have n3:(Value.type "list" == Value.type "dict")=false:=by decide
   have hl1:(s.heap.push (gH led)).IsList a its.toArray:=⟨_,hol',rfl,nl,rfl⟩
   unfold Builtin.«set.__init__» noKeywords Builtin.Frozenset.updateFrom
   generalize hPI:pyIter=PI
   wp_walk
   subst hPI
   refine wpAny_pyIter_list hl1 (wpAny_bind (wpAny_runValue ?_))
   have lt:a < s.heap.objs.size:=Heap.lt_size hol
   have hh3:A.in1.in1.in1.handled=none:=by simp [hh]
   have ne1:a≠(s.heap.push (gH led)).objs.size:=by rw [Heap.size_push]; exact Nat.ne_of_lt (Nat.lt_succ_of_lt lt)
   have ne2:s.heap.objs.size ∉ [(s.heap.push (gH led)).objs.size,a]:=by
    rw [Heap.size_push]; intro z
    rcases List.mem_cons.mp z with z | z
    ·exact absurd z (Nat.ne_of_lt (Nat.lt_succ_self _))
    ·exact absurd (List.mem_singleton.mp z) (Nat.ne_of_gt lt)
   have W:=(Walks.list (prog:=prog) (w:=w) hh3 _ a ne1 its.toArray).toS
   rw [hn] at W
   refine BH0 W s.heap.objs.size ne2 (fun i v hv'=>CL0 hv i v (by simpa using hv')) hb (l.length - 0) 0 _ (fun s' hm z=>?_) (by omega) (Nat.zero_le _) ⟨⟨_,Heap.get?_push_size _ rfl,rfl,rfl⟩,hl1.push _⟩ ?_
   ·obtain ⟨h',g',d',tk',os'⟩:=s'
    have eg:g'=s.gens:=hm.gens
    have ed:d'=s.drawn:=hm.drawn
    have eo:os'=s.os:=hm.os
    subst eg; subst ed; subst eo
    show wpAny _ _ _ _ _ _
    refine wpAny_pure ?_
    show wpAny _ _ (ret Value.none) _ _ _
    refine wpAny_pure ⟨rfl,h',tk',rfl,z,fun b o e=>?_⟩
    have bl:=Heap.lt_size e
    refine hm.heap b o (fun y=>?_) (Heap.get?_push_of_some _ (Heap.get?_push_of_some _ e))
    rcases List.mem_cons.mp y with y | y
    ·exact absurd y (Nat.ne_of_lt bl)
    ·have:=List.mem_singleton.mp y; rw [Heap.size_push] at this; exact absurd this (Nat.ne_of_lt (Nat.lt_succ_of_lt bl))
   ·have hg:((s.heap.push (gH led)).push { cls:=.type "list_iterator",data:=.fields #[.ref a,.int 0 0] }).get? s.heap.objs.size=some (gH led):=Heap.get?_push_of_some _ hS
    exact SetOf_congr ((setObjOf_fresh (knd:=strKind prog w) led).setOf hg (by unfold scanBound; omega)) (fun k=>by simp [BL9,lX]) rfl
  ·match r₂,hr₂ with
   | .error e,hr₂=>exact hr₂
   | .ok (.ret r),hr₂ =>
    obtain ⟨rfl,h',tk,rfl,z,kp⟩:=hr₂
    repeat (any_goals (first | assumption | wp_step))
    exact q _ _ z kp
end
def BH2 (P:Program)(w:World)(a:Addr)(l:List Str):HO:=.ext fun h=>h.SetOf (strKind P w) a (BL9 l) (lX l).length
theorem BS2 {P:Program}{w:World}{H:Hp}{h:Heap}{a:Addr}{l:List Str}(z:h.SetOf (strKind P w) a (BL9 l) (lX l).length):ObjOk P w H h a (BH2 P w a l):=by
 refine ⟨z,?_,fun h1 h2 z1 k=>?_⟩
 ·obtain ⟨o,_,_,_,e,_⟩:=z; exact ⟨o,e⟩
 ·obtain ⟨o,es,ep,t,e,z1⟩:=z1; exact ⟨o,es,ep,t,k o e,z1⟩
theorem AY9 {X:Cx}(hc:X.calm=true):kD X (.type "set") (fun xs H Q=>∃ (a:Addr) (l:List Str),xs=[.ref a]/\SqL X.K H a (l.map V.str)/\l.length<=1000/\∀ p,H p=none->Q (.ref p) (upd H p (BH2 X.prog X.w p l))):=by
 intro pins s σ H xs us Q I r h
 obtain ⟨a,l,rfl,hS,hz,q⟩:=h
 obtain ⟨u,rfl,ru⟩:=wQ r
 cases ru
 obtain ⟨its,rv,pl,_⟩:=I.list hS
 refine BH1 (I.ok.hd hc) pl.isList rv (by unfold scanBound; omega) fun h' tk z kp=>?_
 exact ⟨.ref s.heap.objs.size,_,I.laid (t':=tk) kp (Nat.le_refl _) (BS2 z),rfl,q _ (I.hok.fresh (Nat.le_refl _))⟩
theorem AZ0 {X:Cx}:kD X (.builtin "len") (fun xs H Q=>∃ (a:Addr) (l:List Str),xs=[.ref a]/\H a=some (BH2 X.prog X.w a l)/\Q (.int (lX l).length) H):=by
 intro pins s σ H xs us Q I r h
 obtain ⟨a,l,rfl,e,q⟩:=h
 obtain ⟨u,rfl,ru⟩:=wQ r
 cases ru
 obtain ⟨⟨o,es,ep,t,ho,hex,hd,_,_,hb,hf,hn⟩,_⟩:=I.hok a _ e
 rw [<- hn] at q
 exact call_len_set ho hex hd hf (by unfold scanBound at hb; omega) ⟨.int es.size,H,I.tok _,⟨_,rfl⟩,q⟩
theorem TyOf.same {K:Frag}{H H':Hp}{x:V}{t:Value}(h:TyOf K H x t)(s:Same H H'):TyOf K H' x t:=by
 cases h with
 | non=>exact .non
 | bl x=>exact .bl x
 | int i=>exact .int i
 | str x=>exact .str x
 | flt x=>exact .flt x
 | lst e=>exact .lst (s _ _ e)
 | frz e=>exact .frz (s _ _ e)
 | tup e=>exact .tup (s _ _ e)
 | dK e=>exact .dK (s _ _ e)
 | dT e=>exact .dT (s _ _ e)
 | ins e cl ha hn ht hm=>exact .ins (s _ _ e) cl ha hn ht hm
def CG5 (K:Frag)(T:String):List V->Hp->VK->Prop:=fun xs H Q=>∃ (x:V) (t:Value) (b:Bool),xs=[x,.ty T]/\TyOf K H x t/\kitOne K t (.type T)=some b/\Q (.bl b) H
theorem iO {X:Cx}{K:Frag}{T:String}(hK:X.K=K):kD X (.builtin "isinstance") (CG5 K T):=by
 subst hK
 intro pins s σ H xs us Q I r h
 obtain ⟨x,t,b,rfl,ty,e,q⟩:=h
 obtain ⟨u,w',rfl,rx,rc⟩:=AT8 r
 cases (show w'=Value.type T from rc)
 exact uO I rx ty e fun tk=>⟨.bl b,H,I.tok _,rfl,q⟩
section
variable {X:Cx}{CX:CXT}{k:Nat}{f C:Addr}{fd:FuncData}{ps ks:List Str}{sp:Sp}{E:XK}{x:Str}{p pos:Pos}{e:Expr}{es:List Expr}{kws:List Keyword}{t tk:TA}
 {g:List Value->List Value->List Value}{gV:List V->List V->List V}
end
structure CalK (P:Program) (w:World) (K:Frag) (mg:Str->Option Value) (base:Heap) (x:Str) (C:Addr) (ps ks:List Str) (k:Nat) (gV:List V->List V->List V) (sp:Sp):Prop where
 ex:∃ f fd g,FnOk P w K mg base (CXF P w) k f fd ps sp/\KBinds K fd ps ks g gV/\Mk K C f/\mg x=some (.ref C)
section
variable {X:Cx}{x:Str}{C:Addr}{ps ks:List Str}{k:Nat}{sp:Sp}{e:Expr}{es:List Expr}{t tk:TA}{p pos:Pos}{E:XK}{kws:List Keyword}{gV:List V->List V->List V}
def CG6 (K:Frag):List V->Hp->VK->Prop:=fun xs H Q=>∃ (x:Addr) (c:V) (cv:Value) (b:Bool) (C:Addr),xs=[.ref x,c]/\RelV c cv/\ExcK K C/\XAt H x C/\kitOne K (.ref C) cv=some b/\Q (.bl b) H
theorem AZ1 {K:Frag}(hK:X.K=K):kD X (.builtin "isinstance") (CG6 K):=by
 subst hK
 intro pins s σ H xs us Q I r h
 obtain ⟨x,c,cv,b,C,e1,e2,F,e3,e4,q⟩:=h
 exact AX0 F pins s σ H xs us Q I r ⟨x,c,cv,b,e1,e2,e3,e4,q⟩
def BY8 (K:Frag):List V->Hp->VK->Prop:=fun xs H Q=>∃ (x tp:Addr) (cs:List Addr) (b:Bool) (C:Addr),xs=[.ref x,.ref tp]/\ExcK K C/\XAt H x C/\H tp=some (.tup (cs.map V.ref))/\kitAny K (.ref C) (cs.map Value.ref)=some b/\Q (.bl b) H
theorem BH3 {K:Frag}(hK:X.K=K):kD X (.builtin "isinstance") (BY8 K):=by
 subst hK
 intro pins s σ H xs us Q I r h
 obtain ⟨x,tp,cs,b,C,e1,F,e2,e3,e4,q⟩:=h
 exact AX1 F pins s σ H xs us Q I r ⟨x,tp,cs,b,e1,e2,e3,e4,q⟩
end
section
variable {P:Program}{w:World}{K:Frag}{mg:Str->Option Value}{base:Heap}{f:Addr}{fd:FuncData}{ps:List Str}{x:Str}{CX:CXT}{k:Nat}
theorem FnOk.nev {sp:Sp}(h:∀ vs H Q E,¬ sp vs H Q E):FnOk P w K mg base CX k f fd ps sp:=⟨fun _ _ _ _ z=>(h _ _ _ _ z).elim,fun _ _ _ _ _ _ _ _ _ _ _ _ _ z=>(h _ _ _ _ z).elim⟩
theorem BM0 {spf:Nat->Sp}{n0:Nat}(h0:∀ vs H Q E,¬ spf 0 vs H Q E)(b:Binds K fd ps [])(kp:keepIn K (.ref f)=true)(hm:mg x=some (.ref f))(step:∀ d n,n0<=n->CalX P w K mg base x ps n (spf d)->FnOk P w K mg base (CXF P w) (n+1) f fd ps (spf (d+1))):∀ d,FnOk P w K mg base (CXF P w) (n0+d) f fd ps (spf d)
 | 0=>FnOk.nev h0
 | d+1=>step d (n0+d) (Nat.le_add_right _ _) ⟨f,fd,BM0 h0 b kp hm step d,b,kp,hm⟩
theorem uX {spf:Nat->Sp}{n0:Nat}(h0:∀ vs H Q E,¬ spf 0 vs H Q E)(b:Binds K fd ps [])(kp:keepIn K (.ref f)=true)(hm:mg x=some (.ref f))(step:∀ d n,n0<=n->CalX P w K mg base x ps n (spf d)->FnOk P w K mg base (CXF P w) (n+1) f fd ps (spf (d+1)))(d:Nat){n:Nat}(hn:n0+d<=n):CalX P w K mg base x ps n (spf d) :=
 ⟨f,fd,FnOk.lift (BM0 h0 b kp hm step d) hn,b,kp,hm⟩
end
section
variable {K:Frag}{σ:L2.St}{H:Hp}{Q:VK}{g:TG}{tt:TT}{te ta:TE}{ix:List (Option Nat)}{t:TS}{D:Ends}
theorem BH4 {K:Frag}{a:Addr}{xs:List V}{g:TG}{tt:TT}{te:TE}{σ:L2.St}{H:Hp}{Q:VK}(Pv:Nat->List V->L2.St->Hp->Prop)(hz:xs.length<=sizeLine)(h0:Pv 0 [] σ H)(hl:∀ i acc σ H,i<=xs.length->Pv i acc σ H->SqT K H a xs)(hs:∀ i x acc σ H,xs[i]?=some x->Pv i acc σ H->g x σ H fun σ2 H2=>tt σ2 H2 fun b H3=>if b=true then te σ2 H3 fun y H4=>Pv (i+1) (acc++[y]) σ2 H4 else Pv (i+1) acc σ2 H3)(hacc:∀ i acc σ H,Pv i acc σ H->acc.length<=i)(hd:∀ acc σ H,Pv xs.length acc σ H->∀ D,H D=none->Q (.ref D) (L2.upd H D (.lst acc))) :
  ∃ W:Nat->Nat->List V->L2.St->Hp->Prop,(∃ m,W 0 m [] σ H)/\∀ i m acc σ H,W i m acc σ H ->
   ((Itt K a).stop i H/\∀ D,H D=none->Q (.ref D) (L2.upd H D (.lst acc))) \/
   ((Itt K a).go i H/\acc.length < sizeLine/\∃ N:List V->L2.St->Hp->Prop,(∀ acc' σ' H',N acc' σ' H'->∃ m',m' < m/\W (i+1) m' acc' σ' H') /\
    ∀ x H',(Itt K a).yld i H x H'->g x σ H' fun σ2 H2=>tt σ2 H2 fun b H3=>if b=true then te σ2 H3 fun y H4=>N (acc++[y]) σ2 H4 else N acc σ2 H3):=by
 refine ⟨fun i m acc σ H=>m=xs.length - i/\i<=xs.length/\Pv i acc σ H,⟨xs.length,by simp,Nat.zero_le _,h0⟩,?_⟩
 rintro i m acc σ H ⟨rfl,hi,p⟩
 have q:=hl i acc σ H hi p
 have ha:=hacc i acc σ H p
 by_cases hlt:i < xs.length
 ·refine .inr ⟨⟨xs,xs[i],q,by simp [hlt]⟩,by omega,Pv (i+1),fun acc' σ' H' p'=>⟨xs.length - (i+1),by omega,rfl,hlt,p'⟩,fun x H' y=>?_⟩
  obtain ⟨e,y⟩:=y
  subst e
  exact hs i x acc σ _ (y xs q) p
 ·have e:i=xs.length:=by omega
  subst e
  exact .inl ⟨⟨xs,q,Nat.le_refl _⟩,hd acc σ H p⟩
def CompT (K:Frag)(a:Addr)(g:TG)(tt:TT)(te:TE)(Q:VK)(σ:L2.St)(H:Hp):Prop:=∃ W:Nat->Nat->List V->L2.St->Hp->Prop,(∃ m,W 0 m [] σ H)/\∀ i m acc σ H,W i m acc σ H ->
 ((Itt K a).stop i H/\∀ D,H D=none->Q (.ref D) (L2.upd H D (.lst acc))) \/
 ((Itt K a).go i H/\acc.length < sizeLine/\∃ N:List V->L2.St->Hp->Prop,(∀ acc' σ' H',N acc' σ' H'->∃ m',m' < m/\W (i+1) m' acc' σ' H') /\
  ∀ x H',(Itt K a).yld i H x H'->g x σ H' fun σ2 H2=>tt σ2 H2 fun b H3=>if b=true then te σ2 H3 fun y H4=>N (acc++[y]) σ2 H4 else N acc σ2 H3)
theorem AI2:yM (CC4 K ta) ix g tt te σ H Q=ta σ H (fun x H1=>∃ a,x=.ref a/\(∃ xs,SqT K H1 a xs)/\CompT K a g tt te Q (AM9 ix σ) H1):=rfl
theorem CompT.by {a:Addr}{xs:List V}(Pv:Nat->List V->L2.St->Hp->Prop)(hz:xs.length<=sizeLine)(h0:Pv 0 [] σ H)(hl:∀ i acc σ H,i<=xs.length->Pv i acc σ H->SqT K H a xs)(hs:∀ i x acc σ H,xs[i]?=some x->Pv i acc σ H->g x σ H fun σ2 H2=>tt σ2 H2 fun b H3=>if b=true then te σ2 H3 fun y H4=>Pv (i+1) (acc++[y]) σ2 H4 else Pv (i+1) acc σ2 H3)(hacc:∀ i acc σ H,Pv i acc σ H->acc.length<=i)(hd:∀ acc σ H,Pv xs.length acc σ H->∀ D,H D=none->Q (.ref D) (L2.upd H D (.lst acc))):CompT K a g tt te Q σ H:=BH4 Pv hz h0 hl hs hacc hd
end
inductive All2 {α β:Type}(R:α->β->Prop):List α->List β->Prop
 | nil:All2 R [] []
 | cons {a:α}{b:β}{as:List α}{bs:List β}(h:R a b) (r:All2 R as bs):All2 R (a::as) (b::bs)
section
variable {α β:Type}{R S:α->β->Prop}{as:List α}{bs:List β}
theorem All2.len (h:All2 R as bs):as.length=bs.length:=by
 induction h with
 | nil=>rfl
 | cons _ _ ih=>rw [List.length_cons,List.length_cons,ih]
theorem All2.imp (h:All2 R as bs)(k:∀ a b,a∈as->R a b->S a b):All2 S as bs:=by
 induction h with
 | nil=>exact .nil
 | cons h _ ih=>exact .cons (k _ _ List.mem_cons_self h) (ih fun a b m=>k a b (List.mem_cons_of_mem _ m))
theorem All2.snoc {a:α}{b:β}(h:All2 R as bs)(k:R a b):All2 R (as++[a]) (bs++[b]):=by
 induction h with
 | nil=>exact .cons k .nil
 | cons h _ ih=>exact .cons h ih
theorem All2.get (h:All2 R as bs):∀ {i:Nat}{b:β},bs[i]?=some b->∃ a,as[i]?=some a/\R a b:=by
 induction h with
 | nil=>intro i b e; simp at e
 | cons h _ ih =>
  intro i b e
  cases i with
  | zero=>cases e; exact ⟨_,rfl,h⟩
  | succ i=>exact ih e
end
mutual
inductive Tr where
 | any
 | kind (us:List Str)
 | place (us:List Str)
 | weight (n:Int)
 | not (t:Tr)
 | both (ts:Trs)
 | either (ts:Trs)
inductive Trs where
 | nil
 | cons (t:Tr) (ts:Trs)
end
def Trs.ofL:List Tr->Trs
 | []=>.nil
 | t::ts=>.cons t (Trs.ofL ts)
mutual
def Tr.dp:Tr->Nat
 | .any=>0
 | .kind _=>0
 | .place _=>0
 | .weight _=>0
 | .not t=>Tr.dp t+1
 | .both ts=>Trs.dp ts+1
 | .either ts=>Trs.dp ts+1
def Trs.dp:Trs->Nat
 | .nil=>0
 | .cons t ts=>max (Tr.dp t) (Trs.dp ts)
end
mutual
def Tr.cnt:Tr->Nat
 | .any=>1
 | .kind us=>us.length
 | .place us=>us.length
 | .weight _=>1
 | .not t=>Tr.cnt t
 | .both ts=>Trs.cnt ts
 | .either ts=>Trs.cnt ts
def Trs.cnt:Trs->Nat
 | .nil=>0
 | .cons t ts=>Tr.cnt t+Trs.cnt ts
end
def CJ8 (us:List Str):Prop:=us≠[]/\us.length<=6/\(∀ u∈us,aX u)/\us.Nodup
def Trs.toL:Trs->List Tr
 | .nil=>[]
 | .cons t ts=>t::ts.toL
mutual
def Tr.ok:Tr->Prop
 | .any=>True
 | .kind us=>CJ8 us
 | .place us=>CJ8 us
 | .weight n=>0<=n/\n < 1000000
 | .not t=>Tr.ok t
 | .both ts=>2<=ts.toL.length/\ts.toL.length<=6/\Trs.ok ts
 | .either ts=>2<=ts.toL.length/\ts.toL.length<=6/\Trs.ok ts
def Trs.ok:Trs->Prop
 | .nil=>True
 | .cons t ts=>Tr.ok t/\Trs.ok ts
end
theorem cL:∀ ts:List Tr,(Trs.ofL ts).toL=ts
 | []=>rfl
 | t::ts=>by rw [Trs.ofL,Trs.toL,cL ts]
theorem pS:∀ {ts:Trs}{t:Tr},t∈ts.toL->t.dp<=ts.dp
 | .nil,t,h=>by cases h
 | .cons s ts,t,h=>by
  rw [Trs.toL] at h
  rw [Trs.dp]
  rcases List.mem_cons.mp h with rfl | h
  ·exact Nat.le_max_left _ _
  ·exact Nat.le_trans (pS h) (Nat.le_max_right _ _)
theorem pT {n:Nat}:∀ {ts:Trs},(∀ t∈ts.toL,t.dp<=n)->ts.dp<=n
 | .nil,_=>Nat.zero_le _
 | .cons s ts,h=>by
  rw [Trs.toL] at h
  rw [Trs.dp]
  exact Nat.max_le.mpr ⟨h s List.mem_cons_self,pT fun t m=>h t (List.mem_cons_of_mem _ m)⟩
theorem trs_ok:∀ {ts:Trs},ts.ok ↔ ∀ t∈ts.toL,t.ok
 | .nil=>⟨fun _ t h=>(by cases h),fun _=>trivial⟩
 | .cons s ts=>by
  rw [Trs.toL,Trs.ok,trs_ok]
  exact ⟨fun h t m=>by
   rcases List.mem_cons.mp m with rfl | m
   ·exact h.1
   ·exact h.2 t m,fun h=>⟨h s List.mem_cons_self,fun t m=>h t (List.mem_cons_of_mem _ m)⟩⟩
theorem yR {n:Nat}:∀ {ts:Trs},(∀ t∈ts.toL,t.cnt<=n)->ts.cnt<=n * ts.toL.length
 | .nil,_=>Nat.zero_le _
 | .cons s ts,h=>by
  rw [Trs.toL] at h
  rw [Trs.toL,Trs.cnt,List.length_cons,Nat.mul_succ]
  have h1:=h s List.mem_cons_self
  have h2:=yR (ts:=ts) fun t m=>h t (List.mem_cons_of_mem _ m)
  omega
def Tr.tag:Tr->Nat
 | .any=>0
 | .kind _=>1
 | .place _=>2
 | .weight _=>3
 | .not _=>4
 | .both _=>5
 | .either _=>6
mutual
def Tr.At (H:Hp):Tr->V->Prop
 | .any,v=>∃ p,v=.ref p/\H p=some (.tup [.str "any"])
 | .kind us,v=>∃ p l,v=.ref p/\H p=some (.tup [.str "kind",.ref l])/\H l=some (.tup (us.map V.str))
 | .place us,v=>∃ p l,v=.ref p/\H p=some (.tup [.str "place",.ref l])/\H l=some (.tup (us.map V.str))
 | .weight n,v=>∃ p,v=.ref p/\H p=some (.tup [.str "weight",.int n])
 | .not t,v=>∃ p y,v=.ref p/\H p=some (.tup [.str "not",y])/\Tr.At H t y
 | .both ts,v=>∃ p l xs,v=.ref p/\H p=some (.tup [.str "both",.ref l])/\H l=some (.tup xs)/\Trs.At H ts xs
 | .either ts,v=>∃ p l xs,v=.ref p/\H p=some (.tup [.str "either",.ref l])/\H l=some (.tup xs)/\Trs.At H ts xs
def Trs.At (H:Hp):Trs->List V->Prop
 | .nil,xs=>xs=[]
 | .cons t ts,xs=>∃ y ys,xs=y::ys/\Tr.At H t y/\Trs.At H ts ys
end
theorem trs_at {H:Hp}:∀ {ts:Trs}{xs:List V},Trs.At H ts xs ↔ All2 (Tr.At H) ts.toL xs
 | .nil,xs=>by
  rw [Trs.At,Trs.toL]
  exact ⟨fun h=>h ▸ .nil,fun h=>by cases h; rfl⟩
 | .cons t ts,xs=>by
  rw [Trs.At,Trs.toL]
  constructor
  ·rintro ⟨y,ys,rfl,h1,h2⟩
   exact .cons h1 (trs_at.mp h2)
  ·intro h
   cases h with
   | cons h1 h2=>exact ⟨_,_,rfl,h1,trs_at.mpr h2⟩
def BV2 (H H':Hp):Prop:=∀ b xs,H b=some (.tup xs)->H' b=some (.tup xs)
theorem kH {H H':Hp}(s:Same H H'):BV2 H H':=fun b _ e=>s b _ e
mutual
theorem Tr.At.keep {H H':Hp}(s:BV2 H H'):∀ {t:Tr}{v:V},Tr.At H t v->Tr.At H' t v
 | .any,v,h=>by rw [Tr.At] at h ⊢; obtain ⟨p,e,h⟩:=h; exact ⟨p,e,s _ _ h⟩
 | .kind us,v,h=>by rw [Tr.At] at h ⊢; obtain ⟨p,l,e,h,k⟩:=h; exact ⟨p,l,e,s _ _ h,s _ _ k⟩
 | .place us,v,h=>by rw [Tr.At] at h ⊢; obtain ⟨p,l,e,h,k⟩:=h; exact ⟨p,l,e,s _ _ h,s _ _ k⟩
 | .weight n,v,h=>by rw [Tr.At] at h ⊢; obtain ⟨p,e,h⟩:=h; exact ⟨p,e,s _ _ h⟩
 | .not t,v,h=>by rw [Tr.At] at h ⊢; obtain ⟨p,y,e,h,k⟩:=h; exact ⟨p,y,e,s _ _ h,Tr.At.keep s k⟩
 | .both ts,v,h=>by rw [Tr.At] at h ⊢; obtain ⟨p,l,xs,e,h,k,m⟩:=h; exact ⟨p,l,xs,e,s _ _ h,s _ _ k,Trs.At.keep s m⟩
 | .either ts,v,h=>by rw [Tr.At] at h ⊢; obtain ⟨p,l,xs,e,h,k,m⟩:=h; exact ⟨p,l,xs,e,s _ _ h,s _ _ k,Trs.At.keep s m⟩
theorem Trs.At.keep {H H':Hp}(s:BV2 H H'):∀ {ts:Trs}{xs:List V},Trs.At H ts xs->Trs.At H' ts xs
 | .nil,xs,h=>by rw [Trs.At] at h ⊢; exact h
 | .cons t ts,xs,h=>by rw [Trs.At] at h ⊢; obtain ⟨y,ys,e,h1,h2⟩:=h; exact ⟨y,ys,e,Tr.At.keep s h1,Trs.At.keep s h2⟩
end
theorem Tr.At.same {H H':Hp}{t:Tr}{v:V}(h:Tr.At H t v)(s:Same H H'):Tr.At H' t v:=h.keep (kH s)
theorem yS {H H':Hp}{w:Addr}(W:Well3 H w)(s:But w H H'):BV2 H H':=fun b xs e=>s b _ (fun z=>by
 obtain ⟨x,y,u,q⟩:=W
 rw [z,q] at e
 cases e) e
theorem Tr.At.but3 {H H':Hp}{w:Addr}{t:Tr}{v:V}(h:Tr.At H t v)(W:Well3 H w)(s:But w H H'):Tr.At H' t v:=h.keep (yS W s)
structure FC where
 Any:Addr
 Kind:Addr
 Place:Addr
 Least:Addr
 Not:Addr
 Both:Addr
 Either:Addr
def Tr.cls (c:FC):Tr->Addr
 | .any=>c.Any
 | .kind _=>c.Kind
 | .place _=>c.Place
 | .weight _=>c.Least
 | .not _=>c.Not
 | .both _=>c.Both
 | .either _=>c.Either
mutual
def Tr.Fit (c:FC)(H:Hp):Tr->V->Prop
 | .any,v=>∃ p dx,v=.ref p/\H p=some (.ins c.Any dx [])
 | .kind us,v=>∃ p dx l,v=.ref p/\H p=some (.ins c.Kind dx [("names",.ref l)])/\H l=some (.lst (us.map V.str))
 | .place us,v=>∃ p dx l,v=.ref p/\H p=some (.ins c.Place dx [("names",.ref l)])/\H l=some (.lst (us.map V.str))
 | .weight n,v=>∃ p dx,v=.ref p/\H p=some (.ins c.Least dx [("weight",.int n)])
 | .not t,v=>∃ p dx y,v=.ref p/\H p=some (.ins c.Not dx [("fit",y)])/\Tr.Fit c H t y
 | .both ts,v=>∃ p dx l xs,v=.ref p/\H p=some (.ins c.Both dx [("fits",.ref l)])/\H l=some (.lst xs)/\Trs.Fit c H ts xs
 | .either ts,v=>∃ p dx l xs,v=.ref p/\H p=some (.ins c.Either dx [("fits",.ref l)])/\H l=some (.lst xs)/\Trs.Fit c H ts xs
def Trs.Fit (c:FC)(H:Hp):Trs->List V->Prop
 | .nil,xs=>xs=[]
 | .cons t ts,xs=>∃ y ys,xs=y::ys/\Tr.Fit c H t y/\Trs.Fit c H ts ys
end
theorem trs_fit {c:FC}{H:Hp}:∀ {ts:Trs}{xs:List V},Trs.Fit c H ts xs ↔ All2 (Tr.Fit c H) ts.toL xs
 | .nil,xs=>by
  rw [Trs.Fit,Trs.toL]
  exact ⟨fun h=>h ▸ .nil,fun h=>by cases h; rfl⟩
 | .cons t ts,xs=>by
  rw [Trs.Fit,Trs.toL]
  constructor
  ·rintro ⟨y,ys,rfl,h1,h2⟩
   exact .cons h1 (trs_fit.mp h2)
  ·intro h
   cases h with
   | cons h1 h2=>exact ⟨_,_,rfl,h1,trs_fit.mpr h2⟩
mutual
theorem Tr.Fit.same {c:FC}{H H':Hp}(s:Same H H'):∀ {t:Tr}{v:V},Tr.Fit c H t v->Tr.Fit c H' t v
 | .any,v,h=>by rw [Tr.Fit] at h ⊢; obtain ⟨p,d,e,h⟩:=h; exact ⟨p,d,e,s _ _ h⟩
 | .kind us,v,h=>by rw [Tr.Fit] at h ⊢; obtain ⟨p,d,l,e,h,k⟩:=h; exact ⟨p,d,l,e,s _ _ h,s _ _ k⟩
 | .place us,v,h=>by rw [Tr.Fit] at h ⊢; obtain ⟨p,d,l,e,h,k⟩:=h; exact ⟨p,d,l,e,s _ _ h,s _ _ k⟩
 | .weight n,v,h=>by rw [Tr.Fit] at h ⊢; obtain ⟨p,d,e,h⟩:=h; exact ⟨p,d,e,s _ _ h⟩
 | .not t,v,h=>by rw [Tr.Fit] at h ⊢; obtain ⟨p,d,y,e,h,k⟩:=h; exact ⟨p,d,y,e,s _ _ h,Tr.Fit.same s k⟩
 | .both ts,v,h=>by rw [Tr.Fit] at h ⊢; obtain ⟨p,d,l,xs,e,h,k,m⟩:=h; exact ⟨p,d,l,xs,e,s _ _ h,s _ _ k,Trs.Fit.same s m⟩
 | .either ts,v,h=>by rw [Tr.Fit] at h ⊢; obtain ⟨p,d,l,xs,e,h,k,m⟩:=h; exact ⟨p,d,l,xs,e,s _ _ h,s _ _ k,Trs.Fit.same s m⟩
theorem Trs.Fit.same {c:FC}{H H':Hp}(s:Same H H'):∀ {ts:Trs}{xs:List V},Trs.Fit c H ts xs->Trs.Fit c H' ts xs
 | .nil,xs,h=>by rw [Trs.Fit] at h ⊢; exact h
 | .cons t ts,xs,h=>by rw [Trs.Fit] at h ⊢; obtain ⟨y,ys,e,h1,h2⟩:=h; exact ⟨y,ys,e,Tr.Fit.same s h1,Trs.Fit.same s h2⟩
end
theorem Tr.Fit.ins {c:FC}{H:Hp}{t:Tr}{v:V}(h:Tr.Fit c H t v):∃ p dx fs,v=.ref p/\H p=some (.ins (t.cls c) dx fs)/\fs.lookup ("fits_it":Str)=none:=by
 cases t with
 | any=>rw [Tr.Fit] at h; obtain ⟨p,d,e,h⟩:=h; exact ⟨p,d,_,e,h,rfl⟩
 | kind us=>rw [Tr.Fit] at h; obtain ⟨p,d,l,e,h,_⟩:=h; exact ⟨p,d,_,e,h,rfl⟩
 | place us=>rw [Tr.Fit] at h; obtain ⟨p,d,l,e,h,_⟩:=h; exact ⟨p,d,_,e,h,rfl⟩
 | weight n=>rw [Tr.Fit] at h; obtain ⟨p,d,e,h⟩:=h; exact ⟨p,d,_,e,h,rfl⟩
 | not t=>rw [Tr.Fit] at h; obtain ⟨p,d,y,e,h,_⟩:=h; exact ⟨p,d,_,e,h,rfl⟩
 | both ts=>rw [Tr.Fit] at h; obtain ⟨p,d,l,xs,e,h,_⟩:=h; exact ⟨p,d,_,e,h,rfl⟩
 | either ts=>rw [Tr.Fit] at h; obtain ⟨p,d,l,xs,e,h,_⟩:=h; exact ⟨p,d,_,e,h,rfl⟩
open Builtin Builtin.ObjectAttr
def AZ3:List Value->Bool
 | .ref _::r=>AZ3 r
 | l=>l == vbm
theorem xS (self:Value):∀ {l:List Value},AZ3 l=true->refuseLoop self "__setattr__" l=pure ()
 | [],e=>by cases e
 | .ref c::r,e=>by rw [refuseLoop_ref]; exact xS self e
 | .type n::r,e=>by rw [beq_iff_eq.mp e]; exact PySem.F.store_ValueError.passes self
 | .none::r,e=>by cases beq_iff_eq.mp e
 | .bool _::r,e=>by cases beq_iff_eq.mp e
 | .int _ _::r,e=>by cases beq_iff_eq.mp e
 | .str _ _::r,e=>by cases beq_iff_eq.mp e
 | .bytes _ _::r,e=>by cases beq_iff_eq.mp e
 | .float _ _::r,e=>by cases beq_iff_eq.mp e
 | .builtin _::r,e=>by cases beq_iff_eq.mp e
 | .notImplemented::r,e=>by cases beq_iff_eq.mp e
 | .ellipsis::r,e=>by cases beq_iff_eq.mp e
structure ExcS (K:Frag) (C:Addr) (cd:ClassData):Prop where
 at_:clsIn K C=some cd
 mro:AZ3 cd.mro=true
 hd:cd.hasDict=true
 sa:findIn K (.ref C) "__setattr__"=some (some (.builtin "object.__setattr__"))
section
variable {prog:Program}{w:World}{A:Around}{E:Value->Shared->Prop}{s:Shared}{K:Frag}{x C:Addr}{cd:ClassData}{name:Str}{v:Value}
theorem BS3 {R:Result->Shared->Prop}{ox:Obj}{od:Option Obj}{tk:Tok}(X:K.In s.heap)(I:InstAt s.heap x ox C od)(F:ExcS K C cd)(hO:mroIn K C (.type "object")=some true)(ha:findIn K (.ref C) name=some none)(h:wpAny (model prog w) A.in1 (storeInOwnDict (.ref x) (.ref C) (.str name tk) name v false)
   (fun fin s'=>match fin with | .done f=>R (.ok f) s' | .again c'=>c'.quiet=true/\codeAny (model prog w) A c' R s') (fun e s'=>R (.error e) s') s) :
  codeAny (model prog w) A (.call (.builtin "object.__setattr__") ⟨[.ref x,.str name tk,v],[]⟩) R s:=by
 have SF:=PySem.F.store_object
 have sub:Looks (model prog w) s.heap (isInstance (.ref x) (.type "object")) true:=I.type.andThen (looks_mroIn X hO)
 refine codeAny_call_builtin SF.slot.plain SF.entry (@check_slot (model prog w) _ _ s "object.__setattr__" "object" "__setattr__" (.ref x) [.str name tk,v] [] _ SF.kind SF.split sub (SF.args (.ref x) (.str name tk) v) ?_)
 have hm:Looks (model prog w) s.heap (mroOf (.ref C)) cd.mro:=(looks_clsIn X F.at_).andThen .now
 have L3:Looks (model prog w) s.heap (storeTaker? none) none:=.now
 rw [osa_eq,refuse_eq]
 refine wpAny_bind (wpAny_bind (I.type.here (wpAny_bind (hm.here ?_))))
 rw [xS _ F.mro]
 refine wpAny_pure (wpAny_bind (I.type.here (wpAny_bind ((looks_findIn X ha).here (wpAny_bind (L3.here ?_))))))
 exact h
theorem CL1 {ox:Obj}{vs:Array Value}{Q:Unit->Shared->Prop}(X:K.In s.heap)(hx:s.heap.get? x=some ox)(hcl:ox.cls=.ref C)(hdt:ox.data=.fields vs)(hdn:ox.dict=none)(F:ExcS K C cd)(hO:mroIn K C (.type "object")=some true)(ha:findIn K (.ref C) name=some none)(h:∀ h' t',h'.get? x=some { ox with dict:=some s.heap.objs.size }->h'.Ns1 s.heap.objs.size (fun y=>if y=name then some v else none)->(∀ b o,b≠x->s.heap.get? b=some o->h'.get? b=some o)->Q () { s with heap:=h',toks:=t' }) :
  wpAny (model prog w) A (setAttr (.ref x) name v) Q E s:=by
 obtain ⟨oc,od0,odt,osl⟩:=ox
 dsimp only at hcl hdt hdn
 subst hcl hdt hdn
 have I:InstAt s.heap x ⟨.ref C,none,.fields vs,osl⟩ C none:=⟨hx,rfl,rfl,trivial⟩
 refine set_plain X I F.sa (BS3 (s:={ s with toks:=s.toks+1 }) X I F hO ha ?_)
 have hxs:x≠s.heap.objs.size:=Nat.ne_of_lt (Heap.lt_size hx)
 have hx₁:(s.heap.push { cls:=.type "dict",data:=.dict #[] }).get? x=some ⟨.ref C,none,.fields vs,osl⟩:=Heap.get?_push_of_some _ hx
 refine wpAny_bind (wpAny_pure (wpAny_bind (wpAny_bind (wpAny_loadPart hx (wpAny_bind (Looks.here (s:={ s with toks:=s.toks+1 }) (looks_clsIn X F.at_) ?_))))))
 rw [F.hd]
 dsimp only
 refine wpAny_bind (wpAny_alloc' ?_)
 refine wpAny_bind (wpAny_update' hx₁ ?_)
 refine wpAny_pure ?_
 have hgd:((s.heap.push { cls:=.type "dict",data:=.dict #[] }).update x fun o=>{ cls:=o.cls,dict:=some s.heap.objs.size,data:=o.data,slots:=o.slots }).get? s.heap.objs.size
   = some { cls:=.type "dict",data:=.dict #[] } :=
  (Heap.get?_update_ne _ _ _ _ hxs.symm).trans (Heap.get?_push_at rfl rfl)
 have hnd:((s.heap.push { cls:=.type "dict",data:=.dict #[] }).update x fun o=>{ cls:=o.cls,dict:=some s.heap.objs.size,data:=o.data,slots:=o.slots }).Ns s.heap.objs.size (fun _=>none) :=
  ⟨_,#[],_,hgd,rfl,fun e he=>absurd he (by simp),fun _=>rfl⟩
 show wpAny _ _ (storeInDict s.heap.objs.size (.str name _) name v) _ _ _
 unfold storeInDict newKeyGuard
 refine wpAny_bind (wpAny_pure (wpAny_bind (wpAny_nsSet1 (Heap.Ns1.of_empty hnd) fun h' hn' hs=>?_)))
 obtain ⟨oD,esD,epD,hoD,hdD,hcD⟩:=hn'.count (Within.cons name v Within.nil)
 refine wpAny_bind (wpAny_lookBehind hoD (by rw [hdD]; exact pastItsLine_dict (Nat.le_trans hcD (by rw [List.length_cons,List.length_nil,sizeLine_eq]; omega))) ?_)
 refine wpAny_pure (h h' _ ?_ hn' fun b o hbx hb=>?_)
 ·refine (hs.2 x hxs).trans (Heap.get?_update_self _ hx₁ rfl)
 ·exact (hs.2 b (Nat.ne_of_lt (Heap.lt_size hb))).trans ((Heap.get?_update_ne _ _ _ _ hbx).trans (Heap.get?_push_of_some _ hb))
end
end Bw
namespace Bw
open PySem PySem.Spec PyProof.Rows L2 PySem.W
open Builtin Builtin.ObjectAttr
section
variable {prog:Program}{w:World}{A:Around}{E:Value->Shared->Prop}{K:Frag}{h:Heap}{g:Array GenState}{d:Drawn}{t:Nat}{os:OsState}{x C:Addr}{name:Str}{v:Value}{ox od:Obj}
theorem AZ4 {tk:Tok}{Q:Fin->Shared->Prop}(Z:K.In h)(I:InstAt h x ox C (some od))(hf:findObj K C (some od) name=some (.value v))(hq:Q (.done (.ret v)) ⟨h,g,d,t,os⟩) :
  wpAny (model prog w) A (Builtin.«object.__getattribute__» ⟨[.ref x,.str name tk],[]⟩) Q E ⟨h,g,d,t,os⟩:=by
 have L0:=I.type (M:=model prog w)
 have L1:=looks_find (M:=model prog w) Z I hf
 refine wpAny_bind (wpAny_pure (wpAny_bind (wpAny_pure (wpAny_bind (L0.at (wpAny_bind (L1.at ?_)))))))
 exact wpAny_pure hq
theorem AZ5 {M:Model}{nameV:Value}{Q:Unit->Shared->Prop}(Z:K.In h)(F:ExcK K C)(I:InstAt h x ox C (some od))(hq:Q () ⟨h,g,d,t,os⟩) :
  wpAny M A (checkBuiltinCall "BaseException.__getattribute__" ⟨[.ref x,nameV],[]⟩) Q E ⟨h,g,d,t,os⟩:=AB5 Z F ⟨ox,I.at_,I.cls⟩ hq
theorem BH5 {tk:Tok}{R:Result->Shared->Prop}(Z:K.In h)(F:ExcK K C)(I:InstAt h x ox C (some od))(hf:findObj K C (some od) name=some (.value v))(hq:R (.ok (.ret v)) ⟨h,g,d,t,os⟩) :
  codeAny (model prog w) A (.call (.builtin "BaseException.__getattribute__") ⟨[.ref x,.str name tk],[]⟩) R ⟨h,g,d,t,os⟩ :=
 codeAny_call_builtin PySem.F.excAttr_ValueError.ga.plain PySem.F.entry_bexc_ga (AZ5 Z F I (AZ4 Z I hf hq))
theorem BY9 {tk:Tok}{fill expr:Bool}{Q:Value->Shared->Prop}(Z:K.In h)(F:ExcK K C)(I:InstAt h x ox C (some od))(hf:findObj K C (some od) name=some (.value v))(hv:handedIn v=true)(hq:Q v ⟨h,g,d,t,os⟩) :
  wpAny (model prog w) A (getAttrBy (.ref x) (.str name tk) fill expr) Q E ⟨h,g,d,t,os⟩:=by
 have L0:=I.type (M:=model prog w)
 have L1:=looks_findIn (M:=model prog w) Z F.ga
 have L2:=looks_findIn (M:=model prog w) Z F.gt
 have f3:=PySem.F.excAttr_ValueError.ga.bind (.ref x)
 have f9:=handedOut_of hv
 have hx0:(expr && onTheHeap (Value.builtin "BaseException.__getattribute__"))=false:=by cases expr <;> rfl
 have hx2:(Value.builtin "BaseException.__getattribute__" == Value.builtin "object.__getattribute__")=false:=by decide +kernel
 have hx1:(onTheHeap (Value.ref C) && Value.builtin "BaseException.__getattribute__" == Value.builtin "object.__getattribute__")=false:=by rw [hx2]; rfl
 repeat (any_goals (first | assumption | (with_reducible refine Looks.at (by assumption) ?_) | wp_step))
 refine BH5 Z F I hf ?_
 repeat (any_goals (first | assumption | wp_step))
theorem BH6 {expr:Bool}{Q:Value->Shared->Prop}(Z:K.In h)(F:ExcK K C)(I:InstAt h x ox C (some od))(hf:findObj K C (some od) name=some (.value v))(hv:handedIn v=true)(hq:Q v ⟨h,g,d,t+1,os⟩) :
  wpAny (model prog w) A (getAttr (.ref x) name expr) Q E ⟨h,g,d,t,os⟩:=by
 unfold getAttr
 repeat (any_goals (first | assumption | with_reducible apply BY9 Z F I hf hv | wp_step))
end
end Bw
namespace Bw
open PySem PySem.Spec PyProof.Rows L2 PySem.W
def AC2 (x C:Addr)(dx:Option Addr)(h:Heap):Prop:=∃ ob a0,h.get? x=some ob/\ob.cls=.ref C/\ob.dict=dx/\ob.data=.fields #[a0,.none,.none,.none,.bool false,.none]
def iD (x C:Addr)(dx:Option Addr):HO:=.ext (AC2 x C dx)
section
variable {P:Program}{w:World}{H:Hp}{h:Heap}
theorem AZ6 {x C:Addr}{dx:Option Addr}(p:AC2 x C dx h):ObjOk P w H h x (iD x C dx) :=
 let ⟨ob,a0,e,r⟩:=p; ⟨p,⟨ob,e⟩,fun h1 h2 ⟨o1,b0,q1,q2⟩ k=>⟨o1,b0,k _ q1,q2⟩⟩
end
section
variable {X:Cx}{pins:List (Addr × Obj)}{σ:L2.St}{H:Hp}{s:Shared}{o value:Expr}{ta tv:TE}{f:Str}{pos pos':Pos}{A:Around}{E:Value->Shared->Prop}
theorem BS4 {a C:Addr}{cd:ClassData}{y:V}{u:Value}{Q:Unit->Shared->Prop}(I:Inv X pins σ H s)(ea:H a=some (iD a C none))(F:ExcS X.K C cd)(hO:mroIn X.K C (.type "object")=some true)(n:NoAttr X.K C f)(ry:RelV y u)(h:∀ dx s',H dx=none->dx≠a->Inv X pins σ (upd (upd H dx (.xd [(f,y)])) a (iD a C (some dx))) s'->Q () s'):wpAny (model X.prog X.w) A (setAttr (.ref a) f u) Q E s:=by
 obtain ⟨⟨ob,a0,hob,hcl,hdn,hdt⟩,_,_⟩:=(show ObjOk X.prog X.w H s.heap a (.ext (AC2 a C none)) from I.hok a _ ea)
 refine CL1 I.kIn hob hcl hdt hdn F hO n fun h' t' hx' hn' hk=>?_
 have nd:H s.heap.objs.size=none:=I.hok.fresh (Nat.le_refl _)
 have da:s.heap.objs.size≠a:=fun z=>absurd (Heap.lt_size hob) (by rw [z]; exact Nat.lt_irrefl _)
 have nb:∀ b o',s.heap.get? b=some o'->b≠s.heap.objs.size:=fun b o' q=>Nat.ne_of_lt (Heap.lt_size q)
 have na:∀ b,H b=none->b≠a:=fun b q z=>by rw [z,ea] at q; cases q
 have up:∀ b v,H b=some v->b≠a->upd (upd H s.heap.objs.size (.xd [(f,y)])) a (iD a C (some s.heap.objs.size)) b=some v:=fun b v q z=>by rw [aJ z,aJ (aQ q nd)]; exact q
 refine h s.heap.objs.size _ nd da (I.un (t':=t') (H':=upd (upd H s.heap.objs.size (.xd [(f,y)])) a (iD a C (some s.heap.objs.size))) ⟨fun b o' q k _ _=>hk b o' (na b k) q,fun b o' q k _ _=>⟨o'.slots,hk b o' (na b k) q⟩,fun b o' q k _=>?_,fun b o' q _=>?_,fun b xs q=>up b _ q fun z=>?_,fun b o' u' q=>up b _ q fun z=>?_,fun b ps q=>⟨#[],?_⟩⟩ fun b v q=>?_)
 ·rw [aJ (na b k),aJ (nb b o' q)]; exact k
 ·by_cases z:b=a
  ·rw [z]; exact ⟨_,hx'⟩
  ·exact ⟨o',hk b o' z q⟩
 ·rw [z,ea] at q; cases q
 ·rw [z,ea] at q; cases q
 ·rw [Array.append_empty]
  exact up b _ q fun z=>by rw [z,ea] at q; cases q
 ·by_cases z:b=a
  ·subst z
   rw [aA] at q
   cases q
   exact AZ6 ⟨_,a0,hx',hcl,rfl,hdt⟩
  ·rw [aJ z] at q
   by_cases z2:b=s.heap.objs.size
   ·subst z2
    rw [aA] at q
    cases q
    refine ⟨_,hn',fun g=>?_⟩
    by_cases zg:g=f
    ·subst zg
     rw [if_pos rfl,List.lookup_cons,beq_self_eq_true]
     exact ry
    ·rw [if_neg zg,List.lookup_cons,show (g == f)=false from beq_eq_false_iff_ne.mpr zg]
     exact trivial
   ·rw [aJ z2] at q
    refine (I.hok b v q).stay (fun c u' hc r=>hk c u' (fun zc=>?_) r) (fun c r=>up c _ r fun zc=>?_) fun c xs r=>up c _ r fun zc=>?_
    ·rcases hc with y' | y'
     ·exact z (y'.symm.trans zc)
     ·rw [zc,ea] at y'; cases y'
    ·rw [zc,ea] at r; cases r
    ·rw [zc,ea] at r; cases r
def BZ0 (K:Frag)(ta tv:TE)(f:Str):TS:=fun D σ H=>tv σ H fun y H1=>ta σ H1 fun x H2=>∃ a C cd,x=.ref a/\H2 a=some (iD a C none)/\ExcS K C cd/\mroIn K C (.type "object")=some true/\NoAttr K C f /\
 ∀ dx,H2 dx=none->dx≠a->D.nx σ (upd (upd H2 dx (.xd [(f,y)])) a (iD a C (some dx)))
theorem AZ7 (ha:PE X o ta)(hv:PE X value tv)(hs:swapsWith value (some (.Attribute o f pos')) pos.line X.env=pure false:=by rfl):PS X (.Assign [.Attribute o f pos'] value pos) (BZ0 X.K ta tv f):=by
 intro pins s σ H D I h
 refine plainObj_wpAny_Assign_Attribute (thn (hv pins s σ H _ I h) fun u s1 ⟨y,H1,I1,ry,q⟩=>thn (ha pins s1 σ H1 _ I1 q) fun ov s2 ⟨x,H2,I2,rx,a,C,cd,ex,ea,F,hO,n,q2⟩=>?_) hs
 subst ex
 obtain rfl:ov=Value.ref a:=rx
 exact BS4 I2 ea F hO n ry fun dx s3 e1 e2 I3=>⟨σ,_,I3,q2 dx e1 e2⟩
def BS5 (K:Frag)(ta:TE)(f:Str):TE:=fun σ H Q=>ta σ H fun x H1=>∃ a C dx fs v,x=.ref a/\H1 a=some (kF a (.ref C) (some dx))/\H1 dx=some (.xd fs)/\ExcK K C/\hasDictIn K C=true/\NoAttr K C f/\fs.lookup f=some v/\Q v H1
theorem BS6 {e:Expr}(he:PE X e ta)(hb:attributeBase e f X.env (eval e X.env)=eval e X.env:=by rfl):PE X (.Attribute e f pos) (BS5 X.K ta f):=by
 intro pins s σ H Q I h
 refine AU0 hb (thn (he pins s σ H _ I h) fun u s1 ⟨x,H1,I1,rx,a,C,dx,fs,v,ex,ea,ed,F,hh,n,l,q⟩=>?_)
 subst ex
 obtain rfl:u=Value.ref a:=rx
 obtain ⟨⟨ob,hob,hcl,hdx,vs,hdt⟩,_,_⟩:=(show ObjOk X.prog X.w H1 s1.heap a (.ext (excAtD a (.ref C) (some dx))) from I1.hok a _ ea)
 obtain ⟨mA,hn,r⟩:=(show ObjOk X.prog X.w H1 s1.heap dx (.xd fs) from I1.hok dx _ ed)
 obtain ⟨u,hu,ru⟩:=RelO.some_of (v:=v) (o:=mA f) (by rw [<- l]; exact r f)
 obtain ⟨hh',g,d,t,os⟩:=s1
 obtain ⟨od,J,hl⟩:∃ od,InstAt hh' a ob C (some od)/\lookIn f od=some (mA f):=by
  obtain ⟨od,ho,hl⟩:=AA3 hn
  refine ⟨od,⟨hob,hcl,?_,?_⟩,hl f⟩
  ·unfold notCls
   rw [hdt]
  ·rw [hdx]
   exact ho
 exact BH6 I1.kIn F J (findObj_own hh n rfl (by rw [hl,hu])) (AA4 ru) ⟨v,H1,I1.tok _,ru,q⟩
end
section
variable {prog:Program}{w:World}{A:Around}{E:Value->Shared->Prop}{h:Heap}{g:Array GenState}{d:Drawn}{t:Nat}{os:OsState}{K:Frag}
variable {nm q:Str}{C N:Addr}{bs bm bmB:List Value}{hdct:Bool}{sn:List Str}{sub:List Value}{ab:Bool}{col:Option Bool}{dd:Option Addr}{k0 k1 k2 k3 k5:Option Value}{B newId initId:String}
theorem uY (F:ExcBaseFacts B newId initId bmB)(T:OwnTail h bmB bm){rest:List Value}{fI:Addr}{Q:Fin->Shared->Prop}(hC:h.get? C=some (excClassObj nm q C N bs bm hdct sn sub ab col dd k0 k1 k2 k3 k5 newId))(Z:K.In h)(hi:findIn K (.ref C) "__init__"=some (some (.ref fI)))(hf:typeIn K (.ref fI)=some (.type "function"))(hq:∀ h' e,Heap.MadeExcOf h h' e (.ref C) rest ->
   wpAny (model prog w) A (call (.ref fI) (.ref e::rest)) (fun r s'=>r=.none/\Q (.done (.ret (.ref e))) s') E ⟨h',g,d,t,os⟩)(hrest:rest.length<=sizeLine:=by size_fits) :
  wpAny (model prog w) A (Builtin.«type.__call__» ⟨.ref C::rest,[]⟩) Q E ⟨h,g,d,t,os⟩:=by
 repeat (first | with_reducible refine wpAny_loadPart_at hC ?_ | with_reducible refine wpAny_madeBy_exc hC ?_ | wp_step)
 refine codeAny_call_builtin_code (Code.quiet_builtin _ F.quiet) (wpAny_check_new_subT F T hC ?_)
 refine codeAny_exc_new_subT F T hC ?_ hrest
 show wpAny _ _ _ _ _ _
 have hC₁:=Heap.get?_push_of_some { cls:=.ref C,data:=.fields #[.ref h.objs.size,.none,.none,.none,.bool false,.none] }
  (Heap.get?_push_of_some { cls:=.type "tuple",data:=.seq rest.toArray } hC)
 have Z₁:K.In ((h.push { cls:=.type "tuple",data:=.seq rest.toArray }).push { cls:=.ref C,data:=.fields #[.ref h.objs.size,.none,.none,.none,.bool false,.none] }):=fun a o l=>Heap.get?_push_of_some _ (Heap.get?_push_of_some _ (Z a o l))
 have hget:((h.push { cls:=.type "tuple",data:=.seq rest.toArray }).push
   { cls:=.ref C,data:=.fields #[.ref h.objs.size,.none,.none,.none,.bool false,.none] }).get? (h.objs.size+1)=some
   { cls:=.ref C,data:=.fields #[.ref h.objs.size,.none,.none,.none,.bool false,.none] }:=by heap_get
 have hcC:(Value.ref C::bm).contains (.ref C)=true:=by simp
 have T₁:=T.keeps (h':=(h.push { cls:=.type "tuple",data:=.seq rest.toArray }).push { cls:=.ref C,data:=.fields #[.ref h.objs.size,.none,.none,.none,.bool false,.none] })
  fun b o e=>Heap.get?_push_of_some _ (Heap.get?_push_of_some _ e)
 unfold isInstance
 repeat (first | with_reducible refine wpAny_loadPart_at hget ?_ | (with_reducible refine wpAny_isSubtype_exc hC₁ ?_; rw [hcC]) | wp_step)
 show wpAny _ _ (typeLookup (.ref C) _) _ _ _
 refine (looks_findIn (M:=model prog w) Z₁ hi).at ?_
 refine wpAny_holding (wpAny_bind ?_)
 unfold bindSpecial
 refine wpAny_bind ((looks_typeIn (M:=model prog w) Z₁ hf).at ?_)
 rw [if_pos (by decide)]
 refine wpAny_pure (wpAny_bind (wpAny_mono (hq _ (h.objs.size+1) ⟨fun b o hb=>Heap.get?_push_of_some _ (Heap.get?_push_of_some _ hb),Heap.get?_none_of_le (Nat.le_succ _),h.objs.size,hget,Heap.get?_none_of_le (Nat.le_refl _),?_⟩) (fun r s' hr=>?_) fun _ _ x=>x))
 ·exact Heap.get?_push_of_some _ (Heap.get?_push_at rfl rfl)
 ·obtain ⟨rfl,hQ⟩:=hr
  wp_walk
  exact hQ
theorem xT (F:ExcBaseFacts B newId initId bmB)(T:OwnTail h bmB bm){rest:List Value}{fI:Addr}{Q:Value->Shared->Prop}(hC:h.get? C=some (excClassObj nm q C N bs bm hdct sn sub ab col dd k0 k1 k2 k3 k5 newId))(Z:K.In h)(hi:findIn K (.ref C) "__init__"=some (some (.ref fI)))(hf:typeIn K (.ref fI)=some (.type "function"))(hq:∀ h' e,Heap.MadeExcOf h h' e (.ref C) rest ->
   wpAny (model prog w) (A.under (.builtin "type.__call__" ⟨.ref C::rest,[]⟩)) (call (.ref fI) (.ref e::rest)) (fun r s'=>r=.none/\Q (.ref e) s') E ⟨h',g,d,t,os⟩)(hrest:rest.length<=sizeLine:=by size_fits) :
  wpAny (model prog w) A (call (.ref C) rest) Q E ⟨h,g,d,t,os⟩:=by
 have f1:=tc_lookup
 have f2:=tc_bind (.ref C)
 have hT:(⟨h,g,d,t,os⟩:Shared).TypeIs (.ref C) "type":=⟨_,hC,rfl⟩
 refine wpAny_call (codeAny_of_tree ?_)
 show wpAny _ _ (callAny (.ref C) _) _ _ _
 repeat (any_goals (first | assumption | with_reducible refine wpAny_loadPart_at hC ?_ | wp_step))
 refine ⟨rfl,?_⟩
 refine codeAny_call_builtin_at (Code.quiet_builtin _ (by decide +kernel)) entry_typeCall (wpAny_check_type_call_sub hC (uY (hrest:=hrest) F T hC Z hi hf fun h' e hm=>?_))
 exact hq h' e hm
end
section
variable {prog:Program}{w:World}{A:Around}{E:Value->Shared->Prop}{s:Shared}{env:Env}
variable {nm q:Str}{C N:Addr}{bs bm bmB:List Value}{hdct:Bool}{sn:List Str}{sub:List Value}{ab:Bool}{col:Option Bool}{dd:Option Addr}{k0 k1 k2 k3 k5:Option Value}{B newId initId:String}
theorem tE (F:ExcBaseFacts B newId initId bmB){x:Str}{np cpos pos:Pos}{args:List Expr}{Q:Flow->Shared->Prop}{fI:Addr}{K:Frag}(hbase:bm.contains (.type "BaseException")=true)(hh:A.handled=none)(hplain:(backTo cpos (starEach args env)).any (·.1)=false)(hi:findIn K (.ref C) "__init__"=some (some (.ref fI)))(hf:typeIn K (.ref fI)=some (.type "function"))(h:wpAny (model prog w) A (eval (.Name x np) env) (fun f s₁=>f=.ref C/\wpAny (model prog w) A (evalArgs (.ref C) true (backTo cpos (starEach args env)) [])
   (fun a s₂=>a.kw=[]/\a.pos.length<=sizeLine/\s₂.heap.get? C=some (excClassObj nm q C N bs bm hdct sn sub ab col dd k0 k1 k2 k3 k5 newId)/\K.In s₂.heap/\OwnTail s₂.heap bmB bm /\
    ∀ h' e,Heap.MadeExcOf s₂.heap h' e (.ref C) a.pos->wpAny (model prog w) (A.under (.builtin "type.__call__" ⟨.ref C::a.pos,[]⟩)) (call (.ref fI) (.ref e::a.pos))
     (fun r s₃=>r=.none/\s₃.heap.get? C=some (excClassObj nm q C N bs bm hdct sn sub ab col dd k0 k1 k2 k3 k5 newId)/\(∃ oe vs,s₃.heap.get? e=some oe/\oe.cls=.ref C/\oe.data=.fields vs/\vs[1]?=some .none)/\E (.ref e) s₃) E { s₂ with heap:=h' }) E s₁) E s) :
  wpAny (model prog w) A (exec (.Raise (some (.Call (.Name x np) args [] cpos)) none pos) env) Q E s:=by
 rw [arm_exec_Raise]
 first
  | refine wpAny_bind (wpAny_standAt (kS (C:=C) (nm:=nm) (q:=q) (N:=N) (bs:=bs) (bm:=bm) (hdct:=hdct) (sn:=sn) (sub:=sub) (ab:=ab) (col:=col) (dd:=dd) (k0:=k0) (k1:=k1) (k2:=k2) (k3:=k3) (k5:=k5) (newId:=newId) hbase hh (wpAny_bind (wpAny_mono (wpAny_Call_ofName (wpAny_mono h (fun f s₁ h₁=>?_) fun _ _ x=>x)) (fun v s₃ h₃=>wpAny_bind (wpAny_standAt (wpAny_pure h₃))) fun _ _ x=>x))))
  | (simp only [evalOpt,Option.map]; refine wpAny_bind (wpAny_standAt (kS (C:=C) (nm:=nm) (q:=q) (N:=N) (bs:=bs) (bm:=bm) (hdct:=hdct) (sn:=sn) (sub:=sub) (ab:=ab) (col:=col) (dd:=dd) (k0:=k0) (k1:=k1) (k2:=k2) (k3:=k3) (k5:=k5) (newId:=newId) hbase hh (wpAny_bind (wpAny_mono (wpAny_Call_ofName (wpAny_mono h (fun f s₁ h₁=>?_) fun _ _ x=>x)) (fun v s₃ h₃=>wpAny_bind (wpAny_standAt (wpAny_pure h₃))) fun _ _ x=>x)))))
  | (refine wpAny_bind (wpAny_standAt (kS (C:=C) (nm:=nm) (q:=q) (N:=N) (bs:=bs) (bm:=bm) (hdct:=hdct) (sn:=sn) (sub:=sub) (ab:=ab) (col:=col) (dd:=dd) (k0:=k0) (k1:=k1) (k2:=k2) (k3:=k3) (k5:=k5) (newId:=newId) hbase hh ?_)); refine wpAny_bind (wpAny_mono (wpAny_Call_ofName (wpAny_mono h (fun f s₁ h₁=>?_) fun _ _ x=>x)) (fun v s₃ h₃=>wpAny_bind (wpAny_standAt (wpAny_pure h₃))) fun _ _ x=>x))
 obtain ⟨rfl,h₁⟩:=h₁
 unfold callWith
 refine wpAny_bind (wpAny_holding (wpAny_mono h₁ (fun a s₂ h₂=>wpAny_bind (wpAny_standAt ?_)) fun _ _ x=>x))
 obtain ⟨apos,akw⟩:=a
 obtain ⟨hkw,hlen,hC,Z,T,h₂⟩:=h₂
 obtain rfl:akw=[]:=hkw
 obtain ⟨hp,g,d,tk,os⟩:=s₂
 simp only [hplain]
 refine wpAny_bind (wpAny_keeperOf_exc hC ?_)
 refine wpAny_bind (xT (hrest:=hlen) F T hC Z hi hf fun h' e hm=>wpAny_mono (h₂ h' e hm) (fun r s₃ h₃=>?_) fun _ _ x=>x)
 obtain ⟨hr,hC3,⟨oe,vs,he,hcl,hda,hv1⟩,hE⟩:=h₃
 exact ⟨hr,wpAny_bind (wpAny_holding (wpAny_point (wpAny_pure ⟨e,oe,vs,rfl,hC3,he,hcl,hda,hv1,hE⟩)))⟩
end
def xU (C:Addr)(f:Str):Sp:=fun vs H Q _=>∃ e y,vs=[.ref e,y]/\H e=some (iD e C none)/\∀ dx,H dx=none->dx≠e->Q .non (upd (upd H dx (.xd [(f,y)])) e (iD e C (some dx)))
structure ExcI (K:Frag) (C B fI:Addr):Prop where
 ex:∃ nm q N bs hd sn sub ab col dd k0 k1 k2 k3 k5,K.lookup C=some (excClassObj nm q C N bs (.ref B::vbm) hd sn sub ab col dd k0 k1 k2 k3 k5 "ValueError.__new__")
 base:excIn K B vbm "ValueError.__new__"=true
 init:findIn K (.ref C) "__init__"=some (some (.ref fI))
 fn:isFn K (.ref fI)=true
def AI3 (f:Str)(v:V)(R:Addr->Hp->Prop):TS:=fun _ _ H=>∀ dx,H dx=none->R dx (upd H dx (.xd [(f,v)]))
theorem AZ8 {X:Cx}{x:Str}{C B fI:Addr}{k:Nat}{fd:FuncData}{f p:Str}{v:V}{u:Value}{np cpos pos:Pos}{R:Addr->Hp->Prop}(hc:X.calm=true)(hg:Gl X x)(hm:X.mg x=some (.ref C))(q:ExcI X.K C B fI)(F:FnOk X.prog X.w X.K X.mg X.base (CXF X.prog X.w) k fI fd ["self",p] (xU C f))(hr:Room (k+1) X.A)(hb:Binds X.K fd ["self",p] [u])(hv:RelV v u)(hxe:∀ pins σ H H' s s' e oe vs a0,Inv X pins σ H s->s'.os=s.os->AllBare s'.gens->Un (frs X.stack) [] H H' s.heap s'.heap->HOk X.prog X.w H' s'.heap->s.heap.get? e=none->H' e=none ->
   s'.heap.get? e=some oe->oe.data=.fields vs->vs[1]?=some .none->vs[0]?=some a0->vs[2]?=some .none->oe.cls=.ref C->(∃ dx,oe.dict=some dx/\R dx H')->X.xe (.ref e) s')(hd:(x == ("__debug__":Str))=false:=by decide):PS X (.Raise (some (.Call (.Name x np) [] [] cpos)) none pos) (AI3 f v R):=by
 intro pins s σ H D I h
 obtain ⟨nm,qn,N,bs,hd',sn,sub,ab,col,dd,k0,k1,k2,k3,k5,lk⟩:=q.ex
 obtain ⟨bm',N',nm',qn',bs',hd'',sn',sub',ab',col',dd',j0,j1,j2,j3,j5,mN',hB,hN',hni',T'⟩:=AG9 I.kIn q.base
 have T:OwnTail s.heap vbm (.ref B::vbm):=.own (cd:=_) hB hN' hni' .base
 refine tE (C:=C) (nm:=nm) (q:=qn) (N:=N) (bs:=bs) (bm:=.ref B::vbm) (bmB:=vbm) (hdct:=hd') (sn:=sn) (sub:=sub) (ab:=ab) (col:=col) (dd:=dd) (k0:=k0) (k1:=k1) (k2:=k2) (k3:=k3) (k5:=k5) (K:=X.K) (fI:=fI) PySem.F.excBase_ValueError (by rfl) (I.ok.hd hc) rfl q.init (beq_iff_eq.mp q.fn) (iK I hg hm ⟨rfl,?_⟩ hd)
 refine PySem.evalArgs_none ?_
 refine ⟨rfl,sz8 (show 0<=1000 by decide),I.kIn _ _ lk,I.kIn,T,fun h' e hx=>?_⟩
 obtain ⟨tt,he,_,_⟩:=hx.there
 have nH:H e=none:=by
  cases z:H e with
  | none=>rfl
  | some w' =>
   obtain ⟨o,ho⟩:=AM7 (I.hok e w' z)
   rw [hx.new] at ho
   cases ho
 have nb:∀ b o,s.heap.get? b=some o->b≠e:=fun b o z y=>by rw [y,hx.new] at z; cases z
 have up:∀ b w',H b=some w'->upd H e (iD e C none) b=some w':=fun b w' z=>by rw [aJ (aQ z nH)]; exact z
 have I1:Inv X pins σ (upd H e (iD e C none)) { s with heap:=h' }:=I.un (t':=s.toks) ⟨fun b o z _ _ _=>hx.keeps _ _ z,fun b o z _ _ _=>⟨o.slots,hx.keeps _ _ z⟩,fun b o z n _=>by rw [aJ (nb b o z)]; exact n,fun b o z _=>⟨o,hx.keeps _ _ z⟩,fun b xs z=>up _ _ z,fun b o w' z=>up _ _ z,fun b ps z=>⟨#[],by rw [Array.append_empty]; exact up _ _ z⟩⟩ fun b w' z=>by
  by_cases y:b=e
  ·subst y
   rw [aA] at z
   cases z
   exact AZ6 ⟨_,.ref tt,he,rfl,rfl,rfl⟩
  ·rw [aJ y] at z
   exact (I.hok b w' z).stay (fun c v' _ r=>hx.keeps _ _ r) (fun c r=>up _ _ r) fun c xs r=>up _ _ r
 refine wpAny_call (codeAny_mono (F.run _ X.stack _ _ ⟨[Value.ref e],[]⟩ [Value.ref e,u] [V.ref e,v] (fun v' H2=>v'=.non/\∃ dx,H dx=none/\dx≠e/\H2=upd (upd (upd H e (iD e C none)) dx (.xd [(f,v)])) e (iD e C (some dx))) E0 (hr.make C [] []) (I1.env0.make C [] [])
  (hb _ [Value.ref e] I1.kIn rfl) (.cons rfl (.cons hv .nil)) ⟨e,v,rfl,aA,fun dx e1 e2=>⟨rfl,dx,by rw [aJ e2] at e1; exact e1,e2,rfl⟩⟩) fun r s3 hq=>?_)
 cases r with
 | error ev =>
  obtain ⟨_,_,_,_,_,_,_,_,_,_,_,_,_,_,_,_,hE⟩:=hq
  exact hE.elim
 | ok fl =>
  cases fl with
  | next=>exact False.elim hq
  | brk=>exact False.elim hq
  | cont=>exact False.elim hq
  | ret u3 =>
   obtain ⟨v3,H2,os,bare,un,hok,r3,rfl,dx,hdx,hde,rfl⟩:=hq
   have I3:Inv X pins σ _ s3:=I1.call' (ch:=[]) os un hok bare (fun b z=>absurd z (by simp))
   obtain ⟨⟨ob,a0,hob,hcl,hdi,hdt⟩,_,_⟩:=(show ObjOk X.prog X.w _ s3.heap e (.ext (AC2 e C (some dx))) from hok e _ aA)
   have eq2:∀ b,b≠e->upd (upd (upd H e (iD e C none)) dx (.xd [(f,v)])) e (iD e C (some dx)) b=upd H dx (.xd [(f,v)]) b:=fun b z=>by
    rw [aJ z]
    by_cases y:b=dx
    ·rw [y,aA,aA]
    ·rw [aJ y,aJ y,aJ z]
   have nH2:upd H dx (.xd [(f,v)]) e=none:=by rw [aJ (Ne.symm hde)]; exact nH
   have ne1:∀ b w',H b=some w'->b≠e:=fun b w' z=>aQ z nH
   have un':Un (frs X.stack) [] H (upd H dx (.xd [(f,v)])) s.heap s3.heap :=
    ⟨fun b o z n hb' _=>un.keep b o (hx.keeps _ _ z) (by rw [aJ (nb b o z)]; exact n) hb' (by simp),fun b o z n hb' _=>un.slot b o (hx.keeps _ _ z) (by rw [aJ (nb b o z)]; exact n) hb' (by simp),
     fun b o z n _=>(eq2 b (nb b o z)).symm.trans (un.free b o (hx.keeps _ _ z) (by rw [aJ (nb b o z)]; exact n) (by simp)),fun b o z _=>un.there b o (hx.keeps _ _ z) (by simp),
     fun b xs z=>(eq2 b (ne1 b _ z)).symm.trans (un.tups b xs (up _ _ z)),fun b o w' z=>(eq2 b (ne1 b _ z)).symm.trans (un.frzs b o w' (up _ _ z)),fun b ps z=>by
     obtain ⟨m1,e1⟩:=un.tbls b ps (up _ _ z)
     exact ⟨m1,(eq2 b (ne1 b _ z)).symm.trans e1⟩⟩
   have hok':HOk X.prog X.w (upd H dx (.xd [(f,v)])) s3.heap:=fun b w' z=>by
    have be:b≠e:=fun y=>by rw [y,nH2] at z; cases z
    refine (hok b w' ((eq2 b be).trans z)).stay (fun _ _ _ r=>r) (fun c r=>?_) fun c xs r=>?_
    ·have ce:c≠e:=fun y=>by rw [y,aA] at r; cases r
     exact (eq2 c ce).symm.trans r
    ·have ce:c≠e:=fun y=>by rw [y,aA] at r; cases r
     exact (eq2 c ce).symm.trans r
   refine ⟨(show u3=Value.none from r3),I3.kIn _ _ lk,⟨ob,_,hob,hcl,hdt,rfl⟩,?_⟩
   exact hxe pins σ H _ s s3 e ob _ a0 I os bare un' hok' hx.new nH2 hob hdt rfl rfl rfl hcl ⟨dx,hdi,h dx hdx⟩
structure CalI (P:Program) (w:World) (K:Frag) (mg:Str->Option Value) (base:Heap) (x:Str) (C:Addr) (f:Str) (k:Nat) (v:V):Prop where
 ex:∃ (B fI:Addr) (fd:FuncData) (p:Str) (u:Value),FnOk P w K mg base (CXF P w) k fI fd ["self",p] (xU C f)/\Binds K fd ["self",p] [u]/\RelV v u/\ExcI K C B fI/\mg x=some (.ref C)
section
variable {X:Cx}
theorem eZ {x:Str}{C:Addr}{k:Nat}{f:Str}{v:V}{np cpos pos:Pos}{R:Addr->Hp->Prop}(c:CalI X.prog X.w X.K X.mg X.base x C f k v)(hc:X.calm=true)(hg:Gl X x)(hr:Room (k+1) X.A)(hxe:∀ pins σ H H' s s' e oe vs a0,Inv X pins σ H s->s'.os=s.os->AllBare s'.gens->Un (frs X.stack) [] H H' s.heap s'.heap->HOk X.prog X.w H' s'.heap->s.heap.get? e=none->H' e=none ->
   s'.heap.get? e=some oe->oe.data=.fields vs->vs[1]?=some .none->vs[0]?=some a0->vs[2]?=some .none->oe.cls=.ref C->(∃ dx,oe.dict=some dx/\R dx H')->X.xe (.ref e) s')(hd:(x == ("__debug__":Str))=false:=by decide):PS X (.Raise (some (.Call (.Name x np) [] [] cpos)) none pos) (AI3 f v R):=by
 obtain ⟨B,fI,fd,p,u,F,b,r,q,m⟩:=c.ex
 exact AZ8 hc hg m q F hr b r hxe hd
theorem AZ9 {K:Frag}{e:Expr}{ta:TE}{f:Str}{pos:Pos}(hK:X.K=K)(he:PE X e ta)(hb:attributeBase e f X.env (eval e X.env)=eval e X.env):PE X (.Attribute e f pos) (BS5 K ta f):=by
 subst hK
 exact BS6 he hb
end
section
variable {P:Program}{w:World}{K:Frag}{mg:Str->Option Value}{base:Heap}{N:List Str}{qual:Str}{sc:Scope}{f:Addr}{cdv:Value}{A:Around}{outer:List Env}{s:Shared}{H:Hp}{E:XK}{C:Addr}
theorem kX {c:Nat}:∀ pins σ H1 H' s1 s' e oe vs a0,Inv (xN c P w K mg base N qual sc f cdv A outer s H E) pins σ H1 s1->s'.os=s1.os->AllBare s'.gens->Un (frs (xN c P w K mg base N qual sc f cdv A outer s H E).stack) [] H1 H' s1.heap s'.heap->HOk P w H' s'.heap->s1.heap.get? e=none->H' e=none ->
   s'.heap.get? e=some oe->oe.data=.fields vs->vs[1]?=some .none->vs[0]?=some a0->vs[2]?=some .none->oe.cls=.ref C->(∃ dx,oe.dict=some dx/\E (.ref C) (some dx) H')->(xN c P w K mg base N qual sc f cdv A outer s H E).xe (.ref e) s' :=
 fun pins σ H1 H' s1 s' e oe vs a0 I os bare un hok fe nH he hd h1 h0 hch hcl ⟨dx,hdi,hE⟩=>oF I rfl rfl rfl os bare un hok fe nH he hd h1 h0 (fun _=>ChG.of0 hch) (by rw [hcl,hdi]; exact hE)
end
section
variable {K:Frag}{σ:L2.St}{H:Hp}{Q:VK}{D:Ends}{ta tv:TE}{f:Str}{v:V}{R:Addr->Hp->Prop}
theorem yT:AI3 f v R D σ H=∀ dx,H dx=none->R dx (L2.upd H dx (.xd [(f,v)])):=rfl
theorem AI4:BZ0 K ta tv f D σ H=tv σ H fun y H1=>ta σ H1 fun x H2=>∃ a C cd,x=.ref a/\H2 a=some (iD a C none)/\ExcS K C cd/\mroIn K C (.type "object")=some true/\NoAttr K C f /\
 ∀ dx,H2 dx=none->dx≠a->D.nx σ (L2.upd (L2.upd H2 dx (.xd [(f,y)])) a (iD a C (some dx))):=rfl
theorem BA0:BS5 K ta f σ H Q=ta σ H fun x H1=>∃ a C dx fs v,x=.ref a/\H1 a=some (kF a (.ref C) (some dx))/\H1 dx=some (.xd fs)/\ExcK K C/\hasDictIn K C=true/\NoAttr K C f/\fs.lookup f=some v/\Q v H1:=rfl
end
section
open Builtin Builtin.Str
variable {prog:Program}{w:World}{A:Around}{E:Value->Shared->Prop}{s:Shared}{x y:Str}{t u:Tok}{Q:Value->Shared->Prop}
theorem AQ0 (hy:(y.length == 0)=false)(hsz:x.length+2<=sizeLine)(h:∀ (l:List (Str × Tok)) (k:Nat),l.map (·.1)=Txt.split x y->Q (.ref s.heap.objs.size) { s with heap:=s.heap.push { cls:=.type "list",data:=.seq (strValues l).toArray },toks:=k }) :
  wpAny (model prog w) A (call (.builtin "str.split") [.str x t,.str y u]) Q E s:=by
 have hn:(partsBetween x (occurrences x y 0 x.length (x.length+1)) y.length).length<=sizeLine:=by
  have e:=StrLaws.occ_length_le x y 0 x.length (x.length+1)
  rw [length_partsBetween]; omega
 cases c1:(decide (x.length < y.length) || decide (strKind x < strKind y)) with
 | true=>exact call_meets F.slot_str_split (typeIs_str _ _ _) F.entry_str_split (F.args_str_split_2 _ _) (meets_str_split_cannot_occur x y t u c1) (h [(x,t)] s.toks (if_pos c1).symm)
 | false =>
  cases c2:(occurrences x y 0 x.length (x.length+1)).isEmpty with
  | true=>exact call_meets F.slot_str_split (typeIs_str _ _ _) F.entry_str_split (F.args_str_split_2 _ _) (meets_str_split_not_found x y t u c1 hy c2) (h [(x,t)] s.toks ((if_neg (ne_true_of_eq_false c1)).trans (if_pos c2)).symm)
  | false =>
   refine call_meets F.slot_str_split (typeIs_str _ _ _) F.entry_str_split (F.args_str_split_2 _ _) (meets_str_split_sep x y t u c1 hy c2 (by omega) hn) ?_
   show wants Q E _ { s with toks:=_,heap:=s.heap.push { cls:=.type "list",data:=.seq (strsFrom s.toks (partsBetween x (occurrences x y 0 x.length (x.length+1)) y.length)).toArray } }
   rw [strsFrom_eq]; exact h (numbered s.toks _) _ ((numbered_texts _ _).trans ((if_neg (ne_true_of_eq_false c1)).trans (if_neg (ne_true_of_eq_false c2))).symm)
end
section
variable {X:Cx}
theorem uZ:∀ {l:List (Str × Tok)}{ts:List Str},l.map (·.1)=ts->Vals (ts.map V.str) (strValues l)
 | [],_,e=>by subst e; exact .nil
 | (a,t)::l,_,e=>by subst e; exact .cons ⟨t,rfl⟩ (uZ rfl)
def BM1:V->List V->Hp->VK->Prop:=fun x xs H Q=>∃ u y,x=.str u/\xs=[.str y]/\(y.length == 0)=false/\u.length+2<=sizeLine/\(Txt.split u y).length<=sizeLine/\∀ l,H l=none->Q (.ref l) (upd H l (.lst ((Txt.split u y).map V.str)))
theorem BH7:MtR X "str.split" BM1:=by
 intro pins s σ H x xs v us Q I rx rv h
 obtain ⟨u,y,rfl,rfl,hy,hz,hz2,q⟩:=h
 obtain ⟨t,rfl⟩:=rx
 obtain ⟨u',rfl,t',rfl⟩:=Vals.one rv
 refine AQ0 hy hz fun l k e=>?_
 exact ⟨.ref _,_,I.lnew (t':=k) (uZ e) (by rw [List.length_map]; exact hz2),rfl,q _ I.fresh⟩
def BA1:V->List V->Hp->VK->Prop:=fun x xs H Q=>∃ u y,x=.str u/\xs=[.str y]/\Q (.bl (Txt.startswith u y)) H
theorem pU:MtR X "str.startswith" BA1:=by
 intro pins s σ H x xs v us Q I rx rv h
 obtain ⟨u,y,rfl,rfl,q⟩:=h
 obtain ⟨t,rfl⟩:=rx
 obtain ⟨u',rfl,t',rfl⟩:=Vals.one rv
 exact SC.startswith ⟨.bl _,H,I,rfl,q⟩
theorem yU:kD X (.type "int") (fun xs H Q=>∃ u n,xs=[.str u]/\PySem.intText? u=some n/\u.length<=640/\Q (.int n) H):=by
 intro pins s σ H xs us Q I r h
 obtain ⟨u,n,rfl,e,hl,q⟩:=h
 obtain ⟨u',rfl,t,rfl⟩:=Vals.one r
 exact KIN.call_text e hl ⟨.int n,H,I.tok _,⟨_,rfl⟩,q⟩
theorem yV {K:Frag}{σ:L2.St}{H:Hp}{D:Ends}{ta tv:TE}{rd:V->V->Hp->VK->Prop}{f:Str}:AU1 K ta tv rd f D σ H=ta σ H fun x H1=>isR x fun a=>∃ C dx fs,H1 a=some (.ins C dx fs)/\Cls K C/\NoAttr K C f/\∃ v,fs.lookup f=some v /\
 tv σ H1 fun y H2=>rd v y H2 fun z H3=>∃ dx' fs',H3 a=some (.ins C dx' fs')/\fs'.length < 1000/\D.nx σ (upd H3 a (.ins C dx' (pO f z fs'))):=rfl
theorem BA2 {x y:V}{H:Hp}{Q:VK}:CI9 x y H Q=isI x (fun i=>isI y fun j=>Q (.int (i+j)) H):=rfl
end
theorem pV {s a b:Str}{r:List Str}:Str.join s (a::b::r)=a++s++Str.join s (b::r):=rfl
theorem bW (x y:Str):(x++y).cps.toList=x.cps.toList++y.cps.toList:=by
 show (x.cps++y.cps).toList=_
 simp
theorem cV {x y:Str}(h:x.cps.toList=y.cps.toList):x=y:=Str.ext' (Array.toList_inj.mp h)
theorem AN9 {c:Nat}:∀ {a b r s:List Nat},c ∉ a->c ∉ b->a++c::r=b++c::s->a=b/\r=s
 | [],[],r,s,_,_,h=>⟨rfl,(List.cons.inj h).2⟩
 | [],y::b,r,s,_,hb,h=>by
  have e:=(List.cons.inj h).1
  exact absurd (by rw [<- e]; exact List.mem_cons_self) hb
 | x::a,[],r,s,ha,_,h=>by
  have e:=(List.cons.inj h).1
  exact absurd (by rw [e]; exact List.mem_cons_self) ha
 | x::a,y::b,r,s,ha,hb,h=>by
  obtain ⟨e1,e2⟩:=List.cons.inj h
  obtain ⟨q1,q2⟩:=AN9 (fun z=>ha (List.mem_cons_of_mem _ z)) (fun z=>hb (List.mem_cons_of_mem _ z)) e2
  exact ⟨by rw [e1,q1],q2⟩
theorem AO0 {c:Nat}{a b r:List Nat}(ha:c ∉ a)(h:a=b++c::r):False:=ha (by rw [h]; simp)
theorem AO1 {c:Nat}:∀ {as bs:List Str},as≠[]->bs≠[]->(∀ a∈as,c ∉ a.cps.toList)->(∀ b∈bs,c ∉ b.cps.toList)->Str.join ⟨#[c]⟩ as=Str.join ⟨#[c]⟩ bs->as=bs
 | [],_,h,_,_,_,_=>absurd rfl h
 | _,[],_,h,_,_,_=>absurd rfl h
 | [a],[b],_,_,_,_,h=>by
  have e:a=b:=h
  rw [e]
 | [a],b::b'::r,_,_,ha,hb,h=>by
  have e:=congrArg (fun z:Str=>z.cps.toList) (show a=b++⟨#[c]⟩++Str.join ⟨#[c]⟩ (b'::r) from h)
  simp only [bW] at e
  exact (AO0 (ha a List.mem_cons_self) (by rw [e,List.append_assoc]; rfl)).elim
 | a::a'::r,[b],_,_,ha,hb,h=>by
  have e:=congrArg (fun z:Str=>z.cps.toList) (show b=a++⟨#[c]⟩++Str.join ⟨#[c]⟩ (a'::r) from h.symm)
  simp only [bW] at e
  exact (AO0 (hb b List.mem_cons_self) (by rw [e,List.append_assoc]; rfl)).elim
 | a::a'::r,b::b'::q,_,_,ha,hb,h=>by
  have e:=congrArg (fun z:Str=>z.cps.toList) (show a++⟨#[c]⟩++Str.join ⟨#[c]⟩ (a'::r)=b++⟨#[c]⟩++Str.join ⟨#[c]⟩ (b'::q) from h)
  simp only [bW,List.append_assoc] at e
  obtain ⟨e1,e2⟩:=AN9 (ha a List.mem_cons_self) (hb b List.mem_cons_self) (show _++c::_=_++c::_ from e)
  have e3:=AO1 (c:=c) (as:=a'::r) (bs:=b'::q) (by simp) (by simp) (fun z hz=>ha z (List.mem_cons_of_mem _ hz)) (fun z hz=>hb z (List.mem_cons_of_mem _ hz)) (cV e2)
  rw [cV e1,e3]
theorem AO2 (x y:Str):Txt.split x y≠[]:=by
 intro h
 have e:=StrLaws.join_split x y
 unfold Txt.split at h
 split at h
 ·cases h
 ·split at h
  ·cases h
  ·obtain ⟨p,r,q⟩:=StrLaws.partsFrom_ne x y.length 0 (Builtin.Str.occurrences x y 0 x.length (x.length+1))
   rw [StrLaws.partsBetween_eq,q] at h
   cases h
theorem rC {c:Nat}{as:List Str}(hn:as≠[])(h:∀ a∈as,c ∉ a.cps.toList):Txt.split (Str.join ⟨#[c]⟩ as) ⟨#[c]⟩=as :=
 AO1 (AO2 _ _) hn (StrLaws.split_free _ c) h (StrLaws.join_split _ _)
theorem eH {c:Nat}:∀ {as bs:List Str},as≠[]->bs≠[]->Str.join ⟨#[c]⟩ (as++bs)=Str.join ⟨#[c]⟩ as++⟨#[c]⟩++Str.join ⟨#[c]⟩ bs
 | [],_,h,_=>absurd rfl h
 | [a],[],_,h=>absurd rfl h
 | [a],b::r,_,_=>rfl
 | a::a'::r,bs,_,h=>by
  show a++⟨#[c]⟩++Str.join ⟨#[c]⟩ ((a'::r)++bs)=a++⟨#[c]⟩++Str.join ⟨#[c]⟩ (a'::r)++⟨#[c]⟩++Str.join ⟨#[c]⟩ bs
  rw [eH (c:=c) (as:=a'::r) (bs:=bs) (by simp) h]
  apply cV
  simp only [bW,List.append_assoc]
section
variable {prog:Program}{w:World}{A:Around}{E:Value->Shared->Prop}
theorem pW:entryFor table "proto.unchain"=some Builtin.«proto.unchain»:=entryFor_of_fast (by kernel_rfl)
def Chn (e:Addr)(h:Heap)(xs:Array Value):Prop:=xs[2]?=some .none\/∃ z oz zs,xs[2]?=some (.ref z)/\z≠e/\h.get? z=some oz/\oz.data=.fields zs/\zs[2]?=some .none
theorem yW {s:Shared}{e x:Addr}{oe ox:Obj}{vs xs:Array Value}{α:Type}{Q:α->Shared->Prop}(hh:A.handled=some (.ref x))(hne:x≠e)(hx:s.heap.get? x=some ox)(hxd:ox.data=.fields xs)(hx2:Chn e s.heap xs)(he:s.heap.get? e=some oe)(hd:oe.data=.fields vs)(hsz:2 < vs.size)(h:E (.ref e) { s with heap:=s.heap.update e (Obj.mapFields (·.setIfInBounds 2 (.ref x))) }):wpAny (model prog w) A (raiseNew (.ref e):Sem α) Q E s:=by
 unfold raiseNew
 refine wpAny_bind (wpAny_handled ?_)
 rw [hh]
 dsimp only
 have hb:(Value.ref x != Value.ref e)=true:=by
  rw [bne_iff_ne]
  intro z
  cases z
  exact hne rfl
 rw [if_pos hb]
 have u:=fun (Q':Unit->Shared->Prop) (q:Q' () _)=>wpAny_setField (M:=model prog w) (A:=A) (E:=E) (i:=2) (x:=.ref x) he hd hsz q
 refine wpAny_bind (wpAny_holding (wpAny_runValue (codeAny_builtin pW ?_)))
 unfold Builtin.«proto.unchain»
 dsimp only
 rcases hx2 with hx2 | ⟨z,oz,zs,hx2,hze,hz,hzd,hz2⟩
 ·refine wpAny_bind (wpAny_field hx hxd hx2 ?_)
  rw [if_pos (by rfl)]
  refine wpAny_bind (wpAny_pure (wpAny_pure ?_))
  exact wpAny_bind (u _ (wpAny_throw h))
 ·have hzx:z≠x:=fun q=>by
   subst q
   rw [hx] at hz
   cases hz
   rw [hxd] at hzd
   cases hzd
   rw [hx2] at hz2
   cases hz2
  have n1:¬ (Value.ref z == Value.none)=true:=by intro q; cases q
  have n2:¬ (Value.ref z == Value.ref e)=true:=fun q=>hze (Value.ref.inj (eq_of_beq q))
  have n3:¬ (Value.ref z == Value.ref x)=true:=fun q=>hzx (Value.ref.inj (eq_of_beq q))
  refine wpAny_bind (wpAny_field hx hxd hx2 ?_)
  rw [if_neg n1]
  try dsimp only
  rw [if_neg n2]
  try dsimp only
  rw [if_neg n3]
  try dsimp only
  refine wpAny_bind (wpAny_pure ?_)
  refine wpAny_pure ⟨Code.quiet_builtin _ (by decide +kernel),?_⟩
  refine codeAny_builtin pW ?_
  unfold Builtin.«proto.unchain»
  dsimp only
  refine wpAny_bind (wpAny_field hz hzd hz2 ?_)
  rw [if_pos (by rfl)]
  refine wpAny_bind (wpAny_pure (wpAny_pure ?_))
  exact wpAny_bind (u _ (wpAny_throw h))
variable {env:Env}{nm q:Str}{C N y:Addr}{bs bm:List Value}{hdct:Bool}{sn:List Str}{sub:List Value}{ab:Bool}{col:Option Bool}{dd:Option Addr}{k0 k1 k2 k3 k5:Option Value}{newId:String}
theorem wR {s:Shared}{x c:Sem Value}{Q:Flow->Shared->Prop}(hbase:bm.contains (.type "BaseException")=true)(hh:A.handled=some (.ref y))(hc:∀ (s':Shared) (Q':Value->Shared->Prop),Q' .none s'->wpAny (model prog w) A c Q' E s')(h:wpAny (model prog w) A x (fun v s₁=>∃ e oc od osl a0 oy ys,v=.ref e/\y≠e/\s₁.heap.get? C=some (excClassObj nm q C N bs bm hdct sn sub ab col dd k0 k1 k2 k3 k5 newId) /\
   s₁.heap.get? e=some ⟨.ref C,od,.fields #[a0,.none,.none,.none,.bool false,.none],osl⟩/\oc=Value.ref C/\s₁.heap.get? y=some oy/\oy.data=.fields ys/\Chn e s₁.heap ys /\
   ∀ h',(∀ b,b≠e->h'.get? b=s₁.heap.get? b)->h'.get? e=some ⟨.ref C,od,.fields #[a0,.none,.ref y,.none,.bool true,.none],osl⟩->E (.ref e) { s₁ with heap:=h' }) E s) :
  wpAny (model prog w) A (raiseStmt env (some x) (some c)) Q E s:=by
 have hcB:(Value.ref C::bm).contains (.type "BaseException")=true:=by rw [List.contains_cons,hbase,Bool.or_true]
 unfold raiseStmt
 refine wpAny_bind (wpAny_mono h (fun v s₁ h₁=>?_) fun _ _ x=>x)
 obtain ⟨e,oc,od,osl,a0,oy,ys,rfl,hne,hC,he,_,hy,hyd,hy2,hE⟩:=h₁
 obtain ⟨hp,g,d,tk,os⟩:=s₁
 have hCe:C≠e:=fun z=>by rw [z,he] at hC; cases hC
 refine wpAny_bind (wpAny_holding (hc _ _ (wpAny_bind (wpAny_pure ?_))))
 dsimp only at he hC hy hE ⊢
 repeat (first | with_reducible refine wpAny_loadPart_at he ?_ | with_reducible refine wpAny_loadPart_at hC ?_ | (with_reducible refine wpAny_isSubtype_exc hC ?_; rw [hcB]) | wp_step)
 have e3:=Heap.get?_update_self (Obj.mapFields fun x=>x.setIfInBounds 3 .none) he rfl
 have e4:=Heap.get?_update_self (Obj.mapFields fun x=>x.setIfInBounds 4 (.bool true)) e3 rfl
 have oth:∀ b,b≠e->((hp.update e (Obj.mapFields fun x=>x.setIfInBounds 3 Value.none)).update e (Obj.mapFields fun x=>x.setIfInBounds 4 (Value.bool true))).get? b=hp.get? b:=fun b hb=>by
  rw [Heap.get?_update_other _ _ (Ne.symm hb),Heap.get?_update_other _ _ (Ne.symm hb)]
 have hy3:Chn e ((hp.update e (Obj.mapFields fun x=>x.setIfInBounds 3 Value.none)).update e (Obj.mapFields fun x=>x.setIfInBounds 4 (Value.bool true))) ys:=by
  rcases hy2 with q | ⟨z,oz,zs,q1,q2,q3,q4⟩
  ·exact .inl q
  ·exact .inr ⟨z,oz,zs,q1,q2,(oth z q2).trans q3,q4⟩
 refine yW hh hne ((oth y hne).trans hy) hyd hy3 e4 rfl (show 2 < 6 by decide) ?_
 exact hE _ (fun b hb=>by rw [Heap.get?_update_other _ _ (Ne.symm hb)]; exact oth b hb) (Heap.get?_update_self _ e4 rfl)
variable {bmB:List Value}{B initId:String}
theorem AQ1 {s:Shared}(F:ExcBaseFacts B newId initId bmB){x:Str}{np cpos cp pos:Pos}{args:List Expr}{j:Nat}{Q:Flow->Shared->Prop}{fI:Addr}{K:Frag}(hbase:bm.contains (.type "BaseException")=true)(hh:A.handled=some (.ref y))(hplain:(backTo cpos (starEach args env)).any (·.1)=false)(hi:findIn K (.ref C) "__init__"=some (some (.ref fI)))(hf:typeIn K (.ref fI)=some (.type "function"))(h:wpAny (model prog w) A (eval (.Name x np) env) (fun f s₁=>f=.ref C/\wpAny (model prog w) A (evalArgs (.ref C) true (backTo cpos (starEach args env)) [])
   (fun a s₂=>a.kw=[]/\a.pos.length<=sizeLine/\s₂.heap.get? C=some (excClassObj nm q C N bs bm hdct sn sub ab col dd k0 k1 k2 k3 k5 newId)/\K.In s₂.heap/\OwnTail s₂.heap bmB bm /\
    ∀ h' e,Heap.MadeExcOf s₂.heap h' e (.ref C) a.pos->wpAny (model prog w) (A.under (.builtin "type.__call__" ⟨.ref C::a.pos,[]⟩)) (call (.ref fI) (.ref e::a.pos))
     (fun r s₃=>r=.none/\∃ od osl a0 oy ys,y≠e/\s₃.heap.get? C=some (excClassObj nm q C N bs bm hdct sn sub ab col dd k0 k1 k2 k3 k5 newId) /\
      s₃.heap.get? e=some ⟨.ref C,od,.fields #[a0,.none,.none,.none,.bool false,.none],osl⟩/\s₃.heap.get? y=some oy/\oy.data=.fields ys/\Chn e s₃.heap ys /\
      ∀ h',(∀ b,b≠e->h'.get? b=s₃.heap.get? b)->h'.get? e=some ⟨.ref C,od,.fields #[a0,.none,.ref y,.none,.bool true,.none],osl⟩->E (.ref e) { s₃ with heap:=h' }) E { s₂ with heap:=h' }) E s₁) E s) :
  wpAny (model prog w) A (exec (.Raise (some (.Call (.Name x np) args [] cpos)) (some (.Constant .none j cp)) pos) env) Q E s:=by
 rw [arm_exec_Raise]
 refine wpAny_bind (wpAny_standAt (wR (C:=C) (nm:=nm) (q:=q) (N:=N) (bs:=bs) (bm:=bm) (hdct:=hdct) (sn:=sn) (sub:=sub) (ab:=ab) (col:=col) (dd:=dd) (k0:=k0) (k1:=k1) (k2:=k2) (k3:=k3) (k5:=k5) (newId:=newId) hbase hh (fun s' Q' q=>wpAny_bind (wpAny_Constant_none (wpAny_bind (wpAny_standAt (wpAny_pure q)))))
  (wpAny_bind (wpAny_mono (wpAny_Call_ofName (wpAny_mono h (fun f s₁ h₁=>?_) fun _ _ x=>x)) (fun v s₃ h₃=>wpAny_bind (wpAny_standAt (wpAny_pure h₃))) fun _ _ x=>x))))
 obtain ⟨rfl,h₁⟩:=h₁
 unfold callWith
 refine wpAny_bind (wpAny_holding (wpAny_mono h₁ (fun a s₂ h₂=>wpAny_bind (wpAny_standAt ?_)) fun _ _ x=>x))
 obtain ⟨apos,akw⟩:=a
 obtain ⟨hkw,hlen,hC,Z,T,h₂⟩:=h₂
 obtain rfl:akw=[]:=hkw
 obtain ⟨hp,g,d,tk,os⟩:=s₂
 simp only [hplain]
 refine wpAny_bind (wpAny_keeperOf_exc hC ?_)
 refine wpAny_bind (xT (hrest:=hlen) F T hC Z hi hf fun h' e hm=>wpAny_mono (h₂ h' e hm) (fun r s₃ h₃=>?_) fun _ _ x=>x)
 obtain ⟨hr,od,osl,a0,oy,ys,hne,hC3,he,hy,hyd,hy2,hE⟩:=h₃
 exact ⟨hr,wpAny_bind (wpAny_holding (wpAny_point (wpAny_pure ⟨e,.ref C,od,osl,a0,oy,ys,rfl,hne,hC3,he,rfl,hy,hyd,hy2,hE⟩)))⟩
end
structure RoomH (k:Nat) (A:Around):Prop where
 dp:A.depth+3 * k+5 < recursionLimit
 un:A.units+16 * k+200 < cLine
theorem Room.held {k:Nat}{A:Around}(r:Room k A)(v:Option Value):RoomH k (A.mark v):=⟨r.dp,r.un⟩
theorem RoomH.make {k:Nat}{A:Around}(r:RoomH (k+1) A)(C:Addr)(us:List Value)(kw:List (Str × Value)):RoomH k (A.under (.builtin "type.__call__" ⟨.ref C::us,kw⟩)) :=
 ⟨by have:=r.dp; rw [xJ]; omega,by have:=r.un; rw [xK]; omega⟩
structure FnOkH (P:Program) (w:World) (K:Frag) (mg:Str->Option Value) (base:Heap) (CX:CXT) (k:Nat) (f:Addr) (fd:FuncData) (ps:List Str) (sp:Sp):Prop where
 len:∀ vs H Q E,sp vs H Q E->vs.length=ps.length
 run:∀ (A:Around) (outer:List Env) (s:Shared) (H:Hp) (args:Args) (us:List Value) (vs:List V) (Q:VK) (E:XK),RoomH k A->Env0 P w K mg base A outer s H->BindsTo s fd args (ps.zip us)->Vals vs us->sp vs H Q E ->
  codeAny (model P w) A (.call (.ref f) args) (CR CX outer P w H s Q E) s
abbrev BS7 (CX:CXT)(P:Program)(w:World)(K:Frag)(mg:Str->Option Value)(base:Heap)(N:List Str)(qual:Str)(sc:Scope)(f:Addr)(cdv:Value)(A:Around)(outer:List Env)(s:Shared)(H:Hp)(E:XK):Cx :=
 { AU5 CX P w K mg base N qual sc f cdv A outer s H E with calm:=false }
theorem BZ1 {CX:CXT}{P:Program}{w:World}{K:Frag}{mg:Str->Option Value}{base:Heap}{k:Nat}{f:Addr}{x qual:Str}{st:Stmt}{fd:FuncData}{N ps:List Str}{sp:Sp}(F:FunA K x qual st f fd)(S:FnScope N ps (aI st))(len:∀ vs H Q E,sp vs H Q E->vs.length=ps.length)(hbody:∀ (cdv:Value) (A:Around) (outer:List Env) (s:Shared) (H:Hp) (vs:List V) (Q:VK) (E:XK),sp vs H Q E ->
   ∃ t,PSs (BS7 CX P w K mg base N qual (aI st) f cdv A outer s H E) (cK st) t/\t { nx:=fun _ H'=>Q .non H',rt:=Q } (L2.start N vs) H):FnOkH P w K mg base CX (k+1) f fd ps sp:=by
 obtain ⟨oc,od,dV,kV,doc,pm,an,cdv,ct,osl,rfl,lk,hcd⟩:=F.ex
 refine ⟨len,fun A outer s H args us vs Q E hr e0 hb r hsp=>?_⟩
 have hl:=len _ _ _ _ hsp
 have KX:K.In s.heap:=e0.mod.kin.keeps fun b o e=>(e0.bs b o e).1
 have hkind:∀ y∈ps.zip us,(aI st).names.lookup y.1=some .local\/((aI st).names.lookup y.1=some .cell/\((cellsFrom (s.heap.objs.size+1) (aI st).names []).lookup y.1).isSome=true):=fun ⟨n,v⟩ hy=>by
  rcases S.par n (List.of_mem_zip hy).1 with q | q
  ·exact .inl q
  ·exact .inr ⟨q,cellsFrom_some _ _ _ (.inl q)⟩
 refine codeAny_call_function (by have:=hr.dp; omega) (KX _ _ lk) rfl S.co S.gen rfl (codeRec_of KX hcd) (hb _ _ _ _ ?_)
 refine wpAny_newFunctionEnv_cells S.kind hkind fun env he s1 x=>?_
 subst he
 refine ⟨(e0.mod.nolimit.keeps fun b o e=>(e0.bs b o e).1).keeps x.toInCall.keep,codeAny_func ?_⟩
 obtain ⟨t,ht,hq⟩:=hbody cdv A outer s H vs Q E hsp
 have I0:=AB0 (CX:=CX) (E:=E) (A:={ A with handled:=none }) S rfl ⟨e0.frames,e0.mod,e0.bs,e0.bsz,e0.funs,e0.frf,e0.hok,e0.bare⟩ hl r x
 have I:Inv (BS7 CX P w K mg base N qual (aI st) f cdv A outer s H E) [] (L2.start N vs) H s1 :=
  ⟨⟨I0.ok.mod,I0.ok.kind,I0.ok.glob,I0.ok.blt,I0.ok.above,I0.ok.inj,I0.ok.has,I0.ok.cab,(fun z=>nomatch z),I0.ok.frames,I0.ok.stk,I0.ok.exf,I0.ok.bs,I0.ok.bsz,I0.ok.noex,I0.ok.exfs,I0.ok.funs,I0.ok.frf⟩,I0.os,I0.bare,I0.base,I0.loc,I0.cell,I0.free,I0.freeC,I0.pin,I0.hok,I0.len⟩
 refine wpAny_mono (ht [] s1 (L2.start N vs) H _ I hq) (fun fl s' hs=>?_) fun e s' hs=>hs
 have fin:∀ {σ':L2.St}{H':Hp}{v:V}{u:Value},Inv (BS7 CX P w K mg base N qual (aI st) f cdv A outer s H E) [] σ' H' s'->RelV v u->Q v H'->CE outer P w H s Q u s' :=
  fun {σ' H' v u} J rv q=>⟨v,H',J.os,J.bare,J.base,J.hok,rv,q⟩
 cases fl with
 | ret u=>exact let ⟨v,σ',H',J,rv,q⟩:=hs; fin J rv q
 | next=>exact let ⟨σ',H',J,q⟩:=hs; fin (v:=V.non) (u:=Value.none) J rfl q
 | brk=>exact let ⟨_,_,_,q⟩:=hs; False.elim q
 | cont=>exact let ⟨_,_,_,q⟩:=hs; False.elim q
theorem BZ2 {o:Option (Option V)}{k:V->Prop}{v:V}(e:o=some (some v))(h:k v):isV o k:=by subst e; exact h
structure CalFG (g:Nat) (P:Program) (w:World) (K:Frag) (mg:Str->Option Value) (base:Heap) (f:Addr) (ps:List Str) (k:Nat) (sp:Sp):Prop where
 ex:∃ fd,FnOk P w K mg base (zW P w g) k f fd ps sp/\Binds K fd ps []/\keepIn K (.ref f)=true
abbrev CJ9:=CalFG 0
structure CalIH (P:Program) (w:World) (K:Frag) (mg:Str->Option Value) (base:Heap) (x:Str) (C:Addr) (f:Str) (k:Nat) (v:V):Prop where
 ex:∃ (B fI:Addr) (fd:FuncData) (p:Str) (u:Value),FnOkH P w K mg base (CXF P w) k fI fd ["self",p] (xU C f)/\Binds K fd ["self",p] [u]/\RelV v u/\ExcI K C B fI/\mg x=some (.ref C)
structure CalIA (P:Program) (w:World) (K:Frag) (mg:Str->Option Value) (base:Heap) (x:Str) (C:Addr) (f:Str) (k:Nat):Prop where
 ex:∃ (B fI:Addr) (fd:FuncData) (p:Str),FnOkH P w K mg base (CXF P w) k fI fd ["self",p] (xU C f)/\Binds K fd ["self",p] []/\ExcI K C B fI/\mg x=some (.ref C)
section
variable {X:Cx}{pins:List (Addr × Obj)}{σ:L2.St}{H:Hp}{s:Shared}
theorem BZ3 (I:Inv X pins σ H s)(E:Value->Shared->Prop):Inv { X with xe:=E } pins σ H s :=
 ⟨⟨I.ok.mod,I.ok.kind,I.ok.glob,I.ok.blt,I.ok.above,I.ok.inj,I.ok.has,I.ok.cab,I.ok.hd,I.ok.frames,I.ok.stk,I.ok.exf,I.ok.bs,I.ok.bsz,I.ok.noex,I.ok.exfs,I.ok.funs,I.ok.frf⟩,I.os,I.bare,I.base,I.loc,I.cell,I.free,I.freeC,I.pin,I.hok,I.len⟩
theorem BM2 {E:Value->Shared->Prop}(I:Inv { X with xe:=E } pins σ H s):Inv X pins σ H s :=
 ⟨⟨I.ok.mod,I.ok.kind,I.ok.glob,I.ok.blt,I.ok.above,I.ok.inj,I.ok.has,I.ok.cab,I.ok.hd,I.ok.frames,I.ok.stk,I.ok.exf,I.ok.bs,I.ok.bsz,I.ok.noex,I.ok.exfs,I.ok.funs,I.ok.frf⟩,I.os,I.bare,I.base,I.loc,I.cell,I.free,I.freeC,I.pin,I.hok,I.len⟩
def CB7 (g:Nat)(X:Cx)(C:Addr)(R:Addr->Hp->Prop):Prop:=∀ pins σ H H' s s' e oe vs a0,Inv X pins σ H s->s'.os=s.os->AllBare s'.gens->Un (frs X.stack) [] H H' s.heap s'.heap->HOk X.prog X.w H' s'.heap->s.heap.get? e=none->H' e=none ->
   s'.heap.get? e=some oe->oe.data=.fields vs->vs[1]?=some .none->vs[0]?=some a0->(g < 2->ChG g s'.heap H' vs)->oe.cls=.ref C->(∃ dx,oe.dict=some dx/\R dx H')->X.xe (.ref e) s'
theorem AQ2 {C B fI y e:Addr}{g k:Nat}{f p:Str}{v:V}{u:Value}{us:List Value}{fd:FuncData}{R:Addr->Hp->Prop}{oy:Obj}{ys:Array Value}{nm qn:Str}{N:Addr}{bs:List Value}{hd':Bool}{sn:List Str}{sub:List Value}{ab:Bool}{col:Option Bool}{dd:Option Addr}{k0 k1 k2 k3 k5:Option Value}{h':Heap}(F:FnOkH X.prog X.w X.K X.mg X.base (CXF X.prog X.w) k fI fd ["self",p] (xU C f))(lk:X.K.lookup C=some (excClassObj nm qn C N bs (.ref B::vbm) hd' sn sub ab col dd k0 k1 k2 k3 k5 "ValueError.__new__"))(hv:RelV v u)(hg0:1<=g)(hr:Room (k+1) X.A)(hxe:CB7 g X C R)(I:Inv X pins σ H s)(hy:s.heap.get? y=some oy)(hyd:oy.data=.fields ys)(hy2:ys[2]?=some .none\/∃ z oz zs,ys[2]?=some (.ref z)/\s.heap.get? z=some oz/\H z=none/\z ∉ frs X.stack/\oz.data=.fields zs/\zs[2]?=some .none)(hg1:g < 2->ys[2]?=some .none)(hyH:H y=none)(hyf:y ∉ frs X.stack)(h:∀ dx,H dx=none->R dx (upd H dx (.xd [(f,v)])))(hx:Heap.MadeExcOf s.heap h' e (.ref C) us)(hbind:BindsTo { s with heap:=h' } fd ⟨Value.ref e::us,[]⟩ (List.zip ["self",p] [Value.ref e,u])) :
  wpAny (model X.prog X.w) ((X.A.mark (some (.ref y))).under (.builtin "type.__call__" ⟨.ref C::us,[]⟩)) (call (.ref fI) (.ref e::us))
     (fun r s₃=>r=.none/\∃ od osl a0 oy ys,y≠e/\s₃.heap.get? C=some (excClassObj nm qn C N bs (.ref B::vbm) hd' sn sub ab col dd k0 k1 k2 k3 k5 "ValueError.__new__") /\
      s₃.heap.get? e=some ⟨.ref C,od,.fields #[a0,.none,.none,.none,.bool false,.none],osl⟩/\s₃.heap.get? y=some oy/\oy.data=.fields ys/\Chn e s₃.heap ys /\
      ∀ h',(∀ b,b≠e->h'.get? b=s₃.heap.get? b)->h'.get? e=some ⟨.ref C,od,.fields #[a0,.none,.ref y,.none,.bool true,.none],osl⟩->X.xe (.ref e) { s₃ with heap:=h' }) X.xe { s with heap:=h' }:=by
 obtain ⟨tt,he,_,_⟩:=hx.there
 have nH:H e=none:=by
  cases z:H e with
  | none=>rfl
  | some w' =>
   obtain ⟨o,ho⟩:=AM7 (I.hok e w' z)
   rw [hx.new] at ho
   cases ho
 have nb:∀ b o,s.heap.get? b=some o->b≠e:=fun b o z y=>by rw [y,hx.new] at z; cases z
 have up:∀ b w',H b=some w'->upd H e (iD e C none) b=some w':=fun b w' z=>by rw [aJ (aQ z nH)]; exact z
 have I1:Inv X pins σ (upd H e (iD e C none)) { s with heap:=h' }:=I.un (t':=s.toks) ⟨fun b o z _ _ _=>hx.keeps _ _ z,fun b o z _ _ _=>⟨o.slots,hx.keeps _ _ z⟩,fun b o z n _=>by rw [aJ (nb b o z)]; exact n,fun b o z _=>⟨o,hx.keeps _ _ z⟩,fun b xs z=>up _ _ z,fun b o w' z=>up _ _ z,fun b ps z=>⟨#[],by rw [Array.append_empty]; exact up _ _ z⟩⟩ fun b w' z=>by
  by_cases y:b=e
  ·subst y
   rw [aA] at z
   cases z
   exact AZ6 ⟨_,.ref tt,he,rfl,rfl,rfl⟩
  ·rw [aJ y] at z
   exact (I.hok b w' z).stay (fun c v' _ r=>hx.keeps _ _ r) (fun c r=>up _ _ r) fun c xs r=>up _ _ r
 have e1:=I1.env0
 have e2:=(show Env0 X.prog X.w X.K X.mg X.base (X.A.mark (some (.ref y))) X.stack { s with heap:=h' } (upd H e (iD e C none)) from ⟨e1.frames,e1.mod,e1.bs,e1.bsz,e1.funs,e1.frf,e1.hok,e1.bare⟩)
 refine wpAny_call (codeAny_mono (F.run _ X.stack _ _ ⟨Value.ref e::us,[]⟩ [Value.ref e,u] [V.ref e,v] (fun v' H2=>v'=.non/\∃ dx,H dx=none/\dx≠e/\H2=upd (upd (upd H e (iD e C none)) dx (.xd [(f,v)])) e (iD e C (some dx))) E0 ((Room.held hr (some (.ref y))).make C us []) (e2.make C us [])
  hbind (.cons rfl (.cons hv .nil)) ⟨e,v,rfl,aA,fun dx e1 e2=>⟨rfl,dx,by rw [aJ e2] at e1; exact e1,e2,rfl⟩⟩) fun r s3 hq=>?_)
 cases r with
 | error ev =>
  obtain ⟨_,_,_,_,_,_,_,_,_,_,_,_,_,_,_,_,hE⟩:=hq
  exact hE.elim
 | ok fl =>
  cases fl with
  | next=>exact False.elim hq
  | brk=>exact False.elim hq
  | cont=>exact False.elim hq
  | ret u3 =>
   obtain ⟨v3,H2,os,bare,un,hok,r3,rfl,dx,hdx,hde,rfl⟩:=hq
   have I3:Inv X pins σ _ s3:=I1.call' (ch:=[]) os un hok bare (fun b z=>absurd z (by simp))
   obtain ⟨⟨ob,a0,hob,hcl,hdi,hdt⟩,_,_⟩:=(show ObjOk X.prog X.w _ s3.heap e (.ext (AC2 e C (some dx))) from hok e _ aA)
   have eq2:∀ b,b≠e->upd (upd (upd H e (iD e C none)) dx (.xd [(f,v)])) e (iD e C (some dx)) b=upd H dx (.xd [(f,v)]) b:=fun b z=>by
    rw [aJ z]
    by_cases y:b=dx
    ·rw [y,aA,aA]
    ·rw [aJ y,aJ y,aJ z]
   have nH2:upd H dx (.xd [(f,v)]) e=none:=by rw [aJ (Ne.symm hde)]; exact nH
   have ne1:∀ b w',H b=some w'->b≠e:=fun b w' z=>aQ z nH
   have hye:y≠e:=nb y oy hy
   have hy3:s3.heap.get? y=some oy:=un.keep y oy (hx.keeps _ _ hy) (by rw [aJ hye]; exact hyH) hyf (by simp)
   have hy4:Chn e s3.heap ys:=by
    rcases hy2 with q | ⟨z,oz,zs,q1,q2,q3,q4,q5⟩
    ·exact .inl q
    ·have ze:z≠e:=nb z oz q2
     exact .inr ⟨z,oz,zs,q1,ze,un.keep z oz (hx.keeps _ _ q2) (by rw [aJ ze]; exact q3) q4 (by simp),q5⟩
   obtain ⟨oc,od,odt,osl⟩:=ob
   dsimp only at hcl hdi hdt
   subst hcl hdt
   refine ⟨(show u3=Value.none from r3),od,osl,a0,oy,ys,hye,I3.kIn _ _ lk,hob,hy3,hyd,hy4,fun h4 k4 e4=>?_⟩
   have keep4:∀ b o,b≠e->s3.heap.get? b=some o->h4.get? b=some o:=fun b o n z=>(k4 b n).trans z
   have un':Un (frs X.stack) [] H (upd H dx (.xd [(f,v)])) s.heap h4 :=
    ⟨fun b o z n hb' _=>keep4 _ _ (nb b o z) (un.keep b o (hx.keeps _ _ z) (by rw [aJ (nb b o z)]; exact n) hb' (by simp)),fun b o z n hb' _=>by
      obtain ⟨sl,q⟩:=un.slot b o (hx.keeps _ _ z) (by rw [aJ (nb b o z)]; exact n) hb' (by simp)
      exact ⟨sl,keep4 _ _ (nb b o z) q⟩,
     fun b o z n _=>(eq2 b (nb b o z)).symm.trans (un.free b o (hx.keeps _ _ z) (by rw [aJ (nb b o z)]; exact n) (by simp)),fun b o z _=>by
      obtain ⟨o',q⟩:=un.there b o (hx.keeps _ _ z) (by simp)
      exact ⟨o',keep4 _ _ (nb b o z) q⟩,
     fun b xs z=>(eq2 b (ne1 b _ z)).symm.trans (un.tups b xs (up _ _ z)),fun b o w' z=>(eq2 b (ne1 b _ z)).symm.trans (un.frzs b o w' (up _ _ z)),fun b ps z=>by
     obtain ⟨m1,e1⟩:=un.tbls b ps (up _ _ z)
     exact ⟨m1,(eq2 b (ne1 b _ z)).symm.trans e1⟩⟩
   have hok':HOk X.prog X.w (upd H dx (.xd [(f,v)])) h4:=fun b w' z=>by
    have be:b≠e:=fun y=>by rw [y,nH2] at z; cases z
    refine (hok b w' ((eq2 b be).trans z)).stay (fun c o hc r=>keep4 c o ?_ r) (fun c r=>?_) fun c xs r=>?_
    ·rcases hc with rfl | hc
     ·exact be
     ·intro y
      rw [y,aA] at hc
      cases hc
    ·have ce:c≠e:=fun y=>by rw [y,aA] at r; cases r
     exact (eq2 c ce).symm.trans r
    ·have ce:c≠e:=fun y=>by rw [y,aA] at r; cases r
     exact (eq2 c ce).symm.trans r
   have hydx:y≠dx:=fun z=>by
    obtain ⟨mA,⟨ob,es,ep,ho,hdd,_⟩,_⟩:=(show ObjOk X.prog X.w _ h4 dx (.xd [(f,v)]) from hok' dx _ aA)
    rw [<- z,keep4 y oy hye hy3] at ho
    cases ho
    rw [hyd] at hdd
    cases hdd
   exact hxe pins σ H _ s { s3 with heap:=h4 } e _ _ a0 I os bare un' hok' hx.new nH2 e4 rfl rfl rfl (fun z=>⟨fun y=>absurd y (by omega),fun _=>.inr ⟨y,oy,ys,rfl,keep4 y oy hye hy3,by rw [aJ hydx]; exact hyH,hyd,hg1 z⟩⟩) rfl ⟨dx,hdi,h dx hdx⟩
theorem AQ3 {x:Str}{C y:Addr}{g k:Nat}{f:Str}{v:V}{np cpos cp pos:Pos}{j:Nat}{R:Addr->Hp->Prop}{Q:Flow->Shared->Prop}{oy:Obj}{ys:Array Value}(c:CalIH X.prog X.w X.K X.mg X.base x C f k v)(hg0:1<=g)(hg:Gl X x)(hr:Room (k+1) X.A)(hxe:CB7 g X C R)(I:Inv X pins σ H s)(hy:s.heap.get? y=some oy)(hyd:oy.data=.fields ys)(hy2:ys[2]?=some .none\/∃ z oz zs,ys[2]?=some (.ref z)/\s.heap.get? z=some oz/\H z=none/\z ∉ frs X.stack/\oz.data=.fields zs/\zs[2]?=some .none)(hg1:g < 2->ys[2]?=some .none)(hyH:H y=none)(hyf:y ∉ frs X.stack)(h:∀ dx,H dx=none->R dx (upd H dx (.xd [(f,v)])))(hd:(x == ("__debug__":Str))=false:=by decide) :
  wpAny (model X.prog X.w) (X.A.mark (some (.ref y))) (exec (.Raise (some (.Call (.Name x np) [] [] cpos)) (some (.Constant .none j cp)) pos) X.env) Q X.xe s:=by
 obtain ⟨B,fI,fd,p,u,F,hb,hv,q,hm⟩:=c.ex
 obtain ⟨nm,qn,N,bs,hd',sn,sub,ab,col,dd,k0,k1,k2,k3,k5,lk⟩:=q.ex
 obtain ⟨bm',N',nm',qn',bs',hd'',sn',sub',ab',col',dd',j0,j1,j2,j3,j5,mN',hB,hN',hni',T'⟩:=AG9 I.kIn q.base
 have T:OwnTail s.heap vbm (.ref B::vbm):=.own (cd:=_) hB hN' hni' .base
 refine AQ1 (C:=C) (nm:=nm) (q:=qn) (N:=N) (bs:=bs) (bm:=.ref B::vbm) (bmB:=vbm) (hdct:=hd') (sn:=sn) (sub:=sub) (ab:=ab) (col:=col) (dd:=dd) (k0:=k0) (k1:=k1) (k2:=k2) (k3:=k3) (k5:=k5) (K:=X.K) (fI:=fI) PySem.F.excBase_ValueError (by rfl) rfl rfl q.init (beq_iff_eq.mp q.fn) (iK (X:=cxE X (.ref y)) (uD I (.ref y)) hg hm ⟨rfl,PySem.evalArgs_none ?_⟩ hd)
 refine ⟨rfl,sz8 (show 0<=1000 by decide),I.kIn _ _ lk,I.kIn,T,fun h' e hx=>?_⟩
 exact AQ2 F lk hv hg0 hr hxe I hy hyd hy2 hg1 hyH hyf h hx (hb _ [Value.ref e] (fun b o l=>hx.keeps _ _ (I.kIn b o l)) rfl)
def BZ4 (K:Frag)(CB:Addr)(i j:Nat)(fF:Addr)(sp:Sp)(t:TA)(f:Str)(v:V)(R:Addr->Hp->Prop):TS:=fun D σ H=>σ[j]?=some (some (.ref fF))/\t σ H fun vs H1=>sp vs H1 (fun y H2=>D.nx (σ.set i (some y)) H2)
 fun cls _ H2=>exmOne K cls (.ref CB)=some true/\∀ dx,H2 dx=none->R dx (upd H2 dx (.xd [(f,v)]))
theorem BS8 {i j jj k k':Nat}{fn xn cn rn f:Str}{fF CB C:Addr}{ps:List Str}{sp:Sp}{e:Expr}{es:List Expr}{t:TA}{v:V}{R:Addr->Hp->Prop}{p1 p2 p3 p4 cp np cpos ap rpos hpos tpos:Pos}(hst:X.stack=X.env::X.outer)(hf:X.env.frame=some X.env.locals)(CF:CJ9 X.prog X.w X.K X.mg X.base fF ps k sp)(hr:Room k X.A)(hNf:X.N[j]?=some fn)(hvf:Vis X.env.scope fn)(ha:∀ E',PA { X with xe:=E' } (e::es) t)(hN:X.N.Nodup)(hi:X.N[i]?=some xn)(hx:Loc X.env.scope xn)(hfn:X.fn xn=true)(hgC:Gl X cn)(hmC:X.mg cn=some (.ref CB))(CI:CalIH X.prog X.w X.K X.mg X.base rn C f k' v)(hgr:Gl X rn)(hr':Room (k'+1) X.A)(hp:∀ u,PassesOwnAt (model X.prog X.w) (X.A.mark (some u)) X.A X.env X.xe)(hxe:CB7 1 X C R)(hdf:(fn == ("__debug__":Str))=false:=by decide)(hcf:(fn == ("__classdict__":Str))=false:=by decide)(hdc:(cn == ("__debug__":Str))=false:=by decide)(hdr:(rn == ("__debug__":Str))=false:=by decide)(he:starEach (e::es) X.env=(false,eval e X.env)::starEach es X.env:=by rfl)(hpl:(backTo p3 (starEach es X.env)).any (·.1)=false:=by rfl)(hsw:swapsWith (.Call (.Name fn p2) (e::es) [] p3) (some (.Name xn p1)) p4.line X.env=pure false:=by rfl) :
  PS X (.Try [.Assign [.Name xn p1] (.Call (.Name fn p2) (e::es) [] p3) p4] [.ExceptHandler (some (.Name cn cp)) none [.Raise (some (.Call (.Name rn np) [] [] cpos)) (some (.Constant .none jj ap)) rpos] hpos] [] [] tpos) (BZ4 X.K CB i j fF sp t f v R):=by
 intro pins s σ H D I h
 obtain ⟨hσ,h⟩:=h
 obtain ⟨fd,F,hb,hk⟩:=CF.ex
 have body:wpAny (model X.prog X.w) X.A (exec (.Assign [.Name xn p1] (.Call (.Name fn p2) (e::es) [] p3) p4) X.env) (SP X pins D) (fun ev s'=>∃ H1 s1,Inv X pins σ H1 s1/\CXF X.prog X.w X.stack H1 s1 (fun cls _ H2=>exmOne X.K cls (.ref CB)=some true/\∀ dx,H2 dx=none->R dx (upd H2 dx (.xd [(f,v)]))) ev s') s:=by
  refine wpAny_Assign_Name (wpAny_Call_Name_kw ?_) hsw
  refine wpAny_mono (BK0 (X:={ X with xe:=fun _ _=>False }) hNf hvf hdf hcf pins s σ H (fun z Hz=>z=.ref fF/\Hz=H) (BZ3 I _) (BZ2 hσ ⟨rfl,rfl⟩)) (fun u s1 q1=>?_) fun _ _ z=>z.elim
  obtain ⟨z,Hz,I1',rz,rfl,rfl⟩:=q1
  have I1:=BM2 I1'
  cases rz
  refine callWith_K (h₀:=X.base) I1.ok.mod.kin hk (wpAny_mono (ha (fun _ _=>False) p3 pins s1 σ Hz _ I1' h) (fun us s2 q2=>?_) fun _ _ z=>z.elim) he hpl
  obtain ⟨vs,H2,I2',r,q⟩:=q2
  have I2:=BM2 I2'
  refine ⟨I2.kIn,?_⟩
  have r2:Vals (vs++[]) (us++[]):=by rw [List.append_nil,List.append_nil]; exact r
  have q':sp (vs++[]) H2 (fun y H2=>D.nx (σ.set i (some y)) H2) (fun cls _ H2=>exmOne X.K cls (.ref CB)=some true/\∀ dx,H2 dx=none->R dx (upd H2 dx (.xd [(f,v)]))):=by rw [List.append_nil]; exact q
  have hlen:(us++[]).length=ps.length:=by rw [<- r2.length]; exact F.len _ _ _ _ q'
  refine wpAny_call (codeAny_mono (F.run X.A X.stack s2 H2 ⟨us,[]⟩ (us++[]) (vs++[]) _ _ hr I2.env0 (hb s2 us I2.kIn hlen) r2 q') fun res s' hq=>?_)
  cases res with
  | ok fl =>
   cases fl with
   | ret u =>
    obtain ⟨y,H3,I3,r3,q3⟩:=I2.after hq
    exact nC I3 hN hi hx r3 (fun s4 I4=>⟨_,H3,I4,q3⟩) (.inl hfn)
   | next=>exact False.elim hq
   | brk=>exact False.elim hq
   | cont=>exact False.elim hq
  | error ev=>exact ⟨H2,s2,I2,hq⟩
 refine wpAny_Try_except (wpAny_execs_cons (wpAny_mono body (fun fl s' q=>?_) fun ev s' hq=>?_))
 ·cases fl with
  | next=>exact wpAny_execs_nil (wpAny_execs_nil q)
  | brk=>exact q
  | cont=>exact q
  | ret u=>exact q
 obtain ⟨H1,s1,I1,hq1⟩:=hq
 obtain ⟨x',cls,a0,dx,H2,B,rfl,os,bare,un,hok,fl,cT,cO,cA,⟨oe0,hoe0,hdx0,hc2⟩,hm1,hE⟩:=hq1
 obtain ⟨vs0,hvs0,hvs2'⟩:=hc2 (by decide)
 have hvs2:=hvs2'.1 rfl
 have fl':=fl
 rw [hst] at fl'
 refine AB3 (base:=B) (outer:=X.outer) (L:=X.env.locals) (by rw [<- hst]; exact I1.ok.frames) hf fl' fun h4 held4 up4 dk4=>?_
 refine BL3 held4 fun h5 fl5 up5 dk5=>?_
 rw [<- hst] at fl5
 obtain ⟨un5,hok5⟩:=BV1 (P:=X.prog) (w:=X.w) un hok fl.1 fl.2.2.1 cT cO cA fl5.1 (up4.trans up5)
 have I5:Inv X pins σ H2 { s' with heap:=h5 }:=I1.call' (s':={ s' with heap:=h5 }) (ch:=[]) os un5 hok5 bare (fun b z=>absurd z (by simp))
 have X5:=uD I5 (.ref x')
 have ty5:Looks (model X.prog X.w) h5 (typeOf (.ref x')) cls:=by
  obtain ⟨ob,hob,hc⟩:=fl5.there
  subst hc
  exact (Looks.ld hob).andThen .now
 refine wpAny_handleBy_cons (codeAny_handlers_test (iK X5 hgC hmC ((exm_one I5.kIn ty5 hm1).here ?_) hdc)) (by intro z; cases z)
 refine codeAny_handlers_suite ?_
 refine sQ fl5 fun h6 fl6 up6 dk6=>?_
 obtain ⟨un6,hok6⟩:=BV1 (P:=X.prog) (w:=X.w) un5 hok5 fl5.1 fl5.2.2.1 cT cO cA fl6.1 up6
 obtain ⟨o1,g1,d1,z1⟩:=dk4 x' oe0 hoe0
 obtain ⟨o2,g2,d2,z2⟩:=dk5 x' o1 g1
 obtain ⟨o3,g3,d3,z3⟩:=dk6 x' o2 g2
 obtain ⟨vs3,hvs3,hvs4⟩:=(z1.trans (z2.trans z3)) vs0 hvs0
 have nH:H2 x'=none:=by
  cases z:H2 x' with
  | none=>rfl
  | some u =>
   obtain ⟨o,ho⟩:=cT x' u z
   rw [fl.2.1] at ho
   cases ho
 have nF:x' ∉ frs X.stack:=fun hx'=>by
  obtain ⟨_,o',ho',hn'⟩:=fl6.2.2.1.mem hx'
  obtain ⟨oe,ws,hoe,_,hoed,_⟩:=fl6.first
  rw [hoe] at ho'
  cases ho'
  exact hn' _ hoed
 have I6:Inv X pins σ H2 { s' with heap:=h6 }:=I1.call' (s':={ s' with heap:=h6 }) (ch:=[]) os un6 hok6 bare (fun b z=>absurd z (by simp))
 refine wpAny_execs_cons (wpAny_mono (AQ3 (Q:=fun _ _=>False) CI (Nat.le_refl _) hgr hr' hxe I6 g3 hvs3 (.inl (hvs4.trans hvs2)) (fun _=>hvs4.trans hvs2) nH nF hE hdr) (fun _ _ z=>z.elim) (hp (.ref x')))
end
section
variable {P:Program}{w:World}{K:Frag}{mg:Str->Option Value}{base:Heap}{N:List Str}{qual:Str}{sc:Scope}{f:Addr}{cdv:Value}{A:Around}{outer:List Env}{s:Shared}{H:Hp}{E:XK}{C:Addr}
theorem CG7 {g:Nat}:CB7 g (xN g P w K mg base N qual sc f cdv A outer s H E) C (fun dx H9=>E (.ref C) (some dx) H9) :=
 fun pins σ H1 H' s1 s' e oe vs a0 I os bare un hok fe nH he hd h1 h0 hch hcl ⟨dx,hdi,hE⟩=>oF I rfl rfl rfl os bare un hok fe nH he hd h1 h0 hch (by rw [hcl,hdi]; exact hE)
theorem BH8 {g:Nat}:∀ u,PassesOwnAt (model P w) ((xN g P w K mg base N qual sc f cdv A outer s H E).A.mark (some u)) (xN g P w K mg base N qual sc f cdv A outer s H E).A (xN g P w K mg base N qual sc f cdv A outer s H E).env (xN g P w K mg base N qual sc f cdv A outer s H E).xe:=fun _=>PassesOwnAt.leaving
end
theorem BA3 {K:Frag}{CB:Addr}{i j:Nat}{fF:Addr}{sp:Sp}{t:TA}{f:Str}{v:V}{R:Addr->Hp->Prop}{D:Ends}{σ:L2.St}{H:Hp}:BZ4 K CB i j fF sp t f v R D σ H=(σ[j]?=some (some (.ref fF))/\t σ H fun vs H1=>sp vs H1 (fun y H2=>D.nx (σ.set i (some y)) H2)
 fun cls _ H2=>exmOne K cls (.ref CB)=some true/\∀ dx,H2 dx=none->R dx (upd H2 dx (.xd [(f,v)]))):=rfl
abbrev sp1:Str:=⟨#[32]⟩
def bY (n:Int):Str:=((toString n:String):Str)
mutual
def Tr.ws:Tr->List Str
 | .any=>[("any":Str)]
 | .kind us=>("kind":Str)::us
 | .place us=>("place":Str)::us
 | .weight n=>[("weight":Str),bY n]
 | .not t=>("not":Str)::t.ws
 | .both ts=>("(":Str)::(ts.ws "&"++[(")":Str)])
 | .either ts=>("(":Str)::(ts.ws "|"++[(")":Str)])
def Trs.ws (s:Str):Trs->List Str
 | .nil=>[]
 | .cons t .nil=>t.ws
 | .cons t (.cons t' ts)=>t.ws++s::Trs.ws s (.cons t' ts)
end
theorem vA (s:Str)(t:Tr):Trs.ws s (.cons t .nil)=t.ws:=by rw [Trs.ws.eq_def]
theorem oI (s:Str)(t t':Tr)(ts:Trs):Trs.ws s (.cons t (.cons t' ts))=t.ws++s::Trs.ws s (.cons t' ts):=by rw [Trs.ws.eq_def]
theorem kI:∀ t:Tr,t.ws≠[]
 | .any=>by rw [Tr.ws]; exact List.cons_ne_nil _ _
 | .kind us=>by rw [Tr.ws]; exact List.cons_ne_nil _ _
 | .place us=>by rw [Tr.ws]; exact List.cons_ne_nil _ _
 | .weight n=>by rw [Tr.ws]; exact List.cons_ne_nil _ _
 | .not t=>by rw [Tr.ws]; exact List.cons_ne_nil _ _
 | .both ts=>by rw [Tr.ws]; exact List.cons_ne_nil _ _
 | .either ts=>by rw [Tr.ws]; exact List.cons_ne_nil _ _
mutual
def Tr.tx:Tr->Str
 | .any=>"any"
 | .kind us=>Str.join sp1 (("kind":Str)::us)
 | .place us=>Str.join sp1 (("place":Str)::us)
 | .weight n=>("weight ":Str)++bY n
 | .not t=>("not ":Str)++t.tx
 | .both ts=>("( ":Str)++Str.join (" & ":Str) ts.tx++(" )":Str)
 | .either ts=>("( ":Str)++Str.join (" | ":Str) ts.tx++(" )":Str)
def Trs.tx:Trs->List Str
 | .nil=>[]
 | .cons t ts=>t.tx::ts.tx
end
theorem iP:∀ ts:Trs,ts.tx=ts.toL.map Tr.tx
 | .nil=>rfl
 | .cons t ts=>by rw [Trs.tx,Trs.toL,List.map_cons,iP ts]
mutual
def Tr.wf:Tr->Prop
 | .any=>True
 | .kind us=>us≠[]/\(∀ u∈us,aX u)/\us.Nodup
 | .place us=>us≠[]/\(∀ u∈us,aX u)/\us.Nodup
 | .weight n=>0<=n/\n < 1000000
 | .not t=>t.wf
 | .both ts=>2<=ts.toL.length/\ts.wf
 | .either ts=>2<=ts.toL.length/\ts.wf
def Trs.wf:Trs->Prop
 | .nil=>True
 | .cons t ts=>t.wf/\ts.wf
end
mutual
theorem Tr.ok.wf:∀ {t:Tr},t.ok->t.wf
 | .any,_=>by rw [Tr.wf]; trivial
 | .kind us,h=>by rw [Tr.ok] at h; rw [Tr.wf]; exact ⟨h.1,h.2.2.1,h.2.2.2⟩
 | .place us,h=>by rw [Tr.ok] at h; rw [Tr.wf]; exact ⟨h.1,h.2.2.1,h.2.2.2⟩
 | .weight n,h=>by rw [Tr.ok] at h; rw [Tr.wf]; exact h
 | .not t,h=>by rw [Tr.ok] at h; rw [Tr.wf]; exact Tr.ok.wf h
 | .both ts,h=>by rw [Tr.ok] at h; rw [Tr.wf]; exact ⟨h.1,Trs.ok.wf h.2.2⟩
 | .either ts,h=>by rw [Tr.ok] at h; rw [Tr.wf]; exact ⟨h.1,Trs.ok.wf h.2.2⟩
theorem Trs.ok.wf:∀ {ts:Trs},ts.ok->ts.wf
 | .nil,_=>by rw [Trs.wf]; trivial
 | .cons t ts,h=>by rw [Trs.ok] at h; rw [Trs.wf]; exact ⟨Tr.ok.wf h.1,Trs.ok.wf h.2⟩
end
theorem trs_wf:∀ {ts:Trs},ts.wf ↔ ∀ t∈ts.toL,t.wf
 | .nil=>⟨fun _ t h=>(by cases h),fun _=>by rw [Trs.wf]; trivial⟩
 | .cons s ts=>by
  rw [Trs.toL,Trs.wf,trs_wf]
  exact ⟨fun h t m=>by
   rcases List.mem_cons.mp m with rfl | m
   ·exact h.1
   ·exact h.2 t m,fun h=>⟨h s List.mem_cons_self,fun t m=>h t (List.mem_cons_of_mem _ m)⟩⟩
theorem cS {a:Str}{r:List Str}(h:r≠[]):Str.join sp1 (a::r)=a++sp1++Str.join sp1 r:=by
 cases r with
 | nil=>exact absurd rfl h
 | cons b r=>rfl
theorem yX (s:Str):∀ {ts:Trs},ts.toL≠[]->ts.ws s≠[]
 | .nil,h=>absurd rfl h
 | .cons t .nil,_=>by rw [vA]; exact kI t
 | .cons t (.cons t' ts),_=>by rw [oI]; simp
theorem AC3 {ts:Trs}(h:2<=ts.toL.length):ts.toL≠[]:=fun z=>by rw [z] at h; simp at h
mutual
theorem vB:∀ t:Tr,t.wf->t.tx=Str.join sp1 t.ws
 | .any,_=>rfl
 | .kind us,_=>rfl
 | .place us,_=>rfl
 | .weight n,_=>by
  rw [Tr.tx,Tr.ws,cS (by simp)]
  exact cV (by simp only [bW]; rfl)
 | .not t,h=>by
  rw [Tr.wf] at h
  rw [Tr.tx,Tr.ws,cS (kI t),vB t h]
  exact cV (by simp only [bW]; rfl)
 | .both ts,h=>by
  rw [Tr.wf] at h
  have hn:=AC3 h.1
  rw [Tr.tx,Tr.ws,cS (by simp),eH (yX _ hn) (by simp),txs_ws "&" " & " rfl ts h.2 hn]
  exact cV (by simp only [bW,List.append_assoc]; rfl)
 | .either ts,h=>by
  rw [Tr.wf] at h
  have hn:=AC3 h.1
  rw [Tr.tx,Tr.ws,cS (by simp),eH (yX _ hn) (by simp),txs_ws "|" " | " rfl ts h.2 hn]
  exact cV (by simp only [bW,List.append_assoc]; rfl)
theorem txs_ws (s s3:Str)(e:s3=sp1++s++sp1):∀ ts:Trs,ts.wf->ts.toL≠[]->Str.join s3 ts.tx=Str.join sp1 (ts.ws s)
 | .nil,_,h=>absurd rfl h
 | .cons t .nil,h,_=>by
  rw [Trs.wf] at h
  rw [Trs.tx,Trs.tx,vA]
  exact vB t h.1
 | .cons t (.cons t' ts),h,_=>by
  rw [Trs.wf] at h
  have i:=txs_ws s s3 e (.cons t' ts) h.2 (by rw [Trs.toL]; simp)
  have hn:Trs.ws s (.cons t' ts)≠[]:=yX s (by rw [Trs.toL]; simp)
  rw [oI,eH (kI t) (by simp),cS hn,<- i,<- vB t h.1,Trs.tx,Trs.tx]
  show t.tx++s3++Str.join s3 (t'.tx::ts.tx)=_
  rw [e]
  exact cV (by simp only [bW,List.append_assoc])
end
def AQ4 (u:Str):Bool:=decide (1<=u.length/\u.length<=60/\∀ c∈u.cps.toList,48<=c/\c<=57) && (decide (u="0") || !Txt.startswith u "0")
def kY (u:Str):Bool:=if Txt.startswith u "-"=true then AQ4 (Txt.slice u (some 1) none) && !decide (u="-0") else AQ4 u
def dO (u:Str):Int:=(PySem.intText? u).getD 0
theorem nL (x:Str)(c:Nat):Txt.startswith x ⟨#[c]⟩=decide (x.cps.toList.head?=some c):=by
 obtain ⟨⟨l⟩⟩:=x
 cases l with
 | nil=>rfl
 | cons a l =>
  unfold Txt.startswith Builtin.Str.subAt
  have e:(⟨#[c]⟩:Str).length=1:=rfl
  rw [e,Bool.eq_iff_iff]
  simp only [Bool.and_eq_true,decide_eq_true_eq,beq_iff_eq]
  constructor
  ·rintro ⟨_,h⟩
   have h2:=congrArg Array.toList h
   simp at h2
   simp [h2]
  ·intro h
   simp at h
   refine ⟨by show 0+1<=(a::l).length; simp,?_⟩
   apply Array.toList_inj.mp
   simp [h]
theorem vC:∀ m:Nat,0 < m->(Nat.toDigits 10 m).head?≠some '0'/\Nat.toDigits 10 m≠[]:=by
 intro m
 induction m using Nat.strongRecOn with
 | _ m ih =>
  intro h0
  by_cases h:m < 10
  ·rw [Nat.toDigits_of_lt_base h]
   have q:∀ k:Nat,k < 10->0 < k->Nat.digitChar k≠'0':=by decide
   exact ⟨by simpa using q m h h0,by simp⟩
  ·have hm:m % 10 < 10:=Nat.mod_lt m (by decide)
   have t:Nat.toDigits 10 (m / 10)++Nat.toDigits 10 (m % 10)=Nat.toDigits 10 (10 * (m / 10)+m % 10):=Nat.toDigits_append_toDigits (by decide) (by omega) hm
   rw [Nat.div_add_mod] at t
   obtain ⟨i1,i2⟩:=ih (m / 10) (by omega) (by omega)
   rw [<- t]
   refine ⟨?_,by simp [i2]⟩
   cases e:Nat.toDigits 10 (m / 10) with
   | nil=>exact absurd e i2
   | cons a l=>rw [e] at i1; simpa using i1
theorem vD {n:Int}(h:0<=n):(bY n).cps.toList=(Nat.toDigits 10 n.toNat).map Char.toNat:=by
 obtain ⟨m,rfl⟩:=Int.eq_ofNat_of_zero_le h
 exact KIN.signs_num m
theorem nM {n:Int}(h:0<=n):∀ c∈(bY n).cps.toList,48<=c/\c<=57:=by
 intro c hc
 rw [vD h] at hc
 obtain ⟨ch,hch,e⟩:=List.mem_map.mp hc
 have r:=PyProof.Rows.digit_range (Nat.isDigit_of_mem_toDigits (by decide) (by decide) hch)
 rw [<- e]
 exact r
theorem vE {n:Int}(h0:0<=n)(h1:n < 1000000):1<=(bY n).length/\(bY n).length<=10:=by
 have hl:=KT.len_num h0 (show n < 10 ^ 10 by omega)
 refine ⟨?_,hl⟩
 have e:(bY n).length=(bY n).cps.toList.length:=by simp [Str.length]
 rw [e,vD h0,List.length_map]
 by_cases z:n=0
 ·subst z; decide
 ·exact List.length_pos_iff.mpr (vC n.toNat (by omega)).2
theorem BH9 {n:Int}(h0:0<=n)(hn:n≠0):(bY n).cps.toList.head?≠some 48:=by
 rw [vD h0]
 obtain ⟨i1,i2⟩:=vC n.toNat (by omega)
 cases e:Nat.toDigits 10 n.toNat with
 | nil=>exact absurd e i2
 | cons a l =>
  rw [e] at i1
  intro h
  simp at h i1
  exact i1 (Char.ext (UInt32.toNat_inj.mp h))
theorem pX {n:Int}(h0:0<=n)(h1:n < 1000000):kY (bY n)=true/\PySem.intText? (bY n)=some n/\dO (bY n)=n:=by
 have e:=KIN.num_reads h0 (show n < 10 ^ 10 by omega)
 refine ⟨?_,e,?_⟩
 ·obtain ⟨l1,l2⟩:=vE h0 h1
  have hd:=nM h0
  have ns:Txt.startswith (bY n) "-"=false:=by
   show Txt.startswith (bY n) ⟨#[45]⟩=false
   rw [nL]
   refine decide_eq_false fun h=>?_
   cases q:(bY n).cps.toList with
   | nil=>rw [q] at h; cases h
   | cons a l =>
    have:=hd a (by rw [q]; exact List.mem_cons_self)
    rw [q] at h
    simp at h
    omega
  unfold kY AQ4
  rw [ns,if_neg (by decide),Bool.and_eq_true]
  refine ⟨decide_eq_true ⟨l1,by omega,hd⟩,?_⟩
  by_cases z:n=0
  ·subst z; decide +kernel
  ·rw [Bool.or_eq_true]
   right
   show (!Txt.startswith (bY n) ⟨#[48]⟩)=true
   rw [nL,decide_eq_false (BH9 h0 z)]
   rfl
 ·unfold dO
  rw [show PySem.intText? (bY n)=some n from e]
  rfl
structure Fm where
 sg:Str
 inn:List Tr
def plainF:List Str->List Fm->Option (Tr × List Str × List Fm)
 | [],_=>none
 | w::r,S =>
  if w="not"\/w="(" then plainF r (⟨w,[]⟩::S)
  else if w="any" then some (.any,r,S)
  else if w="kind" then (if r.takeWhile (fun u=>decide (aX u))≠[]/\(r.takeWhile (fun u=>decide (aX u))).Nodup then some (.kind (r.takeWhile fun u=>decide (aX u)),r.dropWhile (fun u=>decide (aX u)),S) else none)
  else if w="place" then (if r.takeWhile (fun u=>decide (aX u))≠[]/\(r.takeWhile (fun u=>decide (aX u))).Nodup then some (.place (r.takeWhile fun u=>decide (aX u)),r.dropWhile (fun u=>decide (aX u)),S) else none)
  else if w="weight" then (match r with
   | []=>none
   | n::r'=>if kY n=true/\0<=dO n then some (.weight (dO n),r',S) else none)
  else none
def closeF:List Fm->Tr->List Str->Option ((Tr × List Str) ⊕ (List Str × List Fm))
 | [],t,r=>some (.inl (t,r))
 | f::S,t,r =>
  if f.sg="not" then closeF S (.not t) r
  else match r with
   | []=>none
   | w::r' =>
    if w=")" then (if f.sg="&" then closeF S (.both (Trs.ofL (f.inn++[t]))) r' else if f.sg="|" then closeF S (.either (Trs.ofL (f.inn++[t]))) r' else none)
    else if (w="&"\/w="|")/\(f.sg="("\/f.sg=w) then some (.inr (r',⟨w,f.inn++[t]⟩::S)) else none
theorem bN (w:Str)(r:List Str)(S:List Fm):plainF (w::r) S=(
  if w="not"\/w="(" then plainF r (⟨w,[]⟩::S)
  else if w="any" then some (.any,r,S)
  else if w="kind" then (if r.takeWhile (fun u=>decide (aX u))≠[]/\(r.takeWhile (fun u=>decide (aX u))).Nodup then some (.kind (r.takeWhile fun u=>decide (aX u)),r.dropWhile (fun u=>decide (aX u)),S) else none)
  else if w="place" then (if r.takeWhile (fun u=>decide (aX u))≠[]/\(r.takeWhile (fun u=>decide (aX u))).Nodup then some (.place (r.takeWhile fun u=>decide (aX u)),r.dropWhile (fun u=>decide (aX u)),S) else none)
  else if w="weight" then (match r with
   | []=>none
   | n::r'=>if kY n=true/\0<=dO n then some (.weight (dO n),r',S) else none)
  else none):=by rw [plainF.eq_def]
theorem cW (f:Fm)(S:List Fm)(t:Tr)(r:List Str):closeF (f::S) t r=(
  if f.sg="not" then closeF S (.not t) r
  else match r with
   | []=>none
   | w::r' =>
    if w=")" then (if f.sg="&" then closeF S (.both (Trs.ofL (f.inn++[t]))) r' else if f.sg="|" then closeF S (.either (Trs.ofL (f.inn++[t]))) r' else none)
    else if (w="&"\/w="|")/\(f.sg="("\/f.sg=w) then some (.inr (r',⟨w,f.inn++[t]⟩::S)) else none):=by rw [closeF.eq_def]
def BI0:Nat->List Str->List Fm->Option (Tr × List Str)
 | 0,_,_=>none
 | n+1,r,S=>match plainF r S with
  | none=>none
  | some (t,r',S')=>match closeF S' t r' with
   | none=>none
   | some (.inl x)=>some x
   | some (.inr (r2,S2))=>BI0 n r2 S2
def AO3 (r:List Str)(S:List Fm):Option (Tr × List Str):=BI0 (r.length+1) r S
def CG8 (u:Str):Prop:=u ∉ ([("not":Str),"(","any","kind","place","weight",")","&","|"]:List Str)/\¬ aX u/\kY u=false
def Eats (r r':List Str):Prop:=∃ p,r=p++r'/\∀ x∈p,¬ CG8 x
theorem Eats.refl (r:List Str):Eats r r:=⟨[],rfl,fun x h=>by cases h⟩
theorem Eats.trans {a b c:List Str}(x:Eats a b)(y:Eats b c):Eats a c:=by
 obtain ⟨p,rfl,hp⟩:=x
 obtain ⟨q,rfl,hq⟩:=y
 exact ⟨p++q,by rw [List.append_assoc],fun z hz=>(List.mem_append.mp hz).elim (hp z) (hq z)⟩
theorem Eats.one {w:Str}{r:List Str}(h:w∈([("not":Str),"(","any","kind","place","weight",")","&","|"]:List Str)):Eats (w::r) r:=⟨[w],rfl,fun x hx=>by rw [List.mem_singleton.mp hx]; exact fun z=>z.1 h⟩
theorem Eats.num {w:Str}{r:List Str}(h:kY w=true):Eats (w::r) r:=⟨[w],rfl,fun x hx=>by rw [List.mem_singleton.mp hx]; exact fun z=>by have q:=z.2.2; rw [h] at q; cases q⟩
theorem uG {α:Type}{p:α->Bool}{x:α}:∀ {l:List α},x∈l.takeWhile p->p x=true
 | [],h=>by cases h
 | a::l,h=>by
  rw [List.takeWhile_cons] at h
  split at h
  ·rename_i ha
   rcases List.mem_cons.mp h with rfl | h
   ·exact ha
   ·exact uG h
  ·cases h
theorem Eats.names (r:List Str):Eats r (r.dropWhile fun u=>decide (aX u)):=⟨r.takeWhile fun u=>decide (aX u),List.takeWhile_append_dropWhile.symm,fun x hx=>fun z=>z.2.1 (of_decide_eq_true (p:=aX x) (uG (p:=fun u=>decide (aX u)) hx))⟩
theorem Eats.len {a b:List Str}(x:Eats a b):b.length<=a.length:=by
 obtain ⟨p,rfl,_⟩:=x
 rw [List.length_append]
 omega
theorem nN:∀ {r:List Str}{S:List Fm}{t:Tr}{r':List Str}{S':List Fm},plainF r S=some (t,r',S')->Eats r r'/\r'.length < r.length
 | [],S,t,r',S',h=>by cases h
 | w::r,S,t,r',S',h=>by
  rw [bN] at h
  split at h
  ·rename_i hw
   obtain ⟨a,b⟩:=nN h
   exact ⟨(Eats.one (by rcases hw with rfl | rfl <;> simp)).trans a,by rw [List.length_cons]; omega⟩
  split at h
  ·rename_i hw
   cases h
   exact ⟨Eats.one (by rw [hw]; simp),by rw [List.length_cons]; omega⟩
  split at h
  ·rename_i hw
   split at h
   ·cases h
    exact ⟨(Eats.one (by rw [hw]; simp)).trans (Eats.names r),by have:=(Eats.names r).len; rw [List.length_cons]; omega⟩
   ·cases h
  split at h
  ·rename_i hw
   split at h
   ·cases h
    exact ⟨(Eats.one (by rw [hw]; simp)).trans (Eats.names r),by have:=(Eats.names r).len; rw [List.length_cons]; omega⟩
   ·cases h
  split at h
  ·rename_i hw
   cases r with
   | nil=>cases h
   | cons n r =>
    dsimp only at h
    split at h
    ·rename_i hn
     cases h
     exact ⟨(Eats.one (by rw [hw]; simp)).trans (Eats.num hn.1),by rw [List.length_cons,List.length_cons]; omega⟩
    ·cases h
  ·cases h
def CG9 (r:List Str):(Tr × List Str) ⊕ (List Str × List Fm)->Prop
 | .inl x=>Eats r x.2
 | .inr x=>Eats r x.1/\x.1.length < r.length
theorem iG:∀ {S:List Fm}{t:Tr}{r:List Str}{x:(Tr × List Str) ⊕ (List Str × List Fm)},closeF S t r=some x->CG9 r x
 | [],t,r,x,h=>by cases h; exact Eats.refl r
 | f::S,t,r,x,h=>by
  rw [cW] at h
  split at h
  ·exact iG h
  cases r with
  | nil=>cases h
  | cons w r =>
   dsimp only at h
   have up:∀ {y},CG9 r y->w∈([("not":Str),"(","any","kind","place","weight",")","&","|"]:List Str)->CG9 (w::r) y:=fun {y} hy hw=>by
    cases y with
    | inl y=>exact (Eats.one hw).trans hy
    | inr y=>exact ⟨(Eats.one hw).trans hy.1,by have:=hy.2; rw [List.length_cons]; omega⟩
   split at h
   ·rename_i hw
    split at h
    ·exact up (iG h) (by rw [hw]; simp)
    split at h
    ·exact up (iG h) (by rw [hw]; simp)
    ·cases h
   split at h
   ·rename_i hw
    cases h
    exact ⟨Eats.one (by rcases hw.1 with rfl | rfl <;> simp),by show r.length < (w::r).length; rw [List.length_cons]; omega⟩
   ·cases h
theorem AC4:∀ {n m:Nat}{r:List Str}{S:List Fm},r.length < n->r.length < m->BI0 n r S=BI0 m r S
 | 0,m,r,S,h,_=>absurd h (Nat.not_lt_zero _)
 | n,0,r,S,_,h=>absurd h (Nat.not_lt_zero _)
 | n+1,m+1,r,S,h1,h2=>by
  rw [BI0,BI0]
  cases e:plainF r S with
  | none=>rfl
  | some x =>
   obtain ⟨t,r',S'⟩:=x
   dsimp only
   have l1:=(nN e).2
   cases e2:closeF S' t r' with
   | none=>rfl
   | some y =>
    cases y with
    | inl y=>rfl
    | inr y =>
     have l2:=(iG e2).2
     exact AC4 (by omega) (by omega)
def after (S:List Fm)(t:Tr)(r:List Str):Option (Tr × List Str):=match closeF S t r with
 | none=>none
 | some (.inl x)=>some x
 | some (.inr (r2,S2))=>AO3 r2 S2
theorem fS (r:List Str)(S:List Fm):AO3 r S=match plainF r S with
  | none=>none
  | some (t,r',S')=>after S' t r':=by
 rw [AO3,BI0]
 cases e:plainF r S with
 | none=>rfl
 | some x =>
  obtain ⟨t,r',S'⟩:=x
  dsimp only
  have l1:=(nN e).2
  rw [after]
  cases e2:closeF S' t r' with
  | none=>rfl
  | some y =>
   cases y with
   | inl y=>rfl
   | inr y =>
    have l2:=(iG e2).2
    exact AC4 (by omega) (Nat.lt_succ_self _)
theorem yY:∀ {n:Nat}{r:List Str}{S:List Fm}{t:Tr}{r':List Str},BI0 n r S=some (t,r')->Eats r r'
 | 0,r,S,t,r',h=>by cases h
 | n+1,r,S,t,r',h=>by
  rw [BI0] at h
  cases e:plainF r S with
  | none=>rw [e] at h; cases h
  | some x =>
   obtain ⟨t1,r1,S1⟩:=x
   rw [e] at h
   dsimp only at h
   have l1:=(nN e).1
   cases e2:closeF S1 t1 r1 with
   | none=>rw [e2] at h; cases h
   | some y =>
    rw [e2] at h
    have l2:=iG e2
    cases y with
    | inl y=>cases h; exact l1.trans l2
    | inr y=>exact l1.trans (l2.1.trans (yY h))
theorem BS9 {r:List Str}{w:Str}(hw:CG8 w)(hm:w∈r)(t:Tr):AO3 r []≠some (t,[]):=fun h=>by
 obtain ⟨p,e,hp⟩:=yY h
 rw [List.append_nil] at e
 subst e
 exact hp w hm hw
def BE0:List Str->Prop
 | []=>True
 | w::_=>¬ aX w
theorem xV {us r:List Str}(h:∀ u∈us,aX u)(hr:BE0 r):(us++r).takeWhile (fun u=>decide (aX u))=us/\(us++r).dropWhile (fun u=>decide (aX u))=r:=by
 induction us with
 | nil =>
  cases r with
  | nil=>exact ⟨rfl,rfl⟩
  | cons w r =>
   have e:decide (aX w)=false:=decide_eq_false hr
   rw [List.nil_append,List.takeWhile_cons,List.dropWhile_cons,e]
   exact ⟨rfl,rfl⟩
 | cons u us ih =>
  have e:decide (aX u)=true:=decide_eq_true (h u List.mem_cons_self)
  obtain ⟨i1,i2⟩:=ih fun v hv=>h v (List.mem_cons_of_mem _ hv)
  rw [List.cons_append,List.takeWhile_cons,List.dropWhile_cons,e,if_pos rfl,if_pos rfl,i1,i2]
  exact ⟨rfl,rfl⟩
theorem AI5:∀ ts:Trs,Trs.ofL ts.toL=ts
 | .nil=>rfl
 | .cons t ts=>by rw [Trs.toL,Trs.ofL,AI5 ts]
mutual
theorem AQ5:∀ {t:Tr}{r:List Str}{S:List Fm},t.wf->BE0 r->AO3 (t.ws++r) S=after S t r
 | .any,r,S,_,_=>by
  rw [Tr.ws,fS]
  rfl
 | .kind us,r,S,h,hr=>by
  rw [Tr.wf] at h
  obtain ⟨e1,e2⟩:=xV h.2.1 hr
  rw [Tr.ws,fS,List.cons_append,bN,if_neg (by decide),if_neg (by decide),if_pos rfl,e1,e2,if_pos ⟨h.1,h.2.2⟩]
 | .place us,r,S,h,hr=>by
  rw [Tr.wf] at h
  obtain ⟨e1,e2⟩:=xV h.2.1 hr
  rw [Tr.ws,fS,List.cons_append,bN,if_neg (by decide),if_neg (by decide),if_neg (by decide),if_pos rfl,e1,e2,if_pos ⟨h.1,h.2.2⟩]
 | .weight n,r,S,h,_=>by
  rw [Tr.wf] at h
  obtain ⟨e1,e2,e3⟩:=pX h.1 h.2
  rw [Tr.ws,fS,List.cons_append,bN,if_neg (by decide),if_neg (by decide),if_neg (by decide),if_neg (by decide),if_pos rfl]
  dsimp only [List.cons_append,List.nil_append]
  rw [if_pos ⟨e1,by rw [e3]; exact h.1⟩,e3]
 | .not t,r,S,h,hr=>by
  rw [Tr.wf] at h
  have i:=AQ5 (t:=t) (r:=r) (S:=⟨"not",[]⟩::S) h hr
  rw [fS] at i
  rw [Tr.ws,fS,List.cons_append,bN,if_pos (by decide),i,after,cW,if_pos rfl]
  rfl
 | .both ts,r,S,h,hr=>by
  rw [Tr.wf] at h
  have i:=rounds (s:="&") (mk:=.both) (fun S t r f hf=>by rw [after,after,cW,hf.1,if_neg (by decide)]; dsimp only; rw [if_pos rfl,if_pos rfl]) (by decide) (by decide) (by decide) (by decide) (ts:=ts) (r:=r) (S:=S) (f:=⟨"(",[]⟩) h.2 (AC3 h.1) (.inl rfl) (by rw [List.nil_append]; exact h.1) (fun _=>rfl) (fun z=>absurd z (by decide))
  rw [fS] at i
  rw [Tr.ws,fS,List.cons_append,bN,if_pos (by decide),List.append_assoc,List.singleton_append]
  rw [i,List.nil_append,AI5]
 | .either ts,r,S,h,hr=>by
  rw [Tr.wf] at h
  have i:=rounds (s:="|") (mk:=.either) (fun S t r f hf=>by rw [after,after,cW,hf.1,if_neg (by decide)]; dsimp only; rw [if_pos rfl,if_neg (by decide),if_pos rfl]) (by decide) (by decide) (by decide) (by decide) (ts:=ts) (r:=r) (S:=S) (f:=⟨"(",[]⟩) h.2 (AC3 h.1) (.inl rfl) (by rw [List.nil_append]; exact h.1) (fun _=>rfl) (fun z=>absurd z (by decide))
  rw [fS] at i
  rw [Tr.ws,fS,List.cons_append,bN,if_pos (by decide),List.append_assoc,List.singleton_append]
  rw [i,List.nil_append,AI5]
theorem rounds {s:Str}{mk:Trs->Tr}(hc:∀ (S:List Fm) (t:Tr) (r:List Str) (f:Fm),f.sg=s/\True->after (f::S) t ((")":Str)::r)=after S (mk (Trs.ofL (f.inn++[t]))) r)(h1:s="&"\/s="|")(h2:s≠")")(h3:s≠"not")(h4:¬ aX s) :
  ∀ {ts:Trs}{r:List Str}{S:List Fm}{f:Fm},ts.wf->ts.toL≠[]->(f.sg="("\/f.sg=s)->2<=(f.inn++ts.toL).length->(f.sg="("->f.inn=[])->(f.sg="not"->False)->AO3 (ts.ws s++((")":Str)::r)) (f::S)=after S (mk (Trs.ofL (f.inn++ts.toL))) r
 | .nil,r,S,f,_,h,_,_,_,_=>absurd rfl h
 | .cons t .nil,r,S,f,h,_,hf,hl,h0,hn=>by
  rw [Trs.wf] at h
  have i:=AQ5 (t:=t) (r:=(")":Str)::r) (S:=f::S) h.1 (show ¬ aX ")" by decide)
  have hs:f.sg=s:=by
   rcases hf with z | z
   ·rw [h0 z] at hl
    simp [Trs.toL] at hl
   ·exact z
  rw [vA,i,hc S t r f ⟨hs,trivial⟩]
  rfl
 | .cons t (.cons t' ts),r,S,f,h,_,hf,hl,h0,hn=>by
  rw [Trs.wf] at h
  have i:=AQ5 (t:=t) (r:=s::(Trs.ws s (.cons t' ts)++((")":Str)::r))) (S:=f::S) h.1 h4
  have j:=rounds hc h1 h2 h3 h4 (ts:=.cons t' ts) (r:=r) (S:=S) (f:=⟨s,f.inn++[t]⟩) h.2 (by rw [Trs.toL]; simp) (.inr rfl) (by rw [Trs.toL,List.length_append,List.length_append,List.length_cons,List.length_cons,List.length_nil]; omega) (fun z=>by
   have z:s="(":=z
   rcases h1 with y | y
   ·rw [y] at z; exact absurd z (by decide)
   ·rw [y] at z; exact absurd z (by decide)) (fun z=>h3 z)
  rw [oI,List.append_assoc,List.cons_append,i,after,cW,if_neg (fun z=>hn z)]
  dsimp only
  rw [if_neg h2,if_pos ⟨h1,hf.imp id id⟩]
  dsimp only
  rw [j]
  show after S (mk (Trs.ofL (f.inn++[t]++(Trs.cons t' ts).toL))) r=after S (mk (Trs.ofL (f.inn++(t::(Trs.cons t' ts).toL)))) r
  rw [List.append_assoc]
  rfl
end
theorem yZ (H:Hp):Same H H:=fun _ _ z=>z
def Out (M:List Addr)(H:Hp):Hp:=fun b=>if b∈M then none else H b
theorem dQ {M:List Addr}{H:Hp}{b:Addr}{o:HO}(n:b ∉ M)(h:H b=some o):Out M H b=some o:=by
 unfold Out; rw [if_neg n]; exact h
theorem iQ {M:List Addr}{H:Hp}:Same (Out M H) H:=fun b o h=>by
 unfold Out at h
 split at h
 ·cases h
 ·exact h
theorem kZ {M M':List Addr}{H H':Hp}(h:∀ b o,b ∉ M->H b=some o->b ∉ M'/\H' b=some o):Same (Out M H) (Out M' H'):=fun b o e=>by
 unfold Out at e
 split at e
 ·cases e
 ·rename_i n
  exact dQ (h b o n e).1 (h b o n e).2
theorem jM {M:List Addr}{H H':Hp}(S:Same H H'):Same (Out M H) (Out M H'):=kZ fun b o n e=>⟨n,S b o e⟩
structure OF where
 r:Addr
 d:Addr
 il:Addr
 sg:Str
 vs:List V
 inn:List Tr
def OF.fm (f:OF):Fm:=⟨f.sg,f.inn⟩
def OF.app (f:OF)(v:V)(t:Tr):OF:={ f with vs:=f.vs++[v],inn:=f.inn++[t] }
def OF.sign (f:OF)(s:Str):OF:={ f with sg:=s }
def bU (wl:Addr)(i:Nat):List (Str × V):=[("words",.ref wl),("at",.int (i:Int))]
def lD (s:Str)(il:Addr):List (Str × V):=[("sign",.str s),("inner",.ref il)]
theorem AC5 {s:Str}{il wl:Addr}{i:Nat}:lD s il≠bU wl i:=fun z=>absurd (Prod.mk.inj (List.cons.inj z).1).1 (by decide)
def zA (wp op:Addr)(fs:List OF):List Addr:=wp::op::(fs.map (·.r)++fs.map (·.il))
structure WAt (C:Addr) (H:Hp) (wp dw wl:Addr) (ts:List Str) (i:Nat):Prop where
 w:H wp=some (.ins C dw (bU wl i))
 l:H wl=some (.lst (ts.map V.str))
theorem WAt.same {C:Addr}{H H':Hp}{wp dw wl:Addr}{ts:List Str}{i:Nat}(h:WAt C H wp dw wl ts i)(S:Same H H'):WAt C H' wp dw wl ts i:=⟨S _ _ h.w,S _ _ h.l⟩
theorem WAt.ne {C:Addr}{H:Hp}{wp dw wl:Addr}{ts:List Str}{i:Nat}(h:WAt C H wp dw wl ts i):wl≠wp:=wP h.l h.w (by intro z; cases z)
theorem WAt.take {C:Addr}{H:Hp}{wp dw wl:Addr}{ts:List Str}{i:Nat}(h:WAt C H wp dw wl ts i)(j:Nat):WAt C (upd H wp (.ins C dw (bU wl j))) wp dw wl ts j:=⟨aA,by rw [aJ h.ne]; exact h.l⟩
structure PSt (Cw Co:Addr) (c:FC) (H:Hp) (wp dw wl:Addr) (ts:List Str) (i:Nat) (op:Addr) (fs:List OF) (G:Hp):Prop where
 W:WAt Cw H wp dw wl ts i
 O:H op=some (.lst (fs.reverse.map fun f=>V.ref f.r))
 F:∀ f∈fs,H f.r=some (.ins Co f.d (lD f.sg f.il))/\H f.il=some (.lst f.vs)
 N:(wl::op::fs.map (·.il)).Nodup
 R:(fs.map (·.r)).Nodup
 T:∀ f∈fs,All2 (Tr.Fit c (Out (zA wp op fs) H)) f.inn f.vs
 K:But wp G H
 Z:∀ b∈zA wp op fs,b≠wp->G b=none
section
variable {Cw Co:Addr}{c:FC}{H H':Hp}{wp dw wl:Addr}{ts:List Str}{i:Nat}{op:Addr}{fs:List OF}{f:OF}{G:Hp}
theorem mem_muts {b:Addr}:b∈zA wp op fs ↔ b=wp\/b=op\/(∃ f∈fs,f.r=b)\/∃ f∈fs,f.il=b:=by
 unfold zA
 simp only [List.mem_cons,List.mem_append,List.mem_map]
theorem PSt.there (h:PSt Cw Co c H wp dw wl ts i op fs G){b:Addr}(hb:b∈zA wp op fs):∃ o,H b=some o:=by
 rcases mem_muts.mp hb with rfl | rfl | ⟨f,hf,rfl⟩ | ⟨f,hf,rfl⟩
 ·exact ⟨_,h.W.w⟩
 ·exact ⟨_,h.O⟩
 ·exact ⟨_,(h.F f hf).1⟩
 ·exact ⟨_,(h.F f hf).2⟩
theorem PSt.new (h:PSt Cw Co c H wp dw wl ts i op fs G){b:Addr}(hb:H b=none):b ∉ zA wp op fs:=fun z=>by
 obtain ⟨o,e⟩:=h.there z
 rw [hb] at e
 cases e
theorem PSt.same (h:PSt Cw Co c H wp dw wl ts i op fs G)(S:Same H H'):PSt Cw Co c H' wp dw wl ts i op fs G :=
 ⟨h.W.same S,S _ _ h.O,fun f hf=>⟨S _ _ (h.F f hf).1,S _ _ (h.F f hf).2⟩,h.N,h.R,fun f hf=>(h.T f hf).imp fun t v _ q=>q.same (jM S),h.K.trans (Same.but S),h.Z⟩
theorem PSt.words {j:Nat}(h:PSt Cw Co c H wp dw wl ts i op fs G)(B:But wp H H')(w':WAt Cw H' wp dw wl ts j):PSt Cw Co c H' wp dw wl ts j op fs G:=by
 have nw:∀ b o,H b=some o->o≠.ins Cw dw (bU wl i)->H' b=some o:=fun b o e n=>B b o (wP e h.W.w n) e
 refine ⟨w',nw _ _ h.O (by intro z; cases z),fun f hf=>⟨nw _ _ (h.F f hf).1 (fun z=>AC5 (HO.ins.inj z).2.2),nw _ _ (h.F f hf).2 (by intro z; cases z)⟩,h.N,h.R,fun f hf=>(h.T f hf).imp fun t v _ q=>q.same (kZ fun b o n e=>⟨n,B b o (fun z=>n (by rw [z]; exact List.mem_cons_self)) e⟩),h.K.trans B,h.Z⟩
theorem PSt.take (h:PSt Cw Co c H wp dw wl ts i op fs G)(j:Nat):PSt Cw Co c (upd H wp (.ins Cw dw (bU wl j))) wp dw wl ts j op fs G:=h.words (But.upd _) (h.W.take j)
theorem PSt.ow (h:PSt Cw Co c H wp dw wl ts i op fs G):op≠wp/\op≠wl/\(∀ f∈fs,op≠f.il/\op≠f.r/\f.r≠wp/\f.r≠wl/\f.il≠wp/\f.il≠wl):=by
 obtain ⟨n1,n2⟩:=List.nodup_cons.mp h.N
 obtain ⟨n3,n4⟩:=List.nodup_cons.mp n2
 refine ⟨wP h.O h.W.w (by intro z; cases z),fun z=>n1 (by rw [z]; exact List.mem_cons_self),fun f hf=>⟨fun z=>n3 (by rw [z]; exact List.mem_map.mpr ⟨f,hf,rfl⟩),wP h.O (h.F f hf).1 (by intro z; cases z),wP (h.F f hf).1 h.W.w (fun z=>AC5 (HO.ins.inj z).2.2),wP (h.F f hf).1 h.W.l (by intro z; cases z),wP (h.F f hf).2 h.W.w (by intro z; cases z),fun z=>n1 (List.mem_cons_of_mem _ (by rw [<- z]; exact List.mem_map.mpr ⟨f,hf,rfl⟩))⟩⟩
theorem PSt.free (h:PSt Cw Co c H wp dw wl ts i op fs G){b:Addr}(hb:H b=none):G b=none:=by
 cases e:G b with
 | none=>rfl
 | some o =>
  have q:=h.K b o (fun z=>by rw [z,h.W.w] at hb; cases hb) e
  rw [hb] at q
  cases q
theorem PSt.kupd (h:PSt Cw Co c H wp dw wl ts i op fs G){p:Addr}{o:HO}(hp:p∈zA wp op fs)(hn:p≠wp){H1:Hp}(S:Same H H1):But wp G (upd H1 p o):=fun b u n e=>by
 rw [aJ (fun z=>by rw [z,h.Z p hp hn] at e; cases e)]
 exact S _ _ (h.K b u n e)
theorem PSt.push {H1:Hp}{r d il:Addr}{sg:Str}(h:PSt Cw Co c H wp dw wl ts i op fs G)(S:Same H H1)(hr:H r=none)(hil:H il=none)(h1:H1 r=some (.ins Co d (lD sg il)))(h2:H1 il=some (.lst [])) :
  PSt Cw Co c (upd H1 op (.lst ((fs.reverse.map fun f=>V.ref f.r)++[.ref r]))) wp dw wl ts i op (⟨r,d,il,sg,[],[]⟩::fs) G:=by
 obtain ⟨o1,o2,o3⟩:=h.ow
 have nr:∀ b,(∃ o,H b=some o)->b≠r/\b≠il:=fun b ⟨o,e⟩=>⟨aQ e hr,aQ e hil⟩
 have k:=h.same S
 have no:=nr op ⟨_,h.O⟩
 refine ⟨⟨by rw [aJ o1.symm]; exact k.W.w,by rw [aJ o2.symm]; exact k.W.l⟩,?_,fun f hf=>?_,?_,?_,fun f hf=>?_,h.kupd (mem_muts.mpr (.inr (.inl rfl))) o1 S,fun b hb hn=>?_⟩
 ·rw [aA,List.reverse_cons,List.map_append]; rfl
 ·rcases List.mem_cons.mp hf with rfl | hf
  ·exact ⟨by rw [aJ no.1.symm]; exact h1,by rw [aJ no.2.symm]; exact h2⟩
  ·exact ⟨by rw [aJ (o3 f hf).2.1.symm]; exact (k.F f hf).1,by rw [aJ (o3 f hf).1.symm]; exact (k.F f hf).2⟩
 ·obtain ⟨n1,n2⟩:=List.nodup_cons.mp h.N
  obtain ⟨n3,n4⟩:=List.nodup_cons.mp n2
  have nl:=nr wl ⟨_,h.W.l⟩
  rw [List.map_cons]
  refine List.nodup_cons.mpr ⟨?_,List.nodup_cons.mpr ⟨?_,List.nodup_cons.mpr ⟨?_,n4⟩⟩⟩
  ·intro z
   rcases List.mem_cons.mp z with z | z
   ·exact o2 z.symm
   rcases List.mem_cons.mp z with z | z
   ·exact nl.2 z
   ·exact n1 (List.mem_cons_of_mem _ z)
  ·intro z
   rcases List.mem_cons.mp z with z | z
   ·exact no.2 z
   ·exact n3 z
  ·intro z
   obtain ⟨f,hf,e⟩:=List.mem_map.mp z
   exact (nr f.il ⟨_,(h.F f hf).2⟩).2 e
 ·rw [List.map_cons]
  refine List.nodup_cons.mpr ⟨fun z=>?_,h.R⟩
  obtain ⟨f,hf,e⟩:=List.mem_map.mp z
  exact (nr f.r ⟨_,(h.F f hf).1⟩).1 e
 ·rcases List.mem_cons.mp hf with rfl | hf
  ·exact .nil
  ·refine (h.T f hf).imp fun t v _ q=>q.same (kZ fun b o n e=>⟨fun z=>?_,?_⟩)
   ·rcases mem_muts.mp z with z | z | ⟨g,hg,z⟩ | ⟨g,hg,z⟩
    ·exact n (mem_muts.mpr (.inl z))
    ·exact n (mem_muts.mpr (.inr (.inl z)))
    ·rcases List.mem_cons.mp hg with rfl | hg
     ·exact (nr b ⟨_,e⟩).1 z.symm
     ·exact n (mem_muts.mpr (.inr (.inr (.inl ⟨g,hg,z⟩))))
    ·rcases List.mem_cons.mp hg with rfl | hg
     ·exact (nr b ⟨_,e⟩).2 z.symm
     ·exact n (mem_muts.mpr (.inr (.inr (.inr ⟨g,hg,z⟩))))
   ·rw [aJ (fun z=>n (mem_muts.mpr (.inr (.inl z))))]
    exact S b o e
 ·rcases mem_muts.mp hb with z | z | ⟨g,hg,z⟩ | ⟨g,hg,z⟩
  ·exact absurd z hn
  ·exact h.Z b (mem_muts.mpr (.inr (.inl z))) hn
  ·rcases List.mem_cons.mp hg with rfl | hg
   ·rw [<- z]; exact h.free hr
   ·exact h.Z b (mem_muts.mpr (.inr (.inr (.inl ⟨g,hg,z⟩)))) hn
  ·rcases List.mem_cons.mp hg with rfl | hg
   ·rw [<- z]; exact h.free hil
   ·exact h.Z b (mem_muts.mpr (.inr (.inr (.inr ⟨g,hg,z⟩)))) hn
theorem BA4 {M:List Addr}{p:Addr}{o:HO}(h:p∈M):Same (Out M H) (Out M (upd H p o)):=kZ fun b u n e=>⟨n,by rw [aJ (fun z=>n (by rw [z]; exact h))]; exact e⟩
theorem BM3 (h:PSt Cw Co c H wp dw wl ts i op (f::fs) G):(∀ g∈fs,g.r≠f.r/\g.il≠f.il/\g.r≠f.il/\g.il≠f.r)/\f.r≠f.il:=by
 obtain ⟨n1,n2⟩:=List.nodup_cons.mp h.N
 obtain ⟨n3,n4⟩:=List.nodup_cons.mp n2
 rw [List.map_cons] at n4
 have n5:=(List.nodup_cons.mp n4).1
 have r5:=h.R
 rw [List.map_cons] at r5
 have r6:=(List.nodup_cons.mp r5).1
 have hf:=h.F f List.mem_cons_self
 refine ⟨fun g hg=>?_,wP hf.1 hf.2 (by intro z; cases z)⟩
 have hG:=h.F g (List.mem_cons_of_mem _ hg)
 exact ⟨fun z=>r6 (by rw [<- z]; exact List.mem_map.mpr ⟨g,hg,rfl⟩),fun z=>n5 (by rw [<- z]; exact List.mem_map.mpr ⟨g,hg,rfl⟩),wP hG.1 hf.2 (by intro z; cases z),wP hG.2 hf.1 (by intro z; cases z)⟩
theorem PSt.inner {v:V}{t:Tr}(h:PSt Cw Co c H wp dw wl ts i op (f::fs) G)(hv:Tr.Fit c (Out (zA wp op (f::fs)) H) t v):PSt Cw Co c (upd H f.il (.lst (f.vs++[v]))) wp dw wl ts i op (f.app v t::fs) G:=by
 obtain ⟨o1,o2,o3⟩:=h.ow
 obtain ⟨t1,t2⟩:=BM3 h
 obtain ⟨p1,p2,p3,p4,p5,p6⟩:=o3 f List.mem_cons_self
 have mi:f.il∈zA wp op (f::fs):=mem_muts.mpr (.inr (.inr (.inr ⟨f,List.mem_cons_self,rfl⟩)))
 have So:=BA4 (H:=H) (o:=.lst (f.vs++[v])) mi
 refine ⟨⟨by rw [aJ p5.symm]; exact h.W.w,by rw [aJ p6.symm]; exact h.W.l⟩,by rw [aJ p1]; have e:=h.O; rw [List.reverse_cons,List.map_append] at e ⊢; exact e,fun g hg=>?_,h.N,h.R,fun g hg=>?_,h.kupd mi p5 (yZ _),h.Z⟩
 ·rcases List.mem_cons.mp hg with rfl | hg
  ·exact ⟨by rw [show (f.app v t).r=f.r from rfl,aJ t2]; exact (h.F f List.mem_cons_self).1,aA⟩
  ·have q:=t1 g hg
   have k:=h.F g (List.mem_cons_of_mem _ hg)
   exact ⟨by rw [aJ q.2.2.1]; exact k.1,by rw [aJ q.2.1]; exact k.2⟩
 ·rcases List.mem_cons.mp hg with rfl | hg
  ·exact ((h.T f List.mem_cons_self).imp fun t v _ q=>q.same So).snoc (hv.same So)
  ·exact (h.T g (List.mem_cons_of_mem _ hg)).imp fun t v _ q=>q.same So
theorem PSt.sign {s:Str}(h:PSt Cw Co c H wp dw wl ts i op (f::fs) G):PSt Cw Co c (upd H f.r (.ins Co f.d (lD s f.il))) wp dw wl ts i op (f.sign s::fs) G:=by
 obtain ⟨o1,o2,o3⟩:=h.ow
 obtain ⟨t1,t2⟩:=BM3 h
 obtain ⟨p1,p2,p3,p4,p5,p6⟩:=o3 f List.mem_cons_self
 have mi:f.r∈zA wp op (f::fs):=mem_muts.mpr (.inr (.inr (.inl ⟨f,List.mem_cons_self,rfl⟩)))
 have So:=BA4 (H:=H) (o:=.ins Co f.d (lD s f.il)) mi
 refine ⟨⟨by rw [aJ p3.symm]; exact h.W.w,by rw [aJ p4.symm]; exact h.W.l⟩,by rw [aJ p2]; have e:=h.O; rw [List.reverse_cons,List.map_append] at e ⊢; exact e,fun g hg=>?_,h.N,h.R,fun g hg=>?_,h.kupd mi p3 (yZ _),h.Z⟩
 ·rcases List.mem_cons.mp hg with rfl | hg
  ·exact ⟨aA,by rw [show (f.sign s).il=f.il from rfl,aJ t2.symm]; exact (h.F f List.mem_cons_self).2⟩
  ·have q:=t1 g hg
   have k:=h.F g (List.mem_cons_of_mem _ hg)
   exact ⟨by rw [aJ q.1]; exact k.1,by rw [aJ q.2.2.2]; exact k.2⟩
 ·rcases List.mem_cons.mp hg with rfl | hg
  ·exact (h.T f List.mem_cons_self).imp fun t v _ q=>q.same So
  ·exact (h.T g (List.mem_cons_of_mem _ hg)).imp fun t v _ q=>q.same So
theorem AO4 (h:PSt Cw Co c H wp dw wl ts i op (f::fs) G):Same (Out (zA wp op (f::fs)) H) (Out (zA wp op fs) (upd H op (.lst (fs.reverse.map fun f=>V.ref f.r)))) :=
 kZ fun b o n e=>⟨fun z=>n (mem_muts.mpr (by
  rcases mem_muts.mp z with z | z | ⟨g,hg,z⟩ | ⟨g,hg,z⟩
  ·exact .inl z
  ·exact .inr (.inl z)
  ·exact .inr (.inr (.inl ⟨g,List.mem_cons_of_mem _ hg,z⟩))
  ·exact .inr (.inr (.inr ⟨g,List.mem_cons_of_mem _ hg,z⟩)))),by rw [aJ (fun z=>n (mem_muts.mpr (.inr (.inl z))))]; exact e⟩
theorem PSt.pop (h:PSt Cw Co c H wp dw wl ts i op (f::fs) G):PSt Cw Co c (upd H op (.lst (fs.reverse.map fun f=>V.ref f.r))) wp dw wl ts i op fs G:=by
 obtain ⟨o1,o2,o3⟩:=h.ow
 refine ⟨⟨by rw [aJ o1.symm]; exact h.W.w,by rw [aJ o2.symm]; exact h.W.l⟩,aA,fun g hg=>?_,?_,?_,fun g hg=>(h.T g (List.mem_cons_of_mem _ hg)).imp fun t v _ q=>q.same (AO4 h),h.kupd (mem_muts.mpr (.inr (.inl rfl))) o1 (yZ _),fun b hb hn=>h.Z b (mem_muts.mpr (by
  rcases mem_muts.mp hb with z | z | ⟨g,hg,z⟩ | ⟨g,hg,z⟩
  ·exact .inl z
  ·exact .inr (.inl z)
  ·exact .inr (.inr (.inl ⟨g,List.mem_cons_of_mem _ hg,z⟩))
  ·exact .inr (.inr (.inr ⟨g,List.mem_cons_of_mem _ hg,z⟩)))) hn⟩
 ·have k:=h.F g (List.mem_cons_of_mem _ hg)
  have q:=o3 g (List.mem_cons_of_mem _ hg)
  exact ⟨by rw [aJ q.2.1.symm]; exact k.1,by rw [aJ q.1.symm]; exact k.2⟩
 ·have n:=h.N
  rw [List.map_cons] at n
  obtain ⟨n1,n2⟩:=List.nodup_cons.mp n
  obtain ⟨n3,n4⟩:=List.nodup_cons.mp n2
  refine List.nodup_cons.mpr ⟨fun z=>n1 ?_,List.nodup_cons.mpr ⟨fun z=>n3 (List.mem_cons_of_mem _ z),(List.nodup_cons.mp n4).2⟩⟩
  rcases List.mem_cons.mp z with z | z
  ·exact List.mem_cons.mpr (.inl z)
  ·exact List.mem_cons_of_mem _ (List.mem_cons_of_mem _ z)
 ·have r:=h.R
  rw [List.map_cons] at r
  exact (List.nodup_cons.mp r).2
end
mutual
theorem AO5:∀ {t:Tr},t.wf->1<=t.cnt/\t.ws.length+3<=(5+t.dp) * t.cnt
 | .any,_=>by rw [Tr.cnt,Tr.ws,Tr.dp]; exact ⟨by decide,by decide⟩
 | .kind us,h=>by
  rw [Tr.wf] at h
  have:=List.length_pos_iff.mpr h.1
  rw [Tr.cnt,Tr.ws,Tr.dp,List.length_cons]
  omega
 | .place us,h=>by
  rw [Tr.wf] at h
  have:=List.length_pos_iff.mpr h.1
  rw [Tr.cnt,Tr.ws,Tr.dp,List.length_cons]
  omega
 | .weight n,_=>by rw [Tr.cnt,Tr.ws,Tr.dp]; exact ⟨by decide,by show 2+3<=_; omega⟩
 | .not t,h=>by
  rw [Tr.wf] at h
  obtain ⟨i1,i2⟩:=AO5 h
  rw [Tr.cnt,Tr.ws,Tr.dp,List.length_cons]
  refine ⟨i1,?_⟩
  have e:(5+(t.dp+1)) * t.cnt=(5+t.dp) * t.cnt+t.cnt:=by rw [<- Nat.add_assoc,Nat.succ_mul]
  omega
 | .both ts,h=>by
  rw [Tr.wf] at h
  obtain ⟨i1,i2⟩:=wss_len "&" h.2 (AC3 h.1)
  have h1:=h.1
  rw [Tr.cnt,Tr.ws,Tr.dp,List.length_cons,List.length_append,List.length_singleton]
  refine ⟨i1,?_⟩
  have e:(5+(ts.dp+1)) * ts.cnt=(5+ts.dp) * ts.cnt+ts.cnt:=by rw [<- Nat.add_assoc,Nat.succ_mul]
  omega
 | .either ts,h=>by
  rw [Tr.wf] at h
  obtain ⟨i1,i2⟩:=wss_len "|" h.2 (AC3 h.1)
  have h1:=h.1
  rw [Tr.cnt,Tr.ws,Tr.dp,List.length_cons,List.length_append,List.length_singleton]
  refine ⟨i1,?_⟩
  have e:(5+(ts.dp+1)) * ts.cnt=(5+ts.dp) * ts.cnt+ts.cnt:=by rw [<- Nat.add_assoc,Nat.succ_mul]
  omega
theorem wss_len (s:Str):∀ {ts:Trs},ts.wf->ts.toL≠[]->1<=ts.cnt/\(ts.ws s).length+1+2 * ts.toL.length<=(5+ts.dp) * ts.cnt
 | .nil,_,h=>absurd rfl h
 | .cons t .nil,h,_=>by
  rw [Trs.wf] at h
  obtain ⟨i1,i2⟩:=AO5 h.1
  have e1:(Trs.cons t .nil).dp=t.dp:=by rw [Trs.dp,Trs.dp]; exact Nat.max_eq_left (Nat.zero_le _)
  have e2:(Trs.cons t .nil).cnt=t.cnt:=by rw [Trs.cnt,Trs.cnt]; rfl
  have e3:(Trs.cons t .nil).toL.length=1:=rfl
  rw [vA,e1,e2,e3]
  omega
 | .cons t (.cons t' ts),h,_=>by
  rw [Trs.wf] at h
  obtain ⟨i1,i2⟩:=AO5 h.1
  obtain ⟨j1,j2⟩:=wss_len s (ts:=.cons t' ts) h.2 (by rw [Trs.toL]; simp)
  have e1:(Trs.cons t (.cons t' ts)).dp=max t.dp (Trs.cons t' ts).dp:=by rw [Trs.dp]
  have e2:(Trs.cons t (.cons t' ts)).cnt=t.cnt+(Trs.cons t' ts).cnt:=by rw [Trs.cnt]
  have e3:(Trs.cons t (.cons t' ts)).toL.length=(Trs.cons t' ts).toL.length+1:=rfl
  rw [oI,e1,e2,e3,List.length_append,List.length_cons,Nat.mul_add (5+max t.dp (Trs.cons t' ts).dp)]
  have m1:(5+t.dp) * t.cnt<=(5+max t.dp (Trs.cons t' ts).dp) * t.cnt:=Nat.mul_le_mul_right _ (by have:=Nat.le_max_left t.dp (Trs.cons t' ts).dp; omega)
  have m2:(5+(Trs.cons t' ts).dp) * (Trs.cons t' ts).cnt<=(5+max t.dp (Trs.cons t' ts).dp) * (Trs.cons t' ts).cnt:=Nat.mul_le_mul_right _ (by have:=Nat.le_max_right t.dp (Trs.cons t' ts).dp; omega)
  refine ⟨by omega,?_⟩
  generalize (5+max t.dp (Trs.cons t' ts).dp) * t.cnt=x at *
  generalize (5+max t.dp (Trs.cons t' ts).dp) * (Trs.cons t' ts).cnt=y at *
  generalize (5+t.dp) * t.cnt=x' at *
  generalize (5+(Trs.cons t' ts).dp) * (Trs.cons t' ts).cnt=y' at *
  omega
end
def mI (u:Str):Prop:=kG u=true/\u.length<=100/\(kY u=true->∃ n,PySem.intText? u=some n)
def tokG (u:Str):Prop:=32 ∉ u.cps.toList/\10 ∉ u.cps.toList/\u.length<=20/\mI u
instance (u:Str):Decidable (32 ∉ u.cps.toList):=inferInstance
theorem BM4 {u:Str}{c:Nat}(hc:c∈u.cps.toList)(h:¬ (48<=c/\c<=57)):AQ4 u=false:=by
 unfold AQ4
 rw [decide_eq_false fun z=>h (z.2.2 c hc)]
 rfl
theorem BM5 {u:Str}{c:Nat}(hc:u.cps.toList.head?=some c)(h:¬ (48<=c/\c<=57))(h2:c≠45):kY u=false:=by
 unfold kY
 have e:Txt.startswith u "-"=false:=by
  show Txt.startswith u ⟨#[45]⟩=false
  rw [nL,hc]
  exact decide_eq_false fun z=>h2 (Option.some.inj z)
 rw [e,if_neg (by decide)]
 refine BM4 (c:=c) ?_ h
 cases q:u.cps.toList with
 | nil=>rw [q] at hc; cases hc
 | cons a l=>rw [q] at hc; rw [<- Option.some.inj hc]; exact List.mem_cons_self
theorem BI1 {u:Str}(g:aX u):kY u=false:=by
 cases q:u.cps.toList with
 | nil =>
  have h:=g.1
  have e:u.length=u.cps.toList.length:=by simp [Str.length]
  rw [e,q] at h
  exact absurd h (by decide)
 | cons a l =>
  have r:=g.2.2 a (by rw [q]; exact List.mem_cons_self)
  exact BM5 (c:=a) (by rw [q]; rfl) (by omega) (by omega)
theorem jN {u:Str}(g:aX u):tokG u:=by
 refine ⟨fun z=>?_,fun z=>?_,by have:=g.2.1; omega,(rB g).1,(rB g).2,fun z=>?_⟩
 ·have:=g.2.2 32 z; omega
 ·have:=g.2.2 10 z; omega
 ·rw [BI1 g] at z; cases z
theorem vF {n:Int}(h0:0<=n)(h1:n < 1000000):tokG (bY n):=by
 have hd:=nM h0
 have hl:=vE h0 h1
 refine ⟨fun z=>?_,fun z=>?_,by omega,?_,by omega,fun _=>⟨n,(pX h0 h1).2.1⟩⟩
 ·have:=hd 32 z; omega
 ·have:=hd 10 z; omega
 ·rw [plain_iff]
  intro c hc
  have:=hd c hc
  omega
theorem tok_any:tokG "any":=⟨by decide +kernel,by decide +kernel,by decide +kernel,by decide +kernel,by decide +kernel,fun z=>absurd z (by decide +kernel)⟩
theorem BI2:tokG "kind":=⟨by decide +kernel,by decide +kernel,by decide +kernel,by decide +kernel,by decide +kernel,fun z=>absurd z (by decide +kernel)⟩
theorem BA5:tokG "place":=⟨by decide +kernel,by decide +kernel,by decide +kernel,by decide +kernel,by decide +kernel,fun z=>absurd z (by decide +kernel)⟩
theorem AQ6:tokG "weight":=⟨by decide +kernel,by decide +kernel,by decide +kernel,by decide +kernel,by decide +kernel,fun z=>absurd z (by decide +kernel)⟩
theorem BT0:tokG "not":=⟨by decide +kernel,by decide +kernel,by decide +kernel,by decide +kernel,by decide +kernel,fun z=>absurd z (by decide +kernel)⟩
theorem tok_open:tokG "(":=⟨by decide +kernel,by decide +kernel,by decide +kernel,by decide +kernel,by decide +kernel,fun z=>absurd z (by decide +kernel)⟩
theorem tok_shut:tokG ")":=⟨by decide +kernel,by decide +kernel,by decide +kernel,by decide +kernel,by decide +kernel,fun z=>absurd z (by decide +kernel)⟩
theorem tok_and:tokG "&":=⟨by decide +kernel,by decide +kernel,by decide +kernel,by decide +kernel,by decide +kernel,fun z=>absurd z (by decide +kernel)⟩
theorem tok_or:tokG "|":=⟨by decide +kernel,by decide +kernel,by decide +kernel,by decide +kernel,by decide +kernel,fun z=>absurd z (by decide +kernel)⟩
theorem tok_colon:tokG ":":=⟨by decide +kernel,by decide +kernel,by decide +kernel,by decide +kernel,by decide +kernel,fun z=>absurd z (by decide +kernel)⟩
theorem tok_none:tokG "":=⟨by decide +kernel,by decide +kernel,by decide +kernel,by decide +kernel,by decide +kernel,fun z=>absurd z (by decide +kernel)⟩
theorem all_cons {p:Str->Prop}{a:Str}{l:List Str}(h:p a)(k:∀ x∈l,p x):∀ x∈a::l,p x:=fun x hx=>by
 rcases List.mem_cons.mp hx with rfl | hx
 ·exact h
 ·exact k x hx
theorem fT {p:Str->Prop}{l m:List Str}(h:∀ x∈l,p x)(k:∀ x∈m,p x):∀ x∈l++m,p x:=fun x hx=>(List.mem_append.mp hx).elim (h x) (k x)
theorem bX {p:Str->Prop}:∀ x∈([]:List Str),p x:=fun x hx=>by cases hx
mutual
theorem sR:∀ {t:Tr},t.wf->∀ x∈t.ws,tokG x
 | .any,_=>by rw [Tr.ws]; exact all_cons tok_any bX
 | .kind us,h=>by rw [Tr.wf] at h; rw [Tr.ws]; exact all_cons BI2 fun x hx=>jN (h.2.1 x hx)
 | .place us,h=>by rw [Tr.wf] at h; rw [Tr.ws]; exact all_cons BA5 fun x hx=>jN (h.2.1 x hx)
 | .weight n,h=>by rw [Tr.wf] at h; rw [Tr.ws]; exact all_cons AQ6 (all_cons (vF h.1 h.2) bX)
 | .not t,h=>by rw [Tr.wf] at h; rw [Tr.ws]; exact all_cons BT0 (sR h)
 | .both ts,h=>by rw [Tr.wf] at h; rw [Tr.ws]; exact all_cons tok_open (fT (wss_tok tok_and h.2) (all_cons tok_shut bX))
 | .either ts,h=>by rw [Tr.wf] at h; rw [Tr.ws]; exact all_cons tok_open (fT (wss_tok tok_or h.2) (all_cons tok_shut bX))
theorem wss_tok {s:Str}(hs:tokG s):∀ {ts:Trs},ts.wf->∀ x∈ts.ws s,tokG x
 | .nil,_=>by rw [Trs.ws]; exact bX
 | .cons t .nil,h=>by rw [Trs.wf] at h; rw [vA]; exact sR h.1
 | .cons t (.cons t' ts),h=>by rw [Trs.wf] at h; rw [oI]; exact fT (sR h.1) (all_cons hs (wss_tok hs h.2))
end
def CB8 (u:Str):Prop:=u.length<=200000/\(Txt.split u sp1).length<=1000/\∀ x∈Txt.split u sp1,mI x
theorem BA6 {k:Nat}:∀ {ws:List Str},(∀ x∈ws,x.length<=k)->(ws.map (·.length)).sum<=ws.length * k
 | [],_=>Nat.zero_le _
 | a::l,h=>by
  have h1:=h a List.mem_cons_self
  have h2:=BA6 (ws:=l) fun x hx=>h x (List.mem_cons_of_mem _ hx)
  rw [List.map_cons,List.sum_cons,List.length_cons,Nat.succ_mul]
  omega
theorem mJ {ws:List Str}(h:∀ x∈ws,x.length<=20)(hl:ws.length<=1000):(Str.join sp1 ws).length<=30000:=by
 have h1:=StrLaws.join_length_le sp1 ws
 have h2:=BA6 h
 have e:sp1.length=1:=rfl
 rw [e] at h1
 omega
theorem CH0 {ws:List Str}(hn:ws≠[])(h:∀ x∈ws,tokG x)(hl:ws.length<=1000):CB8 (Str.join sp1 ws)/\Txt.split (Str.join sp1 ws) sp1=ws:=by
 have e:=rC (c:=32) hn fun a ha=>(h a ha).1
 refine ⟨⟨?_,?_,?_⟩,e⟩
 ·have:=mJ (fun x hx=>(h x hx).2.2.1) hl; omega
 ·rw [e]; exact hl
 ·rw [e]; exact fun x hx=>(h x hx).2.2.2
theorem BT1 {s:Str}{ts:List Str}(h:(ts.map (·.length)).sum+ts.length * s.length<=sizeLine):JoinOk s ts=true:=by
 unfold JoinOk
 rw [StrLaws.joinTotal]
 unfold Builtin.Str.tooLong
 rw [decide_eq_false (by omega)]
 rfl
theorem szM {n:Nat}(h:n<=1000000):n<=sizeLine:=Nat.le_trans h (by decide)
theorem gQ {ts:List Str}{i:Nat}(h:i < ts.length):ts.drop i=ts.getD i ""::ts.drop (i+1):=by
 rw [List.drop_eq_getElem_cons h,List.getD_eq_getElem?_getD,List.getElem?_eq_getElem h]
 rfl
theorem iR {ts:List Str}{i:Nat}(h:ts.length<=i):ts.getD i ""=""/\ts.drop i=[]:=by
 rw [List.getD_eq_getElem?_getD,List.getElem?_eq_none h]
 exact ⟨rfl,List.drop_eq_nil_of_le h⟩
theorem jO {ts:List Str}(h:∀ x∈ts,mI x)(i:Nat):mI (ts.getD i ""):=by
 by_cases c:i < ts.length
 ·rw [List.getD_eq_getElem?_getD,List.getElem?_eq_getElem c]
  exact h _ (List.getElem_mem c)
 ·rw [(iR (by omega)).1]
  exact tok_none.2.2.2
theorem zB {x:V}{xs:List V}{H:Hp}{Q:VK}:BA1 x xs H Q=∃ u y,x=.str u/\xs=[.str y]/\Q (.bl (Txt.startswith u y)) H:=rfl
theorem AI6 {x:V}{xs:List V}{H:Hp}{Q:VK}:BM1 x xs H Q=∃ u y,x=.str u/\xs=[.str y]/\(y.length == 0)=false/\u.length+2<=sizeLine/\(Txt.split u y).length<=sizeLine/\∀ l,H l=none->Q (.ref l) (upd H l (.lst ((Txt.split u y).map V.str))):=rfl
theorem vG {M:Model}{Γ:PySem.Ctx}{p:Pos}{t:Sem Fin}{fs:List Frame}{s s':Shared}{e:End}(h:Runs M Γ p t fs s e s'):s.toks<=s'.toks:=by
 induction h <;> first
  | exact Nat.le_refl _
  | (rename_i ih; exact ih)
  | (rename_i ih; exact Nat.le_of_succ_le ih)
  | (rename_i ih1 ih2; exact Nat.le_trans ih1 ih2)
theorem AQ7 {M:Model}{Γ:PySem.Ctx}{p:Pos}{g:Nat}{r:Resume}{s s':Shared}{res:GenResult}(h:Wakes M Γ p g r s res s'):s.toks<=s'.toks:=by
 unfold Wakes at h
 split at h
 ·exact h.elim
 ·split at h
  ·obtain ⟨e,s1,a,_,_,rfl⟩:=h
   have q:(s.setGen g .running).toks<=s1.toks:=vG a
   exact q
  ·obtain ⟨_,rfl⟩:=h; exact Nat.le_refl _
  ·obtain ⟨_,rfl⟩:=h; exact Nat.le_refl _
 ·obtain ⟨e,s1,a,_,_,rfl⟩:=h
  have q:(s.setGen g .running).toks<=s1.toks:=vG a
  exact q
 ·obtain ⟨_,rfl⟩:=h; exact Nat.le_refl _
 ·obtain ⟨_,rfl⟩:=h; exact Nat.le_refl _
theorem BT2 {M:Model}{Γ:PySem.Ctx}{α:Type}{t:Sem α}{Q:α->Pos->Shared->Prop}{E:Value->Pos->Shared->Prop}{n:Nat}:∀ {p:Pos}{s:Shared},n<=s.toks->Sem.wp M Γ t Q E p s ->
  Sem.wp M Γ t (fun x p' s'=>Q x p' s'/\n<=s'.toks) (fun v p' s'=>E v p' s'/\n<=s'.toks) p s:=by
 induction t with
 | pure x=>exact fun d w=>⟨w,d⟩
 | raise v=>exact fun d w=>⟨w,d⟩
 | unsupported _ | finish _ | register _ _ _ | yield _ _ _ _ _ | fork _ _ _ | await _ _ _ _ _ _=>exact fun _ w=>w
 | rule _ _ ih | «at» _ _ ih | point _ _ ih=>exact fun d w=>ih _ d w
 | load _ _ _ ih=>exact fun d ⟨o,e,w⟩=>⟨o,e,ih _ d w⟩
 | fresh _ ih=>exact fun d w=>ih _ (Nat.le_succ_of_le d) w
 | alloc _ _ ih | loadIfAlive _ _ ih | ask _ ih | os _ _ _ ih | handled _ _ ih | newGen _ _ ih | stack _ ih | thread _ ih=>exact fun d w=>ih _ d w
 | choose _ _ _ ih=>exact fun d ⟨m,w⟩=>⟨m,ih _ d w⟩
 | genState _ _ ih=>exact fun d ⟨o,e,w⟩=>⟨o,e,ih _ d w⟩
 | update _ _ _ _ ih=>exact fun d ⟨e,w⟩=>⟨e,ih _ d w⟩
 | call _ _ _ _ _ ih=>exact fun d ⟨r,s',hr,w⟩=>⟨r,s',hr,ih _ (Nat.le_trans d (vG hr)) w⟩
 | resume _ _ _ _ ih=>exact fun d ⟨r,s',hr,w⟩=>⟨r,s',hr,ih _ (Nat.le_trans d (AQ7 hr)) w⟩
theorem BM6 {M:Model}{A:Around}{α:Type}{t:Sem α}{Q Q':α->Shared->Prop}{E:Value->Shared->Prop}{s:Shared}(h:wpAny M A t Q E s)(hp:0 < s.toks)(hQ:∀ a s',Q a s'->0 < s'.toks->Q' a s'):wpAny M A t Q' E s :=
 wpAny_mono (fun Γ p hΓ=>BT2 (Nat.le_refl _) (h Γ p hΓ):wpAny M A t (fun x s'=>Q x s'/\s.toks<=s'.toks) (fun v s'=>E v s'/\s.toks<=s'.toks) s) (fun a s' q=>hQ a s' q.1 (Nat.lt_of_lt_of_le hp q.2)) fun _ _ z=>z.1
structure FnT (P:Program) (w:World) (K:Frag) (mg:Str->Option Value) (base:Heap) (CX:CXT) (k:Nat) (f:Addr) (fd:FuncData) (ps:List Str) (sp:Sp):Prop where
 len:∀ vs H Q E,sp vs H Q E->vs.length=ps.length
 run:∀ (A:Around) (outer:List Env) (s:Shared) (H:Hp) (args:Args) (us:List Value) (vs:List V) (Q:VK) (E:XK),Room k A->Env0 P w K mg base A outer s H->BindsTo s fd args (ps.zip us)->Vals vs us->sp vs H Q E ->
  codeAny (model P w) A (.call (.ref f) args) (fun r s'=>CR CX outer P w H s Q E r s'/\∀ u,r=.ok (.ret u)->0 < s'.toks) s
structure CalMT (P:Program) (w:World) (K:Frag) (mg:Str->Option Value) (base:Heap) (C:Addr) (m:Str) (ps:List Str) (k:Nat) (sp:Sp):Prop where
 ex:∃ f fd,FnT P w K mg base (CXF P w) k f fd ps sp/\Binds K fd ps []/\Meth K C m f/\Cls K C
def PET (X:Cx)(e:Expr)(t:TE):Prop :=
 ∀ (pins:List (Addr × Obj)) (s:Shared) (σ:L2.St) (H:Hp) (Q:VK),Inv X pins σ H s->t σ H Q->wpAny (model X.prog X.w) X.A (eval e X.env) (fun u s'=>EP X pins σ Q u s'/\0 < s'.toks) X.xe s
section
variable {X:Cx}{m:Str}{ps:List Str}{k:Nat}{e o:Expr}{es:List Expr}{ta:TE}{t:TA}{pos apos cpos:Pos}{E:XK}
def BZ5 (to:TE)(y z:Str):TE:=fun σ H Q=>to σ H fun x H1=>isT x fun u=>(y == z)=false/\u.length<=1048576/\z.length<=14/\Q (.str (Txt.replace u y z)) H1
theorem BA7 {y z:Str}{σ:L2.St}{H:Hp}{Q:VK}:BZ5 ta y z σ H Q=ta σ H (fun x H1=>isT x fun u=>(y == z)=false/\u.length<=1048576/\z.length<=14/\Q (.str (Txt.replace u y z)) H1):=rfl
end
end Bw
namespace Bw
open PySem PySem.Spec PyProof.Rows L2 PySem.W
theorem CK0 {p:Str->Bool}{l m:List Str}(h:l.all p=true)(k:m.all p=true):(l++m).all p=true:=by rw [List.all_append,h,k]; rfl
structure Ln where
 k:Nat
 m:Int
 rs:List Str
 su:Bool
 ra:Option (Int × Int × Option Str)
def wWs (k:Nat)(m:Int):List Str:=if k=0 then ["now"] else if k=1 then ["hour",bY m] else if k=2 then ["day",bY m] else ["never"]
def BA8:Option Str->List Str
 | none=>[]
 | some u=>[u]
def wO:Option (Int × Int × Option Str)->List Str
 | none=>[]
 | some x=>("raise":Str)::bY x.1::bY x.2.1::BA8 x.2.2
def Ln.ws (L:Ln):List Str:=(":":Str)::(wWs L.k L.m++((if L.k=3 then [] else ("by":Str)::bY L.rs.length::L.rs)++((if L.su=true then [("sure":Str)] else [])++wO L.ra)))
structure Ln.ok (L:Ln):Prop where
 k:L.k<=3
 m:0<=L.m/\L.m<=1439/\(L.k=1->L.m<=59)/\(L.k=0\/L.k=3->L.m=0)
 r:(∀ u∈L.rs,aX u)/\L.rs.Nodup/\L.rs.length<=4
 n:L.k≠3->L.rs≠[]
 v:L.k=3->L.rs=[]/\L.su=false/\L.ra=none
 a:∀ x,L.ra=some x->1<=x.1/\x.1 < 1000000/\0<=x.2.1/\x.2.1 < 1000000/\∀ u,x.2.2=some u->aX u
def AQ8 (lo hi:Int)(u:Str):Bool:=kY u && decide (lo<=dO u/\dO u<=hi)
def BE1 (r:List Str):Option (Nat × Int × List Str) :=
 if r.getD 0 ""="now" then some (0,0,r.drop 1)
 else if r.getD 0 ""="hour" then (if AQ8 0 59 (r.getD 1 "")=true then some (1,dO (r.getD 1 ""),r.drop 2) else none)
 else if r.getD 0 ""="day" then (if AQ8 0 1439 (r.getD 1 "")=true then some (2,dO (r.getD 1 ""),r.drop 2) else none)
 else if r.getD 0 ""="never" then some (3,0,r.drop 1) else none
def raF (r:List Str):Option ((Int × Int × Option Str) × List Str) :=
 if (kY (r.getD 0 "")=true/\1<=dO (r.getD 0 ""))/\(kY (r.getD 1 "")=true/\0<=dO (r.getD 1 "")) then
  (if aX (r.getD 2 "") then some ((dO (r.getD 0 ""),dO (r.getD 1 ""),some (r.getD 2 "")),r.drop 3) else some ((dO (r.getD 0 ""),dO (r.getD 1 ""),none),r.drop 2))
 else none
def nV (r:List Str):Option (Option (Int × Int × Option Str) × List Str) :=
 if r.getD 0 ""="raise" then (raF (r.drop 1)).map (fun x=>(some x.1,x.2)) else some (none,r)
def oJ (r:List Str):Bool × List Str:=if r.getD 0 ""="sure" then (true,r.drop 1) else (false,r)
def rsOk (us:List Str):Prop:=us≠[]/\(∀ u∈us,aX u)/\us.Nodup
instance (us:List Str):Decidable (rsOk us):=by unfold rsOk; infer_instance
def byF (k:Nat)(m:Int)(r:List Str):Option (Ln × List Str) :=
 if (r.getD 0 ""="by"/\AQ8 0 (r.drop 2).length (r.getD 1 "")=true)/\rsOk ((r.drop 2).take (dO (r.getD 1 "")).toNat) then
  (nV (oJ ((r.drop 2).drop (dO (r.getD 1 "")).toNat)).2).map (fun x=>(⟨k,m,(r.drop 2).take (dO (r.getD 1 "")).toNat,(oJ ((r.drop 2).drop (dO (r.getD 1 "")).toNat)).1,x.1⟩,x.2))
 else none
def pY (r:List Str):Option (Ln × List Str) :=
 if r.getD 0 ""=":" then (match BE1 (r.drop 1) with
  | none=>none
  | some (k,m,q)=>if k=3 then some (⟨3,0,[],false,none⟩,q) else byF k m q)
 else none
def mK (r:List Str):Option (Tr × Ln × List Str):=match AO3 r [] with
 | none=>none
 | some (t,q)=>(pY q).map fun x=>(t,x)
theorem zC {r:List Str}(h:BE0 r):¬ aX (r.getD 0 ""):=by
 cases r with
 | nil=>decide
 | cons u r=>exact h
theorem zD {n lo hi:Int}(h0:0<=n)(h1:n < 1000000)(h2:lo<=n)(h3:n<=hi):AQ8 lo hi (bY n)=true/\dO (bY n)=n:=by
 obtain ⟨a,_,c⟩:=pX h0 h1
 unfold AQ8
 rw [a,c,decide_eq_true ⟨h2,h3⟩]
 exact ⟨rfl,rfl⟩
theorem BA9 {L:Ln}(h:L.ok)(r:List Str):BE1 (wWs L.k L.m++r)=some (L.k,L.m,r):=by
 obtain ⟨m0,m1,m2,m3⟩:=h.m
 rcases (by have:=h.k; omega:L.k=0\/L.k=1\/L.k=2\/L.k=3) with e | e | e | e
 ·rw [e,m3 (.inl e)]; rfl
 ·have q:=zD (lo:=0) (hi:=59) m0 (by omega) m0 (m2 e)
  rw [e]
  show (if AQ8 0 59 (bY L.m)=true then some (1,dO (bY L.m),r) else none)=_
  rw [if_pos q.1,q.2]
 ·have q:=zD (lo:=0) (hi:=1439) m0 (by omega) m0 m1
  rw [e]
  show (if AQ8 0 1439 (bY L.m)=true then some (2,dO (bY L.m),r) else none)=_
  rw [if_pos q.1,q.2]
 ·rw [e,m3 (.inr e)]; rfl
theorem BI3 {x:Int × Int × Option Str}(h:1<=x.1/\x.1 < 1000000/\0<=x.2.1/\x.2.1 < 1000000/\∀ u,x.2.2=some u->aX u){r:List Str}(hr:BE0 r):raF (bY x.1::bY x.2.1::(BA8 x.2.2++r))=some (x,r):=by
 obtain ⟨m,n,o⟩:=x
 obtain ⟨h1,h2,h3,h4,h5⟩:=h
 obtain ⟨a,_,c⟩:=pX (n:=m) (by omega) h2
 obtain ⟨a',_,c'⟩:=pX (n:=n) h3 h4
 show (if (kY (bY m)=true/\1<=dO (bY m))/\(kY (bY n)=true/\0<=dO (bY n)) then (if aX ((BA8 o++r).getD 0 "") then some ((dO (bY m),dO (bY n),some ((BA8 o++r).getD 0 "")),(BA8 o++r).drop 1) else some ((dO (bY m),dO (bY n),none),BA8 o++r)) else none)=_
 rw [c,c',if_pos ⟨⟨a,h1⟩,a',h3⟩]
 cases o with
 | none=>exact if_neg (zC hr)
 | some u=>exact if_pos (h5 u rfl)
theorem AI7 {L:Ln}(h:L.ok){r:List Str}(hr:BE0 r):nV (wO L.ra++r)=some (L.ra,r):=by
 cases e:L.ra with
 | none =>
  show nV r=_
  unfold nV
  rw [if_neg (fun z=>zC hr (by rw [z]; decide))]
 | some x =>
  show (raF (bY x.1::bY x.2.1::(BA8 x.2.2++r))).map _=_
  rw [BI3 (h.a x e) hr]
  rfl
theorem AQ9 {L:Ln}{r:List Str}(hr:BE0 r):oJ ((if L.su=true then [("sure":Str)] else [])++(wO L.ra++r))=(L.su,wO L.ra++r):=by
 cases e:L.su with
 | true=>rfl
 | false =>
  show oJ (wO L.ra++r)=_
  unfold oJ
  rw [if_neg]
  intro z
  cases e2:L.ra with
  | none=>rw [e2] at z; exact zC hr (by rw [show r.getD 0 ""="sure" from z]; decide)
  | some x=>rw [e2] at z; exact absurd z (by show ¬ ("raise":Str)="sure"; decide)
theorem BT3 {k:Nat}{m:Int}{rs q:List Str}(hl:rs.length<=4):byF k m (("by":Str)::bY rs.length::(rs++q))=if rsOk rs then (nV (oJ q).2).map (fun x=>(⟨k,m,rs,(oJ q).1,x.1⟩,x.2)) else none:=by
 have nq:=zD (n:=rs.length) (lo:=0) (hi:=(rs++q).length) (by omega) (by omega) (by omega) (by rw [List.length_append]; omega)
 unfold byF
 have d2:(("by":Str)::bY rs.length::(rs++q)).drop 2=rs++q:=rfl
 have g1:(("by":Str)::bY rs.length::(rs++q)).getD 1 ""=bY rs.length:=rfl
 rw [d2,g1,nq.2]
 have t1:(rs++q).take ((rs.length:Int)).toNat=rs:=by simp
 have t2:(rs++q).drop ((rs.length:Int)).toNat=q:=by simp
 rw [t1,t2]
 by_cases c:rsOk rs
 ·rw [if_pos c,if_pos ⟨⟨rfl,nq.1⟩,c⟩]
 ·rw [if_neg c,if_neg fun z=>c z.2]
theorem AI8 {L:Ln}(h:L.ok)(q:List Str):pY ((":":Str)::(wWs L.k L.m++q))=if L.k=3 then some (⟨3,0,[],false,none⟩,q) else byF L.k L.m q:=by
 unfold pY
 rw [List.getD_cons_zero,if_pos rfl,List.drop_one,List.tail_cons,BA9 h]
theorem Ln.ok.rsOk {L:Ln}(h:L.ok)(e:¬ L.k=3):rsOk L.rs:=⟨h.n e,h.r.1,h.r.2.1⟩
theorem AR0 {L:Ln}(h:L.ok){r:List Str}(hr:BE0 r):pY (L.ws++r)=some (L,r):=by
 have e0:L.ws++r=(":":Str)::(wWs L.k L.m++((if L.k=3 then [] else ("by":Str)::bY L.rs.length::L.rs)++((if L.su=true then [("sure":Str)] else [])++(wO L.ra++r)))):=by
  unfold Ln.ws
  simp only [List.cons_append,List.append_assoc]
 rw [e0,AI8 h]
 by_cases e:L.k=3
 ·obtain ⟨v1,v2,v3⟩:=h.v e
  have v4:=h.m.2.2.2 (.inr e)
  obtain ⟨k,m,rs,su,ra⟩:=L
  dsimp only at e v1 v2 v3 v4
  subst e v1 v2 v3 v4
  rfl
 ·rw [if_neg e,if_neg e]
  show byF L.k L.m (("by":Str)::bY L.rs.length::(L.rs++_))=_
  rw [BT3 h.r.2.2,if_pos (h.rsOk e),AQ9 hr]
  dsimp only
  rw [AI7 h hr]
  rfl
theorem AO6:¬ aX ":":=by decide
theorem BB0 {t:Tr}(ht:t.wf)(q:List Str):mK (t.ws++((":":Str)::q))=(pY ((":":Str)::q)).map fun x=>(t,x):=by
 have e:AO3 (t.ws++((":":Str)::q)) []=some (t,(":":Str)::q):=AQ5 (S:=[]) ht (show BE0 ((":":Str)::q) from AO6)
 unfold mK
 rw [e]
theorem rD {t:Tr}{L:Ln}(ht:t.wf)(h:L.ok){r:List Str}(hr:BE0 r):mK (t.ws++(L.ws++r))=some (t,L,r):=by
 have e:=AR0 h hr
 have e2:L.ws++r=(":":Str)::(L.ws.tail++r):=rfl
 rw [e2] at e ⊢
 rw [BB0 ht,e]
 rfl
def nW (ws:List Str):Prop:=∀ t L,mK ws≠some (t,L,[])
def AF9 (u:Str):Prop:=CB8 u/\nW (Txt.split u sp1)
def BE2 (u:Str):Prop:=32 ∉ u.cps.toList/\u.length<=30/\mI u
theorem tokG.h {u:Str}(h:tokG u):BE2 u:=⟨h.1,by have:=h.2.2.1; omega,h.2.2.2⟩
theorem pZ {u:Str}{ws:List Str}(e:u=Str.join sp1 ws)(hn:ws≠[])(h:∀ x∈ws,BE2 x)(hl:ws.length<=1000)(hb:nW ws):AF9 u:=by
 have e2:=rC (c:=32) hn fun a ha=>(h a ha).1
 subst e
 refine ⟨⟨?_,?_,?_⟩,?_⟩
 ·have h1:=StrLaws.join_length_le sp1 ws
  have h2:=BA6 (k:=30) fun x hx=>(h x hx).2.1
  have e:sp1.length=1:=rfl
  rw [e] at h1
  omega
 ·rw [e2]; exact hl
 ·rw [e2]; exact fun x hx=>(h x hx).2.2
 ·rw [e2]; exact hb
def fW:List Str:=["not","(","any","kind","place","weight"]
theorem fA {w:Str}{r:List Str}{S:List Fm}(h:w ∉ fW):plainF (w::r) S=none:=by
 have n:∀ v∈fW,¬ w=v:=fun v hv e=>h (e ▸ hv)
 rw [bN,if_neg (fun z=>z.elim (n _ (by decide)) (n _ (by decide))),if_neg (n _ (by decide)),if_neg (n _ (by decide)),if_neg (n _ (by decide)),if_neg (n _ (by decide))]
theorem mL {r:List Str}(h:plainF r []=none):nW r:=fun t L e=>by
 unfold mK at e
 rw [fS,h] at e
 cases e
theorem AC6 {ws:List Str}{t:Tr}{L:Ln}{w:Str}{r:List Str}(h:mK ws=some (t,L,w::r)):nW ws:=fun t' L' e=>by
 rw [h] at e
 cases e
def NmNum (x:Str):Prop:=aX x\/∃ n:Int,0<=n/\n < 1000000/\x=bY n
theorem nO {L:Ln}(h:L.ok):∀ x∈L.ws.tail,NmNum x:=by
 obtain ⟨m0,m1,m2,m3⟩:=h.m
 have g:∀ u:Str,aX u->NmNum u:=fun u=>.inl
 have nn:∀ n:Int,0<=n->n < 1000000->NmNum (bY n):=fun n a b=>.inr ⟨n,a,b,rfl⟩
 show ∀ x∈wWs L.k L.m++((if L.k=3 then [] else ("by":Str)::bY L.rs.length::L.rs)++((if L.su=true then [("sure":Str)] else [])++wO L.ra)),NmNum x
 refine fT ?_ (fT ?_ (fT ?_ ?_))
 ·unfold wWs
  repeat' split
  ·exact all_cons (g _ (by decide)) bX
  ·exact all_cons (g _ (by decide)) (all_cons (nn _ m0 (by omega)) bX)
  ·exact all_cons (g _ (by decide)) (all_cons (nn _ m0 (by omega)) bX)
  ·exact all_cons (g _ (by decide)) bX
 ·split
  ·exact bX
  ·exact all_cons (g _ (by decide)) (all_cons (nn _ (by omega) (by have:=h.r.2.2; omega)) fun x hx=>g _ (h.r.1 x hx))
 ·split
  ·exact all_cons (g _ (by decide)) bX
  ·exact bX
 ·cases e:L.ra with
  | none=>exact bX
  | some x =>
   obtain ⟨a1,a2,a3,a4,a5⟩:=h.a x e
   refine all_cons (g _ (by decide)) (all_cons (nn _ (by omega) a2) (all_cons (nn _ a3 a4) ?_))
   cases e2:x.2.2 with
   | none=>exact bX
   | some u=>exact all_cons (g _ (a5 u e2)) bX
theorem NmNum.tok {x:Str}(h:NmNum x):tokG x:=by
 rcases h with g | ⟨n,a,b,rfl⟩
 ·exact jN g
 ·exact vF a b
theorem BM7 {L:Ln}(h:L.ok):∀ x∈L.ws,tokG x:=fun x hx=>(List.mem_cons.mp hx).elim (fun e=>e ▸ tok_colon) fun m=>(nO h x m).tok
theorem NmNum.colon {x:Str}(h:NmNum x):x≠":":=by
 rintro rfl
 rcases h with g | ⟨n,a,b,e⟩
 ·exact AO6 g
 ·have z:=nM a 58 (by rw [<- e]; decide)
  omega
theorem BB1:CG8 ":":=⟨by decide,by decide,by decide +kernel⟩
theorem BI4 {t:Tr}(h:t.wf):(":":Str) ∉ t.ws:=fun m=>by
 have e:=AQ5 (t:=t) (r:=[]) (S:=[]) h trivial
 rw [List.append_nil] at e
 exact BS9 BB1 m t e
theorem AR1 {ws:List Str}(n:(":":Str) ∉ ws):nW ws:=fun t L e=>by
 unfold mK at e
 cases c:AO3 ws [] with
 | none=>rw [c] at e; cases e
 | some x =>
  obtain ⟨t',q⟩:=x
  rw [c] at e
  obtain ⟨p,rfl,_⟩:=yY (n:=ws.length+1) c
  by_cases g:q.getD 0 ""=":"
  ·cases q with
   | nil=>exact absurd g (by decide)
   | cons u q=>exact n (List.mem_append_right _ (by rw [show u=":" from g]; exact List.mem_cons_self))
  ·dsimp only at e
   unfold pY at e
   rw [if_neg g] at e
   cases e
theorem BB2 {L:Ln}(h:L.ok):L.ws.length<=14:=by
 have h4:=h.r.2.2
 have l1:(wWs L.k L.m).length<=2:=by unfold wWs; (repeat' split) <;> simp
 have l2:(if L.k=3 then [] else ("by":Str)::bY L.rs.length::L.rs).length<=6:=by
  split
  ·decide
  ·simp only [List.length_cons]; omega
 have l3:(if L.su=true then [("sure":Str)] else []).length<=1:=by split <;> decide
 have l4:(wO L.ra).length<=4:=by
  cases L.ra with
  | none=>decide
  | some x =>
   obtain ⟨m,n,o⟩:=x
   cases o <;> (simp only [wO,BA8,List.length_cons,List.length_nil]; omega)
 unfold Ln.ws
 simp only [List.length_cons,List.length_append]
 omega
section
variable {t:Tr}{L:Ln}(ht:t.wf) (h:L.ok) (hl:t.ws.length<=900)
include ht h hl
theorem nX:(∀ x∈t.ws++L.ws,tokG x)/\(t.ws++L.ws).length<=914/\t.ws++L.ws≠[]:=⟨fT (sR ht) (BM7 h),by have:=BB2 h; rw [List.length_append]; omega,fun z=>kI t (List.append_eq_nil_iff.mp z).1⟩
theorem CB9 {w:Str}{r:List Str}{u:Str}(hw:∀ x∈w::r,BE2 x)(hr:(w::r).length<=50)(n:¬ aX w)(e:u=sp1++Str.join sp1 (w::r)):AF9 (Str.join sp1 (t.ws++L.ws)++u):=by
 obtain ⟨a,b,c⟩:=nX ht h hl
 refine pZ (ws:=(t.ws++L.ws)++w::r) ?_ (by simp) (fT (fun x hx=>(a x hx).h) hw) (by rw [List.length_append]; omega) (AC6 (t:=t) (L:=L) (w:=w) (r:=r) ?_)
 ·rw [eH c (by simp),e]
  exact cV (by simp only [bW,List.append_assoc])
 ·rw [List.append_assoc]
  exact rD ht h n
theorem CL2:AF9 ((" ":Str)++Str.join sp1 (t.ws++L.ws)):=by
 obtain ⟨a,b,c⟩:=nX ht h hl
 refine pZ (ws:=("":Str)::(t.ws++L.ws)) ?_ (by simp) (all_cons tok_none.h fun x hx=>(a x hx).h) (by rw [List.length_cons]; omega) (mL (fA (by decide)))
 rw [cS c]
 exact cV (by simp only [bW]; rfl)
theorem CL3:AF9 (Str.join sp1 L.ws) :=
 pZ (ws:=L.ws) rfl (by unfold Ln.ws; simp) (fun x hx=>(BM7 h x hx).h) (by have:=BB2 h; omega) (mL (fA (by decide)))
theorem CL4:AF9 (Str.join sp1 (t.ws++L.ws.tail)):=by
 obtain ⟨a,b,c⟩:=nX ht h hl
 have sub:∀ x∈t.ws++L.ws.tail,x∈t.ws++L.ws:=fun x hx=>by
  rcases List.mem_append.mp hx with z | z
  ·exact List.mem_append_left _ z
  ·exact List.mem_append_right _ (List.mem_of_mem_tail z)
 refine pZ (ws:=t.ws++L.ws.tail) rfl (fun z=>kI t (List.append_eq_nil_iff.mp z).1) (fun x hx=>(a x (sub x hx)).h) (by rw [List.length_append] at b ⊢; rw [List.length_tail]; omega) ?_
 refine AR1 fun m=>?_
 rcases List.mem_append.mp m with m | m
 ·exact BI4 ht m
 ·exact (nO h _ m).colon rfl
end
theorem AC7 {a b:Str}:Txt.slice (a++b) (some (a.length:Int)) none=b:=by
 have hl:(a++b).length=a.length+b.length:=Str.length_append ..
 rw [slice_from_eq (b:=((a++b).length:Int)) (by omega) (by omega) rfl]
 have e1:((a.length:Int)).toNat=a.length:=by omega
 have e2:(((a++b).length:Int) - (a.length:Int)).toNat=b.length:=by omega
 have la:a.cps.toList.length=a.length:=by simp [Str.length]
 have lb:b.cps.toList.length=b.length:=by simp [Str.length]
 refine cV ?_
 show (((a++b).cps.toList.drop ((a.length:Int)).toNat).take (((a++b).length:Int) - (a.length:Int)).toNat)=b.cps.toList
 rw [e1,e2,bW,<- la,List.drop_left,<- lb,List.take_length]
theorem AR2 {t:Tr}:∃ (w':Str) (c:Nat) (r:List Str),t.ws=(⟨#[c]⟩++w')::r/\w' ∉ fW/\BE2 w':=by
 have g:∀ u:Str,aX u->BE2 u:=fun u z=>(jN z).h
 cases t with
 | any=>rw [Tr.ws]; exact ⟨"ny",97,_,by rw [show (⟨#[97]⟩++"ny":Str)="any" by decide],by decide,g _ (by decide)⟩
 | kind us=>rw [Tr.ws]; exact ⟨"ind",107,_,by rw [show (⟨#[107]⟩++"ind":Str)="kind" by decide],by decide,g _ (by decide)⟩
 | place us=>rw [Tr.ws]; exact ⟨"lace",112,_,by rw [show (⟨#[112]⟩++"lace":Str)="place" by decide],by decide,g _ (by decide)⟩
 | weight n=>rw [Tr.ws]; exact ⟨"eight",119,_,by rw [show (⟨#[119]⟩++"eight":Str)="weight" by decide],by decide,g _ (by decide)⟩
 | not t=>rw [Tr.ws]; exact ⟨"ot",110,_,by rw [show (⟨#[110]⟩++"ot":Str)="not" by decide],by decide,g _ (by decide)⟩
 | both ts=>rw [Tr.ws]; exact ⟨"",40,_,by rw [show (⟨#[40]⟩++"":Str)="(" by decide],by decide,tok_none.h⟩
 | either ts=>rw [Tr.ws]; exact ⟨"",40,_,by rw [show (⟨#[40]⟩++"":Str)="(" by decide],by decide,tok_none.h⟩
def AO7:List Str->List Str
 | []=>[]
 | [a]=>[a]
 | a::b::r=>a::("":Str)::AO7 (b::r)
theorem BB3:∀ {ws:List Str},ws≠[]->AO7 ws≠[]
 | [],h=>absurd rfl h
 | [a],_=>by rw [AO7]; simp
 | a::b::r,_=>by rw [AO7]; simp
theorem AC8:∀ ws:List Str,Str.join "  " ws=Str.join sp1 (AO7 ws)
 | []=>rfl
 | [a]=>rfl
 | a::b::r=>by
  rw [AO7,pV,AC8 (b::r),pV,cS (BB3 (by simp))]
  exact cV (by simp only [bW,List.append_assoc]; rfl)
theorem BB4 {p:Str->Prop}(h0:p ""):∀ {ws:List Str},(∀ x∈ws,p x)->(∀ x∈AO7 ws,p x)/\(AO7 ws).length<=2 * ws.length
 | [],h=>⟨by rw [AO7]; exact bX,by decide⟩
 | [a],h=>⟨by rw [AO7]; exact h,by rw [AO7]; simp⟩
 | a::b::r,h=>by
  have q:=BB4 h0 (ws:=b::r) fun x hx=>h x (List.mem_cons_of_mem _ hx)
  rw [AO7]
  refine ⟨all_cons (h a List.mem_cons_self) (all_cons h0 q.1),?_⟩
  have:=q.2
  simp only [List.length_cons] at this ⊢
  omega
theorem BI5 (w:Str)(r:List Str):nW (w::("":Str)::r):=by
 have n0:("":Str) ∉ fW:=by decide
 have tw:(("":Str)::r).takeWhile (fun u=>decide (aX u))=[]:=by
  rw [List.takeWhile_cons,decide_eq_false (by decide)]
  rfl
 have key:plainF (w::("":Str)::r) []=none\/plainF (w::("":Str)::r) []=some (.any,("":Str)::r,[]):=by
  rw [bN]
  split
  ·exact .inl (fA n0)
  split
  ·exact .inr rfl
  split
  ·rw [tw,if_neg fun z=>z.1 rfl]; exact .inl rfl
  split
  ·rw [tw,if_neg fun z=>z.1 rfl]; exact .inl rfl
  split
  ·exact .inl (if_neg fun z=>absurd z.1 (by decide +kernel))
  ·exact .inl rfl
 rcases key with k | k
 ·exact mL k
 ·intro t L e
  unfold mK at e
  rw [fS,k] at e
  change (pY (("":Str)::r)).map _=_ at e
  unfold pY at e
  rw [List.getD_cons_zero,if_neg (by decide)] at e
  cases e
section
variable {t:Tr}{L:Ln}(ht:t.wf) (h:L.ok) (hl:t.ws.length<=400)
include ht h hl
theorem CL5:AF9 (Txt.slice (Str.join sp1 (t.ws++L.ws)) (some 1) none):=by
 obtain ⟨a,b,c⟩:=nX ht h (by omega)
 obtain ⟨w',x,r,e,nf,tk⟩:=AR2 (t:=t)
 rw [e] at a b c ⊢
 have ne:r++L.ws≠[]:=by unfold Ln.ws; simp
 have e2:Str.join sp1 (((⟨#[x]⟩++w')::r)++L.ws)=⟨#[x]⟩++Str.join sp1 (w'::(r++L.ws)):=by
  show Str.join sp1 ((⟨#[x]⟩++w')::(r++L.ws))=_
  rw [cS ne,cS ne]
  exact cV (by simp only [bW,List.append_assoc])
 rw [e2,show (1:Int)=(((⟨#[x]⟩:Str).length:Nat):Int) from rfl,AC7]
 exact pZ rfl (by simp) (all_cons tk fun y hy=>(a y (List.mem_cons_of_mem _ hy)).h) (by simp only [List.length_append,List.length_cons] at b ⊢; omega) (mL (fA nf))
theorem CL6:AF9 (Txt.replace (Str.join sp1 (t.ws++L.ws)) (" ":Str) ("  ":Str)):=by
 obtain ⟨a,b,c⟩:=nX ht h (by omega)
 have e:Txt.replace (Str.join sp1 (t.ws++L.ws)) (" ":Str) ("  ":Str)=Str.join sp1 (AO7 (t.ws++L.ws)):=by
  rw [show (" ":Str)=⟨#[32]⟩ from rfl,StrLaws.replace_one,rC c fun x hx=>(a x hx).1,AC8]
 have q:=BB4 (p:=BE2) tok_none.h fun x hx=>(a x hx).h
 rw [e]
 refine pZ rfl (BB3 c) q.1 ?_ ?_
 ·have:=BB2 h
  have:=q.2
  rw [List.length_append] at this
  omega
 ·have ne:L.ws≠[]:=by unfold Ln.ws; simp
  cases e1:t.ws with
  | nil=>exact absurd e1 (kI t)
  | cons w r =>
   have:∃ w2 r2,r++L.ws=w2::r2:=List.exists_cons_of_ne_nil (by simp [ne])
   obtain ⟨w2,r2,e3⟩:=this
   rw [List.cons_append,e3,AO7]
   exact BI5 _ _
theorem CL7:Txt.slice (Str.join sp1 (t.ws++L.ws)) (some ((t.tx.length:Int)+1)) none=Str.join sp1 L.ws:=by
 have ne:L.ws≠[]:=by unfold Ln.ws; simp
 rw [eH (kI t) ne,<- vB t ht]
 have e:(t.tx.length:Int)+1=(((t.tx++sp1).length:Nat):Int):=by rw [Str.length_append]; rfl
 rw [e]
 exact AC7
end
end Bw
namespace Bw
open PySem PySem.Spec PyProof.Rows L2 PySem.StrLaws PySem.Builtin PySem.Builtin.Str PySem.W
theorem BZ6 {a b:List Nat}(ha:58 ∉ a)(hb:58 ∉ b){j:Nat}(h:(a++(32::58::32::b))[j]?=some 58):j=a.length+1:=by
 by_cases c:j < a.length
 ·rw [List.getElem?_append_left c] at h
  exact absurd (List.mem_of_getElem? h) ha
 ·rw [List.getElem?_append_right (by omega)] at h
  obtain ⟨k,hk⟩:∃ k,j=a.length+k:=⟨j - a.length,by omega⟩
  rw [hk,show a.length+k - a.length=k by omega] at h
  match k,h with
  | 0,h=>simp at h
  | 1,_=>exact hk
  | 2,h=>simp at h
  | k+3,h =>
   have h':b[k]?=some 58:=by simpa using h
   exact absurd (List.mem_of_getElem? h') hb
theorem BI6 {A B z:Str}(ha:58 ∉ A.cps.toList)(hb:58 ∉ B.cps.toList):Txt.replace (A++(" : ":Str)++B) (" : ":Str) z=A++z++B:=by
 have ex:(A++(" : ":Str)++B).cps.toList=A.cps.toList++(32::58::32::B.cps.toList):=by
  rw [bW,bW,List.append_assoc]; rfl
 have lA:A.cps.toList.length=A.length:=by simp [Str.length]
 have lB:B.cps.toList.length=B.length:=by simp [Str.length]
 have lx:(A++(" : ":Str)++B).length=A.length+3+B.length:=by rw [Str.length_append,Str.length_append]; rfl
 have ly:(" : ":Str).length=3:=rfl
 generalize A++(" : ":Str)++B=x at *
 have at_un:∀ i,At x (" : ":Str) x.length i->i=A.length:=by
  intro i hi
  have q:=hi.2
  rw [subAt_eq,ly,beq_iff_eq] at q
  have q2:((x.cps.toList.drop i).take 3)[1]?=some 58:=by rw [q]; rfl
  rw [List.getElem?_take_of_lt (by decide),List.getElem?_drop,ex] at q2
  have:=BZ6 ha hb q2
  omega
 have at_A:At x (" : ":Str) x.length A.length:=by
  refine ⟨by omega,?_⟩
  rw [subAt_eq,ly,ex,<- lA,List.drop_left]
  rfl
 obtain ⟨f,G,tight⟩:=occ_tight x (" : ":Str) (by decide)
 have eo:occurrences x (" : ":Str) 0 x.length (x.length+1)=[A.length]:=by
  generalize occurrences x (" : ":Str) 0 x.length (x.length+1)=o at G
  match o,G with
  | [],G=>exact absurd at_A (tight _ (by have:f=0:=G; omega))
  | [c],G=>rw [at_un c G.2.1]
  | c::d::r,G =>
   have h1:=at_un c G.2.1
   have h2:=at_un d G.2.2.2.2.1
   have h3:=G.2.2.2.1
   rw [ly] at h3
   omega
 unfold Txt.replace
 rw [eo,if_neg (by simp [ly]),glued_eq_join,partsBetween_eq]
 show strSub x 0 A.length++z++strSub x (A.length+(" : ":Str).length) x.length=_
 have e1:strSub x 0 A.length=A:=cV (by rw [strSub_toList,ex,List.drop_zero,Nat.sub_zero,<- lA,List.take_left])
 have e2:strSub x (A.length+(" : ":Str).length) x.length=B:=by
  refine cV ?_
  rw [strSub_toList,ex,ly,<- lA,<- List.drop_drop,List.drop_left]
  show (B.cps.toList).take _=_
  rw [List.take_of_length_le (by omega)]
 rw [e1,e2]
def up (u:Str):Str:=⟨u.cps.map up1⟩
theorem AC9 (u:Str):(up u).cps.toList=u.cps.toList.map up1:=by simp [up]
theorem BM8 (a b:Str):up (a++b)=up a++up b:=cV (by rw [AC9,bW,bW,List.map_append,AC9,AC9])
theorem BB5:∀ ws:List Str,up (Str.join sp1 ws)=Str.join sp1 (ws.map up)
 | []=>by decide +kernel
 | [a]=>rfl
 | a::b::r=>by
  rw [pV,BM8,BM8,BB5 (b::r),show up sp1=sp1 by decide +kernel]
  rfl
mutual
theorem AI9:∀ {t:Tr}{r:List Str}{S:List Fm},t.wf->plainF (t.ws.map up++r) S=none
 | .any,r,S,_=>by rw [Tr.ws]; exact fA (by decide +kernel)
 | .kind us,r,S,_=>by rw [Tr.ws]; exact fA (by decide +kernel)
 | .place us,r,S,_=>by rw [Tr.ws]; exact fA (by decide +kernel)
 | .weight n,r,S,_=>by rw [Tr.ws]; exact fA (by decide +kernel)
 | .not t,r,S,_=>by rw [Tr.ws]; exact fA (by decide +kernel)
 | .both ts,r,S,h=>by
  rw [Tr.wf] at h
  rw [Tr.ws]
  rw [List.map_cons,show up "("="(" by decide +kernel,List.cons_append,bN,if_pos (.inr rfl),List.map_append,List.append_assoc]
  exact ups_none h.2 (AC3 h.1)
 | .either ts,r,S,h=>by
  rw [Tr.wf] at h
  rw [Tr.ws]
  rw [List.map_cons,show up "("="(" by decide +kernel,List.cons_append,bN,if_pos (.inr rfl),List.map_append,List.append_assoc]
  exact ups_none h.2 (AC3 h.1)
theorem ups_none {s:Str}:∀ {ts:Trs}{r:List Str}{S:List Fm},ts.wf->ts.toL≠[]->plainF ((ts.ws s).map up++r) S=none
 | .nil,_,_,_,n=>absurd rfl n
 | .cons t .nil,r,S,h,_=>by rw [Trs.wf] at h; rw [vA]; exact AI9 h.1
 | .cons t (.cons t' ts),r,S,h,_=>by
  rw [Trs.wf] at h
  rw [oI,List.map_append,List.append_assoc]
  exact AI9 h.1
end
mutual
theorem xW {p:Str->Prop}(hN:∀ u,aX u->p u)(hM:∀ n:Int,0<=n->n < 1000000->p (bY n))(h1:p "(")(h2:p ")")(h3:p "&")(h4:p "|"):∀ {t:Tr},t.wf->∀ x∈t.ws,p x
 | .any,_=>by rw [Tr.ws]; exact all_cons (hN _ (by decide)) bX
 | .kind us,h=>by rw [Tr.wf] at h; rw [Tr.ws]; exact all_cons (hN _ (by decide)) fun x hx=>hN _ (h.2.1 x hx)
 | .place us,h=>by rw [Tr.wf] at h; rw [Tr.ws]; exact all_cons (hN _ (by decide)) fun x hx=>hN _ (h.2.1 x hx)
 | .weight n,h=>by rw [Tr.wf] at h; rw [Tr.ws]; exact all_cons (hN _ (by decide)) (all_cons (hM n h.1 h.2) bX)
 | .not t,h=>by rw [Tr.wf] at h; rw [Tr.ws]; exact all_cons (hN _ (by decide)) (xW hN hM h1 h2 h3 h4 h)
 | .both ts,h=>by rw [Tr.wf] at h; rw [Tr.ws]; exact all_cons h1 (fT (wss_all hN hM h1 h2 h3 h4 h3 h.2) (all_cons h2 bX))
 | .either ts,h=>by rw [Tr.wf] at h; rw [Tr.ws]; exact all_cons h1 (fT (wss_all hN hM h1 h2 h3 h4 h4 h.2) (all_cons h2 bX))
theorem wss_all {p:Str->Prop}(hN:∀ u,aX u->p u)(hM:∀ n:Int,0<=n->n < 1000000->p (bY n))(h1:p "(")(h2:p ")")(h3:p "&")(h4:p "|"){s:Str}(hs:p s):∀ {ts:Trs},ts.wf->∀ x∈ts.ws s,p x
 | .nil,_=>by rw [Trs.ws]; exact bX
 | .cons t .nil,h=>by rw [Trs.wf] at h; rw [vA]; exact xW hN hM h1 h2 h3 h4 h.1
 | .cons t (.cons t' ts),h=>by rw [Trs.wf] at h; rw [oI]; exact fT (xW hN hM h1 h2 h3 h4 h.1) (all_cons hs (wss_all hN hM h1 h2 h3 h4 hs h.2))
end
theorem qA {c:Nat}(hc:c≠32):∀ {ws:List Str},(∀ x∈ws,c ∉ x.cps.toList)->c ∉ (Str.join sp1 ws).cps.toList
 | [],_=>by intro m; cases m
 | [a],h=>h a List.mem_cons_self
 | a::b::r,h=>by
  rw [pV,bW,bW]
  intro m
  rcases List.mem_append.mp m with m | m
  ·rcases List.mem_append.mp m with m | m
   ·exact h a List.mem_cons_self m
   ·exact hc (by simpa using (show c∈([32]:List Nat) from m))
  ·exact qA hc (fun x hx=>h x (List.mem_cons_of_mem _ hx)) m
theorem BB6 {u:Str}(h:NmNum u):BE2 (up u):=by
 rcases h with g | ⟨n,a,b,rfl⟩
 ·have tg:=jN g
  have lu:(up u).length=u.length:=by simp [up,Str.length]
  have big:∀ c∈(up u).cps.toList,65<=c/\c<=90:=fun c hc=>by
   rw [AC9] at hc
   obtain ⟨d,hd,rfl⟩:=List.mem_map.mp hc
   have q:=g.2.2 d hd
   unfold up1
   rw [if_pos q]
   omega
  have nb:kY (up u)=false:=by
   cases q:(up u).cps.toList with
   | nil =>
    have z:=g.1
    have e:(up u).length=(up u).cps.toList.length:=by simp [Str.length]
    rw [<- lu,e,q] at z
    exact absurd z (by decide)
   | cons c l =>
    have z:=big c (by rw [q]; exact List.mem_cons_self)
    exact BM5 (c:=c) (by rw [q]; rfl) (by omega) (by omega)
  exact ⟨fun m=>by have:=big _ m; omega,by rw [lu]; have:=g.2.1; omega,plain_iff.mpr fun c hc=>by have:=big c hc; omega,by rw [lu]; have:=g.2.1; omega,fun z=>by rw [nb] at z; cases z⟩
 ·have e:up (bY n)=bY n:=by
   refine cV ?_
   rw [AC9]
   refine (List.map_congr_left fun c hc=>?_).trans (List.map_id _)
   have:=nM a c hc
   unfold up1
   rw [if_neg (by omega)]
   rfl
  rw [e]
  exact (vF a b).h
theorem NmNum.no {c:Nat}{x:Str}(h:NmNum x)(h1:¬ (97<=c/\c<=122))(h2:¬ (48<=c/\c<=57)):c ∉ x.cps.toList:=fun m=>by
 rcases h with g | ⟨n,a,b,rfl⟩
 ·exact h1 (g.2.2 c m)
 ·exact h2 (nM a c m)
section
variable {t:Tr}{L:Ln}(ht:t.wf) (h:L.ok) (hl:t.ws.length<=400)
include ht h hl
theorem CL8:AF9 (up (Str.join sp1 (t.ws++L.ws))):=by
 obtain ⟨a,b,c⟩:=nX ht h (by omega)
 rw [BB5]
 refine pZ rfl (by simpa using c) ?_ (by rw [List.length_map]; omega) ?_
 ·intro x hx
  obtain ⟨y,hy,rfl⟩:=List.mem_map.mp hx
  have e:∀ u∈([("(":Str),")","&","|",":"]:List Str),up u=u:=by decide +kernel
  rcases List.mem_append.mp hy with m | m
  ·refine xW (p:=fun x=>BE2 (up x)) (fun u g=>BB6 (.inl g)) (fun n h0 h1=>BB6 (.inr ⟨n,h0,h1,rfl⟩)) ?_ ?_ ?_ ?_ ht y m
   ·rw [e _ (by simp)]; exact tok_open.h
   ·rw [e _ (by simp)]; exact tok_shut.h
   ·rw [e _ (by simp)]; exact tok_and.h
   ·rw [e _ (by simp)]; exact tok_or.h
  ·rcases List.mem_cons.mp m with rfl | m
   ·rw [e _ (by simp)]; exact tok_colon.h
   ·exact BB6 (nO h y m)
 ·refine mL ?_
  rw [List.map_append]
  exact AI9 ht
theorem CL9:Txt.replace (Str.join sp1 (t.ws++L.ws)) (" : ":Str) (" ":Str)=Str.join sp1 (t.ws++L.ws.tail):=by
 have ne:L.ws.tail≠[]:=by
  show wWs L.k L.m++_≠[]
  intro z
  have:=(List.append_eq_nil_iff.mp z).1
  unfold wWs at this
  repeat' split at this
  all_goals cases this
 have e:Str.join sp1 (t.ws++L.ws)=Str.join sp1 t.ws++(" : ":Str)++Str.join sp1 L.ws.tail:=by
  rw [eH (kI t) (show L.ws≠[] by unfold Ln.ws; simp),show L.ws=(":":Str)::L.ws.tail from rfl,cS ne]
  exact cV (by simp only [bW,List.append_assoc]; rfl)
 rw [e,BI6,eH (kI t) ne]
 ·rfl
 ·exact qA (by decide) (xW (p:=fun x=>58 ∉ x.cps.toList) (fun u g m=>by have:=g.2.2 _ m; omega) (fun n h0 h1 m=>by have:=nM h0 _ m; omega) (by decide) (by decide) (by decide) (by decide) ht)
 ·exact qA (by decide) fun x hx=>(nO h x hx).no (by decide) (by decide)
end
end Bw
namespace Bw
open PySem PySem.Spec PyProof.Rows L2 PySem.W
theorem BB7 {A:List Str}{z v:Str}:Str.join sp1 (A++[z])++v=Str.join sp1 (A++[z++v]):=by
 by_cases d:A=[]
 ·rw [d]; rfl
 ·rw [eH d (by simp),eH d (by simp),show Str.join sp1 [z]=z from rfl,show Str.join sp1 [z++v]=z++v from rfl]
  exact cV (by simp only [bW,List.append_assoc])
structure Brk (z:Str):Prop where
 t:BE2 z
 g:¬ aX z
 n:kY z=false
 o:∀ u:Str,10 ∉ u.cps.toList->z≠u
theorem brk {z:Str}(h:NmNum z):Brk (z++("\n":Str)):=by
 have tl:=h.tok
 have m10:10∈(z++("\n":Str)).cps.toList:=by rw [bW]; exact List.mem_append_right _ (by decide)
 obtain ⟨c,hc,n45⟩:∃ c,z.cps.toList.head?=some c/\c≠45:=by
  have l0:1<=z.length:=by
   rcases h with g | ⟨n,a,b,rfl⟩
   ·exact g.1
   ·exact (vE a b).1
  cases q:z.cps.toList with
  | nil =>
   have e:z.length=z.cps.toList.length:=by simp [Str.length]
   rw [e,q] at l0
   exact absurd l0 (by decide)
  | cons a l=>exact ⟨a,rfl,fun e=>h.no (c:=45) (by decide) (by decide) (by rw [q,e]; exact List.mem_cons_self)⟩
 have hh:(z++("\n":Str)).cps.toList.head?=some c:=by
  rw [bW]
  cases q:z.cps.toList with
  | nil=>rw [q] at hc; cases hc
  | cons a l=>rw [q] at hc; exact hc
 have nb:kY (z++("\n":Str))=false:=by
  unfold kY
  have e:Txt.startswith (z++("\n":Str)) "-"=false:=by
   show Txt.startswith (z++("\n":Str)) ⟨#[45]⟩=false
   rw [nL,hh]
   exact decide_eq_false fun z=>n45 (Option.some.inj z)
  rw [e,if_neg (by decide)]
  exact BM4 m10 (by decide)
 have ll:(z++("\n":Str)).length=z.length+1:=by rw [Str.length_append]; rfl
 have:=tl.2.2.1
 refine ⟨⟨fun m=>?_,by omega,plain_iff.mpr fun c hc=>?_,by omega,fun y=>by rw [nb] at y; cases y⟩,fun g=>by have:=g.2.2 10 m10; omega,nb,fun u hu e=>hu (e ▸ m10)⟩
 ·rw [bW] at m
  rcases List.mem_append.mp m with m | m
  ·exact tl.1 m
  ·exact absurd m (by decide)
 ·rw [bW] at hc
  rcases List.mem_append.mp hc with m | m
  ·exact plain_iff.mp tl.2.2.2.1 c m
  ·have e:c=10:=by simpa using (show c∈([10]:List Nat) from m)
   omega
section
variable {t:Tr}{L:Ln}(ht:t.wf) (h:L.ok) (hl:t.ws.length<=400)
include ht h hl
theorem AD0 {A:List Str}{z:Str}(e:L.ws=(":":Str)::(A++[z]))(hb:Brk (z++("\n":Str))->nW (t.ws++((":":Str)::(A++[z++("\n":Str)])))):AF9 (Str.join sp1 (t.ws++L.ws)++("\n":Str)):=by
 obtain ⟨a,b,c⟩:=nX ht h (by omega)
 have bz:=brk (nO h z (by rw [e]; simp))
 rw [e] at a b ⊢
 have e2:t.ws++((":":Str)::(A++[z]))=(t.ws++((":":Str)::A))++[z]:=by simp
 rw [e2,BB7]
 refine pZ rfl (by simp) (fT (fun x hx=>(a x ?_).h) (all_cons bz.t bX)) (by simp only [List.length_append,List.length_cons,List.length_nil] at b ⊢; omega) ?_
 ·rw [e2]; exact List.mem_append_left _ hx
 ·have q:=hb bz
  rw [show t.ws++((":":Str)::(A++[z++("\n":Str)]))=(t.ws++((":":Str)::A))++[z++("\n":Str)] by simp] at q
  exact q
theorem CM0:AF9 (Str.join sp1 (t.ws++L.ws)++("\n":Str)):=by
 obtain ⟨k,m,rs,su,ra⟩:=L
 have more:∀ {L':Ln}{z:Str},L'.ok->Brk z->nW (t.ws++((":":Str)::(L'.ws.tail++[z]))):=fun {L' z} h' bz=>AC6 (rD ht h' (r:=[z]) bz.g)
 have none_:∀ {q:List Str},pY ((":":Str)::q)=none->nW (t.ws++((":":Str)::q)):=fun {q} e t' L' z=>by
  rw [BB0 ht,e] at z
  cases z
 by_cases k3:k=3
 ·obtain ⟨v1,v2,v3⟩:=h.v k3
  dsimp only at v1 v2 v3
  subst k3 v1 v2 v3
  refine AD0 ht h hl (A:=[]) (z:="never") rfl fun bz=>none_ ?_
  have o:∀ u:Str,10 ∉ u.cps.toList->¬ ("never":Str)++("\n":Str)=u:=bz.o
  show (if (":":Str)=":" then (match BE1 [("never":Str)++("\n":Str)] with | none=>none | some (k,m,q)=>if k=3 then some ((⟨3,0,[],false,none⟩:Ln),q) else byF k m q) else none)=none
  have e:BE1 [("never":Str)++("\n":Str)]=none:=by
   unfold BE1
   rw [List.getD_cons_zero,if_neg (o _ (by decide)),if_neg (o _ (by decide)),if_neg (o _ (by decide)),if_neg (o _ (by decide))]
  rw [e,if_pos rfl]
 have r4:=h.r.2.2
 dsimp only at r4
 cases ra with
 | some x =>
  obtain ⟨x1,x2,x3⟩:=x
  obtain ⟨a1,a2,a3,a4,a5⟩:=h.a _ rfl
  cases x3 with
  | some u =>
   refine AD0 ht h hl (A:=(⟨k,m,rs,su,some (x1,x2,none)⟩:Ln).ws.tail) (z:=u) ?_ fun bz=>more ⟨h.k,h.m,h.r,h.n,fun e=>absurd e k3,fun x e=>?_⟩ bz
   ·simp [Ln.ws,wO,BA8]
   ·cases e; exact ⟨a1,a2,a3,a4,fun u e=>by cases e⟩
  | none =>
   refine AD0 ht h hl (A:=wWs k m++(("by":Str)::bY rs.length::(rs++((if su=true then [("sure":Str)] else [])++[("raise":Str),bY x1])))) (z:=bY x2) ?_ fun bz=>none_ ?_
   ·simp [Ln.ws,wO,BA8,k3]
   ·generalize bY x2++("\n":Str)=z at *
    rw [List.append_assoc]
    have q:=AI8 h ((("by":Str)::bY rs.length::(rs++((if su=true then [("sure":Str)] else [])++[("raise":Str),bY x1])))++[z])
    dsimp only at q
    rw [q,if_neg k3]
    have e2:(("by":Str)::bY rs.length::(rs++((if su=true then [("sure":Str)] else [])++[("raise":Str),bY x1])))++[z]=("by":Str)::bY rs.length::(rs++((if su=true then [("sure":Str)] else [])++[("raise":Str),bY x1,z])):=by simp
    rw [e2,BT3 r4]
    have e3:oJ ((if su=true then [("sure":Str)] else [])++[("raise":Str),bY x1,z])=(su,[("raise":Str),bY x1,z]):=by
     cases su
     ·exact if_neg (show ¬ ("raise":Str)="sure" by decide)
     ·rfl
    have e4:nV [("raise":Str),bY x1,z]=none:=by
     have:raF [bY x1,z]=none:=if_neg fun y=>by
      have:=y.2.1
      rw [show [bY x1,z].getD 1 ""=z from rfl,bz.n] at this
      cases this
     show (raF [bY x1,z]).map _=none
     rw [this]
     rfl
    rw [e3,e4]
    split <;> rfl
 | none =>
  cases su with
  | true =>
   refine AD0 ht h hl (A:=(⟨k,m,rs,false,none⟩:Ln).ws.tail) (z:="sure") ?_ fun bz=>more ⟨h.k,h.m,h.r,h.n,fun e=>absurd e k3,fun x e=>by cases e⟩ bz
   simp [Ln.ws,wO]
  | false =>
   have ne:=h.n k3
   dsimp only at ne
   have er:=(List.dropLast_concat_getLast ne).symm
   generalize rs.getLast ne=u at er
   generalize rs.dropLast=R at er
   subst er
   refine AD0 ht h hl (A:=wWs k m++(("by":Str)::bY (R++[u]).length::R)) (z:=u) ?_ fun bz=>none_ ?_
   ·simp [Ln.ws,wO,k3]
   ·generalize u++("\n":Str)=z at *
    rw [List.append_assoc]
    have q:=AI8 h ((("by":Str)::bY (R++[u]).length::R)++[z])
    dsimp only at q
    rw [q,if_neg k3]
    have e2:(("by":Str)::bY (R++[u]).length::R)++[z]=("by":Str)::bY (R++[z]).length::((R++[z])++[]):=by simp
    rw [e2,BT3 (by simpa using r4),if_neg fun y=>bz.g (y.2.1 z (by simp))]
end
def tlB (u:Str):Bool:=decide ((Txt.split u sp1).getD 0 "x"="") && (((Txt.split u sp1).drop 1).all (fun x=>!x.cps.toList.contains 32 && (decide (x.length<=30) && (kG x && (!kY x || (PySem.intText? x).isSome)))) && (decide (¬ aX (((Txt.split u sp1).drop 1).getD 0 "")) && (decide (((Txt.split u sp1).drop 1).length<=50) && (match pY ((Txt.split u sp1).drop 1) with | some (_,[])=>false | _=>true))))
def tl0:List Str:=[""," :"," : later"," : now"," : now by"," : now by 0"," : now by 2 mail"," : now by 1 mail pager"]
def tl1:List Str:=[" : now by 2 mail mail"," : now by 01 mail"," : now by 1 Mail"," : now by -1"]
def tl2:List Str:=[" : hour by 1 mail"," : hour 60 by 1 mail"," : hour -1 by 1 mail"," : day 1440 by 1 mail"]
def tl3:List Str:=[" : day 05 by 1 mail"]
def tl4:List Str:=[" : never by 1 mail"," : never sure"," : never raise 5 1"]
def tl5:List Str:=[" : now by 1 mail raise 05 1"," : now by 1 mail sure sure"]
def tl6:List Str:=[" : now by 1 mail raise"," : now by 1 mail raise 5"," : now by 1 mail raise 0 1"]
def tl7:List Str:=[" : now by 1 mail raise 5 -1"," : now by 1 mail raise 5 1 Boss"," : now by 1 mail raise 5 1 a b"]
def tl8:List Str:=[" : now by 1 mail raise 5 01"," : now by 1 mail raise +5 1"," : now by 1 mail raise 5 +1"]
def tl9:List Str:=[" : nowhere by 1 mail"," : now by 1 mail surely"," : now by 1 mail raised 5 1"," : nevermore"]
def tl10:List Str:=[" : hours 5 by 1 mail"," : day 5 bye 1 mail"]
def tl11:List Str:=[" : now by 1 mail raise 5 1 a sure"," : now by 1 mail raise 5 1 raise 5 1"," : : now by 1 mail"]
def tlAll:List Str:=tl0++tl1++tl2++tl3++tl4++tl5++tl6++tl7++tl8++tl9++tl10++tl11
theorem BI7:tlAll.all tlB=true:=by decide +kernel
theorem BB8:tlAll.length=40:=by decide +kernel
theorem CM1 {t:Tr}(ht:t.wf)(hl:t.ws.length<=400){u:Str}(h:tlB u=true):AF9 (t.tx++u):=by
 unfold tlB at h
 have ej:=StrLaws.join_split u sp1
 cases es:Txt.split u sp1 with
 | nil=>exact absurd es (AO2 _ _)
 | cons w ws =>
 rw [es] at h ej
 simp only [Bool.and_eq_true,decide_eq_true_eq] at h
 obtain ⟨h1,h2,h3,h4,h5⟩:=h
 have hw:w="":=h1
 subst hw
 have ed:(("":Str)::ws).drop 1=ws:=rfl
 rw [ed] at h2 h3 h4 h5
 have tok:∀ x∈ws,BE2 x:=fun x hx=>by
  have q:=List.all_eq_true.mp h2 x hx
  simp only [Bool.and_eq_true,Bool.not_eq_true',decide_eq_true_eq,Bool.or_eq_true] at q
  obtain ⟨q1,q2,q3,q4⟩:=q
  refine ⟨fun m=>?_,q2,q3,by omega,fun z=>?_⟩
  ·have:=List.contains_iff_mem.mpr m
   rw [q1] at this
   cases this
  ·rcases q4 with q4 | q4
   ·rw [q4] at z; cases z
   ·exact Option.isSome_iff_exists.mp q4
 have nn:BE0 ws:=by
  cases ws with
  | nil=>trivial
  | cons v ws=>exact h3
 have nl:nW (t.ws++ws):=fun t' L' z=>by
  unfold mK at z
  have e:AO3 (t.ws++ws) []=some (t,ws):=AQ5 (S:=[]) ht nn
  rw [e] at z
  dsimp only at z
  cases e2:pY ws with
  | none=>rw [e2] at z; cases z
  | some y =>
   obtain ⟨L2,r2⟩:=y
   rw [e2] at z h5
   cases z
   cases h5
 refine pZ (ws:=t.ws++ws) ?_ (fun z=>kI t (List.append_eq_nil_iff.mp z).1) (fT (fun x hx=>(sR ht x hx).h) tok) (by rw [List.length_append]; omega) nl
 rw [<- ej]
 by_cases c:ws=[]
 ·subst c
  rw [List.append_nil,<- vB t ht]
  exact cV (by simp only [bW]; exact List.append_nil _)
 ·rw [cS c,eH (kI t) c,<- vB t ht]
  exact cV (by simp only [bW,List.append_assoc]; rfl)
end Bw
set_option maxHeartbeats 8000000
namespace Bw
open PySem L2 PySem.W
def tpl0 (n:Lean.Name):Option Nat:=match n with |.str .anonymous s=>if s.length==2&&s.front=='Z' then some ((s.get ⟨1⟩).toNat-48) else none |_=>none
def tpl1 (T:Array Lean.Syntax):Nat->Lean.Syntax->Lean.MacroM Lean.Syntax
 |0,s=>pure s
 |n+1,s=>s.replaceM fun t=>do
  let k:=t.getKind
  if k==``Lean.Parser.Tactic.«tacticExists_,,»||k==``Lean.Parser.Term.nomatch||k==``coeNotation then
   let a:=if k==``coeNotation then #[t[1]] else t[1].getSepArgs
   match a[0]!.isNatLit? with
   |some i=>do
    let b←T[i]!.replaceM fun u=>match u with |.ident _ _ m _=>pure ((tpl0 m).map fun j=>a[j+1]!) |_=>pure none
    if k==``Lean.Parser.Tactic.«tacticExists_,,» then
     let z:Lean.TSyntax ``Lean.Parser.Tactic.tacticSeq:=⟨b[1]⟩
     return some (←tpl1 T n (←`(tactic|($z))))
    else
     let z:Lean.Term:=⟨b⟩
     return some (←tpl1 T n (←`(($z))))
   |none=>pure none
  else pure none
local macro_rules
 |`(command| mutual $cs* end)=>do
  let mut T:=#[]
  let mut r:=#[]
  for c in cs do
   match c with
   |`(command| example:=$v)=>T:=T.push v.raw
   |_=>r:=r.push c.raw
  if T.size==0 then Lean.Macro.throwUnsupported
  return Lean.mkNullNode (←r.mapM (tpl1 T 9))
local macro_rules | `(tactic| walk_at "sc") => `(tactic| exact ⟨rfl,rfl,rfl,by decide +kernel,rfl,by decide +kernel,by decide +kernel⟩)
set_option hygiene false
local macro_rules | `(tactic| nofun) => `(tactic| exists and_self)
local macro_rules | `(tactic| exists $[$es:term],*) => `(tactic| try simp only [$[$es:term],*, BO7, CD4, BX7, BX8, CD5, CD8, CD6, CD7, AV4, BO8, BO9, AV5, BP0, AG5, AV6, BP1, w_c, CD9, CE0, CE1, BP2, CE2, AV7, w_b, BP3, CE3, w_not, AV8, BP4, AV9, CE4, AW0, BP5, BP6, BP7, AW1, CE5, CE6, CE7, BP8, AW2, CF3, AW3, yK, AW4, AW5, w_K, AH0, BQ8, CF8, BR9, AH1, AH2, BR2, AH3, AH4, AH5, CG2, BR3, BR4, AX3, BR5, AX4, AX6, AH6, AH7, AY2, BR8, AY3, AH8, AY5, AY4, AH9, zB, AI6, BA7, yT, AI4, BA0, yV, BA2, BA3, CF9, AI2, AI0, Option.getD_some,  exists_const, false_or, or_false, exists_false, CE8, CE9, CF0, CF1, CF2, L2.start, List.map_cons, List.map_nil, List.length_cons, List.length_nil, List.replicate, List.replicate_zero, List.replicate_succ, Nat.reduceAdd, Nat.reduceSub, Nat.reduceLeDiff, List.cons_append, List.nil_append, List.append_nil, List.set_cons_zero, List.set_cons_succ, List.getElem?_cons_zero, List.getElem?_cons_succ, Option.some.injEq, V.int.injEq, V.bl.injEq, V.ref.injEq, V.str.injEq, V.ty.injEq, List.cons.injEq, and_true, true_and, exists_eq_left, exists_eq_left', exists_and_left, exists_eq, exists_eq', and_self, decide_eq_true_eq, Bool.not_eq_true', decide_eq_false_iff_not, Bool.true_eq_false, Bool.false_eq_true, if_true, if_false, ite_true, ite_false, false_and, and_false, and_assoc, reduceCtorEq])
theorem pc {X:Cx}{x:Str}{ps:List Str}{k j:Nat}{sp:Sp}{e:Expr}{es:List Expr}{t:TA}{p pos:Pos}(C:CalX X.prog X.w X.K X.mg X.base x ps k sp)(hr:Room j X.A)(hg:Gl X x)(ha:PA X (e::es) t)(hk:k<=j:=by decide)(hdb:(x == ("__debug__":Str))=false:=by decide)(h1:pQ e=false:=by rfl)(h2:AB7 es=true:=by rfl):PE X (.Call (.Name x p) (e::es) [] pos) (yF sp [] E0 t):=jV C (hr.mono hk) hg ha hdb (aD _ _ _ h1) (aF h2)
local macro_rules | `(tactic| walk_at "ln") => `(tactic| (intro vs H Q E h; (repeat (obtain ⟨_, h⟩ := h)); all_goals (subst_vars; rfl)))
def top (i:Nat):Stmt:=PySem.Challenge.pw_bellsaway_k17_lines_as_texts.main.body.getD i (.Pass ⟨0,0,0,0⟩)
abbrev bD:Stmt:=aK (top 7) 0
theorem jP:FnScope ["self","line"] ["self","line"] (aI bD):=by walk_at "sc"
abbrev rE:Stmt:=top 9
theorem AJ0:FnScope ["thing"] ["thing"] (aI rE):=by walk_at "sc"
abbrev fB:Stmt:=top 10
theorem oK:FnScope ["thing","least","most"] ["thing","least","most"] (aI fB):=by walk_at "sc"
abbrev iS:Stmt:=top 11
theorem tF:FnScope ["thing","least"] ["thing","least"] (aI iS):=by walk_at "sc"
abbrev vH:Stmt:=top 15
theorem AR3:FnScope ["thing"] ["thing"] (aI vH):=by walk_at "sc"
abbrev fC:Stmt:=top 19
theorem oM:FnScope ["thing"] ["thing"] (aI fC):=by walk_at "sc"
abbrev mM:Stmt:=top 20
theorem zE:FnScope ["word"] ["word"] (aI mM):=by walk_at "sc"
abbrev oN:Stmt:=top 21
theorem AD1:FnScope ["word"] ["word"] (aI oN):=by walk_at "sc"
abbrev gR:Stmt:=aK (top 22) 0
theorem rF:FnScope ["self","text"] ["self","text"] (aI gR):=by walk_at "sc"
abbrev gS:Stmt:=aK (top 22) 1
theorem rG:FnScope ["self"] ["self"] (aI gS):=by walk_at "sc"
abbrev mP:Stmt:=aK (top 22) 2
theorem zF:FnScope ["self"] ["self"] (aI mP):=by walk_at "sc"
abbrev mQ:Stmt:=aK (top 22) 3
theorem sc_Words_take:FnScope ["self","word"] ["self"] (aI mQ):=by walk_at "sc"
abbrev lE:Stmt:=aK (top 22) 4
theorem wS:FnScope ["self","word"] ["self","word"] (aI lE):=by walk_at "sc"
abbrev jW:Stmt:=aK (top 22) 5
theorem vI:FnScope ["self","word"] ["self","word"] (aI jW):=by walk_at "sc"
abbrev fD:Stmt:=aK (top 22) 6
theorem oO:FnScope ["self"] ["self"] (aI fD):=by walk_at "sc"
abbrev eM:Stmt:=aK (top 22) 7
theorem sc_Words_take_number:FnScope ["self","word"] ["self"] (aI eM):=by walk_at "sc"
abbrev fE:Stmt:=aK (top 22) 11
theorem sc_Words_take_names:FnScope ["self","names"] ["self"] (aI fE):=by walk_at "sc"
abbrev fU:Stmt:=aK (top 22) 12
theorem sc_Words_take_some:FnScope ["self","count","some"] ["self","count"] (aI fU):=by walk_at "sc"
abbrev iT:Stmt:=aK (top 26) 0
theorem tG:FnScope ["self","names"] ["self","names"] (aI iT):=by walk_at "sc"
abbrev gT:Stmt:=aK (top 27) 0
theorem rH:FnScope ["self","names"] ["self","names"] (aI gT):=by walk_at "sc"
abbrev gW:Stmt:=aK (top 28) 0
theorem rJ:FnScope ["self","weight"] ["self","weight"] (aI gW):=by walk_at "sc"
abbrev jX:Stmt:=aK (top 29) 0
theorem vJ:FnScope ["self","fit"] ["self","fit"] (aI jX):=by walk_at "sc"
abbrev iU:Stmt:=aK (top 30) 0
theorem tH:FnScope ["self","fits"] ["self","fits"] (aI iU):=by walk_at "sc"
abbrev fV:Stmt:=aK (top 31) 0
theorem qB:FnScope ["self","fits"] ["self","fits"] (aI fV):=by walk_at "sc"
abbrev lF:Stmt:=top 32
theorem wT:FnScope ["names"] ["names"] (aI lF):=by walk_at "sc"
abbrev oP:Stmt:=top 33
theorem AD2:FnScope ["fit"] ["fit"] (aI oP):=by walk_at "sc"
abbrev mR:Stmt:=top 34
theorem sc_check_fits:FnScope ["fits","fit"] ["fits"] (aI mR):=by walk_at "sc"
abbrev fG:Stmt:=top 38
theorem oQ:FnScope ["thing"] ["thing"] (aI fG):=by walk_at "sc"
abbrev dI:Stmt:=top 39
theorem lG:FnScope ["minute"] ["minute"] (aI dI):=by walk_at "sc"
abbrev dR:Stmt:=top 40
theorem lY:FnScope ["minute"] ["minute"] (aI dR):=by walk_at "sc"
abbrev iV:Stmt:=aK (top 44) 0
theorem tI:FnScope ["self","minute"] ["self","minute"] (aI iV):=by walk_at "sc"
abbrev jY:Stmt:=aK (top 45) 0
theorem vK:FnScope ["self","minute"] ["self","minute"] (aI jY):=by walk_at "sc"
abbrev bP:Stmt:=aK (top 48) 0
theorem qC:FnScope ["self","minutes","times","to"] ["self","minutes","times","to"] (aI bP):=by walk_at "sc"
abbrev bM:Stmt:=aK (top 49) 0
theorem tJ:FnScope ["self","fit","way","roads","sure","raised"] ["self","fit","way","roads","sure","raised"] (aI bM):=by walk_at "sc"
abbrev jZ:Stmt:=top 50
theorem vL:FnScope ["way","roads","sure","raised"] ["way","roads","sure","raised"] (aI jZ):=by walk_at "sc"
abbrev rK:Stmt:=top 52
theorem AJ1:FnScope ["fit"] ["fit"] (aI rK):=by walk_at "sc"
abbrev rL:Stmt:=top 53
theorem AJ2:FnScope ["way"] ["way"] (aI rL):=by walk_at "sc"
abbrev lH:Stmt:=top 54
theorem sc_show_raised:FnScope ["raised","words"] ["raised"] (aI lH):=by walk_at "sc"
abbrev oR:Stmt:=top 55
theorem sc_show_line:FnScope ["line","words"] ["line"] (aI oR):=by walk_at "sc"
abbrev oS:Stmt:=top 56
theorem AD3:FnScope ["text"] ["text"] (aI oS):=by walk_at "sc"
abbrev mS:Stmt:=top 57
theorem sc_read_whole:FnScope ["text","part_from","words","found"] ["text","part_from"] (aI mS):=by walk_at "sc"
abbrev fX:Stmt:=aK (top 58) 0
theorem qD:FnScope ["self","sign"] ["self","sign"] (aI fX):=by walk_at "sc"
abbrev rM:Stmt:=top 59
theorem sc_fit_from:FnScope ["words","opened","fit"] ["words"] (aI rM):=by walk_at "sc"
abbrev gX:Stmt:=top 60
theorem sc_plain_fit_from:FnScope ["words","opened","word"] ["words","opened"] (aI gX):=by walk_at "sc"
abbrev zG:Stmt:=top 61
theorem sc_closed:FnScope ["fit","words","opened","last"] ["fit","words","opened"] (aI zG):=by walk_at "sc"
abbrev gY:Stmt:=top 62
theorem sc_is_closed_here:FnScope ["bracket","words","word"] ["bracket","words"] (aI gY):=by walk_at "sc"
abbrev zH:Stmt:=top 63
theorem BB9:FnScope ["opened"] ["opened"] (aI zH):=by walk_at "sc"
abbrev rN:Stmt:=top 64
theorem sc_way_from:FnScope ["words","word"] ["words"] (aI rN):=by walk_at "sc"
abbrev lI:Stmt:=top 65
theorem sc_raised_from:FnScope ["words","minutes","times","to"] ["words"] (aI lI):=by walk_at "sc"
abbrev oT:Stmt:=top 66
theorem sc_line_from:FnScope ["words","fit","way","roads","sure","raised"] ["words"] (aI oT):=by walk_at "sc"
abbrev oU:Stmt:=top 69
theorem AD4:FnScope ["_law_cell"] ["_law_cell"] (aI oU):=by walk_at "sc"
abbrev rO:Stmt:=top 70
theorem sc_law_next:FnScope ["_law_state","_law_base","_law_found","_law_number"] ["_law_state","_law_base"] (aI rO):=by walk_at "sc"
abbrev rP:Stmt:=top 71
theorem sc_law_name:FnScope ["_law_state","_law_letters","_law_way_here","_law_some","_law_word","_law_at"] ["_law_state"] (aI rP):=by walk_at "sc"
abbrev rQ:Stmt:=top 72
theorem sc_law_leaf:FnScope ["_law_state","_law_more","_law_kind","_law_names","_law_k","_law_name_here"] ["_law_state","_law_more"] (aI rQ):=by walk_at "sc"
abbrev rR:Stmt:=top 73
theorem sc_law_tree:FnScope ["_law_state","_law_deep","_law_more","_law_kind","_law_parts"] ["_law_state","_law_deep","_law_more"] (aI rR):=by walk_at "sc"
abbrev rS:Stmt:=top 74
theorem AJ3:FnScope ["_law_tree_here"] ["_law_tree_here"] (aI rS):=by walk_at "sc"
abbrev rT:Stmt:=top 75
theorem sc_law_text:FnScope ["_law_tree_here","_law_sign"] ["_law_tree_here"] (aI rT):=by walk_at "sc"
abbrev rV:Stmt:=top 76
theorem sc_law_same:FnScope ["_law_fit","_law_tree_here","_law_kinds","_law_words"] ["_law_fit","_law_tree_here"] (aI rV):=by walk_at "sc"
abbrev oV:Stmt:=top 77
theorem sc_law_roads:FnScope ["_law_state","_law_found","_law_k","_law_name_here"] ["_law_state"] (aI oV):=by walk_at "sc"
abbrev gZ:Stmt:=top 78
theorem sc_law_drawn_line:FnScope ["_law_state","_law_more","_law_tree_here","_law_ways","_law_way_here","_law_roads_here","_law_raised","_law_to"] ["_law_state","_law_more"] (aI gZ):=by walk_at "sc"
abbrev iW:Stmt:=top 79
theorem sc_law_line_text:FnScope ["_law_line","_law_tree_here","_law_way_here","_law_roads_here","_law_sure","_law_raised","_law_words"] ["_law_line"] (aI iW):=by walk_at "sc"
abbrev vM:Stmt:=top 80
theorem AR4:FnScope ["_law_word","_law_minute"] ["_law_word","_law_minute"] (aI vM):=by walk_at "sc"
abbrev iX:Stmt:=top 81
theorem sc_law_made_line:FnScope ["_law_line","_law_tree_here","_law_way_here","_law_roads_here","_law_sure","_law_raised","_law_handed"] ["_law_line"] (aI iX):=by walk_at "sc"
abbrev iY:Stmt:=top 82
theorem sc_law_same_line:FnScope ["_law_found","_law_line","_law_tree_here","_law_way_here","_law_roads_here","_law_sure","_law_raised","_law_kinds"] ["_law_found","_law_line"] (aI iY):=by walk_at "sc"
abbrev lJ:Stmt:=top 83
theorem sc_law_refused:FnScope ["_law_text_here","_law_found","e"] ["_law_text_here"] (aI lJ):=by walk_at "sc"
abbrev oW:Stmt:=top 84
theorem sc_law_tails:FnScope ["_law_some"] [] (aI oW):=by walk_at "sc"
abbrev AR5:Stmt:=top 85
theorem sc_law:FnScope ["_law_script","_law_cell","_law_state","_law_line","_law_text_here","_law_made_here","_law_found","_law_tail","_law_odd"] ["_law_script"] (aI AR5):=by walk_at "sc"
structure Ad where
 BellError:Addr
 NoClock:Addr
 NoFit:Addr
 NoWish:Addr
 NoRow:Addr
 NoText:Addr
 Words:Addr
 Fit:Addr
 Any:Addr
 Kind:Addr
 Place:Addr
 Least:Addr
 Not:Addr
 Both:Addr
 Either:Addr
 Way:Addr
 Now:Addr
 Hour:Addr
 Day:Addr
 Never:Addr
 Raised:Addr
 Line:Addr
 Opened:Addr
 line_from:Addr
 t0:Tok
 t1:Tok
 t2:Tok
 t3:Tok
 t4:Tok
 t5:Tok
structure Bt (K:Frag) (mg:Str->Option Value) (a:Ad):Prop where
 len:mg "len"=none
 int:mg "int"=none
 bool:mg "bool"=none
 str:mg "str"=none
 tuple:mg "tuple"=none
 list:mg "list"=none
 all:mg "all"=none
 isinstance:mg "isinstance"=none
 range:mg "range"=none
 set:mg "set"=none
 ValueError:mg "ValueError"=none
 LETTERS:mg "LETTERS"=some (.str "abcdefghijklmnopqrstuvwxyz" a.t0)
 MOST_LETTERS:mg "MOST_LETTERS"=some (.int 8 a.t1)
 FIGURES:mg "FIGURES"=some (.str "0123456789" a.t2)
 MOST_FIGURES:mg "MOST_FIGURES"=some (.int 60 a.t3)
 MINUTES_OF_HOUR:mg "MINUTES_OF_HOUR"=some (.int 60 a.t4)
 MINUTES_OF_DAY:mg "MINUTES_OF_DAY"=some (.int 1440 a.t5)
 BellError:mg "BellError"=some (.ref a.BellError)
 NoClock:mg "NoClock"=some (.ref a.NoClock)
 NoFit:mg "NoFit"=some (.ref a.NoFit)
 NoWish:mg "NoWish"=some (.ref a.NoWish)
 NoRow:mg "NoRow"=some (.ref a.NoRow)
 NoText:mg "NoText"=some (.ref a.NoText)
 Words:mg "Words"=some (.ref a.Words)
 Fit:mg "Fit"=some (.ref a.Fit)
 Any:mg "Any"=some (.ref a.Any)
 Kind:mg "Kind"=some (.ref a.Kind)
 Place:mg "Place"=some (.ref a.Place)
 Least:mg "Least"=some (.ref a.Least)
 Not:mg "Not"=some (.ref a.Not)
 Both:mg "Both"=some (.ref a.Both)
 Either:mg "Either"=some (.ref a.Either)
 Way:mg "Way"=some (.ref a.Way)
 Now:mg "Now"=some (.ref a.Now)
 Hour:mg "Hour"=some (.ref a.Hour)
 Day:mg "Day"=some (.ref a.Day)
 Never:mg "Never"=some (.ref a.Never)
 Raised:mg "Raised"=some (.ref a.Raised)
 Line:mg "Line"=some (.ref a.Line)
 Opened:mg "Opened"=some (.ref a.Opened)
 line_from:mg "line_from"=some (.ref a.line_from)
 excK_NoText:ExcK K a.NoText
 exc_NoFit:excIn K a.NoFit vbm "ValueError.__new__"=true
 exm_NoFit:exmOne K (.ref a.NoFit) (.ref a.BellError)=some true
 exm_NoText:exmOne K (.ref a.NoText) (.ref a.BellError)=some true
 xhd:hasDictIn K a.NoText=true
 xmo:mroIn K a.NoText (.type "object")=some true
 xna:NoAttr K a.NoText "line"
 xs:∃ cd,ExcS K a.NoText cd
 ck_Any:ClsK K a.Any
 ck_Kind:ClsK K a.Kind
 na_Kind_names:NoAttr K a.Kind "names"
 ck_Place:ClsK K a.Place
 na_Place_names:NoAttr K a.Place "names"
 ck_Least:ClsK K a.Least
 na_Least_weight:NoAttr K a.Least "weight"
 ck_Not:ClsK K a.Not
 na_Not_fit:NoAttr K a.Not "fit"
 ck_Both:ClsK K a.Both
 na_Both_fits:NoAttr K a.Both "fits"
 ck_Either:ClsK K a.Either
 na_Either_fits:NoAttr K a.Either "fits"
 ck_Words:ClsK K a.Words
 na_Words_words:NoAttr K a.Words "words"
 na_Words_at:NoAttr K a.Words "at"
 ck_Opened:ClsK K a.Opened
 na_Opened_sign:NoAttr K a.Opened "sign"
 na_Opened_inner:NoAttr K a.Opened "inner"
 is_Any_Fit:kitOne K (.ref a.Any) (.ref a.Fit)=some true
 is_Kind_Fit:kitOne K (.ref a.Kind) (.ref a.Fit)=some true
 is_Place_Fit:kitOne K (.ref a.Place) (.ref a.Fit)=some true
 is_Least_Fit:kitOne K (.ref a.Least) (.ref a.Fit)=some true
 is_Not_Fit:kitOne K (.ref a.Not) (.ref a.Fit)=some true
 is_Both_Fit:kitOne K (.ref a.Both) (.ref a.Fit)=some true
 is_Either_Fit:kitOne K (.ref a.Either) (.ref a.Fit)=some true
 is_Any_Any:kitOne K (.ref a.Any) (.ref a.Any)=some true
 is_Any_Kind:kitOne K (.ref a.Any) (.ref a.Kind)=some false
 is_Any_Place:kitOne K (.ref a.Any) (.ref a.Place)=some false
 is_Any_Least:kitOne K (.ref a.Any) (.ref a.Least)=some false
 is_Any_Not:kitOne K (.ref a.Any) (.ref a.Not)=some false
 is_Any_Both:kitOne K (.ref a.Any) (.ref a.Both)=some false
 is_Any_Either:kitOne K (.ref a.Any) (.ref a.Either)=some false
 is_Kind_Any:kitOne K (.ref a.Kind) (.ref a.Any)=some false
 is_Kind_Kind:kitOne K (.ref a.Kind) (.ref a.Kind)=some true
 is_Kind_Place:kitOne K (.ref a.Kind) (.ref a.Place)=some false
 is_Kind_Least:kitOne K (.ref a.Kind) (.ref a.Least)=some false
 is_Kind_Not:kitOne K (.ref a.Kind) (.ref a.Not)=some false
 is_Kind_Both:kitOne K (.ref a.Kind) (.ref a.Both)=some false
 is_Kind_Either:kitOne K (.ref a.Kind) (.ref a.Either)=some false
 is_Place_Any:kitOne K (.ref a.Place) (.ref a.Any)=some false
 is_Place_Kind:kitOne K (.ref a.Place) (.ref a.Kind)=some false
 is_Place_Place:kitOne K (.ref a.Place) (.ref a.Place)=some true
 is_Place_Least:kitOne K (.ref a.Place) (.ref a.Least)=some false
 is_Place_Not:kitOne K (.ref a.Place) (.ref a.Not)=some false
 is_Place_Both:kitOne K (.ref a.Place) (.ref a.Both)=some false
 is_Place_Either:kitOne K (.ref a.Place) (.ref a.Either)=some false
 is_Least_Any:kitOne K (.ref a.Least) (.ref a.Any)=some false
 is_Least_Kind:kitOne K (.ref a.Least) (.ref a.Kind)=some false
 is_Least_Place:kitOne K (.ref a.Least) (.ref a.Place)=some false
 is_Least_Least:kitOne K (.ref a.Least) (.ref a.Least)=some true
 is_Least_Not:kitOne K (.ref a.Least) (.ref a.Not)=some false
 is_Least_Both:kitOne K (.ref a.Least) (.ref a.Both)=some false
 is_Least_Either:kitOne K (.ref a.Least) (.ref a.Either)=some false
 is_Not_Any:kitOne K (.ref a.Not) (.ref a.Any)=some false
 is_Not_Kind:kitOne K (.ref a.Not) (.ref a.Kind)=some false
 is_Not_Place:kitOne K (.ref a.Not) (.ref a.Place)=some false
 is_Not_Least:kitOne K (.ref a.Not) (.ref a.Least)=some false
 is_Not_Not:kitOne K (.ref a.Not) (.ref a.Not)=some true
 is_Not_Both:kitOne K (.ref a.Not) (.ref a.Both)=some false
 is_Not_Either:kitOne K (.ref a.Not) (.ref a.Either)=some false
 is_Both_Any:kitOne K (.ref a.Both) (.ref a.Any)=some false
 is_Both_Kind:kitOne K (.ref a.Both) (.ref a.Kind)=some false
 is_Both_Place:kitOne K (.ref a.Both) (.ref a.Place)=some false
 is_Both_Least:kitOne K (.ref a.Both) (.ref a.Least)=some false
 is_Both_Not:kitOne K (.ref a.Both) (.ref a.Not)=some false
 is_Both_Both:kitOne K (.ref a.Both) (.ref a.Both)=some true
 is_Both_Either:kitOne K (.ref a.Both) (.ref a.Either)=some false
 is_Either_Any:kitOne K (.ref a.Either) (.ref a.Any)=some false
 is_Either_Kind:kitOne K (.ref a.Either) (.ref a.Kind)=some false
 is_Either_Place:kitOne K (.ref a.Either) (.ref a.Place)=some false
 is_Either_Least:kitOne K (.ref a.Either) (.ref a.Least)=some false
 is_Either_Not:kitOne K (.ref a.Either) (.ref a.Not)=some false
 is_Either_Both:kitOne K (.ref a.Either) (.ref a.Both)=some false
 is_Either_Either:kitOne K (.ref a.Either) (.ref a.Either)=some true
 mk_Any:MkN K a.Any
 exc_NoClock:excIn K a.NoClock vbm "ValueError.__new__"=true
 exm_NoClock:exmOne K (.ref a.NoClock) (.ref a.BellError)=some true
 exc_NoWish:excIn K a.NoWish vbm "ValueError.__new__"=true
 exm_NoWish:exmOne K (.ref a.NoWish) (.ref a.BellError)=some true
 any1:kitAny K (.ref a.NoText) ([.ref a.NoClock,.ref a.NoFit,.ref a.NoRow,.ref a.NoWish]:List Value)=some false
 isV:kitOne K (.ref a.NoText) (.type "ValueError")=some true
 isT:kitOne K (.ref a.NoText) (.ref a.NoText)=some true
 ck_Now:ClsK K a.Now
 ck_Hour:ClsK K a.Hour
 na_Hour_minute:NoAttr K a.Hour "minute"
 ck_Day:ClsK K a.Day
 na_Day_minute:NoAttr K a.Day "minute"
 ck_Never:ClsK K a.Never
 ck_Raised:ClsK K a.Raised
 na_Raised_minutes:NoAttr K a.Raised "minutes"
 na_Raised_times:NoAttr K a.Raised "times"
 na_Raised_to:NoAttr K a.Raised "to"
 ck_Line:ClsK K a.Line
 na_Line_fit:NoAttr K a.Line "fit"
 na_Line_way:NoAttr K a.Line "way"
 na_Line_roads:NoAttr K a.Line "roads"
 na_Line_sure:NoAttr K a.Line "sure"
 na_Line_raised:NoAttr K a.Line "raised"
 is_Now_Way:kitOne K (.ref a.Now) (.ref a.Way)=some true
 is_Now_Now:kitOne K (.ref a.Now) (.ref a.Now)=some true
 is_Now_Hour:kitOne K (.ref a.Now) (.ref a.Hour)=some false
 is_Now_Day:kitOne K (.ref a.Now) (.ref a.Day)=some false
 is_Now_Never:kitOne K (.ref a.Now) (.ref a.Never)=some false
 is_Hour_Way:kitOne K (.ref a.Hour) (.ref a.Way)=some true
 is_Hour_Now:kitOne K (.ref a.Hour) (.ref a.Now)=some false
 is_Hour_Hour:kitOne K (.ref a.Hour) (.ref a.Hour)=some true
 is_Hour_Day:kitOne K (.ref a.Hour) (.ref a.Day)=some false
 is_Hour_Never:kitOne K (.ref a.Hour) (.ref a.Never)=some false
 is_Day_Way:kitOne K (.ref a.Day) (.ref a.Way)=some true
 is_Day_Now:kitOne K (.ref a.Day) (.ref a.Now)=some false
 is_Day_Hour:kitOne K (.ref a.Day) (.ref a.Hour)=some false
 is_Day_Day:kitOne K (.ref a.Day) (.ref a.Day)=some true
 is_Day_Never:kitOne K (.ref a.Day) (.ref a.Never)=some false
 is_Never_Way:kitOne K (.ref a.Never) (.ref a.Way)=some true
 is_Never_Now:kitOne K (.ref a.Never) (.ref a.Now)=some false
 is_Never_Hour:kitOne K (.ref a.Never) (.ref a.Hour)=some false
 is_Never_Day:kitOne K (.ref a.Never) (.ref a.Day)=some false
 is_Never_Never:kitOne K (.ref a.Never) (.ref a.Never)=some true
 is_Raised_Raised:kitOne K (.ref a.Raised) (.ref a.Raised)=some true
 is_Line_Line:kitOne K (.ref a.Line) (.ref a.Line)=some true
 mk_Now:MkN K a.Now
 mk_Never:MkN K a.Never
def okI (K:Frag)(H:Hp)(x:V):Prop:=∃ t,TyOf K H x t/\kitOne K t (.type "int")=some (BL2 x)/\kitOne K t (.type "bool")=some (AV3 x)
def okK (K:Frag)(c:Value)(H:Hp)(x:V)(b:Bool):Prop:=∃ t,TyOf K H x t/\kitOne K t c=some b
abbrev noL (K:Frag)(H:Hp)(x:V):Prop:=∃ t,TyOf K H x t/\kitOne K t (.type "list")=some false
theorem okK.same {K:Frag}{c:Value}{H H':Hp}{x:V}{b:Bool}(h:okK K c H x b)(s:Same H H'):okK K c H' x b:=let ⟨t,y,r⟩:=h; ⟨t,TyOf.same y s,r⟩
def AS7:V->Str
 | .str u=>u
 | _=>Str.empty
def qE (xs:List V):Bool:=xs.all jH && decide ((xs.map AS7).Nodup)
theorem BC0 {x:V}(h:jH x=true):x=.str (AS7 x):=by cases x <;> first | rfl | cases h
theorem BC1:∀ {xs:List V},xs.all jH=true->xs=(xs.map AS7).map V.str
 | [],_=>rfl
 | x::xs,h=>by
  simp only [List.all_cons,Bool.and_eq_true] at h
  rw [List.map_cons,List.map_cons,<- BC0 h.1,<- BC1 h.2]
def CM2 (K:Frag)(H:Hp)(x:V)(b:Bool):Prop:=(∃ p xs,x=.ref p/\H p=some (.lst xs)/\xs.length<=1000/\(∀ y∈xs,okN H y)/\b=qE xs)\/(b=false/\noL K H x)
theorem lK {k:Str}{v:V}:∀ {fs:List (Str × V)},(∀ q∈fs,q.1≠k)->pO k v fs=fs++[(k,v)]
 | [],_=>rfl
 | (k0,v0)::fs,h=>by
  show (if k0=k then _ else _:List (Str × V))=_
  rw [if_neg (h (k0,v0) List.mem_cons_self),lK fun q hq=>h q (List.mem_cons_of_mem _ hq)]
  rfl
def AR6 (t:TS):TS:=t
theorem BM9 {t:TS}{D:Ends}{σ:L2.St}{H:Hp}:AR6 t D σ H=t D σ H:=rfl
theorem AO8 {t:TE}{nx:L2.St->Hp->Prop}{rt:VK}{bk ct:L2.St->Hp->Prop}{σ:L2.St}{H:Hp}(h:t σ H rt):AR6 (CB3 t) { nx:=nx,rt:=rt,bk:=bk,ct:=ct } σ H:=h
local macro_rules | `(tactic| walk_at "hr") => `(tactic| (first | refine AO8 ?_ | (dsimp only; refine AO8 ?_)))
local macro_rules | `(tactic| walk_at "ho") => `(tactic| (first | rw [BM9] | (dsimp only; rw [BM9])))
theorem aP {X:Cx}{b:List Stmt}{t:TS}(h:QSs X b t):QSs X b (AR6 t):=h
theorem cM {H H':Hp}{x dx:Addr}{o o':HO}(hx:H x=none)(hd:H dx=none)(b:But x (upd (upd H dx o) x o') H'):Same H H':=fun c u e=>b c u (aQ e hx) (bA hx hd c u e)
abbrev fc (a:Ad):FC:=⟨a.Any,a.Kind,a.Place,a.Least,a.Not,a.Both,a.Either⟩
def IsX (a:Ad)(cls:Value):Prop:=cls=.ref a.NoFit\/cls=.ref a.NoText
def FrOk (k i:Nat)(f:OF):Prop:=((f.sg="not"/\f.inn=[])\/(f.sg="("/\f.inn=[])\/((f.sg="&"\/f.sg="|")/\f.inn≠[]))/\f.inn.length+k<=i
def mkF (sg:Str)(inn:List Tr):Option Tr:=if sg="not" then inn.head?.map Tr.not else if sg="&" then some (.both (Trs.ofL inn)) else if sg="|" then some (.either (Trs.ofL inn)) else none
def AJ4 (wp:Addr)(H:Hp):Nat:=match H wp with
 | some (.ins _ _ fs)=>(match fs.lookup ("at":Str) with | some (.int i)=>i.toNat | _=>0)
 | _=>0
theorem AD5 {C:Addr}{H:Hp}{wp dw wl:Addr}{ts:List Str}{i:Nat}(h:WAt C H wp dw wl ts i):AJ4 wp H=i:=by
 unfold AJ4
 rw [h.w]
 show (i:Int).toNat=i
 omega
def AJ5 (op:Addr)(H:Hp):Nat:=match H op with
 | some (.lst xs)=>xs.length
 | _=>0
theorem BN0 {H:Hp}{op:Addr}{xs:List V}(h:H op=some (.lst xs)):AJ5 op H=xs.length:=by unfold AJ5; rw [h]
theorem AJ6 {H:Hp}{u:Str}(h:mI u):okN H (.str u):=⟨h.1,by have:=h.2.1; omega⟩
def IsL (a:Ad)(cls:Value):Prop:=IsX a cls\/cls=.ref a.NoClock\/cls=.ref a.NoWish
def lFs (f y r s z:V):List (Str × V):=[("fit",f),("way",y),("roads",r),("sure",s),("raised",z)]
def BI8 (a:Ad)(k:Nat):Addr:=if k=0 then a.Now else if k=1 then a.Hour else if k=2 then a.Day else a.Never
def wFs (k:Nat)(m:Int):List (Str × V):=if k=1\/k=2 then [("minute",.int m)] else []
def wNm (k:Nat):Str:=if k=0 then "now" else if k=1 then "hour" else if k=2 then "day" else "never"
def WyIs (a:Ad)(H:Hp)(v:V)(k:Nat)(m:Int):Prop:=∃ q d,v=.ref q/\H q=some (.ins (BI8 a k) d (wFs k m))/\k<=3
def toV:Option Str->V
 | none=>.non
 | some u=>.str u
def RaIs (a:Ad)(H:Hp)(v:V):Option (Int × Int × Option Str)->Prop
 | none=>v=.non
 | some x=>∃ q d,v=.ref q/\H q=some (.ins a.Raised d [("minutes",.int x.1),("times",.int x.2.1),("to",toV x.2.2)])
structure LnIs (a:Ad) (H:Hp) (v:V) (t:Tr) (L:Ln):Prop where
 ex:∃ p d fv wv l rv,v=.ref p/\H p=some (.ins a.Line d (lFs fv wv (.ref l) (.bl L.su) rv))/\t.Fit (fc a) H fv/\WyIs a H wv L.k L.m/\H l=some (.lst (L.rs.map V.str))/\RaIs a H rv L.ra
def RdAt (H:Hp)(v:V):Option (Int × Int × Option Str)->Prop
 | none=>v=.non
 | some x=>∃ q,v=.ref q/\H q=some (.tup [.int x.1,.int x.2.1,toV x.2.2])
structure LdAt (H:Hp) (v:V) (t:Tr) (L:Ln):Prop where
 ex:∃ p tv y r rv,v=.ref p/\H p=some (.tup [tv,.ref y,.ref r,.bl L.su,rv])/\t.At H tv/\H y=some (.tup [.str (wNm L.k),.int L.m])/\H r=some (.tup (L.rs.map V.str))/\RdAt H rv L.ra
theorem WyIs.same {a:Ad}{H H':Hp}{v:V}{k:Nat}{m:Int}(h:WyIs a H v k m)(S:Same H H'):WyIs a H' v k m:=by
 obtain ⟨q,d,e,h,z⟩:=h
 exact ⟨q,d,e,S _ _ h,z⟩
theorem RaIs.same {a:Ad}{H H':Hp}{v:V}{x:Option (Int × Int × Option Str)}(h:RaIs a H v x)(S:Same H H'):RaIs a H' v x:=by
 cases x with
 | none=>exact h
 | some x =>
  obtain ⟨q,d,e,h⟩:=h
  exact ⟨q,d,e,S _ _ h⟩
theorem LnIs.same {a:Ad}{H H':Hp}{v:V}{t:Tr}{L:Ln}(h:LnIs a H v t L)(S:Same H H'):LnIs a H' v t L:=by
 obtain ⟨p,d,fv,wv,l,rv,e,h1,h2,h3,h4,h5⟩:=h.ex
 exact ⟨p,d,fv,wv,l,rv,e,S _ _ h1,h2.same S,h3.same S,S _ _ h4,h5.same S⟩
theorem RdAt.same {H H':Hp}{v:V}{x:Option (Int × Int × Option Str)}(h:RdAt H v x)(S:Same H H'):RdAt H' v x:=by
 cases x with
 | none=>exact h
 | some x =>
  obtain ⟨q,e,h⟩:=h
  exact ⟨q,e,S _ _ h⟩
theorem LdAt.same {H H':Hp}{v:V}{t:Tr}{L:Ln}(h:LdAt H v t L)(S:Same H H'):LdAt H' v t L:=by
 obtain ⟨p,tv,y,r,rv,e,h1,h2,h3,h4,h5⟩:=h.ex
 exact ⟨p,tv,y,r,rv,e,S _ _ h1,h2.same S,S _ _ h3,S _ _ h4,h5.same S⟩
abbrev jQ (K:Frag)(a:Ad):Sp:=xU a.NoText "line"
def oX (K:Frag)(a:Ad):Sp:=fun vs H Q E=>∃ x,vs=[x]/\okI K H x/\Q (.bl (AN3 x)) H
def eN (K:Frag)(a:Ad):Sp:=fun vs H Q E=>∃ x lo hi,vs=[x,.int lo,.int hi]/\okI K H x/\Q (.bl (uU x lo hi)) H
def hJ (K:Frag)(a:Ad):Sp:=fun vs H Q E=>∃ x lo,vs=[x,.int lo]/\okI K H x/\Q (.bl (AB8 x lo)) H
def kJ (K:Frag)(a:Ad):Sp:=fun vs H Q E=>∃ x,vs=[x]/\okN H x/\∀ H',Same H H'->Q (.bl (jH x)) H'
def eO (K:Frag)(a:Ad):Sp:=fun vs H Q E=>∃ (x:V) (b:Bool),vs=[x]/\CM2 K H x b/\∀ H',Same H H'->Q (.bl b) H'
def qF (K:Frag)(a:Ad):Sp:=fun vs H Q E=>∃ (u:Str),vs=[.str u]/\kG u=true/\u.length<=1000/\∀ H',Same H H'->Q (.bl (AQ4 u)) H'
def sS (K:Frag)(a:Ad):Sp:=fun vs H Q E=>∃ (u:Str),vs=[.str u]/\kG u=true/\u.length<=1000/\∀ H',Same H H'->Q (.bl (kY u)) H'
def fY (K:Frag)(a:Ad):Sp:=fun vs H Q E=>∃ (p dx:Addr) (x:V),vs=[.ref p,x]/\H p=some (.ins a.Words dx [])/\((∃ u,x=.str u/\u.length<=200000/\(Txt.split u sp1).length<=1000/\∀ wl H',H wl=none->But p H H'->WAt a.Words H' p dx wl (Txt.split u sp1) 0->Q .non H')\/(okK K (.type "str") H x false/\∀ y H',Same H H'->H' y=some (.xd [("line",.int 0)])->E (.ref a.NoText) (some y) H'))
def kK (K:Frag)(a:Ad):Sp:=fun vs H Q E=>∃ (wp dw wl:Addr) (ts:List Str) (i:Nat),vs=[.ref wp]/\WAt a.Words H wp dw wl ts i/\Q (.bl (decide ((i:Int)=(ts.length:Int)))) H
def qG (K:Frag)(a:Ad):Sp:=fun vs H Q E=>∃ (wp dw wl:Addr) (ts:List Str) (i:Nat),vs=[.ref wp]/\WAt a.Words H wp dw wl ts i/\Q (.str (ts.getD i "")) H
def qH (K:Frag)(a:Ad):Sp:=fun vs H Q E=>∃ (wp dw wl:Addr) (ts:List Str) (i:Nat),vs=[.ref wp]/\WAt a.Words H wp dw wl ts i/\Q (.str (ts.getD i "")) (upd H wp (.ins a.Words dw (bU wl (i+1))))
def nY (K:Frag)(a:Ad):Sp:=fun vs H Q E=>∃ (wp dw wl:Addr) (ts:List Str) (i:Nat) (wd:Str),vs=[.ref wp,.str wd]/\WAt a.Words H wp dw wl ts i/\((ts.getD i ""=wd/\Q (.bl true) (upd H wp (.ins a.Words dw (bU wl (i+1)))))\/(ts.getD i ""≠wd/\Q (.bl false) H))
def mT (K:Frag)(a:Ad):Sp:=fun vs H Q E=>∃ (wp dw wl:Addr) (ts:List Str) (i:Nat) (wd:Str),vs=[.ref wp,.str wd]/\WAt a.Words H wp dw wl ts i/\((ts.getD i ""=wd/\Q .non (upd H wp (.ins a.Words dw (bU wl (i+1)))))\/(ts.getD i ""≠wd/\∀ y H',Same H H'->E (.ref a.NoText) (some y) H'))
def iZ (K:Frag)(a:Ad):Sp:=fun vs H Q E=>∃ (wp dw wl:Addr) (ts:List Str) (i:Nat),vs=[.ref wp]/\WAt a.Words H wp dw wl ts i/\((i=ts.length/\Q .non H)\/(i≠ts.length/\∀ y H',Same H H'->H' y=some (.xd [("line",.int 0)])->E (.ref a.NoText) (some y) H'))
def iC (K:Frag)(a:Ad):Sp:=fun vs H Q E=>∃ (wp dw wl:Addr) (ts:List Str) (i:Nat),vs=[.ref wp]/\WAt a.Words H wp dw wl ts i/\mI (ts.getD i "")/\((kY (ts.getD i "")=true/\∀ H',But wp H H'->WAt a.Words H' wp dw wl ts (i+1)->Q (.int (dO (ts.getD i ""))) H')\/(kY (ts.getD i "")=false/\∀ y H',But wp H H'->E (.ref a.NoText) (some y) H'))
def jA (K:Frag)(a:Ad):Sp:=fun vs H Q E=>∃ (wp dw wl:Addr) (ts:List Str) (i:Nat),vs=[.ref wp]/\WAt a.Words H wp dw wl ts i/\(∀ x∈ts,mI x)/\ts.length<=1000/\∀ l H',But wp H H'->H l=none->H' l=some (.lst (((ts.drop i).takeWhile fun u=>decide (aX u)).map V.str))->WAt a.Words H' wp dw wl ts (i+((ts.drop i).takeWhile fun u=>decide (aX u)).length)->Q (.ref l) H'
def jR (K:Frag)(a:Ad):Sp:=fun vs H Q E=>∃ (wp dw wl:Addr) (ts:List Str) (i:Nat) (n:Int),vs=[.ref wp,.int n]/\WAt a.Words H wp dw wl ts i/\i<=ts.length/\ts.length<=1000/\(((0<=n/\n<=((ts.length - i:Nat):Int))/\∀ l H',But wp H H'->H l=none->H' l=some (.lst (((ts.drop i).take n.toNat).map V.str))->WAt a.Words H' wp dw wl ts (i+n.toNat)->Q (.ref l) H')\/(¬ (0<=n/\n<=((ts.length - i:Nat):Int))/\∀ y H',Same H H'->E (.ref a.NoText) (some y) H'))
def eI (K:Frag)(a:Ad):Sp:=fun vs H Q E=>∃ (p dx l:Addr) (us:List Str),vs=[.ref p,.ref l]/\H p=some (.ins a.Kind dx [])/\H l=some (.lst (us.map V.str))/\((∀ u∈us,aX u)/\us.length<=1000)/\(((us≠[]/\us.Nodup)/\∀ l' H',But p H H'->H l'=none->H' l'=some (.lst (us.map V.str))->H' p=some (.ins a.Kind dx [("names",.ref l')])->Q .non H')\/(¬ (us≠[]/\us.Nodup)/\∀ H',Same H H'->E (.ref a.NoFit) none H'))
def dW (K:Frag)(a:Ad):Sp:=fun vs H Q E=>∃ (p dx l:Addr) (us:List Str),vs=[.ref p,.ref l]/\H p=some (.ins a.Place dx [])/\H l=some (.lst (us.map V.str))/\((∀ u∈us,aX u)/\us.length<=1000)/\(((us≠[]/\us.Nodup)/\∀ l' H',But p H H'->H l'=none->H' l'=some (.lst (us.map V.str))->H' p=some (.ins a.Place dx [("names",.ref l')])->Q .non H')\/(¬ (us≠[]/\us.Nodup)/\∀ H',Same H H'->E (.ref a.NoFit) none H'))
def dX (K:Frag)(a:Ad):Sp:=fun vs H Q E=>∃ (p dx:Addr) (n:Int),vs=[.ref p,.int n]/\H p=some (.ins a.Least dx [])/\((0<=n/\Q .non (upd H p (.ins a.Least dx [("weight",.int n)])))\/(¬ 0<=n/\E (.ref a.NoFit) none H))
def fH (K:Frag)(a:Ad):Sp:=fun vs H Q E=>∃ (p dx:Addr) (v:V) (t:Tr),vs=[.ref p,v]/\H p=some (.ins a.Not dx [])/\t.Fit (fc a) H v/\Q .non (upd H p (.ins a.Not dx [("fit",v)]))
def eJ (K:Frag)(a:Ad):Sp:=fun vs H Q E=>∃ (p dx l:Addr) (xs:List V) (ts:List Tr),vs=[.ref p,.ref l]/\H p=some (.ins a.Both dx [])/\H l=some (.lst xs)/\All2 (Tr.Fit (fc a) H) ts xs/\2<=xs.length/\xs.length<=1000/\∀ l' H',But p H H'->H l'=none->H' l'=some (.lst xs)->H' p=some (.ins a.Both dx [("fits",.ref l')])->Q .non H'
def dM (K:Frag)(a:Ad):Sp:=fun vs H Q E=>∃ (p dx l:Addr) (xs:List V) (ts:List Tr),vs=[.ref p,.ref l]/\H p=some (.ins a.Either dx [])/\H l=some (.lst xs)/\All2 (Tr.Fit (fc a) H) ts xs/\2<=xs.length/\xs.length<=1000/\∀ l' H',But p H H'->H l'=none->H' l'=some (.lst xs)->H' p=some (.ins a.Either dx [("fits",.ref l')])->Q .non H'
def kA (K:Frag)(a:Ad):Sp:=fun vs H Q E=>∃ (l:Addr) (us:List Str),vs=[.ref l]/\H l=some (.lst (us.map V.str))/\((∀ u∈us,aX u)/\us.length<=1000)/\(((us≠[]/\us.Nodup)/\∀ H',Same H H'->Q .non H')\/(¬ (us≠[]/\us.Nodup)/\∀ H',Same H H'->E (.ref a.NoFit) none H'))
def mU (K:Frag)(a:Ad):Sp:=fun vs H Q E=>∃ (v:V) (t:Tr),vs=[v]/\t.Fit (fc a) H v/\Q .non H
def lL (K:Frag)(a:Ad):Sp:=fun vs H Q E=>∃ (l:Addr) (xs:List V) (ts:List Tr),vs=[.ref l]/\H l=some (.lst xs)/\All2 (Tr.Fit (fc a) H) ts xs/\2<=xs.length/\xs.length<=1000/\Q .non H
def jB (K:Frag)(a:Ad):Sp:=fun vs H Q E=>∃ x,vs=[x]/\okI K H x/\Q (.bl (uU x 0 1439)) H
def fJ (K:Frag)(a:Ad):Sp:=fun vs H Q E=>∃ n:Int,vs=[.int n]/\(((0<=n/\n<=59)/\Q .non H)\/(¬ (0<=n/\n<=59)/\E (.ref a.NoClock) none H))
def fQ (K:Frag)(a:Ad):Sp:=fun vs H Q E=>∃ n:Int,vs=[.int n]/\(((0<=n/\n<=1439)/\Q .non H)\/(¬ (0<=n/\n<=1439)/\E (.ref a.NoClock) none H))
def eK (K:Frag)(a:Ad):Sp:=fun vs H Q E=>∃ (p dx:Addr) (n:Int),vs=[.ref p,.int n]/\H p=some (.ins a.Hour dx [])/\(((0<=n/\n<=59)/\Q .non (upd H p (.ins a.Hour dx [("minute",.int n)])))\/(¬ (0<=n/\n<=59)/\E (.ref a.NoClock) none H))
def fK (K:Frag)(a:Ad):Sp:=fun vs H Q E=>∃ (p dx:Addr) (n:Int),vs=[.ref p,.int n]/\H p=some (.ins a.Day dx [])/\(((0<=n/\n<=1439)/\Q .non (upd H p (.ins a.Day dx [("minute",.int n)])))\/(¬ (0<=n/\n<=1439)/\E (.ref a.NoClock) none H))
def dN (K:Frag)(a:Ad):Sp:=fun vs H Q E=>∃ (p dx:Addr) (x:Int × Int × Option Str),vs=[.ref p,.int x.1,.int x.2.1,toV x.2.2]/\H p=some (.ins a.Raised dx [])/\(∀ u,x.2.2=some u->aX u)/\(((1<=x.1/\0<=x.2.1)/\∀ H',But p H H'->H' p=some (.ins a.Raised dx [("minutes",.int x.1),("times",.int x.2.1),("to",toV x.2.2)])->Q .non H')\/(¬ (1<=x.1/\0<=x.2.1)/\E (.ref a.NoWish) none H))
def cI (K:Frag)(a:Ad):Sp:=fun vs H Q E=>∃ (p dx l:Addr) (fv y rv:V) (t:Tr) (k:Nat) (m:Int) (us:List Str) (su:Bool) (ra:Option (Int × Int × Option Str)),vs=[.ref p,fv,y,.ref l,.bl su,rv]/\H p=some (.ins a.Line dx [])/\t.Fit (fc a) H fv/\WyIs a H y k m/\H l=some (.lst (us.map V.str))/\us.length<=1000/\(∀ u∈us,mI u)/\RaIs a H rv ra/\((((∀ u∈us,aX u)/\us.Nodup)/\((k=3/\us=[]/\su=false/\ra=none)\/(k≠3/\us≠[])))/\(∀ l' H',But p H H'->H l'=none->H' l'=some (.lst (us.map V.str))->H' p=some (.ins a.Line dx (lFs fv y (.ref l') (.bl su) rv))->Q .non H')\/(¬ (((∀ u∈us,aX u)/\us.Nodup)/\((k=3/\us=[]/\su=false/\ra=none)\/(k≠3/\us≠[])))/\∀ H',Same H H'->E (.ref a.NoWish) none H'))
def mV (K:Frag)(a:Ad):Sp:=fun vs H Q E=>∃ (y:V) (k:Nat) (m:Int) (l:Addr) (us:List Str) (su:Bool) (rv:V) (ra:Option (Int × Int × Option Str)),vs=[y,.ref l,.bl su,rv]/\WyIs a H y k m/\H l=some (.lst (us.map V.str))/\us.length<=1000/\RaIs a H rv ra/\((((k=3/\us=[]/\su=false/\ra=none)\/(k≠3/\us≠[]))/\Q .non H)\/(¬ ((k=3/\us=[]/\su=false/\ra=none)\/(k≠3/\us≠[]))/\E (.ref a.NoWish) none H))
def fZ (K:Frag)(a:Ad)(d:Nat):Sp:=fun vs H Q E=>∃ (v:V) (t:Tr),t.dp < d/\vs=[v]/\t.Fit (fc a) H v/\t.wf/\t.tx.length<=100000/\∀ H',Same H H'->Q (.str t.tx) H'
def vN (K:Frag)(a:Ad):Sp:=fun vs H Q E=>∃ (v:V) (k:Nat) (m:Int),vs=[v]/\WyIs a H v k m/\0<=m/\m < 1000000/\∀ H',Same H H'->Q (.str (Str.join sp1 (wWs k m))) H'
def nZ (K:Frag)(a:Ad):Sp:=fun vs H Q E=>∃ (v:V) (x:Int × Int × Option Str),vs=[v]/\RaIs a H v (some x)/\(1<=x.1/\x.1 < 1000000/\0<=x.2.1/\x.2.1 < 1000000/\∀ u,x.2.2=some u->aX u)/\∀ H',Same H H'->Q (.str (Str.join sp1 (wO (some x)))) H'
def sT (K:Frag)(a:Ad):Sp:=fun vs H Q E=>∃ (v:V) (t:Tr) (L:Ln),vs=[v]/\LnIs a H v t L/\t.wf/\t.dp < 3/\t.ws.length<=400/\L.ok/\∀ H',Same H H'->Q (.str (Str.join sp1 (t.ws++L.ws))) H'
def jS (K:Frag)(a:Ad):Sp:=fun vs H Q E=>∃ x:V,vs=[x]/\((∃ u t L,x=.str u/\CB8 u/\mK (Txt.split u sp1)=some (t,L,[])/\∀ v H',Same H H'->LnIs a H' v t L->Q v H')\/(((∃ u,x=.str u/\AF9 u)\/okK K (.type "str") H x false)/\∀ y H',Same H H'->H' y=some (.xd [("line",.int 0)])->E (.ref a.NoText) (some y) H'))
def lM (K:Frag)(a:Ad):Sp:=fun vs H Q E=>∃ x:V,vs=[x,.ref a.line_from]/\((∃ u t L,x=.str u/\CB8 u/\mK (Txt.split u sp1)=some (t,L,[])/\∀ v H',Same H H'->LnIs a H' v t L->Q v H')\/(((∃ u,x=.str u/\AF9 u)\/okK K (.type "str") H x false)/\∀ y H',Same H H'->H' y=some (.xd [("line",.int 0)])->E (.ref a.NoText) (some y) H'))
def fL (K:Frag)(a:Ad):Sp:=fun vs H Q E=>∃ (p dx:Addr) (s:Str),vs=[.ref p,.str s]/\H p=some (.ins a.Opened dx [])/\∀ il H',H il=none->But p H H'->H' il=some (.lst [])->H' p=some (.ins a.Opened dx (lD s il))->Q .non H'
def vO (K:Frag)(a:Ad):Sp:=fun vs H Q E=>∃ (wp dw wl:Addr) (ts:List Str) (i:Nat),vs=[.ref wp]/\WAt a.Words H wp dw wl ts i/\(∀ x∈ts,mI x)/\ts.length<=1000/\i<=ts.length/\(∀ t r,AO3 (ts.drop i) []=some (t,r)->∀ v H' j,r=ts.drop j->i < j->j<=ts.length->But wp H H'->WAt a.Words H' wp dw wl ts j->t.Fit (fc a) (Out [wp] H') v->Q v H')/\(AO3 (ts.drop i) []=none->∀ cls y H',IsX a cls->But wp H H'->E cls y H')
def kL (K:Frag)(a:Ad):Sp:=fun vs H Q E=>∃ (wp dw wl op:Addr) (ts:List Str) (i:Nat) (fs:List OF) (G:Hp),vs=[.ref wp,.ref op]/\PSt a.Words a.Opened (fc a) H wp dw wl ts i op fs G/\(∀ x∈ts,mI x)/\ts.length<=1000/\i<=ts.length/\fs.length<=i/\(∀ f∈fs,FrOk 1 i f)/\(∀ t r Sf,plainF (ts.drop i) (fs.map OF.fm)=some (t,r,Sf)->∀ v H' j fs',r=ts.drop j->i < j->j<=ts.length->PSt a.Words a.Opened (fc a) H' wp dw wl ts j op fs' G->fs'.map OF.fm=Sf->(∀ f∈fs',FrOk 2 j f)->fs'.length<=j->t.Fit (fc a) (Out (zA wp op fs') H') v->Q v H')/\(plainF (ts.drop i) (fs.map OF.fm)=none->∀ cls y H',IsX a cls->But wp G H'->E cls y H')
def AD6 (K:Frag)(a:Ad):Sp:=fun vs H Q E=>∃ (v:V) (t:Tr) (wp dw wl op:Addr) (ts:List Str) (i:Nat) (fs:List OF) (G:Hp),vs=[v,.ref wp,.ref op]/\PSt a.Words a.Opened (fc a) H wp dw wl ts i op fs G/\(∀ x∈ts,mI x)/\ts.length<=1000/\i<=ts.length/\fs.length<=i/\(∀ f∈fs,FrOk 2 i f)/\t.Fit (fc a) (Out (zA wp op fs) H) v/\(∀ t' r,closeF (fs.map OF.fm) t (ts.drop i)=some (.inl (t',r))->∀ v' H' j,r=ts.drop j->i<=j->j<=ts.length->PSt a.Words a.Opened (fc a) H' wp dw wl ts j op [] G->t'.Fit (fc a) (Out (zA wp op []) H') v'->Q v' H')/\(∀ r Sf,closeF (fs.map OF.fm) t (ts.drop i)=some (.inr (r,Sf))->∀ H' j fs',r=ts.drop j->i<=j->j<=ts.length->PSt a.Words a.Opened (fc a) H' wp dw wl ts j op fs' G->fs'.map OF.fm=Sf->(∀ f∈fs',FrOk 1 j f)->fs'.length<=j->Q .non H')/\(closeF (fs.map OF.fm) t (ts.drop i)=none->∀ cls y H',IsX a cls->But wp G H'->E cls y H')
def kM (K:Frag)(a:Ad):Sp:=fun vs H Q E=>∃ (wp dw wl op:Addr) (ts:List Str) (i:Nat) (f:OF) (fs:List OF) (G:Hp),vs=[.ref f.r,.ref wp]/\PSt a.Words a.Opened (fc a) H wp dw wl ts i op (f::fs) G/\(∀ H',PSt a.Words a.Opened (fc a) H' wp dw wl ts (i+1) op (f::fs) G->ts.getD i ""=")"->Q (.bl true) H')/\(∀ H',PSt a.Words a.Opened (fc a) H' wp dw wl ts (i+1) op (f.sign (ts.getD i "")::fs) G->ts.getD i ""≠")"->(ts.getD i ""="&"\/ts.getD i ""="|")/\(f.sg="("\/f.sg=ts.getD i "")->Q (.bl false) H')/\(ts.getD i ""≠")"->¬ ((ts.getD i ""="&"\/ts.getD i ""="|")/\(f.sg="("\/f.sg=ts.getD i ""))->∀ y H',But wp G H'->E (.ref a.NoText) (some y) H')
def vP (K:Frag)(a:Ad):Sp:=fun vs H Q E=>∃ (r d il:Addr) (sg:Str) (xs:List V) (inn:List Tr) (M:List Addr),vs=[.ref r]/\H r=some (.ins a.Opened d (lD sg il))/\H il=some (.lst xs)/\All2 (Tr.Fit (fc a) (Out M H)) inn xs/\(∀ b,H b=none->b ∉ M)/\xs.length<=1000/\(sg="not"->inn≠[])/\(sg="&"\/sg="|"->2<=inn.length)/\((∃ t,mkF sg inn=some t/\∀ v H',Same H H'->t.Fit (fc a) (Out M H') v->Q v H')\/(mkF sg inn=none/\∀ y H',Same H H'->H' y=some (.xd [("line",.int 0)])->E (.ref a.NoText) (some y) H'))
def vQ (K:Frag)(a:Ad):Sp:=fun vs H Q E=>∃ (wp dw wl:Addr) (ts:List Str) (i:Nat),vs=[.ref wp]/\WAt a.Words H wp dw wl ts i/\(∀ x∈ts,mI x)/\ts.length<=1000/\i<=ts.length/\(∀ k m r,BE1 (ts.drop i)=some (k,m,r)->∀ v H' j,r=ts.drop j->i < j->j<=ts.length->But wp H H'->WAt a.Words H' wp dw wl ts j->WyIs a (Out [wp] H') v k m->Q v H')/\(BE1 (ts.drop i)=none->∀ cls y H',IsL a cls->But wp H H'->E cls y H')
def oA (K:Frag)(a:Ad):Sp:=fun vs H Q E=>∃ (wp dw wl:Addr) (ts:List Str) (i:Nat),vs=[.ref wp]/\WAt a.Words H wp dw wl ts i/\(∀ x∈ts,mI x)/\ts.length<=1000/\i<=ts.length/\(∀ x r,raF (ts.drop i)=some (x,r)->∀ v H' j,r=ts.drop j->i < j->j<=ts.length->But wp H H'->WAt a.Words H' wp dw wl ts j->RaIs a (Out [wp] H') v (some x)->Q v H')/\(raF (ts.drop i)=none->∀ cls y H',IsL a cls->But wp H H'->E cls y H')
def mW (K:Frag)(a:Ad):Sp:=fun vs H Q E=>∃ (wp dw wl:Addr) (ts:List Str) (i:Nat),vs=[.ref wp]/\WAt a.Words H wp dw wl ts i/\(∀ x∈ts,mI x)/\ts.length<=1000/\i<=ts.length/\(∀ t L r,mK (ts.drop i)=some (t,L,r)->∀ v H' j,r=ts.drop j->i < j->j<=ts.length->But wp H H'->WAt a.Words H' wp dw wl ts j->LnIs a (Out [wp] H') v t L->Q v H')/\(mK (ts.drop i)=none->∀ cls y H',IsL a cls->But wp H H'->E cls y H')
def sU (K:Frag)(a:Ad):Sp:=fun vs H Q E=>∃ c:Int,vs=[.int c]/\∀ p a b c,H p=none->Q (.ref p) (upd H p (.lst [.int a,.int b,.int c]))
def dS (K:Frag)(a:Ad):Sp:=fun vs H Q E=>∃ (w:Addr) (m:Int),vs=[.ref w,.int m]/\Well3 H w/\0 < m/\m < 2 ^ 62/\∀ (r:Int) (H':Hp),0<=r->r < m->Well3 H' w->But w H H'->Q (.int r) H'
def lN (K:Frag)(a:Ad):Sp:=fun vs H Q E=>∃ w:Addr,vs=[.ref w]/\Well3 H w/\∀ (u:Str) (H':Hp),aX u->Well3 H' w->But w H H'->Q (.str u) H'
def vR (K:Frag)(a:Ad):Sp:=fun vs H Q E=>∃ (w:Addr) (m:Int),vs=[.ref w,.int m]/\Well3 H w/\0<=m/\m<=2/\∀ (v:V) (t:Tr) (H':Hp),t.At H' v->t.ok->t.dp=0->t.cnt<=3->Well3 H' w->But w H H'->Q v H'
def gA (K:Frag)(a:Ad)(d:Nat):Sp:=fun vs H Q E=>∃ (w:Addr) (i:Nat) (m:Int),i < d/\vs=[.ref w,.int i,.int m]/\Well3 H w/\i<=3/\0<=m/\m<=2/\∀ (v:V) (t:Tr) (H':Hp),t.At H' v->t.ok->t.dp<=i->t.cnt<=3 * 3 ^ i->Well3 H' w->But w H H'->Q v H'
def gB (K:Frag)(a:Ad)(d:Nat):Sp:=fun vs H Q E=>∃ (v:V) (t:Tr),t.dp < d/\vs=[v]/\t.At H v/\t.ok/\∀ v' H',Same H H'->t.Fit (fc a) H' v'->Q v' H'
def eP (K:Frag)(a:Ad)(d:Nat):Sp:=fun vs H Q E=>∃ (v:V) (t:Tr),t.dp < d/\vs=[v]/\t.At H v/\t.ok/\t.tx.length<=100000/\∀ H',Same H H'->Q (.str t.tx) H'
def gC (K:Frag)(a:Ad)(d:Nat):Sp:=fun vs H Q E=>∃ (v u:V) (t:Tr),t.dp < d/\vs=[v,u]/\t.Fit (fc a) H v/\t.At H u/\t.ok/\∀ H',Same H H'->Q (.bl true) H'
def sV (K:Frag)(a:Ad):Sp:=fun vs H Q E=>∃ w:Addr,vs=[.ref w]/\Well3 H w/\∀ (p:Addr) (us:List Str) (H':Hp),H' p=some (.tup (us.map V.str))->p≠w->(∀ u∈us,aX u)->us.Nodup->us≠[]->us.length<=4->Well3 H' w->But w H H'->Q (.ref p) H'
def kN (K:Frag)(a:Ad):Sp:=fun vs H Q E=>∃ w:Addr,vs=[.ref w,.int 2]/\Well3 H w/\∀ (v:V) (t:Tr) (L:Ln) (H':Hp),LdAt H' v t L->t.ok->t.dp<=2->t.cnt<=27->L.ok->Well3 H' w->But w H H'->Q v H'
def lU (K:Frag)(a:Ad):Sp:=fun vs H Q E=>∃ (v:V) (t:Tr) (L:Ln),vs=[v]/\LdAt H v t L/\t.ok/\t.dp < 3/\t.ws.length<=400/\L.ok/\∀ H',Same H H'->Q (.str (Str.join sp1 (t.ws++L.ws))) H'
def xX (K:Frag)(a:Ad):Sp:=fun vs H Q E=>∃ (k:Nat) (m:Int),vs=[.str (wNm k),.int m]/\k<=3/\0<=m/\m<=1439/\(k=1->m<=59)/\∀ v H',Same H H'->WyIs a H' v k m->Q v H'
def lV (K:Frag)(a:Ad):Sp:=fun vs H Q E=>∃ (v:V) (t:Tr) (L:Ln),vs=[v]/\LdAt H v t L/\t.ok/\t.dp < 3/\t.ws.length<=400/\L.ok/\∀ v' H',Same H H'->LnIs a H' v' t L->Q v' H'
def lW (K:Frag)(a:Ad):Sp:=fun vs H Q E=>∃ (x v:V) (t:Tr) (L:Ln),vs=[x,v]/\LnIs a H x t L/\LdAt H v t L/\t.ok/\t.dp < 3/\t.ws.length<=400/\L.ok/\∀ H',Same H H'->Q (.bl true) H'
def oB (K:Frag)(a:Ad):Sp:=fun vs H Q E=>∃ x:V,vs=[x]/\((∃ u,x=.str u/\AF9 u)\/okK K (.type "str") H x false)/\∀ H',Same H H'->Q (.bl true) H'
def sW (K:Frag)(a:Ad):Sp:=fun vs H Q E=>vs=[]/\∀ l H',Same H H'->H l=none->H' l=some (.lst (tlAll.map V.str))->Q (.ref l) H'
def spL (K:Frag):Sp:=fun vs H Q _=>∃ (a:Addr) (ns:List Int),vs=[.ref a]/\SqL K H a (ns.map V.int)/\ns.length<=63/\∀ H',Q (.bl true) H'
abbrev BC2 (K:Frag)(_:Ad):Sp:=spL K
theorem AD7 {K:Frag}{a:Ad}:∀ vs H Q E,¬ gA K a 0 vs H Q E:=by
 rintro vs H Q E ⟨w,i,m,h,_⟩
 exact absurd h (Nat.not_lt_zero _)
theorem AD8 {K:Frag}{a:Ad}:∀ vs H Q E,¬ gB K a 0 vs H Q E:=by
 rintro vs H Q E ⟨v,t,h,_⟩
 exact absurd h (Nat.not_lt_zero _)
theorem AD9 {K:Frag}{a:Ad}:∀ vs H Q E,¬ eP K a 0 vs H Q E:=by
 rintro vs H Q E ⟨v,t,h,_⟩
 exact absurd h (Nat.not_lt_zero _)
theorem AE0 {K:Frag}{a:Ad}:∀ vs H Q E,¬ gC K a 0 vs H Q E:=by
 rintro vs H Q E ⟨v,u,t,h,_⟩
 exact absurd h (Nat.not_lt_zero _)
theorem AE1 {K:Frag}{a:Ad}:∀ vs H Q E,¬ fZ K a 0 vs H Q E:=by
 rintro vs H Q E ⟨v,t,h,_⟩
 exact absurd h (Nat.not_lt_zero _)
def AE2 (K:Frag)(a:Ad)(C:Addr)(sp:Sp):Prop:=C=a.Words/\sp=mT K a
def qI (K:Frag)(a:Ad)(C:Addr)(sp:Sp):Prop:=C=a.Words/\sp=iZ K a
def vS (K:Frag)(a:Ad)(C:Addr)(sp:Sp):Prop:=C=a.Words/\sp=kK K a
def vT (K:Frag)(a:Ad)(C:Addr)(sp:Sp):Prop:=C=a.Words/\sp=qG K a
def oY (K:Frag)(a:Ad)(C:Addr)(sp:Sp):Prop:=C=a.Words/\sp=qH K a
def qJ (K:Frag)(a:Ad)(C:Addr)(sp:Sp):Prop:=C=a.Words/\sp=jA K a
def eC (K:Frag)(a:Ad)(C:Addr)(sp:Sp):Prop:=C=a.Words/\sp=iC K a
def sX (K:Frag)(a:Ad)(C:Addr)(sp:Sp):Prop:=C=a.Words/\sp=jR K a
def zI (K:Frag)(a:Ad)(C:Addr)(sp:Sp):Prop:=C=a.Words/\sp=nY K a
section
variable {P:Program}{w:World}{K:Frag}{mg:Str->Option Value}{base:Heap}{f:Addr}{fd:FuncData}{a:Ad}
mutual
example:=by
 refine CompR.by (n:=Z0) (fun i' acc σ H'=>∃ ts:List Tr,All2 (Tr.At H') ts acc/\ts.length=i'/\(∀ t∈ts,t.ok/\t.dp<=j/\t.cnt<=3 * 3 ^ j)/\(∃ v,σ=[v,some (.ref wl),some (.int m),some (.int ((j+1:Nat):Int))])/\Well3 H' wl/\But wl H1 H') (sz8 (by decide)) ⟨[],.nil,rfl,(fun t ht=>absurd ht List.not_mem_nil),⟨_,rfl⟩,W1,But.refl _ _⟩ ?_ ?_ ?_
 ·rintro i' acc σ H' hi' ⟨ts,hA,hl,ht,⟨v,rfl⟩,W',B'⟩
  nofun
  refine ⟨wl,j,m,by omega,by rw [show ((j+1:Nat):Int) - 1=(j:Int) by omega],W',by omega,m0,m5,fun v2 t2 H2 hA2 ho2 hd2 hc2 W2 B2=>?_⟩
  have new:∃ ts:List Tr,All2 (Tr.At H2) ts (acc++[v2])/\ts.length=i'+1/\(∀ t∈ts,t.ok/\t.dp<=j/\t.cnt<=3 * 3 ^ j):=⟨ts++[t2],(hA.imp fun t y _ h=>h.but3 W' B2).snoc hA2,by rw [List.length_append,hl]; rfl,fun t m2=>by
   rcases List.mem_append.mp m2 with m2 | m2
   ·exact ht t m2
   ·rw [List.mem_singleton.mp m2]; exact ⟨ho2,hd2,hc2⟩⟩
  obtain ⟨ts2,n1,n2,n3⟩:=new
  first | exact ⟨ts2,n1,n2,n3,⟨_,rfl⟩,W2,B'.trans B2⟩ | exact ⟨ts2,n1,n2,n3,W2,B'.trans B2⟩
 ·rintro i' acc σ H' ⟨ts,hA,hl,_⟩
  rw [<- hA.len]
  omega
 rintro acc σ H2 ⟨ts,hA,hl,ht,⟨v,rfl⟩,W2,B2⟩ pl hpl
 have T0:=aE hpl (.lst acc)
 have e0:upd H2 pl (.lst acc) pl=some (.lst acc):=aA
 generalize upd H2 pl (.lst acc)=G0 at *
 nofun
 refine ⟨sz8 (by decide),fun p1 h1=>?_⟩
 have T1:=aE h1 (.lst [.str "both",.str "either"])
 have f1:upd G0 p1 (.lst [.str "both",.str "either"]) p1=some (.lst [.str "both",.str "either"]):=aA
 have e1:=T1 _ _ e0
 generalize upd G0 p1 (.lst [.str "both",.str "either"])=G1 at *
 refine ⟨by decide,?_⟩
 have okT:2<=(Trs.ofL ts).toL.length/\(Trs.ofL ts).toL.length<=6/\(Trs.ofL ts).ok:=by
  rw [cL]
  exact ⟨by omega,by omega,trs_ok.mpr (by rw [cL]; exact fun t h=>(ht t h).1)⟩
 have dpT:(Trs.ofL ts).dp<=j:=pT (by rw [cL]; exact fun t h=>(ht t h).2.1)
 have cnT:(Trs.ofL ts).cnt<=3 * 3 ^ (j+1):=by
  have h:=yR (n:=3 * 3 ^ j) (ts:=Trs.ofL ts) (by rw [cL]; exact fun t h=>(ht t h).2.2)
  rw [cL,hl] at h
  refine Nat.le_trans h ?_
  rw [Nat.pow_succ,<- Nat.mul_assoc]
  exact Nat.mul_le_mul_left _ (by decide)
 rcases (by omega:kd % 2=0\/kd % 2=1) with hk | hk
 ·rw [hk]
  refine ixl (SqL.of f1) (v:=.str "both") rfl ?_
  nofun
  refine ⟨_,.inl ⟨SqL.of e1,fun p3 h3=>?_⟩⟩
  have T3:=aE h3 (.tup acc)
  refine ⟨sz8 (by decide),fun p4 h4=>?_⟩
  have SS:=T0.trans (T1.trans (T3.trans (aE h4 (.tup [.str "both",.ref p3]))))
  exact q (.ref p4) (.both (Trs.ofL ts)) _ (by rw [Tr.At]; exact ⟨p4,p3,acc,rfl,aA,aE h4 _ _ _ aA,trs_at.mpr (by rw [cL]; exact hA.imp fun t y _ h=>h.same SS)⟩) (by rw [Tr.ok]; exact okT) (by rw [Tr.dp]; omega) (by rw [Tr.cnt]; exact cnT) (W2.same SS) (B1.trans (B2.trans (Same.but SS)))
 ·rw [hk]
  refine ixl (SqL.of f1) (v:=.str "either") rfl ?_
  nofun
  refine ⟨_,.inl ⟨SqL.of e1,fun p3 h3=>?_⟩⟩
  have T3:=aE h3 (.tup acc)
  refine ⟨sz8 (by decide),fun p4 h4=>?_⟩
  have SS:=T0.trans (T1.trans (T3.trans (aE h4 (.tup [.str "either",.ref p3]))))
  exact q (.ref p4) (.either (Trs.ofL ts)) _ (by rw [Tr.At]; exact ⟨p4,p3,acc,rfl,aA,aE h4 _ _ _ aA,trs_at.mpr (by rw [cL]; exact hA.imp fun t y _ h=>h.same SS)⟩) (by rw [Tr.ok]; exact okT) (by rw [Tr.dp]; omega) (by rw [Tr.cnt]; exact cnT) (W2.same SS) (B1.trans (B2.trans (Same.but SS)))
example:=by
 ·rintro i y acc σ H' hy ⟨rfl,⟨v,rfl⟩,S1⟩
  obtain ⟨t,e,ht⟩:=hA.get hy
  have mt:=List.mem_of_getElem? e
  have dt:=pS mt
  have ea:((ts.toL.take i).map Tr.tx).map V.str++[V.str t.tx]=((ts.toL.take (i+1)).map Tr.tx).map V.str:=by
   rw [List.take_succ,e,List.map_append,List.map_append]
   rfl
  have lx:=wA (s:=(Z0:Str)) (ts:=ts.tx) (x:=t.tx) (by rw [iP]; exact List.mem_map.mpr ⟨t,mt,rfl⟩)
  nofun
  refine ⟨y,t,by omega,rfl,ht.same S1,Z1 Z2 t mt,by omega,fun H2 S2=>?_⟩
  first | exact ⟨ea,⟨_,rfl⟩,S1.trans S2⟩ | exact ⟨ea,S1.trans S2⟩
 ·rintro i acc σ H' ⟨rfl,_,_⟩
  rw [List.length_map,List.length_map,List.length_take]
  omega
 ·rintro acc σ H' ⟨rfl,⟨v,rfl⟩,S1⟩ D hD
  rw [<- ln6,List.take_length,<- iP]
  refine ⟨(Z0:Str),D,ts.tx,rfl,rfl,aA,gI tne (by omega) (by decide),?_⟩
  rw [tP]
  refine ⟨szM (by omega),szM (by rw [Str.length_append]; omega),?_⟩
  exact q _ (S1.trans (aE hD _))
example:=by
 refine ixt (SqT.of hp) (v:=.str Z0) rfl ?_
 nofun
 rw [if_neg (by decide)]
 refine ixt (SqT.of hp) (v:=.str Z0) rfl ?_
 nofun
example:=by
 rw [Tr.Fit] at hf
 rw [Tr.At] at hA
 rw [Tr.ok] at ho
 obtain ⟨p,dx,ln,xs,e0,hp,hn,hs⟩:=hf
 cases e0
 obtain ⟨pt,tl,tx,e1,tp,htl,hts⟩:=hA
 cases e1
 walk_at "ho"
 nofun
 refine ixt (SqT.of tp) (v:=.str Z0) cB ?_
 nofun
 rw [if_neg (by decide)]
 refine ixt (SqT.of tp) (v:=.str Z0) cB ?_
 nofun
 rw [if_neg (by decide)]
 walk_at "ho"
 nofun
 refine ixt (SqT.of tp) (v:=.str Z0) cB ?_
 nofun
 rw [if_neg (by decide)]
 walk_at "ho"
 nofun
 refine ixt (SqT.of tp) (v:=.str Z0) cB ?_
 nofun
 rw [if_neg (by decide)]
 walk_at "ho"
 nofun
 refine ixt (SqT.of tp) (v:=.str Z0) cB ?_
 nofun
 rw [if_neg (by decide)]
 walk_at "ho"
 nofun
 rw [Tr.dp] at hd0
 have hF:=trs_fit.mp hs
 have hT:=trs_at.mp hts
 have l1:=hF.len
 have l2:=hT.len
 refine ⟨_,_,_,hp,Z1,Z2,.ref ln,rfl,?_⟩
 refine ⟨_,_,true,rfl,.lst hn,by kernel_rfl,?_⟩
 nofun
 refine ⟨_,_,_,hp,Z1,Z2,.ref ln,rfl,ln,rfl,_,.inl (SqL.of hn),?_⟩
 refine ixt (SqT.of tp) (v:=.ref tl) rfl ⟨tl,rfl,_,.inr (SqT.of htl),?_⟩
 rw [if_neg (by omega)]
 walk_at "hr"
 nofun
 refine ixt (SqT.of tp) (v:=.ref tl) rfl ⟨tl,rfl,_,.inr (SqT.of htl),?_⟩
 refine ⟨by omega,by omega,?_⟩
 refine CompR.by (fun i acc σ H'=>acc=[]/\(∃ v,σ=[v,some (.ref p),some (.ref pt)])/\Same H5 H') (sz8 (by omega)) ⟨rfl,⟨_,rfl⟩,fun _ _ z=>z⟩ ?_ ?_ ?_
 ·rintro i acc σ H' hi ⟨rfl,⟨v,rfl⟩,S7⟩
  have hi:i < tx.length:=by omega
  obtain ⟨t,e,ht⟩:=hT.get (List.getElem?_eq_getElem hi)
  obtain ⟨t',e',ht'⟩:=hF.get (List.getElem?_eq_getElem (show i < xs.length by omega))
  rw [e] at e'
  cases e'
  have mt:=List.mem_of_getElem? e
  have dt:=pS mt
  nofun
  refine ⟨_,_,_,S7 _ _ hp,Z1,Z2,.ref ln,rfl,?_⟩
  refine ixl (SqL.of (S7 _ _ hn)) (by rw [Int.zero_add]; exact mG (List.getElem?_eq_getElem (show i < xs.length by omega))) ?_
  refine ixt (SqT.of (S7 _ _ tp)) (v:=.ref tl) rfl ?_
  refine ixt (SqT.of (S7 _ _ htl)) (by rw [Int.zero_add]; exact mG (List.getElem?_eq_getElem hi)) ?_
  refine ⟨_,_,t,by omega,rfl,ht'.same S7,ht.same S7,trs_ok.mp ho.2.2 t mt,fun H8 S8=>?_⟩
  exists Bool.not_true
  first | exact S7.trans S8 | exact ⟨rfl,⟨_,rfl⟩,S7.trans S8⟩ | exact ⟨⟨_,rfl⟩,S7.trans S8⟩
 ·rintro i acc σ H' ⟨rfl,_,_⟩
  exact Nat.zero_le _
 ·rintro acc σ H' ⟨rfl,⟨v,rfl⟩,S7⟩ D2 hD2
  refine ⟨Nat.zero_le _,fun p9 h9=>?_⟩
  exact eqd (.lst (aE h9 _ _ _ aA) .nil) (.lst aA .nil) (iN (Nat.zero_le _) (wC [])).1 (q _ (SA.trans (S7.trans ((aE hD2 _).trans (aE h9 _)))))
example:=by
 rw [if_neg (by decide)]
 refine ixt (SqT.of hp) (v:=.str Z0) rfl ?_
 nofun
example:=by
 refine F.ok Z0 (by walk_at "ln") fun cdv A outer s H vs Q E hr h=>?_
example:=by
 refine ixt (SqT.of hp) (v:=.str Z0) rfl ?_
 nofun
example:=by
 walk_at "ho"
 nofun
 refine ⟨sz8 (by decide +kernel),fun Z0 Z1=>?_⟩
 have Z2:=aE Z1 (.lst (Z3 V.str))
 refine ⟨Z4,Z0,_,_,rfl,rfl,Z2 _ _ Z5,aA,sz8 (by decide +kernel),fun Z6 Z7=>?_⟩
 rw [<- List.map_append]
example:=by
 refine Z0 F Z1 (fun vs H Q E h=>?_) (fun cdv A outer s H vs Q E hr h=>?_)
example:=by
 rw [Tr.ok] at ho
 rw [Tr.dp] at hd0
 obtain ⟨l2,l6,ho⟩:=ho
 have hA:=trs_at.mp hs
 have ln6:=hA.len
 refine ixt (SqT.of hp) (v:=.ref l0) rfl ?_
 nofun
 refine ⟨⟨xs,SqT.of hl⟩,?_⟩
 refine CompT.by (xs:=xs) (fun i acc σ H'=>All2 (Tr.Fit (fc a) H') (ts.toL.take i) acc/\(∃ v,σ=[v])/\Same H H') (sz8 (by omega)) ⟨.nil,⟨_,rfl⟩,fun _ _ z=>z⟩ (fun i acc σ H' _ h=>SqT.of (h.2.2 _ _ hl)) ?_ ?_ ?_
 ·rintro i y acc σ H' hy ⟨hF,⟨v,rfl⟩,S1⟩
  obtain ⟨t,e,ht⟩:=hA.get hy
  have mt:=List.mem_of_getElem? e
  have dt:=pS mt
  nofun
  refine ⟨y,t,by omega,rfl,ht.same S1,trs_ok.mp ho t mt,fun v' H2 S2 hf=>?_⟩
  have new:All2 (Tr.Fit (fc a) H2) (ts.toL.take (i+1)) (acc++[v']):=by
   rw [List.take_succ,e]
   exact (hF.imp fun t y _ h=>h.same S2).snoc hf
  first | exact ⟨new,⟨_,rfl⟩,S1.trans S2⟩ | exact ⟨new,S1.trans S2⟩
 ·rintro i acc σ H' ⟨hF,_,_⟩
  rw [<- hF.len,List.length_take]
  omega
 rintro acc σ H' ⟨hF,⟨v,rfl⟩,S1⟩ D hD
 rw [<- ln6,List.take_length] at hF
 have la:=hF.len
 have S2:=aE hD (.lst acc)
 intro x dx hx hd ne
 have M:=bA (o:=.own x) (o':=.ins Z0 dx []) hx hd
 refine ⟨x,dx,D,acc,ts.toL,rfl,aA,M _ _ aA,hF.imp (fun t y _ h=>(h.same S2).same M),by omega,by omega,fun l3 H3 Bx _ e1 e2=>?_⟩
 nofun
 have SS:=S2.trans (cM hx hd Bx)
 exact q (.ref x) _ (S1.trans SS) (by rw [Tr.Fit]; exact ⟨x,dx,l3,acc,rfl,e2,e1,trs_fit.mpr (hF.imp fun t y _ h=>h.same SS)⟩)
example:=by
 nofun
 rw [if_neg (by decide)]
example:=by
 by_cases Z0:ts.getD i ""=Z1
 ·rw [if_pos Z0]
  rw [if_pos Z0] at good fail
  have kl:=cN Z0 (by decide)
  refine ⟨_,_,_,W1.w,rfl,_,⟨rfl,rfl⟩,wp,dw,wl,ts,i+1,rfl,W1,jO hT _,?_⟩
  by_cases hn:kY (ts.getD (i+1) "")=true
  ·have kl2:=AE5 hn
   refine .inl ⟨hn,fun H3 B3 W3=>?_⟩
   intro x dx hx hd ne
   have M0:=bA (o:=.own x) (o':=.ins Z2 dx []) hx hd
   refine ⟨x,dx,_,rfl,aA,?_⟩
   by_cases n0:0<=dO (ts.getD (i+1) "")/\dO (ts.getD (i+1) "")<=Z3
   ·rw [if_pos (numF_iff.mpr ⟨hn,n0⟩)] at good
    have SS:Same H3 (upd (upd (upd H3 dx (.own x)) x (.ins Z2 dx [])) x (.ins Z2 dx [("minute",.int (dO (ts.getD (i+1) "")))])):=fun b o e=>by rw [aJ (aQ e hx)]; exact M0 b o e
    exact .inl ⟨n0,rfl,good _ _ _ rfl (.ref x) _ (i+2) rfl (by omega) (by omega) (B1.trans (B3.trans (Same.but SS))) (W3.same SS) ⟨x,dx,rfl,dQ (fM W3.w hx) aA,by decide⟩⟩
   ·rw [if_neg (fun z=>n0 (numF_iff.mp z).2)] at fail
    exact .inr ⟨n0,fail rfl _ _ _ (.inr (.inl rfl)) (B1.trans (B3.trans (Same.but M0)))⟩
  ·rw [if_neg (fun z=>hn (numF_iff.mp z).1)] at fail
   exact .inr ⟨by simpa using hn,fun y H3 B3=>fail rfl _ _ _ (.inl (.inr rfl)) (B1.trans B3)⟩
 rw [if_neg Z0]
 rw [if_neg Z0] at good fail
example:=by
 by_cases Z0:ts.getD k ""=Z1
 ·rw [if_pos Z0]
  rw [Z2 Z0] at hR
  refine ⟨_,_,_,hP.W.w,rfl,_,⟨rfl,rfl⟩,wp,dw,wl,ts,k+1,rfl,hP.W,hT,hl,fun l H3 B3 hl0 el W3=>?_⟩
  have hP3:=hP.words B3 W3
  have tl:=AJ8 (p:=fun u=>decide (aX u)) (ts.drop (k+1))
  rw [List.length_drop] at tl
  have kl:=cN Z0 (by decide)
  have hg:∀ u∈((ts.drop (k+1)).takeWhile fun u=>decide (aX u)),aX u:=fun u hu=>of_decide_eq_true (p:=aX u) (uG (p:=fun u=>decide (aX u)) hu)
  generalize ((ts.drop (k+1)).takeWhile fun u=>decide (aX u))=us at *
  intro x dx hx hd ne
  have M0:=bA (o:=.own x) (o':=.ins Z3 dx []) hx hd
  refine ⟨x,dx,l,us,rfl,aA,M0 _ _ el,⟨hg,by omega⟩,?_⟩
  by_cases c:us≠[]/\us.Nodup
  ·rw [if_pos c] at hR
   refine .inl ⟨c,fun l' H' Bx hl' e1 e2=>⟨rfl,?_⟩⟩
   have SS:=cM hx hd Bx
   exact good _ _ _ hR.symm (.ref x) _ (k+1+us.length) fs rfl (by omega) (by omega) (hP3.same SS) rfl (fun f hf=>(hF f hf).up (by omega)) (by omega) (by rw [Tr.Fit]; exact ⟨x,dx,l',rfl,dQ (hP3.new hx) e2,dQ (hP3.new (M0.free hl')) e1⟩)
  ·rw [if_neg c] at hR
   exact .inr ⟨c,fun H' S'=>fail hR.symm _ _ _ (.inl rfl) (hP3.K.trans (Same.but (M0.trans S')))⟩
 rw [if_neg Z0]
example:=by
 intro x dx hx hd ne
 have Z0:=bA (o:=.own x) (o':=.ins Z1 dx []) hx hd
example:=by
 refine ⟨_,_,_,false,rfl,Z0 hp,Z1,?_⟩
 nofun
 refine ⟨_,_,_,Z2,rfl,Z0 hp,Z3,?_⟩
 nofun
example:=by
 walk_at "ho"
 nofun
 refine ixt (SqT.of tp) (v:=.str Z0) cB ?_
 nofun
example:=by
 rw [if_neg (by decide)]
example:=by
 walk_at "ho"
 nofun
 refine ixt (SqT.of tp) (v:=.str Z0) cB ?_
example:=by
 rw [Tr.dp] at hd0
 rw [Str.length_append,Str.length_append] at hx
 have hA:=trs_at.mp hs
 have ln6:=hA.len
 have tne:ts.tx≠[]:=fun z=>by
  have l:=congrArg List.length z
  rw [iP,List.length_map,List.length_nil] at l
  omega
 refine ⟨sz8 (by decide),fun p1 h1=>?_⟩
 have S0:=aE h1 (.lst [.str " & ",.str " | "])
 have f1:upd H p1 (.lst [.str " & ",.str " | "]) p1=some (.lst [.str " & ",.str " | "]):=aA
 generalize upd H p1 (.lst [.str " & ",.str " | "])=H1 at *
 refine ixt (SqT.of (S0 _ _ hp)) (v:=.str Z0) rfl ⟨rfl,?_⟩
 refine ixl (SqL.of f1) (v:=.str Z1) rfl ?_
 refine ⟨(show "str"="str" from rfl),?_⟩
 refine ixt (SqT.of (S0 _ _ hp)) (v:=.ref l0) rfl ⟨l0,rfl,⟨xs,SqT.of (S0 _ _ hl)⟩,?_⟩
 refine CompT.by (xs:=xs) (fun i acc σ H'=>acc=((ts.toL.take i).map Tr.tx).map V.str/\(∃ v,σ=[v])/\Same H H') (sz8 (by omega)) ⟨rfl,⟨_,rfl⟩,S0⟩ (fun i acc σ H' _ h=>SqT.of (h.2.2 _ _ hl)) ?_ ?_ ?_
example:=by
 rw [if_neg h2]
 refine ⟨hp,?_⟩
 refine CompS.by (fun i acc σ H'=>acc=(u.cps.toList.take i).map (fun c=>V.bl (!(Builtin.Str.occurrences Z0 ⟨#[c]⟩ 0 Z1 1).isEmpty))/\(∃ v,σ=[v])/\H'=H) (sz8 hl) ⟨rfl,⟨_,rfl⟩,rfl⟩ ?_ ?_ ?_
 ·rintro i c acc σ H' hc ⟨rfl,⟨v,rfl⟩,rfl⟩
  have hc':u.cps.toList[i]?=some c:=by simpa using hc
  have ea:(u.cps.toList.take i).map (fun c=>V.bl (!(Builtin.Str.occurrences Z0 ⟨#[c]⟩ 0 Z1 1).isEmpty))++[V.bl (!(Builtin.Str.occurrences Z0 ⟨#[c]⟩ 0 Z1 1).isEmpty)]=(u.cps.toList.take (i+1)).map (fun c=>V.bl (!(Builtin.Str.occurrences Z0 ⟨#[c]⟩ 0 Z1 1).isEmpty)):=by
   rw [List.take_succ,hc',List.map_append]
   rfl
  nofun
  first | exact ea | exact ⟨ea,⟨_,rfl⟩,rfl⟩
 ·rintro i acc σ H' ⟨rfl,_,_⟩
  rw [List.length_map,List.length_take]
  omega
example:=by
 refine ⟨sz8 (by decide),fun Z0 Z1=>?_⟩
example:=by
 have M0:=bA (o:=.own x) (o':=.ins Z0 dx []) hx hd
example:=by
 refine ⟨_,_,_,true,rfl,Z0 hp,Z1,?_⟩
 nofun
example:=by
 ·rintro i Z0 acc σ H' Z1 ⟨rfl,⟨v,rfl⟩,rfl⟩
  rw [List.getElem?_map] at Z1
  obtain ⟨Z2,ex,rfl⟩:∃ Z2,Z3[i]?=some Z2/\Z0=.str Z2:=by
   cases z:Z3[i]? with
   | none=>rw [z] at Z1; cases Z1
   | some Z2=>rw [z] at Z1; cases Z1; exact ⟨Z2,rfl,rfl⟩
  have ea:((Z4 i).map (fun w=>decide (w=Z5 Z6))).map V.bl++[V.bl (decide (Z2=Z5 Z6))]=((Z4 (i+1)).map (fun w=>decide (w=Z5 Z6))).map V.bl:=by
   rw [List.take_succ,ex,List.map_append,List.map_append]
   rfl
  nofun
  refine ixt (SqT.of (SA _ _ Z7)) (v:=.str (Z5 Z6)) cB ?_
  nofun
  first | exact ⟨ea,⟨_,rfl⟩,rfl⟩ | exact ea | exact ⟨ea,rfl⟩ | trace_state
 ·rintro i acc σ H' ⟨rfl,_,_⟩
  rw [List.length_map,List.length_map,List.length_take]
  exact Nat.min_le_left _ _
 rintro acc σ H' ⟨rfl,⟨v,rfl⟩,rfl⟩ D hD
example:=by
 refine ixt (SqT.of tp) (v:=.str Z0) cB ?_
example:=by
 nofun
 refine ⟨_,_,_,W7.w,rfl,_,⟨rfl,rfl⟩,wp,dw,wl,ts,Z0,_,rfl,W7,?_⟩
 by_cases c3:ts.getD Z0 ""="raise"
 ·refine .inl ⟨c3,sZ ?_⟩
  have z73:=cN c3 (by decide)
  have W8:=W7.take (Z0+1)
  have BX:But wp Z1 (upd Z1 wp (.ins a.Words dw (bU wl (Z0+1)))):=But.upd _
  generalize upd Z1 wp (.ins a.Words dw (bU wl (Z0+1)))=H8 at *
  rw [if_pos rfl]
  refine ⟨wp,dw,wl,ts,Z0+1,rfl,W8,hT,hl,by omega,fun x r e v H9 z9 er z91 z92 B9 W9 hra=>?_,fun e cls y H9 hc B9=>fail ?_ cls y H9 hc (B6.trans (BY.trans (BX.trans B9)))⟩
  ·exact fin _ _ v (some x) H9 z9 es (by rw [nP,if_pos c3,e,er]; rfl) (by omega) z92 (BY.trans (BX.trans B9)) W9 hra
  ·unfold BV3
   rw [es]
   dsimp only
   rw [nP,if_pos c3,e]
   split <;> rfl
example:=by
 ·obtain ⟨p,dx,l,us,rfl,_⟩:=h
  rfl
 obtain ⟨p,dx,l,us,rfl,hp,hl,hok,q⟩:=h
 refine ⟨_,(aY (aC (bQ (cD (cR dY (hr.mono (by decide)) rfl (aH (aL (pv 1) aB)) (he:=aD _ _ _ rfl) (hpl:=aF rfl)))) (aG (bQ (eA (pv 0) (bE cF rfl B.list PyProof.Rows.boot_list (aH (aL (pv 1) aB))) rfl))))),?_⟩
 nofun
 refine ⟨l,us,rfl,hl,hok,?_⟩
 rcases q with ⟨c,q⟩ | ⟨c,q⟩
 ·refine .inl ⟨c,fun H1 S1=>?_⟩
  nofun
  refine ⟨_,.inl (SqL.of (S1 _ _ hl)),fun p2 h2=>?_⟩
  have S2:=aE h2 (.lst (us.map V.str))
  refine ⟨_,_,_,S2 _ _ (S1 _ _ hp),Z0,Z1,by decide,?_⟩
  refine q p2 _ (fun b o n e=>?_) (S1.free h2) ?_ aA
  ·rw [aJ n]
   exact S2 _ _ (S1 _ _ e)
  ·rw [aJ (aQ (S1 _ _ hp) h2).symm]
   exact aA
 ·exact .inr ⟨c,q⟩
example:=by
 rw [Tr.dp] at hd0
 rw [Str.length_append,Str.length_append] at hx
 have hA:=trs_fit.mp hs
 have ln6:=hA.len
 have tne:ts.tx≠[]:=fun z=>by
  have l:=congrArg List.length z
  rw [iP,List.length_map,List.length_nil] at l
  omega
 have jl:=jT (s:=(Z0:Str)) tne
 have lt:ts.tx.length=ts.toL.length:=by rw [iP,List.length_map]
 have e3:((Z0:Str)).length=3:=rfl
 rw [lt,e3] at jl
 have le:xs.length<=1000000:=by omega
 refine ⟨_,_,_,hp,Z1,Z2,.ref ln,rfl,?_⟩
 refine ⟨⟨xs,SqL.of hn⟩,?_⟩
 refine CompL.by (xs:=xs) (fun i acc σ H'=>acc=((ts.toL.take i).map Tr.tx).map V.str/\(∃ v,σ=[v])/\Same H H') (szM le) ⟨rfl,⟨_,rfl⟩,fun _ _ z=>z⟩ (fun i acc σ H' _ h=>SqL.of (h.2.2 _ _ hn)) ?_ ?_ ?_
example:=by
 rw [hk]
 refine ixl (SqL.of f1) (v:=.str Z0) rfl ?_
 nofun
 refine ⟨_,.inl ⟨SqL.of ue1,fun p3 h3=>?_⟩⟩
example:=by
 by_cases cw:(k=3/\us=[]/\su=false/\ra=none)\/(k≠3/\us≠[])
 rotate_left
 ·exact .inr ⟨cw,bads (fun z=>cw z.2) _ S1⟩
 refine .inl ⟨cw,?_⟩
 have q:=good ⟨cn,cw⟩
 nofun
 have nrp:l≠p:=fun z=>by rw [z,hp] at hl; cases hl
 refine ⟨_,_,_,S1 _ _ hp,B.ck_Line.cl,B.na_Line_fit,by decide,_,_,_,aA,B.ck_Line.cl,B.na_Line_way,by rw [e1]; simp only [List.length_cons,List.length_nil]; decide,?_⟩
 refine ⟨_,.inl (SqL.of (by rw [aJ nrp,aJ nrp]; exact S1 _ _ hl)),fun l2 hl2=>?_⟩
 have nlp:l2≠p:=fun z=>by rw [z,aA] at hl2; cases hl2
 have hl1:H1 l2=none:=by rw [aJ nlp,aJ nlp] at hl2; exact hl2
example:=by
 refine ⟨_,_,_,by rw [aJ nlp.symm]; exact aA,B.ck_Line.cl,B.na_Line_roads,by rw [e1,e2]; simp only [List.length_cons,List.length_nil]; decide,_,_,_,aA,B.ck_Line.cl,B.na_Line_sure,by rw [e1,e2,e3]; simp only [List.length_cons,List.length_nil]; decide,_,_,_,aA,B.ck_Line.cl,B.na_Line_raised,by rw [e1,e2,e3,e4]; simp only [List.length_cons,List.length_nil]; decide,?_⟩
 refine q l2 _ (fun b o n e=>?_) (S1.free hl1) ?_ ?_
 ·rw [aJ n,aJ n,aJ n,aJ (aQ (S1 _ _ e) hl1),aJ n,aJ n]
  exact S1 b o e
 ·rw [aJ nlp,aJ nlp,aJ nlp]
  exact aA
 ·rw [aA,e1,e2,e3,e4,e5]
example:=by
 walk_at "ho"
 nofun
example:=by
 have Z0:=Z1 (Z2+Z3)
 have Z4:But wp Z5 (upd Z5 wp (.ins a.Words dw (bU wl (Z2+Z3)))):=But.upd _
example:=by
 have S1:=aE h1 (.lst [.str Z0])
 refine ⟨_,_,_,S1 _ _ hp,Z1,Z2,.ref ln,rfl,?_⟩
 have jl:=jT (s:=sp1) (ts:=(Z0:Str)::us) (by simp)
 refine ⟨p1,ln,_,_,rfl,rfl,aA,S1 _ _ hn,szM ?_,fun p2 h2=>?_⟩
 ·rw [List.length_map]
  have e1:sp1.length=1:=rfl
  rw [e1,List.length_cons] at jl
  show 1+us.length<=1000000
  omega
 have S2:=aE h2 (.lst ([.str Z0]++us.map V.str))
 refine ⟨sp1,p2,(Z0:Str)::us,rfl,rfl,aA,gI (by simp) (by omega) (by decide),?_⟩
 rw [tP]
 exact q _ (S1.trans S2)
example:=by
 obtain ⟨p,dx,l,xs,ts,rfl,hp,hl,hf,l2,l100,q⟩:=h
 refine ⟨_,(aY (aC (bQ (cD (pc eW hr rfl (aH (aL (pv 1) aB))))) (aG (bQ (eA (pv 0) (bE cF rfl B.list PyProof.Rows.boot_list (aH (aL (pv 1) aB))) rfl))))),?_⟩
 nofun
 refine ⟨l,xs,ts,rfl,hl,hf,l2,l100,?_⟩
 nofun
 refine ⟨_,.inl (SqL.of hl),fun p2 h2=>?_⟩
 have S2:=aE h2 (.lst xs)
 refine ⟨_,_,_,S2 _ _ hp,Z0,Z1,by decide,?_⟩
 refine q p2 _ (fun b o n e=>?_) h2 ?_ aA
 ·rw [aJ n]
  exact S2 _ _ e
 ·rw [aJ (aQ hp h2).symm]
  exact aA
example:=by
 refine ⟨_,_,_,Z0 _ _ hp,B.ck_Raised.cl,B.na_Raised_minutes,by decide,_,_,_,aA,B.ck_Raised.cl,B.na_Raised_times,by rw [e1]; simp only [List.length_cons,List.length_nil]; decide,_,_,_,aA,B.ck_Raised.cl,B.na_Raised_to,by rw [e1,e2]; simp only [List.length_cons,List.length_nil]; decide,?_⟩
 refine good ⟨hx,hy⟩ _ (fun b o n e=>?_) ?_
 ·rw [aJ n,aJ n,aJ n]
  exact Z0 b o e
 ·rw [aA,e1,e2]
  exact congrArg (fun z=>some (HO.ins a.Raised dx z)) e3
example:=by
 refine ixt (SqT.of (SA _ _ hy)) (v:=.str (wNm L.k)) rfl ?_
 nofun
 by_cases Z0:L.k=Z1
 ·rw [if_pos (Z2 Z0)]
  have hyp1:H5 yp=some (.ins Z3 dy [("minute",.int L.m)]):=by
   have z:=SA _ _ hyp
   rw [Z0] at z
   exact z
  refine ⟨_,_,_,SA _ _ hlp,B.ck_Line.cl,B.na_Line_way,.ref yp,rfl,_,_,_,hyp1,Z4,Z5,.int L.m,rfl,?_⟩
  refine ixt (SqT.of (SA _ _ hy)) (v:=.int L.m) rfl ⟨rfl,?_⟩
  rw [if_neg (fun z=>z rfl)]
  all_goals (first | rfl | trivial)
 rw [if_neg (fun z=>Z0 (Z6 z))]
example:=by
 obtain ⟨Z0,Z1,fs,rfl,Z2,_⟩:=Z3
 have hk:ClsK K (t.cls (fc a))/\kitOne K (.ref (t.cls (fc a))) (.ref a.Fit)=some true:=by
  cases t with
  | any=>exact ⟨B.ck_Any,B.is_Any_Fit⟩
  | kind us=>exact ⟨B.ck_Kind,B.is_Kind_Fit⟩
  | place us=>exact ⟨B.ck_Place,B.is_Place_Fit⟩
  | weight n=>exact ⟨B.ck_Least,B.is_Least_Fit⟩
  | not t=>exact ⟨B.ck_Not,B.is_Not_Fit⟩
  | both ts=>exact ⟨B.ck_Both,B.is_Both_Fit⟩
  | either ts=>exact ⟨B.ck_Either,B.is_Either_Fit⟩
example:=by
 by_cases n0:1<=dO (ts.getD i "")/\0<=dO (ts.getD (i+1) "")
 ·rw [if_pos ⟨⟨n1,n0.1⟩,n2,n0.2⟩] at good
  refine .inl ⟨n0,fun H' Bx e2=>⟨rfl,?_⟩⟩
  have SS:=cM hx hd Bx
  exact good _ _ rfl (.ref x) _ (i+Z0) rfl (by omega) (by omega) (BA.trans (Same.but SS)) (WA_.same SS) ⟨x,dx,rfl,dQ (fM WA_.w hx) e2⟩
 ·rw [if_neg (fun z=>n0 ⟨z.1.2,z.2.2⟩)] at fail
  exact .inr ⟨n0,fail rfl _ _ _ (.inr (.inr rfl)) (BA.trans (Same.but M0))⟩
example:=by
 generalize upd Z0 wp (.ins a.Words dw (bU wl (Z1+Z2)))=Z3 at *
example:=by
 refine ⟨x,dx,il,xs,inn,rfl,aA,M0 _ _ hil,hA.imp (fun t v _ h=>(h.same iQ).same M0),by omega,hz,fun l' H' Bx hl' e1 e2=>?_⟩
 nofun
 have SS:=cM hx hd Bx
 rcases q with ⟨t',e,q⟩ | ⟨e,_⟩
 ·rw [em] at e
  cases e
  exact q (.ref x) _ SS (by rw [Tr.Fit]; exact ⟨x,dx,l',xs,rfl,dQ (hM x hx) e2,dQ (hM l' (M0.free hl')) e1,trs_fit.mpr (by rw [cL]; exact hA.imp fun t v _ h=>h.same (jM SS))⟩)
 ·rw [em] at e; cases e
example:=by
 refine sY Z0 (by decide) (by decide) fun Z1 Z2 Z3 Z4 Z5 Z6=>?_
example:=by
 refine ⟨x,dx,_,rfl,aA,fun il H3 hil B3 e1 e2=>⟨rfl,?_⟩⟩
 have S3:=cM hx hd B3
 have hP3:=hP.push S3 hx (M0.free hil) e2 e1
 refine ⟨op,_,_,rfl,rfl,S3 _ _ hP.O,?_,_,_,_,hP3.W.w,rfl,_,⟨rfl,rfl⟩,wp,dw,wl,ts,k+1,rfl,hP3.W,?_⟩
 ·rw [List.length_map,List.length_reverse]
  exact Nat.lt_of_le_of_lt (show fs.length<=1000 by omega) (by decide)
 rw [Z0] at e2
 exact push _ Z0 (Z1 rfl) x dx il H3 hx (M0.free hil) S3 e1 e2
example:=by
 refine ⟨_,_,_,W.w,B.ck_Words.cl,B.na_Words_at,.int i,rfl,?_⟩
example:=by
 nofun
 refine ⟨_,_,_,Z0,rfl,_,⟨rfl,rfl⟩,wp,dw,wl,ts,Z1,rfl,Z2,?_⟩
example:=by
 simp only [List.mem_cons,List.not_mem_nil,or_false] at Z0
example:=by
 have jl:=jT (s:=sp1) (ts:=us) ho.1
 have e1:sp1.length=1:=rfl
 rw [cS ho.1,Str.length_append,Str.length_append] at hx
 rw [cS ho.1] at q
 refine ⟨by decide,ixt (SqT.of hp) (v:=.ref l0) rfl ⟨sp1,l0,us,rfl,rfl,hl,by rw [<- jl]; omega,?_⟩⟩
 rw [tP]
 refine ⟨szM (by show ((Z0:Str)++sp1).length+_<=1000000; rw [Str.length_append]; omega),?_⟩
 exact q _ fun _ _ z=>z
example:=by
 walk_at "hr"
 nofun
 refine ⟨_,_,_,hp,Z0,Z1,.ref ln,rfl,?_⟩
 refine ixt (SqT.of tp) (v:=.ref tl) rfl ?_
 refine ⟨tl,rfl,_,.inr (SqT.of htl),fun l2 hl2=>?_⟩
 have S2:=aE hl2 (.lst (us.map V.str))
 have gsh:=(iN (Nat.zero_le _) (uF (us:=us) fun u hu=>uE (ho.2.2.1 u hu))).1
 exact eqd (.lst (S2 _ _ hn) (kW us)) (.lst aA (kW us)) gsh (q _ (SA.trans S2))
example:=by
 ·obtain ⟨p,dx,n,rfl,_⟩:=h
  rfl
 obtain ⟨p,dx,n,rfl,hp,q⟩:=h
 refine ⟨_,(aY (aC (bQ (cD (cR Z0 (hr.mono (by decide)) rfl (aH (aL (pv 1) aB)) (he:=aD _ _ _ rfl) (hpl:=aF rfl)))) (aG (bQ (eA (pv 0) (pv 1) rfl))))),?_⟩
 nofun
 rcases q with ⟨c,q⟩ | ⟨c,q⟩
 ·refine ⟨n,rfl,.inl ⟨c,?_⟩⟩
  nofun
  exact ⟨_,_,_,hp,Z1,Z2,by decide,q⟩
 ·exact ⟨n,rfl,.inr ⟨c,q⟩⟩
example:=by
 refine ⟨_,_,_,Z0 _ _ hlp,B.ck_Line.cl,B.na_Line_way,.ref yp,rfl,?_⟩
 refine ⟨_,_,_,_,rfl,c1.ty (Z0 _ _ hyp),Z1,?_⟩
 nofun
example:=by
 rw [Z0] at Z1
 rw [Z2] at Z3
 rw [Tr.tx] at q hx
example:=by
 by_cases Z0:ts.getD i ""=Z1
 ·rw [if_pos Z0]
  rw [if_pos Z0] at good fail
  have kl:=cN Z0 (by decide)
  intro x dx hx hd ne
  exact good _ _ _ rfl (.ref x) _ (i+1) rfl (by omega) (by omega) (B1.trans (Same.but (bA hx hd))) (W1.same (bA hx hd)) ⟨x,dx,rfl,dQ (fM W1.w hx) aA,by decide⟩
 rw [if_neg Z0]
 rw [if_neg Z0] at good fail
example:=by
 by_cases Z0:L.k=Z1
 ·rw [if_pos (Z2 Z0)]
  walk_at "ho"
  nofun
  refine ⟨.inl ⟨rfl,_,SqL.of e1⟩,?_⟩
  refine ixt (SqT.of (SA _ _ hy)) (v:=.int L.m) rfl ⟨L.m,rfl,dD m0 (by omega),?_⟩
  refine ⟨pw,_,_,rfl,rfl,e1,Nat.lt_of_le_of_lt (show _<=1000 by simp) (by decide),?_⟩
  exact app _ SA e1 (Z3 Z0)
 rw [if_neg (fun z=>Z0 (Z4 z))]
example:=by
 have Z0:=aE Z1 (.lst (Z2 V.str))
example:=by
 refine ixt (SqT.of (Z0 _ _ hy)) (v:=.str (wNm L.k)) rfl ?_
example:=by
 have SS:=T1.trans (T3.trans (aE h4 (.tup [.str Z0,.ref p3])))
 refine q (.ref p4) (Z1 us) _ (by rw [Tr.At]; exact ⟨p4,p3,rfl,aA,aE h4 _ _ _ aA⟩) (by rw [Tr.ok]; exact ⟨une,by omega,ug,un⟩) (by rw [Tr.dp]) (by rw [Tr.cnt]; omega) (W9.same SS) (B1.trans (B2.trans (B9.trans (Same.but SS))))
example:=by
 ·rcases List.mem_append.mp hy with z | z
  ·exact ug y z
  ·rw [List.mem_singleton.mp z]; exact g
 ·rw [List.nodup_append]
  exact ⟨un,by simp,fun x hx y hy e=>c (by rw [List.mem_singleton.mp hy] at e; rw [<- e]; exact hx)⟩
 ·rw [aJ (aQ e hf)]
  exact B3 b o nb (B9 b o nb e)
example:=by
 ·rw [if_pos Z0]
  refine ⟨.inl ⟨by omega,by omega⟩,wl,_,rfl,W1,?_,?_,fun v t H' hA ho hd hc W' B'=>?_⟩
  ·split <;> omega
  ·split <;> omega
  have p3:1<=3 ^ i:=Nat.one_le_pow _ _ (by decide)
  exact q v t H' hA ho (by omega) (by omega) W' (B1.trans B')
 rw [if_neg Z0]
example:=by
 rw [Tr.Fit] at hf
 rw [Tr.At] at hA
 rw [Tr.ok] at ho
example:=by
 refine ⟨_,_,_,Z0,rfl,_,⟨rfl,rfl⟩,wp,dw,wl,ts,Z1+1,rfl,Z2,jO hT _,?_⟩
 by_cases Z3:kY (ts.getD (Z1+1) "")=true
example:=by
 rcases q with ⟨Z0,q⟩ | ⟨Z0,q⟩
example:=by
 ·obtain ⟨wp,dw,wl,ts,i,rfl,_⟩:=h
  rfl
 obtain ⟨wp,dw,wl,ts,i,rfl,W,hT,hl,hi,good,fail⟩:=h
example:=by
 have W:=W.same Z0
 have B0:=B0.trans (Same.but Z0)
example:=by
 have eT:(Z0 (Z1 V.str).length).map (fun w=>decide (w=Z2 Z3))=Z4 Z3:=by
  rw [List.length_map,List.take_length]
  exact Z5 Z6
 rw [eT]
 have S6:=aE hD (.lst ((Z4 Z3).map V.bl))
 refine eqd (.lst (S6 _ _ e5) (wB _)) (.lst aA (wB _)) (iN (Nat.zero_le _) (wC _)).1 ?_
 have SA:=SA.trans S6
example:=by
 refine ⟨Z0,Z1,_,_,rfl,rfl,Z2 _ _ Z3,aA,sz8 (by simp only [List.length_append,List.length_cons,List.length_nil,List.length_map]; omega),fun Z4 Z5=>?_⟩
example:=by
 refine ⟨_,_,_,SA _ _ hlp,B.ck_Line.cl,Z0,Z1 Z2,rfl,?_⟩
example:=by
 refine sY W (by decide) (by decide) fun Z0 Z1 Z2 Z3 Z4 Z5=>?_
 have W:=Z4
 have B0:=B0.trans Z5
 nofun
example:=by
 refine ⟨x,dx,l2,us,rfl,aA,M _ _ aA,⟨ho.2.2.1,by have:=ho.2.1; omega⟩,.inl ⟨⟨ho.1,ho.2.2.2⟩,fun l3 H' Bx _ e1 e2=>?_⟩⟩
 nofun
 exact q (.ref x) _ (S2.trans (cM hx hd Bx)) (by rw [Tr.Fit]; exact ⟨x,dx,l3,rfl,e2,e1⟩)
example:=by
 obtain ⟨tk,tl,tn⟩:=nX hw ho (by omega)
 have jl:=mJ (fun x hx=>(tk x hx).2.2.1) (by omega)
 have lx:t.tx.length<=100000:=by
  rw [vB t hw]
  have:=mJ (ws:=t.ws) (fun x hx=>(sR hw x hx).2.2.1) (by omega)
  omega
example:=by
 have Z0:Z1≠Z2:=fun z=>by rw [z,Z3] at Z4; cases Z4
example:=by
 refine ⟨_,_,true,rfl,Z0 Z1,by kernel_rfl,?_⟩
example:=by
 refine ⟨_,_,_,W.w,B.ck_Words.cl,B.na_Words_words,.ref wl,rfl,?_⟩
 refine ⟨wl,rfl,_,.inl (SqL.of W.l),?_⟩
example:=by
 rintro i σ H9 hi ⟨⟨us,ul,Z0,ug,un,ue⟩,⟨v8,v9,rfl⟩,W9,B9⟩
 nofun
 refine ⟨wl,rfl,W9,fun u H3 g W3 B3=>?_⟩
 have ue3:=B3 pf _ nw ue
 nofun
 refine ⟨pf,_,rfl,.inl (SqL.of ue3),rfl,vV us,?_⟩
 rw [vU]
 by_cases c:u∈us
example:=by
 exists Bool.not_true
example:=by
 exists decide_eq_false c,Bool.not_false
 refine ⟨.inl ⟨rfl,_,SqL.of ue3⟩,pf,_,_,rfl,rfl,ue3,?_,?_⟩
 ·rw [List.length_map]
  exact Nat.lt_of_le_of_lt (by omega:us.length<=1000) (by decide)
example:=by
 have l5:((Z0:Str)).length<=10:=by decide
 have lm:=(vE m0 m1).2
 exact ⟨_,_,_,hp,Z1,Z2,.int m,rfl,m,rfl,dD m0 m1,szM (show ((Z0:Str)).length+(bY m).length<=1000000 by omega),q _ fun _ _ z=>z⟩
example:=by
 rw [if_pos Z0]
 refine ⟨fun σ' H'=>BJ0 a wp dw wl op ts i G R σ' H'/\3000 - AJ4 wp H' < 3000 - AJ4 wp H2,fun σ' H' h=>⟨_,h.2,rfl,h.1⟩,.inl ⟨rfl,_,SqL.of hP.O⟩,fun x dx hx hd ne=>?_⟩
example:=by
 refine ixt (SqT.of Z0) (v:=Z1 Z2) rfl ?_
example:=by
 ·obtain ⟨e,y,rfl,_⟩:=h
  rfl
 obtain ⟨e,y,rfl,he,q⟩:=h
 refine ⟨_,(aY (aG (bQ (AZ7 (pv 0) (pv 1) rfl)))),?_⟩
 nofun
 obtain ⟨cdR,xs⟩:=B.xs
 exact ⟨_,he,_,xs,B.xmo,B.xna,q⟩
example:=by
 clear e1 f1 SA pw H2
 rintro σ' H2 ⟨pw,rfl,SA,e1,f1⟩
 nofun
example:=by
 refine ⟨_,_,_,hr1,B.ck_Opened.cl,B.na_Opened_sign,.str sg,rfl,?_⟩
 nofun
 by_cases Z0:sg=Z1
example:=by
 refine ⟨_,_,_,_,rfl,ck.ty (S1 _ _ hp),Z0,?_⟩
 nofun
example:=by
 have Z0:upd Z1 Z2 (.lst (Z3 V.str)) Z2=some (.lst (Z3 V.str)):=aA
example:=by
 have W12:Well3 (upd H3 pf (.lst (us.map V.str++[.str u]))) wl:=by
  obtain ⟨x1,x2,x3,e⟩:=W3
  exact ⟨x1,x2,x3,by rw [aJ (fun z=>nw z.symm)]; exact e⟩
example:=by
 refine ⟨Nat.zero_le _,fun Z0 Z1=>?_⟩
example:=by
 have Z0:=Z1 _ _ Z2 Z0
 have W:=Z3
 have B0:=B0.trans Z1
example:=by
 rcases (by omega:k=0\/k=1\/k=2\/k=3) with rfl | rfl | rfl | rfl <;> decide
example:=by
 have hA:=hA.but3 W Z0
 have Z1:=Z0 _ _ Z2 Z1
example:=by
 nofun
 have SS:Same Z0 (upd (upd (upd Z0 dx (.own x)) x (.ins a.Not dx [])) x (.ins a.Not dx [("fit",Z1)])):=fun b o e=>by rw [aJ (aQ e hx)]; exact Z2 b o e
example:=by
 rw [if_pos (by intro Z0; cases Z0)]
example:=by
 have hA:=hA.keep (kH Z0)
 have e_p1:=Z0 _ _ e_p1
 have e_p2:=Z0 _ _ e_p2
example:=by
 exact q _ fun _ _ z=>z
example:=by
 rw [List.length_map]
 refine ⟨dD (by omega) (by omega),sz8 (by decide),fun p2 Z0=>?_⟩
 have Z1:=aE Z0 (.lst [.str "by",.str (bY L.rs.length)])
example:=by
 rw [er] at hR
 have hR:rv=.non:=hR
 subst hR
 rw [if_neg (fun z=>z rfl)]
example:=by
 replace hf:=hf.same (Z0 Z1)
 replace hw:=hw.same (Z0 Z1)
example:=by
 simp only [List.append_assoc,List.cons_append,List.nil_append]
example:=by
 refine ⟨_,_,_,SA _ _ hlp,B.ck_Line.cl,B.na_Line_raised,.ref zp,rfl,_,_,_,SA _ _ hzp,B.ck_Raised.cl,Z0,.int Z1,rfl,?_⟩
 nofun
example:=by
 rcases (by omega:Z0=0\/Z0=1\/Z0=2\/Z0=3) with rfl | rfl | rfl | rfl
example:=by
 rw [Z0 (by omega)]
example:=by
 ·obtain ⟨Z0,rfl,_⟩:=h
  rfl
 obtain ⟨Z0,rfl,q⟩:=h
example:=by
 obtain ⟨p,dx,Z0,e0,hp,Z1⟩:=hf
 cases e0
 obtain ⟨pt,Z2,e1,tp,Z3⟩:=hA
 cases e1
example:=by
 exact ⟨_,_,_,Z0,rfl,_,⟨rfl,rfl⟩,wp,dw,wl,ts,Z1,_,rfl,Z2,.inr ⟨Z3,fun y H2 S2=>fail rfl _ _ _ (.inl (.inr rfl)) (Z4 (Same.but S2))⟩⟩
example:=by
 obtain ⟨m,n,o⟩:=x
 obtain ⟨qp,rfl,hq⟩:=hR
example:=by
 refine ⟨_,_,rfl,⟨_,.int Z0,by kernel_rfl,by kernel_rfl⟩,?_⟩
example:=by
 by_cases Z0:k=Z1
 ·rw [if_pos Z0,decide_eq_false (by omega)]
  exact ⟨Z2,Z3,Z4⟩
example:=by
 walk_at "hr"
 nofun
example:=by
 obtain ⟨p,l0,xs,rfl,hp,hl,hs⟩:=hA
 nofun
example:=by
 obtain ⟨p,tv,y,r,rv,rfl,hp,hA,hy,hr',hR⟩:=hv.ex
 nofun
example:=by
 exact q (.ref x) _ (fun b o e=>by rw [aJ (aQ e hx)]; exact M0 b o e) ⟨x,dx,rfl,aA,by decide⟩
example:=by
 refine ⟨_,_,_,_,rfl,ck.ty hp,Z0,?_⟩
 nofun
example:=by
 exists uV
 exact ⟨ox,q _ fun _ _ z=>z⟩
example:=by
 obtain ⟨p,Z0,rfl,hp,Z1⟩:=hA
 nofun
example:=by
 exists decide_eq_false Z0,Bool.not_false
 exact fun y hy=>q3 c1 (fun z=>Z0 Z1) y _ (Z2 (Same.but (aE hy _)))
example:=by
 have Z0:H Z1=none:=(Z2 Z3).free Z4
example:=by
 rcases q with ⟨c,_⟩ | ⟨_,q⟩
 ·exact absurd c (by omega)
 ·exact fun y hy=>q y _ (aE hy _)
example:=by
 refine ixl (SqL.of hw) (v:=.int a) rfl ?_
 nofun
example:=by
 first | exact ⟨rfl,Z0,Z1⟩ | exact ⟨Z0,Z1⟩ | trace_state
example:=by
 rw [Z0] at hx
 exact szM (by show (("weight ":Str)).length+(bY n).length<=1000000; omega)
example:=by
 refine .inl ⟨u,rfl,ht.1,ht.2.1,fun wl H1 hwl B1 W1=>⟨rfl,?_⟩⟩
 have S1:=cM hx hd B1
example:=by
 rw [if_pos Z0]
 have e:jH (.str u)=false:=decide_eq_false fun g=>by have:=Z1; omega
 rw [e] at q
example:=by
 obtain ⟨wp,dw,wl,ts,i,rfl,W,q⟩:=h
example:=by
 rcases Z0 with ⟨Z1,_⟩ | ⟨_,Z0⟩
 ·exact absurd Z2 Z3
example:=by
 have e2:(us.map V.str).map AS7=us:=by rw [List.map_map]; exact List.map_id us
example:=by
 exact ⟨pw,rfl,SA,e1,f1⟩
example:=by
 by_cases Z0:Z1 < ts.length
example:=by
 refine ⟨_,_,_,hr1,B.ck_Opened.cl,B.na_Opened_inner,.ref il,rfl,?_⟩
 have l2:=h2 (Z0 Z1)
example:=by
 refine ⟨_,.inl (SqL.of hl),?_⟩
 rw [List.length_map]
 by_cases l0:us.length=0
example:=by
 intro x dx hx hd ne
 exact q (.ref x) _ (bA hx hd) ⟨x,dx,rfl,aA,by decide⟩
example:=by
 refine ⟨p1,p2,_,_,rfl,rfl,Z0 _ _ e1,aA,sz8 (show Z1<=1000 by decide),fun p3 h3=>?_⟩
example:=by
 generalize upd Z0 Z1 (.lst (Z2 V.str))=Z3 at *
example:=by
 rw [if_neg h1]
 refine ⟨sz8 hl,?_⟩
 by_cases h2:(Z0:Int) < ((u.length:Nat):Int)
example:=by
 rw [(iR (by omega)).1] at Z0
example:=by
 have Z0:AB8 (.int Z1) Z2=false:=decide_eq_false Z3
 exists Z0,Bool.not_false
 exact bads fun z=>Z3 Z4
example:=by
 refine ⟨_,_,_,Z0,rfl,_,⟨rfl,rfl⟩,wp,dw,wl,ts,Z1,_,rfl,Z2,.inl ⟨Z3,?_⟩⟩
 have Z4:=cN Z3 (by decide)
example:=by
 exists Z0,Z1
 exists Z2
 exists Z3,Z1
example:=by
 nofun
 exists 20,Z0,Z1
 have Z2:=W.ne Z1
 have Z3:=aE Z1 (.tup [.str Z4,.int Z5])
 exists 62,Z3
 have Z6:upd Z7 Z0 (.tup [.str Z4,.int Z5]) Z0=some (.tup [.str Z4,.int Z5]):=aA
example:=by
 exists 20,Z0,Z1
 have Z2:=W.ne Z1
 have Z3:=aE Z1 (.tup [.str Z4,.int 0])
 exists 62,Z3
 have Z5:upd Z6 Z0 (.tup [.str Z4,.int 0]) Z0=some (.tup [.str Z4,.int 0]):=aA
example:=by
 refine ⟨sz8 (by decide),fun Z0 Z1=>?_⟩
example:=by
 exists 8,Fun.okX,Z0
example:=by
 ·exists 45,hq
  rcases hq with rfl <;> (dsimp only; decide)
 ·exists 45,hq
  rcases hq with rfl | rfl <;> (dsimp only; decide)
example:=by
 exists Z0,Z1
 rw [Tr.ok] at ho
 exists 77,hp,.ref,l0
 nofun
 refine ⟨_,.inr (SqT.of hl),fun l2 h2=>?_⟩
 exists 53,S2,h2,us.map
 exists 13,M,Z2
 exists 67
example:=by
 exists 50,Tr.Fit,hf,Tr.wf,hw
example:=by
 refine ⟨_,_,_,hp,B.ck_Least.cl,B.na_Least_weight,.int n,rfl,?_⟩
example:=by
 exists 107
 exists 31
 refine ⟨_,SqT.of hp,rfl,?_⟩
 nofun
 exists 31
example:=by
 exists 25,Z0,Z1
 ·refine .inr ⟨c3,sZ ?_⟩
  exists 16
  exact fin _ _ .non none Z1 Z0 es (by rw [nP,if_neg c3]) z71 z72 BY W7 rfl
example:=by
 exists decide_eq_true Z0,Bool.not_true
example:=by
 nofun
 exists 14,Z0,Z1,false,Z2
 exists 14,Z0,Z3,Z4,Z5
example:=by
 exists Bool.not_false
example:=by
 exists 20,p4,h4
 exists 53,S5,h4,Z0
 exists 82,e4,H3,p4,Z0
 have e5:=S5 _ _ e3
 have SA:=S4.trans S5
example:=by
 ·exists 28,Z0
  have T3:=aE h3 (.tup (us.map V.str))
  exists 20,p4,h4
  exists 55,Z0,Z1
example:=by
 exists 5,Z0
 obtain ⟨Z1,rfl,Z2,q⟩:=h
example:=by
 refine ⟨_,_,_,true,rfl,Z0 Z1,Z2,?_⟩
 exists 73
example:=by
 exists 50,Tr.At,hA,Tr.ok,ho
 exists 111,l0,hl
 exists 2,Z0
 exists Z1,Z0
 exists Z2,Z0
example:=by
 by_cases Z0:ts.getD k ""=Z1
 ·exists 76,Z0
  exists 21,a.Opened
  exists 42,Z0,Z2
 rw [if_neg Z0]
example:=by
 exists 5,Z0
 obtain ⟨v,t,L,rfl,hv,Z1,hd,hz,ho,q⟩:=h
example:=by
 exists 58
 obtain ⟨p,dx,e0,hp⟩:=hf
 cases e0
 obtain ⟨pt,e1,tp⟩:=hA
 cases e1
example:=by
 exists 44,W.w,i,W
 exists 32,W1,W.take,i,1,B1,H
 exists 39,H,i,1,H1
 nofun
example:=by
 exists 4,Z0
 exists 16
 exists 18,Z0,Z1
 exists 1,Z1,trs_ok.mp,ho.2.2
example:=by
 exists 43
 nofun
 refine ⟨_,_,W.w,(show 2 < 1000 by decide),?_⟩
 exact q
example:=by
 exists Z0
 exists 134,Z1,Z2,Z3,Z4
 exists Z3
 exists Z5,Z2
example:=by
 exists 50,Tr.At,hA,Tr.ok,ho
example:=aR (Z0 (K:=K) rfl) rfl B.isinstance PyProof.Rows.boot_isinstance (aH (aL (pv Z1) (aL (bF (v:=.ref _) rfl Z2 rfl) aB))) (he:=aD _ _ _ rfl) (hpl:=aF rfl)
example:=hr.mono (by decide)
example:=cY (cJ (dL (R:=fun H9=>E (.ref Z0) none H9) rfl rfl Z1 Z2 (fun _ _ _ _ _ _ _ I hx hE=>jL I hx hE)))
example:=(((((tl0++tl1)++tl2)++tl3)++tl4)++tl5)++tl6
example:=((((tl0++tl1)++tl2)++tl3)++tl4)++tl5
example:=(((tl0++tl1)++tl2)++tl3)++tl4
example:=bL Z0 (pv Z1) aM (fun _ _=>rfl)
example:=aZ (i:=0) sc_law_tails.nd rfl (Or.inl rfl) (oH dZ (aS (pv 0)) (jD (xs:=Z0) (by kernel_rfl))) (by kernel_rfl)
example:=aR (bV (K:=K) rfl) rfl B.isinstance PyProof.Rows.boot_isinstance (aH (aL (bB (pv 0) rfl) (aL (bF (v:=.ref _) rfl Z0 rfl) aB))) (he:=aD _ _ _ rfl) (hpl:=aF rfl)
example:=aR (iO (K:=K) (T:=Z0) rfl) rfl B.isinstance PyProof.Rows.boot_isinstance (aH (aL (pv Z1) (aL (fR (v:=.ty Z0) rfl Z2 Z3 rfl) aB))) (he:=aD _ _ _ rfl) (hpl:=aF rfl)
example:=((tl0++tl1)++tl2)++tl3
example:=pc aW hr rfl (aH (aL (pv 0) (aL aM aB)))
example:=bS (i:=0) (by decide:List.Nodup ([Z0]:List Str)) rfl (Or.inl (by kernel_rfl)) (Or.inr (by kernel_rfl))
example:=.lst ([.str "any",.str "kind",.str "place",.str "weight",.str "not",.str "by",.str "now",.str "hour",.str "day",.str "never",.str "sure",.str "raise",.str "zone"]++[.str "quiet",.str "a",.str "to"])
example:=bQ (AA0 (pv Z0) (AT1 (n:=5) rfl (dA (bS (i:=Z1) Z2 rfl (Or.inl rfl)) (dA (bS (i:=Z3) Z2 rfl (Z4 rfl)) (dA (bS (i:=Z5) Z2 rfl (Or.inl rfl)) (dA (bS (i:=Z6) Z2 rfl (Or.inl rfl)) (dA (bS (i:=Z7) Z2 rfl (Or.inl rfl)) AG0)))))))
example:=.lst [.str "any",.str "kind",.str "place",.str "weight",.str "not",.str "by",.str "now",.str "hour",.str "day",.str "never",.str "sure",.str "raise",.str "zone"]
example:=(tl0++tl1)++tl2
example:=jV Z0 (hr.mono (by omega)) (uR (by kernel_rfl)) (aH (aL (pv 0 (hv:=Or.inl (by kernel_rfl))) aB)) (he:=aD _ _ _ rfl) (hpl:=aF rfl)
example:=aR (iO (K:=K) (T:=Z0) rfl) rfl B.isinstance PyProof.Rows.boot_isinstance (aH (aL (bB (pv 0) rfl) (aL (fR (v:=.ty Z0) rfl Z1 Z2 rfl) aB))) (he:=aD _ _ _ rfl) (hpl:=aF rfl)
example:=bB (pv 0) rfl
example:=Or.inl (by kernel_rfl)
example:=bF (v:=.ref _) rfl Z0 rfl
example:=aR Z0 rfl B.len PySem.boot_len (aH (aL (pv Z1) aB))
example:=pv 0 (hv:=Or.inl (by kernel_rfl))
example:=.lst [.bl (decide (Z0=Z1)),.bl (decide (Z0=Z2)),.bl (decide (Z0=Z3))]
example:=.lst [.bl (decide (t.tag=0)),.bl (decide (t.tag=1)),.bl (decide (t.tag=2)),.bl (decide (t.tag=3))]
example:=(ts.drop (Z0+1)).takeWhile fun u=>decide (aX u)
example:=aY (aC (aZ (i:=Z0) Z1 rfl (Or.inl rfl) (aS (pc dF hr rfl (aH (aL (pv 0) aB)))) (by kernel_rfl)) (aG (bC (aU jK (pv Z0) (pv Z2) (by with_unfolding_all rfl)) (aG (bQ (cD (gK PySem.F.plainAttrs_list PySem.F.slot_list_append PySem.F.type_list_append dC (pv Z2) (aH (aL (pv Z0) aB)))))) aO)))
example:=!(Builtin.Str.occurrences figs ⟨#[Z0]⟩ 0 figs.length 1).isEmpty
example:=aH (aL (pv Z0) aB)
example:=bQ (cD (gK PySem.F.plainAttrs_list PySem.F.slot_list_append PySem.F.type_list_append dC (pv Z0) (aH (aL aN aB))))
example:=hr.mono (by omega)
example:=(ltA t L.k L.m++lnB L)++lnC L
example:=aZ (i:=Z0) Z1 rfl (Z2 rfl) (Z3 Z4) (by kernel_rfl)
example:=aG (aT (aS kC))
example:=fs.reverse.map fun f=>V.ref f.r
example:=upd Z0 Z1 (.lst (Z2 V.str))
example:=Int × Int × Option Str
example:=.lst [.str "raise",.str (bY m),.str (bY n)]
example:=(lnA t L++lnB L)++lnC L
example:=aZ (i:=3) sc_law_next.nd rfl (Or.inl rfl) (aS (bO pN (bO xE (pv 3) (bO jI (bO nG (pv 3) aM) aM)) aM)) (by kernel_rfl)
example:=bQ (eA (pv 0) (pv Z0) rfl)
example:=.ref a.NoText
example:=aH (aL aN aB)
example:=bC (aU bZ (pv Z0) aN (aV _)) (aG (aT (aS (rA Z1 rfl Z2)))) aO
example:=.lst [.ref p1,.ref p2,.ref p3,.ref p4]
example:=.lst [.str "quiet",.str "a",.str "to"]
example:=lnA t L++lnB L
example:=.ref (t.cls (fc a))
example:=aL aN (aL aN aB)
example:=aU bZ (pv Z0) Z1 (aV _)
example:=.lst [.str "kind",.str "place"]
example:=ts.getD (Z0+1) ""
example:=(ts.drop Z0).takeWhile fun u=>decide (aX u)
example:=.lst [.str t.tx,.str ":",.str (wNm L.k)]
example:=.lst ((tl0++tl1).map V.str)
example:=wWs L.k L.m++(lnB L++(lnC L++wO L.ra))
example:=.lst ((lnA t L).map V.str)
example:=.lst ((Z0 Z1).map V.bl)
example:=(ltA t L.k L.m).map V.str++[.str "by",.str (bY L.rs.length)]
example:=.lst [.int r7,.int r8]
example:=bB (bB (pv 0) rfl) rfl
example:=Txt.slice w8 none (some (1+r2))
example:=.cons (.int m) (.cons (.int n) (.cons (rdo _) .nil))
example:=.lst [.bl (decide (L.k=3))]
example:=u.cps.toList.map fun c=>!(Builtin.Str.occurrences Z0 ⟨#[c]⟩ 0 Z1 1).isEmpty
example:=[.str "by",.str (bY L.rs.length)]++L.rs.map V.str
example:=aH (aL (pv 0) (aL aM (aL (bO xD (bF (v:=.int Z0) rfl Z1 ⟨_,rfl⟩) aM) aB)))
example:=aL (pv 2) (aL (pv 3) (aL (pv 4) (aL (pv 5) aB)))
example:=.lst (([t.tx,":",wNm L.k]:List Str).map V.str)
example:=(k=3/\us=[]/\su=false/\ra=none)\/(k≠3/\us≠[])
example:=.ins a.Words dw (bU wl (k+Z0))
example:=(∀ u∈us,aX u)/\us.Nodup
example:=spliced (backTo pos (starEach es X.env))
example:=aG (aT (aS (pv Z0)))
example:=cY (cJ (eZ (R:=fun dx H9=>E ↑203 (some dx) H9) bH rfl rfl ↑162 kX))
example:=bC (nomatch 211,Z0,aN) (aG (aT (aS (fP Z1 dP ↑162 rfl (aH (aL (bT (pv 0) Z2 dP ↑162) aB)) (he:=aD _ _ _ rfl) (hpl:=aF rfl))))) aO
example:=Z0 bZ (nomatch 167,bJ,Z1) aN (aV _)
example:=cR Z0 ↑162 rfl (nomatch 190,Z1) (he:=aD _ _ _ rfl) (hpl:=aF rfl)
example:=aZ (i:=Z0) Z1 rfl (Or.inl rfl) (aS (bT (pv Z2) Z3 Z4 ↑162)) (by kernel_rfl)
example:=aH (aL (eG ["_law_part"] [none] rfl (by kernel_rfl) (AT3 (nomatch 167,bJ,0)) (fun cl C s H fp=>⟨(nomatch 173,"_law_part"),gP,(nomatch 178,Z0)⟩)) aB)
example:=aR (yP rfl) rfl B.all PyProof.Rows.boot_all (aH (aL (eG ["sign"] [none] rfl (by kernel_rfl) (BL8 (pv 0)) (fun cl C s H fp=>⟨(nomatch 173,"sign"),gP,(cU AA2 ↑184 (bF (v:=.str Z0) (uR (by kernel_rfl)) Z1 ⟨_,rfl⟩) (by with_unfolding_all rfl))⟩)) aB)) (he:=aD _ _ _ rfl) (hpl:=aF rfl)
example:=bC (bI (nomatch 161,bV,0,Z0)) (aG (aT (aS (bO bG (bO bG aN (gK PySem.F.plainAttrs_str PySem.F.slot_str_join PySem.F.type_str_join kU aN (aH (aL (eG ["part"] [none] rfl (by kernel_rfl) (oC ↑180) (fun cl C s H fp=>⟨(nomatch 173,"part"),gP,(nomatch 178,gF)⟩)) aB)))) aN)))) aO
example:=((↑164++tl7)++tl8)++tl9
example:=bE cE rfl B.str PyProof.Rows.boot_str (aH (aL ↑180 aB))
example:=aH (aL (nomatch 167,bJ,Z0) aB)
example:=(↑164++tl7)++tl8
example:=aH (aL ↑180 aB)
example:=aG (aT (aS (gK PySem.F.plainAttrs_str PySem.F.slot_str_join PySem.F.type_str_join kU aN (nomatch 190,Z0))))
example:=bC (cC (bI (cR cQ ↑162 rfl (aH (aL (pv Z0) (aL aM aB))) (he:=aD _ _ _ rfl) (hpl:=aF rfl)))) (nomatch 163,Z1,Z2,Z3) aO
example:=.lst ((↑Z0).map V.str)
example:=bC (bI (nomatch 161,bV,0,Z0)) (aG (aT (aS (gK PySem.F.plainAttrs_str PySem.F.slot_str_join PySem.F.type_str_join kU aN (aH (aL (bO dZ (iB ↑204) ↑180) aB)))))) aO
example:=Z0 (nK (pv 0) Z1 dP ↑162 ↑204 (hst:=aD _ _ _ rfl) (hpl:=aF rfl))
example:=aG (aT (aS (gJ (aH (aL (bL cX (iB (aH ↑210)) (bO pN (pv Z0) aM) (fun _ _=>rfl)) (aL (bE kR rfl B.tuple PyProof.Rows.boot_tuple (nomatch 190,Z1)) aB))))))
example:=bE cF rfl B.list PyProof.Rows.boot_list (nomatch 190,Z0)
example:=aH (aL (bT (pv 0) Z0 Z1 ↑162) aB)
example:=bI (nomatch 161,bV,Z0,Z1)
example:=bC (nomatch 211,0,aN) (aG (aT (aS (fP Z0 gM (hr.mono (by decide)) rfl (nomatch 190,1) (he:=aD _ _ _ rfl) (hpl:=aF rfl))))) aO
example:=pc Z0 hr rfl (nomatch 190,Z1)
example:=gK PySem.F.plainAttrs_str PySem.F.slot_str_startswith PySem.F.type_str_startswith pU (pv 0) ↑204
example:=hr.mono (by decide)
example:=bL (AN7 (K:=K) rfl) (pv Z0 (hv:=Or.inr ↑181)) aM (fun _ _=>rfl)
example:=Or.inr (by kernel_rfl)
example:=.lst ((↑164++tl7).map V.str)
example:=u.cps.toList.map fun c=>(nomatch 189,c)
example:=pv Z0 (hv:=Or.inr ↑181)
example:=upd H1 p2 (nomatch 185,t.tag,4,5,6)
example:=ts.getD (i+2) ""
example:=(ts.drop (Z0+2)).take (dO (nomatch 213,Z0)).toNat
example:=.tup [.ref a.NoClock,.ref a.NoFit,.ref a.NoRow,.ref a.NoWish]
example:=cC (bI (nomatch 170,"list",0,B.list,PyProof.Rows.boot_list))
example:=upd (upd H3 op (.lst (↑196++[.ref x]))) wp (nomatch 232,2)
example:=cR Z0 ↑162 rfl (aH (aL (pv Z1) (aL (pv 1) aB))) (he:=aD _ _ _ rfl) (hpl:=aF rfl)
example:=.lst (us.map V.str)
example:=aL (nomatch 161,bV,0,Z0) (aL (nomatch 161,bV,0,Z1) (aL (nomatch 161,bV,0,Z2) aB))
example:=kF ex ↑203 (some y)
example:=mF rfl B.range (aH (aL (bO jI aM ↑172) aB))
example:=aL aN (aL aN (aL aN (aL aN (aL aN ↑210))))
example:=aU yE (nomatch 183,eV,0) (bF (v:=.int Z0) rfl Z1 ⟨_,rfl⟩) (aV _)
example:=aZ (i:=2) Z0 rfl (Or.inl rfl) (aS ↑172) (by kernel_rfl)
example:=fP Z0 Z1 ↑162 rfl (nomatch 190,Z2) (he:=aD _ _ _ rfl) (hpl:=aF rfl)
example:=Z0 (nomatch 179,"bool",B.bool,PyProof.Rows.boot_bool)
example:=bC (nomatch 238,aU,0) (aG (aT (aS (fP Z0 gM ↑192 rfl (aH (aL (bE cF rfl B.list PyProof.Rows.boot_list (nomatch 246,0)) aB)) (he:=aD _ _ _ rfl) (hpl:=aF rfl))))) aO
example:=aR bR rfl B.len PySem.boot_len ↑248
example:=L2.PW.pt (gO (nomatch 238,aU,Z0) (eU (nomatch 238,aU,Z0)))
example:=bE cE rfl B.str PyProof.Rows.boot_str (nomatch 246,Z0)
example:=aZ (i:=Z0) Z1 rfl (Or.inl rfl) (aS (nomatch Z2,Z3,Z4)) (by kernel_rfl)
example:=.lst (((↑244++tl10)++tl11).map V.str)
example:=bC (aU bZ ↑180 aN (aV _)) (aG (aT (aS (fP Z0 dP ↑162 rfl ↑248 (he:=aD _ _ _ rfl) (hpl:=aF rfl))))) aO
example:=.lst ((↑244++tl10).map V.str)
example:=aU Z0 (nomatch 183,Z1,Z2) aM (aV _)
example:=bC (nomatch 257,0,Z0) (aG (aT (aS (bO bG aN ↑245)))) aO
example:=aG (aT (aS (fP Z0 gM ↑192 rfl (nomatch 241,gG) (he:=aD _ _ _ rfl) (hpl:=aF rfl))))
example:=bS (i:=0) (by decide:List.Nodup (["_law_word",Z0]:List Str)) rfl ↑181 ↑263
example:=.lst ((↑Z0).map V.str)
example:=bC (cC (nomatch 257,Z0,Z1)) (nomatch 163,a.NoWish,B.NoWish,B.exc_NoWish) aO
example:=bS (i:=0) (by decide:List.Nodup (["_law_k",Z0,Z1]:List Str)) rfl ↑181 ↑263
example:=aC (nomatch 205,Z0,Z1,Z2) (aC (nomatch 237,Z0,Z3,Z4) (aC (nomatch 237,Z0,Z5,Z4) (aC (nomatch Z6,Z0,Z7,Z8) ↑236)))
example:=cC (bI (nomatch 239,Z0,Z1))
example:=aR bR rfl B.len PySem.boot_len (nomatch 246,1)
theorem sY {H:Hp}{w:Addr}{m:Int}{Q:VK}{E:XK}(W:Well3 H w)(h0:0 < m)(h1:m < 2 ^ 62)(q:∀ (r:Int) (H':Hp),0<=r->r < m->Well3 H' w->But w H H'->Q (.int r) H'):dS K a [.ref w,.int m] H Q E:=⟨w,m,rfl,W,h0,h1,q⟩
theorem AJ7 (B:Bt K mg a)(F:Fun K "is_whole" "is_whole" rE f fd):FnOk P w K mg base CX0 1 f fd ["thing"] (oX K a):=by
 exists 5,AJ0
 obtain ⟨x,rfl,⟨t,ty,ki,kb⟩,q⟩:=h
 refine ⟨_,(aY (aG (aT (aS (nU (nomatch 170,"int",0,B.int,PyProof.Rows.boot_int) (pL (AL9 (nomatch 170,"bool",0,B.bool,PyProof.Rows.boot_bool)))))))),?_⟩
 nofun
 refine ⟨x,t,_,rfl,ty,ki,?_⟩
 nofun
 cases x <;> try simp only [BL2,AN3,BO7,CD4,BX7,BX8,CD5,CD8,CD6,CD7,AV4,BO8,BO9,AV5,BP0,AG5,AV6,BP1,w_c,CD9,CE0,CE1,BP2,CE2,AV7,w_b,BP3,CE3,w_not,AV8,BP4,AV9,CE4,AW0,BP5,BP6,BP7,AW1,CE5,CE6,CE7,BP8,AW2,CF3,AW3,yK,AW4,AW5,w_K,AH0,BQ8,CF8,BR9,AH1,AH2,BR2,AH3,AH4,AH5,CG2,BR3,BR4,AX3,BR5,AX4,AX6,AH6,AH7,AY2,BR8,AY3,AH8,AY5,AY4,AH9,zB,AI6,BA7,yT,AI4,BA0,yV,BA2,BA3,CF9,AI2,AI0,Option.getD_some, exists_const,false_or,or_false,exists_false,CE8,CE9,CF0,CF1,CF2,L2.start,List.map_cons,List.map_nil,List.length_cons,List.length_nil,List.replicate,List.replicate_zero,List.replicate_succ,Nat.reduceAdd,Nat.reduceSub,Nat.reduceLeDiff,List.cons_append,List.nil_append,List.append_nil,List.set_cons_zero,List.set_cons_succ,List.getElem?_cons_zero,List.getElem?_cons_succ,Option.some.injEq,V.int.injEq,V.bl.injEq,V.ref.injEq,V.str.injEq,V.ty.injEq,List.cons.injEq,and_true,true_and,exists_eq_left,exists_eq_left',exists_and_left,exists_eq,exists_eq',and_self,decide_eq_true_eq,Bool.not_eq_true',decide_eq_false_iff_not,Bool.true_eq_false,Bool.false_eq_true,if_true,if_false,ite_true,ite_false,false_and,and_false,and_assoc,reduceCtorEq] at * <;> first | exact q | exact ⟨_,t,_,rfl,ty,kb,q⟩ | (refine ⟨_,t,_,rfl,ty,kb,?_⟩; simpa [AV3] using q)
theorem tK (B:Bt K mg a)(iH:CalX P w K mg base "is_whole" ["thing"] 1 (oX K a))(F:Fun K "is_whole_from" "is_whole_from" iS f fd):FnOk P w K mg base CX0 2 f fd ["thing","least"] (hJ K a):=by
 exists 5,tF
 obtain ⟨x,lo,rfl,ox,q⟩:=h
 refine ⟨_,(aY (aG (aT (aS (nU (nomatch 259,iH,0) (pL (cU BN9 (pv 1) (pv 0) (aV _)))))))),?_⟩
 nofun
 refine ⟨x,rfl,ox,?_⟩
 cases x <;> simp_all [BX7,BX8,AN3,AB8]
theorem AR7 (B:Bt K mg a)(F:Fun K "is_name" "is_name" vH f fd):FnOk P w K mg base CX0 1 f fd ["thing"] (kJ K a):=by
 exists 150,AR3,x,ox
 refine ⟨_,(aY (aC (bC (L2.PW.pt (gO (cC (bI (aR AB9 rfl B.isinstance PyProof.Rows.boot_isinstance (aH (aL (pv 0) (aL (fR (v:=.ty "str") rfl B.str PyProof.Rows.boot_str rfl) aB))) (he:=aD _ _ _ rfl) (hpl:=aF rfl)))) (gO (nomatch 291,AG1,eV,0) (eU (nomatch 279,8,B.MOST_LETTERS))))) ↑195 aO) (aG (aT (aS (nomatch 242,"abcdefghijklmnopqrstuvwxyz",B.LETTERS)))))),?_⟩
 cases x with
 | str u =>
  obtain ⟨hp,hl⟩:=id ox
  exists uV
  refine ⟨ox,sz8 hl,?_⟩
  by_cases h1:((u.length:Nat):Int) < 1
  ·exists 119,h1,g.1
   exists 91
  exists 130,8
  ·exists 119,h2,g.2.1
   exists 91
  exists 19,letters,letters.length
  ·rintro acc σ H' ⟨rfl,⟨v,rfl⟩,rfl⟩ D hD
   have e:(u.cps.toList.take u.cps.size).map (fun c=>V.bl (!(Builtin.Str.occurrences letters ⟨#[c]⟩ 0 letters.length 1).isEmpty))=(nomatch 226,letters,letters.length).map V.bl:=by
    rw [List.take_of_length_le (by simp),List.map_map]
    rfl
   rw [e]
   refine ⟨D,rfl,_,SqL.of aA,?_⟩
   have e2:jH (.str u)=decide (∀ c∈u.cps.toList,97<=c/\c<=122):=by
    rw [Bool.eq_iff_iff]
    refine ⟨fun g=>?_,fun g=>?_⟩
    ·have g':aX u:=of_decide_eq_true g
     exact decide_eq_true g'.2.2
    ·exact decide_eq_true (p:=aX u) ⟨by omega,by omega,of_decide_eq_true g⟩
   rw [BG7 hp,<- e2]
   exact q _ (aE hD _)
 | non =>
  exists 110
 | bl b =>
  exists 110
 | int b =>
  exists 110
 | ref b =>
  exists 110
 | _=>exact ox.elim
theorem qK (B:Bt K mg a)(F:FunA K "__init__" "NoText.__init__" bD f fd):FnOk P w K mg base CX0 1 f fd ["self","line"] (jQ K a):=by
 exists 8,FunA.ok,jP
 exists 78
theorem xY (B:Bt K mg a)(F:FunA K "__init__" "NoText.__init__" bD f fd):FnOkH P w K mg base (CXF P w) 1 f fd ["self","line"] (jQ K a):=by
 refine BZ1 F jP (fun vs H Q E h=>?_) (fun cdv A outer s H vs Q E h=>?_)
 exists 78
def figs:Str:="0123456789"
theorem BC3 {c:Nat}(h:c < 128):(nomatch 189,c)=decide (48<=c/\c<=57):=by
 have q:∀ k:Fin 128,(nomatch 189,k.val)=decide (48<=k.val/\k.val<=57):=by decide +kernel
 exact q ⟨c,h⟩
theorem BI9 {u:Str}(h:kG u=true):(nomatch 226,figs,figs.length).all id=decide (∀ c∈u.cps.toList,48<=c/\c<=57):=by
 rw [Bool.eq_iff_iff,List.all_eq_true,decide_eq_true_eq]
 constructor
 ·intro z c hc
  have q:=z _ (List.mem_map.mpr ⟨c,hc,rfl⟩)
  rw [BC3 (plain_iff.mp h c hc)] at q
  simpa using q
 ·intro z x hx
  obtain ⟨c,hc,rfl⟩:=List.mem_map.mp hx
  rw [BC3 (plain_iff.mp h c hc)]
  exact decide_eq_true (z c hc)
theorem zJ (B:Bt K mg a)(F:Fun K "is_figures" "is_figures" mM f fd):FnOk P w K mg base CX0 1 f fd ["word"] (qF K a):=by
 exists 5,zE
 obtain ⟨u,rfl,hp,hl,q⟩:=h
 refine ⟨_,(aY (aC (bC (L2.PW.pt (gO (nomatch 291,AG1,eV,0) (gO (nomatch 279,60,B.MOST_FIGURES) (eU (cC (bI (nomatch 242,"0123456789",B.FIGURES))))))) ↑195 aO) (aG (aT (aS (CC1 (cU bZ (pv 0) aN (aV _)) (pL (AL9 ↑260)))))))),?_⟩
 have e0:¬ (1<=u.length/\u.length<=60/\∀ c∈u.cps.toList,48<=c/\c<=57)->AQ4 u=false:=fun z=>by unfold AQ4; rw [decide_eq_false z]; rfl
 nofun
 refine ⟨sz8 hl,?_⟩
 by_cases h1:((u.length:Nat):Int) < 1
 ·rw [if_pos h1]
  rw [e0 (fun z=>by have:=z.1; omega)] at q
  exists 91
 exists 130,60
 ·rw [if_pos h2]
  rw [e0 (fun z=>by have:=z.2.1; omega)] at q
  exists 91
 exists 19,figs,figs.length
 ·rintro acc σ H' ⟨rfl,⟨v,rfl⟩,rfl⟩ D hD
  have e:(u.cps.toList.take u.cps.size).map (fun c=>V.bl (nomatch 189,c))=(↑265).map V.bl:=by
   rw [List.take_of_length_le (by simp),List.map_map]
   rfl
  rw [e]
  refine ⟨D,rfl,_,SqL.of aA,?_⟩
  have S2:=aE hD (.lst ((↑265).map V.bl))
  generalize upd H' D (.lst ((↑265).map V.bl))=H2 at *
  rw [BI9 hp]
  by_cases c:∀ c∈u.cps.toList,48<=c/\c<=57
  ·rw [decide_eq_true c]
   have e2:AQ4 u=(decide (u="0") || !Txt.startswith u "0"):=by unfold AQ4; rw [decide_eq_true ⟨by omega,by omega,c⟩,Bool.true_and]
   exists 73
   rw [e2] at q
   by_cases z:u="0"
   ·rw [decide_eq_true z,Bool.true_or] at q
    rw [if_pos z]
    exact q _ S2
   ·rw [decide_eq_false z,Bool.false_or] at q
    rw [if_neg z]
    exact q _ S2
  ·rw [decide_eq_false c]
   rw [e0 (fun z=>c z.2.2)] at q
   exists 147
   exact q _ S2
theorem AE3 (B:Bt K mg a)(jU:CalX P w K mg base "is_figures" ["word"] 1 (qF K a))(F:Fun K "is_number" "is_number" oN f fd):FnOk P w K mg base CX0 2 f fd ["word"] (sS K a):=by
 exists 5,AD1
 obtain ⟨u,rfl,hp,hl,q⟩:=h
 refine ⟨_,(aY (aC (bC (bI ↑260) (aG (aT (aS (nU (pc jU hr rfl (aH (aL (jJ xQ (pv 0) (kQ aM) oE) aB))) (pL (cU yD (pv 0) aN (aV _))))))) aO) (aG (aT (aS (nomatch 259,jU,0)))))),?_⟩
 nofun
 cases c:Txt.startswith u "-" with
 | true =>
  have e:kY u=(AQ4 (Txt.slice u (some 1) none) && !decide (u="-0")):=by unfold kY; rw [if_pos c]
  rw [e] at q
  rw [if_pos rfl]
  refine ⟨sz8 hl,_,rfl,?_,Nat.le_trans (Txt.slice_le u _ _) hl,fun H1 S1=>?_⟩
  ·rw [plain_iff]
   intro c hc
   exact plain_iff.mp hp c (AY6 hc)
  cases d:AQ4 (Txt.slice u (some 1) none) with
  | true =>
   rw [d,Bool.true_and] at q
   nofun
   exact q _ S1
  | false =>
   rw [d,Bool.false_and] at q
   nofun
   exact q _ S1
 | false =>
  have e:kY u=AQ4 u:=by unfold kY; rw [if_neg (by rw [c]; decide)]
  rw [e] at q
  exists 16
  exact ⟨u,rfl,hp,hl,q⟩
theorem rW (B:Bt K mg a)(bH:CalI P w K mg base "NoText" a.NoText "line" 1 (.int 0))(F:Fun K "__init__" "Words.__init__" gR f fd):FnOk P w K mg base (CXF P w) 3 f fd ["self","text"] (fY K a):=by
 exists 138,rF
 ·obtain ⟨p,dx,x,rfl,_⟩:=h
  rfl
 obtain ⟨p,dx,x,rfl,hp,q⟩:=h
 refine ⟨_,(aY (aC (bC (cC (bI (nomatch 170,"str",1,B.str,PyProof.Rows.boot_str))) ↑236 aO) (aC (bQ (eA (pv 0) (gK PySem.F.plainAttrs_str PySem.F.slot_str_split PySem.F.type_str_split BH7 (pv 1) ↑204) rfl)) (aG (bQ (eA (pv 0) aM rfl)))))),?_⟩
 nofun
 rcases q with ⟨u,rfl,hl,hz,q⟩ | ⟨⟨t,ty,e⟩,q⟩
 ·exists 70,.str,u
  exists 73
  refine ⟨by decide,Nat.le_trans (by omega) (show (200002:Nat)<=sizeLine by decide),by exact sz8 hz,fun l hl1=>?_⟩
  have nl:p≠l:=aQ hp hl1
  have hp1:upd H l (.lst ((Txt.split u sp1).map V.str)) p=some (.ins a.Words dx []):=by rw [aJ nl]; exact hp
  refine ⟨_,_,_,hp1,B.ck_Words.cl,B.na_Words_words,by decide,_,_,_,aA,B.ck_Words.cl,B.na_Words_at,(show 1 < 1000 by decide),?_⟩
  refine q l _ hl1 (fun b o n e=>?_) ⟨aA,?_⟩
  ·rw [aJ n,aJ n,aJ (aQ e hl1)]
   exact e
  ·rw [aJ nl.symm,aJ nl.symm]
   exact aA
 ·refine ⟨_,_,false,rfl,ty,e,?_⟩
  exists 147
  exact fun y hy=>q y _ (aE hy _) aA
theorem rX (B:Bt K mg a)(F:Fun K "is_ended" "Words.is_ended" gS f fd):FnOk P w K mg base CX0 1 f fd ["self"] (kK K a):=by
 exists 5,rG
 exists 120
 refine ⟨_,(aY (aG (aT (aS (cU bZ ↑180 ↑284 (aV _)))))),?_⟩
 nofun
 exists 43
 nofun
 exists 71
 exists List.length_map
 exact q
theorem zK (B:Bt K mg a)(F:Fun K "look" "Words.look" mP f fd):FnOk P w K mg base CX0 1 f fd ["self"] (qG K a):=by
 exists 5,zF
 exists 120
 refine ⟨_,(aY (aG (aT (aS (uA (aU AG1 ↑180 ↑284 (aV _)) (bL cX ↑180 ↑180 (fun _ _=>rfl)) aN))))),?_⟩
 nofun
 exists 43
 nofun
 exists 71
 exists List.length_map
 exists 124,c,i
 ·exists 98,if_pos
  refine ⟨_,_,_,W.w,B.ck_Words.cl,B.na_Words_words,.ref wl,rfl,?_⟩
  nofun
  exists 43
  refine ixl (SqL.of W.l) (v:=.str (ts.getD i "")) ?_ q
  refine mG ?_
  rw [List.getElem?_map,List.getD_eq_getElem?_getD,List.getElem?_eq_getElem c]
  rfl
 ·exists 98,if_neg
  exists 131,q
  exact q
theorem zL (B:Bt K mg a)(hU:∀ C sp,vT K a C sp->CalM P w K mg base C "look" ["self"] 1 sp)(F:Fun K "take" "Words.take" mQ f fd):FnOk P w K mg base CX0 2 f fd ["self"] (qH K a):=by
 exists 5,sc_Words_take
 exists 120
 refine ⟨_,(aY (aC (nomatch 240,1,sc_Words_take.nd,0,hU,gM) (aC (bQ (uN (pv 0) aM AU2)) (nomatch 235,1)))),?_⟩
 exists 44,W.w,i,W
 nofun
 exists 158
theorem oZ (B:Bt K mg a)(pE:∀ C sp,vS K a C sp->CalM P w K mg base C "is_ended" ["self"] 1 sp)(bH:CalI P w K mg base "NoText" a.NoText "line" 1 (.int 0))(F:Fun K "expect_end" "Words.expect_end" fD f fd):FnOk P w K mg base (CXF P w) 3 f fd ["self"] (iZ K a):=by
 exists 138,oO
 ·obtain ⟨wp,dw,wl,ts,i,rfl,_⟩:=h
  rfl
 exists 120
 refine ⟨_,(aY (aG (bC (cC (bI (bT (pv 0) pE dP ↑162))) ↑236 aO))),?_⟩
 exists 44,W.w,i,W
 nofun
 exists 60,e
 ·exists 98,if_neg
  exact q
 ·exists 98,if_pos
  exact fun y hy=>q y _ (aE hy _) aA
theorem nT (B:Bt K mg a)(dB:∀ C sp,oY K a C sp->CalM P w K mg base C "take" ["self"] 2 sp)(pF:CalX P w K mg base "is_number" ["word"] 2 (sS K a))(bH:CalI P w K mg base "NoText" a.NoText "line" 1 (.int 0))(F:Fun K "take_number" "Words.take_number" eM f fd):FnOk P w K mg base (CXF P w) 3 f fd ["self"] (iC K a):=by
 exists 138,sc_Words_take_number
 ·obtain ⟨wp,dw,wl,ts,i,rfl,_⟩:=h
  rfl
 obtain ⟨wp,dw,wl,ts,i,rfl,W,ht,q⟩:=h
 refine ⟨_,(aY (aC (nomatch 240,1,sc_Words_take_number.nd,0,dB,dP) (aC (bC (nomatch 299,pF,1) ↑236 aO) (aG (aT (aS (bE yU rfl B.int PyProof.Rows.boot_int (nomatch 190,1)))))))),?_⟩
 exists 156
 refine ⟨_,rfl,ht.1,by have:=ht.2.1; omega,fun H2 S2=>?_⟩
 nofun
 exists 60,e
 ·exists e,Bool.not_true
  obtain ⟨n,hn⟩:=ht.2.2 e
  have e2:dO (ts.getD i "")=n:=by unfold dO; rw [hn]; rfl
  refine ⟨n,hn,by have:=ht.2.1; omega,?_⟩
  rw [<- e2]
  exact q _ (B1.trans (Same.but S2)) (W1.same S2)
 ·exists e,Bool.not_false
  exact fun y hy=>q y _ (B1.trans (Same.but (S2.trans (aE hy _))))
theorem AR8 {ts:List Str}{i k:Nat}(h:k=i)(c:aX (ts.getD i "")):(nomatch 214,i)=ts.getD i ""::(nomatch 187,i):=by
 exists 124,hi,i
 ·rw [gQ hi,List.takeWhile_cons,decide_eq_true c,if_pos rfl]
 ·exists 131,c
  exact absurd c (by decide)
theorem BC4 {ts:List Str}{i:Nat}(c:¬ aX (ts.getD i "")):(nomatch 214,i)=[]:=by
 exists 124,hi,i
 ·rw [gQ hi,List.takeWhile_cons,decide_eq_false c]
  rfl
 ·rw [(iR (by omega)).2]
  rfl
def BZ7 (a:Ad)(H:Hp)(wp dw wl l:Addr)(ts:List Str)(i:Nat)(σ:L2.St)(H1:Hp):Prop:=∃ (us:List Str) (k:Nat),σ=[some (.ref wp),some (.ref l)]/\But wp H H1/\WAt a.Words H1 wp dw wl ts k/\H1 l=some ↑274/\us.length<=k/\k=i+us.length/\k<=i+ts.length/\(i<=ts.length->k<=ts.length)/\us++(nomatch 214,k)=(nomatch 214,i)
theorem BT4 {ts:List Str}{i:Nat}(c:aX (ts.getD i "")):i < ts.length:=by
 exists 124,hi,i
 ·exact hi
 ·exists 131,c
  exact absurd c (by decide)
theorem pA (B:Bt K mg a)(dE:CalX P w K mg base "is_name" ["thing"] 1 (kJ K a))(hU:∀ C sp,vT K a C sp->CalM P w K mg base C "look" ["self"] 1 sp)(dB:∀ C sp,oY K a C sp->CalM P w K mg base C "take" ["self"] 2 sp)(F:Fun K "take_names" "Words.take_names" fE f fd):FnOk P w K mg base CX0 3 f fd ["self"] (jA K a):=by
 exists 5,sc_Words_take_names
 obtain ⟨wp,dw,wl,ts,i,rfl,W,hT,hl,q⟩:=h
 refine ⟨_,(aY (aC (nomatch 194,1,sc_Words_take_names.nd,Or.inl,eY,aB) (aC (bQ (uB PassesOwn.never (bI (pc dE hr rfl (nomatch 256,hU,gM))) (aY (aG (bQ (cD (gK PySem.F.plainAttrs_list PySem.F.slot_list_append PySem.F.type_list_append dC (pv 1) (nomatch 256,dB,gM)))))))) (nomatch 235,1)))),?_⟩
 nofun
 exists 84,l,hl0
 have S0:=aE hl0 (.lst [])
 exists 69,nl,l,wp,W.w,hl0
 exists 69,nl2,l,wl,W.l,hl0
 refine whl (BZ7 a H wp dw wl l ts i) (fun _ H1=>3000+i - AJ4 wp H1) ⟨[],i,rfl,Same.but S0,W.same S0,aA,Nat.zero_le _,rfl,by omega,fun h=>h,by rw [List.nil_append]⟩ ?_
 rintro σ H1 ⟨us,k,rfl,B1,W1,e1,l1,ek,lk,lk2,eq⟩
 exists 44,W1.w,k,W1
 refine ⟨_,rfl,AJ6 (jO hT k),fun H2 S2=>?_⟩
 have B2:=B1.trans (Same.but S2)
 have W2:=W1.same S2
 have e2:=S2 _ _ e1
 nofun
 by_cases c:aX (ts.getD k "")
 ·have cn:jH (.str (ts.getD k ""))=true:=decide_eq_true c
  rw [cn,if_pos rfl]
  have kl:=BT4 c
  refine ⟨fun σ' H'=>BZ7 a H wp dw wl l ts i σ' H'/\3000+i - AJ4 wp H' < 3000+i - AJ4 wp H1,fun σ' H' h=>⟨_,h.2,rfl,h.1⟩,?_⟩
  nofun
  refine ⟨.inl ⟨rfl,_,SqL.of e2⟩,?_⟩
  exists 44,W2.w,k,W2
  have W3:=W2.take (k+1)
  have B3:But wp H (upd H2 wp (nomatch 232,1)):=B2.trans (But.upd _)
  have e3:upd H2 wp (nomatch 232,1) l=some ↑274:=by rw [aJ nl]; exact e2
  exists 39,H2,k,1,H3
  refine ⟨l,_,_,rfl,rfl,e3,?_,?_⟩
  ·rw [List.length_map]
   exact Nat.lt_of_le_of_lt (show us.length<=1000 by omega) (by decide)
  have W4:WAt a.Words (upd H3 l (.lst (us.map V.str++[.str (ts.getD k "")]))) wp dw wl ts (k+1):=⟨by rw [aJ nl.symm]; exact W3.w,by rw [aJ nl2.symm]; exact W3.l⟩
  refine ⟨⟨us++[ts.getD k ""],k+1,rfl,fun b o n e=>?_,W4,by rw [aA,List.map_append]; rfl,by rw [List.length_append,List.length_singleton]; omega,by rw [List.length_append,List.length_singleton]; omega,by omega,fun _=>by omega,?_⟩,?_⟩
  ·rw [aJ (aQ e hl0)]
   exact B3 b o n e
  ·rw [List.append_assoc,List.singleton_append,<- AR8 rfl c]
   exact eq
  ·rw [AD5 W4,AD5 W1]
   omega
 ·have cn:jH (.str (ts.getD k ""))=false:=decide_eq_false c
  rw [cn,if_neg (by decide)]
  rw [BC4 c,List.append_nil] at eq
  rw [<- eq] at q
  nofun
  refine q l H2 B2 hl0 e2 ?_
  rw [<- ek]
  exact W2
theorem vU (u:Str):∀ us:List Str,inV (.str u) (us.map V.str)=decide (u∈us)
 | []=>rfl
 | v::us=>by
  have e:inV (.str u) ((v::us).map V.str)=(eqV (.str v) (.str u) || inV (.str u) (us.map V.str)):=rfl
  rw [e,vU u us]
  have e2:eqV (.str v) (.str u)=decide (v=u):=by
   first | rfl | (unfold eqV; by_cases c:v=u <;> simp [c])
  rw [e2]
  by_cases c:v=u
  ·simp [c]
  ·have c':¬ u=v:=fun z=>c z.symm
   simp [c,c']
theorem vV:∀ us:List Str,(us.map V.str).all yI=true
 | []=>rfl
 | v::us=>by rw [List.map_cons,List.all_cons,vV us]; rfl
theorem pB (B:Bt K mg a)(dE:CalX P w K mg base "is_name" ["thing"] 1 (kJ K a))(F:Fun K "are_unlike_names" "are_unlike_names" fC f fd):FnOk P w K mg base CX0 2 f fd ["thing"] (eO K a):=by
 exists 5,oM
 obtain ⟨x,b,rfl,hx,q⟩:=h
 refine ⟨_,(aY (aC (bC (L2.PW.pt (gO ↑271 (eU (cC (bI (aR (yP rfl) rfl B.all PyProof.Rows.boot_all (aH (aL (eG ["name"] [none] rfl (by kernel_rfl) (oC (pv 0)) (fun cl C s H fp=>⟨(nomatch 173,"name"),gP,(jV dE ↑162 (uR (by kernel_rfl)) (aH (aL ↑184 aB)) (he:=aD _ _ _ rfl) (hpl:=aF rfl))⟩)) aB)) (he:=aD _ _ _ rfl) (hpl:=aF rfl))))))) ↑195 aO) (aG (aT (aS (cU bZ (aR AZ0 rfl B.len PySem.boot_len (aH (aL (bE (AY9 rfl) rfl B.set PyProof.Rows.boot_set (nomatch 190,0)) aB))) (nomatch 183,bR,0) (aV _))))))),?_⟩
 nofun
 rcases hx with ⟨p,xs,rfl,hp,hl,hn,rfl⟩ | ⟨rfl,t,ty,e⟩
 ·exists 70,.lst,hp
  exists 73
  refine ⟨⟨xs,SqL.of hp⟩,?_⟩
  refine CompL.by (xs:=xs) (fun i acc σ H'=>acc=((xs.take i).map jH).map V.bl/\(∃ v,σ=[v])/\Same H H') (sz8 (by omega)) ⟨rfl,⟨_,rfl⟩,fun _ _ z=>z⟩ (fun i acc σ H' _ h=>SqL.of (h.2.2 _ _ hp)) ?_ ?_ ?_
  ·rintro i y acc σ H' hy ⟨rfl,⟨v,rfl⟩,S1⟩
   have ea:((xs.take i).map jH).map V.bl++[V.bl (jH y)]=((xs.take (i+1)).map jH).map V.bl:=by
    rw [List.take_succ,hy,List.map_append,List.map_append]
    rfl
   nofun
   refine ⟨y,rfl,(hn y (List.mem_of_getElem? hy)).same S1,fun H2 S2=>?_⟩
   first | exact ⟨ea,⟨_,rfl⟩,S1.trans S2⟩ | exact ⟨ea,S1.trans S2⟩
  ·rintro i acc σ H' ⟨rfl,_,_⟩
   rw [List.length_map,List.length_map,List.length_take]
   omega
  ·rintro acc σ H' ⟨rfl,⟨v,rfl⟩,S1⟩ D hD
   rw [List.take_length]
   have S2:=S1.trans (aE hD (nomatch 219,xs.map,jH))
   refine ⟨D,rfl,_,SqL.of aA,?_⟩
   have eall:(xs.map jH).all id=xs.all jH:=by rw [List.all_map]; rfl
   rw [eall]
   generalize upd H' D (nomatch 219,xs.map,jH)=H2 at *
   by_cases ha:xs.all jH=true
   ·exists ha,Bool.not_true
    have es:=BC1 ha
    have hz:(xs.map AS7).length=xs.length:=List.length_map ..
    refine ⟨xs.map AS7,by rw [<- es]; exact SqL.of (S2 _ _ hp),by omega,fun p3 h3=>?_⟩
    have S3:=aE h3 (BH2 P w p3 (xs.map AS7))
    refine ⟨xs.map AS7,aA,?_⟩
    nofun
    refine ⟨xs,.inl (SqL.of (S3 _ _ (S2 _ _ hp))),?_⟩
    nofun
    have hq:=q _ (S2.trans S3)
    have ed:qE xs=decide ((((lX (xs.map AS7)).length:Nat):Int)=((xs.length:Nat):Int)):=by
     unfold qE
     rw [ha,Bool.true_and]
     have:=BG9 (xs.map AS7)
     rw [hz] at this
     by_cases c:(xs.map AS7).Nodup
     ·rw [decide_eq_true c,decide_eq_true (by have:=this.mpr c; omega)]
     ·rw [decide_eq_false c,decide_eq_false (fun z=>c (this.mp (by omega)))]
    rw [ed] at hq
    exact hq
   ·have ha':=Bool.eq_false_iff.mpr ha
    exists ha',Bool.not_false
    have hq:=q _ S2
    unfold qE at hq
    rw [ha',Bool.false_and] at hq
    exact hq
 ·refine ⟨x,t,false,rfl,ty,e,?_⟩
  exists 147
  exists 91
theorem wU (B:Bt K mg a)(cG:CalX P w K mg base "are_unlike_names" ["thing"] 2 (eO K a))(F:Fun K "check_names" "check_names" lF f fd):FnOk P w K mg base (CXF P w) 3 f fd ["names"] (kA K a):=by
 exists 138,wT
 ·obtain ⟨l,us,rfl,_⟩:=h
  rfl
 obtain ⟨l,us,rfl,hl,⟨hg,l9⟩,q⟩:=h
 refine ⟨_,(aY (aG (bC (L2.PW.pt (gO (nomatch 299,cG,0) (eU (nomatch 291,bZ,bR,0)))) (nomatch 163,a.NoFit,B.NoFit,B.exc_NoFit) aO))),?_⟩
 nofun
 have hB:qE (us.map V.str)=decide us.Nodup:=by
  unfold qE
  have e1:(us.map V.str).all jH=true:=by
   rw [List.all_map,List.all_eq_true]
   intro u hu
   exact decide_eq_true (hg u hu)
  exists 122
  rw [e1,e2,Bool.true_and]
 have hN:∀ y∈us.map V.str,okN H y:=fun y hy=>by
  obtain ⟨u,hu,rfl⟩:=List.mem_map.mp hy
  exact ⟨(rB (hg u hu)).1,by have:=(rB (hg u hu)).2; omega⟩
 refine ⟨_,_,rfl,.inl ⟨l,_,rfl,hl,by rw [List.length_map]; omega,hN,rfl⟩,fun H1 S1=>?_⟩
 rw [hB]
 by_cases nd:us.Nodup
 ·exists 145,nd
  refine ⟨_,.inl (SqL.of (S1 _ _ hl)),?_⟩
  exists List.length_map
  by_cases ne:us=[]
  ·exists 121,q,c,ne,c.1
   ·rw [if_pos (by rw [ne]; rfl)]
    exact q _ S1
  ·have l0:us.length≠0:=fun z=>ne (List.eq_nil_of_length_eq_zero z)
   exists 98,if_neg
   rcases q with ⟨_,q⟩ | ⟨c,_⟩
   ·exact q _ S1
   ·exact absurd ⟨ne,nd⟩ c
 ·exists decide_eq_false nd,Bool.not_false
  exists 121,q,c,c.2,nd
  ·exact q _ S1
theorem AE4 (B:Bt K mg a)(F:Fun K "check_fit" "check_fit" oP f fd):FnOk P w K mg base CX0 1 f fd ["fit"] (mU K a):=by
 exists 5,AD2
 obtain ⟨v,t,rfl,h,q⟩:=h
 refine ⟨_,(aY (aG (bC (cC (nomatch 257,0,B.Fit)) (cY zY) aO))),?_⟩
 nofun
 exists 37,p,dx,hp,h.ins
 exists 151,hk.1.ty,hp,hk.2
 exact q
theorem zM (B:Bt K mg a)(gE:CalX P w K mg base "check_fit" ["fit"] 1 (mU K a))(F:Fun K "check_fits" "check_fits" mR f fd):FnOk P w K mg base CX0 2 f fd ["fits"] (lL K a):=by
 exists 5,sc_check_fits
 obtain ⟨l,xs,ts,rfl,hl,hf,l2,l100,q⟩:=h
 refine ⟨_,(aY (aC (bC (L2.PW.pt (gO ↑271 (eU (nomatch 291,AG1,bR,0)))) (cY zY) aO) (aG (bQ (AM0 PassesOwn.never rfl (oC (pv 0)) (bS (i:=1) sc_check_fits.nd rfl (Or.inl rfl)) (aY (aG (bQ (cD (nomatch 259,gE,1)))))))))),?_⟩
 nofun
 exists 70,.lst,hl
 exists 73
 refine ⟨_,.inl (SqL.of hl),?_⟩
 exists 98,if_neg
 refine ⟨⟨_,SqL.of hl⟩,?_⟩
 refine ForL.by (xs:=xs) (fun _ σ H1=>(∃ v,σ=[some (.ref l),v])/\H1=H) ⟨⟨_,rfl⟩,rfl⟩ (fun i σ H1 _ h=>by rw [h.2]; exact SqL.of hl) ?_ ?_
 ·rintro i y σ H1 hy ⟨⟨v,rfl⟩,rfl⟩
  obtain ⟨t,_,ht⟩:=hf.get hy
  nofun
  refine ⟨y,t,rfl,ht,?_⟩
  first | exact ⟨⟨_,rfl⟩,rfl⟩ | trivial
 ·rintro σ H1 ⟨⟨v,rfl⟩,rfl⟩
  first | exact q | (nofun; exact q)
theorem tL (B:Bt K mg a)(dY:CalX P w K mg base "check_names" ["names"] 3 (kA K a))(F:Fun K "__init__" "Kind.__init__" iT f fd):FnOk P w K mg base (CXF P w) 4 f fd ["self","names"] (eI K a):=by
 exists 138,tG
 exists 26,B.ck_Kind.cl,B.na_Kind_names
theorem rY (B:Bt K mg a)(dY:CalX P w K mg base "check_names" ["names"] 3 (kA K a))(F:Fun K "__init__" "Place.__init__" gT f fd):FnOk P w K mg base (CXF P w) 4 f fd ["self","names"] (dW K a):=by
 exists 138,rH
 exists 26,B.ck_Place.cl,B.na_Place_names
theorem rZ (B:Bt K mg a)(cQ:CalX P w K mg base "is_whole_from" ["thing","least"] 2 (hJ K a))(F:Fun K "__init__" "Least.__init__" gW f fd):FnOk P w K mg base (CXF P w) 3 f fd ["self","weight"] (dX K a):=by
 exists 138,rJ
 ·obtain ⟨p,dx,n,rfl,_⟩:=h
  rfl
 obtain ⟨p,dx,n,rfl,hp,q⟩:=h
 refine ⟨_,(aY (aC (nomatch 250,1,a.NoFit,B.NoFit,B.exc_NoFit) (aG (nomatch 202,1)))),?_⟩
 nofun
 exists 103,n
 exists 60,n0
 ·have e:AB8 (.int n) 0=true:=decide_eq_true n0
  exists e
  exact ⟨_,_,_,hp,B.ck_Least.cl,B.na_Least_weight,by decide,q⟩
 ·have e:AB8 (.int n) 0=false:=decide_eq_false n0
  exists e
  exact q
theorem vW (B:Bt K mg a)(gE:CalX P w K mg base "check_fit" ["fit"] 1 (mU K a))(F:Fun K "__init__" "Not.__init__" jX f fd):FnOk P w K mg base CX0 2 f fd ["self","fit"] (fH K a):=by
 exists 5,vJ
 obtain ⟨p,dx,v,t,rfl,hp,hf,q⟩:=h
 refine ⟨_,(aY (aC (bQ (cD (nomatch 259,gE,1))) (aG (nomatch 202,1)))),?_⟩
 nofun
 refine ⟨v,t,rfl,hf,?_⟩
 nofun
 exact ⟨_,_,_,hp,B.ck_Not.cl,B.na_Not_fit,by decide,q⟩
theorem tM (B:Bt K mg a)(eW:CalX P w K mg base "check_fits" ["fits"] 2 (lL K a))(F:Fun K "__init__" "Both.__init__" iU f fd):FnOk P w K mg base CX0 3 f fd ["self","fits"] (eJ K a):=by
 exists 5,tH
 exists 34,B.ck_Both.cl,B.na_Both_fits
theorem qL (B:Bt K mg a)(eW:CalX P w K mg base "check_fits" ["fits"] 2 (lL K a))(F:Fun K "__init__" "Either.__init__" fV f fd):FnOk P w K mg base CX0 3 f fd ["self","fits"] (dM K a):=by
 exists 5,qB
 exists 34,B.ck_Either.cl,B.na_Either_fits
theorem qM (B:Bt K mg a)(F:Fun K "__init__" "Opened.__init__" fX f fd):FnOk P w K mg base CX0 1 f fd ["self","sign"] (fL K a):=by
 exists 5,qD
 obtain ⟨p,dx,s,rfl,hp,q⟩:=h
 refine ⟨_,(aY (aC (nomatch 202,1) (aG (bQ (eA (pv 0) (iB (aH aB)) rfl))))),?_⟩
 nofun
 refine ⟨_,_,_,hp,B.ck_Opened.cl,B.na_Opened_sign,by decide,?_⟩
 exists 84,il,hil
 exists 69,nl,il,p,aA,hil
 have h0:H il=none:=by rw [aJ nl] at hil; exact hil
 have e1:upd (upd H p (.ins a.Opened dx (pO "sign" (.str s) []))) il (.lst []) p=some (.ins a.Opened dx [("sign",.str s)]):=by rw [aJ nl.symm]; exact aA
 refine ⟨_,_,_,e1,B.ck_Opened.cl,B.na_Opened_inner,(show 1 < 1000 by decide),?_⟩
 refine q il _ h0 (fun b o n e=>?_) (by rw [aJ nl]; exact aA) aA
 rw [aJ n,aJ (aQ e h0),aJ n]
 exact e
theorem sA (B:Bt K mg a)(dB:∀ C sp,oY K a C sp->CalM P w K mg base C "take" ["self"] 2 sp)(bH:CalI P w K mg base "NoText" a.NoText "line" 1 (.int 0))(F:Fun K "is_closed_here" "is_closed_here" gY f fd):FnOk P w K mg base (CXF P w) 3 f fd ["bracket","words"] (kM K a):=by
 exists 138,sc_is_closed_here
 ·obtain ⟨wp,dw,wl,op,ts,i,f,fs,G,rfl,_⟩:=h
  rfl
 obtain ⟨wp,dw,wl,op,ts,i,f,fs,G,rfl,hP,q1,q2,q3⟩:=h
 refine ⟨_,(aY (aC (nomatch 240,2,sc_is_closed_here.nd,1,dB,dP) (aC (bC (nomatch 211,2,aN) ↑195 aO) (aC (bC (L2.PW.pt (gO (aU jK (pv 2) (gJ (aH ↑210)) (by with_unfolding_all rfl)) (eU (aU jK ↑180 (gJ (aH (aL aN (aL (pv 2) aB)))) (by with_unfolding_all rfl))))) ↑236 aO) (aC (nomatch 202,2) ↑195))))),?_⟩
 have hf:=hP.F f List.mem_cons_self
 exists 32,hP1,hP.take,i,1,B1,H
 exists 44,hP.W.w,i,hP.W
 exists 39,H,i,1,H1
 generalize ts.getD i ""=x at *
 nofun
 by_cases c1:x=")"
 ·rw [if_pos c1]
  exact q1 _ hP1 c1
 rw [if_neg c1]
 exists 20,p1,h1
 have S1:=aE h1 (.tup [.str "&",.str "|"])
 refine ⟨p1,_,rfl,.inr (SqT.of aA),rfl,rfl,?_⟩
 have hP2:=hP1.same S1
 generalize upd H1 p1 (.tup [.str "&",.str "|"])=H2 at *
 have ei:inV (.str x) [.str "&",.str "|"]=decide (x="&"\/x="|"):=by
  rw [show ([.str "&",.str "|"]:List V)=([("&":Str),"|"]:List Str).map V.str from rfl,vU]
  simp
 rw [ei]
 by_cases c2:x="&"\/x="|"
 ·exists 145,c2
  refine ⟨_,_,_,(hP2.F f List.mem_cons_self).1,B.ck_Opened.cl,B.na_Opened_sign,.str f.sg,rfl,?_⟩
  exists 20,p2,h2
  have S2:=aE h2 (.tup [.str "(",.str x])
  refine ⟨p2,_,rfl,.inr (SqT.of aA),rfl,rfl,?_⟩
  have hP3:=hP2.same S2
  generalize upd H2 p2 (.tup [.str "(",.str x])=H3 at *
  have ej:inV (.str f.sg) [.str "(",.str x]=decide (f.sg="("\/f.sg=x):=by
   rw [show ([.str "(",.str x]:List V)=([("(":Str),x]:List Str).map V.str from rfl,vU]
   simp
  rw [ej]
  by_cases c3:f.sg="("\/f.sg=x
  ·exists 145,c3
   refine ⟨_,_,_,(hP3.F f List.mem_cons_self).1,B.ck_Opened.cl,B.na_Opened_sign,(show 2 < 1000 by decide),?_⟩
   exact q2 _ hP3.sign c1 ⟨c2,c3⟩
  ·exists 112,c3,z.2,hP3.K.trans
 ·exists 112,c2,z.1,hP2.K.trans
theorem BC5 (B:Bt K mg a)(yA:CalC P w K mg base "Not" a.Not ["self","fit"] 2 (fH K a))(sD:CalC P w K mg base "Both" a.Both ["self","fits"] 3 (eJ K a))(kO:CalC P w K mg base "Either" a.Either ["self","fits"] 3 (dM K a))(bH:CalI P w K mg base "NoText" a.NoText "line" 1 (.int 0))(F:Fun K "fit_of" "fit_of" zH f fd):FnOk P w K mg base (CXF P w) 5 f fd ["opened"] (vP K a):=by
 exists 138,BB9
 ·obtain ⟨r,d,il,sg,xs,inn,M,rfl,_⟩:=h
  rfl
 obtain ⟨r,d,il,sg,xs,inn,M,rfl,hr1,hil,hA,hM,hz,h0,h2,q⟩:=h
 refine ⟨_,(aY (aC (bC (aU bZ ↑180 aN (aV _)) (aG (aT (aS (fP yA dP ↑162 rfl (aH (aL (bL cX ↑180 aM (fun _ _=>rfl)) aB)) (he:=aD _ _ _ rfl) (hpl:=aF rfl))))) aO) (aC (nomatch 289,sD) (aC (nomatch 289,kO) ↑236)))),?_⟩
 have ln:=hA.len
 nofun
 exists 80,c1,"not"
 ·rw [if_pos c1]
  refine ⟨_,_,_,hr1,B.ck_Opened.cl,B.na_Opened_inner,.ref il,rfl,?_⟩
  cases hA with
  | nil=>exact absurd rfl (h0 c1)
  | @cons t v ts vs ht hr2 =>
   refine ixl (SqL.of hil) (v:=v) (show atI (v::vs) ((0:Nat):Int)=some v from mG rfl) ?_
   exists 13,M0,a.Not
   refine ⟨x,dx,v,t,rfl,aA,(ht.same iQ).same M0,?_⟩
   exists 88,H,v,M0
   have em:mkF sg (t::ts)=some (.not t):=by unfold mkF; rw [if_pos c1]; rfl
   rcases q with ⟨t',e,q⟩ | ⟨e,_⟩
   ·rw [em] at e
    cases e
    exact q (.ref x) _ SS (by rw [Tr.Fit]; exact ⟨x,dx,v,rfl,dQ (hM x hx) aA,ht.same (jM SS)⟩)
   ·rw [em] at e; cases e
 rw [if_neg c1]
 exists 80,c2,"&"
 ·rw [if_pos c2]
  have em:mkF sg inn=some (.both (Trs.ofL inn)):=by unfold mkF; rw [if_neg c1,if_pos c2]
  exists 125,.inl,c2
  exists 13,M0,a.Both
  exists 40
 rw [if_neg c2]
 exists 80,c3,"|"
 ·rw [if_pos c3]
  have em:mkF sg inn=some (.either (Trs.ofL inn)):=by unfold mkF; rw [if_neg c1,if_neg c2,if_pos c3]
  exists 125,.inr,c3
  exists 13,M0,a.Either
  exists 40
 rw [if_neg c3]
 have em:mkF sg inn=none:=by unfold mkF; rw [if_neg c1,if_neg c2,if_neg c3]
 rcases q with ⟨t',e,_⟩ | ⟨_,q⟩
 ·rw [em] at e; cases e
 ·exact fun y hy=>q y _ (aE hy _) aA
theorem xZ {p:Str->Bool}:∀ l:List Str,l.dropWhile p=l.drop (l.takeWhile p).length
 | []=>rfl
 | a::l=>by
  rw [List.dropWhile_cons,List.takeWhile_cons]
  cases p a with
  | true=>exact xZ l
  | false=>rfl
theorem AJ8 {p:Str->Bool}:∀ l:List Str,(l.takeWhile p).length<=l.length
 | []=>Nat.zero_le _
 | a::l=>by
  rw [List.takeWhile_cons]
  cases p a with
  | true=>exact Nat.succ_le_succ (AJ8 l)
  | false=>exact Nat.zero_le _
theorem FrOk.up {k i j:Nat}{f:OF}(h:FrOk k i f){k':Nat}(e:k'+i<=k+j):FrOk k' j f:=⟨h.1,by have:=h.2; omega⟩
def BJ0 (a:Ad)(wp dw wl op:Addr)(ts:List Str)(i:Nat)(G:Hp)(R:Option (Tr × List Str × List Fm))(σ:L2.St)(H1:Hp):Prop:=∃ (k:Nat) (fs:List OF),σ=[some (.ref wp),some (.ref op),some (.str (ts.getD k ""))]/\PSt a.Words a.Opened (fc a) H1 wp dw wl ts (k+1) op fs G/\i<=k/\k<=ts.length/\(∀ f∈fs,FrOk 1 k f)/\fs.length<=k/\plainF (ts.drop k) (fs.map OF.fm)=R
theorem cN {ts:List Str}{k:Nat}{wd:Str}(c:ts.getD k ""=wd)(h:wd≠""):k < ts.length:=by
 exists 124,z,k
 ·exact z
 ·exists 131,c
  exact absurd c.symm h
theorem BZ8 {ts:List Str}{S:List Fm}{k:Nat}(c:ts.getD k ""="any"):plainF (ts.drop k) S=some (.any,ts.drop (k+1),S):=by
 rw [gQ (cN c (by decide)),bN,c,if_neg (by decide),if_pos rfl]
theorem BC6 {ts:List Str}{k:Nat}{p:Str->Bool}:(ts.drop k).dropWhile p=ts.drop (k+((ts.drop k).takeWhile p).length):=by
 rw [xZ,List.drop_drop]
theorem BT5 {ts:List Str}{S:List Fm}{k:Nat}(c:ts.getD k ""="kind"):plainF (ts.drop k) S=if (nomatch 187,k)≠[]/\(nomatch 187,k).Nodup then some (.kind (nomatch 187,k),ts.drop (k+1+(nomatch 187,k).length),S) else none:=by
 rw [gQ (cN c (by decide)),bN,c,if_neg (by decide),if_neg (by decide),if_pos rfl,BC6]
theorem BJ1 {ts:List Str}{S:List Fm}{k:Nat}(c:ts.getD k ""="place"):plainF (ts.drop k) S=if (nomatch 187,k)≠[]/\(nomatch 187,k).Nodup then some (.place (nomatch 187,k),ts.drop (k+1+(nomatch 187,k).length),S) else none:=by
 rw [gQ (cN c (by decide)),bN,c,if_neg (by decide),if_neg (by decide),if_neg (by decide),if_pos rfl,BC6]
theorem BC7 {ts:List Str}{S:List Fm}{k:Nat}(c:ts.getD k ""="weight"):plainF (ts.drop k) S=if kY (nomatch 213,k)=true/\0<=dO (nomatch 213,k) then some (.weight (dO (nomatch 213,k)),ts.drop (k+2),S) else none:=by
 rw [gQ (cN c (by decide)),bN,c,if_neg (by decide),if_neg (by decide),if_neg (by decide),if_neg (by decide),if_pos rfl]
 by_cases z:k+1 < ts.length
 ·rw [gQ z]
 ·rw [(iR (by omega)).1,(iR (by omega)).2,if_neg (fun z=>absurd z.1 (by decide +kernel))]
theorem BT6 {ts:List Str}{S:List Fm}{k:Nat}(c1:¬ ts.getD k ""="not")(c2:¬ ts.getD k ""="(")(c3:¬ ts.getD k ""="any")(c4:¬ ts.getD k ""="kind")(c5:¬ ts.getD k ""="place")(c6:¬ ts.getD k ""="weight"):plainF (ts.drop k) S=none:=by
 exists 124,z,k
 ·rw [gQ z,bN,if_neg (fun z=>z.elim c1 c2),if_neg c3,if_neg c4,if_neg c5,if_neg c6]
 ·rw [(iR (by omega)).2]
  rfl
theorem sB (B:Bt K mg a)(dB:∀ C sp,oY K a C sp->CalM P w K mg base C "take" ["self"] 2 sp)(sE:CalC P w K mg base "Kind" a.Kind ["self","names"] 4 (eI K a))(nQ:CalC P w K mg base "Place" a.Place ["self","names"] 4 (dW K a))(nR:CalC P w K mg base "Least" a.Least ["self","weight"] 3 (dX K a))(wE:CalC P w K mg base "Opened" a.Opened ["self","sign"] 1 (fL K a))(iE:∀ C sp,qJ K a C sp->CalM P w K mg base C "take_names" ["self"] 3 sp)(bK:∀ C sp,eC K a C sp->CalM P w K mg base C "take_number" ["self"] 3 sp)(bH:CalI P w K mg base "NoText" a.NoText "line" 1 (.int 0))(F:Fun K "plain_fit_from" "plain_fit_from" gX f fd):FnOk P w K mg base (CXF P w) 6 f fd ["words","opened"] (kL K a):=by
 exists 138,sc_plain_fit_from
 ·obtain ⟨wp,dw,wl,op,ts,i,fs,G,rfl,_⟩:=h
  rfl
 obtain ⟨wp,dw,wl,op,ts,i,fs,G,rfl,hP,hT,hl,hi,hfl,hF,good,fail⟩:=h
 refine ⟨_,(aY (aC (nomatch 240,2,sc_plain_fit_from.nd,0,dB,dP) (aC (bQ (uB PassesOwn.leaving (L2.PW.pt (gO (nomatch 211,2,aN) (eU (nomatch 211,2,aN)))) (aY (aC (bQ (cD (gK PySem.F.plainAttrs_list PySem.F.slot_list_append PySem.F.type_list_append dC (pv 1) (aH (aL (nomatch 281,wE,dP,2) aB))))) (aG (nomatch 240,2,sc_plain_fit_from.nd,0,dB,dP)))))) (nomatch 298,2,B.mk_Any,B.Any,sE,iE,nQ,237,nR,bK)))),?_⟩
 generalize hR:plainF (ts.drop i) (fs.map OF.fm)=R at good fail
 exists 44,hP.W.w,i,hP.W
 have hP1:=hP.take (i+1)
 exists 39,H,i,1,H1
 nofun
 refine whl (BJ0 a wp dw wl op ts i G R) (fun _ H1=>3000 - AJ4 wp H1) ⟨i,fs,rfl,hP1,Nat.le_refl _,hi,hF,hfl,hR⟩ ?_
 clear hP hP1 hF hR hfl
 rintro σ H2 ⟨k,fs,rfl,hP,hik,hk,hF,hfl,hR⟩
 nofun
 have push:∀ wd:Str,ts.getD k ""=wd->(wd="not"\/wd="(")->(∀ x dx il H3,H2 x=none->H2 il=none->Same H2 H3->H3 il=some (.lst [])->H3 x=some (.ins a.Opened dx (lD wd il))->BJ0 a wp dw wl op ts i G R [some (.ref wp),some (.ref op),some (.str (nomatch 213,k))] ↑272/\3000 - AJ4 wp ↑272 < 3000 - AJ4 wp H2):=by
  intro wd e1 e2 x dx il H3 hx hil S3 eil ex
  have kl:k < ts.length:=by
   exists 124,z,k
   ·exact z
   ·exists 131,e1
    rw [<- e1] at e2
    exact absurd e2 (by decide)
  have hP3:=(hP.push S3 hx hil ex eil).take (k+2)
  refine ⟨⟨k+1,_,rfl,hP3,by omega,by omega,fun f hf=>?_,by rw [List.length_cons]; omega,?_⟩,?_⟩
  ·rcases List.mem_cons.mp hf with rfl | hf
   ·exact ⟨e2.elim (fun z=>.inl ⟨z,rfl⟩) (fun z=>.inr (.inl ⟨z,rfl⟩)),by show 0+1<=k+1; omega⟩
   ·exact (hF f hf).up (by omega)
  ·rw [<- hR,gQ kl,bN,if_pos (by rw [e1]; exact e2),e1]
   rfl
  ·rw [AD5 hP3.W,AD5 hP.W]
   omega
 exists 153,c1,"not",.inl
 exists 153,c2,"(",.inr
 by_cases c3:ts.getD k ""="any"
 ·rw [if_pos c3]
  rw [BZ8 c3] at hR
  have kl:=cN c3 (by decide)
  intro x dx hx hd ne
  exact good _ _ _ hR.symm (.ref x) _ (k+1) fs rfl (by omega) (by omega) (hP.same (bA hx hd)) rfl (fun f hf=>(hF f hf).up (by omega)) (by omega) (by rw [Tr.Fit]; exact ⟨x,dx,rfl,dQ (hP.new hx) aA⟩)
 rw [if_neg c3]
 exists 12,c4,"kind",BT5,a.Kind
 exists 12,c5,"place",BJ1,a.Place
 by_cases c6:ts.getD k ""="weight"
 ·rw [if_pos c6]
  rw [BC7 c6] at hR
  have kl:=cN c6 (by decide)
  exists 59,hP.W.w,k,hP.W,hn
  ·have kl2:=cN (ts:=ts) (k:=k+1) rfl (fun z=>by rw [z] at hn; exact absurd hn (by decide +kernel))
   refine .inl ⟨hn,fun H3 B3 W3=>?_⟩
   have hP3:=hP.words B3 W3
   exists 13,M0,a.Least
   refine ⟨x,dx,_,rfl,aA,?_⟩
   by_cases n0:0<=dO (nomatch 213,k)
   ·rw [if_pos ⟨hn,n0⟩] at hR
    have SS:Same H3 (upd (upd (upd H3 dx (.own x)) x (.ins a.Least dx [])) x (.ins a.Least dx [("weight",.int (dO (nomatch 213,k)))])):=fun b o e=>by rw [aJ (aQ e hx)]; exact M0 b o e
    exact .inl ⟨n0,rfl,good _ _ _ hR.symm (.ref x) _ (k+2) fs rfl (by omega) (by omega) (hP3.same SS) rfl (fun f hf=>(hF f hf).up (by omega)) (by omega) (by rw [Tr.Fit]; exact ⟨x,dx,rfl,dQ (hP3.new hx) aA⟩)⟩
   ·rw [if_neg (fun z=>n0 z.2)] at hR
    exact .inr ⟨n0,fail hR.symm _ _ _ (.inl rfl) (hP3.K.trans (Same.but M0))⟩
  ·rw [if_neg (fun z=>hn z.1)] at hR
   exact .inr ⟨by simpa using hn,fun y H3 B3=>fail hR.symm _ _ _ (.inr rfl) (hP.K.trans B3)⟩
 rw [if_neg c6]
 rw [BT6 c1 c2 c3 c4 c5 c6] at hR
 exact fun y hy=>fail hR.symm _ _ _ (.inr rfl) (hP.K.trans (Same.but (aE hy _)))
theorem sZ {k:Bool->Prop}{c:Bool}(h:k c):isB (.bl c) k:=h
theorem BT7 {xs:List V}{x:V}:atI (xs++[x]) (-1)=some x:=by
 unfold atI ixN
 exists 16
 have e:(xs++[x]).length=xs.length+1:=by rw [List.length_append,List.length_singleton]
 rw [e]
 exists 98,if_pos
 show (xs++[x])[((-1:Int)+((xs.length+1:Nat):Int)).toNat]?=some x
 rw [show ((-1:Int)+((xs.length+1:Nat):Int)).toNat=xs.length by omega]
 simp
theorem BZ9 {f:Fm}{S:List Fm}{t:Tr}{r:List Str}(c:f.sg="not"):closeF (f::S) t r=closeF S (.not t) r:=by rw [cW,if_pos c]
theorem BT8 {ts:List Str}{f:Fm}{S:List Fm}{t:Tr}{k:Nat}(c:¬ f.sg="not")(e:ts.getD k ""=")"):closeF (f::S) t (ts.drop k)=if f.sg="&" then closeF S (.both (Trs.ofL (f.inn++[t]))) (ts.drop (k+1)) else if f.sg="|" then closeF S (.either (Trs.ofL (f.inn++[t]))) (ts.drop (k+1)) else none:=by
 rw [cW,if_neg c,gQ (cN e (by decide))]
 dsimp only
 rw [if_pos e]
theorem CA0 {ts:List Str}{f:Fm}{S:List Fm}{t:Tr}{k:Nat}(c:¬ f.sg="not")(n:ts.getD k ""≠")")(e:(ts.getD k ""="&"\/ts.getD k ""="|")/\(f.sg="("\/f.sg=ts.getD k "")):k < ts.length/\closeF (f::S) t (ts.drop k)=some (.inr (ts.drop (k+1),⟨ts.getD k "",f.inn++[t]⟩::S)):=by
 have kl:k < ts.length:=e.1.elim (fun z=>cN z (by decide)) fun z=>cN z (by decide)
 refine ⟨kl,?_⟩
 rw [cW,if_neg c,gQ kl]
 dsimp only
 rw [if_neg n,if_pos e]
theorem CA1 {ts:List Str}{f:Fm}{S:List Fm}{t:Tr}{k:Nat}(c:¬ f.sg="not")(n:ts.getD k ""≠")")(e:¬ ((ts.getD k ""="&"\/ts.getD k ""="|")/\(f.sg="("\/f.sg=ts.getD k ""))):closeF (f::S) t (ts.drop k)=none:=by
 exists 124,kl,k
 ·rw [cW,if_neg c,gQ kl]
  dsimp only
  rw [if_neg n,if_neg e]
 ·rw [cW,if_neg c,(iR (by omega)).2]
def BT9 (a:Ad)(wp dw wl op:Addr)(ts:List Str)(i:Nat)(G:Hp)(R:Option ((Tr × List Str) ⊕ (List Str × List Fm)))(σ:L2.St)(H1:Hp):Prop:=∃ (k:Nat) (fs:List OF) (t:Tr) (v:V) (lv:Option V),σ=[some v,some (.ref wp),some (.ref op),lv]/\PSt a.Words a.Opened (fc a) H1 wp dw wl ts k op fs G/\i<=k/\k<=ts.length/\(∀ f∈fs,FrOk 2 k f)/\fs.length<=k/\t.Fit (fc a) (Out (zA wp op fs) H1) v/\closeF (fs.map OF.fm) t (ts.drop k)=R
theorem BC8 (B:Bt K mg a)(zO:CalX P w K mg base "fit_of" ["opened"] 5 (vP K a))(hV:CalX P w K mg base "is_closed_here" ["bracket","words"] 3 (kM K a))(F:Fun K "closed" "closed" zG f fd):FnOk P w K mg base (CXF P w) 6 f fd ["fit","words","opened"] (AD6 K a):=by
 exists 138,sc_closed
 ·obtain ⟨v,t,wp,dw,wl,op,ts,i,fs,G,rfl,_⟩:=h
  rfl
 obtain ⟨v,t,wp,dw,wl,op,ts,i,fs,G,rfl,hP,hT,hl,hi,hfl,hF,hv,good,more,fail⟩:=h
 refine ⟨_,(aY (aC (bQ (uB PassesOwn.leaving (nomatch 291,yE,bR,2) (aY (aC (aZ (i:=3) sc_closed.nd rfl (Or.inl rfl) (aS (bL cX (pv 2) (CC6 BW9 aM) (fun _ _=>rfl))) (by kernel_rfl)) (aC (bQ (cD (gK PySem.F.plainAttrs_list PySem.F.slot_list_append PySem.F.type_list_append dC (bB (pv 3) rfl) (nomatch 190,0)))) (aC (bC (L2.PW.pt (uH (aU yD (bB (pv 3) rfl) aN (aV _)) (qW (cC (bI (nomatch 273,hV,3)))))) (aG (aT (aS pK))) aO) (aC (bQ (cD (BL1 PySem.F.plainAttrs_list PySem.F.slot_list_pop PySem.F.type_list_pop BX5 (pv 2)))) (aG (nomatch 287,0,sc_closed.nd,239,zO,3))))))))) (nomatch 235,0))),?_⟩
 generalize hR:closeF (fs.map OF.fm) t (ts.drop i)=R at good more fail
 nofun
 refine whl (BT9 a wp dw wl op ts i G R) (fun _ H1=>AJ5 op H1) ⟨i,fs,t,v,none,rfl,hP,Nat.le_refl _,hi,hF,hfl,hv,hR⟩ ?_
 clear hP hF hR hfl hv
 rintro σ H2 ⟨k,fs,t,v,lv,rfl,hP,hik,hk,hF,hfl,hv,hR⟩
 nofun
 refine ⟨_,.inl (SqL.of hP.O),?_⟩
 exists List.length_map,List.length_reverse
 cases fs with
 | nil =>
  exists 16
  exact good _ _ hR.symm v H2 k rfl hik hk hP hv
 | cons f fs =>
 rw [if_pos (by rw [List.length_cons]; omega)]
 have mem:f∈f::fs:=List.mem_cons_self
 have hf:=hP.F f mem
 have hFf:=hF f mem
 have hP1:=hP.inner hv
 have O':H2 op=some (.lst (↑196++[.ref f.r])):=by
  have e:=hP.O
  rw [List.reverse_cons,List.map_append] at e
  exact e
 have lv:=(hP.T f mem).len
 have fin:∀ (k':Nat) (H4:Hp),PSt a.Words a.Opened (fc a) H4 wp dw wl ts k' op (f.app v t::fs) G->k<=k'->k'<=ts.length->(mkF f.sg (f.inn++[t])=none->R=none)->(∀ t',mkF f.sg (f.inn++[t])=some t'->closeF (fs.map OF.fm) t' (ts.drop k')=R) ->
   (tyV K "list" (V.ref op) H4/\CJ3 (V.ref op) [] H4 fun _ H1=>vP K a [.ref f.r] H1 (fun x H1=>BT9 a wp dw wl op ts i G R [some x,some (V.ref wp),some (V.ref op),some (.ref f.r)] H1/\AJ5 op H1 < AJ5 op H2) E):=by
  intro k' H4 hP4 hk1 hk2 e1 e2
  have mem4:f.app v t∈f.app v t::fs:=List.mem_cons_self
  have O4:H4 op=some (.lst (↑196++[.ref f.r])):=by
   have e:=hP4.O
   rw [List.reverse_cons,List.map_append] at e
   exact e
  refine ⟨.inl ⟨rfl,_,SqL.of O4⟩,op,_,.ref f.r,rfl,rfl,O4,by simp,?_⟩
  rw [List.dropLast_concat]
  have hP5:=hP4.pop
  obtain ⟨o1,o2,o3⟩:=hP4.ow
  have q3:=o3 _ mem4
  have hA5:=(hP4.T _ mem4).imp fun t v _ h=>h.same (AO4 hP4)
  have hr5:upd H4 op (.lst ↑196) f.r=some (.ins a.Opened f.d (lD f.sg f.il)):=by
   rw [aJ (show f.r≠op from q3.2.1.symm)]
   exact (hP4.F _ mem4).1
  have hi5:upd H4 op (.lst ↑196) f.il=some (.lst (f.vs++[v])):=by
   rw [aJ (show f.il≠op from q3.1.symm)]
   exact (hP4.F _ mem4).2
  have li:=hFf.2
  refine ⟨f.r,f.d,f.il,f.sg,f.vs++[v],f.inn++[t],zA wp op fs,rfl,hr5,hi5,hA5,fun b hb=>hP5.new hb,by rw [List.length_append,List.length_singleton,<- lv]; omega,fun _=>by simp,fun z=>?_,?_⟩
  ·rw [List.length_append,List.length_singleton]
   rcases hFf.1 with ⟨y,_⟩ | ⟨y,_⟩ | ⟨_,y⟩
   ·rw [y] at z; exact absurd z (by decide)
   ·rw [y] at z; exact absurd z (by decide)
   ·have:=List.length_pos_iff.mpr y
    omega
  cases em:mkF f.sg (f.inn++[t]) with
  | none=>exact .inr ⟨rfl,fun y H' S' _=>fail (e1 em) _ _ _ (.inr rfl) (hP5.K.trans (Same.but S'))⟩
  | some t' =>
   refine .inl ⟨t',rfl,fun v' H' S' hv'=>⟨⟨k',fs,t',v',_,rfl,hP5.same S',by omega,hk2,fun g hg=>(hF g (List.mem_cons_of_mem _ hg)).up (by omega),by rw [List.length_cons] at hfl; omega,hv',e2 t' em⟩,?_⟩⟩
   rw [BN0 (hP5.same S').O,BN0 O',List.length_append,List.length_map,List.length_reverse,List.length_singleton]
   omega
 refine ⟨fun σ' H'=>BT9 a wp dw wl op ts i G R σ' H'/\AJ5 op H' < AJ5 op H2,fun σ' H' h=>⟨_,h.2,rfl,h.1⟩,ixl (SqL.of O') BT7 ?_⟩
 refine ⟨_,_,_,hf.1,B.ck_Opened.cl,B.na_Opened_inner,.ref f.il,rfl,.inl ⟨rfl,_,SqL.of hf.2⟩,f.il,_,_,rfl,rfl,hf.2,?_,?_⟩
 ·have li:=hFf.2
  exact Nat.lt_of_le_of_lt (show f.vs.length<=1000 by omega) (by decide)
 have mem1:f.app v t∈f.app v t::fs:=List.mem_cons_self
 refine ⟨_,_,_,(hP1.F _ mem1).1,B.ck_Opened.cl,B.na_Opened_sign,.str f.sg,rfl,rfl,?_⟩
 generalize upd H2 f.il (.lst (f.vs++[v]))=H3 at *
 rw [List.map_cons] at hR
 by_cases c:f.sg="not"
 ·rw [if_neg (fun z=>z (by rw [c]))]
  rw [BZ9 (f:=f.fm) c] at hR
  have e0:f.inn=[]:=by
   rcases hFf.1 with ⟨_,y⟩ | ⟨_,y⟩ | ⟨y,_⟩
   ·exact y
   ·exact y
   ·rw [c] at y; exact absurd y (by decide)
  have em:mkF f.sg (f.inn++[t])=some (.not t):=by rw [e0]; unfold mkF; rw [if_pos c]; rfl
  exact fin k H3 hP1 (Nat.le_refl _) hk (fun z=>by rw [em] at z; cases z) (fun t' z=>by rw [em] at z; cases z; exact hR)
 rw [if_pos (fun z=>c (V.str.inj z))]
 refine ⟨wp,dw,wl,op,ts,k,f.app v t,fs,G,rfl,hP1,fun H4 hP4 e=>sZ ?_,fun H4 hP4 n e=>sZ ?_,fun n e y H4 B4=>?_⟩
 ·exists 16
  rw [BT8 (f:=f.fm) c e,show f.fm.sg=f.sg from rfl] at hR
  have kl:=cN e (by decide)
  refine fin (k+1) H4 hP4 (by omega) (by omega) (fun z=>?_) (fun t' z=>?_)
  ·unfold mkF at z
   rw [if_neg c] at z
   by_cases c2:f.sg="&"
   ·rw [if_pos c2] at z; cases z
   rw [if_neg c2] at z
   by_cases c3:f.sg="|"
   ·rw [if_pos c3] at z; cases z
   rw [if_neg c2,if_neg c3] at hR
   exact hR.symm
  ·unfold mkF at z
   rw [if_neg c] at z
   by_cases c2:f.sg="&"
   ·rw [if_pos c2] at z hR
    cases z
    exact hR
   rw [if_neg c2] at z
   by_cases c3:f.sg="|"
   ·rw [if_pos c3] at z
    rw [if_neg c2,if_pos c3] at hR
    cases z
    exact hR
   rw [if_neg c3] at z
   cases z
 ·rw [if_pos rfl]
  obtain ⟨kl,eq⟩:=CA0 (f:=f.fm) (S:=fs.map OF.fm) (t:=t) c n e
  rw [eq] at hR
  refine more _ _ hR.symm H4 (k+1) _ rfl (by omega) (by omega) hP4 rfl (fun g hg=>?_) (by rw [List.length_cons] at hfl ⊢; omega)
  rcases List.mem_cons.mp hg with rfl | hg
  ·refine ⟨.inr (.inr ⟨e.1,by show f.inn++[t]≠[]; simp⟩),?_⟩
   have li:=hFf.2
   show (f.inn++[t]).length+1<=k+1
   rw [List.length_append,List.length_singleton]
   omega
  ·exact (hF g (List.mem_cons_of_mem _ hg)).up (by omega)
 ·rw [CA1 (f:=f.fm) c n e] at hR
  exact fail hR.symm _ _ _ (.inr rfl) B4
def CA2 (a:Ad)(wp dw wl op:Addr)(ts:List Str)(i:Nat)(G:Hp)(R:Option (Tr × List Str))(σ:L2.St)(H1:Hp):Prop:=∃ (k:Nat) (fs:List OF) (fv:V),σ=[some (.ref wp),some (.ref op),some fv]/\PSt a.Words a.Opened (fc a) H1 wp dw wl ts k op fs G/\i<=k/\k<=ts.length/\fs.length<=k/\((fv=.non/\(∀ f∈fs,FrOk 1 k f)/\AO3 (ts.drop k) (fs.map OF.fm)=R)\/(∃ t,fs=[]/\i < k/\t.Fit (fc a) (Out (zA wp op []) H1) fv/\R=some (t,ts.drop k)))
theorem PSt.start {Cw Co:Addr}{c:FC}{H:Hp}{wp dw wl op:Addr}{ts:List Str}{i:Nat}(W:WAt Cw H wp dw wl ts i)(ho:H op=none):PSt Cw Co c (upd H op (.lst [])) wp dw wl ts i op [] H:=by
 have n1:wp≠op:=aQ W.w ho
 have n2:wl≠op:=aQ W.l ho
 refine ⟨⟨by rw [aJ n1]; exact W.w,by rw [aJ n2]; exact W.l⟩,aA,fun f hf=>(by cases hf),?_,List.nodup_nil,fun f hf=>(by cases hf),Same.but (aE ho _),fun b hb hn=>?_⟩
 ·refine List.nodup_cons.mpr ⟨fun z=>n2 ?_,List.nodup_cons.mpr ⟨fun z=>(by cases z),List.nodup_nil⟩⟩
  rcases List.mem_cons.mp z with z | z
  ·exact z
  ·cases z
 ·rcases mem_muts.mp hb with z | z | ⟨g,hg,_⟩ | ⟨g,hg,_⟩
  ·exact absurd z hn
  ·rw [z]; exact ho
  ·cases hg
  ·cases hg
theorem CA3 {H:Hp}{wp op:Addr}:Same (Out (zA wp op []) H) (Out [wp] H):=kZ fun b o n e=>⟨fun z=>n (mem_muts.mpr (.inl (List.mem_singleton.mp z))),e⟩
theorem AJ9 (B:Bt K mg a)(zP:CalX P w K mg base "closed" ["fit","words","opened"] 6 (AD6 K a))(hX:CalX P w K mg base "plain_fit_from" ["words","opened"] 6 (kL K a))(F:Fun K "fit_from" "fit_from" rM f fd):FnOk P w K mg base (CXF P w) 7 f fd ["words"] (vO K a):=by
 exists 138,sc_fit_from
 exists 61
 refine ⟨_,(aY (aC (nomatch 194,1,sc_fit_from.nd,Or.inl,eY,aB) (aC (nomatch 194,2,sc_fit_from.nd,Or.inl,aS,pK) (aC (bQ (uB PassesOwn.leaving (mE (AT0 (pv 2))) (aY (aG (aZ (i:=2) sc_fit_from.nd rfl (Or.inl rfl) (aS (cR zP ↑162 rfl (aH (aL (nomatch 273,hX,0) (aL (pv 0) (aL (pv 1) aB)))) (he:=aD _ _ _ rfl) (hpl:=aF rfl))) (by kernel_rfl)))))) (nomatch 235,2))))),?_⟩
 generalize hR:AO3 (ts.drop i) []=R at good fail
 nofun
 exists 84,op,hop
 have hP0:=PSt.start (Co:=a.Opened) (c:=fc a) W hop
 refine whl (CA2 a wp dw wl op ts i H R) (fun _ H1=>3000 - AJ4 wp H1) ⟨i,[],.non,rfl,hP0,Nat.le_refl _,hi,Nat.zero_le _,.inl ⟨rfl,(fun f hf=>by cases hf),hR⟩⟩ ?_
 clear hP0 hR
 rintro σ H2 ⟨k,fs,fv,rfl,hP,hik,hk,hfl,hc⟩
 nofun
 rcases hc with ⟨rfl,hF,hR⟩ | ⟨t,rfl,hik2,hv,hR⟩
 ·rw [if_pos rfl]
  refine ⟨fun σ' H'=>CA2 a wp dw wl op ts i H R σ' H'/\3000 - AJ4 wp H' < 3000 - AJ4 wp H2,fun σ' H' h=>⟨_,h.2,rfl,h.1⟩,?_⟩
  rw [fS] at hR
  refine ⟨wp,dw,wl,op,ts,k,fs,H,rfl,hP,hT,hl,hk,hfl,hF,fun t r Sf e v H3 j fs' er hj1 hj2 hP3 eS hF3 hl3 hv3=>?_,fun e cls y H3 hx B3=>?_⟩
  ·rw [e] at hR
   dsimp only at hR
   subst er eS
   unfold after at hR
   refine ⟨v,t,wp,dw,wl,op,ts,j,fs',H,rfl,hP3,hT,hl,hj2,hl3,hF3,hv3,fun t' r' e' v' H4 j' er' hj3 hj4 hP4 hv4=>?_,fun r' Sf' e' H4 j' fs4 er' hj3 hj4 hP4 eS4 hF4 hl4=>?_,fun e' cls y H4 hx B4=>?_⟩
   ·rw [e'] at hR
    subst er'
    refine ⟨⟨j',[],v',rfl,hP4,by omega,hj4,Nat.zero_le _,.inr ⟨t',rfl,by omega,hv4,hR.symm⟩⟩,?_⟩
    rw [AD5 hP4.W,AD5 hP.W]
    omega
   ·rw [e'] at hR
    subst er' eS4
    refine ⟨⟨j',fs4,.non,rfl,hP4,by omega,hj4,hl4,.inl ⟨rfl,hF4,hR⟩⟩,?_⟩
    rw [AD5 hP4.W,AD5 hP.W]
    omega
   ·rw [e'] at hR
    exact fail hR.symm cls y H4 hx B4
  ·rw [e] at hR
   exact fail hR.symm cls y H3 hx B3
 ·obtain ⟨p,_,_,rfl,_⟩:=id hv.ins
  rw [if_neg (by intro z; cases z)]
  exact good _ _ hR (.ref p) H2 k rfl hik2 hk hP.K hP.W (hv.same CA3)
theorem pC (B:Bt K mg a)(iH:CalX P w K mg base "is_whole" ["thing"] 1 (oX K a))(F:Fun K "is_whole_between" "is_whole_between" fB f fd):FnOk P w K mg base CX0 2 f fd ["thing","least","most"] (eN K a):=by
 exists 5,oK
 obtain ⟨x,lo,hi,rfl,ox,q⟩:=h
 refine ⟨_,(aY (aG (aT (aS (nU (nomatch 259,iH,0) (nU (cU BN9 (pv 1) (pv 0) (aV _)) (pL (cU BN9 (pv 0) (pv 2) (aV _))))))))),?_⟩
 nofun
 refine ⟨x,rfl,ox,?_⟩
 cases x <;> simp_all [BX7,BX8,AN3,uU]
 split <;> simp_all
theorem pD (B:Bt K mg a)(cH:CalX P w K mg base "is_whole_between" ["thing","least","most"] 2 (eN K a))(F:Fun K "is_minute_of_day" "is_minute_of_day" fG f fd):FnOk P w K mg base CX0 3 f fd ["thing"] (jB K a):=by
 exists 150,oQ,x,ox
 refine ⟨_,(aY (aG (aT (aS (pc cH hr rfl (nomatch 228,1440,B.MINUTES_OF_DAY)))))),?_⟩
 nofun
 exact ⟨x,0,1440 - 1,rfl,ox,q⟩
theorem lO (B:Bt K mg a)(cH:CalX P w K mg base "is_whole_between" ["thing","least","most"] 2 (eN K a))(F:Fun K "check_minute_of_hour" "check_minute_of_hour" dI f fd):FnOk P w K mg base (CXF P w) 3 f fd ["minute"] (fJ K a):=by
 exists 138,lG
 exists 99,n
 refine ⟨_,(aY (aG (bC (cC (bI (cR cH ↑162 rfl (nomatch 228,60,B.MINUTES_OF_HOUR) (he:=aD _ _ _ rfl) (hpl:=aF rfl)))) (nomatch 163,a.NoClock,B.NoClock,B.exc_NoClock) aO))),?_⟩
 nofun
 refine ⟨_,_,_,rfl,⟨_,.int n,by kernel_rfl,by kernel_rfl⟩,?_⟩
 exists 60,c
 ·have e:uU (.int n) 0 (60 - 1)=true:=by simp only [uU,Bool.and_eq_true,decide_eq_true_eq]; omega
  exists e,Bool.not_true
  exact q
 ·have e:uU (.int n) 0 (60 - 1)=false:=by simp only [uU,Bool.and_eq_false_iff,decide_eq_false_iff_not]; omega
  exists e,Bool.not_false
  exact q
theorem lZ (B:Bt K mg a)(fN:CalX P w K mg base "is_minute_of_day" ["thing"] 3 (jB K a))(F:Fun K "check_minute_of_day" "check_minute_of_day" dR f fd):FnOk P w K mg base (CXF P w) 4 f fd ["minute"] (fQ K a):=by
 exists 138,lY
 exists 99,n
 refine ⟨_,(aY (aG (bC (nomatch 299,fN,0) (nomatch 163,a.NoClock,B.NoClock,B.exc_NoClock) aO))),?_⟩
 nofun
 refine ⟨_,rfl,⟨_,.int n,by kernel_rfl,by kernel_rfl⟩,?_⟩
 exists 60,c
 ·have e:uU (.int n) 0 1439=true:=by simp only [uU,Bool.and_eq_true,decide_eq_true_eq]; omega
  exists e,Bool.not_true
  exact q
 ·have e:uU (.int n) 0 1439=false:=by simp only [uU,Bool.and_eq_false_iff,decide_eq_false_iff_not]; omega
  exists e,Bool.not_false
  exact q
theorem tN (B:Bt K mg a)(dJ:CalX P w K mg base "check_minute_of_hour" ["minute"] 3 (fJ K a))(F:Fun K "__init__" "Hour.__init__" iV f fd):FnOk P w K mg base (CXF P w) 4 f fd ["self","minute"] (eK K a):=by
 exists 138,tI
 exists 48,dJ,B.ck_Hour.cl,B.na_Hour_minute
theorem vX (B:Bt K mg a)(dU:CalX P w K mg base "check_minute_of_day" ["minute"] 4 (fQ K a))(F:Fun K "__init__" "Day.__init__" jY f fd):FnOk P w K mg base (CXF P w) 5 f fd ["self","minute"] (fK K a):=by
 exists 138,vK
 exists 48,dU,B.ck_Day.cl,B.na_Day_minute
def rFs (x y z:V):List (Str × V):=[("minutes",x),("times",y),("to",z)]
theorem rfs (x y z:V):pO ("minutes":Str) x []=([("minutes",x)]:List (Str × V))/\pO ("times":Str) y ([("minutes",x)]:List (Str × V))=([("minutes",x),("times",y)]:List (Str × V))/\pO ("to":Str) z ([("minutes",x),("times",y)]:List (Str × V))=rFs x y z:=by
 refine ⟨rfl,lK fun q hq=>?_,lK fun q hq=>?_⟩
 exists 139
theorem lfs (f y r s z:V):pO ("fit":Str) f []=([("fit",f)]:List (Str × V))/\pO ("way":Str) y ([("fit",f)]:List (Str × V))=([("fit",f),("way",y)]:List (Str × V))/\pO ("roads":Str) r ([("fit",f),("way",y)]:List (Str × V))=([("fit",f),("way",y),("roads",r)]:List (Str × V))/\pO ("sure":Str) s ([("fit",f),("way",y),("roads",r)]:List (Str × V))=([("fit",f),("way",y),("roads",r),("sure",s)]:List (Str × V))/\pO ("raised":Str) z ([("fit",f),("way",y),("roads",r),("sure",s)]:List (Str × V))=lFs f y r s z:=by
 refine ⟨rfl,lK fun q hq=>?_,lK fun q hq=>?_,lK fun q hq=>?_,lK fun q hq=>?_⟩
 exists 139
 ·exists 45,hq
  rcases hq with rfl | rfl | rfl <;> (dsimp only; decide)
 ·exists 45,hq
  rcases hq with rfl | rfl | rfl | rfl <;> (dsimp only; decide)
theorem qN (B:Bt K mg a)(cQ:CalX P w K mg base "is_whole_from" ["thing","least"] 2 (hJ K a))(dE:CalX P w K mg base "is_name" ["thing"] 1 (kJ K a))(F:FunA K "__init__" "Raised.__init__" bP f fd):FnOk P w K mg base (CXF P w) 3 f fd ["self","minutes","times","to"] (dN K a):=by
 exists 8,FunA.okX,qC
 ·obtain ⟨p,dx,x,rfl,_⟩:=h
  rfl
 obtain ⟨p,dx,x,rfl,hp,gz,q⟩:=h
 refine ⟨_,(aY (aC (nomatch 250,1,a.NoWish,B.NoWish,B.exc_NoWish) (aC (nomatch 250,2,a.NoWish,B.NoWish,B.exc_NoWish) (aC (bC (L2.PW.pt (uH (mE (kP (pv 3))) (qW (nomatch 299,dE,3)))) (nomatch 163,a.NoWish,B.NoWish,B.exc_NoWish) aO) (aC (nomatch 202,1) (aC (nomatch 202,2) (aG (nomatch 202,3)))))))),?_⟩
 obtain ⟨x,y,z⟩:=x
 dsimp only at q gz ⊢
 have bads:¬ (1<=x/\0<=y)->E (.ref a.NoWish) none H:=fun b=>by
  exists 121,q,e,e,b
  ·exact q
 have good:=fun b:1<=x/\0<=y=>q.elim And.right fun z=>absurd b z.1
 clear q
 obtain ⟨e1,e2,e3⟩:=rfs (.int x) (.int y) (toV z)
 nofun
 exists 103,x
 by_cases hx:1<=x
 ·have f1:AB8 (.int x) 1=true:=decide_eq_true hx
  exists f1,Bool.not_true
  exists 103,y
  by_cases hy:0<=y
  ·have f2:AB8 (.int y) 0=true:=decide_eq_true hy
   exists f2,Bool.not_true
   cases z with
   | none =>
    rw [if_neg (fun h=>h rfl)]
    have S0:Same H H:=fun _ _ z=>z
    exists 35,S0
   | some u =>
    exists 89,h
    refine ⟨_,rfl,⟨(rB (gz u rfl)).1,by have:=(rB (gz u rfl)).2; omega⟩,fun H1 S1=>?_⟩
    have hb:jH (.str u)=true:=decide_eq_true (gz u rfl)
    exists toV,hb,Bool.not_true
    exists 35,S1
  ·exists 132,f2,y,0,hy,z.2
 ·exists 132,f1,x,1,hx,z.1
theorem BC9 (B:Bt K mg a)(k:Nat):ClsK K (BI8 a k)/\kitOne K (.ref (BI8 a k)) (.ref a.Way)=some true/\kitOne K (.ref (BI8 a k)) (.ref a.Never)=some (decide (¬ (k=0\/k=1\/k=2))):=by
 unfold BI8
 exists 104,k0,0,B.ck_Now,B.is_Now_Way,B.is_Now_Never
 rw [if_neg k0]
 exists 104,k1,1,B.ck_Hour,B.is_Hour_Way,B.is_Hour_Never
 rw [if_neg k1]
 exists 104,k2,2,B.ck_Day,B.is_Day_Way,B.is_Day_Never
 rw [if_neg k2,decide_eq_true (by omega)]
 exact ⟨B.ck_Never,B.is_Never_Way,B.is_Never_Never⟩
theorem CA4 {a:Ad}{H:Hp}{v:V}{ra:Option ↑198}(h:RaIs a H v ra):v=.non ↔ ra=none:=by
 cases ra with
 | none=>exact ⟨fun _=>rfl,fun _=>h⟩
 | some x =>
  obtain ⟨q,d,rfl,_⟩:=h
  exact ⟨fun z=>(by cases z),fun z=>(by cases z)⟩
theorem vY (B:Bt K mg a)(F:Fun K "check_by_way" "check_by_way" jZ f fd):FnOk P w K mg base (CXF P w) 1 f fd ["way","roads","sure","raised"] (mV K a):=by
 exists 138,vL
 ·obtain ⟨y,k,m,l,us,su,rv,ra,rfl,_⟩:=h
  rfl
 obtain ⟨y,k,m,l,us,su,rv,ra,rfl,hy,hl,l9,hra,q⟩:=h
 refine ⟨_,(aY (aG (bC (cC (nomatch 257,0,B.Never)) (aG (bC (nomatch 291,bZ,bR,1) (nomatch 163,a.NoWish,B.NoWish,B.exc_NoWish) aO)) (aG (bC (L2.PW.pt (gO (nomatch 291,yE,bR,1) (gO (bI (pv 2)) (eU (mE (kP (pv 3))))))) (nomatch 163,a.NoWish,B.NoWish,B.exc_NoWish) aO))))),?_⟩
 obtain ⟨yp,d,rfl,hyp,k3⟩:=hy
 obtain ⟨c1,c2,c3⟩:=BC9 B k
 have hn:=CA4 hra
 have le:us.length=0 ↔ us=[]:=List.length_eq_zero_iff
 nofun
 refine ⟨_,_,_,_,rfl,c1.ty hyp,c3,?_⟩
 by_cases kk:k=3
 ·exists 98,decide_eq_true
  exists 73
  exists 126
  ·exists 98,if_neg
   cases su with
   | true =>
    nofun
    exists 60,b
    ·rcases b with ⟨_,_,b,_⟩ | ⟨b,_⟩
     ·cases b
     ·exact absurd kk b
    ·exact q
   | false =>
    nofun
    by_cases hz:rv=.non
    ·have er:=hn.mp hz
     subst hz
     exists decide_true,not_true_eq_false,Bool.not_true
     exists 60,b
     ·first | exact q | (rw [if_neg (fun h=>h rfl)]; exact q)
     ·exact absurd (.inl ⟨kk,le.mp l0,rfl,er⟩) b
    ·exists 60,b
     ·rcases b with ⟨_,_,_,b⟩ | ⟨b,_⟩
      ·exact absurd (hn.mpr b) hz
      ·exact absurd kk b
     ·first | (rw [if_pos hz]; exact q) | (exists hz,decide_false,Bool.not_false; exact q)
  ·exists 98,if_pos
   exists 60,b
   ·rcases b with ⟨_,b,_⟩ | ⟨b,_⟩
    ·exact absurd (le.mpr b) l0
    ·exact absurd kk b
   ·exact q
 ·exists 98,decide_eq_false
  exists 147
  exists 126
  ·exists 98,if_pos
   exists 60,b
   ·exists 121,b,b,b,kk
    ·exact absurd (le.mp l0) b
   ·exact q
  ·exists 98,if_neg
   exists 60,b
   ·exact q
   ·exact absurd (.inr ⟨kk,fun z=>l0 (le.mpr z)⟩) b
theorem BD0 {us:List Str}:qE (us.map V.str)=decide ↑233:=by
 unfold qE
 exists 122
 rw [e2,Bool.eq_iff_iff,Bool.and_eq_true,decide_eq_true_eq,decide_eq_true_eq,List.all_map,List.all_eq_true]
 exact and_congr_left fun _=>forall_congr' fun u=>imp_congr_right fun _=>decide_eq_true_iff
theorem BU0 {a:Ad}{H:Hp}{v:V}{ra:Option ↑198}(h:RaIs a H v ra):v=.non\/∃ q d fs,v=.ref q/\H q=some (.ins a.Raised d fs):=by
 cases ra with
 | none=>exact .inl h
 | some x =>
  obtain ⟨q,d,e,h⟩:=h
  exact .inr ⟨q,d,_,e,h⟩
theorem tO (B:Bt K mg a)(kB:CalX P w K mg base "check_by_way" ["way","roads","sure","raised"] 1 (mV K a))(cG:CalX P w K mg base "are_unlike_names" ["thing"] 2 (eO K a))(F:FunA K "__init__" "Line.__init__" bM f fd):FnOk P w K mg base (CXF P w) 3 f fd ["self","fit","way","roads","sure","raised"] (cI K a):=by
 exists 8,FunA.okX,tJ
 ·obtain ⟨p,dx,l,fv,y,rv,t,k,m,us,su,ra,rfl,_⟩:=h
  rfl
 obtain ⟨p,dx,l,fv,y,rv,t,k,m,us,su,ra,rfl,hp,hf,hy,hl,l9,htk,hra,q⟩:=h
 refine ⟨_,(aY (aC (nomatch 296,1,B.Fit) (aC (nomatch 296,2,B.Way) (aC (bC (nomatch 299,cG,3) (nomatch 163,a.NoWish,B.NoWish,B.exc_NoWish) aO) (aC (bC (cC (bI (nomatch 170,"bool",4,B.bool,PyProof.Rows.boot_bool))) (nomatch 163,a.NoWish,B.NoWish,B.exc_NoWish) aO) (aC (bC (L2.PW.pt (uH (mE (kP (pv 5))) (qW (cC (nomatch 257,5,B.Raised))))) (nomatch 163,a.NoWish,B.NoWish,B.exc_NoWish) aO) (aC (bQ (cD (cR kB ↑162 rfl (aH ↑229) (he:=aD _ _ _ rfl) (hpl:=aF rfl)))) (aC (nomatch 202,1) (aC (nomatch 202,2) (aC (bQ (eA (pv 0) (nomatch 255,3) rfl)) (aC (nomatch 202,4) (aG (nomatch 202,5))))))))))))),?_⟩
 have bads:=fun (z:¬ (↑233/\↑231))=>q.elim (fun x=>absurd x.1 z) And.right
 have good:=fun (z:↑233/\↑231)=>q.elim And.right (fun x=>absurd z x.1)
 clear q
 exists 37,pf,dxf,hpf,hf.ins
 obtain ⟨yp,dy,ey,hyp,k3⟩:=id hy
 obtain ⟨c1,c2,c3⟩:=BC9 B k
 obtain ⟨e1,_⟩:=lfs (.ref pf) y (.ref l) (.bl su) rv
 nofun
 exists 151,hk.1.ty,hpf,hk.2
 refine ⟨_,_,_,true,rfl,(by rw [ey]; exact c1.ty hyp),c2,?_⟩
 exists 73
 refine ⟨_,qE (us.map V.str),rfl,.inl ⟨l,_,rfl,hl,by rw [List.length_map]; omega,fun z hz=>?_,rfl⟩,fun H1 S1=>?_⟩
 ·obtain ⟨u,hu,rfl⟩:=List.mem_map.mp hz
  exact AJ6 (htk u hu)
 rw [BD0]
 by_cases cn:(∀ u∈us,aX u)/\us.Nodup
 rotate_left
 ·rw [decide_eq_false cn]
  exists 147
  exact bads (fun z=>cn z.1) _ S1
 rw [decide_eq_true cn]
 exists 73
 have hy1:=hy.same S1
 have hra1:=hra.same S1
 exists 70,.bl,su
 exists 73
 rcases BU0 hra1 with ez | ⟨q3,d3,f3,ez,h3⟩
 ·subst ez
  rw [if_neg (fun h=>h rfl)]
  refine ⟨y,k,m,l,us,su,.non,ra,rfl,hy1,S1 _ _ hl,l9,hra1,?_⟩
  exists 29
  obtain ⟨e1,e2,e3,e4,e5⟩:=lfs (.ref pf) y (.ref l2) (.bl su) .non
  exists 30
 ·subst ez
  exists 89,h
  exists 151,B.ck_Raised.ty,h3,B.is_Raised_Raised
  refine ⟨y,k,m,l,us,su,(.ref q3),ra,rfl,hy1,S1 _ _ hl,l9,hra1,?_⟩
  exists 29
  obtain ⟨e1,e2,e3,e4,e5⟩:=lfs (.ref pf) y (.ref l2) (.bl su) (.ref q3)
  exists 30
theorem wV (B:Bt K mg a)(hU:∀ C sp,vT K a C sp->CalM P w K mg base C "look" ["self"] 1 sp)(F:Fun K "takes" "Words.takes" lE f fd):FnOk P w K mg base CX0 2 f fd ["self","word"] (nY K a):=by
 exists 5,wS
 obtain ⟨wp,dw,wl,ts,i,wd,rfl,W,q⟩:=h
 refine ⟨_,(aY (aC (bC (aU yD (bT (pv 0) hU gM ↑162) (pv 1) (aV _)) ↑195 aO) (aC (bQ (uN (pv 0) aM AU2)) ↑195))),?_⟩
 exists 44,W.w,i,W
 nofun
 exists 60,e
 ·first | rw [if_neg (fun z=>z e)] | rw [if_neg (fun z=>z (congrArg V.str e))]
  exists 158
 ·first | rw [if_pos e] | rw [if_pos (fun z=>e (V.str.inj z))]
  exact q
theorem vZ (B:Bt K mg a)(lP:∀ C sp,zI K a C sp->CalM P w K mg base C "takes" ["self","word"] 2 sp)(bH:CalI P w K mg base "NoText" a.NoText "line" 1 (.int 0))(F:Fun K "expect" "Words.expect" jW f fd):FnOk P w K mg base (CXF P w) 3 f fd ["self","word"] (mT K a):=by
 exists 138,vI
 ·obtain ⟨wp,dw,wl,ts,i,wd,rfl,_⟩:=h
  rfl
 obtain ⟨wp,dw,wl,ts,i,wd,rfl,W,q⟩:=h
 refine ⟨_,(aY (aG (bC (cC (bI (nK (pv 0) lP dP ↑162 (nomatch 190,1) (hst:=aD _ _ _ rfl) (hpl:=aF rfl)))) ↑236 aO))),?_⟩
 nofun
 exists 60,e
 ·refine ⟨_,_,_,W.w,rfl,_,⟨rfl,rfl⟩,wp,dw,wl,ts,i,wd,rfl,W,.inl ⟨e,?_⟩⟩
  exists 73
  exact q
 ·refine ⟨_,_,_,W.w,rfl,_,⟨rfl,rfl⟩,wp,dw,wl,ts,i,wd,rfl,W,.inr ⟨e,?_⟩⟩
  exists 147
  exact fun y hy=>q y _ (aE hy _)
theorem BJ2 {ts:List Str}{i n:Nat}(h:i+n<=ts.length):BK7 (ts.map V.str) (some (i:Int)) (some ((i:Int)+(n:Int)))=((ts.drop i).take n).map V.str:=by
 have e:((i:Int)+(n:Int))=((i+n:Nat):Int):=by omega
 rw [e]
 unfold BK7
 rw [HT.sIx_nat,HT.sIx_nat,List.length_map,Nat.min_eq_left (by omega),Nat.min_eq_left (by omega),Nat.add_sub_cancel_left,<- List.map_drop,<- List.map_take]
theorem qO (B:Bt K mg a)(bH:CalI P w K mg base "NoText" a.NoText "line" 1 (.int 0))(F:Fun K "take_some" "Words.take_some" fU f fd):FnOk P w K mg base (CXF P w) 3 f fd ["self","count"] (jR K a):=by
 exists 138,sc_Words_take_some
 ·obtain ⟨wp,dw,wl,ts,i,n,rfl,_⟩:=h
  rfl
 obtain ⟨wp,dw,wl,ts,i,n,rfl,W,hi,h9,q⟩:=h
 refine ⟨_,(aY (aC (bC (L2.PW.pt (gO (aU AG1 (pv 1) aM (aV _)) (eU (aU yE (pv 1) (bO xD ↑284 ↑180) (aV _))))) ↑236 aO) (aC (aZ (i:=2) sc_Words_take_some.nd rfl (Or.inl rfl) (aS (jJ AV0 ↑180 (kQ ↑180) (kQ (bO jI ↑180 (pv 1))))) (by kernel_rfl)) (aC (bQ (uN (pv 0) (pv 1) AU2)) (nomatch 235,2))))),?_⟩
 nofun
 by_cases n0:n < 0
 ·rw [if_pos n0]
  exists 114
 rw [if_neg n0]
 exists 71
 exists 43
 exists List.length_map
 by_cases n1:n<=((ts.length - i:Nat):Int)
 rotate_left
 ·rw [if_pos (by omega)]
  exists 114
 exists 98,if_neg
 obtain ⟨n,rfl⟩:∃ k:Nat,n=k:=⟨n.toNat,by omega⟩
 have q:=q.elim And.right fun z=>absurd ⟨by omega,n1⟩ z.1
 rw [show ((n:Nat):Int).toNat=n from by omega] at q
 refine ⟨_,_,_,W.w,B.ck_Words.cl,B.na_Words_words,.ref wl,rfl,?_⟩
 exists 43
 exists 43
 refine ⟨wl,_,rfl,SqL.of W.l,fun l hl=>?_⟩
 exists 98,BJ2
 have S1:=aE hl (.lst (((ts.drop i).take n).map V.str))
 have W1:=W.same S1
 exists 69,nlw,l,wp,W.w,hl
 refine ⟨_,_,_,W1.w,B.ck_Words.cl,B.na_Words_at,.int i,rfl,_,_,W1.w,(show 2 < 1000 by decide),?_⟩
 exact q l _ (fun b o nb e=>by rw [aJ nb]; exact S1 b o e) hl (by rw [aJ nlw]; exact aA) (W1.take (i+n))
theorem eF {ts:List Str}{i k:Nat}:(ts.drop i).getD k ""=ts.getD (i+k) "":=by simp [List.getD_eq_getElem?_getD]
theorem CA5 {ts:List Str}{i:Nat}:BE1 (ts.drop i)=(
  if ts.getD i ""="now" then some (0,0,ts.drop (i+1))
  else if ts.getD i ""="hour" then (if AQ8 0 59 (nomatch 213,i)=true then some (1,dO (nomatch 213,i),ts.drop (i+2)) else none)
  else if ts.getD i ""="day" then (if AQ8 0 1439 (nomatch 213,i)=true then some (2,dO (nomatch 213,i),ts.drop (i+2)) else none)
  else if ts.getD i ""="never" then some (3,0,ts.drop (i+1)) else none):=by
 unfold BE1
 rw [eF,eF,List.drop_drop,List.drop_drop,Nat.add_zero]
theorem AE5 {ts:List Str}{k:Nat}(h:kY (ts.getD k "")=true):k < ts.length:=cN (ts:=ts) (k:=k) rfl (fun z=>by rw [z] at h; exact absurd h (by decide +kernel))
theorem fM {wp x:Addr}{H:Hp}{o:HO}(hw:H wp=some o)(hx:H x=none):x ∉ [wp]:=fun z=>by
 rw [List.mem_singleton.mp z,hw] at hx
 cases hx
theorem numF_iff {lo hi:Int}{u:Str}:AQ8 lo hi u=true ↔ kY u=true/\lo<=dO u/\dO u<=hi:=by
 unfold AQ8
 rw [Bool.and_eq_true,decide_eq_true_eq]
theorem AK0 (B:Bt K mg a)(dB:∀ C sp,oY K a C sp->CalM P w K mg base C "take" ["self"] 2 sp)(sF:CalC P w K mg base "Hour" a.Hour ["self","minute"] 4 (eK K a))(yB:CalC P w K mg base "Day" a.Day ["self","minute"] 5 (fK K a))(bK:∀ C sp,eC K a C sp->CalM P w K mg base C "take_number" ["self"] 3 sp)(bH:CalI P w K mg base "NoText" a.NoText "line" 1 (.int 0))(F:Fun K "way_from" "way_from" rN f fd):FnOk P w K mg base (CXF P w) 7 f fd ["words"] (vQ K a):=by
 exists 138,sc_way_from
 exists 61
 refine ⟨_,(aY (aC (nomatch 240,1,sc_way_from.nd,0,dB,dP) (nomatch 298,1,B.mk_Now,B.Now,sF,bK,yB,205,B.mk_Never,B.Never))),?_⟩
 rw [CA5] at good fail
 exists 156
 exists 51,c1,"now"
 exists 11,c2,"hour",a.Hour,59
 exists 11,c3,"day",a.Day,1439
 exists 51,c4,"never"
 exact fun y hy=>fail rfl _ _ _ (.inl (.inr rfl)) (B1.trans (Same.but (aE hy _)))
theorem CH1 {ts:List Str}{i:Nat}:raF (ts.drop i)=(
  if (kY (ts.getD i "")=true/\1<=dO (ts.getD i ""))/\(kY (nomatch 213,i)=true/\0<=dO (nomatch 213,i)) then
   (if aX ↑268 then some ((dO (ts.getD i ""),dO (nomatch 213,i),some ↑268),ts.drop (i+3)) else some ((dO (ts.getD i ""),dO (nomatch 213,i),none),ts.drop (i+2)))
  else none):=by
 unfold raF
 rw [eF,eF,eF,List.drop_drop,List.drop_drop,Nat.add_zero]
theorem wW (B:Bt K mg a)(bK:∀ C sp,eC K a C sp->CalM P w K mg base C "take_number" ["self"] 3 sp)(CD_Raised_3:CalD P w K mg base "Raised" a.Raised ["self","minutes","times","to"] 3 [] (dN K a))(dE:CalX P w K mg base "is_name" ["thing"] 1 (kJ K a))(dB:∀ C sp,oY K a C sp->CalM P w K mg base C "take" ["self"] 2 sp)(hU:∀ C sp,vT K a C sp->CalM P w K mg base C "look" ["self"] 1 sp)(F:Fun K "raised_from" "raised_from" lI f fd):FnOk P w K mg base (CXF P w) 5 f fd ["words"] (oA K a):=by
 exists 138,sc_raised_from
 exists 61
 refine ⟨_,(aY (aC (nomatch 240,1,sc_raised_from.nd,0,bK,dP) (aC (nomatch 240,2,sc_raised_from.nd,0,bK,dP) (aC (aZ (i:=3) sc_raised_from.nd rfl (Or.inl rfl) (aS (uA (bI (cR dE ↑162 rfl (nomatch 256,hU,dP) (he:=aD _ _ _ rfl) (hpl:=aF rfl))) (bT (pv 0) dB dP ↑162) pK)) (by kernel_rfl)) (aG (aT (aS (uW CD_Raised_3 dP ↑162 rfl (aH (aL (pv 1) (aL (pv 2) (aL (pv 3) aB)))) (he:=aD _ _ _ rfl) (hpl:=aF rfl))))))))),?_⟩
 rw [CH1] at good fail
 nofun
 refine ⟨_,_,_,W.w,rfl,_,⟨rfl,rfl⟩,wp,dw,wl,ts,i,rfl,W,jO hT _,?_⟩
 by_cases n1:kY (ts.getD i "")=true
 rotate_left
 ·rw [if_neg (fun z=>n1 z.1.1)] at fail
  exact .inr ⟨by simpa using n1,fun y H3 B3=>fail rfl _ _ _ (.inl (.inr rfl)) B3⟩
 refine .inl ⟨n1,fun H1 B1 W1=>?_⟩
 have k1:=AE5 n1
 nofun
 exists 59,W1.w,i,W1,n2
 rotate_left
 ·rw [if_neg (fun z=>n2 z.2.1)] at fail
  exact .inr ⟨by simpa using n2,fun y H3 B3=>fail rfl _ _ _ (.inl (.inr rfl)) (B1.trans B3)⟩
 refine .inl ⟨n2,fun H2 B2 W2=>?_⟩
 have k2:=AE5 n2
 have B12:=B1.trans B2
 nofun
 refine ⟨_,_,_,W2.w,rfl,_,⟨rfl,rfl⟩,wp,dw,wl,ts,i+2,rfl,W2,?_⟩
 refine ⟨_,rfl,AJ6 (jO hT _),fun H3 S3=>?_⟩
 have W3:=W2.same S3
 have B3:=B12.trans (Same.but S3)
 by_cases g:aX ↑268
 ·have e:jH (.str ↑268)=true:=decide_eq_true g
  rw [if_pos g] at good
  have k3:i+2 < ts.length:=cN (ts:=ts) (k:=i+2) rfl (fun z=>by rw [z] at g; exact absurd g (by decide))
  exists e
  refine ⟨_,_,_,W3.w,rfl,_,⟨rfl,rfl⟩,wp,dw,wl,ts,i+2,rfl,W3,?_⟩
  exists 32,WA_,W3.take,i,3,BX,H3
  have BA:=B3.trans BX
  ·exists 39,H3,i,3,H4
   nofun
   exists 13,M0,a.Raised
   refine ⟨x,dx,(dO (ts.getD i ""),dO (nomatch 213,i),some ↑268),rfl,aA,(fun u e=>by cases e; exact g),?_⟩
   exists 38,3
 ·have e:jH (.str ↑268)=false:=decide_eq_false g
  rw [if_neg g] at good
  exists e
  have WA_:=W3
  have BA:=B3
  ·exists 13,M0,a.Raised
   refine ⟨x,dx,(dO (ts.getD i ""),dO (nomatch 213,i),none),rfl,aA,(fun u e=>by cases e),?_⟩
   exists 38,2
theorem jC {wp:Addr}{H H':Hp}(B:But wp H H'):Same (Out [wp] H) (Out [wp] H'):=kZ fun b o n e=>⟨n,B b o (fun z=>n (List.mem_singleton.mpr z)) e⟩
theorem BU1 {ts:List Str}{j:Nat}:pY (ts.drop j)=if ts.getD j ""=":" then (match BE1 (ts.drop (j+1)) with
  | none=>none
  | some (k,m,q)=>if k=3 then some (⟨3,0,[],false,none⟩,q) else byF k m q) else none:=by
 unfold pY
 rw [eF,List.drop_drop,Nat.add_zero]
 all_goals rfl
theorem BD1 {ts:List Str}{j:Nat}:oJ (ts.drop j)=if ts.getD j ""="sure" then (true,ts.drop (j+1)) else (false,ts.drop j):=by
 unfold oJ
 rw [eF,List.drop_drop,Nat.add_zero]
theorem nP {ts:List Str}{j:Nat}:nV (ts.drop j)=if ts.getD j ""="raise" then (raF (ts.drop (j+1))).map (fun x=>(some x.1,x.2)) else some (none,ts.drop j):=by
 unfold nV
 rw [eF,List.drop_drop,Nat.add_zero]
def BV3 (ts:List Str)(k:Nat)(m:Int)(us:List Str)(j:Nat):Option (Ln × List Str):=if rsOk us then (nV (oJ (ts.drop j)).2).map (fun x=>(⟨k,m,us,(oJ (ts.drop j)).1,x.1⟩,x.2)) else none
theorem CH2 {ts:List Str}{k:Nat}{m:Int}{j:Nat}:byF k m (ts.drop j)=if ts.getD j ""="by"/\AQ8 0 ((ts.length - (j+2):Nat):Int) (nomatch 213,j)=true then BV3 ts k m (nomatch 269,j) (j+2+(dO (nomatch 213,j)).toNat) else none:=by
 unfold byF BV3
 rw [eF,eF,List.drop_drop,List.drop_drop,List.length_drop,Nat.add_zero]
 by_cases c:ts.getD j ""="by"/\AQ8 0 ((ts.length - (j+2):Nat):Int) (nomatch 213,j)=true
 ·rw [if_pos c]
  by_cases d:rsOk (nomatch 269,j)
  ·rw [if_pos ⟨c,d⟩,if_pos d]
  ·rw [if_neg (fun z=>d z.2),if_neg d]
 ·rw [if_neg c,if_neg (fun z=>c z.1)]
theorem AE6 (B:Bt K mg a)(sG:CalX P w K mg base "fit_from" ["words"] 7 (vO K a))(qQ:∀ C sp,AE2 K a C sp->CalM P w K mg base C "expect" ["self","word"] 3 sp)(sH:CalX P w K mg base "way_from" ["words"] 7 (vQ K a))(mX:∀ C sp,sX K a C sp->CalM P w K mg base C "take_some" ["self","count"] 3 sp)(lP:∀ C sp,zI K a C sp->CalM P w K mg base C "takes" ["self","word"] 2 sp)(CD_Line_5:CalD P w K mg base "Line" a.Line ["self","fit","way","roads","sure","raised"] 3 [] (cI K a))(CD_Line_3:CalD P w K mg base "Line" a.Line ["self","fit","way","roads","sure","raised"] 3 [.bl false,.non] (cI K a))(bK:∀ C sp,eC K a C sp->CalM P w K mg base C "take_number" ["self"] 3 sp)(lQ:CalX P w K mg base "raised_from" ["words"] 5 (oA K a))(F:Fun K "line_from" "line_from" oT f fd):FnOk P w K mg base (CXF P w) 8 f fd ["words"] (mW K a):=by
 exists 138,sc_line_from
 exists 61
 refine ⟨_,(aY (aC (nomatch 287,1,sc_line_from.nd,239,sG,0) (aC (bQ (nomatch 253,cD,qQ)) (aC (nomatch 287,2,sc_line_from.nd,239,sH,0) (aC (bC (nomatch 257,2,B.Never) (aG (aT (aS (uW CD_Line_3 dP ↑162 rfl (aH (aL (pv 1) (aL (pv 2) (aL (iB (aH aB)) aB)))) (he:=aD _ _ _ rfl) (hpl:=aF rfl))))) aO) (aC (bQ (nomatch 253,cD,qQ)) (aC (aZ (i:=3) sc_line_from.nd rfl (Or.inl rfl) (aS (nK (pv 0) mX dP ↑162 (nomatch 256,bK,dP) (hst:=aD _ _ _ rfl) (hpl:=aF rfl))) (by kernel_rfl)) (aC (aZ (i:=4) sc_line_from.nd rfl (Or.inl rfl) (nomatch 253,aS,lP) (by kernel_rfl)) (aC (aZ (i:=5) sc_line_from.nd rfl (Or.inl rfl) (aS (uA (nomatch 253,bI,lP) (nomatch 239,lQ,0) pK)) (by kernel_rfl)) (aG (aT (aS (uW CD_Line_5 dP ↑162 rfl (aH (aL (pv 1) ↑229)) (he:=aD _ _ _ rfl) (hpl:=aF rfl)))))))))))))),?_⟩
 nofun
 refine ⟨wp,dw,wl,ts,i,rfl,W,hT,hl,hi,fun t r e fv H1 j er ij jl B1 W1 hf=>?_,fun e cls y H1 hc B1=>fail (by unfold mK; rw [e]) cls y H1 (.inl hc) B1⟩
 have eL:mK (ts.drop i)=(pY (ts.drop j)).map fun x=>(t,x):=by unfold mK; rw [e,er]
 rw [eL,BU1] at good fail
 clear e er eL
 nofun
 by_cases c1:ts.getD j ""=":"
 rotate_left
 ·rw [if_neg c1] at fail
  exists 101,W1.w,j,W1,c1,B1.trans
 rw [if_pos c1] at good fail
 exists 133,W1.w,j,W1,c1,j1
 exists 32,W2,W1.take,j,1,BX,H1
 have B2:=B1.trans BX
 replace hf:=hf.same (jC BX)
 exists 39,H1,j,1,H2
 clear BX W1 B1 H1
 nofun
 refine ⟨wp,dw,wl,ts,j+1,rfl,W2,hT,hl,by omega,fun k m r e wv H3 q er jq ql BX W3 hw=>?_,fun e cls y H3 hc B3=>fail (by rw [e]; rfl) cls y H3 hc (B2.trans B3)⟩
 rw [e,er] at good fail
 dsimp only at good fail
 have B3:=B2.trans BX
 replace hf:=hf.same (jC BX)
 clear e er BX W2 B2 H2
 obtain ⟨yq,dy,rfl,hyq,k3⟩:=id hw
 obtain ⟨k1,k2,k4⟩:=BC9 B k
 nofun
 refine ⟨_,_,_,_,rfl,k1.ty (iQ _ _ hyq),k4,?_⟩
 by_cases kk:k=3
 ·exists 98,decide_eq_true
  rw [if_pos kk] at good fail
  nofun
  subst kk
  exists 84,l,hll
  have S4:=aE hll (.lst [])
  have W4:=W3.same S4
  have e4:upd H3 l (.lst []) l=some (.lst ([].map V.str)):=aA
  have B4:=B3.trans (Same.but S4)
  exists 94,jM,S4
  generalize upd H3 l (.lst [])=H4 at *
  exists 13,M0,a.Line
  refine ⟨x,dx,l,fv,.ref yq,.non,t,3,m,[],false,none,rfl,aA,(hf.same iQ).same M0,(hw.same iQ).same M0,M0 _ _ e4,by decide,(fun u h=>by cases h),rfl,.inl ⟨⟨⟨(fun u h=>by cases h),List.nodup_nil⟩,.inl ⟨rfl,rfl,rfl,rfl⟩⟩,fun l' H' Bx hl' e1 e2=>⟨rfl,?_⟩⟩⟩
  have SS:=cM hx hd Bx
  have SO:=jM (M:=[wp]) SS
  exact good t ⟨3,0,[],false,none⟩ _ rfl (.ref x) H' q rfl (by omega) (by omega) (B4.trans (Same.but SS)) (W4.same SS) ⟨x,dx,fv,.ref yq,l',.non,rfl,dQ (fM W4.w hx) e2,hf.same SO,hw.same SO,dQ (fM W4.w (M0.free hl')) e1,rfl⟩
 ·exists 98,decide_eq_false
  rw [if_neg kk,CH2] at good fail
  nofun
  by_cases c2:ts.getD q ""="by"
  rotate_left
  ·rw [if_neg (fun z=>c2 z.1)] at fail
   exists 101,W3.w,q,W3,c2,B3.trans
  exists 133,W3.w,q,W3,c2,q1
  exists 32,W4,W3.take,q,1,BX,H3
  have B4:=B3.trans BX
  exists 94,jC,BX
  exists 39,H3,q,1,H4
  clear BX
  nofun
  refine ⟨_,_,_,W4.w,rfl,_,⟨rfl,rfl⟩,_,_,_,W4.w,rfl,_,⟨rfl,rfl⟩,wp,dw,wl,ts,q+1,rfl,W4,jO hT _,?_⟩
  by_cases n1:kY (nomatch 213,q)=true
  rotate_left
  ·rw [if_neg (fun z=>n1 (numF_iff.mp z.2).1)] at fail
   exact .inr ⟨by simpa using n1,fun y H5 B5=>fail rfl _ _ _ (.inl (.inr rfl)) (B4.trans B5)⟩
  refine .inl ⟨n1,fun H5 BX W5=>?_⟩
  have q2:=AE5 n1
  have B5:=B4.trans BX
  exists 94,jC,BX
  clear BX
  refine ⟨wp,dw,wl,ts,q+2,dO (nomatch 213,q),rfl,W5,by omega,hl,?_⟩
  by_cases n2:0<=dO (nomatch 213,q)/\dO (nomatch 213,q)<=((ts.length - (q+2):Nat):Int)
  rotate_left
  ·rw [if_neg (fun z=>n2 (numF_iff.mp z.2).2)] at fail
   exact .inr ⟨n2,fun y H6 S6=>fail rfl _ _ _ (.inl (.inr rfl)) (B5.trans (Same.but S6))⟩
  rw [if_pos ⟨c2,numF_iff.mpr ⟨n1,n2⟩⟩] at good fail
  refine .inl ⟨n2,fun l H6 BX hl0 hll W6=>?_⟩
  have B6:=B5.trans BX
  exists 94,jC,BX
  have nlw:l ∉ [wp]:=fM W5.w hl0
  clear BX hl0 B5 W5 B4 W4 B3 W3
  have q6:q+2+(dO (nomatch 213,q)).toNat<=ts.length:=by omega
  have qz:q+2<=q+2+(dO (nomatch 213,q)).toNat:=Nat.le_add_right _ _
  have tk:∀ u∈(ts.drop (q+2)).take (dO (nomatch 213,q)).toNat,mI u:=fun u hu=>hT u (List.mem_of_mem_drop (List.mem_of_mem_take hu))
  have lu:(nomatch 269,q).length<=1000:=by rw [List.length_take,List.length_drop]; omega
  generalize (ts.drop (q+2)).take (dO (nomatch 213,q)).toNat=us at *
  generalize q+2+(dO (nomatch 213,q)).toNat=z at *
  nofun
  have fin:∀ (su:Bool) (z7:Nat) (rv:V) (ra:Option ↑198) (H8:Hp) (z8:Nat),oJ (ts.drop z)=(su,ts.drop z7)->nV (ts.drop z7)=some (ra,ts.drop z8)->z<=z8->z8<=ts.length->But wp H6 H8->WAt a.Words H8 wp dw wl ts z8->RaIs a (Out [wp] H8) rv ra->∀ x dx,H8 x=none->H8 dx=none->dx≠x->cI K a [.ref x,fv,.ref yq,.ref l,.bl su,rv] (upd (upd H8 dx (.own x)) x (.ins a.Line dx [])) (fun v H2=>v=.non/\Q (.ref x) H2) E:=by
   intro su z7 rv ra H8 z8 es er z81 z82 BX W8 hra x dx hx hd ne
   have B8:=B6.trans BX
   have hf:=hf.same (jC BX)
   have hw:=hw.same (jC BX)
   have h8:=iQ _ _ (jC BX _ _ (dQ nlw hll))
   exists 21,a.Line
   have eE:BV3 ts k m us z=if rsOk us then some (⟨k,m,us,su,ra⟩,ts.drop z8) else none:=by unfold BV3; rw [es]; dsimp only; rw [er]; rfl
   rw [eE] at good fail
   refine ⟨x,dx,l,fv,.ref yq,rv,t,k,m,us,su,ra,rfl,aA,(hf.same iQ).same M0,(hw.same iQ).same M0,M0 _ _ h8,lu,tk,(hra.same iQ).same M0,?_⟩
   by_cases g:rsOk us
   ·refine .inl ⟨⟨g.2,.inr ⟨kk,g.1⟩⟩,fun l' H' Bx hl' e1 e2=>⟨rfl,?_⟩⟩
    rw [if_pos g] at good
    have SS:=cM hx hd Bx
    have SO:=jM (M:=[wp]) SS
    exact good t ⟨k,m,us,su,ra⟩ _ rfl (.ref x) H' z8 rfl (by omega) (by omega) (B8.trans (Same.but SS)) (W8.same SS) ⟨x,dx,fv,.ref yq,l',rv,rfl,dQ (fM W8.w hx) e2,hf.same SO,hw.same SO,dQ (fM W8.w (M0.free hl')) e1,hra.same SO⟩
   ·rw [if_neg g] at fail
    refine .inr ⟨fun y=>g ⟨?_,y.1⟩,fun H' S'=>fail rfl _ _ _ (.inr (.inr rfl)) (B8.trans (Same.but (M0.trans S')))⟩
    rcases y.2 with y | y
    ·exact absurd y.1 kk
    ·exact y.2
  refine ⟨_,_,_,W6.w,rfl,_,⟨rfl,rfl⟩,wp,dw,wl,ts,z,_,rfl,W6,?_⟩
  by_cases c9:ts.getD z ""="sure"
  ·refine .inl ⟨c9,?_⟩
   have es:oJ (ts.drop z)=(true,ts.drop (z+1)):=by rw [BD1,if_pos c9]
   have z72:z+1<=ts.length:=cN c9 (by decide)
   exists 32,W7,W6.take,z,1,BY,H6
   have z71:z<=z+1:=Nat.le_succ _
   exists 39,H6,z,1,H7
   generalize z+1=z7 at *
   exists 144,z7,H7
  ·refine .inr ⟨c9,?_⟩
   have es:oJ (ts.drop z)=(false,ts.drop z):=by rw [BD1,if_neg c9]
   have z72:=q6
   have W7:=W6
   have BY:But wp H6 H6:=fun _ _ _ e=>e
   have z71:z<=z:=Nat.le_refl _
   exists 144,z,H6
theorem zN (B:Bt K mg a)(zQ:CalC P w K mg base "Words" a.Words ["self","text"] 3 (fY K a))(lS:∀ C sp,qI K a C sp->CalM P w K mg base C "expect_end" ["self"] 3 sp)(sI:CalIH P w K mg base "NoText" a.NoText "line" 1 (.int 0))(mY:CalFG 0 P w K mg base a.line_from ["words"] 8 (mW K a))(F:Fun K "read_whole" "read_whole" mS f fd):FnOk P w K mg base (zW P w 1) 9 f fd ["text","part_from"] (lM K a):=by
 exists 8,Fun.okW,sc_read_whole
 exists 99,xv
 refine ⟨_,(aY (aC (aZ (i:=2) sc_read_whole.nd rfl (Or.inl rfl) (aS (nomatch 281,zQ,BL5,0)) (by kernel_rfl)) (aC (bQ (BS8 (i:=3) (j:=1) rfl rfl mY ↑162 rfl (Or.inl rfl) (fun _=>(nomatch 190,2)) sc_read_whole.nd rfl (Or.inl rfl) rfl rfl B.BellError sI rfl ↑162 BH8 CG7)) (aC (bQ (cD (bT (pv 2) lS BL5 ↑162))) (nomatch 235,3))))),?_⟩
 nofun
 exists 13,M0,a.Words
 refine ⟨x,dx,xv,rfl,aA,?_⟩
 rcases q with ⟨u,t,L,rfl,ht,e,q⟩ | ⟨h,q⟩
 ·exists 118
  refine ⟨x,dx,wl,_,0,rfl,W1,ht.2.2,ht.2.1,Nat.zero_le _,fun t' L' r e' v H2 j er hj1 hj2 B2 W2 hv=>?_,fun e'=>?_⟩
  ·rw [List.drop_zero,e] at e'
   cases e'
   have hj:j=(Txt.split u sp1).length:=by
    have l:=congrArg List.length er
    rw [List.length_drop,List.length_nil] at l
    omega
   refine ⟨_,_,_,W2.w,rfl,_,⟨rfl,rfl⟩,x,dx,wl,_,j,rfl,W2,.inl ⟨hj,?_⟩⟩
   exact q v H2 (fun b o e=>B2 b o (aQ e hx) (S1 b o e)) (hv.same iQ)
  ·rw [List.drop_zero,e] at e'
   cases e'
 ·rcases h with ⟨u,rfl,ht,n⟩ | h
  ·exists 118
   refine ⟨x,dx,wl,_,0,rfl,W1,ht.2.2,ht.2.1,Nat.zero_le _,fun t' L' r e' v H2 j er hj1 hj2 B2 W2 hv=>?_,fun e' cls y H2 hc B2=>⟨?_,fun y2 hy2=>?_⟩⟩
   ·rw [List.drop_zero] at e'
    have hj:j≠(Txt.split u sp1).length:=fun z=>by
     rw [z,List.drop_length] at er
     rw [er] at e'
     exact n t' L' e'
    refine ⟨_,_,_,W2.w,rfl,_,⟨rfl,rfl⟩,x,dx,wl,_,j,rfl,W2,.inr ⟨hj,fun y H3 S3 e3=>?_⟩⟩
    exact q y H3 (fun b o e=>S3 b o (B2 b o (aQ e hx) (S1 b o e))) e3
   ·rcases hc with (rfl | rfl) | rfl | rfl
    ·exact B.exm_NoFit
    ·exact B.exm_NoText
    ·exact B.exm_NoClock
    ·exact B.exm_NoWish
   ·exact q y2 _ (fun b o e=>aE hy2 _ b o (B2 b o (aQ e hx) (S1 b o e))) aA
  ·exact .inr ⟨h.same M0,fun y H' S' e=>q y H' (M0.trans S') e⟩
theorem AE7 (B:Bt K mg a)(mZ:CalG 1 P w K mg base "read_whole" ["text","part_from"] 9 (lM K a))(F:Fun K "read_line" "read_line" oS f fd):FnOk P w K mg base (zW P w 1) 10 f fd ["text"] (jS K a):=by
 exists 8,Fun.okW,AD3
 exists 99,x
 refine ⟨_,(aY (aG (aT (aS (BQ6 mZ ↑261 rfl (aH (aL (pv 0) (aL (nomatch 182,B.line_from) aB))) (he:=aD _ _ _ rfl) (hpl:=aF rfl)))))),?_⟩
 nofun
 exact ⟨x,rfl,q⟩
theorem jT {s:Str}:∀ {ts:List Str},ts≠[]->(Str.join s ts).length+s.length=(ts.map (·.length)).sum+ts.length * s.length
 | [],h=>absurd rfl h
 | [a],_=>by
  show a.length+s.length=_
  simp only [List.map_cons,List.map_nil,List.sum_cons,List.sum_nil,List.length_cons,List.length_nil]
  omega
 | a::b::r,_=>by
  have i:=jT (s:=s) (ts:=b::r) (by simp)
  show (a++s++Str.join s (b::r)).length+s.length=_
  rw [Str.length_append,Str.length_append,List.map_cons,List.sum_cons,List.length_cons,Nat.succ_mul]
  omega
theorem gI {s:Str}{ts:List Str}(hn:ts≠[])(h:(Str.join s ts).length<=200000)(hs:s.length<=100):JoinOk s ts=true:=by
 refine BT1 ?_
 rw [<- jT hn]
 exact szM (by omega)
theorem tP (s:Str)(ts:List Str):Txt.join s ts=Str.join s ts:=StrLaws.glued_eq_join s ts
theorem dD {n:Int}(h0:0<=n)(h1:n < 1000000):n.natAbs.log2 < 1920:=by
 by_cases z:n.natAbs=0
 ·rw [z]; decide
 ·rw [Nat.log2_lt z]
  exact Nat.lt_of_lt_of_le (show n.natAbs < 2 ^ 20 by omega) (Nat.pow_le_pow_right (by decide) (by decide))
theorem wA {s:Str}:∀ {ts:List Str}{x:Str},x∈ts->x.length<=(Str.join s ts).length
 | [],x,h=>by cases h
 | [a],x,h=>by rw [List.mem_singleton.mp h]; exact Nat.le_refl _
 | a::b::r,x,h=>by
  show x.length<=(a++s++Str.join s (b::r)).length
  rw [Str.length_append,Str.length_append]
  rcases List.mem_cons.mp h with rfl | h
  ·omega
  ·have:=wA (s:=s) h
   omega
theorem AK1 {d n:Nat}(hn:0<=n)(B:Bt K mg a)(gF:CalX P w K mg base "show_fit" ["fit"] n (fZ K a d))(F:Fun K "show_fit" "show_fit" rK f fd):FnOk P w K mg base CX0 (n+1) f fd ["fit"] (fZ K a (d+1)):=by
 exists 5,AJ1
 obtain ⟨v,t,hd0,rfl,hf,hw,hx,q⟩:=h
 refine ⟨_,(aY (aC (nomatch 252,B.Kind) (aC (nomatch 252,B.Place) (aC (nomatch 292,B.Least) (aC (bC (nomatch 257,0,B.Not) (aG (aT (aS (bO bG aN (pc gF hr rfl ↑248 (hk:=by omega)))))) aO) (aC (nomatch 243,B.Both) (aC (nomatch 243,B.Either) (aG (aT (aS aN)))))))))),?_⟩
 cases t with
 | any =>
  exists 141
  obtain ⟨p,dx,rfl,hp⟩:=hf
  exists 146,B.ck_Any.ty,B.is_Any_Kind,B.is_Any_Place,B.is_Any_Least,false,B.is_Any_Not
  exists 14,B.ck_Any.ty,B.is_Any_Both,false,B.is_Any_Either
  exists 91
 | kind us =>
  exists 141
  obtain ⟨p,dx,ln,rfl,hp,hn⟩:=hf
  nofun
  exists 22,B.ck_Kind.ty,B.is_Kind_Kind
  exists 20,p1,h1
  exists 33,"kind",B.ck_Kind.cl,B.na_Kind_names
 | place us =>
  exists 141
  obtain ⟨p,dx,ln,rfl,hp,hn⟩:=hf
  nofun
  exists 14,B.ck_Place.ty,B.is_Place_Kind,true,B.is_Place_Place
  exists 20,p1,h1
  exists 33,"place",B.ck_Place.cl,B.na_Place_names
 | weight n =>
  exists 141
  obtain ⟨p,dx,rfl,hp⟩:=hf
  nofun
  exists 14,B.ck_Least.ty,B.is_Least_Kind,false,B.is_Least_Place
  exists 22,B.ck_Least.ty,B.is_Least_Least
  refine ⟨_,_,_,hp,B.ck_Least.cl,B.na_Least_weight,.int n,rfl,n,rfl,dD hw.1 hw.2,?_,q _ fun _ _ z=>z⟩
  have e:=Str.length_append (("weight ":Str)) (bY n)
  exists 117,e
 | not t =>
  exists 141
  obtain ⟨p,dx,y,rfl,hp,hy⟩:=hf
  exists 146,B.ck_Not.ty,B.is_Not_Kind,B.is_Not_Place,B.is_Not_Least,true,B.is_Not_Not
  rw [Tr.dp] at hd0
  rw [Str.length_append] at hx
  refine ⟨_,_,_,hp,B.ck_Not.cl,B.na_Not_fit,y,rfl,y,t,by omega,rfl,hy,hw,by omega,fun H' S'=>⟨szM (by omega),q _ S'⟩⟩
 | both ts =>
  exists 141
  obtain ⟨p,dx,ln,xs,rfl,hp,hn,hs⟩:=hf
  exists 146,B.ck_Both.ty,B.is_Both_Kind,B.is_Both_Place,B.is_Both_Least,false,B.is_Both_Not
  exists 22,B.ck_Both.ty,B.is_Both_Both
  exists 27," & ",B.ck_Both.cl,B.na_Both_fits
  exists 1," & ",trs_wf.mp,hw.2
 | either ts =>
  exists 141
  obtain ⟨p,dx,ln,xs,rfl,hp,hn,hs⟩:=hf
  exists 146,B.ck_Either.ty,B.is_Either_Kind,B.is_Either_Place,B.is_Either_Least,false,B.is_Either_Not
  exists 14,B.ck_Either.ty,B.is_Either_Both,true,B.is_Either_Either
  exists 27," | ",B.ck_Either.cl,B.na_Either_fits
  exists 1," | ",trs_wf.mp,hw.2
theorem AK2 (B:Bt K mg a)(F:Fun K "show_way" "show_way" rL f fd):FnOk P w K mg base CX0 1 f fd ["way"] (vN K a):=by
 exists 5,AJ2
 obtain ⟨v,k,m,rfl,hy,m0,m1,q⟩:=h
 refine ⟨_,(aY (aC (nomatch 292,B.Hour) (aC (nomatch 292,B.Day) (aG (aT (aS (uA (nomatch 257,0,B.Never) aN aN))))))),?_⟩
 obtain ⟨yp,d,rfl,hyp,k3⟩:=hy
 nofun
 rcases (by omega:k=0\/k=1\/k=2\/k=3) with kk | kk | kk | kk
 ·subst kk
  have hp:H yp=some (.ins a.Now d []):=hyp
  exists 14,B.ck_Now.ty,B.is_Now_Hour,false,B.is_Now_Day
  refine ⟨_,_,_,false,rfl,B.ck_Now.ty hp,B.is_Now_Never,?_⟩
  nofun
  exists 91
 ·subst kk
  have hp:H yp=some (.ins a.Hour d [("minute",.int m)]):=hyp
  exists 22,B.ck_Hour.ty,B.is_Hour_Hour
  exists 75,"hour ",B.ck_Hour.cl,B.na_Hour_minute
 ·subst kk
  have hp:H yp=some (.ins a.Day d [("minute",.int m)]):=hyp
  exists 14,B.ck_Day.ty,B.is_Day_Hour,true,B.is_Day_Day
  exists 75,"day ",B.ck_Day.cl,B.na_Day_minute
 ·subst kk
  have hp:H yp=some (.ins a.Never d []):=hyp
  exists 14,B.ck_Never.ty,B.is_Never_Hour,false,B.is_Never_Day
  exists 22,B.ck_Never.ty,B.is_Never_Never
  exists 91
theorem wX (B:Bt K mg a)(F:Fun K "show_raised" "show_raised" lH f fd):FnOk P w K mg base CX0 1 f fd ["raised"] (nZ K a):=by
 exists 5,sc_show_raised
 obtain ⟨v,x,rfl,hv,hx,q⟩:=h
 refine ⟨_,(aY (aC (aZ (i:=1) sc_show_raised.nd rfl (Or.inl rfl) (eY (aL aN (aL ↑245 (aL ↑245 aB)))) (by kernel_rfl)) (aC (bC (mE (kP ↑180)) (aG (bQ (cD (gK PySem.F.plainAttrs_list PySem.F.slot_list_append PySem.F.type_list_append dC (pv 1) ↑248)))) aO) (nomatch 249,1)))),?_⟩
 obtain ⟨m,n,o⟩:=x
 obtain ⟨p,d,rfl,hp⟩:=hv
 obtain ⟨h1,h2,h3,h4,h5⟩:=hx
 dsimp only at hp h1 h2 h3 h4 h5
 have m0:0<=m:=by omega
 have g:∀ us:List Str,us≠[]->(∀ x∈us,tokG x)->us.length<=10->(Str.join sp1 us).length<=30000:=fun us _ h l=>mJ (fun x hx=>(h x hx).2.2.1) (by omega)
 have tg:∀ x∈([("raise":Str),bY m,bY n]:List Str),tokG x:=all_cons (jN (by decide)) (all_cons (vF m0 h2) (all_cons (vF h3 h4) bX))
 nofun
 refine ⟨_,_,_,hp,B.ck_Raised.cl,B.na_Raised_minutes,.int m,rfl,m,rfl,dD m0 h2,_,_,_,hp,B.ck_Raised.cl,B.na_Raised_times,.int n,rfl,n,rfl,dD h3 h4,sz8 (by decide),fun p1 hp1=>?_⟩
 have S1:=aE hp1 ↑199
 have e1:upd H p1 ↑199 p1=some (.lst (([("raise":Str),bY m,bY n]:List Str).map V.str)):=aA
 have hp2:=S1 _ _ hp
 change ∃ x x_5 x_6,upd H p1 ↑199 p=some (HO.ins x x_5 x_6)/\_
 exists 69,np,p1,p,hp,hp1
 refine ⟨_,_,_,hp2,B.ck_Raised.cl,B.na_Raised_to,toV o,rfl,?_⟩
 cases o with
 | none =>
  rw [if_neg (fun z=>z rfl)]
  refine ⟨sp1,p1,[("raise":Str),bY m,bY n],rfl,rfl,e1,gI (by simp) (by have:=g _ (by simp) tg (by simp); omega) (by decide),?_⟩
  rw [tP]
  exact q _ S1
 | some u =>
  exists 89,z
  have gu:=h5 u rfl
  refine ⟨.inl ⟨rfl,_,SqL.of e1⟩,_,_,_,hp2,B.ck_Raised.cl,B.na_Raised_to,.str u,rfl,?_⟩
  refine ⟨p1,_,_,rfl,rfl,e1,Nat.lt_of_le_of_lt (show 3<=1000 by decide) (by decide),?_⟩
  have tg2:∀ x∈([("raise":Str),bY m,bY n,u]:List Str),tokG x:=all_cons (tg _ (by simp)) (all_cons (tg _ (by simp)) (all_cons (tg _ (by simp)) (all_cons (jN gu) bX)))
  refine ⟨sp1,p1,[("raise":Str),bY m,bY n,u],rfl,rfl,aA,gI (by simp) (by have:=g _ (by simp) tg2 (by simp); omega) (by decide),?_⟩
  rw [tP]
  exact q _ fun b o' e=>by rw [aJ (aQ e hp1)]; exact S1 b o' e
theorem qP {W B:List Str}(hW:W≠[]):∀ A:List Str,Str.join sp1 (A++(Str.join sp1 W::B))=Str.join sp1 (A++(W++B))
 | []=>by
  cases B with
  | nil=>rw [List.nil_append,List.nil_append,List.append_nil]; rfl
  | cons b B =>
   show Str.join sp1 (Str.join sp1 W::b::B)=Str.join sp1 (W++b::B)
   rw [eH hW (by simp)]
   rfl
 | x::A=>by
  show Str.join sp1 (x::(A++_))=Str.join sp1 (x::(A++_))
  rw [cS (by simp),cS (fun z=>hW (List.append_eq_nil_iff.mp (List.append_eq_nil_iff.mp z).2).1),qP hW A]
def lnA (t:Tr)(L:Ln):List Str:=[t.tx,":",Str.join sp1 (wWs L.k L.m)]
def lnB (L:Ln):List Str:=if L.k=3 then [] else ("by":Str)::bY L.rs.length::L.rs
def lnC (L:Ln):List Str:=if L.su=true then [("sure":Str)] else []
def lnD (L:Ln):List Str:=match L.ra with
 | none=>[]
 | some x=>[Str.join sp1 (wO (some x))]
theorem CA6 (k:Nat)(m:Int):wWs k m≠[]:=by unfold wWs; (repeat' split) <;> simp
theorem BD2 {t:Tr}{L:Ln}(ht:t.wf):Str.join sp1 (↑200++lnD L)=Str.join sp1 (t.ws++L.ws):=by
 have e1:↑200++lnD L=[]++(Str.join sp1 t.ws::((":":Str)::Str.join sp1 (wWs L.k L.m)::(lnB L++(lnC L++lnD L)))):=by
  unfold lnA
  rw [vB t ht]
  exists 95
 rw [e1,qP (kI t)]
 have e2:[]++(t.ws++((":":Str)::Str.join sp1 (wWs L.k L.m)::(lnB L++(lnC L++lnD L))))=(t.ws++[(":":Str)])++(Str.join sp1 (wWs L.k L.m)::(lnB L++(lnC L++lnD L))):=by simp only [List.append_assoc,List.cons_append,List.nil_append]
 rw [e2,qP (CA6 _ _)]
 have e4:∀ D:List Str,(t.ws++[(":":Str)])++(wWs L.k L.m++(lnB L++(lnC L++D)))=((t.ws++[(":":Str)])++(wWs L.k L.m++(lnB L++lnC L)))++D:=fun D=>by simp only [List.append_assoc]
 have e3:t.ws++L.ws=(t.ws++[(":":Str)])++↑217:=by
  show t.ws++((":":Str)::↑217)=_
  exists 95
 rw [e3]
 unfold lnD
 cases L.ra with
 | none=>rfl
 | some x =>
  dsimp only
  rw [e4,qP (by rw [wO]; simp),e4,List.append_nil]
theorem BD3 {L:Ln}(h:L.ok):(lnB L).length<=6:=by
 have:=h.r.2.2
 unfold lnB
 split
 ·decide
 ·simp only [List.length_cons]; omega
theorem AE8 (B:Bt K mg a)(gF:CalX P w K mg base "show_fit" ["fit"] 3 (fZ K a 3))(sJ:CalX P w K mg base "show_way" ["way"] 1 (vN K a))(lT:CalX P w K mg base "show_raised" ["raised"] 1 (nZ K a))(F:Fun K "show_line" "show_line" oR f fd):FnOk P w K mg base CX0 4 f fd ["line"] (sT K a):=by
 exists 154,sc_show_line,hw
 refine ⟨_,(aY (aC (aZ (i:=1) sc_show_line.nd rfl (Or.inl rfl) (eY (aL (pc gF hr rfl ↑248) (aL aN (aL (pc sJ hr rfl ↑248) aB)))) (by kernel_rfl)) (iM (bC (cC (bI (nomatch 169,B.Never))) (aG (bQ (cD (gK PySem.F.plainAttrs_list PySem.F.slot_list_extend PySem.F.type_list_extend AV1 (pv 1) (aH (aL (bO dZ (iB (aH (aL aN (aL (bE cE rfl B.str PyProof.Rows.boot_str (aH (aL ↑284 aB))) aB)))) ↑180) aB)))))) aO) (iM (bC (bI ↑180) (aG (nomatch 191,1)) aO) (iM (bC (mE (kP ↑180)) (aG (bQ (cD (gK PySem.F.plainAttrs_list PySem.F.slot_list_append PySem.F.type_list_append dC (pv 1) (aH (aL (pc lT hr rfl ↑248) aB)))))) aO) (nomatch 249,1)))))),?_⟩
 obtain ⟨p,d,fv,wv,l,rv,rfl,hp,hF,hW,hl,hR⟩:=hv.ex
 exists 68
 obtain ⟨m0,m1,_⟩:=ho.m
 nofun
 refine ⟨_,_,_,hp,B.ck_Line.cl,B.na_Line_fit,fv,rfl,fv,t,by omega,rfl,hF,hw,lx,fun H1 S1=>?_⟩
 refine ⟨_,_,_,S1 _ _ hp,B.ck_Line.cl,B.na_Line_way,wv,rfl,wv,L.k,L.m,rfl,hW.same S1,m0,by omega,fun H2 S2=>⟨sz8 (by decide),fun p1 hp1=>?_⟩⟩
 have S3:=aE hp1 ↑218
 have S0:=S1.trans (S2.trans S3)
 exists 113,f1,p1,S1.trans,S2,hp1
 have e1:upd H2 p1 ↑218 p1=some ↑218:=aA
 obtain ⟨yp,dy,rfl,hyp,k3⟩:=hW
 obtain ⟨c1,c2,c3⟩:=BC9 B L.k
 refine ⟨fun σ H'=>σ=[some (.ref p),some (.ref p1)]/\Same H H'/\H' p1=some (nomatch 251,208),⟨_,_,_,S0 _ _ hp,B.ck_Line.cl,B.na_Line_way,.ref yp,rfl,⟨_,_,_,_,rfl,c1.ty (S0 _ _ hyp),c3,?_⟩⟩,?_⟩
 ·by_cases kk:L.k=3
  ·exists 98,decide_eq_true
   exists 73
   have e2:upd H2 p1 ↑218 p1=some (nomatch 251,208):=by rw [show lnB L=[] from if_pos kk,List.append_nil]; exact e1
   exists 116,S0,e2
  ·exists 98,decide_eq_false
   exists 147
   have l4:=ho.r.2.2
   refine ⟨.inl ⟨rfl,_,SqL.of e1⟩,_,_,_,S0 _ _ hp,B.ck_Line.cl,B.na_Line_roads,.ref l,rfl,l,rfl,_,.inl (SqL.of (S0 _ _ hl)),?_⟩
   exists 92,hp2,S4
   refine ⟨_,_,_,S4 _ _ (S0 _ _ hp),B.ck_Line.cl,B.na_Line_roads,.ref l,rfl,?_⟩
   refine ⟨p2,l,_,_,rfl,rfl,aA,S4 _ _ (S0 _ _ hl),sz8 (by simp only [List.length_append,List.length_cons,List.length_nil,List.length_map]; omega),fun p3 hp3=>?_⟩
   have S5:=aE hp3 (.lst ↑227)
   refine ⟨p1,p3,_,_,rfl,rfl,S5 _ _ (S4 _ _ e1),aA,sz8 (by simp only [lnA,List.length_append,List.length_cons,List.length_nil,List.length_map]; omega),?_⟩
   have e2:(↑208).map V.str=(lnA t L).map V.str++↑227:=by rw [show lnB L=("by":Str)::bY L.rs.length::L.rs from if_neg kk,List.map_append]; rfl
   rw [e2]
   first | exact ⟨rfl,fun b o e=>by rw [aJ (aQ e f1)]; exact S5 _ _ (S4 _ _ (S0 _ _ e)),aA⟩ | exact ⟨fun b o e=>by rw [aJ (aQ e f1)]; exact S5 _ _ (S4 _ _ (S0 _ _ e)),aA⟩ | trace_state
 clear e1 S0 S3 S2 S1 hp1
 rintro σ' H3 ⟨rfl,T1,g1⟩
 nofun
 have lB:=BD3 ho
 refine ⟨fun σ H'=>σ=[some (.ref p),some (.ref p1)]/\Same H H'/\H' p1=some (nomatch 251,200),⟨_,_,_,T1 _ _ hp,B.ck_Line.cl,B.na_Line_sure,.bl L.su,rfl,?_⟩,?_⟩
 ·by_cases su:L.su=true
  ·first | rw [if_pos su] | (refine sZ ?_; rw [if_pos su])
   refine ⟨.inl ⟨rfl,_,SqL.of g1⟩,p1,_,_,rfl,rfl,g1,Nat.lt_of_le_of_lt (show _<=1000 by simp only [lnA,List.length_append,List.length_cons,List.length_nil,List.length_map]; omega) (by decide),?_⟩
   have e2:(↑200).map V.str=(↑208).map V.str++[.str "sure"]:=by rw [show lnC L=[("sure":Str)] from if_pos su,List.map_append]; rfl
   rw [e2]
   first | exact ⟨rfl,fun b o e=>by rw [aJ (aQ e f1)]; exact T1 _ _ e,aA⟩ | exact ⟨fun b o e=>by rw [aJ (aQ e f1)]; exact T1 _ _ e,aA⟩ | trace_state
  ·first | rw [if_neg su] | (refine sZ ?_; rw [if_neg su])
   rw [show lnC L=[] from if_neg su,List.append_nil]
   exists 116,T1,g1
 clear g1 T1 H3
 rintro σ' H3 ⟨rfl,T1,g1⟩
 nofun
 have lC:(lnC L).length<=1:=by unfold lnC; split <;> decide
 refine ⟨fun σ H'=>σ=[some (.ref p),some (.ref p1)]/\Same H H'/\H' p1=some (.lst ((↑200++lnD L).map V.str)),⟨_,_,_,T1 _ _ hp,B.ck_Line.cl,B.na_Line_raised,rv,rfl,?_⟩,?_⟩
 ·cases er:L.ra with
  | none =>
   exists 93
   rw [show lnD L=[] by unfold lnD; rw [er],List.append_nil]
   exists 116,T1,g1
  | some x =>
   rw [er] at hR
   have hR':=RaIs.same hR T1
   obtain ⟨qp,dq,rfl,hq⟩:=hR
   exists 89,z
   refine ⟨.inl ⟨rfl,_,SqL.of g1⟩,_,_,_,T1 _ _ hp,B.ck_Line.cl,B.na_Line_raised,.ref qp,rfl,.ref qp,x,rfl,hR',ho.a x er,fun H4 S4=>?_⟩
   refine ⟨p1,_,_,rfl,rfl,S4 _ _ g1,Nat.lt_of_le_of_lt (show _<=1000 by simp only [lnA,List.length_append,List.length_cons,List.length_nil,List.length_map]; omega) (by decide),?_⟩
   have e2:(↑200++lnD L).map V.str=(↑200).map V.str++[.str (Str.join sp1 (wO (some x)))]:=by rw [show lnD L=[Str.join sp1 (wO (some x))] by unfold lnD; rw [er],List.map_append]; rfl
   rw [e2]
   first | exact ⟨rfl,fun b o e=>by rw [aJ (aQ e f1)]; exact S4 _ _ (T1 _ _ e),aA⟩ | exact ⟨fun b o e=>by rw [aJ (aQ e f1)]; exact S4 _ _ (T1 _ _ e),aA⟩ | trace_state
 rintro σ' H4 ⟨rfl,T2,g2⟩
 nofun
 refine ⟨sp1,p1,_,rfl,rfl,g2,gI (by simp [lnA]) (by rw [BD2 hw]; omega) (by decide),?_⟩
 rw [tP,BD2 hw]
 exact q _ T2
theorem AE9 (B:Bt K mg a)(F:Fun K "_law_begin" "_law_begin" oU f fd):FnOk P w K mg base CX0 1 f fd ["_law_cell"] (sU K a):=by
 exists 5,AD4
 obtain ⟨c,rfl,q⟩:=h
 refine ⟨_,(aY (aG (aT (eY (aL (bO xE (bO nG (pv 0) aM) (bO xD aM (bO pN (pv 0) aM))) (aL (bO pN (pv 0) aM) (aL aM aB))))))),?_⟩
 nofun
 exact ⟨⟨by decide,by decide⟩,by decide,.inr ⟨by omega,by omega⟩,by decide,by decide,fun p hp=>q p _ _ _ hp⟩
theorem AK3 (B:Bt K mg a)(F:Fun K "_law_next" "_law_next" rO f fd):FnOk P w K mg base CX0 1 f fd ["_law_state","_law_base"] (dS K a):=by
 exists 5,sc_law_next
 obtain ⟨wl,m,rfl,⟨a,b,c,hw⟩,m0,m1,q⟩:=h
 refine ⟨_,(aY (aC (bC (aU yE (nomatch 167,cX,0) aM (aV _)) (aC (aZ (i:=2) sc_law_next.nd rfl (Or.inl rfl) (aS (bO pN (nomatch 167,cX,0) (pv 1))) (by kernel_rfl)) (aC (bQ (AA0 (bO nG (nomatch 167,cX,0) (pv 1)) (BK2 (pv 0) aM AM3))) (nomatch 235,2))) aO) (aC (bQ (AA0 (bO jI (nomatch 167,cX,0) aM) (BK2 (pv 0) aM AM3))) (aC (aZ (i:=3) sc_law_next.nd rfl (Or.inl rfl) (aS (bO pN (bO xE (bO jI (bO jI (nomatch 167,cX,0) (bO xE aM (nomatch 167,cX,0))) aM) aM) aM)) (by kernel_rfl)) (aC ↑201 (aC ↑201 (aG (aT (aS (bO pN (bO nG (pv 3) aM) (pv 1))))))))))),?_⟩
 have em:∀ x k:Int,0 < k->0<=x % k/\x % k < k:=fun x k h=>⟨Int.emod_nonneg _ (by omega),Int.emod_lt_of_pos _ h⟩
 nofun
 exists 115
 split
 ·exists 115
  refine ⟨m0,?_⟩
  exists 115
  refine ⟨⟨m0,m1⟩,?_⟩
  refine CJ5 hw (j:=0) rfl ?_
  exact q _ _ (em a m m0).1 (em a m m0).2 ⟨_,_,_,aA⟩ (But.upd _)
 ·refine ixl (SqL.of hw) (v:=.int c) rfl ?_
  nofun
  refine CJ5 hw (j:=2) rfl ?_
  refine ixl (SqL.of aA) (v:=.int b) rfl ?_
  refine ixl (SqL.of aA) (v:=.int (c+1)) rfl ?_
  nofun
  generalize hn1:(b+7919 * (c+1)+1) * 48271 % 2147483647=n1
  have b1:0<=n1/\n1 < 2147483647:=hn1 ▸ em _ _ (by decide)
  generalize hn2:n1 * (n1 / 1009+69621) % 2147483647=n2
  have b2:0<=n2/\n2 < 2147483647:=hn2 ▸ em _ _ (by decide)
  refine ⟨.inl ⟨by decide,by decide⟩,.inr ⟨by decide,by decide⟩,by decide,⟨by decide,by decide⟩,.inl ⟨by omega,by omega⟩,by decide,⟨by decide,by decide⟩,.inl ⟨by omega,by omega⟩,by decide,⟨by decide,by decide⟩,m0,?_⟩
  exact q _ _ (em _ m m0).1 (em _ m m0).2 ⟨_,_,_,aA⟩ (But.upd _)
theorem AK4 (B:Bt K mg a)(aW:CalX P w K mg base "_law_next" ["_law_state","_law_base"] 1 (dS K a))(F:Fun K "_law_name" "_law_name" rP f fd):FnOk P w K mg base CX0 2 f fd ["_law_state"] (lN K a):=by
 exists 150,sc_law_name,wl,W
 refine ⟨_,(aY (aC (nomatch 194,1,sc_law_name.nd,Or.inr,aS,aN) (aC (nomatch 280,sc_law_name.nd) (aC (bC (nomatch 211,2,aM) (aC (aZ (i:=3) sc_law_name.nd rfl (Or.inl rfl) (eY (aL aN (aL aN (aL aN (aL aN (aL aN (aL aN ↑278))))))) (by kernel_rfl)) (aG (aT (BS1 cX (oH dZ (aS (pv 3)) (eY (aL aN ↑210))) (aS ↑172) (fun _ _=>rfl))))) aO) (aC (bC (nomatch 211,2,aM) (aC (aZ (i:=4) sc_law_name.nd rfl (Or.inl rfl) (aS (jJ xQ aN oE (kQ (bO jI aM ↑172)))) (by kernel_rfl)) (aC (aZ (i:=5) sc_law_name.nd rfl (Or.inl rfl) (aS (pc aW hr rfl (aH (aL (pv 0) (aL (nomatch 183,eV,4) aB))))) (by kernel_rfl)) (aG (aT (aS (bO bG (bO bG (jJ xQ (pv 4) oE (kQ (pv 5))) (bL BK8 aN ↑172 (fun _ _=>rfl))) (jJ xQ (pv 4) (kQ (bO jI (pv 5) aM)) oE))))))) aO) (aG (aT (aS (gK PySem.F.plainAttrs_str PySem.F.slot_str_join PySem.F.type_str_join kU aN (aH (aL (eG ["_law_k","_law_letters","_law_state"] [none,some 1,some 0] rfl (by kernel_rfl) ↑277 (fun cl C s H fp=>⟨(nomatch 297,"_law_letters","_law_state"),gP,(bL BK8 (nomatch 266,1) (jV aW ↑261 (uR (by kernel_rfl)) (aH (aL (nomatch 266,2) (aL aM aB))) (he:=aD _ _ _ rfl) (hpl:=aF rfl)) (fun _ _=>rfl))⟩)) aB))))))))))),?_⟩
 nofun
 exists 41,W,r1,H1,a1,b1,W1,B1
 nofun
 by_cases h0:r1=0
 ·rw [if_pos h0]
  exists 20,p,hp
  have S1:=aE hp ↑176
  have e1:upd H1 p ↑176 p=some ↑176:=aA
  generalize upd H1 p ↑176=H2 at *
  exists 20,p2,hp2
  have S2:=aE hp2 ↑207
  have e2:upd H2 p2 ↑207 p2=some ↑207:=aA
  have e1':=S2 _ _ e1
  generalize upd H2 p2 ↑207=H3 at *
  refine ⟨p,p2,[.str "any",.str "kind",.str "place",.str "weight",.str "not",.str "by",.str "now",.str "hour",.str "day",.str "never",.str "sure",.str "raise",.str "zone"],[.str "quiet",.str "a",.str "to"],rfl,rfl,e1',e2,sz8 (by decide),fun p3 hp3=>?_⟩
  have S3:=aE hp3 ↑174
  have e3:upd H3 p3 ↑174 p3=some ↑174:=aA
  have n3:=(W1.same (S1.trans S2)).ne hp3
  generalize upd H3 p3 ↑174=H4 at *
  have SS:=S1.trans (S2.trans S3)
  refine sY (W1.same SS) (by decide) (by decide) fun r4 H5 a4 b4 W5 B5=>?_
  have e5:=B5 p3 _ n3 e3
  obtain ⟨v,hv,ev⟩:=qY (xs:=([.str "any",.str "kind",.str "place",.str "weight",.str "not",.str "by",.str "now",.str "hour",.str "day",.str "never",.str "sure",.str "raise",.str "zone"]:List V)++[.str "quiet",.str "a",.str "to"]) a4 (by simp only [List.length_append,List.length_cons,List.length_nil]; omega)
  refine ixl (SqL.of e5) ev ?_
  obtain ⟨u,rfl,g⟩:∃ u,v=.str u/\aX u:=by
   simp only [List.cons_append,List.nil_append,List.mem_cons,List.not_mem_nil,or_false] at hv
   rcases hv with rfl | rfl | rfl | rfl | rfl | rfl | rfl | rfl | rfl | rfl | rfl | rfl | rfl | rfl | rfl | rfl <;> exact ⟨_,rfl,by decide +kernel⟩
  exact q u H5 g W5 (B1.trans ((Same.but SS).trans B5))
 rw [if_neg h0]
 by_cases h1:r1=1
 ·rw [if_pos h1]
  exists 41,W1,r2,H2,a2,b2,W2,B2
  nofun
  have e8:Str.ofString "bcdefghi"=w8:=rfl
  have e3:Str.ofString "axz"=axz:=rfl
  rw [e8]
  have hw:=BR7 a2 b2
  have hl:(↑223).length<=8:=uT w8 (by decide) _ _
  refine ⟨sz8 (by decide),sz8 (by omega),?_⟩
  refine sY W2 (by rw [hw]; omega) (by rw [hw]; omega) fun r3 H3 a3 b3 W3 B3=>?_
  have b3':r3 < r2+1:=by rw [hw] at b3; omega
  nofun
  refine ⟨sz8 (by omega),?_⟩
  exists 41,W3,r4,H4,a4,b4,W4,B4
  obtain ⟨c,ec,gd⟩:=BG3 a2 b2 a3 b3' a4 b4
  refine ixs (u:=axz) (sz8 (by decide)) ec ?_
  nofun
  have l1:=uT ↑223 hl none (some r3)
  have l2:=uT ↑223 hl (some (r3+1)) none
  have l3:(⟨#[c]⟩:Str).length=1:=rfl
  refine ⟨sz8 (by rw [l3]; omega),sz8 (by omega),sz8 (by rw [Str.length_append,l3]; omega),?_⟩
  exact q _ H4 gd W4 (B1.trans (B2.trans (B3.trans B4)))
 ·rw [if_neg h1]
  exists 41,W1,r2,H2,a2,b2,W2,B2
  nofun
  refine ⟨by omega,by omega,?_⟩
  refine CompR.by (fun i acc σ H'=>(∃ ts:List Str,acc=ts.map V.str/\ts.length=i/\∀ t∈ts,∃ c,t=⟨#[c]⟩/\97<=c/\c<=122)/\(∃ v,σ=[v,some (.str letters),some (.ref wl)])/\Well3 H' wl/\But wl H2 H') (sz8 (by omega)) ⟨⟨[],rfl,rfl,fun t ht=>by cases ht⟩,⟨_,rfl⟩,W2,But.refl _ _⟩ ?_ ?_ ?_
  ·rintro i acc σ H' hi ⟨⟨ts,rfl,hl,ht⟩,⟨v,rfl⟩,W3,B3⟩
   nofun
   exists 41,W3,r3,H3,a3,b3,W4,B4
   obtain ⟨c,ec,c0,c1⟩:=AX8 a3 b3
   refine ixs (u:=letters) (sz8 (by decide)) ec ?_
   have new:∃ us:List Str,ts.map V.str++[V.str ⟨#[c]⟩]=us.map V.str/\us.length=i+1/\∀ t∈us,∃ c,t=⟨#[c]⟩/\97<=c/\c<=122:=by
    refine ⟨ts++[⟨#[c]⟩],by rw [List.map_append]; rfl,by rw [List.length_append,hl]; rfl,fun t h=>?_⟩
    rcases List.mem_append.mp h with z | z
    ·exact ht t z
    ·rw [List.mem_singleton.mp z]
     exact ⟨c,rfl,c0,c1⟩
   first | exact ⟨new,⟨_,rfl⟩,W4,B3.trans B4⟩ | exact ⟨new,W4,B3.trans B4⟩
  ·rintro i acc σ H' ⟨⟨ts,rfl,hl,_⟩,_⟩
   rw [List.length_map,hl]
   exact Nat.le_refl _
  ·rintro acc σ H' ⟨⟨ts,rfl,hl,ht⟩,⟨v,rfl⟩,W3,B3⟩ D hD
   have hn:ts.length=(1+r2).toNat:=hl
   obtain ⟨j1,j2⟩:=AX9 ht (by omega) (by omega)
   have n0:=W3.ne hD
   exists 53,S9,hD,ts.map
   refine ⟨Str.empty,D,ts,rfl,rfl,aA,j1,?_⟩
   exact q _ _ j2 (W3.same S9) (B1.trans (B2.trans (B3.trans (Same.but S9))))
theorem AK5 (B:Bt K mg a)(aW:CalX P w K mg base "_law_next" ["_law_state","_law_base"] 1 (dS K a))(dF:CalX P w K mg base "_law_name" ["_law_state"] 2 (lN K a))(F:Fun K "_law_leaf" "_law_leaf" rQ f fd):FnOk P w K mg base CX0 3 f fd ["_law_state","_law_more"] (vR K a):=by
 exists 5,sc_law_leaf
 obtain ⟨wl,m,rfl,W,m0,m5,q⟩:=h
 refine ⟨_,(aY (aC (nomatch 280,sc_law_leaf.nd) (aC (bC (nomatch 211,2,aM) (aG (aT (aS (gJ ↑204)))) aO) (aC (bC (aU AG1 (pv 2) aM (aV _)) (aG (aT (aS (gJ (aH (aL aN (aL (bL cX (iB (aH (aL ↑172 (aL (pc aW hr rfl (aH (aL (pv 0) (aL (bO BW8 aM aM) aB)))) aB)))) (bO nG ↑172 aM) (fun _ _=>rfl)) aB))))))) aO) (aC (aZ (i:=3) sc_law_leaf.nd rfl (Or.inl rfl) (eY (aL (nomatch 259,dF,0) aB)) (by kernel_rfl)) (aC (bQ (AM0 PassesOwn.never rfl (mF rfl B.range (aH (aL (pc aW hr rfl (aH (aL (pv 0) (aL (bO jI aM (pv 1)) aB)))) aB))) (bS (i:=4) sc_law_leaf.nd rfl (Or.inl rfl)) (nomatch 188,5,sc_law_leaf.nd,3))) (nomatch 254,2,3))))))),?_⟩
 nofun
 exists 41,W,kd,H1,k0,k1,W1,B1
 nofun
 by_cases c0:kd=0
 ·rw [if_pos c0]
  exists 137,p,hp
  exact q (.ref p) .any _ (by rw [Tr.At]; exact ⟨p,rfl,aA⟩) (by rw [Tr.ok]; trivial) (by rw [Tr.dp]) (by rw [Tr.cnt]; decide) (W1.same (aE hp _)) (B1.trans (Same.but (aE hp _)))
 rw [if_neg c0]
 by_cases c3:kd < 3
 ·rw [if_pos c3]
  exists 41,W1,r1,H2,a1,b1,W2,B2
  nofun
  refine ⟨⟨by decide,by decide,by decide⟩,?_⟩
  exists 41,W2,r2,H3,a2,b2,W3,B3
  have b2':r2 < 1000000:=by first | exact b2 | simpa using b2
  exists 137,p,hp
  have S4:=aE hp (.lst [.int r1,.int r2])
  have np:=W3.ne hp
  refine sY (W3.same S4) (by decide) (by decide) fun r3 H5 a3 b3 W5 B5=>?_
  have e5:=B5 p _ np aA
  nofun
  obtain ⟨v,hv,ev⟩:=qY (xs:=[.int r1,.int r2]) (i:=r3 / 2) (by omega) (by simp only [List.length_cons,List.length_nil]; omega)
  obtain ⟨nn,rfl,n0,n1⟩:∃ nn:Int,v=.int nn/\0<=nn/\nn < 1000000:=by
   exists 45,hv
   rcases hv with rfl | rfl
   ·exact ⟨r1,rfl,a1,by omega⟩
   ·exact ⟨r2,rfl,a2,b2'⟩
  refine ⟨⟨by decide,by decide⟩,ixl (SqL.of e5) ev ?_⟩
  exists 137,p6,h6
  exact q (.ref p6) (.weight nn) _ (by rw [Tr.At]; exact ⟨p6,rfl,aA⟩) (by rw [Tr.ok]; exact ⟨n0,n1⟩) (by rw [Tr.dp]) (by rw [Tr.cnt]; decide) (W5.same (aE h6 _)) (B1.trans (B2.trans (B3.trans ((Same.but S4).trans (B5.trans (Same.but (aE h6 _)))))))
 rw [if_neg c3]
 refine ⟨wl,rfl,W1,fun u0 H2 g0 W2 B2=>?_⟩
 nofun
 exists 20,pf,hf
 have nw:=W2.ne hf
 have S1:=aE hf (.lst [.str u0])
 have W3:=W2.same S1
 have e1:upd H2 pf (.lst [.str u0]) pf=some (.lst ([u0].map V.str)):=aA
 generalize upd H2 pf (.lst [.str u0])=H3 at *
 refine sY W3 (by omega) (by omega) fun r H4 a2 b2 W4 B4=>?_
 have e2:=B4 pf _ nw e1
 nofun
 refine ⟨by omega,by omega,?_⟩
 refine ForR.by (fun i σ H'=>(∃ us:List Str,us.length<=i+1/\us≠[]/\(∀ u∈us,aX u)/\us.Nodup/\H' pf=some ↑274)/\(∃ v8 v9,σ=[some (.ref wl),some (.int m),some (.int kd),some (.ref pf),v8,v9])/\Well3 H' wl/\But wl H2 H') ⟨⟨[u0],Nat.le_refl _,(by intro z; cases z),(fun u hu=>by rw [List.mem_singleton.mp hu]; exact g0),(by simp),e2⟩,⟨_,_,rfl⟩,W4,(Same.but S1).trans B4⟩ ?_ ?_
 ·exists 72,une
  ·exists 145,c
   exact ⟨⟨us,by omega,une,ug,un,ue3⟩,W3,B9.trans B3⟩
  ·exists 74
   ·exists 83
    refine ⟨⟨us++[u],by rw [List.length_append,List.length_singleton]; omega,(by simp),fun y hy=>?_,?_,by rw [aA,List.map_append]; rfl⟩,W12,fun b o nb e=>?_⟩
    exists 56
 ·rintro σ H9 ⟨⟨us,ul,une,ug,un,ue⟩,⟨v8,v9,rfl⟩,W9,B9⟩
  nofun
  exists 20,p1,h1
  have T1:=aE h1 ↑212
  have f1:upd H9 p1 ↑212 p1=some ↑212:=aA
  have ue1:=T1 _ _ ue
  generalize upd H9 p1 ↑212=G1 at *
  refine ⟨by decide,?_⟩
  rcases (by omega:kd % 2=0\/kd % 2=1) with hk | hk
  exists 149,"kind",.kind
  exists 149,"place",.place
theorem AK6 {d n:Nat}(hn:3<=n)(B:Bt K mg a)(aW:CalX P w K mg base "_law_next" ["_law_state","_law_base"] 1 (dS K a))(sK:CalX P w K mg base "_law_leaf" ["_law_state","_law_more"] 3 (vR K a))(iI:CalX P w K mg base "_law_tree" ["_law_state","_law_deep","_law_more"] n (gA K a d))(F:Fun K "_law_tree" "_law_tree" rR f fd):FnOk P w K mg base CX0 (n+1) f fd ["_law_state","_law_deep","_law_more"] (gA K a (d+1)):=by
 exists 5,sc_law_tree
 obtain ⟨wl,i,m,hi,rfl,W,i3,m0,m5,q⟩:=h
 refine ⟨_,(aY (aC (aZ (i:=3) sc_law_tree.nd rfl (Or.inl rfl) (aS (pc aW hr rfl (aH (aL (pv 0) (aL aM aB))) (hk:=by omega))) (by kernel_rfl)) (aC (bC (L2.PW.pt (gO (aU bZ (pv 1) aM (aV _)) (eU (aU AG1 (pv 3) aM (aV _))))) (aG (aT (aS (pc sK hr rfl (aH (aL (pv 0) (aL (bO xE (pv 2) (bE uI rfl B.int PyProof.Rows.boot_int (aH (aL (cU yE (pv 1) aM (aV _)) aB)))) aB))) (hk:=by omega))))) aO) (aC (bC (aU bZ (pv 3) aM (aV _)) (aG (aT (aS (gJ (aH (aL aN (aL (pc iI hr rfl (aH (aL (pv 0) (aL (bO xD (pv 1) aM) (aL (pv 2) aB)))) (hk:=by omega)) aB))))))) aO) (aC (bQ (BG1 (i:=4) ["_law_k","_law_state","_law_more","_law_deep"] [none,some 0,some 2,some 1] rfl (by kernel_rfl) sc_law_tree.nd rfl rfl (mF rfl B.range (aH (aL (bO jI aM (bE uI rfl B.int PyProof.Rows.boot_int (aH (aL (nU (cU yE (pv 1) aM (aV _)) (pL (cU yE (pv 3) aM (aV _)))) aB)))) aB))) (fun cl C s H fp=>⟨(bS (i:=0) (by decide:List.Nodup (["_law_k","_law_state","_law_more","_law_deep"]:List Str)) rfl ↑181 ↑263),gP,(jV iI ↑192 (uR (by kernel_rfl)) (aH (aL (nomatch 266,1) (aL (bO xD (nomatch 266,3) aM) (aL (nomatch 266,2) aB)))) (he:=aD _ _ _ rfl) (hpl:=aF rfl))⟩))) (nomatch 254,3,4)))))),?_⟩
 nofun
 exists 41,W,kd,H1,k0,k1,W1,B1
 nofun
 by_cases c0:(i:Int)=0
 exists 57,c0
 by_cases c3:kd < 3
 exists 57,c3
 obtain ⟨j,rfl⟩:∃ j,i=j+1:=⟨i - 1,by omega⟩
 by_cases c4:kd=3
 ·rw [if_pos c4]
  refine ⟨wl,j,m,by omega,by rw [show ((j+1:Nat):Int) - 1=(j:Int) by omega],W1,by omega,m0,m5,fun v t H' hA ho hd hc W' B'=>?_⟩
  exists 20,p,hp
  have S':=aE hp (.tup [.str "not",v])
  exact q (.ref p) (.not t) _ (by rw [Tr.At]; exact ⟨p,v,rfl,aA,hA.same S'⟩) (by rw [Tr.ok]; exact ho) (by rw [Tr.dp]; omega) (by rw [Tr.cnt,Nat.pow_succ]; omega) (W'.same S') (B1.trans (B'.trans (Same.but S')))
 rw [if_neg c4]
 by_cases c5:(2:Int) < ((j+1:Nat):Int)
 ·rw [if_pos c5]
  by_cases c6:5 < kd
  ·rw [if_pos c6]
   refine ⟨by decide,by decide,?_⟩
   exists 0,3
  ·rw [if_neg c6]
   refine ⟨by decide,by decide,?_⟩
   exists 0,2
 ·rw [if_neg c5]
  first | refine ⟨by decide,by decide,?_⟩ | (nofun; refine ⟨by decide,by decide,?_⟩)
  exists 0,2
theorem AK7 {d n:Nat}(hn:5<=n)(B:Bt K mg a)(kO:CalC P w K mg base "Either" a.Either ["self","fits"] 3 (dM K a))(sE:CalC P w K mg base "Kind" a.Kind ["self","names"] 4 (eI K a))(nQ:CalC P w K mg base "Place" a.Place ["self","names"] 4 (dW K a))(nR:CalC P w K mg base "Least" a.Least ["self","weight"] 3 (dX K a))(yA:CalC P w K mg base "Not" a.Not ["self","fit"] 2 (fH K a))(sD:CalC P w K mg base "Both" a.Both ["self","fits"] 3 (eJ K a))(gG:CalX P w K mg base "_law_made" ["_law_tree_here"] n (gB K a d))(F:Fun K "_law_made" "_law_made" rS f fd):FnOk P w K mg base CX0 (n+1) f fd ["_law_tree_here"] (gB K a (d+1)):=by
 exists 5,AJ3
 obtain ⟨v,t,hd0,rfl,hA,ho,q⟩:=h
 refine ⟨_,(aY (aC (bC (nomatch 238,aU,0) (aG (aT (aS (rA B.mk_Any rfl B.Any)))) aO) (aC (nomatch 283,sE) (aC (nomatch 283,nQ) (aC (bC (nomatch 238,aU,0) (aG (aT (aS (fP nR gM ↑192 rfl (nomatch 246,0) (he:=aD _ _ _ rfl) (hpl:=aF rfl))))) aO) (aC (bC (nomatch 238,aU,0) (aG (aT (aS (fP yA gM ↑192 rfl (aH (aL (pc gG hr rfl (nomatch 246,0) (hk:=by omega)) aB)) (he:=aD _ _ _ rfl) (hpl:=aF rfl))))) aO) (aC (bC (nomatch 238,aU,0) (nomatch 293,sD) aO) (nomatch 293,kO)))))))),?_⟩
 cases t with
 | any =>
  rw [Tr.At] at hA
  obtain ⟨p,rfl,hp⟩:=hA
  nofun
  exists 6,"any"
  intro x dx hx hd ne
  exact q (.ref x) _ (bA hx hd) (by rw [Tr.Fit]; exact ⟨x,dx,rfl,aA⟩)
 | kind us =>
  rw [Tr.At] at hA
  exists 111,l0,hl
  exists 140,2,"kind",a.Kind
 | place us =>
  rw [Tr.At] at hA
  exists 111,l0,hl
  exists 2,"place"
  exists 140,4,"place",a.Place
 | weight n =>
  rw [Tr.At] at hA
  obtain ⟨p,rfl,hp⟩:=hA
  nofun
  exists 134,2,"weight",16,2
  rw [Tr.ok] at ho
  exists 77,hp,.int,n
  nofun
  intro x dx hx hd ne
  refine ⟨x,dx,n,rfl,aA,.inl ⟨ho.1,?_⟩⟩
  nofun
  exact q (.ref x) _ (fun b o e=>by rw [aJ (aQ e hx)]; exact bA hx hd b o e) (by rw [Tr.Fit]; exact ⟨x,dx,rfl,aA⟩)
 | not t =>
  rw [Tr.At] at hA
  exists 111,y,hy
  exists 134,2,"not",16,2
  exists 4,"not"
  rw [Tr.ok] at ho
  rw [Tr.dp] at hd0
  refine ixt (SqT.of hp) (v:=y) rfl ?_
  nofun
  refine ⟨y,t,by omega,rfl,hy,ho,fun v' H' S' hf=>?_⟩
  nofun
  exists 13,M,a.Not
  refine ⟨x,dx,v',t,rfl,aA,hf.same M,?_⟩
  exists 88,H',v',M
  exact q (.ref x) _ (S'.trans SS) (by rw [Tr.Fit]; exact ⟨x,dx,v',rfl,aA,hf.same SS⟩)
 | both ts =>
  rw [Tr.At] at hA
  exists 159,106,2,"both",16,2,2
  exists 9,a.Both
 | either ts =>
  rw [Tr.At] at hA
  exists 159,106,2,"either",16,2,2
  exists 16
  exists 9,a.Either
def CA7:V->List V->Hp->VK->Prop:=fun x xs H Q=>∃ u l ts,x=.str u/\xs=[.ref l]/\H l=some (.tup (ts.map V.str))/\(ts.map (·.length)).sum+ts.length * u.length<=16777216/\Q (.str (Txt.join u ts)) H
theorem BJ3 {X:Cx}:MtR X "str.join" CA7:=by
 intro pins s σ H x xs v us Q I rx rv h
 obtain ⟨u,l,ts,rfl,rfl,hl,hz,q⟩:=h
 obtain ⟨t,rfl⟩:=rx
 cases rv with
 | cons r1 r2 =>
  cases r2
  cases r1
  obtain ⟨_,its,r,pl⟩:=I.hok l _ hl
  obtain ⟨ll,rfl,e2⟩:=yO r
  refine PyProof.Rows.join_tuple pl (ys:=ts) ?_ hz ?_
  ·rw [<- e2]
   exact PyProof.Rows.strsAre_of_values ll
  ·exact fun t' k=>xP I q
theorem wB {H:Hp}:∀ bs:List Bool,RDs H (bs.map V.bl) (bs.map PyData.bool)
 | []=>.nil
 | b::bs=>.cons (.bl b) (wB bs)
theorem wC:∀ bs:List Bool,PyData.canLayAll0 (bs.map PyData.bool)=true/\PyData.depthAll (bs.map PyData.bool)=0
 | []=>⟨by simp [PyData.canLayAll0],by simp [PyData.depthAll]⟩
 | b::bs=>by
  obtain ⟨i1,i2⟩:=wC bs
  exact ⟨by simp [PyData.canLayAll0,PyData.canLay0] at i1 ⊢; exact i1,by simp [PyData.depthAll,PyData.depth] at i2 ⊢; exact i2⟩
theorem AK8 {d n:Nat}(hn:0<=n)(B:Bt K mg a)(dG:CalX P w K mg base "_law_text" ["_law_tree_here"] n (eP K a d))(F:Fun K "_law_text" "_law_text" rT f fd):FnOk P w K mg base CX0 (n+1) f fd ["_law_tree_here"] (eP K a (d+1)):=by
 exists 5,sc_law_text
 obtain ⟨v,t,hd0,rfl,hA,ho,hx,q⟩:=h
 refine ⟨_,(aY (aC (bC (nomatch 238,aU,0) (aG (aT (aS aN))) aO) (aC (bC (nomatch 285,0) (aG (aT (aS (bO bG (bO bG (nomatch 167,bJ,0) aN) (gK PySem.F.plainAttrs_str PySem.F.slot_str_join PySem.F.type_str_join BJ3 aN (nomatch 246,0)))))) aO) (aC (bC (nomatch 238,aU,0) (aG (aT (aS (bO bG aN (nomatch 286,0))))) aO) (aC (bC (nomatch 238,aU,0) (aG (aT (aS (bO bG aN (pc dG hr rfl (nomatch 246,0) (hk:=by omega)))))) aO) (aC (aZ (i:=1) sc_law_text.nd rfl (Or.inl rfl) (BS1 cX (eY ↑210) (aS (bE uI rfl B.int PyProof.Rows.boot_int (aH (aL (nomatch 238,cU,0) aB)))) (fun _ _=>rfl)) (by kernel_rfl)) (aG (aT (aS (bO bG (bO bG aN (gK PySem.F.plainAttrs_str PySem.F.slot_str_join PySem.F.type_str_join kU (pv 1) (nomatch 241,dG))) aN)))))))))),?_⟩
 cases t with
 | any =>
  exists 160
  obtain ⟨p,rfl,hp⟩:=hA
  nofun
  exists 6,"any"
  exists 91
 | kind us =>
  exists 152,"kind",6,46
 | place us =>
  exists 152,"place",4,6
  exists 46,"place"
 | weight n =>
  exists 160
  obtain ⟨p,rfl,hp⟩:=hA
  nofun
  exists 134,2,"weight",16,2
  refine ixt (SqT.of hp) (v:=.int n) rfl ⟨n,rfl,dD ho.1 ho.2,?_,q _ fun _ _ z=>z⟩
  exists 117,Str.length_append
 | not t =>
  exists 160
  exists 111,y,hy
  exists 134,2,"not",16,2
  exists 4,"not"
  rw [Tr.dp] at hd0
  rw [Str.length_append] at hx
  exact ixt (SqT.of hp) (v:=y) rfl ⟨y,t,by omega,rfl,hy,ho,by omega,fun H' S'=>⟨szM (by omega),q _ S'⟩⟩
 | both ts =>
  exists 160
  exists 106
  exists 134,2,"both",16,2
  exists 157,"both"," & "
 | either ts =>
  exists 160
  exists 106
  exists 134,2,"either",16,2
  exists 157,"either"," | "
theorem AO9 {X:Cx}{g:Nat}{x:Str}{ps:List Str}{k:Nat}{sp:Sp}{e:Expr}{es:List Expr}{t:TA}{p pos:Pos}(C:CalG g X.prog X.w X.K X.mg X.base x ps k sp)(hr:Room k X.A)(hg:Gl X x)(ha:PA X (e::es) t)(hdb:(x == ("__debug__":Str))=false:=by decide)(he:starEach (e::es) X.env=(false,eval e X.env)::starEach es X.env:=by rfl)(hpl:(backTo pos (starEach es X.env)).any (·.1)=false:=by rfl) :
  PE X (.Call (.Name x p) (e::es) [] pos) (yF sp [] E0 t):=by
 obtain ⟨f,fd,F,b,kp,m⟩:=C.ex
 exact yG F hr hg m kp b .nil gM ha hdb he hpl
def BN1:Tr->Str
 | .any=>"any"
 | .kind _=>"kind"
 | .place _=>"place"
 | .weight _=>"weight"
 | .not _=>"not"
 | .both _=>"both"
 | .either _=>"either"
theorem Tr.At.word {H:Hp}{t:Tr}{u:V}(h:t.At H u):∃ pt rest,u=.ref pt/\H pt=some (.tup (.str (BN1 t)::rest)):=by
 cases t with
 | any=>rw [Tr.At] at h; obtain ⟨p,rfl,hp⟩:=h; exact ⟨p,_,rfl,hp⟩
 | kind us=>rw [Tr.At] at h; obtain ⟨p,_,rfl,hp,_⟩:=h; exact ⟨p,_,rfl,hp⟩
 | place us=>rw [Tr.At] at h; obtain ⟨p,_,rfl,hp,_⟩:=h; exact ⟨p,_,rfl,hp⟩
 | weight n=>rw [Tr.At] at h; obtain ⟨p,rfl,hp⟩:=h; exact ⟨p,_,rfl,hp⟩
 | not t=>rw [Tr.At] at h; obtain ⟨p,_,rfl,hp,_⟩:=h; exact ⟨p,_,rfl,hp⟩
 | both ts=>rw [Tr.At] at h; obtain ⟨p,_,_,rfl,hp,_⟩:=h; exact ⟨p,_,rfl,hp⟩
 | either ts=>rw [Tr.At] at h; obtain ⟨p,_,_,rfl,hp,_⟩:=h; exact ⟨p,_,rfl,hp⟩
abbrev ws7:List Str:=["any","kind","place","weight","not","both","either"]
def bl7 (t:Tr):List Bool:=[decide (t.tag=0),decide (t.tag=1),decide (t.tag=2),decide (t.tag=3),decide (t.tag=4),decide (t.tag=5),decide (t.tag=6)]
theorem CA8 (t:Tr):ws7.map (fun w=>decide (w=BN1 t))=bl7 t:=by cases t <;> rfl
theorem cB {x:V}{xs:List V}:atI (x::xs) 0=some x:=show atI (x::xs) ((0:Nat):Int)=some x from mG rfl
theorem AK9 {d n:Nat}(hn:0<=n)(B:Bt K mg a)(iJ:CalX P w K mg base "_law_same" ["_law_fit","_law_tree_here"] n (gC K a d))(F:Fun K "_law_same" "_law_same" rV f fd):FnOk P w K mg base CX0 (n+1) f fd ["_law_fit","_law_tree_here"] (gC K a (d+1)):=by
 exists 5,sc_law_same
 obtain ⟨v,u,t,hd0,rfl,hf,hA,ho,q⟩:=h
 refine ⟨_,(aY (aP (aC (aZ (i:=2) sc_law_same.nd rfl (Or.inl rfl) (eY (aL (nomatch 161,bV,0,B.Any) (nomatch 275,B.Kind,B.Place,B.Least))) (by kernel_rfl)) (aP (aC (aZ (i:=2) sc_law_same.nd rfl (Or.inl rfl) (oH dZ (aS (pv 2)) (eY (nomatch 275,B.Not,B.Both,B.Either))) (by kernel_rfl)) (aP (aC (aZ (i:=3) sc_law_same.nd rfl (Or.inl rfl) (eY ↑278) (by kernel_rfl)) (aP (aC (bC (aU (AN6 hr.units) (pv 2) (eG ["_law_word","_law_tree_here"] [none,some 1] rfl (by kernel_rfl) (oC (pv 3)) (fun cl C s H fp=>⟨(nomatch 294,"_law_tree_here"),gP,(cU bZ ↑184 (nomatch 262,1) (aV _))⟩)) (aV _)) (aP ↑195) aO) (aP (aC (bC (nomatch 285,1) (aP (aG (aT (aS (cU (AY7 hr.units) ↑180 (bE cF rfl B.list PyProof.Rows.boot_list (nomatch 246,1)) (aV _)))))) aO) (aP (aC (bC (nomatch 238,aU,1) (aP (aG (aT (aS (nU (nomatch 179,"int",B.int,PyProof.Rows.boot_int) (nU (nomatch 282,AL9) (pL (cU bZ ↑180 (nomatch 167,bJ,1) (aV _))))))))) aO) (aP (aC (bC (nomatch 238,aU,1) (aP (aG (aT (aS (pc iJ hr rfl (aH (aL ↑180 (aL (nomatch 167,bJ,1) aB))) (hk:=by omega)))))) aO) (aP (aC (bC (nomatch 238,aU,1) (aP ↑195) aO) (aP (aC (bC (L2.PW.pt (gO (cC (bI (nomatch 179,"list",B.list,PyProof.Rows.boot_list))) (eU (aU yD ↑284 ↑300 (aV _))))) (aP ↑195) aO) (aP (aG (aT (aS (cU (AY7 hr.units) (eG ["_law_k","_law_fit","_law_tree_here"] [none,some 0,some 1] rfl (by kernel_rfl) (mF rfl B.range (aH (aL ↑300 aB))) (fun cl C s H fp=>⟨(nomatch 297,"_law_fit","_law_tree_here"),(BQ9 (cC (bI (jV iJ ↑192 (uR (by kernel_rfl)) (aH (aL (bL (BY6 (K:=K) rfl) (BY7 (K:=K) rfl (nomatch 266,1) rfl) ↑184 (fun _ _=>rfl)) (aL (bL (AN7 (K:=K) rfl) (nomatch 262,2) ↑184 (fun _ _=>rfl)) aB))) (he:=aD _ _ _ rfl) (hpl:=aF rfl))))),↑184⟩)) (iB (aH aB)) (aV _))))))))))))))))))))))))),?_⟩
 obtain ⟨p,dx,fs,rfl,hp,_⟩:=id hf.ins
 obtain ⟨pt,rest,rfl,tp⟩:=hA.word
 have ck:ClsK K (t.cls (fc a)):=by cases t <;> first | exact B.ck_Any | exact B.ck_Kind | exact B.ck_Place | exact B.ck_Least | exact B.ck_Not | exact B.ck_Both | exact B.ck_Either
 have ki:kitOne K ↑209 (.ref a.Any)=some (decide (t.tag=0))/\kitOne K ↑209 (.ref a.Kind)=some (decide (t.tag=1))/\kitOne K ↑209 (.ref a.Place)=some (decide (t.tag=2))/\kitOne K ↑209 (.ref a.Least)=some (decide (t.tag=3))/\kitOne K ↑209 (.ref a.Not)=some (decide (t.tag=4))/\kitOne K ↑209 (.ref a.Both)=some (decide (t.tag=5))/\kitOne K ↑209 (.ref a.Either)=some (decide (t.tag=6)):=by
  cases t with
  | any=>exact ⟨B.is_Any_Any,B.is_Any_Kind,B.is_Any_Place,B.is_Any_Least,B.is_Any_Not,B.is_Any_Both,B.is_Any_Either⟩
  | kind us=>exact ⟨B.is_Kind_Any,B.is_Kind_Kind,B.is_Kind_Place,B.is_Kind_Least,B.is_Kind_Not,B.is_Kind_Both,B.is_Kind_Either⟩
  | place us=>exact ⟨B.is_Place_Any,B.is_Place_Kind,B.is_Place_Place,B.is_Place_Least,B.is_Place_Not,B.is_Place_Both,B.is_Place_Either⟩
  | weight n=>exact ⟨B.is_Least_Any,B.is_Least_Kind,B.is_Least_Place,B.is_Least_Least,B.is_Least_Not,B.is_Least_Both,B.is_Least_Either⟩
  | not t=>exact ⟨B.is_Not_Any,B.is_Not_Kind,B.is_Not_Place,B.is_Not_Least,B.is_Not_Not,B.is_Not_Both,B.is_Not_Either⟩
  | both ts=>exact ⟨B.is_Both_Any,B.is_Both_Kind,B.is_Both_Place,B.is_Both_Least,B.is_Both_Not,B.is_Both_Both,B.is_Both_Either⟩
  | either ts=>exact ⟨B.is_Either_Any,B.is_Either_Kind,B.is_Either_Place,B.is_Either_Least,B.is_Either_Not,B.is_Either_Both,B.is_Either_Either⟩
 obtain ⟨k0,k1,k2,k3,k4,k5,k6⟩:=ki
 nofun
 exists 31
 exists 109,k0
 exists 109,k1
 exists 109,k2
 exists 109,k3
 exists 20,p1,h1
 have S1:=aE h1 ↑186
 have e1:upd H p1 ↑186 p1=some ↑186:=aA
 generalize upd H p1 ↑186=H1 at *
 exists 31
 exists 81,k4
 exists 81,k5
 exists 81,k6
 exists 20,p2,h2
 have S2:=aE h2 (nomatch 185,t.tag,4,5,6)
 exists 128,S2,7
 have S3:=aE h3 (nomatch 219,bl7,t)
 have e3:upd ↑267 p3 (nomatch 219,bl7,t) p3=some (nomatch 219,bl7,t):=aA
 have S4:=S1.trans (S2.trans S3)
 clear S2
 show AR6 _ _ _ (upd ↑267 p3 (nomatch 219,bl7,t))
 generalize upd ↑267 p3 (nomatch 219,bl7,t)=H3 at *
 exists 31
 exists 148,ws7.map
 show AR6 _ _ _ (nomatch 197,H3,p4,ws7.map)
 exists 129,H3,p4,ws7.map,H4
 clear S4 S5 S3 S1 e1 e3
 exists 31
 refine ⟨⟨_,SqL.of e4⟩,?_⟩
 refine CompL.by (xs:=ws7.map V.str) (fun i acc σ H'=>acc=((ws7.take i).map (fun w=>decide (w=BN1 t))).map V.bl/\(∃ v,σ=[v,some (.ref pt)])/\H'=H4) (sz8 (by decide)) ⟨rfl,⟨_,rfl⟩,rfl⟩ (fun i acc σ H' _ h=>by rw [h.2.2]; exact SqL.of e4) ?_ ?_ ?_
 exists 23,y,hy,x,ws7,ws7.take,BN1,t,tp
 exists 63,ws7.take,ws7.map,BN1,t,bl7,CA8,t
 have hf:=hf.same SA
 have hA:=hA.same SA
 generalize upd H' D (nomatch 219,bl7,t)=H5 at *
 clear S6 e4 e5 eT ck k0 k1 k2 k3 k4 k5 k6 tp hp
 nofun
 cases t with
 | any =>
  exists 155
  exists 134,17,"any",10,24
  exists 159,10,17,"any",10,17,15
  exists 105
  exact q _ SA
 | kind us =>
  exists 58
  exists 100,ln,hn,tl,htl
  exists 15,"kind"
  exists 47,B.ck_Kind.cl,B.na_Kind_names
 | place us =>
  exists 58
  exists 100,ln,hn,tl,htl
  exists 134,17,"place",10,24
  nofun
  exists 47,B.ck_Place.cl,B.na_Place_names
 | weight n =>
  exists 159,155,17,"weight",10,24,15
  exists 105
  exists 142
  exists 70,.int,n
  nofun
  exists 142
  refine ⟨_,_,false,rfl,.int n,by kernel_rfl,?_⟩
  exists 147
  exists 142
  refine ixt (SqT.of tp) (v:=.int n) rfl ⟨rfl,?_⟩
  rw [decide_eq_true rfl]
  exact q _ SA
 | not t =>
  exists 58
  exists 100,y,hy,ty,hty
  exists 134,17,"not",10,24
  exists 10
  exists 134,17,"not",10,15
  exists 105
  rw [Tr.dp] at hd0
  refine ⟨_,_,_,hp,B.ck_Not.cl,B.na_Not_fit,y,rfl,?_⟩
  refine ixt (SqT.of tp) (v:=ty) rfl ?_
  exact ⟨y,ty,t,by omega,rfl,hy,hty,ho,fun H' S'=>q _ (SA.trans S')⟩
 | both ts =>
  exists 3,"both",B.ck_Both.cl,B.na_Both_fits
 | either ts =>
  exists 3,"either",B.ck_Either.cl,B.na_Either_fits
theorem wY (B:Bt K mg a)(eQ:CalG 1 P w K mg base "read_line" ["text"] 10 (jS K a))(F:Fun K "_law_refused" "_law_refused" lJ f fd):FnOk P w K mg base CX0 11 f fd ["_law_text_here"] (oB K a):=by
 exists 150,sc_law_refused,x,hx
 refine ⟨_,(aY (aC (nomatch 194,1,sc_law_refused.nd,Or.inl,aS,kC) (aC (bQ (BQ7 (i:=2) rfl rfl (fun _ _ z=>z) eQ ↑261 rfl (nomatch 190,0) rfl B.BellError sc_law_refused.nd rfl rfl (fun v=>(aY (aG (bC (L2.PW.pt (uH (bI (nomatch 161,AZ1,2,B.NoText)) (uH (bI (aR (AZ1 (K:=K) rfl) rfl B.isinstance PyProof.Rows.boot_isinstance (aH (aL (pv 2) (aL (fR (v:=.ty "ValueError") rfl B.ValueError uP rfl) aB))) (he:=aD _ _ _ rfl) (hpl:=aF rfl))) (qW (cC (bI (aR (BH3 (K:=K) rfl) rfl B.isinstance PyProof.Rows.boot_isinstance (aH (aL (pv 2) (aL (gJ (aH (aL (nomatch 182,B.NoClock) (aL (nomatch 182,B.NoFit) (aL (nomatch 182,B.NoRow) (aL (nomatch 182,B.NoWish) aB)))))) aB))) (he:=aD _ _ _ rfl) (hpl:=aF rfl)))))))) (aG (aZ (i:=1) sc_law_refused.nd rfl (Or.inl rfl) (aS (nU (cU bZ (AZ9 (K:=K) rfl (pv 2) rfl) aM (aV _)) (pL (AL9 (aR (iO (K:=K) (T:="bool") rfl) rfl B.isinstance PyProof.Rows.boot_isinstance (aH (aL (AZ9 (K:=K) rfl (pv 2) rfl) (aL (fR (v:=.ty "bool") rfl B.bool PyProof.Rows.boot_bool rfl) aB))) (he:=aD _ _ _ rfl) (hpl:=aF rfl)))))) (by kernel_rfl))) aO)))) (he:=aD _ _ _ rfl) (hpl:=aF rfl))) (nomatch 235,1)))),?_⟩
 nofun
 refine ⟨x,rfl,.inr ⟨hx,fun y H1 S1 e1=>?_⟩⟩
 refine ⟨B.exm_NoText,fun ex hex=>?_⟩
 have S2:=aE hex ↑276
 have eX:upd H1 ex ↑276 ex=some ↑276:=aA
 generalize upd H1 ex ↑276=H2 at *
 nofun
 refine ⟨ex,_,_,true,a.NoText,rfl,rfl,B.excK_NoText,⟨_,eX⟩,B.isT,?_⟩
 nofun
 refine ⟨ex,_,_,true,a.NoText,rfl,rfl,B.excK_NoText,⟨_,eX⟩,B.isV,?_⟩
 nofun
 exists 20,p1,h1
 have S3:=aE h1 ↑270
 refine ⟨ex,p1,[a.NoClock,a.NoFit,a.NoRow,a.NoWish],false,a.NoText,rfl,B.excK_NoText,⟨_,S3 _ _ eX⟩,aA,B.any1,?_⟩
 generalize upd H2 p1 ↑270=H3 at *
 have e4:=S3 _ _ eX
 have d4:=S3 _ _ (S2 _ _ e1)
 exists 147
 refine ⟨_,_,e4,_,d4,B.excK_NoText,B.xhd,B.xna,_,rfl,?_⟩
 refine ⟨rfl,?_⟩
 rw [if_pos rfl]
 refine ⟨_,_,e4,_,d4,B.excK_NoText,B.xhd,B.xna,_,rfl,?_⟩
 exact ⟨_,_,false,rfl,.int 0,by kernel_rfl,q _ (S1.trans (S2.trans S3))⟩
theorem AF0 (B:Bt K mg a)(dF:CalX P w K mg base "_law_name" ["_law_state"] 2 (lN K a))(aW:CalX P w K mg base "_law_next" ["_law_state","_law_base"] 1 (dS K a))(F:Fun K "_law_roads" "_law_roads" oV f fd):FnOk P w K mg base CX0 3 f fd ["_law_state"] (sV K a):=by
 exists 150,sc_law_roads,wl,W
 refine ⟨_,(aY (aC (nomatch 194,1,sc_law_roads.nd,Or.inl,eY,aB) (aC (bQ (AM0 PassesOwn.never rfl ↑277 (bS (i:=2) sc_law_roads.nd rfl (Or.inl rfl)) (nomatch 188,3,sc_law_roads.nd,1))) (aG (aT (aS (bE kR rfl B.tuple PyProof.Rows.boot_tuple (nomatch 190,1)))))))),?_⟩
 nofun
 exists 84,pf,hf
 have nw:=W.ne hf
 have S1:=aE hf (.lst [])
 have W1:=W.same S1
 have e1:upd H pf (.lst []) pf=some (.lst (([]:List Str).map V.str)):=aA
 generalize upd H pf (.lst [])=H1 at *
 exists 41,W1,r,H2,a2,b2,W2,B2
 have e2:=B2 pf _ nw e1
 nofun
 refine ⟨by omega,by omega,?_⟩
 refine ForR.by (fun i σ H'=>(∃ us:List Str,us.length<=i/\(0 < i->us≠[])/\(∀ u∈us,aX u)/\us.Nodup/\H' pf=some ↑274)/\(∃ v8 v9,σ=[some (.ref wl),some (.ref pf),v8,v9])/\Well3 H' wl/\But wl H H') ⟨⟨[],Nat.le_refl _,fun z=>absurd z (Nat.lt_irrefl _),(fun u hu=>absurd hu List.not_mem_nil),List.nodup_nil,e2⟩,⟨_,_,rfl⟩,W2,(Same.but S1).trans B2⟩ ?_ ?_
 ·exists 72,u0
  ·exists 145,c
   exact ⟨⟨us,by omega,(fun _ z=>by rw [z] at c; exact absurd c List.not_mem_nil),ug,un,ue3⟩,W3,B9.trans B3⟩
  ·exists 74
   ·exists 83
    refine ⟨⟨us++[u],by rw [List.length_append,List.length_singleton]; omega,fun _ z=>by simp at z,fun y hy=>?_,?_,by rw [aA,List.map_append]; rfl⟩,W12,fun b o nb e=>?_⟩
    exists 56
 ·rintro σ H9 ⟨⟨us,ul,u0,ug,un,ue⟩,⟨v8,v9,rfl⟩,W9,B9⟩
  nofun
  refine ⟨_,.inl ⟨SqL.of ue,fun p3 h3=>?_⟩⟩
  have S3:=aE h3 (.tup (us.map V.str))
  exact q p3 us _ aA (W9.ne h3) ug un (u0 (by omega)) (by omega) (W9.same S3) (B9.trans (Same.but S3))
theorem RdAt.tup {H H':Hp}{v:V}{x:Option ↑198}(h:RdAt H v x)(S:BV2 H H'):RdAt H' v x:=by
 cases x with
 | none=>exact h
 | some x =>
  obtain ⟨q,e,h⟩:=h
  exact ⟨q,e,S _ _ h⟩
theorem sC (B:Bt K mg a)(iI:CalX P w K mg base "_law_tree" ["_law_state","_law_deep","_law_more"] 7 (gA K a 4))(pG:CalX P w K mg base "_law_roads" ["_law_state"] 3 (sV K a))(aW:CalX P w K mg base "_law_next" ["_law_state","_law_base"] 1 (dS K a))(dF:CalX P w K mg base "_law_name" ["_law_state"] 2 (lN K a))(F:Fun K "_law_drawn_line" "_law_drawn_line" gZ f fd):FnOk P w K mg base CX0 8 f fd ["_law_state","_law_more"] (kN K a):=by
 exists 150,sc_law_drawn_line,wl,W
 refine ⟨_,(aY (aP (aC (aZ (i:=2) sc_law_drawn_line.nd rfl (Or.inl rfl) (aS (pc iI hr rfl (aH (aL (pv 0) (aL aM (aL (pv 1) aB)))))) (by kernel_rfl)) (aP (aC (aZ (i:=3) sc_law_drawn_line.nd rfl (Or.inl rfl) (eY (aL (gJ (aH (aL aN (aL aM aB)))) (aL (gJ (aH (aL aN (aL ↑172 aB)))) (aL (gJ (aH (aL aN (aL ↑172 aB)))) (aL (gJ (aH (aL aN (aL aM aB)))) aB))))) (by kernel_rfl)) (aP (aC (aZ (i:=4) sc_law_drawn_line.nd rfl (Or.inl rfl) (aS (bL cX (pv 3) ↑172 (fun _ _=>rfl))) (by kernel_rfl)) (aP (aC (bC (nomatch 238,aU,4) (aP (aG (aT (aS (gJ (aH (aL (pv 2) (aL (pv 4) (aL (gJ (aH aB)) (aL kC (aL pK aB))))))))))) aO) (aP (aC (nomatch 287,5,sc_law_drawn_line.nd,259,pG,0) (aP (aC (nomatch 194,6,sc_law_drawn_line.nd,Or.inl,aS,pK) (aP (iM (bC (aU bZ ↑172 aM (aV _)) (aP (aC (aZ (i:=7) sc_law_drawn_line.nd rfl (Or.inl rfl) (BS1 cX (eY (aL pK (aL (nomatch 259,dF,0) aB))) (aS ↑172) (fun _ _=>rfl)) (by kernel_rfl)) (aP (aG (aZ (i:=6) sc_law_drawn_line.nd rfl (Or.inl rfl) (aS (gJ (aH (aL (bO jI aM ↑172) (aL (bL cX (iB (aH (aL ↑172 (aL ↑172 aB)))) ↑172 (fun _ _=>rfl)) (aL (pv 7) aB)))))) (by kernel_rfl)))))) aO) (aP (aG (aT (aS (gJ (aH (aL (pv 2) (aL (pv 4) (aL (pv 5) (aL (cU bZ ↑172 aM (aV _)) (aL (pv 6) aB)))))))))))))))))))))))))),?_⟩
 nofun
 exists 31
 refine ⟨wl,2,2,by decide,rfl,W,by decide,by decide,by decide,fun tv t H1 hA ho hd hc W B0=>?_⟩
 exists 31
 exists 136,p1,h_p1,n_p1,S_p1,"now",e_p1,H1
 have hA:=hA.keep (kH S_p1)
 generalize upd H1 p1 (.tup [.str "now",.int 0])=H1_p1 at *
 exists 41,W,r1,H2,a_r1,b_r1,W_r1,B_r1
 have hA:=hA.but3 W B_r1
 exists 85,e_p1,B_r1,n_p1,W_r1
 exists 135,p2,h_p2,n_p2,S_p2,"hour",r1,e_p2,H2
 have hA:=hA.keep (kH S_p2)
 have e_p1:=S_p2 _ _ e_p1
 generalize upd H2 p2 (.tup [.str "hour",.int r1])=H2_p2 at *
 exists 41,W,r2,H3,a_r2,b_r2,W_r2,B_r2
 exists 87,B_r2,e_p1,n_p1
 exists 85,e_p2,B_r2,n_p2,W_r2
 exists 135,p3,h_p3,n_p3,S_p3,"day",r2,e_p3,H3
 exists 90,S_p3
 generalize upd H3 p3 (.tup [.str "day",.int r2])=H3_p3 at *
 exists 136,p4,h_p4,n_p4,S_p4,"never",e_p4,H3_p3
 exists 90,S_p4
 have e_p3:=S_p4 _ _ e_p3
 generalize upd H3_p3 p4 (.tup [.str "never",.int 0])=H3_p3_p4 at *
 exists 20,pl,h_pl
 have n_pl:=W.ne h_pl
 have S_pl:=aE h_pl ↑206
 exists 62,S_pl
 have e_pl:upd H3_p3_p4 pl ↑206 pl=some ↑206:=aA
 exists 90,S_pl
 have e_p3:=S_pl _ _ e_p3
 have e_p4:=S_pl _ _ e_p4
 generalize upd H3_p3_p4 pl ↑206=H3_p3_p4_pl at *
 exists 31
 exists 41,W,r3,H4,a_r3,b_r3,W_r3,B_r3
 exists 87,B_r3,e_p1,n_p1
 have e_p2:=B_r3 _ _ n_p2 e_p2
 have e_p3:=B_r3 _ _ n_p3 e_p3
 have e_p4:=B_r3 _ _ n_p4 e_p4
 exists 85,e_pl,B_r3,n_pl,W_r3
 have key:∃ (k:Nat) (m:Int) (y:Addr),k<=3/\atI [V.ref p1,.ref p2,.ref p3,.ref p4] r3=some (.ref y)/\H4 y=some (.tup [.str (wNm k),.int m])/\y≠wl/\(0<=m/\m<=1439/\(k=1->m<=59)/\(k=0\/k=3->m=0)):=by
  exists 97,r3
  ·exact ⟨0,0,p1,by decide,rfl,e_p1,n_p1,by decide,by decide,by omega,by omega⟩
  ·exact ⟨1,r1,p2,by decide,rfl,e_p2,n_p2,by omega,by omega,by omega,by omega⟩
  ·exact ⟨2,r2,p3,by decide,rfl,e_p3,n_p3,by omega,by omega,by omega,by omega⟩
  ·exact ⟨3,0,p4,by decide,rfl,e_p4,n_p4,by decide,by decide,by omega,by omega⟩
 obtain ⟨k,m,y,k3,ev,e_y,n_y,hm⟩:=key
 refine ixl (SqL.of e_pl) ev ?_
 have nv:wNm k=("never":Str) ↔ k=3:=by
  exists 86
 clear ev e_p1 e_p2 e_p3 e_p4 e_pl n_p1 n_p2 n_p3 n_p4 n_pl S_p1 S_p2 S_p3 S_p4 S_pl h_p1 h_p2 h_p3 h_p4 h_pl
 exists 31
 refine ixt (SqT.of e_y) (v:=.str (wNm k)) rfl ?_
 nofun
 by_cases kk:k=3
 ·rw [if_pos (nv.mpr kk)]
  walk_at "hr"
  nofun
  exists 84,p5,h5
  have S5:=aE h5 (.tup [])
  have e5:upd H4 p5 (.tup []) p5=some (.tup []):=aA
  have hA5:=hA.same S5
  have y5:=S5 _ _ e_y
  have W5:=W.same S5
  generalize upd H4 p5 (.tup [])=H5 at *
  nofun
  exists 137,p6,h6
  have S6:=aE h6 (.tup [tv,.ref y,.ref p5,.bl false,.non])
  exact q (.ref p6) t ⟨k,m,[],false,none⟩ _ ⟨p6,tv,y,p5,.non,rfl,aA,hA5.same S6,S6 _ _ y5,S6 _ _ e5,rfl⟩ ho hd (Nat.le_trans hc (by decide)) ⟨k3,hm,⟨by simp,List.nodup_nil,by simp⟩,fun z=>absurd kk z,fun _=>⟨rfl,rfl,rfl⟩,fun x z=>by cases z⟩ (W5.same S6) (B0.trans (Same.but (S5.trans S6)))
 rw [if_neg (fun z=>kk (nv.mp z))]
 exists 31
 refine ⟨wl,rfl,W,fun pr us H5 e_pr n_pr gU gD gN gL W5 B5=>?_⟩
 exists 87,B5,e_y,n_y
 have B0:=B0.trans B5
 have W:=W5
 exists 31
 exists 31
 refine ⟨fun σ H'=>(∃ rv ra v7,σ=[some (.ref wl),some (.int 2),some tv,some (.ref pl),some (.ref y),some (.ref pr),some rv,v7]/\RdAt H' rv ra/\∀ x,ra=some x->1<=x.1/\x.1 < 1000000/\0<=x.2.1/\x.2.1 < 1000000/\∀ u,x.2.2=some u->aX u)/\Well3 H' wl/\But wl H5 H',?_,?_⟩
 ·have B0:=But.refl wl H5
  exists 66,r4,H6,a_r4,b_r4,W_r4,B_r4
  by_cases c1:r4=1
  ·rw [if_pos c1]
   exists 31
   refine ⟨wl,rfl,W,fun u H7 gu W7 B7=>?_⟩
   have B0:=B0.trans B7
   have W:=W7
   nofun
   exists 137,pt,h_pt
   have n_pt:=W.ne h_pt
   have S_pt:=aE h_pt (.lst [.non,.str u])
   exists 62,S_pt
   have e_pt:upd H7 pt (.lst [.non,.str u]) pt=some (.lst [.non,.str u]):=aA
   generalize upd H7 pt (.lst [.non,.str u])=H8 at *
   refine sY W (by decide) (by decide) fun r5 H9 a_r5 b_r5 W_r5 B_r5=>?_
   exists 85,e_pt,B_r5,n_pt,W_r5
   obtain ⟨vt,hvt,evt⟩:=qY (xs:=[.non,.str u]) a_r5 (by simpa using b_r5)
   have hto:∃ o:Option Str,vt=toV o/\∀ u',o=some u'->aX u':=by
    exists 45,hvt
    rcases hvt with rfl | rfl
    ·exact ⟨none,rfl,fun _ z=>by cases z⟩
    ·exact ⟨some u,rfl,fun _ z=>by cases z; exact gu⟩
   obtain ⟨o,rfl,ho2⟩:=hto
   refine ixl (SqL.of e_pt) evt ?_
   clear hvt evt e_pt n_pt S_pt h_pt
   nofun
   exists 31
   exists 66,r6,H10,a_r6,b_r6,W_r6,B_r6
   exists 66,r7,H11,a_r7,b_r7,W_r7,B_r7
   exists 66,r8,H12,a_r8,b_r8,W_r8,B_r8
   exists 137,pn,h_pn
   have n_pn:=W.ne h_pn
   have S_pn:=aE h_pn ↑221
   exists 62,S_pn
   have e_pn:upd H12 pn ↑221 pn=some ↑221:=aA
   generalize upd H12 pn ↑221=H13 at *
   refine sY W (by decide) (by decide) fun r9 H14 a_r9 b_r9 W_r9 B_r9=>?_
   exists 85,e_pn,B_r9,n_pn,W_r9
   obtain ⟨vn,hvn,evn⟩:=qY (xs:=[.int r7,.int r8]) a_r9 (by simpa using b_r9)
   obtain ⟨nn,rfl,nn0,nn1⟩:∃ nn:Int,vn=.int nn/\0<=nn/\nn < 1000000:=by
    exists 45,hvn
    rcases hvn with rfl | rfl
    ·exact ⟨r7,rfl,a_r7,by omega⟩
    ·exact ⟨r8,rfl,a_r8,by omega⟩
   refine ixl (SqL.of e_pn) evn ?_
   nofun
   exists 137,px,h_px
   have S_px:=aE h_px (.tup [.int (1+r6),.int nn,toV o])
   have fin:RdAt (upd H14 px (.tup [.int (1+r6),.int nn,toV o])) (.ref px) (some (1+r6,nn,o))/\∀ x,some (1+r6,nn,o)=some x->1<=x.1/\x.1 < 1000000/\0<=x.2.1/\x.2.1 < 1000000/\∀ u,x.2.2=some u->aX u:=⟨⟨px,rfl,aA⟩,fun x z=>by cases z; exact ⟨by omega,by omega,nn0,nn1,ho2⟩⟩
   exact ⟨⟨some (1+r6,nn,o),fin⟩,W.same S_px,B0.trans (Same.but S_px)⟩
  ·rw [if_neg c1]
   have fin:RdAt H6 .non none/\∀ x,(none:Option ↑198)=some x->1<=x.1/\x.1 < 1000000/\0<=x.2.1/\x.2.1 < 1000000/\∀ u,x.2.2=some u->aX u:=⟨rfl,fun x z=>by cases z⟩
   exact ⟨⟨none,fin⟩,W,B0⟩
 rintro σ' H6 ⟨⟨rv,ra,v7,rfl,hR,hra⟩,W6,B6⟩
 exists 87,B6,e_y,n_y
 have e_pr:=B6 _ _ n_pr e_pr
 have B0:=B0.trans B6
 have W:=W6
 exists 105
 exists 41,W,r9,H7,a_r9,b_r9,W7,B7
 exists 87,B7,e_y,n_y
 have e_pr:=B7 _ _ n_pr e_pr
 have hR:=RdAt.tup hR (yS W B7)
 have B0:=B0.trans B7
 nofun
 exists 20,p9,h9
 have S9:=aE h9 (.tup [tv,.ref y,.ref pr,.bl (decide (r9=1)),rv])
 exact q (.ref p9) t ⟨k,m,us,decide (r9=1),ra⟩ _ ⟨p9,tv,y,pr,rv,rfl,aA,hA.same S9,S9 _ _ e_y,S9 _ _ e_pr,hR.same S9⟩ ho hd (Nat.le_trans hc (by decide)) ⟨k3,hm,⟨gU,gD,gL⟩,fun _=>gN,fun z=>absurd z kk,hra⟩ (W7.same S9) (B0.trans (Same.but S9))
def ltA (t:Tr)(k:Nat)(m:Int):List Str:=[t.tx,":"]++wWs k m
def lrA:Option ↑198->List Str
 | none=>[]
 | some x=>["raise",bY x.1,bY x.2.1]
def lrB:Option ↑198->List Str
 | none=>[]
 | some x=>BA8 x.2.2
theorem CH3 (o:Option ↑198):wO o=lrA o++lrB o:=by cases o <;> rfl
theorem BU2 {t:Tr}{L:Ln}(ht:t.wf):Str.join sp1 ((↑193++lrA L.ra)++lrB L.ra)=Str.join sp1 (t.ws++L.ws):=by
 have e1:(↑193++lrA L.ra)++lrB L.ra=[]++(Str.join sp1 t.ws::L.ws):=by
  show _=[]++(_::((":":Str)::↑217))
  rw [CH3,<- vB t ht]
  unfold ltA
  exists 95
 rw [e1,qP (kI t)]
 rfl
def LtI (H:Hp)(p:Addr)(tv:V)(y r:Addr)(su:Bool)(rv:V)(ws:List Str)(σ:L2.St)(H':Hp):Prop:=∃ pw,σ=[some (.ref p),some tv,some (.ref y),some (.ref r),some (.bl su),some rv,some (.ref pw)]/\Same H H'/\H' pw=some (.lst (ws.map V.str))/\H pw=none
theorem BN2 {k:Nat}(h:k<=3):(wNm k=("hour":Str) ↔ k=1)/\(wNm k=("day":Str) ↔ k=2)/\(wNm k=("never":Str) ↔ k=3):=by
 exists 86
theorem LtI.put {H H' H2:Hp}{p y r pw:Addr}{tv rv:V}{su:Bool}{ws:List Str}{u:Str}(S:Same H H')(f:H pw=none)(e:H2=upd H' pw (.lst (ws.map V.str++[.str u]))):LtI H p tv y r su rv (ws++[u]) [some (.ref p),some tv,some (.ref y),some (.ref r),some (.bl su),some rv,some (.ref pw)] H2:=by
 subst e
 exact ⟨pw,rfl,fun b o e=>by rw [aJ (aQ e f)]; exact S _ _ e,by rw [aA,List.map_append]; rfl,f⟩
theorem tQ (B:Bt K mg a)(dG:CalX P w K mg base "_law_text" ["_law_tree_here"] 3 (eP K a 3))(F:Fun K "_law_line_text" "_law_line_text" iW f fd):FnOk P w K mg base CX0 4 f fd ["_law_line"] (lU K a):=by
 exists 154,sc_law_line_text,ht
 refine ⟨_,(aY (aP (aC (nomatch 175,0,1,sc_law_line_text.nd,2,Or.inl,3,4,5) (aP (aC (aZ (i:=6) sc_law_line_text.nd rfl (Or.inl rfl) (eY (aL (nomatch 259,dG,1) (aL aN (aL (nomatch 167,bJ,2) aB)))) (by kernel_rfl)) (aP (iM (bC (nomatch 285,2) (aP (aG (bQ (cD (gK PySem.F.plainAttrs_list PySem.F.slot_list_append PySem.F.type_list_append dC (pv 6) (aH (aL (nomatch 286,2) aB))))))) aO) (aP (iM (bC (aU yD (nomatch 167,bJ,2) aN (aV _)) (aP (aG (aZ (i:=6) sc_law_line_text.nd rfl (Or.inl rfl) (oH dZ (oH dZ (aS (pv 6)) (eY (aL aN (aL (bE cE rfl B.str PyProof.Rows.boot_str (aH (aL (nomatch 183,bR,3) aB))) aB)))) (aS (nomatch 255,3))) (by kernel_rfl)))) aO) (aP (iM (bC (bI (pv 4)) (aP (aG (nomatch 191,6))) aO) (aP (iM (bC (mE (kP (pv 5))) (aP (aG (aZ (i:=6) sc_law_line_text.nd rfl (Or.inl rfl) (oH dZ (aS (pv 6)) (eY (aL aN (aL (nomatch 286,5) (aL (nomatch 286,5) aB))))) (by kernel_rfl)))) aO) (aP (iM (bC (L2.PW.pt (uH (mE (kP (pv 5))) (qW (mE (kP (nomatch 167,bJ,5)))))) (aP (aG (bQ (cD (gK PySem.F.plainAttrs_list PySem.F.slot_list_append PySem.F.type_list_append dC (pv 6) (nomatch 246,5)))))) aO) (aP (nomatch 249,6))))))))))))))))),?_⟩
 have hw:=ht.wf
 exists 68
 have ej:=BU2 (L:=L) hw
 have lB:=BD3 ho
 have lC:(lnC L).length<=1:=by unfold lnC; split <;> decide
 have nhd:=BN2 ho.k
 have lA:(ltA t L.k L.m).length<=4:=by unfold ltA wWs; (repeat' split) <;> simp
 have k3:=ho.k
 obtain ⟨m0,m1,_⟩:=ho.m
 exists 143
 refine ⟨tv,t,by omega,rfl,hA,ht,lx,fun H1 S1=>?_⟩
 exists 54,S1
 exists 20,pw,h1
 have S2:=aE h1 ↑215
 have SA:=S1.trans S2
 have f1:=S1.free h1
 have e1:upd H1 pw ↑215 pw=some ↑230:=aA
 generalize upd H1 pw ↑215=H2 at *
 clear S1 S2 h1
 exists 31
 refine ⟨LtI H p tv y r L.su rv (ltA t L.k L.m),?_,?_⟩
 ·exists 54,SA
  nofun
  have app:∀ H9,Same H H9->H9 pw=some ↑230->L.k=1\/L.k=2->LtI H p tv y r L.su rv (ltA t L.k L.m) [some (.ref p),some tv,some (.ref y),some (.ref r),some (.bl L.su),some rv,some (.ref pw)] (upd H9 pw (.lst (([t.tx,":",wNm L.k]:List Str).map V.str++[.str (bY L.m)]))):=fun H9 S9 e9 c=>by
   have e:ltA t L.k L.m=[t.tx,":",wNm L.k]++[bY L.m]:=by
    rcases c with c | c <;> rw [c] <;> rfl
   rw [e]
   exact LtI.put S9 f1 rfl
  exists 52,c1,1,nhd.1.mpr,.inl,nhd.1.mp
  exists 54,SA
  nofun
  exists 52,c2,2,nhd.2.1.mpr,.inr,nhd.2.1.mp
  have e:ltA t L.k L.m=[t.tx,":",wNm L.k]:=by
   rcases (by omega:L.k=0\/L.k=3) with c | c <;> rw [c] <;> rfl
  rw [e]
  exists 123
 exists 79
 exists 31
 refine ⟨LtI H p tv y r L.su rv (ltA t L.k L.m++lnB L),?_,?_⟩
 ·exists 54,SA
  nofun
  by_cases c3:L.k=3
  ·first | rw [if_pos (nhd.2.2.mpr c3)] | rw [if_neg (fun z=>z (nhd.2.2.mpr c3))]
   rw [show lnB L=[] from if_pos c3,List.append_nil]
   exists 123
  first | rw [if_neg (fun z=>c3 (nhd.2.2.mp z))] | rw [if_pos (fun z=>c3 (nhd.2.2.mp z))]
  walk_at "ho"
  nofun
  refine ⟨_,.inr (SqT.of (SA _ _ hr')),?_⟩
  have l4:=ho.r.2.2
  exists 92,h2,S2
  exists 64,pw,p2,S2,e1,p3,h3
  have S3:=aE h3 (.lst ↑220)
  refine ⟨_,.inr (SqT.of (S3 _ _ (S2 _ _ (SA _ _ hr')))),fun p4 h4=>?_⟩
  exists 53,S4,h4,L.rs.map
  exists 64,p3,p4,S4,aA,p5,h5
  have S5:=SA.trans (S2.trans (S3.trans S4))
  have eB:(ltA t L.k L.m++lnB L).map V.str=↑220++L.rs.map V.str:=by
   rw [show lnB L=("by":Str)::bY L.rs.length::L.rs from if_neg c3,List.map_append,List.append_assoc]
   rfl
  refine ⟨p5,rfl,S5.trans (aE h5 _),?_,S5.free h5⟩
  rw [eB]
  exact aA
 exists 79
 exists 31
 refine ⟨LtI H p tv y r L.su rv ↑193,?_,?_⟩
 ·by_cases su:L.su=true
  ·rw [if_pos su]
   walk_at "ho"
   nofun
   refine ⟨.inl ⟨rfl,_,SqL.of e1⟩,pw,_,_,rfl,rfl,e1,Nat.lt_of_le_of_lt (show _<=1000 by simp only [List.length_append,List.length_map]; omega) (by decide),?_⟩
   rw [show lnC L=[("sure":Str)] from if_pos su]
   exact LtI.put SA f1 rfl
  ·rw [if_neg su]
   rw [show lnC L=[] from if_neg su,List.append_nil]
   exists 123
 exists 79
 exists 31
 refine ⟨LtI H p tv y r L.su rv (↑193++lrA L.ra),?_,?_⟩
 ·cases er:L.ra with
  | none =>
   exists 93
   rw [show lrA none=[] from rfl,List.append_nil]
   exists 123
  | some x =>
   rw [er] at hR
   exists 102
   obtain ⟨a1,a2,a3,a4,_⟩:=ho.a _ er
   dsimp only at hq a1 a2 a3 a4
   exists 89,z
   walk_at "ho"
   nofun
   refine ixt (SqT.of (SA _ _ hq)) (v:=.int m) rfl ⟨m,rfl,dD (by omega) a2,?_⟩
   refine ixt (SqT.of (SA _ _ hq)) (v:=.int n) rfl ⟨n,rfl,dD a3 a4,sz8 (by decide),fun p2 h2=>?_⟩
   have S2:=aE h2 ↑199
   exists 64,pw,p2,S2,e1,p3,h3
   refine ⟨p3,rfl,SA.trans (S2.trans (aE h3 _)),?_,(SA.trans S2).free h3⟩
   have eR:(↑193++lrA (some (m,n,o))).map V.str=(↑193).map V.str++[.str "raise",.str (bY m),.str (bY n)]:=by rw [List.map_append]; rfl
   rw [eR]
   exact aA
 exists 79
 exists 31
 refine ⟨LtI H p tv y r L.su rv ((↑193++lrA L.ra)++lrB L.ra),?_,?_⟩
 ·have lR:(lrA L.ra).length<=3:=by cases L.ra <;> simp [lrA]
  cases er:L.ra with
  | none =>
   rw [er] at hR e1
   have hR:rv=.non:=hR
   subst hR
   first | rw [if_neg (fun z=>z rfl)] | (refine ⟨fun z=>absurd rfl z,fun _=>?_⟩) | trace_state
   rw [show lrB none=[] from rfl,List.append_nil]
   exists 123
  | some x =>
   rw [er] at hR e1 lR
   exists 102
   dsimp only at hq
   first | rw [if_pos (by intro z; cases z)] | trace_state
   refine ixt (SqT.of (SA _ _ hq)) (v:=toV o) rfl ?_
   nofun
   cases o with
   | none =>
    rw [if_neg (fun z=>z rfl)]
    rw [show lrB (some (m,n,none))=[] from rfl,List.append_nil]
    exists 123
   | some u =>
    exists 89,z
    exists 31
    refine ⟨.inl ⟨rfl,_,SqL.of e1⟩,?_⟩
    refine ixt (SqT.of (SA _ _ hq)) (v:=.str u) rfl ?_
    refine ⟨pw,_,_,rfl,rfl,e1,Nat.lt_of_le_of_lt (show _<=1000 by simp only [List.length_append,List.length_map]; omega) (by decide),?_⟩
    exact LtI.put (u:=u) SA f1 rfl
 rintro σ' H3 ⟨pw3,rfl,SB,e3,f3⟩
 nofun
 exists 105
 refine ⟨sp1,pw3,_,rfl,rfl,e3,gI (by simp [ltA]) (by rw [ej]; omega) (by decide),?_⟩
 rw [tP,ej]
 exact q _ SB
theorem AR9 (B:Bt K mg a)(sF:CalC P w K mg base "Hour" a.Hour ["self","minute"] 4 (eK K a))(yB:CalC P w K mg base "Day" a.Day ["self","minute"] 5 (fK K a))(F:Fun K "_law_way" "_law_way" vM f fd):FnOk P w K mg base CX0 7 f fd ["_law_word","_law_minute"] (xX K a):=by
 exists 5,AR4
 obtain ⟨k,m,rfl,k3,m0,m1,m2,q⟩:=h
 refine ⟨_,(aY (aC (nomatch 258,sF) (aC (nomatch 258,yB) (aC (nomatch 205,0,B.mk_Never,B.Never) (aG (aT (aS (rA B.mk_Now rfl B.Now)))))))),?_⟩
 nofun
 exists 97,k
 ·exists 16
  exists 16
  exists 16
  exists 127
 ·rw [if_pos (by decide)]
  exists 13,M0,a.Hour
  refine ⟨x,dx,m,rfl,aA,.inl ⟨⟨m0,m2 rfl⟩,rfl,?_⟩⟩
  exists 108
 ·rw [if_neg (by decide)]
  rw [if_pos (by decide)]
  exists 13,M0,a.Day
  refine ⟨x,dx,m,rfl,aA,.inl ⟨⟨m0,m1⟩,rfl,?_⟩⟩
  exists 108
 ·rw [if_neg (by decide)]
  rw [if_neg (by decide)]
  rw [if_pos (by decide)]
  exists 127
theorem tR (B:Bt K mg a)(CD_Line_5:CalD P w K mg base "Line" a.Line ["self","fit","way","roads","sure","raised"] 3 [] (cI K a))(CD_Raised_3:CalD P w K mg base "Raised" a.Raised ["self","minutes","times","to"] 3 [] (dN K a))(gG:CalX P w K mg base "_law_made" ["_law_tree_here"] 8 (gB K a 3))(wF:CalX P w K mg base "_law_way" ["_law_word","_law_minute"] 7 (xX K a))(F:Fun K "_law_made_line" "_law_made_line" iX f fd):FnOk P w K mg base CX0 9 f fd ["_law_line"] (lV K a):=by
 exists 154,sc_law_made_line,ht
 refine ⟨_,(aY (aP (aC (nomatch 175,0,1,sc_law_made_line.nd,2,Or.inl,3,4,5) (aP (aC (nomatch 194,6,sc_law_made_line.nd,Or.inl,aS,pK) (aP (iM (bC (mE (kP (pv 5))) (aP (aG (aZ (i:=6) sc_law_made_line.nd rfl (Or.inl rfl) (aS (uW CD_Raised_3 gM ↑261 rfl (aH (aL (nomatch 167,bJ,5) (aL (nomatch 167,bJ,5) (aL (nomatch 167,bJ,5) aB)))) (he:=aD _ _ _ rfl) (hpl:=aF rfl))) (by kernel_rfl)))) aO) (aP (aG (aT (aS (uW CD_Line_5 gM ↑261 rfl (aH (aL (nomatch 259,gG,1) (aL (pc wF hr rfl (aH (aL (nomatch 167,bJ,2) (aL (nomatch 167,bJ,2) aB)))) (aL (nomatch 255,3) (aL (pv 4) (aL (pv 6) aB)))))) (he:=aD _ _ _ rfl) (hpl:=aF rfl))))))))))))),?_⟩
 exists 143
 exists 31
 refine ⟨fun σ H'=>(∃ hv,σ=[some (.ref p),some tv,some (.ref y),some (.ref r),some (.bl L.su),some rv,some hv]/\RaIs a H' hv L.ra)/\Same H H',?_,?_⟩
 ·cases er:L.ra with
  | none =>
   exists 93
   first | exact ⟨⟨.non,rfl,rfl⟩,fun _ _ z=>z⟩ | exact ⟨rfl,fun _ _ z=>z⟩ | trace_state
  | some x =>
   rw [er] at hR
   obtain ⟨a1,a2,a3,a4,a5⟩:=ho.a _ er
   exists 102
   dsimp only at hq a1 a2 a3 a4 a5
   exists 89,z
   exists 31
   exists 77,hq,.int,m
   exists 77,hq,.int,n
   refine ixt (SqT.of hq) (v:=toV o) rfl ?_
   intro x dx hx hd ne
   refine ⟨x,dx,(m,n,o),rfl,aA,a5,.inl ⟨⟨a1,a3⟩,fun H9 Bx e2=>⟨rfl,?_⟩⟩⟩
   first | exact ⟨⟨.ref x,rfl,x,dx,rfl,e2⟩,cM hx hd Bx⟩ | exact ⟨⟨x,dx,rfl,e2⟩,cM hx hd Bx⟩ | trace_state
 rintro σ' H1 ⟨⟨hv,rfl,hR1⟩,S1⟩
 nofun
 exists 105
 obtain ⟨m0,m1,m2,_⟩:=ho.m
 refine ⟨tv,t,by omega,rfl,hA.same S1,ht,fun fv H2 S2 hF=>?_⟩
 have S2':=S1.trans S2
 exists 54,S2'
 refine ixt (SqT.of (S2' _ _ hy)) (v:=.int L.m) rfl ⟨L.k,L.m,rfl,ho.k,m0,m1,m2,fun wv H3 S3 hW=>?_⟩
 have S3':=S2'.trans S3
 refine ⟨_,.inr (SqT.of (S3' _ _ hr')),fun l hl=>?_⟩
 exists 53,S4,hl,L.rs.map
 exists 82,e4,H3,l,L.rs.map
 have S4':=S3'.trans S4
 have S34:=S3.trans S4
 have S24:=S2.trans S34
 exists 129,H3,l,L.rs.map,H4
 exists 13,M0,a.Line
 have lok:(L.k=3/\L.rs=[]/\L.su=false/\L.ra=none)\/(L.k≠3/\L.rs≠[]):=by
  by_cases c:L.k=3
  ·exact .inl ⟨c,ho.v c⟩
  ·exact .inr ⟨c,ho.n c⟩
 refine ⟨x,dx,l,fv,wv,hv,t,L.k,L.m,L.rs,L.su,L.ra,rfl,aA,(hF.same S34).same M0,(hW.same S4).same M0,M0 _ _ e4,by have:=ho.r.2.2; omega,fun u hu=>(jN (ho.r.1 u hu)).2.2.2,(hR1.same S24).same M0,.inl ⟨⟨⟨ho.r.1,ho.r.2.1⟩,lok⟩,fun l' H9 Bx n9 e9 p9=>⟨rfl,?_⟩⟩⟩
 have SS:=cM hx hd Bx
 exact q (.ref x) _ (S4'.trans SS) ⟨x,dx,fv,wv,l',hv,rfl,p9,hF.same (S34.trans SS),hW.same (S4.trans SS),e9,hR1.same (S24.trans SS)⟩
theorem BU3 (B:Bt K mg a){k:Nat}(h:k<=3):kitOne K (.ref (BI8 a k)) (.ref a.Now)=some (decide (k=0))/\kitOne K (.ref (BI8 a k)) (.ref a.Hour)=some (decide (k=1))/\kitOne K (.ref (BI8 a k)) (.ref a.Day)=some (decide (k=2))/\kitOne K (.ref (BI8 a k)) (.ref a.Never)=some (decide (k=3)):=by
 exists 97,k
 ·exact ⟨B.is_Now_Now,B.is_Now_Hour,B.is_Now_Day,B.is_Now_Never⟩
 ·exact ⟨B.is_Hour_Now,B.is_Hour_Hour,B.is_Hour_Day,B.is_Hour_Never⟩
 ·exact ⟨B.is_Day_Now,B.is_Day_Hour,B.is_Day_Day,B.is_Day_Never⟩
 ·exact ⟨B.is_Never_Now,B.is_Never_Hour,B.is_Never_Day,B.is_Never_Never⟩
abbrev ws4:List Str:=["now","hour","day","never"]
def bl4 (k:Nat):List Bool:=[decide (k=0),decide (k=1),decide (k=2),decide (k=3)]
theorem CA9 {k:Nat}(h:k<=3):ws4.map (fun w=>decide (w=wNm k))=bl4 k:=by
 exists 86
theorem tS (B:Bt K mg a)(iJ:CalX P w K mg base "_law_same" ["_law_fit","_law_tree_here"] 3 (gC K a 3))(F:Fun K "_law_same_line" "_law_same_line" iY f fd):FnOk P w K mg base CX0 4 f fd ["_law_found","_law_line"] (lW K a):=by
 exists 5,sc_law_same_line
 obtain ⟨x,v,t,L,rfl,hx,hv,ht,hd,hz,ho,q⟩:=h
 refine ⟨_,(aY (aP (aC (nomatch 175,1,2,sc_law_same_line.nd,3,Or.inr,4,5,6) (aP (aC (bC (L2.PW.pt (gO (cC (nomatch 257,0,B.Line)) (eU (cC (bI (pc iJ hr rfl (aH (aL ↑180 (aL (pv 2) aB))))))))) (aP ↑195) aO) (aP (aC (aZ (i:=7) sc_law_same_line.nd rfl (Or.inl rfl) (eY (aL (nomatch 169,B.Now) (aL (nomatch 169,B.Hour) (aL (nomatch 169,B.Day) aB)))) (by kernel_rfl)) (aP (aC (bC (aU (AN6 hr.units) (bO dZ (pv 7) (iB (aH (aL (nomatch 169,B.Never) aB)))) (eG ["_law_word","_law_way_here"] [none,some 3] rfl (by kernel_rfl) (oC (iB (aH (aL aN (aL aN ↑210))))) (fun cl C s H fp=>⟨(nomatch 294,"_law_way_here"),gP,(cU bZ ↑184 (nomatch 262,1) (aV _))⟩)) (aV _)) (aP ↑195) aO) (aP (iM (bC (L2.PW.pt (uH (nomatch 285,3) (qW (aU yD ↑222 (nomatch 167,bJ,3) (aV _))))) (aP ↑195) aO) (aP (aC (bC (L2.PW.pt (gO (aU (AN6 hr.units) (bB (pv 0) rfl) (nomatch 255,4) (aV _)) (gO (cC (nomatch 282,bI)) (eU (aU (AN6 hr.units) (bB (pv 0) rfl) (pv 5) (aV _)))))) (aP ↑195) aO) (aP (aC (bC (mE (AT0 (pv 6))) (aP (aG (aT (aS (BW0 (AT0 (bB (pv 0) rfl))))))) aO) (aP (aG (aT (aS (nU (nomatch 169,B.Raised) (pL (cU (AY7 hr.units) (gJ (aH (aL ↑222 (aL ↑222 (aL ↑222 aB))))) (pv 6) (aV _))))))))))))))))))))))),?_⟩
 obtain ⟨lp,dl,fv,wv,l,zv,rfl,hlp,hF,hW,hl,hZ⟩:=hx.ex
 obtain ⟨yp,dy,rfl,hyp,k3⟩:=hW
 obtain ⟨c1,_,_⟩:=BC9 B L.k
 obtain ⟨i0,i1,i2,i3⟩:=BU3 B k3
 have nhd:=BN2 k3
 exists 143
 exists 151,B.ck_Line.ty,hlp,B.is_Line_Line
 refine ⟨_,_,_,hlp,B.ck_Line.cl,B.na_Line_fit,fv,rfl,fv,tv,t,by omega,rfl,hF,hA,ht,fun H1 S1=>?_⟩
 exists 73
 exists 31
 exists 49,S1,i0
 exists 49,S1,i1
 exists 49,S1,i2
 exists 20,p1,h1
 have S2:=S1.trans (aE h1 (nomatch 185,L.k,0,1,2))
 have e1:upd H1 p1 (nomatch 185,L.k,0,1,2) p1=some (nomatch 185,L.k,0,1,2):=aA
 generalize upd H1 p1 (nomatch 185,L.k,0,1,2)=H2 at *
 exists 31
 exists 49,S2,i3
 exists 20,p2,h2
 have S3:=aE h2 ↑225
 exists 128,S3,4
 have S4:=S2.trans (S3.trans (aE h3 (nomatch 219,bl4,L.k)))
 have e3:upd (upd H2 p2 ↑225) p3 (nomatch 219,bl4,L.k) p3=some (nomatch 219,bl4,L.k):=aA
 clear S3
 rw [show ([V.bl (decide (L.k=0)),V.bl (decide (L.k=1)),V.bl (decide (L.k=2))]++[V.bl (decide (L.k=3))]:List V)=(bl4 L.k).map V.bl from rfl]
 generalize upd (upd H2 p2 ↑225) p3 (nomatch 219,bl4,L.k)=H3 at *
 exists 148,ws4.map
 clear S4 S5 S2 S1 e1 e3
 refine ⟨⟨_,SqL.of e4⟩,?_⟩
 refine CompL.by (xs:=ws4.map V.str) (fun i acc σ H'=>acc=((ws4.take i).map (fun w=>decide (w=wNm L.k))).map V.bl/\(∃ v,σ=[v,some (.ref y)])/\H'=upd H3 p4 (.lst (ws4.map V.str))) (sz8 (by decide)) ⟨rfl,⟨_,rfl⟩,rfl⟩ (fun i acc σ H' _ h=>by rw [h.2.2]; exact SqL.of e4) ?_ ?_ ?_
 exists 23,x,hx,u,ws4,ws4.take,wNm,L.k,hy
 exists 63,ws4.take,ws4.map,wNm,L.k,bl4,CA9,k3
 generalize upd (nomatch 197,H3,p4,ws4.map) D (nomatch 219,bl4,L.k)=H5 at *
 clear S6 e4 e5 eT i0 i1 i2 i3
 nofun
 exists 31
 refine ⟨fun σ H'=>σ=[some (.ref lp),some (.ref p),some tv,some (.ref y),some (.ref r),some (.bl L.su),some rv,some (.ref p1)]/\H'=H5,?_,?_⟩
 ·exists 36,d1,1,nhd.1.mpr,a.Hour,B.ck_Hour.cl,B.na_Hour_minute,nhd.1.mp
  exists 36,d2,2,nhd.2.1.mpr,a.Day,B.ck_Day.cl,B.na_Day_minute,nhd.2.1.mp
  all_goals (first | rfl | trivial)
 rintro σ' H' ⟨rfl,rfl⟩
 nofun
 exists 31
 exists 65,B.na_Line_roads,.ref,l
 refine ⟨_,.inr (SqT.of (SA _ _ hr')),fun l2 hl2=>?_⟩
 exists 53,S7,hl2,L.rs.map
 have gsh:=(iN (Nat.zero_le _) (uF (us:=L.rs) fun u hu=>uE (ho.r.1 u hu))).1
 refine eqd (.lst (S7 _ _ (SA _ _ hl)) (kW L.rs)) (.lst aA (kW L.rs)) gsh ?_
 have SA:=SA.trans S7
 exists 129,H',l2,L.rs.map,H6
 nofun
 exists 65,B.na_Line_sure,.bl,L.su
 exists 70,.bl,L.su
 exists 73
 exists 65,B.na_Line_sure,.bl,L.su
 refine eqd (.bl L.su) (.bl L.su) (by cases L.su <;> rfl) ?_
 nofun
 exists 31
 cases er:L.ra with
 | none =>
  rw [er] at hR hZ
  have hR:rv=.non:=hR
  have hZ:zv=.non:=hZ
  subst hR hZ
  rw [if_pos rfl]
  exists 105
  refine ⟨_,_,_,SA _ _ hlp,B.ck_Line.cl,B.na_Line_raised,.non,rfl,?_⟩
  first | exact q _ SA | (exists decide_true; exact q _ SA) | trace_state
 | some x =>
  rw [er] at hR hZ
  obtain ⟨a1,a2,a3,a4,a5⟩:=ho.a _ er
  exists 102
  obtain ⟨zp,dz,rfl,hzp⟩:=hZ
  dsimp only at hq hzp a5
  rw [if_neg (by intro z; cases z)]
  exists 105
  exists 65,B.na_Line_raised,.ref,zp
  refine ⟨_,_,_,true,rfl,B.ck_Raised.ty (SA _ _ hzp),B.is_Raised_Raised,?_⟩
  exists 73
  exists 96,B.na_Raised_minutes,m
  exists 96,B.na_Raised_times,n
  refine ⟨_,_,_,SA _ _ hlp,B.ck_Line.cl,B.na_Line_raised,.ref zp,rfl,_,_,_,SA _ _ hzp,B.ck_Raised.cl,B.na_Raised_to,toV o,rfl,?_⟩
  nofun
  exists 20,tp,htp
  have ST:=aE htp (.tup [.int m,.int n,toV o])
  obtain ⟨dd,rdo,sho⟩:∃ dd,(∀ H':Hp,RD H' (toV o) dd)/\SeqAt.shaped (.tuple [.int m,.int n,dd])=true:=by
   cases o with
   | none=>exact ⟨.none,fun _=>.non,by simp [SeqAt.shaped,PyData.canLay0,PyData.canLayAll0,PyData.depth,PyData.depthAll]⟩
   | some u=>exact ⟨.str u,fun _=>.str u,by simp [SeqAt.shaped,PyData.canLay0,PyData.canLayAll0,PyData.depth,PyData.depthAll,uE (a5 u rfl)]⟩
  refine eqd (.tup aA ↑224) (.tup (ST _ _ (SA _ _ hq)) ↑224) sho ?_
  exact q _ (SA.trans ST)
theorem jD {X:Cx}{es:List Expr}{xs:List Str}{pos:Pos}(h:uS es=some xs):QE X (.List es pos) (BO3 (AX5 xs)):=⟨BR6 h⟩
theorem CM3 {X:Cx}{ss:List Stmt}{D:Ends}{σ:L2.St}{H:Hp}(h:∃ t,QSs X ss t/\t D σ H):∃ t,PSs X ss t/\t D σ H:=let ⟨t,a,b⟩:=h; ⟨t,a.h,b⟩
theorem AF1 (B:Bt K mg a)(F:Fun K "_law_tails" "_law_tails" oW f fd):FnOk P w K mg base CX0 1 f fd [] (sW K a):=by
 exists 5,sc_law_tails
 obtain ⟨rfl,q⟩:=h
 refine CM3 ⟨_,(aC (aZ (i:=0) sc_law_tails.nd rfl (Or.inl rfl) (jD (xs:=tl0) (by kernel_rfl)) (by kernel_rfl)) (aP (aC (nomatch 168,tl1) (aP (aC (nomatch 168,tl2) (aP (aC (nomatch 191,0) (aP (aC (nomatch 168,tl4) (aP (aC (nomatch 168,tl5) (aP (aC (nomatch 168,tl6) (aP (aC (nomatch 168,tl7) (aP (aC (nomatch 168,tl8) (aP (aC (nomatch 168,tl9) (aP (aC (nomatch 168,tl10) (aP (aG (aT (oH dZ (aS (pv 0)) (jD (xs:=tl11) (by kernel_rfl))))))))))))))))))))))))))),?_⟩
 nofun
 refine ⟨sz8 (by decide +kernel),fun p0 hp0=>?_⟩
 exists 53,S0,hp0,tl0.map
 exists 82,e0,H,p0,tl0.map
 exists 129,H,p0,tl0.map,G0
 exists 7,q1,hq1,T1,tl1.map,p0,e0,p1,hp1
 have S1:=S0.trans (T1.trans (aE hp1 ↑216))
 exists 113,fp1,p1,S0.trans,T1,hp1
 have e1:upd (nomatch 197,G0,q1,tl1.map) p1 ↑216 p1=some ↑216:=aA
 generalize upd (nomatch 197,G0,q1,tl1.map) p1 ↑216=G1 at *
 exists 7,q2,hq2,T2,tl2.map,p1,e1,p2,hp2
 have S2:=S1.trans (T2.trans (aE hp2 (nomatch 251,177)))
 exists 113,fp2,p2,S1.trans,T2,hp2
 have e2:upd (nomatch 197,G1,q2,tl2.map) p2 (nomatch 251,177) p2=some (nomatch 251,177):=aA
 generalize upd (nomatch 197,G1,q2,tl2.map) p2 (nomatch 251,177)=G2 at *
 exists 31
 refine ⟨.inl ⟨rfl,_,SqL.of e2⟩,p2,_,_,rfl,rfl,e2,Nat.lt_of_le_of_lt (show _<=1000 by decide +kernel) (by decide),?_⟩
 have f3:H p2=none:=fp2
 have S3:Same H (upd G2 p2 (nomatch 251,171)):=fun b o e=>by rw [aJ (fun z=>by rw [z,f3] at e; cases e)]; exact S2 b o e
 have e3:upd G2 p2 (nomatch 251,171) p2=some (nomatch 251,171):=aA
 rw [show (↑177).map V.str++[V.str " : day 05 by 1 mail"]=(↑171).map V.str by rw [List.map_append]; rfl]
 generalize upd G2 p2 (nomatch 251,171)=G3 at *
 exists 7,q4,hq4,T4,tl4.map,p2,e3,p3,hp3
 have S4:=S3.trans (T4.trans (aE hp3 (nomatch 251,166)))
 exists 113,fp3,p3,S3.trans,T4,hp3
 have e4:upd (nomatch 197,G3,q4,tl4.map) p3 (nomatch 251,166) p3=some (nomatch 251,166):=aA
 generalize upd (nomatch 197,G3,q4,tl4.map) p3 (nomatch 251,166)=G4 at *
 exists 7,q5,hq5,T5,tl5.map,p3,e4,p4,hp4
 have S5:=S4.trans (T5.trans (aE hp4 (nomatch 251,165)))
 exists 113,fp4,p4,S4.trans,T5,hp4
 have e5:upd (nomatch 197,G4,q5,tl5.map) p4 (nomatch 251,165) p4=some (nomatch 251,165):=aA
 generalize upd (nomatch 197,G4,q5,tl5.map) p4 (nomatch 251,165)=G5 at *
 exists 7,q6,hq6,T6,tl6.map,p4,e5,p5,hp5
 have S6:=S5.trans (T6.trans (aE hp5 (nomatch 251,164)))
 exists 113,fp5,p5,S5.trans,T6,hp5
 have e6:upd (nomatch 197,G5,q6,tl6.map) p5 (nomatch 251,164) p5=some (nomatch 251,164):=aA
 generalize upd (nomatch 197,G5,q6,tl6.map) p5 (nomatch 251,164)=G6 at *
 exists 7,q7,hq7,T7,tl7.map,p5,e6,p6,hp6
 have S7:=S6.trans (T7.trans (aE hp6 ↑264))
 exists 113,fp6,p6,S6.trans,T7,hp6
 have e7:upd (nomatch 197,G6,q7,tl7.map) p6 ↑264 p6=some ↑264:=aA
 generalize upd (nomatch 197,G6,q7,tl7.map) p6 ↑264=G7 at *
 exists 7,q8,hq8,T8,tl8.map,p6,e7,p7,hp7
 have S8:=S7.trans (T8.trans (aE hp7 (nomatch 295,247)))
 exists 113,fp7,p7,S7.trans,T8,hp7
 have e8:upd (nomatch 197,G7,q8,tl8.map) p7 (nomatch 295,247) p7=some (nomatch 295,247):=aA
 generalize upd (nomatch 197,G7,q8,tl8.map) p7 (nomatch 295,247)=G8 at *
 exists 7,q9,hq9,T9,tl9.map,p7,e8,p8,hp8
 have S9:=S8.trans (T9.trans (aE hp8 (nomatch 295,244)))
 exists 113,fp8,p8,S8.trans,T9,hp8
 have e9:upd (nomatch 197,G8,q9,tl9.map) p8 (nomatch 295,244) p8=some (nomatch 295,244):=aA
 generalize upd (nomatch 197,G8,q9,tl9.map) p8 (nomatch 295,244)=G9 at *
 exists 7,q10,hq10,T10,tl10.map,p8,e9,p9,hp9
 have S10:=S9.trans (T10.trans (aE hp9 ↑290))
 exists 113,fp9,p9,S9.trans,T10,hp9
 have e10:upd (nomatch 197,G9,q10,tl10.map) p9 ↑290 p9=some ↑290:=aA
 generalize upd (nomatch 197,G9,q10,tl10.map) p9 ↑290=G10 at *
 exists 7,q11,hq11,T11,tl11.map,p9,e10,p10,hp10
 have S11:=S10.trans (T11.trans (aE hp10 ↑288))
 exists 113,fp10,p10,S10.trans,T11,hp10
 have e11:upd (nomatch 197,G10,q11,tl11.map) p10 ↑288 p10=some ↑288:=aA
 generalize upd (nomatch 197,G10,q11,tl11.map) p10 ↑288=G11 at *
 exact q p10 G11 S11 fp10 e11
def PEp (X:Cx)(e:Expr)(t:TE):Prop:=∀ (pins:List (Addr × Obj)) (s:Shared) (σ:L2.St) (H:Hp) (Q:VK),Inv X pins σ H s->0 < s.toks->t σ H Q->wpAny (model X.prog X.w) X.A (eval e X.env) (EP X pins σ Q) X.xe s
structure QEp (X:Cx) (e:Expr) (t:TE):Prop where
 h:PEp X e t
structure QAp (X:Cx) (es:List Expr) (t:TA):Prop where
 h:∀ (pos:Pos) (pins:List (Addr × Obj)) (s:Shared) (σ:L2.St) (H:Hp) (Q:List V->Hp->Prop),Inv X pins σ H s->0 < s.toks->t σ H Q->wpAny (model X.prog X.w) X.A ↑234 (AP X pins σ Q) X.xe s
structure QSp (X:Cx) (st:Stmt) (t:TS):Prop where
 h:∀ (pins:List (Addr × Obj)) (s:Shared) (σ:L2.St) (H:Hp) (D:Ends),Inv X pins σ H s->0 < s.toks->t D σ H->wpAny (model X.prog X.w) X.A (exec st X.env) (SP X pins D) X.xe s
structure QSsp (X:Cx) (st:List Stmt) (t:TS):Prop where
 h:∀ (pins:List (Addr × Obj)) (s:Shared) (σ:L2.St) (H:Hp) (D:Ends),Inv X pins σ H s->0 < s.toks->t D σ H->wpAny (model X.prog X.w) X.A (execs st X.env) (SP X pins D) X.xe s
structure QST (X:Cx) (st:Stmt) (t:TS):Prop where
 h:∀ (pins:List (Addr × Obj)) (s:Shared) (σ:L2.St) (H:Hp) (D:Ends),Inv X pins σ H s->t D σ H->wpAny (model X.prog X.w) X.A (exec st X.env) (fun fl s'=>SP X pins D fl s'/\0 < s'.toks) X.xe s
structure QET (X:Cx) (e:Expr) (t:TE):Prop where
 h:PET X e t
structure QAT (X:Cx) (es:List Expr) (t:TA):Prop where
 h:∀ (pos:Pos) (pins:List (Addr × Obj)) (s:Shared) (σ:L2.St) (H:Hp) (Q:List V->Hp->Prop),Inv X pins σ H s->t σ H Q->wpAny (model X.prog X.w) X.A ↑234 (fun us s'=>AP X pins σ Q us s'/\0 < s'.toks) X.xe s
end
section
variable {X:Cx}{e o ea eb:Expr}{es:List Expr}{te ta tb:TE}{tl:TA}{st:Stmt}{rest:List Stmt}{t u:TS}{pos pos' apos cpos:Pos}{i:Nat}{x:Str}
theorem AF2 (h:PE X e te):QEp X e te:=⟨fun pins s σ H Q I _ q=>h pins s σ H Q I q⟩
theorem CB0 (h:QS X st t):QSp X st t:=⟨fun pins s σ H D I _ q=>h.h pins s σ H D I q⟩
theorem BD4:QAp X [] BO2:=⟨fun _ _ _ _ H Q I _ h=>Calls.spliced_nil ⟨[],H,I,.nil,h⟩⟩
theorem BD5 (ha:QEp X e te)(hr:QAp X es tl)(hs:pQ e=false:=by rfl):QAp X (e::es) (AA5 te tl):=by
 refine ⟨fun pos pins s σ H Q I hp h=>?_⟩
 rw [aD e es X.env hs]
 show wpAny _ _ (spliced ((false,eval e X.env)::backTo pos (starEach es X.env))) _ _ s
 refine Calls.spliced_cons (BM6 (ha.h pins s σ H _ I hp h) hp fun v s1 ⟨y,H1,I1,r1,q1⟩ p1=>?_)
 exact thn (hr.h pos pins s1 σ H1 _ I1 p1 q1) fun us s2 ⟨xs,H2,I2,r2,q2⟩=>⟨y::xs,H2,I2,.cons r1 r2,q2⟩
theorem BD6 (h:QAp X es tl):QEp X (.List es pos) (BO3 tl):=by
 refine ⟨fun pins s σ H Q I hp hq=>?_⟩
 refine wpAny_List_spliced (thn (h.h pos pins s σ H _ I hp hq) fun us s1 ⟨xs,H1,I1,r,z,q⟩=>⟨by rw [<- r.length]; exact z,?_⟩)
 have hf:H1 s1.heap.objs.size=none:=I1.hok.fresh (Nat.le_refl _)
 refine ⟨.ref s1.heap.objs.size,upd H1 s1.heap.objs.size (.lst xs),I1.laid (t':=s1.toks) (fun b u e=>Heap.get?_push_of_some _ e) (Nat.le_refl _) ?_,rfl,q _ hf⟩
 exact ⟨z,us,0,r,Heap.get?_push_size _ rfl⟩
theorem BN3 {op:Operator}{r:R2}(ho:OpR X (binaryOp op) r)(ha:QEp X ea ta)(hb:QEp X eb tb):QEp X (.BinOp ea op eb pos) (tOp r ta tb):=by
 refine ⟨fun pins s σ H Q I hp h=>wpAny_BinOp (BM6 (ha.h pins s σ H _ I hp h) hp fun v s1 ⟨y,H1,I1,r1,q1⟩ p1=>?_)⟩
 exact thn (hb.h pins s1 σ H1 _ I1 p1 q1) fun w s2 ⟨z,H2,I2,r2,q2⟩=>ho pins s2 σ H2 y z v w Q I2 r1 r2 q2
theorem AP0 {y z:Str}{j1 j2:Nat}{p1 p2:Pos}(ho:PE X o ta)(hbase:attributeBase o "replace" X.env (eval o X.env)=eval o X.env:=by rfl)(hs:starEach [.Constant (.str y) j1 p1,.Constant (.str z) j2 p2] X.env=[(false,eval (.Constant (.str y) j1 p1) X.env),(false,eval (.Constant (.str z) j2 p2) X.env)]:=by rfl)(hfew:((backTo cpos (starEach [.Constant (.str y) j1 p1,.Constant (.str z) j2 p2] X.env)).all (fun x=>!x.1) && (backToKw cpos (keywordEach [] X.env)).all (fun x=>x.1.isSome)
   && decide ([Expr.Constant (.str y) j1 p1,.Constant (.str z) j2 p2].length+([]:List Keyword).length+(if ([]:List Keyword).isEmpty then 0 else 1) < 30))=true:=by rfl)(hline:(apos.endLine == cpos.line)=true:=by rfl) :
  QEp X (.Call (.Attribute o "replace" apos) [.Constant (.str y) j1 p1,.Constant (.str z) j2 p2] [] cpos) (BZ5 ta y z):=by
 refine ⟨fun pins s σ H Q I hp0 h=>?_⟩
 refine wpAny_Call_method_late hbase hfew hline rfl (BM6 (ho pins s σ H _ I h) hp0 fun v s1 ⟨x,H1,I1,r1,qq⟩ hp=>?_)
 obtain ⟨u,ex,hyz,hu,hz,q⟩:=isT.ex qq
 subst ex
 obtain ⟨tk,rfl⟩:=r1
 refine ⟨"str","str.replace",PySem.F.plainAttrs_str,PySem.F.slot_str_replace,PySem.F.type_str_replace,typeIs_str _ _ _,(fun a e=>by cases e),?_⟩
 rw [hs]
 refine Calls.callWith_builtin (by rfl) (Calls.evalArgs_plain (Calls.spliced_cons (Calls.Constant_str (k:=j1) (pos:=p1) (Calls.spliced_cons (Calls.Constant_str (k:=j2) (pos:=p2) (Calls.spliced_nil ?_))))))
 have hp':0 < s1.toks:=hp
 refine SC.replaceW (u:=s1.toks) (v:=s1.toks+1) (fun z=>absurd (show s1.toks=0 from z) (by omega)) (fun z=>absurd (show s1.toks+1=0 from z) (by omega)) (fun z=>absurd (show s1.toks=s1.toks+1 from z) (by omega)) hyz hu hz fun t' k=>?_
 exact ⟨.str _,H1,(I1.tok k),⟨_,rfl⟩,q⟩
theorem BD7 (hN:X.N.Nodup)(hi:X.N[i]?=some x)(hx:Loc X.env.scope x)(he:QEp X e te)(hs:swapsWith e (some (.Name x pos')) pos.line X.env=pure false)(hf:X.fn x=true\/X.env.scope.names.lookup x=some .local:=by first | exact .inl rfl | exact .inr rfl | assumption) :
  QSp X (.Assign [.Name x pos'] e pos) (BK3 te (zZ i)):=by
 refine ⟨fun pins s σ H D I hp h=>?_⟩
 refine wpAny_Assign_Name (thn (he.h pins s σ H _ I hp h) fun v s1 ⟨y,H1,I1,r1,q1⟩=>?_) hs
 exact nC I1 hN hi hx r1 (fun s2 I2=>⟨_,H1,I2,q1⟩) hf
theorem BU4 (hN:X.N.Nodup)(hi:X.N[i]?=some x)(hx:Loc X.env.scope x)(he:QET X e te)(hs:swapsWith e (some (.Name x pos')) pos.line X.env=pure false)(hf:X.fn x=true\/X.env.scope.names.lookup x=some .local:=by first | exact .inl rfl | exact .inr rfl | assumption) :
  QST X (.Assign [.Name x pos'] e pos) (BK3 te (zZ i)):=by
 refine ⟨fun pins s σ H D I h=>?_⟩
 refine wpAny_Assign_Name (thn (he.h pins s σ H _ I h) fun v s1 ⟨⟨y,H1,I1,r1,q1⟩,p1⟩=>?_) hs
 exact BM6 (nC (Q:=fun _ s'=>SP X pins D .next s') I1 hN hi hx r1 (fun s2 I2=>⟨_,H1,I2,q1⟩) hf) p1 fun _ _ a b=>⟨a,b⟩
theorem BU5 {y:Str}{j:Nat}:QET X (.Constant (.str y) j pos) (tC (.str y)):=⟨fun _ _ _ H _ I h=>Calls.Constant_str ⟨⟨.str y,H,I.tok _,⟨_,rfl⟩,h⟩,Nat.succ_pos _⟩⟩
theorem BU6 {op:Operator}{r:R2}(ho:OpR X (binaryOp op) r)(ha:QET X ea ta)(hb:PE X eb tb):QET X (.BinOp ea op eb pos) (tOp r ta tb):=by
 refine ⟨fun pins s σ H Q I h=>wpAny_BinOp (thn (ha.h pins s σ H _ I h) fun v s1 ⟨⟨y,H1,I1,r1,q1⟩,p1⟩=>?_)⟩
 exact BM6 (hb pins s1 σ H1 _ I1 q1) p1 fun w s2 ⟨z,H2,I2,r2,q2⟩ p2=>BM6 (ho pins s2 σ H2 y z v w Q I2 r1 r2 q2) p2 fun _ _ a b=>⟨a,b⟩
theorem CH4 (ha:QET X e te)(hr:PA X es tl)(hs:pQ e=false:=by rfl):QAT X (e::es) (AA5 te tl):=by
 refine ⟨fun pos pins s σ H Q I h=>?_⟩
 rw [aD e es X.env hs]
 show wpAny _ _ (spliced ((false,eval e X.env)::backTo pos (starEach es X.env))) _ _ s
 refine Calls.spliced_cons (thn (ha.h pins s σ H _ I h) fun v s1 ⟨⟨y,H1,I1,r1,q1⟩,p1⟩=>?_)
 exact BM6 (hr pos pins s1 σ H1 _ I1 q1) p1 fun us s2 ⟨xs,H2,I2,r2,q2⟩ p2=>⟨⟨y::xs,H2,I2,.cons r1 r2,q2⟩,p2⟩
theorem CH5 (ha:PE X e te)(hr:QAT X es tl)(hs:pQ e=false:=by rfl):QAT X (e::es) (AA5 te tl):=by
 refine ⟨fun pos pins s σ H Q I h=>?_⟩
 rw [aD e es X.env hs]
 show wpAny _ _ (spliced ((false,eval e X.env)::backTo pos (starEach es X.env))) _ _ s
 refine Calls.spliced_cons (thn (ha pins s σ H _ I h) fun v s1 ⟨y,H1,I1,r1,q1⟩=>?_)
 exact thn (hr.h pos pins s1 σ H1 _ I1 q1) fun us s2 ⟨⟨xs,H2,I2,r2,q2⟩,p2⟩=>⟨⟨y::xs,H2,I2,.cons r1 r2,q2⟩,p2⟩
theorem BU7 (h:QAT X es tl):QET X (.List es pos) (BO3 tl):=by
 refine ⟨fun pins s σ H Q I hq=>?_⟩
 refine wpAny_List_spliced (thn (h.h pos pins s σ H _ I hq) fun us s1 ⟨⟨xs,H1,I1,r,z,q⟩,p1⟩=>⟨by rw [<- r.length]; exact z,?_⟩)
 have hf:H1 s1.heap.objs.size=none:=I1.hok.fresh (Nat.le_refl _)
 refine ⟨⟨.ref s1.heap.objs.size,upd H1 s1.heap.objs.size (.lst xs),I1.laid (t':=s1.toks) (fun b u e=>Heap.get?_push_of_some _ e) (Nat.le_refl _) ?_,rfl,q _ hf⟩,p1⟩
 exact ⟨z,us,0,r,Heap.get?_push_size _ rfl⟩
theorem BU8 (h1:QST X st t)(h2:QSsp X rest u):PSs X (st::rest) (BW3 t u):=by
 intro pins s σ H D I h
 refine wpAny_execs_cons (thn (h1.h pins s σ H { D with nx:=u D } I h) fun f s1 ⟨q,p1⟩=>?_)
 cases f with
 | next =>
  obtain ⟨σ',H',I',q⟩:=q
  exact h2.h pins s1 σ' H' D I' p1 q
 | ret v=>exact q
 | brk=>exact q
 | cont=>exact q
theorem AF3 (h1:QSp X st t)(h2:QSsp X rest u):QSsp X (st::rest) (BW3 t u):=by
 refine ⟨fun pins s σ H D I hp h=>?_⟩
 refine wpAny_execs_cons (BM6 (h1.h pins s σ H { D with nx:=u D } I hp h) hp fun f s1 q p1=>?_)
 cases f with
 | next =>
  obtain ⟨σ',H',I',q⟩:=q
  exact h2.h pins s1 σ' H' D I' p1 q
 | ret v=>exact q
 | brk=>exact q
 | cont=>exact q
theorem BJ4 (h1:QSp X st t):QSsp X [st] t:=by
 refine ⟨fun pins s σ H D I hp h=>?_⟩
 refine wpAny_execs_cons (thn (h1.h pins s σ H D I hp h) fun f s1 q=>?_)
 cases f with
 | next=>exact wpAny_execs_nil q
 | ret v=>exact q
 | brk=>exact q
 | cont=>exact q
theorem wD (h:QSsp X rest t):QSsp X rest (AR6 t):=h
end
theorem BJ5 (ns:List Int)(lo hi:Option Int):∃ ms:List Int,BK7 (ns.map V.int) lo hi=ms.map V.int/\ms.length<=ns.length:=by
 unfold BK7
 rw [List.length_map,<- List.map_drop,<- List.map_take]
 exact ⟨_,rfl,by rw [List.length_take,List.length_drop]; omega⟩
theorem BJ6 {t:Tr}{L:Ln}(ht:t.wf)(h:L.ok):∀ c∈(Str.join sp1 (t.ws++L.ws)).cps.toList,c < 128:=fun c m=>by
 refine Classical.byContradiction fun n=>?_
 have w:∀ x,NmNum x->c ∉ x.cps.toList:=fun x hx=>hx.no (by omega) (by omega)
 have sy:∀ k < 128,c ∉ (⟨#[k]⟩:Str).cps.toList:=fun k hk z=>by
  simp at z
  omega
 refine qA (c:=c) (by omega) (ws:=t.ws++L.ws) (fun x hx=>?_) m
 rcases List.mem_append.mp hx with z | z
 ·exact xW (p:=fun x=>c ∉ x.cps.toList) (fun u g=>w u (.inl g)) (fun n h0 h1=>w _ (.inr ⟨n,h0,h1,rfl⟩)) (sy 40 (by decide)) (sy 41 (by decide)) (sy 38 (by decide)) (sy 124 (by decide)) ht x z
 ·rcases List.mem_cons.mp z with rfl | z
  ·exact sy 58 (by decide)
  ·exact w x (nO h x z)
theorem BU9 {t:Tr}{L:Ln}(ht:t.wf)(h:L.ok)(hl:(Str.join sp1 (t.ws++L.ws)).length<=30000):Builtin.Str.tooLong (placed (Str.join sp1 (t.ws++L.ws)) fun _ c=>Unicode.upperOf c).size=false/\(⟨placed (Str.join sp1 (t.ws++L.ws)) fun _ c=>Unicode.upperOf c⟩:Str)=up (Str.join sp1 (t.ws++L.ws)):=by
 have e:(⟨placed (Str.join sp1 (t.ws++L.ws)) fun _ c=>Unicode.upperOf c⟩:Str)=up (Str.join sp1 (t.ws++L.ws)):=PyProof.Rows.upper_ascii (BJ6 ht h)
 have e2:(placed (Str.join sp1 (t.ws++L.ws)) fun _ c=>Unicode.upperOf c)=(Str.join sp1 (t.ws++L.ws)).cps.map PyProof.Rows.up1:=congrArg Str.cps e
 refine ⟨?_,e⟩
 rw [e2,Array.size_map]
 unfold Builtin.Str.tooLong
 rw [decide_eq_false_iff_not]
 have z:(30000:Nat) < sizeLine:=by decide
 have:(Str.join sp1 (t.ws++L.ws)).cps.size<=30000:=hl
 omega
theorem BJ7 {t:Tr}(h:t.ok)(hd:t.dp<=2)(hc:t.cnt<=27):t.ws.length<=400:=by
 have q:=(AO5 h.wf).2
 have m:(5+t.dp) * t.cnt<=7 * 27:=Nat.mul_le_mul (by omega) hc
 omega
theorem LdAt.tup {H H':Hp}{v:V}{t:Tr}{L:Ln}(h:LdAt H v t L)(S:BV2 H H'):LdAt H' v t L:=by
 obtain ⟨p,tv,y,r,rv,e,h1,h2,h3,h4,h5⟩:=h.ex
 exact ⟨p,tv,y,r,rv,e,S _ _ h1,h2.keep S,S _ _ h3,S _ _ h4,h5.tup S⟩
theorem tok_semi:tokG ";":=⟨by decide +kernel,by decide +kernel,by decide +kernel,by decide +kernel,by decide +kernel,fun z=>absurd z (by decide +kernel)⟩
theorem CB1:tlAll.all (fun u=>decide (u.length<=60))=true:=by decide +kernel
def LwI (sc l:Addr)(xs:List V)(σ:L2.St)(H:Hp):Prop:=(∃ s1 s2 s3 s4 s5 s6 s7 s8:Option V,σ=[some (.ref sc),s1,s2,s3,s4,s5,s6,s7,s8])/\H l=some (.lst xs)
def CK1 (K:Frag)(H:Hp)(x:V):Prop:=(∃ u,x=.str u/\AF9 u)\/okK K (.type "str") H x false
theorem CB2 (B:Bt K mg a)(pH:CalX P w K mg base "_law_begin" ["_law_cell"] 1 (sU K a))(iA:CalX P w K mg base "_law_drawn_line" ["_law_state","_law_more"] 8 (kN K a))(jE:CalX P w K mg base "_law_line_text" ["_law_line"] 4 (lU K a))(jF:CalX P w K mg base "_law_made_line" ["_law_line"] 9 (lV K a))(eQ:CalG 1 P w K mg base "read_line" ["text"] 10 (jS K a))(pI:CalX P w K mg base "_law_tails" [] 1 (sW K a))(aW:CalX P w K mg base "_law_next" ["_law_state","_law_base"] 1 (dS K a))(jG:CalX P w K mg base "show_line" ["line"] 4 (sT K a))(fO:CalX P w K mg base "_law_same_line" ["_law_found","_law_line"] 4 (lW K a))(iF:CalX P w K mg base "_law_refused" ["_law_text_here"] 11 (oB K a))(dG:CalX P w K mg base "_law_text" ["_law_tree_here"] 3 (eP K a 3))(F:Fun K "law" "law" AR5 f fd):FnOk P w K mg base CX0 12 f fd ["_law_script"] (BC2 K a):=by
 refine F.ok sc_law (by walk_at "ln") fun cdv A outer s H vs Q E hr h=>?_
 obtain ⟨sc,ns,rfl,hS,h63,q⟩:=h
 refine ⟨_,(aY (aC (bQ (AM0 PassesOwn.never rfl (oC (bO dZ (iB (aH (aL aM aB))) (jJ AV0 (pv 0) oE (kQ aM)))) (bS (i:=1) sc_law.nd rfl (Or.inl rfl)) (aY (aC (aZ (i:=2) sc_law.nd rfl (Or.inl rfl) (aS (pc pH hr rfl (aH (aL (pv 1) aB)))) (by kernel_rfl)) (aP (aC (aZ (i:=3) sc_law.nd rfl (Or.inl rfl) (aS (pc iA hr rfl (aH (aL (pv 2) (aL aM aB))))) (by kernel_rfl)) (aP (aC (aZ (i:=4) sc_law.nd rfl (Or.inl rfl) (aS (pc jE hr rfl (aH (aL (pv 3) aB)))) (by kernel_rfl)) (aP (aC (aZ (i:=5) sc_law.nd rfl (Or.inl rfl) (aS (pc jF hr rfl (aH (aL (pv 3) aB)))) (by kernel_rfl)) (aP (aC (bC (L2.PW.pt (gO (aU yD (pc jG hr rfl (aH (aL (pv 5) aB))) (pv 4) (aV _)) (eU (aU yD (pc jG hr rfl (aH (aL (pv 5) aB))) (pv 4) (aV _))))) (aG (aT (aS kC))) aO) (aP (aC (aZ (i:=6) sc_law.nd rfl (Or.inl rfl) (aS (AO9 eQ (hr.mono (by decide)) rfl (aH (aL (pv 4) aB)) (he:=aD _ _ _ rfl) (hpl:=aF rfl))) (by kernel_rfl)) (aP (aC (bC (L2.PW.pt (gO (cC (bI (pc fO hr rfl (aH (aL (pv 6) (aL (pv 3) aB)))))) (gO (aU yD (pc jG hr rfl (aH (aL (pv 6) aB))) (pv 4) (aV _)) (eU (cC (bI (pc fO hr rfl (aH (aL (AO9 eQ (hr.mono (by decide)) rfl (aH (aL (pv 4) aB)) (he:=aD _ _ _ rfl) (hpl:=aF rfl)) (aL (pv 3) aB)))))))))) (aG (aT (aS kC))) aO) (aP (aC (aZ (i:=7) sc_law.nd rfl (Or.inl rfl) (aS (bL cX (BG4 pI (hr.mono (by decide)) rfl) (pc aW hr rfl (aH (aL (pv 2) (aL aM aB)))) (fun _ _=>rfl))) (by kernel_rfl)) (aP (cY (BU8 (BU4 (i:=8) sc_law.nd rfl (Or.inl rfl) (BU7 (CH5 (jJ xQ (pv 4) (kQ aM) oE) (CH4 (BU6 bG BU5 (pv 4)) (aH (aL (bO bG (pv 4) aN) (aL (bO bG (pv 4) aN) (aL (bO bG (pv 4) aN) (aL (bO bG (pv 4) aN) (aL (bO bG (pv 4) aN) (aL pK (aL aM aB))))))))))) (by kernel_rfl)) (wD (AF3 (BD7 (i:=8) sc_law.nd rfl (Or.inl rfl) (BN3 dZ (AF2 (pv 8)) (BD6 (BD5 (AF2 (iB (aH (aL (pv 4) aB)))) (BD5 (AF2 (jJ xQ (pv 4) (kQ (bO jI (aR eV rfl B.len PySem.boot_len (aH (aL (pc dG hr rfl (aH (aL (bL bJ (pv 3) aM (fun _ _=>rfl)) aB))) aB))) aM)) oE)) (BD5 (AP0 (pv 4)) BD4))))) (by kernel_rfl)) (wD (AF3 (BD7 (i:=8) sc_law.nd rfl (Or.inl rfl) (BN3 dZ (AF2 (pv 8)) (BD6 (BD5 (AP0 (pv 4)) (BD5 (AF2 (BL1 PySem.F.plainAttrs_str PySem.F.slot_str_upper PySem.F.type_str_upper BG2 (pv 4))) BD4)))) (by kernel_rfl)) (wD (BJ4 (CB0 (bC (L2.PW.pt (gO (cC (bI (pc iF hr rfl (aH (aL (bO bG (pc dG hr rfl (aH (aL (bL bJ (pv 3) aM (fun _ _=>rfl)) aB))) (pv 7)) aB))))) (eU (cC (bI (pc iF hr rfl (aH (aL (bL cX (pv 8) (pc aW hr rfl (aH (aL (pv 2) (aL aM aB)))) (fun _ _=>rfl)) aB)))))))) (aG (aT (aS kC))) aO))))))))))))))))))))))))))))) (aG (aT (aS kC))))),?_⟩
 nofun
 refine ⟨sz8 (by decide),fun p hp=>?_⟩
 refine ⟨sc,_,rfl,(aE hp _).seq hS,fun p2 hp2=>?_⟩
 obtain ⟨ms,em,lm⟩:=BJ5 ns none (some 8)
 rw [em]
 refine ⟨p,p2,[.int 0],_,rfl,rfl,?_,aA,?_,fun l hl=>?_⟩
 ·rw [aJ (aQ aA hp2)]; exact aA
 ·simp only [List.length_cons,List.length_nil,List.length_map]
  exact sz8 (by omega)
 refine ⟨⟨_,SqL.of aA⟩,?_⟩
 refine ForL.by (xs:=([0]++ms).map V.int) (fun _ σ H1=>LwI sc l (([0]++ms).map V.int) σ H1) ⟨⟨_,_,_,_,_,_,_,_,rfl⟩,by rw [List.map_append]; exact aA⟩ (fun i σ H1 _ h=>SqL.of h.2) ?_ ?_
 ·rintro i x σ H1 hx ⟨⟨s1,s2,s3,s4,s5,s6,s7,s8,rfl⟩,h1⟩
  obtain ⟨c,rfl⟩:=BX6 hx
  generalize ([0]++ms).map V.int=xs at *
  nofun
  refine ⟨c,rfl,fun pw wa wb wc hpw=>?_⟩
  have W0:Well3 (upd H1 pw (.lst [.int wa,.int wb,.int wc])) pw:=⟨_,_,_,aA⟩
  have l0:l≠pw:=aQ h1 hpw
  have h2:=aE hpw (.lst [.int wa,.int wb,.int wc]) l _ h1
  generalize upd H1 pw (.lst [.int wa,.int wb,.int wc])=H2 at *
  walk_at "ho"
  nofun
  refine ⟨pw,rfl,W0,fun v t L H3 hD ht hd hc hL W3 B3=>?_⟩
  have h3:=B3 l _ l0 h2
  have wf:=ht.wf
  have hz:=BJ7 ht hd hc
  obtain ⟨tk,tl,tn⟩:=nX wf hL (by omega)
  have lx:=mJ (fun x hx=>(tk x hx).2.2.1) (by omega)
  have tp:=CH0 tn tk (by omega)
  have ltx:t.tx.length<=30000:=by
   rw [vB t wf]
   exact mJ (fun x hx=>(sR wf x hx).2.2.1) (by omega)
  have lf:mK (Txt.split (Str.join sp1 (t.ws++L.ws)) sp1)=some (t,L,[]):=by
   rw [tp.2]
   have z:=rD wf hL (r:=[]) trivial
   rw [List.append_nil] at z
   exact z
  clear W0 h2 B3
  nofun
  walk_at "ho"
  nofun
  refine ⟨v,t,L,rfl,hD,ht,by omega,hz,hL,fun H4 S4=>?_⟩
  nofun
  walk_at "ho"
  nofun
  refine ⟨v,t,L,rfl,hD.same S4,ht,by omega,hz,hL,fun vm H5 S5 hM=>?_⟩
  nofun
  walk_at "ho"
  nofun
  refine ⟨vm,t,L,rfl,hM,wf,by omega,hz,hL,fun H6 S6=>⟨rfl,?_⟩⟩
  rw [if_neg (fun z=>z rfl)]
  refine ⟨vm,t,L,rfl,hM.same S6,wf,by omega,hz,hL,fun H7 S7=>⟨rfl,?_⟩⟩
  rw [if_neg (fun z=>z rfl)]
  have SA:=S4.trans (S5.trans (S6.trans S7))
  clear S4 S5 S6 S7 hM
  walk_at "ho"
  nofun
  refine ⟨.str (Str.join sp1 (t.ws++L.ws)),rfl,.inl ⟨_,t,L,rfl,tp.1,lf,fun vr H8 S8 hR=>?_⟩⟩
  have SA:=SA.trans S8
  nofun
  walk_at "ho"
  nofun
  refine ⟨vr,v,t,L,rfl,hR,hD.same SA,ht,by omega,hz,hL,fun H9 S9=>?_⟩
  have SA:=SA.trans S9
  exists Bool.not_true
  refine ⟨vr,t,L,rfl,hR.same S9,wf,by omega,hz,hL,fun H10 S10=>⟨rfl,?_⟩⟩
  have SA:=SA.trans S10
  rw [if_neg (fun z=>z rfl)]
  refine ⟨.str (Str.join sp1 (t.ws++L.ws)),rfl,.inl ⟨_,t,L,rfl,tp.1,lf,fun vr2 H11 S11 hR2=>?_⟩⟩
  have SA:=SA.trans S11
  refine ⟨vr2,v,t,L,rfl,hR2,hD.same SA,ht,by omega,hz,hL,fun H12 S12=>?_⟩
  have SA:=SA.trans S12
  exists Bool.not_true
  have W4:=W3.same SA
  have h4:=SA l _ h3
  have hD:=hD.same SA
  clear S8 S9 S10 S11 S12 SA hR hR2 h3 W3 lf
  walk_at "ho"
  nofun
  refine ⟨rfl,fun ta H13 S13 f13 e13=>?_⟩
  have W5:=W4.same S13
  have h5:=S13 l _ h4
  have nta:=W4.ne f13
  refine sY W5 (by decide) (by decide) fun k1 H14 k0 k9 W6 B6=>?_
  have e14:=B6 _ _ nta e13
  have h6:=B6 l _ l0 h5
  have hD:=(hD.same S13).tup (yS W5 B6)
  obtain ⟨z,hz',ez⟩:=qY (xs:=tlAll.map V.str) k0 (by rw [List.length_map,BB8]; exact k9)
  obtain ⟨ut,hut,rfl⟩:=List.mem_map.mp hz'
  have hB:=List.all_eq_true.mp BI7 ut hut
  have lut:ut.length<=60:=of_decide_eq_true (List.all_eq_true.mp CB1 ut hut)
  refine ixl (SqL.of e14) ez ?_
  clear W4 W5 h4 h5 S13 f13 e13 e14 nta B6 k0 k9 hz' hut ez
  obtain ⟨lp,tv,y,r,rv,rfl,hp3,hA,_⟩:=hD.ex
  nofun
  walk_at "ho"
  nofun
  have ls:∀ u:Str,u.length<=20->(Str.join sp1 (t.ws++L.ws)).length+u.length<=sizeLine:=fun u h=>szM (by omega)
  refine ⟨szM (by omega),szM (by show 1+_<=1000000; omega),ls _ (by decide),ls _ (by decide),ls _ (by decide),ls _ (by decide),ls _ (by decide),sz8 (by decide),fun q1 hq1=>?_⟩
  have n1:=W6.ne hq1
  have S1:=aE hq1 (.lst [.str (Txt.slice (Str.join sp1 (t.ws++L.ws)) (some 1) none),.str ((" ":Str)++(Str.join sp1 (t.ws++L.ws))),.str ((Str.join sp1 (t.ws++L.ws))++(" ":Str)),.str ((Str.join sp1 (t.ws++L.ws))++(" :":Str)),.str ((Str.join sp1 (t.ws++L.ws))++(" ;":Str)),.str ((Str.join sp1 (t.ws++L.ws))++(" & any":Str)),.str ((Str.join sp1 (t.ws++L.ws))++("\n":Str)),.non,.int 5])
  have e1:upd H14 q1 (.lst [.str (Txt.slice (Str.join sp1 (t.ws++L.ws)) (some 1) none),.str ((" ":Str)++(Str.join sp1 (t.ws++L.ws))),.str ((Str.join sp1 (t.ws++L.ws))++(" ":Str)),.str ((Str.join sp1 (t.ws++L.ws))++(" :":Str)),.str ((Str.join sp1 (t.ws++L.ws))++(" ;":Str)),.str ((Str.join sp1 (t.ws++L.ws))++(" & any":Str)),.str ((Str.join sp1 (t.ws++L.ws))++("\n":Str)),.non,.int 5]) q1=some (.lst [.str (Txt.slice (Str.join sp1 (t.ws++L.ws)) (some 1) none),.str ((" ":Str)++(Str.join sp1 (t.ws++L.ws))),.str ((Str.join sp1 (t.ws++L.ws))++(" ":Str)),.str ((Str.join sp1 (t.ws++L.ws))++(" :":Str)),.str ((Str.join sp1 (t.ws++L.ws))++(" ;":Str)),.str ((Str.join sp1 (t.ws++L.ws))++(" & any":Str)),.str ((Str.join sp1 (t.ws++L.ws))++("\n":Str)),.non,.int 5]):=aA
  have W7:=W6.same S1
  have h7:=S1 _ _ h6
  have hp4:=S1 _ _ hp3
  have hA4:=hA.same S1
  generalize upd H14 q1 (.lst [.str (Txt.slice (Str.join sp1 (t.ws++L.ws)) (some 1) none),.str ((" ":Str)++(Str.join sp1 (t.ws++L.ws))),.str ((Str.join sp1 (t.ws++L.ws))++(" ":Str)),.str ((Str.join sp1 (t.ws++L.ws))++(" :":Str)),.str ((Str.join sp1 (t.ws++L.ws))++(" ;":Str)),.str ((Str.join sp1 (t.ws++L.ws))++(" & any":Str)),.str ((Str.join sp1 (t.ws++L.ws))++("\n":Str)),.non,.int 5])=H15 at *
  clear S1 W6 h6 hp3 hA hq1 hD
  walk_at "ho"
  nofun
  refine ⟨sz8 (by decide),fun q2 hq2=>?_⟩
  have n2:=W7.ne hq2
  have S2:=aE hq2 (.lst [.str (Str.join sp1 (t.ws++L.ws))])
  have e2:upd H15 q2 (.lst [.str (Str.join sp1 (t.ws++L.ws))]) q2=some (.lst [.str (Str.join sp1 (t.ws++L.ws))]):=aA
  refine ixt (SqT.of (S2 _ _ hp4)) (v:=tv) rfl ⟨tv,t,by omega,rfl,hA4.same S2,ht,by omega,fun H16 S16'=>?_⟩
  have S16:=S2.trans S16'
  have e2:=S16' _ _ e2
  have e1:=S16 _ _ e1
  have W8:=W7.same S16
  have h8:=S16 _ _ h7
  have hp5:=S16 _ _ hp4
  have hA5:=hA4.same S16
  clear S16 S16' S2 W7 h7 hp4 hA4 hq2
  nofun
  refine ⟨szM (by omega),szM (by omega),by decide +kernel,by omega,by decide,sz8 (by decide),fun q3 hq3=>?_⟩
  have S3:=aE hq3 (.lst [.ref q2,.str (Txt.slice (Str.join sp1 (t.ws++L.ws)) (some ((t.tx.length:Int)+1)) none),.str (Txt.replace (Str.join sp1 (t.ws++L.ws)) (" : ":Str) (" ":Str))])
  refine ⟨q1,q3,_,_,rfl,rfl,S3 _ _ e1,aA,sz8 (show 12<=1000 by decide),fun q4 hq4=>?_⟩
  have S4:=S3.trans (aE hq4 (.lst ([.str (Txt.slice (Str.join sp1 (t.ws++L.ws)) (some 1) none),.str ((" ":Str)++(Str.join sp1 (t.ws++L.ws))),.str ((Str.join sp1 (t.ws++L.ws))++(" ":Str)),.str ((Str.join sp1 (t.ws++L.ws))++(" :":Str)),.str ((Str.join sp1 (t.ws++L.ws))++(" ;":Str)),.str ((Str.join sp1 (t.ws++L.ws))++(" & any":Str)),.str ((Str.join sp1 (t.ws++L.ws))++("\n":Str)),.non,.int 5]++[.ref q2,.str (Txt.slice (Str.join sp1 (t.ws++L.ws)) (some ((t.tx.length:Int)+1)) none),.str (Txt.replace (Str.join sp1 (t.ws++L.ws)) (" : ":Str) (" ":Str))])))
  have n4:=(W8.same S3).ne hq4
  have e4:upd (upd H16 q3 (.lst [.ref q2,.str (Txt.slice (Str.join sp1 (t.ws++L.ws)) (some ((t.tx.length:Int)+1)) none),.str (Txt.replace (Str.join sp1 (t.ws++L.ws)) (" : ":Str) (" ":Str))])) q4 (.lst ([.str (Txt.slice (Str.join sp1 (t.ws++L.ws)) (some 1) none),.str ((" ":Str)++(Str.join sp1 (t.ws++L.ws))),.str ((Str.join sp1 (t.ws++L.ws))++(" ":Str)),.str ((Str.join sp1 (t.ws++L.ws))++(" :":Str)),.str ((Str.join sp1 (t.ws++L.ws))++(" ;":Str)),.str ((Str.join sp1 (t.ws++L.ws))++(" & any":Str)),.str ((Str.join sp1 (t.ws++L.ws))++("\n":Str)),.non,.int 5]++[.ref q2,.str (Txt.slice (Str.join sp1 (t.ws++L.ws)) (some ((t.tx.length:Int)+1)) none),.str (Txt.replace (Str.join sp1 (t.ws++L.ws)) (" : ":Str) (" ":Str))])) q4=some (.lst ([.str (Txt.slice (Str.join sp1 (t.ws++L.ws)) (some 1) none),.str ((" ":Str)++(Str.join sp1 (t.ws++L.ws))),.str ((Str.join sp1 (t.ws++L.ws))++(" ":Str)),.str ((Str.join sp1 (t.ws++L.ws))++(" :":Str)),.str ((Str.join sp1 (t.ws++L.ws))++(" ;":Str)),.str ((Str.join sp1 (t.ws++L.ws))++(" & any":Str)),.str ((Str.join sp1 (t.ws++L.ws))++("\n":Str)),.non,.int 5]++[.ref q2,.str (Txt.slice (Str.join sp1 (t.ws++L.ws)) (some ((t.tx.length:Int)+1)) none),.str (Txt.replace (Str.join sp1 (t.ws++L.ws)) (" : ":Str) (" ":Str))])):=aA
  have W9:=W8.same S4
  have h9:=S4 _ _ h8
  have hp6:=S4 _ _ hp5
  have hA6:=hA5.same S4
  have e3:=S4 _ _ e2
  generalize upd (upd H16 q3 (.lst [.ref q2,.str (Txt.slice (Str.join sp1 (t.ws++L.ws)) (some ((t.tx.length:Int)+1)) none),.str (Txt.replace (Str.join sp1 (t.ws++L.ws)) (" : ":Str) (" ":Str))])) q4 (.lst ([.str (Txt.slice (Str.join sp1 (t.ws++L.ws)) (some 1) none),.str ((" ":Str)++(Str.join sp1 (t.ws++L.ws))),.str ((Str.join sp1 (t.ws++L.ws))++(" ":Str)),.str ((Str.join sp1 (t.ws++L.ws))++(" :":Str)),.str ((Str.join sp1 (t.ws++L.ws))++(" ;":Str)),.str ((Str.join sp1 (t.ws++L.ws))++(" & any":Str)),.str ((Str.join sp1 (t.ws++L.ws))++("\n":Str)),.non,.int 5]++[.ref q2,.str (Txt.slice (Str.join sp1 (t.ws++L.ws)) (some ((t.tx.length:Int)+1)) none),.str (Txt.replace (Str.join sp1 (t.ws++L.ws)) (" : ":Str) (" ":Str))]))=H17 at *
  clear S3 S4 W8 h8 hp5 hA5 hq3 hq4 e1 e2
  walk_at "ho"
  nofun
  have tu:=BU9 wf hL lx
  refine ⟨by decide +kernel,by omega,by decide,?_⟩
  nofun
  first | refine ⟨rfl,?_⟩ | skip
  refine ⟨_,rfl,rfl,tu.1,?_⟩
  rw [tu.2]
  refine ⟨sz8 (by decide),fun q5 hq5=>?_⟩
  have S5:=aE hq5 (.lst [.str (Txt.replace (Str.join sp1 (t.ws++L.ws)) (" ":Str) ("  ":Str)),.str (up (Str.join sp1 (t.ws++L.ws)))])
  refine ⟨q4,q5,_,_,rfl,rfl,S5 _ _ e4,aA,sz8 (show 14<=1000 by decide),fun q6 hq6=>?_⟩
  have S6:=S5.trans (aE hq6 (.lst (([.str (Txt.slice (Str.join sp1 (t.ws++L.ws)) (some 1) none),.str ((" ":Str)++(Str.join sp1 (t.ws++L.ws))),.str ((Str.join sp1 (t.ws++L.ws))++(" ":Str)),.str ((Str.join sp1 (t.ws++L.ws))++(" :":Str)),.str ((Str.join sp1 (t.ws++L.ws))++(" ;":Str)),.str ((Str.join sp1 (t.ws++L.ws))++(" & any":Str)),.str ((Str.join sp1 (t.ws++L.ws))++("\n":Str)),.non,.int 5]++[.ref q2,.str (Txt.slice (Str.join sp1 (t.ws++L.ws)) (some ((t.tx.length:Int)+1)) none),.str (Txt.replace (Str.join sp1 (t.ws++L.ws)) (" : ":Str) (" ":Str))])++[.str (Txt.replace (Str.join sp1 (t.ws++L.ws)) (" ":Str) ("  ":Str)),.str (up (Str.join sp1 (t.ws++L.ws)))])))
  have n6:=(W9.same S5).ne hq6
  have all:∀ x∈(([.str (Txt.slice (Str.join sp1 (t.ws++L.ws)) (some 1) none),.str ((" ":Str)++(Str.join sp1 (t.ws++L.ws))),.str ((Str.join sp1 (t.ws++L.ws))++(" ":Str)),.str ((Str.join sp1 (t.ws++L.ws))++(" :":Str)),.str ((Str.join sp1 (t.ws++L.ws))++(" ;":Str)),.str ((Str.join sp1 (t.ws++L.ws))++(" & any":Str)),.str ((Str.join sp1 (t.ws++L.ws))++("\n":Str)),.non,.int 5]++[.ref q2,.str (Txt.slice (Str.join sp1 (t.ws++L.ws)) (some ((t.tx.length:Int)+1)) none),.str (Txt.replace (Str.join sp1 (t.ws++L.ws)) (" : ":Str) (" ":Str))])++[.str (Txt.replace (Str.join sp1 (t.ws++L.ws)) (" ":Str) ("  ":Str)),.str (up (Str.join sp1 (t.ws++L.ws)))]:List V),∀ H:Hp,H q2=some (.lst [.str (Str.join sp1 (t.ws++L.ws))])->CK1 K H x:=by
   have T:∀ {u:Str}{H:Hp},AF9 u->CK1 K H (.str u):=fun o=>.inl ⟨_,rfl,o⟩
   have ac:∀ {P:V->Prop}{x:V}{l:List V},P x->(∀ y∈l,P y)->∀ y∈x::l,P y:=fun h g=>List.forall_mem_cons.mpr ⟨h,g⟩
   have an:∀ {P:V->Prop},∀ y∈([]:List V),P y:=fun y h=>absurd h List.not_mem_nil
   refine List.forall_mem_append.mpr ⟨List.forall_mem_append.mpr ⟨ac ?_ (ac ?_ (ac ?_ (ac ?_ (ac ?_ (ac ?_ (ac ?_ (ac ?_ (ac ?_ (an))))))))),ac ?_ (ac ?_ (ac ?_ (an)))⟩,ac ?_ (ac ?_ (an))⟩
   ·exact fun H _=>T (CL5 wf hL hz)
   ·exact fun H _=>T (CL2 wf hL (by omega))
   ·exact fun H _=>T (CB9 wf hL (by omega) (w:="") (r:=[]) (all_cons tok_none.h bX) (by decide) (by decide) (by decide))
   ·exact fun H _=>T (CB9 wf hL (by omega) (w:=":") (r:=[]) (all_cons tok_colon.h bX) (by decide) (by decide) (by decide))
   ·exact fun H _=>T (CB9 wf hL (by omega) (w:=";") (r:=[]) (all_cons tok_semi.h bX) (by decide) (by decide) (by decide))
   ·exact fun H _=>T (CB9 wf hL (by omega) (w:="&") (r:=["any"]) (all_cons tok_and.h (all_cons tok_any.h bX)) (by decide) (by decide) (by decide))
   ·exact fun H _=>T (CM0 wf hL (by omega))
   ·exact fun H _=>.inr ⟨_,.non,by kernel_rfl⟩
   ·exact fun H _=>.inr ⟨_,.int _,by kernel_rfl⟩
   ·exact fun H e=>.inr ⟨_,.lst e,by kernel_rfl⟩
   ·exact fun H _=>T (by rw [CL7 wf hL hz]; exact CL3 wf hL (by omega))
   ·exact fun H _=>T (by rw [CL9 wf hL hz]; exact CL4 wf hL (by omega))
   ·exact fun H _=>T (CL6 wf hL hz)
   ·exact fun H _=>T (CL8 wf hL hz)
  have ln:(([.str (Txt.slice (Str.join sp1 (t.ws++L.ws)) (some 1) none),.str ((" ":Str)++(Str.join sp1 (t.ws++L.ws))),.str ((Str.join sp1 (t.ws++L.ws))++(" ":Str)),.str ((Str.join sp1 (t.ws++L.ws))++(" :":Str)),.str ((Str.join sp1 (t.ws++L.ws))++(" ;":Str)),.str ((Str.join sp1 (t.ws++L.ws))++(" & any":Str)),.str ((Str.join sp1 (t.ws++L.ws))++("\n":Str)),.non,.int 5]++[.ref q2,.str (Txt.slice (Str.join sp1 (t.ws++L.ws)) (some ((t.tx.length:Int)+1)) none),.str (Txt.replace (Str.join sp1 (t.ws++L.ws)) (" : ":Str) (" ":Str))])++[.str (Txt.replace (Str.join sp1 (t.ws++L.ws)) (" ":Str) ("  ":Str)),.str (up (Str.join sp1 (t.ws++L.ws)))]:List V).length=14:=rfl
  generalize (([.str (Txt.slice (Str.join sp1 (t.ws++L.ws)) (some 1) none),.str ((" ":Str)++(Str.join sp1 (t.ws++L.ws))),.str ((Str.join sp1 (t.ws++L.ws))++(" ":Str)),.str ((Str.join sp1 (t.ws++L.ws))++(" :":Str)),.str ((Str.join sp1 (t.ws++L.ws))++(" ;":Str)),.str ((Str.join sp1 (t.ws++L.ws))++(" & any":Str)),.str ((Str.join sp1 (t.ws++L.ws))++("\n":Str)),.non,.int 5]++[.ref q2,.str (Txt.slice (Str.join sp1 (t.ws++L.ws)) (some ((t.tx.length:Int)+1)) none),.str (Txt.replace (Str.join sp1 (t.ws++L.ws)) (" : ":Str) (" ":Str))])++[.str (Txt.replace (Str.join sp1 (t.ws++L.ws)) (" ":Str) ("  ":Str)),.str (up (Str.join sp1 (t.ws++L.ws)))]:List V)=os at *
  have W10:=W9.same S6
  have h10:=S6 _ _ h9
  have hp7:=S6 _ _ hp6
  have hA7:=hA6.same S6
  have e7:=S6 _ _ e3
  have o7:upd (upd H17 q5 (.lst [.str (Txt.replace (Str.join sp1 (t.ws++L.ws)) (" ":Str) ("  ":Str)),.str (up (Str.join sp1 (t.ws++L.ws)))])) q6 (.lst os) q6=some (.lst os):=aA
  generalize upd (upd H17 q5 (.lst [.str (Txt.replace (Str.join sp1 (t.ws++L.ws)) (" ":Str) ("  ":Str)),.str (up (Str.join sp1 (t.ws++L.ws)))])) q6 (.lst os)=H18 at *
  clear S5 S6 W9 h9 hp6 hA6 e3 hq5 hq6 e4
  walk_at "ho"
  nofun
  refine ixt (SqT.of hp7) (v:=tv) rfl ⟨tv,t,by omega,rfl,hA7,ht,by omega,fun H19 S19=>?_⟩
  have hO:=CM1 wf hz hB
  nofun
  refine ⟨szM (by omega),.str (t.tx++ut),rfl,.inl ⟨_,rfl,hO⟩,fun H20 S20=>?_⟩
  have S20:=S19.trans S20
  have W11:=W10.same S20
  have h11:=S20 _ _ h10
  have e8:=S20 _ _ e7
  have o8:=S20 _ _ o7
  exists Bool.not_true
  refine sY W11 (by decide) (by decide) fun j H21 j0 j1 W12 B12=>?_
  have h12:=B12 l _ l0 h11
  have e12:=B12 _ _ n2 e8
  have o12:=B12 _ _ n6 o8
  obtain ⟨x,hx,ex⟩:=qY (xs:=os) j0 (by rw [ln]; exact j1)
  refine ixl (SqL.of o12) ex ?_
  refine ⟨x,rfl,all x hx _ e12,fun H22 S22=>?_⟩
  exists Bool.not_true
  exact ⟨⟨_,_,_,_,_,_,_,_,rfl⟩,S22 _ _ h12⟩
 ·rintro σ H1 ⟨⟨s1,s2,s3,s4,s5,s6,s7,s8,rfl⟩,h1⟩
  nofun
  exact q _
end
end Bw
set_option hygiene false
def hB (x:Array Lean.Term):Nat->Nat->Nat->Lean.MacroM Lean.Term
 |0,_,_=>`(L)
 |n+1,o,s=>if o<x.size then do `(N $(x[o]!) $(← hB x n (o+s) (2*s)) $(← hB x n (o+2*s) (2*s))) else `(L)
def hI (s:String):Lean.Ident:=Lean.mkIdent (.mkSimple s)
def hO (i:Nat):Lean.Term:=hI s!"o{i}"
local macro_rules
 |`(command| #check (0,$xs,*))=>do
  let mut E:Array (Array Lean.Term):=#[]
  let mut r:Array Lean.Syntax:=#[]
  for x in xs.getElems do
   let m:=hI s!"o{E.size}"
   match x with
   |`(($b,$n,$ys,*))=>
    let mut a:Array Lean.Term:=match b with |`($k:num)=>E[k.getNat]! |_=>#[]
    for y in ys.getElems do
     match y with
     |`($k:num*$v)=>a:=a.set! k.getNat v
     |_=>a:=a.push y
    E:=E.push a
    match n with
    |`($k:num)=>r:=r.push (← `(command| def $m := di #[$a,*] $k))
    |_=>r:=r.push (← `(command| def $m := fd #[$a,*]))
   |_=>
    E:=E.push #[]
    r:=r.push (← `(command| def $m := $x))
  return Lean.mkNullNode r
 |`(command| #check (1,$xs,*))=>do
  let mut a:Array Lean.Term:=#[]
  let mut r:Array Lean.Syntax:=#[]
  for x in xs.getElems do
   match x with
   |`((1,$n:num,$l))=>
    let m:=hI s!"heap_{n.getNat}_"
    r:=r.push (← `(command| def $m : PySem.Heap := Heap.mk (Array.mk [$a,*]) ($l)))
   |`(($n:num,$ys,*))=>
    let mut f:Array Lean.Term:=#[]
    let z:=n.getNat==0
    for y in ys.getElems do
     match y with
     |`($k:num*$v:num)=>a:=a.set! k.getNat (hO v.getNat)
     |`($k:num-$v:num)=>
      for i in [k.getNat:v.getNat+1] do
       if z then
        let q:Lean.Term:=Lean.quote i
        f:=f.push (← `(($q,$(a[i]!))))
       else a:=a.push (hO i)
     |`($k:num)=>if z then f:=f.push (← `(($k,$(a[k.getNat]!)))) else a:=a.push (hO k.getNat)
     |_=>pure ()
    if z then
     let m:=hI "heap_39_"
     r:=r.push (← `(command| def $m : Frag := [$f,*]))
    else
     let m:=hI s!"tree_{n.getNat}_"
     let v← hB a 12 0 1
     r:=r.push (← `(command| def $m : BT := $v))
   |_=>pure ()
  return Lean.mkNullNode r
 |`(command| #check (2,$xs,*))=>do
  let mut r:Array Lean.Syntax:=#[]
  for x in xs.getElems do
   match x with
   |`(($n:num,$t,$m:num))=>
    let w:=hI s!"tw{n.getNat}"
    let e:=hI s!"te{n.getNat}"
    let i:=hI s!"y{m.getNat}"
    let y← match t with
     |`($s:str)=>
      let g:=hI s!"{s.getString}_{m.getNat}_"
      r:=r.push (← `(command| noncomputable def $i (A:AT) := fun P:Params=>@$g A ⟨P⟩))
      `($i)
     |_=>`($t $m)
    r:=r.push (← `(command| noncomputable def $w := $y B0))
    r:=r.push (← `(command| theorem $e : $y A0 = $w := congrArg $y ab))
   |_=>pure ()
  return Lean.mkNullNode r
 |`(command| #check (3,$xs,*))=>do
  let mut a:Array Lean.Term:=#[]
  let mut b:Array Lean.Term:=#[]
  let ys:=xs.getElems
  for i in [0:(ys.size+15)/16] do
   let z:=ys.extract (16*i) (16*i+16)
   a:=a.push (← `([$z,*]))
   let mut u:Array Lean.Term:=#[]
   for y in z do
    let c:Array Lean.Term:=(match y with |`($s:str)=>s.getString.toList |_=>[]).toArray.map fun c=>Lean.quote c.toNat
    u:=u.push (← `(⟨⟨[$c,*]⟩⟩))
   b:=b.push (← `([$u,*]))
  let m:=hI "a0"
  let n:=hI "a1"
  return Lean.mkNullNode #[← `(command| noncomputable def $m : List (List Str) := [$a,*]),← `(command| noncomputable def $n : List (List Str) := [$b,*])]
namespace Hd
open PySem PySem.W L2
set_option maxRecDepth 100000
set_option maxHeartbeats 0
class AT where
 p:Program
 a:List (List Str)
 t:List String
class CP where
 P:Params
section
variable [A:AT]
noncomputable def s (i:Nat):Str:=(A.a.getD (i/16) []).getD (i%16) Str.empty
noncomputable def t (i:Nat):String:=A.t.getD i ""
noncomputable def stm (i:Nat):Stmt:=A.p.main.body.getD i (.Pass ⟨0,0,0,0⟩)
noncomputable abbrev N:Obj->BT->BT->BT:=BT.node
noncomputable abbrev L:BT:=BT.nil
open PyData
noncomputable section
variable [c:CP]
noncomputable def ob (i:Nat)(x:Array Value):Obj:=Obj.mk (.type (t i)) none (.fields x) #[]
noncomputable def sq (i:Nat)(x:Array Value):Obj:=Obj.mk (.type (t i)) none (.seq x 0) #[]
noncomputable def fo (i n q:Nat)(x:Stmt)(k:Nat)(g:List Addr)(d e y:Value)(v:Nat)(u:Tok)(z:Addr):Obj:=Obj.mk (.type (t i)) none (.func (FuncData.mk (s n) (s q) (dH x) (FuncBody.stmts (cK x)) (aI x) k [] d e y (.str (s v) u) none (.ref z) .none 0)) #[]
noncomputable abbrev f (n:Nat)(k:Tok):Value:=.str (s n) k
noncomputable abbrev r (n:Addr):Value:=.ref n
noncomputable abbrev j (n:Int)(k:Tok):Value:=.int n k
noncomputable def d (i:Nat)(k:Tok)(v:Value):DictEntry:=DictEntry.mk (keyHash c.P (s i)) (f i k) v
noncomputable def di (x:Array DictEntry)(n:Nat):Obj:=Obj.mk (.type (t 6)) none (.dict x n) #[]
noncomputable def fn (n q:Nat)(x:Stmt):Obj:=Obj.mk .none none (.func (FuncData.mk (s n) (s q) (dH x) (FuncBody.stmts (cK x)) (aI x) 0 [] .none .none .none .none none .none .none 0)) #[]
noncomputable def fd (x:Array Value):Obj:=Obj.mk .none none (.fields x) #[]
noncomputable abbrev i (n:Int):Value:=.int n 0
noncomputable abbrev u:Value:=.none
noncomputable abbrev T (n:Nat):Value:=.type (t n)
noncomputable abbrev bi (n:Nat):Value:=.builtin (t n)
noncomputable def co (a b c d e f1 f2 f3 f4 f5 g:Nat)(w:Bool)(k:Nat)(x1 x2 x3 x4:Value)(y z v:Nat):Obj:=ob 5 #[f a b,f c d,f 8 e,i f1,i f2,i f3,i f4,i f5,r g,.bool w,i 181,r k,x1,x2,x3,x4,i y,i z,f 8 v]
#check (0,boot_o_0 c.P,boot_o_1 c.P,boot_o_2 c.P,boot_o_3 c.P,boot_o_4 c.P,boot_o_5 c.P,boot_o_6 c.P,boot_o_7 c.P,boot_o_8 c.P,boot_o_9 c.P,boot_o_10 c.P,sq 0 #[],fd #[],co 237 182 237 183 184 1 0 0 0 0 11 false 12 u u u u 185 1 186,Obj.mk (.type (t 11)) none .plain #[some (r 13),some (r 3),some (r 3),none,some (f 140 164),none,some (r 0)],(u,11,d 56 165 (f 141 194),d 57 166 .none,d 58 167 .none,d 59 168 (bi 7),d 60 169 .none,d 61 170 (r 6),d 62 171 (r 4),d 63 173 (f 8 172),d 64 174 .none,d 65 193 (r 21),d 66 213 (r 31)),(u,u,i 1,i 0,r 20,i 5,i 0,r 27),sq 0 #[f 221 190],fn 65 65 (stm 0),co 65 187 65 188 189 1 1 0 0 3 15 true 16 u (r 17) (r 18) (r 19) 191 1 192,fo 1 65 65 (stm 0) 3 [] .none .none .none 140 164 20,sq 0 #[T 17],ob 9 #[bi 12,T 2],(u,4,d 11 203 (f 141 194),d 13 205 (f 66 204),d 15 207 (j 5 206),d 29 208 (r 29)),co 66 198 66 199 200 5 0 0 0 0 25 false 26 u u u u 201 5 202,Obj.mk (.type (t 11)) none .plain #[some (r 27),some (r 3),some (r 24),none,some (f 141 194),none,some (r 0)],(23,3,1*d 15 207 (j 5 206),2*d 29 208 (r 29),3*d 142 210 (r 32),d 57 211 .none),Obj.mk (.type (t 2)) none (.cls (ClassData.mk (s 66) [(T 17)] [(r 31),(T 17),(T 18),(T 19),(T 3)] 30 (s 66) true [] [] false none false)) #[some (r 22),none,some (f 66 196),some (f 66 204),some (bi 20),some (.bool true)],ob 13 #[f 142 209,r 31,bi 14,u],ob 8 #[r 31,r 31,r 31],ob 9 #[bi 10,r 31],(15,12,d 67 229 (r 44)),(u,u,i 1,i 0,r 20,i 5,i 0,r 27,i 7,i 0,r 40),Obj.mk (.type (t 2)) none (.cls (ClassData.mk (s 66) [(T 17)] [(r 31),(T 17),(T 18),(T 19),(T 3)] 30 (s 66) true [] [(r 44)] false none false)) #[some (r 22),none,some (f 66 196),some (f 66 204),some (bi 20),some (.bool true)],sq 0 #[r 31],(u,4,d 11 221 (f 141 194),d 13 223 (f 67 222),d 15 225 (j 7 224),d 29 226 (r 42)),co 67 216 67 217 218 7 0 0 0 0 38 false 39 u u u u 219 7 220,Obj.mk (.type (t 11)) none .plain #[some (r 40),some (r 3),some (r 37),none,some (f 141 194),none,some (r 0)],(35,2,1*d 15 225 (j 7 224),2*d 29 226 (r 42),3*d 57 227 .none),Obj.mk (.type (t 2)) none (.cls (ClassData.mk (s 67) [(r 31)] [(r 44),(r 31),(T 17),(T 18),(T 19),(T 3)] 43 (s 67) true [] [] false none false)) #[some (r 35),none,some (f 67 214),some (f 67 222),some (bi 20),some (.bool true)],ob 8 #[r 44,r 44,r 44],ob 9 #[bi 10,r 44],(31,13,d 68 245 (r 56)),(u,u,i 1,i 0,r 20,i 5,i 0,r 27,i 7,i 0,r 40,i 9,i 0,r 52),Obj.mk (.type (t 2)) none (.cls (ClassData.mk (s 66) [(T 17)] [(r 31),(T 17),(T 18),(T 19),(T 3)] 30 (s 66) true [] [(r 44),(r 56)] false none false)) #[some (r 22),none,some (f 66 196),some (f 66 204),some (bi 20),some (.bool true)],(u,4,d 11 237 (f 141 194),d 13 239 (f 68 238),d 15 241 (j 9 240),d 29 242 (r 54)),co 68 232 68 233 234 9 0 0 0 0 50 false 51 u u u u 235 9 236,Obj.mk (.type (t 11)) none .plain #[some (r 52),some (r 3),some (r 49),none,some (f 141 194),none,some (r 0)],(45,2,1*d 15 241 (j 9 240),2*d 29 242 (r 54),3*d 57 243 .none),Obj.mk (.type (t 2)) none (.cls (ClassData.mk (s 68) [(r 31)] [(r 56),(r 31),(T 17),(T 18),(T 19),(T 3)] 55 (s 68) true [] [] false none false)) #[some (r 47),none,some (f 68 230),some (f 68 238),some (bi 20),some (.bool true)],ob 8 #[r 56,r 56,r 56],ob 9 #[bi 10,r 56],(42,14,d 69 261 (r 68)),(43,u,i 11,i 0,r 64),Obj.mk (.type (t 2)) none (.cls (ClassData.mk (s 66) [(T 17)] [(r 31),(T 17),(T 18),(T 19),(T 3)] 30 (s 66) true [] [(r 44),(r 56),(r 68)] false none false)) #[some (r 22),none,some (f 66 196),some (f 66 204),some (bi 20),some (.bool true)],(u,4,d 11 253 (f 141 194),d 13 255 (f 69 254),d 15 257 (j 11 256),d 29 258 (r 66)),co 69 248 69 249 250 11 0 0 0 0 62 false 63 u u u u 251 11 252,Obj.mk (.type (t 11)) none .plain #[some (r 64),some (r 3),some (r 61),none,some (f 141 194),none,some (r 0)],(55,2,1*d 15 257 (j 11 256),2*d 29 258 (r 66),3*d 57 259 .none),Obj.mk (.type (t 2)) none (.cls (ClassData.mk (s 69) [(r 31)] [(r 68),(r 31),(T 17),(T 18),(T 19),(T 3)] 67 (s 69) true [] [] false none false)) #[some (r 59),none,some (f 69 246),some (f 69 254),some (bi 20),some (.bool true)],ob 8 #[r 68,r 68,r 68],ob 9 #[bi 10,r 68],(52,15,d 70 277 (r 80)),(53,u,i 13,i 0,r 76),Obj.mk (.type (t 2)) none (.cls (ClassData.mk (s 66) [(T 17)] [(r 31),(T 17),(T 18),(T 19),(T 3)] 30 (s 66) true [] [(r 44),(r 56),(r 68),(r 80)] false none false)) #[some (r 22),none,some (f 66 196),some (f 66 204),some (bi 20),some (.bool true)],(u,4,d 11 269 (f 141 194),d 13 271 (f 70 270),d 15 273 (j 13 272),d 29 274 (r 78)),co 70 264 70 265 266 13 0 0 0 0 74 false 75 u u u u 267 13 268,Obj.mk (.type (t 11)) none .plain #[some (r 76),some (r 3),some (r 73),none,some (f 141 194),none,some (r 0)],(65,2,1*d 15 273 (j 13 272),2*d 29 274 (r 78),3*d 57 275 .none),Obj.mk (.type (t 2)) none (.cls (ClassData.mk (s 70) [(r 31)] [(r 80),(r 31),(T 17),(T 18),(T 19),(T 3)] 79 (s 70) true [] [] false none false)) #[some (r 71),none,some (f 70 262),some (f 70 270),some (bi 20),some (.bool true)],ob 8 #[r 80,r 80,r 80],ob 9 #[bi 10,r 80],(62,22,0*d 56 165 (f 196 330),d 71 303 (r 100),d 72 312 (r 109),d 73 321 (r 116),d 74 329 (r 123),d 75 333 (f 76 332),d 77 335 (j 8 334),d 78 341 (r 128)),(63,u,i 15,i 0,r 88,i 20,i 0,r 108,i 22,i 0,r 115,i 24,i 0,r 122,i 29,i 0,r 127),Obj.mk (.type (t 2)) none (.cls (ClassData.mk (s 66) [(T 17)] [(r 31),(T 17),(T 18),(T 19),(T 3)] 30 (s 66) true [] [(r 44),(r 56),(r 68),(r 80),(r 100)] false none false)) #[some (r 22),none,some (f 66 196),some (f 66 204),some (bi 20),some (.bool true)],(u,5,d 11 285 (f 141 194),d 13 287 (f 71 286),d 15 289 (j 15 288),d 3 298 (r 97),d 29 300 (r 98)),(u,u,i 17,i 4,r 96),co 71 280 71 281 282 15 0 0 0 0 86 false 87 u u u u 283 15 284,Obj.mk (.type (t 11)) none .plain #[some (r 88),some (r 3),some (r 85),none,some (f 141 194),none,some (r 0)],sq 0 #[j 0 290],sq 0 #[f 32 294,f 231 295],fn 3 183 (aK (stm 7) 0),co 3 291 183 292 293 17 2 0 0 3 91 true 92 u (r 93) (r 94) (r 95) 296 17 297,fo 1 3 183 (aK (stm 7) 0) 3 [] (r 90) .none .none 141 194 96,sq 0 #[f 231 299],(75,2,1*d 15 289 (j 15 288),2*d 3 298 (r 97),3*d 29 300 (r 98),4*d 57 301 .none),Obj.mk (.type (t 2)) none (.cls (ClassData.mk (s 71) [(r 31)] [(r 100),(r 31),(T 17),(T 18),(T 19),(T 3)] 99 (s 71) true [] [] false none false)) #[some (r 83),none,some (f 71 278),some (f 71 286),some (bi 20),some (.bool true)],ob 8 #[r 100,r 100,r 100],ob 9 #[bi 10,r 100],sq 0 #[f 137 309],fn 72 72 (stm 9),co 72 306 72 307 308 20 1 0 0 3 103 true 104 u (r 105) (r 106) (r 107) 310 20 311,fo 1 72 72 (stm 9) 3 [] .none .none .none 181 304 108,sq 0 #[f 137 316,f 211 317,f 240 318],fn 73 73 (stm 10),co 73 313 73 314 315 22 3 0 0 3 110 true 111 u (r 112) (r 113) (r 114) 319 22 320,fo 1 73 73 (stm 10) 3 [] .none .none .none 181 304 115,sq 0 #[f 137 325,f 211 326],fn 74 74 (stm 11),co 74 322 74 323 324 24 2 0 0 3 117 true 118 u (r 119) (r 120) (r 121) 327 24 328,fo 1 74 74 (stm 11) 3 [] .none .none .none 181 304 122,fn 78 78 (stm 15),co 78 336 78 337 338 29 1 0 0 3 124 true 125 u u u (r 126) 339 29 340,fo 1 78 78 (stm 15) 3 [] .none .none .none 196 330 127,(72,27,0*d 56 165 (f 12 342),d 79 345 (f 80 344),d 81 347 (j 60 346),d 82 353 (r 133),d 7 359 (r 138),d 83 366 (r 145)),(73,u,i 36,i 0,r 132,i 40,i 0,r 137,i 44,i 0,r 144),fn 82 82 (stm 19),co 82 348 82 349 350 36 1 0 0 3 129 true 130 u u u (r 131) 351 36 352,fo 1 82 82 (stm 19) 3 [] .none .none .none 12 342 132,fn 7 7 (stm 20),co 7 354 7 355 356 40 1 0 0 3 134 true 135 u u u (r 136) 357 40 358,fo 1 7 7 (stm 20) 3 [] .none .none .none 12 342 137,sq 0 #[f 167 363],fn 83 83 (stm 21),co 83 360 83 361 362 44 1 0 0 3 139 true 140 u (r 141) (r 142) (r 143) 364 44 365,fo 1 83 83 (stm 21) 3 [] .none .none .none 12 342 144,(104,28,d 14 495 (r 253)),(105,u,i 48,i 0,r 151),(u,18,d 11 374 (f 12 342),d 13 376 (f 14 375),d 15 378 (j 48 377),d 3 386 (r 159),d 16 393 (r 166),d 17 400 (r 173),d 18 408 (r 180),d 19 416 (r 187),d 20 424 (r 194),d 21 431 (r 201),d 22 439 (r 208),d 23 446 (r 215),d 24 453 (r 222),d 25 461 (r 229),d 26 469 (r 236),d 27 478 (r 243),d 28 485 (r 250),d 29 488 (r 251)),(u,u,i 50,i 4,r 158,i 56,i 4,r 165,i 59,i 4,r 172,i 62,i 4,r 179,i 67,i 4,r 186,i 73,i 4,r 193,i 77,i 4,r 200,i 81,i 4,r 207,i 87,i 4,r 214,i 90,i 4,r 221,i 93,i 4,r 228,i 96,i 4,r 235,i 102,i 4,r 242,i 109,i 4,r 249),co 14 369 14 370 371 48 0 0 0 0 149 false 150 u u u u 372 48 373,Obj.mk (.type (t 11)) none .plain #[some (r 151),some (r 3),some (r 148),none,some (f 12 342),none,some (r 0)],sq 0 #[f 32 382,f 148 383],fn 3 39 (aK (stm 22) 0),co 3 379 39 380 381 50 2 0 0 3 153 true 154 u (r 155) (r 156) (r 157) 384 50 385,fo 1 3 39 (aK (stm 22) 0) 3 [] .none .none .none 12 342 158,sq 0 #[f 32 390],fn 16 172 (aK (stm 22) 1),co 16 387 172 388 389 56 1 0 0 3 160 true 161 u (r 162) (r 163) (r 164) 391 56 392,fo 1 16 172 (aK (stm 22) 1) 3 [] .none .none .none 12 342 165,sq 0 #[f 32 397],fn 17 208 (aK (stm 22) 2),co 17 394 208 395 396 59 1 0 0 3 167 true 168 u (r 169) (r 170) (r 171) 398 59 399,fo 1 17 208 (aK (stm 22) 2) 3 [] .none .none .none 12 342 172,sq 0 #[f 32 404,f 167 405],fn 18 159 (aK (stm 22) 3),co 18 401 159 402 403 62 1 0 0 3 174 true 175 u (r 176) (r 177) (r 178) 406 62 407,fo 1 18 159 (aK (stm 22) 3) 3 [] .none .none .none 12 342 179,sq 0 #[f 32 412,f 167 413],fn 19 188 (aK (stm 22) 4),co 19 409 188 410 411 67 2 0 0 3 181 true 182 u (r 183) (r 184) (r 185) 414 67 415,fo 1 19 188 (aK (stm 22) 4) 3 [] .none .none .none 12 342 186,sq 0 #[f 32 420,f 167 421],fn 20 153 (aK (stm 22) 5),co 20 417 153 418 419 73 2 0 0 3 188 true 189 u (r 190) (r 191) (r 192) 422 73 423,fo 1 20 153 (aK (stm 22) 5) 3 [] .none .none .none 12 342 193,sq 0 #[f 32 428],fn 21 139 (aK (stm 22) 6),co 21 425 139 426 427 77 1 0 0 3 195 true 196 u (r 197) (r 198) (r 199) 429 77 430,fo 1 21 139 (aK (stm 22) 6) 3 [] .none .none .none 12 342 200,sq 0 #[f 32 435,f 167 436],fn 22 127 (aK (stm 22) 7),co 22 432 127 433 434 81 1 0 0 3 202 true 203 u (r 204) (r 205) (r 206) 437 81 438,fo 1 22 127 (aK (stm 22) 7) 3 [] .none .none .none 12 342 207,sq 0 #[f 32 443],fn 23 50 (aK (stm 22) 8),co 23 440 50 441 442 87 1 0 0 3 209 true 210 u (r 211) (r 212) (r 213) 444 87 445,fo 1 23 50 (aK (stm 22) 8) 3 [] .none .none .none 12 342 214,sq 0 #[f 32 450],fn 24 164 (aK (stm 22) 9),co 24 447 164 448 449 90 1 0 0 3 216 true 217 u (r 218) (r 219) (r 220) 451 90 452,fo 1 24 164 (aK (stm 22) 9) 3 [] .none .none .none 12 342 221,sq 0 #[f 32 457,f 175 458],fn 25 157 (aK (stm 22) 10),co 25 454 157 455 456 93 2 0 0 3 223 true 224 u (r 225) (r 226) (r 227) 459 93 460,fo 1 25 157 (aK (stm 22) 10) 3 [] .none .none .none 12 342 228,sq 0 #[f 32 465,f 156 466],fn 26 225 (aK (stm 22) 11),co 26 462 225 463 464 96 1 0 0 3 230 true 231 u (r 232) (r 233) (r 234) 467 96 468,fo 1 26 225 (aK (stm 22) 11) 3 [] .none .none .none 12 342 235,sq 0 #[f 32 473,f 206 474,f 207 475],fn 27 209 (aK (stm 22) 12),co 27 470 209 471 472 102 2 0 0 3 237 true 238 u (r 239) (r 240) (r 241) 476 102 477,fo 1 27 209 (aK (stm 22) 12) 3 [] .none .none .none 12 342 242,sq 0 #[f 32 482],fn 28 217 (aK (stm 22) 13),co 28 479 217 480 481 109 1 0 0 3 244 true 245 u (r 246) (r 247) (r 248) 483 109 484,fo 1 28 217 (aK (stm 22) 13) 3 [] .none .none .none 12 342 249,sq 0 #[f 227 486,f 193 487],(u,4,d 11 374 (f 12 342),d 15 378 (j 48 377),d 3 386 (r 159),d 16 393 (r 166),d 17 400 (r 173),d 18 408 (r 180),d 19 416 (r 187),d 20 424 (r 194),d 21 431 (r 201),d 22 439 (r 208),d 23 446 (r 215),d 24 453 (r 222),d 25 461 (r 229),d 26 469 (r 236),d 27 478 (r 243),d 28 485 (r 250),d 29 488 (r 251),d 149 490 (r 254),d 142 492 (r 255),d 57 493 .none),Obj.mk (.type (t 2)) none (.cls (ClassData.mk (s 14) [(T 3)] [(r 253),(T 3)] 252 (s 14) true [] [] false none false)) #[none,none,some (f 14 367),some (f 14 375),some (bi 4),some (.bool true)],ob 13 #[f 149 489,r 253,bi 15,bi 16],ob 13 #[f 142 491,r 253,bi 14,u],ob 8 #[r 253,r 253,r 253],ob 9 #[bi 10,r 253],(u,14,d 11 374 (f 12 342),d 13 376 (f 14 375),d 15 378 (j 48 377),d 3 386 (r 159),d 16 393 (r 166),d 17 400 (r 173),d 18 408 (r 180),d 19 416 (r 187),d 20 424 (r 194),d 21 431 (r 201),d 22 439 (r 208),d 23 446 (r 215),d 24 453 (r 222),d 25 461 (r 229)),(u,u,i 50,i 4,r 158,i 56,i 4,r 165,i 59,i 4,r 172,i 62,i 4,r 179,i 67,i 4,r 186,i 73,i 4,r 193,i 77,i 4,r 200,i 81,i 4,r 207,i 87,i 4,r 214,i 90,i 4,r 221,i 93,i 4,r 228),(116,29,0*d 56 165 (f 54 496),d 84 517 (r 267)),(117,u,i 112,i 0,r 263),(u,4,d 11 505 (f 54 496),d 13 507 (f 84 506),d 15 509 (j 112 508),d 29 510 (r 265)),co 84 500 84 501 502 112 0 0 0 0 261 false 262 u u u u 503 112 504,Obj.mk (.type (t 11)) none .plain #[some (r 263),some (r 3),some (r 260),none,some (f 54 496),none,some (r 0)],(189,4,1*d 15 509 (j 112 508),2*d 29 510 (r 265),3*d 149 512 (r 268),d 142 514 (r 269),d 57 515 .none),Obj.mk (.type (t 2)) none (.cls (ClassData.mk (s 84) [(T 3)] [(r 267),(T 3)] 266 (s 84) true [] [] false none false)) #[none,none,some (f 84 498),some (f 84 506),some (bi 4),some (.bool true)],ob 13 #[f 149 511,r 267,bi 15,bi 16],ob 13 #[f 142 513,r 267,bi 14,u],ob 8 #[r 267,r 267,r 267],ob 9 #[bi 10,r 267],(187,30,d 85 561 (r 302)),(188,u,i 114,i 0,r 277),Obj.mk (.type (t 2)) none (.cls (ClassData.mk (s 84) [(T 3)] [(r 267),(T 3)] 266 (s 84) true [] [(r 302)] false none false)) #[none,none,some (f 84 498),some (f 84 506),some (bi 4),some (.bool true)],sq 0 #[r 267],(u,7,d 11 525 (f 54 496),d 13 527 (f 85 526),d 15 529 (j 114 528),d 52 537 (r 285),d 0 547 (r 292),d 125 557 (r 299),d 29 558 (r 300)),(u,u,i 116,i 4,r 284,i 119,i 4,r 291,i 122,i 4,r 298),co 85 520 85 521 522 114 0 0 0 0 275 false 276 u u u u 523 114 524,Obj.mk (.type (t 11)) none .plain #[some (r 277),some (r 3),some (r 274),none,some (f 54 496),none,some (r 0)],sq 0 #[f 32 533,f 132 534],fn 52 232 (aK (stm 25) 0),co 52 530 232 531 532 116 2 0 0 3 279 true 280 u (r 281) (r 282) (r 283) 535 116 536,fo 1 52 232 (aK (stm 25) 0) 3 [] .none .none .none 54 496 284,sq 0 #[f 32 541,f 178 542,f 179 543,f 180 544],fn 0 177 (aK (stm 25) 1),co 0 538 177 539 540 119 4 0 0 3 286 true 287 u (r 288) (r 289) (r 290) 545 119 546,fo 1 0 177 (aK (stm 25) 1) 3 [] .none .none .none 54 496 291,sq 0 #[f 32 551,f 33 552,f 34 553,f 35 554],fn 125 151 (aK (stm 25) 2),co 125 548 151 549 550 122 4 0 0 3 293 true 294 u (r 295) (r 296) (r 297) 555 122 556,fo 1 125 151 (aK (stm 25) 2) 3 [] .none .none .none 54 496 298,(202,2,1*d 15 529 (j 114 528),2*d 52 537 (r 285),3*d 0 547 (r 292),4*d 125 557 (r 299),5*d 29 558 (r 300),6*d 57 559 .none),Obj.mk (.type (t 2)) none (.cls (ClassData.mk (s 85) [(r 267)] [(r 302),(r 267),(T 3)] 301 (s 85) true [] [] false none false)) #[some (r 272),none,some (f 85 518),some (f 85 526),some (bi 4),some (.bool true)],ob 8 #[r 302,r 302,r 302],ob 9 #[bi 10,r 302],(198,31,d 86 614 (r 342)),(199,u,i 124,i 0,r 310),Obj.mk (.type (t 2)) none (.cls (ClassData.mk (s 84) [(T 3)] [(r 267),(T 3)] 266 (s 84) true [] [(r 302),(r 342)] false none false)) #[none,none,some (f 84 498),some (f 84 506),some (bi 4),some (.bool true)],(u,8,d 11 569 (f 54 496),d 13 571 (f 86 570),d 15 573 (j 124 572),d 3 581 (r 318),d 52 589 (r 325),d 0 599 (r 332),d 125 609 (r 339),d 29 611 (r 340)),(u,u,i 126,i 4,r 317,i 130,i 4,r 324,i 133,i 4,r 331,i 136,i 4,r 338),co 86 564 86 565 566 124 0 0 0 0 308 false 309 u u u u 567 124 568,Obj.mk (.type (t 11)) none .plain #[some (r 310),some (r 3),some (r 307),none,some (f 54 496),none,some (r 0)],sq 0 #[f 32 577,f 156 578],fn 3 47 (aK (stm 26) 0),co 3 574 47 575 576 126 2 0 0 3 312 true 313 u (r 314) (r 315) (r 316) 579 126 580,fo 1 3 47 (aK (stm 26) 0) 3 [] .none .none .none 54 496 317,sq 0 #[f 32 585,f 132 586],fn 52 53 (aK (stm 26) 1),co 52 582 53 583 584 130 2 0 0 3 319 true 320 u (r 321) (r 322) (r 323) 587 130 588,fo 1 52 53 (aK (stm 26) 1) 3 [] .none .none .none 54 496 324,sq 0 #[f 32 593,f 178 594,f 179 595,f 180 596],fn 0 174 (aK (stm 26) 2),co 0 590 174 591 592 133 4 0 0 3 326 true 327 u (r 328) (r 329) (r 330) 597 133 598,fo 1 0 174 (aK (stm 26) 2) 3 [] .none .none .none 54 496 331,sq 0 #[f 32 603,f 33 604,f 34 605,f 35 606],fn 125 195 (aK (stm 26) 3),co 125 600 195 601 602 136 4 0 0 3 333 true 334 u (r 335) (r 336) (r 337) 607 136 608,fo 1 125 195 (aK (stm 26) 3) 3 [] .none .none .none 54 496 338,sq 0 #[f 156 610],(225,2,1*d 15 573 (j 124 572),2*d 3 581 (r 318),3*d 52 589 (r 325),4*d 0 599 (r 332),5*d 125 609 (r 339),6*d 29 611 (r 340),7*d 57 612 .none),Obj.mk (.type (t 2)) none (.cls (ClassData.mk (s 86) [(r 267)] [(r 342),(r 267),(T 3)] 341 (s 86) true [] [] false none false)) #[some (r 305),none,some (f 86 562),some (f 86 570),some (bi 4),some (.bool true)],ob 8 #[r 342,r 342,r 342],ob 9 #[bi 10,r 342],(222,32,d 87 667 (r 382)),(223,u,i 138,i 0,r 350),Obj.mk (.type (t 2)) none (.cls (ClassData.mk (s 84) [(T 3)] [(r 267),(T 3)] 266 (s 84) true [] [(r 302),(r 342),(r 382)] false none false)) #[none,none,some (f 84 498),some (f 84 506),some (bi 4),some (.bool true)],(u,8,d 11 622 (f 54 496),d 13 624 (f 87 623),d 15 626 (j 138 625),d 3 634 (r 358),d 52 642 (r 365),d 0 652 (r 372),d 125 662 (r 379),d 29 664 (r 380)),(u,u,i 140,i 4,r 357,i 144,i 4,r 364,i 147,i 4,r 371,i 150,i 4,r 378),co 87 617 87 618 619 138 0 0 0 0 348 false 349 u u u u 620 138 621,Obj.mk (.type (t 11)) none .plain #[some (r 350),some (r 3),some (r 347),none,some (f 54 496),none,some (r 0)],sq 0 #[f 32 630,f 156 631],fn 3 124 (aK (stm 27) 0),co 3 627 124 628 629 140 2 0 0 3 352 true 353 u (r 354) (r 355) (r 356) 632 140 633,fo 1 3 124 (aK (stm 27) 0) 3 [] .none .none .none 54 496 357,sq 0 #[f 32 638,f 132 639],fn 52 144 (aK (stm 27) 1),co 52 635 144 636 637 144 2 0 0 3 359 true 360 u (r 361) (r 362) (r 363) 640 144 641,fo 1 52 144 (aK (stm 27) 1) 3 [] .none .none .none 54 496 364,sq 0 #[f 32 646,f 178 647,f 179 648,f 180 649],fn 0 150 (aK (stm 27) 2),co 0 643 150 644 645 147 4 0 0 3 366 true 367 u (r 368) (r 369) (r 370) 650 147 651,fo 1 0 150 (aK (stm 27) 2) 3 [] .none .none .none 54 496 371,sq 0 #[f 32 656,f 33 657,f 34 658,f 35 659],fn 125 165 (aK (stm 27) 3),co 125 653 165 654 655 150 4 0 0 3 373 true 374 u (r 375) (r 376) (r 377) 660 150 661,fo 1 125 165 (aK (stm 27) 3) 3 [] .none .none .none 54 496 378,sq 0 #[f 156 663],(253,2,1*d 15 626 (j 138 625),2*d 3 634 (r 358),3*d 52 642 (r 365),4*d 0 652 (r 372),5*d 125 662 (r 379),6*d 29 664 (r 380),7*d 57 665 .none),Obj.mk (.type (t 2)) none (.cls (ClassData.mk (s 87) [(r 267)] [(r 382),(r 267),(T 3)] 381 (s 87) true [] [] false none false)) #[some (r 345),none,some (f 87 615),some (f 87 623),some (bi 4),some (.bool true)],ob 8 #[r 382,r 382,r 382],ob 9 #[bi 10,r 382],(250,33,d 88 720 (r 422)),(251,u,i 152,i 0,r 390),Obj.mk (.type (t 2)) none (.cls (ClassData.mk (s 84) [(T 3)] [(r 267),(T 3)] 266 (s 84) true [] [(r 302),(r 342),(r 382),(r 422)] false none false)) #[none,none,some (f 84 498),some (f 84 506),some (bi 4),some (.bool true)],(u,8,d 11 675 (f 54 496),d 13 677 (f 88 676),d 15 679 (j 152 678),d 3 687 (r 398),d 52 695 (r 405),d 0 705 (r 412),d 125 715 (r 419),d 29 717 (r 420)),(u,u,i 154,i 4,r 397,i 159,i 4,r 404,i 162,i 4,r 411,i 165,i 4,r 418),co 88 670 88 671 672 152 0 0 0 0 388 false 389 u u u u 673 152 674,Obj.mk (.type (t 11)) none .plain #[some (r 390),some (r 3),some (r 387),none,some (f 54 496),none,some (r 0)],sq 0 #[f 32 683,f 2 684],fn 3 128 (aK (stm 28) 0),co 3 680 128 681 682 154 2 0 0 3 392 true 393 u (r 394) (r 395) (r 396) 685 154 686,fo 1 3 128 (aK (stm 28) 0) 3 [] .none .none .none 54 496 397,sq 0 #[f 32 691,f 132 692],fn 52 158 (aK (stm 28) 1),co 52 688 158 689 690 159 2 0 0 3 399 true 400 u (r 401) (r 402) (r 403) 693 159 694,fo 1 52 158 (aK (stm 28) 1) 3 [] .none .none .none 54 496 404,sq 0 #[f 32 699,f 178 700,f 179 701,f 180 702],fn 0 1 (aK (stm 28) 2),co 0 696 1 697 698 162 4 0 0 3 406 true 407 u (r 408) (r 409) (r 410) 703 162 704,fo 1 0 1 (aK (stm 28) 2) 3 [] .none .none .none 54 496 411,sq 0 #[f 32 709,f 33 710,f 34 711,f 35 712],fn 125 126 (aK (stm 28) 3),co 125 706 126 707 708 165 4 0 0 3 413 true 414 u (r 415) (r 416) (r 417) 713 165 714,fo 1 125 126 (aK (stm 28) 3) 3 [] .none .none .none 54 496 418,sq 0 #[f 2 716],(281,2,1*d 15 679 (j 152 678),2*d 3 687 (r 398),3*d 52 695 (r 405),4*d 0 705 (r 412),5*d 125 715 (r 419),6*d 29 717 (r 420),7*d 57 718 .none),Obj.mk (.type (t 2)) none (.cls (ClassData.mk (s 88) [(r 267)] [(r 422),(r 267),(T 3)] 421 (s 88) true [] [] false none false)) #[some (r 385),none,some (f 88 668),some (f 88 676),some (bi 4),some (.bool true)],ob 8 #[r 422,r 422,r 422],ob 9 #[bi 10,r 422],(278,34,d 89 773 (r 462)),(279,u,i 167,i 0,r 430),Obj.mk (.type (t 2)) none (.cls (ClassData.mk (s 84) [(T 3)] [(r 267),(T 3)] 266 (s 84) true [] [(r 302),(r 342),(r 382),(r 422),(r 462)] false none false)) #[none,none,some (f 84 498),some (f 84 506),some (bi 4),some (.bool true)],(u,8,d 11 728 (f 54 496),d 13 730 (f 89 729),d 15 732 (j 167 731),d 3 740 (r 438),d 52 748 (r 445),d 0 758 (r 452),d 125 768 (r 459),d 29 770 (r 460)),(u,u,i 169,i 4,r 437,i 173,i 4,r 444,i 176,i 4,r 451,i 179,i 4,r 458),co 89 723 89 724 725 167 0 0 0 0 428 false 429 u u u u 726 167 727,Obj.mk (.type (t 11)) none .plain #[some (r 430),some (r 3),some (r 427),none,some (f 54 496),none,some (r 0)],sq 0 #[f 32 736,f 194 737],fn 3 31 (aK (stm 29) 0),co 3 733 31 734 735 169 2 0 0 3 432 true 433 u (r 434) (r 435) (r 436) 738 169 739,fo 1 3 31 (aK (stm 29) 0) 3 [] .none .none .none 54 496 437,sq 0 #[f 32 744,f 132 745],fn 52 176 (aK (stm 29) 1),co 52 741 176 742 743 173 2 0 0 3 439 true 440 u (r 441) (r 442) (r 443) 746 173 747,fo 1 52 176 (aK (stm 29) 1) 3 [] .none .none .none 54 496 444,sq 0 #[f 32 752,f 178 753,f 179 754,f 180 755],fn 0 171 (aK (stm 29) 2),co 0 749 171 750 751 176 4 0 0 3 446 true 447 u (r 448) (r 449) (r 450) 756 176 757,fo 1 0 171 (aK (stm 29) 2) 3 [] .none .none .none 54 496 451,sq 0 #[f 32 762,f 33 763,f 34 764,f 35 765],fn 125 135 (aK (stm 29) 3),co 125 759 135 760 761 179 4 0 0 3 453 true 454 u (r 455) (r 456) (r 457) 766 179 767,fo 1 125 135 (aK (stm 29) 3) 3 [] .none .none .none 54 496 458,sq 0 #[f 194 769],(309,2,1*d 15 732 (j 167 731),2*d 3 740 (r 438),3*d 52 748 (r 445),4*d 0 758 (r 452),5*d 125 768 (r 459),6*d 29 770 (r 460),7*d 57 771 .none),Obj.mk (.type (t 2)) none (.cls (ClassData.mk (s 89) [(r 267)] [(r 462),(r 267),(T 3)] 461 (s 89) true [] [] false none false)) #[some (r 425),none,some (f 89 721),some (f 89 729),some (bi 4),some (.bool true)],ob 8 #[r 462,r 462,r 462],ob 9 #[bi 10,r 462],(306,35,d 90 826 (r 502)),(307,u,i 181,i 0,r 470),Obj.mk (.type (t 2)) none (.cls (ClassData.mk (s 84) [(T 3)] [(r 267),(T 3)] 266 (s 84) true [] [(r 302),(r 342),(r 382),(r 422),(r 462),(r 502)] false none false)) #[none,none,some (f 84 498),some (f 84 506),some (bi 4),some (.bool true)],(u,8,d 11 781 (f 54 496),d 13 783 (f 90 782),d 15 785 (j 181 784),d 3 793 (r 478),d 52 801 (r 485),d 0 811 (r 492),d 125 821 (r 499),d 29 823 (r 500)),(u,u,i 183,i 4,r 477,i 187,i 4,r 484,i 190,i 4,r 491,i 193,i 4,r 498),co 90 776 90 777 778 181 0 0 0 0 468 false 469 u u u u 779 181 780,Obj.mk (.type (t 11)) none .plain #[some (r 470),some (r 3),some (r 467),none,some (f 54 496),none,some (r 0)],sq 0 #[f 32 789,f 223 790],fn 3 184 (aK (stm 30) 0),co 3 786 184 787 788 183 2 0 0 3 472 true 473 u (r 474) (r 475) (r 476) 791 183 792,fo 1 3 184 (aK (stm 30) 0) 3 [] .none .none .none 54 496 477,sq 0 #[f 32 797,f 132 798],fn 52 222 (aK (stm 30) 1),co 52 794 222 795 796 187 2 0 0 3 479 true 480 u (r 481) (r 482) (r 483) 799 187 800,fo 1 52 222 (aK (stm 30) 1) 3 [] .none .none .none 54 496 484,sq 0 #[f 32 805,f 178 806,f 179 807,f 180 808],fn 0 197 (aK (stm 30) 2),co 0 802 197 803 804 190 4 0 0 3 486 true 487 u (r 488) (r 489) (r 490) 809 190 810,fo 1 0 197 (aK (stm 30) 2) 3 [] .none .none .none 54 496 491,sq 0 #[f 32 815,f 33 816,f 34 817,f 35 818],fn 125 170 (aK (stm 30) 3),co 125 812 170 813 814 193 4 0 0 3 493 true 494 u (r 495) (r 496) (r 497) 819 193 820,fo 1 125 170 (aK (stm 30) 3) 3 [] .none .none .none 54 496 498,sq 0 #[f 223 822],(337,2,1*d 15 785 (j 181 784),2*d 3 793 (r 478),3*d 52 801 (r 485),4*d 0 811 (r 492),5*d 125 821 (r 499),6*d 29 823 (r 500),7*d 57 824 .none),Obj.mk (.type (t 2)) none (.cls (ClassData.mk (s 90) [(r 267)] [(r 502),(r 267),(T 3)] 501 (s 90) true [] [] false none false)) #[some (r 465),none,some (f 90 774),some (f 90 782),some (bi 4),some (.bool true)],ob 8 #[r 502,r 502,r 502],ob 9 #[bi 10,r 502],(334,37,d 48 879 (r 542),d 91 886 (r 551)),(335,u,i 195,i 0,r 510,i 209,i 0,r 550),Obj.mk (.type (t 2)) none (.cls (ClassData.mk (s 84) [(T 3)] [(r 267),(T 3)] 266 (s 84) true [] [(r 302),(r 342),(r 382),(r 422),(r 462),(r 502),(r 542)] false none false)) #[none,none,some (f 84 498),some (f 84 506),some (bi 4),some (.bool true)],(u,8,d 11 834 (f 54 496),d 13 836 (f 48 835),d 15 838 (j 195 837),d 3 846 (r 518),d 52 854 (r 525),d 0 864 (r 532),d 125 874 (r 539),d 29 876 (r 540)),(u,u,i 197,i 4,r 517,i 201,i 4,r 524,i 204,i 4,r 531,i 207,i 4,r 538),co 48 829 48 830 831 195 0 0 0 0 508 false 509 u u u u 832 195 833,Obj.mk (.type (t 11)) none .plain #[some (r 510),some (r 3),some (r 507),none,some (f 54 496),none,some (r 0)],sq 0 #[f 32 842,f 223 843],fn 3 168 (aK (stm 31) 0),co 3 839 168 840 841 197 2 0 0 3 512 true 513 u (r 514) (r 515) (r 516) 844 197 845,fo 1 3 168 (aK (stm 31) 0) 3 [] .none .none .none 54 496 517,sq 0 #[f 32 850,f 132 851],fn 52 198 (aK (stm 31) 1),co 52 847 198 848 849 201 2 0 0 3 519 true 520 u (r 521) (r 522) (r 523) 852 201 853,fo 1 52 198 (aK (stm 31) 1) 3 [] .none .none .none 54 496 524,sq 0 #[f 32 858,f 178 859,f 179 860,f 180 861],fn 0 129 (aK (stm 31) 2),co 0 855 129 856 857 204 4 0 0 3 526 true 527 u (r 528) (r 529) (r 530) 862 204 863,fo 1 0 129 (aK (stm 31) 2) 3 [] .none .none .none 54 496 531,sq 0 #[f 32 868,f 33 869,f 34 870,f 35 871],fn 125 154 (aK (stm 31) 3),co 125 865 154 866 867 207 4 0 0 3 533 true 534 u (r 535) (r 536) (r 537) 872 207 873,fo 1 125 154 (aK (stm 31) 3) 3 [] .none .none .none 54 496 538,sq 0 #[f 223 875],(365,2,1*d 15 838 (j 195 837),2*d 3 846 (r 518),3*d 52 854 (r 525),4*d 0 864 (r 532),5*d 125 874 (r 539),6*d 29 876 (r 540),7*d 57 877 .none),Obj.mk (.type (t 2)) none (.cls (ClassData.mk (s 48) [(r 267)] [(r 542),(r 267),(T 3)] 541 (s 48) true [] [] false none false)) #[some (r 505),none,some (f 48 827),some (f 48 835),some (bi 4),some (.bool true)],ob 8 #[r 542,r 542,r 542],ob 9 #[bi 10,r 542],sq 0 #[f 156 883],fn 91 91 (stm 32),co 91 880 91 881 882 209 1 0 0 3 545 true 546 u (r 547) (r 548) (r 549) 884 209 885,fo 1 91 91 (stm 32) 3 [] .none .none .none 54 496 550,(362,45,0*d 56 165 (f 43 929),d 51 893 (r 558),d 92 901 (r 565),d 93 905 (j 60 904),d 94 907 (j 1440 906),d 38 914 (r 572),d 95 921 (r 579),d 30 928 (r 586),d 55 950 (r 596)),(363,u,i 212,i 0,r 557,i 215,i 0,r 564,i 223,i 0,r 571,i 225,i 0,r 578,i 228,i 0,r 585,i 232,i 0,r 592),sq 0 #[f 194 890],fn 51 51 (stm 33),co 51 887 51 888 889 212 1 0 0 3 552 true 553 u (r 554) (r 555) (r 556) 891 212 892,fo 1 51 51 (stm 33) 3 [] .none .none .none 54 496 557,sq 0 #[f 223 897,f 194 898],fn 92 92 (stm 34),co 92 894 92 895 896 215 1 0 0 3 559 true 560 u (r 561) (r 562) (r 563) 899 215 900,fo 1 92 92 (stm 34) 3 [] .none .none .none 54 496 564,sq 0 #[f 137 911],fn 38 38 (stm 38),co 38 908 38 909 910 223 1 0 0 3 566 true 567 u (r 568) (r 569) (r 570) 912 223 913,fo 1 38 38 (stm 38) 3 [] .none .none .none 49 902 571,sq 0 #[f 152 918],fn 95 95 (stm 39),co 95 915 95 916 917 225 1 0 0 3 573 true 574 u (r 575) (r 576) (r 577) 919 225 920,fo 1 95 95 (stm 39) 3 [] .none .none .none 49 902 578,sq 0 #[f 152 925],fn 30 30 (stm 40),co 30 922 30 923 924 228 1 0 0 3 580 true 581 u (r 582) (r 583) (r 584) 926 228 927,fo 1 30 30 (stm 40) 3 [] .none .none .none 49 902 585,(u,4,d 11 938 (f 43 929),d 13 940 (f 55 939),d 15 942 (j 232 941),d 29 943 (r 594)),co 55 933 55 934 935 232 0 0 0 0 590 false 591 u u u u 936 232 937,Obj.mk (.type (t 11)) none .plain #[some (r 592),some (r 3),some (r 589),none,some (f 43 929),none,some (r 0)],(416,4,1*d 15 942 (j 232 941),2*d 29 943 (r 594),3*d 149 945 (r 597),d 142 947 (r 598),d 57 948 .none),Obj.mk (.type (t 2)) none (.cls (ClassData.mk (s 55) [(T 3)] [(r 596),(T 3)] 595 (s 55) true [] [] false none false)) #[none,none,some (f 55 931),some (f 55 939),some (bi 4),some (.bool true)],ob 13 #[f 149 944,r 596,bi 15,bi 16],ob 13 #[f 142 946,r 596,bi 14,u],ob 8 #[r 596,r 596,r 596],ob 9 #[bi 10,r 596],(394,46,d 96 982 (r 624)),(395,u,i 234,i 0,r 606),Obj.mk (.type (t 2)) none (.cls (ClassData.mk (s 55) [(T 3)] [(r 596),(T 3)] 595 (s 55) true [] [(r 624)] false none false)) #[none,none,some (f 55 931),some (f 55 939),some (bi 4),some (.bool true)],sq 0 #[r 596],(u,6,d 11 958 (f 43 929),d 13 960 (f 96 959),d 15 962 (j 234 961),d 133 971 (r 614),d 41 978 (r 621),d 29 979 (r 622)),(u,u,i 236,i 4,r 613,i 239,i 4,r 620),co 96 953 96 954 955 234 0 0 0 0 604 false 605 u u u u 956 234 957,Obj.mk (.type (t 11)) none .plain #[some (r 606),some (r 3),some (r 603),none,some (f 43 929),none,some (r 0)],sq 0 #[f 32 966,f 130 967,f 131 968],fn 133 161 (aK (stm 43) 0),co 133 963 161 964 965 236 3 0 0 3 608 true 609 u (r 610) (r 611) (r 612) 969 236 970,fo 1 133 161 (aK (stm 43) 0) 3 [] .none .none .none 43 929 613,sq 0 #[f 32 975],fn 41 246 (aK (stm 43) 1),co 41 972 246 973 974 239 1 0 0 3 615 true 616 u (r 617) (r 618) (r 619) 976 239 977,fo 1 41 246 (aK (stm 43) 1) 3 [] .none .none .none 43 929 620,(429,2,1*d 15 962 (j 234 961),2*d 133 971 (r 614),3*d 41 978 (r 621),4*d 29 979 (r 622),5*d 57 980 .none),Obj.mk (.type (t 2)) none (.cls (ClassData.mk (s 96) [(r 596)] [(r 624),(r 596),(T 3)] 623 (s 96) true [] [] false none false)) #[some (r 601),none,some (f 96 951),some (f 96 959),some (bi 4),some (.bool true)],ob 8 #[r 624,r 624,r 624],ob 9 #[bi 10,r 624],(425,47,d 6 1023 (r 657)),(426,u,i 241,i 0,r 632),Obj.mk (.type (t 2)) none (.cls (ClassData.mk (s 55) [(T 3)] [(r 596),(T 3)] 595 (s 55) true [] [(r 624),(r 657)] false none false)) #[none,none,some (f 55 931),some (f 55 939),some (bi 4),some (.bool true)],(u,7,d 11 990 (f 43 929),d 13 992 (f 6 991),d 15 994 (j 241 993),d 3 1002 (r 640),d 133 1011 (r 647),d 41 1018 (r 654),d 29 1020 (r 655)),(u,u,i 243,i 4,r 639,i 247,i 4,r 646,i 250,i 4,r 653),co 6 985 6 986 987 241 0 0 0 0 630 false 631 u u u u 988 241 989,Obj.mk (.type (t 11)) none .plain #[some (r 632),some (r 3),some (r 629),none,some (f 43 929),none,some (r 0)],sq 0 #[f 32 998,f 152 999],fn 3 173 (aK (stm 44) 0),co 3 995 173 996 997 243 2 0 0 3 634 true 635 u (r 636) (r 637) (r 638) 1000 243 1001,fo 1 3 173 (aK (stm 44) 0) 3 [] .none .none .none 43 929 639,sq 0 #[f 32 1006,f 130 1007,f 131 1008],fn 133 134 (aK (stm 44) 1),co 133 1003 134 1004 1005 247 3 0 0 3 641 true 642 u (r 643) (r 644) (r 645) 1009 247 1010,fo 1 133 134 (aK (stm 44) 1) 3 [] .none .none .none 43 929 646,sq 0 #[f 32 1015],fn 41 42 (aK (stm 44) 2),co 41 1012 42 1013 1014 250 1 0 0 3 648 true 649 u (r 650) (r 651) (r 652) 1016 250 1017,fo 1 41 42 (aK (stm 44) 2) 3 [] .none .none .none 43 929 653,sq 0 #[f 152 1019],(448,2,1*d 15 994 (j 241 993),2*d 3 1002 (r 640),3*d 133 1011 (r 647),4*d 41 1018 (r 654),5*d 29 1020 (r 655),6*d 57 1021 .none),Obj.mk (.type (t 2)) none (.cls (ClassData.mk (s 6) [(r 596)] [(r 657),(r 596),(T 3)] 656 (s 6) true [] [] false none false)) #[some (r 627),none,some (f 6 983),some (f 6 991),some (bi 4),some (.bool true)],ob 8 #[r 657,r 657,r 657],ob 9 #[bi 10,r 657],(445,48,d 97 1064 (r 690)),(446,u,i 252,i 0,r 665),Obj.mk (.type (t 2)) none (.cls (ClassData.mk (s 55) [(T 3)] [(r 596),(T 3)] 595 (s 55) true [] [(r 624),(r 657),(r 690)] false none false)) #[none,none,some (f 55 931),some (f 55 939),some (bi 4),some (.bool true)],(u,7,d 11 1031 (f 43 929),d 13 1033 (f 97 1032),d 15 1035 (j 252 1034),d 3 1043 (r 673),d 133 1052 (r 680),d 41 1059 (r 687),d 29 1061 (r 688)),(u,u,i 254,i 4,r 672,i 258,i 4,r 679,i 261,i 4,r 686),co 97 1026 97 1027 1028 252 0 0 0 0 663 false 664 u u u u 1029 252 1030,Obj.mk (.type (t 11)) none .plain #[some (r 665),some (r 3),some (r 662),none,some (f 43 929),none,some (r 0)],sq 0 #[f 32 1039,f 152 1040],fn 3 169 (aK (stm 45) 0),co 3 1036 169 1037 1038 254 2 0 0 3 667 true 668 u (r 669) (r 670) (r 671) 1041 254 1042,fo 1 3 169 (aK (stm 45) 0) 3 [] .none .none .none 43 929 672,sq 0 #[f 32 1047,f 130 1048,f 131 1049],fn 133 224 (aK (stm 45) 1),co 133 1044 224 1045 1046 258 3 0 0 3 674 true 675 u (r 676) (r 677) (r 678) 1050 258 1051,fo 1 133 224 (aK (stm 45) 1) 3 [] .none .none .none 43 929 679,sq 0 #[f 32 1056],fn 41 138 (aK (stm 45) 2),co 41 1053 138 1054 1055 261 1 0 0 3 681 true 682 u (r 683) (r 684) (r 685) 1057 261 1058,fo 1 41 138 (aK (stm 45) 2) 3 [] .none .none .none 43 929 686,sq 0 #[f 152 1060],(472,2,1*d 15 1035 (j 252 1034),2*d 3 1043 (r 673),3*d 133 1052 (r 680),4*d 41 1059 (r 687),5*d 29 1061 (r 688),6*d 57 1062 .none),Obj.mk (.type (t 2)) none (.cls (ClassData.mk (s 97) [(r 596)] [(r 690),(r 596),(T 3)] 689 (s 97) true [] [] false none false)) #[some (r 660),none,some (f 97 1024),some (f 97 1032),some (bi 4),some (.bool true)],ob 8 #[r 690,r 690,r 690],ob 9 #[bi 10,r 690],(469,49,0*d 56 165 (f 5 1097),d 98 1096 (r 716)),(470,u,i 263,i 0,r 698),Obj.mk (.type (t 2)) none (.cls (ClassData.mk (s 55) [(T 3)] [(r 596),(T 3)] 595 (s 55) true [] [(r 624),(r 657),(r 690),(r 716)] false none false)) #[none,none,some (f 55 931),some (f 55 939),some (bi 4),some (.bool true)],(u,6,d 11 1072 (f 43 929),d 13 1074 (f 98 1073),d 15 1076 (j 263 1075),d 133 1085 (r 706),d 41 1092 (r 713),d 29 1093 (r 714)),(u,u,i 265,i 4,r 705,i 268,i 4,r 712),co 98 1067 98 1068 1069 263 0 0 0 0 696 false 697 u u u u 1070 263 1071,Obj.mk (.type (t 11)) none .plain #[some (r 698),some (r 3),some (r 695),none,some (f 43 929),none,some (r 0)],sq 0 #[f 32 1080,f 130 1081,f 131 1082],fn 133 143 (aK (stm 46) 0),co 133 1077 143 1078 1079 265 3 0 0 3 700 true 701 u (r 702) (r 703) (r 704) 1083 265 1084,fo 1 133 143 (aK (stm 46) 0) 3 [] .none .none .none 43 929 705,sq 0 #[f 32 1089],fn 41 212 (aK (stm 46) 1),co 41 1086 212 1087 1088 268 1 0 0 3 707 true 708 u (r 709) (r 710) (r 711) 1090 268 1091,fo 1 41 212 (aK (stm 46) 1) 3 [] .none .none .none 43 929 712,(496,2,1*d 15 1076 (j 263 1075),2*d 133 1085 (r 706),3*d 41 1092 (r 713),4*d 29 1093 (r 714),5*d 57 1094 .none),Obj.mk (.type (t 2)) none (.cls (ClassData.mk (s 98) [(r 596)] [(r 716),(r 596),(T 3)] 715 (s 98) true [] [] false none false)) #[some (r 693),none,some (f 98 1065),some (f 98 1073),some (bi 4),some (.bool true)],ob 8 #[r 716,r 716,r 716],ob 9 #[bi 10,r 716],(493,50,d 99 1131 (r 736)),(494,u,i 271,i 0,r 724),(u,5,d 11 1106 (f 5 1097),d 13 1108 (f 99 1107),d 15 1110 (j 271 1109),d 3 1120 (r 733),d 29 1124 (r 734)),(u,u,i 273,i 4,r 732),co 99 1101 99 1102 1103 271 0 0 0 0 722 false 723 u u u u 1104 271 1105,Obj.mk (.type (t 11)) none .plain #[some (r 724),some (r 3),some (r 721),none,some (f 5 1097),none,some (r 0)],sq 0 #[u],sq 0 #[f 32 1114,f 44 1115,f 45 1116,f 46 1117],fn 3 4 (aK (stm 48) 0),co 3 1111 4 1112 1113 273 4 0 0 3 727 true 728 u (r 729) (r 730) (r 731) 1118 273 1119,fo 1 3 4 (aK (stm 48) 0) 3 [] (r 726) .none .none 5 1097 732,sq 0 #[f 44 1121,f 45 1122,f 46 1123],(514,4,1*d 15 1110 (j 271 1109),2*d 3 1120 (r 733),3*d 29 1124 (r 734),4*d 149 1126 (r 737),d 142 1128 (r 738),d 57 1129 .none),Obj.mk (.type (t 2)) none (.cls (ClassData.mk (s 99) [(T 3)] [(r 736),(T 3)] 735 (s 99) true [] [] false none false)) #[none,none,some (f 99 1099),some (f 99 1107),some (bi 4),some (.bool true)],ob 13 #[f 149 1125,r 736,bi 15,bi 16],ob 13 #[f 142 1127,r 736,bi 14,u],ob 8 #[r 736,r 736,r 736],ob 9 #[bi 10,r 736],(512,56,0*d 56 165 (f 37 1179),d 100 1168 (r 758),d 101 1178 (r 769),d 102 1186 (r 774),d 103 1193 (r 781),d 104 1201 (r 788),d 105 1209 (r 795)),(513,u,i 283,i 0,r 746,i 302,i 0,r 768,i 309,i 0,r 773,i 323,i 0,r 780,i 329,i 0,r 787,i 334,i 0,r 794),(u,5,d 11 1139 (f 5 1097),d 13 1141 (f 100 1140),d 15 1143 (j 283 1142),d 3 1155 (r 755),d 29 1161 (r 756)),(u,u,i 285,i 4,r 754),co 100 1134 100 1135 1136 283 0 0 0 0 744 false 745 u u u u 1137 283 1138,Obj.mk (.type (t 11)) none .plain #[some (r 746),some (r 3),some (r 743),none,some (f 5 1097),none,some (r 0)],sq 0 #[.bool false,u],sq 0 #[f 32 1147,f 194 1148,f 40 1149,f 145 1150,f 146 1151,f 147 1152],fn 3 166 (aK (stm 49) 0),co 3 1144 166 1145 1146 285 6 0 0 3 749 true 750 u (r 751) (r 752) (r 753) 1153 285 1154,fo 1 3 166 (aK (stm 49) 0) 3 [] (r 748) .none .none 5 1097 754,sq 0 #[f 194 1156,f 147 1157,f 145 1158,f 146 1159,f 40 1160],(532,4,1*d 15 1143 (j 283 1142),2*d 3 1155 (r 755),3*d 29 1161 (r 756),4*d 149 1163 (r 759),d 142 1165 (r 760),d 57 1166 .none),Obj.mk (.type (t 2)) none (.cls (ClassData.mk (s 100) [(T 3)] [(r 758),(T 3)] 757 (s 100) true [] [] false none false)) #[none,none,some (f 100 1132),some (f 100 1140),some (bi 4),some (.bool true)],ob 13 #[f 149 1162,r 758,bi 15,bi 16],ob 13 #[f 142 1164,r 758,bi 14,u],ob 8 #[r 758,r 758,r 758],ob 9 #[bi 10,r 758],sq 0 #[f 40 1172,f 145 1173,f 146 1174,f 147 1175],fn 101 101 (stm 50),co 101 1169 101 1170 1171 302 4 0 0 3 763 true 764 u (r 765) (r 766) (r 767) 1176 302 1177,fo 1 101 101 (stm 50) 3 [] .none .none .none 5 1097 768,fn 102 102 (stm 52),co 102 1181 102 1182 1183 309 1 0 0 3 770 true 771 u u u (r 772) 1184 309 1185,fo 1 102 102 (stm 52) 3 [] .none .none .none 37 1179 773,sq 0 #[f 40 1190],fn 103 103 (stm 53),co 103 1187 103 1188 1189 323 1 0 0 3 775 true 776 u (r 777) (r 778) (r 779) 1191 323 1192,fo 1 103 103 (stm 53) 3 [] .none .none .none 37 1179 780,sq 0 #[f 147 1197,f 193 1198],fn 104 104 (stm 54),co 104 1194 104 1195 1196 329 1 0 0 3 782 true 783 u (r 784) (r 785) (r 786) 1199 329 1200,fo 1 104 104 (stm 54) 3 [] .none .none .none 37 1179 787,sq 0 #[f 231 1205,f 193 1206],fn 105 105 (stm 55),co 105 1202 105 1203 1204 334 1 0 0 3 789 true 790 u (r 791) (r 792) (r 793) 1207 334 1208,fo 1 105 105 (stm 55) 3 [] .none .none .none 37 1179 794,(530,62,d 106 1216 (r 802),d 36 1226 (r 809),d 107 1256 (r 826),d 108 1265 (r 837),d 109 1274 (r 844),d 110 1284 (r 851)),(531,u,i 343,i 0,r 801,i 345,i 0,r 808,i 353,i 0,r 815,i 358,i 0,r 836,i 364,i 0,r 843,i 378,i 0,r 850),sq 0 #[f 148 1213],fn 106 106 (stm 56),co 106 1210 106 1211 1212 343 1 0 0 3 796 true 797 u (r 798) (r 799) (r 800) 1214 343 1215,fo 1 106 106 (stm 56) 3 [] .none .none .none 37 1179 801,sq 0 #[f 148 1220,f 238 1221,f 193 1222,f 239 1223],fn 36 36 (stm 57),co 36 1217 36 1218 1219 345 2 0 0 3 803 true 804 u (r 805) (r 806) (r 807) 1224 345 1225,fo 1 36 36 (stm 57) 3 [] .none .none .none 37 1179 808,(u,5,d 11 1234 (f 37 1179),d 13 1236 (f 107 1235),d 15 1238 (j 353 1237),d 3 1246 (r 823),d 29 1249 (r 824)),(u,u,i 355,i 4,r 822),co 107 1229 107 1230 1231 353 0 0 0 0 813 false 814 u u u u 1232 353 1233,Obj.mk (.type (t 11)) none .plain #[some (r 815),some (r 3),some (r 812),none,some (f 37 1179),none,some (r 0)],sq 0 #[f 32 1242,f 187 1243],fn 3 162 (aK (stm 58) 0),co 3 1239 162 1240 1241 355 2 0 0 3 817 true 818 u (r 819) (r 820) (r 821) 1244 355 1245,fo 1 3 162 (aK (stm 58) 0) 3 [] .none .none .none 37 1179 822,sq 0 #[f 186 1247,f 187 1248],(577,4,1*d 15 1238 (j 353 1237),2*d 3 1246 (r 823),3*d 29 1249 (r 824),4*d 149 1251 (r 827),d 142 1253 (r 828),d 57 1254 .none),Obj.mk (.type (t 2)) none (.cls (ClassData.mk (s 107) [(T 3)] [(r 826),(T 3)] 825 (s 107) true [] [] false none false)) #[none,none,some (f 107 1227),some (f 107 1235),some (bi 4),some (.bool true)],ob 13 #[f 149 1250,r 826,bi 15,bi 16],ob 13 #[f 142 1252,r 826,bi 14,u],ob 8 #[r 826,r 826,r 826],ob 9 #[bi 10,r 826],sq 0 #[f 193 1260,f 163 1261,f 194 1262],fn 108 108 (stm 59),co 108 1257 108 1258 1259 358 1 0 0 3 831 true 832 u (r 833) (r 834) (r 835) 1263 358 1264,fo 1 108 108 (stm 59) 3 [] .none .none .none 37 1179 836,sq 0 #[f 193 1269,f 163 1270,f 167 1271],fn 109 109 (stm 60),co 109 1266 109 1267 1268 364 2 0 0 3 838 true 839 u (r 840) (r 841) (r 842) 1272 364 1273,fo 1 109 109 (stm 60) 3 [] .none .none .none 37 1179 843,sq 0 #[f 194 1278,f 193 1279,f 163 1280,f 220 1281],fn 110 110 (stm 61),co 110 1275 110 1276 1277 378 3 0 0 3 845 true 846 u (r 847) (r 848) (r 849) 1282 378 1283,fo 1 110 110 (stm 61) 3 [] .none .none .none 37 1179 850,(567,75,0*d 56 165 (f 10 1331),d 111 1293 (r 858),d 112 1300 (r 865),d 113 1308 (r 872),d 114 1318 (r 879),d 115 1330 (r 886),d 116 1340 (r 893),d 117 1347 (r 900),d 118 1357 (r 907),d 119 1363 (r 912),d 120 1375 (r 919),d 121 1381 (r 924),d 122 1387 (r 929),d 123 1393 (r 934)),(568,u,i 387,i 0,r 857,i 395,i 0,r 864,i 403,i 0,r 871,i 414,i 0,r 878,i 419,i 0,r 885,i 431,i 0,r 892,i 435,i 0,r 899,i 437,i 0,r 906,i 447,i 0,r 911,i 458,i 0,r 918,i 470,i 0,r 923,i 478,i 0,r 928,i 492,i 0,r 933),sq 0 #[f 241 1288,f 193 1289,f 167 1290],fn 111 111 (stm 62),co 111 1285 111 1286 1287 387 2 0 0 3 852 true 853 u (r 854) (r 855) (r 856) 1291 387 1292,fo 1 111 111 (stm 62) 3 [] .none .none .none 37 1179 857,sq 0 #[f 163 1297],fn 112 112 (stm 63),co 112 1294 112 1295 1296 395 1 0 0 3 859 true 860 u (r 861) (r 862) (r 863) 1298 395 1299,fo 1 112 112 (stm 63) 3 [] .none .none .none 37 1179 864,sq 0 #[f 193 1304,f 167 1305],fn 113 113 (stm 64),co 113 1301 113 1302 1303 403 1 0 0 3 866 true 867 u (r 868) (r 869) (r 870) 1306 403 1307,fo 1 113 113 (stm 64) 3 [] .none .none .none 37 1179 871,sq 0 #[f 193 1312,f 44 1313,f 45 1314,f 46 1315],fn 114 114 (stm 65),co 114 1309 114 1310 1311 414 1 0 0 3 873 true 874 u (r 875) (r 876) (r 877) 1316 414 1317,fo 1 114 114 (stm 65) 3 [] .none .none .none 37 1179 878,sq 0 #[f 193 1322,f 194 1323,f 40 1324,f 145 1325,f 146 1326,f 147 1327],fn 115 115 (stm 66),co 115 1319 115 1320 1321 419 1 0 0 3 880 true 881 u (r 882) (r 883) (r 884) 1328 419 1329,fo 1 115 115 (stm 66) 3 [] .none .none .none 37 1179 885,sq 0 #[f 242 1336,f 191 1337],fn 116 116 (stm 68),co 116 1333 116 1334 1335 431 2 0 0 3 887 true 888 u (r 889) (r 890) (r 891) 1338 431 1339,fo 1 116 116 (stm 68) 3 [] .none .none .none 10 1331 892,sq 0 #[f 216 1344],fn 117 117 (stm 69),co 117 1341 117 1342 1343 435 1 0 0 3 894 true 895 u (r 896) (r 897) (r 898) 1345 435 1346,fo 1 117 117 (stm 69) 3 [] .none .none .none 10 1331 899,sq 0 #[f 189 1351,f 213 1352,f 190 1353,f 214 1354],fn 118 118 (stm 70),co 118 1348 118 1349 1350 437 2 0 0 3 901 true 902 u (r 903) (r 904) (r 905) 1355 437 1356,fo 1 118 118 (stm 70) 3 [] .none .none .none 10 1331 906,fn 119 119 (stm 71),co 119 1358 119 1359 1360 447 1 0 0 3 908 true 909 u u u (r 910) 1361 447 1362,fo 1 119 119 (stm 71) 3 [] .none .none .none 10 1331 911,sq 0 #[f 189 1367,f 228 1368,f 247 1369,f 248 1370,f 191 1371,f 192 1372],fn 120 120 (stm 72),co 120 1364 120 1365 1366 458 2 0 0 3 913 true 914 u (r 915) (r 916) (r 917) 1373 458 1374,fo 1 120 120 (stm 72) 3 [] .none .none .none 10 1331 918,fn 121 121 (stm 73),co 121 1376 121 1377 1378 470 3 0 0 3 920 true 921 u u u (r 922) 1379 470 1380,fo 1 121 121 (stm 73) 3 [] .none .none .none 10 1331 923,fn 122 122 (stm 74),co 122 1382 122 1383 1384 478 1 0 0 3 925 true 926 u u u (r 927) 1385 478 1386,fo 1 122 122 (stm 74) 3 [] .none .none .none 10 1331 928,fn 123 123 (stm 75),co 123 1388 123 1389 1390 492 1 0 0 3 930 true 931 u u u (r 932) 1391 492 1392,fo 1 123 123 (stm 75) 3 [] .none .none .none 10 1331 933,(604,85,d 210 1399 (r 939),d 9 1409 (r 946),d 182 1423 (r 953),d 218 1436 (r 960),d 215 1444 (r 967),d 219 1457 (r 974),d 185 1463 (r 979),d 155 1472 (r 986),d 136 1479 (r 993),d 160 1494 (r 1000)),(605,u,i 503,i 0,r 938,i 520,i 0,r 945,i 527,i 0,r 952,i 539,i 0,r 959,i 553,i 0,r 966,i 561,i 0,r 973,i 567,i 0,r 978,i 581,i 0,r 985,i 589,i 0,r 992,i 602,i 0,r 999),fn 210 210 (stm 76),co 210 1394 210 1395 1396 503 2 0 0 3 935 true 936 u u u (r 937) 1397 503 1398,fo 1 210 210 (stm 76) 3 [] .none .none .none 10 1331 938,sq 0 #[f 189 1403,f 190 1404,f 191 1405,f 192 1406],fn 9 9 (stm 77),co 9 1400 9 1401 1402 520 1 0 0 3 940 true 941 u (r 942) (r 943) (r 944) 1407 520 1408,fo 1 9 9 (stm 77) 3 [] .none .none .none 10 1331 945,sq 0 #[f 189 1413,f 228 1414,f 200 1415,f 229 1416,f 201 1417,f 202 1418,f 204 1419,f 230 1420],fn 182 182 (stm 78),co 182 1410 182 1411 1412 527 2 0 0 3 947 true 948 u (r 949) (r 950) (r 951) 1421 527 1422,fo 1 182 182 (stm 78) 3 [] .none .none .none 10 1331 952,sq 0 #[f 199 1427,f 200 1428,f 201 1429,f 202 1430,f 203 1431,f 204 1432,f 205 1433],fn 218 218 (stm 79),co 218 1424 218 1425 1426 539 1 0 0 3 954 true 955 u (r 956) (r 957) (r 958) 1434 539 1435,fo 1 218 218 (stm 79) 3 [] .none .none .none 10 1331 959,sq 0 #[f 233 1440,f 234 1441],fn 215 215 (stm 80),co 215 1437 215 1438 1439 553 2 0 0 3 961 true 962 u (r 963) (r 964) (r 965) 1442 553 1443,fo 1 215 215 (stm 80) 3 [] .none .none .none 10 1331 966,sq 0 #[f 199 1448,f 200 1449,f 201 1450,f 202 1451,f 203 1452,f 204 1453,f 226 1454],fn 219 219 (stm 81),co 219 1445 219 1446 1447 561 1 0 0 3 968 true 969 u (r 970) (r 971) (r 972) 1455 561 1456,fo 1 219 219 (stm 81) 3 [] .none .none .none 10 1331 973,fn 185 185 (stm 82),co 185 1458 185 1459 1460 567 2 0 0 3 975 true 976 u u u (r 977) 1461 567 1462,fo 1 185 185 (stm 82) 3 [] .none .none .none 10 1331 978,sq 0 #[f 235 1467,f 190 1468,f 236 1469],fn 155 155 (stm 83),co 155 1464 155 1465 1466 581 1 0 0 3 980 true 981 u (r 982) (r 983) (r 984) 1470 581 1471,fo 1 155 155 (stm 83) 3 [] .none .none .none 10 1331 985,sq 0 #[f 249 1476],fn 136 136 (stm 84),co 136 1473 136 1474 1475 589 0 0 0 3 987 true 988 u (r 989) (r 990) (r 991) 1477 589 1478,fo 1 136 136 (stm 84) 3 [] .none .none .none 10 1331 992,sq 0 #[f 242 1483,f 216 1484,f 189 1485,f 199 1486,f 235 1487,f 243 1488,f 190 1489,f 244 1490,f 245 1491],fn 160 160 (stm 85),co 160 1480 160 1481 1482 602 1 0 0 3 994 true 995 u (r 996) (r 997) (r 998) 1492 602 1493,fo 1 160 160 (stm 85) 3 [] .none .none .none 10 1331 999,Obj.mk .none none (.dict #[] 0) #[])
#check (1,(47,0-14),(1,46,Life.mk [] [] [] 0 [] [] false #[] [] 0 false false false 0 [2000,10,10] false 0 true [] [] 0 false),(70,3*15,12*16,11,12,17,11,18-23,11,12,24,25,11,26-30),(85,3*31,12*32,31*33,34,22,35,11,12,36,37,11,38-41),(100,3*42,12*43,31*44,34,22,45,11,12,46,47,11,48-51),(115,3*52,12*53,31*54,34,22,55,11,12,56,57,11,58-61),(130,3*62,12*63,31*64,34,22,65,11,12,66,67,11,68-71),(179,3*72,12*73,31*74,34,22,75,11,76-79,11,12,80,11,81-88,11,12,89,11,90-92,11,12,93,11,94-96,11,12,97,11,98-100,11,12,101-103),(198,3*104,12*105,11,12,106-108,11,12,109-111,11,12,112,11,113-115),(397,12*117,11,22,185,11,186,120,121,11,12,122,11,123-125,11,12,126,11,127-129,11,12,130,11,131-133,11,12,134,11,135-137,11,12,138,11,139-141,11,12,142,11,143-145,11,12,146,11,147-149,11,12,150,11,151-153,11,12,154,11,155-157,11,12,158,11,159-161,11,12,162,11,163-165),(312,3*116,148*118,150*119,11,12,166,11,167-169,11,12,170,11,171-173,11,12,174,11,175-184),(416,3*187,12*188,11,22,189,11,12,190,191,11,192-197),(452,3*198,12*199,267*200,201,22,202,11,203-205,11,12,206,11,207-209,11,12,210,11,211-213,11,12,214,11,215-217,11,218-221),(495,3*222,12*223,267*224,201,22,225,11,226-228,11,12,229,11,230-232,11,12,233,11,234-236,11,12,237,11,238-240,11,12,241,11,242-249),(538,3*250,12*251,267*252,201,22,253,11,254-256,11,12,257,11,258-260,11,12,261,11,262-264,11,12,265,11,266-268,11,12,269,11,270-277),(581,3*278,12*279,267*280,201,22,281,11,282-284,11,12,285,11,286-288,11,12,289,11,290-292,11,12,293,11,294-296,11,12,297,11,298-305),(624,3*306,12*307,267*308,201,22,309,11,310-312,11,12,313,11,314-316,11,12,317,11,318-320,11,12,321,11,322-324,11,12,325,11,326-333),(667,3*334,12*335,267*336,201,22,337,11,338-340,11,12,341,11,342-344,11,12,345,11,346-348,11,12,349,11,350-352,11,12,353,11,354-361),(717,3*362,12*363,267*364,201,22,365,11,366-368,11,12,369,11,370-372,11,12,373,11,374-376,11,12,377,11,378-380,11,12,381,11,382-389,11,12,390,11,391-393),(768,3*394,12*395,11,12,396,11,397-399,11,12,400,11,401-403,11,12,404,11,405-407,11,12,408,11,409-411,11,12,412,11,413-415,11,22,416,11,12,417,418,11,419-424),(797,3*425,12*426,596*427,428,22,429,11,430-432,11,12,433,11,434-436,11,12,437,11,438-440,11,441-444),(833,3*445,12*446,596*447,428,22,448,11,449-451,11,12,452,11,453-455,11,12,456,11,457-459,11,12,460,11,461-468),(869,3*469,12*470,596*471,428,22,472,11,473-475,11,12,476,11,477-479,11,12,480,11,481-483,11,12,484,11,485-492),(898,3*493,12*494,596*495,428,22,496,11,497-499,11,12,500,11,501-503,11,12,504,11,505-507,11,508-511),(922,3*512,12*513,11,22,514,11,515-518,11,12,519,11,520-529),(979,3*530,12*531,11,22,532,11,533-536,11,12,537,11,538-547,11,12,548,11,549-551,11,12,552-554,11,12,555,11,556-558,11,12,559,11,560-562,11,12,563,11,564-566),(1037,3*567,12*568,11,12,569,11,570-572,11,12,573,11,574-576,11,22,577,11,578-580,11,12,581,11,582-591,11,12,592,11,593-595,11,12,596,11,597-599,11,12,600,11,601-603),(1122,3*604,12*605,11,12,606,11,607-609,11,12,610,11,611-613,11,12,614,11,615-617,11,12,618,11,619-621,11,12,622,11,623-625,11,12,626,11,627-629,11,12,630,11,631-633,11,12,634,11,635-637,11,12,638-640,11,12,641,11,642-644,11,12,645-647,11,12,648-650,11,12,651-653),(1190,3*654,12*655,11,12,656-658,11,12,659,11,660-662,11,12,663,11,664-666,11,12,667,11,668-670,11,12,671,11,672-674,11,12,675,11,676-678,11,12,679-681,11,12,682,11,683-685,11,12,686,11,687-689,11,12,690,11,691-693),(1,1191,Life.mk [] [] [] 0 [] [] false #[] [] 0 false false false 0 [2000,10,10] false 0 true [] [] 0 false),(0,2*694,2,3,15,17,18,20-22,29-32,35,42-44,47,54-56,59,66-68,71,78-80,83,90,91,93,94,96-100,103,105,106,108-110,112,113,115-117,119,120,122-124,127-129,132-134,137-139,141,142,144,145,153,155,156,158-160,162,163,165-167,169,170,172-174,176,177,179-181,183,184,186-188,190,191,193-195,197,198,200-202,204,205,207-209,211,212,214-216,218,219,221-223,225,226,228-230,232,233,235-237,239,240,242-244,246,247,249-255,265-269,272,279,281,282,284-286,288,289,291-293,295,296,298-302,305,312,314,315,317-319,321,322,324-326,328,329,331-333,335,336,338-342,345,352,354,355,357-359,361,362,364-366,368,369,371-373,375,376,378-382,385,392,394,395,397-399,401,402,404-406,408,409,411-413,415,416,418-422,425,432,434,435,437-439,441,442,444-446,448,449,451-453,455,456,458-462,465,472,474,475,477-479,481,482,484-486,488,489,491-493,495,496,498-502,505,512,514,515,517-519,521,522,524-526,528,529,531-533,535,536,538-542,545,547,548,550-552,554,555,557-559,561,562,564-566,568,569,571-573,575,576,578-580,582,583,585,586,594-598,601,608,610,611,613-615,617,618,620-624,627,634,636,637,639-641,643,644,646-648,650,651,653-657,660,667,669,670,672-674,676,677,679-681,683,684,686-690,693,700,702,703,705-707,709,710,712-716,726,727,729,730,732-738,748,749,751,752,754-760,763,765,766,768-770,773-775,777,778,780-782,784,785,787-789,791,792,794-796,798,799,801-803,805,806,808,809,817,819,820,822-828,831,833,834,836-838,840,841,843-845,847,848,850-852,854,855,857-859,861,862,864-866,868,869,871-873,875,876,878-880,882,883,885,886,894,896,897,899-901,903,904,906-908,911-913,915,916,918-920,923-925,928-930,933-935,938-940,942,943,945-947,949,950,952-954,956,957,959-961,963,964,966-968,970,971,973-975,978-980,982,983,985-987,989,990,992-994,996,997,999,1000))
end
end
noncomputable section
end
noncomputable def _root_.PySem.W.Fast.tw12467393974372945443:Program:=PySem.Challenge.pw_bellsaway_k17_lines_as_texts
theorem _root_.PySem.W.Fast.te12467393974372945443:PySem.Challenge.pw_bellsaway_k17_lines_as_texts=Fast.tw12467393974372945443:=rfl
#check (3,"note_turns","Least.note_turns","weight","__init__","Raised.__init__","bellsaway.wishes","Hour","is_figures","/claim/cut.py","_law_roads","law_bellsaway_k17_lines_as_texts","__module__","bellsaway.words","__qualname__","Words","__firstlineno__","is_ended","look","take","takes","expect","expect_end","take_number","take_count","take_name","take_one_of","take_names","take_some","take_rest","__static_attributes__","check_minute_of_day","Not.__init__","self","kind","place","from_weight","read_whole","bellsaway.wording","is_minute_of_day","Words.__init__","way","is_gathered","Hour.is_gathered","bellsaway.ways","minutes","times","to","Kind.__init__","Either","bellsaway.clocks","Words.take_count","check_fit","fits_it","Kind.fits_it","bellsaway.fits","Way","__name__","__doc__","__package__","__loader__","__spec__","__annotations__","__builtins__","__file__","__cached__","_wall","BellError","NoClock","NoFit","NoWish","NoRow","NoText","is_whole","is_whole_between","is_whole_from","LETTERS","abcdefghijklmnopqrstuvwxyz","MOST_LETTERS","is_name","FIGURES","0123456789","MOST_FIGURES","are_unlike_names","is_number","Fit","Any","Kind","Place","Least","Not","Both","check_names","check_fits","MINUTES_OF_HOUR","MINUTES_OF_DAY","check_minute_of_hour","Now","Day","Never","Raised","Line","check_by_way","show_fit","show_way","show_raised","show_line","read_line","Opened","fit_from","plain_fit_from","closed","is_closed_here","fit_of","way_from","raised_from","line_from","_law_cell_at","_law_begin","_law_next","_law_name","_law_leaf","_law_tree","_law_made","_law_text","Place.__init__","weight_bits","Least.weight_bits","Words.take_number","Least.__init__","Either.note_turns","moment","zone","happening","moment_from","Hour.moment_from","Not.weight_bits","_law_tails","thing","Day.is_gathered","Words.expect_end","__main__","bellsaway.errors","__weakref__","Never.moment_from","Place.fits_it","roads","sure","raised","text","__dict__","Place.note_turns","Any.weight_bits","minute","Words.expect","Either.weight_bits","_law_refused","names","Words.take_one_of","Least.fits_it","Words.take","law","Now.moment_from","Opened.__init__","opened","Words.take_name","Place.weight_bits","Line.__init__","word","Either.__init__","Day.__init__","Both.weight_bits","Not.note_turns","Words.is_ended","Hour.__init__","Kind.note_turns","choices","Not.fits_it","Any.note_turns","kinds","places","weights","bellsaway.wholes","_law_drawn_line","NoText.__init__","Both.__init__","_law_same_line","inner","sign","Words.takes","_law_state","_law_found","_law_k","_law_name_here","words","fit","Kind.weight_bits","bellsaway.happenings","Both.note_turns","Either.fits_it","_law_line","_law_tree_here","_law_way_here","_law_roads_here","_law_sure","_law_raised","_law_words","count","some","Words.look","Words.take_some","_law_same","least","Never.is_gathered","_law_base","_law_number","_law_way","_law_cell","Words.take_rest","_law_line_text","_law_made_line","last","k","Both.fits_it","fits","Day.moment_from","Words.take_names","_law_handed","at","_law_more","_law_ways","_law_to","line","Any.fits_it","_law_word","_law_minute","_law_text_here","e","<module>","part_from","found","most","bracket","_law_script","_law_made_here","_law_tail","_law_odd","Now.is_gathered","_law_kind","_law_names","_law_some")
noncomputable def t0:List String:=["tuple","function","type","object","object.__new__","code","dict","__main__.__loader__#opaque","super","builtin_function_or_method","object.__init_subclass__","frame","type.__prepare__","getset_descriptor","ExceptionGroup.__weakref__","function.__dict__","function.__dict__#set","ValueError","Exception","BaseException","ValueError.__new__"]
noncomputable def t1:List String:=[SL.s2766695959194262286x5,SL.s7174869446012820540x8,SL.s17162191345867700912x4,SL.s2742458400755230247x6,SL.s11443829558043349243x14,SL.s5856160107412720595x4,SL.s14018661285674007319x4,SL.s7097527257260152453x26,SL.s4290257624100764138x5,SL.s11030030927630378310x26,SL.s4860613602091757760x24,SL.s658472552662922059x5,SL.s10062305145149207511x16,SL.s14755015743595814543x17,SL.s10220274742760427390x26,SL.s6511155373996960695x17,SL.s12411053484034534018x21,SL.s6070975301684473832x10,SL.s5946037652744460706x9,SL.s4278001404047624695x13,SL.s4209523147560561109x18]
theorem cc {α:Type}{x y:α}{l m:List α}(h:x=y)(k:l=m):x::l=y::m:=by rw [h,k]
theorem ea:a0=a1:=by
 iterate 16 refine cc (by kernel_rfl) ?_
 exact rfl
theorem et:t0=t1:=(cc SL.e2766695959194262286x5 (cc SL.e7174869446012820540x8 (cc SL.e17162191345867700912x4 (cc SL.e2742458400755230247x6 (cc SL.e11443829558043349243x14 (cc SL.e5856160107412720595x4 (cc SL.e14018661285674007319x4 (cc SL.e7097527257260152453x26 (cc SL.e4290257624100764138x5 (cc SL.e11030030927630378310x26 (cc SL.e4860613602091757760x24 (cc SL.e658472552662922059x5 (cc SL.e10062305145149207511x16 (cc SL.e14755015743595814543x17 (cc SL.e10220274742760427390x26 (cc SL.e6511155373996960695x17 (cc SL.e12411053484034534018x21 (cc SL.e6070975301684473832x10 (cc SL.e5946037652744460706x9 (cc SL.e4278001404047624695x13 (cc SL.e4209523147560561109x18 rfl)))))))))))))))))))))
noncomputable def A0:AT:=⟨PySem.Challenge.pw_bellsaway_k17_lines_as_texts,a0,t0⟩
noncomputable def B0:AT:=⟨Fast.tw12467393974372945443,a1,t1⟩
theorem ab:A0=B0:=by
 unfold A0 B0
 rw [ea,et,Fast.te12467393974372945443]
end Hd
namespace PySem.W.Fast
open Hd
noncomputable def vw (l:List Nat)(A:AT):Program:={ A.p with main:={ A.p.main with body:=l.map (@stm A) } }
noncomputable def sl (i n:Nat)(A:AT):List Stmt:=(A.p.main.body.drop i).take n
noncomputable def tw17556895175634405594:=vw [0,2,3,4,5,6,7,9,10,11,13,14,15,17,18,19,20,21,22,24,25,26,27,28,29,30,31,32,33,34,36,37,38,39,40,42,43,44,45,46,48,49,50,52,53,54,55,56,57,58,59,60,61,62,63,64,65,66,68,69,70,71,72,73,74,75,76,77,78,79,80,81,82,83,84,85] B0
theorem te17556895175634405594:vw [0,2,3,4,5,6,7,9,10,11,13,14,15,17,18,19,20,21,22,24,25,26,27,28,29,30,31,32,33,34,36,37,38,39,40,42,43,44,45,46,48,49,50,52,53,54,55,56,57,58,59,60,61,62,63,64,65,66,68,69,70,71,72,73,74,75,76,77,78,79,80,81,82,83,84,85] A0=tw17556895175634405594:=congrArg _ ab
#check (2,(1464999395978436653,sl 30,1),(13681498684577952520,sl 22,1),(7749711180321433086,sl 44,1),(8122741791746663647,sl 45,1),(15676563412222081795,sl 4,1),(10619652088423897998,sl 16,6),(17691346008336889807,sl 7,9),(15859782786829271162,sl 76,10),(10352553268222610371,sl 33,10),(13204442457668839155,sl 25,1),(13366600576251263715,sl 46,2),(3233447507543151490,sl 5,1),(10971427776283345214,sl 0,3),(5916406521875305437,sl 27,1),(574907450937442650,sl 29,1),(10553499473937013360,sl 62,14),(14478073539708125054,sl 26,1),(1013795927145490486,sl 3,1),(1736737993100637231,sl 23,2),(4444862797067351850,sl 48,1),(10756262048341309848,sl 43,1),(11895394895477412581,sl 49,7),(9801339275109362245,sl 28,1),(17726068974580503371,sl 56,6),(9454049045480308626,sl 31,2),(1011033254319094444,sl 6,1),(16000321076081629248,"tree",667),(14785943944817767617,"tree",452),(3040290713755297890,"tree",717),(1796647913760660581,"tree",100),(9473834574508657829,"tree",198),(17756920660776993161,"tree",416),(1624132053009821996,"tree",922),(10637804197685279725,"tree",1122),(16550630850713480847,"tree",130),(4501651324221084304,"tree",797),(18012910280368463058,"tree",538),(11671215245510472498,"tree",179),(17737596722156440466,"tree",898),(3057242045351727347,"tree",833),(14743828021287192915,"heap",1191),(17842348983499951475,"tree",70),(2742990302100823443,"tree",397),(14926027333775244147,"tree",1037),(17454757854408949652,"tree",312),(4623685725197327605,"tree",869),(7316500873629561141,"tree",47),(17398708407491495094,"tree",495),(1162760386131350134,"tree",115),(14562856995237954615,"heap",46),(2849038837741226297,"tree",624),(4678592596592956954,"tree",1190),(7791839895786866205,"tree",581),(15700869578085594622,"tree",85),(10518264647376127359,"heap",39),(14865861153861360031,"tree",768),(2246189299783295519,"tree",979))
end PySem.W.Fast
namespace Bw
open PySem L2 PySem.W
theorem CH6 {K:Frag}{C B N:Addr}{nm q:Str}{bs:List Value}{sn:List Str}{sub:List Value}{ab:Bool}{col:Option Bool}{dd:Option Addr}{k0 k1 k2 k3 k5:Option Value}(l:K.lookup C=some ⟨.type "type",dd,.cls ⟨nm,bs,[.ref C,.ref B,.type "ValueError",.type "Exception",.type "BaseException",.type "object"],N,q,true,sn,sub,ab,col,false⟩,#[k0,k1,k2,k3,some (.builtin "ValueError.__new__"),k5]⟩)(sa:findIn K (.ref C) "__setattr__"=some (some (.builtin "object.__setattr__"))):∃ cd,ExcS K C cd:=⟨_,by unfold clsIn; rw [l],rfl,rfl,sa⟩
def GG (K:Frag)(x:Str)(s:Stmt)(f:Addr):Prop:=nsIn K mainGlobals x=some (some (.ref f))/\∃ d,Fun K x x s f d
def MM (K:Frag)(C:Addr)(x q:Str)(s:Stmt)(f:Addr):Prop:=findIn K (.ref C) x=some (some (.ref f))/\isFn K (.ref f)=true/\∃ d,Fun K x q s f d
local macro_rules | `(tactic| walk_at "b0") => `(tactic| exact fun _ _ _ _ _ _ us hl => match us, hl with | [], _ => rfl)
local macro_rules | `(tactic| walk_at "b1") => `(tactic| exact fun _ _ _ _ _ _ us hl => match us, hl with | [_], _ => rfl)
local macro_rules | `(tactic| walk_at "b2") => `(tactic| exact fun _ _ _ _ _ _ us hl => match us, hl with | [_, _], _ => rfl)
local macro_rules | `(tactic| walk_at "b3") => `(tactic| exact fun _ _ _ _ _ _ us hl => match us, hl with | [_, _, _], _ => rfl)
local macro_rules | `(tactic| walk_at "b4") => `(tactic| exact fun _ _ _ _ _ _ us hl => match us, hl with | [_, _, _, _], _ => rfl)
theorem CK2 {l:OpenLaw}{w:World}{K:Frag}{h:Heap}{mg:Str->Option Value}{fa f0 f1 f2 f3 f4 f5 f6 f7 f8 f9 f10 f11 f12 f13 f14 f15 f16 f17 f18 f19 f20 f21 f22 f23 f24 f25 f26 f27 f28 f29 f30 f31 f32 f33 f34 f35 f36 f37 f38 f39 f40 f41 f42 f43 f44 f45 f46 f47 f48 f49 f50 f51 f52 f53 f54 f55 f56 f57 f58 f59 f60 f61 f62 f63 f64 f65 f66 z0 z1 z2 z3 z4 z5 z6 z7 z8 z9 z10 z11 z12 z13 z14 z15 z16 z17 z18 z19 z20 z21 z22:Addr}{t0 t1 t2 t3 t4 t5:Tok}(X:K.In h)(G:h.Ns mainGlobals mg)(hfa:mg "law"=some (.ref fa)){od0 an0 sl0 oc0 kV0 dc0 pm0 cd0 ct0}(a0:findIn K (.ref z5) "__init__"=some (some (.ref f0)))(i0:isFn K (.ref f0)=true){T0:Addr}{doc0:Value}{dod0:Option Addr}{dn0:Nat}{dsl0:Array (Option Value)}{dt0_0:Tok}(l0:K.lookup f0=some ⟨oc0,od0,.func (fnOf "__init__" "NoText.__init__" (dH bD) (cK bD) (aI bD) (.ref T0) kV0 dc0 pm0 an0 cd0 ct0),sl0⟩)(d0:K.lookup T0=some ⟨doc0,dod0,.seq #[.int 0 dt0_0] dn0,dsl0⟩)(c0:codeIn K cd0 "NoText.__init__"=true)(g1:GG K "is_whole" rE f1)(g2:GG K "is_whole_between" fB f2)(g3:GG K "is_whole_from" iS f3)(g4:GG K "is_name" vH f4)(g5:GG K "are_unlike_names" fC f5)(g6:GG K "is_figures" mM f6)(g7:GG K "is_number" oN f7)(g8:MM K z6 "__init__" "Words.__init__" gR f8)(g9:MM K z6 "is_ended" "Words.is_ended" gS f9)(g10:MM K z6 "look" "Words.look" mP f10)(g11:MM K z6 "take" "Words.take" mQ f11)(g12:MM K z6 "takes" "Words.takes" lE f12)(g13:MM K z6 "expect" "Words.expect" jW f13)(g14:MM K z6 "expect_end" "Words.expect_end" fD f14)(g15:MM K z6 "take_number" "Words.take_number" eM f15)(g16:MM K z6 "take_names" "Words.take_names" fE f16)(g17:MM K z6 "take_some" "Words.take_some" fU f17)(g18:MM K z9 "__init__" "Kind.__init__" iT f18)(g19:MM K z10 "__init__" "Place.__init__" gT f19)(g20:MM K z11 "__init__" "Least.__init__" gW f20)(g21:MM K z12 "__init__" "Not.__init__" jX f21)(g22:MM K z13 "__init__" "Both.__init__" iU f22)(g23:MM K z14 "__init__" "Either.__init__" fV f23)(g24:GG K "check_names" lF f24)(g25:GG K "check_fit" oP f25)(g26:GG K "check_fits" mR f26)(g27:GG K "is_minute_of_day" fG f27)(g28:GG K "check_minute_of_hour" dI f28)(g29:GG K "check_minute_of_day" dR f29)(g30:MM K z17 "__init__" "Hour.__init__" iV f30)(g31:MM K z18 "__init__" "Day.__init__" jY f31){od32 an32 sl32 oc32 kV32 dc32 pm32 cd32 ct32}(a32:findIn K (.ref z20) "__init__"=some (some (.ref f32)))(i32:isFn K (.ref f32)=true){T32:Addr}{doc32:Value}{dod32:Option Addr}{dn32:Nat}{dsl32:Array (Option Value)}(l32:K.lookup f32=some ⟨oc32,od32,.func (fnOf "__init__" "Raised.__init__" (dH bP) (cK bP) (aI bP) (.ref T32) kV32 dc32 pm32 an32 cd32 ct32),sl32⟩)(d32:K.lookup T32=some ⟨doc32,dod32,.seq #[.none] dn32,dsl32⟩)(c32:codeIn K cd32 "Raised.__init__"=true){od33 an33 sl33 oc33 kV33 dc33 pm33 cd33 ct33}(a33:findIn K (.ref z21) "__init__"=some (some (.ref f33)))(i33:isFn K (.ref f33)=true){T33:Addr}{doc33:Value}{dod33:Option Addr}{dn33:Nat}{dsl33:Array (Option Value)}(l33:K.lookup f33=some ⟨oc33,od33,.func (fnOf "__init__" "Line.__init__" (dH bM) (cK bM) (aI bM) (.ref T33) kV33 dc33 pm33 an33 cd33 ct33),sl33⟩)(d33:K.lookup T33=some ⟨doc33,dod33,.seq #[.bool false,.none] dn33,dsl33⟩)(c33:codeIn K cd33 "Line.__init__"=true)(g34:GG K "check_by_way" jZ f34)(g35:GG K "show_fit" rK f35)(g36:GG K "show_way" rL f36)(g37:GG K "show_raised" lH f37)(g38:GG K "show_line" oR f38)(g39:GG K "read_line" oS f39)(g40:GG K "read_whole" mS f40)(g41:MM K z22 "__init__" "Opened.__init__" fX f41)(g42:GG K "fit_from" rM f42)(g43:GG K "plain_fit_from" gX f43)(g44:GG K "closed" zG f44)(g45:GG K "is_closed_here" gY f45)(g46:GG K "fit_of" zH f46)(g47:GG K "way_from" rN f47)(g48:GG K "raised_from" lI f48)(g49:GG K "line_from" oT f49)(g50:GG K "_law_begin" oU f50)(g51:GG K "_law_next" rO f51)(g52:GG K "_law_name" rP f52)(g53:GG K "_law_leaf" rQ f53)(g54:GG K "_law_tree" rR f54)(g55:GG K "_law_made" rS f55)(g56:GG K "_law_text" rT f56)(g57:GG K "_law_same" rV f57)(g58:GG K "_law_roads" oV f58)(g59:GG K "_law_drawn_line" gZ f59)(g60:GG K "_law_line_text" iW f60)(g61:GG K "_law_way" vM f61)(g62:GG K "_law_made_line" iX f62)(g63:GG K "_law_same_line" iY f63)(g64:GG K "_law_refused" lJ f64)(g65:GG K "_law_tails" oW f65)(g66:GG K "law" AR5 f66)(y0:nsIn K mainGlobals "len"=some none)(y1:nsIn K mainGlobals "int"=some none)(y2:nsIn K mainGlobals "bool"=some none)(y3:nsIn K mainGlobals "str"=some none)(y4:nsIn K mainGlobals "tuple"=some none)(y5:nsIn K mainGlobals "list"=some none)(y6:nsIn K mainGlobals "all"=some none)(y7:nsIn K mainGlobals "isinstance"=some none)(y8:nsIn K mainGlobals "range"=some none)(y9:nsIn K mainGlobals "set"=some none)(y10:nsIn K mainGlobals "ValueError"=some none)(y11:nsIn K mainGlobals "LETTERS"=some (some (.str "abcdefghijklmnopqrstuvwxyz" t0)))(y12:nsIn K mainGlobals "MOST_LETTERS"=some (some (.int 8 t1)))(y13:nsIn K mainGlobals "FIGURES"=some (some (.str "0123456789" t2)))(y14:nsIn K mainGlobals "MOST_FIGURES"=some (some (.int 60 t3)))(y15:nsIn K mainGlobals "MINUTES_OF_HOUR"=some (some (.int 60 t4)))(y16:nsIn K mainGlobals "MINUTES_OF_DAY"=some (some (.int 1440 t5)))(y17:nsIn K mainGlobals "BellError"=some (some (.ref z0)))(y18:nsIn K mainGlobals "NoClock"=some (some (.ref z1)))(y19:nsIn K mainGlobals "NoFit"=some (some (.ref z2)))(y20:nsIn K mainGlobals "NoWish"=some (some (.ref z3)))(y21:nsIn K mainGlobals "NoRow"=some (some (.ref z4)))(y22:nsIn K mainGlobals "NoText"=some (some (.ref z5)))(y23:nsIn K mainGlobals "Words"=some (some (.ref z6)))(y24:nsIn K mainGlobals "Fit"=some (some (.ref z7)))(y25:nsIn K mainGlobals "Any"=some (some (.ref z8)))(y26:nsIn K mainGlobals "Kind"=some (some (.ref z9)))(y27:nsIn K mainGlobals "Place"=some (some (.ref z10)))(y28:nsIn K mainGlobals "Least"=some (some (.ref z11)))(y29:nsIn K mainGlobals "Not"=some (some (.ref z12)))(y30:nsIn K mainGlobals "Both"=some (some (.ref z13)))(y31:nsIn K mainGlobals "Either"=some (some (.ref z14)))(y32:nsIn K mainGlobals "Way"=some (some (.ref z15)))(y33:nsIn K mainGlobals "Now"=some (some (.ref z16)))(y34:nsIn K mainGlobals "Hour"=some (some (.ref z17)))(y35:nsIn K mainGlobals "Day"=some (some (.ref z18)))(y36:nsIn K mainGlobals "Never"=some (some (.ref z19)))(y37:nsIn K mainGlobals "Raised"=some (some (.ref z20)))(y38:nsIn K mainGlobals "Line"=some (some (.ref z21)))(y39:nsIn K mainGlobals "Opened"=some (some (.ref z22)))(y40:nsIn K mainGlobals "line_from"=some (some (.ref f49)))(y41_0:findIn K (.ref z5) "__getattribute__"=some (some (.builtin "BaseException.__getattribute__")))(y41_1:findIn K (.ref z5) "__getattr__"=some none)(y41_2:findIn K (.ref z5) "__class__"=some (some (.builtin "object.__class__")))(y41_3:mroIn K z5 (.type "BaseException")=some true)(y41_4:mroIn K z5 (.type "object")=some true)(y41_5:isClsIn K z5=true)(y42:excIn K z2 vbm "ValueError.__new__"=true)(y43:exmOne K (.ref z2) (.ref z0)=some true)(y44:exmOne K (.ref z5) (.ref z0)=some true)(y45:hasDictIn K z5=true)(y46:mroIn K z5 (.type "object")=some true)(y47:findIn K (.ref z5) "line"=some none)(y49_0:plainGet K z8 Str.empty=true)(y49_1:hasDictIn K z8=true)(y49_2:plainOver K z8=true)(y49_3:findIn K (.ref z8) "__setattr__"=some (some (.builtin "object.__setattr__")))(y49_4:findIn K (.ref z8) "__class__"=some (some (.builtin "object.__class__")))(y49_5:specialIn K (.builtin "object.__class__") "__get__"=some (some (.builtin "getset_descriptor.__get__")))(y49_6:takesIn K (.builtin "object.__class__")=some true)(y49_7:mroIn K z8 (.type "object")=some true)(y50_0:plainGet K z9 Str.empty=true)(y50_1:hasDictIn K z9=true)(y50_2:plainOver K z9=true)(y50_3:findIn K (.ref z9) "__setattr__"=some (some (.builtin "object.__setattr__")))(y50_4:findIn K (.ref z9) "__class__"=some (some (.builtin "object.__class__")))(y50_5:specialIn K (.builtin "object.__class__") "__get__"=some (some (.builtin "getset_descriptor.__get__")))(y50_6:takesIn K (.builtin "object.__class__")=some true)(y50_7:mroIn K z9 (.type "object")=some true)(y51:findIn K (.ref z9) "names"=some none)(y52_0:plainGet K z10 Str.empty=true)(y52_1:hasDictIn K z10=true)(y52_2:plainOver K z10=true)(y52_3:findIn K (.ref z10) "__setattr__"=some (some (.builtin "object.__setattr__")))(y52_4:findIn K (.ref z10) "__class__"=some (some (.builtin "object.__class__")))(y52_5:specialIn K (.builtin "object.__class__") "__get__"=some (some (.builtin "getset_descriptor.__get__")))(y52_6:takesIn K (.builtin "object.__class__")=some true)(y52_7:mroIn K z10 (.type "object")=some true)(y53:findIn K (.ref z10) "names"=some none)(y54_0:plainGet K z11 Str.empty=true)(y54_1:hasDictIn K z11=true)(y54_2:plainOver K z11=true)(y54_3:findIn K (.ref z11) "__setattr__"=some (some (.builtin "object.__setattr__")))(y54_4:findIn K (.ref z11) "__class__"=some (some (.builtin "object.__class__")))(y54_5:specialIn K (.builtin "object.__class__") "__get__"=some (some (.builtin "getset_descriptor.__get__")))(y54_6:takesIn K (.builtin "object.__class__")=some true)(y54_7:mroIn K z11 (.type "object")=some true)(y55:findIn K (.ref z11) "weight"=some none)(y56_0:plainGet K z12 Str.empty=true)(y56_1:hasDictIn K z12=true)(y56_2:plainOver K z12=true)(y56_3:findIn K (.ref z12) "__setattr__"=some (some (.builtin "object.__setattr__")))(y56_4:findIn K (.ref z12) "__class__"=some (some (.builtin "object.__class__")))(y56_5:specialIn K (.builtin "object.__class__") "__get__"=some (some (.builtin "getset_descriptor.__get__")))(y56_6:takesIn K (.builtin "object.__class__")=some true)(y56_7:mroIn K z12 (.type "object")=some true)(y57:findIn K (.ref z12) "fit"=some none)(y58_0:plainGet K z13 Str.empty=true)(y58_1:hasDictIn K z13=true)(y58_2:plainOver K z13=true)(y58_3:findIn K (.ref z13) "__setattr__"=some (some (.builtin "object.__setattr__")))(y58_4:findIn K (.ref z13) "__class__"=some (some (.builtin "object.__class__")))(y58_5:specialIn K (.builtin "object.__class__") "__get__"=some (some (.builtin "getset_descriptor.__get__")))(y58_6:takesIn K (.builtin "object.__class__")=some true)(y58_7:mroIn K z13 (.type "object")=some true)(y59:findIn K (.ref z13) "fits"=some none)(y60_0:plainGet K z14 Str.empty=true)(y60_1:hasDictIn K z14=true)(y60_2:plainOver K z14=true)(y60_3:findIn K (.ref z14) "__setattr__"=some (some (.builtin "object.__setattr__")))(y60_4:findIn K (.ref z14) "__class__"=some (some (.builtin "object.__class__")))(y60_5:specialIn K (.builtin "object.__class__") "__get__"=some (some (.builtin "getset_descriptor.__get__")))(y60_6:takesIn K (.builtin "object.__class__")=some true)(y60_7:mroIn K z14 (.type "object")=some true)(y61:findIn K (.ref z14) "fits"=some none)(y62_0:plainGet K z6 Str.empty=true)(y62_1:hasDictIn K z6=true)(y62_2:plainOver K z6=true)(y62_3:findIn K (.ref z6) "__setattr__"=some (some (.builtin "object.__setattr__")))(y62_4:findIn K (.ref z6) "__class__"=some (some (.builtin "object.__class__")))(y62_5:specialIn K (.builtin "object.__class__") "__get__"=some (some (.builtin "getset_descriptor.__get__")))(y62_6:takesIn K (.builtin "object.__class__")=some true)(y62_7:mroIn K z6 (.type "object")=some true)(y63:findIn K (.ref z6) "words"=some none)(y64:findIn K (.ref z6) "at"=some none)(y65_0:plainGet K z22 Str.empty=true)(y65_1:hasDictIn K z22=true)(y65_2:plainOver K z22=true)(y65_3:findIn K (.ref z22) "__setattr__"=some (some (.builtin "object.__setattr__")))(y65_4:findIn K (.ref z22) "__class__"=some (some (.builtin "object.__class__")))(y65_5:specialIn K (.builtin "object.__class__") "__get__"=some (some (.builtin "getset_descriptor.__get__")))(y65_6:takesIn K (.builtin "object.__class__")=some true)(y65_7:mroIn K z22 (.type "object")=some true)(y66:findIn K (.ref z22) "sign"=some none)(y67:findIn K (.ref z22) "inner"=some none)(y68:kitOne K (.ref z8) (.ref z7)=some true)(y69:kitOne K (.ref z9) (.ref z7)=some true)(y70:kitOne K (.ref z10) (.ref z7)=some true)(y71:kitOne K (.ref z11) (.ref z7)=some true)(y72:kitOne K (.ref z12) (.ref z7)=some true)(y73:kitOne K (.ref z13) (.ref z7)=some true)(y74:kitOne K (.ref z14) (.ref z7)=some true)(y75:kitOne K (.ref z8) (.ref z8)=some true)(y76:kitOne K (.ref z8) (.ref z9)=some false)(y77:kitOne K (.ref z8) (.ref z10)=some false)(y78:kitOne K (.ref z8) (.ref z11)=some false)(y79:kitOne K (.ref z8) (.ref z12)=some false)(y80:kitOne K (.ref z8) (.ref z13)=some false)(y81:kitOne K (.ref z8) (.ref z14)=some false)(y82:kitOne K (.ref z9) (.ref z8)=some false)(y83:kitOne K (.ref z9) (.ref z9)=some true)(y84:kitOne K (.ref z9) (.ref z10)=some false)(y85:kitOne K (.ref z9) (.ref z11)=some false)(y86:kitOne K (.ref z9) (.ref z12)=some false)(y87:kitOne K (.ref z9) (.ref z13)=some false)(y88:kitOne K (.ref z9) (.ref z14)=some false)(y89:kitOne K (.ref z10) (.ref z8)=some false)(y90:kitOne K (.ref z10) (.ref z9)=some false)(y91:kitOne K (.ref z10) (.ref z10)=some true)(y92:kitOne K (.ref z10) (.ref z11)=some false)(y93:kitOne K (.ref z10) (.ref z12)=some false)(y94:kitOne K (.ref z10) (.ref z13)=some false)(y95:kitOne K (.ref z10) (.ref z14)=some false)(y96:kitOne K (.ref z11) (.ref z8)=some false)(y97:kitOne K (.ref z11) (.ref z9)=some false)(y98:kitOne K (.ref z11) (.ref z10)=some false)(y99:kitOne K (.ref z11) (.ref z11)=some true)(y100:kitOne K (.ref z11) (.ref z12)=some false)(y101:kitOne K (.ref z11) (.ref z13)=some false)(y102:kitOne K (.ref z11) (.ref z14)=some false)(y103:kitOne K (.ref z12) (.ref z8)=some false)(y104:kitOne K (.ref z12) (.ref z9)=some false)(y105:kitOne K (.ref z12) (.ref z10)=some false)(y106:kitOne K (.ref z12) (.ref z11)=some false)(y107:kitOne K (.ref z12) (.ref z12)=some true)(y108:kitOne K (.ref z12) (.ref z13)=some false)(y109:kitOne K (.ref z12) (.ref z14)=some false)(y110:kitOne K (.ref z13) (.ref z8)=some false)(y111:kitOne K (.ref z13) (.ref z9)=some false)(y112:kitOne K (.ref z13) (.ref z10)=some false)(y113:kitOne K (.ref z13) (.ref z11)=some false)(y114:kitOne K (.ref z13) (.ref z12)=some false)(y115:kitOne K (.ref z13) (.ref z13)=some true)(y116:kitOne K (.ref z13) (.ref z14)=some false)(y117:kitOne K (.ref z14) (.ref z8)=some false)(y118:kitOne K (.ref z14) (.ref z9)=some false)(y119:kitOne K (.ref z14) (.ref z10)=some false)(y120:kitOne K (.ref z14) (.ref z11)=some false)(y121:kitOne K (.ref z14) (.ref z12)=some false)(y122:kitOne K (.ref z14) (.ref z13)=some false)(y123:kitOne K (.ref z14) (.ref z14)=some true)(y124_0:makesIn K z8=true)(y124_1:findIn K (.ref z8) "__init__"=some (some (.builtin "object.__init__")))(y124_2:keepIn K (.ref z8)=true)(y125:excIn K z1 vbm "ValueError.__new__"=true)(y126:exmOne K (.ref z1) (.ref z0)=some true)(y127:excIn K z3 vbm "ValueError.__new__"=true)(y128:exmOne K (.ref z3) (.ref z0)=some true)(y129:kitAny K (.ref z5) ([.ref z1,.ref z2,.ref z4,.ref z3]:List Value)=some false)(y130:kitOne K (.ref z5) (.type "ValueError")=some true)(y131:kitOne K (.ref z5) (.ref z5)=some true)(y132_0:plainGet K z16 Str.empty=true)(y132_1:hasDictIn K z16=true)(y132_2:plainOver K z16=true)(y132_3:findIn K (.ref z16) "__setattr__"=some (some (.builtin "object.__setattr__")))(y132_4:findIn K (.ref z16) "__class__"=some (some (.builtin "object.__class__")))(y132_5:specialIn K (.builtin "object.__class__") "__get__"=some (some (.builtin "getset_descriptor.__get__")))(y132_6:takesIn K (.builtin "object.__class__")=some true)(y132_7:mroIn K z16 (.type "object")=some true)(y133_0:plainGet K z17 Str.empty=true)(y133_1:hasDictIn K z17=true)(y133_2:plainOver K z17=true)(y133_3:findIn K (.ref z17) "__setattr__"=some (some (.builtin "object.__setattr__")))(y133_4:findIn K (.ref z17) "__class__"=some (some (.builtin "object.__class__")))(y133_5:specialIn K (.builtin "object.__class__") "__get__"=some (some (.builtin "getset_descriptor.__get__")))(y133_6:takesIn K (.builtin "object.__class__")=some true)(y133_7:mroIn K z17 (.type "object")=some true)(y134:findIn K (.ref z17) "minute"=some none)(y135_0:plainGet K z18 Str.empty=true)(y135_1:hasDictIn K z18=true)(y135_2:plainOver K z18=true)(y135_3:findIn K (.ref z18) "__setattr__"=some (some (.builtin "object.__setattr__")))(y135_4:findIn K (.ref z18) "__class__"=some (some (.builtin "object.__class__")))(y135_5:specialIn K (.builtin "object.__class__") "__get__"=some (some (.builtin "getset_descriptor.__get__")))(y135_6:takesIn K (.builtin "object.__class__")=some true)(y135_7:mroIn K z18 (.type "object")=some true)(y136:findIn K (.ref z18) "minute"=some none)(y137_0:plainGet K z19 Str.empty=true)(y137_1:hasDictIn K z19=true)(y137_2:plainOver K z19=true)(y137_3:findIn K (.ref z19) "__setattr__"=some (some (.builtin "object.__setattr__")))(y137_4:findIn K (.ref z19) "__class__"=some (some (.builtin "object.__class__")))(y137_5:specialIn K (.builtin "object.__class__") "__get__"=some (some (.builtin "getset_descriptor.__get__")))(y137_6:takesIn K (.builtin "object.__class__")=some true)(y137_7:mroIn K z19 (.type "object")=some true)(y138_0:plainGet K z20 Str.empty=true)(y138_1:hasDictIn K z20=true)(y138_2:plainOver K z20=true)(y138_3:findIn K (.ref z20) "__setattr__"=some (some (.builtin "object.__setattr__")))(y138_4:findIn K (.ref z20) "__class__"=some (some (.builtin "object.__class__")))(y138_5:specialIn K (.builtin "object.__class__") "__get__"=some (some (.builtin "getset_descriptor.__get__")))(y138_6:takesIn K (.builtin "object.__class__")=some true)(y138_7:mroIn K z20 (.type "object")=some true)(y139:findIn K (.ref z20) "minutes"=some none)(y140:findIn K (.ref z20) "times"=some none)(y141:findIn K (.ref z20) "to"=some none)(y142_0:plainGet K z21 Str.empty=true)(y142_1:hasDictIn K z21=true)(y142_2:plainOver K z21=true)(y142_3:findIn K (.ref z21) "__setattr__"=some (some (.builtin "object.__setattr__")))(y142_4:findIn K (.ref z21) "__class__"=some (some (.builtin "object.__class__")))(y142_5:specialIn K (.builtin "object.__class__") "__get__"=some (some (.builtin "getset_descriptor.__get__")))(y142_6:takesIn K (.builtin "object.__class__")=some true)(y142_7:mroIn K z21 (.type "object")=some true)(y143:findIn K (.ref z21) "fit"=some none)(y144:findIn K (.ref z21) "way"=some none)(y145:findIn K (.ref z21) "roads"=some none)(y146:findIn K (.ref z21) "sure"=some none)(y147:findIn K (.ref z21) "raised"=some none)(y148:kitOne K (.ref z16) (.ref z15)=some true)(y149:kitOne K (.ref z16) (.ref z16)=some true)(y150:kitOne K (.ref z16) (.ref z17)=some false)(y151:kitOne K (.ref z16) (.ref z18)=some false)(y152:kitOne K (.ref z16) (.ref z19)=some false)(y153:kitOne K (.ref z17) (.ref z15)=some true)(y154:kitOne K (.ref z17) (.ref z16)=some false)(y155:kitOne K (.ref z17) (.ref z17)=some true)(y156:kitOne K (.ref z17) (.ref z18)=some false)(y157:kitOne K (.ref z17) (.ref z19)=some false)(y158:kitOne K (.ref z18) (.ref z15)=some true)(y159:kitOne K (.ref z18) (.ref z16)=some false)(y160:kitOne K (.ref z18) (.ref z17)=some false)(y161:kitOne K (.ref z18) (.ref z18)=some true)(y162:kitOne K (.ref z18) (.ref z19)=some false)(y163:kitOne K (.ref z19) (.ref z15)=some true)(y164:kitOne K (.ref z19) (.ref z16)=some false)(y165:kitOne K (.ref z19) (.ref z17)=some false)(y166:kitOne K (.ref z19) (.ref z18)=some false)(y167:kitOne K (.ref z19) (.ref z19)=some true)(y168:kitOne K (.ref z20) (.ref z20)=some true)(y169:kitOne K (.ref z21) (.ref z21)=some true)(y170_0:makesIn K z16=true)(y170_1:findIn K (.ref z16) "__init__"=some (some (.builtin "object.__init__")))(y170_2:keepIn K (.ref z16)=true)(y171_0:makesIn K z19=true)(y171_1:findIn K (.ref z19) "__init__"=some (some (.builtin "object.__init__")))(y171_2:keepIn K (.ref z19)=true){nmXNoText qXNoText:Str}{NXNoText:Addr}{bsXNoText:List Value}{snXNoText:List Str}{subXNoText:List Value}{abXNoText:Bool}{colXNoText:Option Bool}{ddXNoText:Option Addr}{kx0NoText kx1NoText kx2NoText kx3NoText kx5NoText:Option Value}(lxNoText:K.lookup z5=some ⟨.type "type",ddXNoText,.cls ⟨nmXNoText,bsXNoText,[.ref z5,.ref z0,.type "ValueError",.type "Exception",.type "BaseException",.type "object"],NXNoText,qXNoText,true,snXNoText,subXNoText,abXNoText,colXNoText,false⟩,#[kx0NoText,kx1NoText,kx2NoText,kx3NoText,some (.builtin "ValueError.__new__"),kx5NoText]⟩)(xbNoText:excIn K z0 vbm "ValueError.__new__"=true)(sxNoText:findIn K (.ref z5) "__setattr__"=some (some (.builtin "object.__setattr__")))(mkWords:makesIn K z6=true)(kcWords:keepIn K (.ref z6)=true)(mkKind:makesIn K z9=true)(kcKind:keepIn K (.ref z9)=true)(mkPlace:makesIn K z10=true)(kcPlace:keepIn K (.ref z10)=true)(mkLeast:makesIn K z11=true)(kcLeast:keepIn K (.ref z11)=true)(mkNot:makesIn K z12=true)(kcNot:keepIn K (.ref z12)=true)(mkBoth:makesIn K z13=true)(kcBoth:keepIn K (.ref z13)=true)(mkEither:makesIn K z14=true)(kcEither:keepIn K (.ref z14)=true)(mkHour:makesIn K z17=true)(kcHour:keepIn K (.ref z17)=true)(mkDay:makesIn K z18=true)(kcDay:keepIn K (.ref z18)=true)(mkRaised:makesIn K z20=true)(kcRaised:keepIn K (.ref z20)=true)(mkLine:makesIn K z21=true)(kcLine:keepIn K (.ref z21)=true)(mkOpened:makesIn K z22=true)(kcOpened:keepIn K (.ref z22)=true) :
  ∃ (a:Ad) (fd:FuncData),(∀ (s:Shared) (v:Value),BindsTo s fd ⟨[v],[]⟩ [("_law_script",v)])/\∀ base:Heap,K.In base->base.Ns mainGlobals mg->FnOk l.prog w K mg base CX0 12 fa fd ["_law_script"] (BC2 K a):=by
 obtain ⟨a66,d66,F66⟩:=g66
 have e:=hfa.symm.trans (mg_of X G a66)
 cases e
 have B:Bt K mg ⟨z0,z1,z2,z3,z4,z5,z6,z7,z8,z9,z10,z11,z12,z13,z14,z15,z16,z17,z18,z19,z20,z21,z22,f49,t0,t1,t2,t3,t4,t5⟩:=⟨mg_none_of X G y0,mg_none_of X G y1,mg_none_of X G y2,mg_none_of X G y3,mg_none_of X G y4,mg_none_of X G y5,mg_none_of X G y6,mg_none_of X G y7,mg_none_of X G y8,mg_none_of X G y9,mg_none_of X G y10,mg_of X G y11,mg_of X G y12,mg_of X G y13,mg_of X G y14,mg_of X G y15,mg_of X G y16,mg_of X G y17,mg_of X G y18,mg_of X G y19,mg_of X G y20,mg_of X G y21,mg_of X G y22,mg_of X G y23,mg_of X G y24,mg_of X G y25,mg_of X G y26,mg_of X G y27,mg_of X G y28,mg_of X G y29,mg_of X G y30,mg_of X G y31,mg_of X G y32,mg_of X G y33,mg_of X G y34,mg_of X G y35,mg_of X G y36,mg_of X G y37,mg_of X G y38,mg_of X G y39,mg_of X G y40,⟨y41_0,y41_1,y41_2,y41_3,y41_4,y41_5⟩,y42,y43,y44,y45,y46,y47,CH6 lxNoText sxNoText,⟨⟨y49_0,y49_1,y49_2,y49_3⟩,y49_4,y49_5,y49_6,y49_7⟩,⟨⟨y50_0,y50_1,y50_2,y50_3⟩,y50_4,y50_5,y50_6,y50_7⟩,y51,⟨⟨y52_0,y52_1,y52_2,y52_3⟩,y52_4,y52_5,y52_6,y52_7⟩,y53,⟨⟨y54_0,y54_1,y54_2,y54_3⟩,y54_4,y54_5,y54_6,y54_7⟩,y55,⟨⟨y56_0,y56_1,y56_2,y56_3⟩,y56_4,y56_5,y56_6,y56_7⟩,y57,⟨⟨y58_0,y58_1,y58_2,y58_3⟩,y58_4,y58_5,y58_6,y58_7⟩,y59,⟨⟨y60_0,y60_1,y60_2,y60_3⟩,y60_4,y60_5,y60_6,y60_7⟩,y61,⟨⟨y62_0,y62_1,y62_2,y62_3⟩,y62_4,y62_5,y62_6,y62_7⟩,y63,y64,⟨⟨y65_0,y65_1,y65_2,y65_3⟩,y65_4,y65_5,y65_6,y65_7⟩,y66,y67,y68,y69,y70,y71,y72,y73,y74,y75,y76,y77,y78,y79,y80,y81,y82,y83,y84,y85,y86,y87,y88,y89,y90,y91,y92,y93,y94,y95,y96,y97,y98,y99,y100,y101,y102,y103,y104,y105,y106,y107,y108,y109,y110,y111,y112,y113,y114,y115,y116,y117,y118,y119,y120,y121,y122,y123,⟨y124_0,y124_1,y124_2⟩,y125,y126,y127,y128,y129,y130,y131,⟨⟨y132_0,y132_1,y132_2,y132_3⟩,y132_4,y132_5,y132_6,y132_7⟩,⟨⟨y133_0,y133_1,y133_2,y133_3⟩,y133_4,y133_5,y133_6,y133_7⟩,y134,⟨⟨y135_0,y135_1,y135_2,y135_3⟩,y135_4,y135_5,y135_6,y135_7⟩,y136,⟨⟨y137_0,y137_1,y137_2,y137_3⟩,y137_4,y137_5,y137_6,y137_7⟩,⟨⟨y138_0,y138_1,y138_2,y138_3⟩,y138_4,y138_5,y138_6,y138_7⟩,y139,y140,y141,⟨⟨y142_0,y142_1,y142_2,y142_3⟩,y142_4,y142_5,y142_6,y142_7⟩,y143,y144,y145,y146,y147,y148,y149,y150,y151,y152,y153,y154,y155,y156,y157,y158,y159,y160,y161,y162,y163,y164,y165,y166,y167,y168,y169,⟨y170_0,y170_1,y170_2⟩,⟨y171_0,y171_1,y171_2⟩⟩
 have F0:=AI1 (st:=bD) l0 c0
 have b0_0:Binds K _ ["self","line"] [.int 0 dt0_0]:=AC0 (fd:=fnOf "__init__" "NoText.__init__" (dH bD) (cK bD) (aI bD) (.ref T0) kV0 dc0 pm0 an0 cd0 ct0) 1 rfl fun s us X hl=>match us,hl with | [_],_=>by first | exact .of_eq rfl | exact binds_K X rfl d0 rfl rfl rfl
 obtain ⟨a1,d1,F1⟩:=g1
 have b1:=F1.binds (ps:=["thing"]) (by walk_at "b1")
 obtain ⟨a2,d2,F2⟩:=g2
 have b2:=F2.binds (ps:=["thing","least","most"]) (by walk_at "b3")
 obtain ⟨a3,d3,F3⟩:=g3
 have b3:=F3.binds (ps:=["thing","least"]) (by walk_at "b2")
 obtain ⟨a4,d4,F4⟩:=g4
 have b4:=F4.binds (ps:=["thing"]) (by walk_at "b1")
 obtain ⟨a5,d5,F5⟩:=g5
 have b5:=F5.binds (ps:=["thing"]) (by walk_at "b1")
 obtain ⟨a6,d6,F6⟩:=g6
 have b6:=F6.binds (ps:=["word"]) (by walk_at "b1")
 obtain ⟨a7,d7,F7⟩:=g7
 have b7:=F7.binds (ps:=["word"]) (by walk_at "b1")
 obtain ⟨a8,i8,d8,F8⟩:=g8
 have b8:=F8.binds (ps:=["self","text"]) (by walk_at "b2")
 obtain ⟨a9,i9,d9,F9⟩:=g9
 have b9:=F9.binds (ps:=["self"]) (by walk_at "b1")
 obtain ⟨a10,i10,d10,F10⟩:=g10
 have b10:=F10.binds (ps:=["self"]) (by walk_at "b1")
 obtain ⟨a11,i11,d11,F11⟩:=g11
 have b11:=F11.binds (ps:=["self"]) (by walk_at "b1")
 obtain ⟨a12,i12,d12,F12⟩:=g12
 have b12:=F12.binds (ps:=["self","word"]) (by walk_at "b2")
 obtain ⟨a13,i13,d13,F13⟩:=g13
 have b13:=F13.binds (ps:=["self","word"]) (by walk_at "b2")
 obtain ⟨a14,i14,d14,F14⟩:=g14
 have b14:=F14.binds (ps:=["self"]) (by walk_at "b1")
 obtain ⟨a15,i15,d15,F15⟩:=g15
 have b15:=F15.binds (ps:=["self"]) (by walk_at "b1")
 obtain ⟨a16,i16,d16,F16⟩:=g16
 have b16:=F16.binds (ps:=["self"]) (by walk_at "b1")
 obtain ⟨a17,i17,d17,F17⟩:=g17
 have b17:=F17.binds (ps:=["self","count"]) (by walk_at "b2")
 obtain ⟨a18,i18,d18,F18⟩:=g18
 have b18:=F18.binds (ps:=["self","names"]) (by walk_at "b2")
 obtain ⟨a19,i19,d19,F19⟩:=g19
 have b19:=F19.binds (ps:=["self","names"]) (by walk_at "b2")
 obtain ⟨a20,i20,d20,F20⟩:=g20
 have b20:=F20.binds (ps:=["self","weight"]) (by walk_at "b2")
 obtain ⟨a21,i21,d21,F21⟩:=g21
 have b21:=F21.binds (ps:=["self","fit"]) (by walk_at "b2")
 obtain ⟨a22,i22,d22,F22⟩:=g22
 have b22:=F22.binds (ps:=["self","fits"]) (by walk_at "b2")
 obtain ⟨a23,i23,d23,F23⟩:=g23
 have b23:=F23.binds (ps:=["self","fits"]) (by walk_at "b2")
 obtain ⟨a24,d24,F24⟩:=g24
 have b24:=F24.binds (ps:=["names"]) (by walk_at "b1")
 obtain ⟨a25,d25,F25⟩:=g25
 have b25:=F25.binds (ps:=["fit"]) (by walk_at "b1")
 obtain ⟨a26,d26,F26⟩:=g26
 have b26:=F26.binds (ps:=["fits"]) (by walk_at "b1")
 obtain ⟨a27,d27,F27⟩:=g27
 have b27:=F27.binds (ps:=["thing"]) (by walk_at "b1")
 obtain ⟨a28,d28,F28⟩:=g28
 have b28:=F28.binds (ps:=["minute"]) (by walk_at "b1")
 obtain ⟨a29,d29,F29⟩:=g29
 have b29:=F29.binds (ps:=["minute"]) (by walk_at "b1")
 obtain ⟨a30,i30,d30,F30⟩:=g30
 have b30:=F30.binds (ps:=["self","minute"]) (by walk_at "b2")
 obtain ⟨a31,i31,d31,F31⟩:=g31
 have b31:=F31.binds (ps:=["self","minute"]) (by walk_at "b2")
 have F32:=AI1 (st:=bP) l32 c32
 have b32_3:Binds K _ ["self","minutes","times","to"] []:=AC0 (fd:=fnOf "__init__" "Raised.__init__" (dH bP) (cK bP) (aI bP) (.ref T32) kV32 dc32 pm32 an32 cd32 ct32) 4 rfl fun s us X hl=>match us,hl with | [_,_,_,_],_=>by first | exact .of_eq rfl | exact binds_K X rfl d32 rfl rfl rfl
 have F33:=AI1 (st:=bM) l33 c33
 have b33_5:Binds K _ ["self","fit","way","roads","sure","raised"] []:=AC0 (fd:=fnOf "__init__" "Line.__init__" (dH bM) (cK bM) (aI bM) (.ref T33) kV33 dc33 pm33 an33 cd33 ct33) 6 rfl fun s us X hl=>match us,hl with | [_,_,_,_,_,_],_=>by first | exact .of_eq rfl | exact binds_K X rfl d33 rfl rfl rfl
 have b33_3:Binds K _ ["self","fit","way","roads","sure","raised"] [.bool false,.none]:=AC0 (fd:=fnOf "__init__" "Line.__init__" (dH bM) (cK bM) (aI bM) (.ref T33) kV33 dc33 pm33 an33 cd33 ct33) 4 rfl fun s us X hl=>match us,hl with | [_,_,_,_],_=>by first | exact .of_eq rfl | exact binds_K X rfl d33 rfl rfl rfl
 obtain ⟨a34,d34,F34⟩:=g34
 have b34:=F34.binds (ps:=["way","roads","sure","raised"]) (by walk_at "b4")
 obtain ⟨a35,d35,F35⟩:=g35
 have b35:=F35.binds (ps:=["fit"]) (by walk_at "b1")
 obtain ⟨a36,d36,F36⟩:=g36
 have b36:=F36.binds (ps:=["way"]) (by walk_at "b1")
 obtain ⟨a37,d37,F37⟩:=g37
 have b37:=F37.binds (ps:=["raised"]) (by walk_at "b1")
 obtain ⟨a38,d38,F38⟩:=g38
 have b38:=F38.binds (ps:=["line"]) (by walk_at "b1")
 obtain ⟨a39,d39,F39⟩:=g39
 have b39:=F39.binds (ps:=["text"]) (by walk_at "b1")
 obtain ⟨a40,d40,F40⟩:=g40
 have b40:=F40.binds (ps:=["text","part_from"]) (by walk_at "b2")
 obtain ⟨a41,i41,d41,F41⟩:=g41
 have b41:=F41.binds (ps:=["self","sign"]) (by walk_at "b2")
 obtain ⟨a42,d42,F42⟩:=g42
 have b42:=F42.binds (ps:=["words"]) (by walk_at "b1")
 obtain ⟨a43,d43,F43⟩:=g43
 have b43:=F43.binds (ps:=["words","opened"]) (by walk_at "b2")
 obtain ⟨a44,d44,F44⟩:=g44
 have b44:=F44.binds (ps:=["fit","words","opened"]) (by walk_at "b3")
 obtain ⟨a45,d45,F45⟩:=g45
 have b45:=F45.binds (ps:=["bracket","words"]) (by walk_at "b2")
 obtain ⟨a46,d46,F46⟩:=g46
 have b46:=F46.binds (ps:=["opened"]) (by walk_at "b1")
 obtain ⟨a47,d47,F47⟩:=g47
 have b47:=F47.binds (ps:=["words"]) (by walk_at "b1")
 obtain ⟨a48,d48,F48⟩:=g48
 have b48:=F48.binds (ps:=["words"]) (by walk_at "b1")
 obtain ⟨a49,d49,F49⟩:=g49
 have b49:=F49.binds (ps:=["words"]) (by walk_at "b1")
 obtain ⟨a50,d50,F50⟩:=g50
 have b50:=F50.binds (ps:=["_law_cell"]) (by walk_at "b1")
 obtain ⟨a51,d51,F51⟩:=g51
 have b51:=F51.binds (ps:=["_law_state","_law_base"]) (by walk_at "b2")
 obtain ⟨a52,d52,F52⟩:=g52
 have b52:=F52.binds (ps:=["_law_state"]) (by walk_at "b1")
 obtain ⟨a53,d53,F53⟩:=g53
 have b53:=F53.binds (ps:=["_law_state","_law_more"]) (by walk_at "b2")
 obtain ⟨a54,d54,F54⟩:=g54
 have b54:=F54.binds (ps:=["_law_state","_law_deep","_law_more"]) (by walk_at "b3")
 obtain ⟨a55,d55,F55⟩:=g55
 have b55:=F55.binds (ps:=["_law_tree_here"]) (by walk_at "b1")
 obtain ⟨a56,d56,F56⟩:=g56
 have b56:=F56.binds (ps:=["_law_tree_here"]) (by walk_at "b1")
 obtain ⟨a57,d57,F57⟩:=g57
 have b57:=F57.binds (ps:=["_law_fit","_law_tree_here"]) (by walk_at "b2")
 obtain ⟨a58,d58,F58⟩:=g58
 have b58:=F58.binds (ps:=["_law_state"]) (by walk_at "b1")
 obtain ⟨a59,d59,F59⟩:=g59
 have b59:=F59.binds (ps:=["_law_state","_law_more"]) (by walk_at "b2")
 obtain ⟨a60,d60,F60⟩:=g60
 have b60:=F60.binds (ps:=["_law_line"]) (by walk_at "b1")
 obtain ⟨a61,d61,F61⟩:=g61
 have b61:=F61.binds (ps:=["_law_word","_law_minute"]) (by walk_at "b2")
 obtain ⟨a62,d62,F62⟩:=g62
 have b62:=F62.binds (ps:=["_law_line"]) (by walk_at "b1")
 obtain ⟨a63,d63,F63⟩:=g63
 have b63:=F63.binds (ps:=["_law_found","_law_line"]) (by walk_at "b2")
 obtain ⟨a64,d64,F64⟩:=g64
 have b64:=F64.binds (ps:=["_law_text_here"]) (by walk_at "b1")
 obtain ⟨a65,d65,F65⟩:=g65
 have b65:=F65.binds (ps:=[]) (by walk_at "b0")
 have b66:=F66.binds (ps:=["_law_script"]) (by walk_at "b1")
 obtain ⟨_,_,kVx,dcx,pmx,anx,cdx,ctx,_,rfl,_,_⟩:=F66.ex
 refine ⟨(⟨z0,z1,z2,z3,z4,z5,z6,z7,z8,z9,z10,z11,z12,z13,z14,z15,z16,z17,z18,z19,z20,z21,z22,f49,t0,t1,t2,t3,t4,t5⟩:Ad),fnOf "law" "law" (dH AR5) (cK AR5) (aI AR5) .none kVx dcx pmx anx cdx ctx,fun s v=>.of_eq rfl,fun base _ _=>?_⟩
 have sL:FnOk l.prog w K mg base (CXF l.prog w) 1 _ _ _ _:=FnOk.up (qK B  F0)
 have bH:CalI l.prog w K mg base "NoText" z5 "line" 1 (.int 0):=⟨z0,f0,_,_,_,sL,b0_0,⟨_,rfl⟩,⟨⟨_,_,_,_,_,_,_,_,_,_,_,_,_,_,_,lxNoText⟩,xbNoText,a0,i0⟩,B.NoText⟩
 have b0_1:Binds K _ ["self","line"] []:=AC0 (fd:=fnOf "__init__" "NoText.__init__" (dH bD) (cK bD) (aI bD) (.ref T0) kV0 dc0 pm0 an0 cd0 ct0) 2 rfl fun s us X hl=>match us,hl with | [_,_],_=>by first | exact .of_eq rfl | exact binds_K X rfl d0 rfl rfl rfl
 have CIA_NoText:CalIA l.prog w K mg base "NoText" z5 "line" 1:=⟨z0,f0,_,_,xY (P:=l.prog) (w:=w) (base:=base) B F0,b0_1,⟨⟨_,_,_,_,_,_,_,_,_,_,_,_,_,_,_,lxNoText⟩,xbNoText,a0,i0⟩,B.NoText⟩
 have sI:CalIH l.prog w K mg base "NoText" z5 "line" 1 (.int 0):=⟨z0,f0,_,_,_,xY (P:=l.prog) (w:=w) (base:=base) B F0,b0_0,⟨_,rfl⟩,⟨⟨_,_,_,_,_,_,_,_,_,_,_,_,_,_,_,lxNoText⟩,xbNoText,a0,i0⟩,B.NoText⟩
 have AS0:FnOk l.prog w K mg base (CXF l.prog w) 1 _ _ _ _:=FnOk.up (AJ7 B  F1)
 have iH:CalX l.prog w K mg base _ _ 1 _:=⟨_,_,AS0,b1,F1.kp,mg_of X G a1⟩
 have BD8:FnOk l.prog w K mg base (CXF l.prog w) 1 _ _ _ _:=FnOk.up (AR7 B  F4)
 have dE:CalX l.prog w K mg base _ _ 1 _:=⟨_,_,BD8,b4,F4.kp,mg_of X G a4⟩
 have AF4:FnOk l.prog w K mg base (CXF l.prog w) 1 _ _ _ _:=FnOk.up (zJ B  F6)
 have jU:CalX l.prog w K mg base _ _ 1 _:=⟨_,_,AF4,b6,F6.kp,mg_of X G a6⟩
 have tT:FnOk l.prog w K mg base (CXF l.prog w) 1 _ _ _ _:=FnOk.up (rX B  F9)
 have AF5:FnOk l.prog w K mg base (CXF l.prog w) 1 _ _ _ _:=FnOk.up (zK B  F10)
 have AL0:FnOk l.prog w K mg base (CXF l.prog w) 1 _ _ _ _:=FnOk.up (AE4 B  F25)
 have gE:CalX l.prog w K mg base _ _ 1 _:=⟨_,_,AL0,b25,F25.kp,mg_of X G a25⟩
 have wZ:FnOk l.prog w K mg base (CXF l.prog w) 1 _ _ _ _:=vY B  F34
 have kB:CalX l.prog w K mg base _ _ 1 _:=⟨_,_,wZ,b34,F34.kp,mg_of X G a34⟩
 have AS1:FnOk l.prog w K mg base (CXF l.prog w) 1 _ _ _ _:=FnOk.up (AK2 B  F36)
 have sJ:CalX l.prog w K mg base _ _ 1 _:=⟨_,_,AS1,b36,F36.kp,mg_of X G a36⟩
 have zR:FnOk l.prog w K mg base (CXF l.prog w) 1 _ _ _ _:=FnOk.up (wX B  F37)
 have lT:CalX l.prog w K mg base _ _ 1 _:=⟨_,_,zR,b37,F37.kp,mg_of X G a37⟩
 have sM:FnOk l.prog w K mg base (CXF l.prog w) 1 _ _ _ _:=FnOk.up (qM B  F41)
 have wE:CalC l.prog w K mg base "Opened" z22 ["self","sign"] 1 (fL K _):=⟨_,_,sM,b41,⟨mkOpened,a41,i41,kcOpened⟩,B.Opened⟩
 have AL1:FnOk l.prog w K mg base (CXF l.prog w) 1 _ _ _ _:=FnOk.up (AE9 B  F50)
 have pH:CalX l.prog w K mg base _ _ 1 _:=⟨_,_,AL1,b50,F50.kp,mg_of X G a50⟩
 have AS2:FnOk l.prog w K mg base (CXF l.prog w) 1 _ _ _ _:=FnOk.up (AK3 B  F51)
 have aW:CalX l.prog w K mg base _ _ 1 _:=⟨_,_,AS2,b51,F51.kp,mg_of X G a51⟩
 have AL2:FnOk l.prog w K mg base (CXF l.prog w) 1 _ _ _ _:=FnOk.up (AF1 B  F65)
 have pI:CalX l.prog w K mg base _ _ 1 _:=⟨_,_,AL2,b65,F65.kp,mg_of X G a65⟩
 have qR:FnOk l.prog w K mg base (CXF l.prog w) 2 _ _ _ _:=FnOk.up (pC B iH F2)
 have cH:CalX l.prog w K mg base _ _ 2 _:=⟨_,_,qR,b2,F2.kp,mg_of X G a2⟩
 have wG:FnOk l.prog w K mg base (CXF l.prog w) 2 _ _ _ _:=FnOk.up (tK B iH F3)
 have cQ:CalX l.prog w K mg base _ _ 2 _:=⟨_,_,wG,b3,F3.kp,mg_of X G a3⟩
 have qS:FnOk l.prog w K mg base (CXF l.prog w) 2 _ _ _ _:=FnOk.up (pB B dE F5)
 have cG:CalX l.prog w K mg base _ _ 2 _:=⟨_,_,qS,b5,F5.kp,mg_of X G a5⟩
 have AL3:FnOk l.prog w K mg base (CXF l.prog w) 2 _ _ _ _:=FnOk.up (AE3 B jU F7)
 have pF:CalX l.prog w K mg base _ _ 2 _:=⟨_,_,AL3,b7,F7.kp,mg_of X G a7⟩
 have hU:∀ C sp,vT K (⟨z0,z1,z2,z3,z4,z5,z6,z7,z8,z9,z10,z11,z12,z13,z14,z15,z16,z17,z18,z19,z20,z21,z22,f49,t0,t1,t2,t3,t4,t5⟩:Ad) C sp->CalM l.prog w K mg base C "look" ["self"] 1 sp:=by
  rintro C sp ⟨rfl,rfl⟩
  exact ⟨⟨_,_,FnOk.lift AF5 (by decide),b10,⟨a10,i10,F10.kp⟩,B.ck_Words.cl⟩⟩
 have AF6:FnOk l.prog w K mg base (CXF l.prog w) 2 _ _ _ _:=FnOk.up (zL B hU F11)
 have zS:FnOk l.prog w K mg base (CXF l.prog w) 2 _ _ _ _:=FnOk.up (wV B hU F12)
 have xA:FnOk l.prog w K mg base (CXF l.prog w) 2 _ _ _ _:=FnOk.up (vW B gE F21)
 have yA:CalC l.prog w K mg base "Not" z12 ["self","fit"] 2 (fH K _):=⟨_,_,xA,b21,⟨mkNot,a21,i21,kcNot⟩,B.Not⟩
 have AF7:FnOk l.prog w K mg base (CXF l.prog w) 2 _ _ _ _:=FnOk.up (zM B gE F26)
 have eW:CalX l.prog w K mg base _ _ 2 _:=⟨_,_,AF7,b26,F26.kp,mg_of X G a26⟩
 have AS3:FnOk l.prog w K mg base (CXF l.prog w) 2 _ _ _ _:=FnOk.up (AK4 B aW F52)
 have dF:CalX l.prog w K mg base _ _ 2 _:=⟨_,_,AS3,b52,F52.kp,mg_of X G a52⟩
 have tU:FnOk l.prog w K mg base (CXF l.prog w) 3 _ _ _ _:=rW B bH F8
 have zQ:CalC l.prog w K mg base "Words" z6 ["self","text"] 3 (fY K _):=⟨_,_,tU,b8,⟨mkWords,a8,i8,kcWords⟩,B.Words⟩
 have lP:∀ C sp,zI K (⟨z0,z1,z2,z3,z4,z5,z6,z7,z8,z9,z10,z11,z12,z13,z14,z15,z16,z17,z18,z19,z20,z21,z22,f49,t0,t1,t2,t3,t4,t5⟩:Ad) C sp->CalM l.prog w K mg base C "takes" ["self","word"] 2 sp:=by
  rintro C sp ⟨rfl,rfl⟩
  exact ⟨⟨_,_,FnOk.lift zS (by decide),b12,⟨a12,i12,F12.kp⟩,B.ck_Words.cl⟩⟩
 have xB:FnOk l.prog w K mg base (CXF l.prog w) 3 _ _ _ _:=vZ B lP bH F13
 have pE:∀ C sp,vS K (⟨z0,z1,z2,z3,z4,z5,z6,z7,z8,z9,z10,z11,z12,z13,z14,z15,z16,z17,z18,z19,z20,z21,z22,f49,t0,t1,t2,t3,t4,t5⟩:Ad) C sp->CalM l.prog w K mg base C "is_ended" ["self"] 1 sp:=by
  rintro C sp ⟨rfl,rfl⟩
  exact ⟨⟨_,_,FnOk.lift tT (by decide),b9,⟨a9,i9,F9.kp⟩,B.ck_Words.cl⟩⟩
 have qT:FnOk l.prog w K mg base (CXF l.prog w) 3 _ _ _ _:=oZ B pE bH F14
 have dB:∀ C sp,oY K (⟨z0,z1,z2,z3,z4,z5,z6,z7,z8,z9,z10,z11,z12,z13,z14,z15,z16,z17,z18,z19,z20,z21,z22,f49,t0,t1,t2,t3,t4,t5⟩:Ad) C sp->CalM l.prog w K mg base C "take" ["self"] 2 sp:=by
  rintro C sp ⟨rfl,rfl⟩
  exact ⟨⟨_,_,FnOk.lift AF6 (by decide),b11,⟨a11,i11,F11.kp⟩,B.ck_Words.cl⟩⟩
 have pJ:FnOk l.prog w K mg base (CXF l.prog w) 3 _ _ _ _:=nT B dB pF bH F15
 have qU:FnOk l.prog w K mg base (CXF l.prog w) 3 _ _ _ _:=FnOk.up (pA B dE hU dB F16)
 have sN:FnOk l.prog w K mg base (CXF l.prog w) 3 _ _ _ _:=qO B bH F17
 have tV:FnOk l.prog w K mg base (CXF l.prog w) 3 _ _ _ _:=rZ B cQ F20
 have nR:CalC l.prog w K mg base "Least" z11 ["self","weight"] 3 (dX K _):=⟨_,_,tV,b20,⟨mkLeast,a20,i20,kcLeast⟩,B.Least⟩
 have wH:FnOk l.prog w K mg base (CXF l.prog w) 3 _ _ _ _:=FnOk.up (tM B eW F22)
 have sD:CalC l.prog w K mg base "Both" z13 ["self","fits"] 3 (eJ K _):=⟨_,_,wH,b22,⟨mkBoth,a22,i22,kcBoth⟩,B.Both⟩
 have sO:FnOk l.prog w K mg base (CXF l.prog w) 3 _ _ _ _:=FnOk.up (qL B eW F23)
 have kO:CalC l.prog w K mg base "Either" z14 ["self","fits"] 3 (dM K _):=⟨_,_,sO,b23,⟨mkEither,a23,i23,kcEither⟩,B.Either⟩
 have zT:FnOk l.prog w K mg base (CXF l.prog w) 3 _ _ _ _:=wU B cG F24
 have dY:CalX l.prog w K mg base _ _ 3 _:=⟨_,_,zT,b24,F24.kp,mg_of X G a24⟩
 have qV:FnOk l.prog w K mg base (CXF l.prog w) 3 _ _ _ _:=FnOk.up (pD B cH F27)
 have fN:CalX l.prog w K mg base _ _ 3 _:=⟨_,_,qV,b27,F27.kp,mg_of X G a27⟩
 have mD:FnOk l.prog w K mg base (CXF l.prog w) 3 _ _ _ _:=lO B cH F28
 have dJ:CalX l.prog w K mg base _ _ 3 _:=⟨_,_,mD,b28,F28.kp,mg_of X G a28⟩
 have sP:FnOk l.prog w K mg base (CXF l.prog w) 3 _ _ _ _:=qN B cQ dE F32
 have CD_Raised_3:CalD l.prog w K mg base "Raised" z20 ["self","minutes","times","to"] 3 [] (dN K (⟨z0,z1,z2,z3,z4,z5,z6,z7,z8,z9,z10,z11,z12,z13,z14,z15,z16,z17,z18,z19,z20,z21,z22,f49,t0,t1,t2,t3,t4,t5⟩:Ad)):=⟨_,_,_,sP,b32_3,.nil,⟨mkRaised,a32,i32,kcRaised⟩,B.Raised⟩
 have nA:FnOk l.prog w K mg base (CXF l.prog w) 3 _ _ _ _:=tO B kB cG F33
 have CD_Line_5:CalD l.prog w K mg base "Line" z21 ["self","fit","way","roads","sure","raised"] 3 [] (cI K (⟨z0,z1,z2,z3,z4,z5,z6,z7,z8,z9,z10,z11,z12,z13,z14,z15,z16,z17,z18,z19,z20,z21,z22,f49,t0,t1,t2,t3,t4,t5⟩:Ad)):=⟨_,_,_,nA,b33_5,.nil,⟨mkLine,a33,i33,kcLine⟩,B.Line⟩
 have CD_Line_3:CalD l.prog w K mg base "Line" z21 ["self","fit","way","roads","sure","raised"] 3 [.bl false,.non] (cI K (⟨z0,z1,z2,z3,z4,z5,z6,z7,z8,z9,z10,z11,z12,z13,z14,z15,z16,z17,z18,z19,z20,z21,z22,f49,t0,t1,t2,t3,t4,t5⟩:Ad)):=⟨_,_,_,nA,b33_3,(.cons rfl (.cons rfl .nil)),⟨mkLine,a33,i33,kcLine⟩,B.Line⟩
 have gF:CalX l.prog w K mg base "show_fit" ["fit"] 3 (fZ K _ 3):=uX (spf:=fZ K _) (n0:=0) AE1 b35 F35.kp (mg_of X G a35) (fun d n hn C=>FnOk.up (AK1 (P:=l.prog) (w:=w) (base:=base) hn B C F35)) 3 (by decide)
 have tW:FnOk l.prog w K mg base (CXF l.prog w) 3 _ _ _ _:=sA B dB bH F45
 have hV:CalX l.prog w K mg base _ _ 3 _:=⟨_,_,tW,b45,F45.kp,mg_of X G a45⟩
 have AS4:FnOk l.prog w K mg base (CXF l.prog w) 3 _ _ _ _:=FnOk.up (AK5 B aW dF F53)
 have sK:CalX l.prog w K mg base _ _ 3 _:=⟨_,_,AS4,b53,F53.kp,mg_of X G a53⟩
 have dG:CalX l.prog w K mg base "_law_text" ["_law_tree_here"] 3 (eP K _ 3):=uX (spf:=eP K _) (n0:=0) AD9 b56 F56.kp (mg_of X G a56) (fun d n hn C=>FnOk.up (AK8 (P:=l.prog) (w:=w) (base:=base) hn B C F56)) 3 (by decide)
 have iJ:CalX l.prog w K mg base "_law_same" ["_law_fit","_law_tree_here"] 3 (gC K _ 3):=uX (spf:=gC K _) (n0:=0) AE0 b57 F57.kp (mg_of X G a57) (fun d n hn C=>FnOk.up (AK9 (P:=l.prog) (w:=w) (base:=base) hn B C F57)) 3 (by decide)
 have AL4:FnOk l.prog w K mg base (CXF l.prog w) 3 _ _ _ _:=FnOk.up (AF0 B dF aW F58)
 have pG:CalX l.prog w K mg base _ _ 3 _:=⟨_,_,AL4,b58,F58.kp,mg_of X G a58⟩
 have wI:FnOk l.prog w K mg base (CXF l.prog w) 4 _ _ _ _:=tL B dY F18
 have sE:CalC l.prog w K mg base "Kind" z9 ["self","names"] 4 (eI K _):=⟨_,_,wI,b18,⟨mkKind,a18,i18,kcKind⟩,B.Kind⟩
 have tX:FnOk l.prog w K mg base (CXF l.prog w) 4 _ _ _ _:=rY B dY F19
 have nQ:CalC l.prog w K mg base "Place" z10 ["self","names"] 4 (dW K _):=⟨_,_,tX,b19,⟨mkPlace,a19,i19,kcPlace⟩,B.Place⟩
 have nB:FnOk l.prog w K mg base (CXF l.prog w) 4 _ _ _ _:=lZ B fN F29
 have dU:CalX l.prog w K mg base _ _ 4 _:=⟨_,_,nB,b29,F29.kp,mg_of X G a29⟩
 have wJ:FnOk l.prog w K mg base (CXF l.prog w) 4 _ _ _ _:=tN B dJ F30
 have sF:CalC l.prog w K mg base "Hour" z17 ["self","minute"] 4 (eK K _):=⟨_,_,wJ,b30,⟨mkHour,a30,i30,kcHour⟩,B.Hour⟩
 have AL5:FnOk l.prog w K mg base (CXF l.prog w) 4 _ _ _ _:=FnOk.up (AE8 B gF sJ lT F38)
 have jG:CalX l.prog w K mg base _ _ 4 _:=⟨_,_,AL5,b38,F38.kp,mg_of X G a38⟩
 have wK:FnOk l.prog w K mg base (CXF l.prog w) 4 _ _ _ _:=FnOk.up (tQ B dG F60)
 have jE:CalX l.prog w K mg base _ _ 4 _:=⟨_,_,wK,b60,F60.kp,mg_of X G a60⟩
 have wL:FnOk l.prog w K mg base (CXF l.prog w) 4 _ _ _ _:=FnOk.up (tS B iJ F63)
 have fO:CalX l.prog w K mg base _ _ 4 _:=⟨_,_,wL,b63,F63.kp,mg_of X G a63⟩
 have xC:FnOk l.prog w K mg base (CXF l.prog w) 5 _ _ _ _:=vX B dU F31
 have yB:CalC l.prog w K mg base "Day" z18 ["self","minute"] 5 (fK K _):=⟨_,_,xC,b31,⟨mkDay,a31,i31,kcDay⟩,B.Day⟩
 have BJ8:FnOk l.prog w K mg base (CXF l.prog w) 5 _ _ _ _:=BC5 B yA sD kO bH F46
 have zO:CalX l.prog w K mg base _ _ 5 _:=⟨_,_,BJ8,b46,F46.kp,mg_of X G a46⟩
 have bK:∀ C sp,eC K (⟨z0,z1,z2,z3,z4,z5,z6,z7,z8,z9,z10,z11,z12,z13,z14,z15,z16,z17,z18,z19,z20,z21,z22,f49,t0,t1,t2,t3,t4,t5⟩:Ad) C sp->CalM l.prog w K mg base C "take_number" ["self"] 3 sp:=by
  rintro C sp ⟨rfl,rfl⟩
  exact ⟨⟨_,_,FnOk.lift pJ (by decide),b15,⟨a15,i15,F15.kp⟩,B.ck_Words.cl⟩⟩
 have zU:FnOk l.prog w K mg base (CXF l.prog w) 5 _ _ _ _:=wW B bK CD_Raised_3 dE dB hU F48
 have lQ:CalX l.prog w K mg base _ _ 5 _:=⟨_,_,zU,b48,F48.kp,mg_of X G a48⟩
 have iE:∀ C sp,qJ K (⟨z0,z1,z2,z3,z4,z5,z6,z7,z8,z9,z10,z11,z12,z13,z14,z15,z16,z17,z18,z19,z20,z21,z22,f49,t0,t1,t2,t3,t4,t5⟩:Ad) C sp->CalM l.prog w K mg base C "take_names" ["self"] 3 sp:=by
  rintro C sp ⟨rfl,rfl⟩
  exact ⟨⟨_,_,FnOk.lift qU (by decide),b16,⟨a16,i16,F16.kp⟩,B.ck_Words.cl⟩⟩
 have tY:FnOk l.prog w K mg base (CXF l.prog w) 6 _ _ _ _:=sB B dB sE nQ nR wE iE bK bH F43
 have hX:CalX l.prog w K mg base _ _ 6 _:=⟨_,_,tY,b43,F43.kp,mg_of X G a43⟩
 have BJ9:FnOk l.prog w K mg base (CXF l.prog w) 6 _ _ _ _:=BC8 B zO hV F44
 have zP:CalX l.prog w K mg base _ _ 6 _:=⟨_,_,BJ9,b44,F44.kp,mg_of X G a44⟩
 have AS5:FnOk l.prog w K mg base (CXF l.prog w) 7 _ _ _ _:=AJ9 B zP hX F42
 have sG:CalX l.prog w K mg base _ _ 7 _:=⟨_,_,AS5,b42,F42.kp,mg_of X G a42⟩
 have AS6:FnOk l.prog w K mg base (CXF l.prog w) 7 _ _ _ _:=AK0 B dB sF yB bK bH F47
 have sH:CalX l.prog w K mg base _ _ 7 _:=⟨_,_,AS6,b47,F47.kp,mg_of X G a47⟩
 have iI:CalX l.prog w K mg base "_law_tree" ["_law_state","_law_deep","_law_more"] 7 (gA K _ 4):=uX (spf:=gA K _) (n0:=3) AD7 b54 F54.kp (mg_of X G a54) (fun d n hn C=>FnOk.up (AK6 (P:=l.prog) (w:=w) (base:=base) hn B aW sK C F54)) 4 (by decide)
 have BD9:FnOk l.prog w K mg base (CXF l.prog w) 7 _ _ _ _:=FnOk.up (AR9 B sF yB F61)
 have wF:CalX l.prog w K mg base _ _ 7 _:=⟨_,_,BD9,b61,F61.kp,mg_of X G a61⟩
 have qQ:∀ C sp,AE2 K (⟨z0,z1,z2,z3,z4,z5,z6,z7,z8,z9,z10,z11,z12,z13,z14,z15,z16,z17,z18,z19,z20,z21,z22,f49,t0,t1,t2,t3,t4,t5⟩:Ad) C sp->CalM l.prog w K mg base C "expect" ["self","word"] 3 sp:=by
  rintro C sp ⟨rfl,rfl⟩
  exact ⟨⟨_,_,FnOk.lift xB (by decide),b13,⟨a13,i13,F13.kp⟩,B.ck_Words.cl⟩⟩
 have mX:∀ C sp,sX K (⟨z0,z1,z2,z3,z4,z5,z6,z7,z8,z9,z10,z11,z12,z13,z14,z15,z16,z17,z18,z19,z20,z21,z22,f49,t0,t1,t2,t3,t4,t5⟩:Ad) C sp->CalM l.prog w K mg base C "take_some" ["self","count"] 3 sp:=by
  rintro C sp ⟨rfl,rfl⟩
  exact ⟨⟨_,_,FnOk.lift sN (by decide),b17,⟨a17,i17,F17.kp⟩,B.ck_Words.cl⟩⟩
 have wM:FnOk l.prog w K mg base (CXF l.prog w) 8 _ _ _ _:=AE6 B sG qQ sH mX lP CD_Line_5 CD_Line_3 bK lQ F49
 have BV0:CalX l.prog w K mg base _ _ 8 _:=⟨_,_,wM,b49,F49.kp,mg_of X G a49⟩
 have mY:CJ9 l.prog w K mg base f49 ["words"] 8 (mW K _):=⟨_,wM,b49,F49.kp⟩
 have gG:CalX l.prog w K mg base "_law_made" ["_law_tree_here"] 8 (gB K _ 3):=uX (spf:=gB K _) (n0:=5) AD8 b55 F55.kp (mg_of X G a55) (fun d n hn C=>FnOk.up (AK7 (P:=l.prog) (w:=w) (base:=base) hn B kO sE nQ nR yA sD C F55)) 3 (by decide)
 have tZ:FnOk l.prog w K mg base (CXF l.prog w) 8 _ _ _ _:=FnOk.up (sC B iI pG aW dF F59)
 have iA:CalX l.prog w K mg base _ _ 8 _:=⟨_,_,tZ,b59,F59.kp,mg_of X G a59⟩
 have lS:∀ C sp,qI K (⟨z0,z1,z2,z3,z4,z5,z6,z7,z8,z9,z10,z11,z12,z13,z14,z15,z16,z17,z18,z19,z20,z21,z22,f49,t0,t1,t2,t3,t4,t5⟩:Ad) C sp->CalM l.prog w K mg base C "expect_end" ["self"] 3 sp:=by
  rintro C sp ⟨rfl,rfl⟩
  exact ⟨⟨_,_,FnOk.lift qT (by decide),b14,⟨a14,i14,F14.kp⟩,B.ck_Words.cl⟩⟩
 have AF8:FnOk l.prog w K mg base (zW l.prog w 1) 9 _ _ _ _:=zN B zQ lS sI mY F40
 have mZ:CalG 1 l.prog w K mg base "read_whole" ["text","part_from"] 9 (lM K _):=⟨_,_,AF8,b40,F40.kp,mg_of X G a40⟩
 have wN:FnOk l.prog w K mg base (CXF l.prog w) 9 _ _ _ _:=FnOk.up (tR B CD_Line_5 CD_Raised_3 gG wF F62)
 have jF:CalX l.prog w K mg base _ _ 9 _:=⟨_,_,wN,b62,F62.kp,mg_of X G a62⟩
 have AL6:FnOk l.prog w K mg base (zW l.prog w 1) 10 _ _ _ _:=AE7 B mZ F39
 have eQ:CalG 1 l.prog w K mg base "read_line" ["text"] 10 (jS K _):=⟨_,_,AL6,b39,F39.kp,mg_of X G a39⟩
 have zV:FnOk l.prog w K mg base (CXF l.prog w) 11 _ _ _ _:=FnOk.up (wY B eQ F64)
 have iF:CalX l.prog w K mg base _ _ 11 _:=⟨_,_,zV,b64,F64.kp,mg_of X G a64⟩
 exact CB2 (P:=l.prog) (w:=w) (base:=base) B pH iA jE jF eQ pI aW jG fO iF dG F66
theorem CM4 {l:OpenLaw}{q:Program}{loose:List Str}{XP:(Str->Option Value)->Heap->Prop}{YP:World->Heap->Prop}{d:DefRec}{K:Params->Frag}(hn:l.most=some 63)(hdf:d.params.defaults=[])(hY:∀ (w:World) (h:Heap),YP w h->(K w.params).In h)(F:∀ (w:World) (mg:Str->Option Value) (fa:Addr) (h:Heap),(K w.params).In h->h.Ns mainGlobals mg->mg d.name=some (.ref fa) ->
   ∃ fd:FuncData,(∀ (s:Shared) (u:Value),BindsTo s fd ⟨[u],[]⟩ [("_law_script",u)])/\∀ base:Heap,(K w.params).In base->base.Ns mainGlobals mg->FnOk l.prog w (K w.params) mg base CX0 12 fa fd ["_law_script"] (spL (K w.params))) :
  WalkO q loose XP YP l.row.toRowW d [] (fun f vs=>PySem.call f vs) :=
 L2.CD2 (n:=63) (k:=12) (x:="_law_script") (CX:=fun _=>CX0) (sp:=fun w=>spL (K w.params)) hn (by decide) hdf ⟨rfl,by decide,by decide⟩ hY F (fun _ _ a ns hl _ hS=>⟨a,ns,rfl,hS,hl,fun _=>rfl⟩) fun _ _ _ _ _ z=>z
theorem CH7 {P:Program}{w:World}{K:Frag}{mg:Str->Option Value}{fa:Addr}(h:∃ (a:Ad) (fd:FuncData),(∀ (s:Shared) (v:Value),BindsTo s fd ⟨[v],[]⟩ [("_law_script",v)])/\∀ base:Heap,K.In base->base.Ns mainGlobals mg->FnOk P w K mg base CX0 12 fa fd ["_law_script"] (BC2 K a)) :
  ∃ fd:FuncData,(∀ (s:Shared) (v:Value),BindsTo s fd ⟨[v],[]⟩ [("_law_script",v)])/\∀ base:Heap,K.In base->base.Ns mainGlobals mg->FnOk P w K mg base CX0 12 fa fd ["_law_script"] (spL K):=by
 obtain ⟨a,fd,b,q⟩:=h
 exact ⟨fd,b,fun base x y=>q base x y⟩
end Bw
open PySem PySem.W PyProof.Rows
set_option maxRecDepth 100000 in
set_option maxHeartbeats 0 in
theorem PySem.Challenge.cw_bellsaway_k17_lines_as_texts_holds : PySem.Challenge.rw_bellsaway_k17_lines_as_texts.Holds := by
 w_on; o_law; k_head; (case hw=>w_witness2)
 k_fill
 refine Bw.CM4 (l:=PySem.Challenge.rw_bellsaway_k17_lines_as_texts) rfl rfl (fun w h Y=>PySem.W.kIn_of Y) ?F
 case F =>
  intro w mg fa h KX G hmg
  refine Bw.CH7 ?Z
  refine' Bw.CK2 KX G hmg ?a0 ?i0 ?l0 ?d0 ?c0 ?g1 ?g2 ?g3 ?g4 ?g5 ?g6 ?g7 ?g8 ?g9 ?g10 ?g11 ?g12 ?g13 ?g14 ?g15 ?g16 ?g17 ?g18 ?g19 ?g20 ?g21 ?g22 ?g23 ?g24 ?g25 ?g26 ?g27 ?g28 ?g29 ?g30 ?g31 ?a32 ?i32 ?l32 ?d32 ?c32 ?a33 ?i33 ?l33 ?d33 ?c33 ?g34 ?g35 ?g36 ?g37 ?g38 ?g39 ?g40 ?g41 ?g42 ?g43 ?g44 ?g45 ?g46 ?g47 ?g48 ?g49 ?g50 ?g51 ?g52 ?g53 ?g54 ?g55 ?g56 ?g57 ?g58 ?g59 ?g60 ?g61 ?g62 ?g63 ?g64 ?g65 ?g66 ?y0 ?y1 ?y2 ?y3 ?y4 ?y5 ?y6 ?y7 ?y8 ?y9 ?y10 ?y11 ?y12 ?y13 ?y14 ?y15 ?y16 ?y17 ?y18 ?y19 ?y20 ?y21 ?y22 ?y23 ?y24 ?y25 ?y26 ?y27 ?y28 ?y29 ?y30 ?y31 ?y32 ?y33 ?y34 ?y35 ?y36 ?y37 ?y38 ?y39 ?y40 ?y41_0 ?y41_1 ?y41_2 ?y41_3 ?y41_4 ?y41_5 ?y42 ?y43 ?y44 ?y45 ?y46 ?y47 ?y49_0 ?y49_1 ?y49_2 ?y49_3 ?y49_4 ?y49_5 ?y49_6 ?y49_7 ?y50_0 ?y50_1 ?y50_2 ?y50_3 ?y50_4 ?y50_5 ?y50_6 ?y50_7 ?y51 ?y52_0 ?y52_1 ?y52_2 ?y52_3 ?y52_4 ?y52_5 ?y52_6 ?y52_7 ?y53 ?y54_0 ?y54_1 ?y54_2 ?y54_3 ?y54_4 ?y54_5 ?y54_6 ?y54_7 ?y55 ?y56_0 ?y56_1 ?y56_2 ?y56_3 ?y56_4 ?y56_5 ?y56_6 ?y56_7 ?y57 ?y58_0 ?y58_1 ?y58_2 ?y58_3 ?y58_4 ?y58_5 ?y58_6 ?y58_7 ?y59 ?y60_0 ?y60_1 ?y60_2 ?y60_3 ?y60_4 ?y60_5 ?y60_6 ?y60_7 ?y61 ?y62_0 ?y62_1 ?y62_2 ?y62_3 ?y62_4 ?y62_5 ?y62_6 ?y62_7 ?y63 ?y64 ?y65_0 ?y65_1 ?y65_2 ?y65_3 ?y65_4 ?y65_5 ?y65_6 ?y65_7 ?y66 ?y67 ?y68 ?y69 ?y70 ?y71 ?y72 ?y73 ?y74 ?y75 ?y76 ?y77 ?y78 ?y79 ?y80 ?y81 ?y82 ?y83 ?y84 ?y85 ?y86 ?y87 ?y88 ?y89 ?y90 ?y91 ?y92 ?y93 ?y94 ?y95 ?y96 ?y97 ?y98 ?y99 ?y100 ?y101 ?y102 ?y103 ?y104 ?y105 ?y106 ?y107 ?y108 ?y109 ?y110 ?y111 ?y112 ?y113 ?y114 ?y115 ?y116 ?y117 ?y118 ?y119 ?y120 ?y121 ?y122 ?y123 ?y124_0 ?y124_1 ?y124_2 ?y125 ?y126 ?y127 ?y128 ?y129 ?y130 ?y131 ?y132_0 ?y132_1 ?y132_2 ?y132_3 ?y132_4 ?y132_5 ?y132_6 ?y132_7 ?y133_0 ?y133_1 ?y133_2 ?y133_3 ?y133_4 ?y133_5 ?y133_6 ?y133_7 ?y134 ?y135_0 ?y135_1 ?y135_2 ?y135_3 ?y135_4 ?y135_5 ?y135_6 ?y135_7 ?y136 ?y137_0 ?y137_1 ?y137_2 ?y137_3 ?y137_4 ?y137_5 ?y137_6 ?y137_7 ?y138_0 ?y138_1 ?y138_2 ?y138_3 ?y138_4 ?y138_5 ?y138_6 ?y138_7 ?y139 ?y140 ?y141 ?y142_0 ?y142_1 ?y142_2 ?y142_3 ?y142_4 ?y142_5 ?y142_6 ?y142_7 ?y143 ?y144 ?y145 ?y146 ?y147 ?y148 ?y149 ?y150 ?y151 ?y152 ?y153 ?y154 ?y155 ?y156 ?y157 ?y158 ?y159 ?y160 ?y161 ?y162 ?y163 ?y164 ?y165 ?y166 ?y167 ?y168 ?y169 ?y170_0 ?y170_1 ?y170_2 ?y171_0 ?y171_1 ?y171_2 ?lxNoText ?xbNoText ?sxNoText ?mkWords ?kcWords ?mkKind ?kcKind ?mkPlace ?kcPlace ?mkLeast ?kcLeast ?mkNot ?kcNot ?mkBoth ?kcBoth ?mkEither ?kcEither ?mkHour ?kcHour ?mkDay ?kcDay ?mkRaised ?kcRaised ?mkLine ?kcLine ?mkOpened ?kcOpened
  (case y0|y1|y2|y3|y4|y5|y6|y7|y8|y9|y10|y11|y12|y13|y14|y15|y16|y17|y18|y19|y20|y21|y22|y23|y24|y25|y26|y27|y28|y29|y30|y31|y32|y33|y34|y35|y36|y37|y38|y39|y40|a0|i0|l0|d0|c0|a32|i32|l32|d32|c32|a33|i33|l33|d33|c33|y41_0|y41_1|y41_2|y41_3|y41_4|y41_5=>k_is)
  (case y42=>k_exc)
  (case y43=>kts_exm)
  (case y44=>kts_exm)
  (case y45|y46|y47|y49_0|y49_1|y49_2|y49_3|y49_4|y49_5|y49_6|y49_7|y50_0|y50_1|y50_2|y50_3|y50_4|y50_5|y50_6|y50_7|y51|y52_0|y52_1|y52_2|y52_3|y52_4|y52_5|y52_6|y52_7|y53|y54_0|y54_1|y54_2|y54_3|y54_4|y54_5|y54_6|y54_7|y55|y56_0|y56_1|y56_2|y56_3|y56_4|y56_5|y56_6|y56_7|y57|y58_0|y58_1|y58_2|y58_3|y58_4|y58_5|y58_6|y58_7|y59|y60_0|y60_1|y60_2|y60_3|y60_4|y60_5|y60_6|y60_7|y61|y62_0|y62_1|y62_2|y62_3|y62_4|y62_5|y62_6|y62_7|y63|y64|y65_0|y65_1|y65_2|y65_3|y65_4|y65_5|y65_6|y65_7|y66|y67=>k_is)
  (case y68|y69|y70|y71|y72|y73|y74|y75|y76|y77|y78|y79|y80|y81|y82|y83|y84|y85|y86|y87|y88|y89|y90|y91|y92|y93|y94|y95|y96|y97|y98|y99|y100|y101|y102|y103|y104|y105|y106|y107|y108|y109|y110|y111|y112|y113|y114|y115|y116|y117|y118|y119|y120|y121|y122|y123=>kit_is)
  (case y124_0|y124_1|y124_2=>k_is)
  (case y125=>k_exc)
  (case y126=>kts_exm)
  (case y127=>k_exc)
  (case y128=>kts_exm)
  (case y129|y130|y131=>kit_is)
  (case y132_0|y132_1|y132_2|y132_3|y132_4|y132_5|y132_6|y132_7|y133_0|y133_1|y133_2|y133_3|y133_4|y133_5|y133_6|y133_7|y134|y135_0|y135_1|y135_2|y135_3|y135_4|y135_5|y135_6|y135_7|y136|y137_0|y137_1|y137_2|y137_3|y137_4|y137_5|y137_6|y137_7|y138_0|y138_1|y138_2|y138_3|y138_4|y138_5|y138_6|y138_7|y139|y140|y141|y142_0|y142_1|y142_2|y142_3|y142_4|y142_5|y142_6|y142_7|y143|y144|y145|y146|y147=>k_is)
  (case y148|y149|y150|y151|y152|y153|y154|y155|y156|y157|y158|y159|y160|y161|y162|y163|y164|y165|y166|y167|y168|y169=>kit_is)
  (case y170_0|y170_1|y170_2|y171_0|y171_1|y171_2|lxNoText=>k_is)
  (case xbNoText=>k_exc)
  (case sxNoText|mkWords|kcWords|mkKind|kcKind|mkPlace|kcPlace|mkLeast|kcLeast|mkNot|kcNot|mkBoth|kcBoth|mkEither|kcEither|mkHour|kcHour|mkDay|kcDay|mkRaised|kcRaised|mkLine|kcLine|mkOpened|kcOpened=>k_is)
  (case g1 | g2 | g3 | g4 | g5 | g6 | g7 | g24 | g25 | g26 | g27 | g28 | g29 | g34 | g35 | g36 | g37 | g38 | g39 | g40 | g42 | g43 | g44 | g45 | g46 | g47 | g48 | g49 | g50 | g51 | g52 | g53 | g54 | g55 | g56 | g57 | g58 | g59 | g60 | g61 | g62 | g63 | g64 | g65 | g66=>(refine' ⟨?a,_,L2.CJ4 ?l ?c ?k⟩; (case a=>k_is); (case l=>k_is); (case c=>k_is); (case k=>k_is)))
  (case g8 | g9 | g10 | g11 | g12 | g13 | g14 | g15 | g16 | g17 | g18 | g19 | g20 | g21 | g22 | g23 | g30 | g31 | g41=>(refine' ⟨?a,?i,_,L2.CJ4 ?l ?c ?k⟩; (case a=>k_is); (case i=>k_is); (case l=>k_is); (case c=>k_is); (case k=>k_is)))
