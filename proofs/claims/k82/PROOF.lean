import PyProof.Rows.All
import Imp.Common
import Imp.FormA
import Imp.PinsA
import KE.IntText
import KE.KIntText
import KE.KIsAll
import KE.KItem
import KE.KTryMore
import ObjForm.Claim3
import Open.Boot
import Open.Claim
import Open.Fast
import Open.FastLooks
import Open.FastRun
import Open.FastT1
import Open.FastT9
import Open.FastTabs
import Open.Head
import Open.Line
import Open.Pieces
import Open.Recs
import Open.Row
import Open.Seg
import Open.Strs
import Open.Tree
import OpenK.KCall
import OpenK.KCls
import OpenK.KDescr
import OpenK.KFacts
import OpenK.KGet
import OpenK.KLine
import OpenK.KMake
import OpenK.KMore
import OpenK.KOwn
import OpenK.KRaise
import OpenK.KWalk
import OpenK.Peek
import PyProof.EqAt
import PyProof.EqKinds
import PyProof.TupleCall
import Wide.BridgeG
import Wide.BytesRules
import Wide.Claim
import Wide.Data
import Wide.Ends
import Wide.Head
import Wide.Lay
import Wide.Line
import Wide.Loose
import Wide.ObjOpen
import Wide.OneHead
import Wide.Pins
import Wide.Reads
import Wide.Row
import Wide.Tac
import Wide.Tm
import Wide.Top
import Wide.Vals
import Wide.Well
import KE.RegKIsAll
import KE.RegKTryMore
import OpenK.KQuick
import Wide.All
import Wide.FinOn
import Open.Dig
import Open.FastParts
import Open.FastTables
import Open.FastU1
import Open.FastU10
import Open.FastU11
import Open.FastU12
import Open.FastU2
import Open.FastU3
import Open.FastU4
import Open.FastU5
import Open.FastU6
import Open.FastU7
import Open.FastU8
import Open.FastU9
import Open.Fors
import Open.Gens
import Open.Split
import Open.TopsExt
import Open.TreeImp
import Open.Trees2
import PySem.Challenge.RW_bellsaway_k82_lines_that_cannot_be_read
set_option Elab.async false
set_option linter.all false
set_option maxRecDepth 100000
namespace L2
open PySem PySem.Spec PyProof.Rows PySem.W
abbrev Key:=Sum Int Str
def AZ6:Key→Value→Bool
 | .inl k,v=>Value.isInt k v
 | .inr x,v=>Value.isStrOf x v
def BM3 (w:World):Key→Int
 | .inl k=>hashInt k
 | .inr x=>hashStr w x
theorem dD:∀ {k:Key}{v:Value},AZ6 k v=true→(∃ i t,k=Sum.inl i∧v=Value.int i t)∨(∃ x t,k=Sum.inr x∧v=Value.str x t)
 | .inl i,v,h=>by
  obtain ⟨t,e⟩:=Value.isInt_shape (k:=i) (v:=v) h
  exact .inl ⟨i,t,rfl,e⟩
 | .inr x,v,h=>by
  obtain ⟨t,e⟩:=Value.isStrOf_shape (x:=x) (v:=v) h
  exact .inr ⟨x,t,rfl,e⟩
theorem AZ7 (a b:Int):decide ((Sum.inl a:Key)=Sum.inl b)=(a == b):=by
 by_cases e:a=b
 ·subst e; simp
 ·have h:¬ (Sum.inl a:Key)=Sum.inl b:=fun q=>e (Sum.inl.inj q)
  rw [decide_eq_false h]
  exact (beq_eq_false_iff_ne.mpr e).symm
theorem AZ8 (a b:Str):decide ((Sum.inr a:Key)=Sum.inr b)=decide (a=b):=by
 by_cases e:a=b
 ·subst e; simp
 ·have h:¬ (Sum.inr a:Key)=Sum.inr b:=fun q=>e (Sum.inr.inj q)
  rw [decide_eq_false h,decide_eq_false e]
theorem AZ9 (a:Int)(b:Str):decide ((Sum.inl a:Key)=Sum.inr b)=false:=decide_eq_false (fun q=>nomatch q)
theorem BA0 (a:Str)(b:Int):decide ((Sum.inr a:Key)=Sum.inl b)=false:=decide_eq_false (fun q=>nomatch q)
def AB0 (prog:Program)(w:World):PySem.KeyKind prog w Key where
 is:=AZ6
 hash:=BM3 w
 inj:=fun v a b ha hb=>by
  rcases dD ha with ⟨i,t,rfl,rfl⟩ | ⟨x,t,rfl,rfl⟩
  ·rcases dD hb with ⟨j,u,rfl,e⟩ | ⟨y,u,rfl,e⟩
   ·injection e with e1 _; rw [e1]
   ·exact nomatch e
  ·rcases dD hb with ⟨j,u,rfl,e⟩ | ⟨y,u,rfl,e⟩
   ·exact nomatch e
   ·injection e with e1 _; rw [e1]
 byValue:=fun k v h=>by
  rcases dD h with ⟨i,t,rfl,rfl⟩ | ⟨x,t,rfl,rfl⟩ <;> rfl
 pyHash:=fun hv h=>by
  rcases dD hv with ⟨i,t,rfl,rfl⟩ | ⟨x,t,rfl,rfl⟩
  ·exact wpAny_pyHash_int h
  ·exact wpAny_pyHash_str h
 eqBool:=fun hu hv h=>by
  rcases dD hu with ⟨i,t,rfl,rfl⟩ | ⟨x,t,rfl,rfl⟩
  ·rcases dD hv with ⟨j,u,rfl,rfl⟩ | ⟨y,u,rfl,rfl⟩
   ·rw [AZ7] at h; exact wpAny_eqBool_int h
   ·rw [AZ9] at h; exact SeqAt.EqAt.int_str i t y u _ _ _ _ h
  ·rcases dD hv with ⟨j,u,rfl,rfl⟩ | ⟨y,u,rfl,rfl⟩
   ·rw [BA0] at h; exact SeqAt.EqAt.str_int x t j u _ _ _ _ h
   ·rw [AZ8] at h; exact wpAny_eqBool_str h
 «strs»:=fun k x t v h=>by
  rcases dD h with ⟨i,u,rfl,e⟩ | ⟨y,u,rfl,e⟩
  ·exact nomatch e
  ·injection e with e1 _
   subst e1
   cases v <;> rfl
inductive V where
 | non | bl (b:Bool) | int (i:Int) | str (x:Str) | byt (b:Array UInt8) | flt (b:UInt64) | ref (a:Addr) | ty (n:String)
 deriving DecidableEq
def RelV:V→Value→Prop
 | .non,u=>u=Value.none
 | .bl b,u=>u=Value.bool b
 | .int i,u=>∃ t,u=Value.int i t
 | .str x,u=>∃ t,u=Value.str x t
 | .byt b,u=>∃ t,u=Value.bytes b t
 | .flt b,u=>∃ t,u=Value.float b t
 | .ref a,u=>u=Value.ref a
 | .ty n,u=>u=Value.type n
abbrev Vals:List V→List Value→Prop:=Paired RelV
theorem Vals.length {xs:List V}{us:List Value}(r:Vals xs us):xs.length=us.length:=Paired.length r
theorem Vals.get:∀ {xs:List V}{us:List Value}{i:Nat}{x:V},Vals xs us→xs[i]?=some x→∃ u,us[i]?=some u∧RelV x u
 | _,_,_,_,.nil,e=>by simp at e
 | _,_,0,_,.cons r _,e=>by simp at e; subst e; exact ⟨_,rfl,r⟩
 | _,_,i+1,x,.cons _ t,e=>by
  obtain ⟨u,h1,h2⟩:=Vals.get (i:=i) (x:=x) t (by simpa using e)
  exact ⟨u,by simpa using h1,h2⟩
theorem Vals.set {x:V}{u:Value}(r:RelV x u):∀ {xs:List V}{us:List Value}(i:Nat),Vals xs us→Vals (xs.set i x) (us.set i u)
 | _,_,_,.nil=>.nil
 | _,_,0,.cons _ t=>.cons r t
 | _,_,i+1,.cons q t=>.cons q (Vals.set r i t)
theorem Vals.append:∀ {xs ys:List V}{us ws:List Value},Vals xs us→Vals ys ws→Vals (xs++ys) (us++ws)
 | _,_,_,_,.nil,s=>s
 | _,_,_,_,.cons r t,s=>.cons r (Vals.append t s)
theorem Vals.take:∀ {xs:List V}{us:List Value}(n:Nat),Vals xs us→Vals (xs.take n) (us.take n)
 | _,_,0,_=>.nil
 | _,_,_+1,.nil=>.nil
 | _,_,n+1,.cons r t=>.cons r (Vals.take n t)
theorem Vals.drop:∀ {xs:List V}{us:List Value}(n:Nat),Vals xs us→Vals (xs.drop n) (us.drop n)
 | _,_,0,r=>r
 | _,_,_+1,.nil=>.nil
 | _,_,n+1,.cons _ t=>Vals.drop n t
def RelO:Option V→Option Value→Prop
 | some v,some u=>RelV v u
 | none,none=>True
 | _,_=>False
def KV {κ:Type}:List (κ × V)→List (κ × Value)→Prop:=Paired fun (p:κ × V) (q:κ × Value)=>p.1=q.1∧RelV p.2 q.2
def kV:Key→V
 | .inl i=>.int i
 | .inr x=>.str x
inductive HO where
  | lst (xs:List V)
  | tup (xs:List V)
  | dK (kvs:List (Key × V)) | dT (kvs:List (List Key × V))
  | set (S:Int→Bool) (n:Nat)
  | ins (C dx:Addr) (fs:List (Str × V))
  | own (x:Addr)
  | xd (fs:List (Str × V))
  | met (f x:Addr)
  | rng (lo hi:Int)
  | frz (o:Obj) (u:HO)
  | tbl (ps:Array Value)
  | ext (φ:Heap→Prop)
abbrev Hp:=Addr→Option HO
def upd (H:Hp)(a:Addr)(o:HO):Hp:=fun b=>if b=a then some o else H b
theorem aC {H:Hp}{a:Addr}{o:HO}:upd H a o a=some o:=by unfold upd; rw [if_pos rfl]
theorem aI {H:Hp}{a b:Addr}{o:HO}(h:b≠a):upd H a o b=H b:=by unfold upd; rw [if_neg h]
theorem BF5 {H:Hp}{a b:Addr}{o u:HO}(h:H a=some o)(h':H b=some u)(d:o≠u):a≠b:=by
 intro e; subst e; rw [h] at h'; exact d (Option.some.inj h')
theorem aR {H:Hp}{a b:Addr}{o:HO}(h:H a=some o)(h':H b=none):a≠b:=by
 intro e; subst e; rw [h] at h'; cases h'
section
variable (P:Program) (w:World)
def ObjOk (H:Hp)(h:Heap)(a:Addr):HO→Prop
 | .lst xs=>xs.length≤sizeLine∧∃ (its:List Value) (n:Nat),Vals xs its∧h.get? a=some { cls:=.type "list",data:=.seq its.toArray n }
 | .tup xs=>xs.length≤sizeLine∧∃ its:List Value,Vals xs its∧IsTup h a its.toArray
 | .dK kvs=>kvs.length≤sizeLine∧(a == sysModules)=false∧∃ vs,KV kvs vs∧h.DictOf (AB0 P w) a vs
 | .dT kvs=>kvs.length≤sizeLine∧(a == sysModules)=false∧∃ xs:List (List Key × Addr × Value),
   Paired (fun (p:List Key × V) (q:List Key × Addr × Value)=>p.1=q.1∧H q.2.1=some (.tup (p.1.map kV))∧RelV p.2 q.2.2) kvs xs ∧
   ∃ o es ep,h.get? a=some o∧o.ExactDict∧o.data=.dict es ep∧es.toList=xs.map (entryOfKey (tupleKind (AB0 P w)))∧(xs.map (·.1)).Nodup
 | .set S n=>h.SetOf (intKind P w) a S n
 | .ins C dx fs=>H dx=some (.own a)∧fs.length≤1000∧dx≠a∧h.get? a=some (instObj C dx) ∧
   ∃ mA,h.Ns1 dx mA∧(∀ f,RelO (fs.lookup f) (mA f))∧PySem.Within mA (fs.map (·.1))
 | .own _=>∃ o,h.get? a=some o
 | .xd fs=>∃ mA,h.Ns1 a mA∧∀ f,RelO (fs.lookup f) (mA f)
 | .rng lo hi=>∃ t u v,h.get? a=some { cls:=.type "range",data:=.fields #[.int lo t,.int hi u,.int 1 v] }
 | .frz o u=>h.get? a=some o∧ObjOk H h a u
 | .tbl ps=>h.get? a=some { cls:=.none,data:=.fields ps }
 | .met f x=>h.get? a=some (methodObj (.ref f) (.ref x))
 | .ext φ=>φ h∧(∃ o,h.get? a=some o)∧∀ h1 h2:Heap,φ h1→(∀ o,h1.get? a=some o→h2.get? a=some o)→φ h2
def HOk (H:Hp)(h:Heap):Prop:=∀ a o,H a=some o→ObjOk P w H h a o
end
section
variable {P:Program}{w:World}{H H':Hp}{h h':Heap}{a:Addr}{o:HO}
theorem ObjOk.lt (x:ObjOk P w H h a o):a < h.objs.size:=by
 cases o with
 | lst xs=>obtain ⟨_,_,_,_,e⟩:=x; exact Heap.lt_size e
 | tup xs=>obtain ⟨_,_,_,p⟩:=x; exact p.lt
 | dK kvs=>obtain ⟨_,_,_,_,o,_,_,e,_⟩:=x; exact Heap.lt_size e
 | dT kvs=>obtain ⟨_,_,_,_,o,_,_,e,_⟩:=x; exact Heap.lt_size e
 | set S n=>obtain ⟨o,_,_,_,e,_⟩:=x; exact Heap.lt_size e
 | ins C dx fs=>obtain ⟨_,_,_,e,_⟩:=x; exact Heap.lt_size e
 | own y=>obtain ⟨_,e⟩:=x; exact Heap.lt_size e
 | xd fs=>obtain ⟨_,⟨_,_,_,e,_⟩,_⟩:=x; exact Heap.lt_size e
 | rng lo hi=>obtain ⟨_,_,_,e⟩:=x; exact Heap.lt_size e
 | frz ob u=>obtain ⟨e,_⟩:=x; exact Heap.lt_size e
 | tbl ps=>exact Heap.lt_size (show h.get? a=some _ from x)
 | met f y=>exact Heap.lt_size (show h.get? a=some _ from x)
 | ext φ=>obtain ⟨_,⟨_,e⟩,_⟩:=x; exact Heap.lt_size e
theorem Paired.mapP {α β:Type}{F G:α→β→Prop}:∀ {l₁:List α}{l₂:List β},Paired F l₁ l₂→(∀ a b,F a b→G a b)→Paired G l₁ l₂
 | _,_,.nil,_=>.nil
 | _,_,.cons r t,f=>.cons (f _ _ r) (Paired.mapP t f)
theorem ObjOk.stay (x:ObjOk P w H h a o)(k:∀ b u,(b=a∨H b=some (.own a))→h.get? b=some u→h'.get? b=some u)(ho:∀ b,H b=some (.own a)→H' b=some (.own a))(ht:∀ b xs,H b=some (.tup xs)→H' b=some (.tup xs)):ObjOk P w H' h' a o:=by
 induction o with
 | lst xs=>obtain ⟨z,its,n,r,e⟩:=x; exact ⟨z,its,n,r,k _ _ (.inl rfl) e⟩
 | tup xs=>obtain ⟨z,its,r,ob,e,c⟩:=x; exact ⟨z,its,r,ob,k _ _ (.inl rfl) e,c⟩
 | dK kvs=>obtain ⟨z,y,vs,r,ob,es,ep,e,c⟩:=x; exact ⟨z,y,vs,r,ob,es,ep,k _ _ (.inl rfl) e,c⟩
 | dT kvs =>
  obtain ⟨z,y,xs,r,ob,es,ep,e,c⟩:=x
  exact ⟨z,y,xs,Paired.mapP r fun p q z=>⟨z.1,ht _ _ z.2.1,z.2.2⟩,ob,es,ep,k _ _ (.inl rfl) e,c⟩
 | set S n=>obtain ⟨ob,es,ep,t,e,c⟩:=x; exact ⟨ob,es,ep,t,k _ _ (.inl rfl) e,c⟩
 | ins C dx fs =>
  obtain ⟨d,z,ne,e,mA,⟨od,es,ep,e2,c⟩,r⟩:=x
  exact ⟨ho _ d,z,ne,k _ _ (.inl rfl) e,mA,⟨od,es,ep,k _ _ (.inr d) e2,c⟩,r⟩
 | own y=>obtain ⟨ob,e⟩:=x; exact ⟨ob,k _ _ (.inl rfl) e⟩
 | xd fs=>obtain ⟨mA,⟨od,es,ep,e,c⟩,r⟩:=x; exact ⟨mA,⟨od,es,ep,k _ _ (.inl rfl) e,c⟩,r⟩
 | rng lo hi=>obtain ⟨t,u,v,e⟩:=x; exact ⟨t,u,v,k _ _ (.inl rfl) e⟩
 | frz ob u ih=>obtain ⟨e,q⟩:=x; exact ⟨k _ _ (.inl rfl) e,ih q⟩
 | tbl ps =>
  have e:h.get? a=some { cls:=.none,data:=.fields ps }:=x
  show h'.get? a=some { cls:=.none,data:=.fields ps }
  exact k a _ (.inl rfl) e
 | met f y =>
  have e:h.get? a=some (methodObj (.ref f) (.ref y)):=x
  show h'.get? a=some (methodObj (.ref f) (.ref y))
  exact k a _ (.inl rfl) e
 | ext φ=>obtain ⟨p,⟨o,e⟩,st⟩:=x; exact ⟨st _ _ p fun o q=>k _ _ (.inl rfl) q,⟨o,k _ _ (.inl rfl) e⟩,st⟩
theorem HOk.lt (x:HOk P w H h)(e:H a=some o):a < h.objs.size:=(x a o e).lt
theorem HOk.fresh (x:HOk P w H h)(e:h.objs.size≤a):H a=none:=by
 cases q:H a with
 | none=>rfl
 | some u=>exact absurd (Nat.lt_of_lt_of_le (x.lt q) e) (Nat.lt_irrefl _)
theorem HOk.kept (x:HOk P w H h)(k:∀ b u,h.get? b=some u→h'.get? b=some u):HOk P w H h':=fun a o e =>
 (x a o e).stay (fun b u _ q=>k b u q) (fun _ q=>q) fun _ _ q=>q
theorem HOk.laid (x:HOk P w H h)(k:∀ b u,h.get? b=some u→h'.get? b=some u)(hp:h.objs.size≤a)(new:ObjOk P w (upd H a o) h' a o):HOk P w (upd H a o) h':=fun b u e=>by
 have hn:=x.fresh hp
 by_cases hb:b=a
 ·subst hb; rw [aC] at e; cases e; exact new
 ·rw [aI hb] at e
  exact (x b u e).stay (fun c v _ q=>k c v q) (fun c q=>by rw [aI (aR q hn)]; exact q) fun c xs q=>by rw [aI (aR q hn)]; exact q
end
def Rd (H:Hp)(a:Addr)(u:HO):Prop:=H a=some u∨∃ o,H a=some (.frz o u)
theorem Rd.ok {P:Program}{w:World}{H:Hp}{h:Heap}{a:Addr}{u:HO}(r:Rd H a u)(x:HOk P w H h):ObjOk P w H h a u:=by
 rcases r with r | ⟨o,r⟩
 ·exact x a u r
 ·obtain ⟨_,q⟩:=x a _ r
  exact q
def Mut:Option HO→Prop
 | some (.lst _)=>True
 | some (.dK _)=>True
 | some (.dT _)=>True
 | some (.set _ _)=>True
 | some (.ins _ _ _)=>True
 | some (.ext _)=>True
 | _=>False
section
variable {P:Program}{w:World}{H:Hp}{h h':Heap}{x e:Addr}{o':HO}
theorem HOk.write (ok:HOk P w H h)(mu:Mut (H x))(he:e=x∨H e=some (.own x))(k:∀ b u,b≠e→h.get? b=some u→h'.get? b=some u)(heo:∃ u,h'.get? e=some u)(new:ObjOk P w (upd H x o') h' x o'):HOk P w (upd H x o') h':=fun b u q=>by
 have nown:∀ c y,H c=some (.own y)→c≠x:=fun c y r z=>by subst z; rw [r] at mu; exact mu
 have ntup:∀ c xs,H c=some (.tup xs)→c≠x:=fun c xs r z=>by subst z; rw [r] at mu; exact mu
 by_cases hb:b=x
 ·subst hb; rw [aC] at q; cases q; exact new
 ·rw [aI hb] at q
  by_cases hbe:b=e
  ·have q':H b=some (.own x):=by
    rcases he with z | z
    ·exact absurd (hbe.trans z) hb
    ·rw [hbe]; exact z
   rw [q] at q'; cases q'
   obtain ⟨v,hv⟩:=heo
   exact ⟨v,by rw [hbe]; exact hv⟩
  ·refine (ok b u q).stay (fun c v hc r=>k c v ?_ r) (fun c r=>by rw [aI (nown c b r)]; exact r) fun c xs r=>by rw [aI (ntup c xs r)]; exact r
   rcases hc with rfl | hc
   ·exact hbe
   ·rintro rfl
    rcases he with z | z
    ·exact nown c b hc z
    ·rw [hc] at z; cases z; exact hb rfl
end
structure Un (fs ex:List Addr) (H H':Hp) (h h':Heap):Prop where
 keep:∀ b o,h.get? b=some o→H b=none→b ∉ fs→b ∉ ex→h'.get? b=some o
 slot:∀ b o,h.get? b=some o→H b=none→b∈fs→b ∉ ex→∃ sl,h'.get? b=some { o with slots:=sl }
 free:∀ b o,h.get? b=some o→H b=none→b ∉ ex→H' b=none
 there:∀ b o,h.get? b=some o→b ∉ ex→∃ o',h'.get? b=some o'
 tups:∀ b xs,H b=some (.tup xs)→H' b=some (.tup xs)
 frzs:∀ b o u,H b=some (.frz o u)→H' b=some (.frz o u)
 tbls:∀ b ps,H b=some (.tbl ps)→∃ more,H' b=some (.tbl (ps++more))
section
variable {fs fs' ex ex':List Addr}{H H1 H2:Hp}{h h1 h2 h':Heap}{a x e:Addr}{o:HO}
theorem Un.any (u:Un fs ex H H1 h h1){b:Addr}{ob:Obj}(q:h.get? b=some ob)(n:H b=none)(hx:b ∉ ex):∃ sl,h1.get? b=some { ob with slots:=sl }:=by
 by_cases hb:b∈fs
 ·exact u.slot b ob q n hb hx
 ·exact ⟨ob.slots,u.keep b ob q n hb hx⟩
theorem Un.kept (k:∀ b u,h.get? b=some u→h'.get? b=some u):Un fs ex H H h h' :=
 ⟨fun b ob q _ _ _=>k b ob q,fun b ob q _ _ _=>⟨ob.slots,k b ob q⟩,fun _ _ _ n _=>n,fun b ob q _=>⟨ob,k b ob q⟩,fun _ _ q=>q,fun _ _ _ q=>q,fun _ ps q=>⟨#[],by rw [q]; simp⟩⟩
theorem Un.refl:Un fs ex H H h h:=Un.kept fun _ _ q=>q
theorem Un.laid (k:∀ b u,h.get? b=some u→h'.get? b=some u)(hp:h.objs.size≤a)(hn:H a=none):Un fs ex H (upd H a o) h h' where
 keep:=fun b u q _ _ _=>k b u q
 slot:=fun b u q _ _ _=>⟨u.slots,k b u q⟩
 free:=fun b u q n _=>by rw [aI (Nat.ne_of_lt (Nat.lt_of_lt_of_le (Heap.lt_size q) hp))]; exact n
 there:=fun b u q _=>⟨u,k b u q⟩
 tups:=fun b xs q=>by rw [aI (aR q hn)]; exact q
 frzs:=fun b u xs q=>by rw [aI (aR q hn)]; exact q
 tbls:=fun b ps q=>⟨#[],by rw [aI (aR q hn),q]; simp⟩
theorem Un.write (mu:Mut (H x))(he:e=x∨H e=some (.own x))(k:∀ b u,b≠e→h.get? b=some u→h'.get? b=some u)(heo:∃ u,h'.get? e=some u):Un fs ex H (upd H x o) h h':=by
 have hx:∀ b,H b=none→b≠x:=fun b n z=>by subst z; rw [n] at mu; exact mu
 have hb:∀ b,H b=none→b≠e:=fun b n z=>by
  subst z
  rcases he with r | r
  ·exact hx b n r
  ·rw [n] at r; cases r
 have hm:∀ b u,H b=some u→¬ Mut (some u)→b≠x:=fun b u q nm z=>by subst z; rw [q] at mu; exact nm mu
 refine ⟨fun b u q n _ _=>k b u (hb b n) q,fun b u q n _ _=>⟨u.slots,k b u (hb b n) q⟩,fun b u q n _=>by rw [aI (hx b n)]; exact n,fun b u q _=>?_,
  fun b xs q=>by rw [aI (hm b _ q fun z=>z)]; exact q,fun b u xs q=>by rw [aI (hm b _ q fun z=>z)]; exact q,fun b ps q=>⟨#[],by rw [aI (hm b _ q fun z=>z),q]; simp⟩⟩
 by_cases hbe:b=e
 ·subst hbe; exact heo
 ·exact ⟨u,k b u hbe q⟩
end
def trk (h:Heap)(H:Hp):List Addr:=(List.range h.objs.size).filter fun a=>(H a).isSome
def AL5 (h:Heap)(H:Hp):Heap:=hideAll h (trk h H)
theorem AB1 (h:Heap)(H:Hp):(AL5 h H).objs.size=h.objs.size:=hideAll_size _ _
theorem AL6 {h:Heap}{H:Hp}{b:Addr}{o:Obj}(e:h.get? b=some o)(n:H b=none):(AL5 h H).get? b=some o :=
 hideAll_get _ e fun hm=>by
  have q:(H b).isSome=true:=(List.mem_filter.mp hm).2
  rw [n] at q; simp at q
theorem AS4 {h:Heap}{H:Hp}{b:Addr}{o:Obj}(e:(AL5 h H).get? b=some o):h.get? b=some o∧H b=none:=by
 have e':h.get? b=some o:=of_hideAll (trk h H) e
 refine ⟨e',?_⟩
 cases q:H b with
 | none=>rfl
 | some x =>
  have hm:b∈trk h H:=List.mem_filter.mpr ⟨List.mem_range.mpr (Heap.lt_size e'),by simp [q]⟩
  have z:(AL5 h H).get? b=none:=hideAll_none (trk h H) hm
  rw [z] at e; cases e
structure Mod (K:Frag) (mg:Str→Option Value) (base:Heap):Prop where
 kin:K.In base
 glob:base.Ns mainGlobals mg
 blt:∃ mb,base.Ns builtinsNs mb∧∀ x:Str,x≠"__name__"→mb x=bootBuiltins x
 nolimit:base.NoLimit
structure Cx where
 prog:Program
 w:World
 K:Frag
 mg:Str→Option Value
 base:Heap
 A:Around
 N:List Str
 s₀:Shared
 H₀:Hp
 env:Env
 outer:List Env
 stack:List Env
 ex:List Addr
 fn:Str→Bool
 calm:Bool
 pn:List (Addr × Obj)
 xe:Value→Shared→Prop
def frs (l:List Env):List Addr:=l.filterMap (·.frame)
abbrev Cx.fs (X:Cx):List Addr:=frs X.outer
def Vis (sc:Scope)(x:Str):Prop:=sc.names.lookup x=some .local∨sc.names.lookup x=some .cell∨sc.names.lookup x=some .free
def Loc (sc:Scope)(x:Str):Prop:=sc.names.lookup x=some .local∨sc.names.lookup x=some .cell
def BM4 (env:Env)(h:Heap)(m:Str→Option Value)(x:Str)(u:Value):Prop :=
 (env.kindOf x=some .local∧m x=some u)∨((env.kindOf x=some .cell∨env.kindOf x=some .free)∧∃ c,env.cells.lookup x=some c∧h.IsCell c (some u))
structure Cx.Ok (X:Cx):Prop where
 mod:Mod X.K X.mg X.base
 kind:X.env.scope.kind=.function
 glob:X.env.globals=mainGlobals
 blt:X.env.builtins=builtinsNs
 above:X.s₀.heap.objs.size≤X.env.locals
 inj:∀ x y c,X.env.cells.lookup x=some c→X.env.cells.lookup y=some c→x=y
 has:∀ x,(X.env.kindOf x=some .cell∨X.env.kindOf x=some .free)→∃ c,X.env.cells.lookup x=some c
 cab:∀ x c,X.fn x=true→X.env.cells.lookup x=some c→X.s₀.heap.objs.size≤c
 hd:X.calm=true→X.A.handled=none
 frames:X.A.frames=some X.stack
 stk:X.stack=X.outer∨(X.stack=X.env::X.outer∧X.env.frame=some X.env.locals)
 exf:∀ b∈X.ex,b≠X.env.locals∧∀ x c,X.env.cells.lookup x=some c→c≠b
 bs:∀ b o,X.base.get? b=some o→X.s₀.heap.get? b=some o∧X.H₀ b=none
 bsz:X.base.objs.size≤X.s₀.heap.objs.size
 noex:∀ b o,X.base.get? b=some o→b ∉ X.ex
 exfs:∀ b∈X.ex,b ∉ X.fs
 funs:X.s₀.heap.FunFrames X.base X.outer
 frf:∀ b∈X.fs,X.H₀ b=none
structure Inv (X:Cx) (pins:List (Addr × Obj)) (σ:List (Option V)) (H:Hp) (s:Shared):Prop where
 ok:X.Ok
 os:s.os=X.s₀.os
 bare:AllBare s.gens
 base:Un X.fs X.ex X.H₀ H X.s₀.heap s.heap
 loc:∃ m,s.heap.Ns X.env.locals m∧∀ (i:Nat) (x:Str) (v:V),X.N[i]?=some x→σ[i]?=some (some v)→Vis X.env.scope x→∃ u,RelV v u∧BM4 X.env s.heap m x u
 cell:∀ x c,X.env.cells.lookup x=some c→∃ v,s.heap.IsCell c v
 free:H X.env.locals=none
 freeC:∀ x c,X.env.cells.lookup x=some c→H c=none
 pin:∀ p∈X.pn++pins,s.heap.get? p.1=some p.2∧H p.1=none∧p.1≠X.env.locals∧p.1 ∉ X.fs∧∀ v,p.2.data≠.cell v
 hok:HOk X.prog X.w H s.heap
 len:σ.length=X.N.length
section
variable {X:Cx}{pins:List (Addr × Obj)}{σ:List (Option V)}{H H':Hp}{s:Shared}{h':Heap}
theorem Cx.Ok.nofr (ok:X.Ok){b:Addr}{o:Obj}(e:X.base.get? b=some o):b ∉ X.fs:=fun hb=>by
 have:=(ok.funs.mem hb).1
 rw [e] at this; cases this
theorem Inv.bs (I:Inv X pins σ H s):∀ b o,X.base.get? b=some o→s.heap.get? b=some o∧H b=none:=fun b o e =>
 ⟨I.base.keep b o (I.ok.bs b o e).1 (I.ok.bs b o e).2 (I.ok.nofr e) (I.ok.noex b o e),I.base.free b o (I.ok.bs b o e).1 (I.ok.bs b o e).2 (I.ok.noex b o e)⟩
theorem Inv.bk (I:Inv X pins σ H s):∀ b o,X.base.get? b=some o→s.heap.get? b=some o:=fun b o e=>(I.bs b o e).1
theorem Inv.mod (I:Inv X pins σ H s):Mod X.K X.mg X.base:=I.ok.mod
theorem Inv.kIn (I:Inv X pins σ H s):X.K.In s.heap:=I.ok.mod.kin.keeps I.bk
theorem Inv.lt (I:Inv X pins σ H s):X.env.locals < s.heap.objs.size:=let ⟨_,hn,_⟩:=I.loc; hn.lt
theorem Inv.sz (I:Inv X pins σ H s):X.s₀.heap.objs.size≤s.heap.objs.size:=Nat.le_trans I.ok.above (Nat.le_of_lt I.lt)
theorem Inv.nofs (I:Inv X pins σ H s){a:Addr}(h:s.heap.objs.size≤a):a ∉ X.fs:=fun hb=>by
 obtain ⟨_,o,ho,_⟩:=I.ok.funs.mem hb
 exact absurd (Nat.lt_of_lt_of_le (Heap.lt_size ho) (Nat.le_trans I.sz h)) (Nat.lt_irrefl _)
theorem Inv.cne (I:Inv X pins σ H s):∀ x c,X.env.cells.lookup x=some c→c≠X.env.locals:=fun x c e z=>by
 obtain ⟨v,o,ho,hd⟩:=I.cell x c e
 obtain ⟨m,⟨o',es,ep,ho',hd',_⟩,_⟩:=I.loc
 rw [z,ho'] at ho; cases ho; rw [hd'] at hd; cases hd
theorem Inv.funs (I:Inv X pins σ H s):s.heap.FunFrames X.base X.outer:=by
 have all:∀ (l:List Env),(∀ b∈frs l,b∈X.fs)→X.s₀.heap.FunFrames X.base l→s.heap.FunFrames X.base l:=by
  intro l
  induction l with
  | nil=>intro _ _; trivial
  | cons env r ih =>
   intro hs hl
   obtain ⟨hk,⟨L,o,hf,hn,ho,hd⟩,hr⟩:=hl
   have hL:L∈X.fs:=hs L (by unfold frs; rw [List.filterMap_cons,hf]; exact List.mem_cons_self)
   obtain ⟨sl,e⟩:=I.base.slot L o ho (I.ok.frf L hL) hL fun z=>I.ok.exfs L z hL
   exact ⟨hk,⟨L,_,hf,hn,e,hd⟩,ih (fun b hb=>hs b (by unfold frs; rw [List.filterMap_cons,hf]; exact List.mem_cons_of_mem _ hb)) hr⟩
 exact all X.outer (fun _ hb=>hb) I.ok.funs
theorem Inv.stack (I:Inv X pins σ H s):s.heap.FunFrames X.base X.stack:=by
 rcases I.ok.stk with e | ⟨e,hf⟩
 ·rw [e]; exact I.funs
 ·rw [e]
  obtain ⟨m,hn,_⟩:=I.loc
  refine .cons (by rw [I.ok.kind]; decide) hf hn ?_ I.funs
  exact Heap.get?_none_of_le (Nat.le_trans I.ok.bsz I.ok.above)
theorem Inv.stkSub (I:Inv X pins σ H s):∀ b∈frs X.stack,b∈X.env.locals::X.fs:=fun b hb=>by
 rcases I.ok.stk with e | ⟨e,hf⟩
 ·rw [e] at hb; exact List.mem_cons_of_mem _ hb
 ·rw [e] at hb
  unfold frs at hb
  rw [List.filterMap_cons,hf] at hb
  exact hb
theorem Inv.stkFree (I:Inv X pins σ H s):∀ b∈frs X.stack,H b=none:=fun b hb=>by
 rcases List.mem_cons.mp (I.stkSub b hb) with e | hb
 ·rw [e]; exact I.free
 ·obtain ⟨_,o,ho,_⟩:=I.ok.funs.mem hb
  exact I.base.free b o ho (I.ok.frf b hb) fun z=>I.ok.exfs b z hb
theorem Inv.step {g':Array GenState}{t':Nat}{d':Drawn}{ch:List Addr}(I:Inv X pins σ H s)(hch:∀ b∈ch,(b∈X.ex∨X.s₀.heap.objs.size≤b)∧b≠X.env.locals∧(∀ x c,X.env.cells.lookup x=some c→c≠b)∧∀ p∈X.pn++pins,p.1≠b)(keep:∀ b o,b≠X.env.locals→b ∉ X.fs→b ∉ ch→s.heap.get? b=some o→H b=none→h'.get? b=some o)(slot:∀ b o,b≠X.env.locals→b∈X.fs→b ∉ ch→s.heap.get? b=some o→H b=none→∃ sl,h'.get? b=some { o with slots:=sl })(free:∀ b o,b ∉ ch→s.heap.get? b=some o→H b=none→H' b=none)(there:∀ b o,b ∉ ch→s.heap.get? b=some o→∃ o',h'.get? b=some o')(tups:∀ b xs,H b=some (.tup xs)→H' b=some (.tup xs))(frzs:∀ b o u,H b=some (.frz o u)→H' b=some (.frz o u))(tbls:∀ b ps,H b=some (.tbl ps)→∃ more,H' b=some (.tbl (ps++more)))(ns:∀ m,s.heap.Ns X.env.locals m→h'.Ns X.env.locals m)(hok:HOk X.prog X.w H' h')(hg:AllBare g') :
  Inv X pins σ H' { s with heap:=h',gens:=g',drawn:=d',toks:=t' }:=by
 have neL:∀ b o,X.s₀.heap.get? b=some o→b≠X.env.locals:=fun b o e=>Nat.ne_of_lt (Nat.lt_of_lt_of_le (Heap.lt_size e) I.ok.above)
 have neC:∀ b o,X.s₀.heap.get? b=some o→b ∉ X.ex→b ∉ ch:=fun b o e hx hb=>by
  rcases (hch b hb).1 with z | z
  ·exact hx z
  ·exact absurd (Nat.lt_of_lt_of_le (Heap.lt_size e) z) (Nat.lt_irrefl _)
 have cellK:∀ x c,X.env.cells.lookup x=some c→∀ v,s.heap.IsCell c v→h'.IsCell c v:=fun x c e v ⟨o,ho,hd⟩=>by
  have nch:c ∉ ch:=fun z=>(hch c z).2.2.1 x c e rfl
  by_cases hc:c∈X.fs
  ·obtain ⟨sl,q⟩:=slot c o (I.cne x c e) hc nch ho (I.freeC x c e)
   exact ⟨_,q,hd⟩
  ·exact ⟨o,keep c o (I.cne x c e) hc nch ho (I.freeC x c e),hd⟩
 refine ⟨I.ok,I.os,hg,⟨fun b o e n hb hx=>?_,fun b o e n hb hx=>?_,fun b o e n hx=>?_,fun b o e hx=>?_,fun b xs e=>tups b xs (I.base.tups b xs e),fun b o xs e=>frzs b o xs (I.base.frzs b o xs e),fun b ps e=>?_⟩,?_,fun x c e=>?_,?_,fun x c e=>?_,fun p hp=>?_,hok,I.len⟩
 ·exact keep b o (neL b o e) hb (neC b o e hx) (I.base.keep b o e n hb hx) (I.base.free b o e n hx)
 ·obtain ⟨sl,e1⟩:=I.base.slot b o e n hb hx
  obtain ⟨sl',e2⟩:=slot b _ (neL b o e) hb (neC b o e hx) e1 (I.base.free b o e n hx)
  exact ⟨sl',e2⟩
 ·obtain ⟨o',e1⟩:=I.base.there b o e hx
  exact free b o' (neC b o e hx) e1 (I.base.free b o e n hx)
 ·obtain ⟨o',e1⟩:=I.base.there b o e hx
  exact there b o' (neC b o e hx) e1
 ·obtain ⟨m1,e1⟩:=I.base.tbls b ps e
  obtain ⟨m2,e2⟩:=tbls b _ e1
  exact ⟨m1++m2,by rw [e2,Array.append_assoc]⟩
 ·obtain ⟨m,hn,hl⟩:=I.loc
  refine ⟨m,ns m hn,fun i x v e1 e2 e3=>?_⟩
  obtain ⟨u,r,l⟩:=hl i x v e1 e2 e3
  refine ⟨u,r,?_⟩
  rcases l with l | ⟨k,c,e,z⟩
  ·exact .inl l
  ·exact .inr ⟨k,c,e,cellK x c e _ z⟩
 ·obtain ⟨v,z⟩:=I.cell x c e
  exact ⟨v,cellK x c e v z⟩
 ·obtain ⟨m,⟨o,_,_,ho,_⟩,_⟩:=I.loc
  exact free _ o (fun z=>(hch _ z).2.1 rfl) ho I.free
 ·obtain ⟨v,o,ho,hd⟩:=I.cell x c e
  exact free c o (fun z=>(hch c z).2.2.1 x c e rfl) ho (I.freeC x c e)
 ·obtain ⟨e,n,ne,nf,d⟩:=I.pin p hp
  have nch:p.1 ∉ ch:=fun z=>(hch p.1 z).2.2.2 p hp rfl
  exact ⟨keep p.1 p.2 ne nf nch e n,free p.1 p.2 nch e n,ne,nf,d⟩
theorem Inv.un {t':Nat}(I:Inv X pins σ H s)(u:Un X.fs [] H H' s.heap h')(hok:HOk X.prog X.w H' h'):Inv X pins σ H' { s with heap:=h',toks:=t' }:=by
 obtain ⟨m,⟨o,es,ep,ho,r⟩,_⟩:=id I.loc
 obtain ⟨sl,hL⟩:=u.any ho I.free (by simp)
 exact I.step (g':=s.gens) (d':=s.drawn) (ch:=[]) (fun _ z=>nomatch z) (fun b o _ hb _ e n=>u.keep b o e n hb (by simp)) (fun b o _ hb _ e n=>u.slot b o e n hb (by simp)) (fun b o _ e n=>u.free b o e n (by simp)) (fun b o _ e=>u.there b o e (by simp)) u.tups u.frzs u.tbls (fun m' hm=>by
  obtain ⟨o',es',ep',ho',r'⟩:=hm
  rw [ho] at ho'; cases ho'
  exact ⟨_,es',ep',hL,r'⟩) hok I.bare
theorem Inv.call {g':Array GenState}{t':Nat}{d':Drawn}{ch:List Addr}(I:Inv X pins σ H s)(u:Un (frs X.stack) ch H H' s.heap h')(hok:HOk X.prog X.w H' h')(hg:AllBare g')(hch:∀ b∈ch,(b∈X.ex∨X.s₀.heap.objs.size≤b)∧b≠X.env.locals∧(∀ x c,X.env.cells.lookup x=some c→c≠b)∧∀ p∈X.pn++pins,p.1≠b) :
  Inv X pins σ H' { s with heap:=h',gens:=g',drawn:=d',toks:=t' }:=by
 obtain ⟨m,⟨o,es,ep,ho,r⟩,_⟩:=id I.loc
 obtain ⟨sl,hL⟩:=u.any ho I.free fun z=>(hch _ z).2.1 rfl
 exact I.step (ch:=ch) hch (fun b o hL hb hc e n=>u.keep b o e n (fun z=>(List.mem_cons.mp (I.stkSub b z)).elim hL hb) hc) (fun b o _ _ hc e n=>u.any e n hc) (fun b o hc e n=>u.free b o e n hc) (fun b o hc e=>u.there b o e hc) u.tups u.frzs u.tbls (fun m' hm=>by
  obtain ⟨o',es',ep',ho',r'⟩:=hm
  rw [ho] at ho'; cases ho'
  exact ⟨_,es',ep',hL,r'⟩) hok hg
theorem Inv.turned {t':Nat}{it:Addr}(I:Inv X pins σ H s)(k:∀ b o,b≠it→s.heap.get? b=some o→h'.get? b=some o)(hn:H it=none)(hL:it≠X.env.locals)(h1:it∈X.ex∨X.s₀.heap.objs.size≤it)(h2:∀ x c,X.env.cells.lookup x=some c→c≠it)(h3:∀ p∈X.pn++pins,p.1≠it):Inv X pins σ H { s with heap:=h',toks:=t' }:=by
 have nit:∀ b u,H b=some u→b≠it:=fun b u e z=>by rw [z,hn] at e; cases e
 refine I.step (g':=s.gens) (d':=s.drawn) (ch:=[it]) (fun b hb=>?_) (fun b o _ _ hc e _=>k b o (fun z=>hc (by simp [z])) e) (fun b o _ _ hc e _=>⟨o.slots,k b o (fun z=>hc (by simp [z])) e⟩) (fun _ _ _ _ n=>n)
  (fun b o hc e=>⟨o,k b o (fun z=>hc (by simp [z])) e⟩) (fun _ _ e=>e) (fun _ _ _ e=>e) (fun b ps e=>⟨#[],by rw [e]; simp⟩) (fun m hm=>?_) (fun b u e=>?_) I.bare
 ·have e:b=it:=by simpa using hb
  subst e
  exact ⟨h1,hL,h2,h3⟩
 ·obtain ⟨o,es,ep,ho,r⟩:=hm
  exact ⟨o,es,ep,k _ o (Ne.symm hL) ho,r⟩
 ·refine (I.hok b u e).stay (fun c v hc q=>k c v ?_ q) (fun _ q=>q) fun _ _ q=>q
  rcases hc with z | z
  ·rw [z]; exact nit b u e
  ·exact nit c _ z
theorem Inv.tok (I:Inv X pins σ H s)(t:Nat):Inv X pins σ H { s with toks:=t }:=I.un (h':=s.heap) (t':=t) Un.refl I.hok
theorem Inv.kept {t':Nat}(I:Inv X pins σ H s)(k:∀ b u,s.heap.get? b=some u→h'.get? b=some u):Inv X pins σ H { s with heap:=h',toks:=t' }:=I.un (Un.kept k) (I.hok.kept k)
theorem Inv.laid {a:Addr}{o:HO}{t':Nat}(I:Inv X pins σ H s)(k:∀ b u,s.heap.get? b=some u→h'.get? b=some u)(hp:s.heap.objs.size≤a)(new:ObjOk X.prog X.w (upd H a o) h' a o) :
  Inv X pins σ (upd H a o) { s with heap:=h',toks:=t' }:=I.un (Un.laid k hp (I.hok.fresh hp)) (I.hok.laid k hp new)
theorem Inv.write {x e:Addr}{o:HO}{t':Nat}(I:Inv X pins σ H s)(mu:Mut (H x))(he:e=x∨H e=some (.own x))(k:∀ b u,b≠e→s.heap.get? b=some u→h'.get? b=some u)(heo:∃ u,h'.get? e=some u)(new:ObjOk X.prog X.w (upd H x o) h' x o):Inv X pins σ (upd H x o) { s with heap:=h',toks:=t' }:=I.un (Un.write mu he k heo) (I.hok.write mu he k heo new)
theorem Inv.pins_of {pins':List (Addr × Obj)}(I:Inv X pins σ H s)(h:∀ p∈pins',s.heap.get? p.1=some p.2∧H p.1=none∧p.1≠X.env.locals∧p.1 ∉ X.fs∧∀ v,p.2.data≠.cell v):Inv X pins' σ H s :=
 ⟨I.ok,I.os,I.bare,I.base,I.loc,I.cell,I.free,I.freeC,fun p hp=>(List.mem_append.mp hp).elim (fun z=>I.pin p (List.mem_append_left _ z)) (h p),I.hok,I.len⟩
theorem sW {N:List Str}(hN:N.Nodup){i j:Nat}{x:Str}(a:N[i]?=some x)(b:N[j]?=some x):i=j:=by
 obtain ⟨h1,e1⟩:=List.getElem?_eq_some_iff.mp a
 obtain ⟨h2,e2⟩:=List.getElem?_eq_some_iff.mp b
 exact (List.getElem_inj hN).mp (e1.trans e2.symm)
theorem AB2 {M:Model}{A:Around}{E:Value→Shared→Prop}{i:Nat}{x:Str}{v:V}{u:Value}{Q:Unit→Shared→Prop}(I:Inv X pins σ H s)(hN:X.N.Nodup)(hi:X.N[i]?=some x)(hx:Loc X.env.scope x)(r:RelV v u)(h:∀ s',Inv X pins (σ.set i (some v)) H s'→(∃ a,Heap.SameBut a s.heap s'.heap∧(a=X.env.locals∨X.env.cells.lookup x=some a))→Q () s')(hf:X.fn x=true∨X.env.scope.names.lookup x=some .local:=by first | exact .inl rfl | exact .inr rfl | assumption):wpAny M A (storeName X.env x u) Q E s:=by
 obtain ⟨m,hn,hl⟩:=id I.loc
 have hcls:(X.env.scope.kind == .class || (X.env.scope.kind == .module && X.env.locals != X.env.globals))=false:=by rw [I.ok.kind]; rfl
 have hiσ:i < σ.length:=by rw [I.len]; exact (List.getElem?_eq_some_iff.mp hi).1
 have cne:=I.cne
 have tracked:∀ {a:Addr}{h':Heap},(∃ o,s.heap.get? a=some o∧H a=none)→Heap.SameBut a s.heap h'→HOk X.prog X.w H h':=fun {a h'} ha hs b ob e=>by
  obtain ⟨_,_,hfree⟩:=ha
  refine (I.hok b ob e).stay (fun c w' hc q=>(hs.2 c ?_).trans q) (fun _ q=>q) fun _ _ q=>q
  rintro rfl
  rcases hc with rfl | hc
  ·rw [hfree] at e; cases e
  ·rw [hfree] at hc; cases hc
 rcases hx with hk | hk
 ·refine wpAny_storeName_local hk hn (fun h' hn' hs=>?_) hcls
  obtain ⟨oL,_,_,hoL,_⟩:=id hn
  refine h _ ⟨I.ok,I.os,I.bare,⟨fun b o e n hb hx=>?_,fun b o e n hb hx=>?_,I.base.free,fun b o e hx=>?_,I.base.tups,I.base.frzs,I.base.tbls⟩,⟨_,hn',fun j y v' e1 e2 e3=>?_⟩,fun y c e=>?_,I.free,I.freeC,fun p hp=>?_,tracked ⟨oL,hoL,I.free⟩ hs,by simpa using I.len⟩ ⟨_,hs,.inl rfl⟩
  ·exact (hs.2 b (Nat.ne_of_lt (Nat.lt_of_lt_of_le (Heap.lt_size e) I.ok.above))).trans (I.base.keep b o e n hb hx)
  ·obtain ⟨sl,e1⟩:=I.base.slot b o e n hb hx
   exact ⟨sl,(hs.2 b (Nat.ne_of_lt (Nat.lt_of_lt_of_le (Heap.lt_size e) I.ok.above))).trans e1⟩
  ·obtain ⟨o',e1⟩:=I.base.there b o e hx
   exact ⟨o',(hs.2 b (Nat.ne_of_lt (Nat.lt_of_lt_of_le (Heap.lt_size e) I.ok.above))).trans e1⟩
  ·by_cases hj:j=i
   ·subst hj
    rw [hi] at e1; cases e1
    rw [List.getElem?_set_self hiσ] at e2
    cases e2
    exact ⟨u,r,.inl ⟨hk,by simp⟩⟩
   ·rw [List.getElem?_set_ne (Ne.symm hj)] at e2
    obtain ⟨u',r',q⟩:=hl j y v' e1 e2 e3
    refine ⟨u',r',?_⟩
    rcases q with ⟨k,e⟩ | ⟨k,c,e,z⟩
    ·refine .inl ⟨k,?_⟩
     have:y≠x:=fun e=>hj (sW hN e1 (e ▸ hi))
     simp [this,e]
    ·exact .inr ⟨k,c,e,z.sameBut hs (cne y c e)⟩
  ·obtain ⟨w',z⟩:=I.cell y c e
   exact ⟨w',z.sameBut hs (cne y c e)⟩
  ·obtain ⟨e,n,ne,nf,d⟩:=I.pin p hp
   exact ⟨(hs.2 p.1 ne).trans e,n,ne,nf,d⟩
 ·have hfn:X.fn x=true:=by
   rcases hf with z | z
   ·exact z
   ·rw [z] at hk; cases hk
  obtain ⟨c,hc⟩:=I.ok.has x (.inl hk)
  obtain ⟨w',z⟩:=I.cell x c hc
  refine wpAny_storeName_cell I.ok.kind hk hc z (fun h' hc' hs=>?_)
  obtain ⟨oc,hoc,hocd⟩:=id z
  refine h { s with heap:=h' } ⟨I.ok,I.os,I.bare,⟨fun b o e n hb hx=>?_,fun b o e n hb hx=>?_,I.base.free,fun b o e hx=>?_,I.base.tups,I.base.frzs,I.base.tbls⟩,⟨m,hn.sameBut hs (Ne.symm (cne x c hc)),fun j y v' e1 e2 e3=>?_⟩,fun y c' e=>?_,I.free,I.freeC,fun p hp=>?_,tracked ⟨oc,hoc,I.freeC x c hc⟩ hs,by simpa using I.len⟩ ⟨c,hs,.inr hc⟩
  ·exact (hs.2 b (Nat.ne_of_lt (Nat.lt_of_lt_of_le (Heap.lt_size e) (I.ok.cab x c hfn hc)))).trans (I.base.keep b o e n hb hx)
  ·obtain ⟨sl,e1⟩:=I.base.slot b o e n hb hx
   exact ⟨sl,(hs.2 b (Nat.ne_of_lt (Nat.lt_of_lt_of_le (Heap.lt_size e) (I.ok.cab x c hfn hc)))).trans e1⟩
  ·obtain ⟨o',e1⟩:=I.base.there b o e hx
   exact ⟨o',(hs.2 b (Nat.ne_of_lt (Nat.lt_of_lt_of_le (Heap.lt_size e) (I.ok.cab x c hfn hc)))).trans e1⟩
  ·by_cases hj:j=i
   ·subst hj
    rw [hi] at e1; cases e1
    rw [List.getElem?_set_self hiσ] at e2
    cases e2
    exact ⟨u,r,.inr ⟨.inl hk,c,hc,hc'⟩⟩
   ·rw [List.getElem?_set_ne (Ne.symm hj)] at e2
    obtain ⟨u',r',q⟩:=hl j y v' e1 e2 e3
    refine ⟨u',r',?_⟩
    rcases q with q | ⟨k,c',e,z'⟩
    ·exact .inl q
    ·refine .inr ⟨k,c',e,z'.sameBut hs ?_⟩
     rintro rfl
     exact hj (sW hN e1 (I.ok.inj _ _ _ e hc ▸ hi))
  ·by_cases hcc:c'=c
   ·subst hcc; exact ⟨_,hc'⟩
   ·obtain ⟨w2,z2⟩:=I.cell y c' e
    exact ⟨w2,z2.sameBut hs hcc⟩
  ·obtain ⟨e,n,ne,nf,d⟩:=I.pin p hp
   refine ⟨(hs.2 p.1 ?_).trans e,n,ne,nf,d⟩
   intro q
   rw [q,hoc] at e
   have q':oc=p.2:=Option.some.inj e
   exact d w' (by rw [← q']; exact hocd)
theorem mD {M:Model}{A:Around}{E:Value→Shared→Prop}{i:Nat}{x:Str}{v:V}{u:Value}{Q:Unit→Shared→Prop}(I:Inv X pins σ H s)(hN:X.N.Nodup)(hi:X.N[i]?=some x)(hx:Loc X.env.scope x)(r:RelV v u)(h:∀ s',Inv X pins (σ.set i (some v)) H s'→Q () s')(hf:X.fn x=true∨X.env.scope.names.lookup x=some .local:=by first | exact .inl rfl | exact .inr rfl | assumption):wpAny M A (storeName X.env x u) Q E s :=
 AB2 I hN hi hx r (fun s' I' _=>h s' I') hf
theorem Inv.call' {s':Shared}{ch:List Addr}(I:Inv X pins σ H s)(ho:s'.os=s.os)(u:Un (frs X.stack) ch H H' s.heap s'.heap)(hok:HOk X.prog X.w H' s'.heap)(hg:AllBare s'.gens)(hch:∀ b∈ch,(b∈X.ex∨X.s₀.heap.objs.size≤b)∧b≠X.env.locals∧(∀ x c,X.env.cells.lookup x=some c→c≠b)∧∀ p∈X.pn++pins,p.1≠b):Inv X pins σ H' s':=by
 obtain ⟨h',g',d',t',o'⟩:=s'
 have e:o'=s.os:=ho
 subst e
 exact I.call (g':=g') (t':=t') (d':=d') u hok hg hch
end
abbrev XK:=Value→Option Addr→Hp→Prop
abbrev St:=List (Option V)
abbrev VK:=V→Hp→Prop
abbrev TE:=St→Hp→VK→Prop
abbrev TT:=St→Hp→(Bool→Hp→Prop)→Prop
abbrev TA:=St→Hp→(List V→Hp→Prop)→Prop
structure Ends where
 nx:St→Hp→Prop
 rt:VK
 bk:St→Hp→Prop:=fun _ _=>False
 ct:St→Hp→Prop:=fun _ _=>False
abbrev TS:=Ends→St→Hp→Prop
def EP (X:Cx)(pins:List (Addr × Obj))(σ:St)(Q:VK)(u:Value)(s':Shared):Prop:=∃ v H',Inv X pins σ H' s'∧RelV v u∧Q v H'
def TP (X:Cx)(pins:List (Addr × Obj))(σ:St)(Q:Bool→Hp→Prop)(b:Bool)(s':Shared):Prop:=∃ H',Inv X pins σ H' s'∧Q b H'
def AP (X:Cx)(pins:List (Addr × Obj))(σ:St)(Q:List V→Hp→Prop)(us:List Value)(s':Shared):Prop:=∃ vs H',Inv X pins σ H' s'∧Vals vs us∧Q vs H'
def SP (X:Cx)(pins:List (Addr × Obj))(D:Ends)(f:Flow)(s':Shared):Prop :=
 match f with
 | .next=>∃ σ' H',Inv X pins σ' H' s'∧D.nx σ' H'
 | .brk=>∃ σ' H',Inv X pins σ' H' s'∧D.bk σ' H'
 | .cont=>∃ σ' H',Inv X pins σ' H' s'∧D.ct σ' H'
 | .ret u=>∃ v σ' H',Inv X pins σ' H' s'∧RelV v u∧D.rt v H'
def PE (X:Cx)(e:Expr)(t:TE):Prop :=
 ∀ (pins:List (Addr × Obj)) (s:Shared) (σ:St) (H:Hp) (Q:VK),Inv X pins σ H s→t σ H Q→wpAny (model X.prog X.w) X.A (eval e X.env) (EP X pins σ Q) X.xe s
def PT (X:Cx)(e:Expr)(t:TT):Prop :=
 ∀ (pins:List (Addr × Obj)) (s:Shared) (σ:St) (H:Hp) (Q:Bool→Hp→Prop),Inv X pins σ H s→t σ H Q→wpAny (model X.prog X.w) X.A (isTrue e X.env (eval e X.env)) (TP X pins σ Q) X.xe s
def PW (X:Cx)(e:Expr)(t:TT):Prop :=
 ∀ (whole:Sem Value) (pins:List (Addr × Obj)) (s:Shared) (σ:St) (H:Hp) (Q:Bool→Hp→Prop),Inv X pins σ H s→t σ H Q→wpAny (model X.prog X.w) X.A (isTrue e X.env whole) (TP X pins σ Q) X.xe s
theorem PW.pt {X:Cx}{e:Expr}{t:TT}(h:PW X e t):PT X e t:=h _
def PA (X:Cx)(es:List Expr)(t:TA):Prop :=
 ∀ (pos:Pos) (pins:List (Addr × Obj)) (s:Shared) (σ:St) (H:Hp) (Q:List V→Hp→Prop),Inv X pins σ H s→t σ H Q→wpAny (model X.prog X.w) X.A (spliced (backTo pos (starEach es X.env))) (AP X pins σ Q) X.xe s
def PS (X:Cx)(st:Stmt)(t:TS):Prop :=
 ∀ (pins:List (Addr × Obj)) (s:Shared) (σ:St) (H:Hp) (D:Ends),Inv X pins σ H s→t D σ H→wpAny (model X.prog X.w) X.A (exec st X.env) (SP X pins D) X.xe s
def PSs (X:Cx)(st:List Stmt)(t:TS):Prop :=
 ∀ (pins:List (Addr × Obj)) (s:Shared) (σ:St) (H:Hp) (D:Ends),Inv X pins σ H s→t D σ H→wpAny (model X.prog X.w) X.A (execs st X.env) (SP X pins D) X.xe s
theorem thn {α:Type}{t:Sem α}{Q Q':α→Shared→Prop}{M:Model}{A:Around}{E:Value→Shared→Prop}{s:Shared}(h:wpAny M A t Q E s)(hQ:∀ a s,Q a s→Q' a s):wpAny M A t Q' E s:=wpAny_mono h hQ fun _ _ x=>x
section
variable {X:Cx}
def BF6 (i:Nat):TE:=fun σ H Q=>∃ v,σ[i]?=some (some v)∧Q v H
def tC (v:V):TE:=fun _ H Q=>Q v H
theorem AQ1 {i:Nat}{x:Str}{pos:Pos}(hN:X.N[i]?=some x)(hv:Vis X.env.scope x)(hd:(x == ("__debug__":Str))=false:=by decide)(hcd:(x == ("__classdict__":Str))=false:=by decide):PE X (.Name x pos) (BF6 i):=by
 intro pins s σ H Q I h
 obtain ⟨v,e,h⟩:=h
 obtain ⟨m,hn,hl⟩:=I.loc
 obtain ⟨u,r,l⟩:=hl i x v hN e hv
 have fin:EP X pins σ Q u s:=⟨v,H,I,r,h⟩
 rcases l with ⟨hk,hm⟩ | ⟨hk,c,hc,hcell⟩
 ·exact wpAny_Name (wpAny_loadName_local I.ok.kind hk hn hm fin) hd
 ·rcases hk with hk | hk
  ·exact wpAny_Name (wpAny_loadName_cell I.ok.kind hk hc hcell fin) hd
  ·exact wpAny_Name (wpAny_loadName_free I.ok.kind hk hc hcell fin hcd) hd
theorem aW {i j pos}:PE X (.Constant (.int i) j pos) (tC (.int i)):=fun _ _ _ H _ I h=>wpAny_Constant_int ⟨.int i,H,I.tok _,⟨_,rfl⟩,h⟩
theorem nV {b j pos}:PE X (.Constant (.bool b) j pos) (tC (.bl b)):=fun _ _ _ H _ I h=>Constant_bool ⟨.bl b,H,I,rfl,h⟩
theorem uO {j pos}:PE X (.Constant .none j pos) (tC .non):=fun _ _ _ H _ I h=>Constant_none ⟨.non,H,I,rfl,h⟩
theorem bE {x j pos}:PE X (.Constant (.str x) j pos) (tC (.str x)):=fun _ _ _ H _ I h=>Calls.Constant_str ⟨.str x,H,I.tok _,⟨_,rfl⟩,h⟩
def Gl (X:Cx)(x:Str):Prop:=X.env.kindOf x=some .globalImplicit
theorem fA {E:Value→Shared→Prop}{pins:List (Addr × Obj)}{s:Shared}{σ:St}{H:Hp}{x:Str}{u:Value}{pos:Pos}{Q:Value→Shared→Prop}(I:Inv X pins σ H s)(hg:Gl X x)(hm:X.mg x=some u)(h:Q u s)(hd:(x == ("__debug__":Str))=false:=by decide):wpAny (model X.prog X.w) X.A (eval (.Name x pos) X.env) Q E s :=
 Calls.Name_function_global I.ok.kind hg (Calls.loadGlobal_global (by rw [I.ok.glob]; exact I.mod.glob.keeps I.bk) hm h) hd
theorem yA {E:Value→Shared→Prop}{pins:List (Addr × Obj)}{s:Shared}{σ:St}{H:Hp}{x:Str}{u:Value}{pos:Pos}{Q:Value→Shared→Prop}(I:Inv X pins σ H s)(hg:Gl X x)(hm:X.mg x=none)(hv:bootBuiltins x=some u)(h:Q u s)(hn:x≠"__name__":=by decide)(hd:(x == ("__debug__":Str))=false:=by decide):wpAny (model X.prog X.w) X.A (eval (.Name x pos) X.env) Q E s:=by
 obtain ⟨mb,h1,h2⟩:=I.mod.blt
 exact Calls.Name_function_global I.ok.kind hg (Calls.loadGlobal_builtin (by rw [I.ok.glob]; exact I.mod.glob.keeps I.bk) hm (by rw [I.ok.blt]; exact h1.keeps I.bk) ((h2 x hn).trans hv) h) hd
theorem bS {x:Str}{v:V}{u:Value}{pos:Pos}(hg:Gl X x)(hm:X.mg x=some u)(r:RelV v u)(hd:(x == ("__debug__":Str))=false:=by decide):PE X (.Name x pos) (tC v) :=
 fun _ _ _ H _ I h=>fA I hg hm ⟨v,H,I,r,h⟩ hd
theorem gM {x:Str}{v:V}{u:Value}{pos:Pos}(hg:Gl X x)(hm:X.mg x=none)(hv:bootBuiltins x=some u)(r:RelV v u)(hn:x≠"__name__":=by decide)(hd:(x == ("__debug__":Str))=false:=by decide):PE X (.Name x pos) (tC v) :=
 fun _ _ _ H _ I h=>yA I hg hm hv ⟨v,H,I,r,h⟩ hn hd
variable {a b:Expr}{ta tb:TE}{pos:Pos}
def PC (X:Cx)(op:CmpOp)(a b:Expr)(t:TE):Prop :=
 ∀ (pins:List (Addr × Obj)) (s:Shared) (σ:St) (H:Hp) (Q:VK),Inv X pins σ H s→t σ H Q →
  wpAny (model X.prog X.w) X.A (eval a X.env) (fun v s₁=>wpAny (model X.prog X.w) X.A (eval b X.env) (fun u s₂=>wpAny (model X.prog X.w) X.A (compareOp op v u) (EP X pins σ Q) X.xe s₂) X.xe s₁) X.xe s
theorem AL7 (b:Expr){op:CmpOp}(h:op≠.In)(h2:op≠.NotIn):behindInMarks op b=false:=by
 have e1:(op == CmpOp.In)=false:=by cases op <;> first | rfl | exact absurd rfl h
 have e2:(op == CmpOp.NotIn)=false:=by cases op <;> first | rfl | exact absurd rfl h2
 cases b <;> simp [behindInMarks,e1,e2]
def BK2 (ta:TE):TE:=fun σ H Q=>ta σ H fun x H1=>Q (.bl (decide (x=.non))) H1
def BA1 (ta:TE):TE:=fun σ H Q=>ta σ H fun x H1=>Q (.bl (!decide (x=.non))) H1
theorem RelV.none_iff {x:V}{v:Value}(r:RelV x v):(v == Value.none)=decide (x=.non):=by
 cases x with
 | non=>cases r; rfl
 | bl _=>cases r; rfl
 | int _=>obtain ⟨t,rfl⟩:=r; rfl
 | str _=>obtain ⟨t,rfl⟩:=r; rfl
 | byt _=>obtain ⟨t,rfl⟩:=r; rfl
 | flt _=>obtain ⟨t,rfl⟩:=r; rfl
 | ref _=>cases r; rfl
 | ty _=>cases r; rfl
theorem sB {j pos'}(ha:PE X a ta):PC X .Is a (.Constant .none j pos') (BK2 ta):=by
 intro pins s σ H Q I h
 refine thn (ha pins s σ H _ I h) fun v s1 ⟨x,H1,I1,r1,q1⟩=>?_
 exact Constant_none (is_none_gen ⟨.bl _,H1,I1,by rw [r1.none_iff]; rfl,q1⟩)
theorem AS5 {j pos'}(ha:PE X a ta):PC X .IsNot a (.Constant .none j pos') (BA1 ta):=by
 intro pins s σ H Q I h
 refine thn (ha pins s σ H _ I h) fun v s1 ⟨x,H1,I1,r1,q1⟩=>?_
 exact Constant_none (isnot_none_gen ⟨.bl _,H1,I1,by rw [r1.none_iff]; rfl,q1⟩)
def tB (t:TE):TT:=fun σ H Q=>t σ H fun x H1=>∃ c,x=.bl c∧Q c H1
theorem pX {op:CmpOp}{t:TE}(h:PC X op a b t)(h1:behindInMarks op b=false:=by first | exact AL7 _ (by decide) (by decide) | rfl):PT X (.Compare a [op] [b] pos) (tB t):=by
 intro pins s σ H Q I hw
 refine wpAny_isTrue_Compare1 (thn (h pins s σ H _ I hw) fun v s1 h1=>thn h1 fun u s2 h2=>thn h2 fun c s3 ⟨x,H1,I1,r1,q1⟩=>?_) h1
 obtain ⟨d,rfl,q⟩:=q1
 cases r1
 exact wpAny_truthy_bool ⟨H1,I1,q⟩
theorem bL {e:Expr}{t:TE}(h:PE X e t)(he:∀ whole,isTrue e X.env whole=(do let v ← whole; standAt e.pos; holding [v] (truthy v)):=by intro _; rfl):PT X e (tB t):=by
 intro pins s σ H Q I hw
 refine isTrue_plain (thn (h pins s σ H _ I hw) fun v s1 ⟨x,H1,I1,r1,q1⟩=>?_) (he _)
 obtain ⟨d,rfl,q⟩:=q1
 cases r1
 exact wpAny_truthy_bool ⟨H1,I1,q⟩
variable {tA tB':TT}{rest:List Expr}
def BK3 (t u:TT):TT:=fun σ H Q=>t σ H fun c H1=>if c=true then u σ H1 Q else Q false H1
def tOr (t u:TT):TT:=fun σ H Q=>t σ H fun c H1=>if c=true then Q true H1 else u σ H1 Q
def BK4 (t:TT):TT:=fun σ H Q=>t σ H fun c H1=>Q (!c) H1
theorem pY (ha:PT X a tA):PW X (.BoolOp .And [a] pos) tA:=by
 intro wh pins s σ H Q I h
 refine isTrue_and (thn (ha pins s σ H Q I h) fun c s1 e=>?_)
 cases c with
 | true=>exact isTrue_and_nil e
 | false=>exact e
theorem iO (ha:PT X a tA):PW X (.BoolOp .Or [a] pos) tA:=by
 intro wh pins s σ H Q I h
 refine isTrue_or (thn (ha pins s σ H Q I h) fun c s1 e=>?_)
 cases c with
 | false=>exact isTrue_or_nil e
 | true=>exact e
theorem uP (ha:PT X a tA)(hb:PW X (.BoolOp .And (b::rest) pos) tB'):PW X (.BoolOp .And (a::b::rest) pos) (BK3 tA tB'):=by
 intro wh pins s σ H Q I h
 refine isTrue_and (thn (ha pins s σ H _ I h) fun c s1 ⟨H1,I1,q1⟩=>?_)
 cases c with
 | true=>exact hb wh pins s1 σ H1 Q I1 q1
 | false=>exact ⟨H1,I1,q1⟩
theorem kZ (ha:PT X a tA)(hb:PW X (.BoolOp .Or (b::rest) pos) tB'):PW X (.BoolOp .Or (a::b::rest) pos) (tOr tA tB'):=by
 intro wh pins s σ H Q I h
 refine isTrue_or (thn (ha pins s σ H _ I h) fun c s1 ⟨H1,I1,q1⟩=>?_)
 cases c with
 | true=>exact ⟨H1,I1,q1⟩
 | false=>exact hb wh pins s1 σ H1 Q I1 q1
theorem cX (ha:PT X a tA):PT X (.UnaryOp .Not a pos) (BK4 tA):=by
 intro pins s σ H Q I h
 exact isTrue_not (ha pins s σ H (fun c H1=>Q (!c) H1) I h)
def BA2 (ta tb:TE):TE:=fun σ H Q=>ta σ H fun x H1=>∃ c,x=.bl c∧if c=true then tb σ H1 Q else Q (.bl false) H1
def BK5 (ta tb:TE):TE:=fun σ H Q=>ta σ H fun x H1=>∃ c,x=.bl c∧if c=true then Q (.bl true) H1 else tb σ H1 Q
def BA3 (ta:TE):TE:=fun σ H Q=>ta σ H fun x H1=>∃ c,x=.bl c∧Q (.bl (!c)) H1
theorem sC {op}{t:TE}(h:PE X a t):PE X (.BoolOp op [a] pos) t:=fun pins s σ H Q I hw=>BoolOp_one (h pins s σ H Q I hw)
theorem pZ (ha:PE X a ta)(hb:PE X (.BoolOp .And (b::rest) pos) tb):PE X (.BoolOp .And (a::b::rest) pos) (BA2 ta tb):=by
 intro pins s σ H Q I h
 refine BoolOp_and (thn (ha pins s σ H _ I h) fun v s1 ⟨x,H1,I1,r1,q1⟩=>?_)
 obtain ⟨c,rfl,q1⟩:=q1
 cases r1
 refine wpAny_truthy_bool ?_
 cases c with
 | true=>exact hb pins s1 σ H1 Q I1 q1
 | false=>exact ⟨.bl false,H1,I1,rfl,q1⟩
theorem BF7 (ha:PE X a ta)(hb:PE X (.BoolOp .Or (b::rest) pos) tb):PE X (.BoolOp .Or (a::b::rest) pos) (BK5 ta tb):=by
 intro pins s σ H Q I h
 refine BoolOp_or (thn (ha pins s σ H _ I h) fun v s1 ⟨x,H1,I1,r1,q1⟩=>?_)
 obtain ⟨c,rfl,q1⟩:=q1
 cases r1
 refine wpAny_truthy_bool ?_
 cases c with
 | false=>exact hb pins s1 σ H1 Q I1 q1
 | true=>exact ⟨.bl true,H1,I1,rfl,q1⟩
theorem AQ2 (ha:PE X a ta):PE X (.UnaryOp .Not a pos) (BA3 ta):=by
 intro pins s σ H Q I h
 refine UnaryOp_ (thn (ha pins s σ H _ I h) fun v s1 ⟨x,H1,I1,r1,q1⟩=>?_)
 obtain ⟨c,rfl,q1⟩:=q1
 cases r1
 exact not_of (wpAny_truthy_bool ⟨.bl (!c),H1,I1,rfl,q1⟩)
def tIf (t:TT)(ta tb:TE):TE:=fun σ H Q=>t σ H fun c H1=>if c=true then ta σ H1 Q else tb σ H1 Q
theorem pR {c:Expr}(hc:PT X c tA)(ha:PE X a ta)(hb:PE X b tb):PE X (.IfExp c a b pos) (tIf tA ta tb):=by
 intro pins s σ H Q I h
 refine wpAny_IfExp (thn (hc pins s σ H _ I h) fun d s1 ⟨H1,I1,q1⟩=>?_)
 cases d with
 | true=>exact ha pins s1 σ H1 Q I1 q1
 | false=>exact hb pins s1 σ H1 Q I1 q1
end
def SqL (K:Frag)(H:Hp)(a:Addr)(xs:List V):Prop :=
 Rd H a (.lst xs) ∨
  ∃ (o:Obj) (its:Array Value) (n:Nat),K.lookup a=some o∧o.cls=.type "list"∧o.dict=none∧o.data=.seq its n∧its.size≤sizeLine∧Vals xs its.toList
def SqT (K:Frag)(H:Hp)(a:Addr)(xs:List V):Prop :=
 Rd H a (.tup xs) ∨
  ∃ (o:Obj) (its:Array Value) (n:Nat),K.lookup a=some o∧o.cls=.type "tuple"∧o.data=.seq its n∧its.size≤sizeLine∧Vals xs its.toList
def BM5:Value→Option V
 | .none=>some .non
 | .bool b=>some (.bl b)
 | .int i _=>some (.int i)
 | .str x _=>some (.str x)
 | .bytes b _=>some (.byt b)
 | .float b _=>some (.flt b)
 | .ref a=>some (.ref a)
 | .type n=>some (.ty n)
 | _=>none
theorem RelV.abs {x:V}{u:Value}(r:RelV x u):BM5 u=some x:=by
 cases x with
 | non=>cases r; rfl
 | bl _=>cases r; rfl
 | int _=>obtain ⟨t,rfl⟩:=r; rfl
 | str _=>obtain ⟨t,rfl⟩:=r; rfl
 | byt _=>obtain ⟨t,rfl⟩:=r; rfl
 | flt _=>obtain ⟨t,rfl⟩:=r; rfl
 | ref _=>cases r; rfl
 | ty _=>cases r; rfl
theorem RelV.inj {x y:V}{u:Value}(r:RelV x u)(q:RelV y u):x=y:=Option.some.inj (r.abs.symm.trans q.abs)
theorem Vals.inj:∀ {xs ys:List V}{us:List Value},Vals xs us→Vals ys us→xs=ys
 | _,_,_,.nil,.nil=>rfl
 | _,_,_,.cons r t,.cons r' t'=>by rw [r.inj r',Vals.inj t t']
section
variable {X:Cx}{pins:List (Addr × Obj)}{σ:St}{H:Hp}{s:Shared}{a:Addr}{xs ys:List V}
theorem SqL.of {K:Frag}(h:H a=some (.lst xs)):SqL K H a xs:=.inl (.inl h)
theorem SqT.of {K:Frag}(h:H a=some (.tup xs)):SqT K H a xs:=.inl (.inl h)
theorem Inv.list (I:Inv X pins σ H s)(h:SqL X.K H a xs):∃ its:List Value,Vals xs its∧PlainL s.heap a its.toArray∧xs.length≤sizeLine:=by
 rcases h with h | ⟨o,its,n,hk,hc,hd,hs,hz,r⟩
 ·obtain ⟨z,its,n,r,e⟩:=h.ok I.hok
  exact ⟨its,r,⟨_,n,e,rfl,rfl,rfl⟩,z⟩
 ·refine ⟨its.toList,r,⟨o,n,I.kIn a o hk,hc,hd,by simpa using hs⟩,?_⟩
  have e:=r.length
  simp only [Array.length_toList] at e
  omega
theorem Inv.tuple (I:Inv X pins σ H s)(h:SqT X.K H a xs):∃ its:List Value,Vals xs its∧IsTup s.heap a its.toArray∧xs.length≤sizeLine:=by
 rcases h with h | ⟨o,its,n,hk,hc,hs,hz,r⟩
 ·obtain ⟨z,its,r,p⟩:=h.ok I.hok
  exact ⟨its,r,p,z⟩
 ·refine ⟨its.toList,r,⟨o,I.kIn a o hk,hc,n,by simpa using hs⟩,?_⟩
  have e:=r.length
  simp only [Array.length_toList] at e
  omega
theorem Inv.list_inj (I:Inv X pins σ H s)(h:SqL X.K H a xs)(h':SqL X.K H a ys):xs=ys:=by
 obtain ⟨its,r,⟨o,n,e,_,_,d⟩,_⟩:=I.list h
 obtain ⟨its',r',⟨o',n',e',_,_,d'⟩,_⟩:=I.list h'
 rw [e] at e'; cases e'
 rw [d] at d'
 injection d' with d1 _
 have:its=its':=by simpa using congrArg Array.toList d1
 subst this
 exact r.inj r'
end
abbrev Cx.wish (X:Cx)(E:Value→Shared→Prop):Cx:={ X with xe:=E }
abbrev Cx.nox (X:Cx):Cx:=X.wish fun _ _=>False
theorem Cx.Ok.wish {X:Cx}(ok:X.Ok)(E:Value→Shared→Prop):(X.wish E).Ok :=
 ⟨ok.mod,ok.kind,ok.glob,ok.blt,ok.above,ok.inj,ok.has,ok.cab,ok.hd,ok.frames,ok.stk,ok.exf,ok.bs,ok.bsz,ok.noex,ok.exfs,ok.funs,ok.frf⟩
theorem Cx.Ok.unwish {X:Cx}{E:Value→Shared→Prop}(ok:(X.wish E).Ok):X.Ok :=
 ⟨ok.mod,ok.kind,ok.glob,ok.blt,ok.above,ok.inj,ok.has,ok.cab,ok.hd,ok.frames,ok.stk,ok.exf,ok.bs,ok.bsz,ok.noex,ok.exfs,ok.funs,ok.frf⟩
section
variable {X:Cx}{pins:List (Addr × Obj)}{σ:St}{H:Hp}{s:Shared}{E:Value→Shared→Prop}
theorem Inv.wish (I:Inv X pins σ H s)(E:Value→Shared→Prop):Inv (X.wish E) pins σ H s:=⟨I.ok.wish E,I.os,I.bare,I.base,I.loc,I.cell,I.free,I.freeC,I.pin,I.hok,I.len⟩
theorem Inv.unwish (I:Inv (X.wish E) pins σ H s):Inv X pins σ H s:=⟨I.ok.unwish,I.os,I.bare,I.base,I.loc,I.cell,I.free,I.freeC,I.pin,I.hok,I.len⟩
theorem SP.unwish {D:Ends}{f:Flow}{s':Shared}(h:SP (X.wish E) pins D f s'):SP X pins D f s':=by
 cases f with
 | next=>obtain ⟨σ',H',I,q⟩:=h; exact ⟨σ',H',I.unwish,q⟩
 | brk=>obtain ⟨σ',H',I,q⟩:=h; exact ⟨σ',H',I.unwish,q⟩
 | cont=>obtain ⟨σ',H',I,q⟩:=h; exact ⟨σ',H',I.unwish,q⟩
 | ret u=>obtain ⟨v,σ',H',I,r,q⟩:=h; exact ⟨v,σ',H',I.unwish,r,q⟩
theorem PSs.nox {st:List Stmt}{t:TS}(h:PSs X.nox st t):PSs X st t:=fun pins s σ H D I hw =>
 wpAny_mono (h pins s σ H D (I.wish _) hw) (fun _ _ q=>q.unwish) fun _ _ z=>False.elim z
end
section
variable {X:Cx}{st:Stmt}{rest:List Stmt}{t u:TS}{e:Expr}{te:TE}{pos:Pos}
def AS6:TS:=fun D σ H=>D.nx σ H
def BF8 (t u:TS):TS:=fun D σ H=>t { D with nx:=u D } σ H
theorem AS7:PSs X [] AS6:=fun _ _ σ H _ I h=>wpAny_execs_nil ⟨σ,H,I,h⟩
theorem AL8 (h1:PS X st t)(h2:PSs X rest u):PSs X (st::rest) (BF8 t u):=by
 intro pins s σ H D I h
 refine wpAny_execs_cons (thn (h1 pins s σ H { D with nx:=u D } I h) fun f s1 q=>?_)
 cases f with
 | next =>
  obtain ⟨σ',H',I',q⟩:=q
  exact h2 pins s1 σ' H' D I' q
 | ret v=>exact q
 | brk=>exact q
 | cont=>exact q
theorem fL (h1:PS X st t):PSs X [st] t:=by
 intro pins s σ H D I h
 refine wpAny_execs_cons (thn (h1 pins s σ H D I h) fun f s1 q=>?_)
 cases f with
 | next=>exact wpAny_execs_nil q
 | ret v=>exact q
 | brk=>exact q
 | cont=>exact q
theorem Inv.quiet {pins:List (Addr × Obj)}{σ:St}{H:Hp}{s:Shared}(I:Inv X pins σ H s):interactive X.env=false:=by simp [interactive,I.ok.kind]
def BA4 (te:TE):TS:=fun D σ H=>te σ H fun _ H1=>D.nx σ H1
theorem cY (he:PE X e te)(hs:swapsWith e none pos.line X.env=pure false:=by rfl):PS X (.Expr e pos) (BA4 te):=by
 intro pins s σ H D I h
 exact wpAny_Expr_any (thn (he pins s σ H _ I h) fun v s1 ⟨x,H1,I1,r1,q1⟩=>⟨σ,H1,I1,q1⟩) I.quiet hs
def BE6 (te:TE):TS:=fun D σ H=>te σ H D.rt
theorem BA5 (he:PE X e te):PS X (.Return (some e) pos) (BE6 te):=by
 intro pins s σ H D I h
 exact wpAny_Return_some (thn (he pins s σ H _ I h) fun v s1 ⟨x,H1,I1,r1,q1⟩=>⟨x,σ,H1,I1,r1,q1⟩)
def BA6:TS:=fun D _ H=>D.rt .non H
theorem AB3:PS X (.Return none pos) BA6:=fun _ _ σ H _ I h=>wpAny_Return_none ⟨.non,σ,H,I,rfl,h⟩
def BF9 (c:TT)(t u:TS):TS:=fun D σ H=>c σ H fun b H1=>if b=true then t D σ H1 else u D σ H1
theorem BG0 {c:Expr}{a b:List Stmt}{tc:TT}(hc:PT X c tc)(ha:PSs X a t)(hb:PSs X b u):PS X (.If c a b pos) (BF9 tc t u):=by
 intro pins s σ H D I h
 refine wpAny_If (thn (hc pins s σ H _ I h) fun d s1 ⟨H1,I1,q1⟩=>?_)
 cases d with
 | true=>exact ha pins s1 σ H1 D I1 q1
 | false=>exact hb pins s1 σ H1 D I1 q1
def AQ3:TS:=fun _ _ _=>False
theorem bJ {sts:List Stmt}:PSs X sts AQ3:=fun _ _ _ _ _ _ h=>h.elim
end
abbrev TG:=V→St→Hp→(St→Hp→Prop)→Prop
abbrev TGs:=List V→St→Hp→(St→Hp→Prop)→Prop
def PG (X:Cx)(target:Expr)(t:TG):Prop :=
 ∀ (pins:List (Addr × Obj)) (s:Shared) (σ:St) (H:Hp) (v:V) (u:Value) (Q:St→Hp→Prop),Inv X pins σ H s→RelV v u→t v σ H Q →
  wpAny (model X.prog X.w) X.A (assign target X.env u) (fun _ s'=>∃ σ' H',Inv X pins σ' H' s'∧Q σ' H') X.xe s
def PGs (X:Cx)(ts:List Expr)(t:TGs):Prop :=
 ∀ (pins:List (Addr × Obj)) (s:Shared) (σ:St) (H:Hp) (vs:List V) (us:List Value) (Q:St→Hp→Prop),Inv X pins σ H s→Vals vs us→t vs σ H Q →
  wpAny (model X.prog X.w) X.A (assignInOrder ((assignEach ts X.env).map (·.2)) us) (fun _ s'=>∃ σ' H',Inv X pins σ' H' s'∧Q σ' H') X.xe s
abbrev BE7:=V→V→V→Hp→(Hp→Prop)→Prop
def BK6 (X:Cx)(t:BE7):Prop :=
 ∀ (pins:List (Addr × Obj)) (s:Shared) (σ:St) (H:Hp) (o i v:V) (ov iv u:Value) (Q:Hp→Prop),Inv X pins σ H s→RelV o ov→RelV i iv→RelV v u→t o i v H Q →
  wpAny (model X.prog X.w) X.A (setItem ov iv u) (fun _ s'=>∃ H',Inv X pins σ H' s'∧Q H') X.xe s
section
variable {X:Cx}{pos:Pos}
def AL9 (i:Nat):TG:=fun v σ H Q=>Q (σ.set i (some v)) H
theorem jV {i:Nat}{x:Str}(hN:X.N.Nodup)(hi:X.N[i]?=some x)(hx:Loc X.env.scope x)(hf:X.fn x=true∨X.env.scope.names.lookup x=some .local:=by first | exact .inl rfl | exact .inr rfl | assumption):PG X (.Name x pos) (AL9 i):=by
 intro pins s σ H v u Q I r h
 exact wpAny_assign_Name (mD I hN hi hx r (fun s' I'=>⟨_,H,I',h⟩) hf)
def BK7:TGs:=fun vs σ H Q=>vs=[]∧Q σ H
def BA7 (t:TG)(u:TGs):TGs:=fun vs σ H Q=>∃ v r,vs=v::r∧t v σ H fun σ' H'=>u r σ' H' Q
theorem AS8:PGs X [] BK7:=by
 intro pins s σ H vs us Q I r h
 obtain ⟨e,h⟩:=h
 subst e
 cases r
 exact assignInOrder_nil ⟨σ,H,I,h⟩
theorem yB {e:Expr}{es:List Expr}{t:TG}{u:TGs}(h1:PG X e t)(h2:PGs X es u)(hs:(assignEach (e::es) X.env).map (·.2)=assign e X.env::(assignEach es X.env).map (·.2):=by rfl):PGs X (e::es) (BA7 t u):=by
 intro pins s σ H vs us Q I r h
 obtain ⟨v,vr,e1,h⟩:=h
 subst e1
 cases r with
 | cons r rr =>
  rw [hs]
  refine assignInOrder_cons (thn (h1 pins s σ H _ _ _ I r h) fun _ s1 ⟨σ1,H1,I1,q1⟩=>?_)
  exact h2 pins s1 σ1 H1 _ _ Q I1 rr q1
def BK8 (K:Frag)(n:Nat)(t:TGs):TG:=fun v σ H Q=>∃ a xs,v=.ref a∧SqT K H a xs∧xs.length=n∧t xs σ H Q
theorem BA8 {es:List Expr}{k:Nat}{t:TGs}{n:Nat}(hc:X.calm=true)(h:PGs X es t)(hn:(assignEach es X.env).length=n:=by rfl)(hst:(assignEach es X.env).findIdx? (·.1)=none:=by rfl):PG X (.Tuple es k pos) (BK8 X.K n t):=by
 intro pins s σ H v u Q I r hw
 obtain ⟨a,xs,e1,hq,hl,hw⟩:=hw
 subst e1
 cases r
 obtain ⟨its,rv,ht,hz⟩:=I.tuple hq
 refine assign_Tuple_tuple (I.ok.hd hc) ht (by simp [hn,← hl,rv.length]) hst fun h' hx=>?_
 have I1:Inv X pins σ H { s with heap:=h' }:=I.kept (t':=s.toks) fun b o e=>hx b o (Nat.ne_of_lt (Heap.lt_size e)) e
 exact h pins _ σ H xs _ Q I1 (by simpa using rv) hw
def BK9 (to ti:TE)(t:BE7):TG:=fun v σ H Q=>to σ H fun o H1=>ti σ H1 fun i H2=>t o i v H2 fun H3=>Q σ H3
theorem yC {o i:Expr}{to ti:TE}{t:BE7}(ho:PE X o to)(hi:PE X i ti)(hs:BK6 X t)(ha:∀ v,assign (.Subscript o i pos) X.env v=(do
   let ov ← holding [v] (eval o X.env)
   let iv ← holding [v,ov] (eval i X.env)
   standAt pos
   holding [v,ov,iv] (setItem ov iv v)
   release [v,ov,iv] []):=by intro _; rfl):PG X (.Subscript o i pos) (BK9 to ti t):=by
 intro pins s σ H v u Q I r h
 rw [ha]
 refine wpAny_bind (wpAny_holding (thn (ho pins s σ H _ I h) fun ov s1 ⟨x,H1,I1,r1,q1⟩=>?_))
 refine wpAny_bind (wpAny_holding (thn (hi pins s1 σ H1 _ I1 q1) fun iv s2 ⟨y,H2,I2,r2,q2⟩=>?_))
 refine wpAny_bind (wpAny_standAt (wpAny_bind (wpAny_holding (thn (hs pins s2 σ H2 x y v ov iv u _ I2 r1 r2 r q2) fun _ s3 ⟨H3,I3,q3⟩=>?_))))
 exact wpAny_release ⟨σ,H3,I3,q3⟩
def BE8 (te:TE)(g:TG):TS:=fun D σ H=>te σ H fun x H1=>g x σ H1 D.nx
theorem yD {tg e:Expr}{te:TE}{g:TG}(he:PE X e te)(hg:PG X tg g)(hs:swapsWithSole [tg] e pos.line X.env=pure false:=by rfl)(hw:swappedStores [tg] e X.env=pure none:=by rfl)(h1:(assignEach [tg] X.env).map (·.2)=[assign tg X.env]:=by rfl):PS X (.Assign [tg] e pos) (BE8 te g):=by
 intro pins s σ H D I h
 refine wpAny_Assign_stores (thn (he pins s σ H _ I h) fun v s1 ⟨x,H1,I1,r1,q1⟩=>?_) hs hw
 rw [h1]
 exact thn (hg pins s1 σ H1 x v _ I1 r1 q1) fun _ s2 q=>q
theorem BA9 {i:Nat}{x:Str}{e:Expr}{te:TE}{pos':Pos}(hN:X.N.Nodup)(hi:X.N[i]?=some x)(hx:Loc X.env.scope x)(he:PE X e te)(hs:swapsWith e (some (.Name x pos')) pos.line X.env=pure false:=by rfl)(hf:X.fn x=true∨X.env.scope.names.lookup x=some .local:=by first | exact .inl rfl | exact .inr rfl | assumption) :
  PS X (.Assign [.Name x pos'] e pos) (BE8 te (AL9 i)):=by
 intro pins s σ H D I h
 refine wpAny_Assign_Name (thn (he pins s σ H _ I h) fun v s1 ⟨y,H1,I1,r1,q1⟩=>?_) hs
 exact mD I1 hN hi hx r1 (fun s2 I2=>⟨_,H1,I2,q1⟩) hf
end
section
variable {X:Cx}{pos:Pos}
def AQ4 (c:TT)(tb:TS):TS:=fun D σ H=>∃ W:Nat→St→Hp→Prop,(∃ m,W m σ H)∧∀ m σ H,W m σ H →
 c σ H fun b H1=>if b=true then ∃ N:St→Hp→Prop,(∀ σ' H',N σ' H'→∃ m',m' < m∧W m' σ' H')∧tb { D with nx:=N,ct:=N,bk:=D.nx } σ H1 else D.nx σ H1
theorem kJ {c:Expr}{body:List Stmt}{tc:TT}{tb:TS}(hp:PassesOwn (model X.prog X.w) X.A X.env X.xe)(hc:PT X c tc)(hb:PSs X body tb):PS X (.While c body [] pos) (AQ4 tc tb):=by
 intro pins s σ H D I h
 obtain ⟨W,⟨m0,w0⟩,turn⟩:=h
 refine wpAny_While (codeAny_whileLoop (fun n s'=>∃ σ' H',Inv X pins σ' H' s'∧W n σ' H') ?_ m0 ⟨σ,H,I,w0⟩)
 rintro n s1 ⟨σ1,H1,I1,w1⟩
 refine wpAny_passesOwn hp (thn (hc pins s1 σ1 H1 _ I1 (turn n σ1 H1 w1)) fun b s2 ⟨H2,I2,q2⟩=>?_)
 cases b with
 | true =>
  obtain ⟨N,hN,q2⟩:=q2
  rw [if_pos rfl]
  refine wpAny_passesOwn hp (thn (hb pins s2 σ1 H2 _ I2 q2) fun f s3 q3=>?_)
  cases f with
  | next =>
   obtain ⟨σ3,H3,I3,n3⟩:=q3
   obtain ⟨m',hm,w3⟩:=hN σ3 H3 n3
   exact ⟨m',hm,σ3,H3,I3,w3⟩
  | cont =>
   obtain ⟨σ3,H3,I3,n3⟩:=q3
   obtain ⟨m',hm,w3⟩:=hN σ3 H3 n3
   exact ⟨m',hm,σ3,H3,I3,w3⟩
  | brk=>exact q3
  | ret v=>exact q3
 | false =>
  rw [if_neg Bool.false_ne_true]
  exact wpAny_execs_nil ⟨σ1,H2,I2,q2⟩
end
structure It where
 go:Nat→Hp→Prop
 yld:Nat→Hp→V→Hp→Prop
 stop:Nat→Hp→Prop
def AL2 (X:Cx)(pins:List (Addr × Obj))(H:Hp)(b:Addr):Prop :=
 H b=none∧b≠X.env.locals∧b ∉ X.fs∧(b∈X.ex∨X.s₀.heap.objs.size≤b)∧(∀ x c,X.env.cells.lookup x=some c→c≠b)∧∀ p∈X.pn++pins,p.1≠b
theorem Inv.fpOk {X:Cx}{pins:List (Addr × Obj)}{σ:St}{H H':Hp}{s:Shared}{b:Addr}(I:Inv X pins σ H s)(hb:s.heap.objs.size≤b)(hn:H' b=none):AL2 X pins H' b:=by
 refine ⟨hn,Nat.ne_of_gt (Nat.lt_of_lt_of_le I.lt hb),I.nofs hb,.inr (Nat.le_trans I.sz hb),fun x c e z=>?_,fun p hp z=>?_⟩
 ·obtain ⟨v,q⟩:=I.cell x c e
  exact absurd (Nat.lt_of_lt_of_le q.lt (by rw [z]; exact hb)) (Nat.lt_irrefl _)
 ·exact absurd (Nat.lt_of_lt_of_le (Heap.lt_size (I.pin p hp).1) (by rw [z]; exact hb)) (Nat.lt_irrefl _)
structure Turn (P:Program) (w:World) (K:Frag) (tg:Expr) (J:It) (fp:List Addr) (it:Addr) (tn:Nat→Heap→Prop):Prop where
 mem:it∈fp
 obj:∀ i h,tn i h→∀ b∈fp,∃ o,h.get? b=some o∧∀ v,o.data≠.cell v
 keep:∀ i h h',tn i h→(∀ b∈fp,∀ o,h.get? b=some o→h'.get? b=some o)→tn i h'
 item:∀ (X:Cx),X.prog=P→X.w=w→X.K=K→X.calm=true→∀ (i:Nat) (pins:List (Addr × Obj)) (s:Shared) (σ:St) (H:Hp) (E:Value→Shared→Prop),Inv X pins σ H s→(∀ b∈fp,AL2 X pins H b)→tn i s.heap→J.go i H →
  wpAny (model P w) X.A (pyNext (.ref it)) (fun r s1=>∃ u,r=some u ∧
   wpAny (model P w) X.A (letOwnedTupleGo tg (.ref it) u) (fun _ s2=>∃ x H',Inv X pins σ H' s2∧RelV x u∧J.yld i H x H'∧tn (i+1) s2.heap∧∀ b∈fp,H' b=none) E s1) E s
 done:∀ (X:Cx),X.prog=P→X.w=w→X.K=K→X.calm=true→∀ (i:Nat) (pins:List (Addr × Obj)) (s:Shared) (σ:St) (H:Hp) (E:Value→Shared→Prop),Inv X pins σ H s→(∀ b∈fp,AL2 X pins H b)→tn i s.heap→J.stop i H →
  wpAny (model P w) X.A (pyNext (.ref it)) (fun r s1=>r=none∧Inv X pins σ H s1) E s
 self:∀ (A:Around) (i:Nat) (s:Shared) (Q:Value→Shared→Prop) (E:Value→Shared→Prop),tn i s.heap→Q (.ref it) s→wpAny (model P w) A (pyIter (.ref it)) Q E s
abbrev TI:=St→Hp→(It→Hp→Prop)→Prop
def PIE (X:Cx)(pins:List (Addr × Obj))(σ:St)(tg:Expr)(R:It→Hp→Prop)(itv:Value)(s2:Shared):Prop :=
 ∃ (it:Addr) (fp:List Addr) (tn:Nat→Heap→Prop) (J:It) (H':Hp),itv=.ref it∧Inv X pins σ H' s2∧Turn X.prog X.w X.K tg J fp it tn∧tn 0 s2.heap∧(∀ b∈fp,AL2 X pins H' b)∧R J H'
def PI (X:Cx)(tg iter:Expr)(wi:TI):Prop :=
 ∀ (pins:List (Addr × Obj)) (s:Shared) (σ:St) (H:Hp) (R:It→Hp→Prop),Inv X pins σ H s→wi σ H R →
  wpAny (model X.prog X.w) X.A (eval iter X.env) (fun v s1=>wpAny (model X.prog X.w) X.A (pyIter v) (PIE X pins σ tg R) X.xe s1) X.xe s
theorem BB0 {M:Model}{A:Around}{E:Value→Shared→Prop}{s:Shared}{tg:Expr}{it:Addr}{u:Value}{o:Obj}{n:String}{vs:Array Value}{Q:Unit→Shared→Prop}(ho:s.heap.get? it=some o)(hc:o.cls=.type n)(hd:o.data=.fields vs)(hn:["enumerate","zip","dict_itemiterator","dict_reverseitemiterator","odict_iterator","itertools.zip_longest","itertools.pairwise"].contains n=false)(hQ:Q () s):wpAny M A (letOwnedTupleGo tg (.ref it) u) Q E s:=by
  unfold letOwnedTupleGo
  cases tg <;> first
    | exact wpAny_pure hQ
    | (cases u <;> first
        | exact wpAny_pure hQ
        | (refine wpAny_bind (wpAny_load ho ?_)
           rw [hc,hd]
           show wpAny M A (if (["enumerate","zip","dict_itemiterator","dict_reverseitemiterator","odict_iterator","itertools.zip_longest","itertools.pairwise"].contains n && vs[0]? == some (rawInt _))=true then _ else _) Q E s
           rw [if_neg (by intro h; rw [hn,Bool.false_and] at h; cases h)]
           exact wpAny_pure hQ))
def Itl (K:Frag)(a:Addr):It :=
 ⟨fun i H=>∃ xs x,SqL K H a xs∧xs[i]?=some x,fun i H x H'=>H'=H∧∀ xs,SqL K H a xs→xs[i]?=some x,fun i H=>∃ xs,SqL K H a xs∧xs.length≤i⟩
theorem AB4 {P:Program}{w:World}{K:Frag}{tg:Expr}(a it:Addr):Turn P w K tg (Itl K a) [it] it (fun i h=>h.IsListIter it a i) where
 mem:=by simp
 obj:=fun i h st b hb=>by
  have e:b=it:=by simpa using hb
  subst e
  obtain ⟨o,e,c,d⟩:=st
  exact ⟨o,e,fun v z=>by rw [d] at z; cases z⟩
 keep:=fun i h h' st k=>st.at fun o e=>k it (by simp) o e
 item:=by
  intro X hP hw hK hc i pins s σ H E I hf st hg
  subst hP hw hK
  obtain ⟨xs,x,hq,hx⟩:=hg
  obtain ⟨its,rv,p,hz⟩:=I.list hq
  obtain ⟨u,hu,ru⟩:=rv.get hx
  obtain ⟨f0,f1,f2,f3,f4,f5⟩:=hf it (by simp)
  refine wpAny_pyNext_list_item st p.isList (x:=u) (by simpa using hu) fun h' st' sb=>?_
  have I1:Inv X pins σ H { s with heap:=h' }:=I.turned (t':=s.toks) (fun b o hb e=>(sb.2 b hb).trans e) f0 f1 f3 f4 f5
  obtain ⟨o,e,c,d⟩:=id st'
  exact ⟨u,rfl,BB0 (s:={ s with heap:=h' }) e c d (by decide) ⟨x,H,I1,ru,⟨rfl,fun ys hy=>by rw [I.list_inj hy hq]; exact hx⟩,st',fun b hb=>(hf b hb).1⟩⟩
 done:=by
  intro X hP hw hK hc i pins s σ H E I hf st hg
  subst hP hw hK
  obtain ⟨xs,hq,hx⟩:=hg
  obtain ⟨its,rv,p,hz⟩:=I.list hq
  obtain ⟨f0,f1,f2,f3,f4,f5⟩:=hf it (by simp)
  have hl:=rv.length
  exact wpAny_pyNext_list_end (I.ok.hd hc) st p.isList (by simp; omega) fun h' eb=>⟨rfl,I.turned (t':=s.toks) (fun b o hb e=>eb b o hb e) f0 f1 f3 f4 f5⟩
 self:=fun _ _ _ _ _ st h=>wpAny_pyIter_listiter st h
section
variable {X:Cx}{tg:Expr}
def AS9 (K:Frag)(tl:TE):TI:=fun σ H R=>tl σ H fun x H1=>∃ a,x=.ref a∧(∃ xs,SqL K H1 a xs)∧R (Itl K a) H1
theorem sX {l:Expr}{tl:TE}(hl:PE X l tl):PI X tg l (AS9 X.K tl):=by
 intro pins s σ H R I h
 refine thn (hl pins s σ H _ I h) fun v s1 ⟨x,H1,I1,r1,q1⟩=>?_
 obtain ⟨a,e,⟨xs,hq⟩,q⟩:=q1
 subst e
 cases r1
 obtain ⟨its,rv,p,hz⟩:=I1.list hq
 refine wpAny_pyIter_list p.isList ?_
 refine ⟨s1.heap.objs.size,[s1.heap.objs.size],_,_,H1,rfl,I1.kept (t':=s1.toks) fun b o e=>Heap.get?_push_of_some _ e,AB4 a _,⟨_,Heap.get?_push_size _ rfl,rfl,rfl⟩,fun b hb=>?_,q⟩
 have e:b=s1.heap.objs.size:=by simpa using hb
 subst e
 exact I1.fpOk (Nat.le_refl _) (I1.hok.fresh (Nat.le_refl _))
def BG1 (wi:TI)(g:TG)(tb:TS):TS:=fun D σ H=>wi σ H fun J H1=>∃ W:Nat→Nat→St→Hp→Prop,(∃ m,W 0 m σ H1)∧∀ i m σ H,W i m σ H →
 (J.stop i H∧D.nx σ H)∨(J.go i H∧∃ N:St→Hp→Prop,(∀ σ' H',N σ' H'→∃ m',m' < m∧W (i+1) m' σ' H')∧∀ x H',J.yld i H x H'→g x σ H' fun σ2 H2=>tb { D with nx:=N,ct:=N,bk:=D.nx } σ2 H2)
def mE (fp:List Addr)(h:Heap):List (Addr × Obj):=fp.filterMap fun b=>(h.get? b).map fun o=>(b,o)
theorem kK {fp:List Addr}{h:Heap}{b:Addr}{o:Obj}(hb:b∈fp)(e:h.get? b=some o):(b,o)∈mE fp h:=List.mem_filterMap.mpr ⟨b,hb,by rw [e]; rfl⟩
theorem uQ {fp:List Addr}{h:Heap}{p:Addr × Obj}(hp:p∈mE fp h):p.1∈fp∧h.get? p.1=some p.2:=by
 obtain ⟨b,hb,e⟩:=List.mem_filterMap.mp hp
 cases q:h.get? b with
 | none=>rw [q] at e; cases e
 | some o =>
  rw [q] at e
  have e':(b,o)=p:=Option.some.inj e
  subst e'
  exact ⟨hb,q⟩
theorem Inv.pinned {pins:List (Addr × Obj)}{σ:St}{H:Hp}{s:Shared}{fp:List Addr}(I:Inv X pins σ H s)(hf:∀ b∈fp,AL2 X pins H b)(ho:∀ b∈fp,∃ o,s.heap.get? b=some o∧∀ v,o.data≠.cell v):Inv X (pins++mE fp s.heap) σ H s :=
 I.pins_of fun p hp=>(List.mem_append.mp hp).elim (fun z=>I.pin p (List.mem_append_right _ z)) fun z=>by
  obtain ⟨hb,e⟩:=uQ z
  obtain ⟨f0,f1,f2,_⟩:=hf p.1 hb
  obtain ⟨o,e',d⟩:=ho p.1 hb
  rw [e] at e'; cases e'
  exact ⟨e,f0,f1,f2,d⟩
theorem Inv.unpinned {pins pl:List (Addr × Obj)}{σ:St}{H:Hp}{s:Shared}(I:Inv X (pins++pl) σ H s):Inv X pins σ H s:=I.pins_of fun p hp=>I.pin p (List.mem_append_right _ (List.mem_append_left _ hp))
theorem AB5 {iter:Expr}{body:List Stmt}{wi:TI}{g:TG}{tb:TS}{pos:Pos}(hp:PassesOwn (model X.prog X.w) X.A X.env X.xe)(hc:X.calm=true)(hi:PI X tg iter wi)(hg:PG X tg g)(hb:PSs X body tb)(hs:∀ x,foldedSetIterable iter X.env x=pure x:=by intro _; rfl):PS X (.For tg iter body [] pos) (BG1 wi g tb):=by
 intro pins s σ H D I h
 refine wpAny_For (thn (hi pins s σ H _ I h) fun v s1 h1=>thn h1 fun itv s2 h2=>?_) hs
 obtain ⟨it,fp,tn,J,H2,e,I2,T,st2,f2,W,⟨m0,w0⟩,turn⟩:=h2
 subst e
 -- what stays true of the iterator's objects through the loop
 have stat:∀ {H':Hp},(∀ b∈fp,H' b=none)→∀ b∈fp,AL2 X pins H' b:=fun hn b hb=>⟨hn b hb,(f2 b hb).2⟩
 refine codeAny_forLoop_any (fun n s'=>∃ i σ' H',Inv X pins σ' H' s'∧tn i s'.heap∧(∀ b∈fp,H' b=none)∧W i n σ' H') ?_ m0 ⟨0,σ,H2,I2,st2,fun b hb=>(f2 b hb).1,w0⟩
 rintro n s3 ⟨i,σ3,H3,I3,st3,fr3,w3⟩
 rcases turn i n σ3 H3 w3 with ⟨stop,qn⟩ | ⟨go,N,hN,step⟩
 ·refine wpAny_passesOwn hp (thn (T.done X rfl rfl rfl hc i pins s3 σ3 H3 X.xe I3 (stat fr3) st3 stop) fun r s4 ⟨hr,I4⟩=>?_)
  subst hr
  exact wpAny_execs_nil ⟨σ3,H3,I4,qn⟩
 ·refine wpAny_passesOwn hp (thn (T.item X rfl rfl rfl hc i pins s3 σ3 H3 X.xe I3 (stat fr3) st3 go) fun r s4 ⟨u,hr,h4⟩=>?_)
  subst hr
  refine wpAny_passesOwn hp (thn h4 fun _ s5 ⟨x,H5,I5,r5,y5,st5,fr5⟩=>?_)
  have I5':=I5.pinned (stat fr5) (T.obj _ _ st5)
  refine wpAny_passesOwn hp (thn (hg _ s5 σ3 H5 x u _ I5' r5 (step x H5 y5)) fun _ s6 ⟨σ6,H6,I6,q6⟩=>?_)
  refine wpAny_passesOwn hp (thn (hb _ s6 σ6 H6 _ I6 q6) fun f s7 q7=>?_)
  have again:∀ {σ7:St}{H7:Hp},Inv X (pins++mE fp s5.heap) σ7 H7 s7→N σ7 H7→∃ m,m < n∧∃ i σ' H',Inv X pins σ' H' s7∧tn i s7.heap∧(∀ b∈fp,H' b=none)∧W i m σ' H':=fun {σ7 H7} I7 n7=>by
   obtain ⟨m',hm,w7⟩:=hN σ7 H7 n7
   refine ⟨m',hm,i+1,σ7,H7,I7.unpinned,T.keep _ _ _ st5 fun b hb o e=>(I7.pin (b,o) (List.mem_append_right _ (List.mem_append_right _ (kK hb e)))).1,fun b hb=>?_,w7⟩
   obtain ⟨o,e,d⟩:=T.obj _ _ st5 b hb
   exact (I7.pin (b,o) (List.mem_append_right _ (List.mem_append_right _ (kK hb e)))).2.1
  cases f with
  | next=>obtain ⟨σ7,H7,I7,n7⟩:=q7; exact again I7 n7
  | cont=>obtain ⟨σ7,H7,I7,n7⟩:=q7; exact again I7 n7
  | brk=>obtain ⟨σ7,H7,I7,q7⟩:=q7; exact ⟨σ7,H7,I7.unpinned,q7⟩
  | ret v=>obtain ⟨x7,σ7,H7,I7,r7,q7⟩:=q7; exact ⟨x7,σ7,H7,I7.unpinned,r7,q7⟩
end
theorem AM0 {K:Frag}{a:Addr}{xs:List V}{g:TG}{tb:TS}{D:Ends}{σ:St}{H:Hp}(Pv:Nat→St→Hp→Prop)(h0:Pv 0 σ H)(hl:∀ i σ H,i≤xs.length→Pv i σ H→SqL K H a xs)(hs:∀ i x σ H,xs[i]?=some x→Pv i σ H→g x σ H fun σ2 H2=>tb { D with nx:=Pv (i+1),ct:=Pv (i+1),bk:=D.nx } σ2 H2)(hd:∀ σ H,Pv xs.length σ H→D.nx σ H) :
  ∃ W:Nat→Nat→St→Hp→Prop,(∃ m,W 0 m σ H)∧∀ i m σ H,W i m σ H →
   ((Itl K a).stop i H∧D.nx σ H)∨((Itl K a).go i H∧∃ N:St→Hp→Prop,(∀ σ' H',N σ' H'→∃ m',m' < m∧W (i+1) m' σ' H')∧∀ x H',(Itl K a).yld i H x H'→g x σ H' fun σ2 H2=>tb { D with nx:=N,ct:=N,bk:=D.nx } σ2 H2):=by
 refine ⟨fun i m σ H=>m=xs.length - i∧i≤xs.length∧Pv i σ H,⟨xs.length,by simp,Nat.zero_le _,h0⟩,?_⟩
 rintro i m σ H ⟨rfl,hi,p⟩
 have q:=hl i σ H hi p
 by_cases hlt:i < xs.length
 ·refine .inr ⟨⟨xs,xs[i],q,by simp [hlt]⟩,Pv (i+1),fun σ' H' p'=>⟨xs.length - (i+1),by omega,rfl,hlt,p'⟩,fun x H' y=>?_⟩
  obtain ⟨e,y⟩:=y
  subst e
  exact hs i x σ _ (y xs q) p
 ·have e:i=xs.length:=by omega
  subst e
  exact .inl ⟨⟨xs,q,Nat.le_refl _⟩,hd σ H p⟩
abbrev R2:=V→V→Hp→VK→Prop
def OpR (X:Cx)(f:Value→Value→Sem Value)(r:R2):Prop :=
 ∀ (pins:List (Addr × Obj)) (s:Shared) (σ:St) (H:Hp) (x y:V) (v u:Value) (Q:VK),Inv X pins σ H s→RelV x v→RelV y u→r x y H Q →
  wpAny (model X.prog X.w) X.A (f v u) (EP X pins σ Q) X.xe s
def UnR (X:Cx)(f:Value→Sem Value)(r:V→Hp→VK→Prop):Prop :=
 ∀ (pins:List (Addr × Obj)) (s:Shared) (σ:St) (H:Hp) (x:V) (v:Value) (Q:VK),Inv X pins σ H s→RelV x v→r x H Q →
  wpAny (model X.prog X.w) X.A (f v) (EP X pins σ Q) X.xe s
def iP (X:Cx)(f:Value)(r:List V→Hp→VK→Prop):Prop :=
 ∀ (pins:List (Addr × Obj)) (s:Shared) (σ:St) (H:Hp) (xs:List V) (us:List Value) (Q:VK),Inv X pins σ H s→Vals xs us→r xs H Q →
  wpAny (model X.prog X.w) X.A (call f us) (EP X pins σ Q) X.xe s
def tOp (r:R2)(ta tb:TE):TE:=fun σ H Q=>ta σ H fun x H1=>tb σ H1 fun y H2=>r x y H2 Q
def tUn (r:V→Hp→VK→Prop)(ta:TE):TE:=fun σ H Q=>ta σ H fun x H1=>r x H1 Q
def rI (C:Int→Int→Prop)(g:Int→Int→V):R2:=fun x y H Q=>∃ i j,x=.int i∧y=.int j∧C i j∧Q (g i j) H
def rI0 (g:Int→Int→V):R2:=fun x y H Q=>∃ i j,x=.int i∧y=.int j∧Q (g i j) H
def rU (g:Int→V):V→Hp→VK→Prop:=fun x H Q=>∃ i,x=.int i∧Q (g i) H
section
variable {X:Cx}{a b c:Expr}{ta tb tc:TE}{pos:Pos}
theorem BG2 (ha:PE X a ta)(hb:PE X b tb){pins:List (Addr × Obj)}{s:Shared}{σ:St}{H:Hp}{R:V→V→Hp→Prop}(I:Inv X pins σ H s)(h:ta σ H fun x H1=>tb σ H1 fun y H2=>R x y H2){Q:Value→Shared→Prop}{f:Value→Value→Sem Value}(hf:∀ v u s2 x y H2,Inv X pins σ H2 s2→RelV x v→RelV y u→R x y H2→wpAny (model X.prog X.w) X.A (f v u) Q X.xe s2) :
  wpAny (model X.prog X.w) X.A (eval a X.env) (fun v s₁=>wpAny (model X.prog X.w) X.A (eval b X.env) (fun u s₂=>wpAny (model X.prog X.w) X.A (f v u) Q X.xe s₂) X.xe s₁) X.xe s:=by
 refine thn (ha pins s σ H _ I h) fun v s1 ⟨x,H1,I1,r1,q1⟩=>?_
 refine thn (hb pins s1 σ H1 _ I1 q1) fun u s2 ⟨y,H2,I2,r2,q2⟩=>?_
 exact hf v u s2 x y H2 I2 r1 r2 q2
theorem dJ {op:Operator}{r:R2}(ho:OpR X (binaryOp op) r)(ha:PE X a ta)(hb:PE X b tb):PE X (.BinOp a op b pos) (tOp r ta tb):=by
 intro pins s σ H Q I h
 exact wpAny_BinOp (BG2 ha hb I h fun v u s2 x y H2 I2 rx ry q=>ho pins s2 σ H2 x y v u Q I2 rx ry q)
theorem AM1 {op:UnaryOp}{r:V→Hp→VK→Prop}(ho:UnR X (unaryOp op) r)(ha:PE X a ta):PE X (.UnaryOp op a pos) (tUn r ta):=by
 intro pins s σ H Q I h
 exact UnaryOp_ (thn (ha pins s σ H _ I h) fun v s1 ⟨x,H1,I1,r1,q1⟩=>ho pins s1 σ H1 x v Q I1 r1 q1)
theorem opI {f:Value→Value→Sem Value}{C:Int→Int→Prop}{g:Int→Int→Int}(rule:∀ (i j:Int) (t u:Tok) (s:Shared) (Q:Value→Shared→Prop) (E:Value→Shared→Prop),C i j→Q (.int (g i j) s.toks) { s with toks:=s.toks+1 }→wpAny (model X.prog X.w) X.A (f (.int i t) (.int j u)) Q E s) :
  OpR X f (rI C fun i j=>.int (g i j)):=by
 intro pins s σ H x y v u Q I rx ry h
 obtain ⟨i,j,rfl,rfl,hc,q⟩:=h
 obtain ⟨t,rfl⟩:=rx
 obtain ⟨t',rfl⟩:=ry
 exact rule i j t t' s _ _ hc ⟨.int (g i j),H,I.tok _,⟨_,rfl⟩,q⟩
theorem BL0 {f:Value→Value→Sem Value}{g:Int→Int→Int}(rule:∀ (i j:Int) (t u:Tok) (s:Shared) (Q:Value→Shared→Prop) (E:Value→Shared→Prop),Q (.int (g i j) s.toks) { s with toks:=s.toks+1 }→wpAny (model X.prog X.w) X.A (f (.int i t) (.int j u)) Q E s) :
  OpR X f (rI0 fun i j=>.int (g i j)):=by
 intro pins s σ H x y v u Q I rx ry h
 obtain ⟨i,j,rfl,rfl,q⟩:=h
 obtain ⟨t,rfl⟩:=rx
 obtain ⟨t',rfl⟩:=ry
 exact rule i j t t' s _ _ ⟨.int (g i j),H,I.tok _,⟨_,rfl⟩,q⟩
theorem BG3 {f:Value→Value→Sem Value}{g:Int→Int→Bool}(rule:∀ (i j:Int) (t u:Tok) (s:Shared) (Q:Value→Shared→Prop) (E:Value→Shared→Prop),Q (.bool (g i j)) s→wpAny (model X.prog X.w) X.A (f (.int i t) (.int j u)) Q E s) :
  OpR X f (rI0 fun i j=>.bl (g i j)):=by
 intro pins s σ H x y v u Q I rx ry h
 obtain ⟨i,j,rfl,rfl,q⟩:=h
 obtain ⟨t,rfl⟩:=rx
 obtain ⟨t',rfl⟩:=ry
 exact rule i j t t' s _ _ ⟨.bl (g i j),H,I,rfl,q⟩
def CMul (i j:Int):Prop:=(-(2 ^ 64) < i∧i < 2 ^ 64)∨(-(2 ^ 64) < j∧j < 2 ^ 64)
theorem CMul.ok {i j:Int}(h:CMul i j):IntMulOk i j:=by
 rcases h with ⟨h1,h2⟩ | ⟨h1,h2⟩
 ·exact .of_left (intBits_le_64 h1 h2)
 ·exact .of_right (intBits_le_64 h1 h2)
theorem qA:OpR X (binaryOp .Add) (rI0 fun i j=>.int (i+j)):=BL0 fun _ _ _ _ _ _ _ q=>add_int q
theorem sD:OpR X (binaryOp .Sub) (rI0 fun i j=>.int (i - j)):=BL0 fun _ _ _ _ _ _ _ q=>sub_int q
theorem uR:OpR X (binaryOp .Mult) (rI CMul fun i j=>.int (i * j)):=opI fun _ _ _ _ _ _ _ hc q=>mul_int q hc.ok
theorem qB:OpR X (binaryOp .Mod) (rI (fun _ j=>0 < j) fun i j=>.int (i % j)):=opI fun i j _ _ _ _ _ hc q=>by
 have h1:(0:Int) < j:=hc
 exact mod_int' (by omega) (by rw [Int.fmod_eq_emod_of_nonneg i (by omega)]; exact q)
theorem unI {f:Value→Sem Value}{g:Int→Int}(rule:∀ (i:Int) (t:Tok) (s:Shared) (Q:Value→Shared→Prop) (E:Value→Shared→Prop),Q (.int (g i) s.toks) { s with toks:=s.toks+1 }→wpAny (model X.prog X.w) X.A (f (.int i t)) Q E s) :
  UnR X f (rU fun i=>.int (g i)):=by
 intro pins s σ H x v Q I rx h
 obtain ⟨i,rfl,q⟩:=h
 obtain ⟨t,rfl⟩:=rx
 exact rule i t s _ _ ⟨.int (g i),H,I.tok _,⟨_,rfl⟩,q⟩
theorem yE:UnR X (unaryOp .USub) (rU fun i=>.int (-i)):=unI fun _ _ _ _ _ q=>neg_int q
end
def AM2:V→V→Bool
 | .non,.non=>true | .non,.int _=>true | .int _,.non=>true | .non,.bl _=>true | .bl _,.non=>true | .non,.str _=>true | .str _,.non=>true
 | .int _,.int _=>true | .bl _,.bl _=>true | .str _,.str _=>true | .byt _,.byt _=>true
 | .int _,.str _=>true | .str _,.int _=>true | .bl _,.str _=>true | .str _,.bl _=>true
 | _,_=>false
def rEq:R2:=fun x y H Q=>AM2 x y=true∧Q (.bl (decide (x=y))) H
def rNe:R2:=fun x y H Q=>AM2 x y=true∧Q (.bl (!decide (x=y))) H
theorem AB6 {i j:Int}:decide (V.int i=V.int j)=(i == j):=by
 rw [Bool.eq_iff_iff]
 simp
theorem AQ5 {i j:Bool}:decide (V.bl i=V.bl j)=(i == j):=by
 rw [Bool.eq_iff_iff]
 simp
theorem AB7 {i j:Str}:decide (V.str i=V.str j)=(i == j):=by
 rw [Bool.eq_iff_iff]
 simp
theorem AB8 {i j:Array UInt8}:decide (V.byt i=V.byt j)=(i.toList == j.toList):=by
 rw [Bool.eq_iff_iff]
 cases i
 cases j
 simp
section
variable {X:Cx}{a b c:Expr}{ta tb tc:TE}{pos:Pos}
theorem cK {pins:List (Addr × Obj)}{σ:St}{H:Hp}{s:Shared}{Q:VK}{k k':Bool}(I:Inv X pins σ H s)(q:Q (.bl k) H)(e:k=k'):EP X pins σ Q (.bool k') s:=by
 subst e
 exact ⟨.bl k,H,I,rfl,q⟩
theorem iQ:OpR X (compareOp .Eq) rEq:=by
 intro pins s σ H x y v u Q I rx ry h
 obtain ⟨hs,q⟩:=h
 cases x with
 | non =>
  cases rx
  cases y with
  | non=>cases ry; exact PySem.EqNone.eq_none_none (cK I q (by simp))
  | bl j=>cases ry; exact PySem.EqNone.eq_none_bool (cK I q (by simp))
  | int j=>obtain ⟨t',rfl⟩:=ry; exact PySem.EqNone.eq_none_int (cK I q (by simp))
  | str j=>obtain ⟨t',rfl⟩:=ry; exact PySem.EqNone.eq_none_str (cK I q (by simp))
  | _=>exact absurd (show false=true from hs) Bool.false_ne_true
 | bl i =>
  cases rx
  cases y with
  | non=>cases ry; exact PySem.EqNone.eq_bool_none (cK I q (by simp))
  | bl j=>cases ry; exact eq_bool (cK I q AQ5)
  | str j=>obtain ⟨t',rfl⟩:=ry; exact PySem.EqMixed.eq_bool_str (cK I q (by simp))
  | _=>exact absurd (show false=true from hs) Bool.false_ne_true
 | int i =>
  obtain ⟨t,rfl⟩:=rx
  cases y with
  | non=>cases ry; exact PySem.EqNone.eq_int_none (cK I q (by simp))
  | int j=>obtain ⟨t',rfl⟩:=ry; exact eq_int (cK I q AB6)
  | str j=>obtain ⟨t',rfl⟩:=ry; exact PySem.EqMixed.eq_int_str (cK I q (by simp))
  | _=>exact absurd (show false=true from hs) Bool.false_ne_true
 | str i =>
  obtain ⟨t,rfl⟩:=rx
  cases y with
  | non=>cases ry; exact PySem.EqNone.eq_str_none (cK I q (by simp))
  | bl j=>cases ry; exact PySem.EqMixed.eq_str_bool (cK I q (by simp))
  | int j=>obtain ⟨t',rfl⟩:=ry; exact PySem.EqMixed.eq_str_int (cK I q (by simp))
  | str j=>obtain ⟨t',rfl⟩:=ry; exact eq_str (cK I q AB7)
  | _=>exact absurd (show false=true from hs) Bool.false_ne_true
 | byt i =>
  obtain ⟨t,rfl⟩:=rx
  cases y with
  | byt j=>obtain ⟨t',rfl⟩:=ry; exact eq_bytes (cK I q AB8)
  | _=>exact absurd (show false=true from hs) Bool.false_ne_true
 | _=>cases y <;> exact absurd (show false=true from hs) Bool.false_ne_true
theorem nW:OpR X (compareOp .NotEq) rNe:=by
 intro pins s σ H x y v u Q I rx ry h
 obtain ⟨hs,q⟩:=h
 cases x with
 | non =>
  cases rx
  cases y with
  | non=>cases ry; exact PySem.EqNone.ne_none_none (cK I q (by simp))
  | bl j=>cases ry; exact PySem.EqNone.ne_none_bool (cK I q (by simp))
  | int j=>obtain ⟨t',rfl⟩:=ry; exact PySem.EqNone.ne_none_int (cK I q (by simp))
  | str j=>obtain ⟨t',rfl⟩:=ry; exact PySem.EqNone.ne_none_str (cK I q (by simp))
  | _=>exact absurd (show false=true from hs) Bool.false_ne_true
 | bl i =>
  cases rx
  cases y with
  | non=>cases ry; exact PySem.EqNone.ne_bool_none (cK I q (by simp))
  | bl j=>cases ry; exact ne_bool (cK I q (congrArg not AQ5))
  | str j=>obtain ⟨t',rfl⟩:=ry; exact PySem.EqMixed.ne_bool_str (cK I q (by simp))
  | _=>exact absurd (show false=true from hs) Bool.false_ne_true
 | int i =>
  obtain ⟨t,rfl⟩:=rx
  cases y with
  | non=>cases ry; exact PySem.EqNone.ne_int_none (cK I q (by simp))
  | int j=>obtain ⟨t',rfl⟩:=ry; exact ne_int (cK I q (congrArg not AB6))
  | str j=>obtain ⟨t',rfl⟩:=ry; exact PySem.EqMixed.ne_int_str (cK I q (by simp))
  | _=>exact absurd (show false=true from hs) Bool.false_ne_true
 | str i =>
  obtain ⟨t,rfl⟩:=rx
  cases y with
  | non=>cases ry; exact PySem.EqNone.ne_str_none (cK I q (by simp))
  | bl j=>cases ry; exact PySem.EqMixed.ne_str_bool (cK I q (by simp))
  | int j=>obtain ⟨t',rfl⟩:=ry; exact PySem.EqMixed.ne_str_int (cK I q (by simp))
  | str j=>obtain ⟨t',rfl⟩:=ry; exact ne_str (cK I q (congrArg not AB7))
  | _=>exact absurd (show false=true from hs) Bool.false_ne_true
 | byt i =>
  obtain ⟨t,rfl⟩:=rx
  cases y with
  | byt j=>obtain ⟨t',rfl⟩:=ry; exact ne_bytes (cK I q (congrArg not AB8))
  | _=>exact absurd (show false=true from hs) Bool.false_ne_true
 | _=>cases y <;> exact absurd (show false=true from hs) Bool.false_ne_true
theorem zG:OpR X (compareOp .Lt) (rI0 fun i j=>.bl (decide (i < j))):=BG3 fun _ _ _ _ _ _ _ q=>lt_int q
theorem AT0:OpR X (compareOp .LtE) (rI0 fun i j=>.bl (decide (i≤j))):=BG3 fun _ _ _ _ _ _ _ q=>le_int q
theorem zH:OpR X (compareOp .Gt) (rI0 fun i j=>.bl (decide (j < i))):=BG3 fun _ _ _ _ _ _ _ q=>gt_int q
theorem uS:OpR X (compareOp .In) (fun x y H Q=>∃ i j,x=.str i∧y=.str j∧Q (.bl (!(Builtin.Str.occurrences j i 0 j.length 1).isEmpty)) H):=by
 intro pins s σ H x y v u Q I rx ry h
 obtain ⟨i,j,rfl,rfl,q⟩:=h
 obtain ⟨t,rfl⟩:=rx
 obtain ⟨t',rfl⟩:=ry
 exact in_str (cK I q rfl)
theorem bF (b:Expr){op:CmpOp}(h:op≠.In:=by decide)(h2:op≠.NotIn:=by decide):behindInMarks op b=false:=by
 have e1:(op == CmpOp.In)=false:=by cases op <;> first | rfl | exact absurd rfl h
 have e2:(op == CmpOp.NotIn)=false:=by cases op <;> first | rfl | exact absurd rfl h2
 cases b <;> simp [behindInMarks,e1,e2]
theorem iF {op:CmpOp}{r:R2}(ho:OpR X (compareOp op) r)(ha:PE X a ta)(hb:PE X b tb)(hm:behindInMarks op b=false):PE X (.Compare a [op] [b] pos) (tOp r ta tb):=by
 intro pins s σ H Q I h
 exact wpAny_Compare1 (BG2 ha hb I h fun v u s2 x y H2 I2 rx ry q=>ho pins s2 σ H2 x y v u Q I2 rx ry q) hm
def BB1 (t:TE):TT:=fun σ H Q=>t σ H fun x H'=>∃ k,x=.bl k∧Q k H'
theorem bC {op:CmpOp}{r:R2}(ho:OpR X (compareOp op) r)(ha:PE X a ta)(hb:PE X b tb)(hm:behindInMarks op b=false):PT X (.Compare a [op] [b] pos) (BB1 (tOp r ta tb)):=by
 intro pins s σ H Q I h
 refine wpAny_isTrue_Compare1 (thn (ha pins s σ H _ I h) fun v s1 ⟨x,H1,I1,r1,q1⟩=>thn (hb pins s1 σ H1 _ I1 q1) fun u s2 ⟨y,H2,I2,r2,q2⟩ =>
  thn (ho pins s2 σ H2 x y v u _ I2 r1 r2 q2) fun c s3 ⟨z,H3,I3,r3,k,e,q3⟩=>?_) hm
 subst e
 cases r3
 exact wpAny_truthy_bool ⟨H3,I3,q3⟩
theorem sE:(sizeLine:Nat) < 2 ^ 63:=by rw [sizeLine_eq]; decide
theorem nX:OpR X (binaryOp .Add) (fun x y H Q=>∃ i j,x=.str i∧y=.str j∧i.length+j.length≤sizeLine∧Q (.str (i++j)) H):=by
 intro pins s σ H x y v u Q I rx ry h
 obtain ⟨i,j,rfl,rfl,hz,q⟩:=h
 obtain ⟨t,rfl⟩:=rx
 obtain ⟨t',rfl⟩:=ry
 exact add_str (fun t' tk=>⟨.str (i++j),H,I.tok _,⟨_,rfl⟩,q⟩) hz
theorem sY {x:V}{us:List Value}(r:Vals [x] us):∃ u,us=[u]∧RelV x u:=by
 cases r with
 | cons r1 r2=>cases r2; exact ⟨_,rfl,r1⟩
theorem zI {x y:V}{us:List Value}(r:Vals [x,y] us):∃ u w',us=[u,w']∧RelV x u∧RelV y w':=by
 cases r with
 | cons r1 r2 =>
  cases r2 with
  | cons r3 r4=>cases r4; exact ⟨_,_,rfl,r1,r3⟩
theorem AB9 (hc:X.calm=true):iP X (.builtin "min") (fun xs H Q=>∃ i j,xs=[.int i,.int j]∧Q (.int (if j < i then j else i)) H):=by
 intro pins s σ H xs us Q I r h
 obtain ⟨i,j,rfl,q⟩:=h
 obtain ⟨u,w',rfl,⟨t,rfl⟩,⟨t',rfl⟩⟩:=zI r
 refine min_two_ints (I.ok.hd hc) fun h' tk k=>⟨_,H,I.kept k,?_,q⟩
 by_cases hj:j < i
 ·rw [if_pos hj,if_pos hj]; exact ⟨_,rfl⟩
 ·rw [if_neg hj,if_neg hj]; exact ⟨_,rfl⟩
def BM6 (K:Frag)(x:V)(H:Hp)(n:Nat):Prop :=
 match x with
 | .str y=>y.length≤sizeLine∧n=y.length
 | .byt y=>y.size≤sizeLine∧n=y.size
 | .ref p=>(∃ xs,SqL K H p xs∧n=xs.length)∨∃ xs,SqT K H p xs∧n=xs.length
 | _=>False
theorem AM3:iP X (.builtin "len") (fun xs H Q=>∃ x n,xs=[x]∧BM6 X.K x H n∧Q (.int n) H):=by
 intro pins s σ H xs us Q I r h
 obtain ⟨x,n,rfl,e,q⟩:=h
 obtain ⟨u,rfl,rx⟩:=sY r
 have hl:=sE
 have hs:sizeLine=16777216:=sizeLine_eq
 cases x with
 | str y =>
  obtain ⟨t,rfl⟩:=rx
  obtain ⟨hy,e'⟩:y.length≤sizeLine∧n=y.length:=e
  subst e'
  exact len_str (by omega) ⟨.int _,H,I.tok _,⟨_,rfl⟩,q⟩
 | byt y =>
  obtain ⟨t,rfl⟩:=rx
  obtain ⟨hy,e'⟩:y.size≤sizeLine∧n=y.size:=e
  subst e'
  exact len_bytes (by omega) ⟨.int _,H,I.tok _,⟨_,rfl⟩,q⟩
 | ref p =>
  cases rx
  have e':(∃ xs,SqL X.K H p xs∧n=xs.length)∨∃ xs,SqT X.K H p xs∧n=xs.length:=e
  rcases e' with ⟨xs,hx,e'⟩ | ⟨xs,hx,e'⟩
  ·subst e'
   obtain ⟨its,r',pl,hz⟩:=I.list hx
   have hlen:=r'.length
   exact Calls.call_len_list pl.isList (by simp only [List.size_toArray]; omega) ⟨.int xs.length,H,I.tok _,⟨_,by simp only [List.size_toArray]; rw [hlen]⟩,q⟩
  ·subst e'
   obtain ⟨its,r',pl,hz⟩:=I.tuple hx
   have hlen:=r'.length
   exact len_tuple pl (by simp only [List.size_toArray]; omega) ⟨.int xs.length,H,I.tok _,⟨_,by simp only [List.size_toArray]; rw [hlen]⟩,q⟩
 | _=>exact (show False from e).elim
end
structure ObjM (h:Heap) (x dx C:Addr) (mA:Str→Option Value):Prop where
 obj:h.get? x=some (instObj C dx)
 ns:h.Ns1 dx mA
 ne:dx≠x
theorem uT {h:Heap}{dx:Addr}{mA:Str→Option Value}(n:h.Ns1 dx mA):∃ od,h.get? dx=some od∧∀ name,lookIn name od=some (mA name):=by
 obtain ⟨o,es,ep,ho,hd,hk,_,hm⟩:=n
 refine ⟨o,ho,fun name=>?_⟩
 have e:=hm name
 unfold nsFind findBy at e
 rw [← Array.find?_toList] at e
 unfold lookIn
 rw [hd]
 dsimp only
 split
 ·rename_i y q
  rw [q] at e
  exact congrArg some e
 ·rename_i q
  rw [q] at e
  have a:es.toList.any (·.refKey)=false:=by
   rw [List.any_eq_false]
   intro y hy
   obtain ⟨z,t,hkey⟩:=hk y (Array.mem_toList_iff.mp hy)
   simp [DictEntry.refKey,hkey]
  have a':¬ es.toList.any (·.refKey)=true:=by rw [a]; exact Bool.false_ne_true
  rw [if_neg a']
  exact congrArg some e
theorem ObjM.look {h:Heap}{x dx C:Addr}{mA:Str→Option Value}(I:ObjM h x dx C mA):∃ od,InstAt h x (instObj C dx) C (some od)∧∀ name,lookIn name od=some (mA name) :=
 let ⟨od,ho,hl⟩:=uT I.ns
 ⟨od,⟨I.obj,rfl,rfl,ho⟩,hl⟩
section
variable {prog:Program}{w:World}{A:Around}{E:Value→Shared→Prop}{s:Shared}{K:Frag}{x dx C f:Addr}{mA:Str→Option Value}{name:Str}{v:Value}
theorem AC0 {expr:Bool}{Q:Value→Shared→Prop}(X:K.In s.heap)(I:ObjM s.heap x dx C mA)(hg:plainGet K C name=true)(hh:hasDictIn K C=true)(ha:findIn K (.ref C) name=some none)(hv:mA name=some v)(hv':handedIn v=true)(h:Q v { s with toks:=s.toks+1 }) :
  wpAny (model prog w) A (getAttr (.ref x) name expr) Q E s:=by
 obtain ⟨od,J,hl⟩:=I.look
 exact get_value X J (plainGet_of hg).1 (findObj_own hh ha rfl (by rw [hl,hv])) hv' h
theorem AM4 {pl:Sem Bool}{Q:Value × List Value→Shared→Prop}(X:K.In s.heap)(I:ObjM s.heap x dx C mA)(hg:plainGet K C name=true)(hf:findIn K (.ref C) name=some (some (.ref f)))(ht:isFn K (.ref f)=true)(hv:mA name=none)(h:Q (.ref f,[.ref x]) s) :
  wpAny (model prog w) A (getMethod (.ref x) name pl) Q E s:=by
 obtain ⟨od,J,hl⟩:=I.look
 exact method_fn X J (plainGet_of hg).1 (plainGet_of hg).2 hf (beq_iff_eq.mp ht) (by show (lookIn name od).map (·.isSome)=some false; rw [hl,hv]; rfl) h
theorem AT1 {ns:List Str}{Q:Unit→Shared→Prop}(X:K.In s.heap)(I:ObjM s.heap x dx C mA)(hs:findIn K (.ref C) "__setattr__"=some (some (.builtin "object.__setattr__")))(hp:plainOver K C=true)(ht:takerIn K C name=some none)(hh:hasDictIn K C=true)(hw:PySem.Within mA ns)(hsz:ns.length≤sizeLine)(h:∀ h',ObjM h' x dx C (fun y=>if y=name then some v else mA y)→Heap.SameBut dx s.heap h'→Q () { s with heap:=h',toks:=s.toks+2 }) :
  wpAny (model prog w) A (setAttr (.ref x) name v) Q E s:=by
 obtain ⟨od,J,hl⟩:=I.look
 refine set_plain X J hs (osa_open (s:={ s with toks:=s.toks+1 }) (r:=none) X J hp ht fun b=>?_)
 obtain ⟨cd,hc,hd'⟩:=any_some hh
 have hx:s.heap.get? x=some ⟨.ref C,some dx,.plain,#[]⟩:=I.obj
 refine wpAny_bind (wpAny_pure (wpAny_bind (wpAny_bind (wpAny_loadPart hx (wpAny_bind (Looks.here (s:={ s with toks:=s.toks+1 }) (looks_clsIn X hc) ?_))))))
 rw [hd']
 refine wpAny_pure (a:=some dx) (wpAny_bind (wpAny_pure (wpAny_bind ?_)))
 refine wpAny_nsSet1 (s:={ s with toks:=s.toks+1 }) I.ns fun h' hn2 hs2=>?_
 obtain ⟨oD,esD,epD,hoD,hdD,hcD⟩:=hn2.count (PySem.Within.cons name v hw)
 refine wpAny_bind (wpAny_lookBehind hoD (by rw [hdD]; exact pastItsLine_dict (Nat.le_trans hcD (by rw [List.length_cons]; omega))) ?_)
 exact wpAny_pure (h _ ⟨(hs2.2 _ (Ne.symm I.ne)).trans I.obj,hn2,I.ne⟩ hs2)
theorem AM5 {R:Result→Shared→Prop}{vs:List Value}{kw:List (Str × Value)}(X:K.In s.heap)(hm:makesIn K C=true)(hi:findIn K (.ref C) "__init__"=some (some (.ref f)))(hf:typeIn K (.ref f)=some (.type "function"))(h:codeAny (model prog w) (A.under (.builtin "type.__call__" ⟨.ref C::vs,kw⟩)) (.call (.ref f) ⟨.ref (s.heap.objs.size+1)::vs,kw⟩) (InitBack (s.heap.objs.size+1) R)
   { s with heap:=(s.heap.push emptyDict).push (instObj C s.heap.objs.size) }) :
  codeAny (model prog w) A (.call (.ref C) ⟨vs,kw⟩) R s:=by
 obtain ⟨hh,g,d,t,os⟩:=s
 exact make_core (makes_of X hm) (looks_findIn X hi) (fun self=>bind_fn X self hf) (.inl rfl) h
theorem AC1 {R:Result→Shared→Prop}(X:K.In s.heap)(hm:makesIn K C=true)(hi:findIn K (.ref C) "__init__"=some (some (.builtin "object.__init__")))(hb:∀ self,Looks (model prog w) s.heap (bindSpecial (.builtin "object.__init__") self) (.builtin "object.__init__",[self]))(h:codeAny (model prog w) (A.under (.builtin "type.__call__" ⟨[.ref C],[]⟩)) (.call (.builtin "object.__init__") ⟨[.ref (s.heap.objs.size+1)],[]⟩) (InitBack (s.heap.objs.size+1) R)
   { s with heap:=(s.heap.push emptyDict).push (instObj C s.heap.objs.size) }) :
  codeAny (model prog w) A (.call (.ref C) ⟨[],[]⟩) R s:=by
 obtain ⟨hh,g,d,t,os⟩:=s
 exact make_core (makes_of X hm) (looks_findIn X hi) hb (.inr ⟨rfl,rfl⟩) h
end
def mF (f:Str)(v:V):List (Str × V)→List (Str × V)
 | []=>[(f,v)]
 | (g,x)::r=>if g=f then (g,v)::r else (g,x)::mF f v r
theorem qC (f g:Str)(v:V):∀ fs:List (Str × V),(mF f v fs).lookup g=if g=f then some v else fs.lookup g
 | []=>by
  show List.lookup g [(f,v)]=_
  by_cases h:g=f
  ·have hb:(g == f)=true:=beq_iff_eq.mpr h
   simp only [List.lookup,hb,if_pos h]
  ·have hb:(g == f)=false:=beq_eq_false_iff_ne.mpr h
   simp only [List.lookup,hb,if_neg h]
 | (k,x)::r=>by
  have ih:=qC f g v r
  rw [show mF f v ((k,x)::r)=(if k=f then (k,v)::r else (k,x)::mF f v r) from rfl]
  by_cases hk:k=f
  ·rw [if_pos hk]
   by_cases h:g=k
   ·have hb:(g == k)=true:=beq_iff_eq.mpr h
    simp only [List.lookup,hb,if_pos (h.trans hk)]
   ·have hb:(g == k)=false:=beq_eq_false_iff_ne.mpr h
    simp only [List.lookup,hb,if_neg (fun e:g=f=>h (e.trans hk.symm))]
  ·rw [if_neg hk]
   by_cases h:g=k
   ·have hb:(g == k)=true:=beq_iff_eq.mpr h
    simp only [List.lookup,hb,if_neg (fun e:g=f=>hk (h.symm.trans e))]
   ·have hb:(g == k)=false:=beq_eq_false_iff_ne.mpr h
    simp only [List.lookup,hb]
    exact ih
theorem qD (f:Str)(v:V):∀ fs:List (Str × V),f∈(mF f v fs).map (·.1)∧∀ g,g∈fs.map (·.1)→g∈(mF f v fs).map (·.1)
 | []=>⟨by simp [mF],fun g h=>by simp at h⟩
 | (k,x)::r=>by
  obtain ⟨i1,i2⟩:=qD f v r
  rw [show mF f v ((k,x)::r)=(if k=f then (k,v)::r else (k,x)::mF f v r) from rfl]
  by_cases hk:k=f
  ·rw [if_pos hk]
   subst hk
   exact ⟨by simp,fun g h=>by simpa using h⟩
  ·rw [if_neg hk]
   refine ⟨?_,fun g h=>?_⟩
   ·rw [List.map_cons]
    exact List.mem_cons_of_mem _ i1
   ·rw [List.map_cons] at h ⊢
    rcases List.mem_cons.mp h with e | e
    ·exact List.mem_cons.mpr (.inl e)
    ·exact List.mem_cons_of_mem _ (i2 g e)
theorem qE (f:Str)(v:V):∀ fs:List (Str × V),(mF f v fs).length≤fs.length+1
 | []=>by simp [mF]
 | (k,x)::r=>by
  have ih:=qE f v r
  rw [show mF f v ((k,x)::r)=(if k=f then (k,v)::r else (k,x)::mF f v r) from rfl]
  by_cases hk:k=f
  ·rw [if_pos hk,List.length_cons,List.length_cons]; omega
  ·rw [if_neg hk,List.length_cons,List.length_cons]; omega
theorem RelO.some_of {v:V}{o:Option Value}(r:RelO (some v) o):∃ u,o=some u∧RelV v u:=by
 cases o with
 | none=>exact (show False from r).elim
 | some u=>exact ⟨u,rfl,r⟩
theorem RelO.none_of {o:Option Value}(r:RelO none o):o=none:=by
 cases o with
 | none=>rfl
 | some u=>exact (show False from r).elim
theorem qF {v:V}{u:Value}(r:RelV v u):handedIn u=true:=by
 cases v with
 | non=>cases (show u=Value.none from r); rfl
 | bl b=>cases (show u=Value.bool b from r); rfl
 | int i=>obtain ⟨t,e⟩:=(show ∃ t,u=Value.int i t from r); cases e; rfl
 | str x=>obtain ⟨t,e⟩:=(show ∃ t,u=Value.str x t from r); cases e; rfl
 | byt b=>obtain ⟨t,e⟩:=(show ∃ t,u=Value.bytes b t from r); cases e; rfl
 | flt b=>obtain ⟨t,e⟩:=(show ∃ t,u=Value.float b t from r); cases e; rfl
 | ref a=>cases (show u=Value.ref a from r); rfl
 | ty n=>cases (show u=Value.type n from r); rfl
section
variable {P:Program}{w:World}{H H':Hp}{h h':Heap}{a C dx:Addr}{fs fs':List (Str × V)}
theorem nY (hok:HOk P w H h)(e:H a=some (.ins C dx fs)):∃ mA,ObjM h a dx C mA∧(∀ f,RelO (fs.lookup f) (mA f))∧PySem.Within mA (fs.map (·.1))∧fs.length≤1000∧H dx=some (.own a):=by
 obtain ⟨d,z,ne,ob,mA,n,r,q⟩:=(show ObjOk P w H h a (.ins C dx fs) from hok a _ e)
 exact ⟨mA,⟨ob,n,ne⟩,r,q,z,d⟩
end
structure Cls (K:Frag) (C:Addr):Prop where
 pg:plainGet K C Str.empty=true
 hd:hasDictIn K C=true
 po:plainOver K C=true
 sa:findIn K (.ref C) "__setattr__"=some (some (.builtin "object.__setattr__"))
theorem Cls.get {K:Frag}{C:Addr}(c:Cls K C)(f:Str):plainGet K C f=true:=c.pg
def NoAttr (K:Frag)(C:Addr)(f:Str):Prop:=findIn K (.ref C) f=some none
theorem NoAttr.taker {K:Frag}{C:Addr}{f:Str}(n:NoAttr K C f):takerIn K C f=some none:=by
 unfold takerIn
 rw [show findIn K (.ref C) f=some none from n]
 rfl
structure Con (K:Frag) (C:Addr) (f:Str) (v:V) (u:Value):Prop where
 at_:findIn K (.ref C) f=some (some u)
 rel:RelV v u
 get:specialIn K u "__get__"=some none
 cp:copiedNames.contains f=false
structure Meth (K:Frag) (C:Addr) (m:Str) (f:Addr):Prop where
 at_:findIn K (.ref C) m=some (some (.ref f))
 fn:isFn K (.ref f)=true
 kp:keepIn K (.ref f)=true
section
variable {X:Cx}{pins:List (Addr × Obj)}{σ:St}{H:Hp}{s:Shared}{a C dx:Addr}{fs:List (Str × V)}{f:Str}{v:V}{A:Around}{E:Value→Shared→Prop}
theorem sF {b:Bool}{Q:Value→Shared→Prop}(I:Inv X pins σ H s)(e:H a=some (.ins C dx fs))(c:Cls X.K C)(n:NoAttr X.K C f)(l:fs.lookup f=some v)(h:∀ u s',Inv X pins σ H s'→RelV v u→Q u s'):wpAny (model X.prog X.w) A (getAttr (.ref a) f b) Q E s:=by
 obtain ⟨mA,O,r,_,_,_⟩:=nY I.hok e
 obtain ⟨u,hu,ru⟩:=RelO.some_of (v:=v) (o:=mA f) (by rw [← l]; exact r f)
 exact AC0 I.kIn O (c.get f) c.hd n hu (qF ru) (h u _ (I.tok _) ru)
theorem nZ {m:Str}{g:Addr}{pl:Sem Bool}{Q:Value × List Value→Shared→Prop}(I:Inv X pins σ H s)(e:H a=some (.ins C dx fs))(c:Cls X.K C)(k:Meth X.K C m g)(l:fs.lookup m=none)(h:Q (.ref g,[.ref a]) s):wpAny (model X.prog X.w) A (getMethod (.ref a) m pl) Q E s:=by
 obtain ⟨mA,O,r,_,_,_⟩:=nY I.hok e
 have hn:mA m=none:=RelO.none_of (by rw [← l]; exact r m)
 exact AM4 I.kIn O (c.get m) k.at_ k.fn hn h
theorem oA {y:V}{u:Value}{Q:Unit→Shared→Prop}(I:Inv X pins σ H s)(e:H a=some (.ins C dx fs))(c:Cls X.K C)(n:NoAttr X.K C f)(hl:fs.length < 1000)(ry:RelV y u)(h:∀ s',Inv X pins σ (upd H a (.ins C dx (mF f y fs))) s'→Q () s'):wpAny (model X.prog X.w) A (setAttr (.ref a) f u) Q E s:=by
 obtain ⟨mA,O,r,wi,_,ho⟩:=nY I.hok e
 have hz:(fs.map (·.1)).length≤sizeLine:=by rw [List.length_map,sizeLine_eq]; omega
 refine AT1 I.kIn O c.sa c.po n.taker c.hd wi hz fun h' O' sb=>h _ ?_
 have hd:∃ o,h'.get? dx=some o:=let ⟨o,_,_,e',_⟩:=O'.ns; ⟨o,e'⟩
 refine I.write (x:=a) (e:=dx) (by rw [e]; exact True.intro) (.inr ho) (fun b q hb z=>(sb.2 b hb).trans z) hd ?_
 refine ⟨by rw [aI O.ne]; exact ho,?_,O.ne,O'.obj,_,O'.ns,fun g=>?_,fun g hg=>?_⟩
 ·have:=qE f y fs; omega
 ·show RelO ((mF f y fs).lookup g) (if g=f then some u else mA g)
  rw [qC]
  by_cases q:g=f
  ·rw [if_pos q,if_pos q]; exact ry
  ·rw [if_neg q,if_neg q]; exact r g
 ·by_cases q:g=f
  ·rw [q]; exact (qD f y fs).1
  ·refine (qD f y fs).2 g (wi g fun z=>hg ?_)
   show (if g=f then some u else mA g)=none
   rw [if_neg q]; exact z
theorem Inv.made (I:Inv X pins σ H s):Inv X pins σ (upd (upd H s.heap.objs.size (.own (s.heap.objs.size+1))) (s.heap.objs.size+1) (.ins C s.heap.objs.size []))
  { s with heap:=(s.heap.push emptyDict).push (instObj C s.heap.objs.size) }:=by
 have e1:(s.heap.push emptyDict).get? s.heap.objs.size=some emptyDict:=Heap.get?_push_size s.heap rfl
 have e2:((s.heap.push emptyDict).push (instObj C s.heap.objs.size)).get? (s.heap.objs.size+1)=some (instObj C s.heap.objs.size):=by
  have:=Heap.get?_push_size (s.heap.push emptyDict) (o:=instObj C s.heap.objs.size) rfl
  rwa [Heap.size_push] at this
 have e3:(s.heap.push emptyDict).Ns s.heap.objs.size (fun _=>none):=⟨emptyDict,#[],_,e1,rfl,(fun e he=>absurd he (by simp)),fun _=>rfl⟩
 have I1:=I.laid (a:=s.heap.objs.size) (o:=.own (s.heap.objs.size+1)) (h':=s.heap.push emptyDict) (t':=s.toks) (fun b u q=>Heap.get?_push_of_some _ q) (Nat.le_refl _) ⟨_,e1⟩
 refine I1.laid (a:=s.heap.objs.size+1) (o:=.ins C s.heap.objs.size []) (t':=s.toks) (fun b u q=>Heap.get?_push_of_some _ q) (Nat.le_of_eq (Heap.size_push _ _)) ?_
 have ne:s.heap.objs.size≠s.heap.objs.size+1:=Nat.ne_of_lt (Nat.lt_succ_self _)
 refine ⟨by rw [aI ne,aC],Nat.zero_le _,ne,e2,fun _=>none,(Heap.Ns1.of_empty e3).at fun o q=>Heap.get?_push_of_some _ q,fun _=>True.intro,fun y hy=>absurd rfl hy⟩
theorem AC2 {prog:Program}{w:World}{env:Env}{e:Expr}{f:Str}{pos:Pos}{s:Shared}{Q:Value→Shared→Prop}(hb:attributeBase e f env (eval e env)=eval e env)(h:wpAny (model prog w) A (eval e env) (fun o s₁=>wpAny (model prog w) A (getAttr o f true) Q E s₁) E s):wpAny (model prog w) A (eval (.Attribute e f pos) env) Q E s :=
 Attribute_any_ h (by rw [arm_eval_Attribute,hb])
end
def BL1 (K:Frag)(ta:TE)(f:Str):TE:=fun σ H Q=>ta σ H fun x H1=>∃ a C dx fs v,x=.ref a∧H1 a=some (.ins C dx fs)∧Cls K C∧NoAttr K C f∧fs.lookup f=some v∧Q v H1
def BL2 (K:Frag)(ta tv:TE)(f:Str):TS:=fun D σ H=>tv σ H fun y H1=>ta σ H1 fun x H2=>∃ a C dx fs,x=.ref a∧H2 a=some (.ins C dx fs)∧Cls K C∧NoAttr K C f∧fs.length < 1000 ∧
 D.nx σ (upd H2 a (.ins C dx (mF f y fs)))
def BE9 (X:Cx)(op:Operator)(rd:V→V→Hp→VK→Prop):Prop :=
 ∀ (pins:List (Addr × Obj)) (s:Shared) (σ:St) (H:Hp) (x y:V) (u v:Value) (Q:VK),Inv X pins σ H s→RelV x u→RelV y v→rd x y H Q→wpAny (model X.prog X.w) X.A (inplaceOp op u v) (EP X pins σ Q) X.xe s
def sZ (K:Frag)(ta tv:TE)(rd:V→V→Hp→VK→Prop)(f:Str):TS:=fun D σ H=>ta σ H fun x H1=>∃ a C dx fs v,x=.ref a∧H1 a=some (.ins C dx fs)∧Cls K C∧NoAttr K C f∧fs.lookup f=some v ∧
 tv σ H1 fun y H2=>rd v y H2 fun z H3=>∃ dx' fs',H3 a=some (.ins C dx' fs')∧fs'.length < 1000∧D.nx σ (upd H3 a (.ins C dx' (mF f z fs')))
section
variable {X:Cx}{o e value:Expr}{f:Str}{pos pos' tpos:Pos}{ta tv:TE}
theorem iR (he:PE X e ta)(hb:attributeBase e f X.env (eval e X.env)=eval e X.env):PE X (.Attribute e f pos) (BL1 X.K ta f):=by
 intro pins s σ H Q I h
 refine AC2 hb (thn (he pins s σ H _ I h) fun u s1 ⟨x,H1,I1,rx,a,C,dx,fs,v,ex,ea,c,n,l,q⟩=>?_)
 subst ex
 obtain rfl:u=Value.ref a:=rx
 exact sF I1 ea c n l fun u' s2 I2 ru=>⟨v,H1,I2,ru,q⟩
theorem jQ (ha:PE X o ta)(hv:PE X value tv)(hs:swapsWith value (some (.Attribute o f pos')) pos.line X.env=pure false):PS X (.Assign [.Attribute o f pos'] value pos) (BL2 X.K ta tv f):=by
 intro pins s σ H D I h
 refine plainObj_wpAny_Assign_Attribute (thn (hv pins s σ H _ I h) fun u s1 ⟨y,H1,I1,ry,q⟩=>thn (ha pins s1 σ H1 _ I1 q) fun ov s2 ⟨x,H2,I2,rx,a,C,dx,fs,ex,ea,c,n,l,q2⟩=>?_) hs
 subst ex
 obtain rfl:ov=Value.ref a:=rx
 exact oA I2 ea c n l ry fun s3 I3=>⟨σ,_,I3,q2⟩
theorem qG {op:Operator}{rd:V→V→Hp→VK→Prop}(ha:PE X o ta)(hv:PE X value tv)(hop:BE9 X op rd):PS X (.AugAssign (.Attribute o f tpos) op value pos) (sZ X.K ta tv rd f):=by
 intro pins s σ H D I h
 refine wpAny_AugAssign_AttributeAny (thn (ha pins s σ H _ I h) fun ov s1 ⟨x,H1,I1,rx,a,C,dx,fs,v,ex,ea,c,n,l,q⟩=>?_)
 subst ex
 obtain rfl:ov=Value.ref a:=rx
 refine sF I1 ea c n l fun u s2 I2 ru=>thn (hv pins s2 σ H1 _ I2 q) fun w3 s3 ⟨y,H2,I3,ry,q3⟩=>thn (hop pins s3 σ H2 v y u w3 _ I3 ru ry q3) fun w4 s4 ⟨z,H3,I4,rz,dx',fs',ea',l',q4⟩=>?_
 exact oA I4 ea' c n l' rz fun s5 I5=>⟨σ,_,I5,q4⟩
def BL3:V→V→Hp→VK→Prop:=fun x y H Q=>∃ i j,x=.int i∧y=.int j∧Q (.int (i+j)) H
theorem yF:BE9 X .Add BL3:=by
 rintro pins s σ H x y u v Q I rx ry ⟨i,j,rfl,rfl,q⟩
 obtain ⟨t,rfl⟩:=(show ∃ t,u=Value.int i t from rx)
 obtain ⟨t',rfl⟩:=(show ∃ t',v=Value.int j t' from ry)
 exact PyProof.Rows.iadd_int ⟨.int (i+j),H,I.tok _,⟨_,rfl⟩,q⟩
end
section
variable {X:Cx}{pins:List (Addr × Obj)}{σ:St}{H:Hp}{s:Shared}{A:Around}{E:Value→Shared→Prop}{Q:Value→Shared→Prop}{c:Value}{b:Bool}
inductive TyOf (K:Frag) (H:Hp):V→Value→Prop where
 | non:TyOf K H .non (.type "NoneType")
 | bl (x:Bool):TyOf K H (.bl x) (.type "bool")
 | int (i:Int):TyOf K H (.int i) (.type "int")
 | str (x:Str):TyOf K H (.str x) (.type "str")
 | flt (x:UInt64):TyOf K H (.flt x) (.type "float")
 | lst {a:Addr}{xs:List V}(e:H a=some (.lst xs)):TyOf K H (.ref a) (.type "list")
 | frz {a:Addr}{o:Obj}{xs:List V}(e:H a=some (.frz o (.lst xs))):TyOf K H (.ref a) (.type "list")
 | tup {a:Addr}{xs:List V}(e:H a=some (.tup xs)):TyOf K H (.ref a) (.type "tuple")
 | dK {a:Addr}{kvs:List (Key × V)}(e:H a=some (.dK kvs)):TyOf K H (.ref a) (.type "dict")
 | dT {a:Addr}{kvs:List (List Key × V)}(e:H a=some (.dT kvs)):TyOf K H (.ref a) (.type "dict")
 | ins {a C dx:Addr}{fs:List (Str × V)}(e:H a=some (.ins C dx fs)) (cl:Cls K C) (ha:findIn K (.ref C) "__class__"=some (some (.builtin "object.__class__")))
   (hn:specialIn K (.builtin "object.__class__") "__get__"=some (some (.builtin "getset_descriptor.__get__"))) (htk:takesIn K (.builtin "object.__class__")=some true)
   (hm:mroIn K C (.type "object")=some true):TyOf K H (.ref a) (.ref C)
theorem qH {x:V}{u t:Value}(I:Inv X pins σ H s)(rx:RelV x u)(ty:TyOf X.K H x t)(e:kitOne X.K t c=some b)(h:∀ tk,Q (.bool b) { s with toks:=tk }) :
  wpAny (model X.prog X.w) A (call (.builtin "isinstance") [u,c]) Q E s:=by
 cases ty with
 | non=>cases (show u=Value.none from rx); exact kia_one kitx_none I.kIn True.intro e (fun z=>nomatch z) h
 | bl y=>cases (show u=Value.bool y from rx); exact kia_one kitx_bool I.kIn True.intro e (fun z=>nomatch z) h
 | int i=>obtain ⟨t,q⟩:=(show ∃ t,u=Value.int i t from rx); cases q; exact kia_one kitx_int I.kIn True.intro e (fun z=>nomatch z) h
 | str y=>obtain ⟨t,q⟩:=(show ∃ t,u=Value.str y t from rx); cases q; exact kia_one kitx_str I.kIn True.intro e (fun z=>nomatch z) h
 | flt y=>obtain ⟨t,q⟩:=(show ∃ t,u=Value.float y t from rx); cases q; exact kia_one kitx_float I.kIn True.intro e (fun z=>nomatch z) h
 | @lst a xs ea =>
  cases (show u=Value.ref a from rx)
  obtain ⟨_,_,n,_,h1⟩:=(show ObjOk X.prog X.w H s.heap a (.lst xs) from I.hok a _ ea)
  exact kia_one kitx_list I.kIn ⟨_,h1,rfl⟩ e (fun z=>nomatch z) h
 | @frz a ob xs ea =>
  cases (show u=Value.ref a from rx)
  obtain ⟨_,_,_,n,_,h1⟩:=(show ObjOk X.prog X.w H s.heap a (.frz ob (.lst xs)) from I.hok a _ ea)
  exact kia_one kitx_list I.kIn ⟨_,h1,rfl⟩ e (fun z=>nomatch z) h
 | @tup a xs ea =>
  cases (show u=Value.ref a from rx)
  obtain ⟨_,_,_,p⟩:=(show ObjOk X.prog X.w H s.heap a (.tup xs) from I.hok a _ ea)
  obtain ⟨o,h1,h2,_⟩:=p
  exact kia_one kitx_tuple I.kIn ⟨o,h1,h2⟩ e (fun z=>nomatch z) h
 | @dK a kvs ea =>
  cases (show u=Value.ref a from rx)
  obtain ⟨_,_,vs,_,p⟩:=(show ObjOk X.prog X.w H s.heap a (.dK kvs) from I.hok a _ ea)
  obtain ⟨o,es,ep,h1,h2,_⟩:=p
  exact kia_one kitx_dict I.kIn ⟨o,h1,h2.1⟩ e (fun z=>nomatch z) h
 | @dT a kvs ea =>
  cases (show u=Value.ref a from rx)
  obtain ⟨_,_,xs,_,o,es,ep,h1,h2,_⟩:=(show ObjOk X.prog X.w H s.heap a (.dT kvs) from I.hok a _ ea)
  exact kia_one kitx_dict I.kIn ⟨o,h1,h2.1⟩ e (fun z=>nomatch z) h
 | @ins a C dx fs ea cl ha hn htk hm =>
  cases (show u=Value.ref a from rx)
  obtain ⟨mA,O,_⟩:=nY I.hok ea
  obtain ⟨od,J,_⟩:=O.look
  exact kia_one (kitx_own (cl.get _) cl.hd ha hn htk hm) I.kIn J e (fun z=>nomatch z) h
end
structure Room (k:Nat) (A:Around):Prop where
 hd:A.handled=none
 dp:A.depth+3 * k+5 < recursionLimit
 un:A.units+16 * k+200 < cLine
theorem Room.mono {j k:Nat}{A:Around}(r:Room k A)(h:j≤k):Room j A:=⟨r.hd,by have:=r.dp; omega,by have:=r.un; omega⟩
theorem Room.deeper {k:Nat}{A:Around}(r:Room (k+1) A)(env:Env):Room k (A.deeper env) :=
 ⟨r.hd,by have:=r.dp; show A.depth+1+3 * k+5 < _; omega,by have:=r.un; show A.units+3+16 * k+200 < _; omega⟩
theorem sG {A:Around}{C:Addr}{us:List Value}{kw:List (Str × Value)}:(A.under (.builtin "type.__call__" ⟨.ref C::us,kw⟩)).depth=A.depth+1:=by
 first | rfl | simp [Around.under,Code.weight,Code.isCreation,Code.isGuard,Code.isCaller,Code.frames,Code.isFrame,guardIds]
theorem sH {A:Around}{C:Addr}{us:List Value}{kw:List (Str × Value)}:(A.under (.builtin "type.__call__" ⟨.ref C::us,kw⟩)).units=A.units+1:=by
 first | rfl | simp [Around.under,Code.cUnits,Code.frames,Code.isFrame]
theorem Room.make {k:Nat}{A:Around}(r:Room (k+1) A)(C:Addr)(us:List Value)(kw:List (Str × Value)):Room k (A.under (.builtin "type.__call__" ⟨.ref C::us,kw⟩)) :=
 ⟨r.hd,by have:=r.dp; rw [sG]; omega,by have:=r.un; rw [sH]; omega⟩
theorem Room.depth {k:Nat}{A:Around}(r:Room k A):A.depth < recursionLimit:=by have:=r.dp; omega
def BB2:TA:=fun _ H Q=>Q [] H
def AC3 (ta:TE)(tr:TA):TA:=fun σ H Q=>ta σ H fun x H1=>tr σ H1 fun xs H2=>Q (x::xs) H2
section
variable {X:Cx}{e:Expr}{es:List Expr}{te:TE}{t:TA}{pos:Pos}
theorem BB3:PA X [] BB2:=fun _ _ _ _ H Q I h=>Calls.spliced_nil ⟨[],H,I,.nil,h⟩
theorem AC4 (ha:PE X e te)(hr:PA X es t)(hs:starEach (e::es) X.env=(false,eval e X.env)::starEach es X.env:=by rfl):PA X (e::es) (AC3 te t):=by
 intro pos pins s σ H Q I h
 rw [hs]
 show wpAny _ _ (spliced ((false,eval e X.env)::backTo pos (starEach es X.env))) _ _ s
 refine Calls.spliced_cons (thn (ha pins s σ H _ I h) fun u s1 ⟨x,H1,I1,r1,q1⟩=>?_)
 exact thn (hr pos pins s1 σ H1 _ I1 q1) fun us s2 ⟨xs,H2,I2,r2,q2⟩=>⟨x::xs,H2,I2,.cons r1 r2,q2⟩
def BL4 (t:TA):TE:=fun σ H Q=>t σ H fun xs H1=>xs.length≤sizeLine∧∀ p,H1 p=none→Q (.ref p) (upd H1 p (.tup xs))
def BB4 (t:TA):TE:=fun σ H Q=>t σ H fun xs H1=>xs.length≤sizeLine∧∀ p,H1 p=none→Q (.ref p) (upd H1 p (.lst xs))
theorem hG {x1}(h:PA X es t):PE X (.Tuple es x1 pos) (BL4 t):=by
 intro pins s σ H Q I hq
 refine wpAny_Tuple_spliced (thn (h pos pins s σ H _ I hq) fun us s1 ⟨xs,H1,I1,r,z,q⟩=>⟨by rw [← r.length]; exact z,?_⟩)
 have hf:H1 s1.heap.objs.size=none:=I1.hok.fresh (Nat.le_refl _)
 refine ⟨.ref s1.heap.objs.size,upd H1 s1.heap.objs.size (.tup xs),I1.laid (t':=s1.toks) (fun b u e=>Heap.get?_push_of_some _ e) (Nat.le_refl _) ?_,rfl,q _ hf⟩
 exact ⟨z,us,r,⟨_,Heap.get?_push_size _ rfl,rfl,_,rfl⟩⟩
theorem pA (h:PA X es t):PE X (.List es pos) (BB4 t):=by
 intro pins s σ H Q I hq
 refine wpAny_List_spliced (thn (h pos pins s σ H _ I hq) fun us s1 ⟨xs,H1,I1,r,z,q⟩=>⟨by rw [← r.length]; exact z,?_⟩)
 have hf:H1 s1.heap.objs.size=none:=I1.hok.fresh (Nat.le_refl _)
 refine ⟨.ref s1.heap.objs.size,upd H1 s1.heap.objs.size (.lst xs),I1.laid (t':=s1.toks) (fun b u e=>Heap.get?_push_of_some _ e) (Nat.le_refl _) ?_,rfl,q _ hf⟩
 exact ⟨z,us,0,r,Heap.get?_push_size _ rfl⟩
end
abbrev Sp:=List V→Hp→VK→XK→Prop
abbrev CXT:=List Env→Hp→Shared→XK→Value→Shared→Prop
structure Env0 (P:Program) (w:World) (K:Frag) (mg:Str→Option Value) (base:Heap) (A:Around) (outer:List Env) (s:Shared) (H:Hp):Prop where
 frames:A.frames=some outer
 mod:Mod K mg base
 bs:∀ b o,base.get? b=some o→s.heap.get? b=some o∧H b=none
 bsz:base.objs.size≤s.heap.objs.size
 funs:s.heap.FunFrames base outer
 frf:∀ b∈frs outer,H b=none
 hok:HOk P w H s.heap
 bare:AllBare s.gens
def CE (outer:List Env)(P:Program)(w:World)(H:Hp)(s:Shared)(Q:VK)(u:Value)(s':Shared):Prop :=
 ∃ v H',s'.os=s.os∧AllBare s'.gens∧Un (frs outer) [] H H' s.heap s'.heap∧HOk P w H' s'.heap∧RelV v u∧Q v H'
def CR (CX:CXT)(outer:List Env)(P:Program)(w:World)(H:Hp)(s:Shared)(Q:VK)(E:XK)(r:Result)(s':Shared):Prop :=
 match r with
 | .ok (.ret u)=>CE outer P w H s Q u s'
 | .ok _=>False
 | .error e=>CX outer H s E e s'
structure FnOk (P:Program) (w:World) (K:Frag) (mg:Str→Option Value) (base:Heap) (CX:CXT) (k:Nat) (f:Addr) (fd:FuncData) (ps:List Str) (sp:Sp):Prop where
 len:∀ vs H Q E,sp vs H Q E→vs.length=ps.length
 run:∀ (A:Around) (outer:List Env) (s:Shared) (H:Hp) (args:Args) (us:List Value) (vs:List V) (Q:VK) (E:XK),Room k A→Env0 P w K mg base A outer s H→BindsTo s fd args (ps.zip us)→Vals vs us→sp vs H Q E →
  codeAny (model P w) A (.call (.ref f) args) (CR CX outer P w H s Q E) s
theorem Env0.make {P:Program}{w:World}{K:Frag}{mg:Str→Option Value}{base:Heap}{A:Around}{outer:List Env}{s:Shared}{H:Hp}(e:Env0 P w K mg base A outer s H)(C:Addr)(us:List Value)(kw:List (Str × Value)) :
  Env0 P w K mg base (A.under (.builtin "type.__call__" ⟨.ref C::us,kw⟩)) outer s H:=⟨by first | exact e.frames | (simpa [Around.under,Code.envs,Code.isFrame,pushEnvs] using e.frames),e.mod,e.bs,e.bsz,e.funs,e.frf,e.hok,e.bare⟩
section
variable {X:Cx}{pins:List (Addr × Obj)}{σ:St}{H:Hp}{s s':Shared}
theorem Inv.env0 (I:Inv X pins σ H s):Env0 X.prog X.w X.K X.mg X.base X.A X.stack s H :=
 ⟨I.ok.frames,I.ok.mod,I.bs,Nat.le_trans I.ok.bsz I.sz,I.stack,I.stkFree,I.hok,I.bare⟩
theorem Inv.after {Q:VK}{u:Value}(I:Inv X pins σ H s)(h:CE X.stack X.prog X.w H s Q u s'):EP X pins σ Q u s':=by
 obtain ⟨v,H',os,bare,un,hok,r,q⟩:=h
 obtain ⟨hh,g,d,t,os'⟩:=s'
 obtain rfl:os'=s.os:=os
 exact ⟨v,H',I.call (h':=hh) (g':=g) (d':=d) (t':=t) (ch:=[]) un hok bare (fun b z=>absurd z (by simp)),r,q⟩
end
def zJ (sp:Sp)(dvs:List V)(E:XK)(t:TA):TE:=fun σ H Q=>t σ H fun vs H1=>sp (vs++dvs) H1 Q E
def AM6 (C:Addr)(sp:Sp)(dvs:List V)(E:XK)(t:TA):TE:=fun σ H Q=>t σ H fun vs H1=>∀ x dx,H1 x=none→H1 dx=none→dx≠x →
 sp (.ref x::(vs++dvs)) (upd (upd H1 dx (.own x)) x (.ins C dx [])) (fun v H2=>v=.non∧Q (.ref x) H2) E
def Binds (K:Frag)(fd:FuncData)(ps:List Str)(ds:List Value):Prop :=
 ∀ (s:Shared) (us:List Value),K.In s.heap→(us++ds).length=ps.length→BindsTo s fd ⟨us,[]⟩ (ps.zip (us++ds))
theorem Binds.all {K:Frag}{fd:FuncData}{ps:List Str}(h:∀ us:List Value,us.length=ps.length→bindArgs fd ⟨us,[]⟩=pure (ps.zip us)):Binds K fd ps []:=fun s us _ hl=>by
 rw [List.append_nil] at hl ⊢
 exact .of_eq (h us hl)
def hJ (CX:CXT)(X:Cx)(E:XK):Prop:=∀ (pins:List (Addr × Obj)) (σ:St) (H:Hp) (s:Shared) (e:Value) (s':Shared),Inv X pins σ H s→CX X.stack H s E e s'→X.xe e s'
section
variable {X:Cx}{CX:CXT}{k:Nat}{f C:Addr}{fd:FuncData}{ps:List Str}{sp:Sp}{dvs:List V}{ds:List Value}{E:XK}{x m:Str}{p pos apos:Pos}{e o:Expr}{es:List Expr}{ta:TE}{t:TA}
theorem yG {pins:List (Addr × Obj)}{σ:St}{H:Hp}{s:Shared}{Q:VK}{us:List Value}{vs:List V}(F:FnOk X.prog X.w X.K X.mg X.base CX k f fd ps sp)(hr:Room k X.A)(hb:Binds X.K fd ps ds)(hd:Vals dvs ds)(hx:hJ CX X E)(I:Inv X pins σ H s)(r:Vals vs us)(h:sp (vs++dvs) H Q E):wpAny (model X.prog X.w) X.A (call (.ref f) us) (EP X pins σ Q) X.xe s:=by
 have r2:Vals (vs++dvs) (us++ds):=r.append hd
 have hl:(us++ds).length=ps.length:=by rw [← r2.length]; exact F.len _ _ _ _ h
 refine wpAny_call (codeAny_mono (F.run X.A X.stack s H ⟨us,[]⟩ (us++ds) (vs++dvs) Q E hr I.env0 (hb s us I.kIn hl) r2 h) fun r s' hq=>?_)
 cases r with
 | error e=>exact hx pins σ H s e s' I hq
 | ok fl =>
  cases fl with
  | ret u=>exact I.after hq
  | next=>exact False.elim hq
  | brk=>exact False.elim hq
  | cont=>exact False.elim hq
theorem wF (F:FnOk X.prog X.w X.K X.mg X.base CX k f fd ps sp)(hr:Room k X.A)(hg:Gl X x)(hm:X.mg x=some (.ref f))(hk:keepIn X.K (.ref f)=true)(hb:Binds X.K fd ps ds)(hd:Vals dvs ds)(hx:hJ CX X E)(ha:PA X (e::es) t)(hdb:(x == ("__debug__":Str))=false:=by decide)(he:starEach (e::es) X.env=(false,eval e X.env)::starEach es X.env:=by rfl)(hpl:(backTo pos (starEach es X.env)).any (·.1)=false:=by rfl) :
  PE X (.Call (.Name x p) (e::es) [] pos) (zJ sp dvs E t):=by
 intro pins s σ H Q I h
 refine wpAny_Call_Name_kw (fA I hg hm ?_ hdb)
 refine callWith_K (h₀:=X.base) I.ok.mod.kin hk (thn (ha pos pins s σ H _ I h) fun us s1 ⟨vs,H1,I1,r,q⟩=>⟨I1.kIn,?_⟩) he hpl
 exact yG F hr hb hd hx I1 r q
structure Mk (K:Frag) (C f:Addr):Prop where
 makes:makesIn K C=true
 init:findIn K (.ref C) "__init__"=some (some (.ref f))
 fn:isFn K (.ref f)=true
 kp:keepIn K (.ref C)=true
theorem AM7 {pins:List (Addr × Obj)}{σ:St}{H:Hp}{s:Shared}{Q:VK}{us:List Value}{vs:List V}(M:Mk X.K C f)(F:FnOk X.prog X.w X.K X.mg X.base CX k f fd ps sp)(hr:Room (k+1) X.A)(hb:Binds X.K fd ps ds)(hd:Vals dvs ds)(hx:hJ CX X E)(I:Inv X pins σ H s)(r:Vals vs us)(h:∀ x dx,H x=none→H dx=none→dx≠x→sp (.ref x::(vs++dvs)) (upd (upd H dx (.own x)) x (.ins C dx [])) (fun v H2=>v=.non∧Q (.ref x) H2) E) :
  wpAny (model X.prog X.w) X.A (call (.ref C) us) (EP X pins σ Q) X.xe s:=by
 have hq:=h (s.heap.objs.size+1) s.heap.objs.size (I.hok.fresh (Nat.le_succ _)) (I.hok.fresh (Nat.le_refl _)) (Nat.ne_of_lt (Nat.lt_succ_self _))
 have I2:=Inv.made (C:=C) I
 have r2:Vals (V.ref (s.heap.objs.size+1)::(vs++dvs)) (Value.ref (s.heap.objs.size+1)::(us++ds)):=.cons rfl (r.append hd)
 have hl:(Value.ref (s.heap.objs.size+1)::us++ds).length=ps.length:=by
  have e:=r2.length
  rw [F.len _ _ _ _ hq] at e
  exact e.symm
 refine wpAny_call (AM5 (f:=f) I.kIn M.makes M.init (beq_iff_eq.mp M.fn) (codeAny_mono (F.run _ X.stack _ _ ⟨Value.ref (s.heap.objs.size+1)::us,[]⟩ (Value.ref (s.heap.objs.size+1)::(us++ds)) _ _ E (hr.make C us [])
  (I2.env0.make C us []) (hb _ (Value.ref (s.heap.objs.size+1)::us) I2.kIn hl) r2 hq) fun r s' hq'=>?_))
 cases r with
 | error e=>exact hx pins σ _ _ e s' I2 hq'
 | ok fl =>
  cases fl with
  | ret u =>
   obtain ⟨v,H',I3,rv,ev,q3⟩:=I2.after hq'
   subst ev
   exact ⟨rv,⟨V.ref (s.heap.objs.size+1),H',I3,rfl,q3⟩⟩
  | next=>exact False.elim hq'
  | brk=>exact False.elim hq'
  | cont=>exact False.elim hq'
theorem AC5 (M:Mk X.K C f)(F:FnOk X.prog X.w X.K X.mg X.base CX k f fd ps sp)(hr:Room (k+1) X.A)(hg:Gl X x)(hm:X.mg x=some (.ref C))(hb:Binds X.K fd ps ds)(hd:Vals dvs ds)(hx:hJ CX X E)(ha:PA X (e::es) t)(hdb:(x == ("__debug__":Str))=false:=by decide)(he:starEach (e::es) X.env=(false,eval e X.env)::starEach es X.env:=by rfl)(hpl:(backTo pos (starEach es X.env)).any (·.1)=false:=by rfl) :
  PE X (.Call (.Name x p) (e::es) [] pos) (AM6 C sp dvs E t):=by
 intro pins s σ H Q I h
 refine wpAny_Call_Name_kw (fA I hg hm ?_ hdb)
 refine callWith_K (h₀:=X.base) I.ok.mod.kin M.kp (thn (ha pos pins s σ H _ I h) fun us s1 ⟨vs,H1,I1,r,q⟩=>⟨I1.kIn,?_⟩) he hpl
 exact AM7 M F hr hb hd hx I1 r q
end
section
variable {X:Cx}{CX:CXT}{k:Nat}{f C:Addr}{fd:FuncData}{ps ks:List Str}{sp:Sp}{E:XK}{x m:Str}{p pos apos kpos:Pos}{e o:Expr}{es:List Expr}{kws:List Keyword}{te ta:TE}{t tk:TA}{nm:Option Str}
structure KBinds (K:Frag) (fd:FuncData) (ps ks:List Str) (g:List Value→List Value→List Value) (gV:List V→List V→List V):Prop where
 to:∀ (s:Shared) (us ws:List Value),K.In s.heap→(g us ws).length=ps.length→BindsTo s fd ⟨us,ks.zip ws⟩ (ps.zip (g us ws))
 rel:∀ {vs:List V}{us:List Value}{zs:List V}{ws:List Value},Vals vs us→Vals zs ws→Vals (gV vs zs) (g us ws)
variable {g:List Value→List Value→List Value}{gV:List V→List V→List V}
end
structure FnScope (N P:List Str) (sc:Scope):Prop where
 kind:sc.kind=.function
 co:sc.isCoroutine=false
 gen:sc.isGenerator=false
 nd:N.Nodup
 pre:N.take P.length=P
 par:∀ x∈P,sc.names.lookup x=some .local∨sc.names.lookup x=some .cell
 nofree:∀ y∈sc.names,y.2≠.free
theorem uU {kindOf:Str→Option NameKind}{x:Str}:∀ {binds:List (Str × Value)}{m:Str→Option Value},(∀ v,(x,v) ∉ binds)→bindL kindOf binds m x=m x
 | [],_,_=>rfl
 | (n,v)::r,m,h=>by
  unfold bindL
  rw [uU fun w hw=>h w (List.mem_cons_of_mem _ hw)]
  split
  ·have:x≠n:=by rintro rfl; exact h v List.mem_cons_self
   simp [this]
  ·rfl
theorem uV {kindOf:Str→Option NameKind}{x:Str}:∀ {binds:List (Str × Value)}{m:Str→Option Value},(∀ v,(x,v) ∉ binds)→bindC kindOf binds m x=m x
 | [],_,_=>rfl
 | (n,v)::r,m,h=>by
  unfold bindC
  rw [uV fun w hw=>h w (List.mem_cons_of_mem _ hw)]
  split
  ·rfl
  ·have:x≠n:=by rintro rfl; exact h v List.mem_cons_self
   simp [this]
theorem uW {kindOf:Str→Option NameKind}{x:Str}{v:Value}:∀ {P:List Str}{vs:List Value}{i:Nat}{m:Str→Option Value},P.Nodup→P[i]?=some x→vs[i]?=some v→kindOf x=some .local →
  bindL kindOf (P.zip vs) m x=some v
 | [],_,_,_,_,h,_,_=>by simp at h
 | _::_,[],_,_,_,_,h,_=>by simp at h
 | p::P,w::vs,0,m,nd,h1,h2,hk=>by
  simp at h1 h2; subst h1; subst h2
  show bindL kindOf ((p,w)::P.zip vs) m p=_
  unfold bindL
  rw [uU fun v hv=>(List.nodup_cons.mp nd).1 (List.of_mem_zip hv).1,if_pos hk]
  simp
 | p::P,w::vs,i+1,m,nd,h1,h2,hk=>by
  show bindL kindOf ((p,w)::P.zip vs) m x=_
  unfold bindL
  exact uW (i:=i) (List.nodup_cons.mp nd).2 (by simpa using h1) (by simpa using h2) hk
theorem uX {kindOf:Str→Option NameKind}{x:Str}{v:Value}:∀ {P:List Str}{vs:List Value}{i:Nat}{m:Str→Option Value},P.Nodup→P[i]?=some x→vs[i]?=some v→kindOf x≠some .local →
  bindC kindOf (P.zip vs) m x=some v
 | [],_,_,_,_,h,_,_=>by simp at h
 | _::_,[],_,_,_,_,h,_=>by simp at h
 | p::P,w::vs,0,m,nd,h1,h2,hk=>by
  simp at h1 h2; subst h1; subst h2
  show bindC kindOf ((p,w)::P.zip vs) m p=_
  unfold bindC
  rw [uV fun v hv=>(List.nodup_cons.mp nd).1 (List.of_mem_zip hv).1,if_neg hk]
  simp
 | p::P,w::vs,i+1,m,nd,h1,h2,hk=>by
  show bindC kindOf ((p,w)::P.zip vs) m x=_
  unfold bindC
  exact uX (i:=i) (List.nodup_cons.mp nd).2 (by simpa using h1) (by simpa using h2) hk
def uY (N:List Str)(vs:List V):St:=vs.map some++List.replicate (N.length - vs.length) none
def uN (CX:CXT)(P:Program)(w:World)(K:Frag)(mg:Str→Option Value)(base:Heap)(N:List Str)(qual:Str)(scope:Scope)(f:Addr)(cd:Value)(A:Around)(outer:List Env)(s:Shared)(H:Hp)(E:XK):Cx where
 prog:=P
 w:=w
 K:=K
 mg:=mg
 base:=base
 A:=A.deeper (envOfC qual scope s.heap.objs.size f cd)
 N:=N
 s₀:=s
 H₀:=H
 env:=envOfC qual scope s.heap.objs.size f cd
 outer:=outer
 stack:=envOfC qual scope s.heap.objs.size f cd::outer
 ex:=[]
 calm:=true
 fn:=fun _=>true
 pn:=[]
 xe:=fun e s'=>wpAny (model P w) (A.deeper (envOfC qual scope s.heap.objs.size f cd)) (leaving (envOfC qual scope s.heap.objs.size f cd) e) (fun _ s''=>CX outer H s E e s'') (fun e' s''=>CX outer H s E e' s'') s'
theorem yH {sc:Scope}{n:Nat}{x:Str}(h:sc.names.lookup x=some .cell):∃ c,(cellsFrom n sc.names []).lookup x=some c:=by
 have q:=cellsFrom_some sc.names n [] (.inl h)
 exact Option.isSome_iff_exists.mp q
theorem qI {CX:CXT}{P:Program}{w:World}{K:Frag}{mg:Str→Option Value}{base:Heap}{N ps:List Str}{qual:Str}{scope:Scope}{f:Addr}{cd:Value}{A:Around}{outer:List Env}{s s1:Shared}{H:Hp}{E:XK}{us:List Value}{vs:List V}(S:FnScope N ps scope)(hd:A.handled=none)(e0:Env0 P w K mg base A outer s H)(hl:vs.length=ps.length)(r:Vals vs us)(x:InCallC s s.heap.objs.size (bindL (envOfC qual scope s.heap.objs.size f cd).kindOf (ps.zip us) fun _=>none) (cellsFrom (s.heap.objs.size+1) scope.names []) (bindC (envOfC qual scope s.heap.objs.size f cd).kindOf (ps.zip us) fun _=>none) s1) :
  Inv (uN CX P w K mg base N qual scope f cd A outer s H E) [] (uY N vs) H s1:=by
 have hpl:ps.length≤N.length:=by have:=congrArg List.length S.pre; rw [List.length_take] at this; omega
 obtain ⟨h1,tk,rfl,hk⟩:=x.done
 have noA:∀ b:Addr,b ∉ (uN CX P w K mg base N qual scope f cd A outer s H E).ex:=fun b z=>absurd (show b∈([]:List Addr) from z) (by simp)
 refine ⟨⟨e0.mod,S.kind,rfl,rfl,Nat.le_refl _,fun y z c h1 h2=>?_,fun y hy=>?_,fun y c _ h=>?_,fun _=>hd,Around.frames_deeper e0.frames,.inr ⟨rfl,rfl⟩,fun b z=>absurd z (noA b),e0.bs,e0.bsz,fun b _ _=>noA b,fun b z=>absurd z (noA b),e0.funs,e0.frf⟩,
  rfl,e0.bare,Un.kept hk,⟨_,x.toInCall.ns,fun i y v h1 h2 h3=>?_⟩,fun y c h=>⟨_,x.cell y c h⟩,e0.hok.fresh (Nat.le_refl _),fun y c h=>?_,fun p hp=>absurd (show p∈([]:List (Addr × Obj)) from hp) (by simp),e0.hok.kept hk,?_⟩
 ·exact name_of_addr x.apart (PySem.mem_of_lookup h1) (PySem.mem_of_lookup h2)
 ·have hy:scope.names.lookup y=some .cell∨scope.names.lookup y=some .free:=hy
  rcases hy with hy | hy
  ·exact yH hy
  ·exact absurd rfl (S.nofree _ (PySem.mem_of_lookup hy))
 ·exact Nat.le_of_lt (x.above y c (PySem.mem_of_lookup h))
 ·have hi:i < vs.length:=by
   unfold uY at h2
   by_cases hi:i < vs.length
   ·exact hi
   ·rw [List.getElem?_append_right (by simpa using hi)] at h2
    rw [List.getElem?_replicate] at h2
    split at h2 <;> cases h2
  have ha:vs[i]?=some v:=by
   unfold uY at h2
   rw [List.getElem?_append_left (by simpa using hi),List.getElem?_map] at h2
   cases e:vs[i]? with
   | none=>rw [e] at h2; cases h2
   | some a=>rw [e] at h2; cases h2; rfl
  obtain ⟨u,hu,rv⟩:=r.get ha
  have hp:ps[i]?=some y:=by
   rw [← S.pre,List.getElem?_take_of_lt (by omega)]; exact h1
  have ndP:ps.Nodup:=by rw [← S.pre]; exact S.nd.sublist (List.take_sublist _ _)
  refine ⟨u,rv,?_⟩
  rcases S.par y (List.mem_of_getElem? hp) with k | k
  ·exact .inl ⟨k,uW ndP hp hu k⟩
  ·obtain ⟨c,e⟩:=yH (n:=s.heap.objs.size+1) k
   refine .inr ⟨.inl k,c,e,?_⟩
   have q:=x.cell y c e
   rw [uX ndP hp hu (by show scope.names.lookup y≠_; rw [k]; decide)] at q
   exact q
 ·exact e0.hok.fresh (Nat.le_of_lt (x.above y c (PySem.mem_of_lookup h)))
 ·unfold uY
  show _=N.length
  rw [List.length_append,List.length_map,List.length_replicate]
  omega
theorem AC6 {CX:CXT}{P:Program}{w:World}{K:Frag}{mg:Str→Option Value}{base:Heap}{k:Nat}{f:Addr}{name qual:Str}{params:Arguments}{body:List Stmt}{scope:Scope}{dV kV doc pm cdv ct oc:Value}{an od:Option Addr}{osl:Array (Option Value)}{N ps:List Str}{sp:Sp}(lk:K.lookup f=some ⟨oc,od,.func (fnOf name qual params body scope dV kV doc pm an cdv ct),osl⟩)(hcd:codeIn K cdv qual=true)(S:FnScope N ps scope)(len:∀ vs H Q E,sp vs H Q E→vs.length=ps.length)(hbody:∀ (A:Around) (outer:List Env) (s:Shared) (H:Hp) (vs:List V) (Q:VK) (E:XK),Room k (A.deeper (envOfC qual scope s.heap.objs.size f cdv))→sp vs H Q E →
   ∃ t,PSs (uN CX P w K mg base N qual scope f cdv A outer s H E) body t∧t { nx:=fun _ H'=>Q .non H',rt:=Q } (uY N vs) H) :
  FnOk P w K mg base CX (k+1) f (fnOf name qual params body scope dV kV doc pm an cdv ct) ps sp:=by
 refine ⟨len,fun A outer s H args us vs Q E hr e0 hb r hsp=>?_⟩
 have hl:=len _ _ _ _ hsp
 have KX:K.In s.heap:=e0.mod.kin.keeps fun b o e=>(e0.bs b o e).1
 have lim:s.heap.NoLimit:=e0.mod.nolimit.keeps fun b o e=>(e0.bs b o e).1
 have hkind:∀ y∈ps.zip us,scope.names.lookup y.1=some .local∨(scope.names.lookup y.1=some .cell∧((cellsFrom (s.heap.objs.size+1) scope.names []).lookup y.1).isSome=true):=fun ⟨n,v⟩ hy=>by
  rcases S.par n (List.of_mem_zip hy).1 with q | q
  ·exact .inl q
  ·exact .inr ⟨q,cellsFrom_some _ _ _ (.inl q)⟩
 refine codeAny_call_function hr.depth (KX _ _ lk) rfl S.co S.gen rfl (codeRec_of KX hcd) (hb _ _ _ _ ?_)
 refine wpAny_newFunctionEnv_cells S.kind hkind fun env he s1 x=>?_
 subst he
 refine ⟨lim.keeps x.toInCall.keep,codeAny_func ?_⟩
 obtain ⟨t,ht,hq⟩:=hbody A outer s H vs Q E (hr.deeper _) hsp
 have I:Inv (uN CX P w K mg base N qual scope f cdv A outer s H E) [] (uY N vs) H s1:=qI S hr.hd e0 hl r x
 refine wpAny_mono (ht [] s1 (uY N vs) H _ I hq) (fun fl s' hs=>?_) fun e s' hs=>hs
 have fin:∀ {σ':St}{H':Hp}{v:V}{u:Value},Inv (uN CX P w K mg base N qual scope f cdv A outer s H E) [] σ' H' s'→RelV v u→Q v H'→CE outer P w H s Q u s' :=
  fun {σ' H' v u} J rv q=>⟨v,H',J.os,J.bare,J.base,J.hok,rv,q⟩
 cases fl with
 | ret u =>
  obtain ⟨v,σ',H',J,rv,q⟩:=hs
  exact fin J rv q
 | next =>
  obtain ⟨σ',H',J,q⟩:=hs
  exact fin (v:=V.non) (u:=Value.none) J rfl q
 | brk =>
  obtain ⟨_,_,_,q⟩:=hs
  exact False.elim q
 | cont =>
  obtain ⟨_,_,_,q⟩:=hs
  exact False.elim q
section
variable {X:Cx}{x:Str}{p pos:Pos}{e:Expr}{es:List Expr}{t:TA}{id T:String}{r:List V→Hp→VK→Prop}
def tCB (r:List V→Hp→VK→Prop)(t:TA):TE:=fun σ H Q=>t σ H fun vs H1=>r vs H1 Q
theorem aV (hc:iP X (.builtin id) r)(hg:Gl X x)(hm:X.mg x=none)(hv:bootBuiltins x=some (.builtin id))(ha:PA X (e::es) t)(hn:x≠"__name__":=by decide)(hdb:(x == ("__debug__":Str))=false:=by decide)(he:starEach (e::es) X.env=(false,eval e X.env)::starEach es X.env:=by rfl)(hpl:(backTo pos (starEach es X.env)).any (·.1)=false:=by rfl):PE X (.Call (.Name x p) (e::es) [] pos) (tCB r t):=by
 intro pins s σ H Q I h
 refine wpAny_Call_Name_kw (yA I hg hm hv ?_ hn hdb)
 exact PyProof.Rows.callWith_builtin1 (thn (ha pos pins s σ H _ I h) fun us s1 ⟨vs,H1,I1,r1,q1⟩=>hc pins s1 σ H1 vs us Q I1 r1 q1) he hpl
theorem gN (hc:iP X (.type T) r)(hg:Gl X x)(hm:X.mg x=none)(hv:bootBuiltins x=some (.type T))(ha:PA X (e::es) t)(hn:x≠"__name__":=by decide)(hdb:(x == ("__debug__":Str))=false:=by decide)(he:starEach (e::es) X.env=(false,eval e X.env)::starEach es X.env:=by rfl)(hpl:(backTo pos (starEach es X.env)).any (·.1)=false:=by rfl):PE X (.Call (.Name x p) (e::es) [] pos) (tCB r t):=by
 intro pins s σ H Q I h
 refine wpAny_Call_Name_kw (yA I hg hm hv ?_ hn hdb)
 exact PyProof.Rows.callWith_type1 (thn (ha pos pins s σ H _ I h) fun us s1 ⟨vs,H1,I1,r1,q1⟩=>hc pins s1 σ H1 vs us Q I1 r1 q1) he hpl
end
end L2
namespace HT
open PySem PyProof.Rows PySem.W
section
open PySem.SeqAt
open PySem.AutoSeq1 (wpAny_loadPart')
open PySem.MeetsSeq PySem.MeetsSeq2 PySem.MeetsSeq3
end
section
variable {prog:Program}{w:World}{A:Around}{E:Value→Shared→Prop}{s:Shared}
def sIx (n d:Nat):Option Int→Nat
 | none=>d
 | some v=>if v < 0 then (v+(n:Int)).toNat else min v.toNat n
theorem sIx_nat (n d k:Nat):sIx n d (some (k:Int))=min k n:=by
 show (if (k:Int) < 0 then ((k:Int)+(n:Int)).toNat else min (k:Int).toNat n)=min k n
 rw [if_neg (by omega),Int.toNat_natCast]
end
end HT
namespace L2
open PySem PySem.Spec PyProof.Rows PySem.W
abbrev TO:=St→Hp→(Option Int→Hp→Prop)→Prop
def PO (X:Cx)(e:Option Expr)(t:TO):Prop :=
 ∀ (pins:List (Addr × Obj)) (s:Shared) (σ:St) (H:Hp) (Q:Option Int→Hp→Prop),Inv X pins σ H s→t σ H Q →
  wpAny (model X.prog X.w) X.A (evalPart e X.env) (fun u s'=>∃ o H',Inv X pins σ H' s'∧IsPart u o∧Q o H') X.xe s
def AC7:TO:=fun _ H Q=>Q none H
def BB5 (t:TE):TO:=fun σ H Q=>t σ H fun x H1=>∃ i,x=.int i∧Q (some i) H1
section
variable {X:Cx}{e:Expr}{te:TE}{lo hi:Option Expr}{tl th:TO}{pos p2:Pos}
theorem AT2:PO X none AC7:=by
 intro pins s σ H Q I h
 rw [evalPart_none]
 exact wpAny_pure ⟨none,H,I,.none,h⟩
theorem lA (h:PE X e te):PO X (some e) (BB5 te):=by
 intro pins s σ H Q I hw
 rw [evalPart_some]
 refine thn (h pins s σ H _ I hw) fun u s1 ⟨x,H1,I1,r1,q1⟩=>?_
 obtain ⟨i,rfl,q⟩:=q1
 obtain ⟨t,rfl⟩:=r1
 exact ⟨some i,H1,I1,.int i t,q⟩
def SlR (X:Cx)(r:V→Option Int→Option Int→Hp→VK→Prop):Prop :=
 ∀ (pins:List (Addr × Obj)) (s:Shared) (σ:St) (H:Hp) (x:V) (v vl vu:Value) (lo hi:Option Int) (sl:Addr) (Q:VK),Inv X pins σ H s→RelV x v→s.heap.IsSliceOf sl vl vu .none→IsPart vl lo→IsPart vu hi→r x lo hi H Q →
  ∃ T id,typeLookup (.type T) "__getitem__"=pure (some (.builtin id))∧s.TypeIs v T∧wpAny (model X.prog X.w) X.A (getItem v (.ref sl)) (EP X pins σ Q) X.xe s
def tSl (r:V→Option Int→Option Int→Hp→VK→Prop)(te:TE)(tl th:TO):TE:=fun σ H Q=>te σ H fun x H1=>tl σ H1 fun l H2=>th σ H2 fun u H3=>r x l u H3 Q
theorem pS {r:V→Option Int→Option Int→Hp→VK→Prop}(hr:SlR X r)(he:PE X e te)(hl:PO X lo tl)(hu:PO X hi th):PE X (.Subscript e (.Slice lo hi none p2) pos) (tSl r te tl th):=by
 intro pins s σ H Q I h
 refine Subscript_ (thn (he pins s σ H _ I h) fun v s1 ⟨x,H1,I1,r1,q1⟩=>?_)
 refine wpAny_Slice (thn (hl pins s1 σ H1 _ I1 q1) fun vl s2 ⟨l,H2,I2,pl,q2⟩=>thn (hu pins s2 σ H2 _ I2 q2) fun vu s3 ⟨u,H3,I3,pu,q3⟩=>?_)
 rw [evalPart_none]
 refine wpAny_pure ?_
 have I4:Inv X pins σ H3 { s3 with heap:=s3.heap.push { cls:=.type "slice",data:=.fields #[vl,vu,.none] } }:=I3.kept (t':=s3.toks) fun b ob q=>Heap.get?_push_of_some _ q
 obtain ⟨T,id,hT,ht,hg⟩:=hr pins { s3 with heap:=s3.heap.push { cls:=.type "slice",data:=.fields #[vl,vu,.none] } } σ H3 x v vl vu l u s3.heap.objs.size Q I4 r1 (Heap.IsSliceOf.new ..) pl pu q3
 show wpAny (model X.prog X.w) X.A (subscriptTail e (.Slice lo hi none p2) v (.ref s3.heap.objs.size)) (EP X pins σ Q) X.xe { s3 with heap:=s3.heap.push { cls:=.type "slice",data:=.fields #[vl,vu,.none] } }
 exact tail_any (ops:=[.ref s3.heap.objs.size,v]) ht hT hg (by with_unfolding_all rfl)
def AQ6 (xs:List V)(lo hi:Option Int):List V:=(xs.drop (HT.sIx xs.length 0 lo)).take (HT.sIx xs.length xs.length hi - HT.sIx xs.length 0 lo)
theorem wG (xs:List V)(lo hi:Option Int):(AQ6 xs lo hi).length≤xs.length:=by
 unfold AQ6
 rw [List.length_take,List.length_drop]
 omega
end
def ixN (n:Nat)(i:Int):Option Nat:=if 0≤i then (if i < n then some i.toNat else none) else if -(n:Int)≤i then some (i+n).toNat else none
def atI {α:Type}(xs:List α)(i:Int):Option α:=(ixN xs.length i).bind fun j=>xs[j]?
theorem AC8 {n:Nat}{i:Int}{j:Nat}(h:ixN n i=some j):seqIndex? i n=some j∧j < n∧-(n:Int)≤i∧i < n:=by
 unfold ixN at h
 by_cases h0:0≤i
 ·rw [if_pos h0] at h
  by_cases h1:i < n
  ·rw [if_pos h1] at h
   have e:i.toNat=j:=Option.some.inj h
   exact ⟨by rw [seqIndex_of h0 h1,e],by omega,by omega,h1⟩
  ·rw [if_neg h1] at h; cases h
 ·rw [if_neg h0] at h
  by_cases h1:-(n:Int)≤i
  ·rw [if_pos h1] at h
   have e:(i+n).toNat=j:=Option.some.inj h
   exact ⟨by rw [seqIndex_neg (by omega) h1,e],by omega,h1,by omega⟩
  ·rw [if_neg h1] at h; cases h
theorem AC9 {α:Type}{xs:List α}{i:Int}{v:α}(h:atI xs i=some v):∃ j,seqIndex? i xs.length=some j∧xs[j]?=some v∧j < xs.length∧-(xs.length:Int)≤i∧i < xs.length:=by
 unfold atI at h
 cases e:ixN xs.length i with
 | none=>rw [e] at h; cases h
 | some j =>
  rw [e] at h
  obtain ⟨h1,h2,h3,h4⟩:=AC8 e
  exact ⟨j,h1,h,h2,h3,h4⟩
theorem wH {α:Type}{xs:List α}{j:Nat}{v:α}(h:xs[j]?=some v):atI xs (j:Int)=some v:=by
 have hj:j < xs.length:=(List.getElem?_eq_some_iff.mp h).1
 have e:ixN xs.length (j:Int)=some j:=by
  unfold ixN
  rw [if_pos (by omega),if_pos (by omega)]; simp
 unfold atI; rw [e]; exact h
def AD0 (b:Expr):Prop:=∀ o i,subscripted b false o i=operate [o,i] (getItem o i)
def IxR (X:Cx)(r:R2):Prop :=
 ∀ (value slice:Expr) (pins:List (Addr × Obj)) (s:Shared) (σ:St) (H:Hp) (x y:V) (v u:Value) (Q:VK),Inv X pins σ H s→RelV x v→RelV y u→r x y H Q →
  subscripted slice false v u=operate [v,u] (getItem v u)→wpAny (model X.prog X.w) X.A (subscriptTail value slice v u) (EP X pins σ Q) X.xe s
def MtR (X:Cx)(id:String)(r:V→List V→Hp→VK→Prop):Prop :=
 ∀ (pins:List (Addr × Obj)) (s:Shared) (σ:St) (H:Hp) (x:V) (xs:List V) (v:Value) (us:List Value) (Q:VK),Inv X pins σ H s→RelV x v→Vals xs us→r x xs H Q →
  wpAny (model X.prog X.w) X.A (call (.builtin id) (v::us)) (EP X pins σ Q) X.xe s
section
variable {X:Cx}{a b:Expr}{ta tb:TE}{pos:Pos}
theorem mG {r:R2}(hr:IxR X r)(ha:PE X a ta)(hb:PE X b tb)(hs:AD0 b):PE X (.Subscript a b pos) (tOp r ta tb):=by
 intro pins s σ H Q I h
 exact Subscript_ (BG2 ha hb I h fun v u s2 x y H2 I2 rx ry q=>hr a b pins s2 σ H2 x y v u Q I2 rx ry q (hs _ _))
def BL5 (K:Frag):R2:=fun x y H Q=>∃ p xs i v,x=.ref p∧y=.int i∧SqL K H p xs∧atI xs i=some v∧Q v H
def BL6 (K:Frag):R2:=fun x y H Q=>∃ p xs i v,x=.ref p∧y=.int i∧SqT K H p xs∧atI xs i=some v∧Q v H
theorem gO:IxR X (BL5 X.K):=by
 intro value slice pins s σ H x y v u Q I rx ry h hs
 obtain ⟨p,xs,i,z,rfl,rfl,hq,he,q⟩:=h
 cases rx
 obtain ⟨t,rfl⟩:=ry
 obtain ⟨its,r,pl,hz⟩:=I.list hq
 obtain ⟨j,h1,h2,h3,h4,h5⟩:=AC9 he
 obtain ⟨w,ew,rw'⟩:=r.get h2
 have hl:=r.length
 have hn:=sE
 have fin:EP X pins σ Q w s:=⟨z,H,I,rw',q⟩
 by_cases h0:0≤i
 ·have hj:i.toNat=j:=by
   rw [seqIndex_of h0 h5] at h1
   exact Option.some.inj h1
  exact item_listR pl.isList h0 (by omega) (by rw [hj]; simpa using ew) fin hs
 ·have hj:(i+(its.toArray.size:Int)).toNat=j:=by
   rw [seqIndex_neg (by omega) h4] at h1
   rw [List.size_toArray,← hl]
   exact Option.some.inj h1
  exact subscriptTail_builtinR (x:=w) pl.isList.typeIs slot_list_getitem.lookup
   (wpAny_getItem_list_neg (Q:=fun r s'=>r=w∧EP X pins σ Q r s') pl.isList (by omega) (by rw [List.size_toArray] <;> omega) (by omega) (by rw [hj]; simpa using ew) ⟨rfl,fin⟩) hs
theorem yI:IxR X (BL6 X.K):=by
 intro value slice pins s σ H x y v u Q I rx ry h hs
 obtain ⟨p,xs,i,z,rfl,rfl,hq,he,q⟩:=h
 cases rx
 obtain ⟨t,rfl⟩:=ry
 obtain ⟨its,r,pl,hz⟩:=I.tuple hq
 obtain ⟨j,h1,h2,h3,h4,h5⟩:=AC9 he
 obtain ⟨w,ew,rw'⟩:=r.get h2
 have hl:=r.length
 have hn:=sE
 have fin:EP X pins σ Q w s:=⟨z,H,I,rw',q⟩
 exact subscriptTail_builtinR (x:=w) pl.typeIs slot_tuple_getitem.lookup
  (getItem_tuple (j:=j) (Q:=fun r s'=>r=w∧EP X pins σ Q r s') pl (by omega) (by omega) (by rw [List.size_toArray,← hl]; exact h1) (by simpa using ew) ⟨rfl,fin⟩) hs
theorem zK (its:List Value)(n j:Nat)(u:Value):Obj.mapSeq (·.setIfInBounds j u) { cls:=.type "list",data:=.seq its.toArray n }={ cls:=.type "list",data:=.seq (its.set j u).toArray n }:=by
 simp [Obj.mapSeq]
theorem Inv.lst {pins:List (Addr × Obj)}{σ:St}{H:Hp}{s:Shared}{p:Addr}{xs:List V}(I:Inv X pins σ H s)(h:H p=some (.lst xs)) :
  ∃ (its:List Value) (n:Nat),Vals xs its∧s.heap.get? p=some { cls:=.type "list",data:=.seq its.toArray n }∧xs.length≤sizeLine:=by
 obtain ⟨z,its,n,r,e⟩:=I.hok p _ h
 exact ⟨its,n,r,e,z⟩
theorem Inv.lstUpd {pins:List (Addr × Obj)}{σ:St}{H:Hp}{s:Shared}{p:Addr}{xs ys:List V}{its its':List Value}{n n':Nat}{f:Obj→Obj}(I:Inv X pins σ H s)(h:H p=some (.lst xs))(ho:s.heap.get? p=some { cls:=.type "list",data:=.seq its.toArray n })(hf:f { cls:=.type "list",data:=.seq its.toArray n }={ cls:=.type "list",data:=.seq its'.toArray n' })(r:Vals ys its')(hz:ys.length≤sizeLine)(t:Nat) :
  Inv X pins σ (upd H p (.lst ys)) { s with heap:=s.heap.update p f,toks:=t }:=by
 have e:(s.heap.update p f).get? p=some { cls:=.type "list",data:=.seq its'.toArray n' }:=by
  rw [Heap.get?_update_self f ho (by rw [hf] <;> rfl),hf]
 refine I.write (x:=p) (e:=p) (by rw [h]; trivial) (.inl rfl) (fun b u hb q=>(Heap.get?_update_other _ _ (Ne.symm hb)).trans q) ⟨_,e⟩ ?_
 exact ⟨hz,its',n',r,e⟩
def BB6:V→V→V→Hp→(Hp→Prop)→Prop:=fun o i v H Q=>∃ p xs k j,o=.ref p∧i=.int k∧H p=some (.lst xs)∧ixN xs.length k=some j∧Q (upd H p (.lst (xs.set j v)))
theorem pT:BK6 X BB6:=by
 intro pins s σ H o i v ov iv u Q I ro ri rv h
 obtain ⟨p,xs,k,j,rfl,rfl,hp,hj,q⟩:=h
 cases ro
 obtain ⟨t,rfl⟩:=ri
 obtain ⟨its,n,r,ho,hz⟩:=I.lst hp
 obtain ⟨h1,h2,h3,h4⟩:=AC8 hj
 have hl:=r.length
 have hn:=sE
 have I':Inv X pins σ (upd H p (.lst (xs.set j v))) { s with heap:=s.heap.update p (Obj.mapSeq (·.setIfInBounds j u)) } :=
  I.lstUpd hp ho (zK its n j u) (r.set rv j) (by rw [List.length_set]; exact hz) s.toks
 by_cases h0:0≤k
 ·have hk:k.toNat=j:=by
   rw [seqIndex_of h0 h4] at h1
   exact Option.some.inj h1
  exact ki_setAt ho h0 (by omega) (by rw [List.size_toArray,← hl]; exact h4) (by rw [hk]; exact ⟨_,I',q⟩)
 ·have hk:(k+(its.toArray.size:Int)).toNat=j:=by
   rw [seqIndex_neg (by omega) h3] at h1
   rw [List.size_toArray,← hl]
   exact Option.some.inj h1
  exact ki_setBack ho (by omega) (by rw [List.size_toArray,← hl]; exact h3) (by omega) (by rw [hk]; exact ⟨_,I',q⟩)
theorem uZ (lo hi:Option Int)(n:Nat):(sliceBounds lo hi none n).1=((HT.sIx n 0 lo:Nat):Int)∧(sliceBounds lo hi none n).2.1=((HT.sIx n n hi:Nat):Int)∧(sliceBounds lo hi none n).2.2=1:=by
 refine ⟨?_,?_,rfl⟩
 ·cases lo with
  | none=>simp [sliceBounds,HT.sIx]
  | some i =>
   simp only [sliceBounds,HT.sIx,Option.getD_none,show (1:Int) > 0 by decide,if_true]
   by_cases h:i < 0
   ·simp only [h,if_true] <;> omega
   ·simp only [h,if_false] <;> omega
 ·cases hi with
  | none=>simp [sliceBounds,HT.sIx]
  | some i =>
   simp only [sliceBounds,HT.sIx,Option.getD_none,show (1:Int) > 0 by decide,if_true]
   by_cases h:i < 0
   ·simp only [h,if_true] <;> omega
   ·simp only [h,if_false] <;> omega
theorem tD (its:List Value)(lo hi:Option Int):slicePick its.toArray lo hi none=((its.drop (HT.sIx its.length 0 lo)).take (HT.sIx its.length its.length hi - HT.sIx its.length 0 lo)).toArray:=by
 obtain ⟨h1,h2,h3⟩:=uZ lo hi its.toArray.size
 unfold slicePick
 rw [h1,h2,h3]
 simp only [sliceRange_one,pick_run,List.size_toArray] <;> rfl
def BM7 (K:Frag):V→Option Int→Option Int→Hp→VK→Prop:=fun x lo hi H Q=>∃ a xs,x=.ref a∧SqL K H a xs∧∀ p,H p=none→Q (.ref p) (upd H p (.lst (AQ6 xs lo hi)))
theorem wI:SlR X (BM7 X.K):=by
 intro pins s σ H x v vl vu lo hi sl Q I rx hs pl pu h
 obtain ⟨a,xs,rfl,hx,q⟩:=h
 cases rx
 obtain ⟨its,r,ht,hz⟩:=I.list hx
 have hlen:=r.length
 refine ⟨"list",_,slot_list_getitem.lookup,ht.isList.typeIs,?_⟩
 refine wpAny_getItem_list_slice ht.isList hs pl pu .none (by simp) ?_ (by rw [List.size_toArray] <;> omega)
 rw [tD,← hlen]
 refine ⟨.ref s.heap.objs.size,_,I.laid (t':=s.toks) (o:=.lst (AQ6 xs lo hi)) (fun b ob q=>Heap.get?_push_of_some _ q) (Nat.le_refl _) ?_,rfl,q _ (I.hok.fresh (Nat.le_refl _))⟩
 exact ⟨Nat.le_trans (wG xs lo hi) hz,_,0,(r.drop (HT.sIx xs.length 0 lo)).take (HT.sIx xs.length xs.length hi - HT.sIx xs.length 0 lo),Heap.get?_push_size _ rfl⟩
def tE:V→Bool
 | .non=>true
 | .bl _=>true
 | .int _=>true
 | .str _=>true
 | _=>false
def eqV:V→V→Bool
 | .non,.non=>true
 | .bl a,.bl b=>a == b
 | .bl a,.int b=>(if a then 1 else 0) == b
 | .int a,.bl b=>a == (if b then 1 else 0)
 | .int a,.int b=>a == b
 | .str a,.str b=>a == b
 | _,_=>false
theorem BB7 {A:Around}{s:Shared}{y x:V}{u v:Value}(ry:RelV y u)(rx:RelV x v)(fy:tE y=true)(fx:tE x=true):SeqAt.EqAt A s u v (eqV y x):=by
 cases y with
 | non =>
  cases ry
  cases x with
  | non=>cases rx; exact SeqAt.EqAt.same _
  | bl b=>cases rx; exact SeqAt.EqAt.none_bool b
  | int b=>obtain ⟨t,rfl⟩:=rx; exact SeqAt.EqAt.none_int b t
  | str b=>obtain ⟨t,rfl⟩:=rx; exact SeqAt.EqAt.none_str b t
  | _=>exact absurd (show false=true from fx) Bool.false_ne_true
 | bl a =>
  cases ry
  cases x with
  | non=>cases rx; exact SeqAt.EqAt.bool_none a
  | bl b=>cases rx; exact SeqAt.EqAt.bool_bool a b
  | int b=>obtain ⟨t,rfl⟩:=rx; exact SeqAt.EqAt.bool_int a b t
  | str b=>obtain ⟨t,rfl⟩:=rx; exact SeqAt.EqAt.bool_str a b t
  | _=>exact absurd (show false=true from fx) Bool.false_ne_true
 | int a =>
  obtain ⟨t',rfl⟩:=ry
  cases x with
  | non=>cases rx; exact SeqAt.EqAt.int_none a t'
  | bl b=>cases rx; exact SeqAt.EqAt.int_bool a t' b
  | int b=>obtain ⟨t,rfl⟩:=rx; exact SeqAt.EqAt.int_int a t' b t
  | str b=>obtain ⟨t,rfl⟩:=rx; exact SeqAt.EqAt.int_str a t' b t
  | _=>exact absurd (show false=true from fx) Bool.false_ne_true
 | str a =>
  obtain ⟨t',rfl⟩:=ry
  cases x with
  | non=>cases rx; exact SeqAt.EqAt.str_none a t'
  | bl b=>cases rx; exact SeqAt.EqAt.str_bool a t' b
  | int b=>obtain ⟨t,rfl⟩:=rx; exact SeqAt.EqAt.str_int a t' b t
  | str b=>obtain ⟨t,rfl⟩:=rx; exact SeqAt.EqAt.str_str a t' b t
  | _=>exact absurd (show false=true from fx) Bool.false_ne_true
 | _=>exact absurd (show false=true from fy) Bool.false_ne_true
def eqU (x:V)(u:Value):Bool:=match u with
 | .none=>eqV .non x
 | .bool b=>eqV (.bl b) x
 | .int i _=>eqV (.int i) x
 | .str z _=>eqV (.str z) x
 | _=>false
theorem AQ7 {x y:V}{u:Value}(r:RelV y u)(f:tE y=true):eqU x u=eqV y x:=by
 cases y with
 | non=>cases r; rfl
 | bl b=>cases r; rfl
 | int i=>obtain ⟨t,rfl⟩:=r; rfl
 | str z=>obtain ⟨t,rfl⟩:=r; rfl
 | _=>exact absurd (show false=true from f) Bool.false_ne_true
theorem wJ {x:V}:∀ {xs:List V}{us:List Value},Vals xs us→xs.all tE=true→us.any (eqU x)=xs.any fun y=>eqV y x
 | _,_,.nil,_=>rfl
 | y::xs,u::us,.cons r t,f=>by
  rw [List.all_cons,Bool.and_eq_true] at f
  rw [List.any_cons,List.any_cons,AQ7 r f.1,wJ t f.2]
theorem tF {A:Around}{s:Shared}{x:V}{v:Value}(rx:RelV x v)(fx:tE x=true):∀ {xs:List V}{us:List Value},Vals xs us→xs.all tE=true→∀ u∈us,SeqAt.EqAt A s u v (eqU x u)
 | _,_,.nil,_=>fun u hu=>by cases hu
 | y::xs,u::us,.cons r t,f=>fun u' hu=>by
  rw [List.all_cons,Bool.and_eq_true] at f
  rcases List.mem_cons.mp hu with rfl | hu
  ·rw [AQ7 r f.1]; exact BB7 r rx f.1 fx
  ·exact tF rx fx t f.2 u' hu
def inV (x:V)(xs:List V):Bool:=xs.any fun y=>eqV y x
def rIn (K:Frag)(neg:Bool):R2:=fun x y H Q=>∃ p xs,y=.ref p∧(SqL K H p xs∨SqT K H p xs)∧tE x=true∧xs.all tE=true∧Q (.bl (if neg then !inV x xs else inV x xs)) H
theorem vA:OpR X (compareOp .NotIn) (rIn X.K true):=by
 intro pins s σ H x y v u Q I rx ry h
 obtain ⟨p,xs,rfl,hq,fx,fs,q⟩:=h
 cases ry
 rcases hq with hq | hq
 ·obtain ⟨its,r,pl,hz⟩:=I.list hq
  refine SeqAt.notIn_listAt (eqU x) pl.isList (fun w hw=>tF rx fx r fs w (by simpa using hw)) ⟨.bl _,H,I,rfl,?_⟩
  rw [show its.toArray.any (eqU x)=its.any (eqU x) by simp,wJ r fs]
  exact q
 ·obtain ⟨its,r,pl,hz⟩:=I.tuple hq
  refine SeqAt.notIn_tupleAt (eqU x) pl (fun w hw=>tF rx fx r fs w (by simpa using hw)) ⟨.bl _,H,I,rfl,?_⟩
  rw [show its.toArray.any (eqU x)=its.any (eqU x) by simp,wJ r fs]
  exact q
theorem bI:iP X (.builtin "len") (fun xs H Q=>∃ p ys,xs=[.ref p]∧(SqL X.K H p ys∨SqT X.K H p ys)∧Q (.int ys.length) H):=by
 intro pins s σ H xs us Q I r h
 obtain ⟨p,ys,rfl,hq,q⟩:=h
 obtain ⟨u,rfl,rx⟩:=sY r
 cases rx
 have hn:=sE
 rcases hq with hq | hq
 ·obtain ⟨its,r',pl,hz⟩:=I.list hq
  have hlen:=r'.length
  exact Calls.call_len_list pl.isList (by simp only [List.size_toArray] <;> omega) ⟨.int ys.length,H,I.tok _,⟨s.toks+1,by rw [List.size_toArray,hlen]⟩,q⟩
 ·obtain ⟨its,r',pl,hz⟩:=I.tuple hq
  have hlen:=r'.length
  exact len_tuple pl (by simp only [List.size_toArray] <;> omega) ⟨.int ys.length,H,I.tok _,⟨s.toks+1,by rw [List.size_toArray,hlen]⟩,q⟩
theorem hR:iP X (.builtin "len") (fun xs H Q=>∃ z,xs=[.str z]∧z.length≤sizeLine∧Q (.int z.length) H):=by
 intro pins s σ H xs us Q I r h
 obtain ⟨z,rfl,hz,q⟩:=h
 obtain ⟨u,rfl,t,rfl⟩:=sY r
 have hn:=sE
 exact len_str (by omega) ⟨.int z.length,H,I.tok _,⟨_,rfl⟩,q⟩
theorem hU:iP X (.type "list") (fun xs H Q=>∃ p ys,xs=[.ref p]∧(SqL X.K H p ys∨SqT X.K H p ys)∧∀ l,H l=none→Q (.ref l) (upd H l (.lst ys))):=by
 intro pins s σ H xs us Q I r h
 obtain ⟨p,ys,rfl,hq,q⟩:=h
 obtain ⟨u,rfl,rx⟩:=sY r
 cases rx
 have fin:∀ (its:List Value),Vals ys its→ys.length≤sizeLine→∀ (h':Heap) (c':Nat),(∀ b o',s.heap.get? b=some o'→h'.get? b=some o') →
   h'.get? s.heap.objs.size=some { cls:=.type "list",dict:=none,data:=.seq its.toArray c',slots:=#[] }→EP X pins σ Q (.ref s.heap.objs.size) { s with heap:=h' }:=fun its r' hz h' c' kp e =>
  ⟨.ref s.heap.objs.size,_,I.laid (t':=s.toks) kp (Nat.le_refl _) (show ObjOk X.prog X.w _ h' _ (.lst ys) from ⟨hz,its,c',r',e⟩),rfl,q _ (I.hok.fresh (Nat.le_refl _))⟩
 rcases hq with hq | hq
 ·obtain ⟨its,r',pl,hz⟩:=I.list hq
  have hlen:=r'.length
  obtain ⟨o,ho,hc,n,hd⟩:=pl.isList
  exact call_list_seq p (.inl rfl) ho hc hd (fun h' c' kp e=>fin its r' hz h' c' kp e) (by simp only [List.size_toArray] <;> omega)
 ·obtain ⟨its,r',pl,hz⟩:=I.tuple hq
  have hlen:=r'.length
  obtain ⟨o,ho,hc,n,hd⟩:=pl
  exact call_list_seq p (.inr rfl) ho hc hd (fun h' c' kp e=>fin its r' hz h' c' kp e) (by simp only [List.size_toArray] <;> omega)
theorem tG:iP X (.type "tuple") (fun xs H Q=>∃ p ys,xs=[.ref p]∧((SqL X.K H p ys∧∀ l,H l=none→Q (.ref l) (upd H l (.tup ys)))∨(SqT X.K H p ys∧Q (.ref p) H))):=by
 intro pins s σ H xs us Q I r h
 obtain ⟨p,ys,rfl,h⟩:=h
 obtain ⟨u,rfl,rx⟩:=sY r
 cases rx
 rcases h with ⟨hq,q⟩ | ⟨hq,q⟩
 ·obtain ⟨its,r',pl,hz⟩:=I.list hq
  have hlen:=r'.length
  refine call_tuple_list pl.isList (fun h' kp=>?_) (by simp only [List.size_toArray] <;> omega)
  have I1:Inv X pins σ H { s with heap:=h' }:=I.kept (t':=s.toks) kp
  have I2:Inv X pins σ (upd H h'.objs.size (.tup ys)) { s with heap:=h'.push { cls:=.type "tuple",data:=.seq its.toArray } } :=
   I1.laid (t':=s.toks) (fun b o e=>Heap.get?_push_of_some _ e) (Nat.le_refl _) (show ObjOk X.prog X.w _ _ _ (.tup ys) from ⟨hz,its,r',IsTup.new _ _⟩)
  exact ⟨.ref h'.objs.size,_,I2,rfl,q _ (I1.hok.fresh (Nat.le_refl _))⟩
 ·obtain ⟨its,r',pl,hz⟩:=I.tuple hq
  exact call_tuple_same pl ⟨.ref p,H,I,rfl,q⟩
def tyV (K:Frag)(T:String)(x:V)(H:Hp):Prop:=match x with
 | .str _=>T="str"
 | .int _=>T="int"
 | .ref p=>(T="list"∧∃ xs,SqL K H p xs)∨(T="tuple"∧∃ o,K.lookup p=some o∧o.cls=.type "tuple"∧o.dict=none) ∨
   (T="dict"∧((∃ kvs,H p=some (.dK kvs))∨∃ kvs,H p=some (.dT kvs)))∨(T="set"∧∃ S n,H p=some (.set S n))
 | _=>False
theorem BB8 {pins:List (Addr × Obj)}{σ:St}{H:Hp}{s:Shared}{T:String}{x:V}{v:Value}(I:Inv X pins σ H s)(r:RelV x v)(ty:tyV X.K T x H) :
  s.TypeIs v T∧∀ a,v=.ref a→∃ ob,s.heap.get? a=some ob∧ob.dict=none:=by
 cases x with
 | str z =>
  obtain ⟨t,rfl⟩:=r
  cases (show T="str" from ty)
  exact ⟨typeIs_str s z t,fun _ e=>nomatch e⟩
 | int i =>
  obtain ⟨t,rfl⟩:=r
  cases (show T="int" from ty)
  exact ⟨typeIs_int s i t,fun _ e=>nomatch e⟩
 | ref p =>
  cases r
  rcases ty with ⟨rfl,xs,hq⟩ | ⟨rfl,o,hk,hc,hd⟩ | ⟨rfl,hk⟩ | ⟨rfl,S,n,hk⟩
  ·obtain ⟨its,_,pl,_⟩:=I.list hq
   refine ⟨pl.isList.typeIs,fun a e=>?_⟩
   cases e
   obtain ⟨o,n,e,c,hd,_⟩:=pl
   exact ⟨o,e,hd⟩
  ·refine ⟨⟨o,I.kIn p o hk,hc⟩,fun a e=>?_⟩
   cases e
   exact ⟨o,I.kIn _ o hk,hd⟩
  ·have z:∃ o,s.heap.get? p=some o∧o.ExactDict:=by
    rcases hk with ⟨kvs,hk⟩ | ⟨kvs,hk⟩
    ·obtain ⟨_,_,_,_,o,_,_,e,ex,_⟩:=I.hok p _ hk
     exact ⟨o,e,ex⟩
    ·obtain ⟨_,_,_,_,o,_,_,e,ex,_⟩:=I.hok p _ hk
     exact ⟨o,e,ex⟩
   obtain ⟨o,e,ex⟩:=z
   refine ⟨⟨o,e,ex.1⟩,fun a e2=>?_⟩
   cases e2
   exact ⟨o,e,ex.2.1⟩
  ·obtain ⟨o,_,_,_,e,ex,_⟩:=I.hok p _ hk
   refine ⟨⟨o,e,ex.1⟩,fun a e2=>?_⟩
   cases e2
   exact ⟨o,e,ex.2.1⟩
 | _=>exact False.elim ty
def tBM (K:Frag)(T:String)(r:V→List V→Hp→VK→Prop)(to:TE)(t:TA):TE:=fun σ H Q=>to σ H fun x H1=>tyV K T x H1∧t σ H1 fun xs H2=>r x xs H2 Q
variable {o e:Expr}{es:List Expr}{to:TE}{t:TA}{name:Str}{apos cpos:Pos}{T id:String}{r:V→List V→Hp→VK→Prop}
theorem lB (pa:PlainAttrs T)(slot:Slot T name id)(hty:typeOf (.builtin id)=pure (.type "method_descriptor"))(hm:MtR X id r)(ho:PE X o to)(ha:PA X (e::es) t)(hbase:attributeBase o name X.env (eval o X.env)=eval o X.env:=by rfl)(hfew:((backTo cpos (starEach (e::es) X.env)).all (fun x=>!x.1) && (backToKw cpos (keywordEach [] X.env)).all (fun x=>x.1.isSome)
   && decide ((e::es).length+([]:List Keyword).length+(if ([]:List Keyword).isEmpty then 0 else 1) < 30))=true:=by rfl)(hline:(apos.endLine == cpos.line)=true:=by rfl)(hs:starEach (e::es) X.env=(false,eval e X.env)::starEach es X.env:=by rfl)(hplain:(backTo cpos (starEach es X.env)).any (·.1)=false:=by rfl) :
  PE X (.Call (.Attribute o name apos) (e::es) [] cpos) (tBM X.K T r to t):=by
 intro pins s σ H Q I h
 refine wpAny_Call_method_late hbase hfew hline rfl (thn (ho pins s σ H _ I h) fun v s1 ⟨x,H1,I1,r1,ty,q1⟩=>?_)
 obtain ⟨h1,h2⟩:=BB8 I1 r1 ty
 refine ⟨T,id,pa,slot,hty,h1,h2,?_⟩
 have hA:=ha cpos pins s1 σ H1 _ I1 q1
 rw [hs] at hA ⊢
 refine Calls.callWith_builtin (by show (false || (backTo cpos (starEach es X.env)).any (·.1))=false; rw [hplain] <;> rfl) (Calls.evalArgs_plain ?_)
 exact thn hA fun us s2 ⟨vs,H2,I2,r2,q2⟩=>hm pins s2 σ H2 x vs v us Q I2 r1 r2 q2
/- xs.append(e),list.index on a module's tuple .. are MtR facts of 06m -/
end
def MtM (X:Cx)(id:String)(r:V→List V→Hp→VK→Prop):Prop :=
 ∀ (pins:List (Addr × Obj)) (s:Shared) (σ:St) (H:Hp) (x:V) (xs:List V) (v:Value) (us:List Value) (Q:VK),Inv X pins σ H s→RelV x v→Vals xs us→r x xs H Q →
  wpAny (model X.prog X.w) X.A (call (.builtin id) (v::us)) (EP X pins σ Q) X.xe s
theorem Vals.one:∀ {x:V}{us:List Value},Vals [x] us→∃ u,us=[u]∧RelV x u
 | _,_,.cons r .nil=>⟨_,rfl,r⟩
section
variable {X:Cx}{pins:List (Addr × Obj)}{σ:St}{H:Hp}{s:Shared}{l b:Addr}{xs ys zs:List V}
theorem Inv.lset {its its':List Value}{n:Nat}{f:Array Value→Array Value}{t':Nat}(I:Inv X pins σ H s)(hH:H l=some (.lst xs))(e:s.heap.get? l=some { cls:=.type "list",data:=.seq its.toArray n })(hf:f its.toArray=its'.toArray)(hv:Vals ys its')(hz:ys.length≤sizeLine) :
  Inv X pins σ (upd H l (.lst ys)) { s with heap:=s.heap.update l (Obj.mapSeq f),toks:=t' }:=by
 have q:=PySem.IsL.update e f
 rw [hf] at q
 refine I.write (x:=l) (e:=l) (by rw [hH]; exact trivial) (.inl rfl) (fun b' u hb hu=>(Heap.get?_update_other s.heap (Obj.mapSeq f) (Ne.symm hb)).trans hu) ⟨_,q⟩ ?_
 exact ⟨hz,its',_,hv,q⟩
theorem Inv.lnew {its:List Value}{t':Nat}(I:Inv X pins σ H s)(hv:Vals ys its)(hz:ys.length≤sizeLine) :
  Inv X pins σ (upd H s.heap.objs.size (.lst ys)) { s with heap:=s.heap.push { cls:=.type "list",data:=.seq its.toArray },toks:=t' } :=
 I.laid (fun _ _ q=>Heap.get?_push_of_some _ q) (Nat.le_refl _) ⟨hz,its,0,hv,Heap.get?_push_size _ rfl⟩
theorem Inv.fresh (I:Inv X pins σ H s):H s.heap.objs.size=none:=I.hok.fresh (Nat.le_refl _)
theorem Inv.lstM (I:Inv X pins σ H s)(hH:H l=some (.lst xs)):xs.length≤sizeLine∧∃ (its:List Value) (n:Nat),Vals xs its∧xs.length=its.length∧s.heap.get? l=some { cls:=.type "list",data:=.seq its.toArray n }:=by
 obtain ⟨z,its,n,r,e⟩:=I.hok l _ hH
 exact ⟨z,its,n,r,r.length,e⟩
end
section
variable {X:Cx}
def AT3:V→List V→Hp→VK→Prop:=fun x vs H Q=>∃ l xs y,x=.ref l∧vs=[y]∧H l=some (.lst xs)∧xs.length < sizeLine∧Q .non (upd H l (.lst (xs++[y])))
theorem gP:MtM X "list.append" AT3:=by
 intro pins s σ H x vs v us Q I rx rv h
 obtain ⟨l,xs,y,rfl,rfl,hH,hz,q⟩:=h
 cases rx
 obtain ⟨u,rfl,ru⟩:=rv.one
 obtain ⟨z,its,n,r,hl,e⟩:=I.lstM hH
 refine call_meets F.slot_list_append ⟨_,e,rfl⟩ F.entry_list_append (F.args_list_append_2 _ _) (PySem.list_append l its.toArray n u (by rw [List.size_toArray]; omega)) ⟨e,?_⟩
 refine ⟨.non,_,I.lset (its':=its++[u]) hH e (by simp) (r.append (.cons ru .nil)) ?_,rfl,q⟩
 rw [List.length_append,List.length_singleton]
 omega
def BM8:R2:=fun x y H Q=>∃ l b xs zs,x=.ref l∧y=.ref b∧H l=some (.lst xs)∧H b=some (.lst zs)∧xs.length+zs.length≤sizeLine∧∀ p,H p=none→Q (.ref p) (upd H p (.lst (xs++zs)))
theorem eQ:OpR X (binaryOp .Add) BM8:=by
 intro pins s σ H x y v u Q I rx ry h
 obtain ⟨l,b,xs,zs,rfl,rfl,hH,hB,hz,q⟩:=h
 cases rx
 cases ry
 obtain ⟨z,its,n,r,hl,e⟩:=I.lstM hH
 obtain ⟨z2,its2,n2,r2,hl2,e2⟩:=I.lstM hB
 refine PySem.P.add_list e e2 ?_ (by rw [List.size_toArray,List.size_toArray]; omega)
 have ea:its.toArray++its2.toArray=(its++its2).toArray:=by simp
 rw [ea]
 exact ⟨.ref _,_,I.lnew (t':=s.toks) (r.append r2) (by rw [List.length_append]; omega),rfl,q _ I.fresh⟩
end
section
variable {prog:Program}{w:World}{A:Around}{E:Value→Shared→Prop}{s:Shared}
end
section
variable {X:Cx}
end
end L2
namespace Att
open PySem PySem.W PySem.Calls PyProof.Rows
theorem ints_of_wellAll {P:Params}{h:Heap}:∀ (ns:List Int) (vs:List Value),WellAll P h vs (ns.map WData.int)→IntsAre vs ns:=by
 intro ns
 induction ns with
 | nil =>
  intro vs w
  rw [List.map_nil] at w
  cases w
  exact .nil
 | cons n ns ih =>
  intro vs w
  rw [List.map_cons] at w
  cases w with
  | cons a b =>
   cases a
   exact .cons _ _ (ih _ b)
theorem script_of {l:OpenLaw}{n:Nat}(hn:l.most=some n){P:Params}{h:Heap}{args:List WData}{vals:List Value}(hpre:l.row.toRowW.claim.pre args=true)(hwl:WellAll P h vals args) :
  ∃ a vs ns,vals=[Value.ref a]∧args=[WData.list (ns.map WData.int)]∧h.get? a=some { cls:=.type "list",data:=.seq vs.toArray }∧IntsAre vs ns∧ns.length≤n:=by
 have hsh:WShape.hasAll [] args [.list .int]=true:=(pre_splitW hpre).1
 have hc:l.pre.holds [] { args:=args }=true:=(pre_splitW hpre).2
 obtain ⟨d,r,rfl,h1,h2⟩:=hasAllW_cons hsh
 obtain rfl:=hasAllW_nil h2
 obtain ⟨xs,rfl,h3⟩:=hasW_list h1
 obtain ⟨ns,rfl⟩:=items_int h3
 have hlen:ns.length≤n:=by
  unfold OpenLaw.pre at hc
  have h4:(WTm.not (.lt (.lit (.int (n:Int))) (.len (.arg 0)))).holds [] { args:=[.list (ns.map .int)] }=true:=by
   have h4:=(holds_andW hc).1
   rw [hn] at h4
   exact h4
  have h5:=condW_of h4 (w_not (w_lt w_lit (w_len_list (w_arg rfl))))
  rw [List.length_map] at h5
  refine Nat.le_of_not_lt fun q=>?_
  have q':(n:Int) < ((ns.length:Nat):Int):=by omega
  first
   | (rw [decide_eq_true q'] at h5; exact absurd h5 (by decide))
   | (simp at h5; omega)
 cases hwl with
 | cons w1 w2 =>
  cases w2
  cases w1 with
  | list ho hall=>exact ⟨_,_,ns,rfl,rfl,ho,ints_of_wellAll ns _ hall,hlen⟩
theorem post_true (l:OpenLaw)(args:List WData):l.row.toRowW.claim.post args (.bool true) args=true :=
 postW_of (r:=l.row.toRowW) (X:=(true == true))
  (show WShape.has [] (.bool true) .bool=true by first | rfl | decide | simp [WShape.has,WShape.arms,WShape.armsAll])
  (show (WTm.eq .res (.lit (.bool true))).value [] { args:=args,res:=some (.bool true),after:=args }=some (.bool (true == true)) from w_eq_bool (w_res rfl) w_lit) rfl
theorem attach_call {l:OpenLaw}{n:Nat}{q:Program}{loose:List Str}{XP:(Str→Option Value)→Heap→Prop}{YP:World→Heap→Prop}{d:DefRec}(hn:l.most=some n)(hdf:d.params.defaults=[])(call:∀ (w:World) (s₀ s₁:Shared) (mg mb:Str→Option Value) (fa:Addr) (o:Obj) (pm cd doc:Value) (a:Addr) (vs:List Value) (ns:List Int),
   Ground q loose [] XP w s₀ mg mb s₁.heap→YP w s₁.heap →
   s₁.heap.get? fa=some o→o.data=.func (docDef d.name d.params d.body d.scope pm cd doc)→s₁.heap.CodeRec cd d.name→mg d.name=some (.ref fa) →
   s₁.heap.get? a=some { cls:=.type "list",data:=.seq vs.toArray }→IntsAre vs ns→ns.length≤n→s₁.gens=#[] →
   codeAny (model l.prog w) callerA (.call (.ref fa) ⟨[.ref a],[]⟩) (fun r s'=>r=.ok (.ret (.bool true))∧OldK s₁.heap s'.heap∧s'.os=s₁.os∧AllBare s'.gens) s₁) :
  WalkO q loose XP YP l.row.toRowW d [] (fun f vs=>PySem.call f vs):=by
 intro w s₀ s₁ mg mb G Y fa o pm cd doc dV kV ho hd hcd hD hmg hg args vals as hpre hlay hrd hwl hlo
 obtain rfl:dV=.none:=Dflts.none hD hdf
 obtain rfl:kV=.none:=Dflts.noKw hD
 obtain ⟨a,vs,ns,rfl,rfl,hobj,hints,hlen⟩:=script_of hn hpre hwl
 refine enter_call (codeAny_mono (call w s₀ s₁ mg mb fa o pm cd doc a vs ns G Y ho (fd_plain hd) hcd hmg hobj hints hlen hg) fun r s' hq=>?_)
 obtain ⟨rfl,h2,h3,h4⟩:=hq
 exact ⟨.inl ⟨.bool true,.bool true,[],rfl,fun _=>rfl,.bool true,post_true l _,fun _=>⟨List.Pairwise.nil,fun _ hm=>(nomatch hm)⟩⟩,h2,h3,h4⟩
section
variable {prog:Program}{w:World}{A:Around}{E:Value→Shared→Prop}{s:Shared}{K:Frag}
end
end Att
namespace L2
open PySem PySem.Spec PyProof.Rows PySem.W
theorem vB:∀ {vs:List Value}{ns:List Int},IntsAre vs ns→Vals (ns.map V.int) vs
 | _,_,.nil=>.nil
 | _,_,.cons n t h=>.cons ⟨t,rfl⟩ (vB h)
def BG4 (H:Hp):Prop:=∀ b,H b=none∨∃ o xs,H b=some (.frz o (.lst xs))
theorem AM8 {P:Program}{w:World}{K:Frag}{mg mb:Str→Option Value}{CX:CXT}{k:Nat}{fa a:Addr}{fd:FuncData}{x:Str}{sp:Sp}{s₁:Shared}{vs:List Value}{ns:List Int}(KX:K.In s₁.heap)(hns:s₁.heap.Ns mainGlobals mg)(hb:s₁.heap.Ns builtinsNs mb)(hbb:∀ x:Str,x≠"__name__"→mb x=bootBuiltins x)(hlim:s₁.heap.NoLimit)(hg:s₁.gens=#[])(ha:s₁.heap.get? a=some { cls:=.type "list",data:=.seq vs.toArray })(hi:IntsAre vs ns)(hl:ns.length≤sizeLine)(hr:Room k callerA)(F:∀ base:Heap,K.In base→base.Ns mainGlobals mg→FnOk P w K mg base CX k fa fd [x] sp)(hbind:∀ (s:Shared) (u:Value),BindsTo s fd ⟨[u],[]⟩ [(x,u)])(hsp:∀ H:Hp,BG4 H→SqL K H a (ns.map V.int)→sp [.ref a] H (fun v _=>v=.bl true) fun _ _ _=>False)(hCX:∀ H e s',CX [] H s₁ (fun _ _ _=>False) e s'→False) :
  codeAny (model P w) callerA (.call (.ref fa) ⟨[.ref a],[]⟩) (fun r s'=>r=.ok (.ret (.bool true))∧OldK s₁.heap s'.heap∧s'.os=s₁.os∧AllBare s'.gens) s₁:=by
 have rv:=vB hi
 have lenV:=hi.length
 -- from an abstract heap in which nothing but the script may be tracked
 have core:∀ H:Hp,BG4 H→SqL K H a (ns.map V.int)→HOk P w H s₁.heap→(∀ b,H b≠none→b=a)→(H a≠none→K.lookup a=none) →
   codeAny (model P w) callerA (.call (.ref fa) ⟨[.ref a],[]⟩) (fun r s'=>r=.ok (.ret (.bool true))∧OldK s₁.heap s'.heap∧s'.os=s₁.os∧AllBare s'.gens) s₁:=by
  intro H hO hS hok hA hK
  have base_of:∀ {b:Addr}{o:Obj},s₁.heap.get? b=some o→H b=none→(AL5 s₁.heap H).get? b=some o:=fun e n=>AL6 e n
  have noA:∀ {b:Addr}{o:Obj}{es:Array DictEntry}{ep:Nat},s₁.heap.get? b=some o→o.data=.dict es ep→H b=none:=fun {b o es ep} e d=>by
   cases q:H b with
   | none=>rfl
   | some u =>
    have e':b=a:=hA b (by rw [q]; simp)
    subst e'
    rw [ha] at e; cases e
    have d':Data.seq vs.toArray _=Data.dict es ep:=d
    cases d'
  have nsK:∀ {b:Addr}{m:Str→Option Value},s₁.heap.Ns b m→(AL5 s₁.heap H).Ns b m:=fun {b m} ⟨o,es,ep,e,d,r⟩=>⟨o,es,ep,base_of e (noA e d),d,r⟩
  have hKb:K.In (AL5 s₁.heap H):=fun b o e=>base_of (KX b o e) (by
   cases q:H b with
   | none=>rfl
   | some u =>
    have e':b=a:=hA b (by rw [q]; simp)
    subst e'
    rw [hK (by rw [q]; simp)] at e; cases e)
  have hM:Mod K mg (AL5 s₁.heap H):=⟨hKb,nsK hns,⟨mb,nsK hb,hbb⟩,let ⟨mc,h1,h2⟩:=hlim; ⟨mc,nsK h1,h2⟩⟩
  have e0:Env0 P w K mg (AL5 s₁.heap H) callerA [] s₁ H:=⟨rfl,hM,fun b o e=>AS4 e,Nat.le_of_eq (AB1 _ _),trivial,fun b hb=>absurd (show b∈([]:List Addr) from hb) (by simp),hok,.of_eq hg⟩
  refine codeAny_mono ((F _ hKb (nsK hns)).run callerA [] s₁ H ⟨[.ref a],[]⟩ [.ref a] [.ref a] _ _ hr e0 (hbind s₁ (.ref a)) (.cons rfl .nil) (hsp H hO hS)) fun r s' h=>?_
  cases r with
  | error e=>exact (hCX H e s' h).elim
  | ok fl =>
   cases fl with
   | next=>exact False.elim h
   | brk=>exact False.elim h
   | cont=>exact False.elim h
   | ret u =>
    obtain ⟨v,H',os,bare,un,hok',r',q⟩:=h
    have q':v=.bl true:=q
    subst q'
    obtain rfl:u=Value.bool true:=r'
    refine ⟨rfl,OldK.of_keep fun b o e=>?_,os,bare⟩
    cases q:H b with
    | none=>exact un.keep b o e q (by intro z; exact absurd (show b∈([]:List Addr) from z) (by simp)) (by simp)
    | some u =>
     rcases hO b with z | ⟨ob,xs,z⟩
     ·rw [q] at z; cases z
     ·have z2:=un.frzs b ob _ z
      obtain ⟨e1,_⟩:=hok b _ z
      obtain ⟨e2,_⟩:=hok' b _ z2
      rw [e] at e1; cases e1
      exact e2
 cases hk:K.lookup a with
 | some o =>
  -- the script is one of the module's own objects
  have e:=KX a o hk
  rw [ha] at e
  cases e
  refine core (fun _=>none) (fun _=>.inl rfl) (.inr ⟨_,vs.toArray,_,hk,rfl,rfl,rfl,by rw [List.size_toArray,lenV]; exact hl,by simpa using rv⟩) (fun b u z=>by have z':(none:Option HO)=some u:=z; cases z') (fun b z=>absurd rfl z) fun z=>absurd rfl z
 | none =>
  refine core (fun b=>if b=a then some (.frz { cls:=.type "list",data:=.seq vs.toArray } (.lst (ns.map V.int))) else none) (fun b=>?_) (.inl (.inr ⟨{ cls:=.type "list",data:=.seq vs.toArray },if_pos rfl⟩)) (fun b u z=>?_) (fun b z=>?_) fun _=>hk
  ·by_cases hb:b=a
   ·exact .inr ⟨_,_,if_pos hb⟩
   ·exact .inl (if_neg hb)
  ·by_cases hb:b=a
   ·have z':=(if_pos hb).symm.trans z
    cases z'
    subst hb
    exact ⟨ha,by rw [List.length_map]; exact hl,vs,_,rv,ha⟩
   ·have z':=(if_neg hb).symm.trans z
    cases z'
  ·by_cases hb:b=a
   ·exact hb
   ·exact absurd (if_neg hb) z
theorem BG5 {l:OpenLaw}{n k:Nat}{q:Program}{loose:List Str}{XP:(Str→Option Value)→Heap→Prop}{YP:World→Heap→Prop}{d:DefRec}{K:Params→Frag}{CX:World→CXT}{sp:World→Sp}{x:Str}(hn:l.most=some n)(hn2:n≤sizeLine)(hdf:d.params.defaults=[])(hr:Room k callerA)(hY:∀ (w:World) (h:Heap),YP w h→(K w.params).In h)(F:∀ (w:World) (mg:Str→Option Value) (fa:Addr) (h:Heap),(K w.params).In h→h.Ns mainGlobals mg→mg d.name=some (.ref fa) →
   ∃ fd:FuncData,(∀ (s:Shared) (u:Value),BindsTo s fd ⟨[u],[]⟩ [(x,u)]) ∧
    ∀ base:Heap,(K w.params).In base→base.Ns mainGlobals mg→FnOk l.prog w (K w.params) mg base (CX w) k fa fd [x] (sp w))(hsp:∀ (w:World) (H:Hp) (a:Addr) (ns:List Int),ns.length≤n→BG4 H→SqL (K w.params) H a (ns.map V.int)→sp w [.ref a] H (fun v _=>v=.bl true) fun _ _ _=>False)(hCX:∀ (w:World) (H:Hp) (s:Shared) (e:Value) (s':Shared),CX w [] H s (fun _ _ _=>False) e s'→False) :
  WalkO q loose XP YP l.row.toRowW d [] (fun f vs=>PySem.call f vs):=by
 refine Att.attach_call hn hdf fun w s₀ s₁ mg mb fa o pm cd doc a vs ns G Y ho hd hcd hmg hobj hints hlen hg=>?_
 have KX:=hY w _ Y
 obtain ⟨fd,hb,hF⟩:=F w mg fa _ KX G.T.g hmg
 exact AM8 KX G.T.g G.T.b G.T.builtins G.T.nolimit hg hobj hints (Nat.le_trans hlen hn2) hr hF hb (fun H hO hS=>hsp w H a ns hlen hO hS) fun H e s'=>hCX w H s₁ e s'
def aD (s:Stmt)(j:Nat):Stmt:=match s with
 | .ClassDef _ _ _ body _ _ _ _ _ _ _=>body.getD j (.Pass ⟨0,0,0,0⟩)
 | _=>.Pass ⟨0,0,0,0⟩
def aP (s:Stmt):Arguments:=match s with
 | .FunctionDef _ a _ _ _ _ _ _ _ _=>a
 | _=>{ posonlyargs:=[],args:=[],vararg:=none,kwonlyargs:=[],kw_defaults:=[],kwarg:=none,defaults:=[] }
def aL (s:Stmt):List Stmt:=match s with
 | .FunctionDef _ _ b _ _ _ _ _ _ _=>b
 | _=>[]
def aA (s:Stmt):Scope:=match s with
 | .FunctionDef _ _ _ _ _ _ sc _ _ _=>sc
 | _=>{ kind:=.function,names:=[],isGenerator:=false,isCoroutine:=false }
abbrev CX0:CXT:=fun _ _ _ _ _ _=>False
abbrev E0:XK:=fun _ _ _=>False
structure Fun (K:Frag) (x qual:Str) (st:Stmt) (f:Addr) (fd:FuncData):Prop where
 ex:∃ (oc:Value) (od:Option Addr) (kV doc pm:Value) (an:Option Addr) (cdv ct:Value) (osl:Array (Option Value)),
  fd=fnOf x qual (aP st) (aL st) (aA st) .none kV doc pm an cdv ct∧K.lookup f=some ⟨oc,od,.func fd,osl⟩∧codeIn K cdv qual=true
 kp:keepIn K (.ref f)=true
section
variable {P:Program}{w:World}{K:Frag}{mg:Str→Option Value}{base:Heap}
theorem Fun.ok {x qual:Str}{st:Stmt}{f:Addr}{fd:FuncData}{N ps:List Str}{k:Nat}{sp:Sp}(F:Fun K x qual st f fd)(S:FnScope N ps (aA st))(len:∀ vs H Q E,sp vs H Q E→vs.length=ps.length)(hbody:∀ (cdv:Value) (A:Around) (outer:List Env) (s:Shared) (H:Hp) (vs:List V) (Q:VK) (E:XK),Room k (A.deeper (envOfC qual (aA st) s.heap.objs.size f cdv))→sp vs H Q E →
   ∃ t,PSs (uN CX0 P w K mg base N qual (aA st) f cdv A outer s H E).nox (aL st) t∧t { nx:=fun _ H'=>Q .non H',rt:=Q } (uY N vs) H):FnOk P w K mg base CX0 (k+1) f fd ps sp:=by
 obtain ⟨oc,od,kV,doc,pm,an,cdv,ct,osl,rfl,lk,hcd⟩:=F.ex
 refine AC6 lk hcd S len fun A outer s H vs Q E hr hsp=>?_
 obtain ⟨t,h,q⟩:=hbody cdv A outer s H vs Q E hr hsp
 exact ⟨t,h.nox,q⟩
theorem Fun.binds {x qual:Str}{st:Stmt}{f:Addr}{fd:FuncData}{ps:List Str}(F:Fun K x qual st f fd)(h:∀ (kV doc pm:Value) (an:Option Addr) (cdv ct:Value) (us:List Value),us.length=ps.length→bindArgs (fnOf x qual (aP st) (aL st) (aA st) .none kV doc pm an cdv ct) ⟨us,[]⟩=pure (ps.zip us)):Binds K fd ps []:=by
 obtain ⟨oc,od,kV,doc,pm,an,cdv,ct,osl,rfl,lk,hcd⟩:=F.ex
 exact .all (h kV doc pm an cdv ct)
theorem bD {x qual:Str}{st:Stmt}{f:Addr}{oc:Value}{od an:Option Addr}{osl:Array (Option Value)}{kV doc pm cdv ct:Value}(l:K.lookup f=some ⟨oc,od,.func (fnOf x qual (aP st) (aL st) (aA st) .none kV doc pm an cdv ct),osl⟩)(c:codeIn K cdv qual=true)(k:keepIn K (.ref f)=true):Fun K x qual st f (fnOf x qual (aP st) (aL st) (aA st) .none kV doc pm an cdv ct):=⟨⟨oc,od,kV,doc,pm,an,cdv,ct,osl,rfl,l,c⟩,k⟩
end
theorem AD1 {n:Nat}(h:n≤1000):n < sizeLine:=Nat.lt_of_le_of_lt h (by decide)
section
variable {X:Cx}
theorem pv (i:Nat){x:Str}{pos:Pos}(hN:X.N[i]?=some x:=by rfl)(hv:Vis X.env.scope x:=by first | exact Or.inl rfl | exact Or.inr (Or.inl rfl) | exact Or.inr (Or.inr rfl))(hd:(x == ("__debug__":Str))=false:=by decide)(hcd:(x == ("__classdict__":Str))=false:=by decide):PE X (.Name x pos) (BF6 i):=AQ1 hN hv hd hcd
end
def Same (H H':Hp):Prop:=∀ b o,H b=some o→H' b=some o
theorem Same.trans {H H1 H2:Hp}(a:Same H H1)(b:Same H1 H2):Same H H2:=fun c o h=>b c o (a c o h)
theorem Same.free {H H':Hp}(e:Same H H'){l:Addr}(h:H' l=Option.none):H l=Option.none:=by
 cases q:H l with
 | none=>rfl
 | some o =>
  rw [e l o q] at h
  cases h
theorem Same.seq {K:Frag}{H H':Hp}{a:Addr}{xs:List V}(e:Same H H')(h:SqL K H a xs):SqL K H' a xs:=by
 rcases h with (h | ⟨o,h⟩) | h
 ·exact .inl (.inl (e _ _ h))
 ·exact .inl (.inr ⟨o,e _ _ h⟩)
 ·exact .inr h
end L2
namespace Bw
open PySem PySem.Spec PyProof.Rows L2 PySem.W
section
variable {X:Cx}
def BG6 (i j:Int):Prop:=0 < j∧j < 2 ^ 62
theorem mH:OpR X (binaryOp .FloorDiv) (rI BG6 fun i j=>.int (i / j)):=opI fun i j _ _ _ _ _ hc q=>by
 have h1:(0:Int) < j:=hc.1
 have h2:j < 2 ^ 62:=hc.2
 refine floordiv_int (by omega) (by rw [Int.fdiv_eq_ediv_of_nonneg i (by omega)]; exact q) (.inl (PyProof.noPylong_of_log2 ?_))
 have h0:j.natAbs≠0:=by omega
 have:j.natAbs.log2 < 62:=(Nat.log2_lt h0).mpr (by omega)
 omega
def AQ8:V→Bool
 | .int _=>true
 | .bl _=>true
 | _=>false
def AD2:V→Bool
 | .bl _=>true
 | _=>false
theorem AT4 {pins:List (Addr × Obj)}{σ:L2.St}{H:Hp}{s:Shared}{x:V}{c T:String}{b:Bool}{us:List Value}{Q:VK}(I:Inv X pins σ H s)(r:Vals [x,.ty c] us)(ty:TyOf X.K H x (.type T))(e:kitOne X.K (.type T) (.type c)=some b)(q:Q (.bl b) H) :
  wpAny (model X.prog X.w) X.A (call (.builtin "isinstance") us) (EP X pins σ Q) X.xe s:=by
 obtain ⟨u,w',rfl,rx,rc⟩:=zI r
 cases (show w'=Value.type c from rc)
 exact qH I rx ty e fun tk=>⟨.bl b,H,I.tok _,rfl,q⟩
end
structure Cal (P:Program) (w:World) (K:Frag) (mg:Str→Option Value) (base:Heap) (x:Str) (ps:List Str) (k:Nat) (sp:Sp):Prop where
 ex:∃ f fd,FnOk P w K mg base CX0 k f fd ps sp∧Binds K fd ps []∧keepIn K (.ref f)=true∧mg x=some (.ref f)
theorem aE {H:Hp}{p:Addr}(h:H p=none)(o:HO):Same H (upd H p o):=fun b u q=>by rw [aI (aR q h)]; exact q
def But (w:Addr)(H H':Hp):Prop:=∀ b o,b≠w→H b=some o→H' b=some o
theorem But.trans {w:Addr}{H H1 H2:Hp}(a:But w H H1)(b:But w H1 H2):But w H H2:=fun c o n h=>b c o n (a c o n h)
theorem But.upd {w:Addr}{H:Hp}(o:HO):But w H (upd H w o):=fun b u n h=>by rw [aI n]; exact h
theorem Same.but {w:Addr}{H H':Hp}(h:Same H H'):But w H H':=fun b o _ e=>h b o e
theorem BB9 {ns:List Int}{i:Int}(h0:0≤i)(h:i < ns.length):∃ z∈ns,atI (ns.map V.int) i=some (.int z):=by
 have hk:i.toNat < ns.length:=by omega
 have ek:i=((i.toNat:Nat):Int):=by omega
 refine ⟨ns[i.toNat],List.getElem_mem hk,?_⟩
 have q:atI (ns.map V.int) ((i.toNat:Nat):Int)=some (.int ns[i.toNat]):=wH (by rw [List.getElem?_map,List.getElem?_eq_getElem hk] <;> rfl)
 rwa [← ek] at q
theorem BC0 {ns:List Int}{i:Nat}{x:V}(h:(ns.map V.int)[i]?=some x):∃ c,x=.int c:=by
 rw [List.getElem?_map] at h
 cases e:ns[i]? with
 | none=>rw [e] at h; cases h
 | some c=>rw [e] at h; exact ⟨c,(Option.some.inj h).symm⟩
theorem sz8 {n:Nat}(h:n≤1000):n≤sizeLine:=Nat.le_of_lt (AD1 h)
section
variable {K:Frag}{ta tb tc te:TE}{tA tB':TT}{t u:TS}{tr:TA}{D:Ends}{σ:L2.St}{H:Hp}{Q:VK}{QB:Bool→Hp→Prop}{QA:List V→Hp→Prop}{v x y z:V}{i j:Nat}{g:TG}{QS:L2.St→Hp→Prop}
theorem AT5:BF8 t u D σ H=t { D with nx:=u D } σ H:=rfl
theorem AD3:AS6 D σ H=D.nx σ H:=rfl
theorem AT6:BF9 tA t u D σ H=tA σ H (fun b H1=>if b=true then t D σ H1 else u D σ H1):=rfl
theorem AT7:BE6 te D σ H=te σ H D.rt:=rfl
theorem AD4:BA6 D σ H=D.rt .non H:=rfl
theorem AD5:BA4 te D σ H=te σ H (fun _ H1=>D.nx σ H1):=rfl
theorem AT8:BE8 te g D σ H=te σ H (fun x H1=>g x σ H1 D.nx):=rfl
theorem wK:AL9 i v σ H QS=QS (σ.set i (some v)) H:=rfl
theorem AD6 {ts:BE7}:BK9 ta tb ts v σ H QS=ta σ H (fun o H1=>tb σ H1 (fun i H2=>ts o i v H2 (fun H3=>QS σ H3))):=rfl
theorem AT9:BF6 i σ H Q=∃ v,σ[i]?=some (some v)∧Q v H:=rfl
theorem w_c:tC v σ H Q=Q v H:=rfl
theorem BG7 {r:R2}:tOp r ta tb σ H Q=ta σ H (fun x H1=>tb σ H1 (fun y H2=>r x y H2 Q)):=rfl
theorem BG8 {r:V→Hp→VK→Prop}:tUn r ta σ H Q=ta σ H (fun x H1=>r x H1 Q):=rfl
theorem BG9 {f:Int→V}:rU f x H Q=∃ i,x=.int i∧Q (f i) H:=rfl
theorem AU0 {f:Int→Int→V}:rI0 f x y H Q=∃ i j,x=.int i∧y=.int j∧Q (f i j) H:=rfl
theorem BH0 {C:Int→Int→Prop}{f:Int→Int→V}:rI C f x y H Q=∃ i j,x=.int i∧y=.int j∧C i j∧Q (f i j) H:=rfl
theorem AD7:BB1 te σ H QB=te σ H (fun x H'=>∃ k,x=.bl k∧QB k H'):=rfl
theorem w_b:L2.tB te σ H QB=te σ H (fun x H1=>∃ c,x=.bl c∧QB c H1):=rfl
theorem AU1:BK3 tA tB' σ H QB=tA σ H (fun c H1=>if c=true then tB' σ H1 QB else QB false H1):=rfl
theorem BH1:tOr tA tB' σ H QB=tA σ H (fun c H1=>if c=true then QB true H1 else tB' σ H1 QB):=rfl
theorem w_not:BK4 tA σ H QB=tA σ H (fun c H1=>QB (!c) H1):=rfl
theorem AD8:BA2 ta tb σ H Q=ta σ H (fun x H1=>∃ c,x=.bl c∧if c=true then tb σ H1 Q else Q (.bl false) H1):=rfl
theorem AU2:BK5 ta tb σ H Q=ta σ H (fun x H1=>∃ c,x=.bl c∧if c=true then Q (.bl true) H1 else tb σ H1 Q):=rfl
theorem AD9:BA3 ta σ H Q=ta σ H (fun x H1=>∃ c,x=.bl c∧Q (.bl (!c)) H1):=rfl
theorem BH2:tIf tA ta tb σ H Q=tA σ H (fun c H1=>if c=true then ta σ H1 Q else tb σ H1 Q):=rfl
theorem AE0:AC3 ta tr σ H QA=ta σ H (fun x H1=>tr σ H1 (fun xs H2=>QA (x::xs) H2)):=rfl
theorem AU3:BB2 σ H QA=QA [] H:=rfl
theorem AU4:BL4 tr σ H Q=tr σ H (fun xs H1=>xs.length≤sizeLine∧∀ p,H1 p=none→Q (.ref p) (L2.upd H1 p (.tup xs))):=rfl
theorem AU5:BB4 tr σ H Q=tr σ H (fun xs H1=>xs.length≤sizeLine∧∀ p,H1 p=none→Q (.ref p) (L2.upd H1 p (.lst xs))):=rfl
theorem AE1 {sp:Sp}{dvs:List V}{E:XK}:zJ sp dvs E tr σ H Q=tr σ H (fun vs H1=>sp (vs++dvs) H1 Q E):=rfl
theorem BH3 {r:List V→Hp→VK→Prop}:tCB r tr σ H Q=tr σ H (fun vs H1=>r vs H1 Q):=rfl
theorem BH4:rEq x y H Q=(AM2 x y=true∧Q (.bl (decide (x=y))) H):=rfl
theorem BH5:rNe x y H Q=(AM2 x y=true∧Q (.bl (!decide (x=y))) H):=rfl
theorem BH6 {a b:Int}:AM2 (.int a) (.int b)=true:=rfl
theorem BH7 {a b:Bool}:AM2 (.bl a) (.bl b)=true:=rfl
theorem BH8 {a b:Str}:AM2 (.str a) (.str b)=true:=rfl
theorem BH9 {a:Int}:AM2 (.int a) .non=true:=rfl
theorem BI0 {a:Bool}:AM2 (.bl a) .non=true:=rfl
theorem AU6:BK2 ta σ H Q=ta σ H (fun x H1=>Q (.bl (decide (x=.non))) H1):=rfl
theorem AE2:BA1 ta σ H Q=ta σ H (fun x H1=>Q (.bl (!decide (x=.non))) H1):=rfl
theorem BI1 {r:V→Option Int→Option Int→Hp→VK→Prop}{tl th:TO}:tSl r te tl th σ H Q=te σ H (fun x H1=>tl σ H1 (fun l H2=>th σ H2 (fun u H3=>r x l u H3 Q))):=rfl
theorem AE3 {QO:Option Int→Hp→Prop}:BB5 te σ H QO=te σ H (fun x H1=>∃ i,x=.int i∧QO (some i) H1):=rfl
theorem tH {QO:Option Int→Hp→Prop}:AC7 σ H QO=QO none H:=rfl
theorem w_K {CX:CXT}{P:Program}{w:World}{mg:Str→Option Value}{base:Heap}{N:List Str}{qual:Str}{sc:Scope}{f:Addr}{cd:Value}{A:Around}{outer:List Env}{s:Shared}{H:Hp}{E:XK}:(uN CX P w K mg base N qual sc f cd A outer s H E).K=K:=rfl
def ForL (K:Frag)(a:Addr)(g:TG)(tb:TS)(D:Ends)(σ:L2.St)(H:Hp):Prop:=∃ W:Nat→Nat→L2.St→Hp→Prop,(∃ m,W 0 m σ H)∧∀ i m σ H,W i m σ H →
 ((Itl K a).stop i H∧D.nx σ H)∨((Itl K a).go i H∧∃ N:L2.St→Hp→Prop,(∀ σ' H',N σ' H'→∃ m',m' < m∧W (i+1) m' σ' H')∧∀ x H',(Itl K a).yld i H x H'→g x σ H' fun σ2 H2=>tb { D with nx:=N,ct:=N,bk:=D.nx } σ2 H2)
theorem AE4:BG1 (AS9 K ta) g t D σ H=ta σ H (fun x H1=>∃ a,x=.ref a∧(∃ xs,SqL K H1 a xs)∧ForL K a g t D σ H1):=rfl
theorem ForL.by {a:Addr}{xs:List V}(Pv:Nat→L2.St→Hp→Prop)(h0:Pv 0 σ H)(hl:∀ i σ H,i≤xs.length→Pv i σ H→SqL K H a xs)(hs:∀ i x σ H,xs[i]?=some x→Pv i σ H→g x σ H fun σ2 H2=>t { D with nx:=Pv (i+1),ct:=Pv (i+1),bk:=D.nx } σ2 H2)(hd:∀ σ H,Pv xs.length σ H→D.nx σ H):ForL K a g t D σ H:=AM0 Pv h0 hl hs hd
theorem whl (Pv:L2.St→Hp→Prop)(μ:L2.St→Hp→Nat)(h0:Pv σ H)(hs:∀ σ H,Pv σ H→tA σ H fun b H1=>if b=true then ∃ N:L2.St→Hp→Prop,(∀ σ' H',N σ' H'→∃ m',m' < μ σ H∧(m'=μ σ' H'∧Pv σ' H'))∧t { D with nx:=N,ct:=N,bk:=D.nx } σ H1 else D.nx σ H1):AQ4 tA t D σ H:=by
 refine ⟨fun m σ H=>m=μ σ H∧Pv σ H,⟨_,rfl,h0⟩,?_⟩
 rintro m σ H ⟨rfl,p⟩
 exact hs σ H p
theorem ixl {p:Addr}{xs:List V}{k:Int}(hS:SqL K H p xs)(hv:atI xs k=some v)(q:Q v H):BL5 K (.ref p) (.int k) H Q:=⟨p,xs,k,v,rfl,rfl,hS,hv,q⟩
theorem ixt {p:Addr}{xs:List V}{k:Int}(hS:SqT K H p xs)(hv:atI xs k=some v)(q:Q v H):BL6 K (.ref p) (.int k) H Q:=⟨p,xs,k,v,rfl,rfl,hS,hv,q⟩
theorem BF0 {p:Addr}{xs:List V}{k:Int}{QH:Hp→Prop}(h:H p=some (.lst xs))(hj:ixN xs.length k=some j)(q:QH (L2.upd H p (.lst (xs.set j v)))):BB6 (.ref p) (.int k) v H QH:=⟨p,xs,k,j,rfl,rfl,h,hj,q⟩
end
structure QOk (H:Hp) (p:Addr) (s e:Int):Prop where
 at_:H p=some (.tup [.int s,.int e])
 s0:0≤s
 s1:s≤1439
 e0:0≤e
 e1:e≤1439
 ne:s≠e
end Bw
set_option maxHeartbeats 1000000
namespace Bw
open PySem PySem.Spec PyProof.Rows L2 PySem.W
def C2 (o o':Obj):Prop:=∀ vs,o.data=.fields vs→∃ vs',o'.data=.fields vs'∧vs'[2]?=vs[2]?
theorem C2.refl (o:Obj):C2 o o:=fun vs e=>⟨vs,e,rfl⟩
theorem C2.trans {a b c:Obj}(x:C2 a b)(y:C2 b c):C2 a c:=fun vs e=>by
 obtain ⟨v1,e1,q1⟩:=x vs e
 obtain ⟨v2,e2,q2⟩:=y v1 e1
 exact ⟨v2,e2,q2.trans q1⟩
def AU7 (f:Obj→Obj):Prop:=∀ o,(f o).dict=o.dict∧((f o).isFreed=o.isFreed)∧C2 o (f o)
def DK (h h':Heap):Prop:=∀ b o,h.get? b=some o→∃ o',h'.get? b=some o'∧o'.dict=o.dict∧C2 o o'
theorem DK.refl (h:Heap):DK h h:=fun _ o e=>⟨o,e,rfl,C2.refl o⟩
theorem DK.trans {h1 h2 h3:Heap}(a:DK h1 h2)(b:DK h2 h3):DK h1 h3:=fun c o e=>by
 obtain ⟨o1,e1,d1,c1⟩:=a c o e
 obtain ⟨o2,e2,d2,c2⟩:=b c o1 e1
 exact ⟨o2,e2,d2.trans d1,c1.trans c2⟩
def KD {α:Type}:Sem α→Prop
 | .pure _=>True
 | .raise _=>True
 | .unsupported _=>True
 | .finish _=>True
 | .rule _ k=>KD (k ())
 | .at _ k=>KD (k ())
 | .load _ _ k=>∀ o,KD (k o)
 | .update _ _ f k=>AU7 f∧KD (k ())
 | .alloc _ k=>∀ b,KD (k b)
 | .loadIfAlive _ k=>∀ o,KD (k o)
 | .point _ k=>KD (k ())
 | .register _ _=>True
 | .fresh k=>∀ t,KD (k t)
 | .ask k=>∀ x,KD (k x)
 | .choose _ _ k=>∀ n,KD (k n)
 | .os _ _ k=>∀ x,KD (k x)
 | .call _ _ _ _ _=>False
 | .handled _ k=>∀ x,KD (k x)
 | .newGen _ k=>∀ n,KD (k n)
 | .genState _ k=>∀ x,KD (k x)
 | .resume _ _ _ _=>False
 | .yield _ _ _ _=>True
 | .stack k=>∀ x,KD (k x)
 | .fork _ _=>True
 | .thread k=>∀ n,KD (k n)
 | .await _ _ _ _ _=>True
theorem KD.bind {α β:Type}{t:Sem α}{f:α→Sem β}(h:KD t)(k:∀ x,KD (f x)):KD (t >>= f):=by
 show KD (t.bind f)
 induction t with
 | pure x=>exact k x
 | raise _ | unsupported _ | finish _=>trivial
 | rule _ _ ih | «at» _ _ ih | point _ _ ih=>exact ih _ h
 | load _ _ _ ih | alloc _ _ ih | loadIfAlive _ _ ih | fresh _ ih | ask _ ih | choose _ _ _ ih | os _ _ _ ih | handled _ _ ih | newGen _ _ ih | genState _ _ ih | stack _ ih | thread _ ih=>exact fun x=>ih x (h x)
 | update _ _ _ _ ih=>exact ⟨h.1,ih _ h.2⟩
 | register _ _ _ | yield _ _ _ _ _ | fork _ _ _ | await _ _ _ _ _ _=>trivial
 | call _ _ _ _ _ _ | resume _ _ _ _ _=>exact h.elim
theorem AE5 {h:Heap}{a:Addr}{f:Obj→Obj}(s:AU7 f):DK h (h.update a f):=fun b o e=>by
 by_cases c:b=a
 ·subst c
  refine ⟨f o,Heap.get?_update_self f e ?_,(s o).1,(s o).2.2⟩
  rw [(s o).2.1]
  unfold Heap.get? at e
  split at e
  ·cases e
  ·rename_i hn
   obtain ⟨cl,dd,da,sl⟩:=o
   cases da with
   | freed=>exact absurd e (fun z=>hn _ _ _ z)
   | _=>rfl
 ·exact ⟨o,by rw [Heap.get?_update_other _ _ (fun z=>c z.symm)]; exact e,rfl,C2.refl o⟩
theorem AU8 {h:Heap}{o:Obj}:DK h (h.push o):=fun b q e=>⟨q,Heap.get?_push_of_some _ e,rfl,C2.refl q⟩
theorem BI2 {M:Model}{Γ:PySem.Ctx}{α:Type}{t:Sem α}{Q:α→Pos→Shared→Prop}{E:Value→Pos→Shared→Prop}(k:KD t):∀ {h0:Heap}{p:Pos}{s:Shared},DK h0 s.heap→Sem.wp M Γ t Q E p s →
  Sem.wp M Γ t (fun x p' s'=>Q x p' s'∧DK h0 s'.heap) (fun v p' s'=>E v p' s'∧DK h0 s'.heap) p s:=by
 induction t with
 | pure x=>exact fun d w=>⟨w,d⟩
 | raise v=>exact fun d w=>⟨w,d⟩
 | unsupported _ | finish _ | register _ _ _ | yield _ _ _ _ _ | fork _ _ _ | await _ _ _ _ _ _=>exact fun _ w=>w
 | rule _ _ ih | «at» _ _ ih | point _ _ ih=>exact fun d w=>ih _ k d w
 | load _ _ _ ih=>exact fun d ⟨o,e,w⟩=>⟨o,e,ih _ (k o) d w⟩
 | alloc _ _ ih=>exact fun d w=>ih _ (k _) (d.trans AU8) w
 | loadIfAlive _ _ ih | fresh _ ih | ask _ ih | os _ _ _ ih | handled _ _ ih | newGen _ _ ih | stack _ ih | thread _ ih=>exact fun d w=>ih _ (k _) d w
 | choose _ _ _ ih=>exact fun d ⟨n,w⟩=>⟨n,ih _ (k _) d w⟩
 | genState _ _ ih=>exact fun d ⟨o,e,w⟩=>⟨o,e,ih _ (k _) d w⟩
 | update _ _ _ _ ih=>exact fun d ⟨e,w⟩=>⟨e,ih _ k.2 (d.trans (AE5 k.1)) w⟩
 | call _ _ _ _ _ _ | resume _ _ _ _ _=>exact k.elim
theorem mI {M:Model}{A:Around}{α:Type}{t:Sem α}{Q:α→Shared→Prop}{E:Value→Shared→Prop}{s:Shared}(k:KD t)(h:wpAny M A t Q E s) :
  wpAny M A t (fun x s'=>Q x s'∧DK s.heap s'.heap) (fun v s'=>E v s'∧DK s.heap s'.heap) s:=fun Γ p hΓ=>BI2 k (DK.refl _) (h Γ p hΓ)
section
variable {M:Model}{A:Around}{E:Value→Shared→Prop}{env:Env}
variable {nm q:Str}{C N:Addr}{bs bm:List Value}{hdct:Bool}{sn:List Str}{sub:List Value}{ab:Bool}{col:Option Bool}{dd:Option Addr}{k0 k1 k2 k3 k5:Option Value}{newId:String}
theorem jA {s:Shared}{x:Sem Value}{Q:Flow→Shared→Prop}(hbase:bm.contains (.type "BaseException")=true)(hh:A.handled=none)(h:wpAny M A x (fun v s₁=>∃ e oe vs,v=.ref e∧s₁.heap.get? C=some (excClassObj nm q C N bs bm hdct sn sub ab col dd k0 k1 k2 k3 k5 newId) ∧
   s₁.heap.get? e=some oe∧oe.cls=.ref C∧oe.data=.fields vs∧vs[1]?=some .none∧E (.ref e) s₁) E s) :
  wpAny M A (raiseStmt env (some x) none) Q E s:=by
 have hcB:(Value.ref C::bm).contains (.type "BaseException")=true:=by rw [List.contains_cons,hbase,Bool.or_true]
 unfold raiseStmt
 refine wpAny_bind (wpAny_mono h (fun v s₁ h₁=>?_) fun _ _ x=>x)
 obtain ⟨e,oe,vs,rfl,hC,he,hcl,hda,hv1,hE⟩:=h₁
 obtain ⟨hp,g,d,tk,os⟩:=s₁
 obtain ⟨oc,od,odt,osl⟩:=oe
 dsimp only at hcl hda
 subst hcl hda
 repeat (first | with_reducible refine wpAny_loadPart_at he ?_ | with_reducible refine wpAny_loadPart_at hC ?_ | (with_reducible refine wpAny_isSubtype_exc hC ?_; rw [hcB]) | wp_step)
 rw [hv1]
 repeat (first | wp_step)
 exact wpAny_raiseNew_none hh hE
end
theorem BC1 {f:Array Value→Array Value}(hf:∀ vs,(f vs)[2]?=vs[2]?):AU7 (Obj.mapFields f):=fun o=>by
 obtain ⟨oc,od,odt,osl⟩:=o
 cases odt with
 | fields vs=>exact ⟨rfl,rfl,fun ws e=>by cases e; exact ⟨_,rfl,hf _⟩⟩
 | _=>exact ⟨rfl,rfl,C2.refl _⟩
theorem wL {a:Addr}:KD (load a):=fun _=>trivial
theorem wM {v:Value}:KD (fieldsOf v):=by
 unfold fieldsOf
 split
 ·refine KD.bind wL fun o=>?_
  split <;> trivial
 ·trivial
theorem pU {v:Value}{i:Nat}:KD (field v i):=by
 unfold field
 refine KD.bind wM fun vs=>?_
 split <;> trivial
theorem jB {v x:Value}{i:Nat}(hi:i≠2:=by decide):KD (setField v i x):=by
 unfold setField
 split
 ·unfold updateField
  refine KD.bind wL fun o=>?_
  split
  ·split
   ·exact ⟨BC1 fun vs=>by rw [Array.getElem?_setIfInBounds_ne hi],trivial⟩
   ·trivial
  ·trivial
 ·trivial
theorem jW {v:Value}{f:Option Addr}:KD (setFlight v f):=by
 unfold setFlight
 refine KD.bind pU fun tb=>?_
 split
 ·exact jB (by decide)
 ·trivial
theorem AM9:KD underTheClaimsCaller:=by
 unfold underTheClaimsCaller
 first
  | exact KD.bind (fun _=>trivial) fun _=>trivial
  | (repeat (first | exact fun _=>trivial | trivial | refine KD.bind ?_ fun _=>?_ | split))
theorem AE6 {env:Env}{outer:List Env}:KD (behindIsImport env outer):=by
 unfold behindIsImport
 split
 ·trivial
 split
 ·trivial
 exact KD.bind pU fun _=>trivial
theorem wN {env:Env}{b:Bool}{outer:List Env}:KD (keptBack env b outer):=by
 unfold keptBack
 split
 ·split
  ·trivial
  ·exact KD.bind AM9 fun _=>trivial
 ·trivial
theorem yJ:∀ {l:List Env},KD (readyFrames l)
 | []=>trivial
 | env::outer=>by
  unfold readyFrames
  split
  ·refine KD.bind wL fun o=>?_
   split
   ·trivial
   ·refine KD.bind AE6 fun b=>KD.bind wN fun v=>KD.bind ⟨fun o=>?_,trivial⟩ fun _=>yJ
    refine ⟨rfl,?_,fun vs e=>⟨vs,e,rfl⟩⟩
    obtain ⟨oc,od,odt,osl⟩:=o
    cases odt <;> rfl
  ·trivial
theorem sI {env:Env}:KD (PySem.frameOf env):=by
 unfold PySem.frameOf
 refine KD.bind (show KD frameEnvs from KD.bind (t:=stack) (fun _=>trivial) fun _=>trivial) fun l=>KD.bind ?_ fun r=>?_
 ·unfold frameObject
  split
  ·trivial
  ·exact KD.bind yJ fun _=>trivial
 ·split <;> trivial
theorem yK {f:Addr}{b:Bool}:KD (entryPlaceOf f b):=by
 unfold entryPlaceOf
 refine KD.bind (t:=stack) (fun _=>trivial) fun l=>?_
 split <;> trivial
theorem AU9 {n:String}{dt:Data}:KD (newObjAsIs (.type n) dt):=by
 unfold newObjAsIs
 refine KD.bind (t:=alloc _) (fun _=>trivial) fun _=>?_
 trivial
theorem yL {a b c d e:Value}{l:List Value}:KD (EntryCells.newEntry a b c d e l):=by
 unfold EntryCells.newEntry newFields newObj
 dsimp only
 generalize ([a,b,c,d,e]++if l.isEmpty=true then List.replicate 6 Value.none else l).toArray=z
 split
 ·trivial
 ·exact AU9
theorem AE7 {v:Value}{env:Env}:KD (noteFrame v env):=by
 unfold noteFrame
 split
 ·refine KD.bind pU fun hd=>?_
  dsimp only
  split
  ·refine KD.bind pU fun x=>?_
   split
   ·trivial
   ·exact KD.bind (jB (by decide)) fun _=>KD.bind sI fun _=>KD.bind yK fun _=>KD.bind yL fun _=>jB (by decide)
  ·exact KD.bind sI fun _=>KD.bind yK fun _=>KD.bind yL fun _=>jB (by decide)
 ·trivial
theorem sJ {v:Value}{env:Env}:KD (leaving env v):=KD.bind AE7 fun _=>jW
abbrev vbm:List Value:=[.type "ValueError",.type "Exception",.type "BaseException",.type "object"]
theorem yM {P:Program}{w:World}{H:Hp}{h:Heap}{a:Addr}{o:HO}(x:ObjOk P w H h a o):∃ ob,h.get? a=some ob:=by
 cases o with
 | lst xs=>exact ⟨_,x.2.choose_spec.choose_spec.2⟩
 | tup xs=>exact let ⟨_,_,_,ob,e,_⟩:=x; ⟨ob,e⟩
 | dK kvs=>exact let ⟨_,_,_,_,ob,_,_,e,_⟩:=x; ⟨ob,e⟩
 | dT kvs=>exact let ⟨_,_,_,_,ob,_,_,e,_⟩:=x; ⟨ob,e⟩
 | set S n=>exact let ⟨ob,_,_,_,e,_⟩:=x; ⟨ob,e⟩
 | ins C dx fs=>exact let ⟨_,_,_,e,_⟩:=x; ⟨_,e⟩
 | own y=>exact x
 | xd fs=>exact let ⟨_,⟨ob,_,_,e,_⟩,_⟩:=x; ⟨ob,e⟩
 | rng lo hi=>exact let ⟨_,_,_,e⟩:=x; ⟨_,e⟩
 | frz ob u=>exact ⟨ob,x.1⟩
 | tbl ps=>exact ⟨_,show h.get? a=some _ from x⟩
 | met f y=>exact ⟨_,show h.get? a=some _ from x⟩
 | ext φ=>exact x.2.1
section
variable {M:Model}{A:Around}{E:Value→Shared→Prop}{s:Shared}
theorem zL {base:Heap}{env:Env}{outer:List Env}{L e:Addr}{cls a0:Value}{Q:Unit→Shared→Prop}(hfr:A.frames=some (env::outer))(hf:env.frame=some L)(hfl:Heap.FlyingW base (env::outer) e cls a0 s.heap)(hQ:∀ h',Heap.FlyingW base outer e cls a0 h'→s.heap.UpToSlots h'→DK s.heap h'→Q () { s with heap:=h' }):wpAny M A (leaving env (.ref e)) Q E s :=
 wpAny_mono (mI sJ (wpAny_leaves_onW (Q:=fun _ s'=>∃ h',s'={ s with heap:=h' }∧Heap.FlyingW base outer e cls a0 h'∧s.heap.UpToSlots h') (E:=E) hfr hf hfl fun h' a b=>⟨h',rfl,a,b⟩))
  (fun _ s' ⟨⟨h',e1,a,b⟩,dk⟩=>by subst e1; exact hQ h' a b dk) fun _ _ x=>x.1
theorem qJ {base:Heap}{env:Env}{outer:List Env}{L e:Addr}{cls a0:Value}{Q:Unit→Shared→Prop}(hfr:A.frames=some (env::outer))(hf:env.frame=some L)(hfl:Heap.FlyingW base (env::outer) e cls a0 s.heap)(hQ:∀ h',Heap.HeldW base (env::outer) e cls a0 L h'→s.heap.UpToSlots h'→DK s.heap h'→Q () { s with heap:=h' }):wpAny M A (noteFrame (.ref e) env) Q E s :=
 wpAny_mono (mI AE7 (wpAny_looks_onW (Q:=fun _ s'=>∃ h',s'={ s with heap:=h' }∧Heap.HeldW base (env::outer) e cls a0 L h'∧s.heap.UpToSlots h') (E:=E) hfr hf hfl fun h' a b=>⟨h',rfl,a,b⟩))
  (fun _ s' ⟨⟨h',e1,a,b⟩,dk⟩=>by subst e1; exact hQ h' a b dk) fun _ _ x=>x.1
theorem AE8 {base:Heap}{l:List Env}{e L:Addr}{cls a0:Value}{Q:Unit→Shared→Prop}(hh:Heap.HeldW base l e cls a0 L s.heap)(hQ:∀ h',Heap.FlyingW base l e cls a0 h'→s.heap.UpToSlots h'→DK s.heap h'→Q () { s with heap:=h' }):wpAny M A (setFlight (.ref e) none) Q E s :=
 wpAny_mono (mI jW (wpAny_landsW (Q:=fun _ s'=>∃ h',s'={ s with heap:=h' }∧Heap.FlyingW base l e cls a0 h'∧s.heap.UpToSlots h') (E:=E) hh fun h' a b=>⟨h',rfl,a,b⟩))
  (fun _ s' ⟨⟨h',e1,a,b⟩,dk⟩=>by subst e1; exact hQ h' a b dk) fun _ _ x=>x.1
theorem jX {base:Heap}{l:List Env}{e:Addr}{cls a0:Value}{Q:Unit→Shared→Prop}(hh:Heap.FlyingW base l e cls a0 s.heap)(hQ:∀ h',Heap.FlyingW base l e cls a0 h'→s.heap.UpToSlots h'→DK s.heap h'→Q () { s with heap:=h' }):wpAny M A (setFlight (.ref e) none) Q E s :=
 wpAny_mono (mI jW (lands_againW (Q:=fun _ s'=>∃ h',s'={ s with heap:=h' }∧Heap.FlyingW base l e cls a0 h'∧s.heap.UpToSlots h') (E:=E) hh fun h' a b=>⟨h',rfl,a,b⟩))
  (fun _ s' ⟨⟨h',e1,a,b⟩,dk⟩=>by subst e1; exact hQ h' a b dk) fun _ _ x=>x.1
theorem tI {base:Heap}{env:Env}{outer:List Env}{L e:Addr}{oe:Obj}{vs:Array Value}{a0:Value}{Q:Unit→Shared→Prop}(hfr:A.frames=some (env::outer))(hl:s.heap.FunFrames base (env::outer))(hf:env.frame=some L)(he:s.heap.get? e=some oe)(hkb:base.StaysIn s.heap)(hen:base.get? e=none)(hd:oe.data=.fields vs)(h1:vs[1]?=some .none)(h0:vs[0]?=some a0)(hQ:∀ h',Heap.FlyingW base outer e oe.cls a0 h'→s.heap.UpToSlots h'→DK s.heap h'→Q () { s with heap:=h' }):wpAny M A (leaving env (.ref e)) Q E s :=
 wpAny_mono (mI sJ (wpAny_leaving_firstW (Q:=fun _ s'=>∃ h',s'={ s with heap:=h' }∧Heap.FlyingW base outer e oe.cls a0 h'∧s.heap.UpToSlots h') (E:=E) hfr hl hf he hkb hen hd h1 h0
  fun h' hL=>let ⟨k1,⟨_,_,k2⟩,k3,k4⟩:=hL; ⟨h',rfl,⟨k1,hen,k2,k3⟩,k4⟩))
  (fun _ s' ⟨⟨h',e1,a,b⟩,dk⟩=>by subst e1; exact hQ h' a b dk) fun _ _ x=>x.1
end
def ChG (g:Nat)(h:Heap)(H:Hp)(vs:Array Value):Prop:=(g=0→vs[2]?=some .none)∧(g=1→vs[2]?=some .none∨∃ y oy ys,vs[2]?=some (.ref y)∧h.get? y=some oy∧H y=none∧oy.data=.fields ys∧ys[2]?=some .none)
theorem ChG.of0 {g:Nat}{h:Heap}{H:Hp}{vs:Array Value}(e:vs[2]?=some .none):ChG g h H vs:=⟨fun _=>e,fun _=>.inl e⟩
theorem ChG.kd {g:Nat}{h h':Heap}{H:Hp}{vs vs':Array Value}(q:ChG g h H vs)(dk:DK h h')(e:vs'[2]?=vs[2]?):ChG g h' H vs':=⟨fun z=>e.trans (q.1 z),fun z=>by
 rcases q.2 z with a | ⟨y,oy,ys,a,b,n,c,d⟩
 ·exact .inl (e.trans a)
 ·obtain ⟨oy',b',_,c'⟩:=dk y oy b
  obtain ⟨ys',d',e'⟩:=c' ys c
  exact .inr ⟨y,oy',ys',e.trans a,b',n,d',e'.trans d⟩⟩
def lC (P:Program)(w:World)(c:Nat):CXT:=fun outer H s E e s' =>
 ∃ (x:Addr) (cls a0:Value) (dx:Option Addr) (H':Hp) (B:Heap),e=.ref x∧s'.os=s.os∧AllBare s'.gens∧Un (frs outer) [] H H' s.heap s'.heap∧HOk P w H' s'.heap∧Heap.FlyingW B outer x cls a0 s'.heap ∧
  (∀ b u,H' b=some u→∃ o,B.get? b=some o)∧(∀ b o,s.heap.get? b=some o→H b=none→b ∉ frs outer→B.get? b=some o)∧(∀ b o,s.heap.get? b=some o→b ∉ frs outer→∃ o',B.get? b=some o')∧(∃ oe,s'.heap.get? x=some oe∧oe.dict=dx∧(c < 2→∃ vs,oe.data=.fields vs∧ChG c s'.heap H' vs))∧E cls dx H'
abbrev CXF (P:Program)(w:World):CXT:=lC P w 0
theorem AE9 {P:Program}{w:World}{c:Nat}{outer:List Env}{H:Hp}{s s':Shared}{E:XK}{e:Value}(h:lC P w 0 outer H s E e s'):lC P w c outer H s E e s':=by
 obtain ⟨x,cls,a0,dx,H',B,rfl,os,bare,un,hok,fl,cT,cO,cA,⟨oe,hoe,hdx,hc⟩,hE⟩:=h
 exact ⟨x,cls,a0,dx,H',B,rfl,os,bare,un,hok,fl,cT,cO,cA,⟨oe,hoe,hdx,fun _=>by obtain ⟨vs,a,b⟩:=hc (by decide); exact ⟨vs,a,ChG.of0 (b.1 rfl)⟩⟩,hE⟩
theorem AQ9 {P:Program}{w:World}{outer:List Env}{H H':Hp}{h0 g h2 B:Heap}(un:Un (frs outer) [] H H' h0 g)(hok:HOk P w H' g)(sg:B.StaysIn g)(fr:g.FunFrames B outer)(cT:∀ b u,H' b=some u→∃ o,B.get? b=some o)(cO:∀ b o,h0.get? b=some o→H b=none→b ∉ frs outer→B.get? b=some o)(cA:∀ b o,h0.get? b=some o→b ∉ frs outer→∃ o',B.get? b=some o')(sh:B.StaysIn h2)(up:g.UpToSlots h2):Un (frs outer) [] H H' h0 h2∧HOk P w H' h2:=by
 have nf:∀ b∈frs outer,∀ o,g.get? b=some o→∀ vs,o.data≠.fields vs:=fun b hb o ho vs hd=>by
  obtain ⟨_,o',ho',hn⟩:=fr.mem hb
  rw [ho] at ho'
  cases ho'
  exact hn vs hd
 refine ⟨⟨fun b o q n hb _=>sh b o (cO b o q n hb),fun b o q n hb hx=>?_,un.free,fun b o q hx=>?_,un.tups,un.frzs,un.tbls⟩,fun b u e=>?_⟩
 ·obtain ⟨sl,e1⟩:=un.slot b o q n hb hx
  obtain ⟨sl2,e2⟩:=up b _ e1 (nf b hb _ e1)
  exact ⟨sl2,e2⟩
 ·by_cases hb:b∈frs outer
  ·obtain ⟨o',e1⟩:=un.there b o q hx
   obtain ⟨sl2,e2⟩:=up b _ e1 (nf b hb _ e1)
   exact ⟨_,e2⟩
  ·obtain ⟨o',e1⟩:=cA b o q hb
   exact ⟨o',sh _ _ e1⟩
 ·refine (hok b u e).stay (fun c v hc r=>?_) (fun _ q=>q) fun _ _ q=>q
  have tr:∃ u',H' c=some u':=by
   rcases hc with rfl | hc
   ·exact ⟨_,e⟩
   ·exact ⟨_,hc⟩
  obtain ⟨u',hu⟩:=tr
  obtain ⟨o',e1⟩:=cT c u' hu
  have e2:=sg _ _ e1
  rw [r] at e2
  cases e2
  exact sh _ _ e1
section
variable {X:Cx}{pins:List (Addr × Obj)}{σ:L2.St}{H H':Hp}{s:Shared}{h2 B:Heap}
theorem AR0 (I:Inv X pins σ H s)(hex:X.ex=[])(un:Un (frs X.stack) [] H H' s.heap h2)(cO:∀ b o,s.heap.get? b=some o→H b=none→b ∉ frs X.stack→B.get? b=some o)(cA:∀ b o,s.heap.get? b=some o→b ∉ frs X.stack→∃ o',B.get? b=some o') :
  Un (frs X.outer) [] X.H₀ H' X.s₀.heap h2∧(∀ b o,X.s₀.heap.get? b=some o→X.H₀ b=none→b ∉ frs X.outer→B.get? b=some o)∧∀ b o,X.s₀.heap.get? b=some o→b ∉ frs X.outer→∃ o',B.get? b=some o':=by
 have nx:∀ b:Addr,b ∉ X.ex:=fun b z=>by rw [hex] at z; cases z
 have nl:∀ b o,X.s₀.heap.get? b=some o→b ∉ frs X.outer→b ∉ frs X.stack:=fun b o q hb z=>by
  rcases List.mem_cons.mp (I.stkSub b z) with e | e
  ·exact absurd (Nat.lt_of_lt_of_le (Heap.lt_size q) I.ok.above) (by rw [e]; exact Nat.lt_irrefl _)
  ·exact hb e
 have ne:∀ b:Addr,b ∉ ([]:List Addr):=fun b=>by simp
 refine ⟨⟨fun b o q n hb _=>?_,fun b o q n hb _=>?_,fun b o q n _=>?_,fun b o q _=>?_,fun b xs q=>un.tups b xs (I.base.tups b xs q),fun b o u q=>un.frzs b o u (I.base.frzs b o u q),fun b ps q=>?_⟩,fun b o q n hb=>?_,fun b o q hb=>?_⟩
 ·exact un.keep b o (I.base.keep b o q n hb (nx b)) (I.base.free b o q n (nx b)) (nl b o q hb) (ne b)
 ·obtain ⟨sl,e1⟩:=I.base.slot b o q n hb (nx b)
  obtain ⟨sl2,e2⟩:=un.any e1 (I.base.free b o q n (nx b)) (ne b)
  exact ⟨sl2,e2⟩
 ·obtain ⟨o',e1⟩:=I.base.there b o q (nx b)
  exact un.free b o' e1 (I.base.free b o q n (nx b)) (ne b)
 ·obtain ⟨o',e1⟩:=I.base.there b o q (nx b)
  exact un.there b o' e1 (ne b)
 ·obtain ⟨m1,e1⟩:=I.base.tbls b ps q
  obtain ⟨m2,e2⟩:=un.tbls b _ e1
  exact ⟨m1++m2,by rw [e2,Array.append_assoc]⟩
 ·exact cO b o (I.base.keep b o q n hb (nx b)) (I.base.free b o q n (nx b)) (nl b o q hb)
 ·obtain ⟨o',e1⟩:=I.base.there b o q (nx b)
  exact cA b o' e1 (nl b o q hb)
theorem lD {c:Nat}{s':Shared}{e:Addr}{oe:Obj}{vs:Array Value}{a0:Value}{E:XK}{F:Value→Shared→Prop}(I:Inv X pins σ H s)(hst:X.stack=X.env::X.outer)(hf:X.env.frame=some X.env.locals)(hex:X.ex=[])(os:s'.os=s.os)(bare:AllBare s'.gens)(un:Un (frs X.stack) [] H H' s.heap s'.heap)(hok:HOk X.prog X.w H' s'.heap)(fe:s.heap.get? e=none)(nH:H' e=none)(he:s'.heap.get? e=some oe)(hd:oe.data=.fields vs)(h1:vs[1]?=some .none)(h0:vs[0]?=some a0)(hch:c < 2→ChG c s'.heap H' vs)(hE:E oe.cls oe.dict H') :
  wpAny (model X.prog X.w) X.A (leaving X.env (.ref e)) (fun _ s''=>lC X.prog X.w c X.outer X.H₀ X.s₀ E (.ref e) s'') F s':=by
 have I3:Inv X pins σ H' s':=I.call' (ch:=[]) os un hok bare (fun b z=>absurd z (by simp))
 have hin:∀ env∈X.stack,∀ a,env.frame=some a→a∈e::frs X.stack:=fun env he a ha=>List.mem_cons_of_mem _ (List.mem_filterMap.mpr ⟨env,he,ha⟩)
 have hl:s'.heap.FunFrames (hideAll s'.heap (e::frs X.stack)) X.stack:=funFrames_hide I3.stack hin
 have hkb:(hideAll s'.heap (e::frs X.stack)).StaysIn s'.heap:=fun b o q=>of_hideAll _ q
 have hen:(hideAll s'.heap (e::frs X.stack)).get? e=none:=hideAll_none _ (List.mem_cons_self ..)
 have nb:∀ b o,s.heap.get? b=some o→b≠e:=fun b o q z=>by rw [z,fe] at q; cases q
 refine tI (base:=hideAll s'.heap (e::frs X.stack)) (outer:=X.outer) (L:=X.env.locals) (by rw [← hst]; exact I.ok.frames) (by rw [← hst]; exact hl) hf he hkb hen hd h1 h0 fun h2 fl up dk=>?_
 have cT:∀ b u,H' b=some u→∃ o,(hideAll s'.heap (e::frs X.stack)).get? b=some o:=fun b u q=>by
  obtain ⟨o,ho⟩:=yM (hok b u q)
  refine ⟨o,hideAll_get _ ho fun z=>?_⟩
  rcases List.mem_cons.mp z with y | y
  ·rw [y,nH] at q; cases q
  ·rw [I3.stkFree b y] at q; cases q
 have cO:∀ b o,s.heap.get? b=some o→H b=none→b ∉ frs X.stack→(hideAll s'.heap (e::frs X.stack)).get? b=some o:=fun b o q n hb =>
  hideAll_get _ (un.keep b o q n hb (by simp)) fun z=>(List.mem_cons.mp z).elim (nb b o q) hb
 have cA:∀ b o,s.heap.get? b=some o→b ∉ frs X.stack→∃ o',(hideAll s'.heap (e::frs X.stack)).get? b=some o':=fun b o q hb=>by
  obtain ⟨o',q'⟩:=un.there b o q (by simp)
  exact ⟨o',hideAll_get _ q' fun z=>(List.mem_cons.mp z).elim (nb b o q) hb⟩
 obtain ⟨un1,hok1⟩:=AQ9 (P:=X.prog) (w:=X.w) (H:=H) (H':=H') (h0:=s.heap) (g:=s'.heap) un hok hkb hl cT cO cA fl.1 up
 obtain ⟨un2,cO2,cA2⟩:=AR0 I hex un1 cO cA
 obtain ⟨oe',he',hd',c2⟩:=dk e oe he
 exact ⟨e,oe.cls,a0,oe.dict,H',_,rfl,os.trans I.os,bare,un2,hok1,fl,cT,cO2,cA2,⟨oe',he',hd',fun z=>by obtain ⟨vs',q1,q2⟩:=c2 vs hd; exact ⟨vs',q1,(hch z).kd dk q2⟩⟩,hE⟩
theorem zM {c:Nat}{h':Heap}{e:Addr}{cls:Value}{args:List Value}{E:XK}{F:Value→Shared→Prop}(I:Inv X pins σ H s)(hst:X.stack=X.env::X.outer)(hf:X.env.frame=some X.env.locals)(hex:X.ex=[])(hx:Heap.MadeExcOf s.heap h' e cls args)(hE:E cls none H) :
  wpAny (model X.prog X.w) X.A (leaving X.env (.ref e)) (fun _ s''=>lC X.prog X.w c X.outer X.H₀ X.s₀ E (.ref e) s'') F { s with heap:=h' }:=by
 obtain ⟨t,he,_,_⟩:=hx.there
 have nH:H e=none:=by
  cases z:H e with
  | none=>rfl
  | some u =>
   obtain ⟨o,ho⟩:=yM (I.hok e u z)
   rw [hx.new] at ho
   cases ho
 have hok:HOk X.prog X.w H h':=fun b u q=>(I.hok b u q).stay (fun c v _ r=>hx.keeps _ _ r) (fun _ q=>q) fun _ _ q=>q
 exact lD (s':={ s with heap:=h' }) I hst hf hex rfl I.bare ⟨fun b o q _ _ _=>hx.keeps _ _ q,fun b o q _ _ _=>⟨o.slots,hx.keeps _ _ q⟩,fun _ _ _ n _=>n,fun b o q _=>⟨o,hx.keeps _ _ q⟩,fun _ _ q=>q,fun _ _ _ q=>q,fun b ps q=>⟨#[],by rw [Array.append_empty]; exact q⟩⟩ hok hx.new nH he rfl rfl rfl (fun _=>ChG.of0 rfl) hE
theorem oB {c:Nat}{s':Shared}{e:Value}{E:XK}{F:Value→Shared→Prop}(I:Inv X pins σ H s)(hst:X.stack=X.env::X.outer)(hf:X.env.frame=some X.env.locals)(hex:X.ex=[])(hx:lC X.prog X.w c X.stack H s E e s') :
  wpAny (model X.prog X.w) X.A (leaving X.env e) (fun _ s''=>lC X.prog X.w c X.outer X.H₀ X.s₀ E e s'') F s':=by
 obtain ⟨x,cls,a0,dx,H',B,rfl,os,bare,un,hok,fl,cT,cO,cA,⟨oe,hoe,hdx⟩,hE⟩:=hx
 have fl':=fl
 rw [hst] at fl'
 refine zL (base:=B) (outer:=X.outer) (by rw [← hst]; exact I.ok.frames) hf fl' fun h2 fl2 up dk=>?_
 obtain ⟨un1,hok1⟩:=AQ9 (P:=X.prog) (w:=X.w) un hok fl.1 fl.2.2.1 cT cO cA fl2.1 up
 obtain ⟨un2,cO2,cA2⟩:=AR0 I hex un1 cO cA
 obtain ⟨oe2,hoe2,hd2,c2⟩:=dk x oe hoe
 exact ⟨x,cls,a0,dx,H',B,rfl,os.trans I.os,bare,un2,hok1,fl2,cT,cO2,cA2,⟨oe2,hoe2,hd2.trans hdx.1,fun z=>by obtain ⟨vs,q1,q2⟩:=hdx.2 z; obtain ⟨vs',q3,q4⟩:=c2 vs q1; exact ⟨vs',q3,q2.kd dk q4⟩⟩,hE⟩
end
abbrev sK (c:Nat)(P:Program)(w:World)(K:Frag)(mg:Str→Option Value)(base:Heap)(N:List Str)(qual:Str)(sc:Scope)(f:Addr)(cdv:Value)(A:Around)(outer:List Env)(s:Shared)(H:Hp)(E:XK):Cx :=
 uN (lC P w c) P w K mg base N qual sc f cdv A outer s H E
abbrev cxX (P:Program)(w:World)(K:Frag)(mg:Str→Option Value)(base:Heap)(N:List Str)(qual:Str)(sc:Scope)(f:Addr)(cdv:Value)(A:Around)(outer:List Env)(s:Shared)(H:Hp)(E:XK):Cx :=
 uN (CXF P w) P w K mg base N qual sc f cdv A outer s H E
section
variable {P:Program}{w:World}{K:Frag}{mg:Str→Option Value}{base:Heap}{N:List Str}{qual:Str}{sc:Scope}{f:Addr}{cdv:Value}{A:Around}{outer:List Env}{s:Shared}{H:Hp}{E:XK}
theorem AR1 {c:Nat}:hJ (lC P w c) (sK c P w K mg base N qual sc f cdv A outer s H E) E:=fun pins σ H1 s1 e s' I hx=>oB I rfl rfl rfl hx
theorem dC {c:Nat}:hJ (CXF P w) (sK c P w K mg base N qual sc f cdv A outer s H E) E:=fun pins σ H1 s1 e s' I hx=>oB I rfl rfl rfl (AE9 hx)
theorem dE:hJ (CXF P w) (cxX P w K mg base N qual sc f cdv A outer s H E) E:=fun pins σ H1 s1 e s' I hx=>oB I rfl rfl rfl hx
theorem BC2 {pins:List (Addr × Obj)}{σ:L2.St}{H1:Hp}{s1:Shared}{h':Heap}{e:Addr}{cls:Value}{args:List Value}(I:Inv (cxX P w K mg base N qual sc f cdv A outer s H E) pins σ H1 s1)(hx:Heap.MadeExcOf s1.heap h' e cls args)(hE:E cls none H1):(cxX P w K mg base N qual sc f cdv A outer s H E).xe (.ref e) { s1 with heap:=h' }:=zM I rfl rfl rfl hx hE
theorem pB {X:Cx}{c:Nat}:hJ (lC P w c) X E0:=fun pins σ H1 s1 e s' I hx=>by
 obtain ⟨_,_,_,_,_,_,_,_,_,_,_,_,_,_,_,_,hE⟩:=hx
 exact hE.elim
theorem FnOk.up {k:Nat}{fd:FuncData}{ps:List Str}{sp:Sp}{CX:CXT}(F:FnOk P w K mg base CX0 k f fd ps sp):FnOk P w K mg base CX k f fd ps sp :=
 ⟨F.len,fun A outer s H args us vs Q E hr he hb hv hs=>codeAny_mono (F.run A outer s H args us vs Q E hr he hb hv hs) fun r s' q=>by
  cases r with
  | ok fl=>cases fl <;> exact q
  | error e=>exact (show False from q).elim⟩
theorem FnOk.of0 {c:Nat}{k:Nat}{fd:FuncData}{ps:List Str}{sp:Sp}(F:FnOk P w K mg base (CXF P w) k f fd ps sp):FnOk P w K mg base (lC P w c) k f fd ps sp :=
 ⟨F.len,fun A outer s H args us vs Q E hr he hb hv hs=>codeAny_mono (F.run A outer s H args us vs Q E hr he hb hv hs) fun r s' q=>by
  cases r with
  | ok fl=>cases fl <;> exact q
  | error e=>exact AE9 q⟩
theorem Fun.okW {c:Nat}{x qual:Str}{st:Stmt}{fd:FuncData}{ps:List Str}{k:Nat}{sp:Sp}(F:Fun K x qual st f fd)(S:FnScope N ps (aA st))(len:∀ vs H Q E,sp vs H Q E→vs.length=ps.length)(hbody:∀ (cdv:Value) (A:Around) (outer:List Env) (s:Shared) (H:Hp) (vs:List V) (Q:VK) (E:XK),Room k (A.deeper (envOfC qual (aA st) s.heap.objs.size f cdv))→sp vs H Q E →
   ∃ t,PSs (sK c P w K mg base N qual (aA st) f cdv A outer s H E) (aL st) t∧t { nx:=fun _ H'=>Q .non H',rt:=Q } (L2.uY N vs) H):FnOk P w K mg base (lC P w c) (k+1) f fd ps sp:=by
 obtain ⟨oc,od,kV,doc,pm,an,cdv,ct,osl,rfl,lk,hcd⟩:=F.ex
 exact AC6 lk hcd S len fun A outer s H vs Q E hr hsp=>hbody cdv A outer s H vs Q E hr hsp
theorem Fun.okX {x qual:Str}{st:Stmt}{fd:FuncData}{ps:List Str}{k:Nat}{sp:Sp}(F:Fun K x qual st f fd)(S:FnScope N ps (aA st))(len:∀ vs H Q E,sp vs H Q E→vs.length=ps.length)(hbody:∀ (cdv:Value) (A:Around) (outer:List Env) (s:Shared) (H:Hp) (vs:List V) (Q:VK) (E:XK),Room k (A.deeper (envOfC qual (aA st) s.heap.objs.size f cdv))→sp vs H Q E →
   ∃ t,PSs (cxX P w K mg base N qual (aA st) f cdv A outer s H E) (aL st) t∧t { nx:=fun _ H'=>Q .non H',rt:=Q } (L2.uY N vs) H):FnOk P w K mg base (CXF P w) (k+1) f fd ps sp:=by
 obtain ⟨oc,od,kV,doc,pm,an,cdv,ct,osl,rfl,lk,hcd⟩:=F.ex
 exact AC6 lk hcd S len fun A outer s H vs Q E hr hsp=>hbody cdv A outer s H vs Q E hr hsp
end
theorem tJ {K:Frag}{h:Heap}{C:Addr}{bmB:List Value}{nw:String}(Z:K.In h)(q:excIn K C bmB nw=true) :
  ∃ bm N nm qn bs hd sn sub ab col dd k0 k1 k2 k3 k5 mN,h.get? C=some (excClassObj nm qn C N bs bm hd sn sub ab col dd k0 k1 k2 k3 k5 nw)∧h.Ns N mN∧mN "__init__"=none∧OwnTail h bmB bm:=by
 unfold excIn at q
 split at q
 ·rename_i dd cd sl lk
  split at q
  ·rename_i C' bm k0 k1 k2 k3 n k5 hm hs
   simp only [Bool.and_eq_true,beq_iff_eq,Bool.not_eq_true'] at q
   obtain ⟨⟨⟨⟨⟨z1,z2⟩,z3⟩,z4⟩,z5⟩,z6⟩:=q
   subst z1 z2
   obtain ⟨nm,bs,mro,ns,qn,hd,sn,sub,ab,col,del⟩:=cd
   dsimp only at hm z3 z5 z6
   subst hm z3
   obtain ⟨l⟩:=sl
   dsimp only at hs
   subst hs
   exact ⟨bm,ns,nm,qn,bs,hd,sn,sub,ab,col,dd,k0,k1,k2,k3,k5,h.nsMap ns,Z _ _ lk,.of_isNs (isNs_of_in Z z5),nsMap_none_of_in Z z5 z6,tail_of_in Z z4⟩
  ·exact absurd q Bool.false_ne_true
 ·exact absurd q Bool.false_ne_true
def AR2 (R:Hp→Prop):TS:=fun _ _ H=>R H
theorem AN0 {X:Cx}{x:Str}{C:Addr}{m:Str}{j:Nat}{np ap cpos pos:Pos}{R:Hp→Prop}(hc:X.calm=true)(hg:Gl X x)(hm:X.mg x=some (.ref C))(q:excIn X.K C vbm "ValueError.__new__"=true)(hxe:∀ pins σ H s h' e args,Inv X pins σ H s→Heap.MadeExcOf s.heap h' e (.ref C) args→R H→X.xe (.ref e) { s with heap:=h' })(hd:(x == ("__debug__":Str))=false:=by decide) :
  PS X (.Raise (some (.Call (.Name x np) [.Constant (.str m) j ap] [] cpos)) none pos) (AR2 R):=by
 intro pins s σ H D I h
 obtain ⟨bm,N,nm,qn,bs,hd',sn,sub,ab,col,dd,k0,k1,k2,k3,k5,mN,hC,hN,hni,T⟩:=tJ I.kIn q
 refine wpAny_Raise_call_subT (C:=C) (nm:=nm) (q:=qn) (N:=N) (bs:=bs) (bm:=bm) (hdct:=hd') (sn:=sn) (sub:=sub) (ab:=ab) (col:=col) (dd:=dd) (k0:=k0) (k1:=k1) (k2:=k2) (k3:=k3) (k5:=k5) PySem.F.excBase_ValueError (mN:=mN) (T.hasType PySem.F.excBase_ValueError.hasBase) (I.ok.hd hc) rfl hni (fA I hg hm ⟨rfl,?_⟩ hd)
 refine Calls.evalArgs_plain (Calls.spliced_cons (Calls.Constant_str (k:=j) (pos:=ap) (Calls.spliced_nil ?_)))
 exact ⟨rfl,sz8 (show 1≤1000 by decide),hC,hN,T,fun h' e hm=>hxe pins σ H _ h' e _ (I.tok _) hm h⟩
section
variable {X:Cx}{pins:List (Addr × Obj)}{σ:L2.St}{H H':Hp}{s:Shared}
abbrev cxE (X:Cx)(v:Value):Cx:={ X with A:=X.A.mark (some v),calm:=false }
theorem jC (I:Inv X pins σ H s)(v:Value):Inv (cxE X v) pins σ H s :=
 ⟨⟨I.ok.mod,I.ok.kind,I.ok.glob,I.ok.blt,I.ok.above,I.ok.inj,I.ok.has,I.ok.cab,(fun z=>nomatch z),I.ok.frames,I.ok.stk,I.ok.exf,I.ok.bs,I.ok.bsz,I.ok.noex,I.ok.exfs,I.ok.funs,I.ok.frf⟩,I.os,I.bare,I.base,I.loc,I.cell,I.free,I.freeC,I.pin,I.hok,I.len⟩
theorem kL {v:Value}(ok:X.Ok)(I:Inv (cxE X v) pins σ H s):Inv X pins σ H s :=
 ⟨ok,I.os,I.bare,I.base,I.loc,I.cell,I.free,I.freeC,I.pin,I.hok,I.len⟩
theorem BF1 {M:Model}{A:Around}{E:Value→Shared→Prop}{n:Str}{i:Nat}{pos:Pos}{Q:Unit→Shared→Prop}(I:Inv X pins σ H s)(hN:X.N.Nodup)(hi:X.N[i]?=some n)(hl:X.env.kindOf n=some .local)(h:∀ s',Inv X pins (σ.set i none) H s'→Q () s'):wpAny M A (do bindName X.env n .none; unbindBehindTheSuite X.env n pos) Q E s:=by
 obtain ⟨m,hn,hl'⟩:=id I.loc
 have hiσ:i < σ.length:=by rw [I.len]; exact (List.getElem?_eq_some_iff.mp hi).1
 refine wpAny_nameGoes_keeps hl hn (by rw [I.ok.kind]; rfl) fun h' v hn' hs=>h _ ?_
 have ltL:∀ b o,X.s₀.heap.get? b=some o→b≠X.env.locals:=fun b o e=>Nat.ne_of_lt (Nat.lt_of_lt_of_le (Heap.lt_size e) I.ok.above)
 have hok:HOk X.prog X.w H h':=fun b ob e=>by
  refine (I.hok b ob e).stay (fun c w' hc q=>(hs.2 c ?_).trans q) (fun _ q=>q) fun _ _ q=>q
  intro z
  rcases hc with y | y
  ·rw [← y,z,I.free] at e; cases e
  ·rw [z,I.free] at y; cases y
 refine ⟨I.ok,I.os,I.bare,⟨fun b o e k hb hx=>?_,fun b o e k hb hx=>?_,I.base.free,fun b o e hx=>?_,I.base.tups,I.base.frzs,I.base.tbls⟩,⟨_,hn',fun j y v' e1 e2 e3=>?_⟩,fun y c e=>?_,I.free,I.freeC,fun p hp=>?_,hok,?_⟩
 ·exact (hs.2 b (ltL b o e)).trans (I.base.keep b o e k hb hx)
 ·obtain ⟨sl,q⟩:=I.base.slot b o e k hb hx
  exact ⟨sl,(hs.2 b (ltL b o e)).trans q⟩
 ·obtain ⟨o',q⟩:=I.base.there b o e hx
  exact ⟨o',(hs.2 b (ltL b o e)).trans q⟩
 ·by_cases hj:j=i
  ·rw [hj,List.getElem?_set_self hiσ] at e2
   cases e2
  ·rw [List.getElem?_set_ne (Ne.symm hj)] at e2
   obtain ⟨u,r,q⟩:=hl' j y v' e1 e2 e3
   refine ⟨u,r,?_⟩
   rcases q with ⟨k,e⟩ | ⟨k,c,e,z⟩
   ·have ny:y≠n:=fun z=>hj (sW hN e1 (z ▸ hi))
    exact .inl ⟨k,by show (if y=n then v else m y)=some u; rw [if_neg ny]; exact e⟩
   ·exact .inr ⟨k,c,e,z.sameBut hs (I.cne y c e)⟩
 ·obtain ⟨w',z⟩:=I.cell y c e
  exact ⟨w',z.sameBut hs (I.cne y c e)⟩
 ·obtain ⟨e,k,ne,nf,d⟩:=I.pin p hp
  exact ⟨(hs.2 p.1 ne).trans e,k,ne,nf,d⟩
 ·rw [List.length_set]; exact I.len
def pF (x:Addr)(cls:Value)(h:Heap):Prop:=∃ ob,h.get? x=some ob∧ob.cls=cls
def excAtD (x:Addr)(cls:Value)(dx:Option Addr)(h:Heap):Prop:=∃ ob,h.get? x=some ob∧ob.cls=cls∧ob.dict=dx∧∃ vs,ob.data=.fields vs
def fH (x:Addr)(cls:Value)(dx:Option Addr):HO:=.ext (excAtD x cls dx)
def BI3 (K:Frag)(CB:Addr)(i:Nat)(sp:Sp)(t:TA)(ts:TS):TS:=fun D σ H=>t σ H fun vs H1=>sp vs H1 (fun _ H2=>D.nx σ H2) fun cls dx H2=>exmOne K cls (.ref CB)=some true ∧
 ∀ x,H2 x=none→ts { nx:=fun σ' H3=>D.nx (σ'.set i none) H3,rt:=D.rt,bk:=fun σ' H3=>D.bk (σ'.set i none) H3,ct:=fun σ' H3=>D.ct (σ'.set i none) H3 } (σ.set i (some (.ref x))) (L2.upd H2 x (fH x cls dx))
theorem zN {c:Nat}{x cn n:Str}{i k:Nat}{f CB:Addr}{fd:FuncData}{ps:List Str}{sp:Sp}{e:Expr}{es:List Expr}{t:TA}{b₀:Stmt}{suite:List Stmt}{ts:TS}{p pos pos' cp hpos tpos:Pos}(hst:X.stack=X.env::X.outer)(hf:X.env.frame=some X.env.locals)(hnx:∀ v s,¬ X.xe v s)(F:FnOk X.prog X.w X.K X.mg X.base (lC X.prog X.w c) k f fd ps sp)(hr:Room k X.A)(hg:Gl X x)(hm:X.mg x=some (.ref f))(hk:keepIn X.K (.ref f)=true)(hb:Binds X.K fd ps [])(ha:PA X (e::es) t)(hgC:Gl X cn)(hmC:X.mg cn=some (.ref CB))(hN:X.N.Nodup)(hi:X.N[i]?=some n)(hl:X.env.scope.names.lookup n=some .local)(hs:∀ v:Value,PSs (cxE X v) (b₀::suite) ts)(hdb:(x == ("__debug__":Str))=false:=by decide)(hdc:(cn == ("__debug__":Str))=false:=by decide)(he:starEach (e::es) X.env=(false,eval e X.env)::starEach es X.env:=by rfl)(hpl:(backTo pos (starEach es X.env)).any (·.1)=false:=by rfl)(hsw:swapsWith (.Call (.Name x p) (e::es) [] pos) none pos'.line X.env=pure false:=by rfl) :
  PS X (.Try [.Expr (.Call (.Name x p) (e::es) [] pos) pos'] [.ExceptHandler (some (.Name cn cp)) (some n) (b₀::suite) hpos] [] [] tpos) (BI3 X.K CB i sp t ts):=by
 intro pins s σ H D I h
 refine wpAny_Try_except (wpAny_execs_cons (wpAny_Expr_any ?_ I.quiet hsw))
 refine wpAny_Call_Name_kw (fA I hg hm ?_ hdb)
 refine callWith_K (h₀:=X.base) I.ok.mod.kin hk (wpAny_mono (ha pos pins s σ H _ I h) (fun us s1 q1=>?_) fun _ _ z=>(hnx _ _ z).elim) he hpl
 obtain ⟨vs,H1,I1,r,q⟩:=q1
 refine ⟨I1.kIn,?_⟩
 have hlen:us.length=ps.length:=by rw [← r.length]; exact F.len _ _ _ _ q
 have hbind:=hb s1 us I1.kIn (by rw [List.append_nil]; exact hlen)
 rw [List.append_nil] at hbind
 refine wpAny_call (codeAny_mono (F.run X.A X.stack s1 H1 ⟨us,[]⟩ us vs _ _ hr I1.env0 hbind r q) fun res s' hq=>?_)
 cases res with
 | ok fl =>
  cases fl with
  | ret u =>
   obtain ⟨v,H2,I2,_,q2⟩:=I1.after hq
   exact wpAny_execs_nil (wpAny_execs_nil ⟨σ,H2,I2,q2⟩)
  | next=>exact False.elim hq
  | brk=>exact False.elim hq
  | cont=>exact False.elim hq
 | error ev =>
  obtain ⟨x',cls,a0,dx,H2,B,rfl,os,bare,un,hok,fl,cT,cO,cA,⟨oe0,hoe0,hdx0⟩,hm1,hE⟩:=hq
  have fl':=fl
  rw [hst] at fl'
  refine qJ (base:=B) (outer:=X.outer) (L:=X.env.locals) (by rw [← hst]; exact I1.ok.frames) hf fl' fun h4 held4 up4 dk4=>?_
  refine AE8 held4 fun h5 fl5 up5 dk5=>?_
  rw [← hst] at fl5
  obtain ⟨un5,hok5⟩:=AQ9 (P:=X.prog) (w:=X.w) un hok fl.1 fl.2.2.1 cT cO cA fl5.1 (up4.trans up5)
  have I5:Inv X pins σ H2 { s' with heap:=h5 }:=I1.call' (s':={ s' with heap:=h5 }) (ch:=[]) os un5 hok5 bare (fun b z=>absurd z (by simp))
  have X5:=jC I5 (.ref x')
  have ty5:Looks (model X.prog X.w) h5 (typeOf (.ref x')) cls:=by
   obtain ⟨ob,hob,hc⟩:=fl5.there
   subst hc
   exact (Looks.ld hob).andThen .now
  refine wpAny_handleBy_cons (codeAny_handlers_test (fA X5 hgC hmC ((exm_one I5.kIn ty5 hm1).here ?_) hdc)) (by intro z; cases z)
  refine codeAny_handlers_suite_as ?_
  refine jX fl5 fun h6 fl6 up6 dk6=>?_
  obtain ⟨un6,hok6⟩:=AQ9 (P:=X.prog) (w:=X.w) un5 hok5 fl5.1 fl5.2.2.1 cT cO cA fl6.1 up6
  obtain ⟨ob,vs6,hob,hcl,hdt6,_⟩:=fl6.first
  have hdx:ob.dict=dx:=by
   obtain ⟨o1,g1,d1,_⟩:=dk4 x' oe0 hoe0
   obtain ⟨o2,g2,d2,_⟩:=dk5 x' o1 g1
   obtain ⟨o3,g3,d3,_⟩:=dk6 x' o2 g2
   rw [hob] at g3
   cases g3
   rw [d3,d2,d1,hdx0.1]
  have nH:H2 x'=none:=by
   cases z:H2 x' with
   | none=>rfl
   | some u =>
    obtain ⟨o,ho⟩:=cT x' u z
    rw [fl.2.1] at ho
    cases ho
  have nS:∀ o,s1.heap.get? x'≠some o:=fun o ho=>by
   by_cases hx':x'∈frs X.stack
   ·obtain ⟨_,o',ho',hn'⟩:=fl6.2.2.1.mem hx'
    obtain ⟨oe,ws,hoe,_,hoed,_⟩:=fl6.first
    rw [hoe] at ho'
    cases ho'
    exact hn' _ hoed
   ·obtain ⟨o',ho'⟩:=cA x' o ho hx'
    rw [fl.2.1] at ho'
    cases ho'
  have hT:∀ b u,H2 b=some u→L2.upd H2 x' (fH x' cls dx) b=some u:=fun b u z=>by rw [aI (aR z nH)]; exact z
  have un7:Un (frs X.stack) [] H1 (L2.upd H2 x' (fH x' cls dx)) s1.heap h6 :=
   ⟨un6.keep,un6.slot,fun b o q n hx=>by
    have nb:b≠x':=fun z=>nS o (by rw [← z]; exact q)
    rw [aI nb]
    exact un6.free b o q n hx,un6.there,fun b xs z=>hT _ _ (un6.tups b xs z),fun b o u z=>hT _ _ (un6.frzs b o u z),fun b ps z=>by
    obtain ⟨m1,e1⟩:=un6.tbls b ps z
    exact ⟨m1,hT _ _ e1⟩⟩
  have hok7:HOk X.prog X.w (L2.upd H2 x' (fH x' cls dx)) h6:=fun b u z=>by
   by_cases hbx:b=x'
   ·subst hbx
    rw [aC] at z
    cases z
    exact ⟨⟨ob,hob,hcl,hdx,vs6,hdt6⟩,⟨ob,hob⟩,fun h1 h2 ⟨o1,q1,q2⟩ k=>⟨o1,k _ q1,q2⟩⟩
   ·rw [aI hbx] at z
    exact (hok6 b u z).stay (fun _ _ _ q=>q) (fun c q=>hT _ _ q) fun c xs q=>hT _ _ q
  have I6:Inv X pins σ (L2.upd H2 x' (fH x' cls dx)) { s' with heap:=h6 }:=I1.call' (s':={ s' with heap:=h6 }) (ch:=[]) os un7 hok7 bare (fun b z=>absurd z (by simp))
  refine mD (X:=cxE X (.ref x')) (jC I6 (.ref x')) hN hi (.inl hl) (v:=.ref x') rfl (fun s7 I7=>?_) (.inr hl)
  refine wpAny_mono (hs (.ref x') pins s7 _ _ _ I7 (hE x' nH)) (fun f8 s8 q8=>?_) fun _ _ z=>(hnx _ _ z).elim
  cases f8 with
  | next =>
   obtain ⟨σ8,H8,I8,q8⟩:=q8
   exact BF1 (kL I1.ok I8) hN hi hl fun s9 I9=>⟨_,H8,I9,q8⟩
  | brk =>
   obtain ⟨σ8,H8,I8,q8⟩:=q8
   exact BF1 (kL I1.ok I8) hN hi hl fun s9 I9=>⟨_,H8,I9,q8⟩
  | cont =>
   obtain ⟨σ8,H8,I8,q8⟩:=q8
   exact BF1 (kL I1.ok I8) hN hi hl fun s9 I9=>⟨_,H8,I9,q8⟩
  | ret u =>
   obtain ⟨v,σ8,H8,I8,r8,q8⟩:=q8
   exact BF1 (kL I1.ok I8) hN hi hl fun s9 I9=>⟨v,_,H8,I9,r8,q8⟩
end
end Bw
set_option maxHeartbeats 400000
namespace Bw
open PySem PySem.Spec PyProof.Rows L2 PySem.W
section
variable {prog:Program}{w:World}{A:Around}{E:Value→Shared→Prop}{K:Frag}{h:Heap}{g:Array GenState}{d:Drawn}{t:Nat}{os:OsState}{x C:Addr}
structure ExcK (K:Frag) (C:Addr):Prop where
 ga:findIn K (.ref C) "__getattribute__"=some (some (.builtin "BaseException.__getattribute__"))
 gt:findIn K (.ref C) "__getattr__"=some none
 cl:findIn K (.ref C) "__class__"=some (some (.builtin "object.__class__"))
 mB:mroIn K C (.type "BaseException")=some true
 mO:mroIn K C (.type "object")=some true
 cls:(clsIn K C).isSome=true
theorem excAtD.at {cls:Value}{dx:Option Addr}(p:excAtD x cls dx h):pF x cls h:=let ⟨ob,a,b,_⟩:=p; ⟨ob,a,b⟩
theorem vC {cls:Value}(p:pF x cls h)(M:Model):Looks M h (typeOf (.ref x)) cls:=by
 obtain ⟨ob,h1,h2⟩:=p
 exact h2 ▸ (Looks.ld h1).andThen .now
theorem AV0 {tp:Value}{R:Result→Shared→Prop}(Z:K.In h)(F:ExcK K C)(p:pF x (.ref C) h)(hq:R (.ok (.ret (.ref C))) ⟨h,g,d,t,os⟩) :
  codeAny (model prog w) A (.call (.builtin "getset_descriptor.__get__") ⟨[.builtin "object.__class__",.ref x,tp],[]⟩) R ⟨h,g,d,t,os⟩:=by
 have L0:=vC p (model prog w)
 have L1:=looks_mroIn (M:=model prog w) Z F.mO
 refine codeAny_call_builtin KF.slot_gs.plain KF.entry_gs (KF.slot_gs.check _ _ _ _ _ _ _ _ KF.type_class (KF.args_gs _ _ _) ?_)
 unfold Builtin.«getset_descriptor.__get__» Builtin.Getset_descriptor.descrGet
 rw [dga_obj]
 refine wpAny_bind (wpAny_pure ?_)
 unfold Builtin.Getset_descriptor.descrGetter Builtin.Getset_descriptor.descrCheckInstance Builtin.Getset_descriptor.descrNameAndClass isInstance
 simp only [KF.owner_class]
 repeat lk
 refine ⟨Code.quiet_builtin _ (by decide +kernel),codeAny_builtin KF.entry_class ?_⟩
 unfold Builtin.«object.__class__» shownTypeOf
 repeat lk
 exact hq
theorem AF0 {tk:Tok}{Q:Fin→Shared→Prop}(Z:K.In h)(F:ExcK K C)(p:pF x (.ref C) h)(hq:Q (.done (.ret (.ref C))) ⟨h,g,d,t,os⟩) :
  wpAny (model prog w) A (Builtin.«object.__getattribute__» ⟨[.ref x,.str "__class__" tk],[]⟩) Q E ⟨h,g,d,t,os⟩:=by
 have L0:=vC p (model prog w)
 have L1:=looks_findIn (M:=model prog w) Z F.cl
 have hT5:(⟨h,g,d,t,os⟩:Shared).TypeIs (.builtin "object.__class__") "getset_descriptor":=PySem.F.typeOf_object_class
 have f5:=PySem.F.typeOf_object_class
 have f6:=PySem.F.slot_gs_get.lookup
 have f7:=PySem.F.slot_gs_set.lookup
 repeat (any_goals (first | assumption | (with_reducible refine Looks.at (by assumption) ?_) | wp_step))
 refine AV0 Z F p ?_
 repeat (any_goals (first | assumption | wp_step))
theorem AV1 {M:Model}(Z:K.In h)(F:ExcK K C)(p:pF x (.ref C) h):Looks M h (isInstance (.ref x) (.type "BaseException")) true:=(vC p M).andThen (looks_mroIn Z F.mB)
theorem AV2:builtinKind "BaseException.__getattribute__"=some .slot:=by decide +kernel
theorem AN1:splitId "BaseException.__getattribute__"=some ("BaseException","__getattribute__"):=by decide +kernel
theorem vD {M:Model}{nameV:Value}{Q:Unit→Shared→Prop}(Z:K.In h)(F:ExcK K C)(p:pF x (.ref C) h)(hq:Q () ⟨h,g,d,t,os⟩) :
  wpAny M A (checkBuiltinCall "BaseException.__getattribute__" ⟨[.ref x,nameV],[]⟩) Q E ⟨h,g,d,t,os⟩:=by
 have ha:=PySem.F.args_bexc_ga (.ref x) nameV
 simp only [checkBuiltinCall,AV2,AN1]
 refine wpAny_bind ((AV1 (M:=M) Z F p).here (s:=⟨h,g,d,t,os⟩) ?_)
 repeat wp_step
 exact hq
theorem AN2 {tk:Tok}{R:Result→Shared→Prop}(Z:K.In h)(F:ExcK K C)(p:pF x (.ref C) h)(hq:R (.ok (.ret (.ref C))) ⟨h,g,d,t,os⟩) :
  codeAny (model prog w) A (.call (.builtin "BaseException.__getattribute__") ⟨[.ref x,.str "__class__" tk],[]⟩) R ⟨h,g,d,t,os⟩ :=
 codeAny_call_builtin PySem.F.excAttr_ValueError.ga.plain PySem.F.entry_bexc_ga (vD Z F p (AF0 Z F p hq))
theorem BC3 {tk:Tok}{Q:Value→Shared→Prop}(Z:K.In h)(F:ExcK K C)(p:pF x (.ref C) h)(hq:Q (.ref C) ⟨h,g,d,t,os⟩) :
  wpAny (model prog w) A (getAttrBy (.ref x) (.str "__class__" tk) false) Q E ⟨h,g,d,t,os⟩:=by
 have L0:=vC p (model prog w)
 have L1:=looks_findIn (M:=model prog w) Z F.ga
 have L2:=looks_findIn (M:=model prog w) Z F.gt
 have f3:=PySem.F.excAttr_ValueError.ga.bind (.ref x)
 have hx2:(Value.builtin "BaseException.__getattribute__" == Value.builtin "object.__getattribute__")=false:=by decide +kernel
 have hx1:(onTheHeap (Value.ref C) && Value.builtin "BaseException.__getattribute__" == Value.builtin "object.__getattribute__")=false:=by rw [hx2]; rfl
 repeat (any_goals (first | assumption | (with_reducible refine Looks.at (by assumption) ?_) | wp_step))
 refine AN2 Z F p ?_
 repeat (any_goals (first | assumption | wp_step))
theorem AN3 {Q:Option Value→Shared→Prop}(Z:K.In h)(F:ExcK K C)(p:pF x (.ref C) h)(hq:Q (some (.ref C)) ⟨h,g,d,t+1,os⟩) :
  wpAny (model prog w) A (getAttr? (.ref x) "__class__") Q E ⟨h,g,d,t,os⟩:=by
 unfold getAttr? getAttrBy?
 repeat (any_goals (first | assumption | with_reducible apply BC3 Z F p | wp_step))
theorem yN (F:ExcK K C):KitX K (.ref x) (.ref C) (pF x (.ref C)) where
 ty:=fun M _ _ p=>vC p M
 it:=fun M h' Z _=>by
  obtain ⟨cd,hcd⟩:=Option.isSome_iff_exists.mp F.cls
  unfold clsIn at hcd
  split at hcd
  ·rename_i lk
   intro A' Q' E' s' k q
   unfold isType loadHead
   exact wpAny_bind (wpAny_loadPart (k _ _ (Z _ _ lk)) (wpAny_pure q))
  ·cases hcd
 ne:=fun h' tp dd its n sl Z htp=>by
  obtain ⟨cd,hcd⟩:=Option.isSome_iff_exists.mp F.cls
  refine Bool.eq_false_iff.mpr fun q=>?_
  have e:C=tp:=Value.ref.inj (beq_iff_eq.mp q)
  subst e
  unfold clsIn at hcd
  split at hcd
  ·rename_i lk
   have z:=(Z _ _ lk).symm.trans htp
   cases z
  ·cases hcd
 ca:=fun {prog w A E Q s} Z p k=>by
  obtain ⟨h1,g1,d1,t1,os1⟩:=s
  exact AN3 Z F p k
end
section
variable {X:Cx}
def XAt (H:Hp)(x C:Addr):Prop:=∃ dx,H x=some (fH x (.ref C) dx)
def BI4 (K:Frag)(C:Addr):List V→Hp→VK→Prop:=fun xs H Q=>∃ (x:Addr) (c:V) (cv:Value) (b:Bool),xs=[.ref x,c]∧RelV c cv∧XAt H x C∧kitOne K (.ref C) cv=some b∧Q (.bl b) H
theorem AF1 {C:Addr}(F:ExcK X.K C):iP X (.builtin "isinstance") (BI4 X.K C):=by
 intro pins s σ H xs us Q I r h
 obtain ⟨x,c,cv,b,rfl,rc,⟨dx,hx⟩,e,q⟩:=h
 obtain ⟨u,w',rfl,rx,rc'⟩:=zI r
 cases (show u=Value.ref x from rx)
 have hw:w'=cv:=by
  cases c with
  | ref a=>exact (show w'=Value.ref a from rc').trans (show cv=Value.ref a from rc).symm
  | ty n=>exact (show w'=Value.type n from rc').trans (show cv=Value.type n from rc).symm
  | non=>exact (show w'=Value.none from rc').trans (show cv=Value.none from rc).symm
  | bl z=>exact (show w'=Value.bool z from rc').trans (show cv=Value.bool z from rc).symm
  | int i =>
   obtain ⟨t,rfl⟩:=rc
   exact absurd e (by unfold kitOne kitCls; simp)
  | str i =>
   obtain ⟨t,rfl⟩:=rc
   exact absurd e (by unfold kitOne kitCls; simp)
  | byt i =>
   obtain ⟨t,rfl⟩:=rc
   exact absurd e (by unfold kitOne kitCls; simp)
  | flt i =>
   obtain ⟨t,rfl⟩:=rc
   exact absurd e (by unfold kitOne kitCls; simp)
 subst hw
 have hp:pF x (.ref C) s.heap:=((show ObjOk X.prog X.w H s.heap x (.ext (excAtD x (.ref C) dx)) from I.hok x _ hx).1).at
 exact kia_one (yN F) I.kIn hp e (fun z=>nomatch z) fun tk=>⟨.bl b,H,I.tok _,rfl,q⟩
def BI5 (K:Frag)(C:Addr):List V→Hp→VK→Prop:=fun xs H Q=>∃ (x tp:Addr) (cs:List Addr) (b:Bool),xs=[.ref x,.ref tp]∧XAt H x C∧H tp=some (.tup (cs.map V.ref))∧kitAny K (.ref C) (cs.map Value.ref)=some b∧Q (.bl b) H
theorem vE:∀ {cs:List Addr}{us:List Value},Vals (cs.map V.ref) us→us=cs.map Value.ref
 | [],_,.nil=>rfl
 | a::cs,_,.cons r t=>by
  cases (show _=Value.ref a from r)
  rw [vE t]
  rfl
theorem AF2 {C:Addr}(F:ExcK X.K C):iP X (.builtin "isinstance") (BI5 X.K C):=by
 intro pins s σ H xs us Q I r h
 obtain ⟨x,tp,cs,b,rfl,⟨dx,hx⟩,ht,e,q⟩:=h
 obtain ⟨u,w',rfl,rx,rc'⟩:=zI r
 cases (show u=Value.ref x from rx)
 cases (show w'=Value.ref tp from rc')
 have hp:pF x (.ref C) s.heap:=((show ObjOk X.prog X.w H s.heap x (.ext (excAtD x (.ref C) dx)) from I.hok x _ hx).1).at
 obtain ⟨_,its,rv,o,ho,hc,n,hd⟩:=(show ObjOk X.prog X.w H s.heap tp (.tup (cs.map V.ref)) from I.hok tp _ ht)
 have hv:=vE rv
 subst hv
 obtain ⟨oc,dd,dt,sl⟩:=o
 dsimp only at hc hd
 subst hc hd
 exact kia_tup (yN F) I.kIn hp ho e (fun z=>nomatch z) fun tk=>⟨.bl b,H,I.tok _,rfl,q⟩
end
structure CalX (P:Program) (w:World) (K:Frag) (mg:Str→Option Value) (base:Heap) (x:Str) (ps:List Str) (k:Nat) (sp:Sp):Prop where
 ex:∃ f fd,FnOk P w K mg base (CXF P w) k f fd ps sp∧Binds K fd ps []∧keepIn K (.ref f)=true∧mg x=some (.ref f)
theorem AF3 {X:Cx}{x:Str}{ps:List Str}{k:Nat}{sp:Sp}{e:Expr}{es:List Expr}{t:TA}{p pos:Pos}(C:CalX X.prog X.w X.K X.mg X.base x ps k sp)(hr:Room k X.A)(hg:Gl X x)(ha:PA X (e::es) t)(hdb:(x == ("__debug__":Str))=false:=by decide)(he:starEach (e::es) X.env=(false,eval e X.env)::starEach es X.env:=by rfl)(hpl:(backTo pos (starEach es X.env)).any (·.1)=false:=by rfl) :
  PE X (.Call (.Name x p) (e::es) [] pos) (zJ sp [] E0 t):=by
 obtain ⟨f,fd,F,b,kp,m⟩:=C.ex
 exact wF F hr hg m kp b .nil pB ha hdb he hpl
theorem eT {P:Program}{w:World}{K:Frag}{mg:Str→Option Value}{base:Heap}{N:List Str}{qual:Str}{sc:Scope}{f:Addr}{cdv:Value}{A:Around}{outer:List Env}{s:Shared}{H:Hp}{E:XK}{x:Str}{ps:List Str}{k:Nat}{sp:Sp}{e:Expr}{es:List Expr}{t:TA}{p pos:Pos}(C:CalX P w K mg base x ps k sp)(hr:Room k (cxX P w K mg base N qual sc f cdv A outer s H E).A)(hg:Gl (cxX P w K mg base N qual sc f cdv A outer s H E) x)(ha:PA (cxX P w K mg base N qual sc f cdv A outer s H E) (e::es) t)(hdb:(x == ("__debug__":Str))=false:=by decide)(he:starEach (e::es) (cxX P w K mg base N qual sc f cdv A outer s H E).env=(false,eval e (cxX P w K mg base N qual sc f cdv A outer s H E).env)::starEach es (cxX P w K mg base N qual sc f cdv A outer s H E).env:=by rfl)(hpl:(backTo pos (starEach es (cxX P w K mg base N qual sc f cdv A outer s H E).env)).any (·.1)=false:=by rfl) :
  PE (cxX P w K mg base N qual sc f cdv A outer s H E) (.Call (.Name x p) (e::es) [] pos) (zJ sp [] E t):=by
 obtain ⟨f',fd,F,b,kp,m⟩:=C.ex
 exact wF F hr hg m kp b .nil dE ha hdb he hpl
structure CalG (g:Nat) (P:Program) (w:World) (K:Frag) (mg:Str→Option Value) (base:Heap) (x:Str) (ps:List Str) (k:Nat) (sp:Sp):Prop where
 ex:∃ f fd,FnOk P w K mg base (lC P w g) k f fd ps sp∧Binds K fd ps []∧keepIn K (.ref f)=true∧mg x=some (.ref f)
theorem qK {g:Nat}{P:Program}{w:World}{K:Frag}{mg:Str→Option Value}{base:Heap}{N:List Str}{qual:Str}{sc:Scope}{f:Addr}{cdv:Value}{A:Around}{outer:List Env}{s:Shared}{H:Hp}{E:XK}{x:Str}{ps:List Str}{k:Nat}{sp:Sp}{e:Expr}{es:List Expr}{t:TA}{p pos:Pos}(C:CalG g P w K mg base x ps k sp)(hr:Room k (sK g P w K mg base N qual sc f cdv A outer s H E).A)(hg:Gl (sK g P w K mg base N qual sc f cdv A outer s H E) x)(ha:PA (sK g P w K mg base N qual sc f cdv A outer s H E) (e::es) t)(hdb:(x == ("__debug__":Str))=false:=by decide)(he:starEach (e::es) (sK g P w K mg base N qual sc f cdv A outer s H E).env=(false,eval e (sK g P w K mg base N qual sc f cdv A outer s H E).env)::starEach es (sK g P w K mg base N qual sc f cdv A outer s H E).env:=by rfl)(hpl:(backTo pos (starEach es (sK g P w K mg base N qual sc f cdv A outer s H E).env)).any (·.1)=false:=by rfl) :
  PE (sK g P w K mg base N qual sc f cdv A outer s H E) (.Call (.Name x p) (e::es) [] pos) (zJ sp [] E t):=by
 obtain ⟨f',fd,F,b,kp,m⟩:=C.ex
 exact wF F hr hg m kp b .nil AR1 ha hdb he hpl
theorem AV3 {X:Cx}{g:Nat}{x cn n:Str}{i k:Nat}{CB:Addr}{ps:List Str}{sp:Sp}{e:Expr}{es:List Expr}{t:TA}{b₀:Stmt}{suite:List Stmt}{ts:TS}{p pos pos' cp hpos tpos:Pos}(hst:X.stack=X.env::X.outer)(hf:X.env.frame=some X.env.locals)(hnx:∀ v s,¬ X.xe v s)(C:CalG g X.prog X.w X.K X.mg X.base x ps k sp)(hr:Room k X.A)(hg:Gl X x)(ha:PA X (e::es) t)(hgC:Gl X cn)(hmC:X.mg cn=some (.ref CB))(hN:X.N.Nodup)(hi:X.N[i]?=some n)(hl:X.env.scope.names.lookup n=some .local)(hs:∀ v:Value,PSs (cxE X v) (b₀::suite) ts)(hdb:(x == ("__debug__":Str))=false:=by decide)(hdc:(cn == ("__debug__":Str))=false:=by decide)(he:starEach (e::es) X.env=(false,eval e X.env)::starEach es X.env:=by rfl)(hpl:(backTo pos (starEach es X.env)).any (·.1)=false:=by rfl)(hsw:swapsWith (.Call (.Name x p) (e::es) [] pos) none pos'.line X.env=pure false:=by rfl) :
  PS X (.Try [.Expr (.Call (.Name x p) (e::es) [] pos) pos'] [.ExceptHandler (some (.Name cn cp)) (some n) (b₀::suite) hpos] [] [] tpos) (BI3 X.K CB i sp t ts):=by
 obtain ⟨f,fd,F,b,kp,m⟩:=C.ex
 exact zN hst hf hnx F hr hg m kp b ha hgC hmC hN hi hl hs hdb hdc he hpl hsw
theorem wO {R:Hp→Prop}{D:Ends}{σ:L2.St}{H:Hp}:AR2 R D σ H=R H:=rfl
theorem AV4 {K:Frag}{CB:Addr}{i:Nat}{sp:Sp}{t:TA}{ts:TS}{D:Ends}{σ:L2.St}{H:Hp}:BI3 K CB i sp t ts D σ H=t σ H (fun vs H1=>sp vs H1 (fun _ H2=>D.nx σ H2) fun cls dx H2=>exmOne K cls (.ref CB)=some true ∧
 ∀ x,H2 x=none→ts { nx:=fun σ' H3=>D.nx (σ'.set i none) H3,rt:=D.rt,bk:=fun σ' H3=>D.bk (σ'.set i none) H3,ct:=fun σ' H3=>D.ct (σ'.set i none) H3 } (σ.set i (some (.ref x))) (L2.upd H2 x (fH x cls dx))):=rfl
theorem BI6 {K:Frag}{P:Program}{w:World}{mg:Str→Option Value}{base:Heap}{N:List Str}{qual:Str}{sc:Scope}{f:Addr}{cd:Value}{A:Around}{outer:List Env}{s:Shared}{H:Hp}{E:XK}:(cxX P w K mg base N qual sc f cd A outer s H E).K=K:=rfl
theorem BI7 {K:Frag}{P:Program}{w:World}{mg:Str→Option Value}{base:Heap}{N:List Str}{qual:Str}{sc:Scope}{f:Addr}{cd:Value}{A:Around}{outer:List Env}{s:Shared}{H:Hp}{E:XK}{c:Nat}:(sK c P w K mg base N qual sc f cd A outer s H E).K=K:=rfl
theorem wP {xs:List V}{i:Int}(h0:0≤i)(h:i < xs.length):∃ z∈xs,atI xs i=some z:=by
 have hk:i.toNat < xs.length:=by omega
 have ek:i=((i.toNat:Nat):Int):=by omega
 refine ⟨xs[i.toNat],List.getElem_mem hk,?_⟩
 have q:atI xs ((i.toNat:Nat):Int)=some xs[i.toNat]:=wH (List.getElem?_eq_getElem hk)
 rwa [← ek] at q
theorem qL:bootBuiltins "ValueError"=some (.type "ValueError"):=by decide +kernel
end Bw
set_option maxHeartbeats 1000000
namespace Bw
open PySem PySem.Spec PyProof.Rows L2 PySem.W
section
variable {X:Cx}
end
theorem kM {α:Type}{x:Str}{c:α}:∀ {l:List (Str × α)},l.lookup x=some c→(x,c)∈l
 | [],h=>by simp at h
 | (n,k)::r,h=>by
  rw [List.lookup_cons] at h
  cases hx:x == n with
  | true =>
   rw [hx] at h
   have e:x=n:=by simpa using hx
   have e2:k=c:=by simpa using h
   subst e e2
   exact List.mem_cons_self
  | false =>
   rw [hx] at h
   exact List.mem_cons_of_mem _ (kM h)
theorem sL {α:Type}{x:Str}{c:α}:∀ {l:List (Str × α)},(x,c)∈l→∃ c',l.lookup x=some c'
 | [],h=>by cases h
 | (n,k)::r,h=>by
  rw [List.lookup_cons]
  cases hx:x == n with
  | true=>exact ⟨k,rfl⟩
  | false =>
   rcases List.mem_cons.mp h with e | e
   ·cases e
    simp at hx
   ·exact sL e
theorem lE {env:Env}:∀ (names:List (Str × NameKind)) (acc:List (Str × Addr)),(∀ y∈names,y.2=.free→∃ c,env.cells.lookup y.1=some c) →
  ∃ cl:List (Str × Addr),(forIn (m:=Sem) names acc fun (x:Str × NameKind) r =>
    if (x.2 == NameKind.free)=true then do let a ← cellOf env x.1; pure (ForInStep.yield ((x.1,a)::r)) else pure (ForInStep.yield r))=pure cl ∧
   (∀ p∈cl,p∈acc∨env.cells.lookup p.1=some p.2)∧(∀ p∈acc,p∈cl)∧∀ x,(x,NameKind.free)∈names→∃ c,(x,c)∈cl
 | [],acc,_=>⟨acc,rfl,fun p hp=>.inl hp,fun p hp=>hp,fun x hx=>by cases hx⟩
 | (n,k)::r,acc,h=>by
  by_cases hk:k=.free
  ·subst hk
   obtain ⟨c,hc⟩:=h (n,.free) List.mem_cons_self rfl
   obtain ⟨cl,e,h1,h2,h3⟩:=lE r ((n,c)::acc) fun y hy=>h y (List.mem_cons_of_mem _ hy)
   have hc':cellOf env n=pure c:=by unfold cellOf; rw [hc]
   refine ⟨cl,?_,fun p hp=>?_,fun p hp=>h2 p (List.mem_cons_of_mem _ hp),fun x hx=>?_⟩
   ·rw [List.forIn_cons]
    simp only [beq_self_eq_true,if_true,hc',pure_bind]
    exact e
   ·rcases h1 p hp with z | z
    ·rcases List.mem_cons.mp z with rfl | z
     ·exact .inr hc
     ·exact .inl z
    ·exact .inr z
   ·rcases List.mem_cons.mp hx with z | z
    ·cases z
     exact ⟨c,h2 _ List.mem_cons_self⟩
    ·exact h3 x z
  ·obtain ⟨cl,e,h1,h2,h3⟩:=lE r acc fun y hy=>h y (List.mem_cons_of_mem _ hy)
   have hb:(k == NameKind.free)=false:=by simpa using hk
   refine ⟨cl,?_,h1,h2,fun x hx=>?_⟩
   ·rw [List.forIn_cons]
    simp only [hb,Bool.false_eq_true,if_false,pure_bind]
    exact e
   ·rcases List.mem_cons.mp hx with z | z
    ·cases z
     exact absurd rfl hk
    ·exact h3 x z
theorem zO {env:Env}{scope:Scope}(h:∀ y∈scope.names,y.2=.free→∃ c,env.cells.lookup y.1=some c) :
  ∃ cl,closureFor scope env=pure cl∧(∀ x c,cl.lookup x=some c→env.cells.lookup x=some c)∧∀ x,(x,NameKind.free)∈scope.names→∃ c,cl.lookup x=some c:=by
 obtain ⟨cl,e,h1,h2,h3⟩:=lE (env:=env) scope.names [] h
 refine ⟨cl,?_,fun x c hx=>?_,fun x hx=>?_⟩
 ·unfold closureFor
  simp only [bind_pure]
  exact e
 ·rcases h1 _ (kM hx) with z | z
  ·cases z
  ·exact z
 ·obtain ⟨c,hc⟩:=h3 x hx
  exact sL hc
theorem qM {scope:Scope}{env:Env}{x:Str}{k:NameKind}(h:(relabel scope env).names.lookup x=some k):(x,k)∈scope.names∨(k=.cell∧(x,NameKind.free)∈scope.names):=by
 obtain ⟨⟨n,k'⟩,hm,e⟩:=List.mem_map.mp (kM h)
 dsimp only at e
 split at e
 ·rename_i hc
  simp only [Bool.and_eq_true,beq_iff_eq] at hc
  obtain ⟨⟨rfl,_⟩,_⟩:=hc
  cases e
  exact .inr ⟨rfl,hm⟩
 ·cases e
  exact .inl hm
abbrev blk (X:Cx)(N:List Str)(scope:Scope)(cl:List (Str × Addr))(C:Addr)(s:Shared)(H:Hp)(fp:List Addr):Cx :=
 { prog:=X.prog,w:=X.w,K:=X.K,mg:=X.mg,base:=X.base,A:=X.A,N:=N,s₀:=s,H₀:=H,env:=compEnvC scope cl C X.env,outer:=X.stack,stack:=X.stack,ex:=fp,fn:=fun _=>false,calm:=X.calm,pn:=[],xe:=fun _ _=>False }
def AA9 (ix:List (Option Nat))(σ:L2.St):L2.St:=ix.map fun o=>o.bind fun j=>(σ[j]?).getD none
def PTs (X:Cx)(ifs:List Expr)(t:TT):Prop :=
 ∀ (pins:List (Addr × Obj)) (s:Shared) (σ:L2.St) (H:Hp) (Q:Bool→Hp→Prop),Inv X pins σ H s→t σ H Q →
  wpAny (model X.prog X.w) X.A (forIn ifs true fun c r=>if r=true then do let ok ← isTrue c X.env (eval c X.env); pure (ForInStep.yield ok) else pure (ForInStep.yield r)) (TP X pins σ Q) X.xe s
def BL7:TT:=fun _ H Q=>Q true H
theorem tK {X:Cx}:PTs X [] BL7:=fun pins s σ H Q I h=>wpAny_tests_nil ⟨H,I,h⟩
def AF4 (wi:TI)(ix:List (Option Nat))(g:TG)(tt:TT)(te:TE):TE:=fun σ H Q=>wi σ H fun J H1=>∃ W:Nat→Nat→List V→L2.St→Hp→Prop,(∃ m,W 0 m [] (AA9 ix σ) H1)∧∀ i m acc σ H,W i m acc σ H →
 (J.stop i H∧∀ D,H D=none→Q (.ref D) (upd H D (.lst acc))) ∨
 (J.go i H∧acc.length < sizeLine∧∃ N:List V→L2.St→Hp→Prop,(∀ acc' σ' H',N acc' σ' H'→∃ m',m' < m∧W (i+1) m' acc' σ' H') ∧
  ∀ x H',J.yld i H x H'→g x σ H' fun σ2 H2=>tt σ2 H2 fun b H3=>if b=true then te σ2 H3 fun y H4=>N (acc++[y]) σ2 H4 else N acc σ2 H3)
section
variable {prog:Program}{w:World}{A:Around}{R:Result→Shared→Prop}{s:Shared}
theorem oC {elt target iter:Expr}{ifs:List Expr}{scope:Scope}{pos:Pos}{it acc:Value}{env:Env}(I:Nat→Shared→Prop)(turn:∀ n s,I n s→wpAny (model prog w) A (pyNext it) (fun r s₁=>match r with
   | none=>R (.ok .next) s₁
   | some v=>wpAny (model prog w) A (letOwnedTupleGo target it v) (fun _ s₁=>wpAny (model prog w) A (assign target env v) (fun _ s₂ =>
     wpAny (model prog w) A (forIn ifs true fun c r=>if r=true then do let ok ← isTrue c env (eval c env); pure (ForInStep.yield ok) else pure (ForInStep.yield r)) (fun ok s₃ =>
      if ok=true then wpAny (model prog w) A (eval elt env) (fun x s₄ =>
       wpAny (model prog w) A (call (.builtin "list.append") [acc,x]) (fun _ s₅=>∃ m,m < n∧I m s₅) (fun _ _=>False) s₄) (fun _ _=>False) s₃
      else ∃ m,m < n∧I m s₃) (fun _ _=>False) s₂) (fun _ _=>False) s₁) (fun _ _=>False) s₁) (fun _ _=>False) s)(n:Nat)(h:I n s) :
  codeAny (model prog w) A (.compLoop (.ListComp elt [⟨target,iter,ifs,0⟩] scope pos) 0 it acc env) R s:=by
 refine codeAny_loop rfl I (fun n s hI=>?_) n h
 show wpAny _ A ((compTurn (.ListComp elt [⟨target,iter,ifs,0⟩] scope pos) 0 it acc env).onRaise (fun x=>do noteFrame x env; theTreesLotGoes x)) _ _ s
 refine wpAny_noted ?_
 rw [compTurn_list]
 refine wpAny_bind (wpAny_standAt (wpAny_bind (wpAny_mono (turn n s hI) (fun r s₁ h₁=>?_) fun _ _ h'=>h'.elim)))
 cases r with
 | none=>exact wpAny_pure h₁
 | some v =>
  refine wpAny_bind (wpAny_mono h₁ (fun _ s₁ h₁=>?_) fun _ _ h'=>h'.elim)
  refine wpAny_bind (wpAny_mono h₁ (fun _ s₂ h₂=>wpAny_bind (wpAny_mono h₂ (fun ok s₃ h₃=>?_) fun _ _ h'=>h'.elim)) fun _ _ h'=>h'.elim)
  cases ok with
  | false=>exact wpAny_pure ⟨rfl,h₃⟩
  | true =>
   exact wpAny_bind (wpAny_bind (wpAny_mono h₃ (fun x s₄ h₄=>wpAny_bind (wpAny_mono h₄ (fun _ s₅ h₅=>wpAny_pure (wpAny_pure ⟨rfl,h₅⟩)) fun _ _ h'=>h'.elim)) fun _ _ h'=>h'.elim))
end
section
variable {X:Cx}{pins:List (Addr × Obj)}{σ:L2.St}{H:Hp}{s:Shared}{N:List Str}{scope:Scope}{cl:List (Str × Addr)}{C:Addr}{fp:List Addr}
theorem BC4 (I:Inv X pins σ H s)(hkind:scope.kind=.function)(hcell:∀ y∈scope.names,y.2≠.cell)(h1:∀ x c,cl.lookup x=some c→X.env.cells.lookup x=some c)(h2:∀ x,(x,NameKind.free)∈scope.names→∃ c,cl.lookup x=some c)(hC:s.heap.objs.size≤C)(hf:∀ b∈fp,AL2 X pins H b)(hb:∀ b∈fp,b < s.heap.objs.size):(blk X N scope cl C s H fp).Ok where
 mod:=I.ok.mod
 kind:=hkind
 glob:=I.ok.glob
 blt:=I.ok.blt
 above:=hC
 inj:=fun x y c a b=>I.ok.inj x y c (h1 x c a) (h1 y c b)
 has:=fun x hx=>by
  have:(x,NameKind.free)∈scope.names:=by
   rcases hx with z | z
   ·rcases qM z with q | ⟨_,q⟩
    ·exact absurd rfl (hcell _ q)
    ·exact q
   ·rcases qM z with q | ⟨e,q⟩
    ·exact q
    ·cases e
  exact h2 x this
 cab:=fun x c hx=>by cases hx
 hd:=I.ok.hd
 frames:=I.ok.frames
 stk:=.inl rfl
 exf:=fun b hm=>⟨Nat.ne_of_lt (Nat.lt_of_lt_of_le (hb b hm) hC),fun x c e=>(hf b hm).2.2.2.2.1 x c (h1 x c e)⟩
 bs:=I.bs
 bsz:=Nat.le_trans I.ok.bsz I.sz
 noex:=fun b o e hm=>by
  rcases (hf b hm).2.2.2.1 with z | z
  ·exact I.ok.noex b o e z
  ·exact absurd (Nat.lt_of_lt_of_le (Heap.lt_size e) (Nat.le_trans I.ok.bsz z)) (Nat.lt_irrefl _)
 exfs:=fun b hm hs=>(List.mem_cons.mp (I.stkSub b hs)).elim (hf b hm).2.1 (hf b hm).2.2.1
 funs:=I.stack
 frf:=I.stkFree
end
theorem gQ {env:Env}:∀ {names:List (Str × NameKind)}{x:Str},names.lookup x=some .free →
  (names.map fun (n,k)=>if (k == NameKind.free && env.scope.kind == .function && env.kindOf n == some .cell) then (n,NameKind.cell) else (n,k)).lookup x=some .cell ∨
  (names.map fun (n,k)=>if (k == NameKind.free && env.scope.kind == .function && env.kindOf n == some .cell) then (n,NameKind.cell) else (n,k)).lookup x=some .free
 | [],_,h=>by simp at h
 | (n,k)::r,x,h=>by
  have ih:=@gQ env r x
  rw [List.map_cons]
  cases hx:x == n with
  | true =>
   simp only [List.lookup_cons,hx] at h
   cases h
   by_cases hc:(NameKind.free == NameKind.free && env.scope.kind == .function && env.kindOf n == some .cell)=true
   ·left; simp only [hc,if_true,List.lookup_cons,hx]
   ·right; simp only [Bool.not_eq_true] at hc; simp only [hc,Bool.false_eq_true,if_false,List.lookup_cons,hx]
  | false =>
   simp only [List.lookup_cons,hx] at h
   by_cases hc:(k == NameKind.free && env.scope.kind == .function && env.kindOf n == some .cell)=true
   ·simp only [hc,if_true,List.lookup_cons,hx]; exact ih h
   ·simp only [Bool.not_eq_true] at hc; simp only [hc,Bool.false_eq_true,if_false,List.lookup_cons,hx]; exact ih h
section
variable {X:Cx}
structure Gone (X:Cx) (pins:List (Addr × Obj)) (H:Hp) (C:Addr):Prop where
 n:H C=none
 l:C≠X.env.locals
 y:X.s₀.heap.objs.size≤C
 c:∀ x c,X.env.cells.lookup x=some c→c≠C
 p:∀ p∈X.pn++pins,p.1≠C
theorem Gone.inv {pins:List (Addr × Obj)}{σ:L2.St}{H:Hp}{s:Shared}{C:Addr}{h':Heap}(G:Gone X pins H C)(I:Inv X pins σ H s)(hs:Heap.SameBut C s.heap h'):Inv X pins σ H { s with heap:=h' } :=
 I.turned (t':=s.toks) (fun b o hb e=>(hs.2 b hb).trans e) G.n G.l (.inr G.y) G.c G.p
theorem AN4 {elt iter tg:Expr}{ifs:List Expr}{scope:Scope}{pos ppos:Pos}{wi:TI}{g:TG}{tt:TT}{te:TE}{use:Option (Value→Sem Unit)}{Q':Value→Shared→Prop}{pins:List (Addr × Obj)}{s:Shared}{σ:L2.St}{H:Hp}{Q:VK}(N:List Str)(ix:List (Option Nat))(hc:X.calm=true)(hkind:scope.kind=.function)(hcell:∀ y∈scope.names,y.2≠.cell)(hnames:∀ y∈scope.names,y.2=.local→scope.names.lookup y.1=some .local)(hfree:∀ y∈scope.names,y.2=.free→X.env.kindOf y.1=some .cell∨X.env.kindOf y.1=some .free)(hlen:ix.length=N.length)(hcap:∀ (i j:Nat) (x:Str),ix[i]?=some (some j)→N[i]?=some x→X.N[j]?=some x∧scope.names.lookup x=some .free)(hi:PI X tg iter wi)(hb:∀ cl C s H fp,PG (blk X N scope cl C s H fp) tg g∧PTs (blk X N scope cl C s H fp) ifs tt∧PE (blk X N scope cl C s H fp) elt te)(hs:∀ x,foldedSetIterable iter X.env x=pure x)(I:Inv X pins σ H s)(h:AF4 wi ix g tt te σ H Q)(hend:∀ (D C:Addr) (H':Hp) (s4:Shared) (mC:Str→Option Value),Inv X pins σ H' s4→s4.heap.Ns C mC→Gone X pins H' C→Q (.ref D) H'→compPost (model X.prog X.w) X.A X.xe use Q' (.ref D) C (.ok .next) s4) :
  wpAny (model X.prog X.w) X.A (comprehension (.ListComp elt [⟨tg,iter,ifs,0⟩] scope pos) scope X.env ppos (newList []) false (eval iter X.env) use) Q' X.xe s:=by
 obtain ⟨cl,hclos,hcl1,hcl2⟩:=zO (env:=X.env) (scope:=scope) fun y hy e=>I.ok.has _ (hfree y hy e)
 refine wpAny_comprehension_free rfl hs hclos hkind hnames (thn (hi pins s σ H _ I h) fun v s1 h1=>thn h1 fun itv s2 h2=>?_)
 obtain ⟨it,fp,tn,J,H2,e,I2,T,st2,f2,W,⟨m0,w0⟩,turn⟩:=h2
 subst e
 refine wpAny_newObj_type (wpAny_newFunctionEnv hcell (by intro y hy; simp at hy) (fun h₁ hns₁ hsb₁=>?_) hkind)
 dsimp only at hns₁ hsb₁ ⊢
 generalize hH2:s2.heap.push { cls:=.type "list",dict:=none,data:=.seq ([]:List Value).toArray }=HH at hns₁ hsb₁ ⊢
 have hC:HH.objs.size=s2.heap.objs.size+1:=by rw [← hH2,Heap.size_push]
 have hDC:s2.heap.objs.size≠HH.objs.size:=by rw [hC]; exact Nat.ne_of_lt (Nat.lt_succ_self _)
 have hCle:s2.heap.objs.size≤HH.objs.size:=by rw [hC]; exact Nat.le_succ _
 have below:∀ b,b < s2.heap.objs.size→b≠HH.objs.size∧b≠s2.heap.objs.size:=fun b hb=>⟨by rw [hC]; exact Nat.ne_of_lt (Nat.lt_succ_of_lt hb),Nat.ne_of_lt hb⟩
 have hfp:∀ b∈fp,b < s2.heap.objs.size:=fun b hm=>by
  obtain ⟨o,e,_⟩:=T.obj _ _ st2 b hm
  exact Heap.lt_size e
 have old:∀ b o,s2.heap.get? b=some o→h₁.get? b=some o:=fun b o e=>hsb₁.extBut b o (below b (Heap.lt_size e)).1 (Heap.get?_push_of_some _ (hH2 ▸ Heap.get?_push_of_some _ e))
 have hacc:h₁.get? s2.heap.objs.size=some { cls:=.type "list",data:=.seq ([]:List Value).toArray }:=hsb₁.extBut _ _ hDC (Heap.get?_push_of_some _ (hH2 ▸ Heap.get?_push_size _ rfl))
 generalize hD:s2.heap.objs.size=D at hDC hCle hacc ⊢
 generalize hCC:HH.objs.size=C at hns₁ hsb₁ hDC hCle ⊢
 have hDle:s2.heap.objs.size≤D:=by rw [hD]; exact Nat.le_refl _
 have hCle':s2.heap.objs.size≤C:=by rw [hD]; exact hCle
 obtain ⟨bg,bt,be⟩:=hb cl C s2 H2 fp
 have ok:=BC4 (N:=N) I2 hkind hcell hcl1 hcl2 hCle' f2 hfp
 have notY:∀ b,s2.heap.objs.size≤b→b ∉ frs X.stack:=fun b hle hm=>by
  rcases List.mem_cons.mp (I2.stkSub b hm) with z | z
  ·exact absurd (Nat.lt_of_lt_of_le I2.lt (z ▸ hle)) (Nat.lt_irrefl _)
  ·exact I2.nofs hle z
 -- the block's invariant at its entry
 have I4:Inv (blk X N scope cl C s2 H2 fp) [(D,{ cls:=.type "list",data:=.seq ([]:List Value).toArray })] (AA9 ix σ) H2 { s2 with heap:=h₁,toks:=s2.toks+([]:List (Str × Value)).length }:=by
  refine ⟨ok,rfl,I2.bare,Un.kept old,⟨_,hns₁,fun i x v e1 e2 e3=>?_⟩,fun x c e=>?_,I2.hok.fresh hCle',fun x c e=>I2.freeC x c (hcl1 x c e),fun p hp=>?_,I2.hok.kept old,?_⟩
  ·have q:∃ j,ix[i]?=some (some j)∧σ[j]?=some (some v):=by
    unfold AA9 at e2
    rw [List.getElem?_map] at e2
    cases z:ix[i]? with
    | none=>rw [z] at e2; cases e2
    | some o =>
     rw [z] at e2
     cases o with
     | none=>cases e2
     | some j =>
      refine ⟨j,rfl,?_⟩
      have e2':(σ[j]?).getD none=some v:=Option.some.inj e2
      cases z2:σ[j]? with
      | none=>rw [z2] at e2'; cases e2'
      | some w'=>rw [z2] at e2'; exact congrArg some e2'
   obtain ⟨j,q1,q2⟩:=q
   obtain ⟨n1,n2⟩:=hcap i j x q1 e1
   obtain ⟨m,hn,hl⟩:=I2.loc
   have hmem:=kM n2
   have hkx:=hfree _ hmem rfl
   have hvis:Vis X.env.scope x:=by
    rcases hkx with z | z
    ·exact .inr (.inl z)
    ·exact .inr (.inr z)
   obtain ⟨u,ru,lk⟩:=hl j x v n1 q2 hvis
   refine ⟨u,ru,.inr ⟨gQ n2,?_⟩⟩
   obtain ⟨c,hcc⟩:=hcl2 x hmem
   rcases lk with ⟨k,_⟩ | ⟨_,c',e',z⟩
   ·rcases hkx with z | z <;> · rw [k] at z; cases z
   ·rw [hcl1 x c hcc] at e'
    cases e'
    obtain ⟨o,ho,hd⟩:=z
    exact ⟨c,hcc,o,old _ _ ho,hd⟩
  ·obtain ⟨v,o,ho,hd⟩:=I2.cell x c (hcl1 x c e)
   exact ⟨v,o,old _ _ ho,hd⟩
  ·have e:p=(D,{ cls:=.type "list",data:=.seq ([]:List Value).toArray }):=by simpa using hp
   subst e
   exact ⟨hacc,I2.hok.fresh hDle,hDC,notY D hDle,fun v z=>by cases z⟩
  ·unfold AA9
   rw [List.length_map]
   exact hlen
 have stat:∀ {pl:List (Addr × Obj)}{H':Hp},(∀ p∈pl,p.1 ∉ fp)→(∀ b∈fp,H' b=none)→∀ b∈fp,AL2 (blk X N scope cl C s2 H2 fp) pl H' b:=fun {pl H'} hpl hn b hm =>
  ⟨hn b hm,(ok.exf b hm).1,ok.exfs b hm,.inl hm,(ok.exf b hm).2,fun p hp e=>hpl p (by simpa using hp) (e ▸ hm)⟩
 have nfp:D ∉ fp:=fun hm=>absurd (Nat.lt_of_lt_of_le (hfp D hm) hDle) (Nat.lt_irrefl _)
 have nfpP:∀ (o:Obj),∀ p∈[(D,o)],p.1 ∉ fp:=fun o p hp=>by
  have e:p=(D,o):=by simpa using hp
  subst e
  exact nfp
 have loop:∀ s3:Shared,s3={ s2 with heap:=h₁,toks:=s2.toks+([]:List (Str × Value)).length } →
   codeAny (model X.prog X.w) X.A (.compLoop (.ListComp elt [⟨tg,iter,ifs,0⟩] scope pos) 0 (.ref it) (.ref D) (compEnvC scope cl C X.env)) (compPost (model X.prog X.w) X.A X.xe use Q' (.ref D) C) s3:=by
  rintro s3 rfl
  refine oC (fun n s'=>∃ i σ' H' acc its nn,Inv (blk X N scope cl C s2 H2 fp) [(D,{ cls:=.type "list",data:=.seq its nn })] σ' H' s'∧Vals acc its.toList∧tn i s'.heap∧(∀ b∈fp,H' b=none)∧acc.length≤sizeLine∧W i n acc σ' H') ?_ m0
   ⟨0,AA9 ix σ,H2,[],#[],0,I4,.nil,T.keep _ _ _ st2 fun b _ o e=>old b o e,fun b hm=>(f2 b hm).1,Nat.zero_le _,w0⟩
  rintro n s3 ⟨i,σ3,H3,acc,its,nn,I3,rv,st3,fr3,hz,w3⟩
  rcases turn i n acc σ3 H3 w3 with ⟨stop,qn⟩ | ⟨go,hlt,NN,hN,step⟩
  ·refine thn (T.done (blk X N scope cl C s2 H2 fp) rfl rfl rfl hc i _ s3 σ3 H3 (fun _ _=>False) I3 (stat (nfpP _) fr3) st3 stop) fun r s4 ⟨hr,I5⟩=>?_
   subst hr
   obtain ⟨eD,nD,_⟩:=I5.pin (D,{ cls:=.type "list",data:=.seq its nn }) (by simp)
   obtain ⟨mC,hnC,_⟩:=I5.loc
   -- back in the def's own frame
   have hne:∀ b u,H3 b=some u→b≠D:=fun b u q z=>by rw [z,nD] at q; cases q
   have un:Un (frs X.stack) fp H2 (upd H3 D (.lst acc)) s2.heap s4.heap:=by
    have b:=I5.base
    have neD:∀ b o,s2.heap.get? b=some o→b≠D:=fun b o e=>Nat.ne_of_lt (Nat.lt_of_lt_of_le (Heap.lt_size e) hDle)
    refine ⟨b.keep,b.slot,fun b' o q n' hx=>?_,b.there,fun b' xs q=>?_,fun b' o u q=>?_,fun b' ps q=>?_⟩
    ·rw [aI (neD b' o q)]
     exact b.free b' o q n' hx
    ·have q':=b.tups b' xs q
     rw [aI (hne _ _ q')]
     exact q'
    ·have q':=b.frzs b' o u q
     rw [aI (hne _ _ q')]
     exact q'
    ·obtain ⟨more,q'⟩:=b.tbls b' ps q
     exact ⟨more,by rw [aI (hne _ _ q')]; exact q'⟩
   have hokD:HOk X.prog X.w (upd H3 D (.lst acc)) s4.heap:=fun b u e=>by
    by_cases hbD:b=D
    ·subst hbD
     rw [aC] at e
     cases e
     exact ⟨hz,its.toList,nn,rv,by simpa using eD⟩
    ·rw [aI hbD] at e
     refine (I5.hok b u e).stay (fun _ _ _ q=>q) (fun c r=>?_) fun c xs r=>?_
     ·rw [aI (fun z=>by rw [z,nD] at r; cases r)]; exact r
     ·rw [aI (fun z=>by rw [z,nD] at r; cases r)]; exact r
   have IX:Inv X pins σ (upd H3 D (.lst acc)) s4:=I2.call' I5.os un hokD I5.bare fun b hm=>⟨(f2 b hm).2.2.2.1,(f2 b hm).2.1,(f2 b hm).2.2.2.2.1,(f2 b hm).2.2.2.2.2⟩
   refine hend D C _ s4 mC IX hnC ⟨?_,Nat.ne_of_gt (Nat.lt_of_lt_of_le I2.lt hCle'),Nat.le_trans I2.sz hCle',fun x c e z=>?_,fun p hp z=>?_⟩ (qn D nD)
   ·rw [aI (Ne.symm hDC)]
    exact I5.free
   ·obtain ⟨v,o,ho,_⟩:=I2.cell x c e
    exact absurd (Nat.lt_of_lt_of_le (Heap.lt_size ho) (z ▸ hCle')) (Nat.lt_irrefl _)
   ·exact absurd (Nat.lt_of_lt_of_le (Heap.lt_size (I2.pin p hp).1) (z ▸ hCle')) (Nat.lt_irrefl _)
  ·refine thn (T.item (blk X N scope cl C s2 H2 fp) rfl rfl rfl hc i _ s3 σ3 H3 (fun _ _=>False) I3 (stat (nfpP _) fr3) st3 go) fun r s4 ⟨u,hr,h4⟩=>?_
   subst hr
   refine thn h4 fun _ s5 ⟨x,H5,I5,r5,y5,st5,fr5⟩=>?_
   have I5':=I5.pinned (stat (nfpP _) fr5) (T.obj _ _ st5)
   refine thn (bg _ s5 σ3 H5 x u _ I5' r5 (step x H5 y5)) fun _ s6 ⟨σ6,H6,I6,q6⟩=>?_
   refine thn (bt _ s6 σ6 H6 _ I6 q6) fun b s7 ⟨H7,I7,q7⟩=>?_
   have after:∀ {o:Obj}{σ8:L2.St}{H8:Hp}{s8:Shared},Inv (blk X N scope cl C s2 H2 fp) ([(D,o)]++mE fp s5.heap) σ8 H8 s8→tn (i+1) s8.heap∧∀ b∈fp,H8 b=none:=fun {o σ8 H8 s8} I8=>by
    refine ⟨T.keep _ _ _ st5 fun b hb o e=>(I8.pin (b,o) (List.mem_append_right _ (List.mem_append_right _ (kK hb e)))).1,fun b hb=>?_⟩
    obtain ⟨o,e,d⟩:=T.obj _ _ st5 b hb
    exact (I8.pin (b,o) (List.mem_append_right _ (List.mem_append_right _ (kK hb e)))).2.1
   cases b with
   | false =>
    simp only [Bool.false_eq_true,if_false] at q7 ⊢
    obtain ⟨m',hm,w7⟩:=hN acc σ6 H7 q7
    exact ⟨m',hm,i+1,σ6,H7,acc,its,nn,I7.unpinned,rv,(after I7).1,(after I7).2,hz,w7⟩
   | true =>
    simp only [if_true] at q7 ⊢
    refine thn (be _ s7 σ6 H7 _ I7 q7) fun yv s8 ⟨y,H8,I8,r8,q8⟩=>?_
    obtain ⟨eD,nD,_⟩:=I8.pin (D,{ cls:=.type "list",data:=.seq its nn }) (by simp)
    have hl:acc.length=its.size:=by have:=rv.length; simpa using this
    refine wpAny_list_append_plain (hsz:=by omega) ⟨nn,eD⟩ fun h9 ⟨n9,e9⟩ hs9=>?_
    obtain ⟨m',hm,w9⟩:=hN _ _ _ q8
    have J1:Inv (blk X N scope cl C s2 H2 fp) (mE fp s5.heap) σ6 H8 s8:=I8.pins_of fun p hp=>I8.pin p (List.mem_append_right _ (List.mem_append_right _ hp))
    have nc:∀ x c,cl.lookup x=some c→c≠D:=fun x c e z=>by
     obtain ⟨v,o,ho,_⟩:=I2.cell x c (hcl1 x c e)
     exact absurd (Nat.lt_of_lt_of_le (Heap.lt_size ho) (z ▸ hDle)) (Nat.lt_irrefl _)
    have J2:Inv (blk X N scope cl C s2 H2 fp) (mE fp s5.heap) σ6 H8 { s8 with heap:=h9 }:=J1.turned (t':=s8.toks) (fun b o hb e=>hs9.extBut b o hb e) nD hDC (.inr hDle) nc fun p hp z=>by
     have hp':p∈mE fp s5.heap:=by simpa using hp
     exact nfp (z ▸ (uQ hp').1)
    have J3:Inv (blk X N scope cl C s2 H2 fp) ([(D,{ cls:=.type "list",data:=.seq (its.push yv) n9 })]++mE fp s5.heap) σ6 H8 { s8 with heap:=h9 }:=J2.pins_of fun p hp=>by
     rcases List.mem_append.mp hp with hp | hp
     ·have e:p=(D,{ cls:=.type "list",data:=.seq (its.push yv) n9 }):=by simpa using hp
      subst e
      exact ⟨e9,nD,hDC,notY D hDle,fun v z=>by cases z⟩
     ·exact J2.pin p (List.mem_append_right _ hp)
    refine ⟨m',hm,i+1,σ6,H8,acc++[y],its.push yv,n9,J3.unpinned,?_,(after J3).1,(after J3).2,by rw [List.length_append,List.length_singleton]; omega,w9⟩
    rw [Array.toList_push]
    exact rv.append (.cons r8 .nil)
 exact codeAny_compStart_list (loop _ rfl) (T.self _ 0 _ _ _ (T.keep _ _ _ st2 fun b _ o e=>old b o e) (loop _ rfl))
theorem AV5 {elt iter tg:Expr}{ifs:List Expr}{scope:Scope}{pos:Pos}{wi:TI}{g:TG}{tt:TT}{te:TE}(N:List Str)(ix:List (Option Nat))(hc:X.calm=true)(hkind:scope.kind=.function)(hcell:∀ y∈scope.names,y.2≠.cell)(hnames:∀ y∈scope.names,y.2=.local→scope.names.lookup y.1=some .local)(hfree:∀ y∈scope.names,y.2=.free→X.env.kindOf y.1=some .cell∨X.env.kindOf y.1=some .free)(hlen:ix.length=N.length)(hcap:∀ (i j:Nat) (x:Str),ix[i]?=some (some j)→N[i]?=some x→X.N[j]?=some x∧scope.names.lookup x=some .free)(hi:PI X tg iter wi)(hb:∀ cl C s H fp,PG (blk X N scope cl C s H fp) tg g∧PTs (blk X N scope cl C s H fp) ifs tt∧PE (blk X N scope cl C s H fp) elt te)(hs:∀ x,foldedSetIterable iter X.env x=pure x:=by intro _; rfl):PE X (.ListComp elt [⟨tg,iter,ifs,0⟩] scope pos) (AF4 wi ix g tt te):=by
 intro pins s σ H Q I h
 rw [eval_ListComp]
 exact AN4 (use:=none) N ix hc hkind hcell hnames hfree hlen hcap hi hb hs I h fun D C H' s4 mC I4 hn G q=>⟨mC,hn,fun h' hs'=>⟨.ref D,H',G.inv I4 hs',rfl,q⟩⟩
end
theorem AF5 {K:Frag}{a:Addr}{xs:List V}{g:TG}{tt:TT}{te:TE}{σ:L2.St}{H:Hp}{Q:VK}(Pv:Nat→List V→L2.St→Hp→Prop)(hz:xs.length≤sizeLine)(h0:Pv 0 [] σ H)(hl:∀ i acc σ H,i≤xs.length→Pv i acc σ H→SqL K H a xs)(hs:∀ i x acc σ H,xs[i]?=some x→Pv i acc σ H→g x σ H fun σ2 H2=>tt σ2 H2 fun b H3=>if b=true then te σ2 H3 fun y H4=>Pv (i+1) (acc++[y]) σ2 H4 else Pv (i+1) acc σ2 H3)(hacc:∀ i acc σ H,Pv i acc σ H→acc.length≤i)(hd:∀ acc σ H,Pv xs.length acc σ H→∀ D,H D=none→Q (.ref D) (upd H D (.lst acc))) :
  ∃ W:Nat→Nat→List V→L2.St→Hp→Prop,(∃ m,W 0 m [] σ H)∧∀ i m acc σ H,W i m acc σ H →
   ((Itl K a).stop i H∧∀ D,H D=none→Q (.ref D) (upd H D (.lst acc))) ∨
   ((Itl K a).go i H∧acc.length < sizeLine∧∃ N:List V→L2.St→Hp→Prop,(∀ acc' σ' H',N acc' σ' H'→∃ m',m' < m∧W (i+1) m' acc' σ' H') ∧
    ∀ x H',(Itl K a).yld i H x H'→g x σ H' fun σ2 H2=>tt σ2 H2 fun b H3=>if b=true then te σ2 H3 fun y H4=>N (acc++[y]) σ2 H4 else N acc σ2 H3):=by
 refine ⟨fun i m acc σ H=>m=xs.length - i∧i≤xs.length∧Pv i acc σ H,⟨xs.length,by simp,Nat.zero_le _,h0⟩,?_⟩
 rintro i m acc σ H ⟨rfl,hi,p⟩
 have q:=hl i acc σ H hi p
 have ha:=hacc i acc σ H p
 by_cases hlt:i < xs.length
 ·refine .inr ⟨⟨xs,xs[i],q,by simp [hlt]⟩,by omega,Pv (i+1),fun acc' σ' H' p'=>⟨xs.length - (i+1),by omega,rfl,hlt,p'⟩,fun x H' y=>?_⟩
  obtain ⟨e,y⟩:=y
  subst e
  exact hs i x acc σ _ (y xs q) p
 ·have e:i=xs.length:=by omega
  subst e
  exact .inl ⟨⟨xs,q,Nat.le_refl _⟩,hd acc σ H p⟩
def BC5 (XN:List Str)(scope:Scope):List Str→List (Option Nat)→Bool
 | _,[]=>true
 | [],_=>true
 | _::r,none::s=>BC5 XN scope r s
 | x::r,some j::s=>decide (XN[j]?=some x) && decide (scope.names.lookup x=some .free) && BC5 XN scope r s
theorem wQ {XN:List Str}{scope:Scope}:∀ {N:List Str}{ix:List (Option Nat)},BC5 XN scope N ix=true→∀ (i j:Nat) (x:Str),ix[i]?=some (some j)→N[i]?=some x→XN[j]?=some x∧scope.names.lookup x=some .free
 | [],[],_,i,j,x,h1,_=>by simp at h1
 | _::_,[],_,i,j,x,h1,_=>by simp at h1
 | [],_::_,_,i,j,x,_,h2=>by simp at h2
 | y::r,none::s,h,i,j,x,h1,h2=>by
  cases i with
  | zero=>simp at h1
  | succ i=>exact wQ (N:=r) (ix:=s) h i j x (by simpa using h1) (by simpa using h2)
 | y::r,some k::s,h,i,j,x,h1,h2=>by
  have h':(decide (XN[k]?=some y) && decide (scope.names.lookup y=some .free) && BC5 XN scope r s)=true:=h
  rw [Bool.and_eq_true,Bool.and_eq_true,decide_eq_true_eq,decide_eq_true_eq] at h'
  cases i with
  | zero =>
   simp at h1 h2
   subst h1 h2
   exact h'.1
  | succ i=>exact wQ h'.2 i j x (by simpa using h1) (by simpa using h2)
def AR3 (XN:List Str)(sc scope:Scope)(N:List Str)(ix:List (Option Nat)):Bool :=
 decide (scope.kind=.function) && decide (∀ y∈scope.names,y.2≠.cell) && decide (∀ y∈scope.names,y.2=.local→scope.names.lookup y.1=some .local) &&
  decide (∀ y∈scope.names,y.2=.free→sc.names.lookup y.1=some .cell∨sc.names.lookup y.1=some .free) && decide (ix.length=N.length) && BC5 XN scope N ix
section
variable {X:Cx}
theorem pV {elt iter tg:Expr}{ifs:List Expr}{scope:Scope}{pos:Pos}{wi:TI}{g:TG}{tt:TT}{te:TE}(N:List Str)(ix:List (Option Nat))(hc:X.calm=true)(hk:AR3 X.N X.env.scope scope N ix=true)(hi:PI X tg iter wi)(hb:∀ cl C s H fp,PG (blk X N scope cl C s H fp) tg g∧PTs (blk X N scope cl C s H fp) ifs tt∧PE (blk X N scope cl C s H fp) elt te)(hs:∀ x,foldedSetIterable iter X.env x=pure x:=by intro _; rfl):PE X (.ListComp elt [⟨tg,iter,ifs,0⟩] scope pos) (AF4 wi ix g tt te):=by
 unfold AR3 at hk
 simp only [Bool.and_eq_true,decide_eq_true_eq] at hk
 obtain ⟨⟨⟨⟨⟨h1,h2⟩,h3⟩,h4⟩,h5⟩,h6⟩:=hk
 exact AV5 N ix hc h1 h2 h3 h4 h5 (wQ h6) hi hb hs
end
section
variable {X:Cx}
theorem vF {pins:List (Addr × Obj)}{σ:L2.St}{H:Hp}{s:Shared}{Q:VK}{u:Str}{t:Tok}{k:Nat}(I:Inv X pins σ H s)(q:Q (.str u) H):EP X pins σ Q (.str u t) { s with toks:=k }:=⟨.str u,H,I.tok k,⟨t,rfl⟩,q⟩
def BI8:V→Option Int→Option Int→Hp→VK→Prop:=fun x lo hi H Q=>∃ u,x=.str u∧u.length≤sizeLine∧Q (.str (Txt.slice u lo hi)) H
theorem BC6:SlR X BI8:=by
 intro pins s σ H x v vl vu lo hi sl Q I rx hs pl pu h
 obtain ⟨u,rfl,hz,q⟩:=h
 obtain ⟨t,rfl⟩:=rx
 refine ⟨"str",_,PySem.F.slot_str_getitem.lookup,typeIs_str _ _ _,?_⟩
 obtain ⟨os,hos,hcs,hds⟩:=hs
 cases pl with
 | none =>
  cases pu with
  | none=>exact wpAny_getItem_str_slice (l:=none) (u:=none) (st:=none) ⟨os,hos,hcs,hds⟩ rfl (post_val_or_str ⟨Nat.le_trans (Txt.slice_le u _ _) hz,fun t' k=>vF I q⟩)
  | int j tj=>exact wpAny_getItem_str_slice (l:=none) (u:=some (j,tj)) (st:=none) ⟨os,hos,hcs,hds⟩ rfl (post_val_or_str ⟨Nat.le_trans (Txt.slice_le u _ _) hz,fun t' k=>vF I q⟩)
 | int i ti =>
  cases pu with
  | none=>exact wpAny_getItem_str_slice (l:=some (i,ti)) (u:=none) (st:=none) ⟨os,hos,hcs,hds⟩ rfl (post_val_or_str ⟨Nat.le_trans (Txt.slice_le u _ _) hz,fun t' k=>vF I q⟩)
  | int j tj=>exact wpAny_getItem_str_slice (l:=some (i,ti)) (u:=some (j,tj)) (st:=none) ⟨os,hos,hcs,hds⟩ rfl (post_val_or_str ⟨Nat.le_trans (Txt.slice_le u _ _) hz,fun t' k=>vF I q⟩)
def BI9:R2:=fun x y H Q=>∃ u n,x=.str u∧y=.int n∧2≤n∧1≤u.length∧u.length * n.toNat≤sizeLine∧Q (.str ⟨(List.replicate n.toNat u.cps).foldl (·++·) #[]⟩) H
theorem mJ (u:Array Nat):∀ (n:Nat) (a:Array Nat),((List.replicate n u).foldl (·++·) a).size=a.size+n * u.size
 | 0,a=>by simp
 | n+1,a=>by
  rw [List.replicate_succ,List.foldl_cons,mJ u n,Array.size_append,Nat.succ_mul]
  omega
theorem zP:OpR X (binaryOp .Mult) BI9:=by
 intro pins s σ H x y v u Q I rx ry h
 obtain ⟨z,n,rfl,rfl,h2,h1,hz,q⟩:=h
 obtain ⟨t,rfl⟩:=rx
 obtain ⟨t',rfl⟩:=ry
 have hn:z.length * n.toNat≤sizeLine:=hz
 have hnb:n.toNat≤sizeLine:=Nat.le_trans (Nat.le_mul_of_pos_left _ h1) hz
 have hzb:z.length≤sizeLine:=Nat.le_trans (Nat.le_mul_of_pos_right _ (by omega)) hz
 have sl:(sizeLine:Int) < 2 ^ 40:=by decide
 have n63:n < 2 ^ 40:=by omega
 have hc:(n == 1 || z.length == 0)=false:=by
  rw [Bool.or_eq_false_iff]
  exact ⟨by simp; omega,by simp; omega⟩
 refine P.mul_str (by rw [decide_eq_false (by omega),decide_eq_false (by omega)]; rfl) (fun _ _=>?_) (fun _ _=>?_) ?_
 ·have hd:(sizeLine:Int)≤(2 ^ 63 - 1) / n:=by
   refine Int.le_ediv_of_mul_le (by omega) ?_
   have e:(sizeLine:Int) * n≤(sizeLine:Int) * sizeLine:=Int.mul_le_mul_of_nonneg_left (by omega) (by omega)
   have e2:(sizeLine:Int) * sizeLine≤2 ^ 63 - 1:=by decide
   omega
  omega
 ·unfold Builtin.Str.tooLong
  exact decide_eq_false (by omega)
 ·rw [if_neg (by omega),hc,if_neg (by decide)]
  refine ⟨?_,⟨.str _,H,I.tok _,⟨_,rfl⟩,q⟩⟩
  show ((List.replicate n.toNat z.cps).foldl (·++·) #[]).size≤sizeLine
  rw [mJ]
  have:n.toNat * z.cps.size=z.length * n.toNat:=Nat.mul_comm _ _
  simp
  omega
def BJ0:V→List V→Hp→VK→Prop:=fun x xs H Q=>∃ u l ts,x=.str u∧xs=[.ref l]∧H l=some (.lst (ts.map V.str))∧JoinOk u ts=true∧Q (.str (Txt.join u ts)) H
theorem yO:∀ {ts:List Str}{us:List Value},Vals (ts.map V.str) us→∃ l:List (Str × Tok),us=strValues l∧l.map (·.1)=ts
 | [],_,r=>by
  rw [List.map_nil] at r
  cases r
  exact ⟨[],rfl,rfl⟩
 | a::ts,_,r=>by
  rw [List.map_cons] at r
  cases r with
  | cons r1 r2 =>
   obtain ⟨t,rfl⟩:=r1
   obtain ⟨l,rfl,e⟩:=yO r2
   exact ⟨(a,t)::l,rfl,by rw [List.map_cons,e]⟩
theorem tL:MtR X "str.join" BJ0:=by
 intro pins s σ H x xs v us Q I rx rv h
 obtain ⟨u,l,ts,rfl,rfl,hl,hz,q⟩:=h
 obtain ⟨t,rfl⟩:=rx
 cases rv with
 | cons r1 r2 =>
  cases r2
  cases r1
  obtain ⟨_,its,n,r,e⟩:=I.hok l _ hl
  obtain ⟨ll,rfl,e2⟩:=yO r
  exact SC.join (D:=l) (l:=ll) ⟨_,e,rfl,n,rfl⟩ e2 hz fun t' k=>vF I q
end
section
variable {K:Frag}{ta te:TE}{tr:TA}{wi:TI}{ix:List (Option Nat)}{g:TG}{tt:TT}{σ:L2.St}{H:Hp}{Q:VK}{QB:Bool→Hp→Prop}
def CompL (K:Frag)(a:Addr)(g:TG)(tt:TT)(te:TE)(Q:VK)(σ:L2.St)(H:Hp):Prop:=∃ W:Nat→Nat→List V→L2.St→Hp→Prop,(∃ m,W 0 m [] σ H)∧∀ i m acc σ H,W i m acc σ H →
 ((Itl K a).stop i H∧∀ D,H D=none→Q (.ref D) (L2.upd H D (.lst acc))) ∨
 ((Itl K a).go i H∧acc.length < sizeLine∧∃ N:List V→L2.St→Hp→Prop,(∀ acc' σ' H',N acc' σ' H'→∃ m',m' < m∧W (i+1) m' acc' σ' H') ∧
  ∀ x H',(Itl K a).yld i H x H'→g x σ H' fun σ2 H2=>tt σ2 H2 fun b H3=>if b=true then te σ2 H3 fun y H4=>N (acc++[y]) σ2 H4 else N acc σ2 H3)
theorem wR:AF4 (AS9 K ta) ix g tt te σ H Q=ta σ H (fun x H1=>∃ a,x=.ref a∧(∃ xs,SqL K H1 a xs)∧CompL K a g tt te Q (AA9 ix σ) H1):=rfl
theorem AV6:BL7 σ H QB=QB true H:=rfl
theorem wS:AA9 [] σ=[]:=rfl
theorem wT:AA9 (none::ix) σ=none::AA9 ix σ:=rfl
theorem wU {j:Nat}:AA9 (some j::ix) σ=((σ[j]?).getD none)::AA9 ix σ:=rfl
theorem BJ1 {T:String}{r:V→List V→Hp→VK→Prop}:tBM K T r ta tr σ H Q=ta σ H (fun x H1=>tyV K T x H1∧tr σ H1 (fun xs H2=>r x xs H2 Q)):=rfl
theorem AV7 {u:Str}:tyV K "str" (.str u) H=True:=by simp [tyV]
theorem AF6 {u v:Str}:(∃ i j,V.str u=.str i∧V.str v=.str j∧i.length+j.length≤sizeLine∧Q (.str (i++j)) H)=(u.length+v.length≤sizeLine∧Q (.str (u++v)) H):=by simp
theorem AV8 {u:Str}{lo hi:Option Int}:BI8 (.str u) lo hi H Q=(u.length≤sizeLine∧Q (.str (Txt.slice u lo hi)) H):=by simp [BI8]
theorem AF7 {X:Cx}{N:List Str}{scope:Scope}{cl:List (Str × Addr)}{C:Addr}{s:Shared}{fp:List Addr}:(blk X N scope cl C s H fp).K=X.K:=rfl
theorem CompL.by {a:Addr}{xs:List V}(Pv:Nat→List V→L2.St→Hp→Prop)(hz:xs.length≤sizeLine)(h0:Pv 0 [] σ H)(hl:∀ i acc σ H,i≤xs.length→Pv i acc σ H→SqL K H a xs)(hs:∀ i x acc σ H,xs[i]?=some x→Pv i acc σ H→g x σ H fun σ2 H2=>tt σ2 H2 fun b H3=>if b=true then te σ2 H3 fun y H4=>Pv (i+1) (acc++[y]) σ2 H4 else Pv (i+1) acc σ2 H3)(hacc:∀ i acc σ H,Pv i acc σ H→acc.length≤i)(hd:∀ acc σ H,Pv xs.length acc σ H→∀ D,H D=none→Q (.ref D) (L2.upd H D (.lst acc))):CompL K a g tt te Q σ H:=AF5 Pv hz h0 hl hs hacc hd
end
theorem AF8 {X:Cx}{x:Str}(h:X.env.kindOf x=some .globalImplicit):Gl X x:=h
def qN:List Expr→Option (List Str)
 | []=>some []
 | .Constant (.str x) _ _::r=>(qN r).map (x::·)
 | _=>none
def AF9 (xs:List Str):TA:=fun _ H Q=>Q (xs.map V.str) H
theorem AG0 {xs:List Str}{σ:L2.St}{H:Hp}{Q:List V→Hp→Prop}:AF9 xs σ H Q=Q (xs.map V.str) H:=rfl
theorem AG1 {X:Cx}:∀ {es:List Expr}{xs:List Str},qN es=some xs→PA X es (AF9 xs)
 | [],xs,h=>by
  have e:xs=[]:=by simpa [qN] using h.symm
  subst e
  exact fun _ _ _ _ H Q I q=>Calls.spliced_nil ⟨[],H,I,.nil,q⟩
 | e::es,xs,h=>by
  cases e with
  | Constant c j pos =>
   cases c with
   | str x =>
    have h':(qN es).map (x::·)=some xs:=h
    cases hr:qN es with
    | none=>rw [hr] at h'; cases h'
    | some ys =>
     rw [hr] at h'
     have e:xs=x::ys:=(Option.some.inj h').symm
     subst e
     have hp:PA X (.Constant (.str x) j pos::es) (AC3 (tC (.str x)) (AF9 ys)):=AC4 bE (AG1 hr)
     exact hp
   | _=>exact absurd h (by intro z; cases z)
  | _=>exact absurd h (by intro z; cases z)
theorem AV9 {X:Cx}{es:List Expr}{xs:List Str}{pos:Pos}(h:qN es=some xs):PE X (.List es pos) (BB4 (AF9 xs)):=pA (AG1 h)
def Well3 (H:Hp)(w:Addr):Prop:=∃ a b c:Int,H w=some (.lst [.int a,.int b,.int c])
theorem Well3.same {H H':Hp}{w:Addr}(W:Well3 H w)(s:Same H H'):Well3 H' w:=by
 obtain ⟨a,b,c,h⟩:=W
 exact ⟨a,b,c,s _ _ h⟩
theorem Well3.ne {H:Hp}{w p:Addr}(W:Well3 H w)(h:H p=none):p≠w:=by
 obtain ⟨a,b,c,e⟩:=W
 exact (aR e h).symm
def jS (u:Str):Prop:=1≤u.length∧u.length≤8∧∀ c∈u.cps.toList,97≤c∧c≤122
instance (u:Str):Decidable (jS u):=by unfold jS; infer_instance
def letters:Str:="abcdefghijklmnopqrstuvwxyz"
structure CalC (P:Program) (w:World) (K:Frag) (mg:Str→Option Value) (base:Heap) (x:Str) (C:Addr) (ps:List Str) (k:Nat) (sp:Sp):Prop where
 ex:∃ f fd,FnOk P w K mg base (CXF P w) k f fd ps sp∧Binds K fd ps []∧Mk K C f∧mg x=some (.ref C)
structure CalM (P:Program) (w:World) (K:Frag) (mg:Str→Option Value) (base:Heap) (C:Addr) (m:Str) (ps:List Str) (k:Nat) (sp:Sp):Prop where
 ex:∃ f fd,FnOk P w K mg base (CXF P w) k f fd ps sp∧Binds K fd ps []∧Meth K C m f∧Cls K C
section
variable {X:Cx}{x m:Str}{C:Addr}{ps:List Str}{k:Nat}{sp:Sp}{e o:Expr}{es:List Expr}{ta:TE}{t:TA}{p pos apos:Pos}{E:XK}
theorem yP (c:CalC X.prog X.w X.K X.mg X.base x C ps k sp)(hx:hJ (CXF X.prog X.w) X E)(hr:Room (k+1) X.A)(hg:Gl X x)(ha:PA X (e::es) t)(hdb:(x == ("__debug__":Str))=false:=by decide)(he:starEach (e::es) X.env=(false,eval e X.env)::starEach es X.env:=by rfl)(hpl:(backTo pos (starEach es X.env)).any (·.1)=false:=by rfl) :
  PE X (.Call (.Name x p) (e::es) [] pos) (AM6 C sp [] E t):=by
 obtain ⟨f,fd,F,b,M,hm⟩:=c.ex
 exact AC5 M F hr hg hm b .nil hx ha hdb he hpl
def yQ (Mm:Addr→Sp→Prop)(m:Str)(E:XK)(ta:TE)(t:TA):TE:=fun σ H Q=>ta σ H fun x H1=>∃ a C dx fs sp,x=.ref a∧H1 a=some (.ins C dx fs)∧fs.lookup m=none∧Mm C sp ∧
 t σ H1 fun vs H2=>sp (x::vs) H2 Q E
theorem wV {Mm:Addr→Sp→Prop}{σ:L2.St}{H:Hp}{Q:VK}:yQ Mm m E ta t σ H Q=ta σ H (fun x H1=>∃ a C dx fs sp,x=.ref a∧H1 a=some (.ins C dx fs)∧fs.lookup m=none∧Mm C sp ∧
 t σ H1 fun vs H2=>sp (x::vs) H2 Q E):=rfl
theorem cW {pl:Sem Bool}{Mm:Addr→Sp→Prop}(he:PE X o ta)(hM:∀ C sp,Mm C sp→CalM X.prog X.w X.K X.mg X.base C m ps k sp)(hx:hJ (CXF X.prog X.w) X E)(hr:Room k X.A)(ha:PA X (e::es) t)(hst:starEach (e::es) X.env=(false,eval e X.env)::starEach es X.env:=by rfl)(hpl:(backTo pos (starEach es X.env)).any (·.1)=false:=by rfl)(ht:eval (.Call (.Attribute o m apos) (e::es) [] pos) X.env=(do
   let ov ← eval o X.env
   standAt apos.atName
   let (f,first) ← holding [ov] (getMethod ov m pl)
   callWith pos f first (backTo pos (starEach (e::es) X.env)) (backToKw pos (keywordEach [] X.env))):=by rfl) :
  PE X (.Call (.Attribute o m apos) (e::es) [] pos) (yQ Mm m E ta t):=by
 intro pins s σ H Q I h
 refine methodCall_KW (pl:=pl) (thn (he pins s σ H _ I h) fun u s1 ⟨x,H1,I1,rx,a,C,dx,fs,sp,ex,ea,l,hC,q⟩=>?_) ht
 subst ex
 obtain rfl:u=Value.ref a:=rx
 obtain ⟨f,fd,F,b,hm,c⟩:=(hM C sp hC).ex
 refine nZ I1 ea c hm l ?_
 refine callWith_K (first:=[.ref a]) (h₀:=X.base) I.ok.mod.kin hm.kp (thn (ha pos pins s1 σ H1 _ I1 q) fun us s2 ⟨vs,H2,I2,r,q2⟩=>⟨I2.kIn,?_⟩) hst hpl
 refine yG (us:=.ref a::us) (vs:=.ref a::vs) F hr b .nil hx I2 (.cons rfl r) ?_
 rw [List.append_nil]
 exact q2
theorem aN {pl:Sem Bool}{Mm:Addr→Sp→Prop}(he:PE X o ta)(hM:∀ C sp,Mm C sp→CalM X.prog X.w X.K X.mg X.base C m ps k sp)(hx:hJ (CXF X.prog X.w) X E)(hr:Room k X.A)(ht:eval (.Call (.Attribute o m apos) [] [] pos) X.env=(do
   let ov ← eval o X.env
   standAt apos.atName
   let (f,first) ← holding [ov] (getMethod ov m pl)
   callWith pos f first (backTo pos (starEach [] X.env)) (backToKw pos (keywordEach [] X.env))):=by rfl) :
  PE X (.Call (.Attribute o m apos) [] [] pos) (yQ Mm m E ta BB2):=by
 intro pins s σ H Q I h
 refine methodCall_KW (pl:=pl) (thn (he pins s σ H _ I h) fun u s1 ⟨x,H1,I1,rx,a,C,dx,fs,sp,ex,ea,l,hC,q⟩=>?_) ht
 subst ex
 obtain rfl:u=Value.ref a:=rx
 obtain ⟨f,fd,F,b,hm,c⟩:=(hM C sp hC).ex
 refine nZ I1 ea c hm l ?_
 exact callWith_K0 (first:=[.ref a]) I1.kIn hm.kp (yG (us:=[.ref a]) (vs:=[.ref a]) F hr b .nil hx I1 (.cons rfl .nil) q)
structure MkN (K:Frag) (C:Addr):Prop where
 makes:makesIn K C=true
 init:findIn K (.ref C) "__init__"=some (some (.builtin "object.__init__"))
 kp:keepIn K (.ref C)=true
def AR4 (C:Addr):TE:=fun _ H Q=>∀ x dx,H x=none→H dx=none→dx≠x→Q (.ref x) (L2.upd (L2.upd H dx (.own x)) x (.ins C dx []))
theorem wW {σ:L2.St}{H:Hp}{Q:VK}:AR4 C σ H Q=∀ x dx,H x=none→H dx=none→dx≠x→Q (.ref x) (L2.upd (L2.upd H dx (.own x)) x (.ins C dx [])):=rfl
theorem AW0 (M:MkN X.K C)(hg:Gl X x)(hm:X.mg x=some (.ref C))(hdb:(x == ("__debug__":Str))=false:=by decide):PE X (.Call (.Name x p) [] [] pos) (AR4 C):=by
 intro pins s σ H Q I h
 refine wpAny_Call_Name_kw (fA I hg hm ?_ hdb)
 refine callWith_K0 I.kIn M.kp ?_
 have hq:=h (s.heap.objs.size+1) s.heap.objs.size (I.hok.fresh (Nat.le_succ _)) (I.hok.fresh (Nat.le_refl _)) (Nat.ne_of_lt (Nat.lt_succ_self _))
 have I2:=Inv.made (C:=C) I
 have Y:=makes_of (M:=model X.prog X.w) I.kIn M.makes
 refine wpAny_call (AC1 I.kIn M.makes M.init (fun self=>Looks.of_pure (oi_bind self)) ?_)
 obtain ⟨hh,g,d,tt,os⟩:=s
 have t1:Looks (model X.prog X.w) ((hh.push emptyDict).push (instObj C hh.objs.size)) (typeOf (.ref (hh.objs.size+1))) (.ref C):=by
  obtain ⟨mA,O,_⟩:=nY (a:=hh.objs.size+1) (C:=C) (dx:=hh.objs.size) (fs:=[]) I2.hok aC
  obtain ⟨od,J,_⟩:=O.look
  exact J.type
 have t2:Looks (model X.prog X.w) ((hh.push emptyDict).push (instObj C hh.objs.size)) (isInstance (.ref (hh.objs.size+1)) (.type "object")) true :=
  t1.andThen (Y.top.keeps fun b o e=>Heap.get?_push_of_some _ (Heap.get?_push_of_some _ e))
 refine codeAny_call_builtin oi_plain entry_oi (@check_slot (model X.prog X.w) _ _ _ "object.__init__" "object" "__init__" (.ref (hh.objs.size+1)) [] [] _ oi_kind oi_split t2 (oi_args (.ref (hh.objs.size+1))) ?_)
 rw [oi_run]
 exact wpAny_pure (And.intro rfl ⟨V.ref (hh.objs.size+1),_,I2,rfl,hq⟩)
end
def BC7 (K:Frag):List V→Hp→VK→Prop:=fun xs H Q=>∃ (x:V) (c:Addr) (t:Value) (b:Bool),xs=[x,.ref c]∧TyOf K H x t∧kitOne K t (.ref c)=some b∧Q (.bl b) H
theorem AG2 {X:Cx}:iP X (.builtin "isinstance") (BC7 X.K):=by
 intro pins s σ H xs us Q I r h
 obtain ⟨x,c,t,b,rfl,ty,e,q⟩:=h
 obtain ⟨u,w',rfl,rx,rc⟩:=zI r
 cases (show w'=Value.ref c from rc)
 exact qH I rx ty e fun tk=>⟨.bl b,H,I.tok _,rfl,q⟩
section
variable {X:Cx}
end
section
variable {K:Frag}{C:Addr}{sp:Sp}{dvs:List V}{E:XK}{ta tv:TE}{t:TA}{f:Str}{σ:L2.St}{H:Hp}{Q:VK}{D:Ends}{n:Nat}{ts:TGs}{v:V}{QS:L2.St→Hp→Prop}{g:TG}
theorem AG3:AM6 C sp dvs E t σ H Q=t σ H (fun vs H1=>∀ x dx,H1 x=none→H1 dx=none→dx≠x →
 sp (.ref x::(vs++dvs)) (L2.upd (L2.upd H1 dx (.own x)) x (.ins C dx [])) (fun v H2=>v=.non∧Q (.ref x) H2) E):=rfl
theorem AW1:BL1 K ta f σ H Q=ta σ H (fun x H1=>∃ a C dx fs v,x=.ref a∧H1 a=some (.ins C dx fs)∧Cls K C∧NoAttr K C f∧fs.lookup f=some v∧Q v H1):=rfl
theorem AG4:BK8 K n ts v σ H QS=∃ a xs,v=.ref a∧SqT K H a xs∧xs.length=n∧ts xs σ H QS:=rfl
theorem wX {vs:List V}:BA7 g ts vs σ H QS=∃ v r,vs=v::r∧g v σ H (fun σ' H'=>ts r σ' H' QS):=rfl
theorem AG5:BL2 K ta tv f D σ H=tv σ H (fun y H1=>ta σ H1 (fun x H2=>∃ a C dx fs,x=.ref a∧H2 a=some (.ins C dx fs)∧Cls K C∧NoAttr K C f∧fs.length < 1000 ∧
 D.nx σ (L2.upd H2 a (.ins C dx (mF f y fs))))):=rfl
theorem AG6 {vs:List V}:BK7 vs σ H QS=(vs=[]∧QS σ H):=rfl
end
section
variable {X:Cx}{x:Str}{ps:List Str}{k:Nat}{sp:Sp}{p pos:Pos}
end
theorem FnOk.lift {P:Program}{w:World}{K:Frag}{mg:Str→Option Value}{base:Heap}{CX:CXT}{j k:Nat}{f:Addr}{fd:FuncData}{ps:List Str}{sp:Sp}(F:FnOk P w K mg base CX j f fd ps sp)(h:j≤k):FnOk P w K mg base CX k f fd ps sp :=
 ⟨F.len,fun A outer s H args us vs Q E hr he hb hv hs=>F.run A outer s H args us vs Q E (hr.mono h) he hb hv hs⟩
theorem fJ {H:Hp}{x dx:Addr}{o o':HO}(hx:H x=none)(hd:H dx=none):Same H (L2.upd (L2.upd H dx o) x o'):=fun b u q=>by
 rw [aI (aR q hx),aI (aR q hd)]
 exact q
structure ClsK (K:Frag) (C:Addr):Prop where
 cl:Cls K C
 ha:findIn K (.ref C) "__class__"=some (some (.builtin "object.__class__"))
 hn:specialIn K (.builtin "object.__class__") "__get__"=some (some (.builtin "getset_descriptor.__get__"))
 ht:takesIn K (.builtin "object.__class__")=some true
 hm:mroIn K C (.type "object")=some true
theorem ClsK.ty {K:Frag}{C:Addr}(c:ClsK K C){H:Hp}{a dx:Addr}{fs:List (Str × V)}(e:H a=some (.ins C dx fs)):TyOf K H (.ref a) (.ref C):=.ins e c.cl c.ha c.hn c.ht c.hm
theorem oE {X:Cx}{K:Frag}(hK:X.K=K):iP X (.builtin "isinstance") (BC7 K):=by
 subst hK
 exact AG2
def sM:Expr→Bool
 | .Starred _ _=>true
 | _=>false
theorem aG:∀ (e:Expr) (es:List Expr) (env:Env),sM e=false→starEach (e::es) env=(false,eval e env)::starEach es env:=by
 intro e es env h
 cases e <;> first | rfl | (cases h)
def vG:List Expr→Bool
 | []=>true
 | e::r=>!sM e && vG r
theorem aH {pos:Pos}{env:Env}:∀ {es:List Expr},vG es=true→(backTo pos (starEach es env)).any (·.1)=false
 | [],_=>rfl
 | e::r,h=>by
  have h':(!sM e)=true∧vG r=true:=by simpa [vG] using h
  rw [aG e r env (by simpa using h'.1)]
  have ih:=aH (pos:=pos) (env:=env) h'.2
  have e1:backTo pos ((false,eval e env)::starEach r env)=(false,eval e env)::backTo pos (starEach r env):=rfl
  rw [e1,List.any_cons,ih]
  rfl
theorem BM9 {X:Cx}{e:Expr}{es:List Expr}{te:TE}{t:TA}(ha:PE X e te)(hr:PA X es t)(hs:sM e=false:=by rfl):PA X (e::es) (AC3 te t):=AC4 ha hr (aG e es X.env hs)
structure QA (X:Cx) (es:List Expr) (t:TA):Prop where
 h:PA X es t
theorem aF {X:Cx}:QA X [] BB2:=⟨BB3⟩
theorem aS {X:Cx}{e:Expr}{es:List Expr}{te:TE}{t:TA}(ha:PE X e te)(hr:QA X es t)(hs:sM e=false:=by rfl):QA X (e::es) (AC3 te t):=⟨BM9 ha hr.h hs⟩
theorem aK {X:Cx}{es:List Expr}{t:TA}(h:QA X es t):PA X es t:=h.h
def yR:V→Bool
 | .int _=>true
 | _=>false
def qO (x:V)(lo hi:Int):Bool:=match x with
 | .int i=>decide (lo≤i) && decide (i≤hi)
 | _=>false
def AW2 (x:V)(lo:Int):Bool:=match x with
 | .int i=>decide (lo≤i)
 | _=>false
def BJ2 (t u:TS):TS:=fun D σ H=>∃ M:L2.St→Hp→Prop,t { D with nx:=M } σ H∧∀ σ' H',M σ' H'→u D σ' H'
theorem AW3 {t u:TS}{D:Ends}{σ:L2.St}{H:Hp}:BJ2 t u D σ H=∃ M:L2.St→Hp→Prop,t { D with nx:=M } σ H∧∀ σ' H',M σ' H'→u D σ' H':=rfl
theorem AW4 {X:Cx}{st:Stmt}{rest:List Stmt}{t u:TS}(h1:PS X st t)(h2:PSs X rest u):PSs X (st::rest) (BJ2 t u):=by
 intro pins s σ H D I h
 obtain ⟨M,ha,hb⟩:=h
 refine wpAny_execs_cons (thn (h1 pins s σ H { D with nx:=M } I ha) fun f s1 q=>?_)
 cases f with
 | next =>
  obtain ⟨σ',H',I',q⟩:=q
  exact h2 pins s1 σ' H' D I' (hb _ _ q)
 | ret v=>exact q
 | brk=>exact q
 | cont=>exact q
def iS (u:Str):Bool:=u.cps.all (· < 128)
def Its (u:Str):It:=⟨fun i _=>i < u.cps.size,fun i H x H'=>H'=H∧∃ c,u.cps[i]?=some c∧x=.str ⟨#[c]⟩,fun i _=>u.cps.size≤i⟩
theorem AN5 {P:Program}{w:World}{K:Frag}{tg:Expr}(u:Str)(t:Tok)(it:Addr):Turn P w K tg (Its u) [it] it (fun i h=>h.IsStrIter it "str_ascii_iterator" u t i) where
 mem:=by simp
 obj:=fun i h st b hb=>by
  have e:b=it:=by simpa using hb
  subst e
  obtain ⟨o,e,c,d⟩:=st
  exact ⟨o,e,fun v z=>by rw [d] at z; cases z⟩
 keep:=fun i h h' st k=>by
  obtain ⟨o,e,c,d⟩:=st
  exact ⟨o,k it (by simp) o e,c,d⟩
 item:=by
  intro X hP hw hK hc i pins s σ H E I hf st hg
  subst hP hw hK
  have hx:u.cps[i]?=some u.cps[i]:=Array.getElem?_eq_getElem hg
  obtain ⟨f0,f1,f2,f3,f4,f5⟩:=hf it (by simp)
  refine wpAny_pyNext_ascii_item st hx fun h' st' sb=>?_
  have I1:Inv X pins σ H { s with heap:=h',toks:=s.toks+1 }:=I.turned (t':=s.toks+1) (fun b o hb e=>(sb.2 b hb).trans e) f0 f1 f3 f4 f5
  obtain ⟨o,e,c,d⟩:=id st'
  exact ⟨_,rfl,BB0 (s:={ s with heap:=h',toks:=s.toks+1 }) e c d (by decide) ⟨.str ⟨#[u.cps[i]]⟩,H,I1,⟨_,rfl⟩,⟨rfl,_,hx,rfl⟩,st',fun b hb=>(hf b hb).1⟩⟩
 done:=by
  intro X hP hw hK hc i pins s σ H E I hf st hg
  subst hP hw hK
  obtain ⟨f0,f1,f2,f3,f4,f5⟩:=hf it (by simp)
  exact wpAny_pyNext_ascii_end (I.ok.hd hc) st (Array.getElem?_eq_none hg) fun h' eb=>⟨rfl,I.turned (t':=s.toks) (fun b o hb e=>eb b o hb e) f0 f1 f3 f4 f5⟩
 self:=fun _ _ _ _ _ st h=>wpAny_pyIter_striter_ascii st h
def BL8 (tl:TE):TI:=fun σ H R=>tl σ H fun x H1=>∃ u,x=.str u∧iS u=true∧R (Its u) H1
theorem AR5 {X:Cx}{tg l:Expr}{tl:TE}(hl:PE X l tl):PI X tg l (BL8 tl):=by
 intro pins s σ H R I h
 refine thn (hl pins s σ H _ I h) fun v s1 ⟨x,H1,I1,r1,q1⟩=>?_
 obtain ⟨u,e,hp,q⟩:=q1
 subst e
 obtain ⟨t,rfl⟩:=r1
 refine wpAny_pyIter_ascii hp ?_
 refine ⟨s1.heap.objs.size,[s1.heap.objs.size],_,_,H1,rfl,I1.kept (t':=s1.toks) fun b o e=>Heap.get?_push_of_some _ e,AN5 u t _,⟨_,Heap.get?_push_size _ rfl,rfl,rfl⟩,fun b hb=>?_,q⟩
 have e:b=s1.heap.objs.size:=by simpa using hb
 subst e
 exact I1.fpOk (Nat.le_refl _) (I1.hok.fresh (Nat.le_refl _))
section
variable {K:Frag}{ta te:TE}{ix:List (Option Nat)}{g:TG}{tt:TT}{σ:L2.St}{H:Hp}{Q:VK}
def CompS (u:Str)(g:TG)(tt:TT)(te:TE)(Q:VK)(σ:L2.St)(H:Hp):Prop:=∃ W:Nat→Nat→List V→L2.St→Hp→Prop,(∃ m,W 0 m [] σ H)∧∀ i m acc σ H,W i m acc σ H →
 ((Its u).stop i H∧∀ D,H D=none→Q (.ref D) (L2.upd H D (.lst acc))) ∨
 ((Its u).go i H∧acc.length < sizeLine∧∃ N:List V→L2.St→Hp→Prop,(∀ acc' σ' H',N acc' σ' H'→∃ m',m' < m∧W (i+1) m' acc' σ' H') ∧
  ∀ x H',(Its u).yld i H x H'→g x σ H' fun σ2 H2=>tt σ2 H2 fun b H3=>if b=true then te σ2 H3 fun y H4=>N (acc++[y]) σ2 H4 else N acc σ2 H3)
theorem wY:AF4 (BL8 ta) ix g tt te σ H Q=ta σ H (fun x H1=>∃ u,x=.str u∧iS u=true∧CompS u g tt te Q (AA9 ix σ) H1):=rfl
theorem CompS.by {u:Str}(Pv:Nat→List V→L2.St→Hp→Prop)(hz:u.cps.size≤sizeLine)(h0:Pv 0 [] σ H)(hs:∀ i c acc σ H,u.cps[i]?=some c→Pv i acc σ H→g (.str ⟨#[c]⟩) σ H fun σ2 H2=>tt σ2 H2 fun b H3=>if b=true then te σ2 H3 fun y H4=>Pv (i+1) (acc++[y]) σ2 H4 else Pv (i+1) acc σ2 H3)(hacc:∀ i acc σ H,Pv i acc σ H→acc.length≤i)(hd:∀ acc σ H,Pv u.cps.size acc σ H→∀ D,H D=none→Q (.ref D) (L2.upd H D (.lst acc))):CompS u g tt te Q σ H:=by
  refine ⟨fun i m acc σ H=>m=u.cps.size - i∧i≤u.cps.size∧Pv i acc σ H,⟨u.cps.size,by simp,Nat.zero_le _,h0⟩,?_⟩
  rintro i m acc σ H ⟨rfl,hi,p⟩
  have ha:=hacc i acc σ H p
  by_cases hlt:i < u.cps.size
  · refine .inr ⟨hlt,by omega,Pv (i+1),fun acc' σ' H' p'=>⟨u.cps.size - (i+1),by omega,rfl,hlt,p'⟩,fun x H' y=>?_⟩
    obtain ⟨e,c,hc,y⟩:=y
    subst e y
    exact hs i c acc σ _ hc p
  · have e:i=u.cps.size:=by omega
    subst e
    exact .inl ⟨Nat.le_refl _,hd acc σ H p⟩
end
theorem yS:∀ {bs:List Bool}{its:List Value},Vals (bs.map V.bl) its→∀ (i:Nat) (v:Value),its[i]?=some v→∃ b:Bool,bs[i]?=some b∧v=Value.bool b
 | [],_,r,i,v,h=>by
  rw [List.map_nil] at r
  cases r
  simp at h
 | b::bs,_,r,i,v,h=>by
  rw [List.map_cons] at r
  cases r with
  | cons r1 r2 =>
   cases i with
   | zero =>
    simp at h
    subst h
    exact ⟨b,rfl,r1⟩
   | succ i=>exact yS r2 i v (by simpa using h)
theorem pW {X:Cx}(hc:X.calm=true):iP X (.builtin "all") (fun xs H Q=>∃ (a:Addr) (bs:List Bool),xs=[.ref a]∧SqL X.K H a (bs.map V.bl)∧Q (.bl (bs.all id)) H):=by
 intro pins s σ H xs us Q I r h
 obtain ⟨a,bs,rfl,hS,q⟩:=h
 obtain ⟨u,rfl,ru⟩:=sY r
 cases ru
 obtain ⟨its,rv,pl,hz⟩:=I.list hS
 have hl:s.heap.IsList a its.toArray:=pl.isList
 have hlt:a < s.heap.objs.size:=by obtain ⟨_,e,_⟩:=hl; exact Heap.lt_size e
 refine call_all_walk (wpAny_pyIter_list hl ?_)
 refine ⟨s.heap.objs.size,[s.heap.objs.size,a],[s.heap.objs.size],its.toArray.size,_,_,fun i=>(bs[i]?).getD true,rfl,Walks.list (A:=X.A.in1) (I.ok.hd hc) _ a (Nat.ne_of_lt hlt) its.toArray,
  ⟨⟨_,Heap.get?_push_size _ rfl,rfl,rfl⟩,hl.push _⟩,fun i v s' Q' E' hP hQ=>?_,fun h' tk hk=>?_⟩
 ·obtain ⟨b,e,rfl⟩:=yS rv i v (by simpa using hP)
  simp only [e,Option.getD_some] at hQ
  exact wpAny_truthy_bool hQ
 ·have hn:its.toArray.size=bs.length:=by
   have:=rv.length
   rw [List.length_map] at this
   simpa using this.symm
  have e:((List.range its.toArray.size).all fun i=>(bs[i]?).getD true)=bs.all id:=by
   rw [hn,Bool.eq_iff_iff,List.all_eq_true,List.all_eq_true]
   constructor
   ·intro z b hb
    obtain ⟨i,hi,rfl⟩:=List.getElem_of_mem hb
    have:=z i (List.mem_range.mpr hi)
    simpa [List.getElem?_eq_getElem hi] using this
   ·intro z i hi
    have hi':=List.mem_range.mp hi
    simp only [List.getElem?_eq_getElem hi',Option.getD_some]
    exact z _ (List.getElem_mem hi')
  rw [e]
  refine ⟨.bl _,H,I.kept (t':=tk) fun b o eb=>hk b o (fun hm=>by rw [List.mem_singleton.mp hm] at eb; exact Nat.lt_irrefl _ (Heap.lt_size eb)) (Heap.get?_push_of_some _ eb),rfl,q⟩
def okN (H:Hp):V→Prop
 | .non=>True
 | .bl _=>True
 | .int _=>True
 | .str u=>iS u=true∧u.length≤1000
 | .ref a=>(∃ xs,H a=some (.lst xs))∨(∃ xs,H a=some (.tup xs))∨∃ kvs,H a=some (.dK kvs)
 | _=>False
def qP:V→Bool
 | .str _=>true
 | _=>false
theorem okN.ty {K:Frag}{H:Hp}{x:V}(h:okN H x):∃ T,TyOf K H x (.type T)∧kitOne K (.type T) (.type "str")=some (qP x):=by
 cases x with
 | non=>exact ⟨_,.non,by kernel_rfl⟩
 | bl b=>exact ⟨_,.bl b,by kernel_rfl⟩
 | int i=>exact ⟨_,.int i,by kernel_rfl⟩
 | str i=>exact ⟨_,.str i,by kernel_rfl⟩
 | ref a =>
  rcases h with ⟨xs,e⟩ | ⟨xs,e⟩ | ⟨xs,e⟩
  ·exact ⟨_,.lst e,by kernel_rfl⟩
  ·exact ⟨_,.tup e,by kernel_rfl⟩
  ·exact ⟨_,.dK e,by kernel_rfl⟩
 | _=>exact h.elim
theorem vH {X:Cx}:iP X (.builtin "isinstance") (fun xs H Q=>∃ x,xs=[x,.ty "str"]∧okN H x∧Q (.bl (qP x)) H):=by
 intro pins s σ H xs us Q I r h
 obtain ⟨x,rfl,ok,q⟩:=h
 obtain ⟨T,ty,e⟩:=ok.ty (K:=X.K)
 exact AT4 I r ty e q
theorem okN.same {H H':Hp}{x:V}(h:okN H x)(s:Same H H'):okN H' x:=by
 cases x with
 | ref a =>
  rcases h with ⟨xs,e⟩ | ⟨xs,e⟩ | ⟨xs,e⟩
  ·exact .inl ⟨xs,s _ _ e⟩
  ·exact .inr (.inl ⟨xs,s _ _ e⟩)
  ·exact .inr (.inr ⟨xs,s _ _ e⟩)
 | non=>trivial
 | bl _=>trivial
 | int _=>trivial
 | str _=>exact h
 | _=>exact h.elim
def iT:V→Bool
 | .str u=>decide (jS u)
 | _=>false
theorem sN {c:Nat}(h:c < 128):(!(Builtin.Str.occurrences letters ⟨#[c]⟩ 0 letters.length 1).isEmpty)=decide (97≤c∧c≤122):=by
 have q:∀ k:Fin 128,(!(Builtin.Str.occurrences letters ⟨#[k.val]⟩ 0 letters.length 1).isEmpty)=decide (97≤k.val∧k.val≤122):=by decide +kernel
 exact q ⟨c,h⟩
theorem plain_iff {u:Str}:iS u=true ↔ ∀ c∈u.cps.toList,c < 128:=by
 unfold iS
 rw [Array.all_eq_true']
 constructor
 ·intro h c hc
  have:=h c (by simpa using hc)
  simpa using this
 ·intro h c hc
  have:=h c (by simpa using hc)
  simpa using this
theorem AG7 {u:Str}{l r:Option Int}{c:Nat}(h:c∈(Txt.slice u l r).cps.toList):c∈u.cps.toList:=by
 unfold Txt.slice at h
 split at h
 ·exact h
 ·simp only [List.mem_filterMap] at h
  obtain ⟨i,_,e⟩:=h
  exact Array.mem_toList_iff.mpr (Array.mem_of_getElem? e)
theorem AN6 {u:Str}(h:iS u=true):(u.cps.toList.map fun c=>!(Builtin.Str.occurrences letters ⟨#[c]⟩ 0 letters.length 1).isEmpty).all id=decide (∀ c∈u.cps.toList,97≤c∧c≤122):=by
 rw [Bool.eq_iff_iff,List.all_eq_true,decide_eq_true_eq]
 constructor
 ·intro z c hc
  have q:=z _ (List.mem_map.mpr ⟨c,hc,rfl⟩)
  rw [sN (plain_iff.mp h c hc)] at q
  simpa using q
 ·intro z b hb
  obtain ⟨c,hc,rfl⟩:=List.mem_map.mp hb
  rw [sN (plain_iff.mp h c hc)]
  simpa using z c hc
section
variable {X:Cx}{x:Str}{C:Addr}{ps:List Str}{k:Nat}{sp:Sp}{e:Expr}{es:List Expr}{t:TA}{p pos:Pos}
variable {K:Frag}{σ:L2.St}{H:Hp}{Q:VK}{D:Ends}{CB:Addr}{i:Nat}{tb:XK→TS}{ts:TS}{E:XK}{dvs:List V}
def AG8:TE:=fun _ H0 Q0=>∀ d,H0 d=none→Q0 (.ref d) (L2.upd H0 d (.dK []))
theorem tM:AG8 σ H Q=∀ d,H d=none→Q (.ref d) (L2.upd H d (.dK [])):=rfl
theorem AG9:PE X (.Dict [] [] pos) AG8:=by
 intro pins s σ H Q I h
 have hf:=I.hok.fresh (Nat.le_refl s.heap.objs.size)
 have ho:ObjOk X.prog X.w H (s.heap.push { cls:=.type "dict",data:=.dict #[] }) s.heap.objs.size (.dK []):=by
  refine ⟨Nat.zero_le _,?_,[],.nil,Heap.DictOf.new s.heap⟩
  rw [beq_eq_false_iff_ne]
  have hlt:=(I.mod.glob.keeps I.bk).lt
  exact fun z=>absurd (Nat.lt_trans (show sysModules < mainGlobals by decide) hlt) (by rw [z]; exact Nat.lt_irrefl _)
 refine wpAny_Dict_empty ⟨.ref s.heap.objs.size,_,?_,rfl,h _ hf⟩
 exact I.laid (o:=.dK []) (t':=s.toks) (fun _ _ q=>Heap.get?_push_of_some _ q) (Nat.le_refl _) ho
end
structure QE (X:Cx) (e:Expr) (t:TE):Prop where
 h:PE X e t
structure QS (X:Cx) (st:Stmt) (t:TS):Prop where
 h:PS X st t
structure QSs (X:Cx) (sts:List Stmt) (t:TS):Prop where
 h:PSs X sts t
section
variable {X:Cx}{e a b c:Expr}{es:List Expr}{st:Stmt}{rest sa sb:List Stmt}{te ta tb:TE}{tl:TA}{tc:TT}{t u:TS}{pos pos':Pos}{x:Str}{i:Nat}
theorem aQ (h:PE X e te):QE X e te:=⟨h⟩
theorem bN (h:PS X st t):QS X st t:=⟨h⟩
theorem aY (h:QSs X rest t):PSs X rest t:=h.h
theorem mK (h:QA X es tl):QE X (.List es pos) (BB4 tl):=⟨pA h.h⟩
theorem jY {op:Operator}{r:R2}(ho:OpR X (binaryOp op) r)(ha:QE X a ta)(hb:QE X b tb):QE X (.BinOp a op b pos) (tOp r ta tb):=⟨dJ ho ha.h hb.h⟩
theorem BC8 {r:R2}(hr:IxR X r)(ha:QE X a ta)(hb:QE X b tb)(hs:AD0 b):QE X (.Subscript a b pos) (tOp r ta tb):=⟨mG hr ha.h hb.h hs⟩
theorem aZ (he:QE X e te):QS X (.Return (some e) pos) (BE6 te):=⟨BA5 he.h⟩
theorem aU (hN:X.N.Nodup)(hi:X.N[i]?=some x)(hx:Loc X.env.scope x)(he:QE X e te)(hs:swapsWith e (some (.Name x pos')) pos.line X.env=pure false)(hf:X.fn x=true∨X.env.scope.names.lookup x=some .local:=by first | exact .inl rfl | exact .inr rfl | assumption) :
  QS X (.Assign [.Name x pos'] e pos) (BE8 te (AL9 i)):=⟨BA9 hN hi hx he.h hs hf⟩
theorem bM (hc:PT X c tc)(ha:QSs X sa t)(hb:QSs X sb u):QS X (.If c sa sb pos) (BF9 tc t u):=⟨BG0 hc ha.h hb.h⟩
theorem aT:QSs X [] AS6:=⟨AS7⟩
theorem aJ (h:QS X st t):QSs X [st] t:=⟨fL h.h⟩
theorem aB (h1:QS X st t)(h2:QSs X rest u):QSs X (st::rest) (BF8 t u):=⟨AL8 h1.h h2.h⟩
theorem AH0 (h1:QS X st t)(h2:QSs X rest u):QSs X (st::rest) (BJ2 t u):=⟨AW4 h1.h h2.h⟩
theorem cL (h:PSs X rest t):QSs X rest t:=⟨h⟩
end
mutual
inductive RD (H:Hp):V→PyData→Prop
 | non:RD H .non .none
 | bl (b:Bool):RD H (.bl b) (.bool b)
 | int (i:Int):RD H (.int i) (.int i)
 | str (x:Str):RD H (.str x) (.str x)
 | lst {p:Addr}{xs:List V}{ds:List PyData}:H p=some (.lst xs)→RDs H xs ds→RD H (.ref p) (.list ds)
 | tup {p:Addr}{xs:List V}{ds:List PyData}:H p=some (.tup xs)→RDs H xs ds→RD H (.ref p) (.tuple ds)
inductive RDs (H:Hp):List V→List PyData→Prop
 | nil:RDs H [] []
 | cons {v:V}{d:PyData}{vs:List V}{ds:List PyData}:RD H v d→RDs H vs ds→RDs H (v::vs) (d::ds)
end
section
variable {X:Cx}{pins:List (Addr × Obj)}{σ:L2.St}{H:Hp}{s:Shared}
end
section
variable {X:Cx}
end
def BL9:TE:=fun _ _ _=>False
theorem BJ3 {X:Cx}{e:Expr}:PE X e BL9:=fun _ _ _ _ _ _ h=>h.elim
theorem AW5 {σ:L2.St}{H:Hp}{Q:VK}:BL9 σ H Q=False:=rfl
theorem wZ {D:Ends}{σ:L2.St}{H:Hp}:AQ3 D σ H=False:=rfl
structure CalD (P:Program) (w:World) (K:Frag) (mg:Str→Option Value) (base:Heap) (x:Str) (C:Addr) (ps:List Str) (k:Nat) (dvs:List V) (sp:Sp):Prop where
 ex:∃ f fd ds,FnOk P w K mg base (CXF P w) k f fd ps sp∧Binds K fd ps ds∧Vals dvs ds∧Mk K C f∧mg x=some (.ref C)
section
variable {X:Cx}{x m:Str}{C:Addr}{ps:List Str}{k:Nat}{sp:Sp}{e o:Expr}{es:List Expr}{ta:TE}{t:TA}{p pos apos:Pos}{E:XK}{dvs:List V}
theorem AH1 (c:CalD X.prog X.w X.K X.mg X.base x C ps k dvs sp)(hx:hJ (CXF X.prog X.w) X E)(hr:Room (k+1) X.A)(hg:Gl X x)(ha:PA X (e::es) t)(hdb:(x == ("__debug__":Str))=false:=by decide)(he:starEach (e::es) X.env=(false,eval e X.env)::starEach es X.env:=by rfl)(hpl:(backTo pos (starEach es X.env)).any (·.1)=false:=by rfl) :
  PE X (.Call (.Name x p) (e::es) [] pos) (AM6 C sp dvs E t):=by
 obtain ⟨f,fd,ds,F,b,hd,M,hm⟩:=c.ex
 exact AC5 M F hr hg hm b hd hx ha hdb he hpl
end
structure FunA (K:Frag) (x qual:Str) (st:Stmt) (f:Addr) (fd:FuncData):Prop where
 ex:∃ (oc:Value) (od:Option Addr) (dV kV doc pm:Value) (an:Option Addr) (cdv ct:Value) (osl:Array (Option Value)),
  fd=fnOf x qual (aP st) (aL st) (aA st) dV kV doc pm an cdv ct∧K.lookup f=some ⟨oc,od,.func fd,osl⟩∧codeIn K cdv qual=true
section
variable {P:Program}{w:World}{K:Frag}{mg:Str→Option Value}{base:Heap}{N:List Str}{f:Addr}
theorem FunA.okX {x qual:Str}{st:Stmt}{fd:FuncData}{ps:List Str}{k:Nat}{sp:Sp}(F:FunA K x qual st f fd)(S:FnScope N ps (aA st))(len:∀ vs H Q E,sp vs H Q E→vs.length=ps.length)(hbody:∀ (cdv:Value) (A:Around) (outer:List Env) (s:Shared) (H:Hp) (vs:List V) (Q:VK) (E:XK),Room k (A.deeper (envOfC qual (aA st) s.heap.objs.size f cdv))→sp vs H Q E →
   ∃ t,PSs (cxX P w K mg base N qual (aA st) f cdv A outer s H E) (aL st) t∧t { nx:=fun _ H'=>Q .non H',rt:=Q } (L2.uY N vs) H):FnOk P w K mg base (CXF P w) (k+1) f fd ps sp:=by
 obtain ⟨oc,od,dV,kV,doc,pm,an,cdv,ct,osl,rfl,lk,hcd⟩:=F.ex
 exact AC6 lk hcd S len fun A outer s H vs Q E hr hsp=>hbody cdv A outer s H vs Q E hr hsp
theorem FunA.ok {x qual:Str}{st:Stmt}{fd:FuncData}{ps:List Str}{k:Nat}{sp:Sp}(F:FunA K x qual st f fd)(S:FnScope N ps (aA st))(len:∀ vs H Q E,sp vs H Q E→vs.length=ps.length)(hbody:∀ (cdv:Value) (A:Around) (outer:List Env) (s:Shared) (H:Hp) (vs:List V) (Q:VK) (E:XK),Room k (A.deeper (envOfC qual (aA st) s.heap.objs.size f cdv))→sp vs H Q E →
   ∃ t,PSs (uN CX0 P w K mg base N qual (aA st) f cdv A outer s H E).nox (aL st) t∧t { nx:=fun _ H'=>Q .non H',rt:=Q } (L2.uY N vs) H):FnOk P w K mg base CX0 (k+1) f fd ps sp:=by
 obtain ⟨oc,od,dV,kV,doc,pm,an,cdv,ct,osl,rfl,lk,hcd⟩:=F.ex
 refine AC6 lk hcd S len fun A outer s H vs Q E hr hsp=>?_
 obtain ⟨t,h,q⟩:=hbody cdv A outer s H vs Q E hr hsp
 exact ⟨t,h.nox,q⟩
theorem xA {x qual:Str}{st:Stmt}{oc:Value}{od an:Option Addr}{osl:Array (Option Value)}{dV kV doc pm cdv ct:Value}(l:K.lookup f=some ⟨oc,od,.func (fnOf x qual (aP st) (aL st) (aA st) dV kV doc pm an cdv ct),osl⟩)(c:codeIn K cdv qual=true):FunA K x qual st f (fnOf x qual (aP st) (aL st) (aA st) dV kV doc pm an cdv ct):=⟨⟨oc,od,dV,kV,doc,pm,an,cdv,ct,osl,rfl,l,c⟩⟩
theorem yT {fd:FuncData}{ps:List Str}{ds:List Value}(n:Nat)(hn:n+ds.length=ps.length)(h:∀ (s:Shared) (us:List Value),K.In s.heap→us.length=n→BindsTo s fd ⟨us,[]⟩ (ps.zip (us++ds))):Binds K fd ps ds:=fun s us X hl=>h s us X (by
 rw [List.length_append] at hl
 omega)
end
def jT (l:List Str):List Str:=l.foldl (fun a x=>if x∈a then a else a++[x]) []
theorem mL (l:List Str)(x:Str):jT (l++[x])=if x∈jT l then jT l else jT l++[x]:=by
 unfold jT; rw [List.foldl_append]; rfl
theorem vI {l:List Str}{i:Nat}(h:i < l.length):jT (l.take (i+1))=if l.getD i Str.empty∈jT (l.take i) then jT (l.take i) else jT (l.take i)++[l.getD i Str.empty]:=by
 rw [← mL,List.take_succ,List.getElem?_eq_getElem h]
 simp [List.getD,List.getElem?_eq_getElem h]
theorem tN {p:List Str→Prop}(h0:p [])(h1:∀ l x,p l→p (l++[x]))(l:List Str):p l:=by
 have q:∀ m:List Str,p m.reverse:=fun m=>by
  induction m with
  | nil=>exact h0
  | cons a m ih=>rw [List.reverse_cons]; exact h1 _ _ ih
 have:=q l.reverse
 rwa [List.reverse_reverse] at this
theorem yU (x:Str)(l:List Str):x∈jT l ↔ x∈l:=by
 refine tN (p:=fun l=>x∈jT l ↔ x∈l) (by simp [jT]) (fun l y ih=>?_) l
 ·show x∈jT (l++[y]) ↔ x∈l++[y]
  rw [mL]
  split
  ·rename_i h
   rw [ih]
   constructor
   ·intro z; exact List.mem_append_left _ z
   ·intro z
    rcases List.mem_append.mp z with z | z
    ·exact z
    ·have e:x=y:=by simpa using z
     subst e
     exact ih.mp h
  ·simp [ih]
theorem AH2 (l:List Str):(jT l).length≤l.length:=by
 refine tN (p:=fun l=>(jT l).length≤l.length) (by simp [jT]) (fun l y ih=>?_) l
 ·show (jT (l++[y])).length≤(l++[y]).length
  rw [mL]
  split <;> simp <;> omega
theorem AN7 (l:List Str):(jT l).length=l.length ↔ l.Nodup:=by
 refine tN (p:=fun l=>(jT l).length=l.length ↔ l.Nodup) (by simp [jT]) (fun l y ih=>?_) l
 ·show (jT (l++[y])).length=(l++[y]).length ↔ (l++[y]).Nodup
  have h:=AH2 l
  rw [mL]
  by_cases m:y∈jT l
  ·rw [if_pos m,List.length_append,List.length_singleton]
   constructor
   ·intro z; omega
   ·intro z
    have:=(yU y l).mp m
    rw [List.nodup_append] at z
    exact absurd rfl (z.2.2 y this y (List.mem_singleton.mpr rfl))
  ·rw [if_neg m,List.length_append,List.length_append,List.length_singleton]
   have n:y ∉ l:=fun z=>m ((yU y l).mpr z)
   constructor
   ·intro z
    rw [List.nodup_append]
    refine ⟨ih.mp (by omega),by simp,fun a ha b hb e=>?_⟩
    have:b=y:=by simpa using hb
    subst this; subst e; exact n ha
   ·intro z
    rw [List.nodup_append] at z
    have:=ih.mpr z.1
    omega
abbrev AR6 (l:List Str):Str→Bool:=fun k=>decide (k∈jT l)
section
variable {prog:Program}{w:World}{A:Around}{R:Result→Shared→Prop}{I:Addr}{fp wr:List Addr}{G:Array GenState→Array GenState→Prop}{P:Nat→Value→Prop}{St:Nat→Shared→Prop}
theorem AN8 {l:List Str}(W:WalksS prog w A.in1 I fp wr G l.length P St)(S:Addr)(hS0:S ∉ fp)(hv:∀ i v,P i v→∃ t,v=.str (l.getD i Str.empty) t)(hb:l.length+1 < scanBound):∀ (k i:Nat) (s:Shared) (q:∀ s',Moved (S::wr) G s s'→s'.heap.SetOf (strKind prog w) S (AR6 l) (jT l).length→R (.ok (.ret .none)) s'),
   l.length - i=k→i≤l.length→St i s→s.heap.SetOf (strKind prog w) S (AR6 (l.take i)) (jT (l.take i)).length →
   codeAny (model prog w) A (.builtin "set.update.loop" ⟨[.ref S,.ref I],[]⟩) R s:=by
 have nw:S ∉ wr:=fun h=>hS0 (W.sub _ h)
 have up:∀ b∈wr,b∈S::wr:=fun b hb=>List.mem_cons_of_mem _ hb
 have move:∀ {s s':Shared}{T:Str→Bool}{n:Nat},Moved wr G s s'→s.heap.SetOf (strKind prog w) S T n→s'.heap.SetOf (strKind prog w) S T n:=fun hm z=>by
  obtain ⟨o,es,ep,t,ho,z⟩:=z
  exact ⟨o,es,ep,t,hm.heap S _ nw ho,z⟩
 intro k
 induction k with
 | zero =>
  intro i s q hk hi hst z
  have e:i=l.length:=by omega
  subst e
  rw [List.take_length] at z
  refine codeAny_builtin PyProof.Rows.F.entry_set_update_loop ?_
  rw [Around.under_plainId PyProof.Rows.F.plain_set_update_loop _]; show wpAny _ A.in1 (pyNext (.ref I) >>= _) _ _ s
  refine wpAny_bind (W.done s _ _ hst fun s' hm=>?_)
  show wpAny _ A.in1 (ret Value.none) _ _ s'; exact wpAny_pure (q s' (hm.mono up) (move hm z))
 | succ k ih =>
  intro i s q hk hi hst z
  have lt:i < l.length:=by omega
  refine codeAny_builtin PyProof.Rows.F.entry_set_update_loop ?_
  rw [Around.under_plainId PyProof.Rows.F.plain_set_update_loop _]; show wpAny _ A.in1 (pyNext (.ref I) >>= _) _ _ s
  refine wpAny_bind (W.item i s _ _ lt hst fun v s' hP hst' hm=>?_)
  obtain ⟨t,rfl⟩:=hv i v hP
  have z':=move hm z
  show wpAny _ A.in1 (holding [Value.str (l.getD i Str.empty) t] (setAdd S (.str (l.getD i Str.empty) t)) >>= _) _ _ s'
  refine wpAny_bind (wpAny_holding ?_); unfold setAdd
  refine wpAny_holding (wpAny_bind ((strKind prog w).pyHash (k:=l.getD i Str.empty) (strKind_is _ _ _ _) ?_))
  have room:(jT (l.take i)).length+1 < scanBound:=by
   have h1:=AH2 (l.take i)
   have h2:(l.take i).length≤l.length:=by rw [List.length_take]; omega
   omega
  refine wpAny_setAddHashed_of (knd:=strKind prog w) (s:={ s' with toks:=s'.toks+1 }) (strKind_is _ _ _ _) rfl z' room fun h' sb z2=>?_
  have z3:h'.SetOf (strKind prog w) S (AR6 (l.take (i+1))) (jT (l.take (i+1))).length:=by
   refine SetOf_congr z2 (fun k'=>?_) ?_
   ·show (decide (k'∈jT (l.take i)) || decide (k'=l.getD i Str.empty))=decide (k'∈jT (l.take (i+1)))
    rw [vI lt]
    generalize l.getD i Str.empty=y
    split
    ·rename_i m
     by_cases e:k'=y
     ·subst e; simp [m]
     ·simp [e]
    ·by_cases e:k'=y
     ·subst e; simp
     ·simp [e]
   ·rw [vI lt]
    generalize l.getD i Str.empty=y
    by_cases m:y∈jT (l.take i)
    ·rw [if_pos m,if_pos (by simpa using m)]
    ·rw [if_neg m,if_neg (by simpa using m),List.length_append]; rfl
  refine wpAny_pure ⟨plainId_quiet PyProof.Rows.F.plain_set_update_loop _,ih (i+1) _ (fun s'' hm'' z4=>?_) (by omega) lt (W.frame _ s' _ _ hst' (Nat.le_succ _) fun b hb o e=>?_) z3⟩
  ·refine q s'' (Moved.trans W.gtrans ((hm.mono up).then_heap (Nat.le_succ _) fun b o hb e=>?_) hm'') z4
   rw [sb.2 b (fun h:b=S=>hb (by rw [h]; exact List.mem_cons_self))]; exact e
  ·rw [sb.2 b (fun h:b=S=>hS0 (by rw [← h]; exact hb))]; exact e
end
abbrev fG (led:Bool):Obj:={ cls:=.type "set",dict:=none,data:=.set #[] 0 (.fresh 0 0 led) }
theorem BN0 {its:List Value}{l:List Str}(h:Vals (l.map V.str) its)(i:Nat)(v:Value)(e:its[i]?=some v):∃ t,v=.str (l.getD i Str.empty) t:=by
 induction l generalizing its i with
 | nil=>cases h; simp at e
 | cons x l ih =>
  cases h with
  | cons r1 r2 =>
   cases i with
   | zero =>
    obtain ⟨t,rfl⟩:=r1
    have:v=.str x t:=by simpa using e.symm
    exact ⟨t,by rw [this]; rfl⟩
   | succ i=>exact ih r2 i (by simpa using e)
section
variable {prog:Program}{w:World}{A:Around}{E:Value→Shared→Prop}{s:Shared}
set_option maxHeartbeats 4000000 in
theorem AN9 {a:Addr}{its:List Value}{l:List Str}{Q:Value→Shared→Prop}(hh:A.handled=none)(hl:s.heap.IsList a its.toArray)(hv:Vals (l.map V.str) its)(hb:l.length+1 < scanBound)(q:∀ (h':Heap) (tk:Nat),h'.SetOf (strKind prog w) s.heap.objs.size (AR6 l) (jT l).length→(∀ b o,s.heap.get? b=some o→h'.get? b=some o)→Q (.ref s.heap.objs.size) { s with heap:=h',toks:=tk }) :
  wpAny (model prog w) A (call (.type "set") [.ref a]) Q E s:=by
 have hn:its.toArray.size=l.length:=by have:=hv.length; rw [List.length_map] at this; simpa using this.symm
 obtain ⟨c,tl,hmro⟩:=PySem.F.called_set.mro
 have hmade:=PySem.F.called_set.made; have hsub:=PySem.F.called_set.sub
 refine wpAny_call (codeAny_of_tree ?_); show wpAny _ _ (callAny (.type "set") _) _ _ _
 refine wpAny_pure ⟨Code.quiet_builtin _ (by decide +kernel),codeAny_builtin PySem.F.entry_type_call ?_⟩
 rw [Around.under_plain (weight_type_call_type "set" [.ref a] []) rfl]
 have h1:=PySem.F.called_set.notType; have h2:=PySem.F.called_set.canCreate
 have hct:=PySem.F.typeCall_set_1 (.ref a)
 repeat (any_goals (first | assumption | wp_step))
 refine codeAny_mono (PySem.code_set_new_1 (.ref a) (E:=E) (Q₁:=fun obj s₁=>∃ led:Bool,obj=.ref s.heap.objs.size∧s₁={ s with heap:=s.heap.push (fG led) }) fun led=>⟨led,rfl,rfl⟩) fun r s₁ hr=>?_
 match r,hr with
 | .error e,hr=>exact hr
 | .ok (.ret obj),hr =>
  obtain ⟨led,rfl,rfl⟩:=hr
  have hS:(s.heap.push (fG led)).get? s.heap.objs.size=some (fG led):=Heap.get?_push_size _ rfl
  have hT:Shared.TypeIs { s with heap:=s.heap.push (fG led) } (.ref s.heap.objs.size) "set":=⟨_,hS,rfl⟩
  have hli:=PySem.F.called_set.init.lookup; have hbi:=PySem.F.called_set.init.bind (.ref s.heap.objs.size)
  repeat (any_goals (first | assumption | wp_step))
  refine codeAny_mono (codeAny_call_builtin (R:=wants (fun r s₂=>r=.none∧∃ h' tk,s₂={ s with heap:=h',toks:=tk }∧h'.SetOf (strKind prog w) s.heap.objs.size (AR6 l) (jT l).length ∧
    (∀ b o,s.heap.get? b=some o→h'.get? b=some o)) E) PySem.F.called_set.init.plain PySem.F.entry_set_init (PySem.check_set_init_1 hT ?_)) fun r₂ s₂ hr₂=>?_
  ·obtain ⟨⟨oc,od,odt,osl⟩,hol,hcl,nl,hdl⟩:=hl
   simp only at hcl hdl; subst hcl; subst hdl
   have hol':(s.heap.push (fG led)).get? a=some { cls:=.type "list",dict:=od,data:=.seq its.toArray nl,slots:=osl }:=Heap.get?_push_of_some _ hol
   have n1:=PySem.F.sub_list_set; have n2:=PySem.F.sub_list_frozenset
   have n3:(Value.type "list" == Value.type "dict")=false:=by decide
   have hl1:(s.heap.push (fG led)).IsList a its.toArray:=⟨_,hol',rfl,nl,rfl⟩
   unfold Builtin.«set.__init__» noKeywords Builtin.Frozenset.updateFrom
   generalize hPI:pyIter=PI
   wp_walk
   subst hPI
   refine wpAny_pyIter_list hl1 (wpAny_bind (wpAny_runValue ?_))
   have lt:a < s.heap.objs.size:=Heap.lt_size hol
   have hh3:A.in1.in1.in1.handled=none:=by simp [hh]
   have ne1:a≠(s.heap.push (fG led)).objs.size:=by rw [Heap.size_push]; exact Nat.ne_of_lt (Nat.lt_succ_of_lt lt)
   have ne2:s.heap.objs.size ∉ [(s.heap.push (fG led)).objs.size,a]:=by
    rw [Heap.size_push]; intro z
    rcases List.mem_cons.mp z with z | z
    ·exact absurd z (Nat.ne_of_lt (Nat.lt_succ_self _))
    ·exact absurd (List.mem_singleton.mp z) (Nat.ne_of_gt lt)
   have W:=(Walks.list (prog:=prog) (w:=w) hh3 _ a ne1 its.toArray).toS
   rw [hn] at W
   refine AN8 W s.heap.objs.size ne2 (fun i v hv'=>BN0 hv i v (by simpa using hv')) hb (l.length - 0) 0 _ (fun s' hm z=>?_) (by omega) (Nat.zero_le _) ⟨⟨_,Heap.get?_push_size _ rfl,rfl,rfl⟩,hl1.push _⟩ ?_
   ·obtain ⟨h',g',d',tk',os'⟩:=s'
    have eg:g'=s.gens:=hm.gens
    have ed:d'=s.drawn:=hm.drawn
    have eo:os'=s.os:=hm.os
    subst eg; subst ed; subst eo
    show wpAny _ _ _ _ _ _
    refine wpAny_pure ?_
    show wpAny _ _ (ret Value.none) _ _ _
    refine wpAny_pure ⟨rfl,h',tk',rfl,z,fun b o e=>?_⟩
    have bl:=Heap.lt_size e
    refine hm.heap b o (fun y=>?_) (Heap.get?_push_of_some _ (Heap.get?_push_of_some _ e))
    rcases List.mem_cons.mp y with y | y
    ·exact absurd y (Nat.ne_of_lt bl)
    ·have:=List.mem_singleton.mp y; rw [Heap.size_push] at this; exact absurd this (Nat.ne_of_lt (Nat.lt_succ_of_lt bl))
   ·have hg:((s.heap.push (fG led)).push { cls:=.type "list_iterator",data:=.fields #[.ref a,.int 0 0] }).get? s.heap.objs.size=some (fG led):=Heap.get?_push_of_some _ hS
    exact SetOf_congr ((setObjOf_fresh (knd:=strKind prog w) led).setOf hg (by unfold scanBound; omega)) (fun k=>by simp [AR6,jT]) rfl
  ·match r₂,hr₂ with
   | .error e,hr₂=>exact hr₂
   | .ok (.ret r),hr₂ =>
    obtain ⟨rfl,h',tk,rfl,z,kp⟩:=hr₂
    repeat (any_goals (first | assumption | wp_step))
    exact q _ _ z kp
end
def AO0 (P:Program)(w:World)(a:Addr)(l:List Str):HO:=.ext fun h=>h.SetOf (strKind P w) a (AR6 l) (jT l).length
theorem AW6 {P:Program}{w:World}{H:Hp}{h:Heap}{a:Addr}{l:List Str}(z:h.SetOf (strKind P w) a (AR6 l) (jT l).length):ObjOk P w H h a (AO0 P w a l):=by
 refine ⟨z,?_,fun h1 h2 z1 k=>?_⟩
 ·obtain ⟨o,_,_,_,e,_⟩:=z; exact ⟨o,e⟩
 ·obtain ⟨o,es,ep,t,e,z1⟩:=z1; exact ⟨o,es,ep,t,k o e,z1⟩
theorem AH3 {X:Cx}(hc:X.calm=true):iP X (.type "set") (fun xs H Q=>∃ (a:Addr) (l:List Str),xs=[.ref a]∧SqL X.K H a (l.map V.str)∧l.length≤1000∧∀ p,H p=none→Q (.ref p) (upd H p (AO0 X.prog X.w p l))):=by
 intro pins s σ H xs us Q I r h
 obtain ⟨a,l,rfl,hS,hz,q⟩:=h
 obtain ⟨u,rfl,ru⟩:=sY r
 cases ru
 obtain ⟨its,rv,pl,_⟩:=I.list hS
 refine AN9 (I.ok.hd hc) pl.isList rv (by unfold scanBound; omega) fun h' tk z kp=>?_
 exact ⟨.ref s.heap.objs.size,_,I.laid (t':=tk) kp (Nat.le_refl _) (AW6 z),rfl,q _ (I.hok.fresh (Nat.le_refl _))⟩
theorem AH4 {X:Cx}:iP X (.builtin "len") (fun xs H Q=>∃ (a:Addr) (l:List Str),xs=[.ref a]∧H a=some (AO0 X.prog X.w a l)∧Q (.int (jT l).length) H):=by
 intro pins s σ H xs us Q I r h
 obtain ⟨a,l,rfl,e,q⟩:=h
 obtain ⟨u,rfl,ru⟩:=sY r
 cases ru
 obtain ⟨⟨o,es,ep,t,ho,hex,hd,_,_,hb,hf,hn⟩,_⟩:=I.hok a _ e
 rw [← hn] at q
 exact call_len_set ho hex hd hf (by unfold scanBound at hb; omega) ⟨.int es.size,H,I.tok _,⟨_,rfl⟩,q⟩
def BJ4 (K:Frag)(T:String):List V→Hp→VK→Prop:=fun xs H Q=>∃ (x:V) (t:Value) (b:Bool),xs=[x,.ty T]∧TyOf K H x t∧kitOne K t (.type T)=some b∧Q (.bl b) H
theorem jD {X:Cx}{K:Frag}{T:String}(hK:X.K=K):iP X (.builtin "isinstance") (BJ4 K T):=by
 subst hK
 intro pins s σ H xs us Q I r h
 obtain ⟨x,t,b,rfl,ty,e,q⟩:=h
 obtain ⟨u,w',rfl,rx,rc⟩:=zI r
 cases (show w'=Value.type T from rc)
 exact qH I rx ty e fun tk=>⟨.bl b,H,I.tok _,rfl,q⟩
section
variable {X:Cx}
end
section
variable {X:Cx}{CX:CXT}{k:Nat}{f C:Addr}{fd:FuncData}{ps ks:List Str}{sp:Sp}{E:XK}{x:Str}{p pos:Pos}{e:Expr}{es:List Expr}{kws:List Keyword}{t tk:TA}
 {g:List Value→List Value→List Value}{gV:List V→List V→List V}
end
structure CalK (P:Program) (w:World) (K:Frag) (mg:Str→Option Value) (base:Heap) (x:Str) (C:Addr) (ps ks:List Str) (k:Nat) (gV:List V→List V→List V) (sp:Sp):Prop where
 ex:∃ f fd g,FnOk P w K mg base (CXF P w) k f fd ps sp∧KBinds K fd ps ks g gV∧Mk K C f∧mg x=some (.ref C)
section
variable {X:Cx}{x:Str}{C:Addr}{ps ks:List Str}{k:Nat}{sp:Sp}{e:Expr}{es:List Expr}{t tk:TA}{p pos:Pos}{E:XK}{kws:List Keyword}{gV:List V→List V→List V}
def BJ5 (K:Frag):List V→Hp→VK→Prop:=fun xs H Q=>∃ (x:Addr) (c:V) (cv:Value) (b:Bool) (C:Addr),xs=[.ref x,c]∧RelV c cv∧ExcK K C∧XAt H x C∧kitOne K (.ref C) cv=some b∧Q (.bl b) H
theorem AH5 {K:Frag}(hK:X.K=K):iP X (.builtin "isinstance") (BJ5 K):=by
 subst hK
 intro pins s σ H xs us Q I r h
 obtain ⟨x,c,cv,b,C,e1,e2,F,e3,e4,q⟩:=h
 exact AF1 F pins s σ H xs us Q I r ⟨x,c,cv,b,e1,e2,e3,e4,q⟩
def BC9 (K:Frag):List V→Hp→VK→Prop:=fun xs H Q=>∃ (x tp:Addr) (cs:List Addr) (b:Bool) (C:Addr),xs=[.ref x,.ref tp]∧ExcK K C∧XAt H x C∧H tp=some (.tup (cs.map V.ref))∧kitAny K (.ref C) (cs.map Value.ref)=some b∧Q (.bl b) H
theorem AO1 {K:Frag}(hK:X.K=K):iP X (.builtin "isinstance") (BC9 K):=by
 subst hK
 intro pins s σ H xs us Q I r h
 obtain ⟨x,tp,cs,b,C,e1,F,e2,e3,e4,q⟩:=h
 exact AF2 F pins s σ H xs us Q I r ⟨x,tp,cs,b,e1,e2,e3,e4,q⟩
end
section
variable {P:Program}{w:World}{K:Frag}{mg:Str→Option Value}{base:Heap}{f:Addr}{fd:FuncData}{ps:List Str}{x:Str}{CX:CXT}{k:Nat}
end
section
variable {K:Frag}{σ:L2.St}{H:Hp}{Q:VK}{g:TG}{tt:TT}{te ta:TE}{ix:List (Option Nat)}{t:TS}{D:Ends}
end
inductive All2 {α β:Type}(R:α→β→Prop):List α→List β→Prop
 | nil:All2 R [] []
 | cons {a:α}{b:β}{as:List α}{bs:List β}(h:R a b) (r:All2 R as bs):All2 R (a::as) (b::bs)
section
variable {α β:Type}{R S:α→β→Prop}{as:List α}{bs:List β}
end
mutual
inductive Tr where
 | any
 | kind (us:List Str)
 | place (us:List Str)
 | weight (n:Int)
 | not (t:Tr)
 | both (ts:Trs)
 | either (ts:Trs)
inductive Trs where
 | nil
 | cons (t:Tr) (ts:Trs)
end
structure FC where
 Any:Addr
 Kind:Addr
 Place:Addr
 Least:Addr
 Not:Addr
 Both:Addr
 Either:Addr
section
variable {prog:Program}{w:World}{A:Around}{E:Value→Shared→Prop}
end
section
variable {X:Cx}{pos:Pos}
end
open Builtin Builtin.ObjectAttr
def AH6:List Value→Bool
 | .ref _::r=>AH6 r
 | l=>l == vbm
theorem sO (self:Value):∀ {l:List Value},AH6 l=true→refuseLoop self "__setattr__" l=pure ()
 | [],e=>by cases e
 | .ref c::r,e=>by rw [refuseLoop_ref]; exact sO self e
 | .type n::r,e=>by rw [beq_iff_eq.mp e]; exact PySem.F.store_ValueError.passes self
 | .none::r,e=>by cases beq_iff_eq.mp e
 | .bool _::r,e=>by cases beq_iff_eq.mp e
 | .int _ _::r,e=>by cases beq_iff_eq.mp e
 | .str _ _::r,e=>by cases beq_iff_eq.mp e
 | .bytes _ _::r,e=>by cases beq_iff_eq.mp e
 | .float _ _::r,e=>by cases beq_iff_eq.mp e
 | .builtin _::r,e=>by cases beq_iff_eq.mp e
 | .notImplemented::r,e=>by cases beq_iff_eq.mp e
 | .ellipsis::r,e=>by cases beq_iff_eq.mp e
structure ExcS (K:Frag) (C:Addr) (cd:ClassData):Prop where
 at_:clsIn K C=some cd
 mro:AH6 cd.mro=true
 hd:cd.hasDict=true
 sa:findIn K (.ref C) "__setattr__"=some (some (.builtin "object.__setattr__"))
section
variable {prog:Program}{w:World}{A:Around}{E:Value→Shared→Prop}{s:Shared}{K:Frag}{x C:Addr}{cd:ClassData}{name:Str}{v:Value}
theorem AW7 {R:Result→Shared→Prop}{ox:Obj}{od:Option Obj}{tk:Tok}(X:K.In s.heap)(I:InstAt s.heap x ox C od)(F:ExcS K C cd)(hO:mroIn K C (.type "object")=some true)(ha:findIn K (.ref C) name=some none)(h:wpAny (model prog w) A.in1 (storeInOwnDict (.ref x) (.ref C) (.str name tk) name v false)
   (fun fin s'=>match fin with | .done f=>R (.ok f) s' | .again c'=>c'.quiet=true∧codeAny (model prog w) A c' R s') (fun e s'=>R (.error e) s') s) :
  codeAny (model prog w) A (.call (.builtin "object.__setattr__") ⟨[.ref x,.str name tk,v],[]⟩) R s:=by
 have SF:=PySem.F.store_object
 have sub:Looks (model prog w) s.heap (isInstance (.ref x) (.type "object")) true:=I.type.andThen (looks_mroIn X hO)
 refine codeAny_call_builtin SF.slot.plain SF.entry (@check_slot (model prog w) _ _ s "object.__setattr__" "object" "__setattr__" (.ref x) [.str name tk,v] [] _ SF.kind SF.split sub (SF.args (.ref x) (.str name tk) v) ?_)
 have hm:Looks (model prog w) s.heap (mroOf (.ref C)) cd.mro:=(looks_clsIn X F.at_).andThen .now
 have L3:Looks (model prog w) s.heap (storeTaker? none) none:=.now
 rw [osa_eq,refuse_eq]
 refine wpAny_bind (wpAny_bind (I.type.here (wpAny_bind (hm.here ?_))))
 rw [sO _ F.mro]
 refine wpAny_pure (wpAny_bind (I.type.here (wpAny_bind ((looks_findIn X ha).here (wpAny_bind (L3.here ?_))))))
 exact h
theorem BN1 {ox:Obj}{vs:Array Value}{Q:Unit→Shared→Prop}(X:K.In s.heap)(hx:s.heap.get? x=some ox)(hcl:ox.cls=.ref C)(hdt:ox.data=.fields vs)(hdn:ox.dict=none)(F:ExcS K C cd)(hO:mroIn K C (.type "object")=some true)(ha:findIn K (.ref C) name=some none)(h:∀ h' t',h'.get? x=some { ox with dict:=some s.heap.objs.size }→h'.Ns1 s.heap.objs.size (fun y=>if y=name then some v else none)→(∀ b o,b≠x→s.heap.get? b=some o→h'.get? b=some o)→Q () { s with heap:=h',toks:=t' }) :
  wpAny (model prog w) A (setAttr (.ref x) name v) Q E s:=by
 obtain ⟨oc,od0,odt,osl⟩:=ox
 dsimp only at hcl hdt hdn
 subst hcl hdt hdn
 have I:InstAt s.heap x ⟨.ref C,none,.fields vs,osl⟩ C none:=⟨hx,rfl,rfl,trivial⟩
 refine set_plain X I F.sa (AW7 (s:={ s with toks:=s.toks+1 }) X I F hO ha ?_)
 have hxs:x≠s.heap.objs.size:=Nat.ne_of_lt (Heap.lt_size hx)
 have hx₁:(s.heap.push { cls:=.type "dict",data:=.dict #[] }).get? x=some ⟨.ref C,none,.fields vs,osl⟩:=Heap.get?_push_of_some _ hx
 refine wpAny_bind (wpAny_pure (wpAny_bind (wpAny_bind (wpAny_loadPart hx (wpAny_bind (Looks.here (s:={ s with toks:=s.toks+1 }) (looks_clsIn X F.at_) ?_))))))
 rw [F.hd]
 dsimp only
 refine wpAny_bind (wpAny_alloc' ?_)
 refine wpAny_bind (wpAny_update' hx₁ ?_)
 refine wpAny_pure ?_
 have hgd:((s.heap.push { cls:=.type "dict",data:=.dict #[] }).update x fun o=>{ cls:=o.cls,dict:=some s.heap.objs.size,data:=o.data,slots:=o.slots }).get? s.heap.objs.size
   = some { cls:=.type "dict",data:=.dict #[] } :=
  (Heap.get?_update_ne _ _ _ _ hxs.symm).trans (Heap.get?_push_at rfl rfl)
 have hnd:((s.heap.push { cls:=.type "dict",data:=.dict #[] }).update x fun o=>{ cls:=o.cls,dict:=some s.heap.objs.size,data:=o.data,slots:=o.slots }).Ns s.heap.objs.size (fun _=>none) :=
  ⟨_,#[],_,hgd,rfl,fun e he=>absurd he (by simp),fun _=>rfl⟩
 show wpAny _ _ (storeInDict s.heap.objs.size (.str name _) name v) _ _ _
 unfold storeInDict newKeyGuard
 refine wpAny_bind (wpAny_pure (wpAny_bind (wpAny_nsSet1 (Heap.Ns1.of_empty hnd) fun h' hn' hs=>?_)))
 obtain ⟨oD,esD,epD,hoD,hdD,hcD⟩:=hn'.count (Within.cons name v Within.nil)
 refine wpAny_bind (wpAny_lookBehind hoD (by rw [hdD]; exact pastItsLine_dict (Nat.le_trans hcD (by rw [List.length_cons,List.length_nil,sizeLine_eq]; omega))) ?_)
 refine wpAny_pure (h h' _ ?_ hn' fun b o hbx hb=>?_)
 ·refine (hs.2 x hxs).trans (Heap.get?_update_self _ hx₁ rfl)
 ·exact (hs.2 b (Nat.ne_of_lt (Heap.lt_size hb))).trans ((Heap.get?_update_ne _ _ _ _ hbx).trans (Heap.get?_push_of_some _ hb))
end
end Bw
namespace Bw
open PySem PySem.Spec PyProof.Rows L2 PySem.W
open Builtin Builtin.ObjectAttr
section
variable {prog:Program}{w:World}{A:Around}{E:Value→Shared→Prop}{K:Frag}{h:Heap}{g:Array GenState}{d:Drawn}{t:Nat}{os:OsState}{x C:Addr}{name:Str}{v:Value}{ox od:Obj}
theorem AH7 {tk:Tok}{Q:Fin→Shared→Prop}(Z:K.In h)(I:InstAt h x ox C (some od))(hf:findObj K C (some od) name=some (.value v))(hq:Q (.done (.ret v)) ⟨h,g,d,t,os⟩) :
  wpAny (model prog w) A (Builtin.«object.__getattribute__» ⟨[.ref x,.str name tk],[]⟩) Q E ⟨h,g,d,t,os⟩:=by
 have L0:=I.type (M:=model prog w)
 have L1:=looks_find (M:=model prog w) Z I hf
 refine wpAny_bind (wpAny_pure (wpAny_bind (wpAny_pure (wpAny_bind (L0.at (wpAny_bind (L1.at ?_)))))))
 exact wpAny_pure hq
theorem AH8 {M:Model}{nameV:Value}{Q:Unit→Shared→Prop}(Z:K.In h)(F:ExcK K C)(I:InstAt h x ox C (some od))(hq:Q () ⟨h,g,d,t,os⟩) :
  wpAny M A (checkBuiltinCall "BaseException.__getattribute__" ⟨[.ref x,nameV],[]⟩) Q E ⟨h,g,d,t,os⟩:=vD Z F ⟨ox,I.at_,I.cls⟩ hq
theorem AO2 {tk:Tok}{R:Result→Shared→Prop}(Z:K.In h)(F:ExcK K C)(I:InstAt h x ox C (some od))(hf:findObj K C (some od) name=some (.value v))(hq:R (.ok (.ret v)) ⟨h,g,d,t,os⟩) :
  codeAny (model prog w) A (.call (.builtin "BaseException.__getattribute__") ⟨[.ref x,.str name tk],[]⟩) R ⟨h,g,d,t,os⟩ :=
 codeAny_call_builtin PySem.F.excAttr_ValueError.ga.plain PySem.F.entry_bexc_ga (AH8 Z F I (AH7 Z I hf hq))
theorem BD0 {tk:Tok}{fill expr:Bool}{Q:Value→Shared→Prop}(Z:K.In h)(F:ExcK K C)(I:InstAt h x ox C (some od))(hf:findObj K C (some od) name=some (.value v))(hv:handedIn v=true)(hq:Q v ⟨h,g,d,t,os⟩) :
  wpAny (model prog w) A (getAttrBy (.ref x) (.str name tk) fill expr) Q E ⟨h,g,d,t,os⟩:=by
 have L0:=I.type (M:=model prog w)
 have L1:=looks_findIn (M:=model prog w) Z F.ga
 have L2:=looks_findIn (M:=model prog w) Z F.gt
 have f3:=PySem.F.excAttr_ValueError.ga.bind (.ref x)
 have f9:=handedOut_of hv
 have hx0:(expr && onTheHeap (Value.builtin "BaseException.__getattribute__"))=false:=by cases expr <;> rfl
 have hx2:(Value.builtin "BaseException.__getattribute__" == Value.builtin "object.__getattribute__")=false:=by decide +kernel
 have hx1:(onTheHeap (Value.ref C) && Value.builtin "BaseException.__getattribute__" == Value.builtin "object.__getattribute__")=false:=by rw [hx2]; rfl
 repeat (any_goals (first | assumption | (with_reducible refine Looks.at (by assumption) ?_) | wp_step))
 refine AO2 Z F I hf ?_
 repeat (any_goals (first | assumption | wp_step))
theorem AO3 {expr:Bool}{Q:Value→Shared→Prop}(Z:K.In h)(F:ExcK K C)(I:InstAt h x ox C (some od))(hf:findObj K C (some od) name=some (.value v))(hv:handedIn v=true)(hq:Q v ⟨h,g,d,t+1,os⟩) :
  wpAny (model prog w) A (getAttr (.ref x) name expr) Q E ⟨h,g,d,t,os⟩:=by
 unfold getAttr
 repeat (any_goals (first | assumption | with_reducible apply BD0 Z F I hf hv | wp_step))
end
end Bw
namespace Bw
open PySem PySem.Spec PyProof.Rows L2 PySem.W
def vJ (x C:Addr)(dx:Option Addr)(h:Heap):Prop:=∃ ob a0,h.get? x=some ob∧ob.cls=.ref C∧ob.dict=dx∧ob.data=.fields #[a0,.none,.none,.none,.bool false,.none]
def fT (x C:Addr)(dx:Option Addr):HO:=.ext (vJ x C dx)
section
variable {P:Program}{w:World}{H:Hp}{h:Heap}
theorem AH9 {x C:Addr}{dx:Option Addr}(p:vJ x C dx h):ObjOk P w H h x (fT x C dx) :=
 let ⟨ob,a0,e,r⟩:=p; ⟨p,⟨ob,e⟩,fun h1 h2 ⟨o1,b0,q1,q2⟩ k=>⟨o1,b0,k _ q1,q2⟩⟩
end
section
variable {X:Cx}{pins:List (Addr × Obj)}{σ:L2.St}{H:Hp}{s:Shared}{o value:Expr}{ta tv:TE}{f:Str}{pos pos':Pos}{A:Around}{E:Value→Shared→Prop}
theorem AW8 {a C:Addr}{cd:ClassData}{y:V}{u:Value}{Q:Unit→Shared→Prop}(I:Inv X pins σ H s)(ea:H a=some (fT a C none))(F:ExcS X.K C cd)(hO:mroIn X.K C (.type "object")=some true)(n:NoAttr X.K C f)(ry:RelV y u)(h:∀ dx s',H dx=none→dx≠a→Inv X pins σ (upd (upd H dx (.xd [(f,y)])) a (fT a C (some dx))) s'→Q () s'):wpAny (model X.prog X.w) A (setAttr (.ref a) f u) Q E s:=by
 obtain ⟨⟨ob,a0,hob,hcl,hdn,hdt⟩,_,_⟩:=(show ObjOk X.prog X.w H s.heap a (.ext (vJ a C none)) from I.hok a _ ea)
 refine BN1 I.kIn hob hcl hdt hdn F hO n fun h' t' hx' hn' hk=>?_
 have nd:H s.heap.objs.size=none:=I.hok.fresh (Nat.le_refl _)
 have da:s.heap.objs.size≠a:=fun z=>absurd (Heap.lt_size hob) (by rw [z]; exact Nat.lt_irrefl _)
 have nb:∀ b o',s.heap.get? b=some o'→b≠s.heap.objs.size:=fun b o' q=>Nat.ne_of_lt (Heap.lt_size q)
 have na:∀ b,H b=none→b≠a:=fun b q z=>by rw [z,ea] at q; cases q
 have up:∀ b v,H b=some v→b≠a→upd (upd H s.heap.objs.size (.xd [(f,y)])) a (fT a C (some s.heap.objs.size)) b=some v:=fun b v q z=>by rw [aI z,aI (aR q nd)]; exact q
 refine h s.heap.objs.size _ nd da (I.un (t':=t') (H':=upd (upd H s.heap.objs.size (.xd [(f,y)])) a (fT a C (some s.heap.objs.size))) ⟨fun b o' q k _ _=>hk b o' (na b k) q,fun b o' q k _ _=>⟨o'.slots,hk b o' (na b k) q⟩,fun b o' q k _=>?_,fun b o' q _=>?_,fun b xs q=>up b _ q fun z=>?_,fun b o' u' q=>up b _ q fun z=>?_,fun b ps q=>⟨#[],?_⟩⟩ fun b v q=>?_)
 ·rw [aI (na b k),aI (nb b o' q)]; exact k
 ·by_cases z:b=a
  ·rw [z]; exact ⟨_,hx'⟩
  ·exact ⟨o',hk b o' z q⟩
 ·rw [z,ea] at q; cases q
 ·rw [z,ea] at q; cases q
 ·rw [Array.append_empty]
  exact up b _ q fun z=>by rw [z,ea] at q; cases q
 ·by_cases z:b=a
  ·subst z
   rw [aC] at q
   cases q
   exact AH9 ⟨_,a0,hx',hcl,rfl,hdt⟩
  ·rw [aI z] at q
   by_cases z2:b=s.heap.objs.size
   ·subst z2
    rw [aC] at q
    cases q
    refine ⟨_,hn',fun g=>?_⟩
    by_cases zg:g=f
    ·subst zg
     rw [if_pos rfl,List.lookup_cons,beq_self_eq_true]
     exact ry
    ·rw [if_neg zg,List.lookup_cons,show (g == f)=false from beq_eq_false_iff_ne.mpr zg]
     exact trivial
   ·rw [aI z2] at q
    refine (I.hok b v q).stay (fun c u' hc r=>hk c u' (fun zc=>?_) r) (fun c r=>up c _ r fun zc=>?_) fun c xs r=>up c _ r fun zc=>?_
    ·rcases hc with y' | y'
     ·exact z (y'.symm.trans zc)
     ·rw [zc,ea] at y'; cases y'
    ·rw [zc,ea] at r; cases r
    ·rw [zc,ea] at r; cases r
def BD1 (K:Frag)(ta tv:TE)(f:Str):TS:=fun D σ H=>tv σ H fun y H1=>ta σ H1 fun x H2=>∃ a C cd,x=.ref a∧H2 a=some (fT a C none)∧ExcS K C cd∧mroIn K C (.type "object")=some true∧NoAttr K C f ∧
 ∀ dx,H2 dx=none→dx≠a→D.nx σ (upd (upd H2 dx (.xd [(f,y)])) a (fT a C (some dx)))
theorem AI0 (ha:PE X o ta)(hv:PE X value tv)(hs:swapsWith value (some (.Attribute o f pos')) pos.line X.env=pure false:=by rfl):PS X (.Assign [.Attribute o f pos'] value pos) (BD1 X.K ta tv f):=by
 intro pins s σ H D I h
 refine plainObj_wpAny_Assign_Attribute (thn (hv pins s σ H _ I h) fun u s1 ⟨y,H1,I1,ry,q⟩=>thn (ha pins s1 σ H1 _ I1 q) fun ov s2 ⟨x,H2,I2,rx,a,C,cd,ex,ea,F,hO,n,q2⟩=>?_) hs
 subst ex
 obtain rfl:ov=Value.ref a:=rx
 exact AW8 I2 ea F hO n ry fun dx s3 e1 e2 I3=>⟨σ,_,I3,q2 dx e1 e2⟩
def AW9 (K:Frag)(ta:TE)(f:Str):TE:=fun σ H Q=>ta σ H fun x H1=>∃ a C dx fs v,x=.ref a∧H1 a=some (fH a (.ref C) (some dx))∧H1 dx=some (.xd fs)∧ExcK K C∧hasDictIn K C=true∧NoAttr K C f∧fs.lookup f=some v∧Q v H1
theorem AX0 {e:Expr}(he:PE X e ta)(hb:attributeBase e f X.env (eval e X.env)=eval e X.env:=by rfl):PE X (.Attribute e f pos) (AW9 X.K ta f):=by
 intro pins s σ H Q I h
 refine AC2 hb (thn (he pins s σ H _ I h) fun u s1 ⟨x,H1,I1,rx,a,C,dx,fs,v,ex,ea,ed,F,hh,n,l,q⟩=>?_)
 subst ex
 obtain rfl:u=Value.ref a:=rx
 obtain ⟨⟨ob,hob,hcl,hdx,vs,hdt⟩,_,_⟩:=(show ObjOk X.prog X.w H1 s1.heap a (.ext (excAtD a (.ref C) (some dx))) from I1.hok a _ ea)
 obtain ⟨mA,hn,r⟩:=(show ObjOk X.prog X.w H1 s1.heap dx (.xd fs) from I1.hok dx _ ed)
 obtain ⟨u,hu,ru⟩:=RelO.some_of (v:=v) (o:=mA f) (by rw [← l]; exact r f)
 obtain ⟨hh',g,d,t,os⟩:=s1
 obtain ⟨od,J,hl⟩:∃ od,InstAt hh' a ob C (some od)∧lookIn f od=some (mA f):=by
  obtain ⟨od,ho,hl⟩:=uT hn
  refine ⟨od,⟨hob,hcl,?_,?_⟩,hl f⟩
  ·unfold notCls
   rw [hdt]
  ·rw [hdx]
   exact ho
 exact AO3 I1.kIn F J (findObj_own hh n rfl (by rw [hl,hu])) (qF ru) ⟨v,H1,I1.tok _,ru,q⟩
end
section
variable {prog:Program}{w:World}{A:Around}{E:Value→Shared→Prop}{h:Heap}{g:Array GenState}{d:Drawn}{t:Nat}{os:OsState}{K:Frag}
variable {nm q:Str}{C N:Addr}{bs bm bmB:List Value}{hdct:Bool}{sn:List Str}{sub:List Value}{ab:Bool}{col:Option Bool}{dd:Option Addr}{k0 k1 k2 k3 k5:Option Value}{B newId initId:String}
theorem qQ (F:ExcBaseFacts B newId initId bmB)(T:OwnTail h bmB bm){rest:List Value}{fI:Addr}{Q:Fin→Shared→Prop}(hC:h.get? C=some (excClassObj nm q C N bs bm hdct sn sub ab col dd k0 k1 k2 k3 k5 newId))(Z:K.In h)(hi:findIn K (.ref C) "__init__"=some (some (.ref fI)))(hf:typeIn K (.ref fI)=some (.type "function"))(hq:∀ h' e,Heap.MadeExcOf h h' e (.ref C) rest →
   wpAny (model prog w) A (call (.ref fI) (.ref e::rest)) (fun r s'=>r=.none∧Q (.done (.ret (.ref e))) s') E ⟨h',g,d,t,os⟩)(hrest:rest.length≤sizeLine:=by size_fits) :
  wpAny (model prog w) A (Builtin.«type.__call__» ⟨.ref C::rest,[]⟩) Q E ⟨h,g,d,t,os⟩:=by
 repeat (first | with_reducible refine wpAny_loadPart_at hC ?_ | with_reducible refine wpAny_madeBy_exc hC ?_ | wp_step)
 refine codeAny_call_builtin_code (Code.quiet_builtin _ F.quiet) (wpAny_check_new_subT F T hC ?_)
 refine codeAny_exc_new_subT F T hC ?_ hrest
 show wpAny _ _ _ _ _ _
 have hC₁:=Heap.get?_push_of_some { cls:=.ref C,data:=.fields #[.ref h.objs.size,.none,.none,.none,.bool false,.none] }
  (Heap.get?_push_of_some { cls:=.type "tuple",data:=.seq rest.toArray } hC)
 have Z₁:K.In ((h.push { cls:=.type "tuple",data:=.seq rest.toArray }).push { cls:=.ref C,data:=.fields #[.ref h.objs.size,.none,.none,.none,.bool false,.none] }):=fun a o l=>Heap.get?_push_of_some _ (Heap.get?_push_of_some _ (Z a o l))
 have hget:((h.push { cls:=.type "tuple",data:=.seq rest.toArray }).push
   { cls:=.ref C,data:=.fields #[.ref h.objs.size,.none,.none,.none,.bool false,.none] }).get? (h.objs.size+1)=some
   { cls:=.ref C,data:=.fields #[.ref h.objs.size,.none,.none,.none,.bool false,.none] }:=by heap_get
 have hcC:(Value.ref C::bm).contains (.ref C)=true:=by simp
 have T₁:=T.keeps (h':=(h.push { cls:=.type "tuple",data:=.seq rest.toArray }).push { cls:=.ref C,data:=.fields #[.ref h.objs.size,.none,.none,.none,.bool false,.none] })
  fun b o e=>Heap.get?_push_of_some _ (Heap.get?_push_of_some _ e)
 unfold isInstance
 repeat (first | with_reducible refine wpAny_loadPart_at hget ?_ | (with_reducible refine wpAny_isSubtype_exc hC₁ ?_; rw [hcC]) | wp_step)
 show wpAny _ _ (typeLookup (.ref C) _) _ _ _
 refine (looks_findIn (M:=model prog w) Z₁ hi).at ?_
 refine wpAny_holding (wpAny_bind ?_)
 unfold bindSpecial
 refine wpAny_bind ((looks_typeIn (M:=model prog w) Z₁ hf).at ?_)
 rw [if_pos (by decide)]
 refine wpAny_pure (wpAny_bind (wpAny_mono (hq _ (h.objs.size+1) ⟨fun b o hb=>Heap.get?_push_of_some _ (Heap.get?_push_of_some _ hb),Heap.get?_none_of_le (Nat.le_succ _),h.objs.size,hget,Heap.get?_none_of_le (Nat.le_refl _),?_⟩) (fun r s' hr=>?_) fun _ _ x=>x))
 ·exact Heap.get?_push_of_some _ (Heap.get?_push_at rfl rfl)
 ·obtain ⟨rfl,hQ⟩:=hr
  wp_walk
  exact hQ
theorem sP (F:ExcBaseFacts B newId initId bmB)(T:OwnTail h bmB bm){rest:List Value}{fI:Addr}{Q:Value→Shared→Prop}(hC:h.get? C=some (excClassObj nm q C N bs bm hdct sn sub ab col dd k0 k1 k2 k3 k5 newId))(Z:K.In h)(hi:findIn K (.ref C) "__init__"=some (some (.ref fI)))(hf:typeIn K (.ref fI)=some (.type "function"))(hq:∀ h' e,Heap.MadeExcOf h h' e (.ref C) rest →
   wpAny (model prog w) (A.under (.builtin "type.__call__" ⟨.ref C::rest,[]⟩)) (call (.ref fI) (.ref e::rest)) (fun r s'=>r=.none∧Q (.ref e) s') E ⟨h',g,d,t,os⟩)(hrest:rest.length≤sizeLine:=by size_fits) :
  wpAny (model prog w) A (call (.ref C) rest) Q E ⟨h,g,d,t,os⟩:=by
 have f1:=tc_lookup
 have f2:=tc_bind (.ref C)
 have hT:(⟨h,g,d,t,os⟩:Shared).TypeIs (.ref C) "type":=⟨_,hC,rfl⟩
 refine wpAny_call (codeAny_of_tree ?_)
 show wpAny _ _ (callAny (.ref C) _) _ _ _
 repeat (any_goals (first | assumption | with_reducible refine wpAny_loadPart_at hC ?_ | wp_step))
 refine ⟨rfl,?_⟩
 refine codeAny_call_builtin_at (Code.quiet_builtin _ (by decide +kernel)) entry_typeCall (wpAny_check_type_call_sub hC (qQ (hrest:=hrest) F T hC Z hi hf fun h' e hm=>?_))
 exact hq h' e hm
end
section
variable {prog:Program}{w:World}{A:Around}{E:Value→Shared→Prop}{s:Shared}{env:Env}
variable {nm q:Str}{C N:Addr}{bs bm bmB:List Value}{hdct:Bool}{sn:List Str}{sub:List Value}{ab:Bool}{col:Option Bool}{dd:Option Addr}{k0 k1 k2 k3 k5:Option Value}{B newId initId:String}
theorem pG (F:ExcBaseFacts B newId initId bmB){x:Str}{np cpos pos:Pos}{args:List Expr}{Q:Flow→Shared→Prop}{fI:Addr}{K:Frag}(hbase:bm.contains (.type "BaseException")=true)(hh:A.handled=none)(hplain:(backTo cpos (starEach args env)).any (·.1)=false)(hi:findIn K (.ref C) "__init__"=some (some (.ref fI)))(hf:typeIn K (.ref fI)=some (.type "function"))(h:wpAny (model prog w) A (eval (.Name x np) env) (fun f s₁=>f=.ref C∧wpAny (model prog w) A (evalArgs (.ref C) true (backTo cpos (starEach args env)) [])
   (fun a s₂=>a.kw=[]∧a.pos.length≤sizeLine∧s₂.heap.get? C=some (excClassObj nm q C N bs bm hdct sn sub ab col dd k0 k1 k2 k3 k5 newId)∧K.In s₂.heap∧OwnTail s₂.heap bmB bm ∧
    ∀ h' e,Heap.MadeExcOf s₂.heap h' e (.ref C) a.pos→wpAny (model prog w) (A.under (.builtin "type.__call__" ⟨.ref C::a.pos,[]⟩)) (call (.ref fI) (.ref e::a.pos))
     (fun r s₃=>r=.none∧s₃.heap.get? C=some (excClassObj nm q C N bs bm hdct sn sub ab col dd k0 k1 k2 k3 k5 newId)∧(∃ oe vs,s₃.heap.get? e=some oe∧oe.cls=.ref C∧oe.data=.fields vs∧vs[1]?=some .none)∧E (.ref e) s₃) E { s₂ with heap:=h' }) E s₁) E s) :
  wpAny (model prog w) A (exec (.Raise (some (.Call (.Name x np) args [] cpos)) none pos) env) Q E s:=by
 rw [arm_exec_Raise]
 first
  | refine wpAny_bind (wpAny_standAt (jA (C:=C) (nm:=nm) (q:=q) (N:=N) (bs:=bs) (bm:=bm) (hdct:=hdct) (sn:=sn) (sub:=sub) (ab:=ab) (col:=col) (dd:=dd) (k0:=k0) (k1:=k1) (k2:=k2) (k3:=k3) (k5:=k5) (newId:=newId) hbase hh (wpAny_bind (wpAny_mono (wpAny_Call_ofName (wpAny_mono h (fun f s₁ h₁=>?_) fun _ _ x=>x)) (fun v s₃ h₃=>wpAny_bind (wpAny_standAt (wpAny_pure h₃))) fun _ _ x=>x))))
  | (simp only [evalOpt,Option.map]; refine wpAny_bind (wpAny_standAt (jA (C:=C) (nm:=nm) (q:=q) (N:=N) (bs:=bs) (bm:=bm) (hdct:=hdct) (sn:=sn) (sub:=sub) (ab:=ab) (col:=col) (dd:=dd) (k0:=k0) (k1:=k1) (k2:=k2) (k3:=k3) (k5:=k5) (newId:=newId) hbase hh (wpAny_bind (wpAny_mono (wpAny_Call_ofName (wpAny_mono h (fun f s₁ h₁=>?_) fun _ _ x=>x)) (fun v s₃ h₃=>wpAny_bind (wpAny_standAt (wpAny_pure h₃))) fun _ _ x=>x)))))
  | (refine wpAny_bind (wpAny_standAt (jA (C:=C) (nm:=nm) (q:=q) (N:=N) (bs:=bs) (bm:=bm) (hdct:=hdct) (sn:=sn) (sub:=sub) (ab:=ab) (col:=col) (dd:=dd) (k0:=k0) (k1:=k1) (k2:=k2) (k3:=k3) (k5:=k5) (newId:=newId) hbase hh ?_)); refine wpAny_bind (wpAny_mono (wpAny_Call_ofName (wpAny_mono h (fun f s₁ h₁=>?_) fun _ _ x=>x)) (fun v s₃ h₃=>wpAny_bind (wpAny_standAt (wpAny_pure h₃))) fun _ _ x=>x))
 obtain ⟨rfl,h₁⟩:=h₁
 unfold callWith
 refine wpAny_bind (wpAny_holding (wpAny_mono h₁ (fun a s₂ h₂=>wpAny_bind (wpAny_standAt ?_)) fun _ _ x=>x))
 obtain ⟨apos,akw⟩:=a
 obtain ⟨hkw,hlen,hC,Z,T,h₂⟩:=h₂
 obtain rfl:akw=[]:=hkw
 obtain ⟨hp,g,d,tk,os⟩:=s₂
 simp only [hplain]
 refine wpAny_bind (wpAny_keeperOf_exc hC ?_)
 refine wpAny_bind (sP (hrest:=hlen) F T hC Z hi hf fun h' e hm=>wpAny_mono (h₂ h' e hm) (fun r s₃ h₃=>?_) fun _ _ x=>x)
 obtain ⟨hr,hC3,⟨oe,vs,he,hcl,hda,hv1⟩,hE⟩:=h₃
 exact ⟨hr,wpAny_bind (wpAny_holding (wpAny_point (wpAny_pure ⟨e,oe,vs,rfl,hC3,he,hcl,hda,hv1,hE⟩)))⟩
end
def sQ (C:Addr)(f:Str):Sp:=fun vs H Q _=>∃ e y,vs=[.ref e,y]∧H e=some (fT e C none)∧∀ dx,H dx=none→dx≠e→Q .non (upd (upd H dx (.xd [(f,y)])) e (fT e C (some dx)))
structure ExcI (K:Frag) (C B fI:Addr):Prop where
 ex:∃ nm q N bs hd sn sub ab col dd k0 k1 k2 k3 k5,K.lookup C=some (excClassObj nm q C N bs (.ref B::vbm) hd sn sub ab col dd k0 k1 k2 k3 k5 "ValueError.__new__")
 base:excIn K B vbm "ValueError.__new__"=true
 init:findIn K (.ref C) "__init__"=some (some (.ref fI))
 fn:isFn K (.ref fI)=true
def xB (f:Str)(v:V)(R:Addr→Hp→Prop):TS:=fun _ _ H=>∀ dx,H dx=none→R dx (upd H dx (.xd [(f,v)]))
theorem AI1 {X:Cx}{x:Str}{C B fI:Addr}{k:Nat}{fd:FuncData}{f p:Str}{v:V}{u:Value}{np cpos pos:Pos}{R:Addr→Hp→Prop}(hc:X.calm=true)(hg:Gl X x)(hm:X.mg x=some (.ref C))(q:ExcI X.K C B fI)(F:FnOk X.prog X.w X.K X.mg X.base (CXF X.prog X.w) k fI fd ["self",p] (sQ C f))(hr:Room (k+1) X.A)(hb:Binds X.K fd ["self",p] [u])(hv:RelV v u)(hxe:∀ pins σ H H' s s' e oe vs a0,Inv X pins σ H s→s'.os=s.os→AllBare s'.gens→Un (frs X.stack) [] H H' s.heap s'.heap→HOk X.prog X.w H' s'.heap→s.heap.get? e=none→H' e=none →
   s'.heap.get? e=some oe→oe.data=.fields vs→vs[1]?=some .none→vs[0]?=some a0→vs[2]?=some .none→oe.cls=.ref C→(∃ dx,oe.dict=some dx∧R dx H')→X.xe (.ref e) s')(hd:(x == ("__debug__":Str))=false:=by decide):PS X (.Raise (some (.Call (.Name x np) [] [] cpos)) none pos) (xB f v R):=by
 intro pins s σ H D I h
 obtain ⟨nm,qn,N,bs,hd',sn,sub,ab,col,dd,k0,k1,k2,k3,k5,lk⟩:=q.ex
 obtain ⟨bm',N',nm',qn',bs',hd'',sn',sub',ab',col',dd',j0,j1,j2,j3,j5,mN',hB,hN',hni',T'⟩:=tJ I.kIn q.base
 have T:OwnTail s.heap vbm (.ref B::vbm):=.own (cd:=_) hB hN' hni' .base
 refine pG (C:=C) (nm:=nm) (q:=qn) (N:=N) (bs:=bs) (bm:=.ref B::vbm) (bmB:=vbm) (hdct:=hd') (sn:=sn) (sub:=sub) (ab:=ab) (col:=col) (dd:=dd) (k0:=k0) (k1:=k1) (k2:=k2) (k3:=k3) (k5:=k5) (K:=X.K) (fI:=fI) PySem.F.excBase_ValueError (by rfl) (I.ok.hd hc) rfl q.init (beq_iff_eq.mp q.fn) (fA I hg hm ⟨rfl,?_⟩ hd)
 refine PySem.evalArgs_none ?_
 refine ⟨rfl,sz8 (show 0≤1000 by decide),I.kIn _ _ lk,I.kIn,T,fun h' e hx=>?_⟩
 obtain ⟨tt,he,_,_⟩:=hx.there
 have nH:H e=none:=by
  cases z:H e with
  | none=>rfl
  | some w' =>
   obtain ⟨o,ho⟩:=yM (I.hok e w' z)
   rw [hx.new] at ho
   cases ho
 have nb:∀ b o,s.heap.get? b=some o→b≠e:=fun b o z y=>by rw [y,hx.new] at z; cases z
 have up:∀ b w',H b=some w'→upd H e (fT e C none) b=some w':=fun b w' z=>by rw [aI (aR z nH)]; exact z
 have I1:Inv X pins σ (upd H e (fT e C none)) { s with heap:=h' }:=I.un (t':=s.toks) ⟨fun b o z _ _ _=>hx.keeps _ _ z,fun b o z _ _ _=>⟨o.slots,hx.keeps _ _ z⟩,fun b o z n _=>by rw [aI (nb b o z)]; exact n,fun b o z _=>⟨o,hx.keeps _ _ z⟩,fun b xs z=>up _ _ z,fun b o w' z=>up _ _ z,fun b ps z=>⟨#[],by rw [Array.append_empty]; exact up _ _ z⟩⟩ fun b w' z=>by
  by_cases y:b=e
  ·subst y
   rw [aC] at z
   cases z
   exact AH9 ⟨_,.ref tt,he,rfl,rfl,rfl⟩
  ·rw [aI y] at z
   exact (I.hok b w' z).stay (fun c v' _ r=>hx.keeps _ _ r) (fun c r=>up _ _ r) fun c xs r=>up _ _ r
 refine wpAny_call (codeAny_mono (F.run _ X.stack _ _ ⟨[Value.ref e],[]⟩ [Value.ref e,u] [V.ref e,v] (fun v' H2=>v'=.non∧∃ dx,H dx=none∧dx≠e∧H2=upd (upd (upd H e (fT e C none)) dx (.xd [(f,v)])) e (fT e C (some dx))) E0 (hr.make C [] []) (I1.env0.make C [] [])
  (hb _ [Value.ref e] I1.kIn rfl) (.cons rfl (.cons hv .nil)) ⟨e,v,rfl,aC,fun dx e1 e2=>⟨rfl,dx,by rw [aI e2] at e1; exact e1,e2,rfl⟩⟩) fun r s3 hq=>?_)
 cases r with
 | error ev =>
  obtain ⟨_,_,_,_,_,_,_,_,_,_,_,_,_,_,_,_,hE⟩:=hq
  exact hE.elim
 | ok fl =>
  cases fl with
  | next=>exact False.elim hq
  | brk=>exact False.elim hq
  | cont=>exact False.elim hq
  | ret u3 =>
   obtain ⟨v3,H2,os,bare,un,hok,r3,rfl,dx,hdx,hde,rfl⟩:=hq
   have I3:Inv X pins σ _ s3:=I1.call' (ch:=[]) os un hok bare (fun b z=>absurd z (by simp))
   obtain ⟨⟨ob,a0,hob,hcl,hdi,hdt⟩,_,_⟩:=(show ObjOk X.prog X.w _ s3.heap e (.ext (vJ e C (some dx))) from hok e _ aC)
   have eq2:∀ b,b≠e→upd (upd (upd H e (fT e C none)) dx (.xd [(f,v)])) e (fT e C (some dx)) b=upd H dx (.xd [(f,v)]) b:=fun b z=>by
    rw [aI z]
    by_cases y:b=dx
    ·rw [y,aC,aC]
    ·rw [aI y,aI y,aI z]
   have nH2:upd H dx (.xd [(f,v)]) e=none:=by rw [aI (Ne.symm hde)]; exact nH
   have ne1:∀ b w',H b=some w'→b≠e:=fun b w' z=>aR z nH
   have un':Un (frs X.stack) [] H (upd H dx (.xd [(f,v)])) s.heap s3.heap :=
    ⟨fun b o z n hb' _=>un.keep b o (hx.keeps _ _ z) (by rw [aI (nb b o z)]; exact n) hb' (by simp),fun b o z n hb' _=>un.slot b o (hx.keeps _ _ z) (by rw [aI (nb b o z)]; exact n) hb' (by simp),
     fun b o z n _=>(eq2 b (nb b o z)).symm.trans (un.free b o (hx.keeps _ _ z) (by rw [aI (nb b o z)]; exact n) (by simp)),fun b o z _=>un.there b o (hx.keeps _ _ z) (by simp),
     fun b xs z=>(eq2 b (ne1 b _ z)).symm.trans (un.tups b xs (up _ _ z)),fun b o w' z=>(eq2 b (ne1 b _ z)).symm.trans (un.frzs b o w' (up _ _ z)),fun b ps z=>by
     obtain ⟨m1,e1⟩:=un.tbls b ps (up _ _ z)
     exact ⟨m1,(eq2 b (ne1 b _ z)).symm.trans e1⟩⟩
   have hok':HOk X.prog X.w (upd H dx (.xd [(f,v)])) s3.heap:=fun b w' z=>by
    have be:b≠e:=fun y=>by rw [y,nH2] at z; cases z
    refine (hok b w' ((eq2 b be).trans z)).stay (fun _ _ _ r=>r) (fun c r=>?_) fun c xs r=>?_
    ·have ce:c≠e:=fun y=>by rw [y,aC] at r; cases r
     exact (eq2 c ce).symm.trans r
    ·have ce:c≠e:=fun y=>by rw [y,aC] at r; cases r
     exact (eq2 c ce).symm.trans r
   refine ⟨(show u3=Value.none from r3),I3.kIn _ _ lk,⟨ob,_,hob,hcl,hdt,rfl⟩,?_⟩
   exact hxe pins σ H _ s s3 e ob _ a0 I os bare un' hok' hx.new nH2 hob hdt rfl rfl rfl hcl ⟨dx,hdi,h dx hdx⟩
structure CalI (P:Program) (w:World) (K:Frag) (mg:Str→Option Value) (base:Heap) (x:Str) (C:Addr) (f:Str) (k:Nat) (v:V):Prop where
 ex:∃ (B fI:Addr) (fd:FuncData) (p:Str) (u:Value),FnOk P w K mg base (CXF P w) k fI fd ["self",p] (sQ C f)∧Binds K fd ["self",p] [u]∧RelV v u∧ExcI K C B fI∧mg x=some (.ref C)
section
variable {X:Cx}
theorem dZ {x:Str}{C:Addr}{k:Nat}{f:Str}{v:V}{np cpos pos:Pos}{R:Addr→Hp→Prop}(c:CalI X.prog X.w X.K X.mg X.base x C f k v)(hc:X.calm=true)(hg:Gl X x)(hr:Room (k+1) X.A)(hxe:∀ pins σ H H' s s' e oe vs a0,Inv X pins σ H s→s'.os=s.os→AllBare s'.gens→Un (frs X.stack) [] H H' s.heap s'.heap→HOk X.prog X.w H' s'.heap→s.heap.get? e=none→H' e=none →
   s'.heap.get? e=some oe→oe.data=.fields vs→vs[1]?=some .none→vs[0]?=some a0→vs[2]?=some .none→oe.cls=.ref C→(∃ dx,oe.dict=some dx∧R dx H')→X.xe (.ref e) s')(hd:(x == ("__debug__":Str))=false:=by decide):PS X (.Raise (some (.Call (.Name x np) [] [] cpos)) none pos) (xB f v R):=by
 obtain ⟨B,fI,fd,p,u,F,b,r,q,m⟩:=c.ex
 exact AI1 hc hg m q F hr b r hxe hd
theorem AI2 {K:Frag}{e:Expr}{ta:TE}{f:Str}{pos:Pos}(hK:X.K=K)(he:PE X e ta)(hb:attributeBase e f X.env (eval e X.env)=eval e X.env):PE X (.Attribute e f pos) (AW9 K ta f):=by
 subst hK
 exact AX0 he hb
end
section
variable {P:Program}{w:World}{K:Frag}{mg:Str→Option Value}{base:Heap}{N:List Str}{qual:Str}{sc:Scope}{f:Addr}{cdv:Value}{A:Around}{outer:List Env}{s:Shared}{H:Hp}{E:XK}{C:Addr}
theorem iG {c:Nat}:∀ pins σ H1 H' s1 s' e oe vs a0,Inv (sK c P w K mg base N qual sc f cdv A outer s H E) pins σ H1 s1→s'.os=s1.os→AllBare s'.gens→Un (frs (sK c P w K mg base N qual sc f cdv A outer s H E).stack) [] H1 H' s1.heap s'.heap→HOk P w H' s'.heap→s1.heap.get? e=none→H' e=none →
   s'.heap.get? e=some oe→oe.data=.fields vs→vs[1]?=some .none→vs[0]?=some a0→vs[2]?=some .none→oe.cls=.ref C→(∃ dx,oe.dict=some dx∧E (.ref C) (some dx) H')→(sK c P w K mg base N qual sc f cdv A outer s H E).xe (.ref e) s' :=
 fun pins σ H1 H' s1 s' e oe vs a0 I os bare un hok fe nH he hd h1 h0 hch hcl ⟨dx,hdi,hE⟩=>lD I rfl rfl rfl os bare un hok fe nH he hd h1 h0 (fun _=>ChG.of0 hch) (by rw [hcl,hdi]; exact hE)
end
section
variable {K:Frag}{σ:L2.St}{H:Hp}{Q:VK}{D:Ends}{ta tv:TE}{f:Str}{v:V}{R:Addr→Hp→Prop}
theorem tO:xB f v R D σ H=∀ dx,H dx=none→R dx (L2.upd H dx (.xd [(f,v)])):=rfl
theorem xC:BD1 K ta tv f D σ H=tv σ H fun y H1=>ta σ H1 fun x H2=>∃ a C cd,x=.ref a∧H2 a=some (fT a C none)∧ExcS K C cd∧mroIn K C (.type "object")=some true∧NoAttr K C f ∧
 ∀ dx,H2 dx=none→dx≠a→D.nx σ (L2.upd (L2.upd H2 dx (.xd [(f,y)])) a (fT a C (some dx))):=rfl
theorem AI3:AW9 K ta f σ H Q=ta σ H fun x H1=>∃ a C dx fs v,x=.ref a∧H1 a=some (fH a (.ref C) (some dx))∧H1 dx=some (.xd fs)∧ExcK K C∧hasDictIn K C=true∧NoAttr K C f∧fs.lookup f=some v∧Q v H1:=rfl
end
section
open Builtin Builtin.Str
variable {prog:Program}{w:World}{A:Around}{E:Value→Shared→Prop}{s:Shared}{x y:Str}{t u:Tok}{Q:Value→Shared→Prop}
theorem zQ (hy:(y.length == 0)=false)(hsz:x.length+2≤sizeLine)(h:∀ (l:List (Str × Tok)) (k:Nat),l.map (·.1)=Txt.split x y→Q (.ref s.heap.objs.size) { s with heap:=s.heap.push { cls:=.type "list",data:=.seq (strValues l).toArray },toks:=k }) :
  wpAny (model prog w) A (call (.builtin "str.split") [.str x t,.str y u]) Q E s:=by
 have hn:(partsBetween x (occurrences x y 0 x.length (x.length+1)) y.length).length≤sizeLine:=by
  have e:=StrLaws.occ_length_le x y 0 x.length (x.length+1)
  rw [length_partsBetween]; omega
 cases c1:(decide (x.length < y.length) || decide (strKind x < strKind y)) with
 | true=>exact call_meets F.slot_str_split (typeIs_str _ _ _) F.entry_str_split (F.args_str_split_2 _ _) (meets_str_split_cannot_occur x y t u c1) (h [(x,t)] s.toks (if_pos c1).symm)
 | false =>
  cases c2:(occurrences x y 0 x.length (x.length+1)).isEmpty with
  | true=>exact call_meets F.slot_str_split (typeIs_str _ _ _) F.entry_str_split (F.args_str_split_2 _ _) (meets_str_split_not_found x y t u c1 hy c2) (h [(x,t)] s.toks ((if_neg (ne_true_of_eq_false c1)).trans (if_pos c2)).symm)
  | false =>
   refine call_meets F.slot_str_split (typeIs_str _ _ _) F.entry_str_split (F.args_str_split_2 _ _) (meets_str_split_sep x y t u c1 hy c2 (by omega) hn) ?_
   show wants Q E _ { s with toks:=_,heap:=s.heap.push { cls:=.type "list",data:=.seq (strsFrom s.toks (partsBetween x (occurrences x y 0 x.length (x.length+1)) y.length)).toArray } }
   rw [strsFrom_eq]; exact h (numbered s.toks _) _ ((numbered_texts _ _).trans ((if_neg (ne_true_of_eq_false c1)).trans (if_neg (ne_true_of_eq_false c2))).symm)
end
section
variable {X:Cx}
theorem qR:∀ {l:List (Str × Tok)}{ts:List Str},l.map (·.1)=ts→Vals (ts.map V.str) (strValues l)
 | [],_,e=>by subst e; exact .nil
 | (a,t)::l,_,e=>by subst e; exact .cons ⟨t,rfl⟩ (qR rfl)
def AR7:V→List V→Hp→VK→Prop:=fun x xs H Q=>∃ u y,x=.str u∧xs=[.str y]∧(y.length == 0)=false∧u.length+2≤sizeLine∧(Txt.split u y).length≤sizeLine∧∀ l,H l=none→Q (.ref l) (upd H l (.lst ((Txt.split u y).map V.str)))
theorem yV:MtR X "str.split" AR7:=by
 intro pins s σ H x xs v us Q I rx rv h
 obtain ⟨u,y,rfl,rfl,hy,hz,hz2,q⟩:=h
 obtain ⟨t,rfl⟩:=rx
 obtain ⟨u',rfl,t',rfl⟩:=Vals.one rv
 refine zQ hy hz fun l k e=>?_
 exact ⟨.ref _,_,I.lnew (t':=k) (qR e) (by rw [List.length_map]; exact hz2),rfl,q _ I.fresh⟩
def AI4:V→List V→Hp→VK→Prop:=fun x xs H Q=>∃ u y,x=.str u∧xs=[.str y]∧Q (.bl (Txt.startswith u y)) H
theorem mM:MtR X "str.startswith" AI4:=by
 intro pins s σ H x xs v us Q I rx rv h
 obtain ⟨u,y,rfl,rfl,q⟩:=h
 obtain ⟨t,rfl⟩:=rx
 obtain ⟨u',rfl,t',rfl⟩:=Vals.one rv
 exact SC.startswith ⟨.bl _,H,I,rfl,q⟩
theorem tP:iP X (.type "int") (fun xs H Q=>∃ u n,xs=[.str u]∧PySem.intText? u=some n∧u.length≤640∧Q (.int n) H):=by
 intro pins s σ H xs us Q I r h
 obtain ⟨u,n,rfl,e,hl,q⟩:=h
 obtain ⟨u',rfl,t,rfl⟩:=Vals.one r
 exact KIN.call_text e hl ⟨.int n,H,I.tok _,⟨_,rfl⟩,q⟩
theorem tQ {K:Frag}{σ:L2.St}{H:Hp}{D:Ends}{ta tv:TE}{rd:V→V→Hp→VK→Prop}{f:Str}:sZ K ta tv rd f D σ H=ta σ H fun x H1=>∃ a C dx fs v,x=.ref a∧H1 a=some (.ins C dx fs)∧Cls K C∧NoAttr K C f∧fs.lookup f=some v ∧
 tv σ H1 fun y H2=>rd v y H2 fun z H3=>∃ dx' fs',H3 a=some (.ins C dx' fs')∧fs'.length < 1000∧D.nx σ (upd H3 a (.ins C dx' (mF f z fs'))):=rfl
theorem AI5 {x y:V}{H:Hp}{Q:VK}:BL3 x y H Q=∃ i j,x=.int i∧y=.int j∧Q (.int (i+j)) H:=rfl
end
theorem iH (x y:Str):(x++y).cps.toList=x.cps.toList++y.cps.toList:=by
 show (x.cps++y.cps).toList=_
 simp
theorem lF {x y:Str}(h:x.cps.toList=y.cps.toList):x=y:=Str.ext' (Array.toList_inj.mp h)
theorem yW {c:Nat}:∀ {a b r s:List Nat},c ∉ a→c ∉ b→a++c::r=b++c::s→a=b∧r=s
 | [],[],r,s,_,_,h=>⟨rfl,(List.cons.inj h).2⟩
 | [],y::b,r,s,_,hb,h=>by
  have e:=(List.cons.inj h).1
  exact absurd (by rw [← e]; exact List.mem_cons_self) hb
 | x::a,[],r,s,ha,_,h=>by
  have e:=(List.cons.inj h).1
  exact absurd (by rw [e]; exact List.mem_cons_self) ha
 | x::a,y::b,r,s,ha,hb,h=>by
  obtain ⟨e1,e2⟩:=List.cons.inj h
  obtain ⟨q1,q2⟩:=yW (fun z=>ha (List.mem_cons_of_mem _ z)) (fun z=>hb (List.mem_cons_of_mem _ z)) e2
  exact ⟨by rw [e1,q1],q2⟩
theorem yX {c:Nat}{a b r:List Nat}(ha:c ∉ a)(h:a=b++c::r):False:=ha (by rw [h]; simp)
theorem yY {c:Nat}:∀ {as bs:List Str},as≠[]→bs≠[]→(∀ a∈as,c ∉ a.cps.toList)→(∀ b∈bs,c ∉ b.cps.toList)→Str.join ⟨#[c]⟩ as=Str.join ⟨#[c]⟩ bs→as=bs
 | [],_,h,_,_,_,_=>absurd rfl h
 | _,[],_,h,_,_,_=>absurd rfl h
 | [a],[b],_,_,_,_,h=>by
  have e:a=b:=h
  rw [e]
 | [a],b::b'::r,_,_,ha,hb,h=>by
  have e:=congrArg (fun z:Str=>z.cps.toList) (show a=b++⟨#[c]⟩++Str.join ⟨#[c]⟩ (b'::r) from h)
  simp only [iH] at e
  exact (yX (ha a List.mem_cons_self) (by rw [e,List.append_assoc]; rfl)).elim
 | a::a'::r,[b],_,_,ha,hb,h=>by
  have e:=congrArg (fun z:Str=>z.cps.toList) (show b=a++⟨#[c]⟩++Str.join ⟨#[c]⟩ (a'::r) from h.symm)
  simp only [iH] at e
  exact (yX (hb b List.mem_cons_self) (by rw [e,List.append_assoc]; rfl)).elim
 | a::a'::r,b::b'::q,_,_,ha,hb,h=>by
  have e:=congrArg (fun z:Str=>z.cps.toList) (show a++⟨#[c]⟩++Str.join ⟨#[c]⟩ (a'::r)=b++⟨#[c]⟩++Str.join ⟨#[c]⟩ (b'::q) from h)
  simp only [iH,List.append_assoc] at e
  obtain ⟨e1,e2⟩:=yW (ha a List.mem_cons_self) (hb b List.mem_cons_self) (show _++c::_=_++c::_ from e)
  have e3:=yY (c:=c) (as:=a'::r) (bs:=b'::q) (by simp) (by simp) (fun z hz=>ha z (List.mem_cons_of_mem _ hz)) (fun z hz=>hb z (List.mem_cons_of_mem _ hz)) (lF e2)
  rw [lF e1,e3]
theorem AO4 (x y:Str):Txt.split x y≠[]:=by
 intro h
 have e:=StrLaws.join_split x y
 unfold Txt.split at h
 split at h
 ·cases h
 ·split at h
  ·cases h
  ·obtain ⟨p,r,q⟩:=StrLaws.partsFrom_ne x y.length 0 (Builtin.Str.occurrences x y 0 x.length (x.length+1))
   rw [StrLaws.partsBetween_eq,q] at h
   cases h
theorem zR {c:Nat}{as:List Str}(hn:as≠[])(h:∀ a∈as,c ∉ a.cps.toList):Txt.split (Str.join ⟨#[c]⟩ as) ⟨#[c]⟩=as :=
 yY (AO4 _ _) hn (StrLaws.split_free _ c) h (StrLaws.join_split _ _)
theorem yZ {c:Nat}:∀ {as bs:List Str},as≠[]→bs≠[]→Str.join ⟨#[c]⟩ (as++bs)=Str.join ⟨#[c]⟩ as++⟨#[c]⟩++Str.join ⟨#[c]⟩ bs
 | [],_,h,_=>absurd rfl h
 | [a],[],_,h=>absurd rfl h
 | [a],b::r,_,_=>rfl
 | a::a'::r,bs,_,h=>by
  show a++⟨#[c]⟩++Str.join ⟨#[c]⟩ ((a'::r)++bs)=a++⟨#[c]⟩++Str.join ⟨#[c]⟩ (a'::r)++⟨#[c]⟩++Str.join ⟨#[c]⟩ bs
  rw [yZ (c:=c) (as:=a'::r) (bs:=bs) (by simp) h]
  apply lF
  simp only [iH,List.append_assoc]
section
variable {prog:Program}{w:World}{A:Around}{E:Value→Shared→Prop}
theorem mP:entryFor table "proto.unchain"=some Builtin.«proto.unchain»:=entryFor_of_fast (by kernel_rfl)
def Chn (e:Addr)(h:Heap)(xs:Array Value):Prop:=xs[2]?=some .none∨∃ z oz zs,xs[2]?=some (.ref z)∧z≠e∧h.get? z=some oz∧oz.data=.fields zs∧zs[2]?=some .none
theorem tR {s:Shared}{e x:Addr}{oe ox:Obj}{vs xs:Array Value}{α:Type}{Q:α→Shared→Prop}(hh:A.handled=some (.ref x))(hne:x≠e)(hx:s.heap.get? x=some ox)(hxd:ox.data=.fields xs)(hx2:Chn e s.heap xs)(he:s.heap.get? e=some oe)(hd:oe.data=.fields vs)(hsz:2 < vs.size)(h:E (.ref e) { s with heap:=s.heap.update e (Obj.mapFields (·.setIfInBounds 2 (.ref x))) }):wpAny (model prog w) A (raiseNew (.ref e):Sem α) Q E s:=by
 unfold raiseNew
 refine wpAny_bind (wpAny_handled ?_)
 rw [hh]
 dsimp only
 have hb:(Value.ref x != Value.ref e)=true:=by
  rw [bne_iff_ne]
  intro z
  cases z
  exact hne rfl
 rw [if_pos hb]
 have u:=fun (Q':Unit→Shared→Prop) (q:Q' () _)=>wpAny_setField (M:=model prog w) (A:=A) (E:=E) (i:=2) (x:=.ref x) he hd hsz q
 refine wpAny_bind (wpAny_holding (wpAny_runValue (codeAny_builtin mP ?_)))
 unfold Builtin.«proto.unchain»
 dsimp only
 rcases hx2 with hx2 | ⟨z,oz,zs,hx2,hze,hz,hzd,hz2⟩
 ·refine wpAny_bind (wpAny_field hx hxd hx2 ?_)
  rw [if_pos (by rfl)]
  refine wpAny_bind (wpAny_pure (wpAny_pure ?_))
  exact wpAny_bind (u _ (wpAny_throw h))
 ·have hzx:z≠x:=fun q=>by
   subst q
   rw [hx] at hz
   cases hz
   rw [hxd] at hzd
   cases hzd
   rw [hx2] at hz2
   cases hz2
  have n1:¬ (Value.ref z == Value.none)=true:=by intro q; cases q
  have n2:¬ (Value.ref z == Value.ref e)=true:=fun q=>hze (Value.ref.inj (eq_of_beq q))
  have n3:¬ (Value.ref z == Value.ref x)=true:=fun q=>hzx (Value.ref.inj (eq_of_beq q))
  refine wpAny_bind (wpAny_field hx hxd hx2 ?_)
  rw [if_neg n1]
  try dsimp only
  rw [if_neg n2]
  try dsimp only
  rw [if_neg n3]
  try dsimp only
  refine wpAny_bind (wpAny_pure ?_)
  refine wpAny_pure ⟨Code.quiet_builtin _ (by decide +kernel),?_⟩
  refine codeAny_builtin mP ?_
  unfold Builtin.«proto.unchain»
  dsimp only
  refine wpAny_bind (wpAny_field hz hzd hz2 ?_)
  rw [if_pos (by rfl)]
  refine wpAny_bind (wpAny_pure (wpAny_pure ?_))
  exact wpAny_bind (u _ (wpAny_throw h))
variable {env:Env}{nm q:Str}{C N y:Addr}{bs bm:List Value}{hdct:Bool}{sn:List Str}{sub:List Value}{ab:Bool}{col:Option Bool}{dd:Option Addr}{k0 k1 k2 k3 k5:Option Value}{newId:String}
theorem rJ {s:Shared}{x c:Sem Value}{Q:Flow→Shared→Prop}(hbase:bm.contains (.type "BaseException")=true)(hh:A.handled=some (.ref y))(hc:∀ (s':Shared) (Q':Value→Shared→Prop),Q' .none s'→wpAny (model prog w) A c Q' E s')(h:wpAny (model prog w) A x (fun v s₁=>∃ e oc od osl a0 oy ys,v=.ref e∧y≠e∧s₁.heap.get? C=some (excClassObj nm q C N bs bm hdct sn sub ab col dd k0 k1 k2 k3 k5 newId) ∧
   s₁.heap.get? e=some ⟨.ref C,od,.fields #[a0,.none,.none,.none,.bool false,.none],osl⟩∧oc=Value.ref C∧s₁.heap.get? y=some oy∧oy.data=.fields ys∧Chn e s₁.heap ys ∧
   ∀ h',(∀ b,b≠e→h'.get? b=s₁.heap.get? b)→h'.get? e=some ⟨.ref C,od,.fields #[a0,.none,.ref y,.none,.bool true,.none],osl⟩→E (.ref e) { s₁ with heap:=h' }) E s) :
  wpAny (model prog w) A (raiseStmt env (some x) (some c)) Q E s:=by
 have hcB:(Value.ref C::bm).contains (.type "BaseException")=true:=by rw [List.contains_cons,hbase,Bool.or_true]
 unfold raiseStmt
 refine wpAny_bind (wpAny_mono h (fun v s₁ h₁=>?_) fun _ _ x=>x)
 obtain ⟨e,oc,od,osl,a0,oy,ys,rfl,hne,hC,he,_,hy,hyd,hy2,hE⟩:=h₁
 obtain ⟨hp,g,d,tk,os⟩:=s₁
 have hCe:C≠e:=fun z=>by rw [z,he] at hC; cases hC
 refine wpAny_bind (wpAny_holding (hc _ _ (wpAny_bind (wpAny_pure ?_))))
 dsimp only at he hC hy hE ⊢
 repeat (first | with_reducible refine wpAny_loadPart_at he ?_ | with_reducible refine wpAny_loadPart_at hC ?_ | (with_reducible refine wpAny_isSubtype_exc hC ?_; rw [hcB]) | wp_step)
 have e3:=Heap.get?_update_self (Obj.mapFields fun x=>x.setIfInBounds 3 .none) he rfl
 have e4:=Heap.get?_update_self (Obj.mapFields fun x=>x.setIfInBounds 4 (.bool true)) e3 rfl
 have oth:∀ b,b≠e→((hp.update e (Obj.mapFields fun x=>x.setIfInBounds 3 Value.none)).update e (Obj.mapFields fun x=>x.setIfInBounds 4 (Value.bool true))).get? b=hp.get? b:=fun b hb=>by
  rw [Heap.get?_update_other _ _ (Ne.symm hb),Heap.get?_update_other _ _ (Ne.symm hb)]
 have hy3:Chn e ((hp.update e (Obj.mapFields fun x=>x.setIfInBounds 3 Value.none)).update e (Obj.mapFields fun x=>x.setIfInBounds 4 (Value.bool true))) ys:=by
  rcases hy2 with q | ⟨z,oz,zs,q1,q2,q3,q4⟩
  ·exact .inl q
  ·exact .inr ⟨z,oz,zs,q1,q2,(oth z q2).trans q3,q4⟩
 refine tR hh hne ((oth y hne).trans hy) hyd hy3 e4 rfl (show 2 < 6 by decide) ?_
 exact hE _ (fun b hb=>by rw [Heap.get?_update_other _ _ (Ne.symm hb)]; exact oth b hb) (Heap.get?_update_self _ e4 rfl)
variable {bmB:List Value}{B initId:String}
theorem sR {s:Shared}(F:ExcBaseFacts B newId initId bmB){x:Str}{np cpos cp pos:Pos}{args:List Expr}{j:Nat}{Q:Flow→Shared→Prop}{fI:Addr}{K:Frag}(hbase:bm.contains (.type "BaseException")=true)(hh:A.handled=some (.ref y))(hplain:(backTo cpos (starEach args env)).any (·.1)=false)(hi:findIn K (.ref C) "__init__"=some (some (.ref fI)))(hf:typeIn K (.ref fI)=some (.type "function"))(h:wpAny (model prog w) A (eval (.Name x np) env) (fun f s₁=>f=.ref C∧wpAny (model prog w) A (evalArgs (.ref C) true (backTo cpos (starEach args env)) [])
   (fun a s₂=>a.kw=[]∧a.pos.length≤sizeLine∧s₂.heap.get? C=some (excClassObj nm q C N bs bm hdct sn sub ab col dd k0 k1 k2 k3 k5 newId)∧K.In s₂.heap∧OwnTail s₂.heap bmB bm ∧
    ∀ h' e,Heap.MadeExcOf s₂.heap h' e (.ref C) a.pos→wpAny (model prog w) (A.under (.builtin "type.__call__" ⟨.ref C::a.pos,[]⟩)) (call (.ref fI) (.ref e::a.pos))
     (fun r s₃=>r=.none∧∃ od osl a0 oy ys,y≠e∧s₃.heap.get? C=some (excClassObj nm q C N bs bm hdct sn sub ab col dd k0 k1 k2 k3 k5 newId) ∧
      s₃.heap.get? e=some ⟨.ref C,od,.fields #[a0,.none,.none,.none,.bool false,.none],osl⟩∧s₃.heap.get? y=some oy∧oy.data=.fields ys∧Chn e s₃.heap ys ∧
      ∀ h',(∀ b,b≠e→h'.get? b=s₃.heap.get? b)→h'.get? e=some ⟨.ref C,od,.fields #[a0,.none,.ref y,.none,.bool true,.none],osl⟩→E (.ref e) { s₃ with heap:=h' }) E { s₂ with heap:=h' }) E s₁) E s) :
  wpAny (model prog w) A (exec (.Raise (some (.Call (.Name x np) args [] cpos)) (some (.Constant .none j cp)) pos) env) Q E s:=by
 rw [arm_exec_Raise]
 refine wpAny_bind (wpAny_standAt (rJ (C:=C) (nm:=nm) (q:=q) (N:=N) (bs:=bs) (bm:=bm) (hdct:=hdct) (sn:=sn) (sub:=sub) (ab:=ab) (col:=col) (dd:=dd) (k0:=k0) (k1:=k1) (k2:=k2) (k3:=k3) (k5:=k5) (newId:=newId) hbase hh (fun s' Q' q=>wpAny_bind (wpAny_Constant_none (wpAny_bind (wpAny_standAt (wpAny_pure q)))))
  (wpAny_bind (wpAny_mono (wpAny_Call_ofName (wpAny_mono h (fun f s₁ h₁=>?_) fun _ _ x=>x)) (fun v s₃ h₃=>wpAny_bind (wpAny_standAt (wpAny_pure h₃))) fun _ _ x=>x))))
 obtain ⟨rfl,h₁⟩:=h₁
 unfold callWith
 refine wpAny_bind (wpAny_holding (wpAny_mono h₁ (fun a s₂ h₂=>wpAny_bind (wpAny_standAt ?_)) fun _ _ x=>x))
 obtain ⟨apos,akw⟩:=a
 obtain ⟨hkw,hlen,hC,Z,T,h₂⟩:=h₂
 obtain rfl:akw=[]:=hkw
 obtain ⟨hp,g,d,tk,os⟩:=s₂
 simp only [hplain]
 refine wpAny_bind (wpAny_keeperOf_exc hC ?_)
 refine wpAny_bind (sP (hrest:=hlen) F T hC Z hi hf fun h' e hm=>wpAny_mono (h₂ h' e hm) (fun r s₃ h₃=>?_) fun _ _ x=>x)
 obtain ⟨hr,od,osl,a0,oy,ys,hne,hC3,he,hy,hyd,hy2,hE⟩:=h₃
 exact ⟨hr,wpAny_bind (wpAny_holding (wpAny_point (wpAny_pure ⟨e,.ref C,od,osl,a0,oy,ys,rfl,hne,hC3,he,rfl,hy,hyd,hy2,hE⟩)))⟩
end
structure RoomH (k:Nat) (A:Around):Prop where
 dp:A.depth+3 * k+5 < recursionLimit
 un:A.units+16 * k+200 < cLine
theorem Room.held {k:Nat}{A:Around}(r:Room k A)(v:Option Value):RoomH k (A.mark v):=⟨r.dp,r.un⟩
theorem RoomH.make {k:Nat}{A:Around}(r:RoomH (k+1) A)(C:Addr)(us:List Value)(kw:List (Str × Value)):RoomH k (A.under (.builtin "type.__call__" ⟨.ref C::us,kw⟩)) :=
 ⟨by have:=r.dp; rw [sG]; omega,by have:=r.un; rw [sH]; omega⟩
structure FnOkH (P:Program) (w:World) (K:Frag) (mg:Str→Option Value) (base:Heap) (CX:CXT) (k:Nat) (f:Addr) (fd:FuncData) (ps:List Str) (sp:Sp):Prop where
 len:∀ vs H Q E,sp vs H Q E→vs.length=ps.length
 run:∀ (A:Around) (outer:List Env) (s:Shared) (H:Hp) (args:Args) (us:List Value) (vs:List V) (Q:VK) (E:XK),RoomH k A→Env0 P w K mg base A outer s H→BindsTo s fd args (ps.zip us)→Vals vs us→sp vs H Q E →
  codeAny (model P w) A (.call (.ref f) args) (CR CX outer P w H s Q E) s
abbrev AX1 (CX:CXT)(P:Program)(w:World)(K:Frag)(mg:Str→Option Value)(base:Heap)(N:List Str)(qual:Str)(sc:Scope)(f:Addr)(cdv:Value)(A:Around)(outer:List Env)(s:Shared)(H:Hp)(E:XK):Cx :=
 { uN CX P w K mg base N qual sc f cdv A outer s H E with calm:=false }
theorem BD2 {CX:CXT}{P:Program}{w:World}{K:Frag}{mg:Str→Option Value}{base:Heap}{k:Nat}{f:Addr}{x qual:Str}{st:Stmt}{fd:FuncData}{N ps:List Str}{sp:Sp}(F:FunA K x qual st f fd)(S:FnScope N ps (aA st))(len:∀ vs H Q E,sp vs H Q E→vs.length=ps.length)(hbody:∀ (cdv:Value) (A:Around) (outer:List Env) (s:Shared) (H:Hp) (vs:List V) (Q:VK) (E:XK),sp vs H Q E →
   ∃ t,PSs (AX1 CX P w K mg base N qual (aA st) f cdv A outer s H E) (aL st) t∧t { nx:=fun _ H'=>Q .non H',rt:=Q } (L2.uY N vs) H):FnOkH P w K mg base CX (k+1) f fd ps sp:=by
 obtain ⟨oc,od,dV,kV,doc,pm,an,cdv,ct,osl,rfl,lk,hcd⟩:=F.ex
 refine ⟨len,fun A outer s H args us vs Q E hr e0 hb r hsp=>?_⟩
 have hl:=len _ _ _ _ hsp
 have KX:K.In s.heap:=e0.mod.kin.keeps fun b o e=>(e0.bs b o e).1
 have hkind:∀ y∈ps.zip us,(aA st).names.lookup y.1=some .local∨((aA st).names.lookup y.1=some .cell∧((cellsFrom (s.heap.objs.size+1) (aA st).names []).lookup y.1).isSome=true):=fun ⟨n,v⟩ hy=>by
  rcases S.par n (List.of_mem_zip hy).1 with q | q
  ·exact .inl q
  ·exact .inr ⟨q,cellsFrom_some _ _ _ (.inl q)⟩
 refine codeAny_call_function (by have:=hr.dp; omega) (KX _ _ lk) rfl S.co S.gen rfl (codeRec_of KX hcd) (hb _ _ _ _ ?_)
 refine wpAny_newFunctionEnv_cells S.kind hkind fun env he s1 x=>?_
 subst he
 refine ⟨(e0.mod.nolimit.keeps fun b o e=>(e0.bs b o e).1).keeps x.toInCall.keep,codeAny_func ?_⟩
 obtain ⟨t,ht,hq⟩:=hbody cdv A outer s H vs Q E hsp
 have I0:=qI (CX:=CX) (E:=E) (A:={ A with handled:=none }) S rfl ⟨e0.frames,e0.mod,e0.bs,e0.bsz,e0.funs,e0.frf,e0.hok,e0.bare⟩ hl r x
 have I:Inv (AX1 CX P w K mg base N qual (aA st) f cdv A outer s H E) [] (L2.uY N vs) H s1 :=
  ⟨⟨I0.ok.mod,I0.ok.kind,I0.ok.glob,I0.ok.blt,I0.ok.above,I0.ok.inj,I0.ok.has,I0.ok.cab,(fun z=>nomatch z),I0.ok.frames,I0.ok.stk,I0.ok.exf,I0.ok.bs,I0.ok.bsz,I0.ok.noex,I0.ok.exfs,I0.ok.funs,I0.ok.frf⟩,I0.os,I0.bare,I0.base,I0.loc,I0.cell,I0.free,I0.freeC,I0.pin,I0.hok,I0.len⟩
 refine wpAny_mono (ht [] s1 (L2.uY N vs) H _ I hq) (fun fl s' hs=>?_) fun e s' hs=>hs
 have fin:∀ {σ':L2.St}{H':Hp}{v:V}{u:Value},Inv (AX1 CX P w K mg base N qual (aA st) f cdv A outer s H E) [] σ' H' s'→RelV v u→Q v H'→CE outer P w H s Q u s' :=
  fun {σ' H' v u} J rv q=>⟨v,H',J.os,J.bare,J.base,J.hok,rv,q⟩
 cases fl with
 | ret u=>exact let ⟨v,σ',H',J,rv,q⟩:=hs; fin J rv q
 | next=>exact let ⟨σ',H',J,q⟩:=hs; fin (v:=V.non) (u:=Value.none) J rfl q
 | brk=>exact let ⟨_,_,_,q⟩:=hs; False.elim q
 | cont=>exact let ⟨_,_,_,q⟩:=hs; False.elim q
structure CalFG (g:Nat) (P:Program) (w:World) (K:Frag) (mg:Str→Option Value) (base:Heap) (f:Addr) (ps:List Str) (k:Nat) (sp:Sp):Prop where
 ex:∃ fd,FnOk P w K mg base (lC P w g) k f fd ps sp∧Binds K fd ps []∧keepIn K (.ref f)=true
abbrev BM0:=CalFG 0
structure CalIH (P:Program) (w:World) (K:Frag) (mg:Str→Option Value) (base:Heap) (x:Str) (C:Addr) (f:Str) (k:Nat) (v:V):Prop where
 ex:∃ (B fI:Addr) (fd:FuncData) (p:Str) (u:Value),FnOkH P w K mg base (CXF P w) k fI fd ["self",p] (sQ C f)∧Binds K fd ["self",p] [u]∧RelV v u∧ExcI K C B fI∧mg x=some (.ref C)
structure CalIA (P:Program) (w:World) (K:Frag) (mg:Str→Option Value) (base:Heap) (x:Str) (C:Addr) (f:Str) (k:Nat):Prop where
 ex:∃ (B fI:Addr) (fd:FuncData) (p:Str),FnOkH P w K mg base (CXF P w) k fI fd ["self",p] (sQ C f)∧Binds K fd ["self",p] []∧ExcI K C B fI∧mg x=some (.ref C)
section
variable {X:Cx}{pins:List (Addr × Obj)}{σ:L2.St}{H:Hp}{s:Shared}
theorem AR8 (I:Inv X pins σ H s)(E:Value→Shared→Prop):Inv { X with xe:=E } pins σ H s :=
 ⟨⟨I.ok.mod,I.ok.kind,I.ok.glob,I.ok.blt,I.ok.above,I.ok.inj,I.ok.has,I.ok.cab,I.ok.hd,I.ok.frames,I.ok.stk,I.ok.exf,I.ok.bs,I.ok.bsz,I.ok.noex,I.ok.exfs,I.ok.funs,I.ok.frf⟩,I.os,I.bare,I.base,I.loc,I.cell,I.free,I.freeC,I.pin,I.hok,I.len⟩
theorem AI6 {E:Value→Shared→Prop}(I:Inv { X with xe:=E } pins σ H s):Inv X pins σ H s :=
 ⟨⟨I.ok.mod,I.ok.kind,I.ok.glob,I.ok.blt,I.ok.above,I.ok.inj,I.ok.has,I.ok.cab,I.ok.hd,I.ok.frames,I.ok.stk,I.ok.exf,I.ok.bs,I.ok.bsz,I.ok.noex,I.ok.exfs,I.ok.funs,I.ok.frf⟩,I.os,I.bare,I.base,I.loc,I.cell,I.free,I.freeC,I.pin,I.hok,I.len⟩
def AZ3 (g:Nat)(X:Cx)(C:Addr)(R:Addr→Hp→Prop):Prop:=∀ pins σ H H' s s' e oe vs a0,Inv X pins σ H s→s'.os=s.os→AllBare s'.gens→Un (frs X.stack) [] H H' s.heap s'.heap→HOk X.prog X.w H' s'.heap→s.heap.get? e=none→H' e=none →
   s'.heap.get? e=some oe→oe.data=.fields vs→vs[1]?=some .none→vs[0]?=some a0→(g < 2→ChG g s'.heap H' vs)→oe.cls=.ref C→(∃ dx,oe.dict=some dx∧R dx H')→X.xe (.ref e) s'
theorem sS {C B fI y e:Addr}{g k:Nat}{f p:Str}{v:V}{u:Value}{us:List Value}{fd:FuncData}{R:Addr→Hp→Prop}{oy:Obj}{ys:Array Value}{nm qn:Str}{N:Addr}{bs:List Value}{hd':Bool}{sn:List Str}{sub:List Value}{ab:Bool}{col:Option Bool}{dd:Option Addr}{k0 k1 k2 k3 k5:Option Value}{h':Heap}(F:FnOkH X.prog X.w X.K X.mg X.base (CXF X.prog X.w) k fI fd ["self",p] (sQ C f))(lk:X.K.lookup C=some (excClassObj nm qn C N bs (.ref B::vbm) hd' sn sub ab col dd k0 k1 k2 k3 k5 "ValueError.__new__"))(hv:RelV v u)(hg0:1≤g)(hr:Room (k+1) X.A)(hxe:AZ3 g X C R)(I:Inv X pins σ H s)(hy:s.heap.get? y=some oy)(hyd:oy.data=.fields ys)(hy2:ys[2]?=some .none∨∃ z oz zs,ys[2]?=some (.ref z)∧s.heap.get? z=some oz∧H z=none∧z ∉ frs X.stack∧oz.data=.fields zs∧zs[2]?=some .none)(hg1:g < 2→ys[2]?=some .none)(hyH:H y=none)(hyf:y ∉ frs X.stack)(h:∀ dx,H dx=none→R dx (upd H dx (.xd [(f,v)])))(hx:Heap.MadeExcOf s.heap h' e (.ref C) us)(hbind:BindsTo { s with heap:=h' } fd ⟨Value.ref e::us,[]⟩ (List.zip ["self",p] [Value.ref e,u])) :
  wpAny (model X.prog X.w) ((X.A.mark (some (.ref y))).under (.builtin "type.__call__" ⟨.ref C::us,[]⟩)) (call (.ref fI) (.ref e::us))
     (fun r s₃=>r=.none∧∃ od osl a0 oy ys,y≠e∧s₃.heap.get? C=some (excClassObj nm qn C N bs (.ref B::vbm) hd' sn sub ab col dd k0 k1 k2 k3 k5 "ValueError.__new__") ∧
      s₃.heap.get? e=some ⟨.ref C,od,.fields #[a0,.none,.none,.none,.bool false,.none],osl⟩∧s₃.heap.get? y=some oy∧oy.data=.fields ys∧Chn e s₃.heap ys ∧
      ∀ h',(∀ b,b≠e→h'.get? b=s₃.heap.get? b)→h'.get? e=some ⟨.ref C,od,.fields #[a0,.none,.ref y,.none,.bool true,.none],osl⟩→X.xe (.ref e) { s₃ with heap:=h' }) X.xe { s with heap:=h' }:=by
 obtain ⟨tt,he,_,_⟩:=hx.there
 have nH:H e=none:=by
  cases z:H e with
  | none=>rfl
  | some w' =>
   obtain ⟨o,ho⟩:=yM (I.hok e w' z)
   rw [hx.new] at ho
   cases ho
 have nb:∀ b o,s.heap.get? b=some o→b≠e:=fun b o z y=>by rw [y,hx.new] at z; cases z
 have up:∀ b w',H b=some w'→upd H e (fT e C none) b=some w':=fun b w' z=>by rw [aI (aR z nH)]; exact z
 have I1:Inv X pins σ (upd H e (fT e C none)) { s with heap:=h' }:=I.un (t':=s.toks) ⟨fun b o z _ _ _=>hx.keeps _ _ z,fun b o z _ _ _=>⟨o.slots,hx.keeps _ _ z⟩,fun b o z n _=>by rw [aI (nb b o z)]; exact n,fun b o z _=>⟨o,hx.keeps _ _ z⟩,fun b xs z=>up _ _ z,fun b o w' z=>up _ _ z,fun b ps z=>⟨#[],by rw [Array.append_empty]; exact up _ _ z⟩⟩ fun b w' z=>by
  by_cases y:b=e
  ·subst y
   rw [aC] at z
   cases z
   exact AH9 ⟨_,.ref tt,he,rfl,rfl,rfl⟩
  ·rw [aI y] at z
   exact (I.hok b w' z).stay (fun c v' _ r=>hx.keeps _ _ r) (fun c r=>up _ _ r) fun c xs r=>up _ _ r
 have e1:=I1.env0
 have e2:=(show Env0 X.prog X.w X.K X.mg X.base (X.A.mark (some (.ref y))) X.stack { s with heap:=h' } (upd H e (fT e C none)) from ⟨e1.frames,e1.mod,e1.bs,e1.bsz,e1.funs,e1.frf,e1.hok,e1.bare⟩)
 refine wpAny_call (codeAny_mono (F.run _ X.stack _ _ ⟨Value.ref e::us,[]⟩ [Value.ref e,u] [V.ref e,v] (fun v' H2=>v'=.non∧∃ dx,H dx=none∧dx≠e∧H2=upd (upd (upd H e (fT e C none)) dx (.xd [(f,v)])) e (fT e C (some dx))) E0 ((Room.held hr (some (.ref y))).make C us []) (e2.make C us [])
  hbind (.cons rfl (.cons hv .nil)) ⟨e,v,rfl,aC,fun dx e1 e2=>⟨rfl,dx,by rw [aI e2] at e1; exact e1,e2,rfl⟩⟩) fun r s3 hq=>?_)
 cases r with
 | error ev =>
  obtain ⟨_,_,_,_,_,_,_,_,_,_,_,_,_,_,_,_,hE⟩:=hq
  exact hE.elim
 | ok fl =>
  cases fl with
  | next=>exact False.elim hq
  | brk=>exact False.elim hq
  | cont=>exact False.elim hq
  | ret u3 =>
   obtain ⟨v3,H2,os,bare,un,hok,r3,rfl,dx,hdx,hde,rfl⟩:=hq
   have I3:Inv X pins σ _ s3:=I1.call' (ch:=[]) os un hok bare (fun b z=>absurd z (by simp))
   obtain ⟨⟨ob,a0,hob,hcl,hdi,hdt⟩,_,_⟩:=(show ObjOk X.prog X.w _ s3.heap e (.ext (vJ e C (some dx))) from hok e _ aC)
   have eq2:∀ b,b≠e→upd (upd (upd H e (fT e C none)) dx (.xd [(f,v)])) e (fT e C (some dx)) b=upd H dx (.xd [(f,v)]) b:=fun b z=>by
    rw [aI z]
    by_cases y:b=dx
    ·rw [y,aC,aC]
    ·rw [aI y,aI y,aI z]
   have nH2:upd H dx (.xd [(f,v)]) e=none:=by rw [aI (Ne.symm hde)]; exact nH
   have ne1:∀ b w',H b=some w'→b≠e:=fun b w' z=>aR z nH
   have hye:y≠e:=nb y oy hy
   have hy3:s3.heap.get? y=some oy:=un.keep y oy (hx.keeps _ _ hy) (by rw [aI hye]; exact hyH) hyf (by simp)
   have hy4:Chn e s3.heap ys:=by
    rcases hy2 with q | ⟨z,oz,zs,q1,q2,q3,q4,q5⟩
    ·exact .inl q
    ·have ze:z≠e:=nb z oz q2
     exact .inr ⟨z,oz,zs,q1,ze,un.keep z oz (hx.keeps _ _ q2) (by rw [aI ze]; exact q3) q4 (by simp),q5⟩
   obtain ⟨oc,od,odt,osl⟩:=ob
   dsimp only at hcl hdi hdt
   subst hcl hdt
   refine ⟨(show u3=Value.none from r3),od,osl,a0,oy,ys,hye,I3.kIn _ _ lk,hob,hy3,hyd,hy4,fun h4 k4 e4=>?_⟩
   have keep4:∀ b o,b≠e→s3.heap.get? b=some o→h4.get? b=some o:=fun b o n z=>(k4 b n).trans z
   have un':Un (frs X.stack) [] H (upd H dx (.xd [(f,v)])) s.heap h4 :=
    ⟨fun b o z n hb' _=>keep4 _ _ (nb b o z) (un.keep b o (hx.keeps _ _ z) (by rw [aI (nb b o z)]; exact n) hb' (by simp)),fun b o z n hb' _=>by
      obtain ⟨sl,q⟩:=un.slot b o (hx.keeps _ _ z) (by rw [aI (nb b o z)]; exact n) hb' (by simp)
      exact ⟨sl,keep4 _ _ (nb b o z) q⟩,
     fun b o z n _=>(eq2 b (nb b o z)).symm.trans (un.free b o (hx.keeps _ _ z) (by rw [aI (nb b o z)]; exact n) (by simp)),fun b o z _=>by
      obtain ⟨o',q⟩:=un.there b o (hx.keeps _ _ z) (by simp)
      exact ⟨o',keep4 _ _ (nb b o z) q⟩,
     fun b xs z=>(eq2 b (ne1 b _ z)).symm.trans (un.tups b xs (up _ _ z)),fun b o w' z=>(eq2 b (ne1 b _ z)).symm.trans (un.frzs b o w' (up _ _ z)),fun b ps z=>by
     obtain ⟨m1,e1⟩:=un.tbls b ps (up _ _ z)
     exact ⟨m1,(eq2 b (ne1 b _ z)).symm.trans e1⟩⟩
   have hok':HOk X.prog X.w (upd H dx (.xd [(f,v)])) h4:=fun b w' z=>by
    have be:b≠e:=fun y=>by rw [y,nH2] at z; cases z
    refine (hok b w' ((eq2 b be).trans z)).stay (fun c o hc r=>keep4 c o ?_ r) (fun c r=>?_) fun c xs r=>?_
    ·rcases hc with rfl | hc
     ·exact be
     ·intro y
      rw [y,aC] at hc
      cases hc
    ·have ce:c≠e:=fun y=>by rw [y,aC] at r; cases r
     exact (eq2 c ce).symm.trans r
    ·have ce:c≠e:=fun y=>by rw [y,aC] at r; cases r
     exact (eq2 c ce).symm.trans r
   have hydx:y≠dx:=fun z=>by
    obtain ⟨mA,⟨ob,es,ep,ho,hdd,_⟩,_⟩:=(show ObjOk X.prog X.w _ h4 dx (.xd [(f,v)]) from hok' dx _ aC)
    rw [← z,keep4 y oy hye hy3] at ho
    cases ho
    rw [hyd] at hdd
    cases hdd
   exact hxe pins σ H _ s { s3 with heap:=h4 } e _ _ a0 I os bare un' hok' hx.new nH2 e4 rfl rfl rfl (fun z=>⟨fun y=>absurd y (by omega),fun _=>.inr ⟨y,oy,ys,rfl,keep4 y oy hye hy3,by rw [aI hydx]; exact hyH,hyd,hg1 z⟩⟩) rfl ⟨dx,hdi,h dx hdx⟩
theorem zS {x:Str}{C y:Addr}{g k:Nat}{f:Str}{v:V}{np cpos cp pos:Pos}{j:Nat}{R:Addr→Hp→Prop}{Q:Flow→Shared→Prop}{oy:Obj}{ys:Array Value}(c:CalIH X.prog X.w X.K X.mg X.base x C f k v)(hg0:1≤g)(hg:Gl X x)(hr:Room (k+1) X.A)(hxe:AZ3 g X C R)(I:Inv X pins σ H s)(hy:s.heap.get? y=some oy)(hyd:oy.data=.fields ys)(hy2:ys[2]?=some .none∨∃ z oz zs,ys[2]?=some (.ref z)∧s.heap.get? z=some oz∧H z=none∧z ∉ frs X.stack∧oz.data=.fields zs∧zs[2]?=some .none)(hg1:g < 2→ys[2]?=some .none)(hyH:H y=none)(hyf:y ∉ frs X.stack)(h:∀ dx,H dx=none→R dx (upd H dx (.xd [(f,v)])))(hd:(x == ("__debug__":Str))=false:=by decide) :
  wpAny (model X.prog X.w) (X.A.mark (some (.ref y))) (exec (.Raise (some (.Call (.Name x np) [] [] cpos)) (some (.Constant .none j cp)) pos) X.env) Q X.xe s:=by
 obtain ⟨B,fI,fd,p,u,F,hb,hv,q,hm⟩:=c.ex
 obtain ⟨nm,qn,N,bs,hd',sn,sub,ab,col,dd,k0,k1,k2,k3,k5,lk⟩:=q.ex
 obtain ⟨bm',N',nm',qn',bs',hd'',sn',sub',ab',col',dd',j0,j1,j2,j3,j5,mN',hB,hN',hni',T'⟩:=tJ I.kIn q.base
 have T:OwnTail s.heap vbm (.ref B::vbm):=.own (cd:=_) hB hN' hni' .base
 refine sR (C:=C) (nm:=nm) (q:=qn) (N:=N) (bs:=bs) (bm:=.ref B::vbm) (bmB:=vbm) (hdct:=hd') (sn:=sn) (sub:=sub) (ab:=ab) (col:=col) (dd:=dd) (k0:=k0) (k1:=k1) (k2:=k2) (k3:=k3) (k5:=k5) (K:=X.K) (fI:=fI) PySem.F.excBase_ValueError (by rfl) rfl rfl q.init (beq_iff_eq.mp q.fn) (fA (X:=cxE X (.ref y)) (jC I (.ref y)) hg hm ⟨rfl,PySem.evalArgs_none ?_⟩ hd)
 refine ⟨rfl,sz8 (show 0≤1000 by decide),I.kIn _ _ lk,I.kIn,T,fun h' e hx=>?_⟩
 exact sS F lk hv hg0 hr hxe I hy hyd hy2 hg1 hyH hyf h hx (hb _ [Value.ref e] (fun b o l=>hx.keeps _ _ (I.kIn b o l)) rfl)
theorem AR9 {i:Nat}{x:Str}{v:V}{pos:Pos}{Q:Value→Shared→Prop}{E:Value→Shared→Prop}(I:Inv X pins σ H s)(hN:X.N[i]?=some x)(hv:Vis X.env.scope x)(e:σ[i]?=some (some v))(h:∀ u,RelV v u→Q u s)(hd:(x == ("__debug__":Str))=false:=by decide)(hcd:(x == ("__classdict__":Str))=false:=by decide):wpAny (model X.prog X.w) X.A (eval (.Name x pos) X.env) Q E s:=by
 obtain ⟨m,hn,hl⟩:=I.loc
 obtain ⟨u,r,l⟩:=hl i x v hN e hv
 rcases l with ⟨hk,hm⟩ | ⟨hk,c,hc,hcell⟩
 ·exact wpAny_Name (wpAny_loadName_local I.ok.kind hk hn hm (h u r)) hd
 ·rcases hk with hk | hk
  ·exact wpAny_Name (wpAny_loadName_cell I.ok.kind hk hc hcell (h u r)) hd
  ·exact wpAny_Name (wpAny_loadName_free I.ok.kind hk hc hcell (h u r) hcd) hd
theorem xD {x n:Str}{C y:Addr}{g k i:Nat}{f:Str}{v:V}{np cpos cp pos pn:Pos}{j:Nat}{R:Addr→Hp→Prop}{Q:Flow→Shared→Prop}{oy:Obj}{ys:Array Value}(c:CalIA X.prog X.w X.K X.mg X.base x C f k)(hg0:1≤g)(hg:Gl X x)(hr:Room (k+1) X.A)(hxe:AZ3 g X C R)(hN:X.N[i]?=some n)(hvis:Vis X.env.scope n)(hσ:σ[i]?=some (some v))(I:Inv X pins σ H s)(hy:s.heap.get? y=some oy)(hyd:oy.data=.fields ys)(hy2:ys[2]?=some .none∨∃ z oz zs,ys[2]?=some (.ref z)∧s.heap.get? z=some oz∧H z=none∧z ∉ frs X.stack∧oz.data=.fields zs∧zs[2]?=some .none)(hg1:g < 2→ys[2]?=some .none)(hyH:H y=none)(hyf:y ∉ frs X.stack)(h:∀ dx,H dx=none→R dx (upd H dx (.xd [(f,v)])))(hs:starEach [.Name n pn] X.env=[(false,eval (.Name n pn) X.env)]:=by rfl)(hd:(x == ("__debug__":Str))=false:=by decide)(hdn:(n == ("__debug__":Str))=false:=by decide)(hcn:(n == ("__classdict__":Str))=false:=by decide) :
  wpAny (model X.prog X.w) (X.A.mark (some (.ref y))) (exec (.Raise (some (.Call (.Name x np) [.Name n pn] [] cpos)) (some (.Constant .none j cp)) pos) X.env) Q X.xe s:=by
 obtain ⟨B,fI,fd,p,F,hb,q,hm⟩:=c.ex
 obtain ⟨nm,qn,N,bs,hd',sn,sub,ab,col,dd,k0,k1,k2,k3,k5,lk⟩:=q.ex
 obtain ⟨bm',N',nm',qn',bs',hd'',sn',sub',ab',col',dd',j0,j1,j2,j3,j5,mN',hB,hN',hni',T'⟩:=tJ I.kIn q.base
 have T:OwnTail s.heap vbm (.ref B::vbm):=.own (cd:=_) hB hN' hni' .base
 have hpl:(backTo cpos (starEach [.Name n pn] X.env)).any (·.1)=false:=by rw [hs]; rfl
 refine sR (C:=C) (nm:=nm) (q:=qn) (N:=N) (bs:=bs) (bm:=.ref B::vbm) (bmB:=vbm) (hdct:=hd') (sn:=sn) (sub:=sub) (ab:=ab) (col:=col) (dd:=dd) (k0:=k0) (k1:=k1) (k2:=k2) (k3:=k3) (k5:=k5) (K:=X.K) (fI:=fI) PySem.F.excBase_ValueError (by rfl) rfl hpl q.init (beq_iff_eq.mp q.fn) (fA (X:=cxE X (.ref y)) (jC I (.ref y)) hg hm ⟨rfl,?_⟩ hd)
 rw [hs]
 refine Calls.evalArgs_plain (Calls.spliced_cons (AR9 (X:=cxE X (.ref y)) (jC I (.ref y)) hN hvis hσ (fun u ru=>Calls.spliced_nil ?_) hdn hcn))
 refine ⟨rfl,sz8 (show 1≤1000 by decide),I.kIn _ _ lk,I.kIn,T,fun h' e hx=>?_⟩
 exact sS F lk ru hg0 hr hxe I hy hyd hy2 hg1 hyH hyf h hx (hb _ [Value.ref e,u] (fun b o l=>hx.keeps _ _ (I.kIn b o l)) rfl)
def BD3 (K:Frag)(CB:Addr)(i j:Nat)(fF:Addr)(sp:Sp)(t:TA)(f:Str)(v:V)(R:Addr→Hp→Prop):TS:=fun D σ H=>σ[j]?=some (some (.ref fF))∧t σ H fun vs H1=>sp vs H1 (fun y H2=>D.nx (σ.set i (some y)) H2)
 fun cls _ H2=>exmOne K cls (.ref CB)=some true∧∀ dx,H2 dx=none→R dx (upd H2 dx (.xd [(f,v)]))
theorem AX2 {i j jj k k':Nat}{fn xn cn rn f:Str}{fF CB C:Addr}{ps:List Str}{sp:Sp}{e:Expr}{es:List Expr}{t:TA}{v:V}{R:Addr→Hp→Prop}{p1 p2 p3 p4 cp np cpos ap rpos hpos tpos:Pos}(hst:X.stack=X.env::X.outer)(hf:X.env.frame=some X.env.locals)(CF:BM0 X.prog X.w X.K X.mg X.base fF ps k sp)(hr:Room k X.A)(hNf:X.N[j]?=some fn)(hvf:Vis X.env.scope fn)(ha:∀ E',PA { X with xe:=E' } (e::es) t)(hN:X.N.Nodup)(hi:X.N[i]?=some xn)(hx:Loc X.env.scope xn)(hfn:X.fn xn=true)(hgC:Gl X cn)(hmC:X.mg cn=some (.ref CB))(CI:CalIH X.prog X.w X.K X.mg X.base rn C f k' v)(hgr:Gl X rn)(hr':Room (k'+1) X.A)(hp:∀ u,PassesOwnAt (model X.prog X.w) (X.A.mark (some u)) X.A X.env X.xe)(hxe:AZ3 1 X C R)(hdf:(fn == ("__debug__":Str))=false:=by decide)(hcf:(fn == ("__classdict__":Str))=false:=by decide)(hdc:(cn == ("__debug__":Str))=false:=by decide)(hdr:(rn == ("__debug__":Str))=false:=by decide)(he:starEach (e::es) X.env=(false,eval e X.env)::starEach es X.env:=by rfl)(hpl:(backTo p3 (starEach es X.env)).any (·.1)=false:=by rfl)(hsw:swapsWith (.Call (.Name fn p2) (e::es) [] p3) (some (.Name xn p1)) p4.line X.env=pure false:=by rfl) :
  PS X (.Try [.Assign [.Name xn p1] (.Call (.Name fn p2) (e::es) [] p3) p4] [.ExceptHandler (some (.Name cn cp)) none [.Raise (some (.Call (.Name rn np) [] [] cpos)) (some (.Constant .none jj ap)) rpos] hpos] [] [] tpos) (BD3 X.K CB i j fF sp t f v R):=by
 intro pins s σ H D I h
 obtain ⟨hσ,h⟩:=h
 obtain ⟨fd,F,hb,hk⟩:=CF.ex
 have body:wpAny (model X.prog X.w) X.A (exec (.Assign [.Name xn p1] (.Call (.Name fn p2) (e::es) [] p3) p4) X.env) (SP X pins D) (fun ev s'=>∃ H1 s1,Inv X pins σ H1 s1∧CXF X.prog X.w X.stack H1 s1 (fun cls _ H2=>exmOne X.K cls (.ref CB)=some true∧∀ dx,H2 dx=none→R dx (upd H2 dx (.xd [(f,v)]))) ev s') s:=by
  refine wpAny_Assign_Name (wpAny_Call_Name_kw ?_) hsw
  refine wpAny_mono (AQ1 (X:={ X with xe:=fun _ _=>False }) hNf hvf hdf hcf pins s σ H (fun z Hz=>z=.ref fF∧Hz=H) (AR8 I _) ⟨_,hσ,rfl,rfl⟩) (fun u s1 q1=>?_) fun _ _ z=>z.elim
  obtain ⟨z,Hz,I1',rz,rfl,rfl⟩:=q1
  have I1:=AI6 I1'
  cases rz
  refine callWith_K (h₀:=X.base) I1.ok.mod.kin hk (wpAny_mono (ha (fun _ _=>False) p3 pins s1 σ Hz _ I1' h) (fun us s2 q2=>?_) fun _ _ z=>z.elim) he hpl
  obtain ⟨vs,H2,I2',r,q⟩:=q2
  have I2:=AI6 I2'
  refine ⟨I2.kIn,?_⟩
  have r2:Vals (vs++[]) (us++[]):=by rw [List.append_nil,List.append_nil]; exact r
  have q':sp (vs++[]) H2 (fun y H2=>D.nx (σ.set i (some y)) H2) (fun cls _ H2=>exmOne X.K cls (.ref CB)=some true∧∀ dx,H2 dx=none→R dx (upd H2 dx (.xd [(f,v)]))):=by rw [List.append_nil]; exact q
  have hlen:(us++[]).length=ps.length:=by rw [← r2.length]; exact F.len _ _ _ _ q'
  refine wpAny_call (codeAny_mono (F.run X.A X.stack s2 H2 ⟨us,[]⟩ (us++[]) (vs++[]) _ _ hr I2.env0 (hb s2 us I2.kIn hlen) r2 q') fun res s' hq=>?_)
  cases res with
  | ok fl =>
   cases fl with
   | ret u =>
    obtain ⟨y,H3,I3,r3,q3⟩:=I2.after hq
    exact mD I3 hN hi hx r3 (fun s4 I4=>⟨_,H3,I4,q3⟩) (.inl hfn)
   | next=>exact False.elim hq
   | brk=>exact False.elim hq
   | cont=>exact False.elim hq
  | error ev=>exact ⟨H2,s2,I2,hq⟩
 refine wpAny_Try_except (wpAny_execs_cons (wpAny_mono body (fun fl s' q=>?_) fun ev s' hq=>?_))
 ·cases fl with
  | next=>exact wpAny_execs_nil (wpAny_execs_nil q)
  | brk=>exact q
  | cont=>exact q
  | ret u=>exact q
 obtain ⟨H1,s1,I1,hq1⟩:=hq
 obtain ⟨x',cls,a0,dx,H2,B,rfl,os,bare,un,hok,fl,cT,cO,cA,⟨oe0,hoe0,hdx0,hc2⟩,hm1,hE⟩:=hq1
 obtain ⟨vs0,hvs0,hvs2'⟩:=hc2 (by decide)
 have hvs2:=hvs2'.1 rfl
 have fl':=fl
 rw [hst] at fl'
 refine qJ (base:=B) (outer:=X.outer) (L:=X.env.locals) (by rw [← hst]; exact I1.ok.frames) hf fl' fun h4 held4 up4 dk4=>?_
 refine AE8 held4 fun h5 fl5 up5 dk5=>?_
 rw [← hst] at fl5
 obtain ⟨un5,hok5⟩:=AQ9 (P:=X.prog) (w:=X.w) un hok fl.1 fl.2.2.1 cT cO cA fl5.1 (up4.trans up5)
 have I5:Inv X pins σ H2 { s' with heap:=h5 }:=I1.call' (s':={ s' with heap:=h5 }) (ch:=[]) os un5 hok5 bare (fun b z=>absurd z (by simp))
 have X5:=jC I5 (.ref x')
 have ty5:Looks (model X.prog X.w) h5 (typeOf (.ref x')) cls:=by
  obtain ⟨ob,hob,hc⟩:=fl5.there
  subst hc
  exact (Looks.ld hob).andThen .now
 refine wpAny_handleBy_cons (codeAny_handlers_test (fA X5 hgC hmC ((exm_one I5.kIn ty5 hm1).here ?_) hdc)) (by intro z; cases z)
 refine codeAny_handlers_suite ?_
 refine jX fl5 fun h6 fl6 up6 dk6=>?_
 obtain ⟨un6,hok6⟩:=AQ9 (P:=X.prog) (w:=X.w) un5 hok5 fl5.1 fl5.2.2.1 cT cO cA fl6.1 up6
 obtain ⟨o1,g1,d1,z1⟩:=dk4 x' oe0 hoe0
 obtain ⟨o2,g2,d2,z2⟩:=dk5 x' o1 g1
 obtain ⟨o3,g3,d3,z3⟩:=dk6 x' o2 g2
 obtain ⟨vs3,hvs3,hvs4⟩:=(z1.trans (z2.trans z3)) vs0 hvs0
 have nH:H2 x'=none:=by
  cases z:H2 x' with
  | none=>rfl
  | some u =>
   obtain ⟨o,ho⟩:=cT x' u z
   rw [fl.2.1] at ho
   cases ho
 have nF:x' ∉ frs X.stack:=fun hx'=>by
  obtain ⟨_,o',ho',hn'⟩:=fl6.2.2.1.mem hx'
  obtain ⟨oe,ws,hoe,_,hoed,_⟩:=fl6.first
  rw [hoe] at ho'
  cases ho'
  exact hn' _ hoed
 have I6:Inv X pins σ H2 { s' with heap:=h6 }:=I1.call' (s':={ s' with heap:=h6 }) (ch:=[]) os un6 hok6 bare (fun b z=>absurd z (by simp))
 refine wpAny_execs_cons (wpAny_mono (zS (Q:=fun _ _=>False) CI (Nat.le_refl _) hgr hr' hxe I6 g3 hvs3 (.inl (hvs4.trans hvs2)) (fun _=>hvs4.trans hvs2) nH nF hE hdr) (fun _ _ z=>z.elim) (hp (.ref x')))
def BD4 (K:Frag)(CB:Addr)(i ia:Nat)(sp:Sp)(t:TA)(f:Str)(R:Addr→Hp→Prop):TS:=fun D σ H=>t σ H fun vs H1=>sp vs H1 (fun y H2=>D.nx (σ.set i (some y)) H2)
 fun cls _ H2=>exmOne K cls (.ref CB)=some true∧∃ v,σ[ia]?=some (some v)∧∀ dx,H2 dx=none→R dx (upd H2 dx (.xd [(f,v)]))
theorem AX3 {i ia jj k k':Nat}{fn xn cn rn an f:Str}{CB C:Addr}{ps:List Str}{sp:Sp}{e:Expr}{es:List Expr}{t:TA}{R:Addr→Hp→Prop}{p1 p2 p3 p4 cp np anp cpos ap rpos hpos tpos:Pos}(hst:X.stack=X.env::X.outer)(hf:X.env.frame=some X.env.locals)(CF:CalG 1 X.prog X.w X.K X.mg X.base fn ps k sp)(hr:Room k X.A)(hgf:Gl X fn)(hNa:X.N[ia]?=some an)(hva:Vis X.env.scope an)(ha:∀ E',PA { X with xe:=E' } (e::es) t)(hN:X.N.Nodup)(hi:X.N[i]?=some xn)(hx:Loc X.env.scope xn)(hfn:X.fn xn=true)(hgC:Gl X cn)(hmC:X.mg cn=some (.ref CB))(CI:CalIA X.prog X.w X.K X.mg X.base rn C f k')(hgr:Gl X rn)(hr':Room (k'+1) X.A)(hp:∀ u,PassesOwnAt (model X.prog X.w) (X.A.mark (some u)) X.A X.env X.xe)(hxe:AZ3 2 X C R)(hai:ia≠i)(hdf:(fn == ("__debug__":Str))=false:=by decide)(hda:(an == ("__debug__":Str))=false:=by decide)(hca:(an == ("__classdict__":Str))=false:=by decide)(hdc:(cn == ("__debug__":Str))=false:=by decide)(hdr:(rn == ("__debug__":Str))=false:=by decide)(he:starEach (e::es) X.env=(false,eval e X.env)::starEach es X.env:=by rfl)(hpl:(backTo p3 (starEach es X.env)).any (·.1)=false:=by rfl)(hsa:starEach [.Name an anp] X.env=[(false,eval (.Name an anp) X.env)]:=by rfl)(hsw:swapsWith (.Call (.Name fn p2) (e::es) [] p3) (some (.Name xn p1)) p4.line X.env=pure false:=by rfl) :
  PS X (.Try [.Assign [.Name xn p1] (.Call (.Name fn p2) (e::es) [] p3) p4] [.ExceptHandler (some (.Name cn cp)) none [.Raise (some (.Call (.Name rn np) [.Name an anp] [] cpos)) (some (.Constant .none jj ap)) rpos] hpos] [] [] tpos) (BD4 X.K CB i ia sp t f R):=by
 intro pins s σ H D I h
 obtain ⟨fF,fd,F,hb,hk,hmF⟩:=CF.ex
 have body:wpAny (model X.prog X.w) X.A (exec (.Assign [.Name xn p1] (.Call (.Name fn p2) (e::es) [] p3) p4) X.env) (SP X pins D) (fun ev s'=>∃ H1 s1,Inv X pins σ H1 s1∧lC X.prog X.w 1 X.stack H1 s1 (fun cls _ H2=>exmOne X.K cls (.ref CB)=some true∧∃ v,σ[ia]?=some (some v)∧∀ dx,H2 dx=none→R dx (upd H2 dx (.xd [(f,v)]))) ev s') s:=by
  refine wpAny_Assign_Name (wpAny_Call_Name_kw (fA I hgf hmF ?_ hdf)) hsw
  refine callWith_K (h₀:=X.base) I.ok.mod.kin hk (wpAny_mono (ha (fun _ _=>False) p3 pins s σ H _ (AR8 I _) h) (fun us s2 q2=>?_) fun _ _ z=>z.elim) he hpl
  obtain ⟨vs,H2,I2',r,q⟩:=q2
  have I2:=AI6 I2'
  refine ⟨I2.kIn,?_⟩
  have r2:Vals (vs++[]) (us++[]):=by rw [List.append_nil,List.append_nil]; exact r
  have q':sp (vs++[]) H2 (fun y H2=>D.nx (σ.set i (some y)) H2) (fun cls _ H2=>exmOne X.K cls (.ref CB)=some true∧∃ v,σ[ia]?=some (some v)∧∀ dx,H2 dx=none→R dx (upd H2 dx (.xd [(f,v)]))):=by rw [List.append_nil]; exact q
  have hlen:(us++[]).length=ps.length:=by rw [← r2.length]; exact F.len _ _ _ _ q'
  refine wpAny_call (codeAny_mono (F.run X.A X.stack s2 H2 ⟨us,[]⟩ (us++[]) (vs++[]) _ _ hr I2.env0 (hb s2 us I2.kIn hlen) r2 q') fun res s' hq=>?_)
  cases res with
  | ok fl =>
   cases fl with
   | ret u =>
    obtain ⟨y,H3,I3,r3,q3⟩:=I2.after hq
    exact mD I3 hN hi hx r3 (fun s4 I4=>⟨_,H3,I4,q3⟩) (.inl hfn)
   | next=>exact False.elim hq
   | brk=>exact False.elim hq
   | cont=>exact False.elim hq
  | error ev=>exact ⟨H2,s2,I2,hq⟩
 refine wpAny_Try_except (wpAny_execs_cons (wpAny_mono body (fun fl s' q=>?_) fun ev s' hq=>?_))
 ·cases fl with
  | next=>exact wpAny_execs_nil (wpAny_execs_nil q)
  | brk=>exact q
  | cont=>exact q
  | ret u=>exact q
 obtain ⟨H1,s1,I1,hq1⟩:=hq
 obtain ⟨x',cls,a0,dx,H2,B,rfl,os,bare,un,hok,fl,cT,cO,cA,⟨oe0,hoe0,hdx0,hc2⟩,hm1,v,hσv,hE⟩:=hq1
 obtain ⟨vs0,hvs0,hvs2⟩:=hc2 (by decide)
 have fl':=fl
 rw [hst] at fl'
 refine qJ (base:=B) (outer:=X.outer) (L:=X.env.locals) (by rw [← hst]; exact I1.ok.frames) hf fl' fun h4 held4 up4 dk4=>?_
 refine AE8 held4 fun h5 fl5 up5 dk5=>?_
 rw [← hst] at fl5
 obtain ⟨un5,hok5⟩:=AQ9 (P:=X.prog) (w:=X.w) un hok fl.1 fl.2.2.1 cT cO cA fl5.1 (up4.trans up5)
 have I5:Inv X pins σ H2 { s' with heap:=h5 }:=I1.call' (s':={ s' with heap:=h5 }) (ch:=[]) os un5 hok5 bare (fun b z=>absurd z (by simp))
 have X5:=jC I5 (.ref x')
 have ty5:Looks (model X.prog X.w) h5 (typeOf (.ref x')) cls:=by
  obtain ⟨ob,hob,hc⟩:=fl5.there
  subst hc
  exact (Looks.ld hob).andThen .now
 refine wpAny_handleBy_cons (codeAny_handlers_test (fA X5 hgC hmC ((exm_one I5.kIn ty5 hm1).here ?_) hdc)) (by intro z; cases z)
 refine codeAny_handlers_suite ?_
 refine jX fl5 fun h6 fl6 up6 dk6=>?_
 obtain ⟨un6,hok6⟩:=AQ9 (P:=X.prog) (w:=X.w) un5 hok5 fl5.1 fl5.2.2.1 cT cO cA fl6.1 up6
 obtain ⟨o1,g1,d1,z1⟩:=dk4 x' oe0 hoe0
 obtain ⟨o2,g2,d2,z2⟩:=dk5 x' o1 g1
 obtain ⟨o3,g3,d3,z3⟩:=dk6 x' o2 g2
 obtain ⟨vs3,hvs3,hvs4⟩:=(z1.trans (z2.trans z3)) vs0 hvs0
 have nH:H2 x'=none:=by
  cases z:H2 x' with
  | none=>rfl
  | some u =>
   obtain ⟨o,ho⟩:=cT x' u z
   rw [fl.2.1] at ho
   cases ho
 have nF:x' ∉ frs X.stack:=fun hx'=>by
  obtain ⟨_,o',ho',hn'⟩:=fl6.2.2.1.mem hx'
  obtain ⟨oe,ws,hoe,_,hoed,_⟩:=fl6.first
  rw [hoe] at ho'
  cases ho'
  exact hn' _ hoed
 have I6:Inv X pins σ H2 { s' with heap:=h6 }:=I1.call' (s':={ s' with heap:=h6 }) (ch:=[]) os un6 hok6 bare (fun b z=>absurd z (by simp))
 have c6:=hvs2.kd (dk4.trans (dk5.trans dk6)) hvs4
 have hz:vs3[2]?=some .none∨∃ z oz zs,vs3[2]?=some (.ref z)∧h6.get? z=some oz∧H2 z=none∧z ∉ frs X.stack∧oz.data=.fields zs∧zs[2]?=some .none:=by
  rcases c6.2 rfl with q | ⟨z,oz,zs,q1,q2,q3,q4,q5⟩
  ·exact .inl q
  ·refine .inr ⟨z,oz,zs,q1,q2,q3,fun hz'=>?_,q4,q5⟩
   obtain ⟨_,o',ho',hn'⟩:=fl6.2.2.1.mem hz'
   rw [q2] at ho'
   cases ho'
   exact hn' _ q4
 refine wpAny_execs_cons (wpAny_mono (xD (Q:=fun _ _=>False) CI (by decide) hgr hr' hxe hNa hva hσv I6 g3 hvs3 hz (fun z=>absurd z (by decide)) nH nF hE hsa hdr hda hca) (fun _ _ z=>z.elim) (hp (.ref x')))
end
section
variable {P:Program}{w:World}{K:Frag}{mg:Str→Option Value}{base:Heap}{N:List Str}{qual:Str}{sc:Scope}{f:Addr}{cdv:Value}{A:Around}{outer:List Env}{s:Shared}{H:Hp}{E:XK}{C:Addr}
theorem BD5 {g:Nat}:AZ3 g (sK g P w K mg base N qual sc f cdv A outer s H E) C (fun dx H9=>E (.ref C) (some dx) H9) :=
 fun pins σ H1 H' s1 s' e oe vs a0 I os bare un hok fe nH he hd h1 h0 hch hcl ⟨dx,hdi,hE⟩=>lD I rfl rfl rfl os bare un hok fe nH he hd h1 h0 hch (by rw [hcl,hdi]; exact hE)
theorem zA {g:Nat}:∀ u,PassesOwnAt (model P w) ((sK g P w K mg base N qual sc f cdv A outer s H E).A.mark (some u)) (sK g P w K mg base N qual sc f cdv A outer s H E).A (sK g P w K mg base N qual sc f cdv A outer s H E).env (sK g P w K mg base N qual sc f cdv A outer s H E).xe:=fun _=>PassesOwnAt.leaving
end
theorem AI7 {K:Frag}{CB:Addr}{i j:Nat}{fF:Addr}{sp:Sp}{t:TA}{f:Str}{v:V}{R:Addr→Hp→Prop}{D:Ends}{σ:L2.St}{H:Hp}:BD3 K CB i j fF sp t f v R D σ H=(σ[j]?=some (some (.ref fF))∧t σ H fun vs H1=>sp vs H1 (fun y H2=>D.nx (σ.set i (some y)) H2)
 fun cls _ H2=>exmOne K cls (.ref CB)=some true∧∀ dx,H2 dx=none→R dx (upd H2 dx (.xd [(f,v)]))):=rfl
theorem AI8 {K:Frag}{CB:Addr}{i ia:Nat}{sp:Sp}{t:TA}{f:Str}{R:Addr→Hp→Prop}{D:Ends}{σ:L2.St}{H:Hp}:BD4 K CB i ia sp t f R D σ H=(t σ H fun vs H1=>sp vs H1 (fun y H2=>D.nx (σ.set i (some y)) H2)
 fun cls _ H2=>exmOne K cls (.ref CB)=some true∧∃ v,σ[ia]?=some (some v)∧∀ dx,H2 dx=none→R dx (upd H2 dx (.xd [(f,v)]))):=rfl
abbrev sp1:Str:=⟨#[32]⟩
def AL3 (u:Str):Bool:=decide (1≤u.length∧u.length≤60∧∀ c∈u.cps.toList,48≤c∧c≤57) && (decide (u="0") || !Txt.startswith u "0")
def kS (u:Str):Bool:=if Txt.startswith u "-"=true then AL3 (Txt.slice u (some 1) none) && !decide (u="-0") else AL3 u
def wE (u:Str):Int:=(PySem.intText? u).getD 0
structure Fm where
 sg:Str
 inn:List Tr
def bA (wl:Addr)(i:Nat):List (Str × V):=[("words",.ref wl),("at",.int (i:Int))]
structure WAt (C:Addr) (H:Hp) (wp dw wl:Addr) (ts:List Str) (i:Nat):Prop where
 w:H wp=some (.ins C dw (bA wl i))
 l:H wl=some (.lst (ts.map V.str))
theorem WAt.same {C:Addr}{H H':Hp}{wp dw wl:Addr}{ts:List Str}{i:Nat}(h:WAt C H wp dw wl ts i)(S:Same H H'):WAt C H' wp dw wl ts i:=⟨S _ _ h.w,S _ _ h.l⟩
theorem WAt.ne {C:Addr}{H:Hp}{wp dw wl:Addr}{ts:List Str}{i:Nat}(h:WAt C H wp dw wl ts i):wl≠wp:=BF5 h.l h.w (by intro z; cases z)
theorem WAt.take {C:Addr}{H:Hp}{wp dw wl:Addr}{ts:List Str}{i:Nat}(h:WAt C H wp dw wl ts i)(j:Nat):WAt C (upd H wp (.ins C dw (bA wl j))) wp dw wl ts j:=⟨aC,by rw [aI h.ne]; exact h.l⟩
def jZ (u:Str):Prop:=iS u=true∧u.length≤100∧(kS u=true→∃ n,PySem.intText? u=some n)
def BN2 (u:Str):Prop:=32 ∉ u.cps.toList∧10 ∉ u.cps.toList∧u.length≤20∧jZ u
instance (u:Str):Decidable (32 ∉ u.cps.toList):=inferInstance
theorem AO5:BN2 "":=⟨by decide +kernel,by decide +kernel,by decide +kernel,by decide +kernel,by decide +kernel,fun z=>absurd z (by decide +kernel)⟩
def BF2 (u:Str):Prop:=u.length≤200000∧(Txt.split u sp1).length≤1000∧∀ x∈Txt.split u sp1,jZ x
theorem zB {k:Nat}:∀ {ws:List Str},(∀ x∈ws,x.length≤k)→(ws.map (·.length)).sum≤ws.length * k
 | [],_=>Nat.zero_le _
 | a::l,h=>by
  have h1:=h a List.mem_cons_self
  have h2:=zB (ws:=l) fun x hx=>h x (List.mem_cons_of_mem _ hx)
  rw [List.map_cons,List.sum_cons,List.length_cons,Nat.succ_mul]
  omega
theorem AI9 {s:Str}{ts:List Str}(h:(ts.map (·.length)).sum+ts.length * s.length≤sizeLine):JoinOk s ts=true:=by
 unfold JoinOk
 rw [StrLaws.joinTotal]
 unfold Builtin.Str.tooLong
 rw [decide_eq_false (by omega)]
 rfl
theorem szM {n:Nat}(h:n≤1000000):n≤sizeLine:=Nat.le_trans h (by decide)
theorem xE {ts:List Str}{i:Nat}(h:i < ts.length):ts.drop i=ts.getD i ""::ts.drop (i+1):=by
 rw [List.drop_eq_getElem_cons h,List.getD_eq_getElem?_getD,List.getElem?_eq_getElem h]
 rfl
theorem jE {ts:List Str}{i:Nat}(h:ts.length≤i):ts.getD i ""=""∧ts.drop i=[]:=by
 rw [List.getD_eq_getElem?_getD,List.getElem?_eq_none h]
 exact ⟨rfl,List.drop_eq_nil_of_le h⟩
theorem aO {ts:List Str}(h:∀ x∈ts,jZ x)(i:Nat):jZ (ts.getD i ""):=by
 by_cases c:i < ts.length
 ·rw [List.getD_eq_getElem?_getD,List.getElem?_eq_getElem c]
  exact h _ (List.getElem_mem c)
 ·rw [(jE (by omega)).1]
  exact AO5.2.2.2
def BD6:R2:=fun x y H Q=>∃ u n,x=.str u∧y=.int n∧1≤n∧1≤u.length∧u.length * n.toNat≤sizeLine∧Q (.str ⟨(List.replicate n.toNat u.cps).foldl (·++·) #[]⟩) H
theorem xF {X:Cx}:OpR X (binaryOp .Mult) BD6:=by
 intro pins s σ H x y v u Q I rx ry h
 obtain ⟨z,n,rfl,rfl,h2,h1,hz,q⟩:=h
 by_cases c:2≤n
 ·exact zP pins s σ H _ _ v u Q I rx ry ⟨z,n,rfl,rfl,c,h1,hz,q⟩
 ·have e:n=1:=by omega
  subst e
  obtain ⟨t,rfl⟩:=rx
  obtain ⟨t',rfl⟩:=ry
  have hc:((1:Int) == 1 || z.length == 0)=true:=rfl
  have ez:(⟨(List.replicate (Int.toNat 1) z.cps).foldl (·++·) #[]⟩:Str)=z:=by
   show (⟨#[]++z.cps⟩:Str)=z
   exact lF (by simp)
  rw [ez] at q
  refine P.mul_str (by decide) (fun _ c=>?_) (fun _ c=>?_) ?_
  ·rw [hc] at c; cases c
  ·rw [hc] at c; cases c
  ·rw [if_neg (by decide),hc,if_pos rfl]
   first | exact ⟨.str z,H,I.tok _,⟨_,rfl⟩,q⟩ | exact ⟨.str z,H,I,⟨_,rfl⟩,q⟩ | exact ⟨by have:=hz; simp at this; omega,⟨.str z,H,I.tok _,⟨_,rfl⟩,q⟩⟩ | exact ⟨by have:=hz; simp at this; omega,⟨.str z,H,I,⟨_,rfl⟩,q⟩⟩ | trace_state
theorem tS {x:V}{xs:List V}{H:Hp}{Q:VK}:AI4 x xs H Q=∃ u y,x=.str u∧xs=[.str y]∧Q (.bl (Txt.startswith u y)) H:=rfl
theorem xG {x:V}{xs:List V}{H:Hp}{Q:VK}:AR7 x xs H Q=∃ u y,x=.str u∧xs=[.str y]∧(y.length == 0)=false∧u.length+2≤sizeLine∧(Txt.split u y).length≤sizeLine∧∀ l,H l=none→Q (.ref l) (upd H l (.lst ((Txt.split u y).map V.str))):=rfl
theorem AJ0 {x y:V}{H:Hp}{Q:VK}:BD6 x y H Q=∃ u n,x=.str u∧y=.int n∧1≤n∧1≤u.length∧u.length * n.toNat≤sizeLine∧Q (.str ⟨(List.replicate n.toNat u.cps).foldl (·++·) #[]⟩) H:=rfl
theorem qS {M:Model}{Γ:PySem.Ctx}{p:Pos}{t:Sem Fin}{fs:List Frame}{s s':Shared}{e:End}(h:Runs M Γ p t fs s e s'):s.toks≤s'.toks:=by
 induction h <;> first
  | exact Nat.le_refl _
  | (rename_i ih; exact ih)
  | (rename_i ih; exact Nat.le_of_succ_le ih)
  | (rename_i ih1 ih2; exact Nat.le_trans ih1 ih2)
theorem zT {M:Model}{Γ:PySem.Ctx}{p:Pos}{g:Nat}{r:Resume}{s s':Shared}{res:GenResult}(h:Wakes M Γ p g r s res s'):s.toks≤s'.toks:=by
 unfold Wakes at h
 split at h
 ·exact h.elim
 ·split at h
  ·obtain ⟨e,s1,a,_,_,rfl⟩:=h
   have q:(s.setGen g .running).toks≤s1.toks:=qS a
   exact q
  ·obtain ⟨_,rfl⟩:=h; exact Nat.le_refl _
  ·obtain ⟨_,rfl⟩:=h; exact Nat.le_refl _
 ·obtain ⟨e,s1,a,_,_,rfl⟩:=h
  have q:(s.setGen g .running).toks≤s1.toks:=qS a
  exact q
 ·obtain ⟨_,rfl⟩:=h; exact Nat.le_refl _
 ·obtain ⟨_,rfl⟩:=h; exact Nat.le_refl _
theorem AX4 {M:Model}{Γ:PySem.Ctx}{α:Type}{t:Sem α}{Q:α→Pos→Shared→Prop}{E:Value→Pos→Shared→Prop}{n:Nat}:∀ {p:Pos}{s:Shared},n≤s.toks→Sem.wp M Γ t Q E p s →
  Sem.wp M Γ t (fun x p' s'=>Q x p' s'∧n≤s'.toks) (fun v p' s'=>E v p' s'∧n≤s'.toks) p s:=by
 induction t with
 | pure x=>exact fun d w=>⟨w,d⟩
 | raise v=>exact fun d w=>⟨w,d⟩
 | unsupported _ | finish _ | register _ _ _ | yield _ _ _ _ _ | fork _ _ _ | await _ _ _ _ _ _=>exact fun _ w=>w
 | rule _ _ ih | «at» _ _ ih | point _ _ ih=>exact fun d w=>ih _ d w
 | load _ _ _ ih=>exact fun d ⟨o,e,w⟩=>⟨o,e,ih _ d w⟩
 | fresh _ ih=>exact fun d w=>ih _ (Nat.le_succ_of_le d) w
 | alloc _ _ ih | loadIfAlive _ _ ih | ask _ ih | os _ _ _ ih | handled _ _ ih | newGen _ _ ih | stack _ ih | thread _ ih=>exact fun d w=>ih _ d w
 | choose _ _ _ ih=>exact fun d ⟨m,w⟩=>⟨m,ih _ d w⟩
 | genState _ _ ih=>exact fun d ⟨o,e,w⟩=>⟨o,e,ih _ d w⟩
 | update _ _ _ _ ih=>exact fun d ⟨e,w⟩=>⟨e,ih _ d w⟩
 | call _ _ _ _ _ ih=>exact fun d ⟨r,s',hr,w⟩=>⟨r,s',hr,ih _ (Nat.le_trans d (qS hr)) w⟩
 | resume _ _ _ _ ih=>exact fun d ⟨r,s',hr,w⟩=>⟨r,s',hr,ih _ (Nat.le_trans d (zT hr)) w⟩
theorem BF3 {M:Model}{A:Around}{α:Type}{t:Sem α}{Q Q':α→Shared→Prop}{E:Value→Shared→Prop}{s:Shared}(h:wpAny M A t Q E s)(hp:0 < s.toks)(hQ:∀ a s',Q a s'→0 < s'.toks→Q' a s'):wpAny M A t Q' E s :=
 wpAny_mono (fun Γ p hΓ=>AX4 (Nat.le_refl _) (h Γ p hΓ):wpAny M A t (fun x s'=>Q x s'∧s.toks≤s'.toks) (fun v s'=>E v s'∧s.toks≤s'.toks) s) (fun a s' q=>hQ a s' q.1 (Nat.lt_of_lt_of_le hp q.2)) fun _ _ z=>z.1
section
variable {X:Cx}{pins:List (Addr × Obj)}{σ:L2.St}{H:Hp}{s:Shared}
theorem xH {a C dx:Addr}{f:Str}{v:V}{fs:List (Str × V)}{A:Around}{E:Value→Shared→Prop}{b:Bool}{Q:Value→Shared→Prop}(I:Inv X pins σ H s)(e:H a=some (.ins C dx fs))(c:Cls X.K C)(n:NoAttr X.K C f)(l:fs.lookup f=some v)(h:∀ u s',Inv X pins σ H s'→RelV v u→0 < s'.toks→Q u s'):wpAny (model X.prog X.w) A (getAttr (.ref a) f b) Q E s:=by
 obtain ⟨mA,O,r,_,_,_⟩:=nY I.hok e
 obtain ⟨u,hu,ru⟩:=RelO.some_of (v:=v) (o:=mA f) (by rw [← l]; exact r f)
 exact AC0 I.kIn O (c.get f) c.hd n hu (qF ru) (h u _ (I.tok _) ru (Nat.succ_pos _))
theorem AX5 {o value:Expr}{ta tv:TE}{f:Str}{tpos pos:Pos}{D:Ends}{op:Operator}{rd:V→V→Hp→VK→Prop}(ha:PE X o ta)(hv:PE X value tv)(hop:BE9 X op rd)(I:Inv X pins σ H s)(h:sZ X.K ta tv rd f D σ H) :
  wpAny (model X.prog X.w) X.A (exec (.AugAssign (.Attribute o f tpos) op value pos) X.env) (fun fl s'=>SP X pins D fl s'∧0 < s'.toks) X.xe s:=by
 refine wpAny_AugAssign_AttributeAny (thn (ha pins s σ H _ I h) fun ov s1 ⟨x,H1,I1,rx,a,C,dx,fs,v,ex,ea,c,n,l,q⟩=>?_)
 subst ex
 obtain rfl:ov=Value.ref a:=rx
 refine xH I1 ea c n l fun u s2 I2 ru p2=>BF3 (hv pins s2 σ H1 _ I2 q) p2 fun w3 s3 ⟨y,H2,I3,ry,q3⟩ p3=>BF3 (hop pins s3 σ H2 v y u w3 _ I3 ru ry q3) p3 fun w4 s4 ⟨z,H3,I4,rz,dx',fs',ea',l',q4⟩ p4=>?_
 exact BF3 (Q:=fun _ s5=>SP X pins D .next s5) (oA I4 ea' c n l' rz fun s5 I5=>⟨σ,_,I5,q4⟩) p4 fun _ s5 q5 p5=>⟨q5,p5⟩
theorem AX6 {a1:Stmt}{t1 t3:TS}{rest:List Stmt}{o value:Expr}{ta tv:TE}{f:Str}{tpos pos:Pos}{D:Ends}{op:Operator}{rd:V→V→Hp→VK→Prop}(h1:PS X a1 t1)(ha:PE X o ta)(hv:PE X value tv)(hop:BE9 X op rd)(h3:PSs X rest t3)(I:Inv X pins σ H s)(h:t1 { nx:=fun σ1 H1=>sZ X.K ta tv rd f { nx:=fun σ2 H2=>t3 D σ2 H2,rt:=fun _ _=>False } σ1 H1,rt:=fun _ _=>False } σ H) :
  wpAny (model X.prog X.w) X.A (execs (a1::.AugAssign (.Attribute o f tpos) op value pos::rest) X.env) (fun fl s'=>SP X pins D fl s'∧0 < s'.toks) X.xe s:=by
 refine wpAny_execs_cons (thn (h1 pins s σ H _ I h) fun fl s1 q=>?_)
 cases fl with
 | next =>
  obtain ⟨σ1,H1,I1,q1⟩:=q
  refine wpAny_execs_cons (thn (AX5 ha hv hop I1 q1) fun fl s2 q=>?_)
  obtain ⟨q,p2⟩:=q
  cases fl with
  | next =>
   obtain ⟨σ2,H2,I2,q2⟩:=q
   exact BF3 (h3 pins s2 σ2 H2 D I2 q2) p2 fun _ _ a b=>⟨a,b⟩
  | brk=>exact let ⟨_,_,_,z⟩:=q; z.elim
  | cont=>exact let ⟨_,_,_,z⟩:=q; z.elim
  | ret u=>exact let ⟨_,_,_,_,_,z⟩:=q; z.elim
 | brk=>exact let ⟨_,_,_,z⟩:=q; z.elim
 | cont=>exact let ⟨_,_,_,z⟩:=q; z.elim
 | ret u=>exact let ⟨_,_,_,_,_,z⟩:=q; z.elim
end
structure FnT (P:Program) (w:World) (K:Frag) (mg:Str→Option Value) (base:Heap) (CX:CXT) (k:Nat) (f:Addr) (fd:FuncData) (ps:List Str) (sp:Sp):Prop where
 len:∀ vs H Q E,sp vs H Q E→vs.length=ps.length
 run:∀ (A:Around) (outer:List Env) (s:Shared) (H:Hp) (args:Args) (us:List Value) (vs:List V) (Q:VK) (E:XK),Room k A→Env0 P w K mg base A outer s H→BindsTo s fd args (ps.zip us)→Vals vs us→sp vs H Q E →
  codeAny (model P w) A (.call (.ref f) args) (fun r s'=>CR CX outer P w H s Q E r s'∧∀ u,r=.ok (.ret u)→0 < s'.toks) s
theorem BD7 {CX:CXT}{P:Program}{w:World}{K:Frag}{mg:Str→Option Value}{base:Heap}{k:Nat}{f:Addr}{x qual:Str}{st:Stmt}{fd:FuncData}{N ps:List Str}{sp:Sp}(F:Fun K x qual st f fd)(S:FnScope N ps (aA st))(len:∀ vs H Q E,sp vs H Q E→vs.length=ps.length)(hbody:∀ (cdv:Value) (A:Around) (outer:List Env) (s:Shared) (H:Hp) (vs:List V) (Q:VK) (E:XK),Room k (A.deeper (envOfC qual (aA st) s.heap.objs.size f cdv))→sp vs H Q E→∀ s1,Inv (uN CX P w K mg base N qual (aA st) f cdv A outer s H E) [] (L2.uY N vs) H s1 →
   wpAny (model P w) (uN CX P w K mg base N qual (aA st) f cdv A outer s H E).A (execs (aL st) (uN CX P w K mg base N qual (aA st) f cdv A outer s H E).env) (fun fl s'=>SP (uN CX P w K mg base N qual (aA st) f cdv A outer s H E) [] { nx:=fun _ H'=>Q .non H',rt:=Q } fl s'∧0 < s'.toks) (uN CX P w K mg base N qual (aA st) f cdv A outer s H E).xe s1):FnT P w K mg base CX (k+1) f fd ps sp:=by
 obtain ⟨oc,od,kV,doc,pm,an,cdv,ct,osl,rfl,lk,hcd⟩:=F.ex
 refine ⟨len,fun A outer s H args us vs Q E hr e0 hb r hsp=>?_⟩
 have hl:=len _ _ _ _ hsp
 have KX:K.In s.heap:=e0.mod.kin.keeps fun b o e=>(e0.bs b o e).1
 have hkind:∀ y∈ps.zip us,(aA st).names.lookup y.1=some .local∨((aA st).names.lookup y.1=some .cell∧((cellsFrom (s.heap.objs.size+1) (aA st).names []).lookup y.1).isSome=true):=fun ⟨n,v⟩ hy=>by
  rcases S.par n (List.of_mem_zip hy).1 with q | q
  ·exact .inl q
  ·exact .inr ⟨q,cellsFrom_some _ _ _ (.inl q)⟩
 refine codeAny_call_function hr.depth (KX _ _ lk) rfl S.co S.gen rfl (codeRec_of KX hcd) (hb _ _ _ _ ?_)
 refine wpAny_newFunctionEnv_cells S.kind hkind fun env he s1 x=>?_
 subst he
 refine ⟨(e0.mod.nolimit.keeps fun b o e=>(e0.bs b o e).1).keeps x.toInCall.keep,codeAny_func ?_⟩
 have I:Inv (uN CX P w K mg base N qual (aA st) f cdv A outer s H E) [] (L2.uY N vs) H s1:=qI S hr.hd e0 hl r x
 refine wpAny_mono (hbody cdv A outer s H vs Q E (hr.deeper _) hsp s1 I) (fun fl s' hs=>?_) fun e s' hs=>?_
 ·obtain ⟨hs,hp⟩:=hs
  have fin:∀ {σ':L2.St}{H':Hp}{v:V}{u:Value},Inv (uN CX P w K mg base N qual (aA st) f cdv A outer s H E) [] σ' H' s'→RelV v u→Q v H'→CE outer P w H s Q u s' :=
   fun {σ' H' v u} J rv q=>⟨v,H',J.os,J.bare,J.base,J.hok,rv,q⟩
  cases fl with
  | ret u=>exact let ⟨v,σ',H',J,rv,q⟩:=hs; ⟨fin J rv q,fun _ _=>hp⟩
  | next=>exact let ⟨σ',H',J,q⟩:=hs; ⟨fin (v:=V.non) (u:=Value.none) J rfl q,fun _ _=>hp⟩
  | brk=>exact let ⟨_,_,_,q⟩:=hs; False.elim q
  | cont=>exact let ⟨_,_,_,q⟩:=hs; False.elim q
 ·exact wpAny_mono hs (fun _ _ z=>⟨z,fun _ y=>nomatch y⟩) fun _ _ z=>⟨z,fun _ y=>nomatch y⟩
structure CalMT (P:Program) (w:World) (K:Frag) (mg:Str→Option Value) (base:Heap) (C:Addr) (m:Str) (ps:List Str) (k:Nat) (sp:Sp):Prop where
 ex:∃ f fd,FnT P w K mg base (CXF P w) k f fd ps sp∧Binds K fd ps []∧Meth K C m f∧Cls K C
def PET (X:Cx)(e:Expr)(t:TE):Prop :=
 ∀ (pins:List (Addr × Obj)) (s:Shared) (σ:L2.St) (H:Hp) (Q:VK),Inv X pins σ H s→t σ H Q→wpAny (model X.prog X.w) X.A (eval e X.env) (fun u s'=>EP X pins σ Q u s'∧0 < s'.toks) X.xe s
section
variable {X:Cx}{m:Str}{ps:List Str}{k:Nat}{e o:Expr}{es:List Expr}{ta:TE}{t:TA}{pos apos cpos:Pos}{E:XK}
theorem AO6 {pl:Sem Bool}{Mm:Addr→Sp→Prop}(he:PE X o ta)(hM:∀ C sp,Mm C sp→CalMT X.prog X.w X.K X.mg X.base C m ps k sp)(hx:hJ (CXF X.prog X.w) X E)(hr:Room k X.A)(ht:eval (.Call (.Attribute o m apos) [] [] pos) X.env=(do
   let ov ← eval o X.env
   standAt apos.atName
   let (f,first) ← holding [ov] (getMethod ov m pl)
   callWith pos f first (backTo pos (starEach [] X.env)) (backToKw pos (keywordEach [] X.env))):=by rfl) :
  PET X (.Call (.Attribute o m apos) [] [] pos) (yQ Mm m E ta BB2):=by
 intro pins s σ H Q I h
 refine methodCall_KW (pl:=pl) (thn (he pins s σ H _ I h) fun u s1 ⟨x,H1,I1,rx,a,C,dx,fs,sp,ex,ea,l,hC,q⟩=>?_) ht
 subst ex
 obtain rfl:u=Value.ref a:=rx
 obtain ⟨f,fd,F,b,hm,c⟩:=(hM C sp hC).ex
 refine nZ I1 ea c hm l ?_
 refine callWith_K0 (first:=[.ref a]) I1.kIn hm.kp ?_
 have r2:Vals [V.ref a] [Value.ref a]:=.cons rfl .nil
 have hl:[Value.ref a].length=ps.length:=by rw [← r2.length]; exact F.len _ _ _ _ q
 refine wpAny_call (codeAny_mono (F.run X.A X.stack s1 H1 ⟨[.ref a],[]⟩ [.ref a] [.ref a] Q E hr I1.env0 (by have z:=b s1 [Value.ref a] I1.kIn (by rw [List.append_nil]; exact hl); rw [List.append_nil] at z; exact z) r2 q) fun r s' hq=>?_)
 obtain ⟨hq,hp⟩:=hq
 cases r with
 | error e=>exact hx pins σ H1 s1 e s' I1 hq
 | ok fl =>
  cases fl with
  | ret u=>exact ⟨I1.after hq,hp u rfl⟩
  | next=>exact False.elim hq
  | brk=>exact False.elim hq
  | cont=>exact False.elim hq
def BD8 (to:TE)(y z:Str):TE:=fun σ H Q=>to σ H fun x H1=>∃ u,x=.str u∧(y == z)=false∧u.length≤1048576∧z.length≤14∧Q (.str (Txt.replace u y z)) H1
theorem AX7 {y z:Str}{j1 j2:Nat}{p1 p2:Pos}(ho:PET X o ta)(hbase:attributeBase o "replace" X.env (eval o X.env)=eval o X.env:=by rfl)(hs:starEach [.Constant (.str y) j1 p1,.Constant (.str z) j2 p2] X.env=[(false,eval (.Constant (.str y) j1 p1) X.env),(false,eval (.Constant (.str z) j2 p2) X.env)]:=by rfl)(hfew:((backTo cpos (starEach [.Constant (.str y) j1 p1,.Constant (.str z) j2 p2] X.env)).all (fun x=>!x.1) && (backToKw cpos (keywordEach [] X.env)).all (fun x=>x.1.isSome)
   && decide ([Expr.Constant (.str y) j1 p1,.Constant (.str z) j2 p2].length+([]:List Keyword).length+(if ([]:List Keyword).isEmpty then 0 else 1) < 30))=true:=by rfl)(hline:(apos.endLine == cpos.line)=true:=by rfl) :
  PE X (.Call (.Attribute o "replace" apos) [.Constant (.str y) j1 p1,.Constant (.str z) j2 p2] [] cpos) (BD8 ta y z):=by
 intro pins s σ H Q I h
 refine wpAny_Call_method_late hbase hfew hline rfl (thn (ho pins s σ H _ I h) fun v s1 ⟨⟨x,H1,I1,r1,u,ex,hyz,hu,hz,q⟩,hp⟩=>?_)
 subst ex
 obtain ⟨tk,rfl⟩:=r1
 refine ⟨"str","str.replace",PySem.F.plainAttrs_str,PySem.F.slot_str_replace,PySem.F.type_str_replace,typeIs_str _ _ _,(fun a e=>by cases e),?_⟩
 rw [hs]
 refine Calls.callWith_builtin (by rfl) (Calls.evalArgs_plain (Calls.spliced_cons (Calls.Constant_str (k:=j1) (pos:=p1) (Calls.spliced_cons (Calls.Constant_str (k:=j2) (pos:=p2) (Calls.spliced_nil ?_))))))
 have hp':0 < s1.toks:=hp
 refine SC.replaceW (u:=s1.toks) (v:=s1.toks+1) (fun z=>absurd (show s1.toks=0 from z) (by omega)) (fun z=>absurd (show s1.toks+1=0 from z) (by omega)) (fun z=>absurd (show s1.toks=s1.toks+1 from z) (by omega)) hyz hu hz fun t' k=>?_
 exact ⟨.str _,H1,(I1.tok k),⟨_,rfl⟩,q⟩
def AS0 (j:Nat)(fF:Addr)(sp:Sp)(E:XK)(t:TA):TE:=fun σ H Q=>σ[j]?=some (some (.ref fF))∧t σ H fun vs H1=>sp vs H1 Q E
theorem AX8 {g j:Nat}{fn:Str}{fF:Addr}{sp:Sp}{p:Pos}(CF:CalFG g X.prog X.w X.K X.mg X.base fF ps k sp)(hx:hJ (lC X.prog X.w g) X E)(hr:Room k X.A)(hNf:X.N[j]?=some fn)(hvf:Vis X.env.scope fn)(ha:PA X (e::es) t)(hdf:(fn == ("__debug__":Str))=false:=by decide)(hcf:(fn == ("__classdict__":Str))=false:=by decide)(he:starEach (e::es) X.env=(false,eval e X.env)::starEach es X.env:=by rfl)(hpl:(backTo pos (starEach es X.env)).any (·.1)=false:=by rfl):PE X (.Call (.Name fn p) (e::es) [] pos) (AS0 j fF sp E t):=by
 intro pins s σ H Q I h
 obtain ⟨hσ,h⟩:=h
 obtain ⟨fd,F,hb,hk⟩:=CF.ex
 refine wpAny_Call_Name_kw (AR9 I hNf hvf hσ (fun u ru=>?_) hdf hcf)
 cases ru
 refine callWith_K (h₀:=X.base) I.ok.mod.kin hk (thn (ha pos pins s σ H _ I h) fun us s2 ⟨vs,H2,I2,r,q⟩=>⟨I2.kIn,?_⟩) he hpl
 exact yG F hr hb .nil hx I2 r (by rw [List.append_nil]; exact q)
theorem xI {j:Nat}{fF:Addr}{sp:Sp}{σ:L2.St}{H:Hp}{Q:VK}:AS0 j fF sp E t σ H Q=(σ[j]?=some (some (.ref fF))∧t σ H fun vs H1=>sp vs H1 Q E):=rfl
theorem AJ1 {y z:Str}{σ:L2.St}{H:Hp}{Q:VK}:BD8 ta y z σ H Q=ta σ H (fun x H1=>∃ u,x=.str u∧(y == z)=false∧u.length≤1048576∧z.length≤14∧Q (.str (Txt.replace u y z)) H1):=rfl
end
end Bw
namespace L2
open PySem PySem.Spec PyProof.Rows PySem.W
section
variable {κ:Type} [DecidableEq κ]
end
section
variable {P:Program}{w:World}{H:Hp}{h:Heap}{a:Addr}
end
section
variable {X:Cx}{pins:List (Addr × Obj)}{σ:St}{H:Hp}{s:Shared}{a:Addr}{y v:V}{u r:Value}{o:Option V}{A:Around}{E:Value→Shared→Prop}
end
section
variable {X:Cx}{pos:Pos}
end
end L2
namespace Bw
open PySem PySem.Spec PyProof.Rows L2 PySem.W
section
variable {X:Cx}
end
section
variable {prog:Program}{w:World}{A:Around}{E:Value→Shared→Prop}{s:Shared}
end
section
variable {prog:Program}{w:World}{A:Around}{E:Value→Shared→Prop}{s:Shared}{κ:Type} [DecidableEq κ] {knd:KeyKind prog w κ}
end
section
variable {prog:Program}{w:World}{A:Around}{E:Value→Shared→Prop}{s:Shared}
end
section
variable {X:Cx}
def Ite (K:Frag)(a:Addr):It :=
 ⟨fun i H=>∃ xs x,SqL K H a xs∧xs[i]?=some x,fun i H x H'=>∃ p y,x=.ref p∧H p=none∧H'=L2.upd H p (.tup [.int i,y])∧∀ xs,SqL K H a xs→xs[i]?=some y,fun i H=>∃ xs,SqL K H a xs∧xs.length≤i⟩
theorem AO7 {pins:List (Addr × Obj)}{σ:L2.St}{H:Hp}{s:Shared}{h':Heap}{t':Nat}{e it p:Addr}{o:HO}(I:L2.Inv X pins σ H s)(k:∀ b u,b≠e→b≠it→s.heap.get? b=some u→h'.get? b=some u)(fe:AL2 X pins H e)(fi:AL2 X pins H it)(hp:s.heap.objs.size≤p)(new:ObjOk X.prog X.w (L2.upd H p o) h' p o):L2.Inv X pins σ (L2.upd H p o) { s with heap:=h',toks:=t' }:=by
 have hn:=I.hok.fresh hp
 have nch:∀ b,b ∉ [e,it]→b≠e∧b≠it:=fun b hb=>⟨fun z=>hb (by simp [z]),fun z=>hb (by simp [z])⟩
 have nn:∀ b u,H b=some u→b≠e∧b≠it:=fun b u q=>⟨fun z=>(by rw [z,fe.1] at q; cases q),fun z=>(by rw [z,fi.1] at q; cases q)⟩
 refine I.step (g':=s.gens) (d':=s.drawn) (ch:=[e,it]) (fun b hb=>?_) (fun b o _ _ hc q _=>k b o (nch b hc).1 (nch b hc).2 q) (fun b o _ _ hc q _=>⟨o.slots,k b o (nch b hc).1 (nch b hc).2 q⟩) (fun b u hc q n=>?_)
  (fun b o hc q=>⟨o,k b o (nch b hc).1 (nch b hc).2 q⟩) (fun b xs q=>by rw [aI (aR q hn)]; exact q) (fun b u xs q=>by rw [aI (aR q hn)]; exact q) (fun b ps q=>⟨#[],by rw [aI (aR q hn),q]; simp⟩) (fun m hm=>?_) (fun b u q=>?_) I.bare
 ·rcases List.mem_cons.mp hb with z | z
  ·subst z; exact ⟨fe.2.2.2.1,fe.2.1,fe.2.2.2.2.1,fe.2.2.2.2.2⟩
  ·rw [List.mem_singleton.mp z]; exact ⟨fi.2.2.2.1,fi.2.1,fi.2.2.2.2.1,fi.2.2.2.2.2⟩
 ·rw [aI (Nat.ne_of_lt (Nat.lt_of_lt_of_le (Heap.lt_size q) hp))]; exact n
 ·obtain ⟨o,es,ep,ho,r⟩:=hm
  exact ⟨o,es,ep,k _ o (Ne.symm fe.2.1) (Ne.symm fi.2.1) ho,r⟩
 ·by_cases hb:b=p
  ·subst hb; rw [aC] at q; cases q; exact new
  ·rw [aI hb] at q
   refine (I.hok b u q).stay (fun c v hc z=>?_) (fun c z=>by rw [aI (aR z hn)]; exact z) fun c xs z=>by rw [aI (aR z hn)]; exact z
   rcases hc with y | y
   ·rw [y] at z ⊢; exact k _ _ (nn b u q).1 (nn b u q).2 z
   ·exact k _ _ (nn c _ y).1 (nn c _ y).2 z
theorem AJ2 {P:Program}{w:World}{K:Frag}{elts:List Expr}{x1:Nat}{pos:Pos}(a it e:Addr)(hne:e≠it) :
  Turn P w K (.Tuple elts x1 pos) (Ite K a) [e,it] e (fun i h=>(∃ old,IsEnum h e it ((i:Nat):Int) old)∧h.IsListIter it a i) where
 mem:=by simp
 obj:=fun i h st b hb=>by
  obtain ⟨⟨old,h1⟩,o,h2,c,d⟩:=st
  rcases List.mem_cons.mp hb with z | z
  ·subst z; exact ⟨_,h1,fun v z=>by cases z⟩
  ·rw [List.mem_singleton.mp z]; exact ⟨o,h2,fun v z=>by rw [d] at z; cases z⟩
 keep:=fun i h h' st k=>⟨by obtain ⟨old,h1⟩:=st.1; exact ⟨old,k e (by simp) _ h1⟩,st.2.at fun o q=>k it (by simp) o q⟩
 item:=by
  intro X hP hw hK hc i pins s σ H E I hf st hg
  subst hP hw hK
  obtain ⟨xs,x,hq,hx⟩:=hg
  obtain ⟨its,rv,p,hz⟩:=I.list hq
  obtain ⟨u,hu,ru⟩:=rv.get hx
  have fe:=hf e (by simp)
  have fi:=hf it (by simp)
  obtain ⟨⟨old,he⟩,hit⟩:=st
  have le:e < s.heap.objs.size:=Heap.lt_size he
  have li:it < s.heap.objs.size:=by obtain ⟨o,q,_⟩:=hit; exact Heap.lt_size q
  refine wpAny_pyNext_enum_item he hit p.isList (x:=u) (by simpa using hu) hne fun h1 he1 hit1 ht1 hz1 hk1=>?_
  refine ⟨_,rfl,wpAny_letOwnedTupleGo_enum he1 fun h2 he2 hs2=>?_⟩
  have hn:=I.hok.fresh (Nat.le_refl s.heap.objs.size)
  have ht2:h2.get? s.heap.objs.size=some { cls:=.type "tuple",data:=.seq #[.int i s.toks,u] }:=(hs2.2 _ (Nat.ne_of_gt le)).trans ht1
  have new:ObjOk X.prog X.w (L2.upd H s.heap.objs.size (.tup [.int i,x])) h2 s.heap.objs.size (.tup [.int i,x]) :=
   ⟨by rw [sizeLine_eq]; simp,[.int i s.toks,u],.cons ⟨_,rfl⟩ (.cons ru .nil),_,ht2,rfl,_,rfl⟩
  have I2:=AO7 (t':=s.toks+1) I (fun b o hbe hbi q=>hs2.extBut b o hbe (hk1 b o hbe hbi q)) fe fi (Nat.le_refl _) new
  refine ⟨.ref s.heap.objs.size,_,I2,rfl,⟨_,x,rfl,hn,rfl,fun ys hy=>by rw [I.list_inj hy hq]; exact hx⟩,⟨⟨u,?_⟩,?_⟩,fun b hb=>?_⟩
  ·have:((i+1:Nat):Int)=(i:Int)+1:=by push_cast; rfl
   rw [this]; exact he2
  ·exact hit1.extBut hs2.extBut (Ne.symm hne)
  ·rcases List.mem_cons.mp hb with z | z
   ·rw [z,aI (Nat.ne_of_lt le)]; exact fe.1
   ·rw [List.mem_singleton.mp z,aI (Nat.ne_of_lt li)]; exact fi.1
 done:=by
  intro X hP hw hK hc i pins s σ H E I hf st hg
  subst hP hw hK
  obtain ⟨xs,hq,hx⟩:=hg
  obtain ⟨its,rv,p,hz⟩:=I.list hq
  obtain ⟨f0,f1,f2,f3,f4,f5⟩:=hf it (by simp)
  have hl:=rv.length
  obtain ⟨⟨old,he⟩,hit⟩:=st
  exact wpAny_pyNext_enum_end (I.ok.hd hc) he hit p.isList (by simp; omega) fun h' eb=>⟨rfl,I.turned (t':=s.toks) (fun b o hb e=>eb b o hb e) f0 f1 f3 f4 f5⟩
 self:=fun _ _ _ _ _ st h=>by
  obtain ⟨⟨old,he⟩,_⟩:=st
  exact wpAny_pyIter_enum he h
def BD9 (K:Frag)(ta:TA):TI:=fun σ H R=>ta σ H fun vs H1=>∃ a,vs=[.ref a]∧(∃ xs,SqL K H1 a xs)∧R (Ite K a) H1
theorem AX9 {elts:List Expr}{x1:Nat}{tp:Pos}{l:Expr}{tl:TA}{p pos:Pos}(hg:Gl X "enumerate")(hm:X.mg "enumerate"=none)(hl:PA X [l] tl)(hs:starEach [l] X.env=[(false,eval l X.env)]:=by rfl) :
  PI X (.Tuple elts x1 tp) (.Call (.Name "enumerate" p) [l] [] pos) (BD9 X.K tl):=by
 intro pins s σ H R I h
 refine Call_ (yA I hg hm PyProof.Rows.boot_enumerate (PyProof.Rows.callWith_type1 (thn (hl pos pins s σ H _ I h) fun us s1 ⟨vs,H1,I1,r1,a,ev,⟨xs,hq⟩,q⟩=>?_) hs rfl))
 subst ev
 obtain ⟨u,rfl,rx⟩:=sY r1
 cases rx
 obtain ⟨its,rv,pl,hz⟩:=I1.list hq
 refine call_enumerate_list pl.isList fun h' he hit hsz hk=>?_
 have I2:L2.Inv X pins σ H1 { s1 with heap:=h' }:=I1.kept (t':=s1.toks) hk
 refine wpAny_pyIter_enum he ⟨s1.heap.objs.size+1,[s1.heap.objs.size+1,s1.heap.objs.size],_,_,H1,rfl,I2,AJ2 a s1.heap.objs.size (s1.heap.objs.size+1) (Nat.succ_ne_self _),⟨⟨_,he⟩,hit⟩,fun b hb=>?_,q⟩
 rcases List.mem_cons.mp hb with z | z
 ·subst z; exact I1.fpOk (Nat.le_succ _) (I1.hok.fresh (Nat.le_succ _))
 ·rw [List.mem_singleton.mp z]; exact I1.fpOk (Nat.le_refl _) (I1.hok.fresh (Nat.le_refl _))
end
section
variable {K:Frag}{σ:L2.St}{H:Hp}{Q:VK}{g:TG}{te ta tk tv:TE}{tA:TA}{t:TS}{D:Ends}{i:Nat}
def ForE (K:Frag)(a:Addr)(g:TG)(tb:TS)(D:Ends)(σ:L2.St)(H:Hp):Prop:=∃ W:Nat→Nat→L2.St→Hp→Prop,(∃ m,W 0 m σ H)∧∀ i m σ H,W i m σ H →
   ((Ite K a).stop i H∧D.nx σ H)∨((Ite K a).go i H∧∃ N:L2.St→Hp→Prop,(∀ σ' H',N σ' H'→∃ m',m' < m∧W (i+1) m' σ' H')∧∀ x H',(Ite K a).yld i H x H'→g x σ H' fun σ2 H2=>tb { D with nx:=N,ct:=N,bk:=D.nx } σ2 H2)
theorem AJ3:BG1 (BD9 K tA) g t D σ H=tA σ H (fun vs H1=>∃ a,vs=[.ref a]∧(∃ xs,SqL K H1 a xs)∧ForE K a g t D σ H1):=rfl
theorem ForE.by {a:Addr}{xs:List V}(Pv:Nat→L2.St→Hp→Prop)(h0:Pv 0 σ H)(hl:∀ i σ H,i≤xs.length→Pv i σ H→SqL K H a xs)(hs:∀ i x σ H p,xs[i]?=some x→Pv i σ H→H p=none→g (.ref p) σ (L2.upd H p (.tup [.int (i:Nat),x])) fun σ2 H2=>t { D with nx:=Pv (i+1),ct:=Pv (i+1),bk:=D.nx } σ2 H2)(hd:∀ σ H,Pv xs.length σ H→D.nx σ H):ForE K a g t D σ H:=by
  refine ⟨fun i m σ H=>m=xs.length - i∧i≤xs.length∧Pv i σ H,⟨xs.length,by simp,Nat.zero_le _,h0⟩,?_⟩
  rintro i m σ H ⟨rfl,hi,p⟩
  have q:=hl i σ H hi p
  by_cases hlt:i < xs.length
  · refine .inr ⟨⟨xs,xs[i],q,by simp [hlt]⟩,Pv (i+1),fun σ' H' p'=>⟨xs.length - (i+1),by omega,rfl,hlt,p'⟩,fun x H' y=>?_⟩
    obtain ⟨pt,y1,e1,hn,e2,y⟩:=y
    subst e1 e2
    exact hs i y1 σ _ pt (y xs q) p hn
  · have e:i=xs.length:=by omega
    subst e
    exact .inl ⟨⟨xs,q,Nat.le_refl _⟩,hd σ H p⟩
end
theorem CalX.g {c:Nat}{P:Program}{w:World}{K:Frag}{mg:Str→Option Value}{base:Heap}{x:Str}{ps:List Str}{k:Nat}{sp:Sp}(C:CalX P w K mg base x ps k sp):CalG c P w K mg base x ps k sp :=
 let ⟨f,fd,F,r⟩:=C.ex; ⟨f,fd,FnOk.of0 F,r⟩
abbrev nl1:Str:=⟨#[10]⟩
def BE0 (u:Str):Str:=Txt.replace u "." " "
def vK (u:Str):Bool:=kS u && decide (0≤wE u)
def nmB (u:Str):Bool:=decide (jS u)
def zU (u:Str):List Str:=Txt.split (BE0 u) sp1
def fK (u:Str):Bool:=vK ((zU u).getD 0 "") && vK ((zU u).getD 1 "") && decide ((zU u).length=2)
def BE1 (u:Str):Bool:=iS u && decide (u.length≤100) && (!kS u || (PySem.intText? u).isSome)
theorem xJ {u:Str}(h:BE1 u=true):jZ u:=by
 unfold BE1 at h
 rw [Bool.and_eq_true,Bool.and_eq_true,decide_eq_true_eq,Bool.or_eq_true] at h
 obtain ⟨⟨h1,h2⟩,h3⟩:=h
 refine ⟨h1,h2,fun z=>?_⟩
 rcases h3 with q | q
 ·rw [z] at q; cases q
 ·exact Option.isSome_iff_exists.mp q
def AZ4 (u:Str):Bool:=decide ((BE0 u).length≤1000) && decide ((zU u).length≤1000) && (zU u).all BE1
def W1:List Str:=["zone","0"]
def W2:List Str:=["zone","-90",";","quiet","5","700","3",";","kind","not",":","now","by","1","mail"]
def B1:List Str:=[""]
def B2:List Str:=["zone","2000"]
def B3:List Str:=["zone","0",";"]
def B4:List Str:=["any",":","never"]
def wsG (ts:List Str):Prop:=ts=W1∨ts=W2
def wsB (ts:List Str):Prop:=ts=B1∨ts=B2∨ts=B3∨ts=B4
def xK (r:List Str):Bool:=decide (r=W1∨r=W2)
def AJ4 (r:List Str):Bool:=xK r || decide (r=[]∨r=B1∨r=B2∨r=B3∨r=B4)
def AO8 (ts:List Str):Bool:=kS (ts.getD 1 "") && (nmB (ts.getD 2 "") && (decide (ts.getD 3 ""="bell"∨ts.getD 3 ""="off") && (nmB (ts.getD 4 "") && (fK (ts.getD 5 "") && (ts.drop 6).all fK))))
def AY0 (ts:List Str):Option Nat :=
 if ts.getD 0 ""="wish" then (if (kS (ts.getD 1 "") && (nmB (ts.getD 2 "") && xK (ts.drop 3)))=true then some ts.length else none)
 else if ts.getD 0 ""="happen" then (if (kS (ts.getD 1 "") && (nmB (ts.getD 2 "") && (nmB (ts.getD 3 "") && vK (ts.getD 4 ""))))=true then some 5 else none)
 else if ts.getD 0 ""="take" then (if (kS (ts.getD 1 "") && (nmB (ts.getD 2 "") && vK (ts.getD 3 "")))=true then some 4 else none)
 else if ts.getD 0 ""="later" then (if (kS (ts.getD 1 "") && (nmB (ts.getD 2 "") && (vK (ts.getD 3 "") && kS (ts.getD 4 ""))))=true then some 5 else none)
 else if ts.getD 0 ""="back" then (if (kS (ts.getD 1 "") && vK (ts.getD 2 ""))=true then some 3 else none)
 else if ts.getD 0 ""="go" then (if kS (ts.getD 1 "")=true then some 2 else none)
 else none
def BF4 (u:Str):Bool:=decide (u="took"∨u="not"∨u="perhaps")
def AY1 (ts:List Str):Option Nat :=
 if ts.getD 0 ""="try" then (if AO8 ts=true then some ts.length else none)
 else if ts.getD 0 ""="end" then (if (kS (ts.getD 1 "") && BF4 (ts.getD 2 ""))=true then some 3 else none)
 else AY0 ts
def BJ6 (ts:List Str):Bool:=decide (ts.length≤1000) && (ts.all BE1 && (ts.all AZ4 && (decide (ts.getD 0 ""≠"wish") || (!(kS (ts.getD 1 "") && nmB (ts.getD 2 "")) || AJ4 (ts.drop 3)))))
def jU (u:Str):Bool:=decide (AY1 (Txt.split u sp1)=some (Txt.split u sp1).length)
def vL (u:Str):Bool:=decide (u.length≤1000) && (!u.cps.toList.contains 10 && BJ6 (Txt.split u sp1))
structure WdP (ts:List Str):Prop where
 len:ts.length≤1000
 tok:∀ x∈ts,jZ x
 st:∀ x∈ts,AZ4 x=true
 ws:ts.getD 0 ""="wish"→kS (ts.getD 1 "")=true→nmB (ts.getD 2 "")=true→AJ4 (ts.drop 3)=true
theorem BJ7 {ts:List Str}(h:BJ6 ts=true):WdP ts:=by
 unfold BJ6 at h
 rw [Bool.and_eq_true,Bool.and_eq_true,Bool.and_eq_true,decide_eq_true_eq,List.all_eq_true,List.all_eq_true] at h
 obtain ⟨h1,h2,h3,h4⟩:=h
 refine ⟨h1,fun x hx=>xJ (h2 x hx),h3,fun a b c=>?_⟩
 rw [b,c,a] at h4
 simpa using h4
theorem AJ5 {u:Str}(h:vL u=true):u.length≤1000∧10 ∉ u.cps.toList∧WdP (Txt.split u sp1):=by
 unfold vL at h
 rw [Bool.and_eq_true,Bool.and_eq_true,decide_eq_true_eq] at h
 exact ⟨h.1,by simpa using h.2.1,BJ7 h.2.2⟩
theorem BJ8 {u:Str}(h:AZ4 u=true):(BE0 u).length≤1000∧(zU u).length≤1000∧∀ x∈zU u,jZ x:=by
 unfold AZ4 at h
 rw [Bool.and_eq_true,Bool.and_eq_true,decide_eq_true_eq,decide_eq_true_eq,List.all_eq_true] at h
 exact ⟨h.1.1,h.1.2,fun x hx=>xJ (h.2 x hx)⟩
def BN3:Str:=⟨(List.replicate (Int.toNat 61) ("1":Str).cps).foldl (·++·) #[]⟩
def gA:List Str:=["go 5","go -5","wish 0 ann zone 0","wish 7 bo zone -90 ; quiet 5 700 3 ; kind not : now by 1 mail"]
def gB:List Str:=["happen 3 fire attic 0","happen 999 not any 999999","take 5 ann 0","take 5 by 77"]
def gC:List Str:=["later 5 ann 3 9","later 9 ann 3 -9","back 5 0","back 0 12","try 5 ann bell mail 0.0"]
def gD:List Str:=["try 5 ann off mail 3.1 0.0"]
def gE:List Str:=["end 5 took","end -5 perhaps"]
def BM1:List Str:=gA++gB++gC++gD++gE
def mQ (u:Str):Bool:=vL u && (jU u && !decide (u=""))
theorem al_app {p:Str→Bool}{l m:List Str}(h:l.all p=true)(k:m.all p=true):(l++m).all p=true:=by rw [List.all_append,h,k]; rfl
theorem AY2:(BM1++[("go 7":Str)]).all mQ=true:=by
 unfold BM1
 iterate 5 refine al_app ?_ (by decide +kernel)
 decide +kernel
def b0:List Str:=[""," ","go","go 5 6","go x","go 05","go -0","Go 5","go 5 "," go 5","go  5","go +5","go 5.0"]
def b1:List Str:=["wish 5 ann","wish 5 ann ","wish 5 ann zone 2000","wish 5 Ann zone 0","wish 5 ann zone 0 ;"]
def b2:List Str:=["wish ann zone 0","wish 5 ann any : never","happen 5 fire attic","happen 5 fire attic -1"]
def b3:List Str:=["happen 5 Fire attic 1","happen 5 fire attic 1 2","happen 5 fire a1 1","happen fire attic 1"]
def b4:List Str:=["take 5 ann -1","take 5 ann","take 5 0","take 5 ann 0 0","take 5 abcdefghi 0","later 5 ann 0"]
def b5:List Str:=["later 5 ann 0 x","later 5 ann -1 9","later 5 ann 0 9 9","back 5","back 5 -1","back 5 0 0"]
def b6:List Str:=["off 5 ann 0 9","house 5","try 5 ann bell mail","try 5 ann ring mail 0.0"]
def b7:List Str:=["try 5 ann bell mail 0"]
def b8:List Str:=["try 5 ann bell mail 0.0.0","try 5 ann bell mail 0.-1","try 5 ann bell mail -1.0","end 5 yes"]
def b9:List Str:=["try 5 ann bell mail 0. 1","try 5 ann bell mail 00.0","try 5 ann bell Mail 0.0","end took"]
def b10:List Str:=["try 5 ann bell mail 0.0 ","try 5 ann bell 0.0","try 5 bell mail 0.0","try 5 ann bell mail ."]
def b11:List Str:=["try 5 ann bell mail 0.","end 5 took took","end 5","end 5 Took","end 5 took ","book","row"]
def b12:List Str:=["happen 5 fire attic 01","take 5 ann 00","later 5 ann 00 9","later 5 ann 0 09","back 5 00"]
def b13:List Str:=["try 5 ann bell mail 0.00","take 5 ann +0","later 5 ann 0 +9"]
def b14:List Str:=[("go ":Str)++BN3,"try 5 ann bell mail 0.0 x"]
def bAll:List Str:=b0++b1++b2++b3++b4++b5++b6++b7++b8++b9++b10++b11++b12++b13++b14
def AO9 (u:Str):Bool:=vL u && !jU u
theorem AY3:bAll.all AO9=true:=by
 unfold bAll
 iterate 14 refine al_app ?_ (by decide +kernel)
 decide +kernel
end Bw
set_option maxHeartbeats 8000000
namespace Bw
open PySem L2 PySem.W
local macro_rules | `(tactic| walk_at "sc") => `(tactic| exact ⟨rfl,rfl,rfl,by decide +kernel,rfl,by decide +kernel,by decide +kernel⟩)
local macro_rules | `(tactic| nofun) => `(tactic| try simp only [AT5, AD3, AT6, AT7, AD4, AD5, AT8, wK, AD6, AT9, w_c, BG7, BG8, BG9, AU0, BH0, AD7, w_b, AU1, BH1, w_not, AD8, AU2, AD9, BH2, AE0, AU3, AU4, AU5, AE1, BH3, BH4, BH5, AU6, AE2, BI1, AE3, tH, AE4, w_K, wO, AV4, BI6, AW3, wR, AV6, wS, wT, wU, BJ1, AV7, AF6, AV8, AF7, AG0, wV, wW, AG3, AW1, AG4, wX, AG6, AG5, wY, tM, AJ0, tS, xG, AJ3, AI8, xI, AJ1, tO, xC, AI3, tQ, AI5, AI7, BI7, AW5, wZ, Option.getD_some,  exists_const, false_or, or_false, exists_false, BH6, BH7, BH8, BH9, BI0, L2.uY, List.map_cons, List.map_nil, List.length_cons, List.length_nil, List.replicate, List.replicate_zero, List.replicate_succ, Nat.reduceAdd, Nat.reduceSub, Nat.reduceLeDiff, List.cons_append, List.nil_append, List.append_nil, List.set_cons_zero, List.set_cons_succ, List.getElem?_cons_zero, List.getElem?_cons_succ, Option.some.injEq, V.int.injEq, V.bl.injEq, V.ref.injEq, V.str.injEq, V.ty.injEq, List.cons.injEq, and_true, true_and, exists_eq_left, exists_eq_left', exists_and_left, exists_eq, exists_eq', and_self, decide_eq_true_eq, Bool.not_eq_true', decide_eq_false_iff_not, Bool.true_eq_false, Bool.false_eq_true, if_true, if_false, ite_true, ite_false, false_and, and_false, and_assoc, reduceCtorEq])
local macro_rules | `(tactic| exists $[$es:term],*) => `(tactic| try simp only [$[$es:term],*, AT5, AD3, AT6, AT7, AD4, AD5, AT8, wK, AD6, AT9, w_c, BG7, BG8, BG9, AU0, BH0, AD7, w_b, AU1, BH1, w_not, AD8, AU2, AD9, BH2, AE0, AU3, AU4, AU5, AE1, BH3, BH4, BH5, AU6, AE2, BI1, AE3, tH, AE4, w_K, wO, AV4, BI6, AW3, wR, AV6, wS, wT, wU, BJ1, AV7, AF6, AV8, AF7, AG0, wV, wW, AG3, AW1, AG4, wX, AG6, AG5, wY, tM, AJ0, tS, xG, AJ3, AI8, xI, AJ1, tO, xC, AI3, tQ, AI5, AI7, BI7, AW5, wZ, Option.getD_some,  exists_const, false_or, or_false, exists_false, BH6, BH7, BH8, BH9, BI0, L2.uY, List.map_cons, List.map_nil, List.length_cons, List.length_nil, List.replicate, List.replicate_zero, List.replicate_succ, Nat.reduceAdd, Nat.reduceSub, Nat.reduceLeDiff, List.cons_append, List.nil_append, List.append_nil, List.set_cons_zero, List.set_cons_succ, List.getElem?_cons_zero, List.getElem?_cons_succ, Option.some.injEq, V.int.injEq, V.bl.injEq, V.ref.injEq, V.str.injEq, V.ty.injEq, List.cons.injEq, and_true, true_and, exists_eq_left, exists_eq_left', exists_and_left, exists_eq, exists_eq', and_self, decide_eq_true_eq, Bool.not_eq_true', decide_eq_false_iff_not, Bool.true_eq_false, Bool.false_eq_true, if_true, if_false, ite_true, ite_false, false_and, and_false, and_assoc, reduceCtorEq])
theorem pc {X:Cx}{x:Str}{ps:List Str}{k j:Nat}{sp:Sp}{e:Expr}{es:List Expr}{t:TA}{p pos:Pos}(C:CalX X.prog X.w X.K X.mg X.base x ps k sp)(hr:Room j X.A)(hg:Gl X x)(ha:PA X (e::es) t)(hk:k≤j:=by decide)(hdb:(x == ("__debug__":Str))=false:=by decide)(h1:sM e=false:=by rfl)(h2:vG es=true:=by rfl):PE X (.Call (.Name x p) (e::es) [] pos) (zJ sp [] E0 t):=AF3 C (hr.mono hk) hg ha hdb (aG _ _ _ h1) (aH h2)
local macro_rules | `(tactic| walk_at "ln") => `(tactic| (intro vs H Q E h; (repeat (obtain ⟨_, h⟩ := h)); all_goals (subst_vars; rfl)))
def top (i:Nat):Stmt:=PySem.Challenge.pw_bellsaway_k82_lines_that_cannot_be_read.main.body.getD i (.Pass ⟨0,0,0,0⟩)
abbrev aX:Stmt:=aD (top 15) 0
theorem hV:FnScope ["self","line"] ["self","line"] (aA aX):=by walk_at "sc"
abbrev fY:Stmt:=top 17
theorem xL:FnScope ["thing"] ["thing"] (aA fY):=by walk_at "sc"
abbrev bU:Stmt:=top 18
theorem lG:FnScope ["thing","least","most"] ["thing","least","most"] (aA bU):=by walk_at "sc"
abbrev cZ:Stmt:=top 19
theorem pH:FnScope ["thing","least"] ["thing","least"] (aA cZ):=by walk_at "sc"
abbrev iU:Stmt:=top 23
theorem zV:FnScope ["thing"] ["thing"] (aA iU):=by walk_at "sc"
abbrev bV:Stmt:=top 27
theorem lH:FnScope ["thing"] ["thing"] (aA bV):=by walk_at "sc"
abbrev eH:Stmt:=top 28
theorem tT:FnScope ["word"] ["word"] (aA eH):=by walk_at "sc"
abbrev fB:Stmt:=top 29
theorem vM:FnScope ["word"] ["word"] (aA fB):=by walk_at "sc"
abbrev cM:Stmt:=aD (top 30) 0
theorem oF:FnScope ["self","text"] ["self","text"] (aA cM):=by walk_at "sc"
abbrev cN:Stmt:=aD (top 30) 1
theorem oG:FnScope ["self"] ["self"] (aA cN):=by walk_at "sc"
abbrev eI:Stmt:=aD (top 30) 2
theorem tU:FnScope ["self"] ["self"] (aA eI):=by walk_at "sc"
abbrev dN:Stmt:=aD (top 30) 3
theorem sc_Words_take:FnScope ["self","word"] ["self"] (aA dN):=by walk_at "sc"
abbrev dP:Stmt:=aD (top 30) 4
theorem rK:FnScope ["self","word"] ["self","word"] (aA dP):=by walk_at "sc"
abbrev dG:Stmt:=aD (top 30) 5
theorem qT:FnScope ["self","word"] ["self","word"] (aA dG):=by walk_at "sc"
abbrev bW:Stmt:=aD (top 30) 6
theorem lI:FnScope ["self"] ["self"] (aA bW):=by walk_at "sc"
abbrev bO:Stmt:=aD (top 30) 7
theorem sc_Words_take_number:FnScope ["self","word"] ["self"] (aA bO):=by walk_at "sc"
abbrev bX:Stmt:=aD (top 30) 8
theorem sc_Words_take_count:FnScope ["self","count"] ["self"] (aA bX):=by walk_at "sc"
abbrev cF:Stmt:=aD (top 30) 9
theorem sc_Words_take_name:FnScope ["self","word"] ["self"] (aA cF):=by walk_at "sc"
abbrev bP:Stmt:=aD (top 30) 10
theorem sc_Words_take_one_of:FnScope ["self","choices","word"] ["self","choices"] (aA bP):=by walk_at "sc"
abbrev bY:Stmt:=aD (top 30) 11
theorem sc_Words_take_names:FnScope ["self","names"] ["self"] (aA bY):=by walk_at "sc"
abbrev cG:Stmt:=aD (top 30) 12
theorem sc_Words_take_some:FnScope ["self","count","some"] ["self","count"] (aA cG):=by walk_at "sc"
abbrev cH:Stmt:=aD (top 30) 13
theorem mR:FnScope ["self"] ["self"] (aA cH):=by walk_at "sc"
abbrev dA:Stmt:=aD (top 34) 0
theorem pI:FnScope ["self","names"] ["self","names"] (aA dA):=by walk_at "sc"
abbrev dQ:Stmt:=top 40
theorem rL:FnScope ["names"] ["names"] (aA dQ):=by walk_at "sc"
abbrev bZ:Stmt:=top 46
theorem lJ:FnScope ["thing"] ["thing"] (aA bZ):=by walk_at "sc"
abbrev cP:Stmt:=top 47
theorem oH:FnScope ["thing"] ["thing"] (aA cP):=by walk_at "sc"
abbrev eJ:Stmt:=top 48
theorem tV:FnScope ["zone"] ["zone"] (aA eJ):=by walk_at "sc"
abbrev dR:Stmt:=top 49
theorem rM:FnScope ["quiet"] ["quiet"] (aA dR):=by walk_at "sc"
abbrev bK:Stmt:=aD (top 60) 0
theorem pJ:FnScope ["self","fit","way","roads","sure","raised"] ["self","fit","way","roads","sure","raised"] (aA bK):=by walk_at "sc"
abbrev dH:Stmt:=top 61
theorem qU:FnScope ["way","roads","sure","raised"] ["way","roads","sure","raised"] (aA dH):=by walk_at "sc"
abbrev bH:Stmt:=aD (top 62) 0
theorem mS:FnScope ["self","zone","quiet","wake","lines"] ["self","zone","quiet","wake","lines"] (aA bH):=by walk_at "sc"
abbrev eL:Stmt:=top 63
theorem tW:FnScope ["wake","quiet"] ["wake","quiet"] (aA eL):=by walk_at "sc"
abbrev dS:Stmt:=top 64
theorem rN:FnScope ["lines"] ["lines"] (aA dS):=by walk_at "sc"
abbrev dU:Stmt:=top 66
theorem rO:FnScope ["text"] ["text"] (aA dU):=by walk_at "sc"
abbrev eM:Stmt:=top 67
theorem sc_read_whole:FnScope ["text","part_from","words","found"] ["text","part_from"] (aA eM):=by walk_at "sc"
abbrev fZ:Stmt:=top 69
theorem sc_fit_from:FnScope ["words","opened","fit"] ["words"] (aA fZ):=by walk_at "sc"
abbrev cQ:Stmt:=top 70
theorem sc_plain_fit_from:FnScope ["words","opened","word"] ["words","opened"] (aA cQ):=by walk_at "sc"
abbrev kN:Stmt:=top 71
theorem AJ6:FnScope ["fit","words","opened","last"] ["fit","words","opened"] (aA kN):=by walk_at "sc"
abbrev gF:Stmt:=top 74
theorem sc_way_from:FnScope ["words","word"] ["words"] (aA gF):=by walk_at "sc"
abbrev bQ:Stmt:=top 76
theorem sc_line_from_wording:FnScope ["words","fit","way","roads","sure","raised"] ["words"] (aA bQ):=by walk_at "sc"
abbrev dW:Stmt:=top 78
theorem sc_wishes_from:FnScope ["words","zone","quiet","wake","more","start","lines"] ["words"] (aA dW):=by walk_at "sc"
abbrev fC:Stmt:=top 80
theorem sc_read_book:FnScope ["text","rows","lines","number","row","line"] ["text"] (aA fC):=by walk_at "sc"
abbrev cI:Stmt:=top 81
theorem sc_read_whole_line:FnScope ["text","part_from","words","line"] ["text","part_from"] (aA cI):=by walk_at "sc"
abbrev cJ:Stmt:=top 82
theorem mT:FnScope ["words"] ["words"] (aA cJ):=by walk_at "sc"
abbrev gG:Stmt:=top 84
theorem sc_try_from:FnScope ["words","moment","hand","word","road","stamps"] ["words"] (aA gG):=by walk_at "sc"
abbrev eN:Stmt:=top 85
theorem sc_stamp_from:FnScope ["words","parts","stamp"] ["words"] (aA eN):=by walk_at "sc"
abbrev gH:Stmt:=top 86
theorem sc_row_from:FnScope ["words","word"] ["words"] (aA gH):=by walk_at "sc"
abbrev cB:Stmt:=top 87
theorem sc_wishes_text_from:FnScope ["words","text"] ["words"] (aA cB):=by walk_at "sc"
abbrev dX:Stmt:=top 89
theorem rP:FnScope ["_law_script","_law_k"] ["_law_script","_law_k"] (aA dX):=by walk_at "sc"
abbrev fD:Stmt:=top 90
theorem vN:FnScope ["_law_cell"] ["_law_cell"] (aA fD):=by walk_at "sc"
abbrev gI:Stmt:=top 91
theorem sc_law_next:FnScope ["_law_state","_law_base","_law_found","_law_number"] ["_law_state","_law_base"] (aA gI):=by walk_at "sc"
abbrev gJ:Stmt:=top 92
theorem sc_law_good:FnScope ["_law_state","_law_some"] ["_law_state"] (aA gJ):=by walk_at "sc"
abbrev iV:Stmt:=top 93
theorem sc_law_bad:FnScope ["_law_state","_law_some"] ["_law_state"] (aA iV):=by walk_at "sc"
abbrev gK:Stmt:=top 94
theorem sc_law_told:FnScope ["_law_text","_law_found","e"] ["_law_text"] (aA gK):=by walk_at "sc"
abbrev tX:Stmt:=top 95
theorem sc_law:FnScope ["_law_script","_law_lines","_law_cell","_law_state","_law_spoilt","_law_at","_law_other","_law_text","_law_good_here"] ["_law_script"] (aA tX):=by walk_at "sc"
structure Ad where
 BellError:Addr
 NoHappening:Addr
 NoRow:Addr
 NoWish:Addr
 NoBook:Addr
 NoTime:Addr
 NoClock:Addr
 NoText:Addr
 Words:Addr
 Fit:Addr
 Kind:Addr
 Way:Addr
 Now:Addr
 Never:Addr
 Raised:Addr
 Line:Addr
 Wishes:Addr
 wishes_from:Addr
 line_from_texts:Addr
 t0:Tok
 t1:Tok
 t2:Tok
 t3:Tok
 t4:Tok
 t5:Tok
 t6:Tok
 t7:Tok
 t8:Tok
 t9:Tok
structure Bt (K:Frag) (mg:Str→Option Value) (a:Ad):Prop where
 len:mg "len"=none
 int:mg "int"=none
 bool:mg "bool"=none
 str:mg "str"=none
 tuple:mg "tuple"=none
 list:mg "list"=none
 all:mg "all"=none
 isinstance:mg "isinstance"=none
 range:mg "range"=none
 set:mg "set"=none
 ValueError:mg "ValueError"=none
 enumerate:mg "enumerate"=none
 min:mg "min"=none
 LETTERS:mg "LETTERS"=some (.str "abcdefghijklmnopqrstuvwxyz" a.t0)
 MOST_LETTERS:mg "MOST_LETTERS"=some (.int 8 a.t1)
 FIGURES:mg "FIGURES"=some (.str "0123456789" a.t2)
 MOST_FIGURES:mg "MOST_FIGURES"=some (.int 60 a.t3)
 MINUTES_OF_DAY:mg "MINUTES_OF_DAY"=some (.int 1440 a.t4)
 BELL:mg "BELL"=some (.str "bell" a.t5)
 OFF:mg "OFF"=some (.str "off" a.t6)
 TOOK:mg "TOOK"=some (.str "took" a.t7)
 NOT:mg "NOT"=some (.str "not" a.t8)
 PERHAPS:mg "PERHAPS"=some (.str "perhaps" a.t9)
 BellError:mg "BellError"=some (.ref a.BellError)
 NoHappening:mg "NoHappening"=some (.ref a.NoHappening)
 NoRow:mg "NoRow"=some (.ref a.NoRow)
 NoWish:mg "NoWish"=some (.ref a.NoWish)
 NoBook:mg "NoBook"=some (.ref a.NoBook)
 NoTime:mg "NoTime"=some (.ref a.NoTime)
 NoClock:mg "NoClock"=some (.ref a.NoClock)
 NoText:mg "NoText"=some (.ref a.NoText)
 Words:mg "Words"=some (.ref a.Words)
 Fit:mg "Fit"=some (.ref a.Fit)
 Kind:mg "Kind"=some (.ref a.Kind)
 Way:mg "Way"=some (.ref a.Way)
 Now:mg "Now"=some (.ref a.Now)
 Never:mg "Never"=some (.ref a.Never)
 Raised:mg "Raised"=some (.ref a.Raised)
 Line:mg "Line"=some (.ref a.Line)
 Wishes:mg "Wishes"=some (.ref a.Wishes)
 wishes_from:mg "wishes_from"=some (.ref a.wishes_from)
 line_from_texts:mg "line_from_texts"=some (.ref a.line_from_texts)
 excK_NoText:ExcK K a.NoText
 exc_NoClock:excIn K a.NoClock vbm "ValueError.__new__"=true
 exm_NoClock:exmOne K (.ref a.NoClock) (.ref a.BellError)=some true
 exm_NoText:exmOne K (.ref a.NoText) (.ref a.BellError)=some true
 exm_Self:exmOne K (.ref a.NoText) (.ref a.NoText)=some true
 xhd:hasDictIn K a.NoText=true
 xmo:mroIn K a.NoText (.type "object")=some true
 xna:NoAttr K a.NoText "line"
 xs:∃ cd,ExcS K a.NoText cd
 ck_Words:ClsK K a.Words
 na_Words_words:NoAttr K a.Words "words"
 na_Words_at:NoAttr K a.Words "at"
 ck_Kind:ClsK K a.Kind
 na_Kind_names:NoAttr K a.Kind "names"
 ck_Now:ClsK K a.Now
 ck_Line:ClsK K a.Line
 na_Line_fit:NoAttr K a.Line "fit"
 na_Line_way:NoAttr K a.Line "way"
 na_Line_roads:NoAttr K a.Line "roads"
 na_Line_sure:NoAttr K a.Line "sure"
 na_Line_raised:NoAttr K a.Line "raised"
 ck_Wishes:ClsK K a.Wishes
 na_Wishes_zone:NoAttr K a.Wishes "zone"
 na_Wishes_quiet:NoAttr K a.Wishes "quiet"
 na_Wishes_wake:NoAttr K a.Wishes "wake"
 na_Wishes_lines:NoAttr K a.Wishes "lines"
 is_Kind_Fit:kitOne K (.ref a.Kind) (.ref a.Fit)=some true
 is_Now_Way:kitOne K (.ref a.Now) (.ref a.Way)=some true
 is_Now_Never:kitOne K (.ref a.Now) (.ref a.Never)=some false
 is_Line_Line:kitOne K (.ref a.Line) (.ref a.Line)=some true
 mk_Now:MkN K a.Now
 any1:kitAny K (.ref a.NoText) ([.ref a.NoHappening,.ref a.NoRow,.ref a.NoWish,.ref a.NoBook,.ref a.NoTime]:List Value)=some false
 isV:kitOne K (.ref a.NoText) (.type "ValueError")=some true
 isT:kitOne K (.ref a.NoText) (.ref a.NoText)=some true
def okI (K:Frag)(H:Hp)(x:V):Prop:=∃ t,TyOf K H x t∧kitOne K t (.type "int")=some (AQ8 x)∧kitOne K t (.type "bool")=some (AD2 x)
def okK (K:Frag)(c:Value)(H:Hp)(x:V)(b:Bool):Prop:=∃ t,TyOf K H x t∧kitOne K t c=some b
abbrev noL (K:Frag)(H:Hp)(x:V):Prop:=∃ t,TyOf K H x t∧kitOne K t (.type "list")=some false
def AL4:V→Str
 | .str u=>u
 | _=>Str.empty
def zC (xs:List V):Bool:=xs.all iT && decide ((xs.map AL4).Nodup)
theorem AJ7 {x:V}(h:iT x=true):x=.str (AL4 x):=by cases x <;> first | rfl | cases h
theorem AJ8:∀ {xs:List V},xs.all iT=true→xs=(xs.map AL4).map V.str
 | [],_=>rfl
 | x::xs,h=>by
  simp only [List.all_cons,Bool.and_eq_true] at h
  rw [List.map_cons,List.map_cons,← AJ7 h.1,← AJ8 h.2]
def BN4 (K:Frag)(H:Hp)(x:V)(b:Bool):Prop:=(∃ p xs,x=.ref p∧H p=some (.lst xs)∧xs.length≤1000∧(∀ y∈xs,okN H y)∧b=zC xs)∨(b=false∧noL K H x)
theorem hX {k:Str}{v:V}:∀ {fs:List (Str × V)},(∀ q∈fs,q.1≠k)→mF k v fs=fs++[(k,v)]
 | [],_=>rfl
 | (k0,v0)::fs,h=>by
  show (if k0=k then _ else _:List (Str × V))=_
  rw [if_neg (h (k0,v0) List.mem_cons_self),hX fun q hq=>h q (List.mem_cons_of_mem _ hq)]
  rfl
def AY4 (t:TS):TS:=t
theorem AS1 {t:TS}{D:Ends}{σ:L2.St}{H:Hp}:AY4 t D σ H=t D σ H:=rfl
theorem zD {t:TE}{nx:L2.St→Hp→Prop}{rt:VK}{bk ct:L2.St→Hp→Prop}{σ:L2.St}{H:Hp}(h:t σ H rt):AY4 (BE6 t) { nx:=nx,rt:=rt,bk:=bk,ct:=ct } σ H:=h
local macro_rules | `(tactic| walk_at "ho") => `(tactic| (first | rw [AS1] | (dsimp only; rw [AS1])))
theorem bG {X:Cx}{b:List Stmt}{t:TS}(h:QSs X b t):QSs X b (AY4 t):=h
theorem fU {H H':Hp}{x dx:Addr}{o o':HO}(hx:H x=none)(hd:H dx=none)(b:But x (upd (upd H dx o) x o') H'):Same H H':=fun c u e=>b c u (aR e hx) (fJ hx hd c u e)
def IsX (a:Ad)(cls:Value):Prop:=cls=.ref a.NoText∨cls=.ref a.NoClock
def zE (wp:Addr)(H:Hp):Nat:=match H wp with
 | some (.ins _ _ fs)=>(match fs.lookup ("at":Str) with | some (.int i)=>i.toNat | _=>0)
 | _=>0
theorem vO {C:Addr}{H:Hp}{wp dw wl:Addr}{ts:List Str}{i:Nat}(h:WAt C H wp dw wl ts i):zE wp H=i:=by
 unfold zE
 rw [h.w]
 show (i:Int).toNat=i
 omega
theorem AJ9 {H:Hp}{u:Str}(h:jZ u):okN H (.str u):=⟨h.1,by have:=h.2.1; omega⟩
def lFs (f y r s z:V):List (Str × V):=[("fit",f),("way",y),("roads",r),("sure",s),("raised",z)]
def wFs (z q k l:V):List (Str × V):=[("zone",z),("quiet",q),("wake",k),("lines",l)]
def AS2 (ls:List Str):Prop:=ls≠[]∧Str.join nl1 ls≠""∧ls.length≤100∧∀ l∈ls,vL l=true
def AS3 (ls:List Str)(k:Nat):Prop:=k < ls.length∧(∀ j,j < k→jU (ls.getD j "")=true)∧jU (ls.getD k "")=false
def BE2 (K:Frag)(H:Hp)(x:V)(r:Int):Prop:=(∃ ls,x=.str (Str.join nl1 ls)∧AS2 ls∧((r=-1∧∀ l∈ls,jU l=true)∨∃ k,r=(k:Nat)∧AS3 ls k))∨(x=.str ""∧r=-1)∨(okK K (.type "str") H x false∧r=0)
abbrev hZ (K:Frag)(a:Ad):Sp:=sQ a.NoText "line"
def lK (K:Frag)(a:Ad):Sp:=fun vs H Q E=>∃ x,vs=[x]∧okI K H x∧Q (.bl (yR x)) H
def eA (K:Frag)(a:Ad):Sp:=fun vs H Q E=>∃ x lo hi,vs=[x,.int lo,.int hi]∧okI K H x∧Q (.bl (qO x lo hi)) H
def jR (K:Frag)(a:Ad):Sp:=fun vs H Q E=>∃ x lo,vs=[x,.int lo]∧okI K H x∧Q (.bl (AW2 x lo)) H
def kO (K:Frag)(a:Ad):Sp:=fun vs H Q E=>∃ x,vs=[x]∧okN H x∧∀ H',Same H H'→Q (.bl (iT x)) H'
def eB (K:Frag)(a:Ad):Sp:=fun vs H Q E=>∃ (x:V) (b:Bool),vs=[x]∧BN4 K H x b∧∀ H',Same H H'→Q (.bl b) H'
def mU (K:Frag)(a:Ad):Sp:=fun vs H Q E=>∃ (u:Str),vs=[.str u]∧iS u=true∧u.length≤1000∧∀ H',Same H H'→Q (.bl (AL3 u)) H'
def pC (K:Frag)(a:Ad):Sp:=fun vs H Q E=>∃ (u:Str),vs=[.str u]∧iS u=true∧u.length≤1000∧∀ H',Same H H'→Q (.bl (kS u)) H'
def dB (K:Frag)(a:Ad):Sp:=fun vs H Q E=>∃ (p dx:Addr) (x:V),vs=[.ref p,x]∧H p=some (.ins a.Words dx [])∧((∃ u,x=.str u∧u.length≤200000∧(Txt.split u sp1).length≤1000∧∀ wl H',H wl=none→But p H H'→WAt a.Words H' p dx wl (Txt.split u sp1) 0→Q .non H')∨(okK K (.type "str") H x false∧∀ y H',Same H H'→H' y=some (.xd [("line",.int 0)])→E (.ref a.NoText) (some y) H'))
def iW (K:Frag)(a:Ad):Sp:=fun vs H Q E=>∃ (wp dw wl:Addr) (ts:List Str) (i:Nat),vs=[.ref wp]∧WAt a.Words H wp dw wl ts i∧Q (.bl (decide ((i:Int)=(ts.length:Int)))) H
def mV (K:Frag)(a:Ad):Sp:=fun vs H Q E=>∃ (wp dw wl:Addr) (ts:List Str) (i:Nat),vs=[.ref wp]∧WAt a.Words H wp dw wl ts i∧Q (.str (ts.getD i "")) H
def jF (K:Frag)(a:Ad):Sp:=fun vs H Q E=>∃ (wp dw wl:Addr) (ts:List Str) (i:Nat),vs=[.ref wp]∧WAt a.Words H wp dw wl ts i∧Q (.str (ts.getD i "")) (upd H wp (.ins a.Words dw (bA wl (i+1))))
def kT (K:Frag)(a:Ad):Sp:=fun vs H Q E=>∃ (wp dw wl:Addr) (ts:List Str) (i:Nat) (wd:Str),vs=[.ref wp,.str wd]∧WAt a.Words H wp dw wl ts i∧((ts.getD i ""=wd∧Q (.bl true) (upd H wp (.ins a.Words dw (bA wl (i+1)))))∨(ts.getD i ""≠wd∧Q (.bl false) H))
def kA (K:Frag)(a:Ad):Sp:=fun vs H Q E=>∃ (wp dw wl:Addr) (ts:List Str) (i:Nat) (wd:Str),vs=[.ref wp,.str wd]∧WAt a.Words H wp dw wl ts i∧((ts.getD i ""=wd∧Q .non (upd H wp (.ins a.Words dw (bA wl (i+1)))))∨(ts.getD i ""≠wd∧∀ y H',Same H H'→E (.ref a.NoText) (some y) H'))
def gR (K:Frag)(a:Ad):Sp:=fun vs H Q E=>∃ (wp dw wl:Addr) (ts:List Str) (i:Nat),vs=[.ref wp]∧WAt a.Words H wp dw wl ts i∧((i=ts.length∧Q .non H)∨(i≠ts.length∧∀ y H',Same H H'→H' y=some (.xd [("line",.int 0)])→E (.ref a.NoText) (some y) H'))
def fQ (K:Frag)(a:Ad):Sp:=fun vs H Q E=>∃ (wp dw wl:Addr) (ts:List Str) (i:Nat),vs=[.ref wp]∧WAt a.Words H wp dw wl ts i∧jZ (ts.getD i "")∧((kS (ts.getD i "")=true∧∀ H',But wp H H'→WAt a.Words H' wp dw wl ts (i+1)→Q (.int (wE (ts.getD i ""))) H')∨(kS (ts.getD i "")=false∧∀ y H',But wp H H'→E (.ref a.NoText) (some y) H'))
def gS (K:Frag)(a:Ad):Sp:=fun vs H Q E=>∃ (wp dw wl:Addr) (ts:List Str) (i:Nat),vs=[.ref wp]∧WAt a.Words H wp dw wl ts i∧jZ (ts.getD i "")∧((vK (ts.getD i "")=true∧∀ H',But wp H H'→WAt a.Words H' wp dw wl ts (i+1)→Q (.int (wE (ts.getD i ""))) H')∨(vK (ts.getD i "")=false∧∀ y H',But wp H H'→E (.ref a.NoText) (some y) H'))
def iA (K:Frag)(a:Ad):Sp:=fun vs H Q E=>∃ (wp dw wl:Addr) (ts:List Str) (i:Nat),vs=[.ref wp]∧WAt a.Words H wp dw wl ts i∧jZ (ts.getD i "")∧((nmB (ts.getD i "")=true∧∀ H',But wp H H'→WAt a.Words H' wp dw wl ts (i+1)→Q (.str (ts.getD i "")) H')∨(nmB (ts.getD i "")=false∧∀ y H',But wp H H'→E (.ref a.NoText) (some y) H'))
def fR (K:Frag)(a:Ad):Sp:=fun vs H Q E=>∃ (wp dw wl:Addr) (ts:List Str) (i:Nat) (c:Addr) (us:List Str),vs=[.ref wp,.ref c]∧WAt a.Words H wp dw wl ts i∧H c=some (.tup (us.map V.str))∧us.length≤10∧((decide (ts.getD i ""∈us)=true∧∀ H',But wp H H'→WAt a.Words H' wp dw wl ts (i+1)→Q (.str (ts.getD i "")) H')∨(decide (ts.getD i ""∈us)=false∧∀ y H',But wp H H'→E (.ref a.NoText) (some y) H'))
def gT (K:Frag)(a:Ad):Sp:=fun vs H Q E=>∃ (wp dw wl:Addr) (ts:List Str) (i:Nat),vs=[.ref wp]∧WAt a.Words H wp dw wl ts i∧(∀ x∈ts,jZ x)∧ts.length≤1000∧∀ l H',But wp H H'→H l=none→H' l=some (.lst (((ts.drop i).takeWhile fun u=>decide (jS u)).map V.str))→WAt a.Words H' wp dw wl ts (i+((ts.drop i).takeWhile fun u=>decide (jS u)).length)→Q (.ref l) H'
def iB (K:Frag)(a:Ad):Sp:=fun vs H Q E=>∃ (wp dw wl:Addr) (ts:List Str) (i:Nat) (n:Nat),vs=[.ref wp,.int (n:Nat)]∧WAt a.Words H wp dw wl ts i∧i+n≤ts.length∧ts.length≤1000∧∀ l H',But wp H H'→H l=none→H' l=some (.lst (((ts.drop i).take n).map V.str))→WAt a.Words H' wp dw wl ts (i+n)→Q (.ref l) H'
def iC (K:Frag)(a:Ad):Sp:=fun vs H Q E=>∃ (wp dw wl:Addr) (ts:List Str) (i:Nat) (n:Nat),vs=[.ref wp]∧WAt a.Words H wp dw wl ts i∧i+n=ts.length∧ts.length≤1000∧∀ l H',But wp H H'→H l=none→H' l=some (.lst (((ts.drop i).take n).map V.str))→WAt a.Words H' wp dw wl ts (i+n)→Q (.ref l) H'
def fM (K:Frag)(a:Ad):Sp:=fun vs H Q E=>∃ (p dx l:Addr),vs=[.ref p,.ref l]∧H p=some (.ins a.Kind dx [])∧H l=some (.lst [.str "not"])∧∀ fs H',But p H H'→H' p=some (.ins a.Kind dx fs)→Q .non H'
def kU (K:Frag)(a:Ad):Sp:=fun vs H Q E=>∃ (l:Addr),vs=[.ref l]∧H l=some (.lst [.str "not"])∧∀ H',Same H H'→Q .non H'
def gU (K:Frag)(a:Ad):Sp:=fun vs H Q E=>∃ x,vs=[x]∧okI K H x∧Q (.bl (qO x 0 1439)) H
def iX (K:Frag)(a:Ad):Sp:=fun vs H Q E=>∃ x:V,vs=[x]∧(x=.non∨∃ q,x=.ref q∧H q=some (.tup [.int 5,.int 700]))∧Q (.bl true) H
def mW (K:Frag)(a:Ad):Sp:=fun vs H Q E=>∃ z:Int,vs=[.int z]∧((qO (.int z) (-1439) 1439=true∧Q .non H)∨(qO (.int z) (-1439) 1439=false∧E (.ref a.NoClock) none H))
def kW (K:Frag)(a:Ad):Sp:=fun vs H Q E=>∃ x:V,vs=[x]∧(x=.non∨∃ q,x=.ref q∧H q=some (.tup [.int 5,.int 700]))∧Q .non H
def fN (K:Frag)(a:Ad):Sp:=fun vs H Q E=>∃ (p dx fp yp rp df dy:Addr) (ff fy:List (Str × V)),vs=[.ref p,.ref fp,.ref yp,.ref rp,.bl false,.non]∧H p=some (.ins a.Line dx [])∧H fp=some (.ins a.Kind df ff)∧H yp=some (.ins a.Now dy fy)∧H rp=some (.lst [.str "mail"])∧∀ l H',But p H H'→H' p=some (.ins a.Line dx (lFs (.ref fp) (.ref yp) (.ref l) (.bl false) .non))→Q .non H'
def kB (K:Frag)(a:Ad):Sp:=fun vs H Q E=>∃ (yp rp dy:Addr) (fy:List (Str × V)),vs=[.ref yp,.ref rp,.bl false,.non]∧H yp=some (.ins a.Now dy fy)∧H rp=some (.lst [.str "mail"])∧Q .non H
def eU (K:Frag)(a:Ad):Sp:=fun vs H Q E=>∃ (p dx l:Addr) (z:Int) (k q:V) (xs:List V),vs=[.ref p,.int z,q,k,.ref l]∧H p=some (.ins a.Wishes dx [])∧(q=.non∨∃ r,q=.ref r∧H r=some (.tup [.int 5,.int 700]))∧((k=.non)∨(k=.int 3∧∃ r,q=.ref r))∧H l=some (.lst xs)∧xs.length≤10∧(∀ y∈xs,∃ r d fs,y=.ref r∧H r=some (.ins a.Line d fs))∧((qO (.int z) (-1439) 1439=true∧∀ H',But p H H'→Q .non H')∨(qO (.int z) (-1439) 1439=false∧E (.ref a.NoClock) none H))
def mX (K:Frag)(a:Ad):Sp:=fun vs H Q E=>∃ k q:V,vs=[k,q]∧((k=.non)∨(k=.int 3∧∃ r,q=.ref r))∧Q .non H
def kX (K:Frag)(a:Ad):Sp:=fun vs H Q E=>∃ (l:Addr) (xs:List V),vs=[.ref l]∧H l=some (.lst xs)∧xs.length≤10∧(∀ y∈xs,∃ r d fs,y=.ref r∧H r=some (.ins a.Line d fs))∧∀ H',Same H H'→Q .non H'
def iI (K:Frag)(a:Ad):Sp:=fun vs H Q E=>∃ u:Str,vs=[.str u]∧BF2 u∧((wsG (Txt.split u sp1)∧∀ v H',Same H H'→Q v H')∨(wsB (Txt.split u sp1)∧∀ y H',Same H H'→E (.ref a.NoText) (some y) H'))
def jG (K:Frag)(a:Ad):Sp:=fun vs H Q E=>∃ u:Str,vs=[.str u,.ref a.wishes_from]∧BF2 u∧((wsG (Txt.split u sp1)∧∀ v H',Same H H'→Q v H')∨(wsB (Txt.split u sp1)∧∀ y H',Same H H'→E (.ref a.NoText) (some y) H'))
def qV (K:Frag)(a:Ad):Sp:=fun vs H Q E=>∃ (wp dw wl:Addr) (ts:List Str) (i:Nat),vs=[.ref wp]∧WAt a.Words H wp dw wl ts i∧(∀ x∈ts,jZ x)∧ts.length≤1000∧(((ts.getD i ""="kind"∧ts.getD (i+1) ""="not"∧ts.getD (i+2) ""=":")∧∀ v r d fs H',v=.ref r→But wp H H'→H r=none→H' r=some (.ins a.Kind d fs)→WAt a.Words H' wp dw wl ts (i+2)→Q v H')∨((ts.getD i ""="")∧∀ y H',But wp H H'→E (.ref a.NoText) (some y) H'))
def iY (K:Frag)(a:Ad):Sp:=fun vs H Q E=>∃ (wp dw wl:Addr) (ts:List Str) (i:Nat) (op:Addr),vs=[.ref wp,.ref op]∧WAt a.Words H wp dw wl ts i∧(∀ x∈ts,jZ x)∧ts.length≤1000∧H op=some (.lst [])∧(((ts.getD i ""="kind"∧ts.getD (i+1) ""="not"∧ts.getD (i+2) ""=":")∧∀ v r d fs H',v=.ref r→But wp H H'→H r=none→H' r=some (.ins a.Kind d fs)→WAt a.Words H' wp dw wl ts (i+2)→Q v H')∨((ts.getD i ""="")∧∀ y H',But wp H H'→E (.ref a.NoText) (some y) H'))
def vP (K:Frag)(a:Ad):Sp:=fun vs H Q E=>∃ (v:V) (wp op:Addr),vs=[v,.ref wp,.ref op]∧H op=some (.lst [])∧Q v H
def qW (K:Frag)(a:Ad):Sp:=fun vs H Q E=>∃ (wp dw wl:Addr) (ts:List Str) (i:Nat),vs=[.ref wp]∧WAt a.Words H wp dw wl ts i∧ts.getD i ""="now"∧∀ r d H',But wp H H'→H r=none→H' r=some (.ins a.Now d [])→WAt a.Words H' wp dw wl ts (i+1)→Q (.ref r) H'
def fS (K:Frag)(a:Ad):Sp:=fun vs H Q E=>∃ (wp dw wl:Addr) (ts:List Str) (i:Nat),vs=[.ref wp]∧WAt a.Words H wp dw wl ts i∧(∀ x∈ts,jZ x)∧ts.length≤1000∧((ts.drop i=(["kind","not",":","now","by","1","mail"]:List Str)∧∀ r d fs H',But wp H H'→H r=none→H' r=some (.ins a.Line d fs)→WAt a.Words H' wp dw wl ts (i+7)→Q (.ref r) H')∨((ts.getD i ""="")∧∀ y H',But wp H H'→E (.ref a.NoText) (some y) H'))
def iJ (K:Frag)(a:Ad):Sp:=fun vs H Q E=>∃ (wp dw wl:Addr) (ts:List Str),vs=[.ref wp]∧WAt a.Words H wp dw wl ts 0∧(∀ x∈ts,jZ x)∧ts.length≤1000∧((wsG ts∧∀ v H',But wp H H'→WAt a.Words H' wp dw wl ts ts.length→Q v H')∨(wsB ts∧∀ cls y H',IsX a cls→But wp H H'→E cls y H'))
def kC (K:Frag)(a:Ad):Sp:=fun vs H Q E=>∃ x:V,vs=[x]∧((x=.str ""∧∀ v H',Same H H'→Q v H')∨(∃ ls,x=.str (Str.join nl1 ls)∧AS2 ls∧(((∀ l∈ls,jU l=true)∧∀ v H',Same H H'→Q v H')∨(∃ k,AS3 ls k∧∀ y H',Same H H'→H' y=some (.xd [("line",.int (k:Nat))])→E (.ref a.NoText) (some y) H')))∨(okK K (.type "str") H x false∧∀ y H',Same H H'→H' y=some (.xd [("line",.int 0)])→E (.ref a.NoText) (some y) H'))
def eV (K:Frag)(a:Ad):Sp:=fun vs H Q E=>∃ u:Str,vs=[.str u,.ref a.line_from_texts]∧vL u=true∧((jU u=true∧∀ v H',Same H H'→Q v H')∨(jU u=false∧∀ y H',Same H H'→E (.ref a.NoText) (some y) H'))
def dL (K:Frag)(a:Ad):Sp:=fun vs H Q E=>∃ (wp dw wl:Addr) (ts:List Str),vs=[.ref wp]∧WAt a.Words H wp dw wl ts 0∧WdP ts∧((∃ n,AY1 ts=some n∧∀ v H',But wp H H'→WAt a.Words H' wp dw wl ts n→Q v H')∨(AY1 ts=none∧∀ y H',But wp H H'→E (.ref a.NoText) (some y) H'))
def qX (K:Frag)(a:Ad):Sp:=fun vs H Q E=>∃ (wp dw wl:Addr) (ts:List Str),vs=[.ref wp]∧WAt a.Words H wp dw wl ts 1∧WdP ts∧((AO8 ts=true∧∀ v H',But wp H H'→WAt a.Words H' wp dw wl ts (ts.length)→Q v H')∨(AO8 ts=false∧∀ y H',But wp H H'→E (.ref a.NoText) (some y) H'))
def mY (K:Frag)(a:Ad):Sp:=fun vs H Q E=>∃ (wp dw wl:Addr) (ts:List Str) (i:Nat),vs=[.ref wp]∧WAt a.Words H wp dw wl ts i∧jZ (ts.getD i "")∧AZ4 (ts.getD i "")=true∧((fK (ts.getD i "")=true∧∀ v H',But wp H H'→WAt a.Words H' wp dw wl ts (i+1)→Q v H')∨(fK (ts.getD i "")=false∧∀ y H',But wp H H'→E (.ref a.NoText) (some y) H'))
def lL (K:Frag)(a:Ad):Sp:=fun vs H Q E=>∃ (wp dw wl:Addr) (ts:List Str),vs=[.ref wp]∧WAt a.Words H wp dw wl ts 0∧WdP ts∧((∃ n,AY0 ts=some n∧∀ v H',But wp H H'→WAt a.Words H' wp dw wl ts n→Q v H')∨(AY0 ts=none∧∀ y H',But wp H H'→E (.ref a.NoText) (some y) H'))
def eC (K:Frag)(a:Ad):Sp:=fun vs H Q E=>∃ (wp dw wl:Addr) (ts:List Str),vs=[.ref wp]∧WAt a.Words H wp dw wl ts 3∧WdP ts∧3≤ts.length∧AJ4 (ts.drop 3)=true∧((xK (ts.drop 3)=true∧∀ v H',But wp H H'→WAt a.Words H' wp dw wl ts (ts.length)→Q v H')∨(xK (ts.drop 3)=false∧∀ y H',But wp H H'→E (.ref a.NoText) (some y) H'))
def kY (K:Frag)(a:Ad):Sp:=fun vs H Q E=>∃ (b:Addr) (ns:List Int) (k:Int),vs=[.ref b,.int k]∧SqL K H b (ns.map V.int)∧0≤k∧∀ c,Q (.int c) H
def pD (K:Frag)(a:Ad):Sp:=fun vs H Q E=>∃ c:Int,vs=[.int c]∧∀ p a b c,H p=none→Q (.ref p) (upd H p (.lst [.int a,.int b,.int c]))
def gW (K:Frag)(a:Ad):Sp:=fun vs H Q E=>∃ (w:Addr) (m:Int),vs=[.ref w,.int m]∧Well3 H w∧0 < m∧m < 2 ^ 62∧∀ (r:Int) (H':Hp),0≤r→r < m→Well3 H' w→But w H H'→Q (.int r) H'
def qY (K:Frag)(a:Ad):Sp:=fun vs H Q E=>∃ w:Addr,vs=[.ref w]∧Well3 H w∧∀ (u:Str) (H':Hp),mQ u=true→Well3 H' w→But w H H'→Q (.str u) H'
def sT (K:Frag)(a:Ad):Sp:=fun vs H Q E=>∃ w:Addr,vs=[.ref w]∧Well3 H w∧∀ (u:Str) (H':Hp),AO9 u=true→Well3 H' w→But w H H'→Q (.str u) H'
def qZ (K:Frag)(a:Ad):Sp:=fun vs H Q E=>∃ (x:V) (r:Int),vs=[x]∧BE2 K H x r∧∀ H',Same H H'→Q (.int r) H'
def spL (K:Frag):Sp:=fun vs H Q _=>∃ (a:Addr) (ns:List Int),vs=[.ref a]∧SqL K H a (ns.map V.int)∧ns.length≤63∧∀ H',Q (.bl true) H'
abbrev AK0 (K:Frag)(_:Ad):Sp:=spL K
def jH (K:Frag)(a:Ad)(C:Addr)(sp:Sp):Prop:=C=a.Words∧sp=iW K a
def oI (K:Frag)(a:Ad)(C:Addr)(sp:Sp):Prop:=C=a.Words∧sp=mV K a
def iK (K:Frag)(a:Ad)(C:Addr)(sp:Sp):Prop:=C=a.Words∧sp=jF K a
def mZ (K:Frag)(a:Ad)(C:Addr)(sp:Sp):Prop:=C=a.Words∧sp=kT K a
def rA (K:Frag)(a:Ad)(C:Addr)(sp:Sp):Prop:=C=a.Words∧sp=kA K a
def fV (K:Frag)(a:Ad)(C:Addr)(sp:Sp):Prop:=C=a.Words∧sp=gR K a
def cU (K:Frag)(a:Ad)(C:Addr)(sp:Sp):Prop:=C=a.Words∧sp=fQ K a
def jI (K:Frag)(a:Ad)(C:Addr)(sp:Sp):Prop:=C=a.Words∧sp=gS K a
def kD (K:Frag)(a:Ad)(C:Addr)(sp:Sp):Prop:=C=a.Words∧sp=iA K a
def iL (K:Frag)(a:Ad)(C:Addr)(sp:Sp):Prop:=C=a.Words∧sp=fR K a
def nA (K:Frag)(a:Ad)(C:Addr)(sp:Sp):Prop:=C=a.Words∧sp=gT K a
def kE (K:Frag)(a:Ad)(C:Addr)(sp:Sp):Prop:=C=a.Words∧sp=iB K a
def pE (K:Frag)(a:Ad)(C:Addr)(sp:Sp):Prop:=C=a.Words∧sp=iC K a
section
variable {P:Program}{w:World}{K:Frag}{mg:Str→Option Value}{base:Heap}{f:Addr}{fd:FuncData}{a:Ad}
theorem AZ5 {H:Hp}{w:Addr}{m:Int}{Q:VK}{E:XK}(W:Well3 H w)(h0:0 < m)(h1:m < 2 ^ 62)(q:∀ (r:Int) (H':Hp),0≤r→r < m→Well3 H' w→But w H H'→Q (.int r) H'):gW K a [.ref w,.int m] H Q E:=⟨w,m,rfl,W,h0,h1,q⟩
theorem xM (B:Bt K mg a)(F:Fun K "is_whole" "is_whole" fY f fd):FnOk P w K mg base CX0 1 f fd ["thing"] (lK K a):=by
 refine F.ok xL (by walk_at "ln") fun cdv A outer s H vs Q E hr h=>?_
 obtain ⟨x,rfl,⟨t,ty,ki,kb⟩,q⟩:=h
 refine ⟨_,(aY (aJ (aZ (aQ (pZ (aV (jD (K:=K) (T:="int") rfl) rfl B.isinstance PyProof.Rows.boot_isinstance (aK (aS (pv 0) (aS (gM (v:=.ty "int") rfl B.int PyProof.Rows.boot_int rfl) aF))) (he:=aG _ _ _ rfl) (hpl:=aH rfl)) (sC (AQ2 (aV (jD (K:=K) (T:="bool") rfl) rfl B.isinstance PyProof.Rows.boot_isinstance (aK (aS (pv 0) (aS (gM (v:=.ty "bool") rfl B.bool PyProof.Rows.boot_bool rfl) aF))) (he:=aG _ _ _ rfl) (hpl:=aH rfl))))))))),?_⟩
 nofun
 refine ⟨x,t,_,rfl,ty,ki,?_⟩
 nofun
 cases x <;> try simp only [AQ8,yR,AT5,AD3,AT6,AT7,AD4,AD5,AT8,wK,AD6,AT9,w_c,BG7,BG8,BG9,AU0,BH0,AD7,w_b,AU1,BH1,w_not,AD8,AU2,AD9,BH2,AE0,AU3,AU4,AU5,AE1,BH3,BH4,BH5,AU6,AE2,BI1,AE3,tH,AE4,w_K,wO,AV4,BI6,AW3,wR,AV6,wS,wT,wU,BJ1,AV7,AF6,AV8,AF7,AG0,wV,wW,AG3,AW1,AG4,wX,AG6,AG5,wY,tM,AJ0,tS,xG,AJ3,AI8,xI,AJ1,tO,xC,AI3,tQ,AI5,AI7,BI7,AW5,wZ,Option.getD_some, exists_const,false_or,or_false,exists_false,BH6,BH7,BH8,BH9,BI0,L2.uY,List.map_cons,List.map_nil,List.length_cons,List.length_nil,List.replicate,List.replicate_zero,List.replicate_succ,Nat.reduceAdd,Nat.reduceSub,Nat.reduceLeDiff,List.cons_append,List.nil_append,List.append_nil,List.set_cons_zero,List.set_cons_succ,List.getElem?_cons_zero,List.getElem?_cons_succ,Option.some.injEq,V.int.injEq,V.bl.injEq,V.ref.injEq,V.str.injEq,V.ty.injEq,List.cons.injEq,and_true,true_and,exists_eq_left,exists_eq_left',exists_and_left,exists_eq,exists_eq',and_self,decide_eq_true_eq,Bool.not_eq_true',decide_eq_false_iff_not,Bool.true_eq_false,Bool.false_eq_true,if_true,if_false,ite_true,ite_false,false_and,and_false,and_assoc,reduceCtorEq] at * <;> first | exact q | exact ⟨_,t,_,rfl,ty,kb,q⟩ | (refine ⟨_,t,_,rfl,ty,kb,?_⟩; simpa [AD2] using q)
theorem pK (B:Bt K mg a)(gL:CalX P w K mg base "is_whole" ["thing"] 1 (lK K a))(F:Fun K "is_whole_from" "is_whole_from" cZ f fd):FnOk P w K mg base CX0 2 f fd ["thing","least"] (jR K a):=by
 refine F.ok pH (by walk_at "ln") fun cdv A outer s H vs Q E hr h=>?_
 obtain ⟨x,lo,rfl,ox,q⟩:=h
 refine ⟨_,(aY (aJ (aZ (aQ (pZ (pc gL hr rfl (aK (aS (pv 0) aF))) (sC (iF AT0 (pv 1) (pv 0) (bF _)))))))),?_⟩
 nofun
 refine ⟨x,rfl,ox,?_⟩
 cases x <;> simp_all [yR,AW2]
theorem zW (B:Bt K mg a)(F:Fun K "is_name" "is_name" iU f fd):FnOk P w K mg base CX0 1 f fd ["thing"] (kO K a):=by
 refine F.ok zV (by walk_at "ln") fun cdv A outer s H vs Q E hr h=>?_
 obtain ⟨x,rfl,ox,q⟩:=h
 refine ⟨_,(aY (aB (bM (L2.PW.pt (kZ (cX (bL (aV vH rfl B.isinstance PyProof.Rows.boot_isinstance (aK (aS (pv 0) (aS (gM (v:=.ty "str") rfl B.str PyProof.Rows.boot_str rfl) aF))) (he:=aG _ _ _ rfl) (hpl:=aH rfl)))) (kZ (bC zG (aV hR rfl B.len PySem.boot_len (aK (aS (pv 0) aF))) aW (bF _)) (iO (bC zH (aV hR rfl B.len PySem.boot_len (aK (aS (pv 0) aF))) (bS (v:=.int 8) rfl B.MOST_LETTERS ⟨_,rfl⟩) (bF _)))))) (aJ (aZ (aQ nV))) aT) (aJ (aZ (aQ (aV (pW rfl) rfl B.all PyProof.Rows.boot_all (aK (aS (pV ["sign"] [none] rfl (by kernel_rfl) (AR5 (pv 0)) (fun cl C s H fp=>⟨(jV (i:=0) (by decide:List.Nodup (["sign"]:List Str)) rfl (Or.inl (by kernel_rfl)) (Or.inr (by kernel_rfl))),tK,(iF uS (pv 0 (hv:=Or.inl (by kernel_rfl))) (bS (v:=.str "abcdefghijklmnopqrstuvwxyz") (AF8 (by kernel_rfl)) B.LETTERS ⟨_,rfl⟩) (by with_unfolding_all rfl))⟩)) aF)) (he:=aG _ _ _ rfl) (hpl:=aH rfl))))))),?_⟩
 cases x with
 | str u =>
  obtain ⟨hp,hl⟩:=id ox
  exists qP
  refine ⟨ox,sz8 hl,?_⟩
  by_cases h1:((u.length:Nat):Int) < 1
  ·rw [if_pos h1]
   have e:iT (.str u)=false:=decide_eq_false fun g=>by have:=g.1; omega
   rw [e] at q
   exact q _ fun _ _ z=>z
  rw [if_neg h1]
  refine ⟨sz8 hl,?_⟩
  by_cases h2:(8:Int) < ((u.length:Nat):Int)
  ·rw [if_pos h2]
   have e:iT (.str u)=false:=decide_eq_false fun g=>by have:=g.2.1; omega
   rw [e] at q
   exact q _ fun _ _ z=>z
  rw [if_neg h2]
  refine ⟨hp,?_⟩
  refine CompS.by (fun i acc σ H'=>acc=(u.cps.toList.take i).map (fun c=>V.bl (!(Builtin.Str.occurrences letters ⟨#[c]⟩ 0 letters.length 1).isEmpty))∧(∃ v,σ=[v])∧H'=H) (sz8 hl) ⟨rfl,⟨_,rfl⟩,rfl⟩ ?_ ?_ ?_
  ·rintro i c acc σ H' hc ⟨rfl,⟨v,rfl⟩,rfl⟩
   have hc':u.cps.toList[i]?=some c:=by simpa using hc
   have ea:(u.cps.toList.take i).map (fun c=>V.bl (!(Builtin.Str.occurrences letters ⟨#[c]⟩ 0 letters.length 1).isEmpty))++[V.bl (!(Builtin.Str.occurrences letters ⟨#[c]⟩ 0 letters.length 1).isEmpty)]=(u.cps.toList.take (i+1)).map (fun c=>V.bl (!(Builtin.Str.occurrences letters ⟨#[c]⟩ 0 letters.length 1).isEmpty)):=by
    rw [List.take_succ,hc',List.map_append]
    rfl
   nofun
   first | exact ea | exact ⟨ea,⟨_,rfl⟩,rfl⟩
  ·rintro i acc σ H' ⟨rfl,_,_⟩
   rw [List.length_map,List.length_take]
   omega
  ·rintro acc σ H' ⟨rfl,⟨v,rfl⟩,rfl⟩ D hD
   have e:(u.cps.toList.take u.cps.size).map (fun c=>V.bl (!(Builtin.Str.occurrences letters ⟨#[c]⟩ 0 letters.length 1).isEmpty))=(u.cps.toList.map fun c=>!(Builtin.Str.occurrences letters ⟨#[c]⟩ 0 letters.length 1).isEmpty).map V.bl:=by
    rw [List.take_of_length_le (by simp),List.map_map]
    rfl
   rw [e]
   refine ⟨D,rfl,_,SqL.of aC,?_⟩
   have e2:iT (.str u)=decide (∀ c∈u.cps.toList,97≤c∧c≤122):=by
    rw [Bool.eq_iff_iff]
    refine ⟨fun g=>?_,fun g=>?_⟩
    ·have g':jS u:=of_decide_eq_true g
     exact decide_eq_true g'.2.2
    ·exact decide_eq_true (p:=jS u) ⟨by omega,by omega,of_decide_eq_true g⟩
   rw [AN6 hp,← e2]
   exact q _ (aE hD _)
 | non =>
  exists qP
  exact ⟨ox,q _ fun _ _ z=>z⟩
 | bl b =>
  exists qP
  exact ⟨ox,q _ fun _ _ z=>z⟩
 | int b =>
  exists qP
  exact ⟨ox,q _ fun _ _ z=>z⟩
 | ref b =>
  exists qP
  exact ⟨ox,q _ fun _ _ z=>z⟩
 | _=>exact ox.elim
theorem nB (B:Bt K mg a)(F:FunA K "__init__" "NoText.__init__" aX f fd):FnOk P w K mg base CX0 1 f fd ["self","line"] (hZ K a):=by
 refine FunA.ok F hV (fun vs H Q E h=>?_) (fun cdv A outer s H vs Q E hr h=>?_)
 ·obtain ⟨e,y,rfl,_⟩:=h
  rfl
 obtain ⟨e,y,rfl,he,q⟩:=h
 refine ⟨_,(aY (aJ (bN (AI0 (pv 0) (pv 1) rfl)))),?_⟩
 nofun
 obtain ⟨cdR,xs⟩:=B.xs
 exact ⟨_,he,_,xs,B.xmo,B.xna,q⟩
theorem sU (B:Bt K mg a)(F:FunA K "__init__" "NoText.__init__" aX f fd):FnOkH P w K mg base (CXF P w) 1 f fd ["self","line"] (hZ K a):=by
 refine BD2 F hV (fun vs H Q E h=>?_) (fun cdv A outer s H vs Q E h=>?_)
 ·obtain ⟨e,y,rfl,_⟩:=h
  rfl
 obtain ⟨e,y,rfl,he,q⟩:=h
 refine ⟨_,(aY (aJ (bN (AI0 (pv 0) (pv 1) rfl)))),?_⟩
 nofun
 obtain ⟨cdR,xs⟩:=B.xs
 exact ⟨_,he,_,xs,B.xmo,B.xna,q⟩
def figs:Str:="0123456789"
theorem AK1 {c:Nat}(h:c < 128):(!(Builtin.Str.occurrences figs ⟨#[c]⟩ 0 figs.length 1).isEmpty)=decide (48≤c∧c≤57):=by
 have q:∀ k:Fin 128,(!(Builtin.Str.occurrences figs ⟨#[k.val]⟩ 0 figs.length 1).isEmpty)=decide (48≤k.val∧k.val≤57):=by decide +kernel
 exact q ⟨c,h⟩
theorem AP0 {u:Str}(h:iS u=true):(u.cps.toList.map fun c=>!(Builtin.Str.occurrences figs ⟨#[c]⟩ 0 figs.length 1).isEmpty).all id=decide (∀ c∈u.cps.toList,48≤c∧c≤57):=by
 rw [Bool.eq_iff_iff,List.all_eq_true,decide_eq_true_eq]
 constructor
 ·intro z c hc
  have q:=z _ (List.mem_map.mpr ⟨c,hc,rfl⟩)
  rw [AK1 (plain_iff.mp h c hc)] at q
  simpa using q
 ·intro z x hx
  obtain ⟨c,hc,rfl⟩:=List.mem_map.mp hx
  rw [AK1 (plain_iff.mp h c hc)]
  exact decide_eq_true (z c hc)
theorem tY (B:Bt K mg a)(F:Fun K "is_figures" "is_figures" eH f fd):FnOk P w K mg base CX0 1 f fd ["word"] (mU K a):=by
 refine F.ok tT (by walk_at "ln") fun cdv A outer s H vs Q E hr h=>?_
 obtain ⟨u,rfl,hp,hl,q⟩:=h
 refine ⟨_,(aY (aB (bM (L2.PW.pt (kZ (bC zG (aV hR rfl B.len PySem.boot_len (aK (aS (pv 0) aF))) aW (bF _)) (kZ (bC zH (aV hR rfl B.len PySem.boot_len (aK (aS (pv 0) aF))) (bS (v:=.int 60) rfl B.MOST_FIGURES ⟨_,rfl⟩) (bF _)) (iO (cX (bL (aV (pW rfl) rfl B.all PyProof.Rows.boot_all (aK (aS (pV ["sign"] [none] rfl (by kernel_rfl) (AR5 (pv 0)) (fun cl C s H fp=>⟨(jV (i:=0) (by decide:List.Nodup (["sign"]:List Str)) rfl (Or.inl (by kernel_rfl)) (Or.inr (by kernel_rfl))),tK,(iF uS (pv 0 (hv:=Or.inl (by kernel_rfl))) (bS (v:=.str "0123456789") (AF8 (by kernel_rfl)) B.FIGURES ⟨_,rfl⟩) (by with_unfolding_all rfl))⟩)) aF)) (he:=aG _ _ _ rfl) (hpl:=aH rfl)))))))) (aJ (aZ (aQ nV))) aT) (aJ (aZ (aQ (BF7 (iF iQ (pv 0) bE (bF _)) (sC (AQ2 (lB PySem.F.plainAttrs_str PySem.F.slot_str_startswith PySem.F.type_str_startswith mM (pv 0) (aK (aS bE aF))))))))))),?_⟩
 have e0:¬ (1≤u.length∧u.length≤60∧∀ c∈u.cps.toList,48≤c∧c≤57)→AL3 u=false:=fun z=>by unfold AL3; rw [decide_eq_false z]; rfl
 nofun
 refine ⟨sz8 hl,?_⟩
 by_cases h1:((u.length:Nat):Int) < 1
 ·rw [if_pos h1]
  rw [e0 (fun z=>by have:=z.1; omega)] at q
  exact q _ fun _ _ z=>z
 rw [if_neg h1]
 refine ⟨sz8 hl,?_⟩
 by_cases h2:(60:Int) < ((u.length:Nat):Int)
 ·rw [if_pos h2]
  rw [e0 (fun z=>by have:=z.2.1; omega)] at q
  exact q _ fun _ _ z=>z
 rw [if_neg h2]
 refine ⟨hp,?_⟩
 refine CompS.by (fun i acc σ H'=>acc=(u.cps.toList.take i).map (fun c=>V.bl (!(Builtin.Str.occurrences figs ⟨#[c]⟩ 0 figs.length 1).isEmpty))∧(∃ v,σ=[v])∧H'=H) (sz8 hl) ⟨rfl,⟨_,rfl⟩,rfl⟩ ?_ ?_ ?_
 ·rintro i c acc σ H' hc ⟨rfl,⟨v,rfl⟩,rfl⟩
  have hc':u.cps.toList[i]?=some c:=by simpa using hc
  have ea:(u.cps.toList.take i).map (fun c=>V.bl (!(Builtin.Str.occurrences figs ⟨#[c]⟩ 0 figs.length 1).isEmpty))++[V.bl (!(Builtin.Str.occurrences figs ⟨#[c]⟩ 0 figs.length 1).isEmpty)]=(u.cps.toList.take (i+1)).map (fun c=>V.bl (!(Builtin.Str.occurrences figs ⟨#[c]⟩ 0 figs.length 1).isEmpty)):=by
   rw [List.take_succ,hc',List.map_append]
   rfl
  nofun
  first | exact ea | exact ⟨ea,⟨_,rfl⟩,rfl⟩
 ·rintro i acc σ H' ⟨rfl,_,_⟩
  rw [List.length_map,List.length_take]
  omega
 ·rintro acc σ H' ⟨rfl,⟨v,rfl⟩,rfl⟩ D hD
  have e:(u.cps.toList.take u.cps.size).map (fun c=>V.bl (!(Builtin.Str.occurrences figs ⟨#[c]⟩ 0 figs.length 1).isEmpty))=(u.cps.toList.map fun c=>(!(Builtin.Str.occurrences figs ⟨#[c]⟩ 0 figs.length 1).isEmpty)).map V.bl:=by
   rw [List.take_of_length_le (by simp),List.map_map]
   rfl
  rw [e]
  refine ⟨D,rfl,_,SqL.of aC,?_⟩
  have S2:=aE hD (.lst ((u.cps.toList.map fun c=>(!(Builtin.Str.occurrences figs ⟨#[c]⟩ 0 figs.length 1).isEmpty)).map V.bl))
  generalize upd H' D (.lst ((u.cps.toList.map fun c=>(!(Builtin.Str.occurrences figs ⟨#[c]⟩ 0 figs.length 1).isEmpty)).map V.bl))=H2 at *
  rw [AP0 hp]
  by_cases c:∀ c∈u.cps.toList,48≤c∧c≤57
  ·rw [decide_eq_true c]
   have e2:AL3 u=(decide (u="0") || !Txt.startswith u "0"):=by unfold AL3; rw [decide_eq_true ⟨by omega,by omega,c⟩,Bool.true_and]
   exists Bool.not_true
   rw [e2] at q
   by_cases z:u="0"
   ·rw [decide_eq_true z,Bool.true_or] at q
    rw [if_pos z]
    exact q _ S2
   ·rw [decide_eq_false z,Bool.false_or] at q
    rw [if_neg z]
    exact q _ S2
  ·rw [decide_eq_false c]
   rw [e0 (fun z=>c z.2.2)] at q
   exists Bool.not_false
   exact q _ S2
theorem vQ (B:Bt K mg a)(iD:CalX P w K mg base "is_figures" ["word"] 1 (mU K a))(F:Fun K "is_number" "is_number" fB f fd):FnOk P w K mg base CX0 2 f fd ["word"] (pC K a):=by
 refine F.ok vM (by walk_at "ln") fun cdv A outer s H vs Q E hr h=>?_
 obtain ⟨u,rfl,hp,hl,q⟩:=h
 refine ⟨_,(aY (aB (bM (bL (lB PySem.F.plainAttrs_str PySem.F.slot_str_startswith PySem.F.type_str_startswith mM (pv 0) (aK (aS bE aF)))) (aJ (aZ (aQ (pZ (pc iD hr rfl (aK (aS (pS BC6 (pv 0) (lA aW) AT2) aF))) (sC (iF nW (pv 0) bE (bF _))))))) aT) (aJ (aZ (aQ (pc iD hr rfl (aK (aS (pv 0) aF)))))))),?_⟩
 nofun
 cases c:Txt.startswith u "-" with
 | true =>
  have e:kS u=(AL3 (Txt.slice u (some 1) none) && !decide (u="-0")):=by unfold kS; rw [if_pos c]
  rw [e] at q
  rw [if_pos rfl]
  refine ⟨sz8 hl,_,rfl,?_,Nat.le_trans (Txt.slice_le u _ _) hl,fun H1 S1=>?_⟩
  ·rw [plain_iff]
   intro c hc
   exact plain_iff.mp hp c (AG7 hc)
  cases d:AL3 (Txt.slice u (some 1) none) with
  | true =>
   rw [d,Bool.true_and] at q
   nofun
   exact q _ S1
  | false =>
   rw [d,Bool.false_and] at q
   nofun
   exact q _ S1
 | false =>
  have e:kS u=AL3 u:=by unfold kS; rw [if_neg (by rw [c]; decide)]
  rw [e] at q
  rw [if_neg (by decide)]
  exact ⟨u,rfl,hp,hl,q⟩
theorem oJ (B:Bt K mg a)(bB:CalI P w K mg base "NoText" a.NoText "line" 1 (.int 0))(F:Fun K "__init__" "Words.__init__" cM f fd):FnOk P w K mg base (CXF P w) 3 f fd ["self","text"] (dB K a):=by
 refine Fun.okX F oF (fun vs H Q E h=>?_) (fun cdv A outer s H vs Q E hr h=>?_)
 ·obtain ⟨p,dx,x,rfl,_⟩:=h
  rfl
 obtain ⟨p,dx,x,rfl,hp,q⟩:=h
 refine ⟨_,(aY (aB (bM (cX (bL (aV (jD (K:=K) (T:="str") rfl) rfl B.isinstance PyProof.Rows.boot_isinstance (aK (aS (pv 1) (aS (gM (v:=.ty "str") rfl B.str PyProof.Rows.boot_str rfl) aF))) (he:=aG _ _ _ rfl) (hpl:=aH rfl)))) (cL (fL (dZ (R:=fun dx H9=>E (.ref a.NoText) (some dx) H9) bB rfl rfl (hr.mono (by decide)) iG))) aT) (aB (bN (jQ (pv 0) (lB PySem.F.plainAttrs_str PySem.F.slot_str_split PySem.F.type_str_split yV (pv 1) (aK (aS bE aF))) rfl)) (aJ (bN (jQ (pv 0) aW rfl)))))),?_⟩
 nofun
 rcases q with ⟨u,rfl,hl,hz,q⟩ | ⟨⟨t,ty,e⟩,q⟩
 ·refine ⟨_,_,true,rfl,.str u,by kernel_rfl,?_⟩
  exists Bool.not_true
  refine ⟨by decide,Nat.le_trans (by omega) (show (200002:Nat)≤sizeLine by decide),by exact sz8 hz,fun l hl1=>?_⟩
  have nl:p≠l:=aR hp hl1
  have hp1:upd H l (.lst ((Txt.split u sp1).map V.str)) p=some (.ins a.Words dx []):=by rw [aI nl]; exact hp
  refine ⟨_,_,_,hp1,B.ck_Words.cl,B.na_Words_words,by decide,_,_,_,aC,B.ck_Words.cl,B.na_Words_at,(show 1 < 1000 by decide),?_⟩
  refine q l _ hl1 (fun b o n e=>?_) ⟨aC,?_⟩
  ·rw [aI n,aI n,aI (aR e hl1)]
   exact e
  ·rw [aI nl.symm,aI nl.symm]
   exact aC
 ·refine ⟨_,_,false,rfl,ty,e,?_⟩
  exists Bool.not_false
  exact fun y hy=>q y _ (aE hy _) aC
theorem oK (B:Bt K mg a)(F:Fun K "is_ended" "Words.is_ended" cN f fd):FnOk P w K mg base CX0 1 f fd ["self"] (iW K a):=by
 refine F.ok oG (by walk_at "ln") fun cdv A outer s H vs Q E hr h=>?_
 obtain ⟨wp,dw,wl,ts,i,rfl,W,q⟩:=h
 refine ⟨_,(aY (aJ (aZ (aQ (iF iQ (iR (pv 0) rfl) (aV bI rfl B.len PySem.boot_len (aK (aS (iR (pv 0) rfl) aF))) (bF _)))))),?_⟩
 nofun
 refine ⟨_,_,_,W.w,B.ck_Words.cl,B.na_Words_at,.int i,rfl,?_⟩
 nofun
 refine ⟨_,_,_,W.w,B.ck_Words.cl,B.na_Words_words,.ref wl,rfl,?_⟩
 refine ⟨wl,rfl,_,.inl (SqL.of W.l),?_⟩
 exists List.length_map
 exact q
theorem tZ (B:Bt K mg a)(F:Fun K "look" "Words.look" eI f fd):FnOk P w K mg base CX0 1 f fd ["self"] (mV K a):=by
 refine F.ok tU (by walk_at "ln") fun cdv A outer s H vs Q E hr h=>?_
 obtain ⟨wp,dw,wl,ts,i,rfl,W,q⟩:=h
 refine ⟨_,(aY (aJ (aZ (aQ (pR (bC zG (iR (pv 0) rfl) (aV bI rfl B.len PySem.boot_len (aK (aS (iR (pv 0) rfl) aF))) (bF _)) (mG gO (iR (pv 0) rfl) (iR (pv 0) rfl) (fun _ _=>rfl)) bE))))),?_⟩
 nofun
 refine ⟨_,_,_,W.w,B.ck_Words.cl,B.na_Words_at,.int i,rfl,?_⟩
 nofun
 refine ⟨_,_,_,W.w,B.ck_Words.cl,B.na_Words_words,.ref wl,rfl,?_⟩
 refine ⟨wl,rfl,_,.inl (SqL.of W.l),?_⟩
 exists List.length_map
 by_cases c:i < ts.length
 ·rw [if_pos (by omega)]
  refine ⟨_,_,_,W.w,B.ck_Words.cl,B.na_Words_words,.ref wl,rfl,?_⟩
  nofun
  refine ⟨_,_,_,W.w,B.ck_Words.cl,B.na_Words_at,.int i,rfl,?_⟩
  refine ixl (SqL.of W.l) (v:=.str (ts.getD i "")) ?_ q
  refine wH ?_
  rw [List.getElem?_map,List.getD_eq_getElem?_getD,List.getElem?_eq_getElem c]
  rfl
 ·rw [if_neg (by omega)]
  rw [(jE (by omega)).1] at q
  exact q
theorem uA (B:Bt K mg a)(eE:∀ C sp,oI K a C sp→CalM P w K mg base C "look" ["self"] 1 sp)(F:Fun K "take" "Words.take" dN f fd):FnOk P w K mg base CX0 2 f fd ["self"] (jF K a):=by
 refine F.ok sc_Words_take (by walk_at "ln") fun cdv A outer s H vs Q E hr h=>?_
 obtain ⟨wp,dw,wl,ts,i,rfl,W,q⟩:=h
 refine ⟨_,(aY (aB (aU (i:=1) sc_Words_take.nd rfl (Or.inl rfl) (aQ (aN (pv 0) eE pB (hr.mono (by decide)))) (by kernel_rfl)) (aB (bN (qG (pv 0) aW yF)) (aJ (aZ (aQ (pv 1))))))),?_⟩
 nofun
 refine ⟨_,_,_,W.w,rfl,_,⟨rfl,rfl⟩,wp,dw,wl,ts,i,rfl,W,?_⟩
 nofun
 refine ⟨_,_,_,W.w,B.ck_Words.cl,B.na_Words_at,.int i,rfl,?_⟩
 nofun
 refine ⟨_,_,W.w,(show 2 < 1000 by decide),?_⟩
 exact q
theorem lM (B:Bt K mg a)(dF:∀ C sp,jH K a C sp→CalM P w K mg base C "is_ended" ["self"] 1 sp)(bB:CalI P w K mg base "NoText" a.NoText "line" 1 (.int 0))(F:Fun K "expect_end" "Words.expect_end" bW f fd):FnOk P w K mg base (CXF P w) 3 f fd ["self"] (gR K a):=by
 refine Fun.okX F lI (fun vs H Q E h=>?_) (fun cdv A outer s H vs Q E hr h=>?_)
 ·obtain ⟨wp,dw,wl,ts,i,rfl,_⟩:=h
  rfl
 obtain ⟨wp,dw,wl,ts,i,rfl,W,q⟩:=h
 refine ⟨_,(aY (aJ (bM (cX (bL (aN (pv 0) dF dE (hr.mono (by decide))))) (cL (fL (dZ (R:=fun dx H9=>E (.ref a.NoText) (some dx) H9) bB rfl rfl (hr.mono (by decide)) iG))) aT))),?_⟩
 nofun
 refine ⟨_,_,_,W.w,rfl,_,⟨rfl,rfl⟩,wp,dw,wl,ts,i,rfl,W,?_⟩
 nofun
 rcases q with ⟨e,q⟩ | ⟨e,q⟩
 ·rw [if_neg (by omega)]
  exact q
 ·rw [if_pos (by omega)]
  exact fun y hy=>q y _ (aE hy _) aC
theorem kP (B:Bt K mg a)(cV:∀ C sp,iK K a C sp→CalM P w K mg base C "take" ["self"] 2 sp)(lV:CalX P w K mg base "is_number" ["word"] 2 (pC K a))(bB:CalI P w K mg base "NoText" a.NoText "line" 1 (.int 0))(F:Fun K "take_number" "Words.take_number" bO f fd):FnOk P w K mg base (CXF P w) 3 f fd ["self"] (fQ K a):=by
 refine Fun.okX F sc_Words_take_number (fun vs H Q E h=>?_) (fun cdv A outer s H vs Q E hr h=>?_)
 ·obtain ⟨wp,dw,wl,ts,i,rfl,_⟩:=h
  rfl
 obtain ⟨wp,dw,wl,ts,i,rfl,W,ht,q⟩:=h
 refine ⟨_,(aY (aB (aU (i:=1) sc_Words_take_number.nd rfl (Or.inl rfl) (aQ (aN (pv 0) cV dE (hr.mono (by decide)))) (by kernel_rfl)) (aB (bM (cX (bL (eT lV (hr.mono (by decide)) rfl (aK (aS (pv 1) aF)) (he:=aG _ _ _ rfl) (hpl:=aH rfl)))) (cL (fL (dZ (R:=fun dx H9=>E (.ref a.NoText) (some dx) H9) bB rfl rfl (hr.mono (by decide)) iG))) aT) (aJ (aZ (aQ (gN tP rfl B.int PyProof.Rows.boot_int (aK (aS (pv 1) aF))))))))),?_⟩
 nofun
 refine ⟨_,_,_,W.w,rfl,_,⟨rfl,rfl⟩,wp,dw,wl,ts,i,rfl,W,?_⟩
 have W1:=W.take (i+1)
 have B1:But wp H (upd H wp (.ins a.Words dw (bA wl (i+1)))):=But.upd _
 generalize upd H wp (.ins a.Words dw (bA wl (i+1)))=H1 at *
 nofun
 refine ⟨_,rfl,ht.1,by have:=ht.2.1; omega,fun H2 S2=>?_⟩
 nofun
 rcases q with ⟨e,q⟩ | ⟨e,q⟩
 ·exists e,Bool.not_true
  obtain ⟨n,hn⟩:=ht.2.2 e
  have e2:wE (ts.getD i "")=n:=by unfold wE; rw [hn]; rfl
  refine ⟨n,hn,by have:=ht.2.1; omega,?_⟩
  rw [← e2]
  exact q _ (B1.trans (Same.but S2)) (W1.same S2)
 ·exists e,Bool.not_false
  exact fun y hy=>q y _ (B1.trans (Same.but (S2.trans (aE hy _))))
theorem sV {ts:List Str}{i k:Nat}(h:k=i)(c:jS (ts.getD i "")):((ts.drop i).takeWhile fun u=>decide (jS u))=ts.getD i ""::((ts.drop (i+1)).takeWhile fun u=>decide (jS u)):=by
 by_cases hi:i < ts.length
 ·rw [xE hi,List.takeWhile_cons,decide_eq_true c,if_pos rfl]
 ·rw [(jE (by omega)).1] at c
  exact absurd c (by decide)
theorem vR {ts:List Str}{i:Nat}(c:¬ jS (ts.getD i "")):((ts.drop i).takeWhile fun u=>decide (jS u))=[]:=by
 by_cases hi:i < ts.length
 ·rw [xE hi,List.takeWhile_cons,decide_eq_false c]
  rfl
 ·rw [(jE (by omega)).2]
  rfl
def BE3 (a:Ad)(H:Hp)(wp dw wl l:Addr)(ts:List Str)(i:Nat)(σ:L2.St)(H1:Hp):Prop:=∃ (us:List Str) (k:Nat),σ=[some (.ref wp),some (.ref l)]∧But wp H H1∧WAt a.Words H1 wp dw wl ts k∧H1 l=some (.lst (us.map V.str))∧us.length≤k∧k=i+us.length∧k≤i+ts.length∧(i≤ts.length→k≤ts.length)∧us++((ts.drop k).takeWhile fun u=>decide (jS u))=((ts.drop i).takeWhile fun u=>decide (jS u))
theorem AY5 {ts:List Str}{i:Nat}(c:jS (ts.getD i "")):i < ts.length:=by
 by_cases hi:i < ts.length
 ·exact hi
 ·rw [(jE (by omega)).1] at c
  exact absurd c (by decide)
theorem lN (B:Bt K mg a)(eW:CalX P w K mg base "is_name" ["thing"] 1 (kO K a))(eE:∀ C sp,oI K a C sp→CalM P w K mg base C "look" ["self"] 1 sp)(cV:∀ C sp,iK K a C sp→CalM P w K mg base C "take" ["self"] 2 sp)(F:Fun K "take_names" "Words.take_names" bY f fd):FnOk P w K mg base CX0 3 f fd ["self"] (gT K a):=by
 refine F.ok sc_Words_take_names (by walk_at "ln") fun cdv A outer s H vs Q E hr h=>?_
 obtain ⟨wp,dw,wl,ts,i,rfl,W,hT,hl,q⟩:=h
 refine ⟨_,(aY (aB (aU (i:=1) sc_Words_take_names.nd rfl (Or.inl rfl) (mK aF) (by kernel_rfl)) (aB (bN (kJ PassesOwn.never (bL (pc eW hr rfl (aK (aS (aN (pv 0) eE pB (hr.mono (by decide))) aF)))) (aY (aJ (bN (cY (lB PySem.F.plainAttrs_list PySem.F.slot_list_append PySem.F.type_list_append gP (pv 1) (aK (aS (aN (pv 0) cV pB (hr.mono (by decide))) aF))))))))) (aJ (aZ (aQ (pv 1))))))),?_⟩
 nofun
 refine ⟨Nat.zero_le _,fun l hl0=>?_⟩
 have S0:=aE hl0 (.lst [])
 have nl:l≠wp:=fun z=>by rw [z,W.w] at hl0; cases hl0
 have nl2:l≠wl:=fun z=>by rw [z,W.l] at hl0; cases hl0
 refine whl (BE3 a H wp dw wl l ts i) (fun _ H1=>3000+i - zE wp H1) ⟨[],i,rfl,Same.but S0,W.same S0,aC,Nat.zero_le _,rfl,by omega,fun h=>h,by rw [List.nil_append]⟩ ?_
 rintro σ H1 ⟨us,k,rfl,B1,W1,e1,l1,ek,lk,lk2,eq⟩
 nofun
 refine ⟨_,_,_,W1.w,rfl,_,⟨rfl,rfl⟩,wp,dw,wl,ts,k,rfl,W1,?_⟩
 refine ⟨_,rfl,AJ9 (aO hT k),fun H2 S2=>?_⟩
 have B2:=B1.trans (Same.but S2)
 have W2:=W1.same S2
 have e2:=S2 _ _ e1
 nofun
 by_cases c:jS (ts.getD k "")
 ·have cn:iT (.str (ts.getD k ""))=true:=decide_eq_true c
  rw [cn,if_pos rfl]
  have kl:=AY5 c
  refine ⟨fun σ' H'=>BE3 a H wp dw wl l ts i σ' H'∧3000+i - zE wp H' < 3000+i - zE wp H1,fun σ' H' h=>⟨_,h.2,rfl,h.1⟩,?_⟩
  nofun
  refine ⟨.inl ⟨rfl,_,SqL.of e2⟩,?_⟩
  nofun
  refine ⟨_,_,_,W2.w,rfl,_,⟨rfl,rfl⟩,wp,dw,wl,ts,k,rfl,W2,?_⟩
  have W3:=W2.take (k+1)
  have B3:But wp H (upd H2 wp (.ins a.Words dw (bA wl (k+1)))):=B2.trans (But.upd _)
  have e3:upd H2 wp (.ins a.Words dw (bA wl (k+1))) l=some (.lst (us.map V.str)):=by rw [aI nl]; exact e2
  generalize upd H2 wp (.ins a.Words dw (bA wl (k+1)))=H3 at *
  refine ⟨l,_,_,rfl,rfl,e3,?_,?_⟩
  ·rw [List.length_map]
   exact Nat.lt_of_le_of_lt (show us.length≤1000 by omega) (by decide)
  have W4:WAt a.Words (upd H3 l (.lst (us.map V.str++[.str (ts.getD k "")]))) wp dw wl ts (k+1):=⟨by rw [aI nl.symm]; exact W3.w,by rw [aI nl2.symm]; exact W3.l⟩
  refine ⟨⟨us++[ts.getD k ""],k+1,rfl,fun b o n e=>?_,W4,by rw [aC,List.map_append]; rfl,by rw [List.length_append,List.length_singleton]; omega,by rw [List.length_append,List.length_singleton]; omega,by omega,fun _=>by omega,?_⟩,?_⟩
  ·rw [aI (aR e hl0)]
   exact B3 b o n e
  ·rw [List.append_assoc,List.singleton_append,← sV rfl c]
   exact eq
  ·rw [vO W4,vO W1]
   omega
 ·have cn:iT (.str (ts.getD k ""))=false:=decide_eq_false c
  rw [cn,if_neg (by decide)]
  rw [vR c,List.append_nil] at eq
  rw [← eq] at q
  nofun
  refine q l H2 B2 hl0 e2 ?_
  rw [← ek]
  exact W2
theorem rQ (B:Bt K mg a)(eE:∀ C sp,oI K a C sp→CalM P w K mg base C "look" ["self"] 1 sp)(F:Fun K "take" "Words.take" dN f fd):FnT P w K mg base (CXF P w) 2 f fd ["self"] (jF K a):=by
 refine BD7 F sc_Words_take (fun vs H Q E h=>?_) (fun cdv A outer s H vs Q E hr h s1 I=>?_)
 ·obtain ⟨wp,dw,wl,ts,i,rfl,_⟩:=h
  rfl
 obtain ⟨wp,dw,wl,ts,i,rfl,W,q⟩:=h
 refine AX6 (QS.h (aU (i:=1) sc_Words_take.nd rfl (Or.inl rfl) (aQ (aN (pv 0) eE pB (hr.mono (by decide)))) (by kernel_rfl))) (pv 0) aW yF (aY (aJ (aZ (aQ (pv 1))))) I ?_
 nofun
 refine ⟨_,_,_,W.w,rfl,_,⟨rfl,rfl⟩,wp,dw,wl,ts,i,rfl,W,?_⟩
 nofun
 refine ⟨_,_,_,W.w,B.ck_Words.cl,B.na_Words_at,.int i,rfl,?_⟩
 nofun
 refine ⟨_,_,W.w,(show 2 < 1000 by decide),?_⟩
 exact q
theorem rR (B:Bt K mg a)(eE:∀ C sp,oI K a C sp→CalM P w K mg base C "look" ["self"] 1 sp)(F:Fun K "takes" "Words.takes" dP f fd):FnOk P w K mg base CX0 2 f fd ["self","word"] (kT K a):=by
 refine F.ok rK (by walk_at "ln") fun cdv A outer s H vs Q E hr h=>?_
 obtain ⟨wp,dw,wl,ts,i,wd,rfl,W,q⟩:=h
 refine ⟨_,(aY (aB (bM (bC nW (aN (pv 0) eE pB (hr.mono (by decide))) (pv 1) (bF _)) (aJ (aZ (aQ nV))) aT) (aB (bN (qG (pv 0) aW yF)) (aJ (aZ (aQ nV)))))),?_⟩
 nofun
 refine ⟨_,_,_,W.w,rfl,_,⟨rfl,rfl⟩,wp,dw,wl,ts,i,rfl,W,?_⟩
 nofun
 rcases q with ⟨e,q⟩ | ⟨e,q⟩
 ·first | rw [if_neg (fun z=>z e)] | rw [if_neg (fun z=>z (congrArg V.str e))]
  refine ⟨_,_,_,W.w,B.ck_Words.cl,B.na_Words_at,.int i,rfl,?_⟩
  nofun
  refine ⟨_,_,W.w,(show 2 < 1000 by decide),?_⟩
  exact q
 ·first | rw [if_pos e] | rw [if_pos (fun z=>e (V.str.inj z))]
  exact q
theorem rB (B:Bt K mg a)(cS:∀ C sp,mZ K a C sp→CalM P w K mg base C "takes" ["self","word"] 2 sp)(bB:CalI P w K mg base "NoText" a.NoText "line" 1 (.int 0))(F:Fun K "expect" "Words.expect" dG f fd):FnOk P w K mg base (CXF P w) 3 f fd ["self","word"] (kA K a):=by
 refine Fun.okX F qT (fun vs H Q E h=>?_) (fun cdv A outer s H vs Q E hr h=>?_)
 ·obtain ⟨wp,dw,wl,ts,i,wd,rfl,_⟩:=h
  rfl
 obtain ⟨wp,dw,wl,ts,i,wd,rfl,W,q⟩:=h
 refine ⟨_,(aY (aJ (bM (cX (bL (cW (pv 0) cS dE (hr.mono (by decide)) (aK (aS (pv 1) aF)) (hst:=aG _ _ _ rfl) (hpl:=aH rfl)))) (cL (fL (dZ (R:=fun dx H9=>E (.ref a.NoText) (some dx) H9) bB rfl rfl (hr.mono (by decide)) iG))) aT))),?_⟩
 nofun
 rcases q with ⟨e,q⟩ | ⟨e,q⟩
 ·refine ⟨_,_,_,W.w,rfl,_,⟨rfl,rfl⟩,wp,dw,wl,ts,i,wd,rfl,W,.inl ⟨e,?_⟩⟩
  exists Bool.not_true
  exact q
 ·refine ⟨_,_,_,W.w,rfl,_,⟨rfl,rfl⟩,wp,dw,wl,ts,i,wd,rfl,W,.inr ⟨e,?_⟩⟩
  exists Bool.not_false
  exact fun y hy=>q y _ (aE hy _)
theorem lO (B:Bt K mg a)(aM:∀ C sp,cU K a C sp→CalM P w K mg base C "take_number" ["self"] 3 sp)(bB:CalI P w K mg base "NoText" a.NoText "line" 1 (.int 0))(F:Fun K "take_count" "Words.take_count" bX f fd):FnOk P w K mg base (CXF P w) 4 f fd ["self"] (gS K a):=by
 refine Fun.okX F sc_Words_take_count (fun vs H Q E h=>?_) (fun cdv A outer s H vs Q E hr h=>?_)
 ·obtain ⟨wp,dw,wl,ts,i,rfl,_⟩:=h
  rfl
 obtain ⟨wp,dw,wl,ts,i,rfl,W,ht,q⟩:=h
 refine ⟨_,(aY (aB (aU (i:=1) sc_Words_take_count.nd rfl (Or.inl rfl) (aQ (aN (pv 0) aM dE (hr.mono (by decide)))) (by kernel_rfl)) (aB (bM (bC zG (pv 1) aW (bF _)) (cL (fL (dZ (R:=fun dx H9=>E (.ref a.NoText) (some dx) H9) bB rfl rfl (hr.mono (by decide)) iG))) aT) (aJ (aZ (aQ (pv 1))))))),?_⟩
 nofun
 cases c:kS (ts.getD i "") with
 | false =>
  rcases q with ⟨e,q⟩ | ⟨e,q⟩
  ·unfold vK at e
   rw [c] at e
   cases e
  ·exact ⟨_,_,_,W.w,rfl,_,⟨rfl,rfl⟩,wp,dw,wl,ts,i,rfl,W,ht,.inr ⟨c,q⟩⟩
 | true =>
  refine ⟨_,_,_,W.w,rfl,_,⟨rfl,rfl⟩,wp,dw,wl,ts,i,rfl,W,ht,.inl ⟨c,fun H1 B1 W1=>?_⟩⟩
  nofun
  rcases q with ⟨e,q⟩ | ⟨e,q⟩
  ·unfold vK at e
   rw [c,Bool.true_and,decide_eq_true_eq] at e
   rw [if_neg (by omega)]
   exact q _ B1 W1
  ·unfold vK at e
   rw [c,Bool.true_and,decide_eq_false_iff_not] at e
   rw [if_pos (by omega)]
   exact fun y hy=>q y _ (B1.trans (Same.but (aE hy _)))
theorem nC (B:Bt K mg a)(cV:∀ C sp,iK K a C sp→CalM P w K mg base C "take" ["self"] 2 sp)(eW:CalX P w K mg base "is_name" ["thing"] 1 (kO K a))(bB:CalI P w K mg base "NoText" a.NoText "line" 1 (.int 0))(F:Fun K "take_name" "Words.take_name" cF f fd):FnOk P w K mg base (CXF P w) 3 f fd ["self"] (iA K a):=by
 refine Fun.okX F sc_Words_take_name (fun vs H Q E h=>?_) (fun cdv A outer s H vs Q E hr h=>?_)
 ·obtain ⟨wp,dw,wl,ts,i,rfl,_⟩:=h
  rfl
 obtain ⟨wp,dw,wl,ts,i,rfl,W,ht,q⟩:=h
 refine ⟨_,(aY (aB (aU (i:=1) sc_Words_take_name.nd rfl (Or.inl rfl) (aQ (aN (pv 0) cV dE (hr.mono (by decide)))) (by kernel_rfl)) (aB (bM (cX (bL (eT eW (hr.mono (by decide)) rfl (aK (aS (pv 1) aF)) (he:=aG _ _ _ rfl) (hpl:=aH rfl)))) (cL (fL (dZ (R:=fun dx H9=>E (.ref a.NoText) (some dx) H9) bB rfl rfl (hr.mono (by decide)) iG))) aT) (aJ (aZ (aQ (pv 1))))))),?_⟩
 nofun
 refine ⟨_,_,_,W.w,rfl,_,⟨rfl,rfl⟩,wp,dw,wl,ts,i,rfl,W,?_⟩
 have W1:=W.take (i+1)
 have B1:But wp H (upd H wp (.ins a.Words dw (bA wl (i+1)))):=But.upd _
 generalize upd H wp (.ins a.Words dw (bA wl (i+1)))=H1 at *
 nofun
 refine ⟨_,rfl,AJ9 ht,fun H2 S2=>?_⟩
 nofun
 rcases q with ⟨e,q⟩ | ⟨e,q⟩
 ·have e2:iT (.str (ts.getD i ""))=true:=e
  exists e2,Bool.not_true
  exact q _ (B1.trans (Same.but S2)) (W1.same S2)
 ·have e2:iT (.str (ts.getD i ""))=false:=e
  exists e2,Bool.not_false
  exact fun y hy=>q y _ (B1.trans (Same.but (S2.trans (aE hy _))))
theorem AK2 (u:Str):∀ us:List Str,inV (.str u) (us.map V.str)=decide (u∈us)
 | []=>rfl
 | v::us=>by
  have e:inV (.str u) ((v::us).map V.str)=(eqV (.str v) (.str u) || inV (.str u) (us.map V.str)):=rfl
  rw [e,AK2 u us]
  have e2:eqV (.str v) (.str u)=decide (v=u):=by
   first | rfl | (unfold eqV; by_cases c:v=u <;> simp [c])
  rw [e2]
  by_cases c:v=u
  ·simp [c]
  ·have c':¬ u=v:=fun z=>c z.symm
   simp [c,c']
theorem rC:∀ us:List Str,(us.map V.str).all tE=true
 | []=>rfl
 | v::us=>by rw [List.map_cons,List.all_cons,rC us]; rfl
theorem kQ (B:Bt K mg a)(cV:∀ C sp,iK K a C sp→CalM P w K mg base C "take" ["self"] 2 sp)(bB:CalI P w K mg base "NoText" a.NoText "line" 1 (.int 0))(F:Fun K "take_one_of" "Words.take_one_of" bP f fd):FnOk P w K mg base (CXF P w) 3 f fd ["self","choices"] (fR K a):=by
 refine Fun.okX F sc_Words_take_one_of (fun vs H Q E h=>?_) (fun cdv A outer s H vs Q E hr h=>?_)
 ·obtain ⟨wp,dw,wl,ts,i,c,us,rfl,_⟩:=h
  rfl
 obtain ⟨wp,dw,wl,ts,i,c,us,rfl,W,hc,l10,q⟩:=h
 refine ⟨_,(aY (aB (aU (i:=2) sc_Words_take_one_of.nd rfl (Or.inl rfl) (aQ (aN (pv 0) cV dE (hr.mono (by decide)))) (by kernel_rfl)) (aB (bM (bC vA (pv 2) (pv 1) (by with_unfolding_all rfl)) (cL (fL (dZ (R:=fun dx H9=>E (.ref a.NoText) (some dx) H9) bB rfl rfl (hr.mono (by decide)) iG))) aT) (aJ (aZ (aQ (pv 2))))))),?_⟩
 have nc:c≠wp:=fun z=>by rw [z,W.w] at hc; cases hc
 nofun
 refine ⟨_,_,_,W.w,rfl,_,⟨rfl,rfl⟩,wp,dw,wl,ts,i,rfl,W,?_⟩
 have W1:=W.take (i+1)
 have B1:But wp H (upd H wp (.ins a.Words dw (bA wl (i+1)))):=But.upd _
 have hc1:upd H wp (.ins a.Words dw (bA wl (i+1))) c=some (.tup (us.map V.str)):=by rw [aI nc]; exact hc
 generalize upd H wp (.ins a.Words dw (bA wl (i+1)))=H1 at *
 nofun
 first | refine ⟨_,.inr (SqT.of hc1),rfl,rC us,?_⟩ | refine ⟨c,_,rfl,.inr (SqT.of hc1),rfl,rC us,?_⟩
 rw [AK2]
 rcases q with ⟨e,q⟩ | ⟨e,q⟩
 ·rw [e]
  exists Bool.not_true
  exact q _ B1 W1
 ·rw [e]
  exists Bool.not_false
  exact fun y hy=>q y _ (B1.trans (Same.but (aE hy _)))
theorem AP1 {ts:List Str}{i n:Nat}(h:i+n≤ts.length):AQ6 (ts.map V.str) (some (i:Int)) (some ((i:Int)+(n:Int)))=((ts.drop i).take n).map V.str:=by
 have e:((i:Int)+(n:Int))=((i+n:Nat):Int):=by omega
 rw [e]
 unfold AQ6
 rw [HT.sIx_nat,HT.sIx_nat,List.length_map,Nat.min_eq_left (by omega),Nat.min_eq_left (by omega),Nat.add_sub_cancel_left,← List.map_drop,← List.map_take]
theorem nE (B:Bt K mg a)(F:Fun K "take_some" "Words.take_some" cG f fd):FnOk P w K mg base CX0 1 f fd ["self","count"] (iB K a):=by
 refine F.ok sc_Words_take_some (by walk_at "ln") fun cdv A outer s H vs Q E hr h=>?_
 obtain ⟨wp,dw,wl,ts,i,n,rfl,W,hin,h9,q⟩:=h
 refine ⟨_,(aY (aB (bM (L2.PW.pt (kZ (bC zG (pv 1) aW (bF _)) (iO (bC zH (pv 1) (dJ sD (aV bI rfl B.len PySem.boot_len (aK (aS (iR (pv 0) rfl) aF))) (iR (pv 0) rfl)) (bF _))))) (cL bJ) aT) (aB (aU (i:=2) sc_Words_take_some.nd rfl (Or.inl rfl) (aQ (pS wI (iR (pv 0) rfl) (lA (iR (pv 0) rfl)) (lA (dJ qA (iR (pv 0) rfl) (pv 1))))) (by kernel_rfl)) (aB (bN (qG (pv 0) (pv 1) yF)) (aJ (aZ (aQ (pv 2)))))))),?_⟩
 nofun
 rw [if_neg (by omega)]
 refine ⟨_,_,_,W.w,B.ck_Words.cl,B.na_Words_words,.ref wl,rfl,?_⟩
 refine ⟨wl,rfl,_,.inl (SqL.of W.l),?_⟩
 refine ⟨_,_,_,W.w,B.ck_Words.cl,B.na_Words_at,.int i,rfl,?_⟩
 exists List.length_map
 rw [if_neg (by omega)]
 refine ⟨_,_,_,W.w,B.ck_Words.cl,B.na_Words_words,.ref wl,rfl,?_⟩
 refine ⟨_,_,_,W.w,B.ck_Words.cl,B.na_Words_at,.int i,rfl,?_⟩
 refine ⟨i,rfl,_,_,_,W.w,B.ck_Words.cl,B.na_Words_at,.int i,rfl,i,rfl,?_⟩
 refine ⟨wl,_,rfl,SqL.of W.l,fun l hl=>?_⟩
 rw [AP1 hin]
 have S1:=aE hl (.lst (((ts.drop i).take n).map V.str))
 have W1:=W.same S1
 have nlw:l≠wp:=fun z=>by rw [z,W.w] at hl; cases hl
 refine ⟨_,_,_,W1.w,B.ck_Words.cl,B.na_Words_at,.int i,rfl,i,rfl,_,_,W1.w,(show 2 < 1000 by decide),?_⟩
 exact q l _ (fun b o nb e=>by rw [aI nb]; exact S1 b o e) hl (by rw [aI nlw]; exact aC) (W1.take (i+n))
theorem nG (B:Bt K mg a)(eO:∀ C sp,kE K a C sp→CalM P w K mg base C "take_some" ["self","count"] 1 sp)(F:Fun K "take_rest" "Words.take_rest" cH f fd):FnOk P w K mg base CX0 2 f fd ["self"] (iC K a):=by
 refine F.ok mR (by walk_at "ln") fun cdv A outer s H vs Q E hr h=>?_
 obtain ⟨wp,dw,wl,ts,i,n,rfl,W,hin,h9,q⟩:=h
 refine ⟨_,(aY (aJ (aZ (aQ (cW (pv 0) eO pB (hr.mono (by decide)) (aK (aS (dJ sD (aV bI rfl B.len PySem.boot_len (aK (aS (iR (pv 0) rfl) aF))) (iR (pv 0) rfl)) aF)) (hst:=aG _ _ _ rfl) (hpl:=aH rfl)))))),?_⟩
 nofun
 refine ⟨_,_,_,W.w,rfl,_,⟨rfl,rfl⟩,?_⟩
 refine ⟨_,_,_,W.w,B.ck_Words.cl,B.na_Words_words,.ref wl,rfl,?_⟩
 refine ⟨wl,rfl,_,.inl (SqL.of W.l),?_⟩
 refine ⟨_,_,_,W.w,B.ck_Words.cl,B.na_Words_at,.int i,rfl,?_⟩
 refine ⟨i,rfl,?_⟩
 have e:(((ts.map V.str).length:Nat):Int) - (i:Int)=(n:Nat):=by rw [List.length_map]; omega
 rw [e]
 exact ⟨wp,dw,wl,ts,i,n,rfl,W,by omega,h9,q⟩
theorem lP (B:Bt K mg a)(gL:CalX P w K mg base "is_whole" ["thing"] 1 (lK K a))(F:Fun K "is_whole_between" "is_whole_between" bU f fd):FnOk P w K mg base CX0 2 f fd ["thing","least","most"] (eA K a):=by
 refine F.ok lG (by walk_at "ln") fun cdv A outer s H vs Q E hr h=>?_
 obtain ⟨x,lo,hi,rfl,ox,q⟩:=h
 refine ⟨_,(aY (aJ (aZ (aQ (pZ (pc gL hr rfl (aK (aS (pv 0) aF))) (pZ (iF AT0 (pv 1) (pv 0) (bF _)) (sC (iF AT0 (pv 0) (pv 2) (bF _))))))))),?_⟩
 nofun
 refine ⟨x,rfl,ox,?_⟩
 cases x <;> simp_all [yR,qO]
 split <;> simp_all
theorem lQ (B:Bt K mg a)(cC:CalX P w K mg base "is_whole_between" ["thing","least","most"] 2 (eA K a))(F:Fun K "is_minute_of_day" "is_minute_of_day" bZ f fd):FnOk P w K mg base CX0 3 f fd ["thing"] (gU K a):=by
 refine F.ok lJ (by walk_at "ln") fun cdv A outer s H vs Q E hr h=>?_
 obtain ⟨x,rfl,ox,q⟩:=h
 refine ⟨_,(aY (aJ (aZ (aQ (pc cC hr rfl (aK (aS (pv 0) (aS aW (aS (dJ sD (bS (v:=.int 1440) rfl B.MINUTES_OF_DAY ⟨_,rfl⟩) aW) aF))))))))),?_⟩
 nofun
 exact ⟨x,0,1440 - 1,rfl,ox,q⟩
theorem lR (B:Bt K mg a)(eW:CalX P w K mg base "is_name" ["thing"] 1 (kO K a))(F:Fun K "are_unlike_names" "are_unlike_names" bV f fd):FnOk P w K mg base CX0 2 f fd ["thing"] (eB K a):=by
 refine F.ok lH (by walk_at "ln") fun cdv A outer s H vs Q E hr h=>?_
 obtain ⟨x,b,rfl,hx,q⟩:=h
 refine ⟨_,(aY (aB (bM (L2.PW.pt (kZ (cX (bL (aV (jD (K:=K) (T:="list") rfl) rfl B.isinstance PyProof.Rows.boot_isinstance (aK (aS (pv 0) (aS (gM (v:=.ty "list") rfl B.list PyProof.Rows.boot_list rfl) aF))) (he:=aG _ _ _ rfl) (hpl:=aH rfl)))) (iO (cX (bL (aV (pW rfl) rfl B.all PyProof.Rows.boot_all (aK (aS (pV ["name"] [none] rfl (by kernel_rfl) (sX (pv 0)) (fun cl C s H fp=>⟨(jV (i:=0) (by decide:List.Nodup (["name"]:List Str)) rfl (Or.inl (by kernel_rfl)) (Or.inr (by kernel_rfl))),tK,(AF3 eW (hr.mono (by decide)) (AF8 (by kernel_rfl)) (aK (aS (pv 0 (hv:=Or.inl (by kernel_rfl))) aF)) (he:=aG _ _ _ rfl) (hpl:=aH rfl))⟩)) aF)) (he:=aG _ _ _ rfl) (hpl:=aH rfl))))))) (aJ (aZ (aQ nV))) aT) (aJ (aZ (aQ (iF iQ (aV AH4 rfl B.len PySem.boot_len (aK (aS (gN (AH3 rfl) rfl B.set PyProof.Rows.boot_set (aK (aS (pv 0) aF))) aF))) (aV bI rfl B.len PySem.boot_len (aK (aS (pv 0) aF))) (bF _))))))),?_⟩
 nofun
 rcases hx with ⟨p,xs,rfl,hp,hl,hn,rfl⟩ | ⟨rfl,t,ty,e⟩
 ·refine ⟨_,_,true,rfl,.lst hp,by kernel_rfl,?_⟩
  exists Bool.not_true
  refine ⟨⟨xs,SqL.of hp⟩,?_⟩
  refine CompL.by (xs:=xs) (fun i acc σ H'=>acc=((xs.take i).map iT).map V.bl∧(∃ v,σ=[v])∧Same H H') (sz8 (by omega)) ⟨rfl,⟨_,rfl⟩,fun _ _ z=>z⟩ (fun i acc σ H' _ h=>SqL.of (h.2.2 _ _ hp)) ?_ ?_ ?_
  ·rintro i y acc σ H' hy ⟨rfl,⟨v,rfl⟩,S1⟩
   have ea:((xs.take i).map iT).map V.bl++[V.bl (iT y)]=((xs.take (i+1)).map iT).map V.bl:=by
    rw [List.take_succ,hy,List.map_append,List.map_append]
    rfl
   nofun
   refine ⟨y,rfl,(hn y (List.mem_of_getElem? hy)).same S1,fun H2 S2=>?_⟩
   first | exact ⟨ea,⟨_,rfl⟩,S1.trans S2⟩ | exact ⟨ea,S1.trans S2⟩
  ·rintro i acc σ H' ⟨rfl,_,_⟩
   rw [List.length_map,List.length_map,List.length_take]
   omega
  ·rintro acc σ H' ⟨rfl,⟨v,rfl⟩,S1⟩ D hD
   rw [List.take_length]
   have S2:=S1.trans (aE hD (.lst ((xs.map iT).map V.bl)))
   refine ⟨D,rfl,_,SqL.of aC,?_⟩
   have eall:(xs.map iT).all id=xs.all iT:=by rw [List.all_map]; rfl
   rw [eall]
   generalize upd H' D (.lst ((xs.map iT).map V.bl))=H2 at *
   by_cases ha:xs.all iT=true
   ·exists ha,Bool.not_true
    have es:=AJ8 ha
    have hz:(xs.map AL4).length=xs.length:=List.length_map ..
    refine ⟨xs.map AL4,by rw [← es]; exact SqL.of (S2 _ _ hp),by omega,fun p3 h3=>?_⟩
    have S3:=aE h3 (AO0 P w p3 (xs.map AL4))
    refine ⟨xs.map AL4,aC,?_⟩
    nofun
    refine ⟨xs,.inl (SqL.of (S3 _ _ (S2 _ _ hp))),?_⟩
    nofun
    have hq:=q _ (S2.trans S3)
    have ed:zC xs=decide ((((jT (xs.map AL4)).length:Nat):Int)=((xs.length:Nat):Int)):=by
     unfold zC
     rw [ha,Bool.true_and]
     have:=AN7 (xs.map AL4)
     rw [hz] at this
     by_cases c:(xs.map AL4).Nodup
     ·rw [decide_eq_true c,decide_eq_true (by have:=this.mpr c; omega)]
     ·rw [decide_eq_false c,decide_eq_false (fun z=>c (this.mp (by omega)))]
    rw [ed] at hq
    exact hq
   ·have ha':=Bool.eq_false_iff.mpr ha
    exists ha',Bool.not_false
    have hq:=q _ S2
    unfold zC at hq
    rw [ha',Bool.false_and] at hq
    exact hq
 ·refine ⟨x,t,false,rfl,ty,e,?_⟩
  exists Bool.not_false
  exact q _ fun _ _ z=>z
theorem rS (B:Bt K mg a)(cD:CalX P w K mg base "are_unlike_names" ["thing"] 2 (eB K a))(F:Fun K "check_names" "check_names" dQ f fd):FnOk P w K mg base CX0 3 f fd ["names"] (kU K a):=by
 refine F.ok rL (by walk_at "ln") fun cdv A outer s H vs Q E hr h=>?_
 obtain ⟨l,rfl,hl,q⟩:=h
 refine ⟨_,(aY (aJ (bM (L2.PW.pt (kZ (cX (bL (pc cD hr rfl (aK (aS (pv 0) aF))))) (iO (bC iQ (aV bI rfl B.len PySem.boot_len (aK (aS (pv 0) aF))) aW (bF _))))) (cL bJ) aT))),?_⟩
 nofun
 have mk:iS "not"=true∧("not":Str).length≤1000:=⟨by decide +kernel,by decide +kernel⟩
 refine ⟨_,true,rfl,.inl ⟨l,_,rfl,hl,by decide,fun z hz=>by rw [List.mem_singleton.mp hz]; exact mk,by decide +kernel⟩,fun H1 S1=>?_⟩
 exists Bool.not_true
 refine ⟨_,.inl (SqL.of (S1 _ _ hl)),?_⟩
 exists List.length_cons,List.length_nil
 first | exact q _ S1 | (rw [if_neg (by decide)]; exact q _ S1)
theorem pL (B:Bt K mg a)(jJ:CalX P w K mg base "check_names" ["names"] 3 (kU K a))(F:Fun K "__init__" "Kind.__init__" dA f fd):FnOk P w K mg base CX0 4 f fd ["self","names"] (fM K a):=by
 refine F.ok pI (by walk_at "ln") fun cdv A outer s H vs Q E hr h=>?_
 obtain ⟨p,dx,l,rfl,hp,hl,q⟩:=h
 refine ⟨_,(aY (aB (bN (cY (pc jJ hr rfl (aK (aS (pv 1) aF))))) (aJ (bN (jQ (pv 0) (gN hU rfl B.list PyProof.Rows.boot_list (aK (aS (pv 1) aF))) rfl))))),?_⟩
 nofun
 refine ⟨l,rfl,hl,fun H1 S1=>?_⟩
 nofun
 refine ⟨_,.inl (SqL.of (S1 _ _ hl)),fun p2 h2=>?_⟩
 have S2:=aE h2 (.lst [.str "not"])
 refine ⟨_,_,_,S2 _ _ (S1 _ _ hp),B.ck_Kind.cl,B.na_Kind_names,by decide,?_⟩
 exact q _ _ (fun b o n e=>by rw [aI n]; exact S2 _ _ (S1 _ _ e)) aC
theorem oM (B:Bt K mg a)(dM:CalX P w K mg base "is_minute_of_day" ["thing"] 3 (gU K a))(F:Fun K "is_quiet_hours" "is_quiet_hours" cP f fd):FnOk P w K mg base CX0 4 f fd ["thing"] (iX K a):=by
 refine F.ok oH (by walk_at "ln") fun cdv A outer s H vs Q E hr h=>?_
 obtain ⟨x,rfl,hx,q⟩:=h
 refine ⟨_,(aY (aB (bM (pX (sB (pv 0))) (aJ (aZ (aQ nV))) aT) (aB (bM (L2.PW.pt (kZ (cX (bL (aV (jD (K:=K) (T:="tuple") rfl) rfl B.isinstance PyProof.Rows.boot_isinstance (aK (aS (pv 0) (aS (gM (v:=.ty "tuple") rfl B.tuple PyProof.Rows.boot_tuple rfl) aF))) (he:=aG _ _ _ rfl) (hpl:=aH rfl)))) (iO (bC nW (aV bI rfl B.len PySem.boot_len (aK (aS (pv 0) aF))) aW (bF _))))) (aJ (aZ (aQ nV))) aT) (aJ (aZ (aQ (pZ (pc dM hr rfl (aK (aS (mG yI (pv 0) aW (fun _ _=>rfl)) aF))) (pZ (pc dM hr rfl (aK (aS (mG yI (pv 0) aW (fun _ _=>rfl)) aF))) (sC (iF nW (mG yI (pv 0) aW (fun _ _=>rfl)) (mG yI (pv 0) aW (fun _ _=>rfl)) (bF _))))))))))),?_⟩
 nofun
 rcases hx with rfl | ⟨p,rfl,hp⟩
 ·exists decide_true
  exact q
 ·nofun
  refine ⟨_,_,true,rfl,.tup hp,by kernel_rfl,?_⟩
  exists Bool.not_true
  refine ⟨_,.inr (SqT.of hp),?_⟩
  rw [if_neg (by simp)]
  refine ixt (SqT.of hp) (v:=.int 5) rfl ?_
  nofun
  refine ⟨_,rfl,⟨_,.int 5,by kernel_rfl,by kernel_rfl⟩,?_⟩
  have e1:qO (.int 5) 0 1439=true:=by decide
  have e2:qO (.int 700) 0 1439=true:=by decide
  exists e1
  refine ixt (SqT.of hp) (v:=.int 700) rfl ?_
  nofun
  refine ⟨_,rfl,⟨_,.int 700,by kernel_rfl,by kernel_rfl⟩,?_⟩
  exists e2
  refine ixt (SqT.of hp) (v:=.int 5) rfl ?_
  nofun
  refine ixt (SqT.of hp) (v:=.int 700) rfl ?_
  nofun
  first | exact q | (simp; exact q)
theorem uB (B:Bt K mg a)(cC:CalX P w K mg base "is_whole_between" ["thing","least","most"] 2 (eA K a))(F:Fun K "check_zone" "check_zone" eJ f fd):FnOk P w K mg base (CXF P w) 3 f fd ["zone"] (mW K a):=by
 refine Fun.okX F tV (fun vs H Q E h=>?_) (fun cdv A outer s H vs Q E hr h=>?_)
 ·obtain ⟨z,rfl,_⟩:=h
  rfl
 obtain ⟨z,rfl,h⟩:=h
 refine ⟨_,(aY (aJ (bM (cX (bL (eT cC (hr.mono (by decide)) rfl (aK (aS (pv 0) (aS (dJ sD aW (bS (v:=.int 1440) rfl B.MINUTES_OF_DAY ⟨_,rfl⟩)) (aS (dJ sD (bS (v:=.int 1440) rfl B.MINUTES_OF_DAY ⟨_,rfl⟩) aW) aF)))) (he:=aG _ _ _ rfl) (hpl:=aH rfl)))) (cL (fL (AN0 (R:=fun H9=>E (.ref a.NoClock) none H9) rfl rfl B.NoClock B.exc_NoClock (fun _ _ _ _ _ _ _ I hx hE=>BC2 I hx hE)))) aT))),?_⟩
 nofun
 refine ⟨_,_,_,rfl,⟨_,.int z,by kernel_rfl,by kernel_rfl⟩,?_⟩
 rcases h with ⟨b,q⟩ | ⟨b,q⟩
 ·have e:qO (.int z) (1 - 1440) (1440 - 1)=true:=b
  exists e,Bool.not_true
  exact q
 ·have e:qO (.int z) (1 - 1440) (1440 - 1)=false:=b
  exists e,Bool.not_false
  exact q
theorem rT (B:Bt K mg a)(fO:CalX P w K mg base "is_quiet_hours" ["thing"] 4 (iX K a))(F:Fun K "check_quiet" "check_quiet" dR f fd):FnOk P w K mg base CX0 5 f fd ["quiet"] (kW K a):=by
 refine F.ok rM (by walk_at "ln") fun cdv A outer s H vs Q E hr h=>?_
 obtain ⟨x,rfl,hx,q⟩:=h
 refine ⟨_,(aY (aJ (bM (cX (bL (pc fO hr rfl (aK (aS (pv 0) aF))))) (cL bJ) aT))),?_⟩
 nofun
 refine ⟨_,rfl,hx,?_⟩
 exists Bool.not_true
 exact q
theorem uC (B:Bt K mg a)(gY:CalX P w K mg base "is_whole_from" ["thing","least"] 2 (jR K a))(F:Fun K "check_wake" "check_wake" eL f fd):FnOk P w K mg base CX0 3 f fd ["wake","quiet"] (mX K a):=by
 refine F.ok tW (by walk_at "ln") fun cdv A outer s H vs Q E hr h=>?_
 obtain ⟨k,qq,rfl,hk,q⟩:=h
 refine ⟨_,(aY (aB (bM (pX (sB (pv 0))) (aJ (bN AB3)) aT) (aJ (bM (L2.PW.pt (kZ (pX (sB (pv 1))) (iO (cX (bL (pc gY hr rfl (aK (aS (pv 0) (aS aW aF))))))))) (cL bJ) aT)))),?_⟩
 nofun
 rcases hk with rfl | ⟨rfl,r,rfl⟩
 ·exists decide_true
  exact q
 ·nofun
  first | rw [if_neg (by intro z; cases z)] | skip
  first | rw [if_neg (by intro z; cases z)] | skip
  refine ⟨_,_,rfl,⟨_,.int 3,by kernel_rfl,by kernel_rfl⟩,?_⟩
  have e:AW2 (.int 3) 0=true:=by decide
  exists e,Bool.not_true
  exact q
theorem rV (B:Bt K mg a)(F:Fun K "check_lines" "check_lines" dS f fd):FnOk P w K mg base CX0 1 f fd ["lines"] (kX K a):=by
 refine F.ok rN (by walk_at "ln") fun cdv A outer s H vs Q E hr h=>?_
 obtain ⟨p,xs,rfl,hp,hl,hy,q⟩:=h
 refine ⟨_,(aY (aB (bM (pX (sB (pv 0))) (aJ (bN AB3)) aT) (aJ (bM (L2.PW.pt (kZ (cX (bL (aV (jD (K:=K) (T:="list") rfl) rfl B.isinstance PyProof.Rows.boot_isinstance (aK (aS (pv 0) (aS (gM (v:=.ty "list") rfl B.list PyProof.Rows.boot_list rfl) aF))) (he:=aG _ _ _ rfl) (hpl:=aH rfl)))) (iO (cX (bL (aV (pW rfl) rfl B.all PyProof.Rows.boot_all (aK (aS (pV ["line"] [none] rfl (by kernel_rfl) (sX (pv 0)) (fun cl C s H fp=>⟨(jV (i:=0) (by decide:List.Nodup (["line"]:List Str)) rfl (Or.inl (by kernel_rfl)) (Or.inr (by kernel_rfl))),tK,(aV (oE (K:=K) rfl) (AF8 (by kernel_rfl)) B.isinstance PyProof.Rows.boot_isinstance (aK (aS (pv 0 (hv:=Or.inl (by kernel_rfl))) (aS (bS (v:=.ref _) (AF8 (by kernel_rfl)) B.Line rfl) aF))) (he:=aG _ _ _ rfl) (hpl:=aH rfl))⟩)) aF)) (he:=aG _ _ _ rfl) (hpl:=aH rfl))))))) (cL bJ) aT)))),?_⟩
 nofun
 refine ⟨_,_,true,rfl,.lst hp,by kernel_rfl,?_⟩
 exists Bool.not_true
 refine ⟨⟨xs,SqL.of hp⟩,?_⟩
 refine CompL.by (xs:=xs) (fun i acc σ H'=>acc=(List.replicate i true).map V.bl∧(∃ v,σ=[v])∧H'=H) (sz8 (by omega)) ⟨rfl,⟨_,rfl⟩,rfl⟩ (fun i acc σ H' _ h=>by rw [h.2.2]; exact SqL.of hp) ?_ ?_ ?_
 ·rintro i y acc σ H' hy2 ⟨rfl,⟨v,rfl⟩,rfl⟩
  obtain ⟨r,d,fs,rfl,hr1⟩:=hy y (List.mem_of_getElem? hy2)
  have ea:(List.replicate i true).map V.bl++[V.bl true]=(List.replicate (i+1) true).map V.bl:=by rw [List.replicate_succ',List.map_append]; rfl
  nofun
  refine ⟨_,_,_,true,rfl,B.ck_Line.ty hr1,B.is_Line_Line,?_⟩
  first | exact ⟨ea,⟨_,rfl⟩,rfl⟩ | exact ea | exact ⟨ea,rfl⟩
 ·rintro i acc σ H' ⟨rfl,_,_⟩
  rw [List.length_map,List.length_replicate]
  omega
 ·rintro acc σ H' ⟨rfl,⟨v,rfl⟩,rfl⟩ D hD
  have S2:=aE hD (.lst ((List.replicate xs.length true).map V.bl))
  refine ⟨D,rfl,_,SqL.of aC,?_⟩
  generalize upd H' D (.lst ((List.replicate xs.length true).map V.bl))=H2 at *
  have ha:(List.replicate xs.length true).all id=true:=by
   rw [List.all_eq_true]
   intro b hb
   exact List.eq_of_mem_replicate hb
  exists ha,Bool.not_true
  exact q _ S2
theorem lfs (f y r s z:V):mF ("fit":Str) f []=([("fit",f)]:List (Str × V))∧mF ("way":Str) y ([("fit",f)]:List (Str × V))=([("fit",f),("way",y)]:List (Str × V))∧mF ("roads":Str) r ([("fit",f),("way",y)]:List (Str × V))=([("fit",f),("way",y),("roads",r)]:List (Str × V))∧mF ("sure":Str) s ([("fit",f),("way",y),("roads",r)]:List (Str × V))=([("fit",f),("way",y),("roads",r),("sure",s)]:List (Str × V))∧mF ("raised":Str) z ([("fit",f),("way",y),("roads",r),("sure",s)]:List (Str × V))=lFs f y r s z:=by
 refine ⟨rfl,hX fun q hq=>?_,hX fun q hq=>?_,hX fun q hq=>?_,hX fun q hq=>?_⟩
 ·simp only [List.mem_cons,List.not_mem_nil,or_false] at hq
  rcases hq with rfl <;> (dsimp only; decide)
 ·simp only [List.mem_cons,List.not_mem_nil,or_false] at hq
  rcases hq with rfl | rfl <;> (dsimp only; decide)
 ·simp only [List.mem_cons,List.not_mem_nil,or_false] at hq
  rcases hq with rfl | rfl | rfl <;> (dsimp only; decide)
 ·simp only [List.mem_cons,List.not_mem_nil,or_false] at hq
  rcases hq with rfl | rfl | rfl | rfl <;> (dsimp only; decide)
theorem wfs (z q k l:V):mF ("zone":Str) z []=([("zone",z)]:List (Str × V))∧mF ("quiet":Str) q ([("zone",z)]:List (Str × V))=([("zone",z),("quiet",q)]:List (Str × V))∧mF ("wake":Str) k ([("zone",z),("quiet",q)]:List (Str × V))=([("zone",z),("quiet",q),("wake",k)]:List (Str × V))∧mF ("lines":Str) l ([("zone",z),("quiet",q),("wake",k)]:List (Str × V))=wFs z q k l:=by
 refine ⟨rfl,hX fun q hq=>?_,hX fun q hq=>?_,hX fun q hq=>?_⟩
 ·simp only [List.mem_cons,List.not_mem_nil,or_false] at hq
  rcases hq with rfl <;> (dsimp only; decide)
 ·simp only [List.mem_cons,List.not_mem_nil,or_false] at hq
  rcases hq with rfl | rfl <;> (dsimp only; decide)
 ·simp only [List.mem_cons,List.not_mem_nil,or_false] at hq
  rcases hq with rfl | rfl | rfl <;> (dsimp only; decide)
theorem rD (B:Bt K mg a)(F:Fun K "check_by_way" "check_by_way" dH f fd):FnOk P w K mg base CX0 1 f fd ["way","roads","sure","raised"] (kB K a):=by
 refine F.ok qU (by walk_at "ln") fun cdv A outer s H vs Q E hr h=>?_
 obtain ⟨yp,rp,dy,fy,rfl,hy,hr1,q⟩:=h
 refine ⟨_,(aY (aJ (bM (cX (bL (aV (oE (K:=K) rfl) rfl B.isinstance PyProof.Rows.boot_isinstance (aK (aS (pv 0) (aS (bS (v:=.ref _) rfl B.Never rfl) aF))) (he:=aG _ _ _ rfl) (hpl:=aH rfl)))) (aJ (bM (bC iQ (aV bI rfl B.len PySem.boot_len (aK (aS (pv 1) aF))) aW (bF _)) (cL bJ) aT)) (cL bJ)))),?_⟩
 nofun
 refine ⟨_,_,_,false,rfl,B.ck_Now.ty hy,B.is_Now_Never,?_⟩
 exists Bool.not_false
 refine ⟨_,.inl (SqL.of hr1),?_⟩
 exists List.length_cons,List.length_nil
 first | exact q | (rw [if_neg (by decide)]; exact q)
theorem pM (B:Bt K mg a)(iM:CalX P w K mg base "check_by_way" ["way","roads","sure","raised"] 1 (kB K a))(cD:CalX P w K mg base "are_unlike_names" ["thing"] 2 (eB K a))(F:FunA K "__init__" "Line.__init__" bK f fd):FnOk P w K mg base CX0 3 f fd ["self","fit","way","roads","sure","raised"] (fN K a):=by
 refine FunA.ok F pJ (fun vs H Q E h=>?_) (fun cdv A outer s H vs Q E hr h=>?_)
 ·obtain ⟨p,dx,fp,yp,rp,df,dy,ff,fy,rfl,_⟩:=h
  rfl
 obtain ⟨p,dx,fp,yp,rp,df,dy,ff,fy,rfl,hp,hf,hy,hr1,q⟩:=h
 refine ⟨_,(aY (aB (bM (cX (bL (aV (oE (K:=K) rfl) rfl B.isinstance PyProof.Rows.boot_isinstance (aK (aS (pv 1) (aS (bS (v:=.ref _) rfl B.Fit rfl) aF))) (he:=aG _ _ _ rfl) (hpl:=aH rfl)))) (cL bJ) aT) (aB (bM (cX (bL (aV (oE (K:=K) rfl) rfl B.isinstance PyProof.Rows.boot_isinstance (aK (aS (pv 2) (aS (bS (v:=.ref _) rfl B.Way rfl) aF))) (he:=aG _ _ _ rfl) (hpl:=aH rfl)))) (cL bJ) aT) (aB (bM (cX (bL (pc cD hr rfl (aK (aS (pv 3) aF))))) (cL bJ) aT) (aB (bM (cX (bL (aV (jD (K:=K) (T:="bool") rfl) rfl B.isinstance PyProof.Rows.boot_isinstance (aK (aS (pv 4) (aS (gM (v:=.ty "bool") rfl B.bool PyProof.Rows.boot_bool rfl) aF))) (he:=aG _ _ _ rfl) (hpl:=aH rfl)))) (cL bJ) aT) (aB (bM (L2.PW.pt (uP (pX (AS5 (pv 5))) (pY (cX (bL (aV (oE (K:=K) rfl) rfl B.isinstance PyProof.Rows.boot_isinstance (aK (aS (pv 5) (aS (bS (v:=.ref _) rfl B.Raised rfl) aF))) (he:=aG _ _ _ rfl) (hpl:=aH rfl))))))) (cL bJ) aT) (aB (bN (cY (pc iM hr rfl (aK (aS (pv 2) (aS (pv 3) (aS (pv 4) (aS (pv 5) aF)))))))) (aB (bN (jQ (pv 0) (pv 1) rfl)) (aB (bN (jQ (pv 0) (pv 2) rfl)) (aB (bN (jQ (pv 0) (gN hU rfl B.list PyProof.Rows.boot_list (aK (aS (pv 3) aF))) rfl)) (aB (bN (jQ (pv 0) (pv 4) rfl)) (aJ (bN (jQ (pv 0) (pv 5) rfl)))))))))))))),?_⟩
 nofun
 refine ⟨_,_,_,true,rfl,B.ck_Kind.ty hf,B.is_Kind_Fit,?_⟩
 exists Bool.not_true
 refine ⟨_,_,_,true,rfl,B.ck_Now.ty hy,B.is_Now_Way,?_⟩
 exists Bool.not_true
 have mk:iS "mail"=true∧("mail":Str).length≤1000:=⟨by decide +kernel,by decide +kernel⟩
 refine ⟨_,true,rfl,.inl ⟨rp,_,rfl,hr1,by decide,fun z hz=>by rw [List.mem_singleton.mp hz]; exact mk,by decide +kernel⟩,fun H1 S1=>?_⟩
 exists Bool.not_true
 refine ⟨_,_,true,rfl,.bl false,by kernel_rfl,?_⟩
 exists Bool.not_true
 refine ⟨yp,rp,dy,fy,rfl,S1 _ _ hy,S1 _ _ hr1,?_⟩
 nofun
 have nrp:rp≠p:=fun z=>by rw [z,hp] at hr1; cases hr1
 obtain ⟨e1,_⟩:=lfs (.ref fp) (.ref yp) (.ref rp) (.bl false) .non
 refine ⟨_,_,_,S1 _ _ hp,B.ck_Line.cl,B.na_Line_fit,by decide,_,_,_,aC,B.ck_Line.cl,B.na_Line_way,by rw [e1]; simp only [List.length_cons,List.length_nil]; decide,?_⟩
 refine ⟨_,.inl (SqL.of (by rw [aI nrp,aI nrp]; exact S1 _ _ hr1)),fun l hl=>?_⟩
 have nlp:l≠p:=fun z=>by rw [z,aC] at hl; cases hl
 have hl1:H1 l=none:=by rw [aI nlp,aI nlp] at hl; exact hl
 obtain ⟨e1,e2,e3,e4,e5⟩:=lfs (.ref fp) (.ref yp) (.ref l) (.bl false) .non
 refine ⟨_,_,_,by rw [aI nlp.symm]; exact aC,B.ck_Line.cl,B.na_Line_roads,by rw [e1,e2]; simp only [List.length_cons,List.length_nil]; decide,_,_,_,aC,B.ck_Line.cl,B.na_Line_sure,by rw [e1,e2,e3]; simp only [List.length_cons,List.length_nil]; decide,_,_,_,aC,B.ck_Line.cl,B.na_Line_raised,by rw [e1,e2,e3,e4]; simp only [List.length_cons,List.length_nil]; decide,?_⟩
 refine q l _ (fun b o n e=>?_) ?_
 ·rw [aI n,aI n,aI n,aI (aR (S1 _ _ e) hl1),aI n,aI n]
  exact S1 b o e
 ·rw [aC,e1,e2,e3,e4,e5]
theorem nI (B:Bt K mg a)(kF:CalX P w K mg base "check_zone" ["zone"] 3 (mW K a))(jK:CalX P w K mg base "check_quiet" ["quiet"] 5 (kW K a))(kG:CalX P w K mg base "check_wake" ["wake","quiet"] 3 (mX K a))(jL:CalX P w K mg base "check_lines" ["lines"] 1 (kX K a))(F:FunA K "__init__" "Wishes.__init__" bH f fd):FnOk P w K mg base (CXF P w) 6 f fd ["self","zone","quiet","wake","lines"] (eU K a):=by
 refine FunA.okX F mS (fun vs H Q E h=>?_) (fun cdv A outer s H vs Q E hr h=>?_)
 ·obtain ⟨p,dx,l,z,k,qq,xs,rfl,_⟩:=h
  rfl
 obtain ⟨p,dx,l,z,k,qq,xs,rfl,hp,hq,hk,hl,l10,hx,h⟩:=h
 refine ⟨_,(aY (aB (bN (cY (eT kF (hr.mono (by decide)) rfl (aK (aS (pv 1) aF)) (he:=aG _ _ _ rfl) (hpl:=aH rfl)))) (aB (bN (cY (eT jK (hr.mono (by decide)) rfl (aK (aS (pv 2) aF)) (he:=aG _ _ _ rfl) (hpl:=aH rfl)))) (aB (bN (cY (eT kG (hr.mono (by decide)) rfl (aK (aS (pv 3) (aS (pv 2) aF))) (he:=aG _ _ _ rfl) (hpl:=aH rfl)))) (aB (bN (cY (eT jL (hr.mono (by decide)) rfl (aK (aS (pv 4) aF)) (he:=aG _ _ _ rfl) (hpl:=aH rfl)))) (aB (bN (jQ (pv 0) (pv 1) rfl)) (aB (bN (jQ (pv 0) (pv 2) rfl)) (aB (bN (jQ (pv 0) (pv 3) rfl)) (aJ (bN (jQ (pv 0) (pR (pX (sB (pv 4))) (pA (aK aF)) (gN hU rfl B.list PyProof.Rows.boot_list (aK (aS (pv 4) aF)))) rfl))))))))))),?_⟩
 nofun
 rcases h with ⟨b,q⟩ | ⟨b,q⟩
 ·refine ⟨z,rfl,.inl ⟨b,?_⟩⟩
  nofun
  refine ⟨qq,rfl,hq,?_⟩
  nofun
  refine ⟨k,qq,rfl,hk,?_⟩
  nofun
  refine ⟨l,xs,rfl,hl,l10,hx,fun H1 S1=>?_⟩
  nofun
  have nlq:l≠p:=fun z=>by rw [z,hp] at hl; cases hl
  obtain ⟨e1,e2,e3,e4⟩:=wfs (.int z) qq k .non
  refine ⟨_,_,_,S1 _ _ hp,B.ck_Wishes.cl,B.na_Wishes_zone,by decide,_,_,_,aC,B.ck_Wishes.cl,B.na_Wishes_quiet,by rw [e1]; simp only [List.length_cons,List.length_nil]; decide,_,_,_,aC,B.ck_Wishes.cl,B.na_Wishes_wake,by rw [e1,e2]; simp only [List.length_cons,List.length_nil]; decide,?_⟩
  nofun
  refine ⟨_,.inl (SqL.of (by rw [aI nlq,aI nlq,aI nlq]; exact S1 _ _ hl)),fun l' hl'=>?_⟩
  have nlp:l'≠p:=fun z=>by rw [z,aC] at hl'; cases hl'
  have hl1:H1 l'=none:=by rw [aI nlp,aI nlp,aI nlp] at hl'; exact hl'
  refine ⟨_,_,_,by rw [aI nlp.symm]; exact aC,B.ck_Wishes.cl,B.na_Wishes_lines,by rw [e1,e2,e3]; simp only [List.length_cons,List.length_nil]; decide,?_⟩
  refine q _ (fun b o n e=>?_)
  rw [aI n,aI (aR (S1 _ _ e) hl1),aI n,aI n,aI n]
  exact S1 b o e
 ·exact ⟨z,rfl,.inr ⟨b,q⟩⟩
theorem fW {H H':Hp}{w x:Addr}{o:HO}(B:But w H H')(hw:H' w=some o)(hx:H' x=none):H x=none:=by
 cases e:H x with
 | none=>rfl
 | some u =>
  have q:=B x u (fun z=>by rw [z,hw] at hx; cases hx) e
  rw [hx] at q
  cases q
theorem lS {ts l:List Str}{i:Nat}(h:ts.drop i=l)(k:Nat):ts.getD (i+k) ""=l.getD k "":=by
 rw [← h,List.getD_eq_getElem?_getD,List.getD_eq_getElem?_getD,List.getElem?_drop]
theorem WAt.but {C:Addr}{H H':Hp}{wp dw wl x:Addr}{ts:List Str}{i:Nat}(h:WAt C H wp dw wl ts i)(B:But x H H')(n1:wp≠x)(n2:wl≠x):WAt C H' wp dw wl ts i:=⟨B _ _ n1 h.w,B _ _ n2 h.l⟩
theorem oN (B:Bt K mg a)(cV:∀ C sp,iK K a C sp→CalM P w K mg base C "take" ["self"] 2 sp)(xW:CalC P w K mg base "Kind" a.Kind ["self","names"] 4 (fM K a))(jM:∀ C sp,nA K a C sp→CalM P w K mg base C "take_names" ["self"] 3 sp)(bB:CalI P w K mg base "NoText" a.NoText "line" 1 (.int 0))(F:Fun K "plain_fit_from" "plain_fit_from" cQ f fd):FnOk P w K mg base (CXF P w) 6 f fd ["words","opened"] (iY K a):=by
 refine Fun.okX F sc_plain_fit_from (fun vs H Q E h=>?_) (fun cdv A outer s H vs Q E hr h=>?_)
 ·obtain ⟨wp,dw,wl,ts,i,op,rfl,_⟩:=h
  rfl
 obtain ⟨wp,dw,wl,ts,i,op,rfl,W,hT,hl,ho,q⟩:=h
 refine ⟨_,(aY (aB (aU (i:=2) sc_plain_fit_from.nd rfl (Or.inl rfl) (aQ (aN (pv 0) cV dE (hr.mono (by decide)))) (by kernel_rfl)) (aB (bN (kJ PassesOwn.leaving (L2.PW.pt (kZ (bC iQ (pv 2) bE (bF _)) (iO (bC iQ (pv 2) bE (bF _))))) (aY (cL bJ)))) (aB (bM (bC iQ (pv 2) bE (bF _)) (cL bJ) aT) (aB (bM (bC iQ (pv 2) bE (bF _)) (aJ (aZ (aQ (yP xW dE (hr.mono (by decide)) rfl (aK (aS (aN (pv 0) jM dE (hr.mono (by decide))) aF)) (he:=aG _ _ _ rfl) (hpl:=aH rfl))))) aT) (aB (bM (bC iQ (pv 2) bE (bF _)) (cL bJ) aT) (aB (bM (bC iQ (pv 2) bE (bF _)) (cL bJ) aT) (cL (fL (dZ (R:=fun dx H9=>E (.ref a.NoText) (some dx) H9) bB rfl rfl (hr.mono (by decide)) iG)))))))))),?_⟩
 nofun
 refine ⟨_,_,_,W.w,rfl,_,⟨rfl,rfl⟩,wp,dw,wl,ts,i,rfl,W,?_⟩
 have W1:=W.take (i+1)
 have B1:But wp H (upd H wp (.ins a.Words dw (bA wl (i+1)))):=But.upd _
 generalize upd H wp (.ins a.Words dw (bA wl (i+1)))=H1 at *
 nofun
 refine whl (fun σ H2=>σ=[some (.ref wp),some (.ref op),some (.str (ts.getD i ""))]∧H2=H1) (fun _ _=>0) ⟨rfl,rfl⟩ ?_
 rintro σ H2 ⟨rfl,rfl⟩
 nofun
 rcases q with ⟨⟨k0,k1,k2⟩,q⟩ | ⟨e,q⟩
 ·rw [k0,if_neg (by decide),if_neg (by decide),if_neg (by decide),if_pos rfl]
  refine ⟨_,_,_,W1.w,rfl,_,⟨rfl,rfl⟩,wp,dw,wl,ts,i+1,rfl,W1,hT,hl,fun l H3 B3 hl0 el W3=>?_⟩
  have en:((ts.drop (i+1)).takeWhile fun u=>decide (jS u))=[("not":Str)]:=by
   rw [sV rfl (by rw [k1]; decide +kernel),vR (i:=i+1+1) (by rw [show i+1+1=i+2 from rfl,k2]; decide +kernel),k1]
  rw [en] at el W3
  intro x dx hx hd ne
  have M0:=fJ (o:=.own x) (o':=.ins a.Kind dx []) hx hd
  refine ⟨x,dx,l,rfl,aC,M0 _ _ el,fun fs H4 B4 e4=>⟨rfl,?_⟩⟩
  have S4:=fU hx hd B4
  exact q (.ref x) x dx fs H4 rfl ((B1.trans B3).trans (Same.but S4)) (fW (B1.trans B3) W3.w hx) e4 (W3.same S4)
 ·rw [e,if_neg (by decide),if_neg (by decide),if_neg (by decide),if_neg (by decide),if_neg (by decide),if_neg (by decide)]
  exact fun y hy=>q y _ (B1.trans (Same.but (aE hy _)))
theorem AK3 (B:Bt K mg a)(F:Fun K "closed" "closed" kN f fd):FnOk P w K mg base CX0 1 f fd ["fit","words","opened"] (vP K a):=by
 refine F.ok AJ6 (by walk_at "ln") fun cdv A outer s H vs Q E hr h=>?_
 obtain ⟨v,wp,op,rfl,ho,q⟩:=h
 refine ⟨_,(aY (aB (bN (kJ PassesOwn.never (bC zH (aV bI rfl B.len PySem.boot_len (aK (aS (pv 2) aF))) aW (bF _)) (aY (cL bJ)))) (aJ (aZ (aQ (pv 0)))))),?_⟩
 nofun
 refine whl (fun σ H2=>σ=[some v,some (.ref wp),some (.ref op),none]∧H2=H) (fun _ _=>0) ⟨rfl,rfl⟩ ?_
 rintro σ H2 ⟨rfl,rfl⟩
 nofun
 refine ⟨_,.inl (SqL.of ho),?_⟩
 exists List.length_nil
 first | exact q | (rw [if_neg (by decide)]; exact q)
def FfI (a:Ad)(H:Hp)(wp dw wl op:Addr)(ts:List Str)(i:Nat)(σ:L2.St)(H1:Hp):Prop:=∃ fv,σ=[some (.ref wp),some (.ref op),some fv]∧((fv=.non∧H1=upd H op (.lst []))∨(∃ r d fs,fv=.ref r∧But wp H H1∧H r=none∧H1 r=some (.ins a.Kind d fs)∧WAt a.Words H1 wp dw wl ts (i+2)∧ts.getD i ""="kind"∧ts.getD (i+1) ""="not"∧ts.getD (i+2) ""=":"))
theorem AY6 {ts:List Str}{i:Nat}(h:ts.getD i ""="kind"):i < ts.length:=by
 by_cases z:i < ts.length
 ·exact z
 ·rw [(jE (by omega)).1] at h
  exact absurd h (by decide)
theorem xN (B:Bt K mg a)(uG:CalX P w K mg base "closed" ["fit","words","opened"] 1 (vP K a))(fP:CalX P w K mg base "plain_fit_from" ["words","opened"] 6 (iY K a))(F:Fun K "fit_from" "fit_from" fZ f fd):FnOk P w K mg base (CXF P w) 7 f fd ["words"] (qV K a):=by
 refine Fun.okX F sc_fit_from (fun vs H Q E h=>?_) (fun cdv A outer s H vs Q E hr h=>?_)
 ·obtain ⟨wp,dw,wl,ts,i,rfl,_⟩:=h
  rfl
 obtain ⟨wp,dw,wl,ts,i,rfl,W,hT,hl,q⟩:=h
 refine ⟨_,(aY (aB (aU (i:=1) sc_fit_from.nd rfl (Or.inl rfl) (mK aF) (by kernel_rfl)) (aB (aU (i:=2) sc_fit_from.nd rfl (Or.inl rfl) (aQ uO) (by kernel_rfl)) (aB (bN (kJ PassesOwn.leaving (pX (sB (pv 2))) (aY (aJ (aU (i:=2) sc_fit_from.nd rfl (Or.inl rfl) (aQ (eT uG (hr.mono (by decide)) rfl (aK (aS (eT fP (hr.mono (by decide)) rfl (aK (aS (pv 0) (aS (pv 1) aF))) (he:=aG _ _ _ rfl) (hpl:=aH rfl)) (aS (pv 0) (aS (pv 1) aF)))) (he:=aG _ _ _ rfl) (hpl:=aH rfl))) (by kernel_rfl)))))) (aJ (aZ (aQ (pv 2)))))))),?_⟩
 nofun
 refine ⟨Nat.zero_le _,fun op hop=>?_⟩
 have S0:=aE hop (.lst [])
 have nop:op≠wp:=fun z=>by rw [z,W.w] at hop; cases hop
 refine whl (FfI a H wp dw wl op ts i) (fun _ H1=>3000 - zE wp H1) ⟨.non,rfl,.inl ⟨rfl,rfl⟩⟩ ?_
 rintro σ H2 ⟨fv,rfl,hc⟩
 nofun
 rcases hc with ⟨rfl,rfl⟩ | ⟨r,d,fs,rfl,B2,hr2,e2,W2,k⟩
 ·first | rw [if_pos rfl] | skip
  have W0:=W.same S0
  refine ⟨fun σ' H'=>FfI a H wp dw wl op ts i σ' H'∧3000 - zE wp H' < 3000 - zE wp (upd H op (.lst [])),fun σ' H' h=>⟨_,h.2,rfl,h.1⟩,?_⟩
  refine ⟨wp,dw,wl,ts,i,op,rfl,W0,hT,hl,aC,?_⟩
  rcases q with ⟨k,q⟩ | ⟨e,q⟩
  ·refine .inl ⟨k,fun v r d fs H3 ev B3 hr3 e3 W3=>?_⟩
   subst ev
   refine ⟨.ref r,wp,op,rfl,B3 _ _ nop aC,⟨.ref r,rfl,.inr ⟨r,d,fs,rfl,(Same.but S0).trans B3,S0.free hr3,e3,W3,k⟩⟩,?_⟩
   have:=AY6 k.1
   rw [vO W3,vO W0]
   omega
  ·exact .inr ⟨e,fun y H3 B3=>q y H3 ((Same.but S0).trans B3)⟩
 ·rw [if_neg (by intro z; cases z)]
  rcases q with ⟨_,q⟩ | ⟨e,q⟩
  ·exact q (.ref r) r d fs H2 rfl B2 hr2 e2 W2
  ·rw [k.1] at e
   exact absurd e (by decide)
theorem xO (B:Bt K mg a)(cV:∀ C sp,iK K a C sp→CalM P w K mg base C "take" ["self"] 2 sp)(F:Fun K "way_from" "way_from" gF f fd):FnOk P w K mg base CX0 3 f fd ["words"] (qW K a):=by
 refine F.ok sc_way_from (by walk_at "ln") fun cdv A outer s H vs Q E hr h=>?_
 obtain ⟨wp,dw,wl,ts,i,rfl,W,e,q⟩:=h
 refine ⟨_,(aY (aB (aU (i:=1) sc_way_from.nd rfl (Or.inl rfl) (aQ (aN (pv 0) cV pB (hr.mono (by decide)))) (by kernel_rfl)) (aB (bM (bC iQ (pv 1) bE (bF _)) (aJ (aZ (aQ (AW0 B.mk_Now rfl B.Now)))) aT) (cL bJ)))),?_⟩
 nofun
 refine ⟨_,_,_,W.w,rfl,_,⟨rfl,rfl⟩,wp,dw,wl,ts,i,rfl,W,?_⟩
 have W1:=W.take (i+1)
 have B1:But wp H (upd H wp (.ins a.Words dw (bA wl (i+1)))):=But.upd _
 generalize upd H wp (.ins a.Words dw (bA wl (i+1)))=H1 at *
 nofun
 first | rw [if_pos e] | skip
 intro x dx hx hd ne
 have M0:=fJ (o:=.own x) (o':=.ins a.Now dx []) hx hd
 exact q x dx _ (B1.trans (Same.but M0)) (fW B1 W1.w hx) aC (W1.same M0)
theorem kR (B:Bt K mg a)(oO:CalX P w K mg base "fit_from" ["words"] 7 (qV K a))(gZ:∀ C sp,rA K a C sp→CalM P w K mg base C "expect" ["self","word"] 3 sp)(oP:CalX P w K mg base "way_from" ["words"] 3 (qW K a))(eO:∀ C sp,kE K a C sp→CalM P w K mg base C "take_some" ["self","count"] 1 sp)(cS:∀ C sp,mZ K a C sp→CalM P w K mg base C "takes" ["self","word"] 2 sp)(CD_Line_5:CalD P w K mg base "Line" a.Line ["self","fit","way","roads","sure","raised"] 3 [] (fN K a))(aM:∀ C sp,cU K a C sp→CalM P w K mg base C "take_number" ["self"] 3 sp)(F:Fun K "line_from" "line_from" bQ f fd):FnOk P w K mg base (CXF P w) 8 f fd ["words"] (fS K a):=by
 refine Fun.okX F sc_line_from_wording (fun vs H Q E h=>?_) (fun cdv A outer s H vs Q E hr h=>?_)
 ·obtain ⟨wp,dw,wl,ts,i,rfl,_⟩:=h
  rfl
 obtain ⟨wp,dw,wl,ts,i,rfl,W,hT,hl,q⟩:=h
 refine ⟨_,(aY (aB (aU (i:=1) sc_line_from_wording.nd rfl (Or.inl rfl) (aQ (eT oO (hr.mono (by decide)) rfl (aK (aS (pv 0) aF)) (he:=aG _ _ _ rfl) (hpl:=aH rfl))) (by kernel_rfl)) (aB (bN (cY (cW (pv 0) gZ dE (hr.mono (by decide)) (aK (aS bE aF)) (hst:=aG _ _ _ rfl) (hpl:=aH rfl)))) (aB (aU (i:=2) sc_line_from_wording.nd rfl (Or.inl rfl) (aQ (eT oP (hr.mono (by decide)) rfl (aK (aS (pv 0) aF)) (he:=aG _ _ _ rfl) (hpl:=aH rfl))) (by kernel_rfl)) (aB (bM (bL (aV (oE (K:=K) rfl) rfl B.isinstance PyProof.Rows.boot_isinstance (aK (aS (pv 2) (aS (bS (v:=.ref _) rfl B.Never rfl) aF))) (he:=aG _ _ _ rfl) (hpl:=aH rfl))) (cL bJ) aT) (aB (bN (cY (cW (pv 0) gZ dE (hr.mono (by decide)) (aK (aS bE aF)) (hst:=aG _ _ _ rfl) (hpl:=aH rfl)))) (aB (aU (i:=3) sc_line_from_wording.nd rfl (Or.inl rfl) (aQ (cW (pv 0) eO dE (hr.mono (by decide)) (aK (aS (aN (pv 0) aM dE (hr.mono (by decide))) aF)) (hst:=aG _ _ _ rfl) (hpl:=aH rfl))) (by kernel_rfl)) (aB (aU (i:=4) sc_line_from_wording.nd rfl (Or.inl rfl) (aQ (cW (pv 0) cS dE (hr.mono (by decide)) (aK (aS bE aF)) (hst:=aG _ _ _ rfl) (hpl:=aH rfl))) (by kernel_rfl)) (aB (aU (i:=5) sc_line_from_wording.nd rfl (Or.inl rfl) (aQ (pR (bL (cW (pv 0) cS dE (hr.mono (by decide)) (aK (aS bE aF)) (hst:=aG _ _ _ rfl) (hpl:=aH rfl))) BJ3 uO)) (by kernel_rfl)) (aJ (aZ (aQ (AH1 CD_Line_5 dE (hr.mono (by decide)) rfl (aK (aS (pv 1) (aS (pv 2) (aS (pv 3) (aS (pv 4) (aS (pv 5) aF)))))) (he:=aG _ _ _ rfl) (hpl:=aH rfl)))))))))))))),?_⟩
 nofun
 rcases q with ⟨ed,q⟩ | ⟨e,q⟩
 ·have g0:ts.getD i ""="kind":=lS ed 0
  have g1:ts.getD (i+1) ""="not":=lS ed 1
  have g2:ts.getD (i+2) ""=":":=lS ed 2
  have g3:ts.getD (i+2+1) ""="now":=lS ed 3
  have g4:ts.getD (i+2+1+1) ""="by":=lS ed 4
  have g5:ts.getD (i+2+1+1+1) ""="1":=lS ed 5
  have g7:ts.getD (i+2+1+1+1+1+1) ""="":=lS ed 7
  have ln:ts.length=i+7:=by
   have:=congrArg List.length ed
   rw [List.length_drop] at this
   simp only [List.length_cons,List.length_nil] at this
   omega
  have g6:((ts.drop (i+2+1+1+1+1)).take 1).map V.str=[.str "mail"]:=by
   rw [show i+2+1+1+1+1=i+6 from rfl,← List.drop_drop,ed]
   rfl
  refine ⟨wp,dw,wl,ts,i,rfl,W,hT,hl,.inl ⟨⟨g0,g1,g2⟩,fun v r d fs H1 ev B1 hr1 e1 W1=>?_⟩⟩
  subst ev
  have nr:r≠wp:=fun z=>by rw [z,W.w] at hr1; cases hr1
  nofun
  refine ⟨_,_,_,W1.w,rfl,_,⟨rfl,rfl⟩,wp,dw,wl,ts,i+2,_,rfl,W1,.inl ⟨g2,?_⟩⟩
  have W2:=W1.take (i+2+1)
  have B2:But wp H1 (upd H1 wp (.ins a.Words dw (bA wl (i+2+1)))):=But.upd _
  generalize upd H1 wp (.ins a.Words dw (bA wl (i+2+1)))=H2 at *
  nofun
  refine ⟨wp,dw,wl,ts,i+2+1,rfl,W2,g3,fun y dy H3 B3 hy e3 W3=>?_⟩
  have ny:y≠wp:=fun z=>by rw [z,W2.w] at hy; cases hy
  nofun
  refine ⟨_,_,_,false,rfl,B.ck_Now.ty e3,B.is_Now_Never,?_⟩
  nofun
  refine ⟨_,_,_,W3.w,rfl,_,⟨rfl,rfl⟩,wp,dw,wl,ts,i+2+1+1,_,rfl,W3,.inl ⟨g4,?_⟩⟩
  have W4:=W3.take (i+2+1+1+1)
  have B4:But wp H3 (upd H3 wp (.ins a.Words dw (bA wl (i+2+1+1+1)))):=But.upd _
  generalize upd H3 wp (.ins a.Words dw (bA wl (i+2+1+1+1)))=H4 at *
  nofun
  refine ⟨_,_,_,W4.w,rfl,_,⟨rfl,rfl⟩,_,_,_,W4.w,rfl,_,⟨rfl,rfl⟩,wp,dw,wl,ts,i+2+1+1+1,rfl,W4,aO hT _,.inl ⟨by rw [g5]; decide +kernel,fun H5 B5 W5=>?_⟩⟩
  have e5:wE (ts.getD (i+2+1+1+1) "")=((1:Nat):Int):=by rw [g5]; decide +kernel
  rw [e5]
  refine ⟨wp,dw,wl,ts,i+2+1+1+1+1,1,rfl,W5,by omega,hl,fun l H6 B6 hl6 e6 W6=>?_⟩
  rw [g6] at e6
  have nl:l≠wp:=fun z=>by rw [z,W5.w] at hl6; cases hl6
  nofun
  refine ⟨_,_,_,W6.w,rfl,_,⟨rfl,rfl⟩,wp,dw,wl,ts,i+2+1+1+1+1+1,_,rfl,W6,.inr ⟨by rw [g7]; decide,?_⟩⟩
  nofun
  refine ⟨_,_,_,W6.w,rfl,_,⟨rfl,rfl⟩,wp,dw,wl,ts,i+2+1+1+1+1+1,_,rfl,W6,.inr ⟨by rw [g7]; decide,?_⟩⟩
  nofun
  have BB:=B1.trans (B2.trans (B3.trans (B4.trans (B5.trans B6))))
  have er:=(B2.trans (B3.trans (B4.trans (B5.trans B6)))) _ _ nr e1
  have ey:=(B4.trans (B5.trans B6)) _ _ ny e3
  intro x dx hx hd ne
  have M0:=fJ (o:=.own x) (o':=.ins a.Line dx []) hx hd
  refine ⟨x,dx,r,y,l,d,dy,fs,[],rfl,aC,M0 _ _ er,M0 _ _ ey,M0 _ _ e6,fun l' H7 B7 e7=>⟨rfl,?_⟩⟩
  have S7:=fU hx hd B7
  exact q x dx _ H7 (BB.trans (Same.but S7)) (fW BB W6.w hx) e7 (W6.same S7)
 ·exact ⟨wp,dw,wl,ts,i,rfl,W,hT,hl,.inr ⟨e,q⟩⟩
def WsF (a:Ad)(H:Hp)(wp dw wl qp lp:Addr)(σ:L2.St)(H9:Hp):Prop:=σ=[some (.ref wp),some (.int (wE (W2.getD 1 ""))),some (.ref qp),some (.int 3),some (.bl false),some (.int 5),some (.ref lp)]∧But wp H H9∧WAt a.Words H9 wp dw wl W2 15∧H9 qp=some (.tup [.int 5,.int 700])∧∃ r d fs,H9 lp=some (.lst [.ref r])∧H9 r=some (.ins a.Line d fs)
def WsT (wp qp lp:Addr)(J:Hp)(σ:L2.St)(H9:Hp):Prop:=σ=[some (.ref wp),some (.int (wE (W2.getD 1 ""))),some (.ref qp),some (.int 3),some (.bl true),some (.int 5),some (.ref lp)]∧H9=J
theorem rW (B:Bt K mg a)(gZ:∀ C sp,rA K a C sp→CalM P w K mg base C "expect" ["self","word"] 3 sp)(aM:∀ C sp,cU K a C sp→CalM P w K mg base C "take_number" ["self"] 3 sp)(cS:∀ C sp,mZ K a C sp→CalM P w K mg base C "takes" ["self","word"] 2 sp)(CD_Wishes_4:CalD P w K mg base "Wishes" a.Wishes ["self","zone","quiet","wake","lines"] 6 [] (eU K a))(eF:CalX P w K mg base "line_from_wording" ["words"] 8 (fS K a))(dF:∀ C sp,jH K a C sp→CalM P w K mg base C "is_ended" ["self"] 1 sp)(eE:∀ C sp,oI K a C sp→CalM P w K mg base C "look" ["self"] 1 sp)(F:Fun K "wishes_from" "wishes_from" dW f fd):FnOk P w K mg base (CXF P w) 9 f fd ["words"] (iJ K a):=by
 refine Fun.okX F sc_wishes_from (fun vs H Q E h=>?_) (fun cdv A outer s H vs Q E hr h=>?_)
 ·obtain ⟨wp,dw,wl,ts,rfl,_⟩:=h
  rfl
 obtain ⟨wp,dw,wl,ts,rfl,W,hT,hl,q⟩:=h
 refine ⟨_,(aY (aB (bN (cY (cW (pv 0) gZ dE (hr.mono (by decide)) (aK (aS bE aF)) (hst:=aG _ _ _ rfl) (hpl:=aH rfl)))) (aB (aU (i:=1) sc_wishes_from.nd rfl (Or.inl rfl) (aQ (aN (pv 0) aM dE (hr.mono (by decide)))) (by kernel_rfl)) (aB (aU (i:=2) sc_wishes_from.nd rfl (Or.inl rfl) (aQ uO) (by kernel_rfl)) (aB (aU (i:=3) sc_wishes_from.nd rfl (Or.inl rfl) (aQ uO) (by kernel_rfl)) (aB (aU (i:=4) sc_wishes_from.nd rfl (Or.inl rfl) (aQ (cW (pv 0) cS dE (hr.mono (by decide)) (aK (aS bE aF)) (hst:=aG _ _ _ rfl) (hpl:=aH rfl))) (by kernel_rfl)) (aB (bM (L2.PW.pt (uP (bL (pv 4)) (pY (bL (cW (pv 0) cS dE (hr.mono (by decide)) (aK (aS bE aF)) (hst:=aG _ _ _ rfl) (hpl:=aH rfl)))))) (aB (aU (i:=5) sc_wishes_from.nd rfl (Or.inl rfl) (aQ (aN (pv 0) aM dE (hr.mono (by decide)))) (by kernel_rfl)) (aB (aU (i:=2) sc_wishes_from.nd rfl (Or.inl rfl) (aQ (hG (aK (aS (pv 5) (aS (aN (pv 0) aM dE (hr.mono (by decide))) aF))))) (by kernel_rfl)) (aB (bM (L2.PW.pt (uP (cX (bL (aN (pv 0) dF dE (hr.mono (by decide))))) (pY (bC nW (aN (pv 0) eE dE (hr.mono (by decide))) bE (bF _))))) (aJ (aU (i:=3) sc_wishes_from.nd rfl (Or.inl rfl) (aQ (aN (pv 0) aM dE (hr.mono (by decide)))) (by kernel_rfl))) aT) (aJ (aU (i:=4) sc_wishes_from.nd rfl (Or.inl rfl) (aQ (cW (pv 0) cS dE (hr.mono (by decide)) (aK (aS bE aF)) (hst:=aG _ _ _ rfl) (hpl:=aH rfl))) (by kernel_rfl)))))) aT) (aB (aU (i:=6) sc_wishes_from.nd rfl (Or.inl rfl) (mK aF) (by kernel_rfl)) (aB (bN (kJ PassesOwn.leaving (bL (pv 4)) (aY (aB (bN (cY (lB PySem.F.plainAttrs_list PySem.F.slot_list_append PySem.F.type_list_append gP (pv 6) (aK (aS (eT eF (hr.mono (by decide)) rfl (aK (aS (pv 0) aF)) (he:=aG _ _ _ rfl) (hpl:=aH rfl)) aF))))) (aJ (aU (i:=4) sc_wishes_from.nd rfl (Or.inl rfl) (aQ (cW (pv 0) cS dE (hr.mono (by decide)) (aK (aS bE aF)) (hst:=aG _ _ _ rfl) (hpl:=aH rfl))) (by kernel_rfl))))))) (aJ (aZ (aQ (AH1 CD_Wishes_4 dE (hr.mono (by decide)) rfl (aK (aS (pv 1) (aS (pv 2) (aS (pv 3) (aS (pv 6) aF))))) (he:=aG _ _ _ rfl) (hpl:=aH rfl)))))))))))))),?_⟩
 nofun
 rcases q with ⟨rfl | rfl,q⟩ | ⟨rfl | rfl | rfl | rfl,q⟩
 ·-- W1
  refine ⟨_,_,_,W.w,rfl,_,⟨rfl,rfl⟩,wp,dw,wl,_,0,_,rfl,W,.inl ⟨by decide +kernel,?_⟩⟩
  have V1:=W.take (0+1)
  have D1:But wp H (upd H wp (.ins a.Words dw (bA wl (0+1)))):=But.upd _
  generalize upd H wp (.ins a.Words dw (bA wl (0+1)))=J1 at *
  nofun
  refine ⟨_,_,_,V1.w,rfl,_,⟨rfl,rfl⟩,wp,dw,wl,_,1,rfl,V1,aO hT _,.inl ⟨by decide +kernel,fun J2 D2 V2=>?_⟩⟩
  nofun
  refine ⟨_,_,_,V2.w,rfl,_,⟨rfl,rfl⟩,wp,dw,wl,_,2,_,rfl,V2,.inr ⟨by decide +kernel,?_⟩⟩
  nofun
  refine ⟨Nat.zero_le _,fun lp hlp=>?_⟩
  have Slp:=aE hlp (.lst [])
  have elp:upd J2 lp (.lst []) lp=some (.lst []):=aC
  have nlp:lp≠wp:=fun z=>by rw [z,V2.w] at hlp; cases hlp
  have flp:H lp=none:=fW (D1.trans D2) V2.w hlp
  have V3:=V2.same Slp
  have D3:But wp J2 (upd J2 lp (.lst [])):=Same.but Slp
  generalize upd J2 lp (.lst [])=J3 at *
  nofun
  refine whl (fun σ H9=>σ=[some (.ref wp),some (.int (wE (W1.getD 1 ""))),some .non,some .non,some (.bl false),none,some (.ref lp)]∧H9=J3) (fun _ _=>0) ⟨rfl,rfl⟩ ?_
  rintro σ H9 ⟨rfl,rfl⟩
  nofun
  first | rw [if_neg (by decide)] | skip
  intro x dx hx hd ne
  have M0:=fJ (o:=.own x) (o':=.ins a.Wishes dx []) hx hd
  refine ⟨x,dx,lp,_,.non,.non,[],rfl,aC,.inl rfl,.inl rfl,M0 _ _ elp,by decide,fun y hy=>(by cases hy),?_⟩
  exact .inl ⟨by decide +kernel,fun H8 B8=>⟨rfl,q _ H8 ((D1.trans (D2.trans D3)).trans (Same.but (fU hx hd B8))) (V3.same (fU hx hd B8))⟩⟩
 ·-- W2
  refine ⟨_,_,_,W.w,rfl,_,⟨rfl,rfl⟩,wp,dw,wl,_,0,_,rfl,W,.inl ⟨by decide +kernel,?_⟩⟩
  have V1:=W.take (0+1)
  have D1:But wp H (upd H wp (.ins a.Words dw (bA wl (0+1)))):=But.upd _
  generalize upd H wp (.ins a.Words dw (bA wl (0+1)))=J1 at *
  nofun
  refine ⟨_,_,_,V1.w,rfl,_,⟨rfl,rfl⟩,wp,dw,wl,_,1,rfl,V1,aO hT _,.inl ⟨by decide +kernel,fun J2 D2 V2=>?_⟩⟩
  nofun
  refine ⟨_,_,_,V2.w,rfl,_,⟨rfl,rfl⟩,wp,dw,wl,_,2,_,rfl,V2,.inl ⟨by decide +kernel,?_⟩⟩
  have V3:=V2.take (2+1)
  have D3:But wp J2 (upd J2 wp (.ins a.Words dw (bA wl (2+1)))):=But.upd _
  generalize upd J2 wp (.ins a.Words dw (bA wl (2+1)))=J3 at *
  nofun
  refine ⟨_,_,_,V3.w,rfl,_,⟨rfl,rfl⟩,wp,dw,wl,_,3,_,rfl,V3,.inl ⟨by decide +kernel,?_⟩⟩
  have V4:=V3.take (3+1)
  have D4:But wp J3 (upd J3 wp (.ins a.Words dw (bA wl (3+1)))):=But.upd _
  generalize upd J3 wp (.ins a.Words dw (bA wl (3+1)))=J4 at *
  nofun
  refine ⟨_,_,_,V4.w,rfl,_,⟨rfl,rfl⟩,wp,dw,wl,_,4,rfl,V4,aO hT _,.inl ⟨by decide +kernel,fun J5 D5 V5=>?_⟩⟩
  nofun
  refine ⟨_,_,_,V5.w,rfl,_,⟨rfl,rfl⟩,wp,dw,wl,_,5,rfl,V5,aO hT _,.inl ⟨by decide +kernel,fun J6 D6 V6=>?_⟩⟩
  nofun
  have q5:wE (W2.getD 4 "")=5:=by decide +kernel
  have q7:wE (W2.getD 5 "")=700:=by decide +kernel
  have q3:wE (W2.getD 6 "")=3:=by decide +kernel
  try rw [q5,q7]
  refine ⟨sz8 (by decide),fun qp hqp=>?_⟩
  have Sqp:=aE hqp (.tup [.int 5,.int 700])
  have eqp:upd J6 qp (.tup [.int 5,.int 700]) qp=some (.tup [.int 5,.int 700]):=aC
  have nqp:qp≠wp:=fun z=>by rw [z,V6.w] at hqp; cases hqp
  have fqp:H qp=none:=fW (D1.trans (D2.trans (D3.trans (D4.trans (D5.trans D6))))) V6.w hqp
  have V7:=V6.same Sqp
  have D7:But wp J6 (upd J6 qp (.tup [.int 5,.int 700])):=Same.but Sqp
  generalize upd J6 qp (.tup [.int 5,.int 700])=J7 at *
  nofun
  refine ⟨_,_,_,V7.w,rfl,_,⟨rfl,rfl⟩,wp,dw,wl,_,6,rfl,V7,?_⟩
  first | rw [if_neg (by decide)] | skip
  nofun
  first | refine ⟨_,_,_,V7.w,rfl,_,⟨rfl,rfl⟩,wp,dw,wl,_,6,rfl,V7,?_⟩ | trace_state
  nofun
  first | rw [if_pos (by decide)] | skip
  refine ⟨_,_,_,V7.w,rfl,_,⟨rfl,rfl⟩,wp,dw,wl,_,6,rfl,V7,aO hT _,.inl ⟨by decide +kernel,fun J8 D8 V8=>?_⟩⟩
  nofun
  try rw [q3]
  refine ⟨_,_,_,V8.w,rfl,_,⟨rfl,rfl⟩,wp,dw,wl,_,7,_,rfl,V8,.inl ⟨by decide +kernel,?_⟩⟩
  have V9:=V8.take (7+1)
  have D9:But wp J8 (upd J8 wp (.ins a.Words dw (bA wl (7+1)))):=But.upd _
  generalize upd J8 wp (.ins a.Words dw (bA wl (7+1)))=J9 at *
  nofun
  refine ⟨Nat.zero_le _,fun lp hlp=>?_⟩
  have Slp:=aE hlp (.lst [])
  have elp:upd J9 lp (.lst []) lp=some (.lst []):=aC
  have nlp:lp≠wp:=fun z=>by rw [z,V9.w] at hlp; cases hlp
  have flp:H lp=none:=fW (D1.trans (D2.trans (D3.trans (D4.trans (D5.trans (D6.trans (D7.trans (D8.trans D9)))))))) V9.w hlp
  have V10:=V9.same Slp
  have D10:But wp J9 (upd J9 lp (.lst [])):=Same.but Slp
  generalize upd J9 lp (.lst [])=J10 at *
  nofun
  have eqp2:=(D8.trans (D9.trans D10)) _ _ nqp eqp
  have BB:=(D1.trans (D2.trans (D3.trans (D4.trans (D5.trans (D6.trans (D7.trans (D8.trans (D9.trans D10)))))))))
  have Wl:=V10
  refine whl (fun σ H9=>WsT wp qp lp J10 σ H9∨WsF a H wp dw wl qp lp σ H9) (fun _ H9=>3000 - zE wp H9) (.inl ⟨rfl,rfl⟩) ?_
  rintro σ H9 (⟨rfl,rfl⟩ | ⟨rfl,B9,W9,q9,r,d,fs,l9,r9⟩)
  ·nofun
   first | rw [if_pos rfl] | skip
   refine ⟨fun σ H8=>WsF a H wp dw wl qp lp σ H8∧3000 - zE wp H8 < 3000 - zE wp H9,fun _ _ z=>⟨_,z.2,rfl,.inr z.1⟩,?_⟩
   first | refine ⟨.inl ⟨rfl,_,SqL.of elp⟩,?_⟩ | skip
   nofun
   refine ⟨wp,dw,wl,_,8,rfl,Wl,hT,hl,.inl ⟨by decide +kernel,fun r d fs H7 B7 hr7 e7 W7=>?_⟩⟩
   have elp7:=B7 _ _ nlp elp
   have eqp7:=B7 _ _ nqp eqp2
   have nrl:r≠lp:=fun z=>by rw [z,elp] at hr7; cases hr7
   have nql:qp≠lp:=fun z=>by rw [z,elp] at eqp2; cases eqp2
   have nwl:wl≠lp:=fun z=>by have:=Wl.l; rw [z,elp] at this; cases this
   first | refine ⟨lp,_,_,rfl,rfl,elp7,by decide,?_⟩ | refine ⟨_,_,rfl,elp7,by decide,?_⟩ | trace_state
   have W6:WAt a.Words (upd H7 lp (.lst [.ref r])) wp dw wl W2 15:=⟨by rw [aI (Ne.symm nlp)]; exact W7.w,by rw [aI nwl]; exact W7.l⟩
   nofun
   refine ⟨_,_,_,W6.w,rfl,_,⟨rfl,rfl⟩,wp,dw,wl,_,15,_,rfl,W6,.inr ⟨by decide +kernel,?_⟩⟩
   nofun
   refine ⟨⟨rfl,fun b o n e=>?_,W6,by rw [aI nql]; exact eqp7,r,d,fs,aC,by rw [aI nrl]; exact e7⟩,?_⟩
   ·rw [aI (fun z=>by rw [z,flp] at e; cases e)]
    exact (BB.trans B7) b o n e
   ·rw [vO W6,vO Wl]
    decide
  ·nofun
   first | rw [if_neg (by decide)] | skip
   intro x dx hx hd ne
   have M0:=fJ (o:=.own x) (o':=.ins a.Wishes dx []) hx hd
   refine ⟨x,dx,lp,_,.int 3,.ref qp,[.ref r],rfl,aC,.inr ⟨qp,rfl,M0 _ _ q9⟩,.inr ⟨rfl,qp,rfl⟩,M0 _ _ l9,(show 1≤10 by decide),fun y hy=>(by rw [List.mem_singleton.mp hy]; exact ⟨r,d,fs,rfl,M0 _ _ r9⟩),.inl ⟨by decide +kernel,fun H8 B8=>⟨rfl,?_⟩⟩⟩
   exact q _ H8 (B9.trans (Same.but (fU hx hd B8))) (W9.same (fU hx hd B8))
 ·refine ⟨_,_,_,W.w,rfl,_,⟨rfl,rfl⟩,wp,dw,wl,_,0,_,rfl,W,.inr ⟨by decide +kernel,fun y H8 S8=>q _ _ _ (.inl rfl) (Same.but S8)⟩⟩
 ·-- B2
  refine ⟨_,_,_,W.w,rfl,_,⟨rfl,rfl⟩,wp,dw,wl,_,0,_,rfl,W,.inl ⟨by decide +kernel,?_⟩⟩
  have V1:=W.take (0+1)
  have D1:But wp H (upd H wp (.ins a.Words dw (bA wl (0+1)))):=But.upd _
  generalize upd H wp (.ins a.Words dw (bA wl (0+1)))=J1 at *
  nofun
  refine ⟨_,_,_,V1.w,rfl,_,⟨rfl,rfl⟩,wp,dw,wl,_,1,rfl,V1,aO hT _,.inl ⟨by decide +kernel,fun J2 D2 V2=>?_⟩⟩
  nofun
  refine ⟨_,_,_,V2.w,rfl,_,⟨rfl,rfl⟩,wp,dw,wl,_,2,_,rfl,V2,.inr ⟨by decide +kernel,?_⟩⟩
  nofun
  refine ⟨Nat.zero_le _,fun lp hlp=>?_⟩
  have Slp:=aE hlp (.lst [])
  have elp:upd J2 lp (.lst []) lp=some (.lst []):=aC
  have nlp:lp≠wp:=fun z=>by rw [z,V2.w] at hlp; cases hlp
  have flp:H lp=none:=fW (D1.trans D2) V2.w hlp
  have V3:=V2.same Slp
  have D3:But wp J2 (upd J2 lp (.lst [])):=Same.but Slp
  generalize upd J2 lp (.lst [])=J3 at *
  nofun
  refine whl (fun σ H9=>σ=[some (.ref wp),some (.int (wE (B2.getD 1 ""))),some .non,some .non,some (.bl false),none,some (.ref lp)]∧H9=J3) (fun _ _=>0) ⟨rfl,rfl⟩ ?_
  rintro σ H9 ⟨rfl,rfl⟩
  nofun
  first | rw [if_neg (by decide)] | skip
  intro x dx hx hd ne
  have M0:=fJ (o:=.own x) (o':=.ins a.Wishes dx []) hx hd
  refine ⟨x,dx,lp,_,.non,.non,[],rfl,aC,.inl rfl,.inl rfl,M0 _ _ elp,by decide,fun y hy=>(by cases hy),?_⟩
  exact .inr ⟨by decide +kernel,q _ _ _ (.inr rfl) ((D1.trans (D2.trans D3)).trans (Same.but M0))⟩
 ·-- B3
  refine ⟨_,_,_,W.w,rfl,_,⟨rfl,rfl⟩,wp,dw,wl,_,0,_,rfl,W,.inl ⟨by decide +kernel,?_⟩⟩
  have V1:=W.take (0+1)
  have D1:But wp H (upd H wp (.ins a.Words dw (bA wl (0+1)))):=But.upd _
  generalize upd H wp (.ins a.Words dw (bA wl (0+1)))=J1 at *
  nofun
  refine ⟨_,_,_,V1.w,rfl,_,⟨rfl,rfl⟩,wp,dw,wl,_,1,rfl,V1,aO hT _,.inl ⟨by decide +kernel,fun J2 D2 V2=>?_⟩⟩
  nofun
  refine ⟨_,_,_,V2.w,rfl,_,⟨rfl,rfl⟩,wp,dw,wl,_,2,_,rfl,V2,.inl ⟨by decide +kernel,?_⟩⟩
  have V3:=V2.take (2+1)
  have D3:But wp J2 (upd J2 wp (.ins a.Words dw (bA wl (2+1)))):=But.upd _
  generalize upd J2 wp (.ins a.Words dw (bA wl (2+1)))=J3 at *
  nofun
  refine ⟨_,_,_,V3.w,rfl,_,⟨rfl,rfl⟩,wp,dw,wl,_,3,_,rfl,V3,.inr ⟨by decide +kernel,?_⟩⟩
  nofun
  refine ⟨Nat.zero_le _,fun lp hlp=>?_⟩
  have Slp:=aE hlp (.lst [])
  have elp:upd J3 lp (.lst []) lp=some (.lst []):=aC
  have nlp:lp≠wp:=fun z=>by rw [z,V3.w] at hlp; cases hlp
  have flp:H lp=none:=fW (D1.trans (D2.trans D3)) V3.w hlp
  have V4:=V3.same Slp
  have D4:But wp J3 (upd J3 lp (.lst [])):=Same.but Slp
  generalize upd J3 lp (.lst [])=J4 at *
  nofun
  refine whl (fun σ H9=>σ=[some (.ref wp),some (.int (wE (B3.getD 1 ""))),some .non,some .non,some (.bl true),none,some (.ref lp)]∧H9=J4) (fun _ _=>0) ⟨rfl,rfl⟩ ?_
  rintro σ H9 ⟨rfl,rfl⟩
  nofun
  first | rw [if_pos rfl] | skip
  refine ⟨fun _ _=>False,fun _ _ z=>z.elim,?_⟩
  first | refine ⟨.inl ⟨rfl,_,SqL.of elp⟩,?_⟩ | skip
  nofun
  exact ⟨wp,dw,wl,_,3,rfl,V4,hT,hl,.inr ⟨by decide +kernel,fun y H8 B8=>q _ _ _ (.inl rfl) ((D1.trans (D2.trans (D3.trans D4))).trans B8)⟩⟩
 ·refine ⟨_,_,_,W.w,rfl,_,⟨rfl,rfl⟩,wp,dw,wl,_,0,_,rfl,W,.inr ⟨by decide +kernel,fun y H8 S8=>q _ _ _ (.inl rfl) (Same.but S8)⟩⟩
theorem uD (B:Bt K mg a)(fX:CalC P w K mg base "Words" a.Words ["self","text"] 3 (dB K a))(cE:∀ C sp,fV K a C sp→CalM P w K mg base C "expect_end" ["self"] 3 sp)(oQ:CalIH P w K mg base "NoText" a.NoText "line" 1 (.int 0))(iN:CalFG 0 P w K mg base a.wishes_from ["words"] 9 (iJ K a))(F:Fun K "read_whole" "read_whole" eM f fd):FnOk P w K mg base (lC P w 1) 10 f fd ["text","part_from"] (jG K a):=by
 refine Fun.okW F sc_read_whole (fun vs H Q E h=>?_) (fun cdv A outer s H vs Q E hr h=>?_)
 ·obtain ⟨u,rfl,_⟩:=h
  rfl
 obtain ⟨u,rfl,ht,q⟩:=h
 refine ⟨_,(aY (aB (aU (i:=2) sc_read_whole.nd rfl (Or.inl rfl) (aQ (yP fX dC (hr.mono (by decide)) rfl (aK (aS (pv 0) aF)) (he:=aG _ _ _ rfl) (hpl:=aH rfl))) (by kernel_rfl)) (aB (bN (AX2 (i:=3) (j:=1) rfl rfl iN (hr.mono (by decide)) rfl (Or.inl rfl) (fun _=>(aK (aS (pv 2) aF))) sc_read_whole.nd rfl (Or.inl rfl) rfl rfl B.BellError oQ rfl (hr.mono (by decide)) zA BD5)) (aB (bN (cY (aN (pv 2) cE dC (hr.mono (by decide))))) (aJ (aZ (aQ (pv 3)))))))),?_⟩
 nofun
 intro x dx hx hd ne
 have M0:=fJ (o:=.own x) (o':=.ins a.Words dx []) hx hd
 refine ⟨x,dx,.str u,rfl,aC,.inl ⟨u,rfl,ht.1,ht.2.1,fun wl H1 hwl B1 W1=>⟨rfl,?_⟩⟩⟩
 have S1:=fU hx hd B1
 rcases q with ⟨g,q⟩ | ⟨b,q⟩
 ·refine ⟨x,dx,wl,_,rfl,W1,ht.2.2,ht.2.1,.inl ⟨g,fun v H2 B2 W2=>?_⟩⟩
  refine ⟨_,_,_,W2.w,rfl,_,⟨rfl,rfl⟩,x,dx,wl,_,_,rfl,W2,.inl ⟨rfl,?_⟩⟩
  exact q v H2 (fun b o e=>B2 b o (aR e hx) (S1 b o e))
 ·refine ⟨x,dx,wl,_,rfl,W1,ht.2.2,ht.2.1,.inr ⟨b,fun cls y H2 hc B2=>⟨?_,fun y2 hy2=>?_⟩⟩⟩
  ·rcases hc with rfl | rfl
   ·exact B.exm_NoText
   ·exact B.exm_NoClock
  ·exact q y2 _ (fun b o e=>aE hy2 _ b o (B2 b o (aR e hx) (S1 b o e)))
theorem rX (B:Bt K mg a)(kH:CalG 1 P w K mg base "read_whole" ["text","part_from"] 10 (jG K a))(F:Fun K "read_wishes" "read_wishes" dU f fd):FnOk P w K mg base (lC P w 1) 11 f fd ["text"] (iI K a):=by
 refine Fun.okW F rO (fun vs H Q E h=>?_) (fun cdv A outer s H vs Q E hr h=>?_)
 ·obtain ⟨u,rfl,_⟩:=h
  rfl
 obtain ⟨u,rfl,ht,q⟩:=h
 refine ⟨_,(aY (aJ (aZ (aQ (qK kH (hr.mono (by decide)) rfl (aK (aS (pv 0) (aS (bS (v:=.ref _) rfl B.wishes_from rfl) aF))) (he:=aG _ _ _ rfl) (hpl:=aH rfl)))))),?_⟩
 nofun
 exact ⟨u,rfl,ht,q⟩
theorem uE (B:Bt K mg a)(fX:CalC P w K mg base "Words" a.Words ["self","text"] 3 (dB K a))(cE:∀ C sp,fV K a C sp→CalM P w K mg base C "expect_end" ["self"] 3 sp)(bR:∀ C sp,jI K a C sp→CalM P w K mg base C "take_count" ["self"] 4 sp)(CMT_take:∀ C sp,iK K a C sp→CalMT P w K mg base C "take" ["self"] 2 sp)(F:Fun K "stamp_from" "stamp_from" eN f fd):FnOk P w K mg base (CXF P w) 5 f fd ["words"] (mY K a):=by
 refine Fun.okX F sc_stamp_from (fun vs H Q E h=>?_) (fun cdv A outer s H vs Q E hr h=>?_)
 ·obtain ⟨wp,dw,wl,ts,i,rfl,_⟩:=h
  rfl
 obtain ⟨wp,dw,wl,ts,i,rfl,W,ht,hs,q⟩:=h
 refine ⟨_,(aY (aB (aU (i:=1) sc_stamp_from.nd rfl (Or.inl rfl) (aQ (yP fX dE (hr.mono (by decide)) rfl (aK (aS (AX7 (AO6 (pv 0) CMT_take dE (hr.mono (by decide)))) aF)) (he:=aG _ _ _ rfl) (hpl:=aH rfl))) (by kernel_rfl)) (aB (aU (i:=2) sc_stamp_from.nd rfl (Or.inl rfl) (aQ (hG (aK (aS (aN (pv 1) bR dE (hr.mono (by decide))) (aS (aN (pv 1) bR dE (hr.mono (by decide))) aF))))) (by kernel_rfl)) (aB (bN (cY (aN (pv 1) cE dE (hr.mono (by decide))))) (aJ (aZ (aQ (pv 2)))))))),?_⟩
 obtain ⟨d1,d2,d3⟩:=BJ8 hs
 nofun
 refine ⟨_,_,_,W.w,rfl,_,⟨rfl,rfl⟩,wp,dw,wl,ts,i,rfl,W,?_⟩
 have W1:=W.take (i+1)
 have B1:But wp H (upd H wp (.ins a.Words dw (bA wl (i+1)))):=But.upd _
 generalize upd H wp (.ins a.Words dw (bA wl (i+1)))=H1 at *
 generalize ts.getD i ""=u at *
 nofun
 refine ⟨by decide,by have:=ht.2.1; omega,by decide,?_⟩
 intro x dx hx hd ne
 have nwx:wp≠x:=aR W1.w hx
 have nlx:wl≠x:=aR W1.l hx
 refine ⟨x,dx,.str (BE0 u),rfl,aC,.inl ⟨BE0 u,rfl,by omega,d2,fun pl H2 hpl B2 P2=>⟨rfl,?_⟩⟩⟩
 have S2:=fU hx hd B2
 have P2:WAt a.Words H2 x dx pl (zU u) 0:=P2
 have W2:=W1.same S2
 have BX:∀ H',But x H2 H'→But wp H H':=fun H' b c o n e=>b c o (fun z=>by have:=B1 c o n e; rw [z,hx] at this; cases this) (S2 c o (B1 c o n e))
 nofun
 have hb:fK u=false→∀ y H',But wp H H'→E (.ref a.NoText) (some y) H':=fun e=>by
  rcases q with ⟨e',q⟩ | ⟨_,q⟩
  ·rw [e] at e'; cases e'
  ·exact q
 have hg:fK u=true→∀ v H',But wp H H'→WAt a.Words H' wp dw wl ts (i+1)→Q v H':=fun e=>by
  rcases q with ⟨_,q⟩ | ⟨e',q⟩
  ·exact q
  ·rw [e] at e'; cases e'
 clear q
 cases c0:vK ((zU u).getD 0 "") with
 | false=>exact ⟨_,_,_,P2.w,rfl,_,⟨rfl,rfl⟩,x,dx,pl,_,0,rfl,P2,aO d3 _,.inr ⟨c0,fun y H3 B3=>hb (by unfold fK; rw [c0]; rfl) y H3 (BX _ B3)⟩⟩
 | true =>
 refine ⟨_,_,_,P2.w,rfl,_,⟨rfl,rfl⟩,x,dx,pl,_,0,rfl,P2,aO d3 _,.inl ⟨c0,fun H3 B3 P3=>?_⟩⟩
 cases c1:vK ((zU u).getD 1 "") with
 | false=>exact ⟨_,_,_,P3.w,rfl,_,⟨rfl,rfl⟩,x,dx,pl,_,1,rfl,P3,aO d3 _,.inr ⟨c1,fun y H4 B4=>hb (by unfold fK; rw [c0,c1]; rfl) y H4 (BX _ (B3.trans B4))⟩⟩
 | true =>
 refine ⟨_,_,_,P3.w,rfl,_,⟨rfl,rfl⟩,x,dx,pl,_,1,rfl,P3,aO d3 _,.inl ⟨c1,fun H4 B4 P4=>?_⟩⟩
 refine ⟨sz8 (by first | decide | (simp only [List.length_cons,List.length_nil]; decide)),fun tp htp=>?_⟩
 have S5:=aE htp (.tup [.int (wE ((zU u).getD 0 "")),.int (wE ((zU u).getD 1 ""))])
 have P5:=P4.same S5
 have W5:=(W2.but (B3.trans B4) nwx nlx).same S5
 have B5:=BX _ ((B3.trans B4).trans (Same.but S5))
 nofun
 by_cases l2:(zU u).length=2
 ·refine ⟨_,_,_,P5.w,rfl,_,⟨rfl,rfl⟩,x,dx,pl,_,2,rfl,P5,.inl ⟨l2.symm,?_⟩⟩
  exact hg (by unfold fK; rw [c0,c1,decide_eq_true l2]; rfl) _ _ B5 W5
 ·refine ⟨_,_,_,P5.w,rfl,_,⟨rfl,rfl⟩,x,dx,pl,_,2,rfl,P5,.inr ⟨fun z=>l2 z.symm,fun y H6 S6 _=>?_⟩⟩
  exact hb (by unfold fK; rw [c0,c1,decide_eq_false l2]; rfl) y H6 (B5.trans (Same.but S6))
instance (ts:List Str):Decidable (wsG ts):=inferInstanceAs (Decidable (ts=W1∨ts=W2))
instance (ts:List Str):Decidable (wsB ts):=inferInstanceAs (Decidable (ts=B1∨ts=B2∨ts=B3∨ts=B4))
def txB (u:Str):Bool:=decide (u.length≤200000) && (decide ((Txt.split u sp1).length≤1000) && (Txt.split u sp1).all BE1)
theorem AY7 {u:Str}(h:txB u=true):BF2 u:=by
 unfold txB at h
 rw [Bool.and_eq_true,Bool.and_eq_true,decide_eq_true_eq,decide_eq_true_eq,List.all_eq_true] at h
 exact ⟨h.1,h.2.1,fun x hx=>xJ (h.2.2 x hx)⟩
theorem AY8 {r:List Str}(h:AJ4 r=true):BF2 (Str.join sp1 r)∧((xK r=true∧wsG (Txt.split (Str.join sp1 r) sp1))∨(xK r=false∧wsB (Txt.split (Str.join sp1 r) sp1))):=by
 unfold AJ4 at h
 rw [Bool.or_eq_true,decide_eq_true_eq] at h
 rcases h with h | h
 ·have h':=of_decide_eq_true h
  rcases h' with rfl | rfl
  ·exact ⟨AY7 (by decide +kernel),.inl ⟨h,by decide +kernel⟩⟩
  ·exact ⟨AY7 (by decide +kernel),.inl ⟨h,by decide +kernel⟩⟩
 ·rcases h with rfl | rfl | rfl | rfl | rfl
  ·exact ⟨AY7 (by decide +kernel),.inr ⟨by decide +kernel,by decide +kernel⟩⟩
  ·exact ⟨AY7 (by decide +kernel),.inr ⟨by decide +kernel,by decide +kernel⟩⟩
  ·exact ⟨AY7 (by decide +kernel),.inr ⟨by decide +kernel,by decide +kernel⟩⟩
  ·exact ⟨AY7 (by decide +kernel),.inr ⟨by decide +kernel,by decide +kernel⟩⟩
  ·exact ⟨AY7 (by decide +kernel),.inr ⟨by decide +kernel,by decide +kernel⟩⟩
theorem AP2 (s:Str)(ts:List Str):Txt.join s ts=Str.join s ts:=StrLaws.glued_eq_join s ts
theorem AK4 {k:Nat}:∀ {ws:List Str},(∀ x∈ws,x.length≤k)→ws.length≤1000→k≤1000→(ws.map (·.length)).sum+ws.length * 1≤2000000:=fun {ws} h hl hk=>by
 have h2:=zB h
 have h3:ws.length * k≤1000 * 1000:=Nat.mul_le_mul hl hk
 omega
theorem lT (B:Bt K mg a)(jN:CalG 1 P w K mg base "read_wishes" ["text"] 11 (iI K a))(kI:∀ C sp,pE K a C sp→CalM P w K mg base C "take_rest" ["self"] 2 sp)(F:Fun K "wishes_text_from" "wishes_text_from" cB f fd):FnOk P w K mg base (lC P w 1) 12 f fd ["words"] (eC K a):=by
 refine Fun.okW F sc_wishes_text_from (fun vs H Q E h=>?_) (fun cdv A outer s H vs Q E hr h=>?_)
 ·obtain ⟨wp,dw,wl,ts,rfl,_⟩:=h
  rfl
 obtain ⟨wp,dw,wl,ts,rfl,W,hW,h3,hO,q⟩:=h
 refine ⟨_,(aY (aB (aU (i:=1) sc_wishes_text_from.nd rfl (Or.inl rfl) (aQ (lB PySem.F.plainAttrs_str PySem.F.slot_str_join PySem.F.type_str_join tL bE (aK (aS (aN (pv 0) kI dC (hr.mono (by decide))) aF)))) (by kernel_rfl)) (aB (bN (cY (qK jN (hr.mono (by decide)) rfl (aK (aS (pv 1) aF)) (he:=aG _ _ _ rfl) (hpl:=aH rfl)))) (aJ (aZ (aQ (pv 1))))))),?_⟩
 obtain ⟨tx,hx⟩:=AY8 hO
 have et:(ts.drop 3).take (ts.length - 3)=ts.drop 3:=List.take_of_length_le (by rw [List.length_drop]; exact Nat.le_refl _)
 nofun
 refine ⟨_,_,_,W.w,rfl,_,⟨rfl,rfl⟩,wp,dw,wl,ts,3,ts.length - 3,rfl,W,by omega,hW.len,fun l H1 B1 hl1 e1 W1=>?_⟩
 rw [et] at e1
 refine ⟨sp1,l,ts.drop 3,rfl,rfl,e1,AI9 ?_,?_⟩
 ·exact Nat.le_trans (AK4 (k:=100) (fun x hx=>(hW.tok x (List.mem_of_mem_drop hx)).2.1) (by rw [List.length_drop]; have:=hW.len; omega) (by decide)) (by decide)
 rw [AP2]
 nofun
 have W1':WAt a.Words H1 wp dw wl ts ts.length:=by
  have:3+(ts.length - 3)=ts.length:=by omega
  rw [this] at W1
  exact W1
 rcases hx with ⟨g,hx⟩ | ⟨g,hx⟩
 ·refine ⟨_,rfl,tx,.inl ⟨hx,fun v H2 S2=>?_⟩⟩
  nofun
  rcases q with ⟨_,q⟩ | ⟨e,_⟩
  ·exact q _ H2 (B1.trans (Same.but S2)) (W1'.same S2)
  ·rw [g] at e; cases e
 ·refine ⟨_,rfl,tx,.inr ⟨hx,fun y H2 S2=>?_⟩⟩
  rcases q with ⟨e,_⟩ | ⟨_,q⟩
  ·rw [g] at e; cases e
  ·exact q y H2 (B1.trans (Same.but S2))
theorem zX:fK ""=false:=by decide +kernel
theorem AP3 {ts:List Str}{i:Nat}(h:fK (ts.getD i "")=true):i < ts.length:=by
 by_cases z:i < ts.length
 ·exact z
 ·rw [(jE (by omega)).1,zX] at h
  cases h
def TrI (a:Ad)(H:Hp)(wp dw wl l:Addr)(ts:List Str)(m v1 v2 v3:V)(R:Bool)(σ:L2.St)(H1:Hp):Prop:=∃ (k:Nat) (xs:List V),σ=[some (.ref wp),some m,some v1,some v2,some v3,some (.ref l)]∧But wp H H1∧H l=none∧H1 l=some (.lst xs)∧xs.length≤k∧WAt a.Words H1 wp dw wl ts k∧k≤ts.length∧(ts.drop k).all fK=R
theorem xP (B:Bt K mg a)(aM:∀ C sp,cU K a C sp→CalM P w K mg base C "take_number" ["self"] 3 sp)(bT:∀ C sp,kD K a C sp→CalM P w K mg base C "take_name" ["self"] 3 sp)(dI:∀ C sp,iL K a C sp→CalM P w K mg base C "take_one_of" ["self","choices"] 3 sp)(iE:CalX P w K mg base "stamp_from" ["words"] 5 (mY K a))(dF:∀ C sp,jH K a C sp→CalM P w K mg base C "is_ended" ["self"] 1 sp)(F:Fun K "try_from" "try_from" gG f fd):FnOk P w K mg base (CXF P w) 6 f fd ["words"] (qX K a):=by
 refine Fun.okX F sc_try_from (fun vs H Q E h=>?_) (fun cdv A outer s H vs Q E hr h=>?_)
 ·obtain ⟨wp,dw,wl,ts,rfl,_⟩:=h
  rfl
 obtain ⟨wp,dw,wl,ts,rfl,W,hW,q⟩:=h
 refine ⟨_,(aY (aB (aU (i:=1) sc_try_from.nd rfl (Or.inl rfl) (aQ (aN (pv 0) aM dE (hr.mono (by decide)))) (by kernel_rfl)) (aB (aU (i:=2) sc_try_from.nd rfl (Or.inl rfl) (aQ (aN (pv 0) bT dE (hr.mono (by decide)))) (by kernel_rfl)) (aB (aU (i:=3) sc_try_from.nd rfl (Or.inl rfl) (aQ (cW (pv 0) dI dE (hr.mono (by decide)) (aK (aS (hG (aK (aS (bS (v:=.str "bell") rfl B.BELL ⟨_,rfl⟩) (aS (bS (v:=.str "off") rfl B.OFF ⟨_,rfl⟩) aF)))) aF)) (hst:=aG _ _ _ rfl) (hpl:=aH rfl))) (by kernel_rfl)) (aB (aU (i:=4) sc_try_from.nd rfl (Or.inl rfl) (aQ (aN (pv 0) bT dE (hr.mono (by decide)))) (by kernel_rfl)) (aB (aU (i:=5) sc_try_from.nd rfl (Or.inl rfl) (mK (aS (eT iE (hr.mono (by decide)) rfl (aK (aS (pv 0) aF)) (he:=aG _ _ _ rfl) (hpl:=aH rfl)) aF)) (by kernel_rfl)) (aB (bN (kJ PassesOwn.leaving (cX (bL (aN (pv 0) dF dE (hr.mono (by decide))))) (aY (aJ (bN (cY (lB PySem.F.plainAttrs_list PySem.F.slot_list_append PySem.F.type_list_append gP (pv 5) (aK (aS (eT iE (hr.mono (by decide)) rfl (aK (aS (pv 0) aF)) (he:=aG _ _ _ rfl) (hpl:=aH rfl)) aF))))))))) (aJ (aZ (aQ (hG (aK (aS bE (aS (pv 1) (aS (pv 2) (aS (pv 3) (aS (pv 4) (aS (gN tG rfl B.tuple PyProof.Rows.boot_tuple (aK (aS (pv 5) aF))) aF)))))))))))))))))),?_⟩
 have hb:AO8 ts=false→∀ y H',But wp H H'→E (.ref a.NoText) (some y) H':=fun e=>by
  rcases q with ⟨e',q⟩ | ⟨_,q⟩
  ·rw [e] at e'; cases e'
  ·exact q
 have hg:AO8 ts=true→∀ v H',But wp H H'→WAt a.Words H' wp dw wl ts (ts.length)→Q v H':=fun e=>by
  rcases q with ⟨_,q⟩ | ⟨e',q⟩
  ·exact q
  ·rw [e] at e'; cases e'
 clear q
 have stok:∀ i,AZ4 (ts.getD i "")=true:=fun i=>by
  by_cases z:i < ts.length
  ·rw [List.getD_eq_getElem?_getD,List.getElem?_eq_getElem z]
   exact hW.st _ (List.getElem_mem z)
  ·rw [(jE (by omega)).1]
   decide +kernel
 have eR:AO8 ts=(kS (ts.getD 1 "") && (nmB (ts.getD 2 "") && (decide (ts.getD 3 ""="bell"∨ts.getD 3 ""="off") && (nmB (ts.getD 4 "") && (fK (ts.getD 5 "") && (ts.drop 6).all fK))))):=rfl
 nofun
 cases c1:kS (ts.getD 1 "") with
 | false=>exact ⟨_,_,_,W.w,rfl,_,⟨rfl,rfl⟩,wp,dw,wl,ts,1,rfl,W,aO hW.tok _,.inr ⟨c1,hb (by rw [eR,c1]; rfl)⟩⟩
 | true =>
 rw [c1,Bool.true_and] at eR
 refine ⟨_,_,_,W.w,rfl,_,⟨rfl,rfl⟩,wp,dw,wl,ts,1,rfl,W,aO hW.tok _,.inl ⟨c1,fun H1 B1 W1=>?_⟩⟩
 nofun
 cases c2:nmB (ts.getD 2 "") with
 | false=>exact ⟨_,_,_,W1.w,rfl,_,⟨rfl,rfl⟩,wp,dw,wl,ts,2,rfl,W1,aO hW.tok _,.inr ⟨c2,fun y H' B'=>hb (by rw [eR,c2]; rfl) y H' (B1.trans B')⟩⟩
 | true =>
 rw [c2,Bool.true_and] at eR
 refine ⟨_,_,_,W1.w,rfl,_,⟨rfl,rfl⟩,wp,dw,wl,ts,2,rfl,W1,aO hW.tok _,.inl ⟨c2,fun H2 B2 W2=>?_⟩⟩
 nofun
 refine ⟨_,_,_,W2.w,rfl,_,⟨rfl,rfl⟩,sz8 (by decide),fun c hc=>?_⟩
 have S3:=aE hc (.tup [.str "bell",.str "off"])
 have W3:=W2.same S3
 have ec:decide (ts.getD 3 ""∈([("bell":Str),"off"]:List Str))=decide (ts.getD 3 ""="bell"∨ts.getD 3 ""="off"):=by simp
 have B3:=B1.trans (B2.trans (Same.but S3))
 cases c3:decide (ts.getD 3 ""="bell"∨ts.getD 3 ""="off") with
 | false=>exact ⟨wp,dw,wl,ts,3,c,[("bell":Str),"off"],rfl,W3,aC,by decide,.inr ⟨ec.trans c3,fun y H' B'=>hb (by rw [eR,c3]; rfl) y H' (B3.trans B')⟩⟩
 | true =>
 rw [c3,Bool.true_and] at eR
 refine ⟨wp,dw,wl,ts,3,c,[("bell":Str),"off"],rfl,W3,aC,by decide,.inl ⟨ec.trans c3,fun H4 B4 W4=>?_⟩⟩
 have B4:=B3.trans B4
 nofun
 cases c4:nmB (ts.getD 4 "") with
 | false=>exact ⟨_,_,_,W4.w,rfl,_,⟨rfl,rfl⟩,wp,dw,wl,ts,4,rfl,W4,aO hW.tok _,.inr ⟨c4,fun y H' B'=>hb (by rw [eR,c4]; rfl) y H' (B4.trans B')⟩⟩
 | true =>
 rw [c4,Bool.true_and] at eR
 refine ⟨_,_,_,W4.w,rfl,_,⟨rfl,rfl⟩,wp,dw,wl,ts,4,rfl,W4,aO hW.tok _,.inl ⟨c4,fun H5 B5 W5=>?_⟩⟩
 have B5:=B4.trans B5
 nofun
 cases c5:fK (ts.getD 5 "") with
 | false=>exact ⟨wp,dw,wl,ts,5,rfl,W5,aO hW.tok _,stok _,.inr ⟨c5,fun y H' B'=>hb (by rw [eR,c5]; rfl) y H' (B5.trans B')⟩⟩
 | true =>
 rw [c5,Bool.true_and] at eR
 refine ⟨wp,dw,wl,ts,5,rfl,W5,aO hW.tok _,stok _,.inl ⟨c5,fun v H6 B6 W6=>?_⟩⟩
 have B6:=B5.trans B6
 nofun
 refine ⟨sz8 (by first | decide | (simp only [List.length_cons,List.length_nil]; decide)),fun l hl=>?_⟩
 have S7:=aE hl (.lst [v])
 have nlw:l≠wp:=fun z=>by rw [z,W6.w] at hl; cases hl
 have fl:H l=none:=fW B6 W6.w hl
 refine whl (TrI a H wp dw wl l ts _ _ _ _ (AO8 ts)) (fun _ H1=>3000 - zE wp H1) ⟨6,[v],rfl,B6.trans (Same.but S7),fl,aC,(show 1≤6 by decide),W6.same S7,AP3 c5,eR.symm⟩ ?_
 rintro σ H8 ⟨k,xs,rfl,B8,_,e8,lx,W8,hk,eK⟩
 have hl9:=hW.len
 nofun
 refine ⟨_,_,_,W8.w,rfl,_,⟨rfl,rfl⟩,wp,dw,wl,ts,k,rfl,W8,?_⟩
 by_cases ck:k=ts.length
 ·have dk:decide ((k:Int)=(ts.length:Int))=true:=decide_eq_true (by omega)
  first | rw [if_neg (by omega)] | (rw [dk]; exists Bool.not_true)
  rw [ck,List.drop_length] at eK
  refine ⟨_,.inl ⟨SqL.of e8,fun tp htp=>?_⟩⟩
  have S9:=aE htp (.tup xs)
  refine ⟨sz8 (by first | decide | (simp only [List.length_cons,List.length_nil]; decide)),fun t2 ht2=>?_⟩
  rw [ck] at W8
  exact hg eK.symm _ _ (B8.trans (Same.but (S9.trans (aE ht2 _)))) (W8.same (S9.trans (aE ht2 _)))
 ·have dk:decide ((k:Int)=(ts.length:Int))=false:=decide_eq_false (by omega)
  have kl:k < ts.length:=by omega
  rw [xE kl,List.all_cons] at eK
  first | rw [if_pos (by omega)] | (rw [dk]; exists Bool.not_false)
  refine ⟨fun σ' H'=>TrI a H wp dw wl l ts _ _ _ _ (AO8 ts) σ' H'∧3000 - zE wp H' < 3000 - zE wp H8,fun σ' H' h=>⟨_,h.2,rfl,h.1⟩,?_⟩
  refine ⟨.inl ⟨rfl,_,SqL.of e8⟩,?_⟩
  cases c6:fK (ts.getD k "") with
  | false=>exact ⟨wp,dw,wl,ts,k,rfl,W8,aO hW.tok _,stok _,.inr ⟨c6,fun y H' B'=>hb (by rw [← eK,c6]; rfl) y H' (B8.trans B')⟩⟩
  | true =>
  rw [c6,Bool.true_and] at eK
  refine ⟨wp,dw,wl,ts,k,rfl,W8,aO hW.tok _,stok _,.inl ⟨c6,fun v2 H9 B9 W9=>?_⟩⟩
  have e9:=B9 _ _ nlw e8
  refine ⟨l,_,_,rfl,rfl,e9,Nat.lt_of_le_of_lt (show xs.length≤1000 by omega) (by decide),?_⟩
  have nwl:wl≠l:=fun z=>by have:=W.l; rw [z,fl] at this; cases this
  have W10:WAt a.Words (upd H9 l (.lst (xs++[v2]))) wp dw wl ts (k+1):=⟨by rw [aI (Ne.symm nlw)]; exact W9.w,by rw [aI nwl]; exact W9.l⟩
  refine ⟨⟨k+1,xs++[v2],rfl,fun b o n e=>?_,fl,aC,by rw [List.length_append,List.length_singleton]; omega,W10,by omega,eK⟩,?_⟩
  ·rw [aI (fun z=>by rw [z,fl] at e; cases e)]
   exact (B8.trans B9) b o n e
  ·rw [vO W10,vO W8]
   omega
theorem xQ (B:Bt K mg a)(cV:∀ C sp,iK K a C sp→CalM P w K mg base C "take" ["self"] 2 sp)(aM:∀ C sp,cU K a C sp→CalM P w K mg base C "take_number" ["self"] 3 sp)(bT:∀ C sp,kD K a C sp→CalM P w K mg base C "take_name" ["self"] 3 sp)(eY:CalG 1 P w K mg base "wishes_text_from" ["words"] 12 (eC K a))(bR:∀ C sp,jI K a C sp→CalM P w K mg base C "take_count" ["self"] 4 sp)(bB:CalI P w K mg base "NoText" a.NoText "line" 1 (.int 0))(F:Fun K "row_from" "row_from" gH f fd):FnOk P w K mg base (lC P w 1) 13 f fd ["words"] (lL K a):=by
 refine Fun.okW F sc_row_from (fun vs H Q E h=>?_) (fun cdv A outer s H vs Q E hr h=>?_)
 ·obtain ⟨wp,dw,wl,ts,rfl,_⟩:=h
  rfl
 obtain ⟨wp,dw,wl,ts,rfl,W,hW,q⟩:=h
 refine ⟨_,(aY (aB (aU (i:=1) sc_row_from.nd rfl (Or.inl rfl) (aQ (aN (pv 0) cV dC (hr.mono (by decide)))) (by kernel_rfl)) (aB (bM (bC iQ (pv 1) bE (bF _)) (aJ (aZ (aQ (hG (aK (aS (pv 1) (aS (aN (pv 0) aM dC (hr.mono (by decide))) (aS (aN (pv 0) bT dC (hr.mono (by decide))) (aS (qK eY (hr.mono (by decide)) rfl (aK (aS (pv 0) aF)) (he:=aG _ _ _ rfl) (hpl:=aH rfl)) aF))))))))) aT) (aB (bM (bC iQ (pv 1) bE (bF _)) (aJ (aZ (aQ (hG (aK (aS (pv 1) (aS (aN (pv 0) aM dC (hr.mono (by decide))) (aS (aN (pv 0) bT dC (hr.mono (by decide))) (aS (aN (pv 0) bT dC (hr.mono (by decide))) (aS (aN (pv 0) bR dC (hr.mono (by decide))) aF)))))))))) aT) (aB (bM (bC iQ (pv 1) bE (bF _)) (aJ (aZ (aQ (hG (aK (aS (pv 1) (aS (aN (pv 0) aM dC (hr.mono (by decide))) (aS (aN (pv 0) bT dC (hr.mono (by decide))) (aS (aN (pv 0) bR dC (hr.mono (by decide))) aF))))))))) aT) (aB (bM (bC iQ (pv 1) bE (bF _)) (aJ (aZ (aQ (hG (aK (aS (pv 1) (aS (aN (pv 0) aM dC (hr.mono (by decide))) (aS (aN (pv 0) bT dC (hr.mono (by decide))) (aS (aN (pv 0) bR dC (hr.mono (by decide))) (aS (aN (pv 0) aM dC (hr.mono (by decide))) aF)))))))))) aT) (aB (bM (bC iQ (pv 1) bE (bF _)) (aJ (aZ (aQ (hG (aK (aS (pv 1) (aS (aN (pv 0) aM dC (hr.mono (by decide))) (aS (aN (pv 0) bR dC (hr.mono (by decide))) aF)))))))) aT) (aB (bM (bC iQ (pv 1) bE (bF _)) (aJ (aZ (aQ (hG (aK (aS (pv 1) (aS (aN (pv 0) aM dC (hr.mono (by decide))) aF))))))) aT) (cL (fL (dZ (R:=fun dx H9=>E (.ref a.NoText) (some dx) H9) bB rfl rfl (hr.mono (by decide)) iG))))))))))),?_⟩
 have hb:AY0 ts=none→∀ y H',But wp H H'→E (.ref a.NoText) (some y) H':=fun e=>by
  rcases q with ⟨n,e',q⟩ | ⟨_,q⟩
  ·rw [e] at e'; cases e'
  ·exact q
 have hg:∀ n,AY0 ts=some n→∀ v H',But wp H H'→WAt a.Words H' wp dw wl ts n→Q v H':=fun n e=>by
  rcases q with ⟨n',e',q⟩ | ⟨e',q⟩
  ·rw [e] at e'
   cases e'
   exact q
  ·rw [e] at e'; cases e'
 clear q
 unfold AY0 at hb hg
 nofun
 refine ⟨_,_,_,W.w,rfl,_,⟨rfl,rfl⟩,wp,dw,wl,ts,0,rfl,W,?_⟩
 have W1:=W.take (0+1)
 have B1:But wp H (upd H wp (.ins a.Words dw (bA wl (0+1)))):=But.upd _
 generalize upd H wp (.ins a.Words dw (bA wl (0+1)))=H1 at *
 nofun
 by_cases c:ts.getD 0 ""="wish"
 ·rw [if_pos c] at hb hg
  first | rw [if_pos c] | skip
  cases c1:kS (ts.getD 1 "") with
  | false=>exact ⟨_,_,_,W1.w,rfl,_,⟨rfl,rfl⟩,wp,dw,wl,ts,1,rfl,W1,aO hW.tok _,.inr ⟨c1,fun y H' B'=>hb (by simp only [c1,Bool.and_false,Bool.false_and,Bool.and_true,Bool.true_and,Bool.false_eq_true,if_false]) y H' (B1.trans B')⟩⟩
  | true =>
  refine ⟨_,_,_,W1.w,rfl,_,⟨rfl,rfl⟩,wp,dw,wl,ts,1,rfl,W1,aO hW.tok _,.inl ⟨c1,fun H2 X2 W2=>?_⟩⟩
  have B2:=B1.trans X2
  cases c2:nmB (ts.getD 2 "") with
  | false=>exact ⟨_,_,_,W2.w,rfl,_,⟨rfl,rfl⟩,wp,dw,wl,ts,2,rfl,W2,aO hW.tok _,.inr ⟨c2,fun y H' B'=>hb (by simp only [c1,c2,Bool.and_false,Bool.false_and,Bool.and_true,Bool.true_and,Bool.false_eq_true,if_false]) y H' (B2.trans B')⟩⟩
  | true =>
  refine ⟨_,_,_,W2.w,rfl,_,⟨rfl,rfl⟩,wp,dw,wl,ts,2,rfl,W2,aO hW.tok _,.inl ⟨c2,fun H3 X3 W3=>?_⟩⟩
  have B3:=B2.trans X3
  have l3:3≤ts.length:=by
   by_cases z:2 < ts.length
   ·omega
   ·rw [(jE (by omega)).1] at c2
    exact absurd c2 (by decide +kernel)
  cases c3:xK (ts.drop 3) with
  | false=>exact ⟨wp,dw,wl,ts,rfl,W3,hW,l3,hW.ws c c1 c2,.inr ⟨c3,fun y H' B'=>hb (by simp only [c1,c2,c3,Bool.and_false,Bool.and_true,Bool.false_eq_true,if_false]) y H' (B3.trans B')⟩⟩
  | true =>
  refine ⟨wp,dw,wl,ts,rfl,W3,hW,l3,hW.ws c c1 c2,.inl ⟨c3,fun v H4 X4 W4=>?_⟩⟩
  have B4:=B3.trans X4
  refine ⟨sz8 (by first | decide | (simp only [List.length_cons,List.length_nil]; decide)),fun tp htp=>?_⟩
  exact hg _ (by simp only [c1,c2,c3,Bool.and_true,if_true]) _ _ (B4.trans (Same.but (aE htp _))) (W4.same (aE htp _))
 rw [if_neg c] at hb hg
 rw [if_neg c]
 by_cases c:ts.getD 0 ""="happen"
 ·rw [if_pos c] at hb hg
  first | rw [if_pos c] | skip
  cases c1:kS (ts.getD 1 "") with
  | false=>exact ⟨_,_,_,W1.w,rfl,_,⟨rfl,rfl⟩,wp,dw,wl,ts,1,rfl,W1,aO hW.tok _,.inr ⟨c1,fun y H' B'=>hb (by simp only [c1,Bool.and_false,Bool.false_and,Bool.and_true,Bool.true_and,Bool.false_eq_true,if_false]) y H' (B1.trans B')⟩⟩
  | true =>
  refine ⟨_,_,_,W1.w,rfl,_,⟨rfl,rfl⟩,wp,dw,wl,ts,1,rfl,W1,aO hW.tok _,.inl ⟨c1,fun H2 X2 W2=>?_⟩⟩
  have B2:=B1.trans X2
  cases c2:nmB (ts.getD 2 "") with
  | false=>exact ⟨_,_,_,W2.w,rfl,_,⟨rfl,rfl⟩,wp,dw,wl,ts,2,rfl,W2,aO hW.tok _,.inr ⟨c2,fun y H' B'=>hb (by simp only [c1,c2,Bool.and_false,Bool.false_and,Bool.and_true,Bool.true_and,Bool.false_eq_true,if_false]) y H' (B2.trans B')⟩⟩
  | true =>
  refine ⟨_,_,_,W2.w,rfl,_,⟨rfl,rfl⟩,wp,dw,wl,ts,2,rfl,W2,aO hW.tok _,.inl ⟨c2,fun H3 X3 W3=>?_⟩⟩
  have B3:=B2.trans X3
  cases c3:nmB (ts.getD 3 "") with
  | false=>exact ⟨_,_,_,W3.w,rfl,_,⟨rfl,rfl⟩,wp,dw,wl,ts,3,rfl,W3,aO hW.tok _,.inr ⟨c3,fun y H' B'=>hb (by simp only [c1,c2,c3,Bool.and_false,Bool.false_and,Bool.and_true,Bool.true_and,Bool.false_eq_true,if_false]) y H' (B3.trans B')⟩⟩
  | true =>
  refine ⟨_,_,_,W3.w,rfl,_,⟨rfl,rfl⟩,wp,dw,wl,ts,3,rfl,W3,aO hW.tok _,.inl ⟨c3,fun H4 X4 W4=>?_⟩⟩
  have B4:=B3.trans X4
  cases c4:vK (ts.getD 4 "") with
  | false=>exact ⟨_,_,_,W4.w,rfl,_,⟨rfl,rfl⟩,wp,dw,wl,ts,4,rfl,W4,aO hW.tok _,.inr ⟨c4,fun y H' B'=>hb (by simp only [c1,c2,c3,c4,Bool.and_false,Bool.false_and,Bool.and_true,Bool.true_and,Bool.false_eq_true,if_false]) y H' (B4.trans B')⟩⟩
  | true =>
  refine ⟨_,_,_,W4.w,rfl,_,⟨rfl,rfl⟩,wp,dw,wl,ts,4,rfl,W4,aO hW.tok _,.inl ⟨c4,fun H5 X5 W5=>?_⟩⟩
  have B5:=B4.trans X5
  refine ⟨sz8 (by first | decide | (simp only [List.length_cons,List.length_nil]; decide)),fun tp htp=>?_⟩
  exact hg 5 (by simp only [c1,c2,c3,c4,Bool.and_true,if_true]) _ _ (B5.trans (Same.but (aE htp _))) (W5.same (aE htp _))
 rw [if_neg c] at hb hg
 rw [if_neg c]
 by_cases c:ts.getD 0 ""="take"
 ·rw [if_pos c] at hb hg
  first | rw [if_pos c] | skip
  cases c1:kS (ts.getD 1 "") with
  | false=>exact ⟨_,_,_,W1.w,rfl,_,⟨rfl,rfl⟩,wp,dw,wl,ts,1,rfl,W1,aO hW.tok _,.inr ⟨c1,fun y H' B'=>hb (by simp only [c1,Bool.and_false,Bool.false_and,Bool.and_true,Bool.true_and,Bool.false_eq_true,if_false]) y H' (B1.trans B')⟩⟩
  | true =>
  refine ⟨_,_,_,W1.w,rfl,_,⟨rfl,rfl⟩,wp,dw,wl,ts,1,rfl,W1,aO hW.tok _,.inl ⟨c1,fun H2 X2 W2=>?_⟩⟩
  have B2:=B1.trans X2
  cases c2:nmB (ts.getD 2 "") with
  | false=>exact ⟨_,_,_,W2.w,rfl,_,⟨rfl,rfl⟩,wp,dw,wl,ts,2,rfl,W2,aO hW.tok _,.inr ⟨c2,fun y H' B'=>hb (by simp only [c1,c2,Bool.and_false,Bool.false_and,Bool.and_true,Bool.true_and,Bool.false_eq_true,if_false]) y H' (B2.trans B')⟩⟩
  | true =>
  refine ⟨_,_,_,W2.w,rfl,_,⟨rfl,rfl⟩,wp,dw,wl,ts,2,rfl,W2,aO hW.tok _,.inl ⟨c2,fun H3 X3 W3=>?_⟩⟩
  have B3:=B2.trans X3
  cases c3:vK (ts.getD 3 "") with
  | false=>exact ⟨_,_,_,W3.w,rfl,_,⟨rfl,rfl⟩,wp,dw,wl,ts,3,rfl,W3,aO hW.tok _,.inr ⟨c3,fun y H' B'=>hb (by simp only [c1,c2,c3,Bool.and_false,Bool.false_and,Bool.and_true,Bool.true_and,Bool.false_eq_true,if_false]) y H' (B3.trans B')⟩⟩
  | true =>
  refine ⟨_,_,_,W3.w,rfl,_,⟨rfl,rfl⟩,wp,dw,wl,ts,3,rfl,W3,aO hW.tok _,.inl ⟨c3,fun H4 X4 W4=>?_⟩⟩
  have B4:=B3.trans X4
  refine ⟨sz8 (by first | decide | (simp only [List.length_cons,List.length_nil]; decide)),fun tp htp=>?_⟩
  exact hg 4 (by simp only [c1,c2,c3,Bool.and_true,if_true]) _ _ (B4.trans (Same.but (aE htp _))) (W4.same (aE htp _))
 rw [if_neg c] at hb hg
 rw [if_neg c]
 by_cases c:ts.getD 0 ""="later"
 ·rw [if_pos c] at hb hg
  first | rw [if_pos c] | skip
  cases c1:kS (ts.getD 1 "") with
  | false=>exact ⟨_,_,_,W1.w,rfl,_,⟨rfl,rfl⟩,wp,dw,wl,ts,1,rfl,W1,aO hW.tok _,.inr ⟨c1,fun y H' B'=>hb (by simp only [c1,Bool.and_false,Bool.false_and,Bool.and_true,Bool.true_and,Bool.false_eq_true,if_false]) y H' (B1.trans B')⟩⟩
  | true =>
  refine ⟨_,_,_,W1.w,rfl,_,⟨rfl,rfl⟩,wp,dw,wl,ts,1,rfl,W1,aO hW.tok _,.inl ⟨c1,fun H2 X2 W2=>?_⟩⟩
  have B2:=B1.trans X2
  cases c2:nmB (ts.getD 2 "") with
  | false=>exact ⟨_,_,_,W2.w,rfl,_,⟨rfl,rfl⟩,wp,dw,wl,ts,2,rfl,W2,aO hW.tok _,.inr ⟨c2,fun y H' B'=>hb (by simp only [c1,c2,Bool.and_false,Bool.false_and,Bool.and_true,Bool.true_and,Bool.false_eq_true,if_false]) y H' (B2.trans B')⟩⟩
  | true =>
  refine ⟨_,_,_,W2.w,rfl,_,⟨rfl,rfl⟩,wp,dw,wl,ts,2,rfl,W2,aO hW.tok _,.inl ⟨c2,fun H3 X3 W3=>?_⟩⟩
  have B3:=B2.trans X3
  cases c3:vK (ts.getD 3 "") with
  | false=>exact ⟨_,_,_,W3.w,rfl,_,⟨rfl,rfl⟩,wp,dw,wl,ts,3,rfl,W3,aO hW.tok _,.inr ⟨c3,fun y H' B'=>hb (by simp only [c1,c2,c3,Bool.and_false,Bool.false_and,Bool.and_true,Bool.true_and,Bool.false_eq_true,if_false]) y H' (B3.trans B')⟩⟩
  | true =>
  refine ⟨_,_,_,W3.w,rfl,_,⟨rfl,rfl⟩,wp,dw,wl,ts,3,rfl,W3,aO hW.tok _,.inl ⟨c3,fun H4 X4 W4=>?_⟩⟩
  have B4:=B3.trans X4
  cases c4:kS (ts.getD 4 "") with
  | false=>exact ⟨_,_,_,W4.w,rfl,_,⟨rfl,rfl⟩,wp,dw,wl,ts,4,rfl,W4,aO hW.tok _,.inr ⟨c4,fun y H' B'=>hb (by simp only [c1,c2,c3,c4,Bool.and_false,Bool.false_and,Bool.and_true,Bool.true_and,Bool.false_eq_true,if_false]) y H' (B4.trans B')⟩⟩
  | true =>
  refine ⟨_,_,_,W4.w,rfl,_,⟨rfl,rfl⟩,wp,dw,wl,ts,4,rfl,W4,aO hW.tok _,.inl ⟨c4,fun H5 X5 W5=>?_⟩⟩
  have B5:=B4.trans X5
  refine ⟨sz8 (by first | decide | (simp only [List.length_cons,List.length_nil]; decide)),fun tp htp=>?_⟩
  exact hg 5 (by simp only [c1,c2,c3,c4,Bool.and_true,if_true]) _ _ (B5.trans (Same.but (aE htp _))) (W5.same (aE htp _))
 rw [if_neg c] at hb hg
 rw [if_neg c]
 by_cases c:ts.getD 0 ""="back"
 ·rw [if_pos c] at hb hg
  first | rw [if_pos c] | skip
  cases c1:kS (ts.getD 1 "") with
  | false=>exact ⟨_,_,_,W1.w,rfl,_,⟨rfl,rfl⟩,wp,dw,wl,ts,1,rfl,W1,aO hW.tok _,.inr ⟨c1,fun y H' B'=>hb (by simp only [c1,Bool.and_false,Bool.false_and,Bool.and_true,Bool.true_and,Bool.false_eq_true,if_false]) y H' (B1.trans B')⟩⟩
  | true =>
  refine ⟨_,_,_,W1.w,rfl,_,⟨rfl,rfl⟩,wp,dw,wl,ts,1,rfl,W1,aO hW.tok _,.inl ⟨c1,fun H2 X2 W2=>?_⟩⟩
  have B2:=B1.trans X2
  cases c2:vK (ts.getD 2 "") with
  | false=>exact ⟨_,_,_,W2.w,rfl,_,⟨rfl,rfl⟩,wp,dw,wl,ts,2,rfl,W2,aO hW.tok _,.inr ⟨c2,fun y H' B'=>hb (by simp only [c1,c2,Bool.and_false,Bool.false_and,Bool.and_true,Bool.true_and,Bool.false_eq_true,if_false]) y H' (B2.trans B')⟩⟩
  | true =>
  refine ⟨_,_,_,W2.w,rfl,_,⟨rfl,rfl⟩,wp,dw,wl,ts,2,rfl,W2,aO hW.tok _,.inl ⟨c2,fun H3 X3 W3=>?_⟩⟩
  have B3:=B2.trans X3
  refine ⟨sz8 (by first | decide | (simp only [List.length_cons,List.length_nil]; decide)),fun tp htp=>?_⟩
  exact hg 3 (by simp only [c1,c2,Bool.and_true,if_true]) _ _ (B3.trans (Same.but (aE htp _))) (W3.same (aE htp _))
 rw [if_neg c] at hb hg
 rw [if_neg c]
 by_cases c:ts.getD 0 ""="go"
 ·rw [if_pos c] at hb hg
  first | rw [if_pos c] | skip
  cases c1:kS (ts.getD 1 "") with
  | false=>exact ⟨_,_,_,W1.w,rfl,_,⟨rfl,rfl⟩,wp,dw,wl,ts,1,rfl,W1,aO hW.tok _,.inr ⟨c1,fun y H' B'=>hb (by simp only [c1,Bool.and_false,Bool.false_and,Bool.and_true,Bool.true_and,Bool.false_eq_true,if_false]) y H' (B1.trans B')⟩⟩
  | true =>
  refine ⟨_,_,_,W1.w,rfl,_,⟨rfl,rfl⟩,wp,dw,wl,ts,1,rfl,W1,aO hW.tok _,.inl ⟨c1,fun H2 X2 W2=>?_⟩⟩
  have B2:=B1.trans X2
  refine ⟨sz8 (by first | decide | (simp only [List.length_cons,List.length_nil]; decide)),fun tp htp=>?_⟩
  exact hg 2 (by simp only [c1,Bool.and_true,if_true]) _ _ (B2.trans (Same.but (aE htp _))) (W2.same (aE htp _))
 rw [if_neg c] at hb hg
 rw [if_neg c]
 exact fun y hy=>hb rfl y _ (B1.trans (Same.but (aE hy _)))
theorem nJ (B:Bt K mg a)(cS:∀ C sp,mZ K a C sp→CalM P w K mg base C "takes" ["self","word"] 2 sp)(oR:CalG 1 P w K mg base "row_from" ["words"] 13 (lL K a))(oS:CalX P w K mg base "try_from" ["words"] 6 (qX K a))(aM:∀ C sp,cU K a C sp→CalM P w K mg base C "take_number" ["self"] 3 sp)(dI:∀ C sp,iL K a C sp→CalM P w K mg base C "take_one_of" ["self","choices"] 3 sp)(F:Fun K "line_from" "line_from" cJ f fd):FnOk P w K mg base (lC P w 1) 14 f fd ["words"] (dL K a):=by
 refine Fun.okW F mT (fun vs H Q E h=>?_) (fun cdv A outer s H vs Q E hr h=>?_)
 ·obtain ⟨wp,dw,wl,ts,rfl,_⟩:=h
  rfl
 obtain ⟨wp,dw,wl,ts,rfl,W,hW,q⟩:=h
 refine ⟨_,(aY (aB (bM (bL (cW (pv 0) cS dC (hr.mono (by decide)) (aK (aS bE aF)) (hst:=aG _ _ _ rfl) (hpl:=aH rfl))) (aJ (aZ (aQ (qK (CalX.g oS) (hr.mono (by decide)) rfl (aK (aS (pv 0) aF)) (he:=aG _ _ _ rfl) (hpl:=aH rfl))))) aT) (aB (bM (bL (cW (pv 0) cS dC (hr.mono (by decide)) (aK (aS bE aF)) (hst:=aG _ _ _ rfl) (hpl:=aH rfl))) (aJ (aZ (aQ (hG (aK (aS bE (aS (aN (pv 0) aM dC (hr.mono (by decide))) (aS (cW (pv 0) dI dC (hr.mono (by decide)) (aK (aS (hG (aK (aS (bS (v:=.str "took") rfl B.TOOK ⟨_,rfl⟩) (aS (bS (v:=.str "not") rfl B.NOT ⟨_,rfl⟩) (aS (bS (v:=.str "perhaps") rfl B.PERHAPS ⟨_,rfl⟩) aF))))) aF)) (hst:=aG _ _ _ rfl) (hpl:=aH rfl)) aF)))))))) aT) (aJ (aZ (aQ (qK oR (hr.mono (by decide)) rfl (aK (aS (pv 0) aF)) (he:=aG _ _ _ rfl) (hpl:=aH rfl)))))))),?_⟩
 have hb:AY1 ts=none→∀ y H',But wp H H'→E (.ref a.NoText) (some y) H':=fun e=>by
  rcases q with ⟨n,e',q⟩ | ⟨_,q⟩
  ·rw [e] at e'; cases e'
  ·exact q
 have hg:∀ n,AY1 ts=some n→∀ v H',But wp H H'→WAt a.Words H' wp dw wl ts n→Q v H':=fun n e=>by
  rcases q with ⟨n',e',q⟩ | ⟨e',q⟩
  ·rw [e] at e'
   cases e'
   exact q
  ·rw [e] at e'; cases e'
 clear q
 unfold AY1 at hb hg
 nofun
 by_cases c:ts.getD 0 ""="try"
 ·rw [if_pos c] at hb hg
  refine ⟨_,_,_,W.w,rfl,_,⟨rfl,rfl⟩,wp,dw,wl,ts,0,_,rfl,W,.inl ⟨c,?_⟩⟩
  have W1:=W.take (0+1)
  have B1:But wp H (upd H wp (.ins a.Words dw (bA wl (0+1)))):=But.upd _
  generalize upd H wp (.ins a.Words dw (bA wl (0+1)))=H1 at *
  nofun
  cases e:AO8 ts with
  | false=>exact ⟨wp,dw,wl,ts,rfl,W1,hW,.inr ⟨e,fun y H' B'=>hb (by rw [e]; rfl) y H' (B1.trans B')⟩⟩
  | true=>exact ⟨wp,dw,wl,ts,rfl,W1,hW,.inl ⟨e,fun v H' B' W'=>hg _ (by rw [e]; rfl) v H' (B1.trans B') W'⟩⟩
 rw [if_neg c] at hb hg
 refine ⟨_,_,_,W.w,rfl,_,⟨rfl,rfl⟩,wp,dw,wl,ts,0,_,rfl,W,.inr ⟨c,?_⟩⟩
 nofun
 by_cases c:ts.getD 0 ""="end"
 ·rw [if_pos c] at hb hg
  refine ⟨_,_,_,W.w,rfl,_,⟨rfl,rfl⟩,wp,dw,wl,ts,0,_,rfl,W,.inl ⟨c,?_⟩⟩
  have W1:=W.take (0+1)
  have B1:But wp H (upd H wp (.ins a.Words dw (bA wl (0+1)))):=But.upd _
  generalize upd H wp (.ins a.Words dw (bA wl (0+1)))=H1 at *
  nofun
  cases c1:kS (ts.getD 1 "") with
  | false=>exact ⟨_,_,_,W1.w,rfl,_,⟨rfl,rfl⟩,wp,dw,wl,ts,1,rfl,W1,aO hW.tok _,.inr ⟨c1,fun y H' B'=>hb (by rw [c1]; rfl) y H' (B1.trans B')⟩⟩
  | true =>
  refine ⟨_,_,_,W1.w,rfl,_,⟨rfl,rfl⟩,wp,dw,wl,ts,1,rfl,W1,aO hW.tok _,.inl ⟨c1,fun H2 B2 W2=>?_⟩⟩
  refine ⟨_,_,_,W2.w,rfl,_,⟨rfl,rfl⟩,sz8 (by decide),fun c hc=>?_⟩
  have S3:=aE hc (.tup [.str "took",.str "not",.str "perhaps"])
  have W3:=W2.same S3
  have ec:decide (ts.getD 2 ""∈([("took":Str),"not","perhaps"]:List Str))=BF4 (ts.getD 2 ""):=by unfold BF4; simp
  have B3:=B1.trans (B2.trans (Same.but S3))
  cases c2:BF4 (ts.getD 2 "") with
  | false=>exact ⟨wp,dw,wl,ts,2,c,[("took":Str),"not","perhaps"],rfl,W3,aC,by decide,.inr ⟨ec.trans c2,fun y H' B'=>hb (by rw [c1,c2]; rfl) y H' (B3.trans B')⟩⟩
  | true =>
  refine ⟨wp,dw,wl,ts,2,c,[("took":Str),"not","perhaps"],rfl,W3,aC,by decide,.inl ⟨ec.trans c2,fun H4 B4 W4=>?_⟩⟩
  have B4:=B3.trans B4
  refine ⟨sz8 (by first | decide | (simp only [List.length_cons,List.length_nil]; decide)),fun tp htp=>?_⟩
  exact hg 3 (by rw [c1,c2]; rfl) _ _ (B4.trans (Same.but (aE htp _))) (W4.same (aE htp _))
 rw [if_neg c] at hb hg
 refine ⟨_,_,_,W.w,rfl,_,⟨rfl,rfl⟩,wp,dw,wl,ts,0,_,rfl,W,.inr ⟨c,?_⟩⟩
 nofun
 refine ⟨wp,dw,wl,ts,rfl,W,hW,?_⟩
 cases e:AY0 ts with
 | none=>exact .inr ⟨rfl,hb e⟩
 | some n=>exact .inl ⟨n,rfl,hg n e⟩
theorem nK (B:Bt K mg a)(fX:CalC P w K mg base "Words" a.Words ["self","text"] 3 (dB K a))(cE:∀ C sp,fV K a C sp→CalM P w K mg base C "expect_end" ["self"] 3 sp)(eZ:CalFG 1 P w K mg base a.line_from_texts ["words"] 14 (dL K a))(F:Fun K "read_whole_line" "read_whole_line" cI f fd):FnOk P w K mg base (lC P w 1) 15 f fd ["text","part_from"] (eV K a):=by
 refine Fun.okW F sc_read_whole_line (fun vs H Q E h=>?_) (fun cdv A outer s H vs Q E hr h=>?_)
 ·obtain ⟨u,rfl,_⟩:=h
  rfl
 obtain ⟨u,rfl,hu,q⟩:=h
 refine ⟨_,(aY (aB (aU (i:=2) sc_read_whole_line.nd rfl (Or.inl rfl) (aQ (yP fX dC (hr.mono (by decide)) rfl (aK (aS (pv 0) aF)) (he:=aG _ _ _ rfl) (hpl:=aH rfl))) (by kernel_rfl)) (aB (aU (i:=3) sc_read_whole_line.nd rfl (Or.inl rfl) (aQ (AX8 (j:=1) eZ AR1 (hr.mono (by decide)) rfl (Or.inl rfl) (aK (aS (pv 2) aF)) (he:=aG _ _ _ rfl) (hpl:=aH rfl))) (by kernel_rfl)) (aB (bN (cY (aN (pv 2) cE dC (hr.mono (by decide))))) (aJ (aZ (aQ (pv 3)))))))),?_⟩
 obtain ⟨l1,_,hW⟩:=AJ5 hu
 have hb:jU u=false→∀ y H',Same H H'→E (.ref a.NoText) (some y) H':=fun e=>by
  rcases q with ⟨e',q⟩ | ⟨_,q⟩
  ·rw [e] at e'; cases e'
  ·exact q
 have hg:jU u=true→∀ v H',Same H H'→Q v H':=fun e=>by
  rcases q with ⟨_,q⟩ | ⟨e',q⟩
  ·exact q
  ·rw [e] at e'; cases e'
 clear q
 nofun
 intro x dx hx hd ne
 refine ⟨x,dx,.str u,rfl,aC,.inl ⟨u,rfl,by omega,hW.len,fun wl H1 hwl B1 W1=>⟨rfl,?_⟩⟩⟩
 have S1:=fU hx hd B1
 have SB:∀ H',But x H1 H'→Same H H':=fun H' b c o e=>b c o (aR e hx) (S1 c o e)
 nofun
 refine ⟨x,dx,wl,_,rfl,W1,hW,?_⟩
 cases e:AY1 (Txt.split u sp1) with
 | none=>exact .inr ⟨rfl,fun y H2 B2=>hb (decide_eq_false (by rw [e]; intro z; cases z)) y H2 (SB _ B2)⟩
 | some n =>
  refine .inl ⟨n,rfl,fun v H2 B2 W2=>?_⟩
  nofun
  by_cases c:n=(Txt.split u sp1).length
  ·refine ⟨_,_,_,W2.w,rfl,_,⟨rfl,rfl⟩,x,dx,wl,_,n,rfl,W2,.inl ⟨c,?_⟩⟩
   exact hg (decide_eq_true (by rw [e,c])) v H2 (SB _ B2)
  ·refine ⟨_,_,_,W2.w,rfl,_,⟨rfl,rfl⟩,x,dx,wl,_,n,rfl,W2,.inr ⟨c,fun y H3 S3 _=>?_⟩⟩
   exact hb (decide_eq_false (by rw [e]; intro z; exact c (Option.some.inj z))) y H3 ((SB _ B2).trans S3)
theorem BE4 {ls:List Str}(h:AS2 ls):(Str.join nl1 ls).length≤200000:=by
 have h1:=StrLaws.join_length_le nl1 ls
 have h2:=zB (k:=1000) (ws:=ls) fun x hx=>(AJ5 (h.2.2.2 x hx)).1
 have e:nl1.length=1:=rfl
 rw [e] at h1
 have:=h.2.2.1
 omega
theorem AP4 {ls:List Str}(h:AS2 ls):Txt.split (Str.join nl1 ls) nl1=ls:=zR (c:=10) h.1 fun x hx=>(AJ5 (h.2.2.2 x hx)).2.1
def RbI (H:Hp)(x:V)(rl l:Addr)(ls:List Str)(i:Nat)(σ:L2.St)(H1:Hp):Prop:=∃ (xs:List V) (s3 s4 s5:Option V),σ=[some x,some (.ref rl),some (.ref l),s3,s4,s5]∧Same H H1∧H l=none∧l≠rl∧H1 rl=some (.lst (ls.map V.str))∧H1 l=some (.lst xs)∧xs.length≤i∧∀ j,j < i→jU (ls.getD j "")=true
theorem vS (B:Bt K mg a)(fE:CalG 1 P w K mg base "read_whole_line" ["text","part_from"] 15 (eV K a))(CIA_NoText:CalIA P w K mg base "NoText" a.NoText "line" 1)(bB:CalI P w K mg base "NoText" a.NoText "line" 1 (.int 0))(F:Fun K "read_book" "read_book" fC f fd):FnOk P w K mg base (lC P w 2) 16 f fd ["text"] (kC K a):=by
 refine Fun.okW F sc_read_book (fun vs H Q E h=>?_) (fun cdv A outer s H vs Q E hr h=>?_)
 ·obtain ⟨x,rfl,_⟩:=h
  rfl
 obtain ⟨x,rfl,q⟩:=h
 refine ⟨_,(aY (aB (bM (cX (bL (aV (jD (K:=K) (T:="str") rfl) rfl B.isinstance PyProof.Rows.boot_isinstance (aK (aS (pv 0) (aS (gM (v:=.ty "str") rfl B.str PyProof.Rows.boot_str rfl) aF))) (he:=aG _ _ _ rfl) (hpl:=aH rfl)))) (cL (fL (dZ (R:=fun dx H9=>E (.ref a.NoText) (some dx) H9) bB rfl rfl (hr.mono (by decide)) iG))) aT) (aB (aU (i:=1) sc_read_book.nd rfl (Or.inl rfl) (aQ (pR (bC iQ (pv 0) bE (bF _)) (pA (aK aF)) (lB PySem.F.plainAttrs_str PySem.F.slot_str_split PySem.F.type_str_split yV (pv 0) (aK (aS bE aF))))) (by kernel_rfl)) (aB (aU (i:=2) sc_read_book.nd rfl (Or.inl rfl) (mK aF) (by kernel_rfl)) (aB (bN (AB5 PassesOwn.leaving rfl (AX9 rfl B.enumerate (aK (aS (pv 1) aF))) (BA8 (n:=2) rfl (yB (jV (i:=3) sc_read_book.nd rfl (Or.inl rfl)) (yB (jV (i:=4) sc_read_book.nd rfl (Or.inl rfl)) AS8))) (aY (aB (bN (AX3 (i:=5) (ia:=3) rfl rfl fE (hr.mono (by decide)) rfl rfl (Or.inl rfl) (fun _=>(aK (aS (pv 4) (aS (bS (v:=.ref _) rfl B.line_from_texts rfl) aF)))) sc_read_book.nd rfl (Or.inl rfl) rfl rfl B.NoText CIA_NoText rfl (hr.mono (by decide)) zA BD5 (by decide))) (aJ (bN (cY (lB PySem.F.plainAttrs_list PySem.F.slot_list_append PySem.F.type_list_append gP (pv 2) (aK (aS (pv 5) aF)))))))))) (aJ (aZ (aQ (pv 2))))))))),?_⟩
 nofun
 rcases q with ⟨rfl,q⟩ | ⟨ls,rfl,hk,q⟩ | ⟨⟨t,ty,e⟩,q⟩
 ·refine ⟨_,_,true,rfl,.str "",by kernel_rfl,?_⟩
  exists Bool.not_true
  refine ⟨Nat.zero_le _,fun rl hrl=>?_⟩
  have S1:=aE hrl (.lst [])
  refine ⟨Nat.zero_le _,fun l hl=>?_⟩
  have S2:=aE hl (.lst [])
  refine ⟨⟨[],SqL.of (S2 _ _ aC)⟩,?_⟩
  refine ForE.by (xs:=[]) (fun _ σ H1=>(∃ s3 s4 s5,σ=[some (.str ""),some (.ref rl),some (.ref l),s3,s4,s5])∧H1=upd (upd H rl (.lst [])) l (.lst [])) ⟨⟨_,_,_,rfl⟩,rfl⟩ (fun i σ H1 _ h=>by rw [h.2]; exact SqL.of (S2 _ _ aC)) (fun i y σ H1 p hy=>by simp at hy) ?_
  rintro σ H1 ⟨⟨s3,s4,s5,rfl⟩,rfl⟩
  nofun
  exact q _ _ (S1.trans S2)
 ·have lz:=BE4 hk
  have es:=AP4 hk
  refine ⟨_,_,true,rfl,.str _,by kernel_rfl,?_⟩
  exists Bool.not_true
  first | rw [if_neg hk.2.1] | skip
  refine ⟨by decide,Nat.le_trans (show (Str.join nl1 ls).length+2≤1000000 by omega) (by decide),by rw [show (("\n":Str))=nl1 from rfl,es]; exact sz8 (by have:=hk.2.2.1; omega),fun rl hrl=>?_⟩
  rw [show (("\n":Str))=nl1 from rfl,es] at *
  have S1:=aE hrl (.lst (ls.map V.str))
  have e1:upd H rl (.lst (ls.map V.str)) rl=some (.lst (ls.map V.str)):=aC
  generalize upd H rl (.lst (ls.map V.str))=H1 at *
  refine ⟨Nat.zero_le _,fun l hl=>?_⟩
  have S2:=aE hl (.lst [])
  have nlr:l≠rl:=fun z=>by rw [z,e1] at hl; cases hl
  refine ⟨⟨_,SqL.of (S2 _ _ e1)⟩,?_⟩
  refine ForE.by (xs:=ls.map V.str) (RbI H (.str (Str.join nl1 ls)) rl l ls) ⟨[],_,_,_,rfl,S1.trans S2,S1.free hl,nlr,S2 _ _ e1,aC,Nat.zero_le _,fun j hj=>by omega⟩ (fun i σ H2 _ h=>by obtain ⟨_,_,_,_,_,_,_,_,h,_⟩:=h; exact SqL.of h) ?_ ?_
  ·rintro i y σ H2 p hy ⟨xs,s3,s4,s5,rfl,S3,fl,_,e3,e4,lx,hj⟩ hp
   rw [List.getElem?_map] at hy
   obtain ⟨u,hu,rfl⟩:∃ u,ls[i]?=some u∧V.str u=y:=by
    cases z:ls[i]? with
    | none=>rw [z] at hy; cases hy
    | some u=>rw [z] at hy; exact ⟨u,rfl,Option.some.inj hy⟩
   have um:u∈ls:=List.mem_of_getElem? hu
   have ug:ls.getD i ""=u:=by rw [List.getD_eq_getElem?_getD,hu]; rfl
   have ul:i < ls.length:=(List.getElem?_eq_some_iff.mp hu).1
   have S4:=aE hp (.tup [.int (i:Nat),.str u])
   nofun
   have l100:=hk.2.2.1
   refine ⟨_,SqT.of aC,rfl,_,_,rfl,_,_,rfl,rfl,u,rfl,hk.2.2.2 u um,?_⟩
   by_cases c:jU u=true
   ·refine .inl ⟨c,fun v H5 S5=>?_⟩
    have SS:=S3.trans (S4.trans S5)
    have e5:=S5 _ _ (S4 _ _ e4)
    refine ⟨.inl ⟨rfl,_,SqL.of e5⟩,l,_,_,rfl,rfl,e5,Nat.lt_of_le_of_lt (show xs.length≤1000 by omega) (by decide),?_⟩
    refine ⟨xs++[v],_,_,_,rfl,fun b o e=>by rw [aI (fun z=>by rw [z,fl] at e; cases e)]; exact SS b o e,fl,nlr,by rw [aI (Ne.symm nlr)]; exact S5 _ _ (S4 _ _ e3),aC,by rw [List.length_append,List.length_singleton]; omega,fun j hj2=>?_⟩
    by_cases ji:j=i
    ·rw [ji,ug]
     exact c
    ·exact hj j (by omega)
   ·have c:=Bool.eq_false_iff.mpr c
    refine .inr ⟨c,fun y H5 S5=>⟨B.exm_Self,fun dx hdx=>?_⟩⟩
    rcases q with ⟨ha,_⟩ | ⟨k,hf,q⟩
    ·have:=ha u um
     rw [c] at this
     cases this
    ·have ek:k=i:=by
      by_cases z1:i < k
      ·have:=hf.2.1 i z1
       rw [ug,c] at this
       cases this
      ·by_cases z2:k < i
       ·have:=hj k z2
        rw [hf.2.2] at this
        cases this
       ·omega
     subst ek
     exact q dx _ (S3.trans (S4.trans (S5.trans (aE hdx _)))) aC
  ·rintro σ H2 ⟨xs,s3,s4,s5,rfl,S3,fl,_,e3,e4,lx,hj⟩
   nofun
   rcases q with ⟨_,q⟩ | ⟨k,hf,_⟩
   ·exact q _ H2 S3
   ·have:=hj k (by rw [List.length_map]; exact hf.1)
    rw [hf.2.2] at this
    cases this
 ·refine ⟨x,t,false,rfl,ty,e,?_⟩
  exists Bool.not_false
  exact fun y hy=>q y _ (aE hy _) aC
theorem vT (B:Bt K mg a)(F:Fun K "_law_begin" "_law_begin" fD f fd):FnOk P w K mg base CX0 1 f fd ["_law_cell"] (pD K a):=by
 refine F.ok vN (by walk_at "ln") fun cdv A outer s H vs Q E hr h=>?_
 obtain ⟨c,rfl,q⟩:=h
 refine ⟨_,(aY (aJ (aZ (mK (aS (dJ uR (dJ mH (pv 0) aW) (dJ sD aW (dJ qB (pv 0) aW))) (aS (dJ qB (pv 0) aW) (aS aW aF))))))),?_⟩
 nofun
 exact ⟨⟨by decide,by decide⟩,by decide,.inr ⟨by omega,by omega⟩,by decide,by decide,fun p hp=>q p _ _ _ hp⟩
theorem xR (B:Bt K mg a)(F:Fun K "_law_next" "_law_next" gI f fd):FnOk P w K mg base CX0 1 f fd ["_law_state","_law_base"] (gW K a):=by
 refine F.ok sc_law_next (by walk_at "ln") fun cdv A outer s H vs Q E hr h=>?_
 obtain ⟨wl,m,rfl,⟨a,b,c,hw⟩,m0,m1,q⟩:=h
 refine ⟨_,(aY (aB (bM (bC zH (mG gO (pv 0) aW (fun _ _=>rfl)) aW (bF _)) (aB (aU (i:=2) sc_law_next.nd rfl (Or.inl rfl) (aQ (dJ qB (mG gO (pv 0) aW (fun _ _=>rfl)) (pv 1))) (by kernel_rfl)) (aB (bN (yD (dJ mH (mG gO (pv 0) aW (fun _ _=>rfl)) (pv 1)) (yC (pv 0) aW pT))) (aJ (aZ (aQ (pv 2)))))) aT) (aB (bN (yD (dJ qA (mG gO (pv 0) aW (fun _ _=>rfl)) aW) (yC (pv 0) aW pT))) (aB (aU (i:=3) sc_law_next.nd rfl (Or.inl rfl) (aQ (dJ qB (dJ uR (dJ qA (dJ qA (mG gO (pv 0) aW (fun _ _=>rfl)) (dJ uR aW (mG gO (pv 0) aW (fun _ _=>rfl)))) aW) aW) aW)) (by kernel_rfl)) (aB (aU (i:=3) sc_law_next.nd rfl (Or.inl rfl) (aQ (dJ qB (dJ uR (pv 3) (dJ qA (dJ mH (pv 3) aW) aW)) aW)) (by kernel_rfl)) (aB (aU (i:=3) sc_law_next.nd rfl (Or.inl rfl) (aQ (dJ qB (dJ uR (pv 3) (dJ qA (dJ mH (pv 3) aW) aW)) aW)) (by kernel_rfl)) (aJ (aZ (aQ (dJ qB (dJ mH (pv 3) aW) (pv 1))))))))))),?_⟩
 have em:∀ x k:Int,0 < k→0≤x % k∧x % k < k:=fun x k h=>⟨Int.emod_nonneg _ (by omega),Int.emod_lt_of_pos _ h⟩
 nofun
 refine ixl (SqL.of hw) (v:=.int a) rfl ?_
 nofun
 split
 ·refine ixl (SqL.of hw) (v:=.int a) rfl ?_
  nofun
  refine ⟨m0,?_⟩
  refine ixl (SqL.of hw) (v:=.int a) rfl ?_
  nofun
  refine ⟨⟨m0,m1⟩,?_⟩
  refine BF0 hw (j:=0) rfl ?_
  exact q _ _ (em a m m0).1 (em a m m0).2 ⟨_,_,_,aC⟩ (But.upd _)
 ·refine ixl (SqL.of hw) (v:=.int c) rfl ?_
  nofun
  refine BF0 hw (j:=2) rfl ?_
  refine ixl (SqL.of aC) (v:=.int b) rfl ?_
  refine ixl (SqL.of aC) (v:=.int (c+1)) rfl ?_
  nofun
  generalize hn1:(b+7919 * (c+1)+1) * 48271 % 2147483647=n1
  have b1:0≤n1∧n1 < 2147483647:=hn1 ▸ em _ _ (by decide)
  generalize hn2:n1 * (n1 / 1009+69621) % 2147483647=n2
  have b2:0≤n2∧n2 < 2147483647:=hn2 ▸ em _ _ (by decide)
  refine ⟨.inl ⟨by decide,by decide⟩,.inr ⟨by decide,by decide⟩,by decide,⟨by decide,by decide⟩,.inl ⟨by omega,by omega⟩,by decide,⟨by decide,by decide⟩,.inl ⟨by omega,by omega⟩,by decide,⟨by decide,by decide⟩,m0,?_⟩
  exact q _ _ (em _ m m0).1 (em _ m m0).2 ⟨_,_,_,aC⟩ (But.upd _)
theorem rY (B:Bt K mg a)(F:Fun K "_law_cell_at" "_law_cell_at" dX f fd):FnOk P w K mg base CX0 1 f fd ["_law_script","_law_k"] (kY K a):=by
 refine F.ok rP (by walk_at "ln") fun cdv A outer s H vs Q E hr h=>?_
 obtain ⟨b,ns,k,rfl,hS,k0,q⟩:=h
 refine ⟨_,(aY (aB (bM (bC zG (pv 1) (aV AM3 rfl B.len PySem.boot_len (aK (aS (pv 0) aF))) (bF _)) (aJ (aZ (aQ (mG gO (pv 0) (pv 1) (fun _ _=>rfl))))) aT) (aJ (aZ (aQ aW))))),?_⟩
 nofun
 refine ⟨_,.inl ⟨_,hS,rfl⟩,?_⟩
 nofun
 split
 ·rename_i hk
  rw [List.length_map] at hk
  obtain ⟨z,_,ez⟩:=BB9 k0 hk
  exact ixl hS ez (q z)
 ·exact q 0
theorem dO {X:Cx}{es:List Expr}{xs:List Str}{pos:Pos}(h:qN es=some xs):QE X (.List es pos) (BB4 (AF9 xs)):=⟨AV9 h⟩
theorem BJ9 {X:Cx}{ss:List Stmt}{D:Ends}{σ:L2.St}{H:Hp}(h:∃ t,QSs X ss t∧t D σ H):∃ t,PSs X ss t∧t D σ H:=let ⟨t,a,b⟩:=h; ⟨t,a.h,b⟩
theorem AP5 {u:Str}(h:u∈BM1):mQ u=true:=List.all_eq_true.mp AY2 u (List.mem_append.mpr (.inl h))
theorem AY9 {u:Str}(h:u∈bAll):AO9 u=true:=List.all_eq_true.mp AY3 u h
theorem go7:mQ "go 7"=true:=by decide +kernel
theorem xS (B:Bt K mg a)(cR:CalX P w K mg base "_law_next" ["_law_state","_law_base"] 1 (gW K a))(F:Fun K "_law_good" "_law_good" gJ f fd):FnOk P w K mg base CX0 2 f fd ["_law_state"] (qY K a):=by
 refine F.ok sc_law_good (by walk_at "ln") fun cdv A outer s H vs Q E hr h=>?_
 obtain ⟨wl,rfl,W,q⟩:=h
 refine BJ9 ⟨_,(aB (aU (i:=1) sc_law_good.nd rfl (Or.inl rfl) (dO (xs:=gA) (by kernel_rfl)) (by kernel_rfl)) (aB (aU (i:=1) sc_law_good.nd rfl (Or.inl rfl) (jY eQ (aQ (pv 1)) (dO (xs:=gB) (by kernel_rfl))) (by kernel_rfl)) (aB (aU (i:=1) sc_law_good.nd rfl (Or.inl rfl) (jY eQ (aQ (pv 1)) (dO (xs:=gC) (by kernel_rfl))) (by kernel_rfl)) (aB (bN (cY (lB PySem.F.plainAttrs_list PySem.F.slot_list_append PySem.F.type_list_append gP (pv 1) (aK (aS bE aF))))) (aJ (aZ (BC8 gO (jY eQ (aQ (pv 1)) (dO (xs:=gE) (by kernel_rfl))) (aQ (pc cR hr rfl (aK (aS (pv 0) (aS aW aF))))) (fun _ _=>rfl)))))))),?_⟩
 nofun
 refine ⟨sz8 (by decide +kernel),fun p0 hp0=>?_⟩
 have S0:=aE hp0 (.lst (gA.map V.str))
 have e0:upd H p0 (.lst (gA.map V.str)) p0=some (.lst (gA.map V.str)):=aC
 generalize upd H p0 (.lst (gA.map V.str))=G0 at *
 nofun
 refine ⟨sz8 (by decide +kernel),fun q1 hq1=>?_⟩
 have T1:=aE hq1 (.lst (gB.map V.str))
 refine ⟨p0,q1,_,_,rfl,rfl,T1 _ _ e0,aC,sz8 (by decide +kernel),fun p1 hp1=>?_⟩
 rw [← List.map_append]
 have S1:=S0.trans (T1.trans (aE hp1 (.lst ((gA++gB).map V.str))))
 have fp1:H p1=none:=(S0.trans T1).free hp1
 have e1:upd (upd G0 q1 (.lst (gB.map V.str))) p1 (.lst ((gA++gB).map V.str)) p1=some (.lst ((gA++gB).map V.str)):=aC
 generalize upd (upd G0 q1 (.lst (gB.map V.str))) p1 (.lst ((gA++gB).map V.str))=G1 at *
 nofun
 refine ⟨sz8 (by decide +kernel),fun q2 hq2=>?_⟩
 have T2:=aE hq2 (.lst (gC.map V.str))
 refine ⟨p1,q2,_,_,rfl,rfl,T2 _ _ e1,aC,sz8 (by decide +kernel),fun p2 hp2=>?_⟩
 rw [← List.map_append]
 have S2:=S1.trans (T2.trans (aE hp2 (.lst (((gA++gB)++gC).map V.str))))
 have fp2:H p2=none:=(S1.trans T2).free hp2
 have e2:upd (upd G1 q2 (.lst (gC.map V.str))) p2 (.lst (((gA++gB)++gC).map V.str)) p2=some (.lst (((gA++gB)++gC).map V.str)):=aC
 generalize upd (upd G1 q2 (.lst (gC.map V.str))) p2 (.lst (((gA++gB)++gC).map V.str))=G2 at *
 nofun
 refine ⟨.inl ⟨rfl,_,SqL.of e2⟩,p2,_,_,rfl,rfl,e2,Nat.lt_of_le_of_lt (show _≤1000 by decide +kernel) (by decide),?_⟩
 have f3:H p2=none:=fp2
 have S3:Same H (upd G2 p2 (.lst ((((gA++gB)++gC)++gD).map V.str))):=fun b o e=>by rw [aI (fun z=>by rw [z,f3] at e; cases e)]; exact S2 b o e
 have e3:upd G2 p2 (.lst ((((gA++gB)++gC)++gD).map V.str)) p2=some (.lst ((((gA++gB)++gC)++gD).map V.str)):=aC
 rw [show ((gA++gB)++gC).map V.str++[V.str "try 5 ann off mail 3.1 0.0"]=(((gA++gB)++gC)++gD).map V.str by rw [List.map_append]; rfl]
 generalize upd G2 p2 (.lst ((((gA++gB)++gC)++gD).map V.str))=G3 at *
 nofun
 refine ⟨sz8 (by decide +kernel),fun q4 hq4=>?_⟩
 have T4:=aE hq4 (.lst (gE.map V.str))
 refine ⟨p2,q4,_,_,rfl,rfl,T4 _ _ e3,aC,sz8 (by decide +kernel),fun p3 hp3=>?_⟩
 rw [← List.map_append]
 have S4:=S3.trans (T4.trans (aE hp3 (.lst (((((gA++gB)++gC)++gD)++gE).map V.str))))
 have fp3:H p3=none:=(S3.trans T4).free hp3
 have e4:upd (upd G3 q4 (.lst (gE.map V.str))) p3 (.lst (((((gA++gB)++gC)++gD)++gE).map V.str)) p3=some (.lst (((((gA++gB)++gC)++gD)++gE).map V.str)):=aC
 generalize upd (upd G3 q4 (.lst (gE.map V.str))) p3 (.lst (((((gA++gB)++gC)++gD)++gE).map V.str))=G4 at *
 have hm:∀ u∈((((gA++gB)++gC)++gD)++gE),mQ u=true:=fun u hu=>AP5 hu
 have W1:=W.same S4
 have nw:p3≠wl:=W.ne fp3
 nofun
 refine AZ5 W1 (by decide) (by decide) fun r H2 r0 r1 W2 B2=>?_
 have e9:=B2 _ _ nw e4
 have lz:(((((gA++gB)++gC)++gD)++gE).map V.str).length=16:=by rw [List.length_map]; decide +kernel
 obtain ⟨z,hz,ez⟩:=wP (xs:=((((gA++gB)++gC)++gD)++gE).map V.str) r0 (by rw [lz]; exact r1)
 obtain ⟨u,hu,rfl⟩:=List.mem_map.mp hz
 refine ixl (SqL.of e9) ez ?_
 exact q u H2 (hm u hu) W2 ((Same.but S4).trans B2)
theorem zY (B:Bt K mg a)(cR:CalX P w K mg base "_law_next" ["_law_state","_law_base"] 1 (gW K a))(F:Fun K "_law_bad" "_law_bad" iV f fd):FnOk P w K mg base CX0 2 f fd ["_law_state"] (sT K a):=by
 refine F.ok sc_law_bad (by walk_at "ln") fun cdv A outer s H vs Q E hr h=>?_
 obtain ⟨wl,rfl,W,q⟩:=h
 refine BJ9 ⟨_,(aB (aU (i:=1) sc_law_bad.nd rfl (Or.inl rfl) (dO (xs:=b0) (by kernel_rfl)) (by kernel_rfl)) (bG (aB (aU (i:=1) sc_law_bad.nd rfl (Or.inl rfl) (jY eQ (aQ (pv 1)) (dO (xs:=b1) (by kernel_rfl))) (by kernel_rfl)) (bG (aB (aU (i:=1) sc_law_bad.nd rfl (Or.inl rfl) (jY eQ (aQ (pv 1)) (dO (xs:=b2) (by kernel_rfl))) (by kernel_rfl)) (bG (aB (aU (i:=1) sc_law_bad.nd rfl (Or.inl rfl) (jY eQ (aQ (pv 1)) (dO (xs:=b3) (by kernel_rfl))) (by kernel_rfl)) (bG (aB (aU (i:=1) sc_law_bad.nd rfl (Or.inl rfl) (jY eQ (aQ (pv 1)) (dO (xs:=b4) (by kernel_rfl))) (by kernel_rfl)) (bG (aB (aU (i:=1) sc_law_bad.nd rfl (Or.inl rfl) (jY eQ (aQ (pv 1)) (dO (xs:=b5) (by kernel_rfl))) (by kernel_rfl)) (bG (aB (aU (i:=1) sc_law_bad.nd rfl (Or.inl rfl) (jY eQ (aQ (pv 1)) (dO (xs:=b6) (by kernel_rfl))) (by kernel_rfl)) (bG (aB (bN (cY (lB PySem.F.plainAttrs_list PySem.F.slot_list_append PySem.F.type_list_append gP (pv 1) (aK (aS bE aF))))) (bG (aB (aU (i:=1) sc_law_bad.nd rfl (Or.inl rfl) (jY eQ (aQ (pv 1)) (dO (xs:=b8) (by kernel_rfl))) (by kernel_rfl)) (bG (aB (aU (i:=1) sc_law_bad.nd rfl (Or.inl rfl) (jY eQ (aQ (pv 1)) (dO (xs:=b9) (by kernel_rfl))) (by kernel_rfl)) (bG (aB (aU (i:=1) sc_law_bad.nd rfl (Or.inl rfl) (jY eQ (aQ (pv 1)) (dO (xs:=b10) (by kernel_rfl))) (by kernel_rfl)) (bG (aB (aU (i:=1) sc_law_bad.nd rfl (Or.inl rfl) (jY eQ (aQ (pv 1)) (dO (xs:=b11) (by kernel_rfl))) (by kernel_rfl)) (bG (aB (aU (i:=1) sc_law_bad.nd rfl (Or.inl rfl) (jY eQ (aQ (pv 1)) (dO (xs:=b12) (by kernel_rfl))) (by kernel_rfl)) (bG (aB (aU (i:=1) sc_law_bad.nd rfl (Or.inl rfl) (jY eQ (aQ (pv 1)) (dO (xs:=b13) (by kernel_rfl))) (by kernel_rfl)) (bG (aJ (aZ (BC8 gO (jY eQ (aQ (pv 1)) (mK (aS (dJ nX bE (dJ xF bE aW)) (aS bE aF)))) (aQ (pc cR hr rfl (aK (aS (pv 0) (aS aW aF))))) (fun _ _=>rfl)))))))))))))))))))))))))))))))),?_⟩
 nofun
 refine ⟨sz8 (by decide +kernel),fun p0 hp0=>?_⟩
 have S0:=aE hp0 (.lst (b0.map V.str))
 have e0:upd H p0 (.lst (b0.map V.str)) p0=some (.lst (b0.map V.str)):=aC
 generalize upd H p0 (.lst (b0.map V.str))=G0 at *
 walk_at "ho"
 nofun
 refine ⟨sz8 (by decide +kernel),fun q1 hq1=>?_⟩
 have T1:=aE hq1 (.lst (b1.map V.str))
 refine ⟨p0,q1,_,_,rfl,rfl,T1 _ _ e0,aC,sz8 (by decide +kernel),fun p1 hp1=>?_⟩
 rw [← List.map_append]
 have S1:=S0.trans (T1.trans (aE hp1 (.lst ((b0++b1).map V.str))))
 have fp1:H p1=none:=(S0.trans T1).free hp1
 have e1:upd (upd G0 q1 (.lst (b1.map V.str))) p1 (.lst ((b0++b1).map V.str)) p1=some (.lst ((b0++b1).map V.str)):=aC
 generalize upd (upd G0 q1 (.lst (b1.map V.str))) p1 (.lst ((b0++b1).map V.str))=G1 at *
 walk_at "ho"
 nofun
 refine ⟨sz8 (by decide +kernel),fun q2 hq2=>?_⟩
 have T2:=aE hq2 (.lst (b2.map V.str))
 refine ⟨p1,q2,_,_,rfl,rfl,T2 _ _ e1,aC,sz8 (by decide +kernel),fun p2 hp2=>?_⟩
 rw [← List.map_append]
 have S2:=S1.trans (T2.trans (aE hp2 (.lst (((b0++b1)++b2).map V.str))))
 have fp2:H p2=none:=(S1.trans T2).free hp2
 have e2:upd (upd G1 q2 (.lst (b2.map V.str))) p2 (.lst (((b0++b1)++b2).map V.str)) p2=some (.lst (((b0++b1)++b2).map V.str)):=aC
 generalize upd (upd G1 q2 (.lst (b2.map V.str))) p2 (.lst (((b0++b1)++b2).map V.str))=G2 at *
 walk_at "ho"
 nofun
 refine ⟨sz8 (by decide +kernel),fun q3 hq3=>?_⟩
 have T3:=aE hq3 (.lst (b3.map V.str))
 refine ⟨p2,q3,_,_,rfl,rfl,T3 _ _ e2,aC,sz8 (by decide +kernel),fun p3 hp3=>?_⟩
 rw [← List.map_append]
 have S3:=S2.trans (T3.trans (aE hp3 (.lst ((((b0++b1)++b2)++b3).map V.str))))
 have fp3:H p3=none:=(S2.trans T3).free hp3
 have e3:upd (upd G2 q3 (.lst (b3.map V.str))) p3 (.lst ((((b0++b1)++b2)++b3).map V.str)) p3=some (.lst ((((b0++b1)++b2)++b3).map V.str)):=aC
 generalize upd (upd G2 q3 (.lst (b3.map V.str))) p3 (.lst ((((b0++b1)++b2)++b3).map V.str))=G3 at *
 walk_at "ho"
 nofun
 refine ⟨sz8 (by decide +kernel),fun q4 hq4=>?_⟩
 have T4:=aE hq4 (.lst (b4.map V.str))
 refine ⟨p3,q4,_,_,rfl,rfl,T4 _ _ e3,aC,sz8 (by decide +kernel),fun p4 hp4=>?_⟩
 rw [← List.map_append]
 have S4:=S3.trans (T4.trans (aE hp4 (.lst (((((b0++b1)++b2)++b3)++b4).map V.str))))
 have fp4:H p4=none:=(S3.trans T4).free hp4
 have e4:upd (upd G3 q4 (.lst (b4.map V.str))) p4 (.lst (((((b0++b1)++b2)++b3)++b4).map V.str)) p4=some (.lst (((((b0++b1)++b2)++b3)++b4).map V.str)):=aC
 generalize upd (upd G3 q4 (.lst (b4.map V.str))) p4 (.lst (((((b0++b1)++b2)++b3)++b4).map V.str))=G4 at *
 walk_at "ho"
 nofun
 refine ⟨sz8 (by decide +kernel),fun q5 hq5=>?_⟩
 have T5:=aE hq5 (.lst (b5.map V.str))
 refine ⟨p4,q5,_,_,rfl,rfl,T5 _ _ e4,aC,sz8 (by decide +kernel),fun p5 hp5=>?_⟩
 rw [← List.map_append]
 have S5:=S4.trans (T5.trans (aE hp5 (.lst ((((((b0++b1)++b2)++b3)++b4)++b5).map V.str))))
 have fp5:H p5=none:=(S4.trans T5).free hp5
 have e5:upd (upd G4 q5 (.lst (b5.map V.str))) p5 (.lst ((((((b0++b1)++b2)++b3)++b4)++b5).map V.str)) p5=some (.lst ((((((b0++b1)++b2)++b3)++b4)++b5).map V.str)):=aC
 generalize upd (upd G4 q5 (.lst (b5.map V.str))) p5 (.lst ((((((b0++b1)++b2)++b3)++b4)++b5).map V.str))=G5 at *
 walk_at "ho"
 nofun
 refine ⟨sz8 (by decide +kernel),fun q6 hq6=>?_⟩
 have T6:=aE hq6 (.lst (b6.map V.str))
 refine ⟨p5,q6,_,_,rfl,rfl,T6 _ _ e5,aC,sz8 (by decide +kernel),fun p6 hp6=>?_⟩
 rw [← List.map_append]
 have S6:=S5.trans (T6.trans (aE hp6 (.lst (((((((b0++b1)++b2)++b3)++b4)++b5)++b6).map V.str))))
 have fp6:H p6=none:=(S5.trans T6).free hp6
 have e6:upd (upd G5 q6 (.lst (b6.map V.str))) p6 (.lst (((((((b0++b1)++b2)++b3)++b4)++b5)++b6).map V.str)) p6=some (.lst (((((((b0++b1)++b2)++b3)++b4)++b5)++b6).map V.str)):=aC
 generalize upd (upd G5 q6 (.lst (b6.map V.str))) p6 (.lst (((((((b0++b1)++b2)++b3)++b4)++b5)++b6).map V.str))=G6 at *
 walk_at "ho"
 nofun
 refine ⟨.inl ⟨rfl,_,SqL.of e6⟩,p6,_,_,rfl,rfl,e6,Nat.lt_of_le_of_lt (show _≤1000 by decide +kernel) (by decide),?_⟩
 have f7:H p6=none:=fp6
 have S7:Same H (upd G6 p6 (.lst ((((((((b0++b1)++b2)++b3)++b4)++b5)++b6)++b7).map V.str))):=fun b o e=>by rw [aI (fun z=>by rw [z,f7] at e; cases e)]; exact S6 b o e
 have e7:upd G6 p6 (.lst ((((((((b0++b1)++b2)++b3)++b4)++b5)++b6)++b7).map V.str)) p6=some (.lst ((((((((b0++b1)++b2)++b3)++b4)++b5)++b6)++b7).map V.str)):=aC
 rw [show ((((((b0++b1)++b2)++b3)++b4)++b5)++b6).map V.str++[V.str "try 5 ann bell mail 0"]=(((((((b0++b1)++b2)++b3)++b4)++b5)++b6)++b7).map V.str by rw [List.map_append]; rfl]
 generalize upd G6 p6 (.lst ((((((((b0++b1)++b2)++b3)++b4)++b5)++b6)++b7).map V.str))=G7 at *
 walk_at "ho"
 nofun
 refine ⟨sz8 (by decide +kernel),fun q8 hq8=>?_⟩
 have T8:=aE hq8 (.lst (b8.map V.str))
 refine ⟨p6,q8,_,_,rfl,rfl,T8 _ _ e7,aC,sz8 (by decide +kernel),fun p7 hp7=>?_⟩
 rw [← List.map_append]
 have S8:=S7.trans (T8.trans (aE hp7 (.lst (((((((((b0++b1)++b2)++b3)++b4)++b5)++b6)++b7)++b8).map V.str))))
 have fp7:H p7=none:=(S7.trans T8).free hp7
 have e8:upd (upd G7 q8 (.lst (b8.map V.str))) p7 (.lst (((((((((b0++b1)++b2)++b3)++b4)++b5)++b6)++b7)++b8).map V.str)) p7=some (.lst (((((((((b0++b1)++b2)++b3)++b4)++b5)++b6)++b7)++b8).map V.str)):=aC
 generalize upd (upd G7 q8 (.lst (b8.map V.str))) p7 (.lst (((((((((b0++b1)++b2)++b3)++b4)++b5)++b6)++b7)++b8).map V.str))=G8 at *
 walk_at "ho"
 nofun
 refine ⟨sz8 (by decide +kernel),fun q9 hq9=>?_⟩
 have T9:=aE hq9 (.lst (b9.map V.str))
 refine ⟨p7,q9,_,_,rfl,rfl,T9 _ _ e8,aC,sz8 (by decide +kernel),fun p8 hp8=>?_⟩
 rw [← List.map_append]
 have S9:=S8.trans (T9.trans (aE hp8 (.lst ((((((((((b0++b1)++b2)++b3)++b4)++b5)++b6)++b7)++b8)++b9).map V.str))))
 have fp8:H p8=none:=(S8.trans T9).free hp8
 have e9:upd (upd G8 q9 (.lst (b9.map V.str))) p8 (.lst ((((((((((b0++b1)++b2)++b3)++b4)++b5)++b6)++b7)++b8)++b9).map V.str)) p8=some (.lst ((((((((((b0++b1)++b2)++b3)++b4)++b5)++b6)++b7)++b8)++b9).map V.str)):=aC
 generalize upd (upd G8 q9 (.lst (b9.map V.str))) p8 (.lst ((((((((((b0++b1)++b2)++b3)++b4)++b5)++b6)++b7)++b8)++b9).map V.str))=G9 at *
 walk_at "ho"
 nofun
 refine ⟨sz8 (by decide +kernel),fun q10 hq10=>?_⟩
 have T10:=aE hq10 (.lst (b10.map V.str))
 refine ⟨p8,q10,_,_,rfl,rfl,T10 _ _ e9,aC,sz8 (by decide +kernel),fun p9 hp9=>?_⟩
 rw [← List.map_append]
 have S10:=S9.trans (T10.trans (aE hp9 (.lst (((((((((((b0++b1)++b2)++b3)++b4)++b5)++b6)++b7)++b8)++b9)++b10).map V.str))))
 have fp9:H p9=none:=(S9.trans T10).free hp9
 have e10:upd (upd G9 q10 (.lst (b10.map V.str))) p9 (.lst (((((((((((b0++b1)++b2)++b3)++b4)++b5)++b6)++b7)++b8)++b9)++b10).map V.str)) p9=some (.lst (((((((((((b0++b1)++b2)++b3)++b4)++b5)++b6)++b7)++b8)++b9)++b10).map V.str)):=aC
 generalize upd (upd G9 q10 (.lst (b10.map V.str))) p9 (.lst (((((((((((b0++b1)++b2)++b3)++b4)++b5)++b6)++b7)++b8)++b9)++b10).map V.str))=G10 at *
 walk_at "ho"
 nofun
 refine ⟨sz8 (by decide +kernel),fun q11 hq11=>?_⟩
 have T11:=aE hq11 (.lst (b11.map V.str))
 refine ⟨p9,q11,_,_,rfl,rfl,T11 _ _ e10,aC,sz8 (by decide +kernel),fun p10 hp10=>?_⟩
 rw [← List.map_append]
 have S11:=S10.trans (T11.trans (aE hp10 (.lst ((((((((((((b0++b1)++b2)++b3)++b4)++b5)++b6)++b7)++b8)++b9)++b10)++b11).map V.str))))
 have fp10:H p10=none:=(S10.trans T11).free hp10
 have e11:upd (upd G10 q11 (.lst (b11.map V.str))) p10 (.lst ((((((((((((b0++b1)++b2)++b3)++b4)++b5)++b6)++b7)++b8)++b9)++b10)++b11).map V.str)) p10=some (.lst ((((((((((((b0++b1)++b2)++b3)++b4)++b5)++b6)++b7)++b8)++b9)++b10)++b11).map V.str)):=aC
 generalize upd (upd G10 q11 (.lst (b11.map V.str))) p10 (.lst ((((((((((((b0++b1)++b2)++b3)++b4)++b5)++b6)++b7)++b8)++b9)++b10)++b11).map V.str))=G11 at *
 walk_at "ho"
 nofun
 refine ⟨sz8 (by decide +kernel),fun q12 hq12=>?_⟩
 have T12:=aE hq12 (.lst (b12.map V.str))
 refine ⟨p10,q12,_,_,rfl,rfl,T12 _ _ e11,aC,sz8 (by decide +kernel),fun p11 hp11=>?_⟩
 rw [← List.map_append]
 have S12:=S11.trans (T12.trans (aE hp11 (.lst (((((((((((((b0++b1)++b2)++b3)++b4)++b5)++b6)++b7)++b8)++b9)++b10)++b11)++b12).map V.str))))
 have fp11:H p11=none:=(S11.trans T12).free hp11
 have e12:upd (upd G11 q12 (.lst (b12.map V.str))) p11 (.lst (((((((((((((b0++b1)++b2)++b3)++b4)++b5)++b6)++b7)++b8)++b9)++b10)++b11)++b12).map V.str)) p11=some (.lst (((((((((((((b0++b1)++b2)++b3)++b4)++b5)++b6)++b7)++b8)++b9)++b10)++b11)++b12).map V.str)):=aC
 generalize upd (upd G11 q12 (.lst (b12.map V.str))) p11 (.lst (((((((((((((b0++b1)++b2)++b3)++b4)++b5)++b6)++b7)++b8)++b9)++b10)++b11)++b12).map V.str))=G12 at *
 walk_at "ho"
 nofun
 refine ⟨sz8 (by decide +kernel),fun q13 hq13=>?_⟩
 have T13:=aE hq13 (.lst (b13.map V.str))
 refine ⟨p11,q13,_,_,rfl,rfl,T13 _ _ e12,aC,sz8 (by decide +kernel),fun p12 hp12=>?_⟩
 rw [← List.map_append]
 have S13:=S12.trans (T13.trans (aE hp12 (.lst ((((((((((((((b0++b1)++b2)++b3)++b4)++b5)++b6)++b7)++b8)++b9)++b10)++b11)++b12)++b13).map V.str))))
 have fp12:H p12=none:=(S12.trans T13).free hp12
 have e13:upd (upd G12 q13 (.lst (b13.map V.str))) p12 (.lst ((((((((((((((b0++b1)++b2)++b3)++b4)++b5)++b6)++b7)++b8)++b9)++b10)++b11)++b12)++b13).map V.str)) p12=some (.lst ((((((((((((((b0++b1)++b2)++b3)++b4)++b5)++b6)++b7)++b8)++b9)++b10)++b11)++b12)++b13).map V.str)):=aC
 generalize upd (upd G12 q13 (.lst (b13.map V.str))) p12 (.lst ((((((((((((((b0++b1)++b2)++b3)++b4)++b5)++b6)++b7)++b8)++b9)++b10)++b11)++b12)++b13).map V.str))=G13 at *
 first | refine zD ?_ | (dsimp only; refine zD ?_)
 nofun
 refine ⟨by decide,by decide,by decide +kernel,by decide +kernel,sz8 (by first | decide | (simp only [List.length_cons,List.length_nil]; decide)),fun q9 hq9=>?_⟩
 have T9:=aE hq9 (.lst ([.str (("go ":Str)++⟨(List.replicate (Int.toNat 61) ("1":Str).cps).foldl (·++·) #[]⟩),.str "try 5 ann bell mail 0.0 x"]))
 refine ⟨p12,q9,_,_,rfl,rfl,T9 _ _ e13,aC,sz8 (by decide +kernel),fun p13 hp13=>?_⟩
 rw [show (((((((((((((b0++b1)++b2)++b3)++b4)++b5)++b6)++b7)++b8)++b9)++b10)++b11)++b12)++b13).map V.str++[.str (("go ":Str)++⟨(List.replicate (Int.toNat 61) ("1":Str).cps).foldl (·++·) #[]⟩),.str "try 5 ann bell mail 0.0 x"]=((((((((((((((b0++b1)++b2)++b3)++b4)++b5)++b6)++b7)++b8)++b9)++b10)++b11)++b12)++b13)++b14).map V.str by rw [List.map_append]; rfl]
 have S14:=S13.trans (T9.trans (aE hp13 (.lst (((((((((((((((b0++b1)++b2)++b3)++b4)++b5)++b6)++b7)++b8)++b9)++b10)++b11)++b12)++b13)++b14).map V.str))))
 have fp13:H p13=none:=(S13.trans T9).free hp13
 have e14:upd (upd G13 q9 (.lst ([.str (("go ":Str)++⟨(List.replicate (Int.toNat 61) ("1":Str).cps).foldl (·++·) #[]⟩),.str "try 5 ann bell mail 0.0 x"]))) p13 (.lst (((((((((((((((b0++b1)++b2)++b3)++b4)++b5)++b6)++b7)++b8)++b9)++b10)++b11)++b12)++b13)++b14).map V.str)) p13=some (.lst (((((((((((((((b0++b1)++b2)++b3)++b4)++b5)++b6)++b7)++b8)++b9)++b10)++b11)++b12)++b13)++b14).map V.str)):=aC
 generalize upd (upd G13 q9 (.lst ([.str (("go ":Str)++⟨(List.replicate (Int.toNat 61) ("1":Str).cps).foldl (·++·) #[]⟩),.str "try 5 ann bell mail 0.0 x"]))) p13 (.lst (((((((((((((((b0++b1)++b2)++b3)++b4)++b5)++b6)++b7)++b8)++b9)++b10)++b11)++b12)++b13)++b14).map V.str))=G14 at *
 have hm:∀ u∈((((((((((((((b0++b1)++b2)++b3)++b4)++b5)++b6)++b7)++b8)++b9)++b10)++b11)++b12)++b13)++b14),AO9 u=true:=fun u hu=>AY9 hu
 have W1:=W.same S14
 have nw:p13≠wl:=W.ne fp13
 nofun
 refine AZ5 W1 (by decide) (by decide) fun r H2 r0 r1 W2 B2=>?_
 have e9:=B2 _ _ nw e14
 have lz:(((((((((((((((b0++b1)++b2)++b3)++b4)++b5)++b6)++b7)++b8)++b9)++b10)++b11)++b12)++b13)++b14).map V.str).length=72:=by rw [List.length_map]; decide +kernel
 obtain ⟨z,hz,ez⟩:=wP (xs:=((((((((((((((b0++b1)++b2)++b3)++b4)++b5)++b6)++b7)++b8)++b9)++b10)++b11)++b12)++b13)++b14).map V.str) r0 (by rw [lz]; exact r1)
 obtain ⟨u,hu,rfl⟩:=List.mem_map.mp hz
 refine ixl (SqL.of e9) ez ?_
 exact q u H2 (hm u hu) W2 ((Same.but S14).trans B2)
theorem xT (B:Bt K mg a)(lW:CalG 2 P w K mg base "read_book" ["text"] 16 (kC K a))(F:Fun K "_law_told" "_law_told" gK f fd):FnOk P w K mg base CX0 17 f fd ["_law_text"] (qZ K a):=by
 refine F.ok sc_law_told (by walk_at "ln") fun cdv A outer s H vs Q E hr h=>?_
 obtain ⟨x,r,rfl,hx,q⟩:=h
 refine ⟨_,(aY (aB (aU (i:=1) sc_law_told.nd rfl (Or.inl rfl) (aQ (AM1 yE aW)) (by kernel_rfl)) (aB (bN (AV3 (i:=2) rfl rfl (fun _ _ z=>z) lW (hr.mono (by decide)) rfl (aK (aS (pv 0) aF)) rfl B.BellError sc_law_told.nd rfl rfl (fun v=>(aY (aB (aU (i:=1) sc_law_told.nd rfl (Or.inl rfl) (aQ (AM1 yE aW)) (by kernel_rfl)) (aJ (bM (L2.PW.pt (uP (bL (aV (AH5 (K:=K) rfl) rfl B.isinstance PyProof.Rows.boot_isinstance (aK (aS (pv 2) (aS (bS (v:=.ref _) rfl B.NoText rfl) aF))) (he:=aG _ _ _ rfl) (hpl:=aH rfl))) (pY (bL (aV (AH5 (K:=K) rfl) rfl B.isinstance PyProof.Rows.boot_isinstance (aK (aS (pv 2) (aS (gM (v:=.ty "ValueError") rfl B.ValueError qL rfl) aF))) (he:=aG _ _ _ rfl) (hpl:=aH rfl)))))) (aJ (bM (L2.PW.pt (uP (cX (bL (aV (AO1 (K:=K) rfl) rfl B.isinstance PyProof.Rows.boot_isinstance (aK (aS (pv 2) (aS (hG (aK (aS (bS (v:=.ref _) rfl B.NoHappening rfl) (aS (bS (v:=.ref _) rfl B.NoRow rfl) (aS (bS (v:=.ref _) rfl B.NoWish rfl) (aS (bS (v:=.ref _) rfl B.NoBook rfl) (aS (bS (v:=.ref _) rfl B.NoTime rfl) aF))))))) aF))) (he:=aG _ _ _ rfl) (hpl:=aH rfl)))) (pY (cX (bL (aV (jD (K:=K) (T:="bool") rfl) rfl B.isinstance PyProof.Rows.boot_isinstance (aK (aS (AI2 (K:=K) rfl (pv 2) rfl) (aS (gM (v:=.ty "bool") rfl B.bool PyProof.Rows.boot_bool rfl) aF))) (he:=aG _ _ _ rfl) (hpl:=aH rfl))))))) (aJ (aU (i:=1) sc_law_told.nd rfl (Or.inl rfl) (aQ (AI2 (K:=K) rfl (pv 2) rfl)) (by kernel_rfl))) aT)) aT))))) (he:=aG _ _ _ rfl) (hpl:=aH rfl))) (aJ (aZ (aQ (pv 1))))))),?_⟩
 nofun
 refine ⟨x,rfl,?_⟩
 rcases hx with ⟨ls,rfl,hk,⟨rfl,ha⟩ | ⟨k,rfl,hf⟩⟩ | ⟨rfl,rfl⟩ | ⟨hx,rfl⟩
 ·exact .inr (.inl ⟨ls,rfl,hk,.inl ⟨ha,fun v H1 S1=>q _ S1⟩⟩)
 ·refine .inr (.inl ⟨ls,rfl,hk,.inr ⟨k,hf,fun y H1 S1 e1=>?_⟩⟩)
  refine ⟨B.exm_NoText,fun ex hex=>?_⟩
  have S2:=aE hex (fH ex (.ref a.NoText) (some y))
  have eX:upd H1 ex (fH ex (.ref a.NoText) (some y)) ex=some (fH ex (.ref a.NoText) (some y)):=aC
  generalize upd H1 ex (fH ex (.ref a.NoText) (some y))=H2 at *
  nofun
  refine ⟨ex,_,_,true,a.NoText,rfl,rfl,B.excK_NoText,⟨_,eX⟩,B.isT,?_⟩
  nofun
  refine ⟨ex,_,_,true,a.NoText,rfl,rfl,B.excK_NoText,⟨_,eX⟩,B.isV,?_⟩
  nofun
  refine ⟨sz8 (by decide),fun p1 h1=>?_⟩
  have S3:=aE h1 (.tup [.ref a.NoHappening,.ref a.NoRow,.ref a.NoWish,.ref a.NoBook,.ref a.NoTime])
  refine ⟨ex,p1,[a.NoHappening,a.NoRow,a.NoWish,a.NoBook,a.NoTime],false,a.NoText,rfl,B.excK_NoText,⟨_,S3 _ _ eX⟩,aC,B.any1,?_⟩
  generalize upd H2 p1 (.tup [.ref a.NoHappening,.ref a.NoRow,.ref a.NoWish,.ref a.NoBook,.ref a.NoTime])=H3 at *
  have e4:=S3 _ _ eX
  have d4:=S3 _ _ (S2 _ _ e1)
  exists Bool.not_false
  refine ⟨_,_,e4,_,d4,B.excK_NoText,B.xhd,B.xna,_,rfl,?_⟩
  refine ⟨_,_,false,rfl,.int _,by kernel_rfl,?_⟩
  exists Bool.not_false
  refine ⟨_,_,e4,_,d4,B.excK_NoText,B.xhd,B.xna,_,rfl,?_⟩
  nofun
  exact q _ (S1.trans (S2.trans S3))
 ·exact .inl ⟨rfl,fun v H1 S1=>q _ S1⟩
 ·refine .inr (.inr ⟨hx,fun y H1 S1 e1=>?_⟩)
  refine ⟨B.exm_NoText,fun ex hex=>?_⟩
  have S2:=aE hex (fH ex (.ref a.NoText) (some y))
  have eX:upd H1 ex (fH ex (.ref a.NoText) (some y)) ex=some (fH ex (.ref a.NoText) (some y)):=aC
  generalize upd H1 ex (fH ex (.ref a.NoText) (some y))=H2 at *
  nofun
  refine ⟨ex,_,_,true,a.NoText,rfl,rfl,B.excK_NoText,⟨_,eX⟩,B.isT,?_⟩
  nofun
  refine ⟨ex,_,_,true,a.NoText,rfl,rfl,B.excK_NoText,⟨_,eX⟩,B.isV,?_⟩
  nofun
  refine ⟨sz8 (by decide),fun p1 h1=>?_⟩
  have S3:=aE h1 (.tup [.ref a.NoHappening,.ref a.NoRow,.ref a.NoWish,.ref a.NoBook,.ref a.NoTime])
  refine ⟨ex,p1,[a.NoHappening,a.NoRow,a.NoWish,a.NoBook,a.NoTime],false,a.NoText,rfl,B.excK_NoText,⟨_,S3 _ _ eX⟩,aC,B.any1,?_⟩
  generalize upd H2 p1 (.tup [.ref a.NoHappening,.ref a.NoRow,.ref a.NoWish,.ref a.NoBook,.ref a.NoTime])=H3 at *
  have e4:=S3 _ _ eX
  have d4:=S3 _ _ (S2 _ _ e1)
  exists Bool.not_false
  refine ⟨_,_,e4,_,d4,B.excK_NoText,B.xhd,B.xna,_,rfl,?_⟩
  refine ⟨_,_,false,rfl,.int _,by kernel_rfl,?_⟩
  exists Bool.not_false
  refine ⟨_,_,e4,_,d4,B.excK_NoText,B.xhd,B.xna,_,rfl,?_⟩
  nofun
  exact q _ (S1.trans (S2.trans S3))
theorem zF (ns:List Int)(lo hi:Option Int):∃ ms:List Int,AQ6 (ns.map V.int) lo hi=ms.map V.int∧ms.length≤ns.length:=by
 unfold AQ6
 rw [List.length_map,← List.map_drop,← List.map_take]
 exact ⟨_,rfl,by rw [List.length_take,List.length_drop]; omega⟩
theorem lU {u:Str}(h:mQ u=true):vL u=true∧jU u=true∧u≠"":=by
 unfold mQ at h
 rw [Bool.and_eq_true,Bool.and_eq_true] at h
 exact ⟨h.1,h.2.1,by simpa using h.2.2⟩
theorem vU {u:Str}(h:AO9 u=true):vL u=true∧jU u=false:=by
 unfold AO9 at h
 rw [Bool.and_eq_true] at h
 exact ⟨h.1,by simpa using h.2⟩
theorem AK5 {s:Str}:∀ {ts:List Str}{x:Str},x∈ts→x.length≤(Str.join s ts).length
 | [],x,h=>by cases h
 | [a],x,h=>by rw [List.mem_singleton.mp h]; exact Nat.le_refl _
 | a::b::r,x,h=>by
  show x.length≤(a++s++Str.join s (b::r)).length
  rw [Str.length_append,Str.length_append]
  rcases List.mem_cons.mp h with rfl | h
  ·omega
  ·have:=AK5 (s:=s) h
   omega
theorem AP6 {u:Str}(h:u.length=0):u="":=lF (by
 have e:u.cps.toList.length=0:=by simpa [Str.length] using h
 rw [List.eq_nil_of_length_eq_zero e]
 rfl)
theorem xU {ls:List Str}{u:Str}(h:u∈ls)(hu:u≠""):Str.join nl1 ls≠"":=fun z=>hu (AP6 (by
 have:=AK5 (s:=nl1) h
 rw [z] at this
 exact Nat.le_zero.mp this))
theorem AP7:∀ {ls:List Str},2≤ls.length→Str.join nl1 ls≠""
 | [],h=>absurd h (by decide)
 | [_],h=>by simp at h
 | a::b::r,_=>fun z=>by
  have e:(a++nl1++Str.join nl1 (b::r)).length=0:=by
   have z':a++nl1++Str.join nl1 (b::r)="":=z
   rw [z']
   rfl
  rw [Str.length_append,Str.length_append] at e
  have:nl1.length=1:=rfl
  omega
theorem AZ0 {ls:List Str}(hn:ls≠[])(hl:ls.length≤100)(h:∀ u∈ls,mQ u=true):AS2 ls:=by
 refine ⟨hn,?_,hl,fun u hu=>(lU (h u hu)).1⟩
 cases ls with
 | nil=>exact absurd rfl hn
 | cons a r=>exact xU List.mem_cons_self (lU (h a List.mem_cons_self)).2.2
theorem vV {K:Frag}{H:Hp}{ls:List Str}(hl:ls.length≤100)(h:∀ u∈ls,mQ u=true):BE2 K H (.str (Str.join nl1 ls)) (-1):=by
 by_cases hn:ls=[]
 ·subst hn
  exact .inr (.inl ⟨rfl,rfl⟩)
 ·exact .inl ⟨ls,rfl,AZ0 hn hl h,.inl ⟨rfl,fun u hu=>(lU (h u hu)).2.1⟩⟩
theorem xV {K:Frag}{H:Hp}{ls:List Str}{k:Nat}(hb:AS2 ls)(h:AS3 ls k):BE2 K H (.str (Str.join nl1 ls)) (k:Nat):=.inl ⟨ls,rfl,hb,.inr ⟨k,rfl,h⟩⟩
theorem AP8 {ls:List Str}(hn:ls≠[]):Str.join nl1 ls++("\n":Str)=Str.join nl1 (ls++[("":Str)]):=by
 rw [yZ (c:=10) hn (by simp)]
 apply lF
 rw [iH,iH,iH]
 show _=_++[10]++[]
 rw [List.append_nil]
 rfl
theorem zZ:∀ {ls:List Str},ls≠[]→("\n":Str)++Str.join nl1 ls=Str.join nl1 (("":Str)::ls)
 | [],h=>absurd rfl h
 | a::r,_=>by
  show _=("":Str)++nl1++Str.join nl1 (a::r)
  apply lF
  rw [iH,iH,iH]
  rfl
theorem uF {ts:List Str}{i:Nat}{u:Str}(hi:i < ts.length)(j:Nat):(ts.set i u).getD j ""=if j=i then u else ts.getD j "":=by
 rw [List.getD_eq_getElem?_getD,List.getElem?_set]
 by_cases c:i=j
 ·rw [if_pos c,if_pos hi,if_pos c.symm]
  rfl
 ·rw [if_neg c,if_neg (fun z=>c z.symm),List.getD_eq_getElem?_getD]
theorem AK6 {ts:List Str}{j:Nat}(h:j < ts.length):ts.getD j ""∈ts:=by
 rw [List.getD_eq_getElem?_getD,List.getElem?_eq_getElem h]
 exact List.getElem_mem h
theorem AK7 {ts:List Str}{i:Nat}{u:Str}(h:∀ x∈ts,vL x=true)(hu:vL u=true):∀ x∈ts.set i u,vL x=true:=fun x hx=>by
 rcases List.mem_or_eq_of_mem_set hx with z | z
 ·exact h x z
 ·rw [z]; exact hu
theorem AK8 {ts:List Str}{i:Nat}{u:Str}(hg:∀ x∈ts,mQ x=true)(hi:i < ts.length)(hu:AO9 u=true):AS3 (ts.set i u) i∧∀ j,j < ts.length→j≠i→jU ((ts.set i u).getD j "")=true:=by
 have h2:∀ j,j < ts.length→j≠i→jU ((ts.set i u).getD j "")=true:=fun j hj n=>by
  rw [uF hi,if_neg n]
  exact (lU (hg _ (AK6 hj))).2.1
 refine ⟨⟨by rw [List.length_set]; exact hi,fun j hj=>h2 j (by omega) (by omega),?_⟩,h2⟩
 rw [uF hi,if_pos rfl]
 exact (vU hu).2
theorem AZ1 {ts:List Str}{i o:Nat}{u v:Str}(hg:∀ x∈ts,mQ x=true)(hi:i < ts.length)(ho:o < ts.length)(hu:AO9 u=true)(hv:AO9 v=true):AS3 ((ts.set i u).set o v) (min i o):=by
 obtain ⟨f,g⟩:=AK8 hg hi hu
 have ho':o < (ts.set i u).length:=by rw [List.length_set]; exact ho
 refine ⟨by rw [List.length_set,List.length_set]; omega,fun j hj=>?_,?_⟩
 ·rw [uF ho',if_neg (by omega)]
  exact g j (by omega) (by omega)
 ·rw [uF ho']
  by_cases c:min i o=o
  ·rw [if_pos c]
   exact (vU hv).2
  ·rw [if_neg c,show min i o=i by omega]
   exact f.2.2
theorem AZ2 {ls:List Str}(h:∀ u∈ls,mQ u=true):AS3 (ls++[("":Str)]) ls.length:=by
 refine ⟨by rw [List.length_append,List.length_singleton]; omega,fun j hj=>?_,?_⟩
 ·rw [List.getD_eq_getElem?_getD,List.getElem?_append_left hj,← List.getD_eq_getElem?_getD]
  exact (lU (h _ (AK6 hj))).2.1
 ·rw [List.getD_eq_getElem?_getD,List.getElem?_append_right (Nat.le_refl _),Nat.sub_self]
  show jU ""=false
  decide +kernel
theorem AK9 {ls:List Str}:AS3 (("":Str)::ls) 0:=⟨by rw [List.length_cons]; omega,fun j hj=>absurd hj (Nat.not_lt_zero _),by show jU ""=false; decide +kernel⟩
theorem vW:vL ""=true:=by decide +kernel
theorem gX {H H1 H2:Hp}{w:Addr}(S:Same H H1)(hn:H w=none)(B:But w H1 H2):Same H H2:=fun b o e=>B b o (aR e hn) (S b o e)
theorem rE {H H1:Hp}{w:Addr}{o':HO}(S:Same H H1)(hn:H w=none):Same H (upd H1 w o'):=fun b o e=>by rw [aI (aR e hn)]; exact S b o e
theorem jok {ls:List Str}(hl:ls.length≤100)(h:∀ u∈ls,vL u=true):JoinOk nl1 ls=true:=AI9 (Nat.le_trans (AK4 (k:=1000) (fun x hx=>(AJ5 (h x hx)).1) (by omega) (by decide)) (by decide))
theorem BN5 {ls:List Str}(hl:ls.length≤100)(h:∀ u∈ls,vL u=true):(Str.join nl1 ls).length≤200000:=by
 have h1:=StrLaws.join_length_le nl1 ls
 have h2:=zB (k:=1000) (ws:=ls) fun x hx=>(AJ5 (h x hx)).1
 have e:nl1.length=1:=rfl
 rw [e] at h1
 omega
def L1I (H:Hp)(sc l p:Addr)(ms:List Int)(i:Nat)(σ:L2.St)(H1:Hp):Prop:=∃ (ls:List Str) (s2 s3 s4 s5 s6 s7 s8:Option V),σ=[some (.ref sc),some (.ref l),s2,s3,s4,s5,s6,s7,s8]∧Same H H1∧H l=none∧H1 l=some (.lst (ls.map V.str))∧ls.length≤i∧(∀ u∈ls,mQ u=true)∧H1 p=some (.lst (ms.map V.int))∧p≠l
def L2I (sc l lp:Addr)(ls:List Str)(xs:List V)(σ:L2.St)(H1:Hp):Prop:=(∃ s2 s3 s4 s5 s6 s7 s8:Option V,σ=[some (.ref sc),some (.ref l),s2,s3,s4,s5,s6,s7,s8])∧H1 l=some (.lst (ls.map V.str))∧H1 lp=some (.lst xs)
def C5 (G:Hp)(sc l pw ps:Addr)(c:V)(ls:List Str)(σ:L2.St)(H:Hp):Prop:=∃ (ts:List Str) (k:Nat) (s6 s7 s8:Option V),σ=[some (.ref sc),some (.ref l),some c,some (.ref pw),some (.ref ps),some (.int (k:Nat)),s6,s7,s8]∧Same G H∧Well3 H pw∧H ps=some (.lst (ts.map V.str))∧ts.length=ls.length+1∧(∀ u∈ts,vL u=true)∧AS3 ts k
def C7 (G:Hp)(sc l pw:Addr)(c:V)(σ:L2.St)(H:Hp):Prop:=∃ (s4 s5 s6 s7 s8:Option V),σ=[some (.ref sc),some (.ref l),some c,some (.ref pw),s4,s5,s6,s7,s8]∧Same G H∧Well3 H pw
theorem BE5 (B:Bt K mg a)(dY:CalX P w K mg base "_law_told" ["_law_text"] 17 (qZ K a))(jO:CalX P w K mg base "_law_begin" ["_law_cell"] 1 (pD K a))(cR:CalX P w K mg base "_law_next" ["_law_state","_law_base"] 1 (gW K a))(nL:CalX P w K mg base "_law_bad" ["_law_state"] 2 (sT K a))(oT:CalX P w K mg base "_law_good" ["_law_state"] 2 (qY K a))(jP:CalX P w K mg base "_law_cell_at" ["_law_script","_law_k"] 1 (kY K a))(F:Fun K "law" "law" tX f fd):FnOk P w K mg base CX0 18 f fd ["_law_script"] (AK0 K a):=by
 refine F.ok sc_law (by walk_at "ln") fun cdv A outer s H vs Q E hr h=>?_
 obtain ⟨sc,ns,rfl,hS,h63,q⟩:=h
 refine BJ9 ⟨_,(aB (aU (i:=1) sc_law.nd rfl (Or.inl rfl) (mK aF) (by kernel_rfl)) (bG (aB (bN (AB5 PassesOwn.never rfl (sX (pS wI (pv 0) (lA aW) (lA aW))) (jV (i:=2) sc_law.nd rfl (Or.inl rfl)) (aY (aJ (bN (cY (lB PySem.F.plainAttrs_list PySem.F.slot_list_append PySem.F.type_list_append gP (pv 1) (aK (aS (pc oT hr rfl (aK (aS (pc jO hr rfl (aK (aS (pv 2) aF))) aF))) aF))))))))) (bG (aB (bM (bC nW (pc dY hr rfl (aK (aS (lB PySem.F.plainAttrs_str PySem.F.slot_str_join PySem.F.type_str_join tL bE (aK (aS (pv 1) aF))) aF))) (AM1 yE aW) (bF _)) (aJ (aZ (aQ nV))) aT) (bG (aB (bN (AB5 PassesOwn.never rfl (sX (dJ eQ (pA (aK (aS aW (aS (pc jP hr rfl (aK (aS (pv 0) (aS aW aF)))) aF)))) (pS wI (pv 0) (lA aW) (lA aW)))) (jV (i:=2) sc_law.nd rfl (Or.inl rfl)) (aY (aB (aU (i:=3) sc_law.nd rfl (Or.inl rfl) (aQ (pc jO hr rfl (aK (aS (pv 2) aF)))) (by kernel_rfl)) (bG (aB (aU (i:=4) sc_law.nd rfl (Or.inl rfl) (jY eQ (aQ (gN hU rfl B.list PyProof.Rows.boot_list (aK (aS (pv 1) aF)))) (mK (aS bE aF))) (by kernel_rfl)) (bG (aB (aU (i:=5) sc_law.nd rfl (Or.inl rfl) (aQ (pc cR hr rfl (aK (aS (pv 3) (aS (aV bI rfl B.len PySem.boot_len (aK (aS (pv 4) aF))) aF))))) (by kernel_rfl)) (bG (aB (aU (i:=6) sc_law.nd rfl (Or.inl rfl) (aQ (pc cR hr rfl (aK (aS (pv 3) (aS (aV bI rfl B.len PySem.boot_len (aK (aS (pv 4) aF))) aF))))) (by kernel_rfl)) (bG (aB (bN (yD (pc nL hr rfl (aK (aS (pv 3) aF))) (yC (pv 4) (pv 5) pT))) (bG (AH0 (bM (bC iQ (pc cR hr rfl (aK (aS (pv 3) (aS aW aF)))) aW (bF _)) (aB (bN (yD (pc nL hr rfl (aK (aS (pv 3) aF))) (yC (pv 4) (pv 6) pT))) (aJ (aU (i:=5) sc_law.nd rfl (Or.inl rfl) (aQ (aV (AB9 rfl) rfl B.min PyProof.Rows.boot_min (aK (aS (pv 5) (aS (pv 6) aF))) (he:=aG _ _ _ rfl) (hpl:=aH rfl))) (by kernel_rfl)))) aT) (bG (aB (aU (i:=7) sc_law.nd rfl (Or.inl rfl) (aQ (lB PySem.F.plainAttrs_str PySem.F.slot_str_join PySem.F.type_str_join tL bE (aK (aS (pv 4) aF)))) (by kernel_rfl)) (bG (AH0 (bM (L2.PW.pt (kZ (bC zH (aV bI rfl B.len PySem.boot_len (aK (aS (pv 4) aF))) aW (bF _)) (iO (bC nW (pv 7) bE (bF _))))) (aJ (bM (L2.PW.pt (kZ (bC nW (pc dY hr rfl (aK (aS (pv 7) aF))) (pv 5) (bF _)) (iO (bC nW (pc dY hr rfl (aK (aS (pv 7) aF))) (pv 5) (bF _))))) (aJ (aZ (aQ nV))) aT)) aT) (bG (aB (aU (i:=8) sc_law.nd rfl (Or.inl rfl) (aQ (lB PySem.F.plainAttrs_str PySem.F.slot_str_join PySem.F.type_str_join tL bE (aK (aS (dJ eQ (pv 1) (pA (aK (aS bE aF)))) aF)))) (by kernel_rfl)) (bG (aB (bM (L2.PW.pt (kZ (bC nW (pc dY hr rfl (aK (aS (dJ nX (pv 8) bE) aF))) (dJ qA (aV bI rfl B.len PySem.boot_len (aK (aS (pv 1) aF))) aW) (bF _)) (iO (bC nW (pc dY hr rfl (aK (aS (dJ nX bE (pv 8)) aF))) aW (bF _))))) (aJ (aZ (aQ nV))) aT) (bG (aJ (bM (L2.PW.pt (kZ (bC nW (pc dY hr rfl (aK (aS (mG gO (pA (aK (aS uO (aS aW (aS nV (aS (pA (aK (aS (pv 8) aF))) (aS (hG (aK (aS (pv 8) aF))) (aS AG9 aF)))))))) (pc cR hr rfl (aK (aS (pv 3) (aS aW aF)))) (fun _ _=>rfl)) aF))) aW (bF _)) (iO (bC nW (pc dY hr rfl (aK (aS (pv 8) aF))) (AM1 yE aW) (bF _))))) (aJ (aZ (aQ nV))) aT))))))))))))))))))))))))) (bG (aJ (aZ (aQ nV))))))))))),?_⟩
 nofun
 refine ⟨Nat.zero_le _,fun l hl=>?_⟩
 have S0:=aE hl (.lst [])
 walk_at "ho"
 nofun
 refine ⟨sc,_,rfl,S0.seq hS,fun p hp=>?_⟩
 obtain ⟨ms,em,lm⟩:=zF ns (some 1) (some 11)
 rw [em]
 have S1:=aE hp (.lst (ms.map V.int))
 have npl:p≠l:=fun z=>by rw [z,aC] at hp; cases hp
 refine ⟨p,rfl,⟨_,SqL.of aC⟩,?_⟩
 refine ForL.by (xs:=ms.map V.int) (L1I H sc l p ms) ⟨[],_,_,_,_,_,_,_,rfl,S0.trans S1,hl,S1 _ _ aC,Nat.zero_le _,(fun u hu=>by cases hu),aC,npl⟩ (fun i σ H1 _ h=>by obtain ⟨_,_,_,_,_,_,_,_,_,_,_,_,_,_,h,_⟩:=h; exact SqL.of h) ?_ ?_
 ·rintro i x σ H1 hx ⟨ls,s2,s3,s4,s5,s6,s7,s8,rfl,SH,fl,e1,l1,g1,ep,npl⟩
  have il:i < ms.length:=by rw [← List.length_map (f:=V.int) (as:=ms)]; exact (List.getElem?_eq_some_iff.mp hx).1
  obtain ⟨c,rfl⟩:=BC0 hx
  nofun
  refine ⟨.inl ⟨rfl,_,SqL.of e1⟩,c,rfl,fun pw wa wb wc hpw=>?_⟩
  have W0:Well3 (upd H1 pw (.lst [.int wa,.int wb,.int wc])) pw:=⟨_,_,_,aC⟩
  have T1:=aE hpw (.lst [.int wa,.int wb,.int wc])
  have nlw:l≠pw:=aR e1 hpw
  have npw:p≠pw:=aR ep hpw
  refine ⟨pw,rfl,W0,fun u H3 gu W3 B3=>?_⟩
  have e3:=B3 _ _ nlw (T1 _ _ e1)
  have ep3:=B3 _ _ npw (T1 _ _ ep)
  have S3:=gX (SH.trans T1) (SH.free hpw) B3
  refine ⟨l,_,_,rfl,rfl,e3,Nat.lt_of_le_of_lt (show (ls.map V.str).length≤1000 by rw [List.length_map]; omega) (by decide),?_⟩
  refine ⟨ls++[u],_,_,_,_,_,_,_,rfl,rE S3 fl,fl,by rw [aC,List.map_append]; rfl,by rw [List.length_append,List.length_singleton]; omega,fun v hv=>?_,by rw [aI npl]; exact ep3,npl⟩
  rcases List.mem_append.mp hv with z | z
  ·exact g1 v z
  ·rw [List.mem_singleton.mp z]; exact gu
 rintro σ H1 ⟨ls,s2,s3,s4,s5,s6,s7,s8,rfl,SH,fl,e1,l1,g1,_,_⟩
 rw [List.length_map] at l1
 have l63:ls.length≤63:=by omega
 have lo:∀ u∈ls,vL u=true:=fun u hu=>(lU (g1 u hu)).1
 walk_at "ho"
 nofun
 refine ⟨nl1,l,ls,rfl,rfl,e1,jok (by omega) lo,?_⟩
 rw [AP2]
 refine ⟨_,-1,rfl,vV (by omega) g1,fun H2 S2=>?_⟩
 nofun
 first | rw [if_neg (fun z=>z trivial)] | rw [if_neg (fun z=>z rfl)] | skip
 have SH2:=SH.trans S2
 have e2:=S2 _ _ e1
 clear S2 e1 SH
 walk_at "ho"
 nofun
 refine ⟨sc,ns,0,rfl,SH2.seq hS,by decide,fun c0=>?_⟩
 refine ⟨sz8 (by first | decide | (simp only [List.length_cons,List.length_nil]; decide)),fun q1 hq1=>?_⟩
 have T1:=aE hq1 (.lst [.int 0,.int c0])
 refine ⟨sc,_,rfl,(SH2.trans T1).seq hS,fun q2 hq2=>?_⟩
 obtain ⟨ks,ek,lk⟩:=zF ns (some 11) (some 20)
 rw [ek]
 have T2:=aE hq2 (.lst (ks.map V.int))
 refine ⟨q1,q2,_,_,rfl,rfl,T2 _ _ aC,aC,sz8 (by simp only [List.length_cons,List.length_nil,List.length_map]; omega),fun lp hlp=>?_⟩
 have T3:=aE hlp (.lst ([.int 0,.int c0]++ks.map V.int))
 have nll:l≠lp:=aR (T2 _ _ (T1 _ _ e2)) hlp
 refine ⟨lp,rfl,⟨_,SqL.of aC⟩,?_⟩
 have xi:∀ x∈([.int 0,.int c0]++ks.map V.int:List V),∃ c,x=.int c:=fun x hx=>by
  rcases List.mem_append.mp hx with z | z
  ·rcases List.mem_cons.mp z with z | z
   ·exact ⟨_,z⟩
   ·exact ⟨_,List.mem_singleton.mp z⟩
  ·obtain ⟨c,_,rfl⟩:=List.mem_map.mp z
   exact ⟨c,rfl⟩
 refine ForL.by (xs:=[.int 0,.int c0]++ks.map V.int) (fun _=>L2I sc l lp ls ([.int 0,.int c0]++ks.map V.int)) ⟨⟨_,_,_,_,_,_,_,rfl⟩,T3 _ _ (T2 _ _ (T1 _ _ e2)),aC⟩ (fun i σ H1 _ h=>SqL.of h.2.2) ?_ ?_
 ·rintro i x σ G hx ⟨⟨s2,s3,s4,s5,s6,s7,s8,rfl⟩,eG,eP⟩
  obtain ⟨c,rfl⟩:=xi x (List.mem_of_getElem? hx)
  generalize ([.int 0,.int c0]++ks.map V.int:List V)=xs at *
  clear xi hx T1 T2 T3 hq1 hq2 hlp
  nofun
  refine ⟨c,rfl,fun pw wa wb wc hpw=>?_⟩
  have W1:Well3 (upd G pw (.lst [.int wa,.int wb,.int wc])) pw:=⟨_,_,_,aC⟩
  have S1:=aE hpw (.lst [.int wa,.int wb,.int wc])
  generalize upd G pw (.lst [.int wa,.int wb,.int wc])=H1 at *
  walk_at "ho"
  nofun
  refine ⟨_,.inl (SqL.of (S1 _ _ eG)),fun p1 hp1=>?_⟩
  have T1:=aE hp1 (.lst (ls.map V.str))
  refine ⟨sz8 (by decide),fun p2 hp2=>?_⟩
  have T2:=aE hp2 (.lst [.str "go 7"])
  refine ⟨p1,p2,_,_,rfl,rfl,T2 _ _ aC,aC,sz8 (by rw [List.length_map]; simp only [List.length_cons,List.length_nil]; omega),fun ps hps=>?_⟩
  rw [show ls.map V.str++[V.str "go 7"]=(ls++[("go 7":Str)]).map V.str by rw [List.map_append]; rfl]
  have T3:=aE hps (.lst ((ls++[("go 7":Str)]).map V.str))
  have eS:upd (upd (upd H1 p1 (.lst (ls.map V.str))) p2 (.lst [.str "go 7"])) ps (.lst ((ls++[("go 7":Str)]).map V.str)) ps=some (.lst ((ls++[("go 7":Str)]).map V.str)):=aC
  have fps:G ps=none:=(S1.trans (T1.trans T2)).free hps
  have nps:ps≠pw:=((W1.same T1).same T2).ne hps
  have S2:=S1.trans (T1.trans (T2.trans T3))
  have W2:=((W1.same T1).same T2).same T3
  generalize upd (upd (upd H1 p1 (.lst (ls.map V.str))) p2 (.lst [.str "go 7"])) ps (.lst ((ls++[("go 7":Str)]).map V.str))=H2 at *
  clear T1 T2 T3 hp1 hp2 hps S1 W1
  have gs:∀ u∈ls++[("go 7":Str)],mQ u=true:=fun u hu=>by
   rcases List.mem_append.mp hu with z | z
   ·exact g1 u z
   ·rw [List.mem_singleton.mp z]; exact go7
  have lgs:(ls++[("go 7":Str)]).length=ls.length+1:=by rw [List.length_append]; rfl
  have los:∀ u∈ls++[("go 7":Str)],vL u=true:=fun u hu=>(lU (gs u hu)).1
  walk_at "ho"
  nofun
  refine ⟨_,.inl (SqL.of eS),?_⟩
  rw [List.length_map,lgs]
  refine AZ5 W2 (by omega) (by omega) fun at_ H3 a0 a1 W3 B3=>?_
  have eS3:=B3 _ _ nps eS
  have S3:=gX S2 hpw B3
  clear B3 S2 W2 eS
  nofun
  walk_at "ho"
  nofun
  refine ⟨_,.inl (SqL.of eS3),?_⟩
  rw [List.length_map,lgs]
  refine AZ5 W3 (by omega) (by omega) fun ot H4 o0 o1 W4 B4=>?_
  have eS4:=B4 _ _ nps eS3
  have S4:=gX S3 hpw B4
  clear B4 S3 W3 eS3
  nofun
  walk_at "ho"
  nofun
  refine ⟨pw,rfl,W4,fun u1 H5 b1 W5 B5=>?_⟩
  have eS5:=B5 _ _ nps eS4
  have S5:=gX S4 hpw B5
  clear B5 S4 W4 eS4
  obtain ⟨ai,rfl⟩:∃ n:Nat,at_=n:=⟨at_.toNat,by omega⟩
  obtain ⟨oi,rfl⟩:∃ n:Nat,ot=n:=⟨ot.toNat,by omega⟩
  have hai:ai < (ls++[("go 7":Str)]).length:=by omega
  have hoi:oi < (ls++[("go 7":Str)]).length:=by omega
  refine BF0 eS5 (j:=ai) (by unfold ixN; rw [if_pos (by omega),if_pos (by rw [List.length_map]; omega)]; rfl) ?_
  rw [← List.map_set]
  have S6:=rE (o':=.lst (((ls++[("go 7":Str)]).set ai u1).map V.str)) S5 fps
  have W6:Well3 (upd H5 ps (.lst (((ls++[("go 7":Str)]).set ai u1).map V.str))) pw:=by
   obtain ⟨x,y,z,e⟩:=W5
   exact ⟨x,y,z,by rw [aI (Ne.symm nps)]; exact e⟩
  have eS6:upd H5 ps (.lst (((ls++[("go 7":Str)]).set ai u1).map V.str)) ps=some (.lst (((ls++[("go 7":Str)]).set ai u1).map V.str)):=aC
  generalize upd H5 ps (.lst (((ls++[("go 7":Str)]).set ai u1).map V.str))=H6 at *
  clear W5 S5 eS5
  nofun
  walk_at "ho"
  nofun
  refine ⟨C5 G sc l pw ps (.int c) ls,?_,?_⟩
  ·refine AZ5 W6 (by decide) (by decide) fun r H7 r0 r1 W7 B7=>?_
   have eS7:=B7 _ _ nps eS6
   have S7:=gX S6 hpw B7
   nofun
   by_cases rz:r=0
   ·rw [if_pos rz]
    refine ⟨pw,rfl,W7,fun u2 H8 b2 W8 B8=>?_⟩
    have eS8:=B8 _ _ nps eS7
    have S8:=gX S7 hpw B8
    refine BF0 eS8 (j:=oi) (by unfold ixN; rw [if_pos (by omega),if_pos (by rw [List.length_map,List.length_set]; omega)]; rfl) ?_
    rw [← List.map_set]
    nofun
    have em:(if (oi:Int) < (ai:Int) then (oi:Int) else (ai:Int))=((min ai oi:Nat):Int):=by split <;> omega
    rw [em]
    refine ⟨((ls++[("go 7":Str)]).set ai u1).set oi u2,min ai oi,_,_,_,rfl,rE S8 fps,?_,aC,by rw [List.length_set,List.length_set]; exact lgs,AK7 (AK7 los (vU b1).1) (vU b2).1,AZ1 gs hai hoi b1 b2⟩
    obtain ⟨x,y,z,e⟩:=W8
    exact ⟨x,y,z,by rw [aI (Ne.symm nps)]; exact e⟩
   ·rw [if_neg rz]
    exact ⟨(ls++[("go 7":Str)]).set ai u1,ai,_,_,_,rfl,S7,W7,eS7,by rw [List.length_set]; exact lgs,AK7 los (vU b1).1,(AK8 gs hai b1).1⟩
  clear W6 S6 eS6 b1 u1 hai hoi a0 a1 o0 o1 H6 H5 H4 H3 H2 H1
  rintro σ H1 ⟨ts,k,s6,s7,s8,rfl,S1,W1,eS,lt,lok,hf⟩
  walk_at "ho"
  nofun
  refine ⟨nl1,ps,ts,rfl,rfl,eS,jok (by omega) lok,?_⟩
  rw [AP2]
  nofun
  walk_at "ho"
  nofun
  refine ⟨C7 G sc l pw (.int c),?_,?_⟩
  ·have told:Str.join nl1 ts≠""→∀ H:Hp,BE2 K H (.str (Str.join nl1 ts)) (k:Nat):=fun z H=>xV ⟨(fun z=>by rw [z,List.length_nil] at lt; omega),z,by omega,lok⟩ hf
   refine ⟨_,.inl (SqL.of eS),?_⟩
   rw [List.length_map]
   by_cases c1:(1:Int) < (ts.length:Nat)
   ·rw [if_pos c1]
    have z:=AP7 (ls:=ts) (by omega)
    refine ⟨_,_,rfl,told z _,fun H2 S2=>⟨rfl,?_⟩⟩
    rw [if_neg (fun y=>y rfl)]
    refine ⟨_,_,rfl,told z _,fun H3 S3=>⟨rfl,?_⟩⟩
    rw [if_neg (fun y=>y rfl)]
    exact ⟨_,_,_,_,_,rfl,S1.trans (S2.trans S3),W1.same (S2.trans S3)⟩
   ·rw [if_neg c1]
    by_cases z:Str.join nl1 ts=""
    ·rw [if_neg (fun y=>y z)]
     exact ⟨_,_,_,_,_,rfl,S1,W1⟩
    rw [if_pos z]
    refine ⟨_,_,rfl,told z _,fun H2 S2=>⟨rfl,?_⟩⟩
    rw [if_neg (fun y=>y rfl)]
    refine ⟨_,_,rfl,told z _,fun H3 S3=>⟨rfl,?_⟩⟩
    rw [if_neg (fun y=>y rfl)]
    exact ⟨_,_,_,_,_,rfl,S1.trans (S2.trans S3),W1.same (S2.trans S3)⟩
  clear S1 W1 eS lt lok hf
  rintro σ H1 ⟨s4,s5,s6,s7,s8,rfl,S1,W1⟩
  walk_at "ho"
  nofun
  refine ⟨sz8 (by decide),fun p2 hp2=>?_⟩
  have T2:=aE hp2 (.lst [.str "go 7"])
  refine ⟨l,p2,_,_,rfl,rfl,T2 _ _ (S1 _ _ eG),aC,sz8 (by rw [List.length_map]; simp only [List.length_cons,List.length_nil]; omega),fun p3 hp3=>?_⟩
  rw [show ls.map V.str++[V.str "go 7"]=(ls++[("go 7":Str)]).map V.str by rw [List.map_append]; rfl]
  have T3:=aE hp3 (.lst ((ls++[("go 7":Str)]).map V.str))
  refine ⟨nl1,p3,ls++[("go 7":Str)],rfl,rfl,aC,jok (by omega) los,?_⟩
  rw [AP2]
  have S2:=S1.trans (T2.trans T3)
  have W2:=(W1.same T2).same T3
  generalize upd (upd H1 p2 (.lst [.str "go 7"])) p3 (.lst ((ls++[("go 7":Str)]).map V.str))=H2 at *
  clear T2 T3 S1 W1 hp2 hp3
  have jl:=BN5 (by omega) los
  have m7:("go 7":Str)∈ls++[("go 7":Str)]:=by simp
  nofun
  walk_at "ho"
  nofun
  refine ⟨szM (by show _+1≤1000000; omega),?_⟩
  rw [AP8 (by simp)]
  have k1:AS2 ((ls++[("go 7":Str)])++[("":Str)]):=⟨by simp,xU (List.mem_append.mpr (.inl m7)) (by decide),by rw [List.length_append,List.length_singleton]; omega,fun u hu=>by
   rcases List.mem_append.mp hu with z | z
   ·exact los u z
   ·rw [List.mem_singleton.mp z]; exact vW⟩
  refine ⟨_,_,rfl,xV k1 (AZ2 gs),fun H3 S3=>?_⟩
  have S3':=S2.trans S3
  refine ⟨_,.inl (SqL.of (S3' _ _ eG)),?_⟩
  rw [List.length_map,lgs]
  nofun
  first | rw [if_neg (fun z=>z (by omega))] | rw [if_neg (fun z=>z trivial)] | rw [if_neg (fun z=>z (by push_cast; rfl))] | skip
  refine ⟨szM (by show 1+_≤1000000; omega),?_⟩
  rw [zZ (by simp)]
  have k2:AS2 (("":Str)::(ls++[("go 7":Str)])):=⟨by simp,xU (List.mem_cons_of_mem _ m7) (by decide),by rw [List.length_cons]; omega,fun u hu=>by
   rcases List.mem_cons.mp hu with z | z
   ·rw [z]; exact vW
   ·exact los u z⟩
  refine ⟨_,_,rfl,xV k2 AK9,fun H4 S4=>?_⟩
  nofun
  first | rw [if_neg (fun z=>z rfl)] | rw [if_neg (fun z=>z trivial)] | skip
  have S5:=S3'.trans S4
  have W5:=W2.same (S3.trans S4)
  clear S3' S4 S3 S2 W2 k1 k2
  walk_at "ho"
  nofun
  have tg:∀ H:Hp,BE2 K H (.str (Str.join nl1 (ls++[("go 7":Str)]))) (-1):=fun H=>vV (by omega) gs
  generalize Str.join nl1 (ls++[("go 7":Str)])=g at *
  refine ⟨sz8 (by decide),fun p4 h4=>⟨sz8 (by decide),fun p5 h5=>fun p6 h6=>⟨sz8 (by decide),fun p7 h7=>?_⟩⟩⟩
  have T4:=aE h4 (.lst [.str g])
  have T5:=aE h5 (.tup [.str g])
  have T6:=aE h6 (.dK [])
  have T7:=aE h7 (.lst [.non,.int 5,.bl true,.ref p4,.ref p5,.ref p6])
  have n4:p4≠pw:=W5.ne h4
  have n5:p5≠pw:=(W5.same T4).ne h5
  have n6:p6≠pw:=((W5.same T4).same T5).ne h6
  have n7:p7≠pw:=(((W5.same T4).same T5).same T6).ne h7
  have SS:=T4.trans (T5.trans (T6.trans T7))
  have e4:=T7 _ _ (T6 _ _ (T5 _ _ (aC (H:=H4) (a:=p4) (o:=.lst [.str g]))))
  have e5:=T7 _ _ (T6 _ _ (aC (H:=upd H4 p4 (.lst [.str g])) (a:=p5) (o:=.tup [.str g])))
  have e6:=T7 _ _ (aC (H:=upd (upd H4 p4 (.lst [.str g])) p5 (.tup [.str g])) (a:=p6) (o:=.dK []))
  have e7:=aC (H:=upd (upd (upd H4 p4 (.lst [.str g])) p5 (.tup [.str g])) p6 (.dK [])) (a:=p7) (o:=.lst [.non,.int 5,.bl true,.ref p4,.ref p5,.ref p6])
  have W6:=W5.same SS
  generalize upd (upd (upd (upd H4 p4 (.lst [.str g])) p5 (.tup [.str g])) p6 (.dK [])) p7 (.lst [.non,.int 5,.bl true,.ref p4,.ref p5,.ref p6])=H8 at *
  refine AZ5 W6 (by decide) (by decide) fun r H9 r0 r1 W9 B9=>?_
  have e4:=B9 _ _ n4 e4
  have e5:=B9 _ _ n5 e5
  have e6:=B9 _ _ n6 e6
  have e7:=B9 _ _ n7 e7
  obtain ⟨x,hx,ex⟩:=wP (xs:=[.non,.int 5,.bl true,.ref p4,.ref p5,.ref p6]) r0 r1
  refine ixl (SqL.of e7) ex ?_
  have okx:okK K (.type "str") H9 x false:=by
   simp only [List.mem_cons,List.not_mem_nil,or_false] at hx
   rcases hx with rfl | rfl | rfl | rfl | rfl | rfl
   ·exact ⟨_,.non,by kernel_rfl⟩
   ·exact ⟨_,.int _,by kernel_rfl⟩
   ·exact ⟨_,.bl _,by kernel_rfl⟩
   ·exact ⟨_,.lst e4,by kernel_rfl⟩
   ·exact ⟨_,.tup e5,by kernel_rfl⟩
   ·exact ⟨_,.dK e6,by kernel_rfl⟩
  refine ⟨_,0,rfl,.inr (.inr ⟨okx,rfl⟩),fun H10 S10=>⟨rfl,?_⟩⟩
  rw [if_neg (fun z=>z rfl)]
  refine ⟨_,-1,rfl,tg _,fun H11 S11=>?_⟩
  have SF:=(gX (S5.trans SS) hpw B9).trans (S10.trans S11)
  have fin:L2I sc l lp ls xs [some (.ref sc),some (.ref l),some (.int c),some (.ref pw),s4,s5,s6,s7,some (.str g)] H11:=⟨⟨_,_,_,_,_,_,_,rfl⟩,SF _ _ eG,SF _ _ eP⟩
  first
   | exact ⟨rfl,by rw [if_neg (fun z=>z rfl)]; exact fin⟩
   | (nofun; rw [if_neg (fun z=>z trivial)]; exact fin)
   | (nofun; exact fin)
   | trace_state
 ·rintro σ H1 ⟨⟨s2,s3,s4,s5,s6,s7,s8,rfl⟩,_,_⟩
  try walk_at "ho"
  nofun
  exact q _
end
end Bw
namespace Hd
open PySem PySem.W L2
set_option maxRecDepth 100000
set_option maxHeartbeats 0
class AT where
 p:Program
 a:List (List Str)
 t:List String
class CP where
 P:Params
section
variable [A:AT]
noncomputable def s (i:Nat):Str:=(A.a.getD (i/16) []).getD (i%16) Str.empty
noncomputable def t (i:Nat):String:=A.t.getD i ""
noncomputable def stm (i:Nat):Stmt:=A.p.main.body.getD i (.Pass ⟨0,0,0,0⟩)
noncomputable abbrev N:Obj→BT→BT→BT:=BT.node
noncomputable abbrev L:BT:=BT.nil
open PyData
noncomputable section
variable [c:CP]
noncomputable def ob (i:Nat)(x:Array Value):Obj:=Obj.mk (.type (t i)) none (.fields x) #[]
noncomputable def sq (i:Nat)(x:Array Value):Obj:=Obj.mk (.type (t i)) none (.seq x 0) #[]
noncomputable def fo (i n q:Nat)(x:Stmt)(k:Nat)(g:List Addr)(d e y:Value)(v:Nat)(u:Tok)(z:Addr):Obj:=Obj.mk (.type (t i)) none (.func (FuncData.mk (s n) (s q) (aP x) (FuncBody.stmts (aL x)) (aA x) k [] d e y (.str (s v) u) none (.ref z) .none 0)) #[]
noncomputable abbrev f (n:Nat)(k:Tok):Value:=.str (s n) k
noncomputable abbrev r (n:Addr):Value:=.ref n
noncomputable abbrev j (n:Int)(k:Tok):Value:=.int n k
noncomputable def d (i:Nat)(k:Tok)(v:Value):DictEntry:=DictEntry.mk (keyHash c.P (s i)) (f i k) v
noncomputable def di (x:Array DictEntry)(n:Nat):Obj:=Obj.mk (.type (t 12)) none (.dict x n) #[]
noncomputable def fn (n q:Nat)(x:Stmt):Obj:=Obj.mk .none none (.func (FuncData.mk (s n) (s q) (aP x) (FuncBody.stmts (aL x)) (aA x) 0 [] .none .none .none .none none .none .none 0)) #[]
noncomputable def fd (x:Array Value):Obj:=Obj.mk .none none (.fields x) #[]
noncomputable abbrev i (n:Int):Value:=.int n 0
noncomputable abbrev u:Value:=.none
noncomputable abbrev T (n:Nat):Value:=.type (t n)
noncomputable abbrev bi (n:Nat):Value:=.builtin (t n)
noncomputable def co (a b c d e f1 f2 f3 f4 f5 g:Nat)(w:Bool)(k:Nat)(x1 x2 x3 x4:Value)(y z v:Nat):Obj:=ob 1 #[f a b,f c d,f 3 e,i f1,i f2,i f3,i f4,i f5,r g,.bool w,i 181,r k,x1,x2,x3,x4,i y,i z,f 3 v]
def o00:=sq 0 #[]
def o01:=fd #[]
def o02:=co 267 182 267 183 184 1 0 0 0 0 11 false 12 u u u u 185 1 186
def o03:=(Obj.mk (.type (t 20)) none .plain #[some (r 13),some (r 3),some (r 3),none,some (f 128 164),none,some (r 0)])
def o04:=di #[d 9 165 (f 10 204),d 11 166 .none,d 12 167 .none,d 13 168 (bi 13),d 14 169 .none,d 15 170 (r 6),d 16 171 (r 4),d 17 173 (f 3 172),d 18 174 .none,d 19 193 (r 21),d 20 195 (f 21 194),d 22 197 (f 23 196),d 24 199 (f 25 198),d 26 201 (f 27 200),d 28 203 (f 29 202),d 7 223 (r 31)] 16
def o05:=fd #[i 1,i 0,r 20,i 10,i 0,r 27]
def o06:=sq 0 #[f 252 190]
def o07:=fn 19 19 (stm 0)
def o08:=co 19 187 19 188 189 1 1 0 0 3 15 true 16 u (r 17) (r 18) (r 19) 191 1 192
def o09:=fo 16 19 19 (stm 0) 3 [] .none .none .none 128 164 20
def o0a:=sq 0 #[T 3]
def o0b:=ob 10 #[bi 17,T 2]
def o0c:=di #[d 54 213 (f 10 204),d 130 215 (f 7 214),d 56 217 (j 10 216),d 59 218 (r 29)] 4
def o0d:=co 7 208 7 209 210 10 0 0 0 0 25 false 26 u u u u 211 10 212
def o0e:=(Obj.mk (.type (t 20)) none .plain #[some (r 27),some (r 3),some (r 24),none,some (f 10 204),none,some (r 0)])
def o0f:=di #[d 54 213 (f 10 204),d 56 217 (j 10 216),d 59 218 (r 29),d 5 220 (r 32),d 11 221 .none] 3
def o0g:=(Obj.mk (.type (t 2)) none (.cls (ClassData.mk (s 7) [(T 3)] [(r 31),(T 3),(T 4),(T 5),(T 6)] 30 (s 7) true [] [] false none false)) #[some (r 22),none,some (f 7 206),some (f 7 214),some (bi 7),some (.bool true)])
def o0h:=ob 8 #[f 5 219,r 31,bi 9,u]
def o0i:=ob 19 #[r 31,r 31,r 31]
def o0j:=ob 10 #[bi 11,r 31]
def o0k:=di #[d 9 165 (f 10 204),d 11 166 .none,d 12 167 .none,d 13 168 (bi 13),d 14 169 .none,d 15 170 (r 6),d 16 171 (r 4),d 17 173 (f 3 172),d 18 174 .none,d 19 193 (r 21),d 20 195 (f 21 194),d 22 197 (f 23 196),d 24 199 (f 25 198),d 26 201 (f 27 200),d 28 203 (f 29 202),d 7 223 (r 31),d 30 239 (r 44)] 17
def o0l:=fd #[i 1,i 0,r 20,i 10,i 0,r 27,i 12,i 0,r 40]
def o0m:=(Obj.mk (.type (t 2)) none (.cls (ClassData.mk (s 7) [(T 3)] [(r 31),(T 3),(T 4),(T 5),(T 6)] 30 (s 7) true [] [(r 44)] false none false)) #[some (r 22),none,some (f 7 206),some (f 7 214),some (bi 7),some (.bool true)])
def o0n:=sq 0 #[r 31]
def o0o:=di #[d 54 231 (f 10 204),d 130 233 (f 30 232),d 56 235 (j 12 234),d 59 236 (r 42)] 4
def o0p:=co 30 226 30 227 228 12 0 0 0 0 38 false 39 u u u u 229 12 230
def o0q:=(Obj.mk (.type (t 20)) none .plain #[some (r 40),some (r 3),some (r 37),none,some (f 10 204),none,some (r 0)])
def o0r:=di #[d 54 231 (f 10 204),d 56 235 (j 12 234),d 59 236 (r 42),d 11 237 .none] 2
def o0s:=(Obj.mk (.type (t 2)) none (.cls (ClassData.mk (s 30) [(r 31)] [(r 44),(r 31),(T 3),(T 4),(T 5),(T 6)] 43 (s 30) true [] [] false none false)) #[some (r 35),none,some (f 30 224),some (f 30 232),some (bi 7),some (.bool true)])
def o0t:=ob 19 #[r 44,r 44,r 44]
def o0u:=ob 10 #[bi 11,r 44]
def o0v:=di #[d 9 165 (f 10 204),d 11 166 .none,d 12 167 .none,d 13 168 (bi 13),d 14 169 .none,d 15 170 (r 6),d 16 171 (r 4),d 17 173 (f 3 172),d 18 174 .none,d 19 193 (r 21),d 20 195 (f 21 194),d 22 197 (f 23 196),d 24 199 (f 25 198),d 26 201 (f 27 200),d 28 203 (f 29 202),d 7 223 (r 31),d 30 239 (r 44),d 31 255 (r 56)] 18
def o0w:=fd #[i 1,i 0,r 20,i 10,i 0,r 27,i 12,i 0,r 40,i 14,i 0,r 52]
def o0x:=(Obj.mk (.type (t 2)) none (.cls (ClassData.mk (s 7) [(T 3)] [(r 31),(T 3),(T 4),(T 5),(T 6)] 30 (s 7) true [] [(r 44),(r 56)] false none false)) #[some (r 22),none,some (f 7 206),some (f 7 214),some (bi 7),some (.bool true)])
def o0y:=di #[d 54 247 (f 10 204),d 130 249 (f 31 248),d 56 251 (j 14 250),d 59 252 (r 54)] 4
def o0z:=co 31 242 31 243 244 14 0 0 0 0 50 false 51 u u u u 245 14 246
def o0A:=(Obj.mk (.type (t 20)) none .plain #[some (r 52),some (r 3),some (r 49),none,some (f 10 204),none,some (r 0)])
def o0B:=di #[d 54 247 (f 10 204),d 56 251 (j 14 250),d 59 252 (r 54),d 11 253 .none] 2
def o0C:=(Obj.mk (.type (t 2)) none (.cls (ClassData.mk (s 31) [(r 31)] [(r 56),(r 31),(T 3),(T 4),(T 5),(T 6)] 55 (s 31) true [] [] false none false)) #[some (r 47),none,some (f 31 240),some (f 31 248),some (bi 7),some (.bool true)])
def o0D:=ob 19 #[r 56,r 56,r 56]
def o0E:=ob 10 #[bi 11,r 56]
def o0F:=di #[d 9 165 (f 10 204),d 11 166 .none,d 12 167 .none,d 13 168 (bi 13),d 14 169 .none,d 15 170 (r 6),d 16 171 (r 4),d 17 173 (f 3 172),d 18 174 .none,d 19 193 (r 21),d 20 195 (f 21 194),d 22 197 (f 23 196),d 24 199 (f 25 198),d 26 201 (f 27 200),d 28 203 (f 29 202),d 7 223 (r 31),d 30 239 (r 44),d 31 255 (r 56),d 32 271 (r 68)] 19
def o0G:=fd #[i 1,i 0,r 20,i 10,i 0,r 27,i 12,i 0,r 40,i 14,i 0,r 52,i 16,i 0,r 64]
def o0H:=(Obj.mk (.type (t 2)) none (.cls (ClassData.mk (s 7) [(T 3)] [(r 31),(T 3),(T 4),(T 5),(T 6)] 30 (s 7) true [] [(r 44),(r 56),(r 68)] false none false)) #[some (r 22),none,some (f 7 206),some (f 7 214),some (bi 7),some (.bool true)])
def o0I:=di #[d 54 263 (f 10 204),d 130 265 (f 32 264),d 56 267 (j 16 266),d 59 268 (r 66)] 4
def o0J:=co 32 258 32 259 260 16 0 0 0 0 62 false 63 u u u u 261 16 262
def o0K:=(Obj.mk (.type (t 20)) none .plain #[some (r 64),some (r 3),some (r 61),none,some (f 10 204),none,some (r 0)])
def o0L:=di #[d 54 263 (f 10 204),d 56 267 (j 16 266),d 59 268 (r 66),d 11 269 .none] 2
def o0M:=(Obj.mk (.type (t 2)) none (.cls (ClassData.mk (s 32) [(r 31)] [(r 68),(r 31),(T 3),(T 4),(T 5),(T 6)] 67 (s 32) true [] [] false none false)) #[some (r 59),none,some (f 32 256),some (f 32 264),some (bi 7),some (.bool true)])
def o0N:=ob 19 #[r 68,r 68,r 68]
def o0O:=ob 10 #[bi 11,r 68]
def o0P:=di #[d 9 165 (f 10 204),d 11 166 .none,d 12 167 .none,d 13 168 (bi 13),d 14 169 .none,d 15 170 (r 6),d 16 171 (r 4),d 17 173 (f 3 172),d 18 174 .none,d 19 193 (r 21),d 20 195 (f 21 194),d 22 197 (f 23 196),d 24 199 (f 25 198),d 26 201 (f 27 200),d 28 203 (f 29 202),d 7 223 (r 31),d 30 239 (r 44),d 31 255 (r 56),d 32 271 (r 68),d 64 287 (r 80)] 20
def o0Q:=fd #[i 1,i 0,r 20,i 10,i 0,r 27,i 12,i 0,r 40,i 14,i 0,r 52,i 16,i 0,r 64,i 18,i 0,r 76]
def o0R:=(Obj.mk (.type (t 2)) none (.cls (ClassData.mk (s 7) [(T 3)] [(r 31),(T 3),(T 4),(T 5),(T 6)] 30 (s 7) true [] [(r 44),(r 56),(r 68),(r 80)] false none false)) #[some (r 22),none,some (f 7 206),some (f 7 214),some (bi 7),some (.bool true)])
def o0S:=di #[d 54 279 (f 10 204),d 130 281 (f 64 280),d 56 283 (j 18 282),d 59 284 (r 78)] 4
def o0T:=co 64 274 64 275 276 18 0 0 0 0 74 false 75 u u u u 277 18 278
def o0U:=(Obj.mk (.type (t 20)) none .plain #[some (r 76),some (r 3),some (r 73),none,some (f 10 204),none,some (r 0)])
def o0V:=di #[d 54 279 (f 10 204),d 56 283 (j 18 282),d 59 284 (r 78),d 11 285 .none] 2
def o0W:=(Obj.mk (.type (t 2)) none (.cls (ClassData.mk (s 64) [(r 31)] [(r 80),(r 31),(T 3),(T 4),(T 5),(T 6)] 79 (s 64) true [] [] false none false)) #[some (r 71),none,some (f 64 272),some (f 64 280),some (bi 7),some (.bool true)])
def o0X:=ob 19 #[r 80,r 80,r 80]
def o0Y:=ob 10 #[bi 11,r 80]
def o0Z:=di #[d 9 165 (f 10 204),d 11 166 .none,d 12 167 .none,d 13 168 (bi 13),d 14 169 .none,d 15 170 (r 6),d 16 171 (r 4),d 17 173 (f 3 172),d 18 174 .none,d 19 193 (r 21),d 20 195 (f 21 194),d 22 197 (f 23 196),d 24 199 (f 25 198),d 26 201 (f 27 200),d 28 203 (f 29 202),d 7 223 (r 31),d 30 239 (r 44),d 31 255 (r 56),d 32 271 (r 68),d 64 287 (r 80),d 65 303 (r 92)] 21
def o10:=fd #[i 1,i 0,r 20,i 10,i 0,r 27,i 12,i 0,r 40,i 14,i 0,r 52,i 16,i 0,r 64,i 18,i 0,r 76,i 20,i 0,r 88]
def o11:=(Obj.mk (.type (t 2)) none (.cls (ClassData.mk (s 7) [(T 3)] [(r 31),(T 3),(T 4),(T 5),(T 6)] 30 (s 7) true [] [(r 44),(r 56),(r 68),(r 80),(r 92)] false none false)) #[some (r 22),none,some (f 7 206),some (f 7 214),some (bi 7),some (.bool true)])
def o12:=di #[d 54 295 (f 10 204),d 130 297 (f 65 296),d 56 299 (j 20 298),d 59 300 (r 90)] 4
def o13:=co 65 290 65 291 292 20 0 0 0 0 86 false 87 u u u u 293 20 294
def o14:=(Obj.mk (.type (t 20)) none .plain #[some (r 88),some (r 3),some (r 85),none,some (f 10 204),none,some (r 0)])
def o15:=di #[d 54 295 (f 10 204),d 56 299 (j 20 298),d 59 300 (r 90),d 11 301 .none] 2
def o16:=(Obj.mk (.type (t 2)) none (.cls (ClassData.mk (s 65) [(r 31)] [(r 92),(r 31),(T 3),(T 4),(T 5),(T 6)] 91 (s 65) true [] [] false none false)) #[some (r 83),none,some (f 65 288),some (f 65 296),some (bi 7),some (.bool true)])
def o17:=ob 19 #[r 92,r 92,r 92]
def o18:=ob 10 #[bi 11,r 92]
def o19:=di #[d 9 165 (f 10 204),d 11 166 .none,d 12 167 .none,d 13 168 (bi 13),d 14 169 .none,d 15 170 (r 6),d 16 171 (r 4),d 17 173 (f 3 172),d 18 174 .none,d 19 193 (r 21),d 20 195 (f 21 194),d 22 197 (f 23 196),d 24 199 (f 25 198),d 26 201 (f 27 200),d 28 203 (f 29 202),d 7 223 (r 31),d 30 239 (r 44),d 31 255 (r 56),d 32 271 (r 68),d 64 287 (r 80),d 65 303 (r 92),d 66 319 (r 104)] 22
def o1a:=fd #[i 1,i 0,r 20,i 10,i 0,r 27,i 12,i 0,r 40,i 14,i 0,r 52,i 16,i 0,r 64,i 18,i 0,r 76,i 20,i 0,r 88,i 22,i 0,r 100]
def o1b:=(Obj.mk (.type (t 2)) none (.cls (ClassData.mk (s 7) [(T 3)] [(r 31),(T 3),(T 4),(T 5),(T 6)] 30 (s 7) true [] [(r 44),(r 56),(r 68),(r 80),(r 92),(r 104)] false none false)) #[some (r 22),none,some (f 7 206),some (f 7 214),some (bi 7),some (.bool true)])
def o1c:=di #[d 54 311 (f 10 204),d 130 313 (f 66 312),d 56 315 (j 22 314),d 59 316 (r 102)] 4
def o1d:=co 66 306 66 307 308 22 0 0 0 0 98 false 99 u u u u 309 22 310
def o1e:=(Obj.mk (.type (t 20)) none .plain #[some (r 100),some (r 3),some (r 97),none,some (f 10 204),none,some (r 0)])
def o1f:=di #[d 54 311 (f 10 204),d 56 315 (j 22 314),d 59 316 (r 102),d 11 317 .none] 2
def o1g:=(Obj.mk (.type (t 2)) none (.cls (ClassData.mk (s 66) [(r 31)] [(r 104),(r 31),(T 3),(T 4),(T 5),(T 6)] 103 (s 66) true [] [] false none false)) #[some (r 95),none,some (f 66 304),some (f 66 312),some (bi 7),some (.bool true)])
def o1h:=ob 19 #[r 104,r 104,r 104]
def o1i:=ob 10 #[bi 11,r 104]
def o1j:=di #[d 9 165 (f 10 204),d 11 166 .none,d 12 167 .none,d 13 168 (bi 13),d 14 169 .none,d 15 170 (r 6),d 16 171 (r 4),d 17 173 (f 3 172),d 18 174 .none,d 19 193 (r 21),d 20 195 (f 21 194),d 22 197 (f 23 196),d 24 199 (f 25 198),d 26 201 (f 27 200),d 28 203 (f 29 202),d 7 223 (r 31),d 30 239 (r 44),d 31 255 (r 56),d 32 271 (r 68),d 64 287 (r 80),d 65 303 (r 92),d 66 319 (r 104),d 4 344 (r 124)] 23
def o1k:=fd #[i 1,i 0,r 20,i 10,i 0,r 27,i 12,i 0,r 40,i 14,i 0,r 52,i 16,i 0,r 64,i 18,i 0,r 76,i 20,i 0,r 88,i 22,i 0,r 100,i 24,i 0,r 112]
def o1l:=(Obj.mk (.type (t 2)) none (.cls (ClassData.mk (s 7) [(T 3)] [(r 31),(T 3),(T 4),(T 5),(T 6)] 30 (s 7) true [] [(r 44),(r 56),(r 68),(r 80),(r 92),(r 104),(r 124)] false none false)) #[some (r 22),none,some (f 7 206),some (f 7 214),some (bi 7),some (.bool true)])
def o1m:=di #[d 54 327 (f 10 204),d 130 329 (f 4 328),d 56 331 (j 24 330),d 1 339 (r 121),d 59 341 (r 122)] 5
def o1n:=fd #[i 26,i 4,r 120]
def o1o:=co 4 322 4 323 324 24 0 0 0 0 110 false 111 u u u u 325 24 326
def o1p:=(Obj.mk (.type (t 20)) none .plain #[some (r 112),some (r 3),some (r 109),none,some (f 10 204),none,some (r 0)])
def o1q:=sq 0 #[u]
def o1r:=sq 0 #[f 35 335,f 62 336]
def o1s:=fn 1 177 (aD (stm 14) 0)
def o1t:=co 1 332 177 333 334 26 2 0 0 3 115 true 116 u (r 117) (r 118) (r 119) 337 26 338
def o1u:=fo 16 1 177 (aD (stm 14) 0) 3 [] (r 114) .none .none 10 204 120
def o1v:=sq 0 #[f 62 340]
def o1w:=di #[d 54 327 (f 10 204),d 56 331 (j 24 330),d 1 339 (r 121),d 59 341 (r 122),d 11 342 .none] 2
def o1x:=(Obj.mk (.type (t 2)) none (.cls (ClassData.mk (s 4) [(r 31)] [(r 124),(r 31),(T 3),(T 4),(T 5),(T 6)] 123 (s 4) true [] [] false none false)) #[some (r 107),none,some (f 4 320),some (f 4 328),some (bi 7),some (.bool true)])
def o1y:=ob 19 #[r 124,r 124,r 124]
def o1z:=ob 10 #[bi 11,r 124]
def o1A:=di #[d 9 165 (f 98 397),d 11 166 .none,d 12 167 .none,d 13 168 (bi 13),d 14 169 .none,d 15 170 (r 6),d 16 171 (r 4),d 17 173 (f 3 172),d 18 174 .none,d 19 193 (r 21),d 20 195 (f 21 194),d 22 197 (f 23 196),d 24 199 (f 25 198),d 26 201 (f 27 200),d 28 203 (f 29 202),d 7 223 (r 31),d 30 239 (r 44),d 31 255 (r 56),d 32 271 (r 68),d 64 287 (r 80),d 65 303 (r 92),d 66 319 (r 104),d 4 344 (r 124),d 67 370 (r 144),d 68 379 (r 153),d 69 388 (r 160),d 70 396 (r 167),d 71 400 (f 72 399),d 73 402 (j 8 401),d 74 408 (r 172)] 30
def o1B:=fd #[i 1,i 0,r 20,i 10,i 0,r 27,i 12,i 0,r 40,i 14,i 0,r 52,i 16,i 0,r 64,i 18,i 0,r 76,i 20,i 0,r 88,i 22,i 0,r 100,i 24,i 0,r 112,i 28,i 0,r 132,i 33,i 0,r 152,i 35,i 0,r 159,i 37,i 0,r 166,i 42,i 0,r 171]
def o1C:=(Obj.mk (.type (t 2)) none (.cls (ClassData.mk (s 7) [(T 3)] [(r 31),(T 3),(T 4),(T 5),(T 6)] 30 (s 7) true [] [(r 44),(r 56),(r 68),(r 80),(r 92),(r 104),(r 124),(r 144)] false none false)) #[some (r 22),none,some (f 7 206),some (f 7 214),some (bi 7),some (.bool true)])
def o1D:=di #[d 54 352 (f 10 204),d 130 354 (f 67 353),d 56 356 (j 28 355),d 1 365 (r 141),d 59 367 (r 142)] 5
def o1E:=fd #[i 30,i 4,r 140]
def o1F:=co 67 347 67 348 349 28 0 0 0 0 130 false 131 u u u u 350 28 351
def o1G:=(Obj.mk (.type (t 20)) none .plain #[some (r 132),some (r 3),some (r 129),none,some (f 10 204),none,some (r 0)])
def o1H:=sq 0 #[j 0 357]
def o1I:=sq 0 #[f 35 361,f 62 362]
def o1J:=fn 1 129 (aD (stm 15) 0)
def o1K:=co 1 358 129 359 360 30 2 0 0 3 135 true 136 u (r 137) (r 138) (r 139) 363 30 364
def o1L:=fo 16 1 129 (aD (stm 15) 0) 3 [] (r 134) .none .none 10 204 140
def o1M:=sq 0 #[f 62 366]
def o1N:=di #[d 54 352 (f 10 204),d 56 356 (j 28 355),d 1 365 (r 141),d 59 367 (r 142),d 11 368 .none] 2
def o1O:=(Obj.mk (.type (t 2)) none (.cls (ClassData.mk (s 67) [(r 31)] [(r 144),(r 31),(T 3),(T 4),(T 5),(T 6)] 143 (s 67) true [] [] false none false)) #[some (r 127),none,some (f 67 345),some (f 67 353),some (bi 7),some (.bool true)])
def o1P:=ob 19 #[r 144,r 144,r 144]
def o1Q:=ob 10 #[bi 11,r 144]
def o1R:=sq 0 #[f 89 376]
def o1S:=fn 68 68 (stm 17)
def o1T:=co 68 373 68 374 375 33 1 0 0 3 147 true 148 u (r 149) (r 150) (r 151) 377 33 378
def o1U:=fo 16 68 68 (stm 17) 3 [] .none .none .none 85 371 152
def o1V:=sq 0 #[f 89 383,f 225 384,f 272 385]
def o1W:=fn 69 69 (stm 18)
def o1X:=co 69 380 69 381 382 35 3 0 0 3 154 true 155 u (r 156) (r 157) (r 158) 386 35 387
def o1Y:=fo 16 69 69 (stm 18) 3 [] .none .none .none 85 371 159
def o1Z:=sq 0 #[f 89 392,f 225 393]
def o20:=fn 70 70 (stm 19)
def o21:=co 70 389 70 390 391 37 2 0 0 3 161 true 162 u (r 163) (r 164) (r 165) 394 37 395
def o22:=fo 16 70 70 (stm 19) 3 [] .none .none .none 85 371 166
def o23:=fn 74 74 (stm 23)
def o24:=co 74 403 74 404 405 42 1 0 0 3 168 true 169 u u u (r 170) 406 42 407
def o25:=fo 16 74 74 (stm 23) 3 [] .none .none .none 98 397 171
def o26:=di #[d 9 165 (f 63 409),d 11 166 .none,d 12 167 .none,d 13 168 (bi 13),d 14 169 .none,d 15 170 (r 6),d 16 171 (r 4),d 17 173 (f 3 172),d 18 174 .none,d 19 193 (r 21),d 20 195 (f 21 194),d 22 197 (f 23 196),d 24 199 (f 25 198),d 26 201 (f 27 200),d 28 203 (f 29 202),d 7 223 (r 31),d 30 239 (r 44),d 31 255 (r 56),d 32 271 (r 68),d 64 287 (r 80),d 65 303 (r 92),d 66 319 (r 104),d 4 344 (r 124),d 67 370 (r 144),d 68 379 (r 153),d 69 388 (r 160),d 70 396 (r 167),d 71 400 (f 72 399),d 73 402 (j 8 401),d 74 408 (r 172),d 75 412 (f 76 411),d 77 414 (j 60 413),d 78 420 (r 177),d 79 426 (r 182),d 80 433 (r 189)] 35
def o27:=fd #[i 1,i 0,r 20,i 10,i 0,r 27,i 12,i 0,r 40,i 14,i 0,r 52,i 16,i 0,r 64,i 18,i 0,r 76,i 20,i 0,r 88,i 22,i 0,r 100,i 24,i 0,r 112,i 28,i 0,r 132,i 33,i 0,r 152,i 35,i 0,r 159,i 37,i 0,r 166,i 42,i 0,r 171,i 49,i 0,r 176,i 53,i 0,r 181,i 57,i 0,r 188]
def o28:=fn 78 78 (stm 27)
def o29:=co 78 415 78 416 417 49 1 0 0 3 173 true 174 u u u (r 175) 418 49 419
def o2a:=fo 16 78 78 (stm 27) 3 [] .none .none .none 63 409 176
def o2b:=fn 79 79 (stm 28)
def o2c:=co 79 421 79 422 423 53 1 0 0 3 178 true 179 u u u (r 180) 424 53 425
def o2d:=fo 16 79 79 (stm 28) 3 [] .none .none .none 63 409 181
def o2e:=sq 0 #[f 99 430]
def o2f:=fn 80 80 (stm 29)
def o2g:=co 80 427 80 428 429 57 1 0 0 3 183 true 184 u (r 185) (r 186) (r 187) 431 57 432
def o2h:=fo 16 80 80 (stm 29) 3 [] .none .none .none 63 409 188
def o2i:=di #[d 9 165 (f 63 409),d 11 166 .none,d 12 167 .none,d 13 168 (bi 13),d 14 169 .none,d 15 170 (r 6),d 16 171 (r 4),d 17 173 (f 3 172),d 18 174 .none,d 19 193 (r 21),d 20 195 (f 21 194),d 22 197 (f 23 196),d 24 199 (f 25 198),d 26 201 (f 27 200),d 28 203 (f 29 202),d 7 223 (r 31),d 30 239 (r 44),d 31 255 (r 56),d 32 271 (r 68),d 64 287 (r 80),d 65 303 (r 92),d 66 319 (r 104),d 4 344 (r 124),d 67 370 (r 144),d 68 379 (r 153),d 69 388 (r 160),d 70 396 (r 167),d 71 400 (f 72 399),d 73 402 (j 8 401),d 74 408 (r 172),d 75 412 (f 76 411),d 77 414 (j 60 413),d 78 420 (r 177),d 79 426 (r 182),d 80 433 (r 189),d 131 565 (r 297)] 36
def o2j:=fd #[i 1,i 0,r 20,i 10,i 0,r 27,i 12,i 0,r 40,i 14,i 0,r 52,i 16,i 0,r 64,i 18,i 0,r 76,i 20,i 0,r 88,i 22,i 0,r 100,i 24,i 0,r 112,i 28,i 0,r 132,i 33,i 0,r 152,i 35,i 0,r 159,i 37,i 0,r 166,i 42,i 0,r 171,i 49,i 0,r 176,i 53,i 0,r 181,i 57,i 0,r 188,i 61,i 0,r 195]
def o2k:=di #[d 54 441 (f 63 409),d 130 443 (f 131 442),d 56 445 (j 61 444),d 1 453 (r 203),d 104 460 (r 210),d 105 467 (r 217),d 106 475 (r 224),d 107 483 (r 231),d 83 491 (r 238),d 108 498 (r 245),d 109 506 (r 252),d 110 514 (r 259),d 111 522 (r 266),d 112 531 (r 273),d 113 539 (r 280),d 90 548 (r 287),d 114 555 (r 294),d 59 558 (r 295)] 18
def o2l:=fd #[i 63,i 4,r 202,i 69,i 4,r 209,i 72,i 4,r 216,i 75,i 4,r 223,i 80,i 4,r 230,i 86,i 4,r 237,i 90,i 4,r 244,i 94,i 4,r 251,i 100,i 4,r 258,i 106,i 4,r 265,i 112,i 4,r 272,i 118,i 4,r 279,i 124,i 4,r 286,i 131,i 4,r 293]
def o2m:=co 131 436 131 437 438 61 0 0 0 0 193 false 194 u u u u 439 61 440
def o2n:=(Obj.mk (.type (t 20)) none .plain #[some (r 195),some (r 3),some (r 192),none,some (f 63 409),none,some (r 0)])
def o2o:=sq 0 #[f 35 449,f 197 450]
def o2p:=fn 1 2 (aD (stm 30) 0)
def o2q:=co 1 446 2 447 448 63 2 0 0 3 197 true 198 u (r 199) (r 200) (r 201) 451 63 452
def o2r:=fo 16 1 2 (aD (stm 30) 0) 3 [] .none .none .none 63 409 202
def o2s:=sq 0 #[f 35 457]
def o2t:=fn 104 214 (aD (stm 30) 1)
def o2u:=co 104 454 214 455 456 69 1 0 0 3 204 true 205 u (r 206) (r 207) (r 208) 458 69 459
def o2v:=fo 16 104 214 (aD (stm 30) 1) 3 [] .none .none .none 63 409 209
def o2w:=sq 0 #[f 35 464]
def o2x:=fn 105 216 (aD (stm 30) 2)
def o2y:=co 105 461 216 462 463 72 1 0 0 3 211 true 212 u (r 213) (r 214) (r 215) 465 72 466
def o2z:=fo 16 105 216 (aD (stm 30) 2) 3 [] .none .none .none 63 409 216
def o2A:=sq 0 #[f 35 471,f 99 472]
def o2B:=fn 106 115 (aD (stm 30) 3)
def o2C:=co 106 468 115 469 470 75 1 0 0 3 218 true 219 u (r 220) (r 221) (r 222) 473 75 474
def o2D:=fo 16 106 115 (aD (stm 30) 3) 3 [] .none .none .none 63 409 223
def o2E:=sq 0 #[f 35 479,f 99 480]
def o2F:=fn 107 126 (aD (stm 30) 4)
def o2G:=co 107 476 126 477 478 80 2 0 0 3 225 true 226 u (r 227) (r 228) (r 229) 481 80 482
def o2H:=fo 16 107 126 (aD (stm 30) 4) 3 [] .none .none .none 63 409 230
def o2I:=sq 0 #[f 35 487,f 99 488]
def o2J:=fn 83 84 (aD (stm 30) 5)
def o2K:=co 83 484 84 485 486 86 2 0 0 3 232 true 233 u (r 234) (r 235) (r 236) 489 86 490
def o2L:=fo 16 83 84 (aD (stm 30) 5) 3 [] .none .none .none 63 409 237
def o2M:=sq 0 #[f 35 495]
def o2N:=fn 108 123 (aD (stm 30) 6)
def o2O:=co 108 492 123 493 494 90 1 0 0 3 239 true 240 u (r 241) (r 242) (r 243) 496 90 497
def o2P:=fo 16 108 123 (aD (stm 30) 6) 3 [] .none .none .none 63 409 244
def o2Q:=sq 0 #[f 35 502,f 99 503]
def o2R:=fn 109 210 (aD (stm 30) 7)
def o2S:=co 109 499 210 500 501 94 1 0 0 3 246 true 247 u (r 248) (r 249) (r 250) 504 94 505
def o2T:=fo 16 109 210 (aD (stm 30) 7) 3 [] .none .none .none 63 409 251
def o2U:=sq 0 #[f 35 510,f 204 511]
def o2V:=fn 110 119 (aD (stm 30) 8)
def o2W:=co 110 507 119 508 509 100 1 0 0 3 253 true 254 u (r 255) (r 256) (r 257) 512 100 513
def o2X:=fo 16 110 119 (aD (stm 30) 8) 3 [] .none .none .none 63 409 258
def o2Y:=sq 0 #[f 35 518,f 99 519]
def o2Z:=fn 111 127 (aD (stm 30) 9)
def o30:=co 111 515 127 516 517 106 1 0 0 3 260 true 261 u (r 262) (r 263) (r 264) 520 106 521
def o31:=fo 16 111 127 (aD (stm 30) 9) 3 [] .none .none .none 63 409 265
def o32:=sq 0 #[f 35 526,f 116 527,f 99 528]
def o33:=fn 112 203 (aD (stm 30) 10)
def o34:=co 112 523 203 524 525 112 2 0 0 3 267 true 268 u (r 269) (r 270) (r 271) 529 112 530
def o35:=fo 16 112 203 (aD (stm 30) 10) 3 [] .none .none .none 63 409 272
def o36:=sq 0 #[f 35 535,f 6 536]
def o37:=fn 113 237 (aD (stm 30) 11)
def o38:=co 113 532 237 533 534 118 1 0 0 3 274 true 275 u (r 276) (r 277) (r 278) 537 118 538
def o39:=fo 16 113 237 (aD (stm 30) 11) 3 [] .none .none .none 63 409 279
def o3a:=sq 0 #[f 35 543,f 204 544,f 205 545]
def o3b:=fn 90 91 (aD (stm 30) 12)
def o3c:=co 90 540 91 541 542 124 2 0 0 3 281 true 282 u (r 283) (r 284) (r 285) 546 124 547
def o3d:=fo 16 90 91 (aD (stm 30) 12) 3 [] .none .none .none 63 409 286
def o3e:=sq 0 #[f 35 552]
def o3f:=fn 114 212 (aD (stm 30) 13)
def o3g:=co 114 549 212 550 551 131 1 0 0 3 288 true 289 u (r 290) (r 291) (r 292) 553 131 554
def o3h:=fo 16 114 212 (aD (stm 30) 13) 3 [] .none .none .none 63 409 293
def o3i:=sq 0 #[f 246 556,f 182 557]
def o3j:=di #[d 54 441 (f 63 409),d 56 445 (j 61 444),d 1 453 (r 203),d 104 460 (r 210),d 105 467 (r 217),d 106 475 (r 224),d 107 483 (r 231),d 83 491 (r 238),d 108 498 (r 245),d 109 506 (r 252),d 110 514 (r 259),d 111 522 (r 266),d 112 531 (r 273),d 113 539 (r 280),d 90 548 (r 287),d 114 555 (r 294),d 59 558 (r 295),d 39 560 (r 298),d 5 562 (r 299),d 11 563 .none] 4
def o3k:=(Obj.mk (.type (t 2)) none (.cls (ClassData.mk (s 131) [(T 6)] [(r 297),(T 6)] 296 (s 131) true [] [] false none false)) #[none,none,some (f 131 434),some (f 131 442),some (bi 18),some (.bool true)])
def o3l:=ob 8 #[f 39 559,r 297,bi 14,bi 15]
def o3m:=ob 8 #[f 5 561,r 297,bi 9,u]
def o3n:=ob 19 #[r 297,r 297,r 297]
def o3o:=ob 10 #[bi 11,r 297]
def o3p:=di #[d 54 441 (f 63 409),d 130 443 (f 131 442),d 56 445 (j 61 444),d 1 453 (r 203),d 104 460 (r 210),d 105 467 (r 217),d 106 475 (r 224),d 107 483 (r 231),d 83 491 (r 238),d 108 498 (r 245),d 109 506 (r 252),d 110 514 (r 259),d 111 522 (r 266),d 112 531 (r 273)] 14
def o3q:=fd #[i 63,i 4,r 202,i 69,i 4,r 209,i 72,i 4,r 216,i 75,i 4,r 223,i 80,i 4,r 230,i 86,i 4,r 237,i 90,i 4,r 244,i 94,i 4,r 251,i 100,i 4,r 258,i 106,i 4,r 265,i 112,i 4,r 272]
def o3r:=di #[d 9 165 (f 55 566),d 11 166 .none,d 12 167 .none,d 13 168 (bi 13),d 14 169 .none,d 15 170 (r 6),d 16 171 (r 4),d 17 173 (f 3 172),d 18 174 .none,d 19 193 (r 21),d 20 195 (f 21 194),d 22 197 (f 23 196),d 24 199 (f 25 198),d 26 201 (f 27 200),d 28 203 (f 29 202),d 7 223 (r 31),d 30 239 (r 44),d 31 255 (r 56),d 32 271 (r 68),d 64 287 (r 80),d 65 303 (r 92),d 66 319 (r 104),d 4 344 (r 124),d 67 370 (r 144),d 68 379 (r 153),d 69 388 (r 160),d 70 396 (r 167),d 71 400 (f 72 399),d 73 402 (j 8 401),d 74 408 (r 172),d 75 412 (f 76 411),d 77 414 (j 60 413),d 78 420 (r 177),d 79 426 (r 182),d 80 433 (r 189),d 131 565 (r 297),d 101 587 (r 311)] 37
def o3s:=fd #[i 1,i 0,r 20,i 10,i 0,r 27,i 12,i 0,r 40,i 14,i 0,r 52,i 16,i 0,r 64,i 18,i 0,r 76,i 20,i 0,r 88,i 22,i 0,r 100,i 24,i 0,r 112,i 28,i 0,r 132,i 33,i 0,r 152,i 35,i 0,r 159,i 37,i 0,r 166,i 42,i 0,r 171,i 49,i 0,r 176,i 53,i 0,r 181,i 57,i 0,r 188,i 61,i 0,r 195,i 134,i 0,r 307]
def o3t:=di #[d 54 575 (f 55 566),d 130 577 (f 101 576),d 56 579 (j 134 578),d 59 580 (r 309)] 4
def o3u:=co 101 570 101 571 572 134 0 0 0 0 305 false 306 u u u u 573 134 574
def o3v:=(Obj.mk (.type (t 20)) none .plain #[some (r 307),some (r 3),some (r 304),none,some (f 55 566),none,some (r 0)])
def o3w:=di #[d 54 575 (f 55 566),d 56 579 (j 134 578),d 59 580 (r 309),d 39 582 (r 312),d 5 584 (r 313),d 11 585 .none] 4
def o3x:=(Obj.mk (.type (t 2)) none (.cls (ClassData.mk (s 101) [(T 6)] [(r 311),(T 6)] 310 (s 101) true [] [] false none false)) #[none,none,some (f 101 568),some (f 101 576),some (bi 18),some (.bool true)])
def o3y:=ob 8 #[f 39 581,r 311,bi 14,bi 15]
def o3z:=ob 8 #[f 5 583,r 311,bi 9,u]
def o3A:=ob 19 #[r 311,r 311,r 311]
def o3B:=ob 10 #[bi 11,r 311]
def o3C:=di #[d 9 165 (f 55 566),d 11 166 .none,d 12 167 .none,d 13 168 (bi 13),d 14 169 .none,d 15 170 (r 6),d 16 171 (r 4),d 17 173 (f 3 172),d 18 174 .none,d 19 193 (r 21),d 20 195 (f 21 194),d 22 197 (f 23 196),d 24 199 (f 25 198),d 26 201 (f 27 200),d 28 203 (f 29 202),d 7 223 (r 31),d 30 239 (r 44),d 31 255 (r 56),d 32 271 (r 68),d 64 287 (r 80),d 65 303 (r 92),d 66 319 (r 104),d 4 344 (r 124),d 67 370 (r 144),d 68 379 (r 153),d 69 388 (r 160),d 70 396 (r 167),d 71 400 (f 72 399),d 73 402 (j 8 401),d 74 408 (r 172),d 75 412 (f 76 411),d 77 414 (j 60 413),d 78 420 (r 177),d 79 426 (r 182),d 80 433 (r 189),d 131 565 (r 297),d 101 587 (r 311),d 146 631 (r 346)] 38
def o3D:=fd #[i 1,i 0,r 20,i 10,i 0,r 27,i 12,i 0,r 40,i 14,i 0,r 52,i 16,i 0,r 64,i 18,i 0,r 76,i 20,i 0,r 88,i 22,i 0,r 100,i 24,i 0,r 112,i 28,i 0,r 132,i 33,i 0,r 152,i 35,i 0,r 159,i 37,i 0,r 166,i 42,i 0,r 171,i 49,i 0,r 176,i 53,i 0,r 181,i 57,i 0,r 188,i 61,i 0,r 195,i 134,i 0,r 307,i 136,i 0,r 321]
def o3E:=(Obj.mk (.type (t 2)) none (.cls (ClassData.mk (s 101) [(T 6)] [(r 311),(T 6)] 310 (s 101) true [] [(r 346)] false none false)) #[none,none,some (f 101 568),some (f 101 576),some (bi 18),some (.bool true)])
def o3F:=sq 0 #[r 311]
def o3G:=di #[d 54 595 (f 55 566),d 130 597 (f 146 596),d 56 599 (j 136 598),d 57 607 (r 329),d 58 617 (r 336),d 52 627 (r 343),d 59 628 (r 344)] 7
def o3H:=fd #[i 138,i 4,r 328,i 141,i 4,r 335,i 144,i 4,r 342]
def o3I:=co 146 590 146 591 592 136 0 0 0 0 319 false 320 u u u u 593 136 594
def o3J:=(Obj.mk (.type (t 20)) none .plain #[some (r 321),some (r 3),some (r 318),none,some (f 55 566),none,some (r 0)])
def o3K:=sq 0 #[f 35 603,f 118 604]
def o3L:=fn 57 224 (aD (stm 33) 0)
def o3M:=co 57 600 224 601 602 138 2 0 0 3 323 true 324 u (r 325) (r 326) (r 327) 605 138 606
def o3N:=fo 16 57 224 (aD (stm 33) 0) 3 [] .none .none .none 55 566 328
def o3O:=sq 0 #[f 35 611,f 36 612,f 37 613,f 38 614]
def o3P:=fn 58 97 (aD (stm 33) 1)
def o3Q:=co 58 608 97 609 610 141 4 0 0 3 330 true 331 u (r 332) (r 333) (r 334) 615 141 616
def o3R:=fo 16 58 97 (aD (stm 33) 1) 3 [] .none .none .none 55 566 335
def o3S:=sq 0 #[f 35 621,f 139 622,f 140 623,f 141 624]
def o3T:=fn 52 144 (aD (stm 33) 2)
def o3U:=co 52 618 144 619 620 144 4 0 0 3 337 true 338 u (r 339) (r 340) (r 341) 625 144 626
def o3V:=fo 16 52 144 (aD (stm 33) 2) 3 [] .none .none .none 55 566 342
def o3W:=di #[d 54 595 (f 55 566),d 56 599 (j 136 598),d 57 607 (r 329),d 58 617 (r 336),d 52 627 (r 343),d 59 628 (r 344),d 11 629 .none] 2
def o3X:=(Obj.mk (.type (t 2)) none (.cls (ClassData.mk (s 146) [(r 311)] [(r 346),(r 311),(T 6)] 345 (s 146) true [] [] false none false)) #[some (r 316),none,some (f 146 588),some (f 146 596),some (bi 18),some (.bool true)])
def o3Y:=ob 19 #[r 346,r 346,r 346]
def o3Z:=ob 10 #[bi 11,r 346]
def o40:=di #[d 9 165 (f 55 566),d 11 166 .none,d 12 167 .none,d 13 168 (bi 13),d 14 169 .none,d 15 170 (r 6),d 16 171 (r 4),d 17 173 (f 3 172),d 18 174 .none,d 19 193 (r 21),d 20 195 (f 21 194),d 22 197 (f 23 196),d 24 199 (f 25 198),d 26 201 (f 27 200),d 28 203 (f 29 202),d 7 223 (r 31),d 30 239 (r 44),d 31 255 (r 56),d 32 271 (r 68),d 64 287 (r 80),d 65 303 (r 92),d 66 319 (r 104),d 4 344 (r 124),d 67 370 (r 144),d 68 379 (r 153),d 69 388 (r 160),d 70 396 (r 167),d 71 400 (f 72 399),d 73 402 (j 8 401),d 74 408 (r 172),d 75 412 (f 76 411),d 77 414 (j 60 413),d 78 420 (r 177),d 79 426 (r 182),d 80 433 (r 189),d 131 565 (r 297),d 101 587 (r 311),d 146 631 (r 346),d 147 684 (r 386)] 39
def o41:=fd #[i 1,i 0,r 20,i 10,i 0,r 27,i 12,i 0,r 40,i 14,i 0,r 52,i 16,i 0,r 64,i 18,i 0,r 76,i 20,i 0,r 88,i 22,i 0,r 100,i 24,i 0,r 112,i 28,i 0,r 132,i 33,i 0,r 152,i 35,i 0,r 159,i 37,i 0,r 166,i 42,i 0,r 171,i 49,i 0,r 176,i 53,i 0,r 181,i 57,i 0,r 188,i 61,i 0,r 195,i 134,i 0,r 307,i 136,i 0,r 321,i 146,i 0,r 354]
def o42:=(Obj.mk (.type (t 2)) none (.cls (ClassData.mk (s 101) [(T 6)] [(r 311),(T 6)] 310 (s 101) true [] [(r 346),(r 386)] false none false)) #[none,none,some (f 101 568),some (f 101 576),some (bi 18),some (.bool true)])
def o43:=di #[d 54 639 (f 55 566),d 130 641 (f 147 640),d 56 643 (j 146 642),d 1 651 (r 362),d 57 659 (r 369),d 58 669 (r 376),d 52 679 (r 383),d 59 681 (r 384)] 8
def o44:=fd #[i 148,i 4,r 361,i 152,i 4,r 368,i 155,i 4,r 375,i 158,i 4,r 382]
def o45:=co 147 634 147 635 636 146 0 0 0 0 352 false 353 u u u u 637 146 638
def o46:=(Obj.mk (.type (t 20)) none .plain #[some (r 354),some (r 3),some (r 351),none,some (f 55 566),none,some (r 0)])
def o47:=sq 0 #[f 35 647,f 6 648]
def o48:=fn 1 259 (aD (stm 34) 0)
def o49:=co 1 644 259 645 646 148 2 0 0 3 356 true 357 u (r 358) (r 359) (r 360) 649 148 650
def o4a:=fo 16 1 259 (aD (stm 34) 0) 3 [] .none .none .none 55 566 361
def o4b:=sq 0 #[f 35 655,f 118 656]
def o4c:=fn 57 142 (aD (stm 34) 1)
def o4d:=co 57 652 142 653 654 152 2 0 0 3 363 true 364 u (r 365) (r 366) (r 367) 657 152 658
def o4e:=fo 16 57 142 (aD (stm 34) 1) 3 [] .none .none .none 55 566 368
def o4f:=sq 0 #[f 35 663,f 36 664,f 37 665,f 38 666]
def o4g:=fn 58 124 (aD (stm 34) 2)
def o4h:=co 58 660 124 661 662 155 4 0 0 3 370 true 371 u (r 372) (r 373) (r 374) 667 155 668
def o4i:=fo 16 58 124 (aD (stm 34) 2) 3 [] .none .none .none 55 566 375
def o4j:=sq 0 #[f 35 673,f 139 674,f 140 675,f 141 676]
def o4k:=fn 52 202 (aD (stm 34) 3)
def o4l:=co 52 670 202 671 672 158 4 0 0 3 377 true 378 u (r 379) (r 380) (r 381) 677 158 678
def o4m:=fo 16 52 202 (aD (stm 34) 3) 3 [] .none .none .none 55 566 382
def o4n:=sq 0 #[f 6 680]
def o4o:=di #[d 54 639 (f 55 566),d 56 643 (j 146 642),d 1 651 (r 362),d 57 659 (r 369),d 58 669 (r 376),d 52 679 (r 383),d 59 681 (r 384),d 11 682 .none] 2
def o4p:=(Obj.mk (.type (t 2)) none (.cls (ClassData.mk (s 147) [(r 311)] [(r 386),(r 311),(T 6)] 385 (s 147) true [] [] false none false)) #[some (r 349),none,some (f 147 632),some (f 147 640),some (bi 18),some (.bool true)])
def o4q:=ob 19 #[r 386,r 386,r 386]
def o4r:=ob 10 #[bi 11,r 386]
def o4s:=di #[d 9 165 (f 55 566),d 11 166 .none,d 12 167 .none,d 13 168 (bi 13),d 14 169 .none,d 15 170 (r 6),d 16 171 (r 4),d 17 173 (f 3 172),d 18 174 .none,d 19 193 (r 21),d 20 195 (f 21 194),d 22 197 (f 23 196),d 24 199 (f 25 198),d 26 201 (f 27 200),d 28 203 (f 29 202),d 7 223 (r 31),d 30 239 (r 44),d 31 255 (r 56),d 32 271 (r 68),d 64 287 (r 80),d 65 303 (r 92),d 66 319 (r 104),d 4 344 (r 124),d 67 370 (r 144),d 68 379 (r 153),d 69 388 (r 160),d 70 396 (r 167),d 71 400 (f 72 399),d 73 402 (j 8 401),d 74 408 (r 172),d 75 412 (f 76 411),d 77 414 (j 60 413),d 78 420 (r 177),d 79 426 (r 182),d 80 433 (r 189),d 131 565 (r 297),d 101 587 (r 311),d 146 631 (r 346),d 147 684 (r 386),d 122 737 (r 426)] 40
def o4t:=fd #[i 1,i 0,r 20,i 10,i 0,r 27,i 12,i 0,r 40,i 14,i 0,r 52,i 16,i 0,r 64,i 18,i 0,r 76,i 20,i 0,r 88,i 22,i 0,r 100,i 24,i 0,r 112,i 28,i 0,r 132,i 33,i 0,r 152,i 35,i 0,r 159,i 37,i 0,r 166,i 42,i 0,r 171,i 49,i 0,r 176,i 53,i 0,r 181,i 57,i 0,r 188,i 61,i 0,r 195,i 134,i 0,r 307,i 136,i 0,r 321,i 146,i 0,r 354,i 160,i 0,r 394]
def o4u:=(Obj.mk (.type (t 2)) none (.cls (ClassData.mk (s 101) [(T 6)] [(r 311),(T 6)] 310 (s 101) true [] [(r 346),(r 386),(r 426)] false none false)) #[none,none,some (f 101 568),some (f 101 576),some (bi 18),some (.bool true)])
def o4v:=di #[d 54 692 (f 55 566),d 130 694 (f 122 693),d 56 696 (j 160 695),d 1 704 (r 402),d 57 712 (r 409),d 58 722 (r 416),d 52 732 (r 423),d 59 734 (r 424)] 8
def o4w:=fd #[i 162,i 4,r 401,i 166,i 4,r 408,i 169,i 4,r 415,i 172,i 4,r 422]
def o4x:=co 122 687 122 688 689 160 0 0 0 0 392 false 393 u u u u 690 160 691
def o4y:=(Obj.mk (.type (t 20)) none .plain #[some (r 394),some (r 3),some (r 391),none,some (f 55 566),none,some (r 0)])
def o4z:=sq 0 #[f 35 700,f 6 701]
def o4A:=fn 1 260 (aD (stm 35) 0)
def o4B:=co 1 697 260 698 699 162 2 0 0 3 396 true 397 u (r 398) (r 399) (r 400) 702 162 703
def o4C:=fo 16 1 260 (aD (stm 35) 0) 3 [] .none .none .none 55 566 401
def o4D:=sq 0 #[f 35 708,f 118 709]
def o4E:=fn 57 247 (aD (stm 35) 1)
def o4F:=co 57 705 247 706 707 166 2 0 0 3 403 true 404 u (r 405) (r 406) (r 407) 710 166 711
def o4G:=fo 16 57 247 (aD (stm 35) 1) 3 [] .none .none .none 55 566 408
def o4H:=sq 0 #[f 35 716,f 36 717,f 37 718,f 38 719]
def o4I:=fn 58 248 (aD (stm 35) 2)
def o4J:=co 58 713 248 714 715 169 4 0 0 3 410 true 411 u (r 412) (r 413) (r 414) 720 169 721
def o4K:=fo 16 58 248 (aD (stm 35) 2) 3 [] .none .none .none 55 566 415
def o4L:=sq 0 #[f 35 726,f 139 727,f 140 728,f 141 729]
def o4M:=fn 52 208 (aD (stm 35) 3)
def o4N:=co 52 723 208 724 725 172 4 0 0 3 417 true 418 u (r 419) (r 420) (r 421) 730 172 731
def o4O:=fo 16 52 208 (aD (stm 35) 3) 3 [] .none .none .none 55 566 422
def o4P:=sq 0 #[f 6 733]
def o4Q:=di #[d 54 692 (f 55 566),d 56 696 (j 160 695),d 1 704 (r 402),d 57 712 (r 409),d 58 722 (r 416),d 52 732 (r 423),d 59 734 (r 424),d 11 735 .none] 2
def o4R:=(Obj.mk (.type (t 2)) none (.cls (ClassData.mk (s 122) [(r 311)] [(r 426),(r 311),(T 6)] 425 (s 122) true [] [] false none false)) #[some (r 389),none,some (f 122 685),some (f 122 693),some (bi 18),some (.bool true)])
def o4S:=ob 19 #[r 426,r 426,r 426]
def o4T:=ob 10 #[bi 11,r 426]
def o4U:=di #[d 9 165 (f 55 566),d 11 166 .none,d 12 167 .none,d 13 168 (bi 13),d 14 169 .none,d 15 170 (r 6),d 16 171 (r 4),d 17 173 (f 3 172),d 18 174 .none,d 19 193 (r 21),d 20 195 (f 21 194),d 22 197 (f 23 196),d 24 199 (f 25 198),d 26 201 (f 27 200),d 28 203 (f 29 202),d 7 223 (r 31),d 30 239 (r 44),d 31 255 (r 56),d 32 271 (r 68),d 64 287 (r 80),d 65 303 (r 92),d 66 319 (r 104),d 4 344 (r 124),d 67 370 (r 144),d 68 379 (r 153),d 69 388 (r 160),d 70 396 (r 167),d 71 400 (f 72 399),d 73 402 (j 8 401),d 74 408 (r 172),d 75 412 (f 76 411),d 77 414 (j 60 413),d 78 420 (r 177),d 79 426 (r 182),d 80 433 (r 189),d 131 565 (r 297),d 101 587 (r 311),d 146 631 (r 346),d 147 684 (r 386),d 122 737 (r 426),d 148 790 (r 466)] 41
def o4V:=fd #[i 1,i 0,r 20,i 10,i 0,r 27,i 12,i 0,r 40,i 14,i 0,r 52,i 16,i 0,r 64,i 18,i 0,r 76,i 20,i 0,r 88,i 22,i 0,r 100,i 24,i 0,r 112,i 28,i 0,r 132,i 33,i 0,r 152,i 35,i 0,r 159,i 37,i 0,r 166,i 42,i 0,r 171,i 49,i 0,r 176,i 53,i 0,r 181,i 57,i 0,r 188,i 61,i 0,r 195,i 134,i 0,r 307,i 136,i 0,r 321,i 146,i 0,r 354,i 160,i 0,r 394,i 174,i 0,r 434]
def o4W:=(Obj.mk (.type (t 2)) none (.cls (ClassData.mk (s 101) [(T 6)] [(r 311),(T 6)] 310 (s 101) true [] [(r 346),(r 386),(r 426),(r 466)] false none false)) #[none,none,some (f 101 568),some (f 101 576),some (bi 18),some (.bool true)])
def o4X:=di #[d 54 745 (f 55 566),d 130 747 (f 148 746),d 56 749 (j 174 748),d 1 757 (r 442),d 57 765 (r 449),d 58 775 (r 456),d 52 785 (r 463),d 59 787 (r 464)] 8
def o4Y:=fd #[i 176,i 4,r 441,i 181,i 4,r 448,i 184,i 4,r 455,i 187,i 4,r 462]
def o4Z:=co 148 740 148 741 742 174 0 0 0 0 432 false 433 u u u u 743 174 744
def o50:=(Obj.mk (.type (t 20)) none .plain #[some (r 434),some (r 3),some (r 431),none,some (f 55 566),none,some (r 0)])
def o51:=sq 0 #[f 35 753,f 238 754]
def o52:=fn 1 243 (aD (stm 36) 0)
def o53:=co 1 750 243 751 752 176 2 0 0 3 436 true 437 u (r 438) (r 439) (r 440) 755 176 756
def o54:=fo 16 1 243 (aD (stm 36) 0) 3 [] .none .none .none 55 566 441
def o55:=sq 0 #[f 35 761,f 118 762]
def o56:=fn 57 88 (aD (stm 36) 1)
def o57:=co 57 758 88 759 760 181 2 0 0 3 443 true 444 u (r 445) (r 446) (r 447) 763 181 764
def o58:=fo 16 57 88 (aD (stm 36) 1) 3 [] .none .none .none 55 566 448
def o59:=sq 0 #[f 35 769,f 36 770,f 37 771,f 38 772]
def o5a:=fn 58 194 (aD (stm 36) 2)
def o5b:=co 58 766 194 767 768 184 4 0 0 3 450 true 451 u (r 452) (r 453) (r 454) 773 184 774
def o5c:=fo 16 58 194 (aD (stm 36) 2) 3 [] .none .none .none 55 566 455
def o5d:=sq 0 #[f 35 779,f 139 780,f 140 781,f 141 782]
def o5e:=fn 52 133 (aD (stm 36) 3)
def o5f:=co 52 776 133 777 778 187 4 0 0 3 457 true 458 u (r 459) (r 460) (r 461) 783 187 784
def o5g:=fo 16 52 133 (aD (stm 36) 3) 3 [] .none .none .none 55 566 462
def o5h:=sq 0 #[f 238 786]
def o5i:=di #[d 54 745 (f 55 566),d 56 749 (j 174 748),d 1 757 (r 442),d 57 765 (r 449),d 58 775 (r 456),d 52 785 (r 463),d 59 787 (r 464),d 11 788 .none] 2
def o5j:=(Obj.mk (.type (t 2)) none (.cls (ClassData.mk (s 148) [(r 311)] [(r 466),(r 311),(T 6)] 465 (s 148) true [] [] false none false)) #[some (r 429),none,some (f 148 738),some (f 148 746),some (bi 18),some (.bool true)])
def o5k:=ob 19 #[r 466,r 466,r 466]
def o5l:=ob 10 #[bi 11,r 466]
def o5m:=di #[d 9 165 (f 55 566),d 11 166 .none,d 12 167 .none,d 13 168 (bi 13),d 14 169 .none,d 15 170 (r 6),d 16 171 (r 4),d 17 173 (f 3 172),d 18 174 .none,d 19 193 (r 21),d 20 195 (f 21 194),d 22 197 (f 23 196),d 24 199 (f 25 198),d 26 201 (f 27 200),d 28 203 (f 29 202),d 7 223 (r 31),d 30 239 (r 44),d 31 255 (r 56),d 32 271 (r 68),d 64 287 (r 80),d 65 303 (r 92),d 66 319 (r 104),d 4 344 (r 124),d 67 370 (r 144),d 68 379 (r 153),d 69 388 (r 160),d 70 396 (r 167),d 71 400 (f 72 399),d 73 402 (j 8 401),d 74 408 (r 172),d 75 412 (f 76 411),d 77 414 (j 60 413),d 78 420 (r 177),d 79 426 (r 182),d 80 433 (r 189),d 131 565 (r 297),d 101 587 (r 311),d 146 631 (r 346),d 147 684 (r 386),d 122 737 (r 426),d 148 790 (r 466),d 149 843 (r 506)] 42
def o5n:=fd #[i 1,i 0,r 20,i 10,i 0,r 27,i 12,i 0,r 40,i 14,i 0,r 52,i 16,i 0,r 64,i 18,i 0,r 76,i 20,i 0,r 88,i 22,i 0,r 100,i 24,i 0,r 112,i 28,i 0,r 132,i 33,i 0,r 152,i 35,i 0,r 159,i 37,i 0,r 166,i 42,i 0,r 171,i 49,i 0,r 176,i 53,i 0,r 181,i 57,i 0,r 188,i 61,i 0,r 195,i 134,i 0,r 307,i 136,i 0,r 321,i 146,i 0,r 354,i 160,i 0,r 394,i 174,i 0,r 434,i 189,i 0,r 474]
def o5o:=(Obj.mk (.type (t 2)) none (.cls (ClassData.mk (s 101) [(T 6)] [(r 311),(T 6)] 310 (s 101) true [] [(r 346),(r 386),(r 426),(r 466),(r 506)] false none false)) #[none,none,some (f 101 568),some (f 101 576),some (bi 18),some (.bool true)])
def o5p:=di #[d 54 798 (f 55 566),d 130 800 (f 149 799),d 56 802 (j 189 801),d 1 810 (r 482),d 57 818 (r 489),d 58 828 (r 496),d 52 838 (r 503),d 59 840 (r 504)] 8
def o5q:=fd #[i 191,i 4,r 481,i 195,i 4,r 488,i 198,i 4,r 495,i 201,i 4,r 502]
def o5r:=co 149 793 149 794 795 189 0 0 0 0 472 false 473 u u u u 796 189 797
def o5s:=(Obj.mk (.type (t 20)) none .plain #[some (r 474),some (r 3),some (r 471),none,some (f 55 566),none,some (r 0)])
def o5t:=sq 0 #[f 35 806,f 183 807]
def o5u:=fn 1 82 (aD (stm 37) 0)
def o5v:=co 1 803 82 804 805 191 2 0 0 3 476 true 477 u (r 478) (r 479) (r 480) 808 191 809
def o5w:=fo 16 1 82 (aD (stm 37) 0) 3 [] .none .none .none 55 566 481
def o5x:=sq 0 #[f 35 814,f 118 815]
def o5y:=fn 57 235 (aD (stm 37) 1)
def o5z:=co 57 811 235 812 813 195 2 0 0 3 483 true 484 u (r 485) (r 486) (r 487) 816 195 817
def o5A:=fo 16 57 235 (aD (stm 37) 1) 3 [] .none .none .none 55 566 488
def o5B:=sq 0 #[f 35 822,f 36 823,f 37 824,f 38 825]
def o5C:=fn 58 81 (aD (stm 37) 2)
def o5D:=co 58 819 81 820 821 198 4 0 0 3 490 true 491 u (r 492) (r 493) (r 494) 826 198 827
def o5E:=fo 16 58 81 (aD (stm 37) 2) 3 [] .none .none .none 55 566 495
def o5F:=sq 0 #[f 35 832,f 139 833,f 140 834,f 141 835]
def o5G:=fn 52 53 (aD (stm 37) 3)
def o5H:=co 52 829 53 830 831 201 4 0 0 3 497 true 498 u (r 499) (r 500) (r 501) 836 201 837
def o5I:=fo 16 52 53 (aD (stm 37) 3) 3 [] .none .none .none 55 566 502
def o5J:=sq 0 #[f 183 839]
def o5K:=di #[d 54 798 (f 55 566),d 56 802 (j 189 801),d 1 810 (r 482),d 57 818 (r 489),d 58 828 (r 496),d 52 838 (r 503),d 59 840 (r 504),d 11 841 .none] 2
def o5L:=(Obj.mk (.type (t 2)) none (.cls (ClassData.mk (s 149) [(r 311)] [(r 506),(r 311),(T 6)] 505 (s 149) true [] [] false none false)) #[some (r 469),none,some (f 149 791),some (f 149 799),some (bi 18),some (.bool true)])
def o5M:=ob 19 #[r 506,r 506,r 506]
def o5N:=ob 10 #[bi 11,r 506]
def o5O:=di #[d 9 165 (f 55 566),d 11 166 .none,d 12 167 .none,d 13 168 (bi 13),d 14 169 .none,d 15 170 (r 6),d 16 171 (r 4),d 17 173 (f 3 172),d 18 174 .none,d 19 193 (r 21),d 20 195 (f 21 194),d 22 197 (f 23 196),d 24 199 (f 25 198),d 26 201 (f 27 200),d 28 203 (f 29 202),d 7 223 (r 31),d 30 239 (r 44),d 31 255 (r 56),d 32 271 (r 68),d 64 287 (r 80),d 65 303 (r 92),d 66 319 (r 104),d 4 344 (r 124),d 67 370 (r 144),d 68 379 (r 153),d 69 388 (r 160),d 70 396 (r 167),d 71 400 (f 72 399),d 73 402 (j 8 401),d 74 408 (r 172),d 75 412 (f 76 411),d 77 414 (j 60 413),d 78 420 (r 177),d 79 426 (r 182),d 80 433 (r 189),d 131 565 (r 297),d 101 587 (r 311),d 146 631 (r 346),d 147 684 (r 386),d 122 737 (r 426),d 148 790 (r 466),d 149 843 (r 506),d 125 896 (r 546)] 43
def o5P:=fd #[i 1,i 0,r 20,i 10,i 0,r 27,i 12,i 0,r 40,i 14,i 0,r 52,i 16,i 0,r 64,i 18,i 0,r 76,i 20,i 0,r 88,i 22,i 0,r 100,i 24,i 0,r 112,i 28,i 0,r 132,i 33,i 0,r 152,i 35,i 0,r 159,i 37,i 0,r 166,i 42,i 0,r 171,i 49,i 0,r 176,i 53,i 0,r 181,i 57,i 0,r 188,i 61,i 0,r 195,i 134,i 0,r 307,i 136,i 0,r 321,i 146,i 0,r 354,i 160,i 0,r 394,i 174,i 0,r 434,i 189,i 0,r 474,i 203,i 0,r 514]
def o5Q:=(Obj.mk (.type (t 2)) none (.cls (ClassData.mk (s 101) [(T 6)] [(r 311),(T 6)] 310 (s 101) true [] [(r 346),(r 386),(r 426),(r 466),(r 506),(r 546)] false none false)) #[none,none,some (f 101 568),some (f 101 576),some (bi 18),some (.bool true)])
def o5R:=di #[d 54 851 (f 55 566),d 130 853 (f 125 852),d 56 855 (j 203 854),d 1 863 (r 522),d 57 871 (r 529),d 58 881 (r 536),d 52 891 (r 543),d 59 893 (r 544)] 8
def o5S:=fd #[i 205,i 4,r 521,i 209,i 4,r 528,i 212,i 4,r 535,i 215,i 4,r 542]
def o5T:=co 125 846 125 847 848 203 0 0 0 0 512 false 513 u u u u 849 203 850
def o5U:=(Obj.mk (.type (t 20)) none .plain #[some (r 514),some (r 3),some (r 511),none,some (f 55 566),none,some (r 0)])
def o5V:=sq 0 #[f 35 859,f 211 860]
def o5W:=fn 1 169 (aD (stm 38) 0)
def o5X:=co 1 856 169 857 858 205 2 0 0 3 516 true 517 u (r 518) (r 519) (r 520) 861 205 862
def o5Y:=fo 16 1 169 (aD (stm 38) 0) 3 [] .none .none .none 55 566 521
def o5Z:=sq 0 #[f 35 867,f 118 868]
def o60:=fn 57 215 (aD (stm 38) 1)
def o61:=co 57 864 215 865 866 209 2 0 0 3 523 true 524 u (r 525) (r 526) (r 527) 869 209 870
def o62:=fo 16 57 215 (aD (stm 38) 1) 3 [] .none .none .none 55 566 528
def o63:=sq 0 #[f 35 875,f 36 876,f 37 877,f 38 878]
def o64:=fn 58 213 (aD (stm 38) 2)
def o65:=co 58 872 213 873 874 212 4 0 0 3 530 true 531 u (r 532) (r 533) (r 534) 879 212 880
def o66:=fo 16 58 213 (aD (stm 38) 2) 3 [] .none .none .none 55 566 535
def o67:=sq 0 #[f 35 885,f 139 886,f 140 887,f 141 888]
def o68:=fn 52 138 (aD (stm 38) 3)
def o69:=co 52 882 138 883 884 215 4 0 0 3 537 true 538 u (r 539) (r 540) (r 541) 889 215 890
def o6a:=fo 16 52 138 (aD (stm 38) 3) 3 [] .none .none .none 55 566 542
def o6b:=sq 0 #[f 211 892]
def o6c:=di #[d 54 851 (f 55 566),d 56 855 (j 203 854),d 1 863 (r 522),d 57 871 (r 529),d 58 881 (r 536),d 52 891 (r 543),d 59 893 (r 544),d 11 894 .none] 2
def o6d:=(Obj.mk (.type (t 2)) none (.cls (ClassData.mk (s 125) [(r 311)] [(r 546),(r 311),(T 6)] 545 (s 125) true [] [] false none false)) #[some (r 509),none,some (f 125 844),some (f 125 852),some (bi 18),some (.bool true)])
def o6e:=ob 19 #[r 546,r 546,r 546]
def o6f:=ob 10 #[bi 11,r 546]
def o6g:=di #[d 9 165 (f 55 566),d 11 166 .none,d 12 167 .none,d 13 168 (bi 13),d 14 169 .none,d 15 170 (r 6),d 16 171 (r 4),d 17 173 (f 3 172),d 18 174 .none,d 19 193 (r 21),d 20 195 (f 21 194),d 22 197 (f 23 196),d 24 199 (f 25 198),d 26 201 (f 27 200),d 28 203 (f 29 202),d 7 223 (r 31),d 30 239 (r 44),d 31 255 (r 56),d 32 271 (r 68),d 64 287 (r 80),d 65 303 (r 92),d 66 319 (r 104),d 4 344 (r 124),d 67 370 (r 144),d 68 379 (r 153),d 69 388 (r 160),d 70 396 (r 167),d 71 400 (f 72 399),d 73 402 (j 8 401),d 74 408 (r 172),d 75 412 (f 76 411),d 77 414 (j 60 413),d 78 420 (r 177),d 79 426 (r 182),d 80 433 (r 189),d 131 565 (r 297),d 101 587 (r 311),d 146 631 (r 346),d 147 684 (r 386),d 122 737 (r 426),d 148 790 (r 466),d 149 843 (r 506),d 125 896 (r 546),d 150 949 (r 586),d 151 956 (r 595)] 45
def o6h:=fd #[i 1,i 0,r 20,i 10,i 0,r 27,i 12,i 0,r 40,i 14,i 0,r 52,i 16,i 0,r 64,i 18,i 0,r 76,i 20,i 0,r 88,i 22,i 0,r 100,i 24,i 0,r 112,i 28,i 0,r 132,i 33,i 0,r 152,i 35,i 0,r 159,i 37,i 0,r 166,i 42,i 0,r 171,i 49,i 0,r 176,i 53,i 0,r 181,i 57,i 0,r 188,i 61,i 0,r 195,i 134,i 0,r 307,i 136,i 0,r 321,i 146,i 0,r 354,i 160,i 0,r 394,i 174,i 0,r 434,i 189,i 0,r 474,i 203,i 0,r 514,i 217,i 0,r 554,i 231,i 0,r 594]
def o6i:=(Obj.mk (.type (t 2)) none (.cls (ClassData.mk (s 101) [(T 6)] [(r 311),(T 6)] 310 (s 101) true [] [(r 346),(r 386),(r 426),(r 466),(r 506),(r 546),(r 586)] false none false)) #[none,none,some (f 101 568),some (f 101 576),some (bi 18),some (.bool true)])
def o6j:=di #[d 54 904 (f 55 566),d 130 906 (f 150 905),d 56 908 (j 217 907),d 1 916 (r 562),d 57 924 (r 569),d 58 934 (r 576),d 52 944 (r 583),d 59 946 (r 584)] 8
def o6k:=fd #[i 219,i 4,r 561,i 223,i 4,r 568,i 226,i 4,r 575,i 229,i 4,r 582]
def o6l:=co 150 899 150 900 901 217 0 0 0 0 552 false 553 u u u u 902 217 903
def o6m:=(Obj.mk (.type (t 20)) none .plain #[some (r 554),some (r 3),some (r 551),none,some (f 55 566),none,some (r 0)])
def o6n:=sq 0 #[f 35 912,f 211 913]
def o6o:=fn 1 94 (aD (stm 39) 0)
def o6p:=co 1 909 94 910 911 219 2 0 0 3 556 true 557 u (r 558) (r 559) (r 560) 914 219 915
def o6q:=fo 16 1 94 (aD (stm 39) 0) 3 [] .none .none .none 55 566 561
def o6r:=sq 0 #[f 35 920,f 118 921]
def o6s:=fn 57 242 (aD (stm 39) 1)
def o6t:=co 57 917 242 918 919 223 2 0 0 3 563 true 564 u (r 565) (r 566) (r 567) 922 223 923
def o6u:=fo 16 57 242 (aD (stm 39) 1) 3 [] .none .none .none 55 566 568
def o6v:=sq 0 #[f 35 928,f 36 929,f 37 930,f 38 931]
def o6w:=fn 58 181 (aD (stm 39) 2)
def o6x:=co 58 925 181 926 927 226 4 0 0 3 570 true 571 u (r 572) (r 573) (r 574) 932 226 933
def o6y:=fo 16 58 181 (aD (stm 39) 2) 3 [] .none .none .none 55 566 575
def o6z:=sq 0 #[f 35 938,f 139 939,f 140 940,f 141 941]
def o6A:=fn 52 171 (aD (stm 39) 3)
def o6B:=co 52 935 171 936 937 229 4 0 0 3 577 true 578 u (r 579) (r 580) (r 581) 942 229 943
def o6C:=fo 16 52 171 (aD (stm 39) 3) 3 [] .none .none .none 55 566 582
def o6D:=sq 0 #[f 211 945]
def o6E:=di #[d 54 904 (f 55 566),d 56 908 (j 217 907),d 1 916 (r 562),d 57 924 (r 569),d 58 934 (r 576),d 52 944 (r 583),d 59 946 (r 584),d 11 947 .none] 2
def o6F:=(Obj.mk (.type (t 2)) none (.cls (ClassData.mk (s 150) [(r 311)] [(r 586),(r 311),(T 6)] 585 (s 150) true [] [] false none false)) #[some (r 549),none,some (f 150 897),some (f 150 905),some (bi 18),some (.bool true)])
def o6G:=ob 19 #[r 586,r 586,r 586]
def o6H:=ob 10 #[bi 11,r 586]
def o6I:=sq 0 #[f 6 953]
def o6J:=fn 151 151 (stm 40)
def o6K:=co 151 950 151 951 952 231 1 0 0 3 589 true 590 u (r 591) (r 592) (r 593) 954 231 955
def o6L:=fo 16 151 151 (stm 40) 3 [] .none .none .none 55 566 594
def o6M:=di #[d 9 165 (f 145 1020),d 11 166 .none,d 12 167 .none,d 13 168 (bi 13),d 14 169 .none,d 15 170 (r 6),d 16 171 (r 4),d 17 173 (f 3 172),d 18 174 .none,d 19 193 (r 21),d 20 195 (f 21 194),d 22 197 (f 23 196),d 24 199 (f 25 198),d 26 201 (f 27 200),d 28 203 (f 29 202),d 7 223 (r 31),d 30 239 (r 44),d 31 255 (r 56),d 32 271 (r 68),d 64 287 (r 80),d 65 303 (r 92),d 66 319 (r 104),d 4 344 (r 124),d 67 370 (r 144),d 68 379 (r 153),d 69 388 (r 160),d 70 396 (r 167),d 71 400 (f 72 399),d 73 402 (j 8 401),d 74 408 (r 172),d 75 412 (f 76 411),d 77 414 (j 60 413),d 78 420 (r 177),d 79 426 (r 182),d 80 433 (r 189),d 131 565 (r 297),d 101 587 (r 311),d 146 631 (r 346),d 147 684 (r 386),d 122 737 (r 426),d 148 790 (r 466),d 149 843 (r 506),d 125 896 (r 546),d 150 949 (r 586),d 151 956 (r 595),d 152 963 (r 602),d 121 971 (r 609),d 153 975 (j 60 974),d 154 977 (j 1440 976),d 155 984 (r 616),d 156 991 (r 623),d 157 998 (r 630),d 158 1005 (r 637),d 60 1012 (r 644),d 159 1019 (r 651)] 55
def o6N:=fd #[i 1,i 0,r 20,i 10,i 0,r 27,i 12,i 0,r 40,i 14,i 0,r 52,i 16,i 0,r 64,i 18,i 0,r 76,i 20,i 0,r 88,i 22,i 0,r 100,i 24,i 0,r 112,i 28,i 0,r 132,i 33,i 0,r 152,i 35,i 0,r 159,i 37,i 0,r 166,i 42,i 0,r 171,i 49,i 0,r 176,i 53,i 0,r 181,i 57,i 0,r 188,i 61,i 0,r 195,i 134,i 0,r 307,i 136,i 0,r 321,i 146,i 0,r 354,i 160,i 0,r 394,i 174,i 0,r 434,i 189,i 0,r 474,i 203,i 0,r 514,i 217,i 0,r 554,i 231,i 0,r 594,i 234,i 0,r 601,i 237,i 0,r 608,i 245,i 0,r 615,i 247,i 0,r 622,i 253,i 0,r 629,i 256,i 0,r 636,i 259,i 0,r 643,i 262,i 0,r 650]
def o6O:=sq 0 #[f 183 960]
def o6P:=fn 152 152 (stm 41)
def o6Q:=co 152 957 152 958 959 234 1 0 0 3 596 true 597 u (r 598) (r 599) (r 600) 961 234 962
def o6R:=fo 16 152 152 (stm 41) 3 [] .none .none .none 55 566 601
def o6S:=sq 0 #[f 211 967,f 183 968]
def o6T:=fn 121 121 (stm 42)
def o6U:=co 121 964 121 965 966 237 1 0 0 3 603 true 604 u (r 605) (r 606) (r 607) 969 237 970
def o6V:=fo 16 121 121 (stm 42) 3 [] .none .none .none 55 566 608
def o6W:=sq 0 #[f 89 981]
def o6X:=fn 155 155 (stm 46)
def o6Y:=co 155 978 155 979 980 245 1 0 0 3 610 true 611 u (r 612) (r 613) (r 614) 982 245 983
def o6Z:=fo 16 155 155 (stm 46) 3 [] .none .none .none 178 972 615
def o70:=sq 0 #[f 89 988]
def o71:=fn 156 156 (stm 47)
def o72:=co 156 985 156 986 987 247 1 0 0 3 617 true 618 u (r 619) (r 620) (r 621) 989 247 990
def o73:=fo 16 156 156 (stm 47) 3 [] .none .none .none 178 972 622
def o74:=sq 0 #[f 180 995]
def o75:=fn 157 157 (stm 48)
def o76:=co 157 992 157 993 994 253 1 0 0 3 624 true 625 u (r 626) (r 627) (r 628) 996 253 997
def o77:=fo 16 157 157 (stm 48) 3 [] .none .none .none 178 972 629
def o78:=sq 0 #[f 41 1002]
def o79:=fn 158 158 (stm 49)
def o7a:=co 158 999 158 1000 1001 256 1 0 0 3 631 true 632 u (r 633) (r 634) (r 635) 1003 256 1004
def o7b:=fo 16 158 158 (stm 49) 3 [] .none .none .none 178 972 636
def o7c:=sq 0 #[f 103 1009]
def o7d:=fn 60 60 (stm 50)
def o7e:=co 60 1006 60 1007 1008 259 1 0 0 3 638 true 639 u (r 640) (r 641) (r 642) 1010 259 1011
def o7f:=fo 16 60 60 (stm 50) 3 [] .none .none .none 178 972 643
def o7g:=sq 0 #[f 103 1016]
def o7h:=fn 159 159 (stm 51)
def o7i:=co 159 1013 159 1014 1015 262 1 0 0 3 645 true 646 u (r 647) (r 648) (r 649) 1017 262 1018
def o7j:=fo 16 159 159 (stm 51) 3 [] .none .none .none 178 972 650
def o7k:=di #[d 9 165 (f 145 1020),d 11 166 .none,d 12 167 .none,d 13 168 (bi 13),d 14 169 .none,d 15 170 (r 6),d 16 171 (r 4),d 17 173 (f 3 172),d 18 174 .none,d 19 193 (r 21),d 20 195 (f 21 194),d 22 197 (f 23 196),d 24 199 (f 25 198),d 26 201 (f 27 200),d 28 203 (f 29 202),d 7 223 (r 31),d 30 239 (r 44),d 31 255 (r 56),d 32 271 (r 68),d 64 287 (r 80),d 65 303 (r 92),d 66 319 (r 104),d 4 344 (r 124),d 67 370 (r 144),d 68 379 (r 153),d 69 388 (r 160),d 70 396 (r 167),d 71 400 (f 72 399),d 73 402 (j 8 401),d 74 408 (r 172),d 75 412 (f 76 411),d 77 414 (j 60 413),d 78 420 (r 177),d 79 426 (r 182),d 80 433 (r 189),d 131 565 (r 297),d 101 587 (r 311),d 146 631 (r 346),d 147 684 (r 386),d 122 737 (r 426),d 148 790 (r 466),d 149 843 (r 506),d 125 896 (r 546),d 150 949 (r 586),d 151 956 (r 595),d 152 963 (r 602),d 121 971 (r 609),d 153 975 (j 60 974),d 154 977 (j 1440 976),d 155 984 (r 616),d 156 991 (r 623),d 157 998 (r 630),d 158 1005 (r 637),d 60 1012 (r 644),d 159 1019 (r 651),d 160 1041 (r 661)] 56
def o7l:=fd #[i 1,i 0,r 20,i 10,i 0,r 27,i 12,i 0,r 40,i 14,i 0,r 52,i 16,i 0,r 64,i 18,i 0,r 76,i 20,i 0,r 88,i 22,i 0,r 100,i 24,i 0,r 112,i 28,i 0,r 132,i 33,i 0,r 152,i 35,i 0,r 159,i 37,i 0,r 166,i 42,i 0,r 171,i 49,i 0,r 176,i 53,i 0,r 181,i 57,i 0,r 188,i 61,i 0,r 195,i 134,i 0,r 307,i 136,i 0,r 321,i 146,i 0,r 354,i 160,i 0,r 394,i 174,i 0,r 434,i 189,i 0,r 474,i 203,i 0,r 514,i 217,i 0,r 554,i 231,i 0,r 594,i 234,i 0,r 601,i 237,i 0,r 608,i 245,i 0,r 615,i 247,i 0,r 622,i 253,i 0,r 629,i 256,i 0,r 636,i 259,i 0,r 643,i 262,i 0,r 650,i 266,i 0,r 657]
def o7m:=di #[d 54 1029 (f 145 1020),d 130 1031 (f 160 1030),d 56 1033 (j 266 1032),d 59 1034 (r 659)] 4
def o7n:=co 160 1024 160 1025 1026 266 0 0 0 0 655 false 656 u u u u 1027 266 1028
def o7o:=(Obj.mk (.type (t 20)) none .plain #[some (r 657),some (r 3),some (r 654),none,some (f 145 1020),none,some (r 0)])
def o7p:=di #[d 54 1029 (f 145 1020),d 56 1033 (j 266 1032),d 59 1034 (r 659),d 39 1036 (r 662),d 5 1038 (r 663),d 11 1039 .none] 4
def o7q:=(Obj.mk (.type (t 2)) none (.cls (ClassData.mk (s 160) [(T 6)] [(r 661),(T 6)] 660 (s 160) true [] [] false none false)) #[none,none,some (f 160 1022),some (f 160 1030),some (bi 18),some (.bool true)])
def o7r:=ob 8 #[f 39 1035,r 661,bi 14,bi 15]
def o7s:=ob 8 #[f 5 1037,r 661,bi 9,u]
def o7t:=ob 19 #[r 661,r 661,r 661]
def o7u:=ob 10 #[bi 11,r 661]
def o7v:=di #[d 9 165 (f 145 1020),d 11 166 .none,d 12 167 .none,d 13 168 (bi 13),d 14 169 .none,d 15 170 (r 6),d 16 171 (r 4),d 17 173 (f 3 172),d 18 174 .none,d 19 193 (r 21),d 20 195 (f 21 194),d 22 197 (f 23 196),d 24 199 (f 25 198),d 26 201 (f 27 200),d 28 203 (f 29 202),d 7 223 (r 31),d 30 239 (r 44),d 31 255 (r 56),d 32 271 (r 68),d 64 287 (r 80),d 65 303 (r 92),d 66 319 (r 104),d 4 344 (r 124),d 67 370 (r 144),d 68 379 (r 153),d 69 388 (r 160),d 70 396 (r 167),d 71 400 (f 72 399),d 73 402 (j 8 401),d 74 408 (r 172),d 75 412 (f 76 411),d 77 414 (j 60 413),d 78 420 (r 177),d 79 426 (r 182),d 80 433 (r 189),d 131 565 (r 297),d 101 587 (r 311),d 146 631 (r 346),d 147 684 (r 386),d 122 737 (r 426),d 148 790 (r 466),d 149 843 (r 506),d 125 896 (r 546),d 150 949 (r 586),d 151 956 (r 595),d 152 963 (r 602),d 121 971 (r 609),d 153 975 (j 60 974),d 154 977 (j 1440 976),d 155 984 (r 616),d 156 991 (r 623),d 157 998 (r 630),d 158 1005 (r 637),d 60 1012 (r 644),d 159 1019 (r 651),d 160 1041 (r 661),d 161 1073 (r 689)] 57
def o7w:=fd #[i 1,i 0,r 20,i 10,i 0,r 27,i 12,i 0,r 40,i 14,i 0,r 52,i 16,i 0,r 64,i 18,i 0,r 76,i 20,i 0,r 88,i 22,i 0,r 100,i 24,i 0,r 112,i 28,i 0,r 132,i 33,i 0,r 152,i 35,i 0,r 159,i 37,i 0,r 166,i 42,i 0,r 171,i 49,i 0,r 176,i 53,i 0,r 181,i 57,i 0,r 188,i 61,i 0,r 195,i 134,i 0,r 307,i 136,i 0,r 321,i 146,i 0,r 354,i 160,i 0,r 394,i 174,i 0,r 434,i 189,i 0,r 474,i 203,i 0,r 514,i 217,i 0,r 554,i 231,i 0,r 594,i 234,i 0,r 601,i 237,i 0,r 608,i 245,i 0,r 615,i 247,i 0,r 622,i 253,i 0,r 629,i 256,i 0,r 636,i 259,i 0,r 643,i 262,i 0,r 650,i 266,i 0,r 657,i 268,i 0,r 671]
def o7x:=(Obj.mk (.type (t 2)) none (.cls (ClassData.mk (s 160) [(T 6)] [(r 661),(T 6)] 660 (s 160) true [] [(r 689)] false none false)) #[none,none,some (f 160 1022),some (f 160 1030),some (bi 18),some (.bool true)])
def o7y:=sq 0 #[r 661]
def o7z:=di #[d 54 1049 (f 145 1020),d 130 1051 (f 161 1050),d 56 1053 (j 268 1052),d 174 1062 (r 679),d 192 1069 (r 686),d 59 1070 (r 687)] 6
def o7A:=fd #[i 270,i 4,r 678,i 273,i 4,r 685]
def o7B:=co 161 1044 161 1045 1046 268 0 0 0 0 669 false 670 u u u u 1047 268 1048
def o7C:=(Obj.mk (.type (t 20)) none .plain #[some (r 671),some (r 3),some (r 668),none,some (f 145 1020),none,some (r 0)])
def o7D:=sq 0 #[f 35 1057,f 179 1058,f 180 1059]
def o7E:=fn 174 175 (aD (stm 54) 0)
def o7F:=co 174 1054 175 1055 1056 270 3 0 0 3 673 true 674 u (r 675) (r 676) (r 677) 1060 270 1061
def o7G:=fo 16 174 175 (aD (stm 54) 0) 3 [] .none .none .none 145 1020 678
def o7H:=sq 0 #[f 35 1066]
def o7I:=fn 192 249 (aD (stm 54) 1)
def o7J:=co 192 1063 249 1064 1065 273 1 0 0 3 680 true 681 u (r 682) (r 683) (r 684) 1067 273 1068
def o7K:=fo 16 192 249 (aD (stm 54) 1) 3 [] .none .none .none 145 1020 685
def o7L:=di #[d 54 1049 (f 145 1020),d 56 1053 (j 268 1052),d 174 1062 (r 679),d 192 1069 (r 686),d 59 1070 (r 687),d 11 1071 .none] 2
def o7M:=(Obj.mk (.type (t 2)) none (.cls (ClassData.mk (s 161) [(r 661)] [(r 689),(r 661),(T 6)] 688 (s 161) true [] [] false none false)) #[some (r 666),none,some (f 161 1042),some (f 161 1050),some (bi 18),some (.bool true)])
def o7N:=ob 19 #[r 689,r 689,r 689]
def o7O:=ob 10 #[bi 11,r 689]
def o7P:=di #[d 9 165 (f 145 1020),d 11 166 .none,d 12 167 .none,d 13 168 (bi 13),d 14 169 .none,d 15 170 (r 6),d 16 171 (r 4),d 17 173 (f 3 172),d 18 174 .none,d 19 193 (r 21),d 20 195 (f 21 194),d 22 197 (f 23 196),d 24 199 (f 25 198),d 26 201 (f 27 200),d 28 203 (f 29 202),d 7 223 (r 31),d 30 239 (r 44),d 31 255 (r 56),d 32 271 (r 68),d 64 287 (r 80),d 65 303 (r 92),d 66 319 (r 104),d 4 344 (r 124),d 67 370 (r 144),d 68 379 (r 153),d 69 388 (r 160),d 70 396 (r 167),d 71 400 (f 72 399),d 73 402 (j 8 401),d 74 408 (r 172),d 75 412 (f 76 411),d 77 414 (j 60 413),d 78 420 (r 177),d 79 426 (r 182),d 80 433 (r 189),d 131 565 (r 297),d 101 587 (r 311),d 146 631 (r 346),d 147 684 (r 386),d 122 737 (r 426),d 148 790 (r 466),d 149 843 (r 506),d 125 896 (r 546),d 150 949 (r 586),d 151 956 (r 595),d 152 963 (r 602),d 121 971 (r 609),d 153 975 (j 60 974),d 154 977 (j 1440 976),d 155 984 (r 616),d 156 991 (r 623),d 157 998 (r 630),d 158 1005 (r 637),d 60 1012 (r 644),d 159 1019 (r 651),d 160 1041 (r 661),d 161 1073 (r 689),d 8 1114 (r 722)] 58
def o7Q:=fd #[i 1,i 0,r 20,i 10,i 0,r 27,i 12,i 0,r 40,i 14,i 0,r 52,i 16,i 0,r 64,i 18,i 0,r 76,i 20,i 0,r 88,i 22,i 0,r 100,i 24,i 0,r 112,i 28,i 0,r 132,i 33,i 0,r 152,i 35,i 0,r 159,i 37,i 0,r 166,i 42,i 0,r 171,i 49,i 0,r 176,i 53,i 0,r 181,i 57,i 0,r 188,i 61,i 0,r 195,i 134,i 0,r 307,i 136,i 0,r 321,i 146,i 0,r 354,i 160,i 0,r 394,i 174,i 0,r 434,i 189,i 0,r 474,i 203,i 0,r 514,i 217,i 0,r 554,i 231,i 0,r 594,i 234,i 0,r 601,i 237,i 0,r 608,i 245,i 0,r 615,i 247,i 0,r 622,i 253,i 0,r 629,i 256,i 0,r 636,i 259,i 0,r 643,i 262,i 0,r 650,i 266,i 0,r 657,i 268,i 0,r 671,i 275,i 0,r 697]
def o7R:=(Obj.mk (.type (t 2)) none (.cls (ClassData.mk (s 160) [(T 6)] [(r 661),(T 6)] 660 (s 160) true [] [(r 689),(r 722)] false none false)) #[none,none,some (f 160 1022),some (f 160 1030),some (bi 18),some (.bool true)])
def o7S:=di #[d 54 1081 (f 145 1020),d 130 1083 (f 8 1082),d 56 1085 (j 275 1084),d 1 1093 (r 705),d 174 1102 (r 712),d 192 1109 (r 719),d 59 1111 (r 720)] 7
def o7T:=fd #[i 277,i 4,r 704,i 281,i 4,r 711,i 284,i 4,r 718]
def o7U:=co 8 1076 8 1077 1078 275 0 0 0 0 695 false 696 u u u u 1079 275 1080
def o7V:=(Obj.mk (.type (t 20)) none .plain #[some (r 697),some (r 3),some (r 694),none,some (f 145 1020),none,some (r 0)])
def o7W:=sq 0 #[f 35 1089,f 103 1090]
def o7X:=fn 1 221 (aD (stm 55) 0)
def o7Y:=co 1 1086 221 1087 1088 277 2 0 0 3 699 true 700 u (r 701) (r 702) (r 703) 1091 277 1092
def o7Z:=fo 16 1 221 (aD (stm 55) 0) 3 [] .none .none .none 145 1020 704
def o80:=sq 0 #[f 35 1097,f 179 1098,f 180 1099]
def o81:=fn 174 230 (aD (stm 55) 1)
def o82:=co 174 1094 230 1095 1096 281 3 0 0 3 706 true 707 u (r 708) (r 709) (r 710) 1100 281 1101
def o83:=fo 16 174 230 (aD (stm 55) 1) 3 [] .none .none .none 145 1020 711
def o84:=sq 0 #[f 35 1106]
def o85:=fn 192 234 (aD (stm 55) 2)
def o86:=co 192 1103 234 1104 1105 284 1 0 0 3 713 true 714 u (r 715) (r 716) (r 717) 1107 284 1108
def o87:=fo 16 192 234 (aD (stm 55) 2) 3 [] .none .none .none 145 1020 718
def o88:=sq 0 #[f 103 1110]
def o89:=di #[d 54 1081 (f 145 1020),d 56 1085 (j 275 1084),d 1 1093 (r 705),d 174 1102 (r 712),d 192 1109 (r 719),d 59 1111 (r 720),d 11 1112 .none] 2
def o8a:=(Obj.mk (.type (t 2)) none (.cls (ClassData.mk (s 8) [(r 661)] [(r 722),(r 661),(T 6)] 721 (s 8) true [] [] false none false)) #[some (r 692),none,some (f 8 1074),some (f 8 1082),some (bi 18),some (.bool true)])
def o8b:=ob 19 #[r 722,r 722,r 722]
def o8c:=ob 10 #[bi 11,r 722]
def o8d:=di #[d 9 165 (f 145 1020),d 11 166 .none,d 12 167 .none,d 13 168 (bi 13),d 14 169 .none,d 15 170 (r 6),d 16 171 (r 4),d 17 173 (f 3 172),d 18 174 .none,d 19 193 (r 21),d 20 195 (f 21 194),d 22 197 (f 23 196),d 24 199 (f 25 198),d 26 201 (f 27 200),d 28 203 (f 29 202),d 7 223 (r 31),d 30 239 (r 44),d 31 255 (r 56),d 32 271 (r 68),d 64 287 (r 80),d 65 303 (r 92),d 66 319 (r 104),d 4 344 (r 124),d 67 370 (r 144),d 68 379 (r 153),d 69 388 (r 160),d 70 396 (r 167),d 71 400 (f 72 399),d 73 402 (j 8 401),d 74 408 (r 172),d 75 412 (f 76 411),d 77 414 (j 60 413),d 78 420 (r 177),d 79 426 (r 182),d 80 433 (r 189),d 131 565 (r 297),d 101 587 (r 311),d 146 631 (r 346),d 147 684 (r 386),d 122 737 (r 426),d 148 790 (r 466),d 149 843 (r 506),d 125 896 (r 546),d 150 949 (r 586),d 151 956 (r 595),d 152 963 (r 602),d 121 971 (r 609),d 153 975 (j 60 974),d 154 977 (j 1440 976),d 155 984 (r 616),d 156 991 (r 623),d 157 998 (r 630),d 158 1005 (r 637),d 60 1012 (r 644),d 159 1019 (r 651),d 160 1041 (r 661),d 161 1073 (r 689),d 8 1114 (r 722),d 120 1155 (r 755)] 59
def o8e:=fd #[i 1,i 0,r 20,i 10,i 0,r 27,i 12,i 0,r 40,i 14,i 0,r 52,i 16,i 0,r 64,i 18,i 0,r 76,i 20,i 0,r 88,i 22,i 0,r 100,i 24,i 0,r 112,i 28,i 0,r 132,i 33,i 0,r 152,i 35,i 0,r 159,i 37,i 0,r 166,i 42,i 0,r 171,i 49,i 0,r 176,i 53,i 0,r 181,i 57,i 0,r 188,i 61,i 0,r 195,i 134,i 0,r 307,i 136,i 0,r 321,i 146,i 0,r 354,i 160,i 0,r 394,i 174,i 0,r 434,i 189,i 0,r 474,i 203,i 0,r 514,i 217,i 0,r 554,i 231,i 0,r 594,i 234,i 0,r 601,i 237,i 0,r 608,i 245,i 0,r 615,i 247,i 0,r 622,i 253,i 0,r 629,i 256,i 0,r 636,i 259,i 0,r 643,i 262,i 0,r 650,i 266,i 0,r 657,i 268,i 0,r 671,i 275,i 0,r 697,i 286,i 0,r 730]
def o8f:=(Obj.mk (.type (t 2)) none (.cls (ClassData.mk (s 160) [(T 6)] [(r 661),(T 6)] 660 (s 160) true [] [(r 689),(r 722),(r 755)] false none false)) #[none,none,some (f 160 1022),some (f 160 1030),some (bi 18),some (.bool true)])
def o8g:=di #[d 54 1122 (f 145 1020),d 130 1124 (f 120 1123),d 56 1126 (j 286 1125),d 1 1134 (r 738),d 174 1143 (r 745),d 192 1150 (r 752),d 59 1152 (r 753)] 7
def o8h:=fd #[i 288,i 4,r 737,i 292,i 4,r 744,i 295,i 4,r 751]
def o8i:=co 120 1117 120 1118 1119 286 0 0 0 0 728 false 729 u u u u 1120 286 1121
def o8j:=(Obj.mk (.type (t 20)) none .plain #[some (r 730),some (r 3),some (r 727),none,some (f 145 1020),none,some (r 0)])
def o8k:=sq 0 #[f 35 1130,f 103 1131]
def o8l:=fn 1 143 (aD (stm 56) 0)
def o8m:=co 1 1127 143 1128 1129 288 2 0 0 3 732 true 733 u (r 734) (r 735) (r 736) 1132 288 1133
def o8n:=fo 16 1 143 (aD (stm 56) 0) 3 [] .none .none .none 145 1020 737
def o8o:=sq 0 #[f 35 1138,f 179 1139,f 180 1140]
def o8p:=fn 174 191 (aD (stm 56) 1)
def o8q:=co 174 1135 191 1136 1137 292 3 0 0 3 739 true 740 u (r 741) (r 742) (r 743) 1141 292 1142
def o8r:=fo 16 174 191 (aD (stm 56) 1) 3 [] .none .none .none 145 1020 744
def o8s:=sq 0 #[f 35 1147]
def o8t:=fn 192 236 (aD (stm 56) 2)
def o8u:=co 192 1144 236 1145 1146 295 1 0 0 3 746 true 747 u (r 748) (r 749) (r 750) 1148 295 1149
def o8v:=fo 16 192 236 (aD (stm 56) 2) 3 [] .none .none .none 145 1020 751
def o8w:=sq 0 #[f 103 1151]
def o8x:=di #[d 54 1122 (f 145 1020),d 56 1126 (j 286 1125),d 1 1134 (r 738),d 174 1143 (r 745),d 192 1150 (r 752),d 59 1152 (r 753),d 11 1153 .none] 2
def o8y:=(Obj.mk (.type (t 2)) none (.cls (ClassData.mk (s 120) [(r 661)] [(r 755),(r 661),(T 6)] 754 (s 120) true [] [] false none false)) #[some (r 725),none,some (f 120 1115),some (f 120 1123),some (bi 18),some (.bool true)])
def o8z:=ob 19 #[r 755,r 755,r 755]
def o8A:=ob 10 #[bi 11,r 755]
def o8B:=di #[d 9 165 (f 96 1188),d 11 166 .none,d 12 167 .none,d 13 168 (bi 13),d 14 169 .none,d 15 170 (r 6),d 16 171 (r 4),d 17 173 (f 3 172),d 18 174 .none,d 19 193 (r 21),d 20 195 (f 21 194),d 22 197 (f 23 196),d 24 199 (f 25 198),d 26 201 (f 27 200),d 28 203 (f 29 202),d 7 223 (r 31),d 30 239 (r 44),d 31 255 (r 56),d 32 271 (r 68),d 64 287 (r 80),d 65 303 (r 92),d 66 319 (r 104),d 4 344 (r 124),d 67 370 (r 144),d 68 379 (r 153),d 69 388 (r 160),d 70 396 (r 167),d 71 400 (f 72 399),d 73 402 (j 8 401),d 74 408 (r 172),d 75 412 (f 76 411),d 77 414 (j 60 413),d 78 420 (r 177),d 79 426 (r 182),d 80 433 (r 189),d 131 565 (r 297),d 101 587 (r 311),d 146 631 (r 346),d 147 684 (r 386),d 122 737 (r 426),d 148 790 (r 466),d 149 843 (r 506),d 125 896 (r 546),d 150 949 (r 586),d 151 956 (r 595),d 152 963 (r 602),d 121 971 (r 609),d 153 975 (j 60 974),d 154 977 (j 1440 976),d 155 984 (r 616),d 156 991 (r 623),d 157 998 (r 630),d 158 1005 (r 637),d 60 1012 (r 644),d 159 1019 (r 651),d 160 1041 (r 661),d 161 1073 (r 689),d 8 1114 (r 722),d 120 1155 (r 755),d 162 1187 (r 781)] 60
def o8C:=fd #[i 1,i 0,r 20,i 10,i 0,r 27,i 12,i 0,r 40,i 14,i 0,r 52,i 16,i 0,r 64,i 18,i 0,r 76,i 20,i 0,r 88,i 22,i 0,r 100,i 24,i 0,r 112,i 28,i 0,r 132,i 33,i 0,r 152,i 35,i 0,r 159,i 37,i 0,r 166,i 42,i 0,r 171,i 49,i 0,r 176,i 53,i 0,r 181,i 57,i 0,r 188,i 61,i 0,r 195,i 134,i 0,r 307,i 136,i 0,r 321,i 146,i 0,r 354,i 160,i 0,r 394,i 174,i 0,r 434,i 189,i 0,r 474,i 203,i 0,r 514,i 217,i 0,r 554,i 231,i 0,r 594,i 234,i 0,r 601,i 237,i 0,r 608,i 245,i 0,r 615,i 247,i 0,r 622,i 253,i 0,r 629,i 256,i 0,r 636,i 259,i 0,r 643,i 262,i 0,r 650,i 266,i 0,r 657,i 268,i 0,r 671,i 275,i 0,r 697,i 286,i 0,r 730,i 297,i 0,r 763]
def o8D:=(Obj.mk (.type (t 2)) none (.cls (ClassData.mk (s 160) [(T 6)] [(r 661),(T 6)] 660 (s 160) true [] [(r 689),(r 722),(r 755),(r 781)] false none false)) #[none,none,some (f 160 1022),some (f 160 1030),some (bi 18),some (.bool true)])
def o8E:=di #[d 54 1163 (f 145 1020),d 130 1165 (f 162 1164),d 56 1167 (j 297 1166),d 174 1176 (r 771),d 192 1183 (r 778),d 59 1184 (r 779)] 6
def o8F:=fd #[i 299,i 4,r 770,i 302,i 4,r 777]
def o8G:=co 162 1158 162 1159 1160 297 0 0 0 0 761 false 762 u u u u 1161 297 1162
def o8H:=(Obj.mk (.type (t 20)) none .plain #[some (r 763),some (r 3),some (r 760),none,some (f 145 1020),none,some (r 0)])
def o8I:=sq 0 #[f 35 1171,f 179 1172,f 180 1173]
def o8J:=fn 174 200 (aD (stm 57) 0)
def o8K:=co 174 1168 200 1169 1170 299 3 0 0 3 765 true 766 u (r 767) (r 768) (r 769) 1174 299 1175
def o8L:=fo 16 174 200 (aD (stm 57) 0) 3 [] .none .none .none 145 1020 770
def o8M:=sq 0 #[f 35 1180]
def o8N:=fn 192 217 (aD (stm 57) 1)
def o8O:=co 192 1177 217 1178 1179 302 1 0 0 3 772 true 773 u (r 774) (r 775) (r 776) 1181 302 1182
def o8P:=fo 16 192 217 (aD (stm 57) 1) 3 [] .none .none .none 145 1020 777
def o8Q:=di #[d 54 1163 (f 145 1020),d 56 1167 (j 297 1166),d 174 1176 (r 771),d 192 1183 (r 778),d 59 1184 (r 779),d 11 1185 .none] 2
def o8R:=(Obj.mk (.type (t 2)) none (.cls (ClassData.mk (s 162) [(r 661)] [(r 781),(r 661),(T 6)] 780 (s 162) true [] [] false none false)) #[some (r 758),none,some (f 162 1156),some (f 162 1164),some (bi 18),some (.bool true)])
def o8S:=ob 19 #[r 781,r 781,r 781]
def o8T:=ob 10 #[bi 11,r 781]
def o8U:=di #[d 9 165 (f 96 1188),d 11 166 .none,d 12 167 .none,d 13 168 (bi 13),d 14 169 .none,d 15 170 (r 6),d 16 171 (r 4),d 17 173 (f 3 172),d 18 174 .none,d 19 193 (r 21),d 20 195 (f 21 194),d 22 197 (f 23 196),d 24 199 (f 25 198),d 26 201 (f 27 200),d 28 203 (f 29 202),d 7 223 (r 31),d 30 239 (r 44),d 31 255 (r 56),d 32 271 (r 68),d 64 287 (r 80),d 65 303 (r 92),d 66 319 (r 104),d 4 344 (r 124),d 67 370 (r 144),d 68 379 (r 153),d 69 388 (r 160),d 70 396 (r 167),d 71 400 (f 72 399),d 73 402 (j 8 401),d 74 408 (r 172),d 75 412 (f 76 411),d 77 414 (j 60 413),d 78 420 (r 177),d 79 426 (r 182),d 80 433 (r 189),d 131 565 (r 297),d 101 587 (r 311),d 146 631 (r 346),d 147 684 (r 386),d 122 737 (r 426),d 148 790 (r 466),d 149 843 (r 506),d 125 896 (r 546),d 150 949 (r 586),d 151 956 (r 595),d 152 963 (r 602),d 121 971 (r 609),d 153 975 (j 60 974),d 154 977 (j 1440 976),d 155 984 (r 616),d 156 991 (r 623),d 157 998 (r 630),d 158 1005 (r 637),d 60 1012 (r 644),d 159 1019 (r 651),d 160 1041 (r 661),d 161 1073 (r 689),d 8 1114 (r 722),d 120 1155 (r 755),d 162 1187 (r 781),d 132 1222 (r 801)] 61
def o8V:=fd #[i 1,i 0,r 20,i 10,i 0,r 27,i 12,i 0,r 40,i 14,i 0,r 52,i 16,i 0,r 64,i 18,i 0,r 76,i 20,i 0,r 88,i 22,i 0,r 100,i 24,i 0,r 112,i 28,i 0,r 132,i 33,i 0,r 152,i 35,i 0,r 159,i 37,i 0,r 166,i 42,i 0,r 171,i 49,i 0,r 176,i 53,i 0,r 181,i 57,i 0,r 188,i 61,i 0,r 195,i 134,i 0,r 307,i 136,i 0,r 321,i 146,i 0,r 354,i 160,i 0,r 394,i 174,i 0,r 434,i 189,i 0,r 474,i 203,i 0,r 514,i 217,i 0,r 554,i 231,i 0,r 594,i 234,i 0,r 601,i 237,i 0,r 608,i 245,i 0,r 615,i 247,i 0,r 622,i 253,i 0,r 629,i 256,i 0,r 636,i 259,i 0,r 643,i 262,i 0,r 650,i 266,i 0,r 657,i 268,i 0,r 671,i 275,i 0,r 697,i 286,i 0,r 730,i 297,i 0,r 763,i 305,i 0,r 789]
def o8W:=di #[d 54 1197 (f 96 1188),d 130 1199 (f 132 1198),d 56 1201 (j 305 1200),d 1 1211 (r 798),d 59 1215 (r 799)] 5
def o8X:=fd #[i 307,i 4,r 797]
def o8Y:=co 132 1192 132 1193 1194 305 0 0 0 0 787 false 788 u u u u 1195 305 1196
def o8Z:=(Obj.mk (.type (t 20)) none .plain #[some (r 789),some (r 3),some (r 786),none,some (f 96 1188),none,some (r 0)])
def o90:=sq 0 #[f 35 1205,f 256 1206,f 257 1207,f 258 1208]
def o91:=fn 1 172 (aD (stm 59) 0)
def o92:=co 1 1202 172 1203 1204 307 4 0 0 3 792 true 793 u (r 794) (r 795) (r 796) 1209 307 1210
def o93:=fo 16 1 172 (aD (stm 59) 0) 3 [] (r 791) .none .none 96 1188 797
def o94:=sq 0 #[f 256 1212,f 257 1213,f 258 1214]
def o95:=di #[d 54 1197 (f 96 1188),d 56 1201 (j 305 1200),d 1 1211 (r 798),d 59 1215 (r 799),d 39 1217 (r 802),d 5 1219 (r 803),d 11 1220 .none] 4
def o96:=(Obj.mk (.type (t 2)) none (.cls (ClassData.mk (s 132) [(T 6)] [(r 801),(T 6)] 800 (s 132) true [] [] false none false)) #[none,none,some (f 132 1190),some (f 132 1198),some (bi 18),some (.bool true)])
def o97:=ob 8 #[f 39 1216,r 801,bi 14,bi 15]
def o98:=ob 8 #[f 5 1218,r 801,bi 9,u]
def o99:=ob 19 #[r 801,r 801,r 801]
def o9a:=ob 10 #[bi 11,r 801]
def o9b:=di #[d 9 165 (f 96 1188),d 11 166 .none,d 12 167 .none,d 13 168 (bi 13),d 14 169 .none,d 15 170 (r 6),d 16 171 (r 4),d 17 173 (f 3 172),d 18 174 .none,d 19 193 (r 21),d 20 195 (f 21 194),d 22 197 (f 23 196),d 24 199 (f 25 198),d 26 201 (f 27 200),d 28 203 (f 29 202),d 7 223 (r 31),d 30 239 (r 44),d 31 255 (r 56),d 32 271 (r 68),d 64 287 (r 80),d 65 303 (r 92),d 66 319 (r 104),d 4 344 (r 124),d 67 370 (r 144),d 68 379 (r 153),d 69 388 (r 160),d 70 396 (r 167),d 71 400 (f 72 399),d 73 402 (j 8 401),d 74 408 (r 172),d 75 412 (f 76 411),d 77 414 (j 60 413),d 78 420 (r 177),d 79 426 (r 182),d 80 433 (r 189),d 131 565 (r 297),d 101 587 (r 311),d 146 631 (r 346),d 147 684 (r 386),d 122 737 (r 426),d 148 790 (r 466),d 149 843 (r 506),d 125 896 (r 546),d 150 949 (r 586),d 151 956 (r 595),d 152 963 (r 602),d 121 971 (r 609),d 153 975 (j 60 974),d 154 977 (j 1440 976),d 155 984 (r 616),d 156 991 (r 623),d 157 998 (r 630),d 158 1005 (r 637),d 60 1012 (r 644),d 159 1019 (r 651),d 160 1041 (r 661),d 161 1073 (r 689),d 8 1114 (r 722),d 120 1155 (r 755),d 162 1187 (r 781),d 132 1222 (r 801),d 100 1259 (r 823),d 163 1269 (r 834)] 63
def o9c:=fd #[i 1,i 0,r 20,i 10,i 0,r 27,i 12,i 0,r 40,i 14,i 0,r 52,i 16,i 0,r 64,i 18,i 0,r 76,i 20,i 0,r 88,i 22,i 0,r 100,i 24,i 0,r 112,i 28,i 0,r 132,i 33,i 0,r 152,i 35,i 0,r 159,i 37,i 0,r 166,i 42,i 0,r 171,i 49,i 0,r 176,i 53,i 0,r 181,i 57,i 0,r 188,i 61,i 0,r 195,i 134,i 0,r 307,i 136,i 0,r 321,i 146,i 0,r 354,i 160,i 0,r 394,i 174,i 0,r 434,i 189,i 0,r 474,i 203,i 0,r 514,i 217,i 0,r 554,i 231,i 0,r 594,i 234,i 0,r 601,i 237,i 0,r 608,i 245,i 0,r 615,i 247,i 0,r 622,i 253,i 0,r 629,i 256,i 0,r 636,i 259,i 0,r 643,i 262,i 0,r 650,i 266,i 0,r 657,i 268,i 0,r 671,i 275,i 0,r 697,i 286,i 0,r 730,i 297,i 0,r 763,i 305,i 0,r 789,i 317,i 0,r 811,i 336,i 0,r 833]
def o9d:=di #[d 54 1230 (f 96 1188),d 130 1232 (f 100 1231),d 56 1234 (j 317 1233),d 1 1246 (r 820),d 59 1252 (r 821)] 5
def o9e:=fd #[i 319,i 4,r 819]
def o9f:=co 100 1225 100 1226 1227 317 0 0 0 0 809 false 810 u u u u 1228 317 1229
def o9g:=(Obj.mk (.type (t 20)) none .plain #[some (r 811),some (r 3),some (r 808),none,some (f 96 1188),none,some (r 0)])
def o9h:=sq 0 #[.bool false,u]
def o9i:=sq 0 #[f 35 1238,f 183 1239,f 184 1240,f 185 1241,f 186 1242,f 187 1243]
def o9j:=fn 1 233 (aD (stm 60) 0)
def o9k:=co 1 1235 233 1236 1237 319 6 0 0 3 814 true 815 u (r 816) (r 817) (r 818) 1244 319 1245
def o9l:=fo 16 1 233 (aD (stm 60) 0) 3 [] (r 813) .none .none 96 1188 819
def o9m:=sq 0 #[f 183 1247,f 187 1248,f 185 1249,f 186 1250,f 184 1251]
def o9n:=di #[d 54 1230 (f 96 1188),d 56 1234 (j 317 1233),d 1 1246 (r 820),d 59 1252 (r 821),d 39 1254 (r 824),d 5 1256 (r 825),d 11 1257 .none] 4
def o9o:=(Obj.mk (.type (t 2)) none (.cls (ClassData.mk (s 100) [(T 6)] [(r 823),(T 6)] 822 (s 100) true [] [] false none false)) #[none,none,some (f 100 1223),some (f 100 1231),some (bi 18),some (.bool true)])
def o9p:=ob 8 #[f 39 1253,r 823,bi 14,bi 15]
def o9q:=ob 8 #[f 5 1255,r 823,bi 9,u]
def o9r:=ob 19 #[r 823,r 823,r 823]
def o9s:=ob 10 #[bi 11,r 823]
def o9t:=sq 0 #[f 184 1263,f 185 1264,f 186 1265,f 187 1266]
def o9u:=fn 163 163 (stm 61)
def o9v:=co 163 1260 163 1261 1262 336 4 0 0 3 828 true 829 u (r 830) (r 831) (r 832) 1267 336 1268
def o9w:=fo 16 163 163 (stm 61) 3 [] .none .none .none 96 1188 833
def o9x:=di #[d 9 165 (f 96 1188),d 11 166 .none,d 12 167 .none,d 13 168 (bi 13),d 14 169 .none,d 15 170 (r 6),d 16 171 (r 4),d 17 173 (f 3 172),d 18 174 .none,d 19 193 (r 21),d 20 195 (f 21 194),d 22 197 (f 23 196),d 24 199 (f 25 198),d 26 201 (f 27 200),d 28 203 (f 29 202),d 7 223 (r 31),d 30 239 (r 44),d 31 255 (r 56),d 32 271 (r 68),d 64 287 (r 80),d 65 303 (r 92),d 66 319 (r 104),d 4 344 (r 124),d 67 370 (r 144),d 68 379 (r 153),d 69 388 (r 160),d 70 396 (r 167),d 71 400 (f 72 399),d 73 402 (j 8 401),d 74 408 (r 172),d 75 412 (f 76 411),d 77 414 (j 60 413),d 78 420 (r 177),d 79 426 (r 182),d 80 433 (r 189),d 131 565 (r 297),d 101 587 (r 311),d 146 631 (r 346),d 147 684 (r 386),d 122 737 (r 426),d 148 790 (r 466),d 149 843 (r 506),d 125 896 (r 546),d 150 949 (r 586),d 151 956 (r 595),d 152 963 (r 602),d 121 971 (r 609),d 153 975 (j 60 974),d 154 977 (j 1440 976),d 155 984 (r 616),d 156 991 (r 623),d 157 998 (r 630),d 158 1005 (r 637),d 60 1012 (r 644),d 159 1019 (r 651),d 160 1041 (r 661),d 161 1073 (r 689),d 8 1114 (r 722),d 120 1155 (r 755),d 162 1187 (r 781),d 132 1222 (r 801),d 100 1259 (r 823),d 163 1269 (r 834),d 164 1336 (r 880),d 165 1344 (r 891)] 65
def o9y:=fd #[i 1,i 0,r 20,i 10,i 0,r 27,i 12,i 0,r 40,i 14,i 0,r 52,i 16,i 0,r 64,i 18,i 0,r 76,i 20,i 0,r 88,i 22,i 0,r 100,i 24,i 0,r 112,i 28,i 0,r 132,i 33,i 0,r 152,i 35,i 0,r 159,i 37,i 0,r 166,i 42,i 0,r 171,i 49,i 0,r 176,i 53,i 0,r 181,i 57,i 0,r 188,i 61,i 0,r 195,i 134,i 0,r 307,i 136,i 0,r 321,i 146,i 0,r 354,i 160,i 0,r 394,i 174,i 0,r 434,i 189,i 0,r 474,i 203,i 0,r 514,i 217,i 0,r 554,i 231,i 0,r 594,i 234,i 0,r 601,i 237,i 0,r 608,i 245,i 0,r 615,i 247,i 0,r 622,i 253,i 0,r 629,i 256,i 0,r 636,i 259,i 0,r 643,i 262,i 0,r 650,i 266,i 0,r 657,i 268,i 0,r 671,i 275,i 0,r 697,i 286,i 0,r 730,i 297,i 0,r 763,i 305,i 0,r 789,i 317,i 0,r 811,i 336,i 0,r 833,i 342,i 0,r 840,i 365,i 0,r 890]
def o9z:=di #[d 54 1277 (f 96 1188),d 130 1279 (f 164 1278),d 56 1281 (j 342 1280),d 1 1293 (r 849),d 188 1301 (r 856),d 250 1309 (r 863),d 33 1317 (r 870),d 240 1324 (r 877),d 59 1329 (r 878)] 9
def o9A:=fd #[i 344,i 4,r 848,i 354,i 4,r 855,i 357,i 4,r 862,i 360,i 4,r 869,i 363,i 4,r 876]
def o9B:=co 164 1272 164 1273 1274 342 0 0 0 0 838 false 839 u u u u 1275 342 1276
def o9C:=(Obj.mk (.type (t 20)) none .plain #[some (r 840),some (r 3),some (r 837),none,some (f 96 1188),none,some (r 0)])
def o9D:=sq 0 #[j 0 1282,u,u,u]
def o9E:=sq 0 #[f 35 1286,f 180 1287,f 41 1288,f 40 1289,f 219 1290]
def o9F:=fn 1 222 (aD (stm 62) 0)
def o9G:=co 1 1283 222 1284 1285 344 5 0 0 3 843 true 844 u (r 845) (r 846) (r 847) 1291 344 1292
def o9H:=fo 16 1 222 (aD (stm 62) 0) 3 [] (r 842) .none .none 96 1188 848
def o9I:=sq 0 #[f 35 1297,f 118 1298]
def o9J:=fn 188 189 (aD (stm 62) 1)
def o9K:=co 188 1294 189 1295 1296 354 2 0 0 3 850 true 851 u (r 852) (r 853) (r 854) 1299 354 1300
def o9L:=fo 16 188 189 (aD (stm 62) 1) 3 [] .none .none .none 96 1188 855
def o9M:=sq 0 #[f 35 1305,f 118 1306]
def o9N:=fn 250 251 (aD (stm 62) 2)
def o9O:=co 250 1302 251 1303 1304 357 2 0 0 3 857 true 858 u (r 859) (r 860) (r 861) 1307 357 1308
def o9P:=fo 16 250 251 (aD (stm 62) 2) 3 [] .none .none .none 96 1188 862
def o9Q:=sq 0 #[f 35 1313,f 239 1314]
def o9R:=fn 33 34 (aD (stm 62) 3)
def o9S:=co 33 1310 34 1311 1312 360 2 0 0 3 864 true 865 u (r 866) (r 867) (r 868) 1315 360 1316
def o9T:=fo 16 33 34 (aD (stm 62) 3) 3 [] .none .none .none 96 1188 869
def o9U:=sq 0 #[f 35 1321]
def o9V:=fn 240 241 (aD (stm 62) 4)
def o9W:=co 240 1318 241 1319 1320 363 1 0 0 3 871 true 872 u (r 873) (r 874) (r 875) 1322 363 1323
def o9X:=fo 16 240 241 (aD (stm 62) 4) 3 [] .none .none .none 96 1188 876
def o9Y:=sq 0 #[f 219 1325,f 41 1326,f 40 1327,f 180 1328]
def o9Z:=di #[d 54 1277 (f 96 1188),d 56 1281 (j 342 1280),d 1 1293 (r 849),d 188 1301 (r 856),d 250 1309 (r 863),d 33 1317 (r 870),d 240 1324 (r 877),d 59 1329 (r 878),d 39 1331 (r 881),d 5 1333 (r 882),d 11 1334 .none] 4
def oa0:=(Obj.mk (.type (t 2)) none (.cls (ClassData.mk (s 164) [(T 6)] [(r 880),(T 6)] 879 (s 164) true [] [] false none false)) #[none,none,some (f 164 1270),some (f 164 1278),some (bi 18),some (.bool true)])
def oa1:=ob 8 #[f 39 1330,r 880,bi 14,bi 15]
def oa2:=ob 8 #[f 5 1332,r 880,bi 9,u]
def oa3:=ob 19 #[r 880,r 880,r 880]
def oa4:=ob 10 #[bi 11,r 880]
def oa5:=sq 0 #[f 40 1340,f 41 1341]
def oa6:=fn 165 165 (stm 63)
def oa7:=co 165 1337 165 1338 1339 365 2 0 0 3 885 true 886 u (r 887) (r 888) (r 889) 1342 365 1343
def oa8:=fo 16 165 165 (stm 63) 3 [] .none .none .none 96 1188 890
def oa9:=di #[d 9 165 (f 135 1351),d 11 166 .none,d 12 167 .none,d 13 168 (bi 13),d 14 169 .none,d 15 170 (r 6),d 16 171 (r 4),d 17 173 (f 3 172),d 18 174 .none,d 19 193 (r 21),d 20 195 (f 21 194),d 22 197 (f 23 196),d 24 199 (f 25 198),d 26 201 (f 27 200),d 28 203 (f 29 202),d 7 223 (r 31),d 30 239 (r 44),d 31 255 (r 56),d 32 271 (r 68),d 64 287 (r 80),d 65 303 (r 92),d 66 319 (r 104),d 4 344 (r 124),d 67 370 (r 144),d 68 379 (r 153),d 69 388 (r 160),d 70 396 (r 167),d 71 400 (f 72 399),d 73 402 (j 8 401),d 74 408 (r 172),d 75 412 (f 76 411),d 77 414 (j 60 413),d 78 420 (r 177),d 79 426 (r 182),d 80 433 (r 189),d 131 565 (r 297),d 101 587 (r 311),d 146 631 (r 346),d 147 684 (r 386),d 122 737 (r 426),d 148 790 (r 466),d 149 843 (r 506),d 125 896 (r 546),d 150 949 (r 586),d 151 956 (r 595),d 152 963 (r 602),d 121 971 (r 609),d 153 975 (j 60 974),d 154 977 (j 1440 976),d 155 984 (r 616),d 156 991 (r 623),d 157 998 (r 630),d 158 1005 (r 637),d 60 1012 (r 644),d 159 1019 (r 651),d 160 1041 (r 661),d 161 1073 (r 689),d 8 1114 (r 722),d 120 1155 (r 755),d 162 1187 (r 781),d 132 1222 (r 801),d 100 1259 (r 823),d 163 1269 (r 834),d 164 1336 (r 880),d 165 1344 (r 891),d 102 1350 (r 896),d 51 1359 (r 903),d 166 1369 (r 910),d 167 1399 (r 927),d 168 1408 (r 938),d 136 1417 (r 945)] 71
def oaa:=fd #[i 1,i 0,r 20,i 10,i 0,r 27,i 12,i 0,r 40,i 14,i 0,r 52,i 16,i 0,r 64,i 18,i 0,r 76,i 20,i 0,r 88,i 22,i 0,r 100,i 24,i 0,r 112,i 28,i 0,r 132,i 33,i 0,r 152,i 35,i 0,r 159,i 37,i 0,r 166,i 42,i 0,r 171,i 49,i 0,r 176,i 53,i 0,r 181,i 57,i 0,r 188,i 61,i 0,r 195,i 134,i 0,r 307,i 136,i 0,r 321,i 146,i 0,r 354,i 160,i 0,r 394,i 174,i 0,r 434,i 189,i 0,r 474,i 203,i 0,r 514,i 217,i 0,r 554,i 231,i 0,r 594,i 234,i 0,r 601,i 237,i 0,r 608,i 245,i 0,r 615,i 247,i 0,r 622,i 253,i 0,r 629,i 256,i 0,r 636,i 259,i 0,r 643,i 262,i 0,r 650,i 266,i 0,r 657,i 268,i 0,r 671,i 275,i 0,r 697,i 286,i 0,r 730,i 297,i 0,r 763,i 305,i 0,r 789,i 317,i 0,r 811,i 336,i 0,r 833,i 342,i 0,r 840,i 365,i 0,r 890,i 370,i 0,r 895,i 376,i 0,r 902,i 378,i 0,r 909,i 386,i 0,r 916,i 391,i 0,r 937,i 397,i 0,r 944]
def oab:=fn 102 102 (stm 64)
def oac:=co 102 1345 102 1346 1347 370 1 0 0 3 892 true 893 u u u (r 894) 1348 370 1349
def oad:=fo 16 102 102 (stm 64) 3 [] .none .none .none 96 1188 895
def oae:=sq 0 #[f 197 1356]
def oaf:=fn 51 51 (stm 66)
def oag:=co 51 1353 51 1354 1355 376 1 0 0 3 897 true 898 u (r 899) (r 900) (r 901) 1357 376 1358
def oah:=fo 16 51 51 (stm 66) 3 [] .none .none .none 135 1351 902
def oai:=sq 0 #[f 197 1363,f 206 1364,f 182 1365,f 207 1366]
def oaj:=fn 166 166 (stm 67)
def oak:=co 166 1360 166 1361 1362 378 2 0 0 3 904 true 905 u (r 906) (r 907) (r 908) 1367 378 1368
def oal:=fo 16 166 166 (stm 67) 3 [] .none .none .none 135 1351 909
def oam:=di #[d 54 1377 (f 135 1351),d 130 1379 (f 167 1378),d 56 1381 (j 386 1380),d 1 1389 (r 924),d 59 1392 (r 925)] 5
def oan:=fd #[i 388,i 4,r 923]
def oao:=co 167 1372 167 1373 1374 386 0 0 0 0 914 false 915 u u u u 1375 386 1376
def oap:=(Obj.mk (.type (t 20)) none .plain #[some (r 916),some (r 3),some (r 913),none,some (f 135 1351),none,some (r 0)])
def oaq:=sq 0 #[f 35 1385,f 196 1386]
def oar:=fn 1 193 (aD (stm 68) 0)
def oas:=co 1 1382 193 1383 1384 388 2 0 0 3 918 true 919 u (r 920) (r 921) (r 922) 1387 388 1388
def oat:=fo 16 1 193 (aD (stm 68) 0) 3 [] .none .none .none 135 1351 923
def oau:=sq 0 #[f 195 1390,f 196 1391]
def oav:=di #[d 54 1377 (f 135 1351),d 56 1381 (j 386 1380),d 1 1389 (r 924),d 59 1392 (r 925),d 39 1394 (r 928),d 5 1396 (r 929),d 11 1397 .none] 4
def oaw:=(Obj.mk (.type (t 2)) none (.cls (ClassData.mk (s 167) [(T 6)] [(r 927),(T 6)] 926 (s 167) true [] [] false none false)) #[none,none,some (f 167 1370),some (f 167 1378),some (bi 18),some (.bool true)])
def oax:=ob 8 #[f 39 1393,r 927,bi 14,bi 15]
def oay:=ob 8 #[f 5 1395,r 927,bi 9,u]
def oaz:=ob 19 #[r 927,r 927,r 927]
def oaA:=ob 10 #[bi 11,r 927]
def oaB:=sq 0 #[f 182 1403,f 199 1404,f 183 1405]
def oaC:=fn 168 168 (stm 69)
def oaD:=co 168 1400 168 1401 1402 391 1 0 0 3 932 true 933 u (r 934) (r 935) (r 936) 1406 391 1407
def oaE:=fo 16 168 168 (stm 69) 3 [] .none .none .none 135 1351 937
def oaF:=sq 0 #[f 182 1412,f 199 1413,f 99 1414]
def oaG:=fn 136 136 (stm 70)
def oaH:=co 136 1409 136 1410 1411 397 2 0 0 3 939 true 940 u (r 941) (r 942) (r 943) 1415 397 1416
def oaI:=fo 16 136 136 (stm 70) 3 [] .none .none .none 135 1351 944
def oaJ:=di #[d 9 165 (f 87 1488),d 11 166 .none,d 12 167 .none,d 13 168 (bi 13),d 14 169 .none,d 15 170 (r 6),d 16 171 (r 4),d 17 173 (f 3 172),d 18 174 .none,d 19 193 (r 21),d 20 195 (f 21 194),d 22 197 (f 23 196),d 24 199 (f 25 198),d 26 201 (f 27 200),d 28 203 (f 29 202),d 7 223 (r 31),d 30 239 (r 44),d 31 255 (r 56),d 32 271 (r 68),d 64 287 (r 80),d 65 303 (r 92),d 66 319 (r 104),d 4 344 (r 124),d 67 370 (r 144),d 68 379 (r 153),d 69 388 (r 160),d 70 396 (r 167),d 71 400 (f 72 399),d 73 402 (j 8 401),d 74 408 (r 172),d 75 412 (f 76 411),d 77 414 (j 60 413),d 78 420 (r 177),d 79 426 (r 182),d 80 433 (r 189),d 131 565 (r 297),d 101 587 (r 311),d 146 631 (r 346),d 147 684 (r 386),d 122 737 (r 426),d 148 790 (r 466),d 149 843 (r 506),d 125 896 (r 546),d 150 949 (r 586),d 151 956 (r 595),d 152 963 (r 602),d 121 971 (r 609),d 153 975 (j 60 974),d 154 977 (j 1440 976),d 155 984 (r 616),d 156 991 (r 623),d 157 998 (r 630),d 158 1005 (r 637),d 60 1012 (r 644),d 159 1019 (r 651),d 160 1041 (r 661),d 161 1073 (r 689),d 8 1114 (r 722),d 120 1155 (r 755),d 162 1187 (r 781),d 132 1222 (r 801),d 100 1259 (r 823),d 163 1269 (r 834),d 164 1336 (r 880),d 165 1344 (r 891),d 102 1350 (r 896),d 51 1359 (r 903),d 166 1369 (r 910),d 167 1399 (r 927),d 168 1408 (r 938),d 136 1417 (r 945),d 226 1427 (r 952),d 190 1436 (r 959),d 0 1443 (r 966),d 176 1451 (r 973),d 201 1461 (r 980),d 173 1473 (r 1015),d 227 1474 (r 987),d 134 1487 (r 994),d 61 1501 (r 1001),d 220 1511 (r 1008),d 228 1519 (r 1015),d 229 1531 (r 1022)] 83
def oaK:=fd #[i 1,i 0,r 20,i 10,i 0,r 27,i 12,i 0,r 40,i 14,i 0,r 52,i 16,i 0,r 64,i 18,i 0,r 76,i 20,i 0,r 88,i 22,i 0,r 100,i 24,i 0,r 112,i 28,i 0,r 132,i 33,i 0,r 152,i 35,i 0,r 159,i 37,i 0,r 166,i 42,i 0,r 171,i 49,i 0,r 176,i 53,i 0,r 181,i 57,i 0,r 188,i 61,i 0,r 195,i 134,i 0,r 307,i 136,i 0,r 321,i 146,i 0,r 354,i 160,i 0,r 394,i 174,i 0,r 434,i 189,i 0,r 474,i 203,i 0,r 514,i 217,i 0,r 554,i 231,i 0,r 594,i 234,i 0,r 601,i 237,i 0,r 608,i 245,i 0,r 615,i 247,i 0,r 622,i 253,i 0,r 629,i 256,i 0,r 636,i 259,i 0,r 643,i 262,i 0,r 650,i 266,i 0,r 657,i 268,i 0,r 671,i 275,i 0,r 697,i 286,i 0,r 730,i 297,i 0,r 763,i 305,i 0,r 789,i 317,i 0,r 811,i 336,i 0,r 833,i 342,i 0,r 840,i 365,i 0,r 890,i 370,i 0,r 895,i 376,i 0,r 902,i 378,i 0,r 909,i 386,i 0,r 916,i 391,i 0,r 937,i 397,i 0,r 944,i 411,i 0,r 951,i 420,i 0,r 958,i 428,i 0,r 965,i 436,i 0,r 972,i 447,i 0,r 979,i 452,i 0,r 986,i 464,i 0,r 993,i 482,i 0,r 1000,i 494,i 0,r 1007,i 499,i 0,r 1014,i 506,i 0,r 1021]
def oaL:=sq 0 #[f 183 1421,f 182 1422,f 199 1423,f 218 1424]
def oaM:=fn 226 226 (stm 71)
def oaN:=co 226 1418 226 1419 1420 411 3 0 0 3 946 true 947 u (r 948) (r 949) (r 950) 1425 411 1426
def oaO:=fo 16 226 226 (stm 71) 3 [] .none .none .none 135 1351 951
def oaP:=sq 0 #[f 263 1431,f 182 1432,f 99 1433]
def oaQ:=fn 190 190 (stm 72)
def oaR:=co 190 1428 190 1429 1430 420 2 0 0 3 953 true 954 u (r 955) (r 956) (r 957) 1434 420 1435
def oaS:=fo 16 190 190 (stm 72) 3 [] .none .none .none 135 1351 958
def oaT:=sq 0 #[f 199 1440]
def oaU:=fn 0 0 (stm 73)
def oaV:=co 0 1437 0 1438 1439 428 1 0 0 3 960 true 961 u (r 962) (r 963) (r 964) 1441 428 1442
def oaW:=fo 16 0 0 (stm 73) 3 [] .none .none .none 135 1351 965
def oaX:=sq 0 #[f 182 1447,f 99 1448]
def oaY:=fn 176 176 (stm 74)
def oaZ:=co 176 1444 176 1445 1446 436 1 0 0 3 967 true 968 u (r 969) (r 970) (r 971) 1449 436 1450
def ob0:=fo 16 176 176 (stm 74) 3 [] .none .none .none 135 1351 972
def ob1:=sq 0 #[f 182 1455,f 256 1456,f 257 1457,f 258 1458]
def ob2:=fn 201 201 (stm 75)
def ob3:=co 201 1452 201 1453 1454 447 1 0 0 3 974 true 975 u (r 976) (r 977) (r 978) 1459 447 1460
def ob4:=fo 16 201 201 (stm 75) 3 [] .none .none .none 135 1351 979
def ob5:=sq 0 #[f 182 1465,f 183 1466,f 184 1467,f 185 1468,f 186 1469,f 187 1470]
def ob6:=fn 173 173 (stm 82)
def oz6:=fn 173 173 (stm 76)
def ob7:=co 173 1462 173 1463 1464 452 1 0 0 3 981 true 982 u (r 983) (r 984) (r 985) 1471 452 1472
def ob8:=fo 16 173 173 (stm 76) 3 [] .none .none .none 135 1351 986
def ob9:=sq 0 #[f 182 1478,f 180 1479,f 41 1480,f 40 1481,f 265 1482,f 266 1483,f 219 1484]
def oba:=fn 134 134 (stm 78)
def obb:=co 134 1475 134 1476 1477 464 1 0 0 3 988 true 989 u (r 990) (r 991) (r 992) 1485 464 1486
def obc:=fo 16 134 134 (stm 78) 3 [] .none .none .none 135 1351 993
def obd:=sq 0 #[f 197 1493,f 268 1494,f 219 1495,f 239 1496,f 269 1497,f 62 1498]
def obe:=fn 61 61 (stm 80)
def obf:=co 61 1490 61 1491 1492 482 1 0 0 3 995 true 996 u (r 997) (r 998) (r 999) 1499 482 1500
def obg:=fo 16 61 61 (stm 80) 3 [] .none .none .none 87 1488 1000
def obh:=sq 0 #[f 197 1505,f 206 1506,f 182 1507,f 62 1508]
def obi:=fn 220 220 (stm 81)
def obj:=co 220 1502 220 1503 1504 494 2 0 0 3 1002 true 1003 u (r 1004) (r 1005) (r 1006) 1509 494 1510
def obk:=fo 16 220 220 (stm 81) 3 [] .none .none .none 87 1488 1007
def obl:=sq 0 #[f 182 1515]
def obm:=co 173 1512 173 1513 1514 499 1 0 0 3 1009 true 1010 u (r 1011) (r 1012) (r 1013) 1516 499 1517
def obn:=fo 16 173 173 (stm 82) 3 [] .none .none .none 87 1488 1014
def obo:=sq 0 #[f 182 1523,f 179 1524,f 253 1525,f 99 1526,f 254 1527,f 255 1528]
def obp:=fn 229 229 (stm 84)
def obq:=co 229 1520 229 1521 1522 506 1 0 0 3 1016 true 1017 u (r 1018) (r 1019) (r 1020) 1529 506 1530
def obr:=fo 16 229 229 (stm 84) 3 [] .none .none .none 87 1488 1021
def obs:=di #[d 9 165 (f 93 1557),d 11 166 .none,d 12 167 .none,d 13 168 (bi 13),d 14 169 .none,d 15 170 (r 6),d 16 171 (r 4),d 17 173 (f 3 172),d 18 174 .none,d 19 193 (r 21),d 20 195 (f 21 194),d 22 197 (f 23 196),d 24 199 (f 25 198),d 26 201 (f 27 200),d 28 203 (f 29 202),d 7 223 (r 31),d 30 239 (r 44),d 31 255 (r 56),d 32 271 (r 68),d 64 287 (r 80),d 65 303 (r 92),d 66 319 (r 104),d 4 344 (r 124),d 67 370 (r 144),d 68 379 (r 153),d 69 388 (r 160),d 70 396 (r 167),d 71 400 (f 72 399),d 73 402 (j 8 401),d 74 408 (r 172),d 75 412 (f 76 411),d 77 414 (j 60 413),d 78 420 (r 177),d 79 426 (r 182),d 80 433 (r 189),d 131 565 (r 297),d 101 587 (r 311),d 146 631 (r 346),d 147 684 (r 386),d 122 737 (r 426),d 148 790 (r 466),d 149 843 (r 506),d 125 896 (r 546),d 150 949 (r 586),d 151 956 (r 595),d 152 963 (r 602),d 121 971 (r 609),d 153 975 (j 60 974),d 154 977 (j 1440 976),d 155 984 (r 616),d 156 991 (r 623),d 157 998 (r 630),d 158 1005 (r 637),d 60 1012 (r 644),d 159 1019 (r 651),d 160 1041 (r 661),d 161 1073 (r 689),d 8 1114 (r 722),d 120 1155 (r 755),d 162 1187 (r 781),d 132 1222 (r 801),d 100 1259 (r 823),d 163 1269 (r 834),d 164 1336 (r 880),d 165 1344 (r 891),d 102 1350 (r 896),d 51 1359 (r 903),d 166 1369 (r 910),d 167 1399 (r 927),d 168 1408 (r 938),d 136 1417 (r 945),d 226 1427 (r 952),d 190 1436 (r 959),d 0 1443 (r 966),d 176 1451 (r 973),d 201 1461 (r 980),d 173 1473 (r 1015),d 227 1474 (r 987),d 134 1487 (r 994),d 61 1501 (r 1001),d 220 1511 (r 1008),d 228 1519 (r 1015),d 229 1531 (r 1022),d 86 1540 (r 1029),d 198 1548 (r 1036),d 95 1556 (r 1043),d 209 1566 (r 1050),d 245 1573 (r 1057),d 92 1583 (r 1064),d 117 1591 (r 1071),d 170 1599 (r 1078),d 223 1608 (r 1085),d 137 1623 (r 1092)] 93
def obt:=fd #[i 1,i 0,r 20,i 10,i 0,r 27,i 12,i 0,r 40,i 14,i 0,r 52,i 16,i 0,r 64,i 18,i 0,r 76,i 20,i 0,r 88,i 22,i 0,r 100,i 24,i 0,r 112,i 28,i 0,r 132,i 33,i 0,r 152,i 35,i 0,r 159,i 37,i 0,r 166,i 42,i 0,r 171,i 49,i 0,r 176,i 53,i 0,r 181,i 57,i 0,r 188,i 61,i 0,r 195,i 134,i 0,r 307,i 136,i 0,r 321,i 146,i 0,r 354,i 160,i 0,r 394,i 174,i 0,r 434,i 189,i 0,r 474,i 203,i 0,r 514,i 217,i 0,r 554,i 231,i 0,r 594,i 234,i 0,r 601,i 237,i 0,r 608,i 245,i 0,r 615,i 247,i 0,r 622,i 253,i 0,r 629,i 256,i 0,r 636,i 259,i 0,r 643,i 262,i 0,r 650,i 266,i 0,r 657,i 268,i 0,r 671,i 275,i 0,r 697,i 286,i 0,r 730,i 297,i 0,r 763,i 305,i 0,r 789,i 317,i 0,r 811,i 336,i 0,r 833,i 342,i 0,r 840,i 365,i 0,r 890,i 370,i 0,r 895,i 376,i 0,r 902,i 378,i 0,r 909,i 386,i 0,r 916,i 391,i 0,r 937,i 397,i 0,r 944,i 411,i 0,r 951,i 420,i 0,r 958,i 428,i 0,r 965,i 436,i 0,r 972,i 447,i 0,r 979,i 452,i 0,r 986,i 464,i 0,r 993,i 482,i 0,r 1000,i 494,i 0,r 1007,i 499,i 0,r 1014,i 506,i 0,r 1021,i 515,i 0,r 1028,i 520,i 0,r 1035,i 535,i 0,r 1042,i 540,i 0,r 1049,i 544,i 0,r 1056,i 546,i 0,r 1063,i 556,i 0,r 1070,i 562,i 0,r 1077,i 578,i 0,r 1084,i 588,i 0,r 1091]
def obu:=sq 0 #[f 182 1535,f 231 1536,f 232 1537]
def obv:=fn 86 86 (stm 85)
def obw:=co 86 1532 86 1533 1534 515 1 0 0 3 1023 true 1024 u (r 1025) (r 1026) (r 1027) 1538 515 1539
def obx:=fo 16 86 86 (stm 85) 3 [] .none .none .none 87 1488 1028
def oby:=sq 0 #[f 182 1544,f 99 1545]
def obz:=fn 198 198 (stm 86)
def obA:=co 198 1541 198 1542 1543 520 1 0 0 3 1030 true 1031 u (r 1032) (r 1033) (r 1034) 1546 520 1547
def obB:=fo 16 198 198 (stm 86) 3 [] .none .none .none 87 1488 1035
def obC:=sq 0 #[f 182 1552,f 197 1553]
def obD:=fn 95 95 (stm 87)
def obE:=co 95 1549 95 1550 1551 535 1 0 0 3 1037 true 1038 u (r 1039) (r 1040) (r 1041) 1554 535 1555
def obF:=fo 16 95 95 (stm 87) 3 [] .none .none .none 87 1488 1042
def obG:=sq 0 #[f 42 1562,f 244 1563]
def obH:=fn 209 209 (stm 89)
def obI:=co 209 1559 209 1560 1561 540 2 0 0 3 1044 true 1045 u (r 1046) (r 1047) (r 1048) 1564 540 1565
def obJ:=fo 16 209 209 (stm 89) 3 [] .none .none .none 93 1557 1049
def obK:=sq 0 #[f 44 1570]
def obL:=fn 245 245 (stm 90)
def obM:=co 245 1567 245 1568 1569 544 1 0 0 3 1051 true 1052 u (r 1053) (r 1054) (r 1055) 1571 544 1572
def obN:=fo 16 245 245 (stm 90) 3 [] .none .none .none 93 1557 1056
def obO:=sq 0 #[f 45 1577,f 270 1578,f 261 1579,f 271 1580]
def obP:=fn 92 92 (stm 91)
def obQ:=co 92 1574 92 1575 1576 546 2 0 0 3 1058 true 1059 u (r 1060) (r 1061) (r 1062) 1581 546 1582
def obR:=fo 16 92 92 (stm 91) 3 [] .none .none .none 93 1557 1063
def obS:=sq 0 #[f 45 1587,f 264 1588]
def obT:=fn 117 117 (stm 92)
def obU:=co 117 1584 117 1585 1586 556 1 0 0 3 1065 true 1066 u (r 1067) (r 1068) (r 1069) 1589 556 1590
def obV:=fo 16 117 117 (stm 92) 3 [] .none .none .none 93 1557 1070
def obW:=sq 0 #[f 45 1595,f 264 1596]
def obX:=fn 170 170 (stm 93)
def obY:=co 170 1592 170 1593 1594 562 1 0 0 3 1072 true 1073 u (r 1074) (r 1075) (r 1076) 1597 562 1598
def obZ:=fo 16 170 170 (stm 93) 3 [] .none .none .none 93 1557 1077
def oc0:=sq 0 #[f 49 1603,f 261 1604,f 262 1605]
def oc1:=fn 223 223 (stm 94)
def oc2:=co 223 1600 223 1601 1602 578 1 0 0 3 1079 true 1080 u (r 1081) (r 1082) (r 1083) 1606 578 1607
def oc3:=fo 16 223 223 (stm 94) 3 [] .none .none .none 93 1557 1084
def oc4:=sq 0 #[f 42 1612,f 43 1613,f 44 1614,f 45 1615,f 46 1616,f 47 1617,f 48 1618,f 49 1619,f 50 1620]
def oc5:=fn 137 137 (stm 95)
def oc6:=co 137 1609 137 1610 1611 588 1 0 0 3 1086 true 1087 u (r 1088) (r 1089) (r 1090) 1621 588 1622
def oc7:=fo 16 137 137 (stm 95) 3 [] .none .none .none 93 1557 1091
def oc8:=(Obj.mk .none none (.dict #[] 0) #[])
def b0:Obj:=boot_o_0 c.P
def b1:Obj:=boot_o_1 c.P
def b2:Obj:=boot_o_2 c.P
def b3:Obj:=boot_o_3 c.P
def b4:Obj:=boot_o_4 c.P
def b5:Obj:=boot_o_5 c.P
def b6:Obj:=boot_o_6 c.P
def b7:Obj:=boot_o_7 c.P
def b8:Obj:=boot_o_8 c.P
def b9:Obj:=boot_o_9 c.P
def b10:Obj:=boot_o_10 c.P
def q00:BT:=(N o0n (N o2U L L) (N o4m L L))
def q01:BT:=(N o0b (N o00 L L) L)
def q02:BT:=(N o1X (N o3d L L) L)
def q03:BT:=(N o2C (N o43 L L) L)
def q04:BT:=(N o1N (N o33 L L) L)
def q05:BT:=(N o00 (N o3Q L L) L)
def q06:BT:=(N o28 (N o0b L L) L)
def q07:BT:=(N o00 (N o4c L L) L)
def q08:BT:=(N o00 (N o00 L L) L)
def q09:BT:=(N o2o (N o3L L L) L)
def q0a:BT:=(N o22 (N o3i L L) L)
def q0b:BT:=(N o2H (N o00 L L) L)
def q0c:BT:=(N o1S (N o38 L L) L)
def q0d:BT:=(N o2x (N o3V L L) L)
def q0e:BT:=(N o01 (N o4h L L) L)
def q0f:BT:=(N o1E (N o2X L L) (N o4q L L))
def q0g:BT:=(N o2m (N o00 L L) L)
def q0h:BT:=(N o1Z (N o00 L L) L)
def q0i:BT:=(N o2E (N o46 L L) L)
def q0j:BT:=(N o00 (N o01 L L) L)
def q0k:BT:=(N o00 (N o3S L L) L)
def q0l:BT:=(N o01 (N o3u L L) L)
def q0m:BT:=(N o2N (N o01 L L) L)
def q0n:BT:=(N o1J (N o00 L L) L)
def q0o:BT:=(N o2r (N o01 L L) L)
def q0p:BT:=(N o24 (N o3m L L) L)
def q0q:BT:=(N o01 (N o3a L L) L)
def q0r:BT:=(N o01 (N o3Y L L) L)
def q0s:BT:=(N o2f (N o3B L L) L)
def q0t:BT:=(N o2S (N o4j L L) L)
def q0u:BT:=(N o1D (N o2V L L) (N o4o L L))
def q0v:BT:=(N o00 (N o3I L L) L)
def q0w:BT:=(N o00 (N o44 L L) L)
def q0x:BT:=(N o1P (N o35 L L) L)
def q0y:BT:=(N o2u (N o00 L L) L)
def q0z:BT:=(N o2a (N o00 L L) L)
def q0A:BT:=(N o2M (N o4e L L) L)
def q0B:BT:=(N o1I (N o30 L L) L)
def q0C:BT:=(N o2p (N o3N L L) L)
def q0D:BT:=(N o01 (N o3k L L) L)
def q0E:BT:=(N o01 (N o49 L L) L)
def q0F:BT:=(N o1U (N o00 L L) L)
def q0G:BT:=(N o2z (N o3W L L) L)
def q0H:BT:=(N o2e (N o3z L L) L)
def q0I:BT:=(N o1G (N o01 L L) L)
def q0J:BT:=(N o00 (N o3K L L) L)
def q0K:BT:=(N o20 (N o3g L L) L)
def q0L:BT:=(N o2F (N o01 L L) L)
def q0M:BT:=(N o1R (N o00 L L) L)
def q0N:BT:=(N o2w (N o3T L L) L)
def q0O:BT:=(N o2c (N o00 L L) L)
def q0P:BT:=(N o2P (N o00 L L) L)
def q0Q:BT:=(N o1L (N o32 L L) L)
def q0R:BT:=(N o01 (N o00 L L) L)
def q0S:BT:=(N o00 (N o3o L L) L)
def q0T:BT:=(N o2K (N o4b L L) L)
def q0U:BT:=(N o00 (N o3b L L) L)
def q0V:BT:=(N o00 (N o3F L L) L)
def q0W:BT:=(N o2h (N o0b L L) L)
def q0X:BT:=(N o00 (N o4k L L) L)
def q0Y:BT:=(N o0b (N o00 L L) (N o4n L L))
def q0Z:BT:=(N o2k (N o3H L L) L)
def q10:BT:=(N o1Y (N o00 L L) L)
def q11:BT:=(N o2D (N o00 L L) L)
def q12:BT:=(N o1O (N o34 L L) L)
def q13:BT:=(N o2t (N o3R L L) L)
def q14:BT:=(N o29 (N o3t L L) L)
def q15:BT:=(N o01 (N o4d L L) L)
def q16:BT:=(N o01 (N o2Z L L) L)
def q17:BT:=(N o00 (N o3M L L) L)
def q18:BT:=(N o00 (N o3j L L) L)
def q19:BT:=(N o00 (N o48 L L) L)
def q1a:BT:=(N o1T (N o39 L L) L)
def q1b:BT:=(N o2y (N o00 L L) L)
def q1c:BT:=(N o01 (N o3y L L) L)
def q1d:BT:=(N o2Q (N o4i L L) L)
def q1e:BT:=(N o1F (N o00 L L) (N o4r L L))
def q1f:BT:=(N o2n (N o01 L L) L)
def q1g:BT:=(N o00 (N o3f L L) L)
def q1h:BT:=(N o01 (N o36 L L) L)
def q1i:BT:=(N o2b (N o3v L L) L)
def q1j:BT:=(N o2O (N o4f L L) L)
def q1k:BT:=(N o1K (N o01 L L) L)
def q1l:BT:=(N o00 (N o3O L L) L)
def q1m:BT:=(N o25 (N o3n L L) L)
def q1n:BT:=(N o2J (N o01 L L) L)
def q1o:BT:=(N o1V (N o00 L L) L)
def q1p:BT:=(N o2A (N o3Z L L) L)
def q1q:BT:=(N o2g (N o3F L L) L)
def q1r:BT:=(N o2T (N o00 L L) L)
def q1s:BT:=(N o00 (N o2W L L) (N o4p L L))
def q1t:BT:=(N o2l (N o3J L L) L)
def q1u:BT:=(N o01 (N o3e L L) L)
def q1v:BT:=(N o01 (N o45 L L) L)
def q1w:BT:=(N o1Q (N o00 L L) L)
def q1x:BT:=(N o2v (N o01 L L) L)
def q1y:BT:=(N o00 (N o31 L L) L)
def q1z:BT:=(N o2q (N o00 L L) L)
def q1A:BT:=(N o23 (N o3l L L) L)
def q1B:BT:=(N o2I (N o4a L L) L)
def q1C:BT:=(N o00 (N o3X L L) L)
def q1D:BT:=(N o00 (N o3A L L) L)
def q1E:BT:=(N o2R (N o01 L L) L)
def q1F:BT:=(N o1H (N o2Y L L) L)
def q1G:BT:=(N o21 (N o3h L L) L)
def q1H:BT:=(N o2G (N o47 L L) L)
def q1I:BT:=(N o00 (N o37 L L) L)
def q1J:BT:=(N o00 (N o3U L L) L)
def q1K:BT:=(N o2d (N o3w L L) L)
def q1L:BT:=(N o00 (N o4g L L) L)
def q1M:BT:=(N o1M (N o00 L L) L)
def q1N:BT:=(N o2s (N o3P L L) L)
def q1O:BT:=(N o2L (N o00 L L) L)
def q1P:BT:=(N o1W (N o3c L L) L)
def q1Q:BT:=(N o2B (N o0b L L) L)
def q1R:BT:=(N o00 (N o3G L L) L)
def q1S:BT:=(N o01 (N o4l L L) L)
def tree_548_:BT:=(N b0 (N b1 (N o40 (N b7 (N o00 (N o1C (N o01 q00 q01) (N o0n q02 q03)) (N o0n (N o0V q04 q05) (N o1n q06 q07))) (N o0b (N o01 (N o0n q08 q09) (N o1f q0a q0b)) (N o0B (N o01 q0c q0d) (N o1s (N o00 (N o42 L L) L) q0e)))) (N o00 (N o07 (N o0n (N o0L q0f q0g) (N o01 q0h q0i)) (N o01 (N o0n q0j q0k) (N o00 q0l q0m))) (N o0d (N o0r (N o01 q0n q0o) (N o0n q0p q08)) (N o0n (N o15 q0q q0r) (N o1w q0s q0t))))) (N b5 (N b9 (N o06 (N o0i (N o0K q0u q0v) (N o1c q0j q0w)) (N o0y (N o0X q0x q0y) (N o1p q0z q0A))) (N o00 (N o0q (N o0S q0B q0C) (N o1h q0D q0E)) (N o0D (N o14 q0F q0G) (N o1u q0H q08)))) (N o02 (N o09 (N o0o (N o0N q0I q0J) (N o1e q0K q0L)) (N o0A (N o12 q0M q0N) (N o1r q0O q0P))) (N o00 (N o0t (N o0U q0Q q0R) (N o1m q0S q0T)) (N o0I (N o17 q0U q0V) (N o1y q0W q0X)))))) (N b2 (N b4 (N b8 (N o01 (N o0h (N o0J q0Y q0Z) (N o0b q10 q11)) (N o0b (N o0W q12 q13) (N o1o q14 q15))) (N o0c (N o0p (N o0b q16 q17) (N o1g q18 q19)) (N o0C (N o13 q1a q1b) (N o1t q1c q1d)))) (N o41 (N o08 (N o0b (N o0M q1e q1f) (N o1d q1g q08)) (N o0z (N o0b q1h q0R) (N o01 q1i q1j))) (N o0e (N o0s (N o0T q1k q1l) (N o0b q1m q1n)) (N o0b (N o16 q1o q1p) (N o1x q1q q1r))))) (N b6 (N b10 (N o00 (N o0j (N o00 q1s q1t) (N o00 q1u q1v)) (N o00 (N o0Y q1w q1x) (N o1q q0j q08))) (N o01 (N o00 (N o00 q1y q1z) (N o1i q1A q1B)) (N o0E (N o00 q0j q1C) (N o1v q1D q1E)))) (N o03 (N o0a (N o00 (N o0O q1F q0R) (N o00 q1G q1H)) (N o00 (N o00 q1I q1J) (N o00 q1K q1L))) (N o0f (N o0u (N o00 q1M q1N) (N o00 q0R q1O)) (N o00 (N o18 q1P q1Q) (N o1z q1R q1S)))))))
def q1T:BT:=(N o0n (N o2U L L) L)
def q1U:BT:=(N o01 q1T (N o0b L L))
def q1V:BT:=(N o0n q02 (N o2C L L))
def q1W:BT:=(N o0V q04 (N o00 L L))
def q1X:BT:=(N o1n q06 (N o00 L L))
def q1Y:BT:=(N o0n q08 (N o2o L L))
def q1Z:BT:=(N o1f q0a (N o2H L L))
def q20:BT:=(N o01 q0c (N o2x L L))
def q21:BT:=(N o1E (N o2X L L) L)
def q22:BT:=(N o0L q21 (N o2m L L))
def q23:BT:=(N o01 q0h (N o2E L L))
def q24:BT:=(N o0n q0j (N o00 L L))
def q25:BT:=(N o00 q0l (N o2N L L))
def q26:BT:=(N o01 q0n (N o2r L L))
def q27:BT:=(N o0n q0p (N o00 L L))
def q28:BT:=(N o15 q0q (N o01 L L))
def q29:BT:=(N o1w q0s (N o2S L L))
def q2a:BT:=(N o1D (N o2V L L) L)
def q2b:BT:=(N o0K q2a (N o00 L L))
def q2c:BT:=(N o1c q0j (N o00 L L))
def q2d:BT:=(N o0X q0x (N o2u L L))
def q2e:BT:=(N o1p q0z (N o2M L L))
def q2f:BT:=(N o0S q0B (N o2p L L))
def q2g:BT:=(N o1h q0D (N o01 L L))
def q2h:BT:=(N o14 q0F (N o2z L L))
def q2i:BT:=(N o1u q0H (N o00 L L))
def q2j:BT:=(N o0N q0I (N o00 L L))
def q2k:BT:=(N o1e q0K (N o2F L L))
def q2l:BT:=(N o12 q0M (N o2w L L))
def q2m:BT:=(N o1r q0O (N o2P L L))
def q2n:BT:=(N o0U q0Q (N o01 L L))
def q2o:BT:=(N o1m q0S (N o2K L L))
def q2p:BT:=(N o17 q0U (N o00 L L))
def q2q:BT:=(N o1y (N o2h L L) (N o00 L L))
def q2r:BT:=(N o00 (N o0t q2n q2o) (N o0I q2p q2q))
def q2s:BT:=(N o0b q10 (N o2D L L))
def q2t:BT:=(N o0h (N o0J q01 (N o2k L L)) q2s)
def q2u:BT:=(N o0W q12 (N o2t L L))
def q2v:BT:=(N o1o q14 (N o01 L L))
def q2w:BT:=(N o0b q16 (N o00 L L))
def q2x:BT:=(N o1g q18 (N o00 L L))
def q2y:BT:=(N o13 q1a (N o2y L L))
def q2z:BT:=(N o1t q1c (N o2Q L L))
def q2A:BT:=(N o1F (N o00 L L) L)
def q2B:BT:=(N o0M q2A (N o2n L L))
def q2C:BT:=(N o1d q1g (N o00 L L))
def q2D:BT:=(N o0b q1h (N o01 L L))
def q2E:BT:=(N o01 q1i (N o2O L L))
def q2F:BT:=(N o0T q1k (N o00 L L))
def q2G:BT:=(N o0b q1m (N o2J L L))
def q2H:BT:=(N o1x (N o2g L L) (N o2T L L))
def q2I:BT:=(N o0e (N o0s q2F q2G) (N o0b (N o16 q1o (N o2A L L)) q2H))
def q2J:BT:=(N o00 (N o2W L L) L)
def q2K:BT:=(N o00 q1u (N o01 L L))
def q2L:BT:=(N o0j (N o00 q2J (N o2l L L)) q2K)
def q2M:BT:=(N o0Y q1w (N o2v L L))
def q2N:BT:=(N o1q q0j (N o00 L L))
def q2O:BT:=(N o00 q1y (N o2q L L))
def q2P:BT:=(N o1i q1A (N o2I L L))
def q2Q:BT:=(N o00 q0j (N o00 L L))
def q2R:BT:=(N o1v q1D (N o2R L L))
def q2S:BT:=(N o0O q1F (N o01 L L))
def q2T:BT:=(N o00 q1G (N o2G L L))
def q2U:BT:=(N o00 q1I (N o00 L L))
def q2V:BT:=(N o00 q1K (N o00 L L))
def q2W:BT:=(N o00 q1M (N o2s L L))
def q2X:BT:=(N o00 q0R (N o2L L L))
def q2Y:BT:=(N o18 q1P (N o2B L L))
def q2Z:BT:=(N o1z (N o00 L L) (N o01 L L))
def tree_469_:BT:=(N b0 (N b1 (N o3r (N b7 (N o00 (N o1C q1U q1V) (N o0n q1W q1X)) (N o0b (N o01 q1Y q1Z) (N o0B q20 (N o1s (N o00 (N o3x L L) L) (N o01 L L))))) (N o00 (N o07 (N o0n q22 q23) (N o01 q24 q25)) (N o0d (N o0r q26 q27) (N o0n q28 q29)))) (N b5 (N b9 (N o06 (N o0i q2b q2c) (N o0y q2d q2e)) (N o00 (N o0q q2f q2g) (N o0D q2h q2i))) (N o02 (N o09 (N o0o q2j q2k) (N o0A q2l q2m)) q2r))) (N b2 (N b4 (N b8 (N o01 q2t (N o0b q2u q2v)) (N o0c (N o0p q2w q2x) (N o0C q2y q2z))) (N o3s (N o08 (N o0b q2B q2C) (N o0z q2D q2E)) q2I)) (N b6 (N b10 (N o00 q2L (N o00 q2M q2N)) (N o01 (N o00 q2O q2P) (N o0E q2Q q2R))) (N o03 (N o0a (N o00 q2S q2T) (N o00 q2U q2V)) (N o0f (N o0u q2W q2X) (N o00 q2Y q2Z))))))
def q30:BT:=(N o2U (N o5R L L) (N o8I L L))
def q31:BT:=(N o4m (N o01 L L) L)
def q32:BT:=(N o00 (N o6x L L) L)
def q33:BT:=(N o56 (N o7X L L) L)
def q34:BT:=(N o01 (N o0n q30 q31) (N o0b q32 q33))
def q35:BT:=(N o3d (N o6a L L) L)
def q36:BT:=(N o4J (N o7B L L) L)
def q37:BT:=(N o43 (N o6T L L) L)
def q38:BT:=(N o0n (N o1X q35 q36) (N o2C q37 q08))
def q39:BT:=(N o33 (N o60 L L) (N o8T L L))
def q3a:BT:=(N o3Q (N o6I L L) L)
def q3b:BT:=(N o5g (N o87 L L) L)
def q3c:BT:=(N o0V (N o1N q39 q08) (N o00 q3a q3b))
def q3d:BT:=(N o4X (N o00 L L) L)
def q3e:BT:=(N o4c (N o73 L L) L)
def q3f:BT:=(N o5D (N o8u L L) L)
def q3g:BT:=(N o1n (N o28 q01 q3d) (N o00 q3e q3f))
def q3h:BT:=(N o00 (N o00 L L) (N o00 L L))
def q3i:BT:=(N o4v (N o7g L L) L)
def q3j:BT:=(N o3L (N o6C L L) L)
def q3k:BT:=(N o5b (N o82 L L) L)
def q3l:BT:=(N o0n (N o00 q3h q3i) (N o2o q3j q3k))
def q3m:BT:=(N o3i (N o6j L L) L)
def q3n:BT:=(N o4O (N o7G L L) L)
def q3o:BT:=(N o00 (N o6Y L L) L)
def q3p:BT:=(N o5y (N o8p L L) L)
def q3q:BT:=(N o1f (N o22 q3m q3n) (N o2H q3o q3p))
def q3r:BT:=(N o38 (N o65 L L) L)
def q3s:BT:=(N o4E (N o7s L L) L)
def q3t:BT:=(N o3V (N o00 L L) L)
def q3u:BT:=(N o5p (N o8g L L) L)
def q3v:BT:=(N o01 (N o1S q3r q3s) (N o2x q3t q3u))
def q3w:BT:=(N o6i (N o6s L L) L)
def q3x:BT:=(N o4h (N o00 L L) L)
def q3y:BT:=(N o5I (N o0b L L) L)
def q3z:BT:=(N o1s (N o00 q3w q08) (N o01 q3x q3y))
def q3A:BT:=(N o2X (N o5U L L) (N o8L L L))
def q3B:BT:=(N o4q (N o7e L L) L)
def q3C:BT:=(N o00 (N o6z L L) L)
def q3D:BT:=(N o01 (N o01 L L) L)
def q3E:BT:=(N o0L (N o1E q3A q3B) (N o2m q3C q3D))
def q3F:BT:=(N o00 (N o6e L L) L)
def q3G:BT:=(N o4L (N o7D L L) L)
def q3H:BT:=(N o46 (N o01 L L) L)
def q3I:BT:=(N o01 (N o1Z q3F q3G) (N o2E q3H q08))
def q3J:BT:=(N o3S (N o6L L L) L)
def q3K:BT:=(N o5k (N o8b L L) L)
def q3L:BT:=(N o0n (N o00 q3D q08) (N o00 q3J q3K))
def q3M:BT:=(N o3u (N o00 L L) L)
def q3N:BT:=(N o50 (N o7O L L) L)
def q3O:BT:=(N o5F (N o8y L L) L)
def q3P:BT:=(N o00 (N o01 q3M q3N) (N o2N q0R q3O))
def q3Q:BT:=(N o4y (N o7j L L) L)
def q3R:BT:=(N o01 (N o6G L L) L)
def q3S:BT:=(N o5d (N o84 L L) L)
def q3T:BT:=(N o01 (N o1J q3h q3Q) (N o2r q3R q3S))
def q3U:BT:=(N o3m (N o6m L L) L)
def q3V:BT:=(N o4S (N o00 L L) L)
def q3W:BT:=(N o00 (N o70 L L) L)
def q3X:BT:=(N o0n (N o24 q3U q3V) (N o00 q3W q3D))
def q3Y:BT:=(N o3a (N o67 L L) L)
def q3Z:BT:=(N o01 (N o0b L L) L)
def q40:BT:=(N o3Y (N o00 L L) L)
def q41:BT:=(N o5s (N o8j L L) L)
def q42:BT:=(N o15 (N o01 q3Y q3Z) (N o01 q40 q41))
def q43:BT:=(N o3B (N o01 L L) L)
def q44:BT:=(N o4j (N o79 L L) L)
def q45:BT:=(N o5M (N o8G L L) L)
def q46:BT:=(N o1w (N o2f q43 q08) (N o2S q44 q45))
def q47:BT:=(N o2V (N o5S L L) (N o8J L L))
def q48:BT:=(N o4o (N o00 L L) L)
def q49:BT:=(N o3I (N o00 L L) L)
def q4a:BT:=(N o58 (N o7Z L L) L)
def q4b:BT:=(N o0K (N o1D q47 q48) (N o00 q49 q4a))
def q4c:BT:=(N o01 (N o6c L L) L)
def q4d:BT:=(N o44 (N o6V L L) L)
def q4e:BT:=(N o5v (N o8m L L) L)
def q4f:BT:=(N o1c (N o00 q4c q08) (N o00 q4d q4e))
def q4g:BT:=(N o35 (N o62 L L) L)
def q4h:BT:=(N o4B (N o7n L L) L)
def q4i:BT:=(N o00 (N o6J L L) L)
def q4j:BT:=(N o5i (N o89 L L) L)
def q4k:BT:=(N o0X (N o1P q4g q4h) (N o2u q4i q4j))
def q4l:BT:=(N o00 (N o6p L L) L)
def q4m:BT:=(N o4Y (N o7M L L) L)
def q4n:BT:=(N o4e (N o01 L L) L)
def q4o:BT:=(N o00 (N o8w L L) L)
def q4p:BT:=(N o1p (N o2a q4l q4m) (N o2M q4n q4o))
def q4q:BT:=(N o30 (N o5X L L) (N o8O L L))
def q4r:BT:=(N o4w (N o7h L L) L)
def q4s:BT:=(N o3N (N o6E L L) L)
def q4t:BT:=(N o0S (N o1I q4q q4r) (N o2p q4s q08))
def q4u:BT:=(N o3k (N o6k L L) L)
def q4v:BT:=(N o4Q (N o01 L L) L)
def q4w:BT:=(N o49 (N o00 L L) L)
def q4x:BT:=(N o5A (N o8r L L) L)
def q4y:BT:=(N o1h (N o01 q4u q4v) (N o01 q4w q4x))
def q4z:BT:=(N o4G (N o7u L L) L)
def q4A:BT:=(N o3W (N o6Q L L) L)
def q4B:BT:=(N o5q (N o8h L L) L)
def q4C:BT:=(N o14 (N o1U q08 q4z) (N o2z q4A q4B))
def q4D:BT:=(N o3z (N o6u L L) L)
def q4E:BT:=(N o53 (N o7U L L) L)
def q4F:BT:=(N o00 (N o78 L L) L)
def q4G:BT:=(N o5K (N o00 L L) L)
def q4H:BT:=(N o1u (N o2e q4D q4E) (N o00 q4F q4G))
def q4I:BT:=(N o01 (N o01 L L) (N o01 L L))
def q4J:BT:=(N o3F (N o00 L L) L)
def q4K:BT:=(N o3K (N o6A L L) L)
def q4L:BT:=(N o0N (N o1G q4I q4J) (N o00 q4K q08))
def q4M:BT:=(N o3g (N o3F L L) L)
def q4N:BT:=(N o4M (N o7E L L) L)
def q4O:BT:=(N o5x (N o8o L L) L)
def q4P:BT:=(N o1e (N o20 q4M q4N) (N o2F q0R q4O))
def q4Q:BT:=(N o4D (N o8D L L) L)
def q4R:BT:=(N o3T (N o01 L L) L)
def q4S:BT:=(N o3F (N o7y L L) L)
def q4T:BT:=(N o00 (N o6r L L) L)
def q4U:BT:=(N o00 (N o76 L L) L)
def q4V:BT:=(N o5G (N o8A L L) L)
def q4W:BT:=(N o1r (N o2c q4T q3Z) (N o2P q4U q4V))
def q4X:BT:=(N o32 (N o5Z L L) (N o8R L L))
def q4Y:BT:=(N o5e (N o85 L L) L)
def q4Z:BT:=(N o0U (N o1L q4X q3Z) (N o01 q08 q4Y))
def q50:BT:=(N o3o (N o01 L L) L)
def q51:BT:=(N o3F (N o7J L L) L)
def q52:BT:=(N o4b (N o71 L L) L)
def q53:BT:=(N o1m (N o00 q50 q51) (N o2K q52 q08))
def q54:BT:=(N o3b (N o68 L L) L)
def q55:BT:=(N o3F (N o6S L L) L)
def q56:BT:=(N o17 (N o00 q54 q08) (N o00 q55 q3D))
def q57:BT:=(N o55 (N o7W L L) L)
def q58:BT:=(N o4k (N o7b L L) L)
def q59:BT:=(N o1y (N o2h q01 q57) (N o00 q58 q4J))
def q5a:BT:=(N o4n (N o7c L L) L)
def q5b:BT:=(N o3H (N o6y L L) L)
def q5c:BT:=(N o57 (N o7Y L L) L)
def q5d:BT:=(N o0J (N o0b q3h q5a) (N o2k q5b q5c))
def q5e:BT:=(N o00 (N o6b L L) L)
def q5f:BT:=(N o4K (N o7C L L) L)
def q5g:BT:=(N o00 (N o6U L L) L)
def q5h:BT:=(N o5u (N o8l L L) L)
def q5i:BT:=(N o0b (N o1Y q5e q5f) (N o2D q5g q5h))
def q5j:BT:=(N o34 (N o61 L L) L)
def q5k:BT:=(N o4A (N o01 L L) L)
def q5l:BT:=(N o3R (N o00 L L) L)
def q5m:BT:=(N o5h (N o88 L L) L)
def q5n:BT:=(N o0W (N o1O q5j q5k) (N o2t q5l q5m))
def q5o:BT:=(N o3t (N o6o L L) L)
def q5p:BT:=(N o00 (N o7L L L) L)
def q5q:BT:=(N o4d (N o00 L L) L)
def q5r:BT:=(N o5E (N o8v L L) L)
def q5s:BT:=(N o1o (N o29 q5o q5p) (N o01 q5q q5r))
def q5t:BT:=(N o2Z (N o5W L L) (N o8N L L))
def q5u:BT:=(N o3M (N o6D L L) L)
def q5v:BT:=(N o5c (N o83 L L) L)
def q5w:BT:=(N o0b (N o01 q5t q08) (N o00 q5u q5v))
def q5x:BT:=(N o3j (N o00 L L) L)
def q5y:BT:=(N o4P (N o00 L L) L)
def q5z:BT:=(N o48 (N o6Z L L) L)
def q5A:BT:=(N o5z (N o8q L L) L)
def q5B:BT:=(N o1g (N o00 q5x q5y) (N o00 q5z q5A))
def q5C:BT:=(N o39 (N o66 L L) L)
def q5D:BT:=(N o4F (N o7t L L) L)
def q5E:BT:=(N o00 (N o6P L L) L)
def q5F:BT:=(N o13 (N o1T q5C q5D) (N o2y q5E q08))
def q5G:BT:=(N o3y (N o6t L L) L)
def q5H:BT:=(N o52 (N o7T L L) L)
def q5I:BT:=(N o4i (N o01 L L) L)
def q5J:BT:=(N o5J (N o8E L L) L)
def q5K:BT:=(N o1t (N o01 q5G q5H) (N o2Q q5I q5J))
def q5L:BT:=(N o4r (N o7f L L) L)
def q5M:BT:=(N o59 (N o80 L L) L)
def q5N:BT:=(N o0M (N o1F q3h q5L) (N o2n q0R q5M))
def q5O:BT:=(N o3f (N o6f L L) L)
def q5P:BT:=(N o00 (N o6W L L) L)
def q5Q:BT:=(N o1d (N o00 q5O q08) (N o00 q5P q3D))
def q5R:BT:=(N o36 (N o63 L L) L)
def q5S:BT:=(N o01 (N o7p L L) L)
def q5T:BT:=(N o5l (N o8c L L) L)
def q5U:BT:=(N o0b (N o01 q5R q5S) (N o01 q08 q5T))
def q5V:BT:=(N o3v (N o01 L L) L)
def q5W:BT:=(N o00 (N o7y L L) L)
def q5X:BT:=(N o4f (N o75 L L) L)
def q5Y:BT:=(N o00 (N o8z L L) L)
def q5Z:BT:=(N o01 (N o2b q5V q5W) (N o2O q5X q5Y))
def q60:BT:=(N o01 (N o01 L L) (N o8Q L L))
def q61:BT:=(N o3O (N o6H L L) L)
def q62:BT:=(N o0T (N o1K q60 q08) (N o00 q61 q08))
def q63:BT:=(N o3n (N o00 L L) L)
def q64:BT:=(N o4T (N o7I L L) L)
def q65:BT:=(N o5B (N o8s L L) L)
def q66:BT:=(N o0b (N o25 q63 q64) (N o2J q0R q65))
def q67:BT:=(N o4H (N o7z L L) L)
def q68:BT:=(N o3Z (N o01 L L) L)
def q69:BT:=(N o16 (N o1V q08 q67) (N o2A q68 q08))
def q6a:BT:=(N o3F (N o6v L L) L)
def q6b:BT:=(N o00 (N o7a L L) L)
def q6c:BT:=(N o5N (N o8H L L) L)
def q6d:BT:=(N o1x (N o2g q6a q3D) (N o2T q6b q6c))
def q6e:BT:=(N o2W (N o5T L L) (N o8K L L))
def q6f:BT:=(N o4p (N o7d L L) L)
def q6g:BT:=(N o3J (N o01 L L) L)
def q6h:BT:=(N o00 (N o00 q6e q6f) (N o2l q6g q08))
def q6i:BT:=(N o3e (N o6d L L) L)
def q6j:BT:=(N o45 (N o00 L L) L)
def q6k:BT:=(N o5w (N o8n L L) L)
def q6l:BT:=(N o00 (N o01 q6i q3D) (N o01 q6j q6k))
def q6m:BT:=(N o4C (N o7o L L) L)
def q6n:BT:=(N o01 (N o6K L L) L)
def q6o:BT:=(N o5j (N o8a L L) L)
def q6p:BT:=(N o0Y (N o1Q q08 q6m) (N o2v q6n q6o))
def q6q:BT:=(N o01 (N o6q L L) L)
def q6r:BT:=(N o4Z (N o7N L L) L)
def q6s:BT:=(N o00 (N o74 L L) L)
def q6t:BT:=(N o01 (N o8x L L) L)
def q6u:BT:=(N o1q (N o00 q6q q6r) (N o00 q6s q6t))
def q6v:BT:=(N o31 (N o5Y L L) (N o8P L L))
def q6w:BT:=(N o4x (N o7i L L) L)
def q6x:BT:=(N o00 (N o6F L L) L)
def q6y:BT:=(N o00 (N o00 q6v q6w) (N o2q q6x q3D))
def q6z:BT:=(N o3l (N o6l L L) L)
def q6A:BT:=(N o4R (N o7H L L) L)
def q6B:BT:=(N o4a (N o01 L L) L)
def q6C:BT:=(N o1i (N o23 q6z q6A) (N o2I q6B q08))
def q6D:BT:=(N o3X (N o6R L L) L)
def q6E:BT:=(N o5r (N o8i L L) L)
def q6F:BT:=(N o00 (N o00 q3D q5W) (N o00 q6D q6E))
def q6G:BT:=(N o3A (N o00 L L) L)
def q6H:BT:=(N o54 (N o7V L L) L)
def q6I:BT:=(N o5L (N o8F L L) L)
def q6J:BT:=(N o1v (N o00 q6G q6H) (N o2R q0R q6I))
def q6K:BT:=(N o2Y (N o5V L L) (N o8M L L))
def q6L:BT:=(N o0b (N o01 L L) L)
def q6M:BT:=(N o00 (N o6B L L) L)
def q6N:BT:=(N o5a (N o81 L L) L)
def q6O:BT:=(N o0O (N o1H q6K q6L) (N o01 q6M q6N))
def q6P:BT:=(N o3h (N o0b L L) L)
def q6Q:BT:=(N o4N (N o7F L L) L)
def q6R:BT:=(N o47 (N o6X L L) L)
def q6S:BT:=(N o00 (N o21 q6P q6Q) (N o2G q6R q08))
def q6T:BT:=(N o37 (N o64 L L) L)
def q6U:BT:=(N o00 (N o7r L L) L)
def q6V:BT:=(N o3U (N o6O L L) L)
def q6W:BT:=(N o0b (N o0b L L) L)
def q6X:BT:=(N o00 (N o00 q6T q6U) (N o00 q6V q6W))
def q6Y:BT:=(N o3w (N o00 L L) L)
def q6Z:BT:=(N o51 (N o7S L L) L)
def q70:BT:=(N o4g (N o77 L L) L)
def q71:BT:=(N o5H (N o7y L L) L)
def q72:BT:=(N o00 (N o2d q6Y q6Z) (N o00 q70 q71))
def q73:BT:=(N o00 (N o00 L L) (N o8S L L))
def q74:BT:=(N o4z (N o7m L L) L)
def q75:BT:=(N o3P (N o01 L L) L)
def q76:BT:=(N o5f (N o86 L L) L)
def q77:BT:=(N o00 (N o1M q73 q74) (N o2s q75 q76))
def q78:BT:=(N o00 (N o6n L L) L)
def q79:BT:=(N o0b (N o7K L L) L)
def q7a:BT:=(N o00 (N o72 L L) L)
def q7b:BT:=(N o5C (N o8t L L) L)
def q7c:BT:=(N o00 (N o01 q78 q79) (N o2L q7a q7b))
def q7d:BT:=(N o3c (N o69 L L) L)
def q7e:BT:=(N o4I (N o7A L L) L)
def q7f:BT:=(N o5t (N o8k L L) L)
def q7g:BT:=(N o18 (N o1W q7d q7e) (N o2B q01 q7f))
def q7h:BT:=(N o3G (N o6w L L) L)
def q7i:BT:=(N o4l (N o00 L L) L)
def q7j:BT:=(N o1z (N o00 q7h q08) (N o01 q7i q6L))
def tree_974_:BT:=(N b0 (N b1 (N o8B (N b7 (N o00 (N o1C q34 q38) (N o0n q3c q3g)) (N o0b (N o01 q3l q3q) (N o0B q3v q3z))) (N o00 (N o07 (N o0n q3E q3I) (N o01 q3L q3P)) (N o0d (N o0r q3T q3X) (N o0n q42 q46)))) (N b5 (N b9 (N o06 (N o0i q4b q4f) (N o0y q4k q4p)) (N o00 (N o0q q4t q4y) (N o0D q4C q4H))) (N o02 (N o09 (N o0o q4L q4P) (N o0A (N o12 (N o1R q08 q4Q) (N o2w q4R q4S)) q4W)) (N o00 (N o0t q4Z q53) (N o0I q56 q59))))) (N b2 (N b4 (N b8 (N o01 (N o0h q5d q5i) (N o0b q5n q5s)) (N o0c (N o0p q5w q5B) (N o0C q5F q5K))) (N o8C (N o08 (N o0b q5N q5Q) (N o0z q5U q5Z)) (N o0e (N o0s q62 q66) (N o0b q69 q6d)))) (N b6 (N b10 (N o00 (N o0j q6h q6l) (N o00 q6p q6u)) (N o01 (N o00 q6y q6C) (N o0E q6F q6J))) (N o03 (N o0a (N o00 q6O q6S) (N o00 q6X q72)) (N o0f (N o0u q77 q7c) (N o00 q7g q7j))))))
def q7k:BT:=(N o00 (N o6x L L) (N o00 L L))
def q7l:BT:=(N o01 (N o0n q30 q31) (N o0b q7k q33))
def q7m:BT:=(N o3d (N o6a L L) (N o94 L L))
def q7n:BT:=(N o43 (N o6T L L) (N o9P L L))
def q7o:BT:=(N o3Q (N o6I L L) (N o9F L L))
def q7p:BT:=(N o0b (N o00 L L) (N o01 L L))
def q7q:BT:=(N o4c (N o73 L L) (N o9Z L L))
def q7r:BT:=(N o3L (N o6C L L) (N o9A L L))
def q7s:BT:=(N o3i (N o6j L L) (N o0b L L))
def q7t:BT:=(N o00 (N o6Y L L) (N o00 L L))
def q7u:BT:=(N o38 (N o65 L L) (N o1q L L))
def q7v:BT:=(N o3V (N o00 L L) (N o9K L L))
def q7w:BT:=(N o6i (N o6s L L) (N o9o L L))
def q7x:BT:=(N o4h (N o00 L L) (N oa5 L L))
def q7y:BT:=(N o1s (N o00 q7w q08) (N o01 q7x q3y))
def q7z:BT:=(N o00 (N o6z L L) (N o00 L L))
def q7A:BT:=(N o00 (N o6e L L) (N o98 L L))
def q7B:BT:=(N o46 (N o01 L L) (N o00 L L))
def q7C:BT:=(N o01 (N o01 L L) (N o00 L L))
def q7D:BT:=(N o3S (N o6L L L) (N o01 L L))
def q7E:BT:=(N o3u (N o00 L L) (N o9k L L))
def q7F:BT:=(N o01 (N o00 L L) (N oa3 L L))
def q7G:BT:=(N o00 (N o01 q7E q3N) (N o2N q7F q3O))
def q7H:BT:=(N o01 (N o6G L L) (N o00 L L))
def q7I:BT:=(N o3m (N o6m L L) (N o9f L L))
def q7J:BT:=(N o00 (N o70 L L) (N o9V L L))
def q7K:BT:=(N o3a (N o67 L L) (N o00 L L))
def q7L:BT:=(N o3Y (N o00 L L) (N o9M L L))
def q7M:BT:=(N o3B (N o01 L L) (N o9s L L))
def q7N:BT:=(N o4j (N o79 L L) (N oa8 L L))
def q7O:BT:=(N o1w (N o2f q7M q08) (N o2S q7N q45))
def q7P:BT:=(N o3I (N o00 L L) (N o9v L L))
def q7Q:BT:=(N o0K (N o1D q47 q48) (N o00 q7P q4a))
def q7R:BT:=(N o01 (N o6c L L) (N o96 L L))
def q7S:BT:=(N o44 (N o6V L L) (N o01 L L))
def q7T:BT:=(N o35 (N o62 L L) (N o0b L L))
def q7U:BT:=(N o00 (N o6J L L) (N o9H L L))
def q7V:BT:=(N o00 (N o6p L L) (N o00 L L))
def q7W:BT:=(N o4e (N o01 L L) (N oa1 L L))
def q7X:BT:=(N o3N (N o6E L L) (N o9C L L))
def q7Y:BT:=(N o3k (N o6k L L) (N o00 L L))
def q7Z:BT:=(N o49 (N o00 L L) (N o9U L L))
def q80:BT:=(N o00 (N o00 L L) (N o01 L L))
def q81:BT:=(N o3W (N o6Q L L) (N o00 L L))
def q82:BT:=(N o3z (N o6u L L) (N o9q L L))
def q83:BT:=(N o00 (N o78 L L) (N oa6 L L))
def q84:BT:=(N o1u (N o2e q82 q4E) (N o00 q83 q4G))
def q85:BT:=(N o3K (N o6A L L) (N o9z L L))
def q86:BT:=(N o3g (N o3F L L) (N o9a L L))
def q87:BT:=(N o01 (N o00 L L) (N o9S L L))
def q88:BT:=(N o00 (N o00 L L) (N o8Y L L))
def q89:BT:=(N o3T (N o01 L L) (N o00 L L))
def q8a:BT:=(N o00 (N o6r L L) (N o9m L L))
def q8b:BT:=(N o00 (N o76 L L) (N o00 L L))
def q8c:BT:=(N o1r (N o2c q8a q3Z) (N o2P q8b q4V))
def q8d:BT:=(N o00 (N o00 L L) (N o9E L L))
def q8e:BT:=(N o3o (N o01 L L) (N o9h L L))
def q8f:BT:=(N o4b (N o71 L L) (N o9X L L))
def q8g:BT:=(N o3b (N o68 L L) (N o92 L L))
def q8h:BT:=(N o3F (N o6S L L) (N o9N L L))
def q8i:BT:=(N o1y (N o2h q7p q57) (N o00 q58 q4J))
def q8j:BT:=(N o3H (N o6y L L) (N o9u L L))
def q8k:BT:=(N o0J (N o0b q3h q5a) (N o2k q8j q5c))
def q8l:BT:=(N o00 (N o6b L L) (N o95 L L))
def q8m:BT:=(N o00 (N o6U L L) (N o00 L L))
def q8n:BT:=(N o34 (N o61 L L) (N o00 L L))
def q8o:BT:=(N o3R (N o00 L L) (N o9G L L))
def q8p:BT:=(N o3t (N o6o L L) (N o9i L L))
def q8q:BT:=(N o4d (N o00 L L) (N oa0 L L))
def q8r:BT:=(N o3M (N o6D L L) (N o9B L L))
def q8s:BT:=(N o3j (N o00 L L) (N o9d L L))
def q8t:BT:=(N o48 (N o6Z L L) (N o01 L L))
def q8u:BT:=(N o39 (N o66 L L) (N o00 L L))
def q8v:BT:=(N o00 (N o6P L L) (N o9L L L))
def q8w:BT:=(N o3y (N o6t L L) (N o9p L L))
def q8x:BT:=(N o4i (N o01 L L) (N o00 L L))
def q8y:BT:=(N o1t (N o01 q8w q5H) (N o2Q q8x q5J))
def q8z:BT:=(N o01 (N o00 L L) (N o0b L L))
def q8A:BT:=(N o3f (N o6f L L) (N o99 L L))
def q8B:BT:=(N o00 (N o6W L L) (N o9R L L))
def q8C:BT:=(N o36 (N o63 L L) (N o8X L L))
def q8D:BT:=(N o00 (N o00 L L) (N o9I L L))
def q8E:BT:=(N o3v (N o01 L L) (N o9l L L))
def q8F:BT:=(N o4f (N o75 L L) (N oa4 L L))
def q8G:BT:=(N o01 (N o2b q8E q5W) (N o2O q8F q5Y))
def q8H:BT:=(N o3O (N o6H L L) (N o01 L L))
def q8I:BT:=(N o3n (N o00 L L) (N o9g L L))
def q8J:BT:=(N o01 (N o00 L L) (N o9W L L))
def q8K:BT:=(N o00 (N o00 L L) (N o91 L L))
def q8L:BT:=(N o3Z (N o01 L L) (N o00 L L))
def q8M:BT:=(N o3F (N o6v L L) (N o00 L L))
def q8N:BT:=(N o1x (N o2g q8M q3D) (N o2T q6b q6c))
def q8O:BT:=(N o3J (N o01 L L) (N o9w L L))
def q8P:BT:=(N o00 (N o00 q6e q6f) (N o2l q8O q08))
def q8Q:BT:=(N o3e (N o6d L L) (N o97 L L))
def q8R:BT:=(N o45 (N o00 L L) (N o9Q L L))
def q8S:BT:=(N o00 (N o00 L L) (N o8W L L))
def q8T:BT:=(N o01 (N o6K L L) (N o00 L L))
def q8U:BT:=(N o01 (N o6q L L) (N o9j L L))
def q8V:BT:=(N o00 (N o74 L L) (N oa2 L L))
def q8W:BT:=(N o1q (N o00 q8U q6r) (N o00 q8V q6t))
def q8X:BT:=(N o00 (N o6F L L) (N o9D L L))
def q8Y:BT:=(N o3l (N o6l L L) (N o9e L L))
def q8Z:BT:=(N o4a (N o01 L L) (N o00 L L))
def q90:BT:=(N o01 (N o01 L L) (N o90 L L))
def q91:BT:=(N o3X (N o6R L L) (N o01 L L))
def q92:BT:=(N o3A (N o00 L L) (N o9r L L))
def q93:BT:=(N o01 (N o00 L L) (N oa7 L L))
def q94:BT:=(N o1v (N o00 q92 q6H) (N o2R q93 q6I))
def q95:BT:=(N o00 (N o6B L L) (N o00 L L))
def q96:BT:=(N o3h (N o0b L L) (N o00 L L))
def q97:BT:=(N o47 (N o6X L L) (N o9T L L))
def q98:BT:=(N o37 (N o64 L L) (N o8Z L L))
def q99:BT:=(N o3U (N o6O L L) (N o9J L L))
def q9a:BT:=(N o3w (N o00 L L) (N o9n L L))
def q9b:BT:=(N o4g (N o77 L L) (N o01 L L))
def q9c:BT:=(N o00 (N o2d q9a q6Z) (N o00 q9b q71))
def q9d:BT:=(N o3P (N o01 L L) (N o00 L L))
def q9e:BT:=(N o00 (N o6n L L) (N o00 L L))
def q9f:BT:=(N o00 (N o72 L L) (N o9Y L L))
def q9g:BT:=(N o3c (N o69 L L) (N o93 L L))
def q9h:BT:=(N o0b (N o00 L L) (N o9O L L))
def q9i:BT:=(N o3G (N o6w L L) (N o9t L L))
def q9j:BT:=(N o1z (N o00 q9i q08) (N o01 q7i q6L))
def tree_1088_:BT:=(N b0 (N b1 (N o9x (N b7 (N o00 (N o1C q7l (N o0n (N o1X q7m q36) (N o2C q7n q08))) (N o0n (N o0V (N o1N q39 q08) (N o00 q7o q3b)) (N o1n (N o28 q7p q3d) (N o00 q7q q3f)))) (N o0b (N o01 (N o0n (N o00 q3h q3i) (N o2o q7r q3k)) (N o1f (N o22 q7s q3n) (N o2H q7t q3p))) (N o0B (N o01 (N o1S q7u q3s) (N o2x q7v q3u)) q7y))) (N o00 (N o07 (N o0n (N o0L (N o1E q3A q3B) (N o2m q7z q3D)) (N o01 (N o1Z q7A q3G) (N o2E q7B q08))) (N o01 (N o0n (N o00 q7C q08) (N o00 q7D q3K)) q7G)) (N o0d (N o0r (N o01 (N o1J q3h q3Q) (N o2r q7H q3S)) (N o0n (N o24 q7I q3V) (N o00 q7J q3D))) (N o0n (N o15 (N o01 q7K q3Z) (N o01 q7L q41)) q7O)))) (N b5 (N b9 (N o06 (N o0i q7Q (N o1c (N o00 q7R q08) (N o00 q7S q4e))) (N o0y (N o0X (N o1P q7T q4h) (N o2u q7U q4j)) (N o1p (N o2a q7V q4m) (N o2M q7W q4o)))) (N o00 (N o0q (N o0S (N o1I q4q q4r) (N o2p q7X q08)) (N o1h (N o01 q7Y q4v) (N o01 q7Z q4x))) (N o0D (N o14 (N o1U q80 q4z) (N o2z q81 q4B)) q84))) (N o02 (N o09 (N o0o (N o0N (N o1G q4I q4J) (N o00 q85 q08)) (N o1e (N o20 q86 q4N) (N o2F q87 q4O))) (N o0A (N o12 (N o1R q88 q4Q) (N o2w q89 q4S)) q8c)) (N o00 (N o0t (N o0U (N o1L q4X q3Z) (N o01 q8d q4Y)) (N o1m (N o00 q8e q51) (N o2K q8f q08))) (N o0I (N o17 (N o00 q8g q08) (N o00 q8h q3D)) q8i))))) (N b2 (N b4 (N b8 (N o01 (N o0h q8k (N o0b (N o1Y q8l q5f) (N o2D q8m q5h))) (N o0b (N o0W (N o1O q8n q5k) (N o2t q8o q5m)) (N o1o (N o29 q8p q5p) (N o01 q8q q5r)))) (N o0c (N o0p (N o0b (N o01 q5t q08) (N o00 q8r q5v)) (N o1g (N o00 q8s q5y) (N o00 q8t q5A))) (N o0C (N o13 (N o1T q8u q5D) (N o2y q8v q08)) q8y))) (N o9y (N o08 (N o0b (N o0M (N o1F q3h q5L) (N o2n q8z q5M)) (N o1d (N o00 q8A q08) (N o00 q8B q3D))) (N o0z (N o0b (N o01 q8C q5S) (N o01 q8D q5T)) q8G)) (N o0e (N o0s (N o0T (N o1K q60 q08) (N o00 q8H q08)) (N o0b (N o25 q8I q64) (N o2J q8J q65))) (N o0b (N o16 (N o1V q8K q67) (N o2A q8L q08)) q8N)))) (N b6 (N b10 (N o00 (N o0j q8P (N o00 (N o01 q8Q q3D) (N o01 q8R q6k))) (N o00 (N o0Y (N o1Q q8S q6m) (N o2v q8T q6o)) q8W)) (N o01 (N o00 (N o00 (N o00 q6v q6w) (N o2q q8X q3D)) (N o1i (N o23 q8Y q6A) (N o2I q8Z q08))) (N o0E (N o00 (N o00 q90 q5W) (N o00 q91 q6E)) q94))) (N o03 (N o0a (N o00 (N o0O (N o1H q6K q6L) (N o01 q95 q6N)) (N o00 (N o21 q96 q6Q) (N o2G q97 q08))) (N o00 (N o00 (N o00 q98 q6U) (N o00 q99 q6W)) q9c)) (N o0f (N o0u (N o00 (N o1M q73 q74) (N o2s q9d q76)) (N o00 (N o01 q9e q79) (N o2L q9f q7b))) (N o00 (N o18 (N o1W q9g q7e) (N o2B q9h q7f)) q9j))))))
def heap_39_:Frag:=[(2,oc8),(3,obs),(15,o00),(17,o06),(18,o00),(20,o08),(21,o09),(22,o0a),(29,o00),(30,o0f),(31,o1C),(32,o0h),(35,o0n),(42,o00),(43,o0r),(44,o0s),(47,o0n),(54,o00),(55,o0B),(56,o0C),(59,o0n),(66,o00),(67,o0L),(68,o0M),(71,o0n),(78,o00),(79,o0V),(80,o0W),(83,o0n),(90,o00),(91,o15),(92,o16),(95,o0n),(102,o00),(103,o1f),(104,o1g),(107,o0n),(114,o1q),(115,o00),(117,o1r),(118,o00),(120,o1t),(121,o1u),(122,o1v),(123,o1w),(124,o1x),(127,o0n),(134,o1H),(135,o00),(137,o1I),(138,o00),(140,o1K),(141,o1L),(142,o1M),(143,o1N),(144,o1O),(147,o00),(149,o1R),(150,o00),(152,o1T),(153,o1U),(154,o00),(156,o1V),(157,o00),(159,o1X),(160,o1Y),(161,o00),(163,o1Z),(164,o00),(166,o21),(167,o22),(168,o00),(171,o24),(172,o25),(173,o00),(176,o29),(177,o2a),(178,o00),(181,o2c),(182,o2d),(183,o00),(185,o2e),(186,o00),(188,o2g),(189,o2h),(197,o00),(199,o2o),(200,o00),(202,o2q),(203,o2r),(204,o00),(206,o2s),(207,o00),(209,o2u),(210,o2v),(211,o00),(213,o2w),(214,o00),(216,o2y),(217,o2z),(218,o00),(220,o2A),(221,o00),(223,o2C),(224,o2D),(225,o00),(227,o2E),(228,o00),(230,o2G),(231,o2H),(232,o00),(234,o2I),(235,o00),(237,o2K),(238,o2L),(239,o00),(241,o2M),(242,o00),(244,o2O),(245,o2P),(246,o00),(248,o2Q),(249,o00),(251,o2S),(252,o2T),(253,o00),(255,o2U),(256,o00),(258,o2W),(259,o2X),(260,o00),(262,o2Y),(263,o00),(265,o30),(266,o31),(267,o00),(269,o32),(270,o00),(272,o34),(273,o35),(274,o00),(276,o36),(277,o00),(279,o38),(280,o39),(281,o00),(283,o3a),(284,o00),(286,o3c),(287,o3d),(288,o00),(290,o3e),(291,o00),(293,o3g),(294,o3h),(295,o3i),(296,o3j),(297,o3k),(298,o3l),(299,o3m),(309,o00),(310,o3w),(311,o6i),(312,o3y),(313,o3z),(316,o3F),(323,o00),(325,o3K),(326,o00),(328,o3M),(329,o3N),(330,o00),(332,o3O),(333,o00),(335,o3Q),(336,o3R),(337,o00),(339,o3S),(340,o00),(342,o3U),(343,o3V),(344,o00),(345,o3W),(346,o3X),(349,o3F),(356,o00),(358,o47),(359,o00),(361,o49),(362,o4a),(363,o00),(365,o4b),(366,o00),(368,o4d),(369,o4e),(370,o00),(372,o4f),(373,o00),(375,o4h),(376,o4i),(377,o00),(379,o4j),(380,o00),(382,o4l),(383,o4m),(384,o4n),(385,o4o),(386,o4p),(389,o3F),(396,o00),(398,o4z),(399,o00),(401,o4B),(402,o4C),(403,o00),(405,o4D),(406,o00),(408,o4F),(409,o4G),(410,o00),(412,o4H),(413,o00),(415,o4J),(416,o4K),(417,o00),(419,o4L),(420,o00),(422,o4N),(423,o4O),(424,o4P),(425,o4Q),(426,o4R),(429,o3F),(436,o00),(438,o51),(439,o00),(441,o53),(442,o54),(443,o00),(445,o55),(446,o00),(448,o57),(449,o58),(450,o00),(452,o59),(453,o00),(455,o5b),(456,o5c),(457,o00),(459,o5d),(460,o00),(462,o5f),(463,o5g),(464,o5h),(465,o5i),(466,o5j),(469,o3F),(476,o00),(478,o5t),(479,o00),(481,o5v),(482,o5w),(483,o00),(485,o5x),(486,o00),(488,o5z),(489,o5A),(490,o00),(492,o5B),(493,o00),(495,o5D),(496,o5E),(497,o00),(499,o5F),(500,o00),(502,o5H),(503,o5I),(504,o5J),(505,o5K),(506,o5L),(509,o3F),(516,o00),(518,o5V),(519,o00),(521,o5X),(522,o5Y),(523,o00),(525,o5Z),(526,o00),(528,o61),(529,o62),(530,o00),(532,o63),(533,o00),(535,o65),(536,o66),(537,o00),(539,o67),(540,o00),(542,o69),(543,o6a),(544,o6b),(545,o6c),(546,o6d),(549,o3F),(556,o00),(558,o6n),(559,o00),(561,o6p),(562,o6q),(563,o00),(565,o6r),(566,o00),(568,o6t),(569,o6u),(570,o00),(572,o6v),(573,o00),(575,o6x),(576,o6y),(577,o00),(579,o6z),(580,o00),(582,o6B),(583,o6C),(584,o6D),(585,o6E),(586,o6F),(589,o00),(591,o6I),(592,o00),(594,o6K),(595,o6L),(596,o00),(598,o6O),(599,o00),(601,o6Q),(602,o6R),(603,o00),(605,o6S),(606,o00),(608,o6U),(609,o6V),(610,o00),(612,o6W),(613,o00),(615,o6Y),(616,o6Z),(617,o00),(619,o70),(620,o00),(622,o72),(623,o73),(624,o00),(626,o74),(627,o00),(629,o76),(630,o77),(631,o00),(633,o78),(634,o00),(636,o7a),(637,o7b),(638,o00),(640,o7c),(641,o00),(643,o7e),(644,o7f),(645,o00),(647,o7g),(648,o00),(650,o7i),(651,o7j),(659,o00),(660,o7p),(661,o8D),(662,o7r),(663,o7s),(666,o7y),(673,o00),(675,o7D),(676,o00),(678,o7F),(679,o7G),(680,o00),(682,o7H),(683,o00),(685,o7J),(686,o7K),(687,o00),(688,o7L),(689,o7M),(692,o7y),(699,o00),(701,o7W),(702,o00),(704,o7Y),(705,o7Z),(706,o00),(708,o80),(709,o00),(711,o82),(712,o83),(713,o00),(715,o84),(716,o00),(718,o86),(719,o87),(720,o88),(721,o89),(722,o8a),(725,o7y),(732,o00),(734,o8k),(735,o00),(737,o8m),(738,o8n),(739,o00),(741,o8o),(742,o00),(744,o8q),(745,o8r),(746,o00),(748,o8s),(749,o00),(751,o8u),(752,o8v),(753,o8w),(754,o8x),(755,o8y),(758,o7y),(765,o00),(767,o8I),(768,o00),(770,o8K),(771,o8L),(772,o00),(774,o8M),(775,o00),(777,o8O),(778,o8P),(779,o00),(780,o8Q),(781,o8R),(791,o1q),(792,o00),(794,o90),(795,o00),(797,o92),(798,o93),(799,o94),(800,o95),(801,o96),(802,o97),(803,o98),(813,o9h),(814,o00),(816,o9i),(817,o00),(819,o9k),(820,o9l),(821,o9m),(822,o9n),(823,o9o),(824,o9p),(825,o9q),(828,o00),(830,o9t),(831,o00),(833,o9v),(834,o9w),(842,o9D),(843,o00),(845,o9E),(846,o00),(848,o9G),(849,o9H),(850,o00),(852,o9I),(853,o00),(855,o9K),(856,o9L),(857,o00),(859,o9M),(860,o00),(862,o9O),(863,o9P),(864,o00),(866,o9Q),(867,o00),(869,o9S),(870,o9T),(871,o00),(873,o9U),(874,o00),(876,o9W),(877,o9X),(878,o9Y),(879,o9Z),(880,oa0),(881,oa1),(882,oa2),(885,o00),(887,oa5),(888,o00),(890,oa7),(891,oa8),(892,o00),(895,oac),(896,oad),(897,o00),(899,oae),(900,o00),(902,oag),(903,oah),(904,o00),(906,oai),(907,o00),(909,oak),(910,oal),(918,o00),(920,oaq),(921,o00),(923,oas),(924,oat),(925,oau),(926,oav),(927,oaw),(928,oax),(929,oay),(932,o00),(934,oaB),(935,o00),(937,oaD),(938,oaE),(939,o00),(941,oaF),(942,o00),(944,oaH),(945,oaI),(946,o00),(948,oaL),(949,o00),(951,oaN),(952,oaO),(953,o00),(955,oaP),(956,o00),(958,oaR),(959,oaS),(960,o00),(962,oaT),(963,o00),(965,oaV),(966,oaW),(967,o00),(969,oaX),(970,o00),(972,oaZ),(973,ob0),(974,o00),(976,ob1),(977,o00),(979,ob3),(980,ob4),(981,o00),(983,ob5),(984,o00),(986,ob7),(987,ob8),(988,o00),(990,ob9),(991,o00),(993,obb),(994,obc),(995,o00),(997,obd),(998,o00),(1000,obf),(1001,obg),(1002,o00),(1004,obh),(1005,o00),(1007,obj),(1008,obk),(1009,o00),(1011,obl),(1012,o00),(1014,obm),(1015,obn),(1016,o00),(1018,obo),(1019,o00),(1021,obq),(1022,obr),(1023,o00),(1025,obu),(1026,o00),(1028,obw),(1029,obx),(1030,o00),(1032,oby),(1033,o00),(1035,obA),(1036,obB),(1037,o00),(1039,obC),(1040,o00),(1042,obE),(1043,obF),(1044,o00),(1046,obG),(1047,o00),(1049,obI),(1050,obJ),(1051,o00),(1053,obK),(1054,o00),(1056,obM),(1057,obN),(1058,o00),(1060,obO),(1061,o00),(1063,obQ),(1064,obR),(1065,o00),(1067,obS),(1068,o00),(1070,obU),(1071,obV),(1072,o00),(1074,obW),(1075,o00),(1077,obY),(1078,obZ),(1079,o00),(1081,oc0),(1082,o00),(1084,oc2),(1085,oc3),(1086,o00),(1088,oc4),(1089,o00),(1091,oc6),(1092,oc7)]
def q9k:BT:=(N o0d (N o0r L L) L)
def q9l:BT:=(N o06 (N o0i L L) L)
def q9m:BT:=(N o00 (N o0t L L) L)
def q9n:BT:=(N o01 (N o0h L L) L)
def q9o:BT:=(N o0e (N o0s L L) L)
def q9p:BT:=(N o00 (N o0j L L) L)
def q9q:BT:=(N o0f (N o0u L L) L)
def tree_85_:BT:=(N b0 (N b1 (N o0k (N b7 (N o00 (N o0m L L) L) q6L) (N o00 (N o07 (N o0n L L) L) q9k)) (N b5 (N b9 q9l (N o00 (N o0q L L) L)) (N o02 (N o09 (N o0o L L) L) q9m))) (N b2 (N b4 (N b8 q9n (N o0c (N o0p L L) L)) (N o0l (N o08 (N o0b L L) L) q9o)) (N b6 (N b10 q9p q0R) (N o03 (N o0a (N o00 L L) L) q9q))))
def q9r:BT:=(N o4m (N o01 L L) (N oac L L))
def q9s:BT:=(N o56 (N o7X L L) (N oaS L L))
def q9t:BT:=(N o4J (N o7B L L) (N oaw L L))
def q9u:BT:=(N o00 q7o (N o5g (N o87 L L) (N o01 L L)))
def q9v:BT:=(N o4X (N o00 L L) (N oaG L L))
def q9w:BT:=(N o00 q7q (N o5D (N o8u L L) (N obj L L)))
def q9x:BT:=(N o4v (N o7g L L) (N oah L L))
def q9y:BT:=(N o2o q7r (N o5b (N o82 L L) (N o00 L L)))
def q9z:BT:=(N o4O (N o7G L L) (N o00 L L))
def q9A:BT:=(N o2H q7t (N o5y (N o8p L L) (N obe L L)))
def q9B:BT:=(N o4E (N o7s L L) (N o01 L L))
def q9C:BT:=(N o2x q7v (N o5p (N o8g L L) (N ob5 L L)))
def q9D:BT:=(N o00 (N o00 L L) (N oaN L L))
def q9E:BT:=(N o01 q7x (N o5I (N o0b L L) (N obn L L)))
def q9F:BT:=(N o4q (N o7e L L) (N oae L L))
def q9G:BT:=(N o4L (N o7D L L) (N oaA L L))
def q9H:BT:=(N o00 (N o00 L L) (N oan L L))
def q9I:BT:=(N o00 q7D (N o5k (N o8b L L) (N ob3 L L)))
def q9J:BT:=(N o50 (N o7O L L) (N o01 L L))
def q9K:BT:=(N o2N q7F (N o5F (N o8y L L) (N obl L L)))
def q9L:BT:=(N o4y (N o7j L L) (N o00 L L))
def q9M:BT:=(N o2r q7H (N o5d (N o84 L L) (N oaY L L)))
def q9N:BT:=(N o4S (N o00 L L) (N o00 L L))
def q9O:BT:=(N o01 (N o0b L L) (N oas L L))
def q9P:BT:=(N o01 q7L (N o5s (N o8j L L) (N ob8 L L)))
def q9Q:BT:=(N o00 (N o00 L L) (N oaP L L))
def q9R:BT:=(N o2S q7N (N o5M (N o8G L L) (N o00 L L)))
def q9S:BT:=(N o4o (N o00 L L) (N o00 L L))
def q9T:BT:=(N o58 (N o7Z L L) (N o01 L L))
def q9U:BT:=(N o00 (N o00 L L) (N oay L L))
def q9V:BT:=(N o00 q7S (N o5v (N o8m L L) (N obb L L)))
def q9W:BT:=(N o4B (N o7n L L) (N oam L L))
def q9X:BT:=(N o2u q7U (N o5i (N o89 L L) (N o00 L L)))
def q9Y:BT:=(N o4Y (N o7M L L) (N oaI L L))
def q9Z:BT:=(N o2M q7W (N o00 (N o8w L L) (N o00 L L)))
def qa0:BT:=(N o4w (N o7h L L) (N o01 L L))
def qa1:BT:=(N o2p q7X (N o00 (N o00 L L) (N oaX L L)))
def qa2:BT:=(N o4Q (N o01 L L) (N oaD L L))
def qa3:BT:=(N o01 q7Z (N o5A (N o8r L L) (N obg L L)))
def qa4:BT:=(N o4G (N o7u L L) (N o00 L L))
def qa5:BT:=(N o2z q81 (N o5q (N o8h L L) (N oz6 L L)))
def qa6:BT:=(N o53 (N o7U L L) (N o00 L L))
def qa7:BT:=(N o00 q83 (N o5K (N o00 L L) (N o01 L L)))
def qa8:BT:=(N o3F (N o00 L L) (N oaf L L))
def qa9:BT:=(N o00 q85 (N o00 (N o00 L L) (N oaV L L)))
def qaa:BT:=(N o4M (N o7E L L) (N o01 L L))
def qab:BT:=(N o2F q87 (N o5x (N o8o L L) (N obd L L)))
def qac:BT:=(N o4D (N o8D L L) (N oap L L))
def qad:BT:=(N o2w q89 (N o3F (N o7y L L) (N o00 L L)))
def qae:BT:=(N o01 (N o0b L L) (N o00 L L))
def qaf:BT:=(N o2P q8b (N o5G (N o8A L L) (N ob6 L L)))
def qag:BT:=(N o01 (N o0b L L) (N oak L L))
def qah:BT:=(N o01 q8d (N o5e (N o85 L L) (N ob0 L L)))
def qai:BT:=(N o3F (N o7J L L) (N oaF L L))
def qaj:BT:=(N o00 (N o00 L L) (N oau L L))
def qak:BT:=(N o55 (N o7W L L) (N oaQ L L))
def qal:BT:=(N o4k (N o7b L L) (N o01 L L))
def qam:BT:=(N o00 qal (N o3F (N o00 L L) (N obq L L)))
def qan:BT:=(N o4n (N o7c L L) (N oad L L))
def qao:BT:=(N o57 (N o7Y L L) (N o00 L L))
def qap:BT:=(N o4K (N o7C L L) (N oax L L))
def qaq:BT:=(N o2D q8m (N o5u (N o8l L L) (N oba L L)))
def qar:BT:=(N o4A (N o01 L L) (N o0b L L))
def qas:BT:=(N o2t q8o (N o5h (N o88 L L) (N ob1 L L)))
def qat:BT:=(N o00 (N o7L L L) (N oaH L L))
def qau:BT:=(N o01 q8q (N o5E (N o8v L L) (N obk L L)))
def qav:BT:=(N o00 q8r (N o5c (N o83 L L) (N o01 L L)))
def qaw:BT:=(N o4P (N o00 L L) (N oaC L L))
def qax:BT:=(N o00 q8t (N o5z (N o8q L L) (N obf L L)))
def qay:BT:=(N o4F (N o7t L L) (N oaq L L))
def qaz:BT:=(N o52 (N o7T L L) (N oaO L L))
def qaA:BT:=(N o2Q q8x (N o5J (N o8E L L) (N o00 L L)))
def qaB:BT:=(N o4r (N o7f L L) (N o00 L L))
def qaC:BT:=(N o59 (N o80 L L) (N oaU L L))
def qaD:BT:=(N o01 (N o7p L L) (N oao L L))
def qaE:BT:=(N o01 q8D (N o5l (N o8c L L) (N ob4 L L)))
def qaF:BT:=(N o00 (N o7y L L) (N oaL L L))
def qaG:BT:=(N o2O q8F (N o00 (N o8z L L) (N o00 L L)))
def qaH:BT:=(N o00 (N o00 L L) (N oaj L L))
def qaI:BT:=(N o00 q8H (N o00 (N o00 L L) (N oaZ L L)))
def qaJ:BT:=(N o4T (N o7I L L) (N o01 L L))
def qaK:BT:=(N o2J q8J (N o5B (N o8s L L) (N obh L L)))
def qaL:BT:=(N o4H (N o7z L L) (N oat L L))
def qaM:BT:=(N o00 (N o7a L L) (N o00 L L))
def qaN:BT:=(N o2T qaM (N o5N (N o8H L L) (N obp L L)))
def qaO:BT:=(N o4p (N o7d L L) (N o01 L L))
def qaP:BT:=(N o00 (N o00 L L) (N oaT L L))
def qaQ:BT:=(N o01 (N o01 L L) (N oaz L L))
def qaR:BT:=(N o01 q8R (N o5w (N o8n L L) (N obc L L)))
def qaS:BT:=(N o4C (N o7o L L) (N o00 L L))
def qaT:BT:=(N o2v q8T (N o5j (N o8a L L) (N ob2 L L)))
def qaU:BT:=(N o4Z (N o7N L L) (N o00 L L))
def qaV:BT:=(N o00 q8V (N o01 (N o8x L L) (N o01 L L)))
def qaW:BT:=(N o4x (N o7i L L) (N oai L L))
def qaX:BT:=(N o4R (N o7H L L) (N oaE L L))
def qaY:BT:=(N o00 (N o7y L L) (N oar L L))
def qaZ:BT:=(N o00 q91 (N o5r (N o8i L L) (N ob7 L L)))
def qb0:BT:=(N o54 (N o7V L L) (N o01 L L))
def qb1:BT:=(N o2R q93 (N o5L (N o8F L L) (N obo L L)))
def qb2:BT:=(N o0b (N o01 L L) (N oag L L))
def qb3:BT:=(N o01 q95 (N o5a (N o81 L L) (N oaW L L)))
def qb4:BT:=(N o4N (N o7F L L) (N oaB L L))
def qb5:BT:=(N o00 (N o7r L L) (N o00 L L))
def qb6:BT:=(N o00 q99 (N o0b (N o0b L L) (N o01 L L)))
def qb7:BT:=(N o51 (N o7S L L) (N oaM L L))
def qb8:BT:=(N o00 q9b (N o5H (N o7y L L) (N obm L L)))
def qb9:BT:=(N o4z (N o7m L L) (N oal L L))
def qba:BT:=(N o2s q9d (N o5f (N o86 L L) (N o00 L L)))
def qbb:BT:=(N o0b (N o7K L L) (N o00 L L))
def qbc:BT:=(N o2L q9f (N o5C (N o8t L L) (N obi L L)))
def qbd:BT:=(N o4I (N o7A L L) (N oav L L))
def qbe:BT:=(N o2B q9h (N o5t (N o8k L L) (N ob9 L L)))
def qbf:BT:=(N o00 (N o00 L L) (N oaR L L))
def qbg:BT:=(N o4l (N o00 L L) (N oab L L))
def qbh:BT:=(N o01 qbg (N o0b (N o01 L L) (N obr L L)))
def tree_1295_:BT:=(N b0 (N b1 (N obs (N b7 (N o00 (N o1C (N o01 (N o0n (N o2U (N o5R (N o00 L L) L) (N o8I L L)) q9r) (N o0b (N o00 (N o6x (N o01 L L) L) (N o00 L L)) q9s)) (N o0n (N o1X (N o3d (N o6a (N obL L L) L) (N o94 L L)) q9t) (N o2C q7n q3h))) (N o0n (N o0V (N o1N (N o33 (N o60 (N obC L L) L) (N o8T L L)) q3h) q9u) (N o1n (N o28 (N o0b (N o00 (N obV L L) L) (N o01 L L)) q9v) q9w))) (N o0b (N o01 (N o0n (N o00 q2Q q9x) q9y) (N o1f (N o22 (N o3i (N o6j (N obQ L L) L) (N o0b L L)) q9z) q9A)) (N o0B (N o01 (N o1S (N o38 (N o65 (N o00 L L) L) (N o1q L L)) q9B) q9C) (N o1s (N o00 (N o6i (N o6s (N o00 L L) L) (N o9o L L)) q9D) q9E)))) (N o00 (N o07 (N o0n (N o0L (N o1E (N o2X (N o5U (N obv L L) L) (N o8L L L)) q9F) (N o2m (N o00 (N o6z (N oc6 L L) L) (N o00 L L)) q7C)) (N o01 (N o1Z (N o00 (N o6e (N o01 L L) L) (N o98 L L)) q9G) (N o2E q7B q3h))) (N o01 (N o0n (N o00 (N o01 (N o01 (N obF L L) L) (N o00 L L)) q9H) q9I) (N o00 (N o01 (N o3u q08 (N o9k L L)) q9J) q9K))) (N o0d (N o0r (N o01 (N o1J (N o00 (N o00 (N obA L L) L) (N o00 L L)) q9L) q9M) (N o0n (N o24 (N o3m (N o6m (N obS L L) L) (N o9f L L)) q9N) (N o00 q7J q4I))) (N o0n (N o15 (N o01 (N o3a (N o67 (N o00 L L) L) (N o00 L L)) q9O) q9P) (N o1w (N o2f (N o3B (N o01 (N oc1 L L) L) (N o9s L L)) q9Q) q9R))))) (N b5 (N b9 (N o06 (N o0i (N o0K (N o1D (N o2V (N o5S (N obu L L) L) (N o8J L L)) q9S) (N o00 (N o3I q08 (N o9v L L)) q9T)) (N o1c (N o00 (N o01 (N o6c (N obN L L) L) (N o96 L L)) q9U) q9V)) (N o0y (N o0X (N o1P (N o35 (N o62 (N obD L L) L) (N o0b L L)) q9W) q9X) (N o1p (N o2a (N o00 (N o6p (N o01 L L) L) (N o00 L L)) q9Y) q9Z))) (N o00 (N o0q (N o0S (N o1I (N o30 (N o5X (N o00 L L) L) (N o8O L L)) qa0) qa1) (N o1h (N o01 (N o3k (N o6k (N o00 L L) L) (N o00 L L)) qa2) qa3)) (N o0D (N o14 (N o1U (N o00 (N o00 (N obI L L) L) (N o01 L L)) qa4) qa5) (N o1u (N o2e (N o3z (N o6u (N oc0 L L) L) (N o9q L L)) qa6) qa7)))) (N o02 (N o09 (N o0o (N o0N (N o1G (N o01 (N o01 (N obx L L) L) (N o01 L L)) qa8) qa9) (N o1e (N o20 (N o3g q4J (N o9a L L)) qaa) qab)) (N o0A (N o12 (N o1R (N o00 q0j (N o8Y L L)) qac) qad) (N o1r (N o2c (N o00 (N o6r (N obY L L) L) (N o9m L L)) qae) qaf))) (N o00 (N o0t (N o0U (N o1L (N o32 (N o5Z (N o00 L L) L) (N o8R L L)) qag) qah) (N o1m (N o00 (N o3o (N o01 (N obT L L) L) (N o9h L L)) qai) (N o2K q8f q3h))) (N o0I (N o17 (N o00 (N o3b (N o68 (N obK L L) L) (N o92 L L)) qaj) (N o00 q8h q4I)) (N o1y (N o2h (N o0b (N o00 (N oc3 L L) L) (N o01 L L)) qak) qam)))))) (N b2 (N b4 (N b8 (N o01 (N o0h (N o0J (N o0b q2Q qan) (N o2k (N o3H (N o6y (N oc4 L L) L) (N o9u L L)) qao)) (N o0b (N o1Y (N o00 (N o6b (N obM L L) L) (N o95 L L)) qap) qaq)) (N o0b (N o0W (N o1O (N o34 (N o61 (N o00 L L) L) (N o00 L L)) qar) qas) (N o1o (N o29 (N o3t (N o6o (N o00 L L) L) (N o9i L L)) qat) qau))) (N o0c (N o0p (N o0b (N o01 (N o2Z (N o5W (N oby L L) L) (N o8N L L)) q3h) qav) (N o1g (N o00 (N o3j (N o00 (N obR L L) L) (N o9d L L)) qaw) qax)) (N o0C (N o13 (N o1T (N o39 (N o66 (N obH L L) L) (N o00 L L)) qay) (N o2y q8v q3h)) (N o1t (N o01 (N o3y (N o6t (N o01 L L) L) (N o9p L L)) qaz) qaA)))) (N obt (N o08 (N o0b (N o0M (N o1F (N o00 (N o00 (N obw L L) L) (N o00 L L)) qaB) (N o2n (N o01 (N o00 (N oc7 L L) L) (N o0b L L)) qaC)) (N o1d (N o00 (N o3f (N o6f (N obO L L) L) (N o99 L L)) q3h) (N o00 q8B q4I))) (N o0z (N o0b (N o01 (N o36 (N o63 (N o00 L L) L) (N o8X L L)) qaD) qaE) (N o01 (N o2b (N o3v (N o01 (N obX L L) L) (N o9l L L)) qaF) qaG))) (N o0e (N o0s (N o0T (N o1K (N o01 (N o01 (N obB L L) L) (N o8Q L L)) qaH) qaI) (N o0b (N o25 (N o3n q08 (N o9g L L)) qaJ) qaK)) (N o0b (N o16 (N o1V (N o00 q0j (N o91 L L)) qaL) (N o2A q8L q3h)) (N o1x (N o2g (N o3F (N o6v (N oc2 L L) L) (N o00 L L)) q7C) qaN))))) (N b6 (N b10 (N o00 (N o0j (N o00 (N o00 (N o2W (N o5T (N o00 L L) L) (N o8K L L)) qaO) (N o2l (N o3J (N o01 (N oc5 L L) L) (N o9w L L)) qaP)) (N o00 (N o01 (N o3e (N o6d (N o00 L L) L) (N o97 L L)) qaQ) qaR)) (N o00 (N o0Y (N o1Q (N o00 (N o00 (N obE L L) L) (N o8W L L)) qaS) qaT) (N o1q (N o00 (N o01 (N o6q (N obW L L) L) (N o9j L L)) qaU) qaV))) (N o01 (N o00 (N o00 (N o00 (N o31 (N o5Y (N obz L L) L) (N o8P L L)) qaW) (N o2q q8X q7C)) (N o1i (N o23 (N o3l (N o6l (N o01 L L) L) (N o9e L L)) qaX) (N o2I q8Z q3h))) (N o0E (N o00 (N o00 (N o01 (N o01 (N obJ L L) L) (N o90 L L)) qaY) qaZ) (N o1v (N o00 (N o3A q08 (N o9r L L)) qb0) qb1)))) (N o03 (N o0a (N o00 (N o0O (N o1H (N o2Y (N o5V (N o00 L L) L) (N o8M L L)) qb2) qb3) (N o00 (N o21 (N o3h (N o0b (N obP L L) L) (N o00 L L)) qb4) (N o2G q97 q3h))) (N o00 (N o00 (N o00 (N o37 (N o64 (N obG L L) L) (N o8Z L L)) qb5) qb6) (N o00 (N o2d (N o3w (N o00 (N obZ L L) L) (N o9n L L)) qb7) qb8))) (N o0f (N o0u (N o00 (N o1M (N o00 q0j (N o8S L L)) qb9) qba) (N o00 (N o01 (N o00 (N o6n (N obU L L) L) (N o00 L L)) qbb) qbc)) (N o00 (N o18 (N o1W (N o3c (N o69 (N o00 L L) L) (N o93 L L)) qbd) qbe) (N o1z (N o00 (N o3G (N o6w (N o00 L L) L) (N o9t L L)) qbf) qbh)))))))
def qbi:BT:=(N o0n (N o1X q7m q36) (N o2C q37 q08))
def qbj:BT:=(N o01 (N o1S q7u q3s) (N o2x q3t q3u))
def qbk:BT:=(N o0n q3E (N o01 (N o1Z q7A q3G) (N o2E q3H q08)))
def qbl:BT:=(N o0n (N o00 q7C q08) (N o00 q3J q3K))
def qbm:BT:=(N o15 (N o01 q7K q3Z) (N o01 q40 q41))
def qbn:BT:=(N o1c (N o00 q7R q08) (N o00 q4d q4e))
def qbo:BT:=(N o0X (N o1P q7T q4h) (N o2u q4i q4j))
def qbp:BT:=(N o14 (N o1U q80 q4z) (N o2z q4A q4B))
def qbq:BT:=(N o0o q4L (N o1e (N o20 q86 q4N) (N o2F q0R q4O)))
def qbr:BT:=(N o12 (N o1R q88 q4Q) (N o2w q4R q4S))
def qbs:BT:=(N o17 (N o00 q8g q08) (N o00 q55 q3D))
def qbt:BT:=(N o0b (N o1Y q8l q5f) (N o2D q5g q5h))
def qbu:BT:=(N o0W (N o1O q8n q5k) (N o2t q5l q5m))
def qbv:BT:=(N o13 (N o1T q8u q5D) (N o2y q5E q08))
def qbw:BT:=(N o0b q5N (N o1d (N o00 q8A q08) (N o00 q5P q3D)))
def qbx:BT:=(N o0b (N o01 q8C q5S) (N o01 q08 q5T))
def qby:BT:=(N o16 (N o1V q8K q67) (N o2A q68 q08))
def qbz:BT:=(N o00 (N o01 q8Q q3D) (N o01 q6j q6k))
def qbA:BT:=(N o0Y (N o1Q q8S q6m) (N o2v q6n q6o))
def qbB:BT:=(N o00 (N o00 q90 q5W) (N o00 q6D q6E))
def qbC:BT:=(N o00 (N o00 q98 q6U) (N o00 q6V q6W))
def qbD:BT:=(N o18 (N o1W q9g q7e) (N o2B q01 q7f))
def tree_1029_:BT:=(N b0 (N b1 (N o9b (N b7 (N o00 (N o1C q7l qbi) (N o0n q3c (N o1n (N o28 q7p q3d) (N o00 q3e q3f)))) (N o0b (N o01 q3l (N o1f (N o22 q7s q3n) (N o2H q3o q3p))) (N o0B qbj (N o1s (N o00 q7w q08) (N o01 q3x q3y))))) (N o00 (N o07 qbk (N o01 qbl (N o00 (N o01 q7E q3N) (N o2N q0R q3O)))) (N o0d (N o0r q3T (N o0n (N o24 q7I q3V) (N o00 q3W q3D))) (N o0n qbm (N o1w (N o2f q7M q08) (N o2S q44 q45)))))) (N b5 (N b9 (N o06 (N o0i q7Q qbn) (N o0y qbo (N o1p (N o2a q7V q4m) (N o2M q4n q4o)))) (N o00 (N o0q q4t (N o1h (N o01 q7Y q4v) (N o01 q4w q4x))) (N o0D qbp (N o1u (N o2e q82 q4E) (N o00 q4F q4G))))) (N o02 (N o09 qbq (N o0A qbr (N o1r (N o2c q8a q3Z) (N o2P q4U q4V)))) (N o00 (N o0t q4Z (N o1m (N o00 q8e q51) (N o2K q52 q08))) (N o0I qbs q8i))))) (N b2 (N b4 (N b8 (N o01 (N o0h q8k qbt) (N o0b qbu (N o1o (N o29 q8p q5p) (N o01 q5q q5r)))) (N o0c (N o0p q5w (N o1g (N o00 q8s q5y) (N o00 q5z q5A))) (N o0C qbv (N o1t (N o01 q8w q5H) (N o2Q q5I q5J))))) (N o9c (N o08 qbw (N o0z qbx (N o01 (N o2b q8E q5W) (N o2O q5X q5Y)))) (N o0e (N o0s q62 (N o0b (N o25 q8I q64) (N o2J q0R q65))) (N o0b qby q8N)))) (N b6 (N b10 (N o00 (N o0j q8P qbz) (N o00 qbA (N o1q (N o00 q8U q6r) (N o00 q6s q6t)))) (N o01 (N o00 q6y (N o1i (N o23 q8Y q6A) (N o2I q6B q08))) (N o0E qbB (N o1v (N o00 q92 q6H) (N o2R q0R q6I))))) (N o03 (N o0a (N o00 q6O (N o00 (N o21 q96 q6Q) (N o2G q6R q08))) (N o00 qbC (N o00 (N o2d q9a q6Z) (N o00 q70 q71)))) (N o0f (N o0u q77 (N o00 (N o01 q9e q79) (N o2L q7a q7b))) (N o00 qbD q9j))))))
def qbE:BT:=(N o0n q1W (N o1n (N o28 L L) (N o00 L L)))
def qbF:BT:=(N o1s (N o00 L L) (N o01 L L))
def qbG:BT:=(N o00 (N o01 L L) (N o2N L L))
def qbH:BT:=(N o1w (N o2f L L) (N o2S L L))
def qbI:BT:=(N o0y q2d (N o1p (N o2a L L) (N o2M L L)))
def qbJ:BT:=(N o1u (N o2e L L) (N o00 L L))
def qbK:BT:=(N o1r (N o2c L L) (N o2P L L))
def qbL:BT:=(N o0b q2u (N o1o (N o29 L L) (N o01 L L)))
def qbM:BT:=(N o1t (N o01 L L) (N o2Q L L))
def qbN:BT:=(N o01 (N o2b L L) (N o2O L L))
def qbO:BT:=(N o1q (N o00 L L) (N o00 L L))
def qbP:BT:=(N o1v (N o00 L L) (N o2R L L))
def qbQ:BT:=(N o00 (N o2d L L) (N o00 L L))
def qbR:BT:=(N o0u q2W (N o00 (N o01 L L) (N o2L L L)))
def tree_365_:BT:=(N b0 (N b1 (N o2i (N b7 (N o00 (N o1C q1U q1V) qbE) (N o0b (N o01 q1Y q1Z) (N o0B q20 qbF))) (N o00 (N o07 (N o0n q22 q23) (N o01 q24 qbG)) (N o0d (N o0r q26 q27) (N o0n q28 qbH)))) (N b5 (N b9 (N o06 (N o0i q2b q2c) qbI) (N o00 (N o0q q2f q2g) (N o0D q2h qbJ))) (N o02 (N o09 (N o0o q2j q2k) (N o0A q2l qbK)) q2r))) (N b2 (N b4 (N b8 (N o01 q2t qbL) (N o0c (N o0p q2w q2x) (N o0C q2y qbM))) (N o2j (N o08 (N o0b q2B q2C) (N o0z q2D qbN)) q2I)) (N b6 (N b10 (N o00 q2L (N o00 q2M qbO)) (N o01 (N o00 q2O q2P) (N o0E q2Q qbP))) (N o03 (N o0a (N o00 q2S q2T) (N o00 q2U qbQ)) (N o0f qbR (N o00 q2Y q2Z))))))
def tree_505_:BT:=(N b0 (N b1 (N o3C (N b7 (N o00 (N o1C (N o01 q1T q01) q1V) (N o0n (N o0V q04 q05) q1X)) (N o0b (N o01 (N o0n q08 q09) q1Z) (N o0B (N o01 q0c q0d) (N o1s (N o00 (N o3E L L) L) (N o01 L L))))) (N o00 (N o07 (N o0n (N o0L q21 q0g) q23) (N o01 (N o0n q0j q0k) q25)) (N o0d (N o0r (N o01 q0n q0o) q27) (N o0n (N o15 q0q q0r) q29)))) (N b5 (N b9 (N o06 (N o0i (N o0K q2a q0v) q2c) (N o0y (N o0X q0x q0y) q2e)) (N o00 (N o0q (N o0S q0B q0C) q2g) (N o0D (N o14 q0F q0G) q2i))) (N o02 (N o09 (N o0o (N o0N q0I q0J) q2k) (N o0A (N o12 q0M q0N) q2m)) (N o00 (N o0t (N o0U q0Q q0R) q2o) (N o0I q2p (N o1y q0W (N o00 L L))))))) (N b2 (N b4 (N b8 (N o01 (N o0h (N o0J q01 q0Z) q2s) (N o0b (N o0W q12 q13) q2v)) (N o0c (N o0p (N o0b q16 q17) q2x) (N o0C (N o13 q1a q1b) q2z))) (N o3D (N o08 (N o0b (N o0M q2A q1f) q2C) (N o0z (N o0b q1h q0R) q2E)) (N o0e (N o0s (N o0T q1k q1l) q2G) (N o0b (N o16 q1o q1p) (N o1x q1q (N o2T L L)))))) (N b6 (N b10 (N o00 (N o0j (N o00 q2J q1t) q2K) (N o00 (N o0Y q1w q1x) q2N)) (N o01 (N o00 (N o00 q1y q1z) q2P) (N o0E (N o00 q0j q1C) q2R))) (N o03 (N o0a (N o00 (N o0O q1F q0R) q2T) (N o00 (N o00 q1I q1J) q2V)) (N o0f (N o0u (N o00 q1M q1N) q2X) (N o00 q2Y (N o1z q1R (N o01 L L))))))))
def tree_450_:BT:=(N b0 (N b1 (N o26 (N b7 (N o00 (N o1C q1U (N o0n (N o1X L L) (N o2C L L))) qbE) (N o0b (N o01 q1Y (N o1f (N o22 L L) (N o2H L L))) (N o0B (N o01 (N o1S L L) (N o2x L L)) qbF))) (N o00 (N o07 (N o0n q22 (N o01 (N o1Z L L) (N o2E L L))) (N o01 (N o0n (N o00 L L) (N o00 L L)) qbG)) (N o0d (N o0r q26 (N o0n (N o24 L L) (N o00 L L))) (N o0n (N o15 (N o01 L L) (N o01 L L)) qbH)))) (N b5 (N b9 (N o06 (N o0i q2b (N o1c (N o00 L L) (N o00 L L))) qbI) (N o00 (N o0q q2f (N o1h (N o01 L L) (N o01 L L))) (N o0D (N o14 (N o1U L L) (N o2z L L)) qbJ))) (N o02 (N o09 (N o0o q2j (N o1e (N o20 L L) (N o2F L L))) (N o0A (N o12 (N o1R L L) (N o2w L L)) qbK)) (N o00 (N o0t q2n (N o1m (N o00 L L) (N o2K L L))) (N o0I (N o17 (N o00 L L) (N o00 L L)) q2q))))) (N b2 (N b4 (N b8 (N o01 (N o0h (N o0J q01 (N o3p L L)) (N o0b (N o1Y L L) (N o2D L L))) qbL) (N o0c (N o0p q2w (N o1g (N o00 L L) (N o00 L L))) (N o0C (N o13 (N o1T L L) (N o2y L L)) qbM))) (N o2j (N o08 (N o0b q2B (N o1d (N o00 L L) (N o00 L L))) (N o0z (N o0b (N o01 L L) (N o01 L L)) qbN)) (N o0e (N o0s q2F (N o0b (N o25 L L) (N o2J L L))) (N o0b (N o16 (N o1V L L) (N o2A L L)) q2H)))) (N b6 (N b10 (N o00 (N o0j (N o00 q2J (N o3q L L)) (N o00 (N o01 L L) (N o01 L L))) (N o00 (N o0Y (N o1Q L L) (N o2v L L)) qbO)) (N o01 (N o00 q2O (N o1i (N o23 L L) (N o2I L L))) (N o0E q3h qbP))) (N o03 (N o0a (N o00 q2S (N o00 (N o21 L L) (N o2G L L))) (N o00 q3h qbQ)) (N o0f qbR (N o00 (N o18 (N o1W L L) (N o2B L L)) q2Z))))))
def qbS:BT:=(N o0b (N o01 L L) (N o0B L L))
def qbT:BT:=(N o00 (N o0q L L) (N o0D L L))
def qbU:BT:=(N o0c (N o0p L L) (N o0C L L))
def qbV:BT:=(N o01 (N o00 L L) (N o0E L L))
def tree_100_:BT:=(N b0 (N b1 (N o0v (N b7 (N o00 (N o0x L L) (N o0n L L)) qbS) (N o00 (N o07 (N o0n L L) (N o01 L L)) q9k)) (N b5 (N b9 (N o06 (N o0i L L) (N o0y L L)) qbT) (N o02 (N o09 (N o0o L L) (N o0A L L)) q9m))) (N b2 (N b4 (N b8 (N o01 (N o0h L L) (N o0b L L)) qbU) (N o0w (N o08 (N o0b L L) (N o0z L L)) q9o)) (N b6 (N b10 (N o00 (N o0j L L) (N o00 L L)) qbV) (N o03 (N o0a (N o00 L L) (N o00 L L)) q9q))))
def heap_1296_:PySem.Heap:=(Heap.mk (Array.mk [b0,b1,b2,obs,b4,b5,b6,b7,b8,b9,b10,o00,obt,o02,o03,o00,o01,o06,o00,o07,o08,o09,o0a,o0b,o0c,o00,o01,o0d,o0e,o00,o0f,o1C,o0h,o0i,o0j,o0n,o0b,o0o,o00,o01,o0p,o0q,o00,o0r,o0s,o0t,o0u,o0n,o0b,o0y,o00,o01,o0z,o0A,o00,o0B,o0C,o0D,o0E,o0n,o0b,o0I,o00,o01,o0J,o0K,o00,o0L,o0M,o0N,o0O,o0n,o0b,o0S,o00,o01,o0T,o0U,o00,o0V,o0W,o0X,o0Y,o0n,o0b,o12,o00,o01,o13,o14,o00,o15,o16,o17,o18,o0n,o0b,o1c,o00,o01,o1d,o1e,o00,o1f,o1g,o1h,o1i,o0n,o0b,o1m,o00,o1n,o1o,o1p,o1q,o00,o01,o1r,o00,o1s,o1t,o1u,o1v,o1w,o1x,o1y,o1z,o0n,o0b,o1D,o00,o1E,o1F,o1G,o1H,o00,o01,o1I,o00,o1J,o1K,o1L,o1M,o1N,o1O,o1P,o1Q,o00,o01,o1R,o00,o1S,o1T,o1U,o00,o01,o1V,o00,o1W,o1X,o1Y,o00,o01,o1Z,o00,o20,o21,o22,o00,o01,o23,o24,o25,o00,o01,o28,o29,o2a,o00,o01,o2b,o2c,o2d,o00,o01,o2e,o00,o2f,o2g,o2h,o00,o0b,o2k,o00,o2l,o2m,o2n,o00,o01,o2o,o00,o2p,o2q,o2r,o00,o01,o2s,o00,o2t,o2u,o2v,o00,o01,o2w,o00,o2x,o2y,o2z,o00,o01,o2A,o00,o2B,o2C,o2D,o00,o01,o2E,o00,o2F,o2G,o2H,o00,o01,o2I,o00,o2J,o2K,o2L,o00,o01,o2M,o00,o2N,o2O,o2P,o00,o01,o2Q,o00,o2R,o2S,o2T,o00,o01,o2U,o00,o2V,o2W,o2X,o00,o01,o2Y,o00,o2Z,o30,o31,o00,o01,o32,o00,o33,o34,o35,o00,o01,o36,o00,o37,o38,o39,o00,o01,o3a,o00,o3b,o3c,o3d,o00,o01,o3e,o00,o3f,o3g,o3h,o3i,o3j,o3k,o3l,o3m,o3n,o3o,o00,o0b,o3t,o00,o01,o3u,o3v,o00,o3w,o6i,o3y,o3z,o3A,o3B,o3F,o0b,o3G,o00,o3H,o3I,o3J,o00,o01,o3K,o00,o3L,o3M,o3N,o00,o01,o3O,o00,o3P,o3Q,o3R,o00,o01,o3S,o00,o3T,o3U,o3V,o00,o3W,o3X,o3Y,o3Z,o3F,o0b,o43,o00,o44,o45,o46,o00,o01,o47,o00,o48,o49,o4a,o00,o01,o4b,o00,o4c,o4d,o4e,o00,o01,o4f,o00,o4g,o4h,o4i,o00,o01,o4j,o00,o4k,o4l,o4m,o4n,o4o,o4p,o4q,o4r,o3F,o0b,o4v,o00,o4w,o4x,o4y,o00,o01,o4z,o00,o4A,o4B,o4C,o00,o01,o4D,o00,o4E,o4F,o4G,o00,o01,o4H,o00,o4I,o4J,o4K,o00,o01,o4L,o00,o4M,o4N,o4O,o4P,o4Q,o4R,o4S,o4T,o3F,o0b,o4X,o00,o4Y,o4Z,o50,o00,o01,o51,o00,o52,o53,o54,o00,o01,o55,o00,o56,o57,o58,o00,o01,o59,o00,o5a,o5b,o5c,o00,o01,o5d,o00,o5e,o5f,o5g,o5h,o5i,o5j,o5k,o5l,o3F,o0b,o5p,o00,o5q,o5r,o5s,o00,o01,o5t,o00,o5u,o5v,o5w,o00,o01,o5x,o00,o5y,o5z,o5A,o00,o01,o5B,o00,o5C,o5D,o5E,o00,o01,o5F,o00,o5G,o5H,o5I,o5J,o5K,o5L,o5M,o5N,o3F,o0b,o5R,o00,o5S,o5T,o5U,o00,o01,o5V,o00,o5W,o5X,o5Y,o00,o01,o5Z,o00,o60,o61,o62,o00,o01,o63,o00,o64,o65,o66,o00,o01,o67,o00,o68,o69,o6a,o6b,o6c,o6d,o6e,o6f,o3F,o0b,o6j,o00,o6k,o6l,o6m,o00,o01,o6n,o00,o6o,o6p,o6q,o00,o01,o6r,o00,o6s,o6t,o6u,o00,o01,o6v,o00,o6w,o6x,o6y,o00,o01,o6z,o00,o6A,o6B,o6C,o6D,o6E,o6F,o6G,o6H,o00,o01,o6I,o00,o6J,o6K,o6L,o00,o01,o6O,o00,o6P,o6Q,o6R,o00,o01,o6S,o00,o6T,o6U,o6V,o00,o01,o6W,o00,o6X,o6Y,o6Z,o00,o01,o70,o00,o71,o72,o73,o00,o01,o74,o00,o75,o76,o77,o00,o01,o78,o00,o79,o7a,o7b,o00,o01,o7c,o00,o7d,o7e,o7f,o00,o01,o7g,o00,o7h,o7i,o7j,o00,o0b,o7m,o00,o01,o7n,o7o,o00,o7p,o8D,o7r,o7s,o7t,o7u,o7y,o0b,o7z,o00,o7A,o7B,o7C,o00,o01,o7D,o00,o7E,o7F,o7G,o00,o01,o7H,o00,o7I,o7J,o7K,o00,o7L,o7M,o7N,o7O,o7y,o0b,o7S,o00,o7T,o7U,o7V,o00,o01,o7W,o00,o7X,o7Y,o7Z,o00,o01,o80,o00,o81,o82,o83,o00,o01,o84,o00,o85,o86,o87,o88,o89,o8a,o8b,o8c,o7y,o0b,o8g,o00,o8h,o8i,o8j,o00,o01,o8k,o00,o8l,o8m,o8n,o00,o01,o8o,o00,o8p,o8q,o8r,o00,o01,o8s,o00,o8t,o8u,o8v,o8w,o8x,o8y,o8z,o8A,o7y,o0b,o8E,o00,o8F,o8G,o8H,o00,o01,o8I,o00,o8J,o8K,o8L,o00,o01,o8M,o00,o8N,o8O,o8P,o00,o8Q,o8R,o8S,o8T,o00,o0b,o8W,o00,o8X,o8Y,o8Z,o1q,o00,o01,o90,o00,o91,o92,o93,o94,o95,o96,o97,o98,o99,o9a,o00,o0b,o9d,o00,o9e,o9f,o9g,o9h,o00,o01,o9i,o00,o9j,o9k,o9l,o9m,o9n,o9o,o9p,o9q,o9r,o9s,o00,o01,o9t,o00,o9u,o9v,o9w,o00,o0b,o9z,o00,o9A,o9B,o9C,o9D,o00,o01,o9E,o00,o9F,o9G,o9H,o00,o01,o9I,o00,o9J,o9K,o9L,o00,o01,o9M,o00,o9N,o9O,o9P,o00,o01,o9Q,o00,o9R,o9S,o9T,o00,o01,o9U,o00,o9V,o9W,o9X,o9Y,o9Z,oa0,oa1,oa2,oa3,oa4,o00,o01,oa5,o00,oa6,oa7,oa8,o00,o01,oab,oac,oad,o00,o01,oae,o00,oaf,oag,oah,o00,o01,oai,o00,oaj,oak,oal,o00,o0b,oam,o00,oan,oao,oap,o00,o01,oaq,o00,oar,oas,oat,oau,oav,oaw,oax,oay,oaz,oaA,o00,o01,oaB,o00,oaC,oaD,oaE,o00,o01,oaF,o00,oaG,oaH,oaI,o00,o01,oaL,o00,oaM,oaN,oaO,o00,o01,oaP,o00,oaQ,oaR,oaS,o00,o01,oaT,o00,oaU,oaV,oaW,o00,o01,oaX,o00,oaY,oaZ,ob0,o00,o01,ob1,o00,ob2,ob3,ob4,o00,o01,ob5,o00,oz6,ob7,ob8,o00,o01,ob9,o00,oba,obb,obc,o00,o01,obd,o00,obe,obf,obg,o00,o01,obh,o00,obi,obj,obk,o00,o01,obl,o00,ob6,obm,obn,o00,o01,obo,o00,obp,obq,obr,o00,o01,obu,o00,obv,obw,obx,o00,o01,oby,o00,obz,obA,obB,o00,o01,obC,o00,obD,obE,obF,o00,o01,obG,o00,obH,obI,obJ,o00,o01,obK,o00,obL,obM,obN,o00,o01,obO,o00,obP,obQ,obR,o00,o01,obS,o00,obT,obU,obV,o00,o01,obW,o00,obX,obY,obZ,o00,o01,oc0,o00,oc1,oc2,oc3,o00,o01,oc4,o00,oc5,oc6,oc7]) (Life.mk [] [] [] 0 [] [] false #[] [] 0 false false false 0 [2000,10,10] false 0 true [] [] 0 false))
def qbW:BT:=(N o2U (N o5R L L) L)
def qbX:BT:=(N o0n qbW (N o4m L L))
def qbY:BT:=(N o0b q32 (N o56 L L))
def qbZ:BT:=(N o1X q35 (N o4J L L))
def qc0:BT:=(N o2C (N o43 L L) (N o00 L L))
def qc1:BT:=(N o33 (N o60 L L) L)
def qc2:BT:=(N o1N qc1 (N o00 L L))
def qc3:BT:=(N o00 q3a (N o5g L L))
def qc4:BT:=(N o28 q01 (N o4X L L))
def qc5:BT:=(N o00 (N o4c L L) (N o5D L L))
def qc6:BT:=(N o00 q08 (N o4v L L))
def qc7:BT:=(N o2o q3j (N o5b L L))
def qc8:BT:=(N o22 q3m (N o4O L L))
def qc9:BT:=(N o2H (N o00 L L) (N o5y L L))
def qca:BT:=(N o1S q3r (N o4E L L))
def qcb:BT:=(N o2x (N o3V L L) (N o5p L L))
def qcc:BT:=(N o00 q3w (N o00 L L))
def qcd:BT:=(N o01 (N o4h L L) (N o5I L L))
def qce:BT:=(N o2X (N o5U L L) L)
def qcf:BT:=(N o1E qce (N o4q L L))
def qcg:BT:=(N o2m q3C (N o01 L L))
def qch:BT:=(N o1Z q3F (N o4L L L))
def qci:BT:=(N o2E (N o46 L L) (N o00 L L))
def qcj:BT:=(N o00 q3D (N o00 L L))
def qck:BT:=(N o00 q3J (N o5k L L))
def qcl:BT:=(N o01 q3M (N o50 L L))
def qcm:BT:=(N o2N (N o01 L L) (N o5F L L))
def qcn:BT:=(N o1J q08 (N o4y L L))
def qco:BT:=(N o2r q3R (N o5d L L))
def qcp:BT:=(N o24 q3U (N o4S L L))
def qcq:BT:=(N o01 q3Y (N o01 L L))
def qcr:BT:=(N o01 (N o3Y L L) (N o5s L L))
def qcs:BT:=(N o2f q43 (N o00 L L))
def qct:BT:=(N o2S (N o4j L L) (N o5M L L))
def qcu:BT:=(N o2V (N o5S L L) L)
def qcv:BT:=(N o1D qcu (N o4o L L))
def qcw:BT:=(N o00 q49 (N o58 L L))
def qcx:BT:=(N o00 q4c (N o00 L L))
def qcy:BT:=(N o00 (N o44 L L) (N o5v L L))
def qcz:BT:=(N o1P q4g (N o4B L L))
def qcA:BT:=(N o2u q4i (N o5i L L))
def qcB:BT:=(N o2a q4l (N o4Y L L))
def qcC:BT:=(N o2M (N o4e L L) (N o00 L L))
def qcD:BT:=(N o30 (N o5X L L) L)
def qcE:BT:=(N o1I qcD (N o4w L L))
def qcF:BT:=(N o2p q4s (N o00 L L))
def qcG:BT:=(N o01 q4u (N o4Q L L))
def qcH:BT:=(N o01 (N o49 L L) (N o5A L L))
def qcI:BT:=(N o1U q08 (N o4G L L))
def qcJ:BT:=(N o2z (N o3W L L) (N o5q L L))
def qcK:BT:=(N o2e q4D (N o53 L L))
def qcL:BT:=(N o00 (N o00 L L) (N o5K L L))
def qcM:BT:=(N o1G q3D (N o3F L L))
def qcN:BT:=(N o00 q4K (N o00 L L))
def qcO:BT:=(N o20 q4M (N o4M L L))
def qcP:BT:=(N o2F (N o01 L L) (N o5x L L))
def qcQ:BT:=(N o1R q08 (N o4D L L))
def qcR:BT:=(N o2w (N o3T L L) (N o3F L L))
def qcS:BT:=(N o2c q4T (N o01 L L))
def qcT:BT:=(N o2P (N o00 L L) (N o5G L L))
def qcU:BT:=(N o32 (N o5Z L L) L)
def qcV:BT:=(N o1L qcU (N o01 L L))
def qcW:BT:=(N o01 q08 (N o5e L L))
def qcX:BT:=(N o00 q50 (N o3F L L))
def qcY:BT:=(N o2K (N o4b L L) (N o00 L L))
def qcZ:BT:=(N o00 q54 (N o00 L L))
def qd0:BT:=(N o00 (N o3F L L) (N o01 L L))
def qd1:BT:=(N o2h q01 (N o55 L L))
def qd2:BT:=(N o00 (N o4k L L) (N o3F L L))
def qd3:BT:=(N o0b q08 (N o4n L L))
def qd4:BT:=(N o2k q5b (N o57 L L))
def qd5:BT:=(N o1Y q5e (N o4K L L))
def qd6:BT:=(N o2D (N o00 L L) (N o5u L L))
def qd7:BT:=(N o1O q5j (N o4A L L))
def qd8:BT:=(N o2t q5l (N o5h L L))
def qd9:BT:=(N o29 q5o (N o00 L L))
def qda:BT:=(N o01 (N o4d L L) (N o5E L L))
def qdb:BT:=(N o2Z (N o5W L L) L)
def qdc:BT:=(N o01 qdb (N o00 L L))
def qdd:BT:=(N o00 q5u (N o5c L L))
def qde:BT:=(N o00 q5x (N o4P L L))
def qdf:BT:=(N o00 (N o48 L L) (N o5z L L))
def qdg:BT:=(N o1T q5C (N o4F L L))
def qdh:BT:=(N o2y (N o00 L L) (N o00 L L))
def qdi:BT:=(N o01 q5G (N o52 L L))
def qdj:BT:=(N o2Q (N o4i L L) (N o5J L L))
def qdk:BT:=(N o1F q08 (N o4r L L))
def qdl:BT:=(N o2n q0R (N o59 L L))
def qdm:BT:=(N o00 q5O (N o00 L L))
def qdn:BT:=(N o01 q5R (N o01 L L))
def qdo:BT:=(N o01 (N o00 L L) (N o5l L L))
def qdp:BT:=(N o2b q5V (N o00 L L))
def qdq:BT:=(N o2O (N o4f L L) (N o00 L L))
def qdr:BT:=(N o1K q3D (N o00 L L))
def qds:BT:=(N o00 q61 (N o00 L L))
def qdt:BT:=(N o25 q63 (N o4T L L))
def qdu:BT:=(N o2J (N o01 L L) (N o5B L L))
def qdv:BT:=(N o1V q08 (N o4H L L))
def qdw:BT:=(N o2A (N o3Z L L) (N o00 L L))
def qdx:BT:=(N o2g q6a (N o01 L L))
def qdy:BT:=(N o2T (N o00 L L) (N o5N L L))
def qdz:BT:=(N o2W (N o5T L L) L)
def qdA:BT:=(N o00 qdz (N o4p L L))
def qdB:BT:=(N o2l q6g (N o00 L L))
def qdC:BT:=(N o01 q6i (N o01 L L))
def qdD:BT:=(N o01 (N o45 L L) (N o5w L L))
def qdE:BT:=(N o1Q q08 (N o4C L L))
def qdF:BT:=(N o2v q6n (N o5j L L))
def qdG:BT:=(N o00 q6q (N o4Z L L))
def qdH:BT:=(N o31 (N o5Y L L) L)
def qdI:BT:=(N o00 qdH (N o4x L L))
def qdJ:BT:=(N o2q q6x (N o01 L L))
def qdK:BT:=(N o23 q6z (N o4R L L))
def qdL:BT:=(N o2I (N o4a L L) (N o00 L L))
def qdM:BT:=(N o00 (N o3X L L) (N o5r L L))
def qdN:BT:=(N o00 q6G (N o54 L L))
def qdO:BT:=(N o2R (N o01 L L) (N o5L L L))
def qdP:BT:=(N o2Y (N o5V L L) L)
def qdQ:BT:=(N o1H qdP (N o0b L L))
def qdR:BT:=(N o01 q6M (N o5a L L))
def qdS:BT:=(N o21 q6P (N o4N L L))
def qdT:BT:=(N o2G (N o47 L L) (N o00 L L))
def qdU:BT:=(N o00 q6T (N o00 L L))
def qdV:BT:=(N o00 (N o3U L L) (N o0b L L))
def qdW:BT:=(N o2d q6Y (N o51 L L))
def qdX:BT:=(N o00 (N o4g L L) (N o5H L L))
def qdY:BT:=(N o1M q08 (N o4z L L))
def qdZ:BT:=(N o2s q75 (N o5f L L))
def qe0:BT:=(N o01 q78 (N o0b L L))
def qe1:BT:=(N o2L (N o00 L L) (N o5C L L))
def qe2:BT:=(N o1W q7d (N o4I L L))
def qe3:BT:=(N o2B (N o0b L L) (N o5t L L))
def qe4:BT:=(N o00 q7h (N o00 L L))
def qe5:BT:=(N o01 (N o4l L L) (N o0b L L))
def tree_770_:BT:=(N b0 (N b1 (N o6g (N b7 (N o00 (N o1C (N o01 qbX qbY) (N o0n qbZ qc0)) (N o0n (N o0V qc2 qc3) (N o1n qc4 qc5))) (N o0b (N o01 (N o0n qc6 qc7) (N o1f qc8 qc9)) (N o0B (N o01 qca qcb) (N o1s qcc qcd)))) (N o00 (N o07 (N o0n (N o0L qcf qcg) (N o01 qch qci)) (N o01 (N o0n qcj qck) (N o00 qcl qcm))) (N o0d (N o0r (N o01 qcn qco) (N o0n qcp q80)) (N o0n (N o15 qcq qcr) (N o1w qcs qct))))) (N b5 (N b9 (N o06 (N o0i (N o0K qcv qcw) (N o1c qcx qcy)) (N o0y (N o0X qcz qcA) (N o1p qcB qcC))) (N o00 (N o0q (N o0S qcE qcF) (N o1h qcG qcH)) (N o0D (N o14 qcI qcJ) (N o1u qcK qcL)))) (N o02 (N o09 (N o0o (N o0N qcM qcN) (N o1e qcO qcP)) (N o0A (N o12 qcQ qcR) (N o1r qcS qcT))) (N o00 (N o0t (N o0U qcV qcW) (N o1m qcX qcY)) (N o0I (N o17 qcZ qd0) (N o1y qd1 qd2)))))) (N b2 (N b4 (N b8 (N o01 (N o0h (N o0J qd3 qd4) (N o0b qd5 qd6)) (N o0b (N o0W qd7 qd8) (N o1o qd9 qda))) (N o0c (N o0p (N o0b qdc qdd) (N o1g qde qdf)) (N o0C (N o13 qdg qdh) (N o1t qdi qdj)))) (N o6h (N o08 (N o0b (N o0M qdk qdl) (N o1d qdm q80)) (N o0z (N o0b qdn qdo) (N o01 qdp qdq))) (N o0e (N o0s (N o0T qdr qds) (N o0b qdt qdu)) (N o0b (N o16 qdv qdw) (N o1x qdx qdy))))) (N b6 (N b10 (N o00 (N o0j (N o00 qdA qdB) (N o00 qdC qdD)) (N o00 (N o0Y qdE qdF) (N o1q qdG q80))) (N o01 (N o00 (N o00 qdI qdJ) (N o1i qdK qdL)) (N o0E (N o00 qcj qdM) (N o1v qdN qdO)))) (N o03 (N o0a (N o00 (N o0O qdQ qdR) (N o00 qdS qdT)) (N o00 (N o00 qdU qdV) (N o00 qdW qdX))) (N o0f (N o0u (N o00 qdY qdZ) (N o00 qe0 qe1)) (N o00 (N o18 qe2 qe3) (N o1z qe4 qe5)))))))
def heap_46_:PySem.Heap:=(Heap.mk (Array.mk [b0,b1,b2,b3,b4,b5,b6,b7,b8,b9,b10,o00,o01,o02,o03]) (Life.mk [] [] [] 0 [] [] false #[] [] 0 false false false 0 [2000,10,10] false 0 true [] [] 0 false))
def qe6:BT:=(N o0n (N o0L L L) L)
def qe7:BT:=(N o07 qe6 (N o01 L L))
def qe8:BT:=(N o0i (N o0K L L) L)
def qe9:BT:=(N o0o (N o0N L L) L)
def qea:BT:=(N o09 qe9 (N o0A L L))
def qeb:BT:=(N o0h (N o0J L L) L)
def qec:BT:=(N o0b (N o0M L L) L)
def qed:BT:=(N o08 qec (N o0z L L))
def qee:BT:=(N o0j (N o00 L L) L)
def qef:BT:=(N o00 (N o0O L L) L)
def qeg:BT:=(N o0a qef (N o00 L L))
def tree_115_:BT:=(N b0 (N b1 (N o0F (N b7 (N o00 (N o0H (N o01 L L) L) (N o0n L L)) qbS) (N o00 qe7 (N o0d (N o0r L L) (N o0n L L)))) (N b5 (N b9 (N o06 qe8 (N o0y L L)) qbT) (N o02 qea (N o00 (N o0t L L) (N o0I L L))))) (N b2 (N b4 (N b8 (N o01 qeb (N o0b L L)) qbU) (N o0G qed (N o0e (N o0s L L) (N o0b L L)))) (N b6 (N b10 (N o00 qee (N o00 L L)) qbV) (N o03 qeg (N o0f (N o0u L L) (N o00 L L))))))
def qeh:BT:=(N o1X (N o3d L L) (N o4J L L))
def qei:BT:=(N o1N (N o33 L L) (N o00 L L))
def qej:BT:=(N o00 (N o00 L L) (N o4v L L))
def qek:BT:=(N o22 (N o3i L L) (N o4O L L))
def qel:BT:=(N o1S (N o38 L L) (N o4E L L))
def qem:BT:=(N o1Z (N o00 L L) (N o4L L L))
def qen:BT:=(N o00 (N o01 L L) (N o00 L L))
def qeo:BT:=(N o1J (N o00 L L) (N o4y L L))
def qep:BT:=(N o24 (N o3m L L) (N o4S L L))
def qeq:BT:=(N o01 (N o3a L L) (N o01 L L))
def qer:BT:=(N o1P (N o35 L L) (N o4B L L))
def qes:BT:=(N o1I (N o30 L L) (N o4w L L))
def qet:BT:=(N o01 (N o3k L L) (N o4Q L L))
def qeu:BT:=(N o1U (N o00 L L) (N o4G L L))
def qev:BT:=(N o1G (N o01 L L) (N o3F L L))
def qew:BT:=(N o20 (N o3g L L) (N o4M L L))
def qex:BT:=(N o1R (N o00 L L) (N o4D L L))
def qey:BT:=(N o1L (N o32 L L) (N o01 L L))
def qez:BT:=(N o00 (N o3b L L) (N o00 L L))
def qeA:BT:=(N o1Y (N o00 L L) (N o4K L L))
def qeB:BT:=(N o1O (N o34 L L) (N o4A L L))
def qeC:BT:=(N o01 (N o2Z L L) (N o00 L L))
def qeD:BT:=(N o00 (N o3j L L) (N o4P L L))
def qeE:BT:=(N o1T (N o39 L L) (N o4F L L))
def qeF:BT:=(N o00 (N o3f L L) (N o00 L L))
def qeG:BT:=(N o01 (N o36 L L) (N o01 L L))
def qeH:BT:=(N o1K (N o01 L L) (N o00 L L))
def qeI:BT:=(N o25 (N o3n L L) (N o4T L L))
def qeJ:BT:=(N o1V (N o00 L L) (N o4H L L))
def qeK:BT:=(N o01 (N o3e L L) (N o01 L L))
def qeL:BT:=(N o1Q (N o00 L L) (N o4C L L))
def qeM:BT:=(N o00 (N o31 L L) (N o4x L L))
def qeN:BT:=(N o23 (N o3l L L) (N o4R L L))
def qeO:BT:=(N o1H (N o2Y L L) (N o0b L L))
def qeP:BT:=(N o21 (N o3h L L) (N o4N L L))
def qeQ:BT:=(N o00 (N o37 L L) (N o00 L L))
def qeR:BT:=(N o1M (N o00 L L) (N o4z L L))
def qeS:BT:=(N o1W (N o3c L L) (N o4I L L))
def tree_591_:BT:=(N b0 (N b1 (N o4s (N b7 (N o00 (N o1C (N o01 q00 q01) (N o0n qeh q03)) (N o0n (N o0V qei q05) (N o1n q06 q07))) (N o0b (N o01 (N o0n qej q09) (N o1f qek q0b)) (N o0B (N o01 qel q0d) (N o1s (N o00 (N o4u L L) L) q0e)))) (N o00 (N o07 (N o0n (N o0L q0f q0g) (N o01 qem q0i)) (N o01 (N o0n qen q0k) (N o00 q0l q0m))) (N o0d (N o0r (N o01 qeo q0o) (N o0n qep q08)) (N o0n (N o15 qeq q0r) (N o1w q0s q0t))))) (N b5 (N b9 (N o06 (N o0i (N o0K q0u q0v) (N o1c qen q0w)) (N o0y (N o0X qer q0y) (N o1p q0z q0A))) (N o00 (N o0q (N o0S qes q0C) (N o1h qet q0E)) (N o0D (N o14 qeu q0G) (N o1u q0H q08)))) (N o02 (N o09 (N o0o (N o0N qev q0J) (N o1e qew q0L)) (N o0A (N o12 qex q0N) (N o1r q0O q0P))) (N o00 (N o0t (N o0U qey q0R) (N o1m q0S q0T)) (N o0I (N o17 qez q0V) (N o1y q0W q0X)))))) (N b2 (N b4 (N b8 (N o01 (N o0h (N o0J q0Y q0Z) (N o0b qeA q11)) (N o0b (N o0W qeB q13) (N o1o q14 q15))) (N o0c (N o0p (N o0b qeC q17) (N o1g qeD q19)) (N o0C (N o13 qeE q1b) (N o1t q1c q1d)))) (N o4t (N o08 (N o0b (N o0M q1e q1f) (N o1d qeF q08)) (N o0z (N o0b qeG q0R) (N o01 q1i q1j))) (N o0e (N o0s (N o0T qeH q1l) (N o0b qeI q1n)) (N o0b (N o16 qeJ q1p) (N o1x q1q q1r))))) (N b6 (N b10 (N o00 (N o0j (N o00 q1s q1t) (N o00 qeK q1v)) (N o00 (N o0Y qeL q1x) (N o1q q0j q08))) (N o01 (N o00 (N o00 qeM q1z) (N o1i qeN q1B)) (N o0E (N o00 qen q1C) (N o1v q1D q1E)))) (N o03 (N o0a (N o00 (N o0O qeO q0R) (N o00 qeP q1H)) (N o00 (N o00 qeQ q1J) (N o00 q1K q1L))) (N o0f (N o0u (N o00 qeR q1N) (N o00 q0R q1O)) (N o00 (N o18 qeS q1Q) (N o1z q1R q1S)))))))
def tree_70_:BT:=(N b0 (N b1 (N o04 (N b7 (N o00 (N o0g L L) L) (N o0b L L)) (N o00 (N o07 L L) (N o0d L L))) (N b5 (N b9 q9l (N o00 L L)) (N o02 (N o09 L L) (N o00 L L)))) (N b2 (N b4 (N b8 q9n (N o0c L L)) (N o05 (N o08 L L) (N o0e L L))) (N b6 (N b10 q9p (N o01 L L)) (N o03 (N o0a L L) (N o0f L L)))))
def tree_1223_:BT:=(N b0 (N b1 (N oaJ (N b7 (N o00 (N o1C (N o01 (N o0n q30 q9r) (N o0b q7k q9s)) (N o0n (N o1X q7m q9t) (N o2C q7n q3h))) (N o0n (N o0V (N o1N q39 q3h) q9u) (N o1n (N o28 q7p q9v) q9w))) (N o0b (N o01 (N o0n (N o00 q3h q9x) q9y) (N o1f (N o22 q7s q9z) q9A)) (N o0B (N o01 (N o1S q7u q9B) q9C) (N o1s (N o00 q7w q9D) q9E)))) (N o00 (N o07 (N o0n (N o0L (N o1E q3A q9F) (N o2m q7z q7C)) (N o01 (N o1Z q7A q9G) (N o2E q7B q3h))) (N o01 (N o0n (N o00 q7C q9H) q9I) (N o00 (N o01 q7E q9J) q9K))) (N o0d (N o0r (N o01 (N o1J q3h q9L) q9M) (N o0n (N o24 q7I q9N) (N o00 q7J q4I))) (N o0n (N o15 (N o01 q7K q9O) q9P) (N o1w (N o2f q7M q9Q) q9R))))) (N b5 (N b9 (N o06 (N o0i (N o0K (N o1D q47 q9S) (N o00 q7P q9T)) (N o1c (N o00 q7R q9U) q9V)) (N o0y (N o0X (N o1P q7T q9W) q9X) (N o1p (N o2a q7V q9Y) q9Z))) (N o00 (N o0q (N o0S (N o1I q4q qa0) qa1) (N o1h (N o01 q7Y qa2) qa3)) (N o0D (N o14 (N o1U q80 qa4) qa5) (N o1u (N o2e q82 qa6) qa7)))) (N o02 (N o09 (N o0o (N o0N (N o1G q4I qa8) qa9) (N o1e (N o20 q86 qaa) qab)) (N o0A (N o12 (N o1R q88 qac) qad) (N o1r (N o2c q8a qae) qaf))) (N o00 (N o0t (N o0U (N o1L q4X qag) qah) (N o1m (N o00 q8e qai) (N o2K q8f q3h))) (N o0I (N o17 (N o00 q8g qaj) (N o00 q8h q4I)) (N o1y (N o2h q7p qak) qam)))))) (N b2 (N b4 (N b8 (N o01 (N o0h (N o0J (N o0b q3h qan) (N o2k q8j qao)) (N o0b (N o1Y q8l qap) qaq)) (N o0b (N o0W (N o1O q8n qar) qas) (N o1o (N o29 q8p qat) qau))) (N o0c (N o0p (N o0b (N o01 q5t q3h) qav) (N o1g (N o00 q8s qaw) qax)) (N o0C (N o13 (N o1T q8u qay) (N o2y q8v q3h)) (N o1t (N o01 q8w qaz) qaA)))) (N oaK (N o08 (N o0b (N o0M (N o1F q3h qaB) (N o2n q8z qaC)) (N o1d (N o00 q8A q3h) (N o00 q8B q4I))) (N o0z (N o0b (N o01 q8C qaD) qaE) (N o01 (N o2b q8E qaF) qaG))) (N o0e (N o0s (N o0T (N o1K q60 qaH) qaI) (N o0b (N o25 q8I qaJ) qaK)) (N o0b (N o16 (N o1V q8K qaL) (N o2A q8L q3h)) (N o1x (N o2g q8M q7C) qaN))))) (N b6 (N b10 (N o00 (N o0j (N o00 (N o00 q6e qaO) (N o2l q8O qaP)) (N o00 (N o01 q8Q qaQ) qaR)) (N o00 (N o0Y (N o1Q q8S qaS) qaT) (N o1q (N o00 q8U qaU) qaV))) (N o01 (N o00 (N o00 (N o00 q6v qaW) (N o2q q8X q7C)) (N o1i (N o23 q8Y qaX) (N o2I q8Z q3h))) (N o0E (N o00 (N o00 q90 qaY) qaZ) (N o1v (N o00 q92 qb0) qb1)))) (N o03 (N o0a (N o00 (N o0O (N o1H q6K qb2) qb3) (N o00 (N o21 q96 qb4) (N o2G q97 q3h))) (N o00 (N o00 (N o00 q98 qb5) qb6) (N o00 (N o2d q9a qb7) qb8))) (N o0f (N o0u (N o00 (N o1M q73 qb9) qba) (N o00 (N o01 q9e qbb) qbc)) (N o00 (N o18 (N o1W q9g qbd) qbe) (N o1z (N o00 q9i qbf) qbh)))))))
def qeT:BT:=(N o01 (N o0n L L) L)
def qeU:BT:=(N o1C qeT (N o0n (N o1X L L) L))
def qeV:BT:=(N o0V (N o1N L L) L)
def qeW:BT:=(N o0n (N o00 L L) L)
def qeX:BT:=(N o01 qeW (N o1f (N o22 L L) L))
def qeY:BT:=(N o01 (N o1S L L) L)
def qeZ:BT:=(N o0n (N o0L (N o1E L L) L) (N o01 (N o1Z L L) L))
def qf0:BT:=(N o0r (N o01 (N o1J L L) L) (N o0n (N o24 L L) L))
def qf1:BT:=(N o15 (N o01 L L) L)
def qf2:BT:=(N o0i (N o0K (N o1D L L) L) (N o1c (N o00 L L) L))
def qf3:BT:=(N o0X (N o1P L L) L)
def qf4:BT:=(N o0q (N o0S (N o1I L L) L) (N o1h (N o01 L L) L))
def qf5:BT:=(N o14 (N o1U L L) L)
def qf6:BT:=(N o0o (N o0N (N o1G L L) L) (N o1e (N o20 L L) L))
def qf7:BT:=(N o12 (N o1R L L) L)
def qf8:BT:=(N o0U (N o1L L L) L)
def qf9:BT:=(N o17 (N o00 L L) L)
def qfa:BT:=(N o0h (N o0J (N o0b L L) L) (N o0b (N o1Y L L) L))
def qfb:BT:=(N o0W (N o1O L L) L)
def qfc:BT:=(N o0p q6L (N o1g (N o00 L L) L))
def qfd:BT:=(N o13 (N o1T L L) L)
def qfe:BT:=(N o0b (N o0M (N o1F L L) L) (N o1d (N o00 L L) L))
def qff:BT:=(N o0s (N o0T (N o1K L L) L) (N o0b (N o25 L L) L))
def qfg:BT:=(N o16 (N o1V L L) L)
def qfh:BT:=(N o0Y (N o1Q L L) L)
def qfi:BT:=(N o00 q08 (N o1i (N o23 L L) L))
def qfj:BT:=(N o00 (N o0O (N o1H L L) L) (N o00 (N o21 L L) L))
def qfk:BT:=(N o00 (N o1M L L) L)
def qfl:BT:=(N o00 (N o18 (N o1W L L) L) (N o1z L L))
def tree_232_:BT:=(N b0 (N b1 (N o1A (N b7 (N o00 qeU (N o0n qeV (N o1n L L))) (N o0b qeX (N o0B qeY (N o1s L L)))) (N o00 (N o07 qeZ (N o01 qeW (N o00 L L))) (N o0d qf0 (N o0n qf1 (N o1w L L))))) (N b5 (N b9 (N o06 qf2 (N o0y qf3 (N o1p L L))) (N o00 qf4 (N o0D qf5 (N o1u L L)))) (N o02 (N o09 qf6 (N o0A qf7 (N o1r L L))) (N o00 (N o0t qf8 (N o1m L L)) (N o0I qf9 (N o1y L L)))))) (N b2 (N b4 (N b8 (N o01 qfa (N o0b qfb (N o1o L L))) (N o0c qfc (N o0C qfd (N o1t L L)))) (N o1B (N o08 qfe (N o0z q6L (N o01 L L))) (N o0e qff (N o0b qfg (N o1x L L))))) (N b6 (N b10 (N o00 (N o0j q08 q0j) (N o00 qfh (N o1q L L))) (N o01 qfi (N o0E q08 (N o1v L L)))) (N o03 (N o0a qfj (N o00 q08 (N o00 L L))) (N o0f (N o0u qfk (N o00 L L)) qfl)))))
def tree_998_:BT:=(N b0 (N b1 (N o8U (N b7 (N o00 (N o1C q34 qbi) (N o0n q3c q3g)) (N o0b (N o01 q3l q3q) (N o0B qbj q3z))) (N o00 (N o07 qbk (N o01 qbl q3P)) (N o0d (N o0r q3T q3X) (N o0n qbm q46)))) (N b5 (N b9 (N o06 (N o0i q4b qbn) (N o0y qbo q4p)) (N o00 (N o0q q4t q4y) (N o0D qbp q4H))) (N o02 (N o09 qbq (N o0A qbr q4W)) (N o00 (N o0t q4Z q53) (N o0I qbs q59))))) (N b2 (N b4 (N b8 (N o01 (N o0h q5d qbt) (N o0b qbu q5s)) (N o0c (N o0p q5w q5B) (N o0C qbv q5K))) (N o8V (N o08 qbw (N o0z qbx q5Z)) (N o0e (N o0s q62 q66) (N o0b qby q6d)))) (N b6 (N b10 (N o00 (N o0j q6h qbz) (N o00 qbA q6u)) (N o01 (N o00 q6y q6C) (N o0E qbB q6J))) (N o03 (N o0a (N o00 q6O q6S) (N o00 qbC q72)) (N o0f (N o0u q77 q7c) (N o00 qbD q7j))))))
def qfm:BT:=(N o01 (N o0n L L) (N o1f L L))
def qfn:BT:=(N o0n (N o0L L L) (N o01 L L))
def qfo:BT:=(N o0i (N o0K L L) (N o1c L L))
def qfp:BT:=(N o0q (N o0S L L) (N o1h L L))
def qfq:BT:=(N o0o (N o0N L L) (N o1e L L))
def qfr:BT:=(N o0h (N o0J L L) (N o0b L L))
def qfs:BT:=(N o0p (N o0b L L) (N o1g L L))
def qft:BT:=(N o0b (N o0M L L) (N o1d L L))
def qfu:BT:=(N o0j (N o00 L L) (N o00 L L))
def qfv:BT:=(N o00 (N o00 L L) (N o1i L L))
def qfw:BT:=(N o00 (N o0O L L) (N o00 L L))
def tree_183_:BT:=(N b0 (N b1 (N o1j (N b7 (N o00 (N o1l (N o01 L L) (N o0n L L)) (N o0n (N o0V L L) (N o1n L L))) (N o0b qfm (N o0B (N o01 L L) (N o1s L L)))) (N o00 (N o07 qfn (N o01 (N o0n L L) (N o00 L L))) (N o0d (N o0r (N o01 L L) (N o0n L L)) (N o0n (N o15 L L) (N o1w L L))))) (N b5 (N b9 (N o06 qfo (N o0y (N o0X L L) (N o1p L L))) (N o00 qfp (N o0D (N o14 L L) (N o1u L L)))) (N o02 (N o09 qfq (N o0A (N o12 L L) (N o1r L L))) (N o00 (N o0t (N o0U L L) (N o1m L L)) (N o0I (N o17 L L) (N o1y L L)))))) (N b2 (N b4 (N b8 (N o01 qfr (N o0b (N o0W L L) (N o1o L L))) (N o0c qfs (N o0C (N o13 L L) (N o1t L L)))) (N o1k (N o08 qft (N o0z (N o0b L L) (N o01 L L))) (N o0e (N o0s (N o0T L L) (N o0b L L)) (N o0b (N o16 L L) (N o1x L L))))) (N b6 (N b10 (N o00 qfu (N o00 (N o0Y L L) (N o1q L L))) (N o01 qfv (N o0E (N o00 L L) (N o1v L L)))) (N o03 (N o0a qfw q3h) (N o0f (N o0u (N o00 L L) (N o00 L L)) (N o00 (N o18 L L) (N o1z L L)))))))
def qfx:BT:=(N o01 (N o0n qbW q31) (N o0b q32 q33))
def qfy:BT:=(N o2C q37 (N o00 L L))
def qfz:BT:=(N o0n (N o1X q35 q36) qfy)
def qfA:BT:=(N o0V (N o1N qc1 q08) (N o00 q3a q3b))
def qfB:BT:=(N o00 q3e (N o5D L L))
def qfC:BT:=(N o1n (N o28 q01 q3d) qfB)
def qfD:BT:=(N o0n (N o00 q08 q3i) (N o2o q3j q3k))
def qfE:BT:=(N o2H q3o (N o5y L L))
def qfF:BT:=(N o1f (N o22 q3m q3n) qfE)
def qfG:BT:=(N o2x q3t (N o5p L L))
def qfH:BT:=(N o01 (N o1S q3r q3s) qfG)
def qfI:BT:=(N o01 q3x (N o5I L L))
def qfJ:BT:=(N o1s (N o00 q3w q08) qfI)
def qfK:BT:=(N o0L (N o1E qce q3B) (N o2m q3C q3D))
def qfL:BT:=(N o2E q3H (N o00 L L))
def qfM:BT:=(N o01 (N o1Z q3F q3G) qfL)
def qfN:BT:=(N o2N q0R (N o5F L L))
def qfO:BT:=(N o00 (N o01 q3M q3N) qfN)
def qfP:BT:=(N o01 (N o1J q08 q3Q) (N o2r q3R q3S))
def qfQ:BT:=(N o00 q3W (N o01 L L))
def qfR:BT:=(N o0n (N o24 q3U q3V) qfQ)
def qfS:BT:=(N o01 q40 (N o5s L L))
def qfT:BT:=(N o15 (N o01 q3Y q3Z) qfS)
def qfU:BT:=(N o2S q44 (N o5M L L))
def qfV:BT:=(N o1w (N o2f q43 q08) qfU)
def qfW:BT:=(N o0K (N o1D qcu q48) (N o00 q49 q4a))
def qfX:BT:=(N o00 q4d (N o5v L L))
def qfY:BT:=(N o1c (N o00 q4c q08) qfX)
def qfZ:BT:=(N o2M q4n (N o00 L L))
def qg0:BT:=(N o1p (N o2a q4l q4m) qfZ)
def qg1:BT:=(N o0S (N o1I qcD q4r) (N o2p q4s q08))
def qg2:BT:=(N o01 q4w (N o5A L L))
def qg3:BT:=(N o1h (N o01 q4u q4v) qg2)
def qg4:BT:=(N o2z q4A (N o5q L L))
def qg5:BT:=(N o14 (N o1U q08 q4z) qg4)
def qg6:BT:=(N o00 q4F (N o5K L L))
def qg7:BT:=(N o1u (N o2e q4D q4E) qg6)
def qg8:BT:=(N o0N (N o1G q3D q4J) (N o00 q4K q08))
def qg9:BT:=(N o2F q0R (N o5x L L))
def qga:BT:=(N o1e (N o20 q4M q4N) qg9)
def qgb:BT:=(N o2w q4R (N o3F L L))
def qgc:BT:=(N o2P q4U (N o5G L L))
def qgd:BT:=(N o0U (N o1L qcU q3Z) (N o01 q08 q4Y))
def qge:BT:=(N o2K q52 (N o00 L L))
def qgf:BT:=(N o1m (N o00 q50 q51) qge)
def qgg:BT:=(N o00 q55 (N o01 L L))
def qgh:BT:=(N o17 (N o00 q54 q08) qgg)
def qgi:BT:=(N o00 q58 (N o3F L L))
def qgj:BT:=(N o1y (N o2h q01 q57) qgi)
def qgk:BT:=(N o0J (N o0b q08 q5a) (N o2k q5b q5c))
def qgl:BT:=(N o2D q5g (N o5u L L))
def qgm:BT:=(N o0b (N o1Y q5e q5f) qgl)
def qgn:BT:=(N o01 q5q (N o5E L L))
def qgo:BT:=(N o1o (N o29 q5o q5p) qgn)
def qgp:BT:=(N o0b (N o01 qdb q08) (N o00 q5u q5v))
def qgq:BT:=(N o00 q5z (N o5z L L))
def qgr:BT:=(N o1g (N o00 q5x q5y) qgq)
def qgs:BT:=(N o2y q5E (N o00 L L))
def qgt:BT:=(N o13 (N o1T q5C q5D) qgs)
def qgu:BT:=(N o2Q q5I (N o5J L L))
def qgv:BT:=(N o1t (N o01 q5G q5H) qgu)
def qgw:BT:=(N o0M (N o1F q08 q5L) (N o2n q0R q5M))
def qgx:BT:=(N o00 q5P (N o01 L L))
def qgy:BT:=(N o1d (N o00 q5O q08) qgx)
def qgz:BT:=(N o2O q5X (N o00 L L))
def qgA:BT:=(N o0T (N o1K q3D q08) (N o00 q61 q08))
def qgB:BT:=(N o2J q0R (N o5B L L))
def qgC:BT:=(N o0b (N o25 q63 q64) qgB)
def qgD:BT:=(N o2A q68 (N o00 L L))
def qgE:BT:=(N o16 (N o1V q08 q67) qgD)
def qgF:BT:=(N o2T q6b (N o5N L L))
def qgG:BT:=(N o1x (N o2g q6a q3D) qgF)
def qgH:BT:=(N o00 (N o00 qdz q6f) (N o2l q6g q08))
def qgI:BT:=(N o01 q6j (N o5w L L))
def qgJ:BT:=(N o00 (N o01 q6i q3D) qgI)
def qgK:BT:=(N o00 q6s (N o01 L L))
def qgL:BT:=(N o1q (N o00 q6q q6r) qgK)
def qgM:BT:=(N o00 (N o00 qdH q6w) (N o2q q6x q3D))
def qgN:BT:=(N o2I q6B (N o00 L L))
def qgO:BT:=(N o1i (N o23 q6z q6A) qgN)
def qgP:BT:=(N o00 q6D (N o5r L L))
def qgQ:BT:=(N o00 (N o00 q3D q5W) qgP)
def qgR:BT:=(N o2R q0R (N o5L L L))
def qgS:BT:=(N o1v (N o00 q6G q6H) qgR)
def qgT:BT:=(N o0O (N o1H qdP q6L) (N o01 q6M q6N))
def qgU:BT:=(N o2G q6R (N o00 L L))
def qgV:BT:=(N o00 (N o21 q6P q6Q) qgU)
def qgW:BT:=(N o00 q6V (N o0b L L))
def qgX:BT:=(N o00 (N o00 q6T q6U) qgW)
def qgY:BT:=(N o00 q70 (N o5H L L))
def qgZ:BT:=(N o00 (N o2d q6Y q6Z) qgY)
def qh0:BT:=(N o00 (N o1M q08 q74) (N o2s q75 q76))
def qh1:BT:=(N o2L q7a (N o5C L L))
def qh2:BT:=(N o00 (N o01 q78 q79) qh1)
def qh3:BT:=(N o2B q01 (N o5t L L))
def qh4:BT:=(N o18 (N o1W q7d q7e) qh3)
def qh5:BT:=(N o01 q7i (N o0b L L))
def qh6:BT:=(N o1z (N o00 q7h q08) qh5)
def tree_909_:BT:=(N b0 (N b1 (N o7P (N b7 (N o00 (N o1C qfx qfz) (N o0n qfA qfC)) (N o0b (N o01 qfD qfF) (N o0B qfH qfJ))) (N o00 (N o07 (N o0n qfK qfM) (N o01 q3L qfO)) (N o0d (N o0r qfP qfR) (N o0n qfT qfV)))) (N b5 (N b9 (N o06 (N o0i qfW qfY) (N o0y q4k qg0)) (N o00 (N o0q qg1 qg3) (N o0D qg5 qg7))) (N o02 (N o09 (N o0o qg8 qga) (N o0A (N o12 (N o1R q08 (N o4D (N o7R L L) L)) qgb) (N o1r (N o2c q4T q3Z) qgc))) (N o00 (N o0t qgd qgf) (N o0I qgh qgj))))) (N b2 (N b4 (N b8 (N o01 (N o0h qgk qgm) (N o0b q5n qgo)) (N o0c (N o0p qgp qgr) (N o0C qgt qgv))) (N o7Q (N o08 (N o0b qgw qgy) (N o0z q5U (N o01 (N o2b q5V q5W) qgz))) (N o0e (N o0s qgA qgC) (N o0b qgE qgG)))) (N b6 (N b10 (N o00 (N o0j qgH qgJ) (N o00 q6p qgL)) (N o01 (N o00 qgM qgO) (N o0E qgQ qgS))) (N o03 (N o0a (N o00 qgT qgV) (N o00 qgX qgZ)) (N o0f (N o0u qh0 qh2) (N o00 qh4 qh6))))))
def qh7:BT:=(N o0n (N o0V L L) L)
def qh8:BT:=(N o0r (N o01 L L) L)
def qh9:BT:=(N o0y (N o0X L L) L)
def qha:BT:=(N o0q (N o0S L L) L)
def qhb:BT:=(N o0t (N o0U L L) L)
def qhc:BT:=(N o0b (N o0W L L) L)
def qhd:BT:=(N o0p (N o0b L L) L)
def qhe:BT:=(N o0s (N o0T L L) L)
def qhf:BT:=(N o00 (N o0Y L L) L)
def qhg:BT:=(N o0u (N o00 L L) L)
def tree_130_:BT:=(N b0 (N b1 (N o0P (N b7 (N o00 (N o0R (N o01 L L) L) qh7) (N o0b qeT (N o0B L L))) (N o00 qe7 (N o0d qh8 (N o0n L L)))) (N b5 (N b9 (N o06 qe8 qh9) (N o00 qha (N o0D L L))) (N o02 qea (N o00 qhb (N o0I L L))))) (N b2 (N b4 (N b8 (N o01 qeb qhc) (N o0c qhd (N o0C L L))) (N o0Q qed (N o0e qhe (N o0b L L)))) (N b6 (N b10 (N o00 qee qhf) (N o01 q08 (N o0E L L))) (N o03 qeg (N o0f qhg (N o00 L L))))))
def qhh:BT:=(N o0B (N o01 L L) L)
def qhi:BT:=(N o0d qh8 (N o0n (N o15 L L) L))
def qhj:BT:=(N o0D (N o14 L L) L)
def qhk:BT:=(N o0A (N o12 L L) L)
def qhl:BT:=(N o00 qhb (N o0I (N o17 L L) L))
def qhm:BT:=(N o0C (N o13 L L) L)
def qhn:BT:=(N o0z (N o0b L L) L)
def qho:BT:=(N o0e qhe (N o0b (N o16 L L) L))
def qhp:BT:=(N o0E (N o00 L L) L)
def qhq:BT:=(N o0f qhg (N o00 (N o18 L L) L))
def tree_160_:BT:=(N b0 (N b1 (N o19 (N b7 (N o00 (N o1b (N o01 L L) (N o0n L L)) qh7) (N o0b qfm qhh)) (N o00 (N o07 qfn qeT) qhi)) (N b5 (N b9 (N o06 qfo qh9) (N o00 qfp qhj)) (N o02 (N o09 qfq qhk) qhl))) (N b2 (N b4 (N b8 (N o01 qfr qhc) (N o0c qfs qhm)) (N o1a (N o08 qft qhn) qho)) (N b6 (N b10 (N o00 qfu qhf) (N o01 qfv qhp)) (N o03 (N o0a qfw q08) qhq))))
def qhr:BT:=(N o01 (N o0n qbW q31) qbY)
def qhs:BT:=(N o0V (N o1N qc1 q08) qc3)
def qht:BT:=(N o0n (N o00 q08 q3i) qc7)
def qhu:BT:=(N o0B qfH (N o1s qcc qfI))
def qhv:BT:=(N o0L (N o1E qce q3B) qcg)
def qhw:BT:=(N o0n (N o00 q3D q08) qck)
def qhx:BT:=(N o01 (N o1J q08 q3Q) qco)
def qhy:BT:=(N o0K (N o1D qcu q48) qcw)
def qhz:BT:=(N o0X (N o1P q4g q4h) qcA)
def qhA:BT:=(N o0S (N o1I qcD q4r) qcF)
def qhB:BT:=(N o0D qg5 (N o1u qcK qg6))
def qhC:BT:=(N o0N (N o1G q3D q4J) qcN)
def qhD:BT:=(N o0U (N o1L qcU q3Z) qcW)
def qhE:BT:=(N o0J (N o0b q08 q5a) qd4)
def qhF:BT:=(N o0W (N o1O q5j q5k) qd8)
def qhG:BT:=(N o0b (N o01 qdb q08) qdd)
def qhH:BT:=(N o0C qgt (N o1t qdi qgu))
def qhI:BT:=(N o0M (N o1F q08 q5L) qdl)
def qhJ:BT:=(N o01 q08 (N o5l L L))
def qhK:BT:=(N o0z (N o0b (N o01 q5R q5S) qhJ) (N o01 qdp qgz))
def qhL:BT:=(N o0T (N o1K q3D q08) qds)
def qhM:BT:=(N o00 (N o00 qdz q6f) qdB)
def qhN:BT:=(N o0Y (N o1Q q08 q6m) qdF)
def qhO:BT:=(N o00 (N o00 qdH q6w) qdJ)
def qhP:BT:=(N o0O (N o1H qdP q6L) qdR)
def qhQ:BT:=(N o00 qgX (N o00 qdW qgY))
def qhR:BT:=(N o00 (N o1M q08 q74) qdZ)
def tree_873_:BT:=(N b0 (N b1 (N o7v (N b7 (N o00 (N o1C qhr qfz) (N o0n qhs qfC)) (N o0b (N o01 qht qfF) qhu)) (N o00 (N o07 (N o0n qhv qfM) (N o01 qhw qfO)) (N o0d (N o0r qhx qfR) (N o0n qfT (N o1w qcs qfU))))) (N b5 (N b9 (N o06 (N o0i qhy qfY) (N o0y qhz qg0)) (N o00 (N o0q qhA qg3) qhB)) (N o02 (N o09 (N o0o qhC qga) (N o0A (N o12 (N o1R q08 (N o4D (N o7x L L) L)) qgb) (N o1r qcS qgc))) (N o00 (N o0t qhD qgf) (N o0I qgh (N o1y qd1 qgi)))))) (N b2 (N b4 (N b8 (N o01 (N o0h qhE qgm) (N o0b qhF qgo)) (N o0c (N o0p qhG qgr) qhH)) (N o7w (N o08 (N o0b qhI qgy) qhK) (N o0e (N o0s qhL qgC) (N o0b qgE (N o1x qdx qgF))))) (N b6 (N b10 (N o00 (N o0j qhM qgJ) (N o00 qhN qgL)) (N o01 (N o00 qhO qgO) (N o0E qgQ (N o1v qdN qgR)))) (N o03 (N o0a (N o00 qhP qgV) qhQ) (N o0f (N o0u qhR qh2) (N o00 qh4 (N o1z qe4 qh5)))))))
def tree_945_:BT:=(N b0 (N b1 (N o8d (N b7 (N o00 (N o1C qfx q38) (N o0n qfA q3g)) (N o0b (N o01 qfD q3q) (N o0B q3v qfJ))) (N o00 (N o07 (N o0n qfK q3I) (N o01 q3L q3P)) (N o0d (N o0r qfP q3X) (N o0n q42 qfV)))) (N b5 (N b9 (N o06 (N o0i qfW q4f) (N o0y q4k q4p)) (N o00 (N o0q qg1 q4y) (N o0D q4C qg7))) (N o02 (N o09 (N o0o qg8 q4P) (N o0A (N o12 (N o1R q08 (N o4D (N o8f L L) L)) (N o2w q4R q4S)) q4W)) (N o00 (N o0t qgd q53) (N o0I q56 qgj))))) (N b2 (N b4 (N b8 (N o01 (N o0h qgk q5i) (N o0b q5n q5s)) (N o0c (N o0p qgp q5B) (N o0C q5F qgv))) (N o8e (N o08 (N o0b qgw q5Q) (N o0z q5U q5Z)) (N o0e (N o0s qgA q66) (N o0b q69 qgG)))) (N b6 (N b10 (N o00 (N o0j qgH q6l) (N o00 q6p q6u)) (N o01 (N o00 qgM q6C) (N o0E q6F qgS))) (N o03 (N o0a (N o00 qgT q6S) (N o00 q6X qgZ)) (N o0f (N o0u qh0 q7c) (N o00 q7g qh6))))))
def tree_251_:BT:=(N b0 (N b1 (N o26 (N b7 (N o00 qeU (N o0n qeV (N o1n (N o28 L L) L))) (N o0b qeX (N o0B qeY (N o1s (N o00 L L) L)))) (N o00 (N o07 qeZ (N o01 qeW q0j)) (N o0d qf0 (N o0n qf1 (N o1w (N o2f L L) L))))) (N b5 (N b9 (N o06 qf2 (N o0y qf3 (N o1p (N o2a L L) L))) (N o00 qf4 (N o0D qf5 (N o1u (N o2e L L) L)))) (N o02 (N o09 qf6 (N o0A qf7 (N o1r (N o2c L L) L))) (N o00 (N o0t qf8 (N o1m (N o00 L L) L)) (N o0I qf9 (N o1y (N o2h L L) L)))))) (N b2 (N b4 (N b8 (N o01 qfa (N o0b qfb (N o1o (N o29 L L) L))) (N o0c qfc (N o0C qfd (N o1t (N o01 L L) L)))) (N o27 (N o08 qfe (N o0z q6L (N o01 (N o2b L L) L))) (N o0e qff (N o0b qfg (N o1x (N o2g L L) L))))) (N b6 (N b10 (N o00 (N o0j q08 q0j) (N o00 qfh (N o1q (N o00 L L) L))) (N o01 qfi (N o0E q08 (N o1v (N o00 L L) L)))) (N o03 (N o0a qfj (N o00 q08 (N o00 (N o2d L L) L))) (N o0f (N o0u qfk q0j) qfl)))))
def qhS:BT:=(N o0b (N o00 L L) (N o56 L L))
def qhT:BT:=(N o00 (N o3Q L L) (N o5g L L))
def qhU:BT:=(N o28 (N o0b L L) (N o4X L L))
def qhV:BT:=(N o2o (N o3L L L) (N o5b L L))
def qhW:BT:=(N o2m (N o00 L L) (N o01 L L))
def qhX:BT:=(N o00 (N o3S L L) (N o5k L L))
def qhY:BT:=(N o01 (N o3u L L) (N o50 L L))
def qhZ:BT:=(N o2r (N o01 L L) (N o5d L L))
def qi0:BT:=(N o2f (N o3B L L) (N o00 L L))
def qi1:BT:=(N o00 (N o3I L L) (N o58 L L))
def qi2:BT:=(N o2u (N o00 L L) (N o5i L L))
def qi3:BT:=(N o2a (N o00 L L) (N o4Y L L))
def qi4:BT:=(N o2p (N o3N L L) (N o00 L L))
def qi5:BT:=(N o2e (N o3z L L) (N o53 L L))
def qi6:BT:=(N o00 (N o3K L L) (N o00 L L))
def qi7:BT:=(N o2c (N o00 L L) (N o01 L L))
def qi8:BT:=(N o01 (N o00 L L) (N o5e L L))
def qi9:BT:=(N o00 (N o3o L L) (N o3F L L))
def qia:BT:=(N o2h (N o0b L L) (N o55 L L))
def qib:BT:=(N o2k (N o3H L L) (N o57 L L))
def qic:BT:=(N o2t (N o3R L L) (N o5h L L))
def qid:BT:=(N o29 (N o3t L L) (N o00 L L))
def qie:BT:=(N o00 (N o3M L L) (N o5c L L))
def qif:BT:=(N o01 (N o3y L L) (N o52 L L))
def qig:BT:=(N o2n (N o01 L L) (N o59 L L))
def qih:BT:=(N o2b (N o3v L L) (N o00 L L))
def qii:BT:=(N o00 (N o3O L L) (N o00 L L))
def qij:BT:=(N o2g (N o3F L L) (N o01 L L))
def qik:BT:=(N o2l (N o3J L L) (N o00 L L))
def qil:BT:=(N o2v (N o01 L L) (N o5j L L))
def qim:BT:=(N o00 (N o01 L L) (N o4Z L L))
def qin:BT:=(N o2q (N o00 L L) (N o01 L L))
def qio:BT:=(N o00 (N o3A L L) (N o54 L L))
def qip:BT:=(N o01 (N o00 L L) (N o5a L L))
def qiq:BT:=(N o2d (N o3w L L) (N o51 L L))
def qir:BT:=(N o2s (N o3P L L) (N o5f L L))
def qis:BT:=(N o00 (N o3G L L) (N o00 L L))
def tree_720_:BT:=(N b0 (N b1 (N o5O (N b7 (N o00 (N o1C (N o01 qbX qhS) (N o0n qbZ qc0)) (N o0n (N o0V qc2 qhT) (N o1n qhU qc5))) (N o0b (N o01 (N o0n qc6 qhV) (N o1f qek qc9)) (N o0B (N o01 qca qcb) (N o1s (N o00 (N o5Q L L) (N o00 L L)) qcd)))) (N o00 (N o07 (N o0n (N o0L qcf qhW) (N o01 qch qci)) (N o01 (N o0n qcj qhX) (N o00 qhY qcm))) (N o0d (N o0r (N o01 qcn qhZ) (N o0n qep q80)) (N o0n (N o15 qcq qcr) (N o1w qi0 qct))))) (N b5 (N b9 (N o06 (N o0i (N o0K qcv qi1) (N o1c qcx qcy)) (N o0y (N o0X qcz qi2) (N o1p qi3 qcC))) (N o00 (N o0q (N o0S qcE qi4) (N o1h qet qcH)) (N o0D (N o14 qcI qcJ) (N o1u qi5 qcL)))) (N o02 (N o09 (N o0o (N o0N qcM qi6) (N o1e qew qcP)) (N o0A (N o12 qcQ qcR) (N o1r qi7 qcT))) (N o00 (N o0t (N o0U qcV qi8) (N o1m qi9 qcY)) (N o0I (N o17 qcZ qd0) (N o1y qia qd2)))))) (N b2 (N b4 (N b8 (N o01 (N o0h (N o0J qd3 qib) (N o0b qd5 qd6)) (N o0b (N o0W qd7 qic) (N o1o qid qda))) (N o0c (N o0p (N o0b qdc qie) (N o1g qeD qdf)) (N o0C (N o13 qdg qdh) (N o1t qif qdj)))) (N o5P (N o08 (N o0b (N o0M qdk qig) (N o1d qdm q80)) (N o0z (N o0b qdn qdo) (N o01 qih qdq))) (N o0e (N o0s (N o0T qdr qii) (N o0b qeI qdu)) (N o0b (N o16 qdv qdw) (N o1x qij qdy))))) (N b6 (N b10 (N o00 (N o0j (N o00 qdA qik) (N o00 qdC qdD)) (N o00 (N o0Y qdE qil) (N o1q qim q80))) (N o01 (N o00 (N o00 qdI qin) (N o1i qeN qdL)) (N o0E (N o00 qcj qdM) (N o1v qio qdO)))) (N o03 (N o0a (N o00 (N o0O qdQ qip) (N o00 qeP qdT)) (N o00 (N o00 qdU qdV) (N o00 qiq qdX))) (N o0f (N o0u (N o00 qdY qir) (N o00 q8z qe1)) (N o00 (N o18 qe2 qe3) (N o1z qis qe5)))))))
def tree_677_:BT:=(N b0 (N b1 (N o5m (N b7 (N o00 (N o1C (N o01 q00 qhS) (N o0n qeh qc0)) (N o0n (N o0V qei qhT) (N o1n qhU qc5))) (N o0b (N o01 (N o0n qej qhV) (N o1f qek qc9)) (N o0B (N o01 qel qcb) (N o1s (N o00 (N o5o L L) (N o00 L L)) qcd)))) (N o00 (N o07 (N o0n (N o0L q0f qhW) (N o01 qem qci)) (N o01 (N o0n qen qhX) (N o00 qhY qcm))) (N o0d (N o0r (N o01 qeo qhZ) (N o0n qep q80)) (N o0n (N o15 qeq qcr) (N o1w qi0 qct))))) (N b5 (N b9 (N o06 (N o0i (N o0K q0u qi1) (N o1c qen qcy)) (N o0y (N o0X qer qi2) (N o1p qi3 qcC))) (N o00 (N o0q (N o0S qes qi4) (N o1h qet qcH)) (N o0D (N o14 qeu qcJ) (N o1u qi5 qcL)))) (N o02 (N o09 (N o0o (N o0N qev qi6) (N o1e qew qcP)) (N o0A (N o12 qex qcR) (N o1r qi7 qcT))) (N o00 (N o0t (N o0U qey qi8) (N o1m qi9 qcY)) (N o0I (N o17 qez qd0) (N o1y qia q0X)))))) (N b2 (N b4 (N b8 (N o01 (N o0h (N o0J q0Y qib) (N o0b qeA qd6)) (N o0b (N o0W qeB qic) (N o1o qid qda))) (N o0c (N o0p (N o0b qeC qie) (N o1g qeD qdf)) (N o0C (N o13 qeE qdh) (N o1t qif qdj)))) (N o5n (N o08 (N o0b (N o0M q1e qig) (N o1d qeF q80)) (N o0z (N o0b qeG qdo) (N o01 qih qdq))) (N o0e (N o0s (N o0T qeH qii) (N o0b qeI qdu)) (N o0b (N o16 qeJ qdw) (N o1x qij qdy))))) (N b6 (N b10 (N o00 (N o0j (N o00 q1s qik) (N o00 qeK qdD)) (N o00 (N o0Y qeL qil) (N o1q qim q80))) (N o01 (N o00 (N o00 qeM qin) (N o1i qeN qdL)) (N o0E (N o00 qen qdM) (N o1v qio qdO)))) (N o03 (N o0a (N o00 (N o0O qeO qip) (N o00 qeP qdT)) (N o00 (N o00 qeQ qdV) (N o00 qiq qdX))) (N o0f (N o0u (N o00 qeR qir) (N o00 q8z qe1)) (N o00 (N o18 qeS qe3) (N o1z qis q1S)))))))
def qit:BT:=(N o1C qhr (N o0n qbZ qfy))
def qiu:BT:=(N o01 qht (N o1f qc8 qfE))
def qiv:BT:=(N o0n qhv (N o01 qch qfL))
def qiw:BT:=(N o0d (N o0r qhx (N o0n qcp qfQ)) (N o0n (N o15 qcq qfS) (N o1w qcs qfU)))
def qix:BT:=(N o0i qhy (N o1c qcx qfX))
def qiy:BT:=(N o0q qhA (N o1h qcG qg2))
def qiz:BT:=(N o0o qhC (N o1e qcO qg9))
def qiA:BT:=(N o0I (N o17 qcZ qgg) (N o1y qd1 qgi))
def qiB:BT:=(N o0h qhE (N o0b qd5 qgl))
def qiC:BT:=(N o0p qhG (N o1g qde qgq))
def qiD:BT:=(N o0b qhI (N o1d qdm qgx))
def qiE:BT:=(N o0b (N o16 qdv qgD) (N o1x qdx qgF))
def qiF:BT:=(N o0j qhM (N o00 qdC qgI))
def qiG:BT:=(N o01 (N o00 qhO (N o1i qdK qgN)) (N o0E (N o00 qcj qgP) (N o1v qdN qgR)))
def qiH:BT:=(N o00 qhP (N o00 qdS qgU))
def qiI:BT:=(N o00 (N o18 qe2 qh3) (N o1z qe4 qh5))
def tree_844_:BT:=(N b0 (N b1 (N o7k (N b7 (N o00 qit (N o0n qhs (N o1n qc4 qfB))) (N o0b qiu qhu)) (N o00 (N o07 qiv (N o01 qhw (N o00 qcl qfN))) qiw)) (N b5 (N b9 (N o06 qix (N o0y qhz (N o1p qcB qfZ))) (N o00 qiy qhB)) (N o02 (N o09 qiz (N o0A (N o12 (N o1R q08 (N o4D (N o7q L L) L)) qgb) (N o1r qcS qgc))) (N o00 (N o0t qhD (N o1m qcX qge)) qiA)))) (N b2 (N b4 (N b8 (N o01 qiB (N o0b qhF (N o1o qd9 qgn))) (N o0c qiC qhH)) (N o7l (N o08 qiD qhK) (N o0e (N o0s qhL (N o0b qdt qgB)) qiE))) (N b6 (N b10 (N o00 qiF (N o00 qhN (N o1q qdG qgK))) qiG) (N o03 (N o0a qiH qhQ) (N o0f (N o0u qhR (N o00 qe0 qh1)) qiI)))))
def tree_145_:BT:=(N b0 (N b1 (N o0Z (N b7 (N o00 (N o11 (N o01 L L) L) qh7) (N o0b qeT qhh)) (N o00 (N o07 qe6 qeT) qhi)) (N b5 (N b9 (N o06 qe8 qh9) (N o00 qha qhj)) (N o02 (N o09 qe9 qhk) qhl))) (N b2 (N b4 (N b8 (N o01 qeb qhc) (N o0c qhd qhm)) (N o10 (N o08 qec qhn) qho)) (N b6 (N b10 (N o00 qee qhf) (N o01 q08 qhp)) (N o03 (N o0a qef q08) qhq))))
def tree_47_:BT:=(N b0 (N b1 (N b3 (N b7 L L) (N o00 L L)) (N b5 (N b9 L L) (N o02 L L))) (N b2 (N b4 (N b8 L L) (N o01 L L)) (N b6 (N b10 L L) (N o03 L L))))
def tree_828_:BT:=(N b0 (N b1 (N o6M (N b7 (N o00 qit (N o0n (N o0V qc2 qc3) (N o1n qc4 qfB))) (N o0b qiu (N o0B (N o01 qca qfG) (N o1s qcc qfI)))) (N o00 (N o07 qiv (N o01 (N o0n qcj qck) (N o00 qcl qfN))) qiw)) (N b5 (N b9 (N o06 qix (N o0y (N o0X qcz qcA) (N o1p qcB qfZ))) (N o00 qiy (N o0D (N o14 qcI qg4) (N o1u qcK qg6)))) (N o02 (N o09 qiz (N o0A (N o12 qcQ qgb) (N o1r qcS qgc))) (N o00 (N o0t (N o0U qcV qcW) (N o1m qcX qge)) qiA)))) (N b2 (N b4 (N b8 (N o01 qiB (N o0b (N o0W qd7 qd8) (N o1o qd9 qgn))) (N o0c qiC (N o0C (N o13 qdg qgs) (N o1t qdi qgu)))) (N o6N (N o08 qiD (N o0z (N o0b qdn qhJ) (N o01 qdp qgz))) (N o0e (N o0s (N o0T qdr qds) (N o0b qdt qgB)) qiE))) (N b6 (N b10 (N o00 qiF (N o00 (N o0Y qdE qdF) (N o1q qdG qgK))) qiG) (N o03 (N o0a qiH (N o00 (N o00 qdU qgW) (N o00 qdW qgY))) (N o0f (N o0u (N o00 qdY qdZ) (N o00 qe0 qh1)) qiI)))))
def tree_1144_:BT:=(N b0 (N b1 (N oa9 (N b7 (N o00 (N o1C (N o01 (N o0n q30 q9r) (N o0b q7k q33)) (N o0n (N o1X q7m q9t) (N o2C q7n q08))) (N o0n (N o0V (N o1N q39 q3h) (N o00 q7o q3b)) (N o1n (N o28 q7p q9v) (N o00 q7q q3f)))) (N o0b (N o01 (N o0n (N o00 q3h q9x) (N o2o q7r q3k)) (N o1f (N o22 q7s q9z) (N o2H q7t q3p))) (N o0B (N o01 (N o1S q7u q9B) (N o2x q7v q3u)) q7y))) (N o00 (N o07 (N o0n (N o0L (N o1E q3A q9F) (N o2m q7z q3D)) (N o01 (N o1Z q7A q9G) (N o2E q7B q08))) (N o01 (N o0n (N o00 q7C q9H) (N o00 q7D q3K)) q7G)) (N o0d (N o0r (N o01 (N o1J q3h q9L) (N o2r q7H q3S)) (N o0n (N o24 q7I q9N) (N o00 q7J q3D))) (N o0n (N o15 (N o01 q7K q9O) (N o01 q7L q41)) q7O)))) (N b5 (N b9 (N o06 (N o0i (N o0K (N o1D q47 q9S) (N o00 q7P q4a)) (N o1c (N o00 q7R q9U) (N o00 q7S q4e))) (N o0y (N o0X (N o1P q7T q9W) (N o2u q7U q4j)) (N o1p (N o2a q7V q9Y) (N o2M q7W q4o)))) (N o00 (N o0q (N o0S (N o1I q4q qa0) (N o2p q7X q08)) (N o1h (N o01 q7Y qa2) (N o01 q7Z q4x))) (N o0D (N o14 (N o1U q80 qa4) (N o2z q81 q4B)) q84))) (N o02 (N o09 (N o0o (N o0N (N o1G q4I qa8) (N o00 q85 q08)) (N o1e (N o20 q86 qaa) (N o2F q87 q4O))) (N o0A (N o12 (N o1R q88 qac) (N o2w q89 q4S)) q8c)) (N o00 (N o0t (N o0U (N o1L q4X qag) (N o01 q8d q4Y)) (N o1m (N o00 q8e qai) (N o2K q8f q08))) (N o0I (N o17 (N o00 q8g qaj) (N o00 q8h q3D)) (N o1y (N o2h q7p q57) (N o00 qal q4J))))))) (N b2 (N b4 (N b8 (N o01 (N o0h (N o0J (N o0b q3h qan) (N o2k q8j q5c)) (N o0b (N o1Y q8l qap) (N o2D q8m q5h))) (N o0b (N o0W (N o1O q8n qar) (N o2t q8o q5m)) (N o1o (N o29 q8p qat) (N o01 q8q q5r)))) (N o0c (N o0p (N o0b (N o01 q5t q3h) (N o00 q8r q5v)) (N o1g (N o00 q8s qaw) (N o00 q8t q5A))) (N o0C (N o13 (N o1T q8u qay) (N o2y q8v q08)) q8y))) (N oaa (N o08 (N o0b (N o0M (N o1F q3h qaB) (N o2n q8z q5M)) (N o1d (N o00 q8A q3h) (N o00 q8B q3D))) (N o0z (N o0b (N o01 q8C qaD) (N o01 q8D q5T)) q8G)) (N o0e (N o0s (N o0T (N o1K q60 qaH) (N o00 q8H q08)) (N o0b (N o25 q8I qaJ) (N o2J q8J q65))) (N o0b (N o16 (N o1V q8K qaL) (N o2A q8L q08)) (N o1x (N o2g q8M q3D) (N o2T qaM q6c)))))) (N b6 (N b10 (N o00 (N o0j (N o00 (N o00 q6e qaO) (N o2l q8O q08)) (N o00 (N o01 q8Q qaQ) (N o01 q8R q6k))) (N o00 (N o0Y (N o1Q q8S qaS) (N o2v q8T q6o)) q8W)) (N o01 (N o00 (N o00 (N o00 q6v qaW) (N o2q q8X q3D)) (N o1i (N o23 q8Y qaX) (N o2I q8Z q08))) (N o0E (N o00 (N o00 q90 qaY) (N o00 q91 q6E)) q94))) (N o03 (N o0a (N o00 (N o0O (N o1H q6K qb2) (N o01 q95 q6N)) (N o00 (N o21 q96 qb4) (N o2G q97 q08))) (N o00 (N o00 (N o00 q98 qb5) (N o00 q99 q6W)) q9c)) (N o0f (N o0u (N o00 (N o1M q73 qb9) (N o2s q9d q76)) (N o00 (N o01 q9e qbb) (N o2L q9f q7b))) (N o00 (N o18 (N o1W q9g qbd) (N o2B q9h q7f)) (N o1z (N o00 q9i q08) (N o01 qbg q6L))))))))
def tree_634_:BT:=(N b0 (N b1 (N o4U (N b7 (N o00 (N o1C (N o01 q00 qhS) (N o0n qeh q03)) (N o0n (N o0V qei qhT) (N o1n qhU q07))) (N o0b (N o01 (N o0n qej qhV) (N o1f qek q0b)) (N o0B (N o01 qel q0d) (N o1s (N o00 (N o4W L L) (N o00 L L)) q0e)))) (N o00 (N o07 (N o0n (N o0L q0f qhW) (N o01 qem q0i)) (N o01 (N o0n qen qhX) (N o00 qhY q0m))) (N o0d (N o0r (N o01 qeo qhZ) (N o0n qep q08)) (N o0n (N o15 qeq q0r) (N o1w qi0 q0t))))) (N b5 (N b9 (N o06 (N o0i (N o0K q0u qi1) (N o1c qen q0w)) (N o0y (N o0X qer qi2) (N o1p qi3 q0A))) (N o00 (N o0q (N o0S qes qi4) (N o1h qet q0E)) (N o0D (N o14 qeu q0G) (N o1u qi5 q08)))) (N o02 (N o09 (N o0o (N o0N qev qi6) (N o1e qew q0L)) (N o0A (N o12 qex q0N) (N o1r qi7 q0P))) (N o00 (N o0t (N o0U qey qi8) (N o1m qi9 q0T)) (N o0I (N o17 qez q0V) (N o1y qia q0X)))))) (N b2 (N b4 (N b8 (N o01 (N o0h (N o0J q0Y qib) (N o0b qeA q11)) (N o0b (N o0W qeB qic) (N o1o qid q15))) (N o0c (N o0p (N o0b qeC qie) (N o1g qeD q19)) (N o0C (N o13 qeE q1b) (N o1t qif q1d)))) (N o4V (N o08 (N o0b (N o0M q1e qig) (N o1d qeF q08)) (N o0z (N o0b qeG qdo) (N o01 qih q1j))) (N o0e (N o0s (N o0T qeH qii) (N o0b qeI q1n)) (N o0b (N o16 qeJ q1p) (N o1x qij q1r))))) (N b6 (N b10 (N o00 (N o0j (N o00 q1s qik) (N o00 qeK q1v)) (N o00 (N o0Y qeL qil) (N o1q qim q08))) (N o01 (N o00 (N o00 qeM qin) (N o1i qeN q1B)) (N o0E (N o00 qen q1C) (N o1v qio q1E)))) (N o03 (N o0a (N o00 (N o0O qeO qip) (N o00 qeP q1H)) (N o00 (N o00 qeQ q1J) (N o00 qiq q1L))) (N o0f (N o0u (N o00 qeR qir) (N o00 q8z q1O)) (N o00 (N o18 qeS q1Q) (N o1z qis q1S)))))))
end
end
noncomputable section
def tree_548 (A:AT):Params→BT:=fun P=>@tree_548_ A ⟨P⟩
def tree_469 (A:AT):Params→BT:=fun P=>@tree_469_ A ⟨P⟩
def tree_974 (A:AT):Params→BT:=fun P=>@tree_974_ A ⟨P⟩
def tree_1088 (A:AT):Params→BT:=fun P=>@tree_1088_ A ⟨P⟩
def heap_39 (A:AT):Params→Frag:=fun P=>@heap_39_ A ⟨P⟩
def tree_85 (A:AT):Params→BT:=fun P=>@tree_85_ A ⟨P⟩
def tree_1295 (A:AT):Params→BT:=fun P=>@tree_1295_ A ⟨P⟩
def tree_1029 (A:AT):Params→BT:=fun P=>@tree_1029_ A ⟨P⟩
def tree_365 (A:AT):Params→BT:=fun P=>@tree_365_ A ⟨P⟩
def tree_505 (A:AT):Params→BT:=fun P=>@tree_505_ A ⟨P⟩
def tree_450 (A:AT):Params→BT:=fun P=>@tree_450_ A ⟨P⟩
def tree_100 (A:AT):Params→BT:=fun P=>@tree_100_ A ⟨P⟩
def heap_1296 (A:AT):Params→PySem.Heap:=fun P=>@heap_1296_ A ⟨P⟩
def tree_770 (A:AT):Params→BT:=fun P=>@tree_770_ A ⟨P⟩
def heap_46 (A:AT):Params→PySem.Heap:=fun P=>@heap_46_ A ⟨P⟩
def tree_115 (A:AT):Params→BT:=fun P=>@tree_115_ A ⟨P⟩
def tree_591 (A:AT):Params→BT:=fun P=>@tree_591_ A ⟨P⟩
def tree_70 (A:AT):Params→BT:=fun P=>@tree_70_ A ⟨P⟩
def tree_1223 (A:AT):Params→BT:=fun P=>@tree_1223_ A ⟨P⟩
def tree_232 (A:AT):Params→BT:=fun P=>@tree_232_ A ⟨P⟩
def tree_998 (A:AT):Params→BT:=fun P=>@tree_998_ A ⟨P⟩
def tree_183 (A:AT):Params→BT:=fun P=>@tree_183_ A ⟨P⟩
def tree_909 (A:AT):Params→BT:=fun P=>@tree_909_ A ⟨P⟩
def tree_130 (A:AT):Params→BT:=fun P=>@tree_130_ A ⟨P⟩
def tree_160 (A:AT):Params→BT:=fun P=>@tree_160_ A ⟨P⟩
def tree_873 (A:AT):Params→BT:=fun P=>@tree_873_ A ⟨P⟩
def tree_945 (A:AT):Params→BT:=fun P=>@tree_945_ A ⟨P⟩
def tree_251 (A:AT):Params→BT:=fun P=>@tree_251_ A ⟨P⟩
def tree_720 (A:AT):Params→BT:=fun P=>@tree_720_ A ⟨P⟩
def tree_677 (A:AT):Params→BT:=fun P=>@tree_677_ A ⟨P⟩
def tree_844 (A:AT):Params→BT:=fun P=>@tree_844_ A ⟨P⟩
def tree_145 (A:AT):Params→BT:=fun P=>@tree_145_ A ⟨P⟩
def tree_47 (A:AT):Params→BT:=fun P=>@tree_47_ A ⟨P⟩
def tree_828 (A:AT):Params→BT:=fun P=>@tree_828_ A ⟨P⟩
def tree_1144 (A:AT):Params→BT:=fun P=>@tree_1144_ A ⟨P⟩
def tree_634 (A:AT):Params→BT:=fun P=>@tree_634_ A ⟨P⟩
end
theorem trig:(PySem.Challenge.pw_bellsaway_k82_lines_that_cannot_be_read.main.body.length == 0)=(PySem.Challenge.pw_bellsaway_k82_lines_that_cannot_be_read.main.body.length == 0):=rfl
theorem trig2:(!(PySem.Challenge.pw_bellsaway_k82_lines_that_cannot_be_read.main.body.length == 0))=true:=by k_qdec
noncomputable def a0:List (List Str):=[["fit_of","__init__","Words.__init__","/claim/cut.py","NoBook","__weakref__","names","BellError","Hour","__name__","bellsaway.errors","__doc__","__package__","__loader__","__spec__","__annotations__"],["__builtins__","__file__","__cached__","_wall","BELL","bell","OFF","off","TOOK","took","NOT","not","PERHAPS","perhaps","NoClock","NoHappening"],["NoFit","winner","Wishes.winner","self","kinds","places","weights","__dict__","wake","quiet","_law_script","_law_lines","_law_cell","_law_state","_law_spoilt","_law_at"],["_law_other","_law_text","_law_good_here","read_wishes","weight_bits","Not.weight_bits","__module__","bellsaway.fits","__firstlineno__","fits_it","note_turns","__static_attributes__","check_minute_of_hour","read_book","line","bellsaway.words"],["NoWish","NoTime","NoRow","NoText","is_whole","is_whole_between","is_whole_from","LETTERS","abcdefghijklmnopqrstuvwxyz","MOST_LETTERS","is_name","FIGURES","0123456789","MOST_FIGURES","are_unlike_names","is_figures"],["is_number","Not.note_turns","Not.__init__","expect","Words.expect","bellsaway.wholes","stamp_from","bellsaway.texts","Least.fits_it","thing","take_some","Words.take_some","_law_next","law_bellsaway_k82_lines_that_cannot_be_read","Either.__init__","wishes_text_from"],["bellsaway.wishes","Any.note_turns","bellsaway.happenings","word","Line","Fit","check_lines","minute","is_ended","look","take","takes","expect_end","take_number","take_count","take_name"],["take_one_of","take_names","take_rest","Words.take","choices","_law_good","happening","Words.take_count","Day","check_fits","Place","Words.expect_end","Kind.note_turns","Both","Words.takes","Words.take_name"],["__main__","NoText.__init__","__qualname__","Words","Raised","Least.weight_bits","wishes_from","bellsaway.wording","plain_fit_from","law","Both.weight_bits","kind","place","from_weight","Kind.fits_it","Day.__init__"],["Any.weight_bits","bellsaway.ways","Any","Kind","Least","Not","Either","check_names","check_fit","MINUTES_OF_HOUR","MINUTES_OF_DAY","is_minute_of_day","is_quiet_hours","check_zone","check_quiet","check_minute_of_day"],["Way","Now","Never","check_by_way","Wishes","check_wake","read_whole","Opened","fit_from","Both.__init__","_law_bad","Either.weight_bits","Raised.__init__","line_from","moment_from","Now.moment_from"],["way_from","NoBook.__init__","bellsaway.clocks","moment","zone","Either.note_turns","words","fit","way","roads","sure","raised","winning","Wishes.winning","is_closed_here","Day.moment_from"],["is_gathered","Opened.__init__","Least.note_turns","inner","sign","text","row_from","opened","Never.moment_from","raised_from","Kind.weight_bits","Words.take_one_of","count","some","part_from","found"],["Place.weight_bits","_law_cell_at","Words.take_number","fits","Words.take_rest","Both.note_turns","Words.is_ended","Both.fits_it","Words.look","Never.is_gathered","last","lines","read_whole_line","Hour.__init__","Wishes.__init__","_law_told"],["Any.fits_it","least","closed","line_from_wording","line_from_texts","try_from","Hour.moment_from","parts","stamp","Line.__init__","Hour.is_gathered","Not.fits_it","Day.is_gathered","Words.take_names","weight","number"],["idle","Wishes.idle","Either.fits_it","Least.__init__","_law_k","_law_begin","at","Place.fits_it","Place.note_turns","Now.is_gathered","line_for","Wishes.line_for","k","hand","road","stamps"],["minutes","times","to","Kind.__init__","Place.__init__","_law_found","e","bracket","_law_some","more","start","<module>","rows","row","_law_base","_law_number"],["most"]]
noncomputable def a1:List (List Str):=[[⟨⟨[102,105,116,95,111,102]⟩⟩,⟨⟨[95,95,105,110,105,116,95,95]⟩⟩,⟨⟨[87,111,114,100,115,46,95,95,105,110,105,116,95,95]⟩⟩,⟨⟨[47,99,108,97,105,109,47,99,117,116,46,112,121]⟩⟩,⟨⟨[78,111,66,111,111,107]⟩⟩,⟨⟨[95,95,119,101,97,107,114,101,102,95,95]⟩⟩,⟨⟨[110,97,109,101,115]⟩⟩,⟨⟨[66,101,108,108,69,114,114,111,114]⟩⟩,⟨⟨[72,111,117,114]⟩⟩,⟨⟨[95,95,110,97,109,101,95,95]⟩⟩,⟨⟨[98,101,108,108,115,97,119,97,121,46,101,114,114,111,114,115]⟩⟩,⟨⟨[95,95,100,111,99,95,95]⟩⟩,⟨⟨[95,95,112,97,99,107,97,103,101,95,95]⟩⟩,⟨⟨[95,95,108,111,97,100,101,114,95,95]⟩⟩,⟨⟨[95,95,115,112,101,99,95,95]⟩⟩,⟨⟨[95,95,97,110,110,111,116,97,116,105,111,110,115,95,95]⟩⟩],[⟨⟨[95,95,98,117,105,108,116,105,110,115,95,95]⟩⟩,⟨⟨[95,95,102,105,108,101,95,95]⟩⟩,⟨⟨[95,95,99,97,99,104,101,100,95,95]⟩⟩,⟨⟨[95,119,97,108,108]⟩⟩,⟨⟨[66,69,76,76]⟩⟩,⟨⟨[98,101,108,108]⟩⟩,⟨⟨[79,70,70]⟩⟩,⟨⟨[111,102,102]⟩⟩,⟨⟨[84,79,79,75]⟩⟩,⟨⟨[116,111,111,107]⟩⟩,⟨⟨[78,79,84]⟩⟩,⟨⟨[110,111,116]⟩⟩,⟨⟨[80,69,82,72,65,80,83]⟩⟩,⟨⟨[112,101,114,104,97,112,115]⟩⟩,⟨⟨[78,111,67,108,111,99,107]⟩⟩,⟨⟨[78,111,72,97,112,112,101,110,105,110,103]⟩⟩],[⟨⟨[78,111,70,105,116]⟩⟩,⟨⟨[119,105,110,110,101,114]⟩⟩,⟨⟨[87,105,115,104,101,115,46,119,105,110,110,101,114]⟩⟩,⟨⟨[115,101,108,102]⟩⟩,⟨⟨[107,105,110,100,115]⟩⟩,⟨⟨[112,108,97,99,101,115]⟩⟩,⟨⟨[119,101,105,103,104,116,115]⟩⟩,⟨⟨[95,95,100,105,99,116,95,95]⟩⟩,⟨⟨[119,97,107,101]⟩⟩,⟨⟨[113,117,105,101,116]⟩⟩,⟨⟨[95,108,97,119,95,115,99,114,105,112,116]⟩⟩,⟨⟨[95,108,97,119,95,108,105,110,101,115]⟩⟩,⟨⟨[95,108,97,119,95,99,101,108,108]⟩⟩,⟨⟨[95,108,97,119,95,115,116,97,116,101]⟩⟩,⟨⟨[95,108,97,119,95,115,112,111,105,108,116]⟩⟩,⟨⟨[95,108,97,119,95,97,116]⟩⟩],[⟨⟨[95,108,97,119,95,111,116,104,101,114]⟩⟩,⟨⟨[95,108,97,119,95,116,101,120,116]⟩⟩,⟨⟨[95,108,97,119,95,103,111,111,100,95,104,101,114,101]⟩⟩,⟨⟨[114,101,97,100,95,119,105,115,104,101,115]⟩⟩,⟨⟨[119,101,105,103,104,116,95,98,105,116,115]⟩⟩,⟨⟨[78,111,116,46,119,101,105,103,104,116,95,98,105,116,115]⟩⟩,⟨⟨[95,95,109,111,100,117,108,101,95,95]⟩⟩,⟨⟨[98,101,108,108,115,97,119,97,121,46,102,105,116,115]⟩⟩,⟨⟨[95,95,102,105,114,115,116,108,105,110,101,110,111,95,95]⟩⟩,⟨⟨[102,105,116,115,95,105,116]⟩⟩,⟨⟨[110,111,116,101,95,116,117,114,110,115]⟩⟩,⟨⟨[95,95,115,116,97,116,105,99,95,97,116,116,114,105,98,117,116,101,115,95,95]⟩⟩,⟨⟨[99,104,101,99,107,95,109,105,110,117,116,101,95,111,102,95,104,111,117,114]⟩⟩,⟨⟨[114,101,97,100,95,98,111,111,107]⟩⟩,⟨⟨[108,105,110,101]⟩⟩,⟨⟨[98,101,108,108,115,97,119,97,121,46,119,111,114,100,115]⟩⟩],[⟨⟨[78,111,87,105,115,104]⟩⟩,⟨⟨[78,111,84,105,109,101]⟩⟩,⟨⟨[78,111,82,111,119]⟩⟩,⟨⟨[78,111,84,101,120,116]⟩⟩,⟨⟨[105,115,95,119,104,111,108,101]⟩⟩,⟨⟨[105,115,95,119,104,111,108,101,95,98,101,116,119,101,101,110]⟩⟩,⟨⟨[105,115,95,119,104,111,108,101,95,102,114,111,109]⟩⟩,⟨⟨[76,69,84,84,69,82,83]⟩⟩,⟨⟨[97,98,99,100,101,102,103,104,105,106,107,108,109,110,111,112,113,114,115,116,117,118,119,120,121,122]⟩⟩,⟨⟨[77,79,83,84,95,76,69,84,84,69,82,83]⟩⟩,⟨⟨[105,115,95,110,97,109,101]⟩⟩,⟨⟨[70,73,71,85,82,69,83]⟩⟩,⟨⟨[48,49,50,51,52,53,54,55,56,57]⟩⟩,⟨⟨[77,79,83,84,95,70,73,71,85,82,69,83]⟩⟩,⟨⟨[97,114,101,95,117,110,108,105,107,101,95,110,97,109,101,115]⟩⟩,⟨⟨[105,115,95,102,105,103,117,114,101,115]⟩⟩],[⟨⟨[105,115,95,110,117,109,98,101,114]⟩⟩,⟨⟨[78,111,116,46,110,111,116,101,95,116,117,114,110,115]⟩⟩,⟨⟨[78,111,116,46,95,95,105,110,105,116,95,95]⟩⟩,⟨⟨[101,120,112,101,99,116]⟩⟩,⟨⟨[87,111,114,100,115,46,101,120,112,101,99,116]⟩⟩,⟨⟨[98,101,108,108,115,97,119,97,121,46,119,104,111,108,101,115]⟩⟩,⟨⟨[115,116,97,109,112,95,102,114,111,109]⟩⟩,⟨⟨[98,101,108,108,115,97,119,97,121,46,116,101,120,116,115]⟩⟩,⟨⟨[76,101,97,115,116,46,102,105,116,115,95,105,116]⟩⟩,⟨⟨[116,104,105,110,103]⟩⟩,⟨⟨[116,97,107,101,95,115,111,109,101]⟩⟩,⟨⟨[87,111,114,100,115,46,116,97,107,101,95,115,111,109,101]⟩⟩,⟨⟨[95,108,97,119,95,110,101,120,116]⟩⟩,⟨⟨[108,97,119,95,98,101,108,108,115,97,119,97,121,95,107,56,50,95,108,105,110,101,115,95,116,104,97,116,95,99,97,110,110,111,116,95,98,101,95,114,101,97,100]⟩⟩,⟨⟨[69,105,116,104,101,114,46,95,95,105,110,105,116,95,95]⟩⟩,⟨⟨[119,105,115,104,101,115,95,116,101,120,116,95,102,114,111,109]⟩⟩],[⟨⟨[98,101,108,108,115,97,119,97,121,46,119,105,115,104,101,115]⟩⟩,⟨⟨[65,110,121,46,110,111,116,101,95,116,117,114,110,115]⟩⟩,⟨⟨[98,101,108,108,115,97,119,97,121,46,104,97,112,112,101,110,105,110,103,115]⟩⟩,⟨⟨[119,111,114,100]⟩⟩,⟨⟨[76,105,110,101]⟩⟩,⟨⟨[70,105,116]⟩⟩,⟨⟨[99,104,101,99,107,95,108,105,110,101,115]⟩⟩,⟨⟨[109,105,110,117,116,101]⟩⟩,⟨⟨[105,115,95,101,110,100,101,100]⟩⟩,⟨⟨[108,111,111,107]⟩⟩,⟨⟨[116,97,107,101]⟩⟩,⟨⟨[116,97,107,101,115]⟩⟩,⟨⟨[101,120,112,101,99,116,95,101,110,100]⟩⟩,⟨⟨[116,97,107,101,95,110,117,109,98,101,114]⟩⟩,⟨⟨[116,97,107,101,95,99,111,117,110,116]⟩⟩,⟨⟨[116,97,107,101,95,110,97,109,101]⟩⟩],[⟨⟨[116,97,107,101,95,111,110,101,95,111,102]⟩⟩,⟨⟨[116,97,107,101,95,110,97,109,101,115]⟩⟩,⟨⟨[116,97,107,101,95,114,101,115,116]⟩⟩,⟨⟨[87,111,114,100,115,46,116,97,107,101]⟩⟩,⟨⟨[99,104,111,105,99,101,115]⟩⟩,⟨⟨[95,108,97,119,95,103,111,111,100]⟩⟩,⟨⟨[104,97,112,112,101,110,105,110,103]⟩⟩,⟨⟨[87,111,114,100,115,46,116,97,107,101,95,99,111,117,110,116]⟩⟩,⟨⟨[68,97,121]⟩⟩,⟨⟨[99,104,101,99,107,95,102,105,116,115]⟩⟩,⟨⟨[80,108,97,99,101]⟩⟩,⟨⟨[87,111,114,100,115,46,101,120,112,101,99,116,95,101,110,100]⟩⟩,⟨⟨[75,105,110,100,46,110,111,116,101,95,116,117,114,110,115]⟩⟩,⟨⟨[66,111,116,104]⟩⟩,⟨⟨[87,111,114,100,115,46,116,97,107,101,115]⟩⟩,⟨⟨[87,111,114,100,115,46,116,97,107,101,95,110,97,109,101]⟩⟩],[⟨⟨[95,95,109,97,105,110,95,95]⟩⟩,⟨⟨[78,111,84,101,120,116,46,95,95,105,110,105,116,95,95]⟩⟩,⟨⟨[95,95,113,117,97,108,110,97,109,101,95,95]⟩⟩,⟨⟨[87,111,114,100,115]⟩⟩,⟨⟨[82,97,105,115,101,100]⟩⟩,⟨⟨[76,101,97,115,116,46,119,101,105,103,104,116,95,98,105,116,115]⟩⟩,⟨⟨[119,105,115,104,101,115,95,102,114,111,109]⟩⟩,⟨⟨[98,101,108,108,115,97,119,97,121,46,119,111,114,100,105,110,103]⟩⟩,⟨⟨[112,108,97,105,110,95,102,105,116,95,102,114,111,109]⟩⟩,⟨⟨[108,97,119]⟩⟩,⟨⟨[66,111,116,104,46,119,101,105,103,104,116,95,98,105,116,115]⟩⟩,⟨⟨[107,105,110,100]⟩⟩,⟨⟨[112,108,97,99,101]⟩⟩,⟨⟨[102,114,111,109,95,119,101,105,103,104,116]⟩⟩,⟨⟨[75,105,110,100,46,102,105,116,115,95,105,116]⟩⟩,⟨⟨[68,97,121,46,95,95,105,110,105,116,95,95]⟩⟩],[⟨⟨[65,110,121,46,119,101,105,103,104,116,95,98,105,116,115]⟩⟩,⟨⟨[98,101,108,108,115,97,119,97,121,46,119,97,121,115]⟩⟩,⟨⟨[65,110,121]⟩⟩,⟨⟨[75,105,110,100]⟩⟩,⟨⟨[76,101,97,115,116]⟩⟩,⟨⟨[78,111,116]⟩⟩,⟨⟨[69,105,116,104,101,114]⟩⟩,⟨⟨[99,104,101,99,107,95,110,97,109,101,115]⟩⟩,⟨⟨[99,104,101,99,107,95,102,105,116]⟩⟩,⟨⟨[77,73,78,85,84,69,83,95,79,70,95,72,79,85,82]⟩⟩,⟨⟨[77,73,78,85,84,69,83,95,79,70,95,68,65,89]⟩⟩,⟨⟨[105,115,95,109,105,110,117,116,101,95,111,102,95,100,97,121]⟩⟩,⟨⟨[105,115,95,113,117,105,101,116,95,104,111,117,114,115]⟩⟩,⟨⟨[99,104,101,99,107,95,122,111,110,101]⟩⟩,⟨⟨[99,104,101,99,107,95,113,117,105,101,116]⟩⟩,⟨⟨[99,104,101,99,107,95,109,105,110,117,116,101,95,111,102,95,100,97,121]⟩⟩],[⟨⟨[87,97,121]⟩⟩,⟨⟨[78,111,119]⟩⟩,⟨⟨[78,101,118,101,114]⟩⟩,⟨⟨[99,104,101,99,107,95,98,121,95,119,97,121]⟩⟩,⟨⟨[87,105,115,104,101,115]⟩⟩,⟨⟨[99,104,101,99,107,95,119,97,107,101]⟩⟩,⟨⟨[114,101,97,100,95,119,104,111,108,101]⟩⟩,⟨⟨[79,112,101,110,101,100]⟩⟩,⟨⟨[102,105,116,95,102,114,111,109]⟩⟩,⟨⟨[66,111,116,104,46,95,95,105,110,105,116,95,95]⟩⟩,⟨⟨[95,108,97,119,95,98,97,100]⟩⟩,⟨⟨[69,105,116,104,101,114,46,119,101,105,103,104,116,95,98,105,116,115]⟩⟩,⟨⟨[82,97,105,115,101,100,46,95,95,105,110,105,116,95,95]⟩⟩,⟨⟨[108,105,110,101,95,102,114,111,109]⟩⟩,⟨⟨[109,111,109,101,110,116,95,102,114,111,109]⟩⟩,⟨⟨[78,111,119,46,109,111,109,101,110,116,95,102,114,111,109]⟩⟩],[⟨⟨[119,97,121,95,102,114,111,109]⟩⟩,⟨⟨[78,111,66,111,111,107,46,95,95,105,110,105,116,95,95]⟩⟩,⟨⟨[98,101,108,108,115,97,119,97,121,46,99,108,111,99,107,115]⟩⟩,⟨⟨[109,111,109,101,110,116]⟩⟩,⟨⟨[122,111,110,101]⟩⟩,⟨⟨[69,105,116,104,101,114,46,110,111,116,101,95,116,117,114,110,115]⟩⟩,⟨⟨[119,111,114,100,115]⟩⟩,⟨⟨[102,105,116]⟩⟩,⟨⟨[119,97,121]⟩⟩,⟨⟨[114,111,97,100,115]⟩⟩,⟨⟨[115,117,114,101]⟩⟩,⟨⟨[114,97,105,115,101,100]⟩⟩,⟨⟨[119,105,110,110,105,110,103]⟩⟩,⟨⟨[87,105,115,104,101,115,46,119,105,110,110,105,110,103]⟩⟩,⟨⟨[105,115,95,99,108,111,115,101,100,95,104,101,114,101]⟩⟩,⟨⟨[68,97,121,46,109,111,109,101,110,116,95,102,114,111,109]⟩⟩],[⟨⟨[105,115,95,103,97,116,104,101,114,101,100]⟩⟩,⟨⟨[79,112,101,110,101,100,46,95,95,105,110,105,116,95,95]⟩⟩,⟨⟨[76,101,97,115,116,46,110,111,116,101,95,116,117,114,110,115]⟩⟩,⟨⟨[105,110,110,101,114]⟩⟩,⟨⟨[115,105,103,110]⟩⟩,⟨⟨[116,101,120,116]⟩⟩,⟨⟨[114,111,119,95,102,114,111,109]⟩⟩,⟨⟨[111,112,101,110,101,100]⟩⟩,⟨⟨[78,101,118,101,114,46,109,111,109,101,110,116,95,102,114,111,109]⟩⟩,⟨⟨[114,97,105,115,101,100,95,102,114,111,109]⟩⟩,⟨⟨[75,105,110,100,46,119,101,105,103,104,116,95,98,105,116,115]⟩⟩,⟨⟨[87,111,114,100,115,46,116,97,107,101,95,111,110,101,95,111,102]⟩⟩,⟨⟨[99,111,117,110,116]⟩⟩,⟨⟨[115,111,109,101]⟩⟩,⟨⟨[112,97,114,116,95,102,114,111,109]⟩⟩,⟨⟨[102,111,117,110,100]⟩⟩],[⟨⟨[80,108,97,99,101,46,119,101,105,103,104,116,95,98,105,116,115]⟩⟩,⟨⟨[95,108,97,119,95,99,101,108,108,95,97,116]⟩⟩,⟨⟨[87,111,114,100,115,46,116,97,107,101,95,110,117,109,98,101,114]⟩⟩,⟨⟨[102,105,116,115]⟩⟩,⟨⟨[87,111,114,100,115,46,116,97,107,101,95,114,101,115,116]⟩⟩,⟨⟨[66,111,116,104,46,110,111,116,101,95,116,117,114,110,115]⟩⟩,⟨⟨[87,111,114,100,115,46,105,115,95,101,110,100,101,100]⟩⟩,⟨⟨[66,111,116,104,46,102,105,116,115,95,105,116]⟩⟩,⟨⟨[87,111,114,100,115,46,108,111,111,107]⟩⟩,⟨⟨[78,101,118,101,114,46,105,115,95,103,97,116,104,101,114,101,100]⟩⟩,⟨⟨[108,97,115,116]⟩⟩,⟨⟨[108,105,110,101,115]⟩⟩,⟨⟨[114,101,97,100,95,119,104,111,108,101,95,108,105,110,101]⟩⟩,⟨⟨[72,111,117,114,46,95,95,105,110,105,116,95,95]⟩⟩,⟨⟨[87,105,115,104,101,115,46,95,95,105,110,105,116,95,95]⟩⟩,⟨⟨[95,108,97,119,95,116,111,108,100]⟩⟩],[⟨⟨[65,110,121,46,102,105,116,115,95,105,116]⟩⟩,⟨⟨[108,101,97,115,116]⟩⟩,⟨⟨[99,108,111,115,101,100]⟩⟩,⟨⟨[108,105,110,101,95,102,114,111,109,95,119,111,114,100,105,110,103]⟩⟩,⟨⟨[108,105,110,101,95,102,114,111,109,95,116,101,120,116,115]⟩⟩,⟨⟨[116,114,121,95,102,114,111,109]⟩⟩,⟨⟨[72,111,117,114,46,109,111,109,101,110,116,95,102,114,111,109]⟩⟩,⟨⟨[112,97,114,116,115]⟩⟩,⟨⟨[115,116,97,109,112]⟩⟩,⟨⟨[76,105,110,101,46,95,95,105,110,105,116,95,95]⟩⟩,⟨⟨[72,111,117,114,46,105,115,95,103,97,116,104,101,114,101,100]⟩⟩,⟨⟨[78,111,116,46,102,105,116,115,95,105,116]⟩⟩,⟨⟨[68,97,121,46,105,115,95,103,97,116,104,101,114,101,100]⟩⟩,⟨⟨[87,111,114,100,115,46,116,97,107,101,95,110,97,109,101,115]⟩⟩,⟨⟨[119,101,105,103,104,116]⟩⟩,⟨⟨[110,117,109,98,101,114]⟩⟩],[⟨⟨[105,100,108,101]⟩⟩,⟨⟨[87,105,115,104,101,115,46,105,100,108,101]⟩⟩,⟨⟨[69,105,116,104,101,114,46,102,105,116,115,95,105,116]⟩⟩,⟨⟨[76,101,97,115,116,46,95,95,105,110,105,116,95,95]⟩⟩,⟨⟨[95,108,97,119,95,107]⟩⟩,⟨⟨[95,108,97,119,95,98,101,103,105,110]⟩⟩,⟨⟨[97,116]⟩⟩,⟨⟨[80,108,97,99,101,46,102,105,116,115,95,105,116]⟩⟩,⟨⟨[80,108,97,99,101,46,110,111,116,101,95,116,117,114,110,115]⟩⟩,⟨⟨[78,111,119,46,105,115,95,103,97,116,104,101,114,101,100]⟩⟩,⟨⟨[108,105,110,101,95,102,111,114]⟩⟩,⟨⟨[87,105,115,104,101,115,46,108,105,110,101,95,102,111,114]⟩⟩,⟨⟨[107]⟩⟩,⟨⟨[104,97,110,100]⟩⟩,⟨⟨[114,111,97,100]⟩⟩,⟨⟨[115,116,97,109,112,115]⟩⟩],[⟨⟨[109,105,110,117,116,101,115]⟩⟩,⟨⟨[116,105,109,101,115]⟩⟩,⟨⟨[116,111]⟩⟩,⟨⟨[75,105,110,100,46,95,95,105,110,105,116,95,95]⟩⟩,⟨⟨[80,108,97,99,101,46,95,95,105,110,105,116,95,95]⟩⟩,⟨⟨[95,108,97,119,95,102,111,117,110,100]⟩⟩,⟨⟨[101]⟩⟩,⟨⟨[98,114,97,99,107,101,116]⟩⟩,⟨⟨[95,108,97,119,95,115,111,109,101]⟩⟩,⟨⟨[109,111,114,101]⟩⟩,⟨⟨[115,116,97,114,116]⟩⟩,⟨⟨[60,109,111,100,117,108,101,62]⟩⟩,⟨⟨[114,111,119,115]⟩⟩,⟨⟨[114,111,119]⟩⟩,⟨⟨[95,108,97,119,95,98,97,115,101]⟩⟩,⟨⟨[95,108,97,119,95,110,117,109,98,101,114]⟩⟩],[⟨⟨[109,111,115,116]⟩⟩]]
noncomputable def t0:List String:=["tuple","code","type","ValueError","Exception","BaseException","object","ValueError.__new__","getset_descriptor","ExceptionGroup.__weakref__","builtin_function_or_method","object.__init_subclass__","dict","__main__.__loader__#opaque","function.__dict__","function.__dict__#set","function","type.__prepare__","object.__new__","super","frame"]
noncomputable def t1:List String:=[SL.s2766695959194262286x5,SL.s5856160107412720595x4,SL.s17162191345867700912x4,SL.s6070975301684473832x10,SL.s5946037652744460706x9,SL.s4278001404047624695x13,SL.s2742458400755230247x6,SL.s4209523147560561109x18,SL.s14755015743595814543x17,SL.s10220274742760427390x26,SL.s11030030927630378310x26,SL.s4860613602091757760x24,SL.s14018661285674007319x4,SL.s7097527257260152453x26,SL.s6511155373996960695x17,SL.s12411053484034534018x21,SL.s7174869446012820540x8,SL.s10062305145149207511x16,SL.s11443829558043349243x14,SL.s4290257624100764138x5,SL.s658472552662922059x5]
theorem cc {α:Type}{x y:α}{l m:List α}(h:x=y)(k:l=m):x::l=y::m:=by rw [h,k]
theorem ea:a0=a1:=by
 iterate 18 refine cc (by kernel_rfl) ?_
 exact rfl
theorem et:t0=t1:=(cc SL.e2766695959194262286x5 (cc SL.e5856160107412720595x4 (cc SL.e17162191345867700912x4 (cc SL.e6070975301684473832x10 (cc SL.e5946037652744460706x9 (cc SL.e4278001404047624695x13 (cc SL.e2742458400755230247x6 (cc SL.e4209523147560561109x18 (cc SL.e14755015743595814543x17 (cc SL.e10220274742760427390x26 (cc SL.e11030030927630378310x26 (cc SL.e4860613602091757760x24 (cc SL.e14018661285674007319x4 (cc SL.e7097527257260152453x26 (cc SL.e6511155373996960695x17 (cc SL.e12411053484034534018x21 (cc SL.e7174869446012820540x8 (cc SL.e10062305145149207511x16 (cc SL.e11443829558043349243x14 (cc SL.e4290257624100764138x5 (cc SL.e658472552662922059x5 rfl)))))))))))))))))))))
noncomputable def A0:AT:=⟨PySem.Challenge.pw_bellsaway_k82_lines_that_cannot_be_read,a0,t0⟩
noncomputable def B0:AT:=⟨Fast.tw592578350590862602,a1,t1⟩
theorem ab:A0=B0:=by
 unfold A0 B0
 rw [ea,et,Fast.te592578350590862602]
end Hd
namespace PySem.W.Fast
open Hd
noncomputable def vw (l:List Nat)(A:AT):Program:={ A.p with main:={ A.p.main with body:=l.map (@stm A) } }
noncomputable def sl (i n:Nat)(A:AT):List Stmt:=(A.p.main.body.drop i).take n
noncomputable def tw3498245898879661883:=sl 34 1 B0
theorem te3498245898879661883:sl 34 1 A0=tw3498245898879661883:=congrArg _ ab
noncomputable def tw15274499791289601770:=sl 24 6 B0
theorem te15274499791289601770:sl 24 6 A0=tw15274499791289601770:=congrArg _ ab
noncomputable def tw8177199869482345684:=sl 35 1 B0
theorem te8177199869482345684:sl 35 1 A0=tw8177199869482345684:=congrArg _ ab
noncomputable def tw11559844424681762554:=sl 13 1 B0
theorem te11559844424681762554:sl 13 1 A0=tw11559844424681762554:=congrArg _ ab
noncomputable def tw15940457960010617187:=sl 54 1 B0
theorem te15940457960010617187:sl 54 1 A0=tw15940457960010617187:=congrArg _ ab
noncomputable def tw6155104767616281464:=sl 71 14 B0
theorem te6155104767616281464:sl 71 14 A0=tw6155104767616281464:=congrArg _ ab
noncomputable def tw12846874288026014409:=sl 59 1 B0
theorem te12846874288026014409:sl 59 1 A0=tw12846874288026014409:=congrArg _ ab
noncomputable def tw4366795415253767446:=sl 12 1 B0
theorem te4366795415253767446:sl 12 1 A0=tw4366795415253767446:=congrArg _ ab
noncomputable def tw13375598697902687495:=sl 0 8 B0
theorem te13375598697902687495:sl 0 8 A0=tw13375598697902687495:=congrArg _ ab
noncomputable def tw15802711498773245819:=sl 30 1 B0
theorem te15802711498773245819:sl 30 1 A0=tw15802711498773245819:=congrArg _ ab
noncomputable def tw2096809618515710127:=sl 8 1 B0
theorem te2096809618515710127:sl 8 1 A0=tw2096809618515710127:=congrArg _ ab
noncomputable def tw4790134715817944419:=sl 10 1 B0
theorem te4790134715817944419:sl 10 1 A0=tw4790134715817944419:=congrArg _ ab
noncomputable def tw1362436920477846819:=sl 55 1 B0
theorem te1362436920477846819:sl 55 1 A0=tw1362436920477846819:=congrArg _ ab
noncomputable def tw13072838584323804582:=sl 31 2 B0
theorem te13072838584323804582:sl 31 2 A0=tw13072838584323804582:=congrArg _ ab
noncomputable def tw7816325458335357978:=sl 37 1 B0
theorem te7816325458335357978:sl 37 1 A0=tw7816325458335357978:=congrArg _ ab
noncomputable def tw16334309172606424674:=sl 15 9 B0
theorem te16334309172606424674:sl 15 9 A0=tw16334309172606424674:=congrArg _ ab
noncomputable def tw932375473038284640:=sl 41 12 B0
theorem te932375473038284640:sl 41 12 A0=tw932375473038284640:=congrArg _ ab
noncomputable def tw15454159323463686117:=sl 11 1 B0
theorem te15454159323463686117:sl 11 1 A0=tw15454159323463686117:=congrArg _ ab
noncomputable def tw6734529484175818210:=sl 9 1 B0
theorem te6734529484175818210:sl 9 1 A0=tw6734529484175818210:=congrArg _ ab
noncomputable def tw1508797833419578550:=sl 36 1 B0
theorem te1508797833419578550:sl 36 1 A0=tw1508797833419578550:=congrArg _ ab
noncomputable def tw8435742809026952261:=sl 39 2 B0
theorem te8435742809026952261:sl 39 2 A0=tw8435742809026952261:=congrArg _ ab
noncomputable def tw3874467428808573963:=vw [0,1,2,3,4,5,7,8,9,10,11,12,13,14,15,17,18,19,21,22,23,25,26,27,28,29,30,32,33,34,35,36,37,38,39,40,41,42,44,45,46,47,48,49,50,51,53,54,55,56,57,59,60,61,62,63,64,66,67,68,69,70,71,72,73,74,75,77,78,80,81,82,83,84,85,86,87,89,90,91,92,93,94,95] B0
theorem te3874467428808573963:vw [0,1,2,3,4,5,7,8,9,10,11,12,13,14,15,17,18,19,21,22,23,25,26,27,28,29,30,32,33,34,35,36,37,38,39,40,41,42,44,45,46,47,48,49,50,51,53,54,55,56,57,59,60,61,62,63,64,66,67,68,69,70,71,72,73,74,75,77,78,80,81,82,83,84,85,86,87,89,90,91,92,93,94,95] A0=tw3874467428808573963:=congrArg _ ab
noncomputable def tw2628866100482832305:=sl 53 1 B0
theorem te2628866100482832305:sl 53 1 A0=tw2628866100482832305:=congrArg _ ab
noncomputable def tw894567301909087918:=sl 64 7 B0
theorem te894567301909087918:sl 64 7 A0=tw894567301909087918:=congrArg _ ab
noncomputable def tw17097659471107120850:=sl 85 11 B0
theorem te17097659471107120850:sl 85 11 A0=tw17097659471107120850:=congrArg _ ab
noncomputable def tw7771363669559440288:=sl 33 1 B0
theorem te7771363669559440288:sl 33 1 A0=tw7771363669559440288:=congrArg _ ab
noncomputable def tw8852061050133865038:=sl 57 2 B0
theorem te8852061050133865038:sl 57 2 A0=tw8852061050133865038:=congrArg _ ab
noncomputable def tw9678299693802607384:=sl 38 1 B0
theorem te9678299693802607384:sl 38 1 A0=tw9678299693802607384:=congrArg _ ab
noncomputable def tw1984738990883840864:=sl 56 1 B0
theorem te1984738990883840864:sl 56 1 A0=tw1984738990883840864:=congrArg _ ab
noncomputable def tw12148129927181790587:=sl 14 1 B0
theorem te12148129927181790587:sl 14 1 A0=tw12148129927181790587:=congrArg _ ab
noncomputable def tw10882179590278912772:=sl 62 2 B0
theorem te10882179590278912772:sl 62 2 A0=tw10882179590278912772:=congrArg _ ab
noncomputable def tw1411611097080316384:=sl 60 2 B0
theorem te1411611097080316384:sl 60 2 A0=tw1411611097080316384:=congrArg _ ab
noncomputable def tw3470873403806696609:=tree_548 B0
theorem te3470873403806696609:tree_548 A0=tw3470873403806696609:=congrArg tree_548 ab
noncomputable def tw10041655278590042881:=tree_469 B0
theorem te10041655278590042881:tree_469 A0=tw10041655278590042881:=congrArg tree_469 ab
noncomputable def tw8997886722217731107:=tree_974 B0
theorem te8997886722217731107:tree_974 A0=tw8997886722217731107:=congrArg tree_974 ab
noncomputable def tw4942075095053113764:=tree_1088 B0
theorem te4942075095053113764:tree_1088 A0=tw4942075095053113764:=congrArg tree_1088 ab
noncomputable def tw10476407077699354822:=heap_39 B0
theorem te10476407077699354822:heap_39 A0=tw10476407077699354822:=congrArg heap_39 ab
noncomputable def tw4825301909409670215:=tree_85 B0
theorem te4825301909409670215:tree_85 A0=tw4825301909409670215:=congrArg tree_85 ab
noncomputable def tw17325049880906818791:=tree_1295 B0
theorem te17325049880906818791:tree_1295 A0=tw17325049880906818791:=congrArg tree_1295 ab
noncomputable def tw8735345433327182632:=tree_1029 B0
theorem te8735345433327182632:tree_1029 A0=tw8735345433327182632:=congrArg tree_1029 ab
noncomputable def tw241604093985828745:=tree_365 B0
theorem te241604093985828745:tree_365 A0=tw241604093985828745:=congrArg tree_365 ab
noncomputable def tw11694880330947794570:=tree_505 B0
theorem te11694880330947794570:tree_505 A0=tw11694880330947794570:=congrArg tree_505 ab
noncomputable def tw5856091441695898956:=tree_450 B0
theorem te5856091441695898956:tree_450 A0=tw5856091441695898956:=congrArg tree_450 ab
noncomputable def tw13490408487149357612:=tree_100 B0
theorem te13490408487149357612:tree_100 A0=tw13490408487149357612:=congrArg tree_100 ab
noncomputable def tw4382253425830568365:=heap_1296 B0
theorem te4382253425830568365:heap_1296 A0=tw4382253425830568365:=congrArg heap_1296 ab
noncomputable def tw14985215234127811053:=tree_770 B0
theorem te14985215234127811053:tree_770 A0=tw14985215234127811053:=congrArg tree_770 ab
noncomputable def tw17712568640487344302:=heap_46 B0
theorem te17712568640487344302:heap_46 A0=tw17712568640487344302:=congrArg heap_46 ab
noncomputable def tw16058575903331187311:=tree_115 B0
theorem te16058575903331187311:tree_115 A0=tw16058575903331187311:=congrArg tree_115 ab
noncomputable def tw4547153879658122256:=tree_591 B0
theorem te4547153879658122256:tree_591 A0=tw4547153879658122256:=congrArg tree_591 ab
noncomputable def tw16860055076324423890:=tree_70 B0
theorem te16860055076324423890:tree_70 A0=tw16860055076324423890:=congrArg tree_70 ab
noncomputable def tw8543305762265669555:=tree_1223 B0
theorem te8543305762265669555:tree_1223 A0=tw8543305762265669555:=congrArg tree_1223 ab
noncomputable def tw6746994424848166132:=tree_232 B0
theorem te6746994424848166132:tree_232 A0=tw6746994424848166132:=congrArg tree_232 ab
noncomputable def tw1603060370546151220:=tree_998 B0
theorem te1603060370546151220:tree_998 A0=tw1603060370546151220:=congrArg tree_998 ab
noncomputable def tw10272223986356027669:=tree_183 B0
theorem te10272223986356027669:tree_183 A0=tw10272223986356027669:=congrArg tree_183 ab
noncomputable def tw13575975200235841973:=tree_909 B0
theorem te13575975200235841973:tree_909 A0=tw13575975200235841973:=congrArg tree_909 ab
noncomputable def tw16454152692491886166:=tree_130 B0
theorem te16454152692491886166:tree_130 A0=tw16454152692491886166:=congrArg tree_130 ab
noncomputable def tw9646654582055474519:=tree_160 B0
theorem te9646654582055474519:tree_160 A0=tw9646654582055474519:=congrArg tree_160 ab
noncomputable def tw8921095309250592503:=tree_873 B0
theorem te8921095309250592503:tree_873 A0=tw8921095309250592503:=congrArg tree_873 ab
noncomputable def tw3260524893639515736:=tree_945 B0
theorem te3260524893639515736:tree_945 A0=tw3260524893639515736:=congrArg tree_945 ab
noncomputable def tw6045538864502606777:=tree_251 B0
theorem te6045538864502606777:tree_251 A0=tw6045538864502606777:=congrArg tree_251 ab
noncomputable def tw17027875070054409530:=tree_720 B0
theorem te17027875070054409530:tree_720 A0=tw17027875070054409530:=congrArg tree_720 ab
noncomputable def tw7780359891520380410:=tree_677 B0
theorem te7780359891520380410:tree_677 A0=tw7780359891520380410:=congrArg tree_677 ab
noncomputable def tw3839144846662243226:=tree_844 B0
theorem te3839144846662243226:tree_844 A0=tw3839144846662243226:=congrArg tree_844 ab
noncomputable def tw11468900807814168987:=tree_145 B0
theorem te11468900807814168987:tree_145 A0=tw11468900807814168987:=congrArg tree_145 ab
noncomputable def tw8635059817727159996:=tree_47 B0
theorem te8635059817727159996:tree_47 A0=tw8635059817727159996:=congrArg tree_47 ab
noncomputable def tw3810079076161506430:=tree_828 B0
theorem te3810079076161506430:tree_828 A0=tw3810079076161506430:=congrArg tree_828 ab
noncomputable def tw2933985715251783902:=tree_1144 B0
theorem te2933985715251783902:tree_1144 A0=tw2933985715251783902:=congrArg tree_1144 ab
noncomputable def tw17014534828942332735:=tree_634 B0
theorem te17014534828942332735:tree_634 A0=tw17014534828942332735:=congrArg tree_634 ab
end PySem.W.Fast
namespace Bw
open PySem L2 PySem.W
theorem BK0 {K:Frag}{C B N:Addr}{nm q:Str}{bs:List Value}{sn:List Str}{sub:List Value}{ab:Bool}{col:Option Bool}{dd:Option Addr}{k0 k1 k2 k3 k5:Option Value}(l:K.lookup C=some ⟨.type "type",dd,.cls ⟨nm,bs,[.ref C,.ref B,.type "ValueError",.type "Exception",.type "BaseException",.type "object"],N,q,true,sn,sub,ab,col,false⟩,#[k0,k1,k2,k3,some (.builtin "ValueError.__new__"),k5]⟩)(sa:findIn K (.ref C) "__setattr__"=some (some (.builtin "object.__setattr__"))):∃ cd,ExcS K C cd:=⟨_,by unfold clsIn; rw [l],rfl,rfl,sa⟩
local macro_rules | `(tactic| walk_at "b1") => `(tactic| exact fun _ _ _ _ _ _ us hl => match us, hl with | [_], _ => rfl)
local macro_rules | `(tactic| walk_at "b2") => `(tactic| exact fun _ _ _ _ _ _ us hl => match us, hl with | [_, _], _ => rfl)
local macro_rules | `(tactic| walk_at "b3") => `(tactic| exact fun _ _ _ _ _ _ us hl => match us, hl with | [_, _, _], _ => rfl)
local macro_rules | `(tactic| walk_at "b4") => `(tactic| exact fun _ _ _ _ _ _ us hl => match us, hl with | [_, _, _, _], _ => rfl)
theorem BM2 {l:OpenLaw}{w:World}{K:Frag}{h:Heap}{mg:Str→Option Value}{fa f0 f1 f2 f3 f4 f5 f6 f7 f8 f9 f10 f11 f12 f13 f14 f15 f16 f17 f18 f19 f20 f21 f22 f23 f24 f25 f26 f27 f28 f29 f30 f31 f32 f33 f34 f35 f36 f37 f38 f39 f40 f41 f42 f43 f44 f45 f46 f47 f48 f49 f50 f51 f52 f53 f54 z0 z1 z2 z3 z4 z5 z6 z7 z8 z9 z10 z11 z12 z13 z14 z15 z16:Addr}{t0 t1 t2 t3 t4 t5 t6 t7 t8 t9:Tok}(X:K.In h)(G:h.Ns mainGlobals mg)(hfa:mg "law"=some (.ref fa)){od0 an0 sl0 oc0 kV0 dc0 pm0 cd0 ct0}(a0:findIn K (.ref z7) "__init__"=some (some (.ref f0)))(i0:isFn K (.ref f0)=true){T0:Addr}{doc0:Value}{dod0:Option Addr}{dn0:Nat}{dsl0:Array (Option Value)}{dt0_0:Tok}(l0:K.lookup f0=some ⟨oc0,od0,.func (fnOf "__init__" "NoText.__init__" (aP aX) (aL aX) (aA aX) (.ref T0) kV0 dc0 pm0 an0 cd0 ct0),sl0⟩)(d0:K.lookup T0=some ⟨doc0,dod0,.seq #[.int 0 dt0_0] dn0,dsl0⟩)(c0:codeIn K cd0 "NoText.__init__"=true){od1 an1 sl1 oc1 kV1 dc1 pm1 cd1 ct1}(a1:nsIn K mainGlobals "is_whole"=some (some (.ref f1)))(l1:K.lookup f1=some ⟨oc1,od1,.func (fnOf "is_whole" "is_whole" (aP fY) (aL fY) (aA fY) .none kV1 dc1 pm1 an1 cd1 ct1),sl1⟩)(c1:codeIn K cd1 "is_whole"=true)(k1:keepIn K (.ref f1)=true){od2 an2 sl2 oc2 kV2 dc2 pm2 cd2 ct2}(a2:nsIn K mainGlobals "is_whole_between"=some (some (.ref f2)))(l2:K.lookup f2=some ⟨oc2,od2,.func (fnOf "is_whole_between" "is_whole_between" (aP bU) (aL bU) (aA bU) .none kV2 dc2 pm2 an2 cd2 ct2),sl2⟩)(c2:codeIn K cd2 "is_whole_between"=true)(k2:keepIn K (.ref f2)=true){od3 an3 sl3 oc3 kV3 dc3 pm3 cd3 ct3}(a3:nsIn K mainGlobals "is_whole_from"=some (some (.ref f3)))(l3:K.lookup f3=some ⟨oc3,od3,.func (fnOf "is_whole_from" "is_whole_from" (aP cZ) (aL cZ) (aA cZ) .none kV3 dc3 pm3 an3 cd3 ct3),sl3⟩)(c3:codeIn K cd3 "is_whole_from"=true)(k3:keepIn K (.ref f3)=true){od4 an4 sl4 oc4 kV4 dc4 pm4 cd4 ct4}(a4:nsIn K mainGlobals "is_name"=some (some (.ref f4)))(l4:K.lookup f4=some ⟨oc4,od4,.func (fnOf "is_name" "is_name" (aP iU) (aL iU) (aA iU) .none kV4 dc4 pm4 an4 cd4 ct4),sl4⟩)(c4:codeIn K cd4 "is_name"=true)(k4:keepIn K (.ref f4)=true){od5 an5 sl5 oc5 kV5 dc5 pm5 cd5 ct5}(a5:nsIn K mainGlobals "are_unlike_names"=some (some (.ref f5)))(l5:K.lookup f5=some ⟨oc5,od5,.func (fnOf "are_unlike_names" "are_unlike_names" (aP bV) (aL bV) (aA bV) .none kV5 dc5 pm5 an5 cd5 ct5),sl5⟩)(c5:codeIn K cd5 "are_unlike_names"=true)(k5:keepIn K (.ref f5)=true){od6 an6 sl6 oc6 kV6 dc6 pm6 cd6 ct6}(a6:nsIn K mainGlobals "is_figures"=some (some (.ref f6)))(l6:K.lookup f6=some ⟨oc6,od6,.func (fnOf "is_figures" "is_figures" (aP eH) (aL eH) (aA eH) .none kV6 dc6 pm6 an6 cd6 ct6),sl6⟩)(c6:codeIn K cd6 "is_figures"=true)(k6:keepIn K (.ref f6)=true){od7 an7 sl7 oc7 kV7 dc7 pm7 cd7 ct7}(a7:nsIn K mainGlobals "is_number"=some (some (.ref f7)))(l7:K.lookup f7=some ⟨oc7,od7,.func (fnOf "is_number" "is_number" (aP fB) (aL fB) (aA fB) .none kV7 dc7 pm7 an7 cd7 ct7),sl7⟩)(c7:codeIn K cd7 "is_number"=true)(k7:keepIn K (.ref f7)=true){od8 an8 sl8 oc8 kV8 dc8 pm8 cd8 ct8}(a8:findIn K (.ref z8) "__init__"=some (some (.ref f8)))(i8:isFn K (.ref f8)=true)(l8:K.lookup f8=some ⟨oc8,od8,.func (fnOf "__init__" "Words.__init__" (aP cM) (aL cM) (aA cM) .none kV8 dc8 pm8 an8 cd8 ct8),sl8⟩)(c8:codeIn K cd8 "Words.__init__"=true)(k8:keepIn K (.ref f8)=true){od9 an9 sl9 oc9 kV9 dc9 pm9 cd9 ct9}(a9:findIn K (.ref z8) "is_ended"=some (some (.ref f9)))(i9:isFn K (.ref f9)=true)(l9:K.lookup f9=some ⟨oc9,od9,.func (fnOf "is_ended" "Words.is_ended" (aP cN) (aL cN) (aA cN) .none kV9 dc9 pm9 an9 cd9 ct9),sl9⟩)(c9:codeIn K cd9 "Words.is_ended"=true)(k9:keepIn K (.ref f9)=true){od10 an10 sl10 oc10 kV10 dc10 pm10 cd10 ct10}(a10:findIn K (.ref z8) "look"=some (some (.ref f10)))(i10:isFn K (.ref f10)=true)(l10:K.lookup f10=some ⟨oc10,od10,.func (fnOf "look" "Words.look" (aP eI) (aL eI) (aA eI) .none kV10 dc10 pm10 an10 cd10 ct10),sl10⟩)(c10:codeIn K cd10 "Words.look"=true)(k10:keepIn K (.ref f10)=true){od11 an11 sl11 oc11 kV11 dc11 pm11 cd11 ct11}(a11:findIn K (.ref z8) "take"=some (some (.ref f11)))(i11:isFn K (.ref f11)=true)(l11:K.lookup f11=some ⟨oc11,od11,.func (fnOf "take" "Words.take" (aP dN) (aL dN) (aA dN) .none kV11 dc11 pm11 an11 cd11 ct11),sl11⟩)(c11:codeIn K cd11 "Words.take"=true)(k11:keepIn K (.ref f11)=true){od12 an12 sl12 oc12 kV12 dc12 pm12 cd12 ct12}(a12:findIn K (.ref z8) "takes"=some (some (.ref f12)))(i12:isFn K (.ref f12)=true)(l12:K.lookup f12=some ⟨oc12,od12,.func (fnOf "takes" "Words.takes" (aP dP) (aL dP) (aA dP) .none kV12 dc12 pm12 an12 cd12 ct12),sl12⟩)(c12:codeIn K cd12 "Words.takes"=true)(k12:keepIn K (.ref f12)=true){od13 an13 sl13 oc13 kV13 dc13 pm13 cd13 ct13}(a13:findIn K (.ref z8) "expect"=some (some (.ref f13)))(i13:isFn K (.ref f13)=true)(l13:K.lookup f13=some ⟨oc13,od13,.func (fnOf "expect" "Words.expect" (aP dG) (aL dG) (aA dG) .none kV13 dc13 pm13 an13 cd13 ct13),sl13⟩)(c13:codeIn K cd13 "Words.expect"=true)(k13:keepIn K (.ref f13)=true){od14 an14 sl14 oc14 kV14 dc14 pm14 cd14 ct14}(a14:findIn K (.ref z8) "expect_end"=some (some (.ref f14)))(i14:isFn K (.ref f14)=true)(l14:K.lookup f14=some ⟨oc14,od14,.func (fnOf "expect_end" "Words.expect_end" (aP bW) (aL bW) (aA bW) .none kV14 dc14 pm14 an14 cd14 ct14),sl14⟩)(c14:codeIn K cd14 "Words.expect_end"=true)(k14:keepIn K (.ref f14)=true){od15 an15 sl15 oc15 kV15 dc15 pm15 cd15 ct15}(a15:findIn K (.ref z8) "take_number"=some (some (.ref f15)))(i15:isFn K (.ref f15)=true)(l15:K.lookup f15=some ⟨oc15,od15,.func (fnOf "take_number" "Words.take_number" (aP bO) (aL bO) (aA bO) .none kV15 dc15 pm15 an15 cd15 ct15),sl15⟩)(c15:codeIn K cd15 "Words.take_number"=true)(k15:keepIn K (.ref f15)=true){od16 an16 sl16 oc16 kV16 dc16 pm16 cd16 ct16}(a16:findIn K (.ref z8) "take_count"=some (some (.ref f16)))(i16:isFn K (.ref f16)=true)(l16:K.lookup f16=some ⟨oc16,od16,.func (fnOf "take_count" "Words.take_count" (aP bX) (aL bX) (aA bX) .none kV16 dc16 pm16 an16 cd16 ct16),sl16⟩)(c16:codeIn K cd16 "Words.take_count"=true)(k16:keepIn K (.ref f16)=true){od17 an17 sl17 oc17 kV17 dc17 pm17 cd17 ct17}(a17:findIn K (.ref z8) "take_name"=some (some (.ref f17)))(i17:isFn K (.ref f17)=true)(l17:K.lookup f17=some ⟨oc17,od17,.func (fnOf "take_name" "Words.take_name" (aP cF) (aL cF) (aA cF) .none kV17 dc17 pm17 an17 cd17 ct17),sl17⟩)(c17:codeIn K cd17 "Words.take_name"=true)(k17:keepIn K (.ref f17)=true){od18 an18 sl18 oc18 kV18 dc18 pm18 cd18 ct18}(a18:findIn K (.ref z8) "take_one_of"=some (some (.ref f18)))(i18:isFn K (.ref f18)=true)(l18:K.lookup f18=some ⟨oc18,od18,.func (fnOf "take_one_of" "Words.take_one_of" (aP bP) (aL bP) (aA bP) .none kV18 dc18 pm18 an18 cd18 ct18),sl18⟩)(c18:codeIn K cd18 "Words.take_one_of"=true)(k18:keepIn K (.ref f18)=true){od19 an19 sl19 oc19 kV19 dc19 pm19 cd19 ct19}(a19:findIn K (.ref z8) "take_names"=some (some (.ref f19)))(i19:isFn K (.ref f19)=true)(l19:K.lookup f19=some ⟨oc19,od19,.func (fnOf "take_names" "Words.take_names" (aP bY) (aL bY) (aA bY) .none kV19 dc19 pm19 an19 cd19 ct19),sl19⟩)(c19:codeIn K cd19 "Words.take_names"=true)(k19:keepIn K (.ref f19)=true){od20 an20 sl20 oc20 kV20 dc20 pm20 cd20 ct20}(a20:findIn K (.ref z8) "take_some"=some (some (.ref f20)))(i20:isFn K (.ref f20)=true)(l20:K.lookup f20=some ⟨oc20,od20,.func (fnOf "take_some" "Words.take_some" (aP cG) (aL cG) (aA cG) .none kV20 dc20 pm20 an20 cd20 ct20),sl20⟩)(c20:codeIn K cd20 "Words.take_some"=true)(k20:keepIn K (.ref f20)=true){od21 an21 sl21 oc21 kV21 dc21 pm21 cd21 ct21}(a21:findIn K (.ref z8) "take_rest"=some (some (.ref f21)))(i21:isFn K (.ref f21)=true)(l21:K.lookup f21=some ⟨oc21,od21,.func (fnOf "take_rest" "Words.take_rest" (aP cH) (aL cH) (aA cH) .none kV21 dc21 pm21 an21 cd21 ct21),sl21⟩)(c21:codeIn K cd21 "Words.take_rest"=true)(k21:keepIn K (.ref f21)=true){od22 an22 sl22 oc22 kV22 dc22 pm22 cd22 ct22}(a22:findIn K (.ref z10) "__init__"=some (some (.ref f22)))(i22:isFn K (.ref f22)=true)(l22:K.lookup f22=some ⟨oc22,od22,.func (fnOf "__init__" "Kind.__init__" (aP dA) (aL dA) (aA dA) .none kV22 dc22 pm22 an22 cd22 ct22),sl22⟩)(c22:codeIn K cd22 "Kind.__init__"=true)(k22:keepIn K (.ref f22)=true){od23 an23 sl23 oc23 kV23 dc23 pm23 cd23 ct23}(a23:nsIn K mainGlobals "check_names"=some (some (.ref f23)))(l23:K.lookup f23=some ⟨oc23,od23,.func (fnOf "check_names" "check_names" (aP dQ) (aL dQ) (aA dQ) .none kV23 dc23 pm23 an23 cd23 ct23),sl23⟩)(c23:codeIn K cd23 "check_names"=true)(k23:keepIn K (.ref f23)=true){od24 an24 sl24 oc24 kV24 dc24 pm24 cd24 ct24}(a24:nsIn K mainGlobals "is_minute_of_day"=some (some (.ref f24)))(l24:K.lookup f24=some ⟨oc24,od24,.func (fnOf "is_minute_of_day" "is_minute_of_day" (aP bZ) (aL bZ) (aA bZ) .none kV24 dc24 pm24 an24 cd24 ct24),sl24⟩)(c24:codeIn K cd24 "is_minute_of_day"=true)(k24:keepIn K (.ref f24)=true){od25 an25 sl25 oc25 kV25 dc25 pm25 cd25 ct25}(a25:nsIn K mainGlobals "is_quiet_hours"=some (some (.ref f25)))(l25:K.lookup f25=some ⟨oc25,od25,.func (fnOf "is_quiet_hours" "is_quiet_hours" (aP cP) (aL cP) (aA cP) .none kV25 dc25 pm25 an25 cd25 ct25),sl25⟩)(c25:codeIn K cd25 "is_quiet_hours"=true)(k25:keepIn K (.ref f25)=true){od26 an26 sl26 oc26 kV26 dc26 pm26 cd26 ct26}(a26:nsIn K mainGlobals "check_zone"=some (some (.ref f26)))(l26:K.lookup f26=some ⟨oc26,od26,.func (fnOf "check_zone" "check_zone" (aP eJ) (aL eJ) (aA eJ) .none kV26 dc26 pm26 an26 cd26 ct26),sl26⟩)(c26:codeIn K cd26 "check_zone"=true)(k26:keepIn K (.ref f26)=true){od27 an27 sl27 oc27 kV27 dc27 pm27 cd27 ct27}(a27:nsIn K mainGlobals "check_quiet"=some (some (.ref f27)))(l27:K.lookup f27=some ⟨oc27,od27,.func (fnOf "check_quiet" "check_quiet" (aP dR) (aL dR) (aA dR) .none kV27 dc27 pm27 an27 cd27 ct27),sl27⟩)(c27:codeIn K cd27 "check_quiet"=true)(k27:keepIn K (.ref f27)=true){od28 an28 sl28 oc28 kV28 dc28 pm28 cd28 ct28}(a28:findIn K (.ref z15) "__init__"=some (some (.ref f28)))(i28:isFn K (.ref f28)=true){T28:Addr}{doc28:Value}{dod28:Option Addr}{dn28:Nat}{dsl28:Array (Option Value)}(l28:K.lookup f28=some ⟨oc28,od28,.func (fnOf "__init__" "Line.__init__" (aP bK) (aL bK) (aA bK) (.ref T28) kV28 dc28 pm28 an28 cd28 ct28),sl28⟩)(d28:K.lookup T28=some ⟨doc28,dod28,.seq #[.bool false,.none] dn28,dsl28⟩)(c28:codeIn K cd28 "Line.__init__"=true){od29 an29 sl29 oc29 kV29 dc29 pm29 cd29 ct29}(a29:nsIn K mainGlobals "check_by_way"=some (some (.ref f29)))(l29:K.lookup f29=some ⟨oc29,od29,.func (fnOf "check_by_way" "check_by_way" (aP dH) (aL dH) (aA dH) .none kV29 dc29 pm29 an29 cd29 ct29),sl29⟩)(c29:codeIn K cd29 "check_by_way"=true)(k29:keepIn K (.ref f29)=true){od30 an30 sl30 oc30 kV30 dc30 pm30 cd30 ct30}(a30:findIn K (.ref z16) "__init__"=some (some (.ref f30)))(i30:isFn K (.ref f30)=true){T30:Addr}{doc30:Value}{dod30:Option Addr}{dn30:Nat}{dsl30:Array (Option Value)}{dt30_0:Tok}(l30:K.lookup f30=some ⟨oc30,od30,.func (fnOf "__init__" "Wishes.__init__" (aP bH) (aL bH) (aA bH) (.ref T30) kV30 dc30 pm30 an30 cd30 ct30),sl30⟩)(d30:K.lookup T30=some ⟨doc30,dod30,.seq #[.int 0 dt30_0,.none,.none,.none] dn30,dsl30⟩)(c30:codeIn K cd30 "Wishes.__init__"=true){od31 an31 sl31 oc31 kV31 dc31 pm31 cd31 ct31}(a31:nsIn K mainGlobals "check_wake"=some (some (.ref f31)))(l31:K.lookup f31=some ⟨oc31,od31,.func (fnOf "check_wake" "check_wake" (aP eL) (aL eL) (aA eL) .none kV31 dc31 pm31 an31 cd31 ct31),sl31⟩)(c31:codeIn K cd31 "check_wake"=true)(k31:keepIn K (.ref f31)=true){od32 an32 sl32 oc32 kV32 dc32 pm32 cd32 ct32}(a32:nsIn K mainGlobals "check_lines"=some (some (.ref f32)))(l32:K.lookup f32=some ⟨oc32,od32,.func (fnOf "check_lines" "check_lines" (aP dS) (aL dS) (aA dS) .none kV32 dc32 pm32 an32 cd32 ct32),sl32⟩)(c32:codeIn K cd32 "check_lines"=true)(k32:keepIn K (.ref f32)=true){od33 an33 sl33 oc33 kV33 dc33 pm33 cd33 ct33}(a33:nsIn K mainGlobals "read_wishes"=some (some (.ref f33)))(l33:K.lookup f33=some ⟨oc33,od33,.func (fnOf "read_wishes" "read_wishes" (aP dU) (aL dU) (aA dU) .none kV33 dc33 pm33 an33 cd33 ct33),sl33⟩)(c33:codeIn K cd33 "read_wishes"=true)(k33:keepIn K (.ref f33)=true){od34 an34 sl34 oc34 kV34 dc34 pm34 cd34 ct34}(a34:nsIn K mainGlobals "read_whole"=some (some (.ref f34)))(l34:K.lookup f34=some ⟨oc34,od34,.func (fnOf "read_whole" "read_whole" (aP eM) (aL eM) (aA eM) .none kV34 dc34 pm34 an34 cd34 ct34),sl34⟩)(c34:codeIn K cd34 "read_whole"=true)(k34:keepIn K (.ref f34)=true){od35 an35 sl35 oc35 kV35 dc35 pm35 cd35 ct35}(a35:nsIn K mainGlobals "fit_from"=some (some (.ref f35)))(l35:K.lookup f35=some ⟨oc35,od35,.func (fnOf "fit_from" "fit_from" (aP fZ) (aL fZ) (aA fZ) .none kV35 dc35 pm35 an35 cd35 ct35),sl35⟩)(c35:codeIn K cd35 "fit_from"=true)(k35:keepIn K (.ref f35)=true){od36 an36 sl36 oc36 kV36 dc36 pm36 cd36 ct36}(a36:nsIn K mainGlobals "plain_fit_from"=some (some (.ref f36)))(l36:K.lookup f36=some ⟨oc36,od36,.func (fnOf "plain_fit_from" "plain_fit_from" (aP cQ) (aL cQ) (aA cQ) .none kV36 dc36 pm36 an36 cd36 ct36),sl36⟩)(c36:codeIn K cd36 "plain_fit_from"=true)(k36:keepIn K (.ref f36)=true){od37 an37 sl37 oc37 kV37 dc37 pm37 cd37 ct37}(a37:nsIn K mainGlobals "closed"=some (some (.ref f37)))(l37:K.lookup f37=some ⟨oc37,od37,.func (fnOf "closed" "closed" (aP kN) (aL kN) (aA kN) .none kV37 dc37 pm37 an37 cd37 ct37),sl37⟩)(c37:codeIn K cd37 "closed"=true)(k37:keepIn K (.ref f37)=true){od38 an38 sl38 oc38 kV38 dc38 pm38 cd38 ct38}(a38:nsIn K mainGlobals "way_from"=some (some (.ref f38)))(l38:K.lookup f38=some ⟨oc38,od38,.func (fnOf "way_from" "way_from" (aP gF) (aL gF) (aA gF) .none kV38 dc38 pm38 an38 cd38 ct38),sl38⟩)(c38:codeIn K cd38 "way_from"=true)(k38:keepIn K (.ref f38)=true){od39 an39 sl39 oc39 kV39 dc39 pm39 cd39 ct39}(a39:nsIn K mainGlobals "line_from_wording"=some (some (.ref f39)))(l39:K.lookup f39=some ⟨oc39,od39,.func (fnOf "line_from" "line_from" (aP bQ) (aL bQ) (aA bQ) .none kV39 dc39 pm39 an39 cd39 ct39),sl39⟩)(c39:codeIn K cd39 "line_from"=true)(k39:keepIn K (.ref f39)=true){od40 an40 sl40 oc40 kV40 dc40 pm40 cd40 ct40}(a40:nsIn K mainGlobals "wishes_from"=some (some (.ref f40)))(l40:K.lookup f40=some ⟨oc40,od40,.func (fnOf "wishes_from" "wishes_from" (aP dW) (aL dW) (aA dW) .none kV40 dc40 pm40 an40 cd40 ct40),sl40⟩)(c40:codeIn K cd40 "wishes_from"=true)(k40:keepIn K (.ref f40)=true){od41 an41 sl41 oc41 kV41 dc41 pm41 cd41 ct41}(a41:nsIn K mainGlobals "read_book"=some (some (.ref f41)))(l41:K.lookup f41=some ⟨oc41,od41,.func (fnOf "read_book" "read_book" (aP fC) (aL fC) (aA fC) .none kV41 dc41 pm41 an41 cd41 ct41),sl41⟩)(c41:codeIn K cd41 "read_book"=true)(k41:keepIn K (.ref f41)=true){od42 an42 sl42 oc42 kV42 dc42 pm42 cd42 ct42}(a42:nsIn K mainGlobals "read_whole_line"=some (some (.ref f42)))(l42:K.lookup f42=some ⟨oc42,od42,.func (fnOf "read_whole_line" "read_whole_line" (aP cI) (aL cI) (aA cI) .none kV42 dc42 pm42 an42 cd42 ct42),sl42⟩)(c42:codeIn K cd42 "read_whole_line"=true)(k42:keepIn K (.ref f42)=true){od43 an43 sl43 oc43 kV43 dc43 pm43 cd43 ct43}(a43:nsIn K mainGlobals "line_from_texts"=some (some (.ref f43)))(l43:K.lookup f43=some ⟨oc43,od43,.func (fnOf "line_from" "line_from" (aP cJ) (aL cJ) (aA cJ) .none kV43 dc43 pm43 an43 cd43 ct43),sl43⟩)(c43:codeIn K cd43 "line_from"=true)(k43:keepIn K (.ref f43)=true){od44 an44 sl44 oc44 kV44 dc44 pm44 cd44 ct44}(a44:nsIn K mainGlobals "try_from"=some (some (.ref f44)))(l44:K.lookup f44=some ⟨oc44,od44,.func (fnOf "try_from" "try_from" (aP gG) (aL gG) (aA gG) .none kV44 dc44 pm44 an44 cd44 ct44),sl44⟩)(c44:codeIn K cd44 "try_from"=true)(k44:keepIn K (.ref f44)=true){od45 an45 sl45 oc45 kV45 dc45 pm45 cd45 ct45}(a45:nsIn K mainGlobals "stamp_from"=some (some (.ref f45)))(l45:K.lookup f45=some ⟨oc45,od45,.func (fnOf "stamp_from" "stamp_from" (aP eN) (aL eN) (aA eN) .none kV45 dc45 pm45 an45 cd45 ct45),sl45⟩)(c45:codeIn K cd45 "stamp_from"=true)(k45:keepIn K (.ref f45)=true){od46 an46 sl46 oc46 kV46 dc46 pm46 cd46 ct46}(a46:nsIn K mainGlobals "row_from"=some (some (.ref f46)))(l46:K.lookup f46=some ⟨oc46,od46,.func (fnOf "row_from" "row_from" (aP gH) (aL gH) (aA gH) .none kV46 dc46 pm46 an46 cd46 ct46),sl46⟩)(c46:codeIn K cd46 "row_from"=true)(k46:keepIn K (.ref f46)=true){od47 an47 sl47 oc47 kV47 dc47 pm47 cd47 ct47}(a47:nsIn K mainGlobals "wishes_text_from"=some (some (.ref f47)))(l47:K.lookup f47=some ⟨oc47,od47,.func (fnOf "wishes_text_from" "wishes_text_from" (aP cB) (aL cB) (aA cB) .none kV47 dc47 pm47 an47 cd47 ct47),sl47⟩)(c47:codeIn K cd47 "wishes_text_from"=true)(k47:keepIn K (.ref f47)=true){od48 an48 sl48 oc48 kV48 dc48 pm48 cd48 ct48}(a48:nsIn K mainGlobals "_law_cell_at"=some (some (.ref f48)))(l48:K.lookup f48=some ⟨oc48,od48,.func (fnOf "_law_cell_at" "_law_cell_at" (aP dX) (aL dX) (aA dX) .none kV48 dc48 pm48 an48 cd48 ct48),sl48⟩)(c48:codeIn K cd48 "_law_cell_at"=true)(k48:keepIn K (.ref f48)=true){od49 an49 sl49 oc49 kV49 dc49 pm49 cd49 ct49}(a49:nsIn K mainGlobals "_law_begin"=some (some (.ref f49)))(l49:K.lookup f49=some ⟨oc49,od49,.func (fnOf "_law_begin" "_law_begin" (aP fD) (aL fD) (aA fD) .none kV49 dc49 pm49 an49 cd49 ct49),sl49⟩)(c49:codeIn K cd49 "_law_begin"=true)(k49:keepIn K (.ref f49)=true){od50 an50 sl50 oc50 kV50 dc50 pm50 cd50 ct50}(a50:nsIn K mainGlobals "_law_next"=some (some (.ref f50)))(l50:K.lookup f50=some ⟨oc50,od50,.func (fnOf "_law_next" "_law_next" (aP gI) (aL gI) (aA gI) .none kV50 dc50 pm50 an50 cd50 ct50),sl50⟩)(c50:codeIn K cd50 "_law_next"=true)(k50:keepIn K (.ref f50)=true){od51 an51 sl51 oc51 kV51 dc51 pm51 cd51 ct51}(a51:nsIn K mainGlobals "_law_good"=some (some (.ref f51)))(l51:K.lookup f51=some ⟨oc51,od51,.func (fnOf "_law_good" "_law_good" (aP gJ) (aL gJ) (aA gJ) .none kV51 dc51 pm51 an51 cd51 ct51),sl51⟩)(c51:codeIn K cd51 "_law_good"=true)(k51:keepIn K (.ref f51)=true){od52 an52 sl52 oc52 kV52 dc52 pm52 cd52 ct52}(a52:nsIn K mainGlobals "_law_bad"=some (some (.ref f52)))(l52:K.lookup f52=some ⟨oc52,od52,.func (fnOf "_law_bad" "_law_bad" (aP iV) (aL iV) (aA iV) .none kV52 dc52 pm52 an52 cd52 ct52),sl52⟩)(c52:codeIn K cd52 "_law_bad"=true)(k52:keepIn K (.ref f52)=true){od53 an53 sl53 oc53 kV53 dc53 pm53 cd53 ct53}(a53:nsIn K mainGlobals "_law_told"=some (some (.ref f53)))(l53:K.lookup f53=some ⟨oc53,od53,.func (fnOf "_law_told" "_law_told" (aP gK) (aL gK) (aA gK) .none kV53 dc53 pm53 an53 cd53 ct53),sl53⟩)(c53:codeIn K cd53 "_law_told"=true)(k53:keepIn K (.ref f53)=true){od54 an54 sl54 oc54 kV54 dc54 pm54 cd54 ct54}(a54:nsIn K mainGlobals "law"=some (some (.ref f54)))(l54:K.lookup f54=some ⟨oc54,od54,.func (fnOf "law" "law" (aP tX) (aL tX) (aA tX) .none kV54 dc54 pm54 an54 cd54 ct54),sl54⟩)(c54:codeIn K cd54 "law"=true)(k54:keepIn K (.ref f54)=true)(y0:nsIn K mainGlobals "len"=some none)(y1:nsIn K mainGlobals "int"=some none)(y2:nsIn K mainGlobals "bool"=some none)(y3:nsIn K mainGlobals "str"=some none)(y4:nsIn K mainGlobals "tuple"=some none)(y5:nsIn K mainGlobals "list"=some none)(y6:nsIn K mainGlobals "all"=some none)(y7:nsIn K mainGlobals "isinstance"=some none)(y8:nsIn K mainGlobals "range"=some none)(y9:nsIn K mainGlobals "set"=some none)(y10:nsIn K mainGlobals "ValueError"=some none)(y11:nsIn K mainGlobals "enumerate"=some none)(y12:nsIn K mainGlobals "min"=some none)(y13:nsIn K mainGlobals "LETTERS"=some (some (.str "abcdefghijklmnopqrstuvwxyz" t0)))(y14:nsIn K mainGlobals "MOST_LETTERS"=some (some (.int 8 t1)))(y15:nsIn K mainGlobals "FIGURES"=some (some (.str "0123456789" t2)))(y16:nsIn K mainGlobals "MOST_FIGURES"=some (some (.int 60 t3)))(y17:nsIn K mainGlobals "MINUTES_OF_DAY"=some (some (.int 1440 t4)))(y18:nsIn K mainGlobals "BELL"=some (some (.str "bell" t5)))(y19:nsIn K mainGlobals "OFF"=some (some (.str "off" t6)))(y20:nsIn K mainGlobals "TOOK"=some (some (.str "took" t7)))(y21:nsIn K mainGlobals "NOT"=some (some (.str "not" t8)))(y22:nsIn K mainGlobals "PERHAPS"=some (some (.str "perhaps" t9)))(y23:nsIn K mainGlobals "BellError"=some (some (.ref z0)))(y24:nsIn K mainGlobals "NoHappening"=some (some (.ref z1)))(y25:nsIn K mainGlobals "NoRow"=some (some (.ref z2)))(y26:nsIn K mainGlobals "NoWish"=some (some (.ref z3)))(y27:nsIn K mainGlobals "NoBook"=some (some (.ref z4)))(y28:nsIn K mainGlobals "NoTime"=some (some (.ref z5)))(y29:nsIn K mainGlobals "NoClock"=some (some (.ref z6)))(y30:nsIn K mainGlobals "NoText"=some (some (.ref z7)))(y31:nsIn K mainGlobals "Words"=some (some (.ref z8)))(y32:nsIn K mainGlobals "Fit"=some (some (.ref z9)))(y33:nsIn K mainGlobals "Kind"=some (some (.ref z10)))(y34:nsIn K mainGlobals "Way"=some (some (.ref z11)))(y35:nsIn K mainGlobals "Now"=some (some (.ref z12)))(y36:nsIn K mainGlobals "Never"=some (some (.ref z13)))(y37:nsIn K mainGlobals "Raised"=some (some (.ref z14)))(y38:nsIn K mainGlobals "Line"=some (some (.ref z15)))(y39:nsIn K mainGlobals "Wishes"=some (some (.ref z16)))(y40:nsIn K mainGlobals "wishes_from"=some (some (.ref f40)))(y41:nsIn K mainGlobals "line_from_texts"=some (some (.ref f43)))(y42_0:findIn K (.ref z7) "__getattribute__"=some (some (.builtin "BaseException.__getattribute__")))(y42_1:findIn K (.ref z7) "__getattr__"=some none)(y42_2:findIn K (.ref z7) "__class__"=some (some (.builtin "object.__class__")))(y42_3:mroIn K z7 (.type "BaseException")=some true)(y42_4:mroIn K z7 (.type "object")=some true)(y42_5:isClsIn K z7=true)(y43:excIn K z6 vbm "ValueError.__new__"=true)(y44:exmOne K (.ref z6) (.ref z0)=some true)(y45:exmOne K (.ref z7) (.ref z0)=some true)(y46:exmOne K (.ref z7) (.ref z7)=some true)(y47:hasDictIn K z7=true)(y48:mroIn K z7 (.type "object")=some true)(y49:findIn K (.ref z7) "line"=some none)(y51_0:plainGet K z8 Str.empty=true)(y51_1:hasDictIn K z8=true)(y51_2:plainOver K z8=true)(y51_3:findIn K (.ref z8) "__setattr__"=some (some (.builtin "object.__setattr__")))(y51_4:findIn K (.ref z8) "__class__"=some (some (.builtin "object.__class__")))(y51_5:specialIn K (.builtin "object.__class__") "__get__"=some (some (.builtin "getset_descriptor.__get__")))(y51_6:takesIn K (.builtin "object.__class__")=some true)(y51_7:mroIn K z8 (.type "object")=some true)(y52:findIn K (.ref z8) "words"=some none)(y53:findIn K (.ref z8) "at"=some none)(y54_0:plainGet K z10 Str.empty=true)(y54_1:hasDictIn K z10=true)(y54_2:plainOver K z10=true)(y54_3:findIn K (.ref z10) "__setattr__"=some (some (.builtin "object.__setattr__")))(y54_4:findIn K (.ref z10) "__class__"=some (some (.builtin "object.__class__")))(y54_5:specialIn K (.builtin "object.__class__") "__get__"=some (some (.builtin "getset_descriptor.__get__")))(y54_6:takesIn K (.builtin "object.__class__")=some true)(y54_7:mroIn K z10 (.type "object")=some true)(y55:findIn K (.ref z10) "names"=some none)(y56_0:plainGet K z12 Str.empty=true)(y56_1:hasDictIn K z12=true)(y56_2:plainOver K z12=true)(y56_3:findIn K (.ref z12) "__setattr__"=some (some (.builtin "object.__setattr__")))(y56_4:findIn K (.ref z12) "__class__"=some (some (.builtin "object.__class__")))(y56_5:specialIn K (.builtin "object.__class__") "__get__"=some (some (.builtin "getset_descriptor.__get__")))(y56_6:takesIn K (.builtin "object.__class__")=some true)(y56_7:mroIn K z12 (.type "object")=some true)(y57_0:plainGet K z15 Str.empty=true)(y57_1:hasDictIn K z15=true)(y57_2:plainOver K z15=true)(y57_3:findIn K (.ref z15) "__setattr__"=some (some (.builtin "object.__setattr__")))(y57_4:findIn K (.ref z15) "__class__"=some (some (.builtin "object.__class__")))(y57_5:specialIn K (.builtin "object.__class__") "__get__"=some (some (.builtin "getset_descriptor.__get__")))(y57_6:takesIn K (.builtin "object.__class__")=some true)(y57_7:mroIn K z15 (.type "object")=some true)(y58:findIn K (.ref z15) "fit"=some none)(y59:findIn K (.ref z15) "way"=some none)(y60:findIn K (.ref z15) "roads"=some none)(y61:findIn K (.ref z15) "sure"=some none)(y62:findIn K (.ref z15) "raised"=some none)(y63_0:plainGet K z16 Str.empty=true)(y63_1:hasDictIn K z16=true)(y63_2:plainOver K z16=true)(y63_3:findIn K (.ref z16) "__setattr__"=some (some (.builtin "object.__setattr__")))(y63_4:findIn K (.ref z16) "__class__"=some (some (.builtin "object.__class__")))(y63_5:specialIn K (.builtin "object.__class__") "__get__"=some (some (.builtin "getset_descriptor.__get__")))(y63_6:takesIn K (.builtin "object.__class__")=some true)(y63_7:mroIn K z16 (.type "object")=some true)(y64:findIn K (.ref z16) "zone"=some none)(y65:findIn K (.ref z16) "quiet"=some none)(y66:findIn K (.ref z16) "wake"=some none)(y67:findIn K (.ref z16) "lines"=some none)(y68:kitOne K (.ref z10) (.ref z9)=some true)(y69:kitOne K (.ref z12) (.ref z11)=some true)(y70:kitOne K (.ref z12) (.ref z13)=some false)(y71:kitOne K (.ref z15) (.ref z15)=some true)(y72_0:makesIn K z12=true)(y72_1:findIn K (.ref z12) "__init__"=some (some (.builtin "object.__init__")))(y72_2:keepIn K (.ref z12)=true)(y73:kitAny K (.ref z7) ([.ref z1,.ref z2,.ref z3,.ref z4,.ref z5]:List Value)=some false)(y74:kitOne K (.ref z7) (.type "ValueError")=some true)(y75:kitOne K (.ref z7) (.ref z7)=some true){nmXNoText qXNoText:Str}{NXNoText:Addr}{bsXNoText:List Value}{snXNoText:List Str}{subXNoText:List Value}{abXNoText:Bool}{colXNoText:Option Bool}{ddXNoText:Option Addr}{kx0NoText kx1NoText kx2NoText kx3NoText kx5NoText:Option Value}(lxNoText:K.lookup z7=some ⟨.type "type",ddXNoText,.cls ⟨nmXNoText,bsXNoText,[.ref z7,.ref z0,.type "ValueError",.type "Exception",.type "BaseException",.type "object"],NXNoText,qXNoText,true,snXNoText,subXNoText,abXNoText,colXNoText,false⟩,#[kx0NoText,kx1NoText,kx2NoText,kx3NoText,some (.builtin "ValueError.__new__"),kx5NoText]⟩)(xbNoText:excIn K z0 vbm "ValueError.__new__"=true)(sxNoText:findIn K (.ref z7) "__setattr__"=some (some (.builtin "object.__setattr__")))(mkWords:makesIn K z8=true)(kcWords:keepIn K (.ref z8)=true)(mkKind:makesIn K z10=true)(kcKind:keepIn K (.ref z10)=true)(mkLine:makesIn K z15=true)(kcLine:keepIn K (.ref z15)=true)(mkWishes:makesIn K z16=true)(kcWishes:keepIn K (.ref z16)=true) :
  ∃ (a:Ad) (fd:FuncData),(∀ (s:Shared) (v:Value),BindsTo s fd ⟨[v],[]⟩ [("_law_script",v)])∧∀ base:Heap,K.In base→base.Ns mainGlobals mg→FnOk l.prog w K mg base CX0 18 fa fd ["_law_script"] (AK0 K a):=by
 have e:=hfa.symm.trans (mg_of X G a54)
 cases e
 have B:Bt K mg ⟨z0,z1,z2,z3,z4,z5,z6,z7,z8,z9,z10,z11,z12,z13,z14,z15,z16,f40,f43,t0,t1,t2,t3,t4,t5,t6,t7,t8,t9⟩:=⟨mg_none_of X G y0,mg_none_of X G y1,mg_none_of X G y2,mg_none_of X G y3,mg_none_of X G y4,mg_none_of X G y5,mg_none_of X G y6,mg_none_of X G y7,mg_none_of X G y8,mg_none_of X G y9,mg_none_of X G y10,mg_none_of X G y11,mg_none_of X G y12,mg_of X G y13,mg_of X G y14,mg_of X G y15,mg_of X G y16,mg_of X G y17,mg_of X G y18,mg_of X G y19,mg_of X G y20,mg_of X G y21,mg_of X G y22,mg_of X G y23,mg_of X G y24,mg_of X G y25,mg_of X G y26,mg_of X G y27,mg_of X G y28,mg_of X G y29,mg_of X G y30,mg_of X G y31,mg_of X G y32,mg_of X G y33,mg_of X G y34,mg_of X G y35,mg_of X G y36,mg_of X G y37,mg_of X G y38,mg_of X G y39,mg_of X G y40,mg_of X G y41,⟨y42_0,y42_1,y42_2,y42_3,y42_4,y42_5⟩,y43,y44,y45,y46,y47,y48,y49,BK0 lxNoText sxNoText,⟨⟨y51_0,y51_1,y51_2,y51_3⟩,y51_4,y51_5,y51_6,y51_7⟩,y52,y53,⟨⟨y54_0,y54_1,y54_2,y54_3⟩,y54_4,y54_5,y54_6,y54_7⟩,y55,⟨⟨y56_0,y56_1,y56_2,y56_3⟩,y56_4,y56_5,y56_6,y56_7⟩,⟨⟨y57_0,y57_1,y57_2,y57_3⟩,y57_4,y57_5,y57_6,y57_7⟩,y58,y59,y60,y61,y62,⟨⟨y63_0,y63_1,y63_2,y63_3⟩,y63_4,y63_5,y63_6,y63_7⟩,y64,y65,y66,y67,y68,y69,y70,y71,⟨y72_0,y72_1,y72_2⟩,y73,y74,y75⟩
 have F0:=xA (st:=aX) l0 c0
 have b0_0:Binds K _ ["self","line"] [.int 0 dt0_0]:=yT (fd:=fnOf "__init__" "NoText.__init__" (aP aX) (aL aX) (aA aX) (.ref T0) kV0 dc0 pm0 an0 cd0 ct0) 1 rfl fun s us X hl=>match us,hl with | [_],_=>by first | exact .of_eq rfl | exact binds_K X rfl d0 rfl rfl rfl
 have F1:=bD (st:=fY) l1 c1 k1
 have b1:=F1.binds (ps:=["thing"]) (by walk_at "b1")
 have F2:=bD (st:=bU) l2 c2 k2
 have b2:=F2.binds (ps:=["thing","least","most"]) (by walk_at "b3")
 have F3:=bD (st:=cZ) l3 c3 k3
 have b3:=F3.binds (ps:=["thing","least"]) (by walk_at "b2")
 have F4:=bD (st:=iU) l4 c4 k4
 have b4:=F4.binds (ps:=["thing"]) (by walk_at "b1")
 have F5:=bD (st:=bV) l5 c5 k5
 have b5:=F5.binds (ps:=["thing"]) (by walk_at "b1")
 have F6:=bD (st:=eH) l6 c6 k6
 have b6:=F6.binds (ps:=["word"]) (by walk_at "b1")
 have F7:=bD (st:=fB) l7 c7 k7
 have b7:=F7.binds (ps:=["word"]) (by walk_at "b1")
 have F8:=bD (st:=cM) l8 c8 k8
 have b8:=F8.binds (ps:=["self","text"]) (by walk_at "b2")
 have F9:=bD (st:=cN) l9 c9 k9
 have b9:=F9.binds (ps:=["self"]) (by walk_at "b1")
 have F10:=bD (st:=eI) l10 c10 k10
 have b10:=F10.binds (ps:=["self"]) (by walk_at "b1")
 have F11:=bD (st:=dN) l11 c11 k11
 have b11:=F11.binds (ps:=["self"]) (by walk_at "b1")
 have F12:=bD (st:=dP) l12 c12 k12
 have b12:=F12.binds (ps:=["self","word"]) (by walk_at "b2")
 have F13:=bD (st:=dG) l13 c13 k13
 have b13:=F13.binds (ps:=["self","word"]) (by walk_at "b2")
 have F14:=bD (st:=bW) l14 c14 k14
 have b14:=F14.binds (ps:=["self"]) (by walk_at "b1")
 have F15:=bD (st:=bO) l15 c15 k15
 have b15:=F15.binds (ps:=["self"]) (by walk_at "b1")
 have F16:=bD (st:=bX) l16 c16 k16
 have b16:=F16.binds (ps:=["self"]) (by walk_at "b1")
 have F17:=bD (st:=cF) l17 c17 k17
 have b17:=F17.binds (ps:=["self"]) (by walk_at "b1")
 have F18:=bD (st:=bP) l18 c18 k18
 have b18:=F18.binds (ps:=["self","choices"]) (by walk_at "b2")
 have F19:=bD (st:=bY) l19 c19 k19
 have b19:=F19.binds (ps:=["self"]) (by walk_at "b1")
 have F20:=bD (st:=cG) l20 c20 k20
 have b20:=F20.binds (ps:=["self","count"]) (by walk_at "b2")
 have F21:=bD (st:=cH) l21 c21 k21
 have b21:=F21.binds (ps:=["self"]) (by walk_at "b1")
 have F22:=bD (st:=dA) l22 c22 k22
 have b22:=F22.binds (ps:=["self","names"]) (by walk_at "b2")
 have F23:=bD (st:=dQ) l23 c23 k23
 have b23:=F23.binds (ps:=["names"]) (by walk_at "b1")
 have F24:=bD (st:=bZ) l24 c24 k24
 have b24:=F24.binds (ps:=["thing"]) (by walk_at "b1")
 have F25:=bD (st:=cP) l25 c25 k25
 have b25:=F25.binds (ps:=["thing"]) (by walk_at "b1")
 have F26:=bD (st:=eJ) l26 c26 k26
 have b26:=F26.binds (ps:=["zone"]) (by walk_at "b1")
 have F27:=bD (st:=dR) l27 c27 k27
 have b27:=F27.binds (ps:=["quiet"]) (by walk_at "b1")
 have F28:=xA (st:=bK) l28 c28
 have b28_5:Binds K _ ["self","fit","way","roads","sure","raised"] []:=yT (fd:=fnOf "__init__" "Line.__init__" (aP bK) (aL bK) (aA bK) (.ref T28) kV28 dc28 pm28 an28 cd28 ct28) 6 rfl fun s us X hl=>match us,hl with | [_,_,_,_,_,_],_=>by first | exact .of_eq rfl | exact binds_K X rfl d28 rfl rfl rfl
 have F29:=bD (st:=dH) l29 c29 k29
 have b29:=F29.binds (ps:=["way","roads","sure","raised"]) (by walk_at "b4")
 have F30:=xA (st:=bH) l30 c30
 have b30_4:Binds K _ ["self","zone","quiet","wake","lines"] []:=yT (fd:=fnOf "__init__" "Wishes.__init__" (aP bH) (aL bH) (aA bH) (.ref T30) kV30 dc30 pm30 an30 cd30 ct30) 5 rfl fun s us X hl=>match us,hl with | [_,_,_,_,_],_=>by first | exact .of_eq rfl | exact binds_K X rfl d30 rfl rfl rfl
 have F31:=bD (st:=eL) l31 c31 k31
 have b31:=F31.binds (ps:=["wake","quiet"]) (by walk_at "b2")
 have F32:=bD (st:=dS) l32 c32 k32
 have b32:=F32.binds (ps:=["lines"]) (by walk_at "b1")
 have F33:=bD (st:=dU) l33 c33 k33
 have b33:=F33.binds (ps:=["text"]) (by walk_at "b1")
 have F34:=bD (st:=eM) l34 c34 k34
 have b34:=F34.binds (ps:=["text","part_from"]) (by walk_at "b2")
 have F35:=bD (st:=fZ) l35 c35 k35
 have b35:=F35.binds (ps:=["words"]) (by walk_at "b1")
 have F36:=bD (st:=cQ) l36 c36 k36
 have b36:=F36.binds (ps:=["words","opened"]) (by walk_at "b2")
 have F37:=bD (st:=kN) l37 c37 k37
 have b37:=F37.binds (ps:=["fit","words","opened"]) (by walk_at "b3")
 have F38:=bD (st:=gF) l38 c38 k38
 have b38:=F38.binds (ps:=["words"]) (by walk_at "b1")
 have F39:=bD (st:=bQ) l39 c39 k39
 have b39:=F39.binds (ps:=["words"]) (by walk_at "b1")
 have F40:=bD (st:=dW) l40 c40 k40
 have b40:=F40.binds (ps:=["words"]) (by walk_at "b1")
 have F41:=bD (st:=fC) l41 c41 k41
 have b41:=F41.binds (ps:=["text"]) (by walk_at "b1")
 have F42:=bD (st:=cI) l42 c42 k42
 have b42:=F42.binds (ps:=["text","part_from"]) (by walk_at "b2")
 have F43:=bD (st:=cJ) l43 c43 k43
 have b43:=F43.binds (ps:=["words"]) (by walk_at "b1")
 have F44:=bD (st:=gG) l44 c44 k44
 have b44:=F44.binds (ps:=["words"]) (by walk_at "b1")
 have F45:=bD (st:=eN) l45 c45 k45
 have b45:=F45.binds (ps:=["words"]) (by walk_at "b1")
 have F46:=bD (st:=gH) l46 c46 k46
 have b46:=F46.binds (ps:=["words"]) (by walk_at "b1")
 have F47:=bD (st:=cB) l47 c47 k47
 have b47:=F47.binds (ps:=["words"]) (by walk_at "b1")
 have F48:=bD (st:=dX) l48 c48 k48
 have b48:=F48.binds (ps:=["_law_script","_law_k"]) (by walk_at "b2")
 have F49:=bD (st:=fD) l49 c49 k49
 have b49:=F49.binds (ps:=["_law_cell"]) (by walk_at "b1")
 have F50:=bD (st:=gI) l50 c50 k50
 have b50:=F50.binds (ps:=["_law_state","_law_base"]) (by walk_at "b2")
 have F51:=bD (st:=gJ) l51 c51 k51
 have b51:=F51.binds (ps:=["_law_state"]) (by walk_at "b1")
 have F52:=bD (st:=iV) l52 c52 k52
 have b52:=F52.binds (ps:=["_law_state"]) (by walk_at "b1")
 have F53:=bD (st:=gK) l53 c53 k53
 have b53:=F53.binds (ps:=["_law_text"]) (by walk_at "b1")
 have F54:=bD (st:=tX) l54 c54 k54
 have b54:=F54.binds (ps:=["_law_script"]) (by walk_at "b1")
 refine ⟨(⟨z0,z1,z2,z3,z4,z5,z6,z7,z8,z9,z10,z11,z12,z13,z14,z15,z16,f40,f43,t0,t1,t2,t3,t4,t5,t6,t7,t8,t9⟩:Ad),fnOf "law" "law" (aP tX) (aL tX) (aA tX) .none kV54 dc54 pm54 an54 cd54 ct54,fun s v=>.of_eq rfl,fun base _ _=>?_⟩
 have oU:FnOk l.prog w K mg base (CXF l.prog w) 1 _ _ _ _:=FnOk.up (nB B  F0)
 have bB:CalI l.prog w K mg base "NoText" z7 "line" 1 (.int 0):=⟨z0,f0,_,_,_,oU,b0_0,⟨_,rfl⟩,⟨⟨_,_,_,_,_,_,_,_,_,_,_,_,_,_,_,lxNoText⟩,xbNoText,a0,i0⟩,B.NoText⟩
 have b0_1:Binds K _ ["self","line"] []:=yT (fd:=fnOf "__init__" "NoText.__init__" (aP aX) (aL aX) (aA aX) (.ref T0) kV0 dc0 pm0 an0 cd0 ct0) 2 rfl fun s us X hl=>match us,hl with | [_,_],_=>by first | exact .of_eq rfl | exact binds_K X rfl d0 rfl rfl rfl
 have CIA_NoText:CalIA l.prog w K mg base "NoText" z7 "line" 1:=⟨z0,f0,_,_,sU (P:=l.prog) (w:=w) (base:=base) B F0,b0_1,⟨⟨_,_,_,_,_,_,_,_,_,_,_,_,_,_,_,lxNoText⟩,xbNoText,a0,i0⟩,B.NoText⟩
 have oQ:CalIH l.prog w K mg base "NoText" z7 "line" 1 (.int 0):=⟨z0,f0,_,_,_,sU (P:=l.prog) (w:=w) (base:=base) B F0,b0_0,⟨_,rfl⟩,⟨⟨_,_,_,_,_,_,_,_,_,_,_,_,_,_,_,lxNoText⟩,xbNoText,a0,i0⟩,B.NoText⟩
 have AA0:FnOk l.prog w K mg base (CXF l.prog w) 1 _ _ _ _:=FnOk.up (xM B  F1)
 have gL:CalX l.prog w K mg base _ _ 1 _:=⟨_,_,AA0,b1,k1,mg_of X G a1⟩
 have AL0:FnOk l.prog w K mg base (CXF l.prog w) 1 _ _ _ _:=FnOk.up (zW B  F4)
 have eW:CalX l.prog w K mg base _ _ 1 _:=⟨_,_,AL0,b4,k4,mg_of X G a4⟩
 have vX:FnOk l.prog w K mg base (CXF l.prog w) 1 _ _ _ _:=FnOk.up (tY B  F6)
 have iD:CalX l.prog w K mg base _ _ 1 _:=⟨_,_,vX,b6,k6,mg_of X G a6⟩
 have pN:FnOk l.prog w K mg base (CXF l.prog w) 1 _ _ _ _:=FnOk.up (oK B  F9)
 have vY:FnOk l.prog w K mg base (CXF l.prog w) 1 _ _ _ _:=FnOk.up (tZ B  F10)
 have oV:FnOk l.prog w K mg base (CXF l.prog w) 1 _ _ _ _:=FnOk.up (nE B  F20)
 have rZ:FnOk l.prog w K mg base (CXF l.prog w) 1 _ _ _ _:=FnOk.up (rD B  F29)
 have iM:CalX l.prog w K mg base _ _ 1 _:=⟨_,_,rZ,b29,k29,mg_of X G a29⟩
 have uH:FnOk l.prog w K mg base (CXF l.prog w) 1 _ _ _ _:=FnOk.up (rV B  F32)
 have jL:CalX l.prog w K mg base _ _ 1 _:=⟨_,_,uH,b32,k32,mg_of X G a32⟩
 have AP9:FnOk l.prog w K mg base (CXF l.prog w) 1 _ _ _ _:=FnOk.up (AK3 B  F37)
 have uG:CalX l.prog w K mg base _ _ 1 _:=⟨_,_,AP9,b37,k37,mg_of X G a37⟩
 have uI:FnOk l.prog w K mg base (CXF l.prog w) 1 _ _ _ _:=FnOk.up (rY B  F48)
 have jP:CalX l.prog w K mg base _ _ 1 _:=⟨_,_,uI,b48,k48,mg_of X G a48⟩
 have xX:FnOk l.prog w K mg base (CXF l.prog w) 1 _ _ _ _:=FnOk.up (vT B  F49)
 have jO:CalX l.prog w K mg base _ _ 1 _:=⟨_,_,xX,b49,k49,mg_of X G a49⟩
 have AA1:FnOk l.prog w K mg base (CXF l.prog w) 1 _ _ _ _:=FnOk.up (xR B  F50)
 have cR:CalX l.prog w K mg base _ _ 1 _:=⟨_,_,AA1,b50,k50,mg_of X G a50⟩
 have nM:FnOk l.prog w K mg base (CXF l.prog w) 2 _ _ _ _:=FnOk.up (lP B gL F2)
 have cC:CalX l.prog w K mg base _ _ 2 _:=⟨_,_,nM,b2,k2,mg_of X G a2⟩
 have rF:FnOk l.prog w K mg base (CXF l.prog w) 2 _ _ _ _:=FnOk.up (pK B gL F3)
 have gY:CalX l.prog w K mg base _ _ 2 _:=⟨_,_,rF,b3,k3,mg_of X G a3⟩
 have nN:FnOk l.prog w K mg base (CXF l.prog w) 2 _ _ _ _:=FnOk.up (lR B eW F5)
 have cD:CalX l.prog w K mg base _ _ 2 _:=⟨_,_,nN,b5,k5,mg_of X G a5⟩
 have xY:FnOk l.prog w K mg base (CXF l.prog w) 2 _ _ _ _:=FnOk.up (vQ B iD F7)
 have lV:CalX l.prog w K mg base _ _ 2 _:=⟨_,_,xY,b7,k7,mg_of X G a7⟩
 have eE:∀ C sp,oI K (⟨z0,z1,z2,z3,z4,z5,z6,z7,z8,z9,z10,z11,z12,z13,z14,z15,z16,f40,f43,t0,t1,t2,t3,t4,t5,t6,t7,t8,t9⟩:Ad) C sp→CalM l.prog w K mg base C "look" ["self"] 1 sp:=by
  rintro C sp ⟨rfl,rfl⟩
  exact ⟨⟨_,_,FnOk.lift vY (by decide),b10,⟨a10,i10,k10⟩,B.ck_Words.cl⟩⟩
 have vZ:FnOk l.prog w K mg base (CXF l.prog w) 2 _ _ _ _:=FnOk.up (uA B eE F11)
 have uJ:FnOk l.prog w K mg base (CXF l.prog w) 2 _ _ _ _:=FnOk.up (rR B eE F12)
 have eO:∀ C sp,kE K (⟨z0,z1,z2,z3,z4,z5,z6,z7,z8,z9,z10,z11,z12,z13,z14,z15,z16,f40,f43,t0,t1,t2,t3,t4,t5,t6,t7,t8,t9⟩:Ad) C sp→CalM l.prog w K mg base C "take_some" ["self","count"] 1 sp:=by
  rintro C sp ⟨rfl,rfl⟩
  exact ⟨⟨_,_,FnOk.lift oV (by decide),b20,⟨a20,i20,k20⟩,B.ck_Words.cl⟩⟩
 have oW:FnOk l.prog w K mg base (CXF l.prog w) 2 _ _ _ _:=FnOk.up (nG B eO F21)
 have AA2:FnOk l.prog w K mg base (CXF l.prog w) 2 _ _ _ _:=FnOk.up (xS B cR F51)
 have oT:CalX l.prog w K mg base _ _ 2 _:=⟨_,_,AA2,b51,k51,mg_of X G a51⟩
 have AL1:FnOk l.prog w K mg base (CXF l.prog w) 2 _ _ _ _:=FnOk.up (zY B cR F52)
 have nL:CalX l.prog w K mg base _ _ 2 _:=⟨_,_,AL1,b52,k52,mg_of X G a52⟩
 have pO:FnOk l.prog w K mg base (CXF l.prog w) 3 _ _ _ _:=oJ B bB F8
 have fX:CalC l.prog w K mg base "Words" z8 ["self","text"] 3 (dB K _):=⟨_,_,pO,b8,⟨mkWords,a8,i8,kcWords⟩,B.Words⟩
 have cS:∀ C sp,mZ K (⟨z0,z1,z2,z3,z4,z5,z6,z7,z8,z9,z10,z11,z12,z13,z14,z15,z16,f40,f43,t0,t1,t2,t3,t4,t5,t6,t7,t8,t9⟩:Ad) C sp→CalM l.prog w K mg base C "takes" ["self","word"] 2 sp:=by
  rintro C sp ⟨rfl,rfl⟩
  exact ⟨⟨_,_,FnOk.lift uJ (by decide),b12,⟨a12,i12,k12⟩,B.ck_Words.cl⟩⟩
 have sA:FnOk l.prog w K mg base (CXF l.prog w) 3 _ _ _ _:=rB B cS bB F13
 have dF:∀ C sp,jH K (⟨z0,z1,z2,z3,z4,z5,z6,z7,z8,z9,z10,z11,z12,z13,z14,z15,z16,f40,f43,t0,t1,t2,t3,t4,t5,t6,t7,t8,t9⟩:Ad) C sp→CalM l.prog w K mg base C "is_ended" ["self"] 1 sp:=by
  rintro C sp ⟨rfl,rfl⟩
  exact ⟨⟨_,_,FnOk.lift pN (by decide),b9,⟨a9,i9,k9⟩,B.ck_Words.cl⟩⟩
 have nO:FnOk l.prog w K mg base (CXF l.prog w) 3 _ _ _ _:=lM B dF bB F14
 have cV:∀ C sp,iK K (⟨z0,z1,z2,z3,z4,z5,z6,z7,z8,z9,z10,z11,z12,z13,z14,z15,z16,f40,f43,t0,t1,t2,t3,t4,t5,t6,t7,t8,t9⟩:Ad) C sp→CalM l.prog w K mg base C "take" ["self"] 2 sp:=by
  rintro C sp ⟨rfl,rfl⟩
  exact ⟨⟨_,_,FnOk.lift vZ (by decide),b11,⟨a11,i11,k11⟩,B.ck_Words.cl⟩⟩
 have lX:FnOk l.prog w K mg base (CXF l.prog w) 3 _ _ _ _:=kP B cV lV bB F15
 have oX:FnOk l.prog w K mg base (CXF l.prog w) 3 _ _ _ _:=nC B cV eW bB F17
 have lY:FnOk l.prog w K mg base (CXF l.prog w) 3 _ _ _ _:=kQ B cV bB F18
 have nP:FnOk l.prog w K mg base (CXF l.prog w) 3 _ _ _ _:=FnOk.up (lN B eW eE cV F19)
 have uK:FnOk l.prog w K mg base (CXF l.prog w) 3 _ _ _ _:=FnOk.up (rS B cD F23)
 have jJ:CalX l.prog w K mg base _ _ 3 _:=⟨_,_,uK,b23,k23,mg_of X G a23⟩
 have nQ:FnOk l.prog w K mg base (CXF l.prog w) 3 _ _ _ _:=FnOk.up (lQ B cC F24)
 have dM:CalX l.prog w K mg base _ _ 3 _:=⟨_,_,nQ,b24,k24,mg_of X G a24⟩
 have wA:FnOk l.prog w K mg base (CXF l.prog w) 3 _ _ _ _:=uB B cC F26
 have kF:CalX l.prog w K mg base _ _ 3 _:=⟨_,_,wA,b26,k26,mg_of X G a26⟩
 have rG:FnOk l.prog w K mg base (CXF l.prog w) 3 _ _ _ _:=FnOk.up (pM B iM cD F28)
 have CD_Line_5:CalD l.prog w K mg base "Line" z15 ["self","fit","way","roads","sure","raised"] 3 [] (fN K (⟨z0,z1,z2,z3,z4,z5,z6,z7,z8,z9,z10,z11,z12,z13,z14,z15,z16,f40,f43,t0,t1,t2,t3,t4,t5,t6,t7,t8,t9⟩:Ad)):=⟨_,_,_,rG,b28_5,.nil,⟨mkLine,a28,i28,kcLine⟩,B.Line⟩
 have wB:FnOk l.prog w K mg base (CXF l.prog w) 3 _ _ _ _:=FnOk.up (uC B gY F31)
 have kG:CalX l.prog w K mg base _ _ 3 _:=⟨_,_,wB,b31,k31,mg_of X G a31⟩
 have AA3:FnOk l.prog w K mg base (CXF l.prog w) 3 _ _ _ _:=FnOk.up (xO B cV F38)
 have oP:CalX l.prog w K mg base _ _ 3 _:=⟨_,_,AA3,b38,k38,mg_of X G a38⟩
 have aM:∀ C sp,cU K (⟨z0,z1,z2,z3,z4,z5,z6,z7,z8,z9,z10,z11,z12,z13,z14,z15,z16,f40,f43,t0,t1,t2,t3,t4,t5,t6,t7,t8,t9⟩:Ad) C sp→CalM l.prog w K mg base C "take_number" ["self"] 3 sp:=by
  rintro C sp ⟨rfl,rfl⟩
  exact ⟨⟨_,_,FnOk.lift lX (by decide),b15,⟨a15,i15,k15⟩,B.ck_Words.cl⟩⟩
 have nR:FnOk l.prog w K mg base (CXF l.prog w) 4 _ _ _ _:=lO B aM bB F16
 have rH:FnOk l.prog w K mg base (CXF l.prog w) 4 _ _ _ _:=FnOk.up (pL B jJ F22)
 have xW:CalC l.prog w K mg base "Kind" z10 ["self","names"] 4 (fM K _):=⟨_,_,rH,b22,⟨mkKind,a22,i22,kcKind⟩,B.Kind⟩
 have pP:FnOk l.prog w K mg base (CXF l.prog w) 4 _ _ _ _:=FnOk.up (oM B dM F25)
 have fO:CalX l.prog w K mg base _ _ 4 _:=⟨_,_,pP,b25,k25,mg_of X G a25⟩
 have uL:FnOk l.prog w K mg base (CXF l.prog w) 5 _ _ _ _:=FnOk.up (rT B fO F27)
 have jK:CalX l.prog w K mg base _ _ 5 _:=⟨_,_,uL,b27,k27,mg_of X G a27⟩
 have cE:∀ C sp,fV K (⟨z0,z1,z2,z3,z4,z5,z6,z7,z8,z9,z10,z11,z12,z13,z14,z15,z16,f40,f43,t0,t1,t2,t3,t4,t5,t6,t7,t8,t9⟩:Ad) C sp→CalM l.prog w K mg base C "expect_end" ["self"] 3 sp:=by
  rintro C sp ⟨rfl,rfl⟩
  exact ⟨⟨_,_,FnOk.lift nO (by decide),b14,⟨a14,i14,k14⟩,B.ck_Words.cl⟩⟩
 have bR:∀ C sp,jI K (⟨z0,z1,z2,z3,z4,z5,z6,z7,z8,z9,z10,z11,z12,z13,z14,z15,z16,f40,f43,t0,t1,t2,t3,t4,t5,t6,t7,t8,t9⟩:Ad) C sp→CalM l.prog w K mg base C "take_count" ["self"] 4 sp:=by
  rintro C sp ⟨rfl,rfl⟩
  exact ⟨⟨_,_,FnOk.lift nR (by decide),b16,⟨a16,i16,k16⟩,B.ck_Words.cl⟩⟩
 have CMT_take:∀ C sp,iK K (⟨z0,z1,z2,z3,z4,z5,z6,z7,z8,z9,z10,z11,z12,z13,z14,z15,z16,f40,f43,t0,t1,t2,t3,t4,t5,t6,t7,t8,t9⟩:Ad) C sp→CalMT l.prog w K mg base C "take" ["self"] 2 sp:=by
  rintro C sp ⟨rfl,rfl⟩
  exact ⟨⟨_,_,rQ (P:=l.prog) (w:=w) (base:=base) B eE F11,b11,⟨a11,i11,k11⟩,B.ck_Words.cl⟩⟩
 have wC:FnOk l.prog w K mg base (CXF l.prog w) 5 _ _ _ _:=uE B fX cE bR CMT_take F45
 have iE:CalX l.prog w K mg base _ _ 5 _:=⟨_,_,wC,b45,k45,mg_of X G a45⟩
 have oY:FnOk l.prog w K mg base (CXF l.prog w) 6 _ _ _ _:=nI B kF jK kG jL F30
 have CD_Wishes_4:CalD l.prog w K mg base "Wishes" z16 ["self","zone","quiet","wake","lines"] 6 [] (eU K (⟨z0,z1,z2,z3,z4,z5,z6,z7,z8,z9,z10,z11,z12,z13,z14,z15,z16,f40,f43,t0,t1,t2,t3,t4,t5,t6,t7,t8,t9⟩:Ad)):=⟨_,_,_,oY,b30_4,.nil,⟨mkWishes,a30,i30,kcWishes⟩,B.Wishes⟩
 have jM:∀ C sp,nA K (⟨z0,z1,z2,z3,z4,z5,z6,z7,z8,z9,z10,z11,z12,z13,z14,z15,z16,f40,f43,t0,t1,t2,t3,t4,t5,t6,t7,t8,t9⟩:Ad) C sp→CalM l.prog w K mg base C "take_names" ["self"] 3 sp:=by
  rintro C sp ⟨rfl,rfl⟩
  exact ⟨⟨_,_,FnOk.lift nP (by decide),b19,⟨a19,i19,k19⟩,B.ck_Words.cl⟩⟩
 have pQ:FnOk l.prog w K mg base (CXF l.prog w) 6 _ _ _ _:=oN B cV xW jM bB F36
 have fP:CalX l.prog w K mg base _ _ 6 _:=⟨_,_,pQ,b36,k36,mg_of X G a36⟩
 have bT:∀ C sp,kD K (⟨z0,z1,z2,z3,z4,z5,z6,z7,z8,z9,z10,z11,z12,z13,z14,z15,z16,f40,f43,t0,t1,t2,t3,t4,t5,t6,t7,t8,t9⟩:Ad) C sp→CalM l.prog w K mg base C "take_name" ["self"] 3 sp:=by
  rintro C sp ⟨rfl,rfl⟩
  exact ⟨⟨_,_,FnOk.lift oX (by decide),b17,⟨a17,i17,k17⟩,B.ck_Words.cl⟩⟩
 have dI:∀ C sp,iL K (⟨z0,z1,z2,z3,z4,z5,z6,z7,z8,z9,z10,z11,z12,z13,z14,z15,z16,f40,f43,t0,t1,t2,t3,t4,t5,t6,t7,t8,t9⟩:Ad) C sp→CalM l.prog w K mg base C "take_one_of" ["self","choices"] 3 sp:=by
  rintro C sp ⟨rfl,rfl⟩
  exact ⟨⟨_,_,FnOk.lift lY (by decide),b18,⟨a18,i18,k18⟩,B.ck_Words.cl⟩⟩
 have AA4:FnOk l.prog w K mg base (CXF l.prog w) 6 _ _ _ _:=xP B aM bT dI iE dF F44
 have oS:CalX l.prog w K mg base _ _ 6 _:=⟨_,_,AA4,b44,k44,mg_of X G a44⟩
 have AA5:FnOk l.prog w K mg base (CXF l.prog w) 7 _ _ _ _:=xN B uG fP F35
 have oO:CalX l.prog w K mg base _ _ 7 _:=⟨_,_,AA5,b35,k35,mg_of X G a35⟩
 have gZ:∀ C sp,rA K (⟨z0,z1,z2,z3,z4,z5,z6,z7,z8,z9,z10,z11,z12,z13,z14,z15,z16,f40,f43,t0,t1,t2,t3,t4,t5,t6,t7,t8,t9⟩:Ad) C sp→CalM l.prog w K mg base C "expect" ["self","word"] 3 sp:=by
  rintro C sp ⟨rfl,rfl⟩
  exact ⟨⟨_,_,FnOk.lift sA (by decide),b13,⟨a13,i13,k13⟩,B.ck_Words.cl⟩⟩
 have lZ:FnOk l.prog w K mg base (CXF l.prog w) 8 _ _ _ _:=kR B oO gZ oP eO cS CD_Line_5 aM F39
 have eF:CalX l.prog w K mg base _ _ 8 _:=⟨_,_,lZ,b39,k39,mg_of X G a39⟩
 have nT:FnOk l.prog w K mg base (CXF l.prog w) 9 _ _ _ _:=rW B gZ aM cS CD_Wishes_4 eF dF eE F40
 have AQ0:CalX l.prog w K mg base _ _ 9 _:=⟨_,_,nT,b40,k40,mg_of X G a40⟩
 have iN:BM0 l.prog w K mg base f40 ["words"] 9 (iJ K _):=⟨_,nT,b40,k40⟩
 have wD:FnOk l.prog w K mg base (lC l.prog w 1) 10 _ _ _ _:=uD B fX cE oQ iN F34
 have kH:CalG 1 l.prog w K mg base "read_whole" ["text","part_from"] 10 (jG K _):=⟨_,_,wD,b34,k34,mg_of X G a34⟩
 have uM:FnOk l.prog w K mg base (lC l.prog w 1) 11 _ _ _ _:=rX B kH F33
 have jN:CalG 1 l.prog w K mg base "read_wishes" ["text"] 11 (iI K _):=⟨_,_,uM,b33,k33,mg_of X G a33⟩
 have kI:∀ C sp,pE K (⟨z0,z1,z2,z3,z4,z5,z6,z7,z8,z9,z10,z11,z12,z13,z14,z15,z16,f40,f43,t0,t1,t2,t3,t4,t5,t6,t7,t8,t9⟩:Ad) C sp→CalM l.prog w K mg base C "take_rest" ["self"] 2 sp:=by
  rintro C sp ⟨rfl,rfl⟩
  exact ⟨⟨_,_,FnOk.lift oW (by decide),b21,⟨a21,i21,k21⟩,B.ck_Words.cl⟩⟩
 have nU:FnOk l.prog w K mg base (lC l.prog w 1) 12 _ _ _ _:=lT B jN kI F47
 have eY:CalG 1 l.prog w K mg base "wishes_text_from" ["words"] 12 (eC K _):=⟨_,_,nU,b47,k47,mg_of X G a47⟩
 have AA6:FnOk l.prog w K mg base (lC l.prog w 1) 13 _ _ _ _:=xQ B cV aM bT eY bR bB F46
 have oR:CalG 1 l.prog w K mg base "row_from" ["words"] 13 (lL K _):=⟨_,_,AA6,b46,k46,mg_of X G a46⟩
 have iZ:FnOk l.prog w K mg base (lC l.prog w 1) 14 _ _ _ _:=nJ B cS oR oS aM dI F43
 have eZ:CalFG 1 l.prog w K mg base f43 ["words"] 14 (dL K _):=⟨_,iZ,b43,k43⟩
 have AA7:CalG 1 l.prog w K mg base "line_from_texts" ["words"] 14 (dL K _):=⟨_,_,iZ,b43,k43,mg_of X G a43⟩
 have oZ:FnOk l.prog w K mg base (lC l.prog w 1) 15 _ _ _ _:=nK B fX cE eZ F42
 have fE:CalG 1 l.prog w K mg base "read_whole_line" ["text","part_from"] 15 (eV K _):=⟨_,_,oZ,b42,k42,mg_of X G a42⟩
 have xZ:FnOk l.prog w K mg base (lC l.prog w 2) 16 _ _ _ _:=vS B fE CIA_NoText bB F41
 have lW:CalG 2 l.prog w K mg base "read_book" ["text"] 16 (kC K _):=⟨_,_,xZ,b41,k41,mg_of X G a41⟩
 have AA8:FnOk l.prog w K mg base (CXF l.prog w) 17 _ _ _ _:=FnOk.up (xT B lW F53)
 have dY:CalX l.prog w K mg base _ _ 17 _:=⟨_,_,AA8,b53,k53,mg_of X G a53⟩
 exact BE5 (P:=l.prog) (w:=w) (base:=base) B dY jO cR nL oT jP F54
theorem BN6 {l:OpenLaw}{q:Program}{loose:List Str}{XP:(Str→Option Value)→Heap→Prop}{YP:World→Heap→Prop}{d:DefRec}{K:Params→Frag}(hn:l.most=some 63)(hdf:d.params.defaults=[])(hY:∀ (w:World) (h:Heap),YP w h→(K w.params).In h)(F:∀ (w:World) (mg:Str→Option Value) (fa:Addr) (h:Heap),(K w.params).In h→h.Ns mainGlobals mg→mg d.name=some (.ref fa) →
   ∃ fd:FuncData,(∀ (s:Shared) (u:Value),BindsTo s fd ⟨[u],[]⟩ [("_law_script",u)])∧∀ base:Heap,(K w.params).In base→base.Ns mainGlobals mg→FnOk l.prog w (K w.params) mg base CX0 18 fa fd ["_law_script"] (spL (K w.params))) :
  WalkO q loose XP YP l.row.toRowW d [] (fun f vs=>PySem.call f vs) :=
 L2.BG5 (n:=63) (k:=18) (x:="_law_script") (CX:=fun _=>CX0) (sp:=fun w=>spL (K w.params)) hn (by decide) hdf ⟨rfl,by decide,by decide⟩ hY F (fun _ _ a ns hl _ hS=>⟨a,ns,rfl,hS,hl,fun _=>rfl⟩) fun _ _ _ _ _ z=>z
theorem BK1 {P:Program}{w:World}{K:Frag}{mg:Str→Option Value}{fa:Addr}(h:∃ (a:Ad) (fd:FuncData),(∀ (s:Shared) (v:Value),BindsTo s fd ⟨[v],[]⟩ [("_law_script",v)])∧∀ base:Heap,K.In base→base.Ns mainGlobals mg→FnOk P w K mg base CX0 18 fa fd ["_law_script"] (AK0 K a)) :
  ∃ fd:FuncData,(∀ (s:Shared) (v:Value),BindsTo s fd ⟨[v],[]⟩ [("_law_script",v)])∧∀ base:Heap,K.In base→base.Ns mainGlobals mg→FnOk P w K mg base CX0 18 fa fd ["_law_script"] (spL K):=by
 obtain ⟨a,fd,b,q⟩:=h
 exact ⟨fd,b,fun base x y=>q base x y⟩
end Bw
open PySem PySem.W PyProof.Rows
set_option maxRecDepth 100000 in
set_option maxHeartbeats 0 in
theorem PySem.Challenge.cw_bellsaway_k82_lines_that_cannot_be_read_holds : PySem.Challenge.rw_bellsaway_k82_lines_that_cannot_be_read.Holds := by
 w_on; o_law; k_head; (case hw=>w_witness2)
 k_fill
 refine Bw.BN6 (l:=PySem.Challenge.rw_bellsaway_k82_lines_that_cannot_be_read) rfl rfl (fun w h Y=>PySem.W.kIn_of Y) ?F
 case F =>
  intro w mg fa h KX G hmg
  refine Bw.BK1 ?Z
  refine' Bw.BM2 KX G hmg ?a0 ?i0 ?l0 ?d0 ?c0 ?a1 ?l1 ?c1 ?k1 ?a2 ?l2 ?c2 ?k2 ?a3 ?l3 ?c3 ?k3 ?a4 ?l4 ?c4 ?k4 ?a5 ?l5 ?c5 ?k5 ?a6 ?l6 ?c6 ?k6 ?a7 ?l7 ?c7 ?k7 ?a8 ?i8 ?l8 ?c8 ?k8 ?a9 ?i9 ?l9 ?c9 ?k9 ?a10 ?i10 ?l10 ?c10 ?k10 ?a11 ?i11 ?l11 ?c11 ?k11 ?a12 ?i12 ?l12 ?c12 ?k12 ?a13 ?i13 ?l13 ?c13 ?k13 ?a14 ?i14 ?l14 ?c14 ?k14 ?a15 ?i15 ?l15 ?c15 ?k15 ?a16 ?i16 ?l16 ?c16 ?k16 ?a17 ?i17 ?l17 ?c17 ?k17 ?a18 ?i18 ?l18 ?c18 ?k18 ?a19 ?i19 ?l19 ?c19 ?k19 ?a20 ?i20 ?l20 ?c20 ?k20 ?a21 ?i21 ?l21 ?c21 ?k21 ?a22 ?i22 ?l22 ?c22 ?k22 ?a23 ?l23 ?c23 ?k23 ?a24 ?l24 ?c24 ?k24 ?a25 ?l25 ?c25 ?k25 ?a26 ?l26 ?c26 ?k26 ?a27 ?l27 ?c27 ?k27 ?a28 ?i28 ?l28 ?d28 ?c28 ?a29 ?l29 ?c29 ?k29 ?a30 ?i30 ?l30 ?d30 ?c30 ?a31 ?l31 ?c31 ?k31 ?a32 ?l32 ?c32 ?k32 ?a33 ?l33 ?c33 ?k33 ?a34 ?l34 ?c34 ?k34 ?a35 ?l35 ?c35 ?k35 ?a36 ?l36 ?c36 ?k36 ?a37 ?l37 ?c37 ?k37 ?a38 ?l38 ?c38 ?k38 ?a39 ?l39 ?c39 ?k39 ?a40 ?l40 ?c40 ?k40 ?a41 ?l41 ?c41 ?k41 ?a42 ?l42 ?c42 ?k42 ?a43 ?l43 ?c43 ?k43 ?a44 ?l44 ?c44 ?k44 ?a45 ?l45 ?c45 ?k45 ?a46 ?l46 ?c46 ?k46 ?a47 ?l47 ?c47 ?k47 ?a48 ?l48 ?c48 ?k48 ?a49 ?l49 ?c49 ?k49 ?a50 ?l50 ?c50 ?k50 ?a51 ?l51 ?c51 ?k51 ?a52 ?l52 ?c52 ?k52 ?a53 ?l53 ?c53 ?k53 ?a54 ?l54 ?c54 ?k54 ?y0 ?y1 ?y2 ?y3 ?y4 ?y5 ?y6 ?y7 ?y8 ?y9 ?y10 ?y11 ?y12 ?y13 ?y14 ?y15 ?y16 ?y17 ?y18 ?y19 ?y20 ?y21 ?y22 ?y23 ?y24 ?y25 ?y26 ?y27 ?y28 ?y29 ?y30 ?y31 ?y32 ?y33 ?y34 ?y35 ?y36 ?y37 ?y38 ?y39 ?y40 ?y41 ?y42_0 ?y42_1 ?y42_2 ?y42_3 ?y42_4 ?y42_5 ?y43 ?y44 ?y45 ?y46 ?y47 ?y48 ?y49 ?y51_0 ?y51_1 ?y51_2 ?y51_3 ?y51_4 ?y51_5 ?y51_6 ?y51_7 ?y52 ?y53 ?y54_0 ?y54_1 ?y54_2 ?y54_3 ?y54_4 ?y54_5 ?y54_6 ?y54_7 ?y55 ?y56_0 ?y56_1 ?y56_2 ?y56_3 ?y56_4 ?y56_5 ?y56_6 ?y56_7 ?y57_0 ?y57_1 ?y57_2 ?y57_3 ?y57_4 ?y57_5 ?y57_6 ?y57_7 ?y58 ?y59 ?y60 ?y61 ?y62 ?y63_0 ?y63_1 ?y63_2 ?y63_3 ?y63_4 ?y63_5 ?y63_6 ?y63_7 ?y64 ?y65 ?y66 ?y67 ?y68 ?y69 ?y70 ?y71 ?y72_0 ?y72_1 ?y72_2 ?y73 ?y74 ?y75 ?lxNoText ?xbNoText ?sxNoText ?mkWords ?kcWords ?mkKind ?kcKind ?mkLine ?kcLine ?mkWishes ?kcWishes
  (case y0|y1|y2|y3|y4|y5|y6|y7|y8|y9|y10|y11|y12|y13|y14|y15|y16|y17|y18|y19|y20|y21|y22|y23|y24|y25|y26|y27|y28|y29|y30|y31|y32|y33|y34|y35|y36|y37|y38|y39|y40|y41|a0|i0|l0|d0|c0|a1|l1|c1|k1|a2|l2|c2|k2|a3|l3|c3|k3|a4|l4|c4|k4|a5|l5|c5|k5|a6|l6|c6|k6|a7|l7|c7|k7|a8|i8|l8|c8|k8|a9|i9|l9|c9|k9|a10|i10|l10|c10|k10|a11|i11|l11|c11|k11|a12|i12|l12|c12|k12|a13|i13|l13|c13|k13|a14|i14|l14|c14|k14|a15|i15|l15|c15|k15|a16|i16|l16|c16|k16|a17|i17|l17|c17|k17|a18|i18|l18|c18|k18|a19|i19|l19|c19|k19|a20|i20|l20|c20|k20|a21|i21|l21|c21|k21|a22|i22|l22|c22|k22|a23|l23|c23|k23|a24|l24|c24|k24|a25|l25|c25|k25|a26|l26|c26|k26|a27|l27|c27|k27|a28|i28|l28|d28|c28|a29|l29|c29|k29|a30|i30|l30|d30|c30|a31|l31|c31|k31|a32|l32|c32|k32|a33|l33|c33|k33|a34|l34|c34|k34|a35|l35|c35|k35|a36|l36|c36|k36|a37|l37|c37|k37|a38|l38|c38|k38|a39|l39|c39|k39|a40|l40|c40|k40|a41|l41|c41|k41|a42|l42|c42|k42|a43|l43|c43|k43|a44|l44|c44|k44|a45|l45|c45|k45|a46|l46|c46|k46|a47|l47|c47|k47|a48|l48|c48|k48|a49|l49|c49|k49|a50|l50|c50|k50|a51|l51|c51|k51|a52|l52|c52|k52|a53|l53|c53|k53|a54|l54|c54|k54|y42_0|y42_1|y42_2|y42_3|y42_4|y42_5=>k_is)
  (case y43=>k_exc)
  (case y44=>kts_exm)
  (case y45=>kts_exm)
  (case y46=>kts_exm)
  (case y47|y48|y49|y51_0|y51_1|y51_2|y51_3|y51_4|y51_5|y51_6|y51_7|y52|y53|y54_0|y54_1|y54_2|y54_3|y54_4|y54_5|y54_6|y54_7|y55|y56_0|y56_1|y56_2|y56_3|y56_4|y56_5|y56_6|y56_7|y57_0|y57_1|y57_2|y57_3|y57_4|y57_5|y57_6|y57_7|y58|y59|y60|y61|y62|y63_0|y63_1|y63_2|y63_3|y63_4|y63_5|y63_6|y63_7|y64|y65|y66|y67=>k_is)
  (case y68|y69|y70|y71=>kit_is)
  (case y72_0|y72_1|y72_2=>k_is)
  (case y73|y74|y75=>kit_is)
  (case lxNoText=>k_is)
  (case xbNoText=>k_exc)
  (case sxNoText|mkWords|kcWords|mkKind|kcKind|mkLine|kcLine|mkWishes|kcWishes=>k_is)
