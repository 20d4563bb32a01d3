import PyProof.Rows.All
import Wide.All
import OpenK.AllK
import Wide.FinOn
import Lean
import PyProof.EqAt
import PyProof.EqKinds
import PyProof.TupleCall
import PySem.Challenge.RW_bellsaway_k10_what_parts_two_fits
set_option Elab.async false
set_option linter.all false
set_option maxRecDepth 100000
namespace L2
open PySem PySem.Spec PyProof.Rows PySem.W
abbrev Key:=Sum Int Str
def keyIs:Key→Value→Bool
 | .inl k,v=>Value.isInt k v
 | .inr x,v=>Value.isStrOf x v
def keyH (w:World):Key→Int
 | .inl k=>hashInt k
 | .inr x=>hashStr w x
theorem keyIs_shape:∀ {k:Key}{v:Value},keyIs k v=true→(∃ i t,k=Sum.inl i∧v=Value.int i t)∨(∃ x t,k=Sum.inr x∧v=Value.str x t)
 | .inl i,v,h=>by
  obtain ⟨t,e⟩:=Value.isInt_shape (k:=i) (v:=v) h
  exact .inl ⟨i,t,rfl,e⟩
 | .inr x,v,h=>by
  obtain ⟨t,e⟩:=Value.isStrOf_shape (x:=x) (v:=v) h
  exact .inr ⟨x,t,rfl,e⟩
theorem keyIs_int (i:Int)(t:Tok):keyIs (.inl i) (.int i t)=true:=by simp [keyIs,Value.isInt]
theorem keyIs_str (x:Str)(t:Tok):keyIs (.inr x) (.str x t)=true:=by simp [keyIs,Value.isStrOf]
theorem key_ll (a b:Int):decide ((Sum.inl a:Key)=Sum.inl b)=(a == b):=by
 by_cases e:a=b
 ·subst e; simp
 ·have h:¬ (Sum.inl a:Key)=Sum.inl b:=fun q=>e (Sum.inl.inj q)
  rw [decide_eq_false h]
  exact (beq_eq_false_iff_ne.mpr e).symm
theorem key_rr (a b:Str):decide ((Sum.inr a:Key)=Sum.inr b)=decide (a=b):=by
 by_cases e:a=b
 ·subst e; simp
 ·have h:¬ (Sum.inr a:Key)=Sum.inr b:=fun q=>e (Sum.inr.inj q)
  rw [decide_eq_false h,decide_eq_false e]
theorem key_lr (a:Int)(b:Str):decide ((Sum.inl a:Key)=Sum.inr b)=false:=decide_eq_false (fun q=>nomatch q)
theorem key_rl (a:Str)(b:Int):decide ((Sum.inr a:Key)=Sum.inl b)=false:=decide_eq_false (fun q=>nomatch q)
def mixKind (prog:Program)(w:World):PySem.KeyKind prog w Key where
 is:=keyIs
 hash:=keyH w
 inj:=fun v a b ha hb=>by
  rcases keyIs_shape ha with ⟨i,t,rfl,rfl⟩ | ⟨x,t,rfl,rfl⟩
  ·rcases keyIs_shape hb with ⟨j,u,rfl,e⟩ | ⟨y,u,rfl,e⟩
   ·injection e with e1 _; rw [e1]
   ·exact nomatch e
  ·rcases keyIs_shape hb with ⟨j,u,rfl,e⟩ | ⟨y,u,rfl,e⟩
   ·exact nomatch e
   ·injection e with e1 _; rw [e1]
 byValue:=fun k v h=>by
  rcases keyIs_shape h with ⟨i,t,rfl,rfl⟩ | ⟨x,t,rfl,rfl⟩ <;> rfl
 pyHash:=fun hv h=>by
  rcases keyIs_shape hv with ⟨i,t,rfl,rfl⟩ | ⟨x,t,rfl,rfl⟩
  ·exact wpAny_pyHash_int h
  ·exact wpAny_pyHash_str h
 eqBool:=fun hu hv h=>by
  rcases keyIs_shape hu with ⟨i,t,rfl,rfl⟩ | ⟨x,t,rfl,rfl⟩
  ·rcases keyIs_shape hv with ⟨j,u,rfl,rfl⟩ | ⟨y,u,rfl,rfl⟩
   ·rw [key_ll] at h; exact wpAny_eqBool_int h
   ·rw [key_lr] at h; exact SeqAt.EqAt.int_str i t y u _ _ _ _ h
  ·rcases keyIs_shape hv with ⟨j,u,rfl,rfl⟩ | ⟨y,u,rfl,rfl⟩
   ·rw [key_rl] at h; exact SeqAt.EqAt.str_int x t j u _ _ _ _ h
   ·rw [key_rr] at h; exact wpAny_eqBool_str h
 «strs»:=fun k x t v h=>by
  rcases keyIs_shape h with ⟨i,u,rfl,e⟩ | ⟨y,u,rfl,e⟩
  ·exact nomatch e
  ·injection e with e1 _
   subst e1
   cases v <;> rfl
theorem mixKind_int (prog:Program)(w:World)(i:Int)(t:Tok):(mixKind prog w).is (.inl i) (.int i t)=true:=keyIs_int i t
theorem mixKind_str (prog:Program)(w:World)(x:Str)(t:Tok):(mixKind prog w).is (.inr x) (.str x t)=true:=keyIs_str x t
inductive V where
 | non | bl (b:Bool) | int (i:Int) | str (x:Str) | byt (b:Array UInt8) | flt (b:UInt64) | ref (a:Addr) | ty (n:String)
 deriving DecidableEq
def RelV:V→Value→Prop
 | .non,u=>u=Value.none
 | .bl b,u=>u=Value.bool b
 | .int i,u=>∃ t,u=Value.int i t
 | .str x,u=>∃ t,u=Value.str x t
 | .byt b,u=>∃ t,u=Value.bytes b t
 | .flt b,u=>∃ t,u=Value.float b t
 | .ref a,u=>u=Value.ref a
 | .ty n,u=>u=Value.type n
abbrev Vals:List V→List Value→Prop:=Paired RelV
theorem Vals.length {xs:List V}{us:List Value}(r:Vals xs us):xs.length=us.length:=Paired.length r
theorem Vals.get:∀ {xs:List V}{us:List Value}{i:Nat}{x:V},Vals xs us→xs[i]?=some x→∃ u,us[i]?=some u∧RelV x u
 | _,_,_,_,.nil,e=>by simp at e
 | _,_,0,_,.cons r _,e=>by simp at e; subst e; exact ⟨_,rfl,r⟩
 | _,_,i+1,x,.cons _ t,e=>by
  obtain ⟨u,h1,h2⟩:=Vals.get (i:=i) (x:=x) t (by simpa using e)
  exact ⟨u,by simpa using h1,h2⟩
theorem Vals.set {x:V}{u:Value}(r:RelV x u):∀ {xs:List V}{us:List Value}(i:Nat),Vals xs us→Vals (xs.set i x) (us.set i u)
 | _,_,_,.nil=>.nil
 | _,_,0,.cons _ t=>.cons r t
 | _,_,i+1,.cons q t=>.cons q (Vals.set r i t)
theorem Vals.append:∀ {xs ys:List V}{us ws:List Value},Vals xs us→Vals ys ws→Vals (xs++ys) (us++ws)
 | _,_,_,_,.nil,s=>s
 | _,_,_,_,.cons r t,s=>.cons r (Vals.append t s)
theorem Vals.take:∀ {xs:List V}{us:List Value}(n:Nat),Vals xs us→Vals (xs.take n) (us.take n)
 | _,_,0,_=>.nil
 | _,_,_+1,.nil=>.nil
 | _,_,n+1,.cons r t=>.cons r (Vals.take n t)
theorem Vals.drop:∀ {xs:List V}{us:List Value}(n:Nat),Vals xs us→Vals (xs.drop n) (us.drop n)
 | _,_,0,r=>r
 | _,_,_+1,.nil=>.nil
 | _,_,n+1,.cons _ t=>Vals.drop n t
theorem Vals.none_of:∀ {xs:List V}{us:List Value}{i:Nat},Vals xs us→xs[i]?=none→us[i]?=none:=fun {xs us i} r e=>by
 have h1:=r.length
 have h2:xs.length≤i:=List.getElem?_eq_none_iff.mp e
 exact List.getElem?_eq_none_iff.mpr (by omega)
def RelO:Option V→Option Value→Prop
 | some v,some u=>RelV v u
 | none,none=>True
 | _,_=>False
def KV {κ:Type}:List (κ × V)→List (κ × Value)→Prop:=Paired fun (p:κ × V) (q:κ × Value)=>p.1=q.1∧RelV p.2 q.2
def kV:Key→V
 | .inl i=>.int i
 | .inr x=>.str x
inductive HO where
  | lst (xs:List V)
  | tup (xs:List V)
  | dK (kvs:List (Key × V)) | dT (kvs:List (List Key × V))
  | set (S:Int→Bool) (n:Nat)
  | ins (C dx:Addr) (fs:List (Str × V))
  | own (x:Addr)
  | xd (fs:List (Str × V))
  | met (f x:Addr)
  | rng (lo hi:Int)
  | frz (o:Obj) (u:HO)
  | tbl (ps:Array Value)
  | ext (φ:Heap→Prop)
abbrev Hp:=Addr→Option HO
def upd (H:Hp)(a:Addr)(o:HO):Hp:=fun b=>if b=a then some o else H b
theorem upd_same {H:Hp}{a:Addr}{o:HO}:upd H a o a=some o:=by unfold upd; rw [if_pos rfl]
theorem upd_ne {H:Hp}{a b:Addr}{o:HO}(h:b≠a):upd H a o b=H b:=by unfold upd; rw [if_neg h]
theorem ne_of {H:Hp}{a b:Addr}{o u:HO}(h:H a=some o)(h':H b=some u)(d:o≠u):a≠b:=by
 intro e; subst e; rw [h] at h'; exact d (Option.some.inj h')
theorem ne_of_none {H:Hp}{a b:Addr}{o:HO}(h:H a=some o)(h':H b=none):a≠b:=by
 intro e; subst e; rw [h] at h'; cases h'
section
variable (P:Program) (w:World)
def ObjOk (H:Hp)(h:Heap)(a:Addr):HO→Prop
 | .lst xs=>xs.length≤sizeLine∧∃ (its:List Value) (n:Nat),Vals xs its∧h.get? a=some { cls:=.type "list",data:=.seq its.toArray n }
 | .tup xs=>xs.length≤sizeLine∧∃ its:List Value,Vals xs its∧IsTup h a its.toArray
 | .dK kvs=>kvs.length≤sizeLine∧(a == sysModules)=false∧∃ vs,KV kvs vs∧h.DictOf (mixKind P w) a vs
 | .dT kvs=>kvs.length≤sizeLine∧(a == sysModules)=false∧∃ xs:List (List Key × Addr × Value),
   Paired (fun (p:List Key × V) (q:List Key × Addr × Value)=>p.1=q.1∧H q.2.1=some (.tup (p.1.map kV))∧RelV p.2 q.2.2) kvs xs ∧
   ∃ o es ep,h.get? a=some o∧o.ExactDict∧o.data=.dict es ep∧es.toList=xs.map (entryOfKey (tupleKind (mixKind P w)))∧(xs.map (·.1)).Nodup
 | .set S n=>h.SetOf (intKind P w) a S n
 | .ins C dx fs=>H dx=some (.own a)∧fs.length≤1000∧dx≠a∧h.get? a=some (instObj C dx) ∧
   ∃ mA,h.Ns1 dx mA∧(∀ f,RelO (fs.lookup f) (mA f))∧PySem.Within mA (fs.map (·.1))
 | .own _=>∃ o,h.get? a=some o
 | .xd fs=>∃ mA,h.Ns1 a mA∧∀ f,RelO (fs.lookup f) (mA f)
 | .rng lo hi=>∃ t u v,h.get? a=some { cls:=.type "range",data:=.fields #[.int lo t,.int hi u,.int 1 v] }
 | .frz o u=>h.get? a=some o∧ObjOk H h a u
 | .tbl ps=>h.get? a=some { cls:=.none,data:=.fields ps }
 | .met f x=>h.get? a=some (methodObj (.ref f) (.ref x))
 | .ext φ=>φ h∧(∃ o,h.get? a=some o)∧∀ h1 h2:Heap,φ h1→(∀ o,h1.get? a=some o→h2.get? a=some o)→φ h2
def HOk (H:Hp)(h:Heap):Prop:=∀ a o,H a=some o→ObjOk P w H h a o
end
section
variable {P:Program}{w:World}{H H':Hp}{h h':Heap}{a:Addr}{o:HO}
theorem ObjOk.lt (x:ObjOk P w H h a o):a < h.objs.size:=by
 cases o with
 | lst xs=>obtain ⟨_,_,_,_,e⟩:=x; exact Heap.lt_size e
 | tup xs=>obtain ⟨_,_,_,p⟩:=x; exact p.lt
 | dK kvs=>obtain ⟨_,_,_,_,o,_,_,e,_⟩:=x; exact Heap.lt_size e
 | dT kvs=>obtain ⟨_,_,_,_,o,_,_,e,_⟩:=x; exact Heap.lt_size e
 | set S n=>obtain ⟨o,_,_,_,e,_⟩:=x; exact Heap.lt_size e
 | ins C dx fs=>obtain ⟨_,_,_,e,_⟩:=x; exact Heap.lt_size e
 | own y=>obtain ⟨_,e⟩:=x; exact Heap.lt_size e
 | xd fs=>obtain ⟨_,⟨_,_,_,e,_⟩,_⟩:=x; exact Heap.lt_size e
 | rng lo hi=>obtain ⟨_,_,_,e⟩:=x; exact Heap.lt_size e
 | frz ob u=>obtain ⟨e,_⟩:=x; exact Heap.lt_size e
 | tbl ps=>exact Heap.lt_size (show h.get? a=some _ from x)
 | met f y=>exact Heap.lt_size (show h.get? a=some _ from x)
 | ext φ=>obtain ⟨_,⟨_,e⟩,_⟩:=x; exact Heap.lt_size e
theorem Paired.mapP {α β:Type}{F G:α→β→Prop}:∀ {l₁:List α}{l₂:List β},Paired F l₁ l₂→(∀ a b,F a b→G a b)→Paired G l₁ l₂
 | _,_,.nil,_=>.nil
 | _,_,.cons r t,f=>.cons (f _ _ r) (Paired.mapP t f)
theorem ObjOk.stay (x:ObjOk P w H h a o)(k:∀ b u,(b=a∨H b=some (.own a))→h.get? b=some u→h'.get? b=some u)(ho:∀ b,H b=some (.own a)→H' b=some (.own a))(ht:∀ b xs,H b=some (.tup xs)→H' b=some (.tup xs)):ObjOk P w H' h' a o:=by
 induction o with
 | lst xs=>obtain ⟨z,its,n,r,e⟩:=x; exact ⟨z,its,n,r,k _ _ (.inl rfl) e⟩
 | tup xs=>obtain ⟨z,its,r,ob,e,c⟩:=x; exact ⟨z,its,r,ob,k _ _ (.inl rfl) e,c⟩
 | dK kvs=>obtain ⟨z,y,vs,r,ob,es,ep,e,c⟩:=x; exact ⟨z,y,vs,r,ob,es,ep,k _ _ (.inl rfl) e,c⟩
 | dT kvs =>
  obtain ⟨z,y,xs,r,ob,es,ep,e,c⟩:=x
  exact ⟨z,y,xs,Paired.mapP r fun p q z=>⟨z.1,ht _ _ z.2.1,z.2.2⟩,ob,es,ep,k _ _ (.inl rfl) e,c⟩
 | set S n=>obtain ⟨ob,es,ep,t,e,c⟩:=x; exact ⟨ob,es,ep,t,k _ _ (.inl rfl) e,c⟩
 | ins C dx fs =>
  obtain ⟨d,z,ne,e,mA,⟨od,es,ep,e2,c⟩,r⟩:=x
  exact ⟨ho _ d,z,ne,k _ _ (.inl rfl) e,mA,⟨od,es,ep,k _ _ (.inr d) e2,c⟩,r⟩
 | own y=>obtain ⟨ob,e⟩:=x; exact ⟨ob,k _ _ (.inl rfl) e⟩
 | xd fs=>obtain ⟨mA,⟨od,es,ep,e,c⟩,r⟩:=x; exact ⟨mA,⟨od,es,ep,k _ _ (.inl rfl) e,c⟩,r⟩
 | rng lo hi=>obtain ⟨t,u,v,e⟩:=x; exact ⟨t,u,v,k _ _ (.inl rfl) e⟩
 | frz ob u ih=>obtain ⟨e,q⟩:=x; exact ⟨k _ _ (.inl rfl) e,ih q⟩
 | tbl ps =>
  have e:h.get? a=some { cls:=.none,data:=.fields ps }:=x
  show h'.get? a=some { cls:=.none,data:=.fields ps }
  exact k a _ (.inl rfl) e
 | met f y =>
  have e:h.get? a=some (methodObj (.ref f) (.ref y)):=x
  show h'.get? a=some (methodObj (.ref f) (.ref y))
  exact k a _ (.inl rfl) e
 | ext φ=>obtain ⟨p,⟨o,e⟩,st⟩:=x; exact ⟨st _ _ p fun o q=>k _ _ (.inl rfl) q,⟨o,k _ _ (.inl rfl) e⟩,st⟩
theorem HOk.lt (x:HOk P w H h)(e:H a=some o):a < h.objs.size:=(x a o e).lt
theorem HOk.fresh (x:HOk P w H h)(e:h.objs.size≤a):H a=none:=by
 cases q:H a with
 | none=>rfl
 | some u=>exact absurd (Nat.lt_of_lt_of_le (x.lt q) e) (Nat.lt_irrefl _)
theorem HOk.kept (x:HOk P w H h)(k:∀ b u,h.get? b=some u→h'.get? b=some u):HOk P w H h':=fun a o e =>
 (x a o e).stay (fun b u _ q=>k b u q) (fun _ q=>q) fun _ _ q=>q
theorem HOk.laid (x:HOk P w H h)(k:∀ b u,h.get? b=some u→h'.get? b=some u)(hp:h.objs.size≤a)(new:ObjOk P w (upd H a o) h' a o):HOk P w (upd H a o) h':=fun b u e=>by
 have hn:=x.fresh hp
 by_cases hb:b=a
 ·subst hb; rw [upd_same] at e; cases e; exact new
 ·rw [upd_ne hb] at e
  exact (x b u e).stay (fun c v _ q=>k c v q) (fun c q=>by rw [upd_ne (ne_of_none q hn)]; exact q) fun c xs q=>by rw [upd_ne (ne_of_none q hn)]; exact q
end
def Rd (H:Hp)(a:Addr)(u:HO):Prop:=H a=some u∨∃ o,H a=some (.frz o u)
theorem Rd.of {H:Hp}{a:Addr}{u:HO}(h:H a=some u):Rd H a u:=.inl h
theorem Rd.ok {P:Program}{w:World}{H:Hp}{h:Heap}{a:Addr}{u:HO}(r:Rd H a u)(x:HOk P w H h):ObjOk P w H h a u:=by
 rcases r with r | ⟨o,r⟩
 ·exact x a u r
 ·obtain ⟨_,q⟩:=x a _ r
  exact q
def Mut:Option HO→Prop
 | some (.lst _)=>True
 | some (.dK _)=>True
 | some (.dT _)=>True
 | some (.set _ _)=>True
 | some (.ins _ _ _)=>True
 | some (.ext _)=>True
 | _=>False
section
variable {P:Program}{w:World}{H:Hp}{h h':Heap}{x e:Addr}{o':HO}
theorem HOk.write (ok:HOk P w H h)(mu:Mut (H x))(he:e=x∨H e=some (.own x))(k:∀ b u,b≠e→h.get? b=some u→h'.get? b=some u)(heo:∃ u,h'.get? e=some u)(new:ObjOk P w (upd H x o') h' x o'):HOk P w (upd H x o') h':=fun b u q=>by
 have nown:∀ c y,H c=some (.own y)→c≠x:=fun c y r z=>by subst z; rw [r] at mu; exact mu
 have ntup:∀ c xs,H c=some (.tup xs)→c≠x:=fun c xs r z=>by subst z; rw [r] at mu; exact mu
 by_cases hb:b=x
 ·subst hb; rw [upd_same] at q; cases q; exact new
 ·rw [upd_ne hb] at q
  by_cases hbe:b=e
  ·have q':H b=some (.own x):=by
    rcases he with z | z
    ·exact absurd (hbe.trans z) hb
    ·rw [hbe]; exact z
   rw [q] at q'; cases q'
   obtain ⟨v,hv⟩:=heo
   exact ⟨v,by rw [hbe]; exact hv⟩
  ·refine (ok b u q).stay (fun c v hc r=>k c v ?_ r) (fun c r=>by rw [upd_ne (nown c b r)]; exact r) fun c xs r=>by rw [upd_ne (ntup c xs r)]; exact r
   rcases hc with rfl | hc
   ·exact hbe
   ·rintro rfl
    rcases he with z | z
    ·exact nown c b hc z
    ·rw [hc] at z; cases z; exact hb rfl
end
structure Un (fs ex:List Addr) (H H':Hp) (h h':Heap):Prop where
 keep:∀ b o,h.get? b=some o→H b=none→b ∉ fs→b ∉ ex→h'.get? b=some o
 slot:∀ b o,h.get? b=some o→H b=none→b∈fs→b ∉ ex→∃ sl,h'.get? b=some { o with slots:=sl }
 free:∀ b o,h.get? b=some o→H b=none→b ∉ ex→H' b=none
 there:∀ b o,h.get? b=some o→b ∉ ex→∃ o',h'.get? b=some o'
 tups:∀ b xs,H b=some (.tup xs)→H' b=some (.tup xs)
 frzs:∀ b o u,H b=some (.frz o u)→H' b=some (.frz o u)
 tbls:∀ b ps,H b=some (.tbl ps)→∃ more,H' b=some (.tbl (ps++more))
section
variable {fs fs' ex ex':List Addr}{H H1 H2:Hp}{h h1 h2 h':Heap}{a x e:Addr}{o:HO}
theorem Un.any (u:Un fs ex H H1 h h1){b:Addr}{ob:Obj}(q:h.get? b=some ob)(n:H b=none)(hx:b ∉ ex):∃ sl,h1.get? b=some { ob with slots:=sl }:=by
 by_cases hb:b∈fs
 ·exact u.slot b ob q n hb hx
 ·exact ⟨ob.slots,u.keep b ob q n hb hx⟩
theorem Un.kept (k:∀ b u,h.get? b=some u→h'.get? b=some u):Un fs ex H H h h' :=
 ⟨fun b ob q _ _ _=>k b ob q,fun b ob q _ _ _=>⟨ob.slots,k b ob q⟩,fun _ _ _ n _=>n,fun b ob q _=>⟨ob,k b ob q⟩,fun _ _ q=>q,fun _ _ _ q=>q,fun _ ps q=>⟨#[],by rw [q]; simp⟩⟩
theorem Un.refl:Un fs ex H H h h:=Un.kept fun _ _ q=>q
theorem Un.laid (k:∀ b u,h.get? b=some u→h'.get? b=some u)(hp:h.objs.size≤a)(hn:H a=none):Un fs ex H (upd H a o) h h' where
 keep:=fun b u q _ _ _=>k b u q
 slot:=fun b u q _ _ _=>⟨u.slots,k b u q⟩
 free:=fun b u q n _=>by rw [upd_ne (Nat.ne_of_lt (Nat.lt_of_lt_of_le (Heap.lt_size q) hp))]; exact n
 there:=fun b u q _=>⟨u,k b u q⟩
 tups:=fun b xs q=>by rw [upd_ne (ne_of_none q hn)]; exact q
 frzs:=fun b u xs q=>by rw [upd_ne (ne_of_none q hn)]; exact q
 tbls:=fun b ps q=>⟨#[],by rw [upd_ne (ne_of_none q hn),q]; simp⟩
theorem Un.write (mu:Mut (H x))(he:e=x∨H e=some (.own x))(k:∀ b u,b≠e→h.get? b=some u→h'.get? b=some u)(heo:∃ u,h'.get? e=some u):Un fs ex H (upd H x o) h h':=by
 have hx:∀ b,H b=none→b≠x:=fun b n z=>by subst z; rw [n] at mu; exact mu
 have hb:∀ b,H b=none→b≠e:=fun b n z=>by
  subst z
  rcases he with r | r
  ·exact hx b n r
  ·rw [n] at r; cases r
 have hm:∀ b u,H b=some u→¬ Mut (some u)→b≠x:=fun b u q nm z=>by subst z; rw [q] at mu; exact nm mu
 refine ⟨fun b u q n _ _=>k b u (hb b n) q,fun b u q n _ _=>⟨u.slots,k b u (hb b n) q⟩,fun b u q n _=>by rw [upd_ne (hx b n)]; exact n,fun b u q _=>?_,
  fun b xs q=>by rw [upd_ne (hm b _ q fun z=>z)]; exact q,fun b u xs q=>by rw [upd_ne (hm b _ q fun z=>z)]; exact q,fun b ps q=>⟨#[],by rw [upd_ne (hm b _ q fun z=>z),q]; simp⟩⟩
 by_cases hbe:b=e
 ·subst hbe; exact heo
 ·exact ⟨u,k b u hbe q⟩
theorem Un.mono (u:Un fs ex H H1 h h1)(hs:∀ b∈fs,b∈fs')(hx:∀ b∈ex,b∈ex'):Un fs' ex' H H1 h h1 :=
 ⟨fun b ob q n hb he=>u.keep b ob q n (fun z=>hb (hs b z)) fun z=>he (hx b z),fun _ _ q n _ he=>u.any q n fun z=>he (hx _ z),fun b ob q n he=>u.free b ob q n fun z=>he (hx b z),fun b ob q he=>u.there b ob q fun z=>he (hx b z),u.tups,u.frzs,u.tbls⟩
end
def trk (h:Heap)(H:Hp):List Addr:=(List.range h.objs.size).filter fun a=>(H a).isSome
def hidT (h:Heap)(H:Hp):Heap:=hideAll h (trk h H)
theorem hidT_size (h:Heap)(H:Hp):(hidT h H).objs.size=h.objs.size:=hideAll_size _ _
theorem hidT_get {h:Heap}{H:Hp}{b:Addr}{o:Obj}(e:h.get? b=some o)(n:H b=none):(hidT h H).get? b=some o :=
 hideAll_get _ e fun hm=>by
  have q:(H b).isSome=true:=(List.mem_filter.mp hm).2
  rw [n] at q; simp at q
theorem of_hidT {h:Heap}{H:Hp}{b:Addr}{o:Obj}(e:(hidT h H).get? b=some o):h.get? b=some o∧H b=none:=by
 have e':h.get? b=some o:=of_hideAll (trk h H) e
 refine ⟨e',?_⟩
 cases q:H b with
 | none=>rfl
 | some x =>
  have hm:b∈trk h H:=List.mem_filter.mpr ⟨List.mem_range.mpr (Heap.lt_size e'),by simp [q]⟩
  have z:(hidT h H).get? b=none:=hideAll_none (trk h H) hm
  rw [z] at e; cases e
def allNews (g h:Heap)(L:Addr):List (Addr × Obj):=(List.range h.objs.size).filterMap fun a=>if a=L∨(g.get? a).isSome=true then none else (h.get? a).map fun o=>(a,o)
def rest (g h:Heap)(L d:Addr):List (Addr × Obj):=(allNews g h L).filter fun p=>decide (p.1≠d)
structure Mod (K:Frag) (mg:Str→Option Value) (base:Heap):Prop where
 kin:K.In base
 glob:base.Ns mainGlobals mg
 blt:∃ mb,base.Ns builtinsNs mb∧∀ x:Str,x≠"__name__"→mb x=bootBuiltins x
 nolimit:base.NoLimit
structure Cx where
 prog:Program
 w:World
 K:Frag
 mg:Str→Option Value
 base:Heap
 A:Around
 N:List Str
 s₀:Shared
 H₀:Hp
 env:Env
 outer:List Env
 stack:List Env
 ex:List Addr
 fn:Str→Bool
 calm:Bool
 pn:List (Addr × Obj)
 xe:Value→Shared→Prop
def frs (l:List Env):List Addr:=l.filterMap (·.frame)
abbrev Cx.fs (X:Cx):List Addr:=frs X.outer
def Vis (sc:Scope)(x:Str):Prop:=sc.names.lookup x=some .local∨sc.names.lookup x=some .cell∨sc.names.lookup x=some .free
def Loc (sc:Scope)(x:Str):Prop:=sc.names.lookup x=some .local∨sc.names.lookup x=some .cell
def Look (env:Env)(h:Heap)(m:Str→Option Value)(x:Str)(u:Value):Prop :=
 (env.kindOf x=some .local∧m x=some u)∨((env.kindOf x=some .cell∨env.kindOf x=some .free)∧∃ c,env.cells.lookup x=some c∧h.IsCell c (some u))
structure Cx.Ok (X:Cx):Prop where
 mod:Mod X.K X.mg X.base
 kind:X.env.scope.kind=.function
 glob:X.env.globals=mainGlobals
 blt:X.env.builtins=builtinsNs
 above:X.s₀.heap.objs.size≤X.env.locals
 inj:∀ x y c,X.env.cells.lookup x=some c→X.env.cells.lookup y=some c→x=y
 has:∀ x,(X.env.kindOf x=some .cell∨X.env.kindOf x=some .free)→∃ c,X.env.cells.lookup x=some c
 cab:∀ x c,X.fn x=true→X.env.cells.lookup x=some c→X.s₀.heap.objs.size≤c
 hd:X.calm=true→X.A.handled=none
 frames:X.A.frames=some X.stack
 stk:X.stack=X.outer∨(X.stack=X.env::X.outer∧X.env.frame=some X.env.locals)
 exf:∀ b∈X.ex,b≠X.env.locals∧∀ x c,X.env.cells.lookup x=some c→c≠b
 bs:∀ b o,X.base.get? b=some o→X.s₀.heap.get? b=some o∧X.H₀ b=none
 bsz:X.base.objs.size≤X.s₀.heap.objs.size
 noex:∀ b o,X.base.get? b=some o→b ∉ X.ex
 exfs:∀ b∈X.ex,b ∉ X.fs
 funs:X.s₀.heap.FunFrames X.base X.outer
 frf:∀ b∈X.fs,X.H₀ b=none
structure Inv (X:Cx) (pins:List (Addr × Obj)) (σ:List (Option V)) (H:Hp) (s:Shared):Prop where
 ok:X.Ok
 os:s.os=X.s₀.os
 bare:AllBare s.gens
 base:Un X.fs X.ex X.H₀ H X.s₀.heap s.heap
 loc:∃ m,s.heap.Ns X.env.locals m∧∀ (i:Nat) (x:Str) (v:V),X.N[i]?=some x→σ[i]?=some (some v)→Vis X.env.scope x→∃ u,RelV v u∧Look X.env s.heap m x u
 cell:∀ x c,X.env.cells.lookup x=some c→∃ v,s.heap.IsCell c v
 free:H X.env.locals=none
 freeC:∀ x c,X.env.cells.lookup x=some c→H c=none
 pin:∀ p∈X.pn++pins,s.heap.get? p.1=some p.2∧H p.1=none∧p.1≠X.env.locals∧p.1 ∉ X.fs∧∀ v,p.2.data≠.cell v
 hok:HOk X.prog X.w H s.heap
 len:σ.length=X.N.length
section
variable {X:Cx}{pins:List (Addr × Obj)}{σ:List (Option V)}{H H':Hp}{s:Shared}{h':Heap}
theorem Cx.Ok.nofr (ok:X.Ok){b:Addr}{o:Obj}(e:X.base.get? b=some o):b ∉ X.fs:=fun hb=>by
 have:=(ok.funs.mem hb).1
 rw [e] at this; cases this
theorem Inv.bs (I:Inv X pins σ H s):∀ b o,X.base.get? b=some o→s.heap.get? b=some o∧H b=none:=fun b o e =>
 ⟨I.base.keep b o (I.ok.bs b o e).1 (I.ok.bs b o e).2 (I.ok.nofr e) (I.ok.noex b o e),I.base.free b o (I.ok.bs b o e).1 (I.ok.bs b o e).2 (I.ok.noex b o e)⟩
theorem Inv.bk (I:Inv X pins σ H s):∀ b o,X.base.get? b=some o→s.heap.get? b=some o:=fun b o e=>(I.bs b o e).1
theorem Inv.mod (I:Inv X pins σ H s):Mod X.K X.mg X.base:=I.ok.mod
theorem Inv.kIn (I:Inv X pins σ H s):X.K.In s.heap:=I.ok.mod.kin.keeps I.bk
theorem Inv.nolimit (I:Inv X pins σ H s):s.heap.NoLimit:=I.ok.mod.nolimit.keeps I.bk
theorem Inv.lt (I:Inv X pins σ H s):X.env.locals < s.heap.objs.size:=let ⟨_,hn,_⟩:=I.loc; hn.lt
theorem Inv.sz (I:Inv X pins σ H s):X.s₀.heap.objs.size≤s.heap.objs.size:=Nat.le_trans I.ok.above (Nat.le_of_lt I.lt)
theorem Inv.nofs (I:Inv X pins σ H s){a:Addr}(h:s.heap.objs.size≤a):a ∉ X.fs:=fun hb=>by
 obtain ⟨_,o,ho,_⟩:=I.ok.funs.mem hb
 exact absurd (Nat.lt_of_lt_of_le (Heap.lt_size ho) (Nat.le_trans I.sz h)) (Nat.lt_irrefl _)
theorem Inv.cne (I:Inv X pins σ H s):∀ x c,X.env.cells.lookup x=some c→c≠X.env.locals:=fun x c e z=>by
 obtain ⟨v,o,ho,hd⟩:=I.cell x c e
 obtain ⟨m,⟨o',es,ep,ho',hd',_⟩,_⟩:=I.loc
 rw [z,ho'] at ho; cases ho; rw [hd'] at hd; cases hd
theorem Inv.funs (I:Inv X pins σ H s):s.heap.FunFrames X.base X.outer:=by
 have all:∀ (l:List Env),(∀ b∈frs l,b∈X.fs)→X.s₀.heap.FunFrames X.base l→s.heap.FunFrames X.base l:=by
  intro l
  induction l with
  | nil=>intro _ _; trivial
  | cons env r ih =>
   intro hs hl
   obtain ⟨hk,⟨L,o,hf,hn,ho,hd⟩,hr⟩:=hl
   have hL:L∈X.fs:=hs L (by unfold frs; rw [List.filterMap_cons,hf]; exact List.mem_cons_self)
   obtain ⟨sl,e⟩:=I.base.slot L o ho (I.ok.frf L hL) hL fun z=>I.ok.exfs L z hL
   exact ⟨hk,⟨L,_,hf,hn,e,hd⟩,ih (fun b hb=>hs b (by unfold frs; rw [List.filterMap_cons,hf]; exact List.mem_cons_of_mem _ hb)) hr⟩
 exact all X.outer (fun _ hb=>hb) I.ok.funs
theorem Inv.stack (I:Inv X pins σ H s):s.heap.FunFrames X.base X.stack:=by
 rcases I.ok.stk with e | ⟨e,hf⟩
 ·rw [e]; exact I.funs
 ·rw [e]
  obtain ⟨m,hn,_⟩:=I.loc
  refine .cons (by rw [I.ok.kind]; decide) hf hn ?_ I.funs
  exact Heap.get?_none_of_le (Nat.le_trans I.ok.bsz I.ok.above)
theorem Inv.stkSub (I:Inv X pins σ H s):∀ b∈frs X.stack,b∈X.env.locals::X.fs:=fun b hb=>by
 rcases I.ok.stk with e | ⟨e,hf⟩
 ·rw [e] at hb; exact List.mem_cons_of_mem _ hb
 ·rw [e] at hb
  unfold frs at hb
  rw [List.filterMap_cons,hf] at hb
  exact hb
theorem Inv.stkFree (I:Inv X pins σ H s):∀ b∈frs X.stack,H b=none:=fun b hb=>by
 rcases List.mem_cons.mp (I.stkSub b hb) with e | hb
 ·rw [e]; exact I.free
 ·obtain ⟨_,o,ho,_⟩:=I.ok.funs.mem hb
  exact I.base.free b o ho (I.ok.frf b hb) fun z=>I.ok.exfs b z hb
theorem Inv.step {g':Array GenState}{t':Nat}{d':Drawn}{ch:List Addr}(I:Inv X pins σ H s)(hch:∀ b∈ch,(b∈X.ex∨X.s₀.heap.objs.size≤b)∧b≠X.env.locals∧(∀ x c,X.env.cells.lookup x=some c→c≠b)∧∀ p∈X.pn++pins,p.1≠b)(keep:∀ b o,b≠X.env.locals→b ∉ X.fs→b ∉ ch→s.heap.get? b=some o→H b=none→h'.get? b=some o)(slot:∀ b o,b≠X.env.locals→b∈X.fs→b ∉ ch→s.heap.get? b=some o→H b=none→∃ sl,h'.get? b=some { o with slots:=sl })(free:∀ b o,b ∉ ch→s.heap.get? b=some o→H b=none→H' b=none)(there:∀ b o,b ∉ ch→s.heap.get? b=some o→∃ o',h'.get? b=some o')(tups:∀ b xs,H b=some (.tup xs)→H' b=some (.tup xs))(frzs:∀ b o u,H b=some (.frz o u)→H' b=some (.frz o u))(tbls:∀ b ps,H b=some (.tbl ps)→∃ more,H' b=some (.tbl (ps++more)))(ns:∀ m,s.heap.Ns X.env.locals m→h'.Ns X.env.locals m)(hok:HOk X.prog X.w H' h')(hg:AllBare g') :
  Inv X pins σ H' { s with heap:=h',gens:=g',drawn:=d',toks:=t' }:=by
 have neL:∀ b o,X.s₀.heap.get? b=some o→b≠X.env.locals:=fun b o e=>Nat.ne_of_lt (Nat.lt_of_lt_of_le (Heap.lt_size e) I.ok.above)
 have neC:∀ b o,X.s₀.heap.get? b=some o→b ∉ X.ex→b ∉ ch:=fun b o e hx hb=>by
  rcases (hch b hb).1 with z | z
  ·exact hx z
  ·exact absurd (Nat.lt_of_lt_of_le (Heap.lt_size e) z) (Nat.lt_irrefl _)
 have cellK:∀ x c,X.env.cells.lookup x=some c→∀ v,s.heap.IsCell c v→h'.IsCell c v:=fun x c e v ⟨o,ho,hd⟩=>by
  have nch:c ∉ ch:=fun z=>(hch c z).2.2.1 x c e rfl
  by_cases hc:c∈X.fs
  ·obtain ⟨sl,q⟩:=slot c o (I.cne x c e) hc nch ho (I.freeC x c e)
   exact ⟨_,q,hd⟩
  ·exact ⟨o,keep c o (I.cne x c e) hc nch ho (I.freeC x c e),hd⟩
 refine ⟨I.ok,I.os,hg,⟨fun b o e n hb hx=>?_,fun b o e n hb hx=>?_,fun b o e n hx=>?_,fun b o e hx=>?_,fun b xs e=>tups b xs (I.base.tups b xs e),fun b o xs e=>frzs b o xs (I.base.frzs b o xs e),fun b ps e=>?_⟩,?_,fun x c e=>?_,?_,fun x c e=>?_,fun p hp=>?_,hok,I.len⟩
 ·exact keep b o (neL b o e) hb (neC b o e hx) (I.base.keep b o e n hb hx) (I.base.free b o e n hx)
 ·obtain ⟨sl,e1⟩:=I.base.slot b o e n hb hx
  obtain ⟨sl',e2⟩:=slot b _ (neL b o e) hb (neC b o e hx) e1 (I.base.free b o e n hx)
  exact ⟨sl',e2⟩
 ·obtain ⟨o',e1⟩:=I.base.there b o e hx
  exact free b o' (neC b o e hx) e1 (I.base.free b o e n hx)
 ·obtain ⟨o',e1⟩:=I.base.there b o e hx
  exact there b o' (neC b o e hx) e1
 ·obtain ⟨m1,e1⟩:=I.base.tbls b ps e
  obtain ⟨m2,e2⟩:=tbls b _ e1
  exact ⟨m1++m2,by rw [e2,Array.append_assoc]⟩
 ·obtain ⟨m,hn,hl⟩:=I.loc
  refine ⟨m,ns m hn,fun i x v e1 e2 e3=>?_⟩
  obtain ⟨u,r,l⟩:=hl i x v e1 e2 e3
  refine ⟨u,r,?_⟩
  rcases l with l | ⟨k,c,e,z⟩
  ·exact .inl l
  ·exact .inr ⟨k,c,e,cellK x c e _ z⟩
 ·obtain ⟨v,z⟩:=I.cell x c e
  exact ⟨v,cellK x c e v z⟩
 ·obtain ⟨m,⟨o,_,_,ho,_⟩,_⟩:=I.loc
  exact free _ o (fun z=>(hch _ z).2.1 rfl) ho I.free
 ·obtain ⟨v,o,ho,hd⟩:=I.cell x c e
  exact free c o (fun z=>(hch c z).2.2.1 x c e rfl) ho (I.freeC x c e)
 ·obtain ⟨e,n,ne,nf,d⟩:=I.pin p hp
  have nch:p.1 ∉ ch:=fun z=>(hch p.1 z).2.2.2 p hp rfl
  exact ⟨keep p.1 p.2 ne nf nch e n,free p.1 p.2 nch e n,ne,nf,d⟩
theorem Inv.un {t':Nat}(I:Inv X pins σ H s)(u:Un X.fs [] H H' s.heap h')(hok:HOk X.prog X.w H' h'):Inv X pins σ H' { s with heap:=h',toks:=t' }:=by
 obtain ⟨m,⟨o,es,ep,ho,r⟩,_⟩:=id I.loc
 obtain ⟨sl,hL⟩:=u.any ho I.free (by simp)
 exact I.step (g':=s.gens) (d':=s.drawn) (ch:=[]) (fun _ z=>nomatch z) (fun b o _ hb _ e n=>u.keep b o e n hb (by simp)) (fun b o _ hb _ e n=>u.slot b o e n hb (by simp)) (fun b o _ e n=>u.free b o e n (by simp)) (fun b o _ e=>u.there b o e (by simp)) u.tups u.frzs u.tbls (fun m' hm=>by
  obtain ⟨o',es',ep',ho',r'⟩:=hm
  rw [ho] at ho'; cases ho'
  exact ⟨_,es',ep',hL,r'⟩) hok I.bare
theorem Inv.call {g':Array GenState}{t':Nat}{d':Drawn}{ch:List Addr}(I:Inv X pins σ H s)(u:Un (frs X.stack) ch H H' s.heap h')(hok:HOk X.prog X.w H' h')(hg:AllBare g')(hch:∀ b∈ch,(b∈X.ex∨X.s₀.heap.objs.size≤b)∧b≠X.env.locals∧(∀ x c,X.env.cells.lookup x=some c→c≠b)∧∀ p∈X.pn++pins,p.1≠b) :
  Inv X pins σ H' { s with heap:=h',gens:=g',drawn:=d',toks:=t' }:=by
 obtain ⟨m,⟨o,es,ep,ho,r⟩,_⟩:=id I.loc
 obtain ⟨sl,hL⟩:=u.any ho I.free fun z=>(hch _ z).2.1 rfl
 exact I.step (ch:=ch) hch (fun b o hL hb hc e n=>u.keep b o e n (fun z=>(List.mem_cons.mp (I.stkSub b z)).elim hL hb) hc) (fun b o _ _ hc e n=>u.any e n hc) (fun b o hc e n=>u.free b o e n hc) (fun b o hc e=>u.there b o e hc) u.tups u.frzs u.tbls (fun m' hm=>by
  obtain ⟨o',es',ep',ho',r'⟩:=hm
  rw [ho] at ho'; cases ho'
  exact ⟨_,es',ep',hL,r'⟩) hok hg
theorem Inv.turned {t':Nat}{it:Addr}(I:Inv X pins σ H s)(k:∀ b o,b≠it→s.heap.get? b=some o→h'.get? b=some o)(hn:H it=none)(hL:it≠X.env.locals)(h1:it∈X.ex∨X.s₀.heap.objs.size≤it)(h2:∀ x c,X.env.cells.lookup x=some c→c≠it)(h3:∀ p∈X.pn++pins,p.1≠it):Inv X pins σ H { s with heap:=h',toks:=t' }:=by
 have nit:∀ b u,H b=some u→b≠it:=fun b u e z=>by rw [z,hn] at e; cases e
 refine I.step (g':=s.gens) (d':=s.drawn) (ch:=[it]) (fun b hb=>?_) (fun b o _ _ hc e _=>k b o (fun z=>hc (by simp [z])) e) (fun b o _ _ hc e _=>⟨o.slots,k b o (fun z=>hc (by simp [z])) e⟩) (fun _ _ _ _ n=>n)
  (fun b o hc e=>⟨o,k b o (fun z=>hc (by simp [z])) e⟩) (fun _ _ e=>e) (fun _ _ _ e=>e) (fun b ps e=>⟨#[],by rw [e]; simp⟩) (fun m hm=>?_) (fun b u e=>?_) I.bare
 ·have e:b=it:=by simpa using hb
  subst e
  exact ⟨h1,hL,h2,h3⟩
 ·obtain ⟨o,es,ep,ho,r⟩:=hm
  exact ⟨o,es,ep,k _ o (Ne.symm hL) ho,r⟩
 ·refine (I.hok b u e).stay (fun c v hc q=>k c v ?_ q) (fun _ q=>q) fun _ _ q=>q
  rcases hc with z | z
  ·rw [z]; exact nit b u e
  ·exact nit c _ z
theorem Inv.tok (I:Inv X pins σ H s)(t:Nat):Inv X pins σ H { s with toks:=t }:=I.un (h':=s.heap) (t':=t) Un.refl I.hok
theorem Inv.kept {t':Nat}(I:Inv X pins σ H s)(k:∀ b u,s.heap.get? b=some u→h'.get? b=some u):Inv X pins σ H { s with heap:=h',toks:=t' }:=I.un (Un.kept k) (I.hok.kept k)
theorem Inv.laid {a:Addr}{o:HO}{t':Nat}(I:Inv X pins σ H s)(k:∀ b u,s.heap.get? b=some u→h'.get? b=some u)(hp:s.heap.objs.size≤a)(new:ObjOk X.prog X.w (upd H a o) h' a o) :
  Inv X pins σ (upd H a o) { s with heap:=h',toks:=t' }:=I.un (Un.laid k hp (I.hok.fresh hp)) (I.hok.laid k hp new)
theorem Inv.write {x e:Addr}{o:HO}{t':Nat}(I:Inv X pins σ H s)(mu:Mut (H x))(he:e=x∨H e=some (.own x))(k:∀ b u,b≠e→s.heap.get? b=some u→h'.get? b=some u)(heo:∃ u,h'.get? e=some u)(new:ObjOk X.prog X.w (upd H x o) h' x o):Inv X pins σ (upd H x o) { s with heap:=h',toks:=t' }:=I.un (Un.write mu he k heo) (I.hok.write mu he k heo new)
theorem Inv.pins_of {pins':List (Addr × Obj)}(I:Inv X pins σ H s)(h:∀ p∈pins',s.heap.get? p.1=some p.2∧H p.1=none∧p.1≠X.env.locals∧p.1 ∉ X.fs∧∀ v,p.2.data≠.cell v):Inv X pins' σ H s :=
 ⟨I.ok,I.os,I.bare,I.base,I.loc,I.cell,I.free,I.freeC,fun p hp=>(List.mem_append.mp hp).elim (fun z=>I.pin p (List.mem_append_left _ z)) (h p),I.hok,I.len⟩
theorem nodup_ix {N:List Str}(hN:N.Nodup){i j:Nat}{x:Str}(a:N[i]?=some x)(b:N[j]?=some x):i=j:=by
 obtain ⟨h1,e1⟩:=List.getElem?_eq_some_iff.mp a
 obtain ⟨h2,e2⟩:=List.getElem?_eq_some_iff.mp b
 exact (List.getElem_inj hN).mp (e1.trans e2.symm)
theorem store_ok2 {M:Model}{A:Around}{E:Value→Shared→Prop}{i:Nat}{x:Str}{v:V}{u:Value}{Q:Unit→Shared→Prop}(I:Inv X pins σ H s)(hN:X.N.Nodup)(hi:X.N[i]?=some x)(hx:Loc X.env.scope x)(r:RelV v u)(h:∀ s',Inv X pins (σ.set i (some v)) H s'→(∃ a,Heap.SameBut a s.heap s'.heap∧(a=X.env.locals∨X.env.cells.lookup x=some a))→Q () s')(hf:X.fn x=true∨X.env.scope.names.lookup x=some .local:=by first | exact .inl rfl | exact .inr rfl | assumption):wpAny M A (storeName X.env x u) Q E s:=by
 obtain ⟨m,hn,hl⟩:=id I.loc
 have hcls:(X.env.scope.kind == .class || (X.env.scope.kind == .module && X.env.locals != X.env.globals))=false:=by rw [I.ok.kind]; rfl
 have hiσ:i < σ.length:=by rw [I.len]; exact (List.getElem?_eq_some_iff.mp hi).1
 have cne:=I.cne
 have tracked:∀ {a:Addr}{h':Heap},(∃ o,s.heap.get? a=some o∧H a=none)→Heap.SameBut a s.heap h'→HOk X.prog X.w H h':=fun {a h'} ha hs b ob e=>by
  obtain ⟨_,_,hfree⟩:=ha
  refine (I.hok b ob e).stay (fun c w' hc q=>(hs.2 c ?_).trans q) (fun _ q=>q) fun _ _ q=>q
  rintro rfl
  rcases hc with rfl | hc
  ·rw [hfree] at e; cases e
  ·rw [hfree] at hc; cases hc
 rcases hx with hk | hk
 ·refine wpAny_storeName_local hk hn (fun h' hn' hs=>?_) hcls
  obtain ⟨oL,_,_,hoL,_⟩:=id hn
  refine h _ ⟨I.ok,I.os,I.bare,⟨fun b o e n hb hx=>?_,fun b o e n hb hx=>?_,I.base.free,fun b o e hx=>?_,I.base.tups,I.base.frzs,I.base.tbls⟩,⟨_,hn',fun j y v' e1 e2 e3=>?_⟩,fun y c e=>?_,I.free,I.freeC,fun p hp=>?_,tracked ⟨oL,hoL,I.free⟩ hs,by simpa using I.len⟩ ⟨_,hs,.inl rfl⟩
  ·exact (hs.2 b (Nat.ne_of_lt (Nat.lt_of_lt_of_le (Heap.lt_size e) I.ok.above))).trans (I.base.keep b o e n hb hx)
  ·obtain ⟨sl,e1⟩:=I.base.slot b o e n hb hx
   exact ⟨sl,(hs.2 b (Nat.ne_of_lt (Nat.lt_of_lt_of_le (Heap.lt_size e) I.ok.above))).trans e1⟩
  ·obtain ⟨o',e1⟩:=I.base.there b o e hx
   exact ⟨o',(hs.2 b (Nat.ne_of_lt (Nat.lt_of_lt_of_le (Heap.lt_size e) I.ok.above))).trans e1⟩
  ·by_cases hj:j=i
   ·subst hj
    rw [hi] at e1; cases e1
    rw [List.getElem?_set_self hiσ] at e2
    cases e2
    exact ⟨u,r,.inl ⟨hk,by simp⟩⟩
   ·rw [List.getElem?_set_ne (Ne.symm hj)] at e2
    obtain ⟨u',r',q⟩:=hl j y v' e1 e2 e3
    refine ⟨u',r',?_⟩
    rcases q with ⟨k,e⟩ | ⟨k,c,e,z⟩
    ·refine .inl ⟨k,?_⟩
     have:y≠x:=fun e=>hj (nodup_ix hN e1 (e ▸ hi))
     simp [this,e]
    ·exact .inr ⟨k,c,e,z.sameBut hs (cne y c e)⟩
  ·obtain ⟨w',z⟩:=I.cell y c e
   exact ⟨w',z.sameBut hs (cne y c e)⟩
  ·obtain ⟨e,n,ne,nf,d⟩:=I.pin p hp
   exact ⟨(hs.2 p.1 ne).trans e,n,ne,nf,d⟩
 ·have hfn:X.fn x=true:=by
   rcases hf with z | z
   ·exact z
   ·rw [z] at hk; cases hk
  obtain ⟨c,hc⟩:=I.ok.has x (.inl hk)
  obtain ⟨w',z⟩:=I.cell x c hc
  refine wpAny_storeName_cell I.ok.kind hk hc z (fun h' hc' hs=>?_)
  obtain ⟨oc,hoc,hocd⟩:=id z
  refine h { s with heap:=h' } ⟨I.ok,I.os,I.bare,⟨fun b o e n hb hx=>?_,fun b o e n hb hx=>?_,I.base.free,fun b o e hx=>?_,I.base.tups,I.base.frzs,I.base.tbls⟩,⟨m,hn.sameBut hs (Ne.symm (cne x c hc)),fun j y v' e1 e2 e3=>?_⟩,fun y c' e=>?_,I.free,I.freeC,fun p hp=>?_,tracked ⟨oc,hoc,I.freeC x c hc⟩ hs,by simpa using I.len⟩ ⟨c,hs,.inr hc⟩
  ·exact (hs.2 b (Nat.ne_of_lt (Nat.lt_of_lt_of_le (Heap.lt_size e) (I.ok.cab x c hfn hc)))).trans (I.base.keep b o e n hb hx)
  ·obtain ⟨sl,e1⟩:=I.base.slot b o e n hb hx
   exact ⟨sl,(hs.2 b (Nat.ne_of_lt (Nat.lt_of_lt_of_le (Heap.lt_size e) (I.ok.cab x c hfn hc)))).trans e1⟩
  ·obtain ⟨o',e1⟩:=I.base.there b o e hx
   exact ⟨o',(hs.2 b (Nat.ne_of_lt (Nat.lt_of_lt_of_le (Heap.lt_size e) (I.ok.cab x c hfn hc)))).trans e1⟩
  ·by_cases hj:j=i
   ·subst hj
    rw [hi] at e1; cases e1
    rw [List.getElem?_set_self hiσ] at e2
    cases e2
    exact ⟨u,r,.inr ⟨.inl hk,c,hc,hc'⟩⟩
   ·rw [List.getElem?_set_ne (Ne.symm hj)] at e2
    obtain ⟨u',r',q⟩:=hl j y v' e1 e2 e3
    refine ⟨u',r',?_⟩
    rcases q with q | ⟨k,c',e,z'⟩
    ·exact .inl q
    ·refine .inr ⟨k,c',e,z'.sameBut hs ?_⟩
     rintro rfl
     exact hj (nodup_ix hN e1 (I.ok.inj _ _ _ e hc ▸ hi))
  ·by_cases hcc:c'=c
   ·subst hcc; exact ⟨_,hc'⟩
   ·obtain ⟨w2,z2⟩:=I.cell y c' e
    exact ⟨w2,z2.sameBut hs hcc⟩
  ·obtain ⟨e,n,ne,nf,d⟩:=I.pin p hp
   refine ⟨(hs.2 p.1 ?_).trans e,n,ne,nf,d⟩
   intro q
   rw [q,hoc] at e
   have q':oc=p.2:=Option.some.inj e
   exact d w' (by rw [← q']; exact hocd)
theorem store_ok {M:Model}{A:Around}{E:Value→Shared→Prop}{i:Nat}{x:Str}{v:V}{u:Value}{Q:Unit→Shared→Prop}(I:Inv X pins σ H s)(hN:X.N.Nodup)(hi:X.N[i]?=some x)(hx:Loc X.env.scope x)(r:RelV v u)(h:∀ s',Inv X pins (σ.set i (some v)) H s'→Q () s')(hf:X.fn x=true∨X.env.scope.names.lookup x=some .local:=by first | exact .inl rfl | exact .inr rfl | assumption):wpAny M A (storeName X.env x u) Q E s :=
 store_ok2 I hN hi hx r (fun s' I' _=>h s' I') hf
theorem Inv.call' {s':Shared}{ch:List Addr}(I:Inv X pins σ H s)(ho:s'.os=s.os)(u:Un (frs X.stack) ch H H' s.heap s'.heap)(hok:HOk X.prog X.w H' s'.heap)(hg:AllBare s'.gens)(hch:∀ b∈ch,(b∈X.ex∨X.s₀.heap.objs.size≤b)∧b≠X.env.locals∧(∀ x c,X.env.cells.lookup x=some c→c≠b)∧∀ p∈X.pn++pins,p.1≠b):Inv X pins σ H' s':=by
 obtain ⟨h',g',d',t',o'⟩:=s'
 have e:o'=s.os:=ho
 subst e
 exact I.call (g':=g') (t':=t') (d':=d') u hok hg hch
end
abbrev XK:=Value→Option Addr→Hp→Prop
abbrev St:=List (Option V)
abbrev VK:=V→Hp→Prop
abbrev TE:=St→Hp→VK→Prop
abbrev TT:=St→Hp→(Bool→Hp→Prop)→Prop
abbrev TA:=St→Hp→(List V→Hp→Prop)→Prop
structure Ends where
 nx:St→Hp→Prop
 rt:VK
 bk:St→Hp→Prop:=fun _ _=>False
 ct:St→Hp→Prop:=fun _ _=>False
abbrev TS:=Ends→St→Hp→Prop
def EP (X:Cx)(pins:List (Addr × Obj))(σ:St)(Q:VK)(u:Value)(s':Shared):Prop:=∃ v H',Inv X pins σ H' s'∧RelV v u∧Q v H'
def TP (X:Cx)(pins:List (Addr × Obj))(σ:St)(Q:Bool→Hp→Prop)(b:Bool)(s':Shared):Prop:=∃ H',Inv X pins σ H' s'∧Q b H'
def AP (X:Cx)(pins:List (Addr × Obj))(σ:St)(Q:List V→Hp→Prop)(us:List Value)(s':Shared):Prop:=∃ vs H',Inv X pins σ H' s'∧Vals vs us∧Q vs H'
def SP (X:Cx)(pins:List (Addr × Obj))(D:Ends)(f:Flow)(s':Shared):Prop :=
 match f with
 | .next=>∃ σ' H',Inv X pins σ' H' s'∧D.nx σ' H'
 | .brk=>∃ σ' H',Inv X pins σ' H' s'∧D.bk σ' H'
 | .cont=>∃ σ' H',Inv X pins σ' H' s'∧D.ct σ' H'
 | .ret u=>∃ v σ' H',Inv X pins σ' H' s'∧RelV v u∧D.rt v H'
def PE (X:Cx)(e:Expr)(t:TE):Prop :=
 ∀ (pins:List (Addr × Obj)) (s:Shared) (σ:St) (H:Hp) (Q:VK),Inv X pins σ H s→t σ H Q→wpAny (model X.prog X.w) X.A (eval e X.env) (EP X pins σ Q) X.xe s
def PT (X:Cx)(e:Expr)(t:TT):Prop :=
 ∀ (pins:List (Addr × Obj)) (s:Shared) (σ:St) (H:Hp) (Q:Bool→Hp→Prop),Inv X pins σ H s→t σ H Q→wpAny (model X.prog X.w) X.A (isTrue e X.env (eval e X.env)) (TP X pins σ Q) X.xe s
def PW (X:Cx)(e:Expr)(t:TT):Prop :=
 ∀ (whole:Sem Value) (pins:List (Addr × Obj)) (s:Shared) (σ:St) (H:Hp) (Q:Bool→Hp→Prop),Inv X pins σ H s→t σ H Q→wpAny (model X.prog X.w) X.A (isTrue e X.env whole) (TP X pins σ Q) X.xe s
theorem PW.pt {X:Cx}{e:Expr}{t:TT}(h:PW X e t):PT X e t:=h _
def PA (X:Cx)(es:List Expr)(t:TA):Prop :=
 ∀ (pos:Pos) (pins:List (Addr × Obj)) (s:Shared) (σ:St) (H:Hp) (Q:List V→Hp→Prop),Inv X pins σ H s→t σ H Q→wpAny (model X.prog X.w) X.A (spliced (backTo pos (starEach es X.env))) (AP X pins σ Q) X.xe s
def PS (X:Cx)(st:Stmt)(t:TS):Prop :=
 ∀ (pins:List (Addr × Obj)) (s:Shared) (σ:St) (H:Hp) (D:Ends),Inv X pins σ H s→t D σ H→wpAny (model X.prog X.w) X.A (exec st X.env) (SP X pins D) X.xe s
def PSs (X:Cx)(st:List Stmt)(t:TS):Prop :=
 ∀ (pins:List (Addr × Obj)) (s:Shared) (σ:St) (H:Hp) (D:Ends),Inv X pins σ H s→t D σ H→wpAny (model X.prog X.w) X.A (execs st X.env) (SP X pins D) X.xe s
theorem thn {α:Type}{t:Sem α}{Q Q':α→Shared→Prop}{M:Model}{A:Around}{E:Value→Shared→Prop}{s:Shared}(h:wpAny M A t Q E s)(hQ:∀ a s,Q a s→Q' a s):wpAny M A t Q' E s:=wpAny_mono h hQ fun _ _ x=>x
section
variable {X:Cx}
def tVar (i:Nat):TE:=fun σ H Q=>∃ v,σ[i]?=some (some v)∧Q v H
def tC (v:V):TE:=fun _ H Q=>Q v H
theorem pe_var {i:Nat}{x:Str}{pos:Pos}(hN:X.N[i]?=some x)(hv:Vis X.env.scope x)(hd:(x == ("__debug__":Str))=false:=by decide)(hcd:(x == ("__classdict__":Str))=false:=by decide):PE X (.Name x pos) (tVar i):=by
 intro pins s σ H Q I h
 obtain ⟨v,e,h⟩:=h
 obtain ⟨m,hn,hl⟩:=I.loc
 obtain ⟨u,r,l⟩:=hl i x v hN e hv
 have fin:EP X pins σ Q u s:=⟨v,H,I,r,h⟩
 rcases l with ⟨hk,hm⟩ | ⟨hk,c,hc,hcell⟩
 ·exact wpAny_Name (wpAny_loadName_local I.ok.kind hk hn hm fin) hd
 ·rcases hk with hk | hk
  ·exact wpAny_Name (wpAny_loadName_cell I.ok.kind hk hc hcell fin) hd
  ·exact wpAny_Name (wpAny_loadName_free I.ok.kind hk hc hcell fin hcd) hd
theorem pe_int {i j pos}:PE X (.Constant (.int i) j pos) (tC (.int i)):=fun _ _ _ H _ I h=>wpAny_Constant_int ⟨.int i,H,I.tok _,⟨_,rfl⟩,h⟩
theorem pe_bl {b j pos}:PE X (.Constant (.bool b) j pos) (tC (.bl b)):=fun _ _ _ H _ I h=>Constant_bool ⟨.bl b,H,I,rfl,h⟩
theorem pe_non {j pos}:PE X (.Constant .none j pos) (tC .non):=fun _ _ _ H _ I h=>Constant_none ⟨.non,H,I,rfl,h⟩
theorem pe_str {x j pos}:PE X (.Constant (.str x) j pos) (tC (.str x)):=fun _ _ _ H _ I h=>Calls.Constant_str ⟨.str x,H,I.tok _,⟨_,rfl⟩,h⟩
def Gl (X:Cx)(x:Str):Prop:=X.env.kindOf x=some .globalImplicit
theorem ld_glob {E:Value→Shared→Prop}{pins:List (Addr × Obj)}{s:Shared}{σ:St}{H:Hp}{x:Str}{u:Value}{pos:Pos}{Q:Value→Shared→Prop}(I:Inv X pins σ H s)(hg:Gl X x)(hm:X.mg x=some u)(h:Q u s)(hd:(x == ("__debug__":Str))=false:=by decide):wpAny (model X.prog X.w) X.A (eval (.Name x pos) X.env) Q E s :=
 Calls.Name_function_global I.ok.kind hg (Calls.loadGlobal_global (by rw [I.ok.glob]; exact I.mod.glob.keeps I.bk) hm h) hd
theorem ld_blt {E:Value→Shared→Prop}{pins:List (Addr × Obj)}{s:Shared}{σ:St}{H:Hp}{x:Str}{u:Value}{pos:Pos}{Q:Value→Shared→Prop}(I:Inv X pins σ H s)(hg:Gl X x)(hm:X.mg x=none)(hv:bootBuiltins x=some u)(h:Q u s)(hn:x≠"__name__":=by decide)(hd:(x == ("__debug__":Str))=false:=by decide):wpAny (model X.prog X.w) X.A (eval (.Name x pos) X.env) Q E s:=by
 obtain ⟨mb,h1,h2⟩:=I.mod.blt
 exact Calls.Name_function_global I.ok.kind hg (Calls.loadGlobal_builtin (by rw [I.ok.glob]; exact I.mod.glob.keeps I.bk) hm (by rw [I.ok.blt]; exact h1.keeps I.bk) ((h2 x hn).trans hv) h) hd
theorem pe_glob {x:Str}{v:V}{u:Value}{pos:Pos}(hg:Gl X x)(hm:X.mg x=some u)(r:RelV v u)(hd:(x == ("__debug__":Str))=false:=by decide):PE X (.Name x pos) (tC v) :=
 fun _ _ _ H _ I h=>ld_glob I hg hm ⟨v,H,I,r,h⟩ hd
theorem pe_bltn {x:Str}{v:V}{u:Value}{pos:Pos}(hg:Gl X x)(hm:X.mg x=none)(hv:bootBuiltins x=some u)(r:RelV v u)(hn:x≠"__name__":=by decide)(hd:(x == ("__debug__":Str))=false:=by decide):PE X (.Name x pos) (tC v) :=
 fun _ _ _ H _ I h=>ld_blt I hg hm hv ⟨v,H,I,r,h⟩ hn hd
variable {a b:Expr}{ta tb:TE}{pos:Pos}
def PC (X:Cx)(op:CmpOp)(a b:Expr)(t:TE):Prop :=
 ∀ (pins:List (Addr × Obj)) (s:Shared) (σ:St) (H:Hp) (Q:VK),Inv X pins σ H s→t σ H Q →
  wpAny (model X.prog X.w) X.A (eval a X.env) (fun v s₁=>wpAny (model X.prog X.w) X.A (eval b X.env) (fun u s₂=>wpAny (model X.prog X.w) X.A (compareOp op v u) (EP X pins σ Q) X.xe s₂) X.xe s₁) X.xe s
theorem nobehind (b:Expr){op:CmpOp}(h:op≠.In)(h2:op≠.NotIn):behindInMarks op b=false:=by
 have e1:(op == CmpOp.In)=false:=by cases op <;> first | rfl | exact absurd rfl h
 have e2:(op == CmpOp.NotIn)=false:=by cases op <;> first | rfl | exact absurd rfl h2
 cases b <;> simp [behindInMarks,e1,e2]
def tIsN (ta:TE):TE:=fun σ H Q=>ta σ H fun x H1=>Q (.bl (decide (x=.non))) H1
def tNotN (ta:TE):TE:=fun σ H Q=>ta σ H fun x H1=>Q (.bl (!decide (x=.non))) H1
theorem RelV.none_iff {x:V}{v:Value}(r:RelV x v):(v == Value.none)=decide (x=.non):=by
 cases x with
 | non=>cases r; rfl
 | bl _=>cases r; rfl
 | int _=>obtain ⟨t,rfl⟩:=r; rfl
 | str _=>obtain ⟨t,rfl⟩:=r; rfl
 | byt _=>obtain ⟨t,rfl⟩:=r; rfl
 | flt _=>obtain ⟨t,rfl⟩:=r; rfl
 | ref _=>cases r; rfl
 | ty _=>cases r; rfl
theorem pc_isN {j pos'}(ha:PE X a ta):PC X .Is a (.Constant .none j pos') (tIsN ta):=by
 intro pins s σ H Q I h
 refine thn (ha pins s σ H _ I h) fun v s1 ⟨x,H1,I1,r1,q1⟩=>?_
 exact Constant_none (is_none_gen ⟨.bl _,H1,I1,by rw [r1.none_iff]; rfl,q1⟩)
theorem pc_notN {j pos'}(ha:PE X a ta):PC X .IsNot a (.Constant .none j pos') (tNotN ta):=by
 intro pins s σ H Q I h
 refine thn (ha pins s σ H _ I h) fun v s1 ⟨x,H1,I1,r1,q1⟩=>?_
 exact Constant_none (isnot_none_gen ⟨.bl _,H1,I1,by rw [r1.none_iff]; rfl,q1⟩)
def tB (t:TE):TT:=fun σ H Q=>t σ H fun x H1=>∃ c,x=.bl c∧Q c H1
theorem pe_cmp {op:CmpOp}{t:TE}(h:PC X op a b t)(h1:behindInMarks op b=false:=by first | exact nobehind _ (by decide) (by decide) | rfl):PE X (.Compare a [op] [b] pos) t:=fun pins s σ H Q I hw=>wpAny_Compare1 (h pins s σ H Q I hw) h1
theorem pt_cmp {op:CmpOp}{t:TE}(h:PC X op a b t)(h1:behindInMarks op b=false:=by first | exact nobehind _ (by decide) (by decide) | rfl):PT X (.Compare a [op] [b] pos) (tB t):=by
 intro pins s σ H Q I hw
 refine wpAny_isTrue_Compare1 (thn (h pins s σ H _ I hw) fun v s1 h1=>thn h1 fun u s2 h2=>thn h2 fun c s3 ⟨x,H1,I1,r1,q1⟩=>?_) h1
 obtain ⟨d,rfl,q⟩:=q1
 cases r1
 exact wpAny_truthy_bool ⟨H1,I1,q⟩
theorem pt_val {e:Expr}{t:TE}(h:PE X e t)(he:∀ whole,isTrue e X.env whole=(do let v ← whole; standAt e.pos; holding [v] (truthy v)):=by intro _; rfl):PT X e (tB t):=by
 intro pins s σ H Q I hw
 refine isTrue_plain (thn (h pins s σ H _ I hw) fun v s1 ⟨x,H1,I1,r1,q1⟩=>?_) (he _)
 obtain ⟨d,rfl,q⟩:=q1
 cases r1
 exact wpAny_truthy_bool ⟨H1,I1,q⟩
variable {tA tB':TT}{rest:List Expr}
def tAnd (t u:TT):TT:=fun σ H Q=>t σ H fun c H1=>if c=true then u σ H1 Q else Q false H1
def tOr (t u:TT):TT:=fun σ H Q=>t σ H fun c H1=>if c=true then Q true H1 else u σ H1 Q
def tNot (t:TT):TT:=fun σ H Q=>t σ H fun c H1=>Q (!c) H1
theorem pw_and1 (ha:PT X a tA):PW X (.BoolOp .And [a] pos) tA:=by
 intro wh pins s σ H Q I h
 refine isTrue_and (thn (ha pins s σ H Q I h) fun c s1 e=>?_)
 cases c with
 | true=>exact isTrue_and_nil e
 | false=>exact e
theorem pw_or1 (ha:PT X a tA):PW X (.BoolOp .Or [a] pos) tA:=by
 intro wh pins s σ H Q I h
 refine isTrue_or (thn (ha pins s σ H Q I h) fun c s1 e=>?_)
 cases c with
 | false=>exact isTrue_or_nil e
 | true=>exact e
theorem pw_and (ha:PT X a tA)(hb:PW X (.BoolOp .And (b::rest) pos) tB'):PW X (.BoolOp .And (a::b::rest) pos) (tAnd tA tB'):=by
 intro wh pins s σ H Q I h
 refine isTrue_and (thn (ha pins s σ H _ I h) fun c s1 ⟨H1,I1,q1⟩=>?_)
 cases c with
 | true=>exact hb wh pins s1 σ H1 Q I1 q1
 | false=>exact ⟨H1,I1,q1⟩
theorem pw_or (ha:PT X a tA)(hb:PW X (.BoolOp .Or (b::rest) pos) tB'):PW X (.BoolOp .Or (a::b::rest) pos) (tOr tA tB'):=by
 intro wh pins s σ H Q I h
 refine isTrue_or (thn (ha pins s σ H _ I h) fun c s1 ⟨H1,I1,q1⟩=>?_)
 cases c with
 | true=>exact ⟨H1,I1,q1⟩
 | false=>exact hb wh pins s1 σ H1 Q I1 q1
theorem pt_not (ha:PT X a tA):PT X (.UnaryOp .Not a pos) (tNot tA):=by
 intro pins s σ H Q I h
 exact isTrue_not (ha pins s σ H (fun c H1=>Q (!c) H1) I h)
def tAndV (ta tb:TE):TE:=fun σ H Q=>ta σ H fun x H1=>∃ c,x=.bl c∧if c=true then tb σ H1 Q else Q (.bl false) H1
def tOrV (ta tb:TE):TE:=fun σ H Q=>ta σ H fun x H1=>∃ c,x=.bl c∧if c=true then Q (.bl true) H1 else tb σ H1 Q
def tNotV (ta:TE):TE:=fun σ H Q=>ta σ H fun x H1=>∃ c,x=.bl c∧Q (.bl (!c)) H1
theorem pe_one {op}{t:TE}(h:PE X a t):PE X (.BoolOp op [a] pos) t:=fun pins s σ H Q I hw=>BoolOp_one (h pins s σ H Q I hw)
theorem pe_and (ha:PE X a ta)(hb:PE X (.BoolOp .And (b::rest) pos) tb):PE X (.BoolOp .And (a::b::rest) pos) (tAndV ta tb):=by
 intro pins s σ H Q I h
 refine BoolOp_and (thn (ha pins s σ H _ I h) fun v s1 ⟨x,H1,I1,r1,q1⟩=>?_)
 obtain ⟨c,rfl,q1⟩:=q1
 cases r1
 refine wpAny_truthy_bool ?_
 cases c with
 | true=>exact hb pins s1 σ H1 Q I1 q1
 | false=>exact ⟨.bl false,H1,I1,rfl,q1⟩
theorem pe_not (ha:PE X a ta):PE X (.UnaryOp .Not a pos) (tNotV ta):=by
 intro pins s σ H Q I h
 refine UnaryOp_ (thn (ha pins s σ H _ I h) fun v s1 ⟨x,H1,I1,r1,q1⟩=>?_)
 obtain ⟨c,rfl,q1⟩:=q1
 cases r1
 exact not_of (wpAny_truthy_bool ⟨.bl (!c),H1,I1,rfl,q1⟩)
def tIf (t:TT)(ta tb:TE):TE:=fun σ H Q=>t σ H fun c H1=>if c=true then ta σ H1 Q else tb σ H1 Q
theorem pe_ifExp {c:Expr}(hc:PT X c tA)(ha:PE X a ta)(hb:PE X b tb):PE X (.IfExp c a b pos) (tIf tA ta tb):=by
 intro pins s σ H Q I h
 refine wpAny_IfExp (thn (hc pins s σ H _ I h) fun d s1 ⟨H1,I1,q1⟩=>?_)
 cases d with
 | true=>exact ha pins s1 σ H1 Q I1 q1
 | false=>exact hb pins s1 σ H1 Q I1 q1
end
def SqL (K:Frag)(H:Hp)(a:Addr)(xs:List V):Prop :=
 Rd H a (.lst xs) ∨
  ∃ (o:Obj) (its:Array Value) (n:Nat),K.lookup a=some o∧o.cls=.type "list"∧o.dict=none∧o.data=.seq its n∧its.size≤sizeLine∧Vals xs its.toList
def SqT (K:Frag)(H:Hp)(a:Addr)(xs:List V):Prop :=
 Rd H a (.tup xs) ∨
  ∃ (o:Obj) (its:Array Value) (n:Nat),K.lookup a=some o∧o.cls=.type "tuple"∧o.data=.seq its n∧its.size≤sizeLine∧Vals xs its.toList
def absV:Value→Option V
 | .none=>some .non
 | .bool b=>some (.bl b)
 | .int i _=>some (.int i)
 | .str x _=>some (.str x)
 | .bytes b _=>some (.byt b)
 | .float b _=>some (.flt b)
 | .ref a=>some (.ref a)
 | .type n=>some (.ty n)
 | _=>none
theorem RelV.abs {x:V}{u:Value}(r:RelV x u):absV u=some x:=by
 cases x with
 | non=>cases r; rfl
 | bl _=>cases r; rfl
 | int _=>obtain ⟨t,rfl⟩:=r; rfl
 | str _=>obtain ⟨t,rfl⟩:=r; rfl
 | byt _=>obtain ⟨t,rfl⟩:=r; rfl
 | flt _=>obtain ⟨t,rfl⟩:=r; rfl
 | ref _=>cases r; rfl
 | ty _=>cases r; rfl
theorem RelV.inj {x y:V}{u:Value}(r:RelV x u)(q:RelV y u):x=y:=Option.some.inj (r.abs.symm.trans q.abs)
theorem Vals.inj:∀ {xs ys:List V}{us:List Value},Vals xs us→Vals ys us→xs=ys
 | _,_,_,.nil,.nil=>rfl
 | _,_,_,.cons r t,.cons r' t'=>by rw [r.inj r',Vals.inj t t']
section
variable {X:Cx}{pins:List (Addr × Obj)}{σ:St}{H:Hp}{s:Shared}{a:Addr}{xs ys:List V}
theorem SqL.of {K:Frag}(h:H a=some (.lst xs)):SqL K H a xs:=.inl (.inl h)
theorem SqT.of {K:Frag}(h:H a=some (.tup xs)):SqT K H a xs:=.inl (.inl h)
theorem Inv.list (I:Inv X pins σ H s)(h:SqL X.K H a xs):∃ its:List Value,Vals xs its∧PlainL s.heap a its.toArray∧xs.length≤sizeLine:=by
 rcases h with h | ⟨o,its,n,hk,hc,hd,hs,hz,r⟩
 ·obtain ⟨z,its,n,r,e⟩:=h.ok I.hok
  exact ⟨its,r,⟨_,n,e,rfl,rfl,rfl⟩,z⟩
 ·refine ⟨its.toList,r,⟨o,n,I.kIn a o hk,hc,hd,by simpa using hs⟩,?_⟩
  have e:=r.length
  simp only [Array.length_toList] at e
  omega
theorem Inv.tuple (I:Inv X pins σ H s)(h:SqT X.K H a xs):∃ its:List Value,Vals xs its∧IsTup s.heap a its.toArray∧xs.length≤sizeLine:=by
 rcases h with h | ⟨o,its,n,hk,hc,hs,hz,r⟩
 ·obtain ⟨z,its,r,p⟩:=h.ok I.hok
  exact ⟨its,r,p,z⟩
 ·refine ⟨its.toList,r,⟨o,I.kIn a o hk,hc,n,by simpa using hs⟩,?_⟩
  have e:=r.length
  simp only [Array.length_toList] at e
  omega
theorem Inv.list_inj (I:Inv X pins σ H s)(h:SqL X.K H a xs)(h':SqL X.K H a ys):xs=ys:=by
 obtain ⟨its,r,⟨o,n,e,_,_,d⟩,_⟩:=I.list h
 obtain ⟨its',r',⟨o',n',e',_,_,d'⟩,_⟩:=I.list h'
 rw [e] at e'; cases e'
 rw [d] at d'
 injection d' with d1 _
 have:its=its':=by simpa using congrArg Array.toList d1
 subst this
 exact r.inj r'
theorem Inv.tuple_inj (I:Inv X pins σ H s)(h:SqT X.K H a xs)(h':SqT X.K H a ys):xs=ys:=by
 obtain ⟨its,r,⟨o,e,_,n,d⟩,_⟩:=I.tuple h
 obtain ⟨its',r',⟨o',e',_,n',d'⟩,_⟩:=I.tuple h'
 rw [e] at e'; cases e'
 rw [d] at d'
 injection d' with d1 _
 have:its=its':=by simpa using congrArg Array.toList d1
 subst this
 exact r.inj r'
end
abbrev Cx.wish (X:Cx)(E:Value→Shared→Prop):Cx:={ X with xe:=E }
abbrev Cx.nox (X:Cx):Cx:=X.wish fun _ _=>False
theorem Cx.Ok.wish {X:Cx}(ok:X.Ok)(E:Value→Shared→Prop):(X.wish E).Ok :=
 ⟨ok.mod,ok.kind,ok.glob,ok.blt,ok.above,ok.inj,ok.has,ok.cab,ok.hd,ok.frames,ok.stk,ok.exf,ok.bs,ok.bsz,ok.noex,ok.exfs,ok.funs,ok.frf⟩
theorem Cx.Ok.unwish {X:Cx}{E:Value→Shared→Prop}(ok:(X.wish E).Ok):X.Ok :=
 ⟨ok.mod,ok.kind,ok.glob,ok.blt,ok.above,ok.inj,ok.has,ok.cab,ok.hd,ok.frames,ok.stk,ok.exf,ok.bs,ok.bsz,ok.noex,ok.exfs,ok.funs,ok.frf⟩
section
variable {X:Cx}{pins:List (Addr × Obj)}{σ:St}{H:Hp}{s:Shared}{E:Value→Shared→Prop}
theorem Inv.wish (I:Inv X pins σ H s)(E:Value→Shared→Prop):Inv (X.wish E) pins σ H s:=⟨I.ok.wish E,I.os,I.bare,I.base,I.loc,I.cell,I.free,I.freeC,I.pin,I.hok,I.len⟩
theorem Inv.unwish (I:Inv (X.wish E) pins σ H s):Inv X pins σ H s:=⟨I.ok.unwish,I.os,I.bare,I.base,I.loc,I.cell,I.free,I.freeC,I.pin,I.hok,I.len⟩
theorem SP.unwish {D:Ends}{f:Flow}{s':Shared}(h:SP (X.wish E) pins D f s'):SP X pins D f s':=by
 cases f with
 | next=>obtain ⟨σ',H',I,q⟩:=h; exact ⟨σ',H',I.unwish,q⟩
 | brk=>obtain ⟨σ',H',I,q⟩:=h; exact ⟨σ',H',I.unwish,q⟩
 | cont=>obtain ⟨σ',H',I,q⟩:=h; exact ⟨σ',H',I.unwish,q⟩
 | ret u=>obtain ⟨v,σ',H',I,r,q⟩:=h; exact ⟨v,σ',H',I.unwish,r,q⟩
theorem PE.nox {e:Expr}{t:TE}(h:PE X.nox e t):PE X e t:=fun pins s σ H Q I hw =>
 wpAny_mono (h pins s σ H Q (I.wish _) hw) (fun _ _ ⟨v,H',I',r,q⟩=>⟨v,H',I'.unwish,r,q⟩) fun _ _ z=>False.elim z
theorem PT.nox {e:Expr}{t:TT}(h:PT X.nox e t):PT X e t:=fun pins s σ H Q I hw =>
 wpAny_mono (h pins s σ H Q (I.wish _) hw) (fun _ _ ⟨H',I',q⟩=>⟨H',I'.unwish,q⟩) fun _ _ z=>False.elim z
theorem PSs.nox {st:List Stmt}{t:TS}(h:PSs X.nox st t):PSs X st t:=fun pins s σ H D I hw =>
 wpAny_mono (h pins s σ H D (I.wish _) hw) (fun _ _ q=>q.unwish) fun _ _ z=>False.elim z
end
section
variable {X:Cx}{st:Stmt}{rest:List Stmt}{t u:TS}{e:Expr}{te:TE}{pos:Pos}
def tNext:TS:=fun D σ H=>D.nx σ H
def tSeq (t u:TS):TS:=fun D σ H=>t { D with nx:=u D } σ H
theorem pss_nil:PSs X [] tNext:=fun _ _ σ H _ I h=>wpAny_execs_nil ⟨σ,H,I,h⟩
theorem pss_cons (h1:PS X st t)(h2:PSs X rest u):PSs X (st::rest) (tSeq t u):=by
 intro pins s σ H D I h
 refine wpAny_execs_cons (thn (h1 pins s σ H { D with nx:=u D } I h) fun f s1 q=>?_)
 cases f with
 | next =>
  obtain ⟨σ',H',I',q⟩:=q
  exact h2 pins s1 σ' H' D I' q
 | ret v=>exact q
 | brk=>exact q
 | cont=>exact q
theorem pss_one (h1:PS X st t):PSs X [st] t:=by
 intro pins s σ H D I h
 refine wpAny_execs_cons (thn (h1 pins s σ H D I h) fun f s1 q=>?_)
 cases f with
 | next=>exact wpAny_execs_nil q
 | ret v=>exact q
 | brk=>exact q
 | cont=>exact q
theorem ps_pass:PS X (.Pass pos) tNext:=fun _ _ σ H _ I h=>wpAny_Pass ⟨σ,H,I,h⟩
theorem Inv.quiet {pins:List (Addr × Obj)}{σ:St}{H:Hp}{s:Shared}(I:Inv X pins σ H s):interactive X.env=false:=by simp [interactive,I.ok.kind]
def tDrop (te:TE):TS:=fun D σ H=>te σ H fun _ H1=>D.nx σ H1
theorem ps_expr (he:PE X e te)(hs:swapsWith e none pos.line X.env=pure false:=by rfl):PS X (.Expr e pos) (tDrop te):=by
 intro pins s σ H D I h
 exact wpAny_Expr_any (thn (he pins s σ H _ I h) fun v s1 ⟨x,H1,I1,r1,q1⟩=>⟨σ,H1,I1,q1⟩) I.quiet hs
def tRet (te:TE):TS:=fun D σ H=>te σ H D.rt
theorem ps_ret (he:PE X e te):PS X (.Return (some e) pos) (tRet te):=by
 intro pins s σ H D I h
 exact wpAny_Return_some (thn (he pins s σ H _ I h) fun v s1 ⟨x,H1,I1,r1,q1⟩=>⟨x,σ,H1,I1,r1,q1⟩)
def tRetN:TS:=fun D _ H=>D.rt .non H
def tIfS (c:TT)(t u:TS):TS:=fun D σ H=>c σ H fun b H1=>if b=true then t D σ H1 else u D σ H1
theorem ps_if {c:Expr}{a b:List Stmt}{tc:TT}(hc:PT X c tc)(ha:PSs X a t)(hb:PSs X b u):PS X (.If c a b pos) (tIfS tc t u):=by
 intro pins s σ H D I h
 refine wpAny_If (thn (hc pins s σ H _ I h) fun d s1 ⟨H1,I1,q1⟩=>?_)
 cases d with
 | true=>exact ha pins s1 σ H1 D I1 q1
 | false=>exact hb pins s1 σ H1 D I1 q1
def tNever:TS:=fun _ _ _=>False
theorem pss_never {sts:List Stmt}:PSs X sts tNever:=fun _ _ _ _ _ _ h=>h.elim
end
abbrev TG:=V→St→Hp→(St→Hp→Prop)→Prop
abbrev TGs:=List V→St→Hp→(St→Hp→Prop)→Prop
def PG (X:Cx)(target:Expr)(t:TG):Prop :=
 ∀ (pins:List (Addr × Obj)) (s:Shared) (σ:St) (H:Hp) (v:V) (u:Value) (Q:St→Hp→Prop),Inv X pins σ H s→RelV v u→t v σ H Q →
  wpAny (model X.prog X.w) X.A (assign target X.env u) (fun _ s'=>∃ σ' H',Inv X pins σ' H' s'∧Q σ' H') X.xe s
def PGs (X:Cx)(ts:List Expr)(t:TGs):Prop :=
 ∀ (pins:List (Addr × Obj)) (s:Shared) (σ:St) (H:Hp) (vs:List V) (us:List Value) (Q:St→Hp→Prop),Inv X pins σ H s→Vals vs us→t vs σ H Q →
  wpAny (model X.prog X.w) X.A (assignInOrder ((assignEach ts X.env).map (·.2)) us) (fun _ s'=>∃ σ' H',Inv X pins σ' H' s'∧Q σ' H') X.xe s
abbrev TSet:=V→V→V→Hp→(Hp→Prop)→Prop
def PSet (X:Cx)(t:TSet):Prop :=
 ∀ (pins:List (Addr × Obj)) (s:Shared) (σ:St) (H:Hp) (o i v:V) (ov iv u:Value) (Q:Hp→Prop),Inv X pins σ H s→RelV o ov→RelV i iv→RelV v u→t o i v H Q →
  wpAny (model X.prog X.w) X.A (setItem ov iv u) (fun _ s'=>∃ H',Inv X pins σ H' s'∧Q H') X.xe s
abbrev TIp:=V→V→Hp→VK→Prop
def PIp (X:Cx)(op:Operator)(t:TIp):Prop :=
 ∀ (pins:List (Addr × Obj)) (s:Shared) (σ:St) (H:Hp) (x y:V) (v u:Value) (Q:VK),Inv X pins σ H s→RelV x v→RelV y u→t x y H Q →
  wpAny (model X.prog X.w) X.A (inplaceOp op v u) (EP X pins σ Q) X.xe s
section
variable {X:Cx}{pos:Pos}
def gName (i:Nat):TG:=fun v σ H Q=>Q (σ.set i (some v)) H
theorem pg_name {i:Nat}{x:Str}(hN:X.N.Nodup)(hi:X.N[i]?=some x)(hx:Loc X.env.scope x)(hf:X.fn x=true∨X.env.scope.names.lookup x=some .local:=by first | exact .inl rfl | exact .inr rfl | assumption):PG X (.Name x pos) (gName i):=by
 intro pins s σ H v u Q I r h
 exact wpAny_assign_Name (store_ok I hN hi hx r (fun s' I'=>⟨_,H,I',h⟩) hf)
def gNil:TGs:=fun vs σ H Q=>vs=[]∧Q σ H
def gCons (t:TG)(u:TGs):TGs:=fun vs σ H Q=>∃ v r,vs=v::r∧t v σ H fun σ' H'=>u r σ' H' Q
theorem pgs_nil:PGs X [] gNil:=by
 intro pins s σ H vs us Q I r h
 obtain ⟨e,h⟩:=h
 subst e
 cases r
 exact assignInOrder_nil ⟨σ,H,I,h⟩
theorem pgs_cons {e:Expr}{es:List Expr}{t:TG}{u:TGs}(h1:PG X e t)(h2:PGs X es u)(hs:(assignEach (e::es) X.env).map (·.2)=assign e X.env::(assignEach es X.env).map (·.2):=by rfl):PGs X (e::es) (gCons t u):=by
 intro pins s σ H vs us Q I r h
 obtain ⟨v,vr,e1,h⟩:=h
 subst e1
 cases r with
 | cons r rr =>
  rw [hs]
  refine assignInOrder_cons (thn (h1 pins s σ H _ _ _ I r h) fun _ s1 ⟨σ1,H1,I1,q1⟩=>?_)
  exact h2 pins s1 σ1 H1 _ _ Q I1 rr q1
def gTup (K:Frag)(n:Nat)(t:TGs):TG:=fun v σ H Q=>∃ a xs,v=.ref a∧SqT K H a xs∧xs.length=n∧t xs σ H Q
theorem pg_tup {es:List Expr}{k:Nat}{t:TGs}{n:Nat}(hc:X.calm=true)(h:PGs X es t)(hn:(assignEach es X.env).length=n:=by rfl)(hst:(assignEach es X.env).findIdx? (·.1)=none:=by rfl):PG X (.Tuple es k pos) (gTup X.K n t):=by
 intro pins s σ H v u Q I r hw
 obtain ⟨a,xs,e1,hq,hl,hw⟩:=hw
 subst e1
 cases r
 obtain ⟨its,rv,ht,hz⟩:=I.tuple hq
 refine assign_Tuple_tuple (I.ok.hd hc) ht (by simp [hn,← hl,rv.length]) hst fun h' hx=>?_
 have I1:Inv X pins σ H { s with heap:=h' }:=I.kept (t':=s.toks) fun b o e=>hx b o (Nat.ne_of_lt (Heap.lt_size e)) e
 exact h pins _ σ H xs _ Q I1 (by simpa using rv) hw
def gSub (to ti:TE)(t:TSet):TG:=fun v σ H Q=>to σ H fun o H1=>ti σ H1 fun i H2=>t o i v H2 fun H3=>Q σ H3
theorem pg_sub {o i:Expr}{to ti:TE}{t:TSet}(ho:PE X o to)(hi:PE X i ti)(hs:PSet X t)(ha:∀ v,assign (.Subscript o i pos) X.env v=(do
   let ov ← holding [v] (eval o X.env)
   let iv ← holding [v,ov] (eval i X.env)
   standAt pos
   holding [v,ov,iv] (setItem ov iv v)
   release [v,ov,iv] []):=by intro _; rfl):PG X (.Subscript o i pos) (gSub to ti t):=by
 intro pins s σ H v u Q I r h
 rw [ha]
 refine wpAny_bind (wpAny_holding (thn (ho pins s σ H _ I h) fun ov s1 ⟨x,H1,I1,r1,q1⟩=>?_))
 refine wpAny_bind (wpAny_holding (thn (hi pins s1 σ H1 _ I1 q1) fun iv s2 ⟨y,H2,I2,r2,q2⟩=>?_))
 refine wpAny_bind (wpAny_standAt (wpAny_bind (wpAny_holding (thn (hs pins s2 σ H2 x y v ov iv u _ I2 r1 r2 r q2) fun _ s3 ⟨H3,I3,q3⟩=>?_))))
 exact wpAny_release ⟨σ,H3,I3,q3⟩
def tAsg (te:TE)(g:TG):TS:=fun D σ H=>te σ H fun x H1=>g x σ H1 D.nx
theorem ps_asg {tg e:Expr}{te:TE}{g:TG}(he:PE X e te)(hg:PG X tg g)(hs:swapsWithSole [tg] e pos.line X.env=pure false:=by rfl)(hw:swappedStores [tg] e X.env=pure none:=by rfl)(h1:(assignEach [tg] X.env).map (·.2)=[assign tg X.env]:=by rfl):PS X (.Assign [tg] e pos) (tAsg te g):=by
 intro pins s σ H D I h
 refine wpAny_Assign_stores (thn (he pins s σ H _ I h) fun v s1 ⟨x,H1,I1,r1,q1⟩=>?_) hs hw
 rw [h1]
 exact thn (hg pins s1 σ H1 x v _ I1 r1 q1) fun _ s2 q=>q
theorem ps_set {i:Nat}{x:Str}{e:Expr}{te:TE}{pos':Pos}(hN:X.N.Nodup)(hi:X.N[i]?=some x)(hx:Loc X.env.scope x)(he:PE X e te)(hs:swapsWith e (some (.Name x pos')) pos.line X.env=pure false:=by rfl)(hf:X.fn x=true∨X.env.scope.names.lookup x=some .local:=by first | exact .inl rfl | exact .inr rfl | assumption) :
  PS X (.Assign [.Name x pos'] e pos) (tAsg te (gName i)):=by
 intro pins s σ H D I h
 refine wpAny_Assign_Name (thn (he pins s σ H _ I h) fun v s1 ⟨y,H1,I1,r1,q1⟩=>?_) hs
 exact store_ok I1 hN hi hx r1 (fun s2 I2=>⟨_,H1,I2,q1⟩) hf
def tAug (i:Nat)(te:TE)(ti:TIp):TS:=fun D σ H=>∃ x,σ[i]?=some (some x)∧te σ H fun y H1=>ti x y H1 fun z H2=>D.nx (σ.set i (some z)) H2
theorem ps_aug {i:Nat}{x:Str}{e:Expr}{te:TE}{op:Operator}{ti:TIp}{pos':Pos}(hN:X.N.Nodup)(hi:X.N[i]?=some x)(hx:Loc X.env.scope x)(he:PE X e te)(ho:PIp X op ti)(hf:X.fn x=true∨X.env.scope.names.lookup x=some .local:=by first | exact .inl rfl | exact .inr rfl | assumption) :
  PS X (.AugAssign (.Name x pos') op e pos) (tAug i te ti):=by
 intro pins s σ H D I h
 obtain ⟨v,e1,h⟩:=h
 obtain ⟨m,hn,hl⟩:=I.loc
 have vis:Vis X.env.scope x:=by rcases hx with k | k; exact .inl k; exact .inr (.inl k)
 obtain ⟨u,r,l⟩:=hl i x v hi e1 vis
 refine wpAny_AugAssign_Name ?_
 have go:wpAny (model X.prog X.w) X.A (eval e X.env) (fun w s₂=>wpAny (model X.prog X.w) X.A (inplaceOp op u w) (fun r s₃=>wpAny (model X.prog X.w) X.A (storeName X.env x r) (fun _=>SP X pins D .next) X.xe s₃) X.xe s₂) X.xe s:=by
  refine thn (he pins s σ H _ I h) fun w s1 ⟨y,H1,I1,r1,q1⟩=>?_
  refine thn (ho pins s1 σ H1 v y u w _ I1 r r1 q1) fun z s2 ⟨zv,H2,I2,r2,q2⟩=>?_
  exact store_ok I2 hN hi hx r2 (fun s3 I3=>⟨_,H2,I3,q2⟩) hf
 rcases l with ⟨hk,hm⟩ | ⟨hk,c,hc,hcell⟩
 ·exact wpAny_loadName_local I.ok.kind hk hn hm go
 ·rcases hk with hk | hk
  ·exact wpAny_loadName_cell I.ok.kind hk hc hcell go
  ·rcases hx with k | k
   ·have:X.env.scope.names.lookup x=some .free:=hk
    rw [k] at this; cases this
   ·have:X.env.scope.names.lookup x=some .free:=hk
    rw [k] at this; cases this
end
section
variable {X:Cx}{pos:Pos}
def tWhile (c:TT)(tb:TS):TS:=fun D σ H=>∃ W:Nat→St→Hp→Prop,(∃ m,W m σ H)∧∀ m σ H,W m σ H →
 c σ H fun b H1=>if b=true then ∃ N:St→Hp→Prop,(∀ σ' H',N σ' H'→∃ m',m' < m∧W m' σ' H')∧tb { D with nx:=N,ct:=N,bk:=D.nx } σ H1 else D.nx σ H1
theorem ps_while {c:Expr}{body:List Stmt}{tc:TT}{tb:TS}(hp:PassesOwn (model X.prog X.w) X.A X.env X.xe)(hc:PT X c tc)(hb:PSs X body tb):PS X (.While c body [] pos) (tWhile tc tb):=by
 intro pins s σ H D I h
 obtain ⟨W,⟨m0,w0⟩,turn⟩:=h
 refine wpAny_While (codeAny_whileLoop (fun n s'=>∃ σ' H',Inv X pins σ' H' s'∧W n σ' H') ?_ m0 ⟨σ,H,I,w0⟩)
 rintro n s1 ⟨σ1,H1,I1,w1⟩
 refine wpAny_passesOwn hp (thn (hc pins s1 σ1 H1 _ I1 (turn n σ1 H1 w1)) fun b s2 ⟨H2,I2,q2⟩=>?_)
 cases b with
 | true =>
  obtain ⟨N,hN,q2⟩:=q2
  rw [if_pos rfl]
  refine wpAny_passesOwn hp (thn (hb pins s2 σ1 H2 _ I2 q2) fun f s3 q3=>?_)
  cases f with
  | next =>
   obtain ⟨σ3,H3,I3,n3⟩:=q3
   obtain ⟨m',hm,w3⟩:=hN σ3 H3 n3
   exact ⟨m',hm,σ3,H3,I3,w3⟩
  | cont =>
   obtain ⟨σ3,H3,I3,n3⟩:=q3
   obtain ⟨m',hm,w3⟩:=hN σ3 H3 n3
   exact ⟨m',hm,σ3,H3,I3,w3⟩
  | brk=>exact q3
  | ret v=>exact q3
 | false =>
  rw [if_neg Bool.false_ne_true]
  exact wpAny_execs_nil ⟨σ1,H2,I2,q2⟩
end
structure It where
 go:Nat→Hp→Prop
 yld:Nat→Hp→V→Hp→Prop
 stop:Nat→Hp→Prop
def FpOk (X:Cx)(pins:List (Addr × Obj))(H:Hp)(b:Addr):Prop :=
 H b=none∧b≠X.env.locals∧b ∉ X.fs∧(b∈X.ex∨X.s₀.heap.objs.size≤b)∧(∀ x c,X.env.cells.lookup x=some c→c≠b)∧∀ p∈X.pn++pins,p.1≠b
theorem Inv.fpOk {X:Cx}{pins:List (Addr × Obj)}{σ:St}{H H':Hp}{s:Shared}{b:Addr}(I:Inv X pins σ H s)(hb:s.heap.objs.size≤b)(hn:H' b=none):FpOk X pins H' b:=by
 refine ⟨hn,Nat.ne_of_gt (Nat.lt_of_lt_of_le I.lt hb),I.nofs hb,.inr (Nat.le_trans I.sz hb),fun x c e z=>?_,fun p hp z=>?_⟩
 ·obtain ⟨v,q⟩:=I.cell x c e
  exact absurd (Nat.lt_of_lt_of_le q.lt (by rw [z]; exact hb)) (Nat.lt_irrefl _)
 ·exact absurd (Nat.lt_of_lt_of_le (Heap.lt_size (I.pin p hp).1) (by rw [z]; exact hb)) (Nat.lt_irrefl _)
structure Turn (P:Program) (w:World) (K:Frag) (tg:Expr) (J:It) (fp:List Addr) (it:Addr) (tn:Nat→Heap→Prop):Prop where
 mem:it∈fp
 obj:∀ i h,tn i h→∀ b∈fp,∃ o,h.get? b=some o∧∀ v,o.data≠.cell v
 keep:∀ i h h',tn i h→(∀ b∈fp,∀ o,h.get? b=some o→h'.get? b=some o)→tn i h'
 item:∀ (X:Cx),X.prog=P→X.w=w→X.K=K→X.calm=true→∀ (i:Nat) (pins:List (Addr × Obj)) (s:Shared) (σ:St) (H:Hp) (E:Value→Shared→Prop),Inv X pins σ H s→(∀ b∈fp,FpOk X pins H b)→tn i s.heap→J.go i H →
  wpAny (model P w) X.A (pyNext (.ref it)) (fun r s1=>∃ u,r=some u ∧
   wpAny (model P w) X.A (letOwnedTupleGo tg (.ref it) u) (fun _ s2=>∃ x H',Inv X pins σ H' s2∧RelV x u∧J.yld i H x H'∧tn (i+1) s2.heap∧∀ b∈fp,H' b=none) E s1) E s
 done:∀ (X:Cx),X.prog=P→X.w=w→X.K=K→X.calm=true→∀ (i:Nat) (pins:List (Addr × Obj)) (s:Shared) (σ:St) (H:Hp) (E:Value→Shared→Prop),Inv X pins σ H s→(∀ b∈fp,FpOk X pins H b)→tn i s.heap→J.stop i H →
  wpAny (model P w) X.A (pyNext (.ref it)) (fun r s1=>r=none∧Inv X pins σ H s1) E s
 self:∀ (A:Around) (i:Nat) (s:Shared) (Q:Value→Shared→Prop) (E:Value→Shared→Prop),tn i s.heap→Q (.ref it) s→wpAny (model P w) A (pyIter (.ref it)) Q E s
abbrev TI:=St→Hp→(It→Hp→Prop)→Prop
def PIE (X:Cx)(pins:List (Addr × Obj))(σ:St)(tg:Expr)(R:It→Hp→Prop)(itv:Value)(s2:Shared):Prop :=
 ∃ (it:Addr) (fp:List Addr) (tn:Nat→Heap→Prop) (J:It) (H':Hp),itv=.ref it∧Inv X pins σ H' s2∧Turn X.prog X.w X.K tg J fp it tn∧tn 0 s2.heap∧(∀ b∈fp,FpOk X pins H' b)∧R J H'
def PI (X:Cx)(tg iter:Expr)(wi:TI):Prop :=
 ∀ (pins:List (Addr × Obj)) (s:Shared) (σ:St) (H:Hp) (R:It→Hp→Prop),Inv X pins σ H s→wi σ H R →
  wpAny (model X.prog X.w) X.A (eval iter X.env) (fun v s1=>wpAny (model X.prog X.w) X.A (pyIter v) (PIE X pins σ tg R) X.xe s1) X.xe s
theorem go_of {M:Model}{A:Around}{E:Value→Shared→Prop}{s:Shared}{tg:Expr}{it:Addr}{u:Value}{o:Obj}{n:String}{vs:Array Value}{Q:Unit→Shared→Prop}(ho:s.heap.get? it=some o)(hc:o.cls=.type n)(hd:o.data=.fields vs)(hn:["enumerate","zip","dict_itemiterator","dict_reverseitemiterator","odict_iterator","itertools.zip_longest","itertools.pairwise"].contains n=false)(hQ:Q () s):wpAny M A (letOwnedTupleGo tg (.ref it) u) Q E s:=by
  unfold letOwnedTupleGo
  cases tg <;> first
    | exact wpAny_pure hQ
    | (cases u <;> first
        | exact wpAny_pure hQ
        | (refine wpAny_bind (wpAny_load ho ?_)
           rw [hc,hd]
           show wpAny M A (if (["enumerate","zip","dict_itemiterator","dict_reverseitemiterator","odict_iterator","itertools.zip_longest","itertools.pairwise"].contains n && vs[0]? == some (rawInt _))=true then _ else _) Q E s
           rw [if_neg (by intro h; rw [hn,Bool.false_and] at h; cases h)]
           exact wpAny_pure hQ))
def Itl (K:Frag)(a:Addr):It :=
 ⟨fun i H=>∃ xs x,SqL K H a xs∧xs[i]?=some x,fun i H x H'=>H'=H∧∀ xs,SqL K H a xs→xs[i]?=some x,fun i H=>∃ xs,SqL K H a xs∧xs.length≤i⟩
def Itt (K:Frag)(a:Addr):It :=
 ⟨fun i H=>∃ xs x,SqT K H a xs∧xs[i]?=some x,fun i H x H'=>H'=H∧∀ xs,SqT K H a xs→xs[i]?=some x,fun i H=>∃ xs,SqT K H a xs∧xs.length≤i⟩
def Itr (lo:Int)(n:Nat):It:=⟨fun i _=>i < n,fun i H x H'=>H'=H∧x=.int (lo+i),fun i _=>n≤i⟩
theorem turn_list {P:Program}{w:World}{K:Frag}{tg:Expr}(a it:Addr):Turn P w K tg (Itl K a) [it] it (fun i h=>h.IsListIter it a i) where
 mem:=by simp
 obj:=fun i h st b hb=>by
  have e:b=it:=by simpa using hb
  subst e
  obtain ⟨o,e,c,d⟩:=st
  exact ⟨o,e,fun v z=>by rw [d] at z; cases z⟩
 keep:=fun i h h' st k=>st.at fun o e=>k it (by simp) o e
 item:=by
  intro X hP hw hK hc i pins s σ H E I hf st hg
  subst hP hw hK
  obtain ⟨xs,x,hq,hx⟩:=hg
  obtain ⟨its,rv,p,hz⟩:=I.list hq
  obtain ⟨u,hu,ru⟩:=rv.get hx
  obtain ⟨f0,f1,f2,f3,f4,f5⟩:=hf it (by simp)
  refine wpAny_pyNext_list_item st p.isList (x:=u) (by simpa using hu) fun h' st' sb=>?_
  have I1:Inv X pins σ H { s with heap:=h' }:=I.turned (t':=s.toks) (fun b o hb e=>(sb.2 b hb).trans e) f0 f1 f3 f4 f5
  obtain ⟨o,e,c,d⟩:=id st'
  exact ⟨u,rfl,go_of (s:={ s with heap:=h' }) e c d (by decide) ⟨x,H,I1,ru,⟨rfl,fun ys hy=>by rw [I.list_inj hy hq]; exact hx⟩,st',fun b hb=>(hf b hb).1⟩⟩
 done:=by
  intro X hP hw hK hc i pins s σ H E I hf st hg
  subst hP hw hK
  obtain ⟨xs,hq,hx⟩:=hg
  obtain ⟨its,rv,p,hz⟩:=I.list hq
  obtain ⟨f0,f1,f2,f3,f4,f5⟩:=hf it (by simp)
  have hl:=rv.length
  exact wpAny_pyNext_list_end (I.ok.hd hc) st p.isList (by simp; omega) fun h' eb=>⟨rfl,I.turned (t':=s.toks) (fun b o hb e=>eb b o hb e) f0 f1 f3 f4 f5⟩
 self:=fun _ _ _ _ _ st h=>wpAny_pyIter_listiter st h
theorem turn_tuple {P:Program}{w:World}{K:Frag}{tg:Expr}(a it:Addr):Turn P w K tg (Itt K a) [it] it (fun i h=>h.IsTupleIter it a i) where
 mem:=by simp
 obj:=fun i h st b hb=>by
  have e:b=it:=by simpa using hb
  subst e
  obtain ⟨o,e,c,d⟩:=st
  exact ⟨o,e,fun v z=>by rw [d] at z; cases z⟩
 keep:=fun i h h' st k=>st.at fun o e=>k it (by simp) o e
 item:=by
  intro X hP hw hK hc i pins s σ H E I hf st hg
  subst hP hw hK
  obtain ⟨xs,x,hq,hx⟩:=hg
  obtain ⟨its,rv,p,hz⟩:=I.tuple hq
  obtain ⟨u,hu,ru⟩:=rv.get hx
  obtain ⟨f0,f1,f2,f3,f4,f5⟩:=hf it (by simp)
  refine wpAny_pyNext_tuple_item st (show s.heap.IsTuple a its.toArray from p) (x:=u) (by simpa using hu) fun h' st' sb=>?_
  have I1:Inv X pins σ H { s with heap:=h' }:=I.turned (t':=s.toks) (fun b o hb e=>(sb.2 b hb).trans e) f0 f1 f3 f4 f5
  obtain ⟨o,e,c,d⟩:=id st'
  exact ⟨u,rfl,go_of (s:={ s with heap:=h' }) e c d (by decide) ⟨x,H,I1,ru,⟨rfl,fun ys hy=>by rw [I.tuple_inj hy hq]; exact hx⟩,st',fun b hb=>(hf b hb).1⟩⟩
 done:=by
  intro X hP hw hK hc i pins s σ H E I hf st hg
  subst hP hw hK
  obtain ⟨xs,hq,hx⟩:=hg
  obtain ⟨its,rv,p,hz⟩:=I.tuple hq
  obtain ⟨f0,f1,f2,f3,f4,f5⟩:=hf it (by simp)
  have hl:=rv.length
  exact wpAny_pyNext_tuple_end (I.ok.hd hc) st (show s.heap.IsTuple a its.toArray from p) (by simp; omega) fun h' eb=>⟨rfl,I.turned (t':=s.toks) (fun b o hb e=>eb b o hb e) f0 f1 f3 f4 f5⟩
 self:=fun _ _ _ _ _ st h=>wpAny_pyIter_tupleiter st h
theorem turn_range {P:Program}{w:World}{K:Frag}{tg:Expr}(it:Addr)(lo:Int)(n:Nat):Turn P w K tg (Itr lo n) [it] it (fun i h=>IsRangeIter h it (lo+(i:Nat) * 1) ((n:Int) - (i:Nat)) 1) where
 mem:=by simp
 obj:=fun i h st b hb=>by
  have e:b=it:=by simpa using hb
  subst e
  exact ⟨_,st,fun v z=>by
   have z':Data.fields _=Data.cell v:=z
   cases z'⟩
 keep:=fun i h h' st k=>k it (by simp) _ st
 item:=by
  intro X hP hw hK hc i pins s σ H E I hf st hg
  subst hP hw hK
  obtain ⟨f0,f1,f2,f3,f4,f5⟩:=hf it (by simp)
  have W:=Walks.range (prog:=X.prog) (w:=X.w) (I.ok.hd hc) it lo 1 n
  refine W.item i s _ _ hg st fun v h' tk hv st' kk=>?_
  obtain ⟨t,rfl⟩:=hv
  have I1:Inv X pins σ H { s with heap:=h',toks:=tk }:=I.turned (fun b o hb e=>kk b o (by simpa using hb) e) f0 f1 f3 f4 f5
  refine ⟨_,rfl,go_of (s:={ s with heap:=h',toks:=tk }) (n:="range_iterator") st' rfl rfl (by decide) ⟨.int (lo+i),H,I1,⟨t,?_⟩,⟨rfl,rfl⟩,st',fun b hb=>(hf b hb).1⟩⟩
  rw [Int.mul_one]
 done:=by
  intro X hP hw hK hc i pins s σ H E I hf st hg
  subst hP hw hK
  obtain ⟨f0,f1,f2,f3,f4,f5⟩:=hf it (by simp)
  exact wpAny_pyNext_range_end (I.ok.hd hc) st (by have:n≤i:=hg; omega) fun h' eb=>⟨rfl,I.turned (t':=s.toks) (fun b o hb e=>eb b o hb e) f0 f1 f3 f4 f5⟩
 self:=fun _ _ _ _ _ st h=>wpAny_pyIter_rangeiter st h
section
variable {X:Cx}{tg:Expr}
def iList (K:Frag)(tl:TE):TI:=fun σ H R=>tl σ H fun x H1=>∃ a,x=.ref a∧(∃ xs,SqL K H1 a xs)∧R (Itl K a) H1
def iTup (K:Frag)(tl:TE):TI:=fun σ H R=>tl σ H fun x H1=>∃ a,x=.ref a∧(∃ xs,SqT K H1 a xs)∧R (Itt K a) H1
theorem pi_list {l:Expr}{tl:TE}(hl:PE X l tl):PI X tg l (iList X.K tl):=by
 intro pins s σ H R I h
 refine thn (hl pins s σ H _ I h) fun v s1 ⟨x,H1,I1,r1,q1⟩=>?_
 obtain ⟨a,e,⟨xs,hq⟩,q⟩:=q1
 subst e
 cases r1
 obtain ⟨its,rv,p,hz⟩:=I1.list hq
 refine wpAny_pyIter_list p.isList ?_
 refine ⟨s1.heap.objs.size,[s1.heap.objs.size],_,_,H1,rfl,I1.kept (t':=s1.toks) fun b o e=>Heap.get?_push_of_some _ e,turn_list a _,⟨_,Heap.get?_push_size _ rfl,rfl,rfl⟩,fun b hb=>?_,q⟩
 have e:b=s1.heap.objs.size:=by simpa using hb
 subst e
 exact I1.fpOk (Nat.le_refl _) (I1.hok.fresh (Nat.le_refl _))
theorem pi_tup {l:Expr}{tl:TE}(hl:PE X l tl):PI X tg l (iTup X.K tl):=by
 intro pins s σ H R I h
 refine thn (hl pins s σ H _ I h) fun v s1 ⟨x,H1,I1,r1,q1⟩=>?_
 obtain ⟨a,e,⟨xs,hq⟩,q⟩:=q1
 subst e
 cases r1
 obtain ⟨its,rv,p,hz⟩:=I1.tuple hq
 refine wpAny_pyIter_tuple (show s1.heap.IsTuple a its.toArray from p) ?_
 refine ⟨s1.heap.objs.size,[s1.heap.objs.size],_,_,H1,rfl,I1.kept (t':=s1.toks) fun b o e=>Heap.get?_push_of_some _ e,turn_tuple a _,⟨_,Heap.get?_push_size _ rfl,rfl,rfl⟩,fun b hb=>?_,q⟩
 have e:b=s1.heap.objs.size:=by simpa using hb
 subst e
 exact I1.fpOk (Nat.le_refl _) (I1.hok.fresh (Nat.le_refl _))
theorem range_it {pins:List (Addr × Obj)}{σ:St}{H:Hp}{s:Shared}{R:It→Hp→Prop}{E:Value→Shared→Prop}{lo hi:Int}{t u v:Tok}{tk:Nat}(I:Inv X pins σ H s)(h1:-(2 ^ 62)≤lo)(h2:lo < 2 ^ 62)(h3:-(2 ^ 62)≤hi)(h4:hi < 2 ^ 62)(q:R (Itr lo (hi - lo).toNat) H):wpAny (model X.prog X.w) X.A (pyIter (.ref s.heap.objs.size)) (PIE X pins σ tg R) E { s with heap:=s.heap.push { cls:=.type "range",data:=.fields #[.int lo t,.int hi u,.int 1 v] },toks:=tk }:=by
 refine wpAny_pyIter_range (IsRange.new ..) (small_one h1 h2 h3 h4) ?_
 have I1:Inv X pins σ H { s with heap:=s.heap.push { cls:=.type "range",data:=.fields #[.int lo t,.int hi u,.int 1 v] },toks:=tk }:=I.kept fun b o e=>Heap.get?_push_of_some _ e
 refine ⟨(s.heap.push { cls:=.type "range",data:=.fields #[.int lo t,.int hi u,.int 1 v] }).objs.size,[(s.heap.push { cls:=.type "range",data:=.fields #[.int lo t,.int hi u,.int 1 v] }).objs.size],_,_,H,rfl,
  I1.kept (t':=tk) fun b o e=>Heap.get?_push_of_some _ e,turn_range _ lo (hi - lo).toNat,?_,fun b hb=>?_,q⟩
 ·have e1:lo+((0:Nat):Int) * 1=lo:=by simp
  have e2:(((hi - lo).toNat:Nat):Int) - ((0:Nat):Int)=Builtin.Range.rangeSize lo hi 1:=by rw [rangeSize_one]; split <;> omega
  show IsRangeIter _ _ (lo+((0:Nat):Int) * 1) ((((hi - lo).toNat:Nat):Int) - ((0:Nat):Int)) 1
  rw [e1,e2]
  exact Heap.get?_push_size _ rfl
 ·have e:b=(s.heap.push { cls:=.type "range",data:=.fields #[.int lo t,.int hi u,.int 1 v] }).objs.size:=by simpa using hb
  subst e
  exact I1.fpOk (Nat.le_refl _) (I1.hok.fresh (Nat.le_refl _))
def iRng1 (ta:TA):TI:=fun σ H R=>ta σ H fun vs H1=>∃ j:Int,vs=[.int j]∧-(2 ^ 62)≤j∧j < 2 ^ 62∧R (Itr 0 j.toNat) H1
def iRng2 (ta:TA):TI:=fun σ H R=>ta σ H fun vs H1=>∃ i j:Int,vs=[.int i,.int j]∧(-(2 ^ 62)≤i∧i < 2 ^ 62∧-(2 ^ 62)≤j∧j < 2 ^ 62)∧R (Itr i (j - i).toNat) H1
theorem pi_range1 {a:Expr}{ta:TA}{p pos:Pos}(hg:Gl X "range")(hm:X.mg "range"=none)(ha:PA X [a] ta)(hs:starEach [a] X.env=[(false,eval a X.env)]:=by rfl):PI X tg (.Call (.Name "range" p) [a] [] pos) (iRng1 ta):=by
 intro pins s σ H R I h
 refine Call_ (ld_blt I hg hm boot_range (PyProof.Rows.callWith_type1 (thn (ha pos pins s σ H _ I h) fun us s1 ⟨vs,H1,I1,r1,q1⟩=>?_) hs rfl))
 obtain ⟨j,e,q1,q2,q⟩:=q1
 subst e
 cases r1 with
 | cons r rr =>
  cases rr
  obtain ⟨t,rfl⟩:=r
  exact call_range_1 (range_it I1 (by omega) (by omega) q1 q2 (by simpa using q))
def tFor (wi:TI)(g:TG)(tb:TS):TS:=fun D σ H=>wi σ H fun J H1=>∃ W:Nat→Nat→St→Hp→Prop,(∃ m,W 0 m σ H1)∧∀ i m σ H,W i m σ H →
 (J.stop i H∧D.nx σ H)∨(J.go i H∧∃ N:St→Hp→Prop,(∀ σ' H',N σ' H'→∃ m',m' < m∧W (i+1) m' σ' H')∧∀ x H',J.yld i H x H'→g x σ H' fun σ2 H2=>tb { D with nx:=N,ct:=N,bk:=D.nx } σ2 H2)
def pinsAt (fp:List Addr)(h:Heap):List (Addr × Obj):=fp.filterMap fun b=>(h.get? b).map fun o=>(b,o)
theorem mem_pinsAt {fp:List Addr}{h:Heap}{b:Addr}{o:Obj}(hb:b∈fp)(e:h.get? b=some o):(b,o)∈pinsAt fp h:=List.mem_filterMap.mpr ⟨b,hb,by rw [e]; rfl⟩
theorem of_pinsAt {fp:List Addr}{h:Heap}{p:Addr × Obj}(hp:p∈pinsAt fp h):p.1∈fp∧h.get? p.1=some p.2:=by
 obtain ⟨b,hb,e⟩:=List.mem_filterMap.mp hp
 cases q:h.get? b with
 | none=>rw [q] at e; cases e
 | some o =>
  rw [q] at e
  have e':(b,o)=p:=Option.some.inj e
  subst e'
  exact ⟨hb,q⟩
theorem Inv.pinned {pins:List (Addr × Obj)}{σ:St}{H:Hp}{s:Shared}{fp:List Addr}(I:Inv X pins σ H s)(hf:∀ b∈fp,FpOk X pins H b)(ho:∀ b∈fp,∃ o,s.heap.get? b=some o∧∀ v,o.data≠.cell v):Inv X (pins++pinsAt fp s.heap) σ H s :=
 I.pins_of fun p hp=>(List.mem_append.mp hp).elim (fun z=>I.pin p (List.mem_append_right _ z)) fun z=>by
  obtain ⟨hb,e⟩:=of_pinsAt z
  obtain ⟨f0,f1,f2,_⟩:=hf p.1 hb
  obtain ⟨o,e',d⟩:=ho p.1 hb
  rw [e] at e'; cases e'
  exact ⟨e,f0,f1,f2,d⟩
theorem Inv.unpinned {pins pl:List (Addr × Obj)}{σ:St}{H:Hp}{s:Shared}(I:Inv X (pins++pl) σ H s):Inv X pins σ H s:=I.pins_of fun p hp=>I.pin p (List.mem_append_right _ (List.mem_append_left _ hp))
theorem ps_for {iter:Expr}{body:List Stmt}{wi:TI}{g:TG}{tb:TS}{pos:Pos}(hp:PassesOwn (model X.prog X.w) X.A X.env X.xe)(hc:X.calm=true)(hi:PI X tg iter wi)(hg:PG X tg g)(hb:PSs X body tb)(hs:∀ x,foldedSetIterable iter X.env x=pure x:=by intro _; rfl):PS X (.For tg iter body [] pos) (tFor wi g tb):=by
 intro pins s σ H D I h
 refine wpAny_For (thn (hi pins s σ H _ I h) fun v s1 h1=>thn h1 fun itv s2 h2=>?_) hs
 obtain ⟨it,fp,tn,J,H2,e,I2,T,st2,f2,W,⟨m0,w0⟩,turn⟩:=h2
 subst e
 -- what stays true of the iterator's objects through the loop
 have stat:∀ {H':Hp},(∀ b∈fp,H' b=none)→∀ b∈fp,FpOk X pins H' b:=fun hn b hb=>⟨hn b hb,(f2 b hb).2⟩
 refine codeAny_forLoop_any (fun n s'=>∃ i σ' H',Inv X pins σ' H' s'∧tn i s'.heap∧(∀ b∈fp,H' b=none)∧W i n σ' H') ?_ m0 ⟨0,σ,H2,I2,st2,fun b hb=>(f2 b hb).1,w0⟩
 rintro n s3 ⟨i,σ3,H3,I3,st3,fr3,w3⟩
 rcases turn i n σ3 H3 w3 with ⟨stop,qn⟩ | ⟨go,N,hN,step⟩
 ·refine wpAny_passesOwn hp (thn (T.done X rfl rfl rfl hc i pins s3 σ3 H3 X.xe I3 (stat fr3) st3 stop) fun r s4 ⟨hr,I4⟩=>?_)
  subst hr
  exact wpAny_execs_nil ⟨σ3,H3,I4,qn⟩
 ·refine wpAny_passesOwn hp (thn (T.item X rfl rfl rfl hc i pins s3 σ3 H3 X.xe I3 (stat fr3) st3 go) fun r s4 ⟨u,hr,h4⟩=>?_)
  subst hr
  refine wpAny_passesOwn hp (thn h4 fun _ s5 ⟨x,H5,I5,r5,y5,st5,fr5⟩=>?_)
  have I5':=I5.pinned (stat fr5) (T.obj _ _ st5)
  refine wpAny_passesOwn hp (thn (hg _ s5 σ3 H5 x u _ I5' r5 (step x H5 y5)) fun _ s6 ⟨σ6,H6,I6,q6⟩=>?_)
  refine wpAny_passesOwn hp (thn (hb _ s6 σ6 H6 _ I6 q6) fun f s7 q7=>?_)
  have again:∀ {σ7:St}{H7:Hp},Inv X (pins++pinsAt fp s5.heap) σ7 H7 s7→N σ7 H7→∃ m,m < n∧∃ i σ' H',Inv X pins σ' H' s7∧tn i s7.heap∧(∀ b∈fp,H' b=none)∧W i m σ' H':=fun {σ7 H7} I7 n7=>by
   obtain ⟨m',hm,w7⟩:=hN σ7 H7 n7
   refine ⟨m',hm,i+1,σ7,H7,I7.unpinned,T.keep _ _ _ st5 fun b hb o e=>(I7.pin (b,o) (List.mem_append_right _ (List.mem_append_right _ (mem_pinsAt hb e)))).1,fun b hb=>?_,w7⟩
   obtain ⟨o,e,d⟩:=T.obj _ _ st5 b hb
   exact (I7.pin (b,o) (List.mem_append_right _ (List.mem_append_right _ (mem_pinsAt hb e)))).2.1
  cases f with
  | next=>obtain ⟨σ7,H7,I7,n7⟩:=q7; exact again I7 n7
  | cont=>obtain ⟨σ7,H7,I7,n7⟩:=q7; exact again I7 n7
  | brk=>obtain ⟨σ7,H7,I7,q7⟩:=q7; exact ⟨σ7,H7,I7.unpinned,q7⟩
  | ret v=>obtain ⟨x7,σ7,H7,I7,r7,q7⟩:=q7; exact ⟨x7,σ7,H7,I7.unpinned,r7,q7⟩
end
theorem for_list {K:Frag}{a:Addr}{xs:List V}{g:TG}{tb:TS}{D:Ends}{σ:St}{H:Hp}(Pv:Nat→St→Hp→Prop)(h0:Pv 0 σ H)(hl:∀ i σ H,i≤xs.length→Pv i σ H→SqL K H a xs)(hs:∀ i x σ H,xs[i]?=some x→Pv i σ H→g x σ H fun σ2 H2=>tb { D with nx:=Pv (i+1),ct:=Pv (i+1),bk:=D.nx } σ2 H2)(hd:∀ σ H,Pv xs.length σ H→D.nx σ H) :
  ∃ W:Nat→Nat→St→Hp→Prop,(∃ m,W 0 m σ H)∧∀ i m σ H,W i m σ H →
   ((Itl K a).stop i H∧D.nx σ H)∨((Itl K a).go i H∧∃ N:St→Hp→Prop,(∀ σ' H',N σ' H'→∃ m',m' < m∧W (i+1) m' σ' H')∧∀ x H',(Itl K a).yld i H x H'→g x σ H' fun σ2 H2=>tb { D with nx:=N,ct:=N,bk:=D.nx } σ2 H2):=by
 refine ⟨fun i m σ H=>m=xs.length - i∧i≤xs.length∧Pv i σ H,⟨xs.length,by simp,Nat.zero_le _,h0⟩,?_⟩
 rintro i m σ H ⟨rfl,hi,p⟩
 have q:=hl i σ H hi p
 by_cases hlt:i < xs.length
 ·refine .inr ⟨⟨xs,xs[i],q,by simp [hlt]⟩,Pv (i+1),fun σ' H' p'=>⟨xs.length - (i+1),by omega,rfl,hlt,p'⟩,fun x H' y=>?_⟩
  obtain ⟨e,y⟩:=y
  subst e
  exact hs i x σ _ (y xs q) p
 ·have e:i=xs.length:=by omega
  subst e
  exact .inl ⟨⟨xs,q,Nat.le_refl _⟩,hd σ H p⟩
theorem for_tup {K:Frag}{a:Addr}{xs:List V}{g:TG}{tb:TS}{D:Ends}{σ:St}{H:Hp}(Pv:Nat→St→Hp→Prop)(h0:Pv 0 σ H)(hl:∀ i σ H,i≤xs.length→Pv i σ H→SqT K H a xs)(hs:∀ i x σ H,xs[i]?=some x→Pv i σ H→g x σ H fun σ2 H2=>tb { D with nx:=Pv (i+1),ct:=Pv (i+1),bk:=D.nx } σ2 H2)(hd:∀ σ H,Pv xs.length σ H→D.nx σ H) :
  ∃ W:Nat→Nat→St→Hp→Prop,(∃ m,W 0 m σ H)∧∀ i m σ H,W i m σ H →
   ((Itt K a).stop i H∧D.nx σ H)∨((Itt K a).go i H∧∃ N:St→Hp→Prop,(∀ σ' H',N σ' H'→∃ m',m' < m∧W (i+1) m' σ' H')∧∀ x H',(Itt K a).yld i H x H'→g x σ H' fun σ2 H2=>tb { D with nx:=N,ct:=N,bk:=D.nx } σ2 H2):=by
 refine ⟨fun i m σ H=>m=xs.length - i∧i≤xs.length∧Pv i σ H,⟨xs.length,by simp,Nat.zero_le _,h0⟩,?_⟩
 rintro i m σ H ⟨rfl,hi,p⟩
 have q:=hl i σ H hi p
 by_cases hlt:i < xs.length
 ·refine .inr ⟨⟨xs,xs[i],q,by simp [hlt]⟩,Pv (i+1),fun σ' H' p'=>⟨xs.length - (i+1),by omega,rfl,hlt,p'⟩,fun x H' y=>?_⟩
  obtain ⟨e,y⟩:=y
  subst e
  exact hs i x σ _ (y xs q) p
 ·have e:i=xs.length:=by omega
  subst e
  exact .inl ⟨⟨xs,q,Nat.le_refl _⟩,hd σ H p⟩
theorem for_range {lo:Int}{n:Nat}{g:TG}{tb:TS}{D:Ends}{σ:St}{H:Hp}(Pv:Nat→St→Hp→Prop)(h0:Pv 0 σ H)(hs:∀ i σ H,i < n→Pv i σ H→g (.int (lo+i)) σ H fun σ2 H2=>tb { D with nx:=Pv (i+1),ct:=Pv (i+1),bk:=D.nx } σ2 H2)(hd:∀ σ H,Pv n σ H→D.nx σ H) :
  ∃ W:Nat→Nat→St→Hp→Prop,(∃ m,W 0 m σ H)∧∀ i m σ H,W i m σ H →
   ((Itr lo n).stop i H∧D.nx σ H)∨((Itr lo n).go i H∧∃ N:St→Hp→Prop,(∀ σ' H',N σ' H'→∃ m',m' < m∧W (i+1) m' σ' H')∧∀ x H',(Itr lo n).yld i H x H'→g x σ H' fun σ2 H2=>tb { D with nx:=N,ct:=N,bk:=D.nx } σ2 H2):=by
 refine ⟨fun i m σ H=>m=n - i∧i≤n∧Pv i σ H,⟨n,by simp,Nat.zero_le _,h0⟩,?_⟩
 rintro i m σ H ⟨rfl,hi,p⟩
 by_cases hlt:i < n
 ·refine .inr ⟨hlt,Pv (i+1),fun σ' H' p'=>⟨n - (i+1),by omega,rfl,hlt,p'⟩,fun x H' y=>?_⟩
  obtain ⟨e,y⟩:=y
  subst e y
  exact hs i σ _ hlt p
 ·have e:i=n:=by omega
  subst e
  exact .inl ⟨Nat.le_refl _,hd σ H p⟩
abbrev R2:=V→V→Hp→VK→Prop
def OpR (X:Cx)(f:Value→Value→Sem Value)(r:R2):Prop :=
 ∀ (pins:List (Addr × Obj)) (s:Shared) (σ:St) (H:Hp) (x y:V) (v u:Value) (Q:VK),Inv X pins σ H s→RelV x v→RelV y u→r x y H Q →
  wpAny (model X.prog X.w) X.A (f v u) (EP X pins σ Q) X.xe s
def CallR (X:Cx)(f:Value)(r:List V→Hp→VK→Prop):Prop :=
 ∀ (pins:List (Addr × Obj)) (s:Shared) (σ:St) (H:Hp) (xs:List V) (us:List Value) (Q:VK),Inv X pins σ H s→Vals xs us→r xs H Q →
  wpAny (model X.prog X.w) X.A (call f us) (EP X pins σ Q) X.xe s
def tOp (r:R2)(ta tb:TE):TE:=fun σ H Q=>ta σ H fun x H1=>tb σ H1 fun y H2=>r x y H2 Q
def tUn (r:V→Hp→VK→Prop)(ta:TE):TE:=fun σ H Q=>ta σ H fun x H1=>r x H1 Q
def rI (C:Int→Int→Prop)(g:Int→Int→V):R2:=fun x y H Q=>∃ i j,x=.int i∧y=.int j∧C i j∧Q (g i j) H
def rI0 (g:Int→Int→V):R2:=fun x y H Q=>∃ i j,x=.int i∧y=.int j∧Q (g i j) H
def rU (g:Int→V):V→Hp→VK→Prop:=fun x H Q=>∃ i,x=.int i∧Q (g i) H
section
variable {X:Cx}{a b c:Expr}{ta tb tc:TE}{pos:Pos}
theorem binT (ha:PE X a ta)(hb:PE X b tb){pins:List (Addr × Obj)}{s:Shared}{σ:St}{H:Hp}{R:V→V→Hp→Prop}(I:Inv X pins σ H s)(h:ta σ H fun x H1=>tb σ H1 fun y H2=>R x y H2){Q:Value→Shared→Prop}{f:Value→Value→Sem Value}(hf:∀ v u s2 x y H2,Inv X pins σ H2 s2→RelV x v→RelV y u→R x y H2→wpAny (model X.prog X.w) X.A (f v u) Q X.xe s2) :
  wpAny (model X.prog X.w) X.A (eval a X.env) (fun v s₁=>wpAny (model X.prog X.w) X.A (eval b X.env) (fun u s₂=>wpAny (model X.prog X.w) X.A (f v u) Q X.xe s₂) X.xe s₁) X.xe s:=by
 refine thn (ha pins s σ H _ I h) fun v s1 ⟨x,H1,I1,r1,q1⟩=>?_
 refine thn (hb pins s1 σ H1 _ I1 q1) fun u s2 ⟨y,H2,I2,r2,q2⟩=>?_
 exact hf v u s2 x y H2 I2 r1 r2 q2
theorem pe_op {op:Operator}{r:R2}(ho:OpR X (binaryOp op) r)(ha:PE X a ta)(hb:PE X b tb):PE X (.BinOp a op b pos) (tOp r ta tb):=by
 intro pins s σ H Q I h
 exact wpAny_BinOp (binT ha hb I h fun v u s2 x y H2 I2 rx ry q=>ho pins s2 σ H2 x y v u Q I2 rx ry q)
theorem opI {f:Value→Value→Sem Value}{C:Int→Int→Prop}{g:Int→Int→Int}(rule:∀ (i j:Int) (t u:Tok) (s:Shared) (Q:Value→Shared→Prop) (E:Value→Shared→Prop),C i j→Q (.int (g i j) s.toks) { s with toks:=s.toks+1 }→wpAny (model X.prog X.w) X.A (f (.int i t) (.int j u)) Q E s) :
  OpR X f (rI C fun i j=>.int (g i j)):=by
 intro pins s σ H x y v u Q I rx ry h
 obtain ⟨i,j,rfl,rfl,hc,q⟩:=h
 obtain ⟨t,rfl⟩:=rx
 obtain ⟨t',rfl⟩:=ry
 exact rule i j t t' s _ _ hc ⟨.int (g i j),H,I.tok _,⟨_,rfl⟩,q⟩
theorem opI0 {f:Value→Value→Sem Value}{g:Int→Int→Int}(rule:∀ (i j:Int) (t u:Tok) (s:Shared) (Q:Value→Shared→Prop) (E:Value→Shared→Prop),Q (.int (g i j) s.toks) { s with toks:=s.toks+1 }→wpAny (model X.prog X.w) X.A (f (.int i t) (.int j u)) Q E s) :
  OpR X f (rI0 fun i j=>.int (g i j)):=by
 intro pins s σ H x y v u Q I rx ry h
 obtain ⟨i,j,rfl,rfl,q⟩:=h
 obtain ⟨t,rfl⟩:=rx
 obtain ⟨t',rfl⟩:=ry
 exact rule i j t t' s _ _ ⟨.int (g i j),H,I.tok _,⟨_,rfl⟩,q⟩
theorem opB0 {f:Value→Value→Sem Value}{g:Int→Int→Bool}(rule:∀ (i j:Int) (t u:Tok) (s:Shared) (Q:Value→Shared→Prop) (E:Value→Shared→Prop),Q (.bool (g i j)) s→wpAny (model X.prog X.w) X.A (f (.int i t) (.int j u)) Q E s) :
  OpR X f (rI0 fun i j=>.bl (g i j)):=by
 intro pins s σ H x y v u Q I rx ry h
 obtain ⟨i,j,rfl,rfl,q⟩:=h
 obtain ⟨t,rfl⟩:=rx
 obtain ⟨t',rfl⟩:=ry
 exact rule i j t t' s _ _ ⟨.bl (g i j),H,I,rfl,q⟩
def CPow (i j:Int):Prop:=0≤j∧j≤1000000∧i.natAbs < 2 ^ 64
def CMul (i j:Int):Prop:=(-(2 ^ 64) < i∧i < 2 ^ 64)∨(-(2 ^ 64) < j∧j < 2 ^ 64)
theorem CMul.ok {i j:Int}(h:CMul i j):IntMulOk i j:=by
 rcases h with ⟨h1,h2⟩ | ⟨h1,h2⟩
 ·exact .of_left (intBits_le_64 h1 h2)
 ·exact .of_right (intBits_le_64 h1 h2)
theorem op_add:OpR X (binaryOp .Add) (rI0 fun i j=>.int (i+j)):=opI0 fun _ _ _ _ _ _ _ q=>add_int q
theorem op_sub:OpR X (binaryOp .Sub) (rI0 fun i j=>.int (i - j)):=opI0 fun _ _ _ _ _ _ _ q=>sub_int q
theorem op_mul:OpR X (binaryOp .Mult) (rI CMul fun i j=>.int (i * j)):=opI fun _ _ _ _ _ _ _ hc q=>mul_int q hc.ok
theorem op_mod:OpR X (binaryOp .Mod) (rI (fun _ j=>0 < j) fun i j=>.int (i % j)):=opI fun i j _ _ _ _ _ hc q=>by
 have h1:(0:Int) < j:=hc
 exact mod_int' (by omega) (by rw [Int.fmod_eq_emod_of_nonneg i (by omega)]; exact q)
theorem op_pow:OpR X (binaryOp .Pow) (rI CPow fun i j=>.int (i ^ j.toNat)):=opI fun _ _ _ _ _ _ _ hc q=>pow_int_small hc.1 hc.2.1 hc.2.2 q
theorem op_and:OpR X (binaryOp .BitAnd) (rI0 fun i j=>.int (Builtin.bitAnd i j)):=opI0 fun _ _ _ _ _ _ _ q=>and_int q
theorem op_or:OpR X (binaryOp .BitOr) (rI0 fun i j=>.int (Builtin.bitOr i j)):=opI0 fun _ _ _ _ _ _ _ q=>or_int q
theorem op_xor:OpR X (binaryOp .BitXor) (rI0 fun i j=>.int (Builtin.bitXor i j)):=opI0 fun _ _ _ _ _ _ _ q=>xor_int q
theorem iop_add:OpR X (inplaceOp .Add) (rI0 fun i j=>.int (i+j)):=opI0 fun _ _ _ _ _ _ _ q=>iadd_int q
end
def scal:V→V→Bool
 | .non,.non=>true | .non,.int _=>true | .int _,.non=>true | .non,.bl _=>true | .bl _,.non=>true | .non,.str _=>true | .str _,.non=>true
 | .int _,.int _=>true | .bl _,.bl _=>true | .str _,.str _=>true | .byt _,.byt _=>true
 | .int _,.str _=>true | .str _,.int _=>true | .bl _,.str _=>true | .str _,.bl _=>true
 | _,_=>false
def rEq:R2:=fun x y H Q=>scal x y=true∧Q (.bl (decide (x=y))) H
def rNe:R2:=fun x y H Q=>scal x y=true∧Q (.bl (!decide (x=y))) H
theorem dec_int {i j:Int}:decide (V.int i=V.int j)=(i == j):=by
 rw [Bool.eq_iff_iff]
 simp
theorem dec_bl {i j:Bool}:decide (V.bl i=V.bl j)=(i == j):=by
 rw [Bool.eq_iff_iff]
 simp
theorem dec_str {i j:Str}:decide (V.str i=V.str j)=(i == j):=by
 rw [Bool.eq_iff_iff]
 simp
theorem dec_byt {i j:Array UInt8}:decide (V.byt i=V.byt j)=(i.toList == j.toList):=by
 rw [Bool.eq_iff_iff]
 cases i
 cases j
 simp
section
variable {X:Cx}{a b c:Expr}{ta tb tc:TE}{pos:Pos}
theorem fin_bl {pins:List (Addr × Obj)}{σ:St}{H:Hp}{s:Shared}{Q:VK}{k k':Bool}(I:Inv X pins σ H s)(q:Q (.bl k) H)(e:k=k'):EP X pins σ Q (.bool k') s:=by
 subst e
 exact ⟨.bl k,H,I,rfl,q⟩
theorem op_eq:OpR X (compareOp .Eq) rEq:=by
 intro pins s σ H x y v u Q I rx ry h
 obtain ⟨hs,q⟩:=h
 cases x with
 | non =>
  cases rx
  cases y with
  | non=>cases ry; exact PySem.EqNone.eq_none_none (fin_bl I q (by simp))
  | bl j=>cases ry; exact PySem.EqNone.eq_none_bool (fin_bl I q (by simp))
  | int j=>obtain ⟨t',rfl⟩:=ry; exact PySem.EqNone.eq_none_int (fin_bl I q (by simp))
  | str j=>obtain ⟨t',rfl⟩:=ry; exact PySem.EqNone.eq_none_str (fin_bl I q (by simp))
  | _=>exact absurd (show false=true from hs) Bool.false_ne_true
 | bl i =>
  cases rx
  cases y with
  | non=>cases ry; exact PySem.EqNone.eq_bool_none (fin_bl I q (by simp))
  | bl j=>cases ry; exact eq_bool (fin_bl I q dec_bl)
  | str j=>obtain ⟨t',rfl⟩:=ry; exact PySem.EqMixed.eq_bool_str (fin_bl I q (by simp))
  | _=>exact absurd (show false=true from hs) Bool.false_ne_true
 | int i =>
  obtain ⟨t,rfl⟩:=rx
  cases y with
  | non=>cases ry; exact PySem.EqNone.eq_int_none (fin_bl I q (by simp))
  | int j=>obtain ⟨t',rfl⟩:=ry; exact eq_int (fin_bl I q dec_int)
  | str j=>obtain ⟨t',rfl⟩:=ry; exact PySem.EqMixed.eq_int_str (fin_bl I q (by simp))
  | _=>exact absurd (show false=true from hs) Bool.false_ne_true
 | str i =>
  obtain ⟨t,rfl⟩:=rx
  cases y with
  | non=>cases ry; exact PySem.EqNone.eq_str_none (fin_bl I q (by simp))
  | bl j=>cases ry; exact PySem.EqMixed.eq_str_bool (fin_bl I q (by simp))
  | int j=>obtain ⟨t',rfl⟩:=ry; exact PySem.EqMixed.eq_str_int (fin_bl I q (by simp))
  | str j=>obtain ⟨t',rfl⟩:=ry; exact eq_str (fin_bl I q dec_str)
  | _=>exact absurd (show false=true from hs) Bool.false_ne_true
 | byt i =>
  obtain ⟨t,rfl⟩:=rx
  cases y with
  | byt j=>obtain ⟨t',rfl⟩:=ry; exact eq_bytes (fin_bl I q dec_byt)
  | _=>exact absurd (show false=true from hs) Bool.false_ne_true
 | _=>cases y <;> exact absurd (show false=true from hs) Bool.false_ne_true
theorem op_ne:OpR X (compareOp .NotEq) rNe:=by
 intro pins s σ H x y v u Q I rx ry h
 obtain ⟨hs,q⟩:=h
 cases x with
 | non =>
  cases rx
  cases y with
  | non=>cases ry; exact PySem.EqNone.ne_none_none (fin_bl I q (by simp))
  | bl j=>cases ry; exact PySem.EqNone.ne_none_bool (fin_bl I q (by simp))
  | int j=>obtain ⟨t',rfl⟩:=ry; exact PySem.EqNone.ne_none_int (fin_bl I q (by simp))
  | str j=>obtain ⟨t',rfl⟩:=ry; exact PySem.EqNone.ne_none_str (fin_bl I q (by simp))
  | _=>exact absurd (show false=true from hs) Bool.false_ne_true
 | bl i =>
  cases rx
  cases y with
  | non=>cases ry; exact PySem.EqNone.ne_bool_none (fin_bl I q (by simp))
  | bl j=>cases ry; exact ne_bool (fin_bl I q (congrArg not dec_bl))
  | str j=>obtain ⟨t',rfl⟩:=ry; exact PySem.EqMixed.ne_bool_str (fin_bl I q (by simp))
  | _=>exact absurd (show false=true from hs) Bool.false_ne_true
 | int i =>
  obtain ⟨t,rfl⟩:=rx
  cases y with
  | non=>cases ry; exact PySem.EqNone.ne_int_none (fin_bl I q (by simp))
  | int j=>obtain ⟨t',rfl⟩:=ry; exact ne_int (fin_bl I q (congrArg not dec_int))
  | str j=>obtain ⟨t',rfl⟩:=ry; exact PySem.EqMixed.ne_int_str (fin_bl I q (by simp))
  | _=>exact absurd (show false=true from hs) Bool.false_ne_true
 | str i =>
  obtain ⟨t,rfl⟩:=rx
  cases y with
  | non=>cases ry; exact PySem.EqNone.ne_str_none (fin_bl I q (by simp))
  | bl j=>cases ry; exact PySem.EqMixed.ne_str_bool (fin_bl I q (by simp))
  | int j=>obtain ⟨t',rfl⟩:=ry; exact PySem.EqMixed.ne_str_int (fin_bl I q (by simp))
  | str j=>obtain ⟨t',rfl⟩:=ry; exact ne_str (fin_bl I q (congrArg not dec_str))
  | _=>exact absurd (show false=true from hs) Bool.false_ne_true
 | byt i =>
  obtain ⟨t,rfl⟩:=rx
  cases y with
  | byt j=>obtain ⟨t',rfl⟩:=ry; exact ne_bytes (fin_bl I q (congrArg not dec_byt))
  | _=>exact absurd (show false=true from hs) Bool.false_ne_true
 | _=>cases y <;> exact absurd (show false=true from hs) Bool.false_ne_true
theorem op_lt:OpR X (compareOp .Lt) (rI0 fun i j=>.bl (decide (i < j))):=opB0 fun _ _ _ _ _ _ _ q=>lt_int q
theorem op_le:OpR X (compareOp .LtE) (rI0 fun i j=>.bl (decide (i≤j))):=opB0 fun _ _ _ _ _ _ _ q=>le_int q
theorem op_gt:OpR X (compareOp .Gt) (rI0 fun i j=>.bl (decide (j < i))):=opB0 fun _ _ _ _ _ _ _ q=>gt_int q
theorem op_ge:OpR X (compareOp .GtE) (rI0 fun i j=>.bl (decide (j≤i))):=opB0 fun _ _ _ _ _ _ _ q=>ge_int q
theorem op_in_str:OpR X (compareOp .In) (fun x y H Q=>∃ i j,x=.str i∧y=.str j∧Q (.bl (!(Builtin.Str.occurrences j i 0 j.length 1).isEmpty)) H):=by
 intro pins s σ H x y v u Q I rx ry h
 obtain ⟨i,j,rfl,rfl,q⟩:=h
 obtain ⟨t,rfl⟩:=rx
 obtain ⟨t',rfl⟩:=ry
 exact in_str (fin_bl I q rfl)
theorem OpR.or {f:Value→Value→Sem Value}{r r':R2}(h:OpR X f r)(h':OpR X f r'):OpR X f (fun x y H Q=>r x y H Q∨r' x y H Q):=by
 intro pins s σ H x y v u Q I rx ry q
 rcases q with q | q
 ·exact h pins s σ H x y v u Q I rx ry q
 ·exact h' pins s σ H x y v u Q I rx ry q
theorem nomark (b:Expr){op:CmpOp}(h:op≠.In:=by decide)(h2:op≠.NotIn:=by decide):behindInMarks op b=false:=by
 have e1:(op == CmpOp.In)=false:=by cases op <;> first | rfl | exact absurd rfl h
 have e2:(op == CmpOp.NotIn)=false:=by cases op <;> first | rfl | exact absurd rfl h2
 cases b <;> simp [behindInMarks,e1,e2]
theorem pe_cmpR {op:CmpOp}{r:R2}(ho:OpR X (compareOp op) r)(ha:PE X a ta)(hb:PE X b tb)(hm:behindInMarks op b=false):PE X (.Compare a [op] [b] pos) (tOp r ta tb):=by
 intro pins s σ H Q I h
 exact wpAny_Compare1 (binT ha hb I h fun v u s2 x y H2 I2 rx ry q=>ho pins s2 σ H2 x y v u Q I2 rx ry q) hm
def tTest (t:TE):TT:=fun σ H Q=>t σ H fun x H'=>∃ k,x=.bl k∧Q k H'
theorem pt_cmpR {op:CmpOp}{r:R2}(ho:OpR X (compareOp op) r)(ha:PE X a ta)(hb:PE X b tb)(hm:behindInMarks op b=false):PT X (.Compare a [op] [b] pos) (tTest (tOp r ta tb)):=by
 intro pins s σ H Q I h
 refine wpAny_isTrue_Compare1 (thn (ha pins s σ H _ I h) fun v s1 ⟨x,H1,I1,r1,q1⟩=>thn (hb pins s1 σ H1 _ I1 q1) fun u s2 ⟨y,H2,I2,r2,q2⟩ =>
  thn (ho pins s2 σ H2 x y v u _ I2 r1 r2 q2) fun c s3 ⟨z,H3,I3,r3,k,e,q3⟩=>?_) hm
 subst e
 cases r3
 exact wpAny_truthy_bool ⟨H3,I3,q3⟩
def tChain (r r':R2)(ta tb tc:TE):TE:=fun σ H Q=>ta σ H fun x H1=>tb σ H1 fun y H2=>r x y H2 fun z H3=>∃ k,z=.bl k ∧
 (if k=true then tc σ H3 fun w' H4=>r' y w' H4 Q else Q (.bl false) H3)
theorem line63:(sizeLine:Nat) < 2 ^ 63:=by rw [sizeLine_eq]; decide
theorem op_add_str:OpR X (binaryOp .Add) (fun x y H Q=>∃ i j,x=.str i∧y=.str j∧i.length+j.length≤sizeLine∧Q (.str (i++j)) H):=by
 intro pins s σ H x y v u Q I rx ry h
 obtain ⟨i,j,rfl,rfl,hz,q⟩:=h
 obtain ⟨t,rfl⟩:=rx
 obtain ⟨t',rfl⟩:=ry
 exact add_str (fun t' tk=>⟨.str (i++j),H,I.tok _,⟨_,rfl⟩,q⟩) hz
theorem vals1 {x:V}{us:List Value}(r:Vals [x] us):∃ u,us=[u]∧RelV x u:=by
 cases r with
 | cons r1 r2=>cases r2; exact ⟨_,rfl,r1⟩
theorem vals2 {x y:V}{us:List Value}(r:Vals [x,y] us):∃ u w',us=[u,w']∧RelV x u∧RelV y w':=by
 cases r with
 | cons r1 r2 =>
  cases r2 with
  | cons r3 r4=>cases r4; exact ⟨_,_,rfl,r1,r3⟩
theorem call_int1:CallR X (.type "int") (fun xs H Q=>(∃ i,xs=[.int i]∧Q (.int i) H)∨∃ k,xs=[.bl k]∧Q (.int (if k then 1 else 0)) H):=by
 intro pins s σ H xs us Q I r h
 rcases h with ⟨i,rfl,q⟩ | ⟨k,rfl,q⟩
 ·obtain ⟨u,rfl,t,rfl⟩:=vals1 r
  exact call_int_int ⟨.int i,H,I,⟨_,rfl⟩,q⟩
 ·obtain ⟨u,rfl,r1⟩:=vals1 r
  cases r1
  exact call_int_bool ⟨.int (if k then 1 else 0),H,I.tok _,⟨_,rfl⟩,q⟩
def LenV (K:Frag)(x:V)(H:Hp)(n:Nat):Prop :=
 match x with
 | .str y=>y.length≤sizeLine∧n=y.length
 | .byt y=>y.size≤sizeLine∧n=y.size
 | .ref p=>(∃ xs,SqL K H p xs∧n=xs.length)∨∃ xs,SqT K H p xs∧n=xs.length
 | _=>False
theorem call_len:CallR X (.builtin "len") (fun xs H Q=>∃ x n,xs=[x]∧LenV X.K x H n∧Q (.int n) H):=by
 intro pins s σ H xs us Q I r h
 obtain ⟨x,n,rfl,e,q⟩:=h
 obtain ⟨u,rfl,rx⟩:=vals1 r
 have hl:=line63
 have hs:sizeLine=16777216:=sizeLine_eq
 cases x with
 | str y =>
  obtain ⟨t,rfl⟩:=rx
  obtain ⟨hy,e'⟩:y.length≤sizeLine∧n=y.length:=e
  subst e'
  exact len_str (by omega) ⟨.int _,H,I.tok _,⟨_,rfl⟩,q⟩
 | byt y =>
  obtain ⟨t,rfl⟩:=rx
  obtain ⟨hy,e'⟩:y.size≤sizeLine∧n=y.size:=e
  subst e'
  exact len_bytes (by omega) ⟨.int _,H,I.tok _,⟨_,rfl⟩,q⟩
 | ref p =>
  cases rx
  have e':(∃ xs,SqL X.K H p xs∧n=xs.length)∨∃ xs,SqT X.K H p xs∧n=xs.length:=e
  rcases e' with ⟨xs,hx,e'⟩ | ⟨xs,hx,e'⟩
  ·subst e'
   obtain ⟨its,r',pl,hz⟩:=I.list hx
   have hlen:=r'.length
   exact Calls.call_len_list pl.isList (by simp only [List.size_toArray]; omega) ⟨.int xs.length,H,I.tok _,⟨_,by simp only [List.size_toArray]; rw [hlen]⟩,q⟩
  ·subst e'
   obtain ⟨its,r',pl,hz⟩:=I.tuple hx
   have hlen:=r'.length
   exact len_tuple pl (by simp only [List.size_toArray]; omega) ⟨.int xs.length,H,I.tok _,⟨_,by simp only [List.size_toArray]; rw [hlen]⟩,q⟩
 | _=>exact (show False from e).elim
end
structure ObjM (h:Heap) (x dx C:Addr) (mA:Str→Option Value):Prop where
 obj:h.get? x=some (instObj C dx)
 ns:h.Ns1 dx mA
 ne:dx≠x
theorem lookIn_ns {h:Heap}{dx:Addr}{mA:Str→Option Value}(n:h.Ns1 dx mA):∃ od,h.get? dx=some od∧∀ name,lookIn name od=some (mA name):=by
 obtain ⟨o,es,ep,ho,hd,hk,_,hm⟩:=n
 refine ⟨o,ho,fun name=>?_⟩
 have e:=hm name
 unfold nsFind findBy at e
 rw [← Array.find?_toList] at e
 unfold lookIn
 rw [hd]
 dsimp only
 split
 ·rename_i y q
  rw [q] at e
  exact congrArg some e
 ·rename_i q
  rw [q] at e
  have a:es.toList.any (·.refKey)=false:=by
   rw [List.any_eq_false]
   intro y hy
   obtain ⟨z,t,hkey⟩:=hk y (Array.mem_toList_iff.mp hy)
   simp [DictEntry.refKey,hkey]
  have a':¬ es.toList.any (·.refKey)=true:=by rw [a]; exact Bool.false_ne_true
  rw [if_neg a']
  exact congrArg some e
theorem ObjM.look {h:Heap}{x dx C:Addr}{mA:Str→Option Value}(I:ObjM h x dx C mA):∃ od,InstAt h x (instObj C dx) C (some od)∧∀ name,lookIn name od=some (mA name) :=
 let ⟨od,ho,hl⟩:=lookIn_ns I.ns
 ⟨od,⟨I.obj,rfl,rfl,ho⟩,hl⟩
section
variable {prog:Program}{w:World}{A:Around}{E:Value→Shared→Prop}{s:Shared}{K:Frag}{x dx C f:Addr}{mA:Str→Option Value}{name:Str}{v:Value}
theorem get_map {expr:Bool}{Q:Value→Shared→Prop}(X:K.In s.heap)(I:ObjM s.heap x dx C mA)(hg:plainGet K C name=true)(hh:hasDictIn K C=true)(ha:findIn K (.ref C) name=some none)(hv:mA name=some v)(hv':handedIn v=true)(h:Q v { s with toks:=s.toks+1 }) :
  wpAny (model prog w) A (getAttr (.ref x) name expr) Q E s:=by
 obtain ⟨od,J,hl⟩:=I.look
 exact get_value X J (plainGet_of hg).1 (findObj_own hh ha rfl (by rw [hl,hv])) hv' h
theorem get_meth {pl:Sem Bool}{Q:Value × List Value→Shared→Prop}(X:K.In s.heap)(I:ObjM s.heap x dx C mA)(hg:plainGet K C name=true)(hf:findIn K (.ref C) name=some (some (.ref f)))(ht:isFn K (.ref f)=true)(hv:mA name=none)(h:Q (.ref f,[.ref x]) s) :
  wpAny (model prog w) A (getMethod (.ref x) name pl) Q E s:=by
 obtain ⟨od,J,hl⟩:=I.look
 exact method_fn X J (plainGet_of hg).1 (plainGet_of hg).2 hf (beq_iff_eq.mp ht) (by show (lookIn name od).map (·.isSome)=some false; rw [hl,hv]; rfl) h
theorem set_map {ns:List Str}{Q:Unit→Shared→Prop}(X:K.In s.heap)(I:ObjM s.heap x dx C mA)(hs:findIn K (.ref C) "__setattr__"=some (some (.builtin "object.__setattr__")))(hp:plainOver K C=true)(ht:takerIn K C name=some none)(hh:hasDictIn K C=true)(hw:PySem.Within mA ns)(hsz:ns.length≤sizeLine)(h:∀ h',ObjM h' x dx C (fun y=>if y=name then some v else mA y)→Heap.SameBut dx s.heap h'→Q () { s with heap:=h',toks:=s.toks+2 }) :
  wpAny (model prog w) A (setAttr (.ref x) name v) Q E s:=by
 obtain ⟨od,J,hl⟩:=I.look
 refine set_plain X J hs (osa_open (s:={ s with toks:=s.toks+1 }) (r:=none) X J hp ht fun b=>?_)
 obtain ⟨cd,hc,hd'⟩:=any_some hh
 have hx:s.heap.get? x=some ⟨.ref C,some dx,.plain,#[]⟩:=I.obj
 refine wpAny_bind (wpAny_pure (wpAny_bind (wpAny_bind (wpAny_loadPart hx (wpAny_bind (Looks.here (s:={ s with toks:=s.toks+1 }) (looks_clsIn X hc) ?_))))))
 rw [hd']
 refine wpAny_pure (a:=some dx) (wpAny_bind (wpAny_pure (wpAny_bind ?_)))
 refine wpAny_nsSet1 (s:={ s with toks:=s.toks+1 }) I.ns fun h' hn2 hs2=>?_
 obtain ⟨oD,esD,epD,hoD,hdD,hcD⟩:=hn2.count (PySem.Within.cons name v hw)
 refine wpAny_bind (wpAny_lookBehind hoD (by rw [hdD]; exact pastItsLine_dict (Nat.le_trans hcD (by rw [List.length_cons]; omega))) ?_)
 exact wpAny_pure (h _ ⟨(hs2.2 _ (Ne.symm I.ne)).trans I.obj,hn2,I.ne⟩ hs2)
theorem make_map {R:Result→Shared→Prop}{vs:List Value}{kw:List (Str × Value)}(X:K.In s.heap)(hm:makesIn K C=true)(hi:findIn K (.ref C) "__init__"=some (some (.ref f)))(hf:typeIn K (.ref f)=some (.type "function"))(h:codeAny (model prog w) (A.under (.builtin "type.__call__" ⟨.ref C::vs,kw⟩)) (.call (.ref f) ⟨.ref (s.heap.objs.size+1)::vs,kw⟩) (InitBack (s.heap.objs.size+1) R)
   { s with heap:=(s.heap.push emptyDict).push (instObj C s.heap.objs.size) }) :
  codeAny (model prog w) A (.call (.ref C) ⟨vs,kw⟩) R s:=by
 obtain ⟨hh,g,d,t,os⟩:=s
 exact make_core (makes_of X hm) (looks_findIn X hi) (fun self=>bind_fn X self hf) (.inl rfl) h
theorem make_map0 {R:Result→Shared→Prop}(X:K.In s.heap)(hm:makesIn K C=true)(hi:findIn K (.ref C) "__init__"=some (some (.builtin "object.__init__")))(hb:∀ self,Looks (model prog w) s.heap (bindSpecial (.builtin "object.__init__") self) (.builtin "object.__init__",[self]))(h:codeAny (model prog w) (A.under (.builtin "type.__call__" ⟨[.ref C],[]⟩)) (.call (.builtin "object.__init__") ⟨[.ref (s.heap.objs.size+1)],[]⟩) (InitBack (s.heap.objs.size+1) R)
   { s with heap:=(s.heap.push emptyDict).push (instObj C s.heap.objs.size) }) :
  codeAny (model prog w) A (.call (.ref C) ⟨[],[]⟩) R s:=by
 obtain ⟨hh,g,d,t,os⟩:=s
 exact make_core (makes_of X hm) (looks_findIn X hi) hb (.inr ⟨rfl,rfl⟩) h
end
def putF (f:Str)(v:V):List (Str × V)→List (Str × V)
 | []=>[(f,v)]
 | (g,x)::r=>if g=f then (g,v)::r else (g,x)::putF f v r
theorem lookup_putF (f g:Str)(v:V):∀ fs:List (Str × V),(putF f v fs).lookup g=if g=f then some v else fs.lookup g
 | []=>by
  show List.lookup g [(f,v)]=_
  by_cases h:g=f
  ·have hb:(g == f)=true:=beq_iff_eq.mpr h
   simp only [List.lookup,hb,if_pos h]
  ·have hb:(g == f)=false:=beq_eq_false_iff_ne.mpr h
   simp only [List.lookup,hb,if_neg h]
 | (k,x)::r=>by
  have ih:=lookup_putF f g v r
  rw [show putF f v ((k,x)::r)=(if k=f then (k,v)::r else (k,x)::putF f v r) from rfl]
  by_cases hk:k=f
  ·rw [if_pos hk]
   by_cases h:g=k
   ·have hb:(g == k)=true:=beq_iff_eq.mpr h
    simp only [List.lookup,hb,if_pos (h.trans hk)]
   ·have hb:(g == k)=false:=beq_eq_false_iff_ne.mpr h
    simp only [List.lookup,hb,if_neg (fun e:g=f=>h (e.trans hk.symm))]
  ·rw [if_neg hk]
   by_cases h:g=k
   ·have hb:(g == k)=true:=beq_iff_eq.mpr h
    simp only [List.lookup,hb,if_neg (fun e:g=f=>hk (h.symm.trans e))]
   ·have hb:(g == k)=false:=beq_eq_false_iff_ne.mpr h
    simp only [List.lookup,hb]
    exact ih
theorem keys_putF (f:Str)(v:V):∀ fs:List (Str × V),f∈(putF f v fs).map (·.1)∧∀ g,g∈fs.map (·.1)→g∈(putF f v fs).map (·.1)
 | []=>⟨by simp [putF],fun g h=>by simp at h⟩
 | (k,x)::r=>by
  obtain ⟨i1,i2⟩:=keys_putF f v r
  rw [show putF f v ((k,x)::r)=(if k=f then (k,v)::r else (k,x)::putF f v r) from rfl]
  by_cases hk:k=f
  ·rw [if_pos hk]
   subst hk
   exact ⟨by simp,fun g h=>by simpa using h⟩
  ·rw [if_neg hk]
   refine ⟨?_,fun g h=>?_⟩
   ·rw [List.map_cons]
    exact List.mem_cons_of_mem _ i1
   ·rw [List.map_cons] at h ⊢
    rcases List.mem_cons.mp h with e | e
    ·exact List.mem_cons.mpr (.inl e)
    ·exact List.mem_cons_of_mem _ (i2 g e)
theorem length_putF (f:Str)(v:V):∀ fs:List (Str × V),(putF f v fs).length≤fs.length+1
 | []=>by simp [putF]
 | (k,x)::r=>by
  have ih:=length_putF f v r
  rw [show putF f v ((k,x)::r)=(if k=f then (k,v)::r else (k,x)::putF f v r) from rfl]
  by_cases hk:k=f
  ·rw [if_pos hk,List.length_cons,List.length_cons]; omega
  ·rw [if_neg hk,List.length_cons,List.length_cons]; omega
theorem RelO.some_of {v:V}{o:Option Value}(r:RelO (some v) o):∃ u,o=some u∧RelV v u:=by
 cases o with
 | none=>exact (show False from r).elim
 | some u=>exact ⟨u,rfl,r⟩
theorem RelO.none_of {o:Option Value}(r:RelO none o):o=none:=by
 cases o with
 | none=>rfl
 | some u=>exact (show False from r).elim
theorem handed_of {v:V}{u:Value}(r:RelV v u):handedIn u=true:=by
 cases v with
 | non=>cases (show u=Value.none from r); rfl
 | bl b=>cases (show u=Value.bool b from r); rfl
 | int i=>obtain ⟨t,e⟩:=(show ∃ t,u=Value.int i t from r); cases e; rfl
 | str x=>obtain ⟨t,e⟩:=(show ∃ t,u=Value.str x t from r); cases e; rfl
 | byt b=>obtain ⟨t,e⟩:=(show ∃ t,u=Value.bytes b t from r); cases e; rfl
 | flt b=>obtain ⟨t,e⟩:=(show ∃ t,u=Value.float b t from r); cases e; rfl
 | ref a=>cases (show u=Value.ref a from r); rfl
 | ty n=>cases (show u=Value.type n from r); rfl
section
variable {P:Program}{w:World}{H H':Hp}{h h':Heap}{a C dx:Addr}{fs fs':List (Str × V)}
theorem ins_get (hok:HOk P w H h)(e:H a=some (.ins C dx fs)):∃ mA,ObjM h a dx C mA∧(∀ f,RelO (fs.lookup f) (mA f))∧PySem.Within mA (fs.map (·.1))∧fs.length≤1000∧H dx=some (.own a):=by
 obtain ⟨d,z,ne,ob,mA,n,r,q⟩:=(show ObjOk P w H h a (.ins C dx fs) from hok a _ e)
 exact ⟨mA,⟨ob,n,ne⟩,r,q,z,d⟩
end
structure Cls (K:Frag) (C:Addr):Prop where
 pg:plainGet K C Str.empty=true
 hd:hasDictIn K C=true
 po:plainOver K C=true
 sa:findIn K (.ref C) "__setattr__"=some (some (.builtin "object.__setattr__"))
theorem Cls.get {K:Frag}{C:Addr}(c:Cls K C)(f:Str):plainGet K C f=true:=c.pg
def NoAttr (K:Frag)(C:Addr)(f:Str):Prop:=findIn K (.ref C) f=some none
theorem NoAttr.taker {K:Frag}{C:Addr}{f:Str}(n:NoAttr K C f):takerIn K C f=some none:=by
 unfold takerIn
 rw [show findIn K (.ref C) f=some none from n]
 rfl
structure Con (K:Frag) (C:Addr) (f:Str) (v:V) (u:Value):Prop where
 at_:findIn K (.ref C) f=some (some u)
 rel:RelV v u
 get:specialIn K u "__get__"=some none
 cp:copiedNames.contains f=false
structure Meth (K:Frag) (C:Addr) (m:Str) (f:Addr):Prop where
 at_:findIn K (.ref C) m=some (some (.ref f))
 fn:isFn K (.ref f)=true
 kp:keepIn K (.ref f)=true
section
variable {X:Cx}{pins:List (Addr × Obj)}{σ:St}{H:Hp}{s:Shared}{a C dx:Addr}{fs:List (Str × V)}{f:Str}{v:V}{A:Around}{E:Value→Shared→Prop}
theorem getattr_ok {b:Bool}{Q:Value→Shared→Prop}(I:Inv X pins σ H s)(e:H a=some (.ins C dx fs))(c:Cls X.K C)(n:NoAttr X.K C f)(l:fs.lookup f=some v)(h:∀ u s',Inv X pins σ H s'→RelV v u→Q u s'):wpAny (model X.prog X.w) A (getAttr (.ref a) f b) Q E s:=by
 obtain ⟨mA,O,r,_,_,_⟩:=ins_get I.hok e
 obtain ⟨u,hu,ru⟩:=RelO.some_of (v:=v) (o:=mA f) (by rw [← l]; exact r f)
 exact get_map I.kIn O (c.get f) c.hd n hu (handed_of ru) (h u _ (I.tok _) ru)
theorem getmeth_ok {m:Str}{g:Addr}{pl:Sem Bool}{Q:Value × List Value→Shared→Prop}(I:Inv X pins σ H s)(e:H a=some (.ins C dx fs))(c:Cls X.K C)(k:Meth X.K C m g)(l:fs.lookup m=none)(h:Q (.ref g,[.ref a]) s):wpAny (model X.prog X.w) A (getMethod (.ref a) m pl) Q E s:=by
 obtain ⟨mA,O,r,_,_,_⟩:=ins_get I.hok e
 have hn:mA m=none:=RelO.none_of (by rw [← l]; exact r m)
 exact get_meth I.kIn O (c.get m) k.at_ k.fn hn h
theorem setattr_ok {y:V}{u:Value}{Q:Unit→Shared→Prop}(I:Inv X pins σ H s)(e:H a=some (.ins C dx fs))(c:Cls X.K C)(n:NoAttr X.K C f)(hl:fs.length < 1000)(ry:RelV y u)(h:∀ s',Inv X pins σ (upd H a (.ins C dx (putF f y fs))) s'→Q () s'):wpAny (model X.prog X.w) A (setAttr (.ref a) f u) Q E s:=by
 obtain ⟨mA,O,r,wi,_,ho⟩:=ins_get I.hok e
 have hz:(fs.map (·.1)).length≤sizeLine:=by rw [List.length_map,sizeLine_eq]; omega
 refine set_map I.kIn O c.sa c.po n.taker c.hd wi hz fun h' O' sb=>h _ ?_
 have hd:∃ o,h'.get? dx=some o:=let ⟨o,_,_,e',_⟩:=O'.ns; ⟨o,e'⟩
 refine I.write (x:=a) (e:=dx) (by rw [e]; exact True.intro) (.inr ho) (fun b q hb z=>(sb.2 b hb).trans z) hd ?_
 refine ⟨by rw [upd_ne O.ne]; exact ho,?_,O.ne,O'.obj,_,O'.ns,fun g=>?_,fun g hg=>?_⟩
 ·have:=length_putF f y fs; omega
 ·show RelO ((putF f y fs).lookup g) (if g=f then some u else mA g)
  rw [lookup_putF]
  by_cases q:g=f
  ·rw [if_pos q,if_pos q]; exact ry
  ·rw [if_neg q,if_neg q]; exact r g
 ·by_cases q:g=f
  ·rw [q]; exact (keys_putF f y fs).1
  ·refine (keys_putF f y fs).2 g (wi g fun z=>hg ?_)
   show (if g=f then some u else mA g)=none
   rw [if_neg q]; exact z
theorem Inv.made (I:Inv X pins σ H s):Inv X pins σ (upd (upd H s.heap.objs.size (.own (s.heap.objs.size+1))) (s.heap.objs.size+1) (.ins C s.heap.objs.size []))
  { s with heap:=(s.heap.push emptyDict).push (instObj C s.heap.objs.size) }:=by
 have e1:(s.heap.push emptyDict).get? s.heap.objs.size=some emptyDict:=Heap.get?_push_size s.heap rfl
 have e2:((s.heap.push emptyDict).push (instObj C s.heap.objs.size)).get? (s.heap.objs.size+1)=some (instObj C s.heap.objs.size):=by
  have:=Heap.get?_push_size (s.heap.push emptyDict) (o:=instObj C s.heap.objs.size) rfl
  rwa [Heap.size_push] at this
 have e3:(s.heap.push emptyDict).Ns s.heap.objs.size (fun _=>none):=⟨emptyDict,#[],_,e1,rfl,(fun e he=>absurd he (by simp)),fun _=>rfl⟩
 have I1:=I.laid (a:=s.heap.objs.size) (o:=.own (s.heap.objs.size+1)) (h':=s.heap.push emptyDict) (t':=s.toks) (fun b u q=>Heap.get?_push_of_some _ q) (Nat.le_refl _) ⟨_,e1⟩
 refine I1.laid (a:=s.heap.objs.size+1) (o:=.ins C s.heap.objs.size []) (t':=s.toks) (fun b u q=>Heap.get?_push_of_some _ q) (Nat.le_of_eq (Heap.size_push _ _)) ?_
 have ne:s.heap.objs.size≠s.heap.objs.size+1:=Nat.ne_of_lt (Nat.lt_succ_self _)
 refine ⟨by rw [upd_ne ne,upd_same],Nat.zero_le _,ne,e2,fun _=>none,(Heap.Ns1.of_empty e3).at fun o q=>Heap.get?_push_of_some _ q,fun _=>True.intro,fun y hy=>absurd rfl hy⟩
theorem attr_of {prog:Program}{w:World}{env:Env}{e:Expr}{f:Str}{pos:Pos}{s:Shared}{Q:Value→Shared→Prop}(hb:attributeBase e f env (eval e env)=eval e env)(h:wpAny (model prog w) A (eval e env) (fun o s₁=>wpAny (model prog w) A (getAttr o f true) Q E s₁) E s):wpAny (model prog w) A (eval (.Attribute e f pos) env) Q E s :=
 Attribute_any_ h (by rw [arm_eval_Attribute,hb])
end
def tFld (K:Frag)(ta:TE)(f:Str):TE:=fun σ H Q=>ta σ H fun x H1=>∃ a C dx fs v,x=.ref a∧H1 a=some (.ins C dx fs)∧Cls K C∧NoAttr K C f∧fs.lookup f=some v∧Q v H1
def sFld (K:Frag)(ta tv:TE)(f:Str):TS:=fun D σ H=>tv σ H fun y H1=>ta σ H1 fun x H2=>∃ a C dx fs,x=.ref a∧H2 a=some (.ins C dx fs)∧Cls K C∧NoAttr K C f∧fs.length < 1000 ∧
 D.nx σ (upd H2 a (.ins C dx (putF f y fs)))
section
variable {X:Cx}{o e value:Expr}{f:Str}{pos pos' tpos:Pos}{ta tv:TE}
theorem pe_fld (he:PE X e ta)(hb:attributeBase e f X.env (eval e X.env)=eval e X.env):PE X (.Attribute e f pos) (tFld X.K ta f):=by
 intro pins s σ H Q I h
 refine attr_of hb (thn (he pins s σ H _ I h) fun u s1 ⟨x,H1,I1,rx,a,C,dx,fs,v,ex,ea,c,n,l,q⟩=>?_)
 subst ex
 obtain rfl:u=Value.ref a:=rx
 exact getattr_ok I1 ea c n l fun u' s2 I2 ru=>⟨v,H1,I2,ru,q⟩
theorem ps_fld (ha:PE X o ta)(hv:PE X value tv)(hs:swapsWith value (some (.Attribute o f pos')) pos.line X.env=pure false):PS X (.Assign [.Attribute o f pos'] value pos) (sFld X.K ta tv f):=by
 intro pins s σ H D I h
 refine plainObj_wpAny_Assign_Attribute (thn (hv pins s σ H _ I h) fun u s1 ⟨y,H1,I1,ry,q⟩=>thn (ha pins s1 σ H1 _ I1 q) fun ov s2 ⟨x,H2,I2,rx,a,C,dx,fs,ex,ea,c,n,l,q2⟩=>?_) hs
 subst ex
 obtain rfl:ov=Value.ref a:=rx
 exact setattr_ok I2 ea c n l ry fun s3 I3=>⟨σ,_,I3,q2⟩
end
section
variable {X:Cx}{pins:List (Addr × Obj)}{σ:St}{H:Hp}{s:Shared}{A:Around}{E:Value→Shared→Prop}{Q:Value→Shared→Prop}{c:Value}{b:Bool}
inductive TyOf (K:Frag) (H:Hp):V→Value→Prop where
 | non:TyOf K H .non (.type "NoneType")
 | bl (x:Bool):TyOf K H (.bl x) (.type "bool")
 | int (i:Int):TyOf K H (.int i) (.type "int")
 | str (x:Str):TyOf K H (.str x) (.type "str")
 | flt (x:UInt64):TyOf K H (.flt x) (.type "float")
 | lst {a:Addr}{xs:List V}(e:H a=some (.lst xs)):TyOf K H (.ref a) (.type "list")
 | frz {a:Addr}{o:Obj}{xs:List V}(e:H a=some (.frz o (.lst xs))):TyOf K H (.ref a) (.type "list")
 | tup {a:Addr}{xs:List V}(e:H a=some (.tup xs)):TyOf K H (.ref a) (.type "tuple")
 | dK {a:Addr}{kvs:List (Key × V)}(e:H a=some (.dK kvs)):TyOf K H (.ref a) (.type "dict")
 | dT {a:Addr}{kvs:List (List Key × V)}(e:H a=some (.dT kvs)):TyOf K H (.ref a) (.type "dict")
 | ins {a C dx:Addr}{fs:List (Str × V)}(e:H a=some (.ins C dx fs)) (cl:Cls K C) (ha:findIn K (.ref C) "__class__"=some (some (.builtin "object.__class__")))
   (hn:specialIn K (.builtin "object.__class__") "__get__"=some (some (.builtin "getset_descriptor.__get__"))) (htk:takesIn K (.builtin "object.__class__")=some true)
   (hm:mroIn K C (.type "object")=some true):TyOf K H (.ref a) (.ref C)
theorem isinst_ok {x:V}{u t:Value}(I:Inv X pins σ H s)(rx:RelV x u)(ty:TyOf X.K H x t)(e:kitOne X.K t c=some b)(h:∀ tk,Q (.bool b) { s with toks:=tk }) :
  wpAny (model X.prog X.w) A (call (.builtin "isinstance") [u,c]) Q E s:=by
 cases ty with
 | non=>cases (show u=Value.none from rx); exact kia_one kitx_none I.kIn True.intro e (fun z=>nomatch z) h
 | bl y=>cases (show u=Value.bool y from rx); exact kia_one kitx_bool I.kIn True.intro e (fun z=>nomatch z) h
 | int i=>obtain ⟨t,q⟩:=(show ∃ t,u=Value.int i t from rx); cases q; exact kia_one kitx_int I.kIn True.intro e (fun z=>nomatch z) h
 | str y=>obtain ⟨t,q⟩:=(show ∃ t,u=Value.str y t from rx); cases q; exact kia_one kitx_str I.kIn True.intro e (fun z=>nomatch z) h
 | flt y=>obtain ⟨t,q⟩:=(show ∃ t,u=Value.float y t from rx); cases q; exact kia_one kitx_float I.kIn True.intro e (fun z=>nomatch z) h
 | @lst a xs ea =>
  cases (show u=Value.ref a from rx)
  obtain ⟨_,_,n,_,h1⟩:=(show ObjOk X.prog X.w H s.heap a (.lst xs) from I.hok a _ ea)
  exact kia_one kitx_list I.kIn ⟨_,h1,rfl⟩ e (fun z=>nomatch z) h
 | @frz a ob xs ea =>
  cases (show u=Value.ref a from rx)
  obtain ⟨_,_,_,n,_,h1⟩:=(show ObjOk X.prog X.w H s.heap a (.frz ob (.lst xs)) from I.hok a _ ea)
  exact kia_one kitx_list I.kIn ⟨_,h1,rfl⟩ e (fun z=>nomatch z) h
 | @tup a xs ea =>
  cases (show u=Value.ref a from rx)
  obtain ⟨_,_,_,p⟩:=(show ObjOk X.prog X.w H s.heap a (.tup xs) from I.hok a _ ea)
  obtain ⟨o,h1,h2,_⟩:=p
  exact kia_one kitx_tuple I.kIn ⟨o,h1,h2⟩ e (fun z=>nomatch z) h
 | @dK a kvs ea =>
  cases (show u=Value.ref a from rx)
  obtain ⟨_,_,vs,_,p⟩:=(show ObjOk X.prog X.w H s.heap a (.dK kvs) from I.hok a _ ea)
  obtain ⟨o,es,ep,h1,h2,_⟩:=p
  exact kia_one kitx_dict I.kIn ⟨o,h1,h2.1⟩ e (fun z=>nomatch z) h
 | @dT a kvs ea =>
  cases (show u=Value.ref a from rx)
  obtain ⟨_,_,xs,_,o,es,ep,h1,h2,_⟩:=(show ObjOk X.prog X.w H s.heap a (.dT kvs) from I.hok a _ ea)
  exact kia_one kitx_dict I.kIn ⟨o,h1,h2.1⟩ e (fun z=>nomatch z) h
 | @ins a C dx fs ea cl ha hn htk hm =>
  cases (show u=Value.ref a from rx)
  obtain ⟨mA,O,_⟩:=ins_get I.hok ea
  obtain ⟨od,J,_⟩:=O.look
  exact kia_one (kitx_own (cl.get _) cl.hd ha hn htk hm) I.kIn J e (fun z=>nomatch z) h
end
structure Room (k:Nat) (A:Around):Prop where
 hd:A.handled=none
 dp:A.depth+3 * k+5 < recursionLimit
 un:A.units+16 * k+200 < cLine
theorem Room.mono {j k:Nat}{A:Around}(r:Room k A)(h:j≤k):Room j A:=⟨r.hd,by have:=r.dp; omega,by have:=r.un; omega⟩
theorem Room.deeper {k:Nat}{A:Around}(r:Room (k+1) A)(env:Env):Room k (A.deeper env) :=
 ⟨r.hd,by have:=r.dp; show A.depth+1+3 * k+5 < _; omega,by have:=r.un; show A.units+3+16 * k+200 < _; omega⟩
theorem make_depth {A:Around}{C:Addr}{us:List Value}{kw:List (Str × Value)}:(A.under (.builtin "type.__call__" ⟨.ref C::us,kw⟩)).depth=A.depth+1:=by
 first | rfl | simp [Around.under,Code.weight,Code.isCreation,Code.isGuard,Code.isCaller,Code.frames,Code.isFrame,guardIds]
theorem make_units {A:Around}{C:Addr}{us:List Value}{kw:List (Str × Value)}:(A.under (.builtin "type.__call__" ⟨.ref C::us,kw⟩)).units=A.units+1:=by
 first | rfl | simp [Around.under,Code.cUnits,Code.frames,Code.isFrame]
theorem Room.make {k:Nat}{A:Around}(r:Room (k+1) A)(C:Addr)(us:List Value)(kw:List (Str × Value)):Room k (A.under (.builtin "type.__call__" ⟨.ref C::us,kw⟩)) :=
 ⟨r.hd,by have:=r.dp; rw [make_depth]; omega,by have:=r.un; rw [make_units]; omega⟩
theorem Room.depth {k:Nat}{A:Around}(r:Room k A):A.depth < recursionLimit:=by have:=r.dp; omega
theorem Room.units {k:Nat}{A:Around}(r:Room k A):A.units+64 < cLine:=by have:=r.un; omega
def tNil:TA:=fun _ H Q=>Q [] H
def tCons (ta:TE)(tr:TA):TA:=fun σ H Q=>ta σ H fun x H1=>tr σ H1 fun xs H2=>Q (x::xs) H2
section
variable {X:Cx}{e:Expr}{es:List Expr}{te:TE}{t:TA}{pos:Pos}
theorem pa_nil:PA X [] tNil:=fun _ _ _ _ H Q I h=>Calls.spliced_nil ⟨[],H,I,.nil,h⟩
theorem pa_cons (ha:PE X e te)(hr:PA X es t)(hs:starEach (e::es) X.env=(false,eval e X.env)::starEach es X.env:=by rfl):PA X (e::es) (tCons te t):=by
 intro pos pins s σ H Q I h
 rw [hs]
 show wpAny _ _ (spliced ((false,eval e X.env)::backTo pos (starEach es X.env))) _ _ s
 refine Calls.spliced_cons (thn (ha pins s σ H _ I h) fun u s1 ⟨x,H1,I1,r1,q1⟩=>?_)
 exact thn (hr pos pins s1 σ H1 _ I1 q1) fun us s2 ⟨xs,H2,I2,r2,q2⟩=>⟨x::xs,H2,I2,.cons r1 r2,q2⟩
def tTup (t:TA):TE:=fun σ H Q=>t σ H fun xs H1=>xs.length≤sizeLine∧∀ p,H1 p=none→Q (.ref p) (upd H1 p (.tup xs))
def tLst (t:TA):TE:=fun σ H Q=>t σ H fun xs H1=>xs.length≤sizeLine∧∀ p,H1 p=none→Q (.ref p) (upd H1 p (.lst xs))
theorem pe_tup {x1}(h:PA X es t):PE X (.Tuple es x1 pos) (tTup t):=by
 intro pins s σ H Q I hq
 refine wpAny_Tuple_spliced (thn (h pos pins s σ H _ I hq) fun us s1 ⟨xs,H1,I1,r,z,q⟩=>⟨by rw [← r.length]; exact z,?_⟩)
 have hf:H1 s1.heap.objs.size=none:=I1.hok.fresh (Nat.le_refl _)
 refine ⟨.ref s1.heap.objs.size,upd H1 s1.heap.objs.size (.tup xs),I1.laid (t':=s1.toks) (fun b u e=>Heap.get?_push_of_some _ e) (Nat.le_refl _) ?_,rfl,q _ hf⟩
 exact ⟨z,us,r,⟨_,Heap.get?_push_size _ rfl,rfl,_,rfl⟩⟩
theorem pe_lst (h:PA X es t):PE X (.List es pos) (tLst t):=by
 intro pins s σ H Q I hq
 refine wpAny_List_spliced (thn (h pos pins s σ H _ I hq) fun us s1 ⟨xs,H1,I1,r,z,q⟩=>⟨by rw [← r.length]; exact z,?_⟩)
 have hf:H1 s1.heap.objs.size=none:=I1.hok.fresh (Nat.le_refl _)
 refine ⟨.ref s1.heap.objs.size,upd H1 s1.heap.objs.size (.lst xs),I1.laid (t':=s1.toks) (fun b u e=>Heap.get?_push_of_some _ e) (Nat.le_refl _) ?_,rfl,q _ hf⟩
 exact ⟨z,us,0,r,Heap.get?_push_size _ rfl⟩
end
abbrev Sp:=List V→Hp→VK→XK→Prop
abbrev CXT:=List Env→Hp→Shared→XK→Value→Shared→Prop
structure Env0 (P:Program) (w:World) (K:Frag) (mg:Str→Option Value) (base:Heap) (A:Around) (outer:List Env) (s:Shared) (H:Hp):Prop where
 frames:A.frames=some outer
 mod:Mod K mg base
 bs:∀ b o,base.get? b=some o→s.heap.get? b=some o∧H b=none
 bsz:base.objs.size≤s.heap.objs.size
 funs:s.heap.FunFrames base outer
 frf:∀ b∈frs outer,H b=none
 hok:HOk P w H s.heap
 bare:AllBare s.gens
def CE (outer:List Env)(P:Program)(w:World)(H:Hp)(s:Shared)(Q:VK)(u:Value)(s':Shared):Prop :=
 ∃ v H',s'.os=s.os∧AllBare s'.gens∧Un (frs outer) [] H H' s.heap s'.heap∧HOk P w H' s'.heap∧RelV v u∧Q v H'
def CR (CX:CXT)(outer:List Env)(P:Program)(w:World)(H:Hp)(s:Shared)(Q:VK)(E:XK)(r:Result)(s':Shared):Prop :=
 match r with
 | .ok (.ret u)=>CE outer P w H s Q u s'
 | .ok _=>False
 | .error e=>CX outer H s E e s'
structure FnOk (P:Program) (w:World) (K:Frag) (mg:Str→Option Value) (base:Heap) (CX:CXT) (k:Nat) (f:Addr) (fd:FuncData) (ps:List Str) (sp:Sp):Prop where
 len:∀ vs H Q E,sp vs H Q E→vs.length=ps.length
 run:∀ (A:Around) (outer:List Env) (s:Shared) (H:Hp) (args:Args) (us:List Value) (vs:List V) (Q:VK) (E:XK),Room k A→Env0 P w K mg base A outer s H→BindsTo s fd args (ps.zip us)→Vals vs us→sp vs H Q E →
  codeAny (model P w) A (.call (.ref f) args) (CR CX outer P w H s Q E) s
theorem FnOk.mono {P:Program}{w:World}{K:Frag}{mg:Str→Option Value}{base:Heap}{CX:CXT}{j k:Nat}{f:Addr}{fd:FuncData}{ps:List Str}{sp:Sp}(F:FnOk P w K mg base CX j f fd ps sp)(h:j≤k) :
  FnOk P w K mg base CX k f fd ps sp:=⟨F.len,fun A outer s H args us vs Q E hr=>F.run A outer s H args us vs Q E (hr.mono h)⟩
theorem Env0.make {P:Program}{w:World}{K:Frag}{mg:Str→Option Value}{base:Heap}{A:Around}{outer:List Env}{s:Shared}{H:Hp}(e:Env0 P w K mg base A outer s H)(C:Addr)(us:List Value)(kw:List (Str × Value)) :
  Env0 P w K mg base (A.under (.builtin "type.__call__" ⟨.ref C::us,kw⟩)) outer s H:=⟨by first | exact e.frames | (simpa [Around.under,Code.envs,Code.isFrame,pushEnvs] using e.frames),e.mod,e.bs,e.bsz,e.funs,e.frf,e.hok,e.bare⟩
section
variable {X:Cx}{pins:List (Addr × Obj)}{σ:St}{H:Hp}{s s':Shared}
theorem Inv.env0 (I:Inv X pins σ H s):Env0 X.prog X.w X.K X.mg X.base X.A X.stack s H :=
 ⟨I.ok.frames,I.ok.mod,I.bs,Nat.le_trans I.ok.bsz I.sz,I.stack,I.stkFree,I.hok,I.bare⟩
theorem Inv.after {Q:VK}{u:Value}(I:Inv X pins σ H s)(h:CE X.stack X.prog X.w H s Q u s'):EP X pins σ Q u s':=by
 obtain ⟨v,H',os,bare,un,hok,r,q⟩:=h
 obtain ⟨hh,g,d,t,os'⟩:=s'
 obtain rfl:os'=s.os:=os
 exact ⟨v,H',I.call (h':=hh) (g':=g) (d':=d) (t':=t) (ch:=[]) un hok bare (fun b z=>absurd z (by simp)),r,q⟩
end
def tCall (sp:Sp)(dvs:List V)(E:XK)(t:TA):TE:=fun σ H Q=>t σ H fun vs H1=>sp (vs++dvs) H1 Q E
def tMake (C:Addr)(sp:Sp)(dvs:List V)(E:XK)(t:TA):TE:=fun σ H Q=>t σ H fun vs H1=>∀ x dx,H1 x=none→H1 dx=none→dx≠x →
 sp (.ref x::(vs++dvs)) (upd (upd H1 dx (.own x)) x (.ins C dx [])) (fun v H2=>v=.non∧Q (.ref x) H2) E
def Binds (K:Frag)(fd:FuncData)(ps:List Str)(ds:List Value):Prop :=
 ∀ (s:Shared) (us:List Value),K.In s.heap→(us++ds).length=ps.length→BindsTo s fd ⟨us,[]⟩ (ps.zip (us++ds))
theorem Binds.all {K:Frag}{fd:FuncData}{ps:List Str}(h:∀ us:List Value,us.length=ps.length→bindArgs fd ⟨us,[]⟩=pure (ps.zip us)):Binds K fd ps []:=fun s us _ hl=>by
 rw [List.append_nil] at hl ⊢
 exact .of_eq (h us hl)
def Passes (CX:CXT)(X:Cx)(E:XK):Prop:=∀ (pins:List (Addr × Obj)) (σ:St) (H:Hp) (s:Shared) (e:Value) (s':Shared),Inv X pins σ H s→CX X.stack H s E e s'→X.xe e s'
section
variable {X:Cx}{CX:CXT}{k:Nat}{f C:Addr}{fd:FuncData}{ps:List Str}{sp:Sp}{dvs:List V}{ds:List Value}{E:XK}{x m:Str}{p pos apos:Pos}{e o:Expr}{es:List Expr}{ta:TE}{t:TA}
theorem run_fn {pins:List (Addr × Obj)}{σ:St}{H:Hp}{s:Shared}{Q:VK}{us:List Value}{vs:List V}(F:FnOk X.prog X.w X.K X.mg X.base CX k f fd ps sp)(hr:Room k X.A)(hb:Binds X.K fd ps ds)(hd:Vals dvs ds)(hx:Passes CX X E)(I:Inv X pins σ H s)(r:Vals vs us)(h:sp (vs++dvs) H Q E):wpAny (model X.prog X.w) X.A (call (.ref f) us) (EP X pins σ Q) X.xe s:=by
 have r2:Vals (vs++dvs) (us++ds):=r.append hd
 have hl:(us++ds).length=ps.length:=by rw [← r2.length]; exact F.len _ _ _ _ h
 refine wpAny_call (codeAny_mono (F.run X.A X.stack s H ⟨us,[]⟩ (us++ds) (vs++dvs) Q E hr I.env0 (hb s us I.kIn hl) r2 h) fun r s' hq=>?_)
 cases r with
 | error e=>exact hx pins σ H s e s' I hq
 | ok fl =>
  cases fl with
  | ret u=>exact I.after hq
  | next=>exact False.elim hq
  | brk=>exact False.elim hq
  | cont=>exact False.elim hq
theorem pe_call (F:FnOk X.prog X.w X.K X.mg X.base CX k f fd ps sp)(hr:Room k X.A)(hg:Gl X x)(hm:X.mg x=some (.ref f))(hk:keepIn X.K (.ref f)=true)(hb:Binds X.K fd ps ds)(hd:Vals dvs ds)(hx:Passes CX X E)(ha:PA X (e::es) t)(hdb:(x == ("__debug__":Str))=false:=by decide)(he:starEach (e::es) X.env=(false,eval e X.env)::starEach es X.env:=by rfl)(hpl:(backTo pos (starEach es X.env)).any (·.1)=false:=by rfl) :
  PE X (.Call (.Name x p) (e::es) [] pos) (tCall sp dvs E t):=by
 intro pins s σ H Q I h
 refine wpAny_Call_Name_kw (ld_glob I hg hm ?_ hdb)
 refine callWith_K (h₀:=X.base) I.ok.mod.kin hk (thn (ha pos pins s σ H _ I h) fun us s1 ⟨vs,H1,I1,r,q⟩=>⟨I1.kIn,?_⟩) he hpl
 exact run_fn F hr hb hd hx I1 r q
structure Mk (K:Frag) (C f:Addr):Prop where
 makes:makesIn K C=true
 init:findIn K (.ref C) "__init__"=some (some (.ref f))
 fn:isFn K (.ref f)=true
 kp:keepIn K (.ref C)=true
theorem run_make {pins:List (Addr × Obj)}{σ:St}{H:Hp}{s:Shared}{Q:VK}{us:List Value}{vs:List V}(M:Mk X.K C f)(F:FnOk X.prog X.w X.K X.mg X.base CX k f fd ps sp)(hr:Room (k+1) X.A)(hb:Binds X.K fd ps ds)(hd:Vals dvs ds)(hx:Passes CX X E)(I:Inv X pins σ H s)(r:Vals vs us)(h:∀ x dx,H x=none→H dx=none→dx≠x→sp (.ref x::(vs++dvs)) (upd (upd H dx (.own x)) x (.ins C dx [])) (fun v H2=>v=.non∧Q (.ref x) H2) E) :
  wpAny (model X.prog X.w) X.A (call (.ref C) us) (EP X pins σ Q) X.xe s:=by
 have hq:=h (s.heap.objs.size+1) s.heap.objs.size (I.hok.fresh (Nat.le_succ _)) (I.hok.fresh (Nat.le_refl _)) (Nat.ne_of_lt (Nat.lt_succ_self _))
 have I2:=Inv.made (C:=C) I
 have r2:Vals (V.ref (s.heap.objs.size+1)::(vs++dvs)) (Value.ref (s.heap.objs.size+1)::(us++ds)):=.cons rfl (r.append hd)
 have hl:(Value.ref (s.heap.objs.size+1)::us++ds).length=ps.length:=by
  have e:=r2.length
  rw [F.len _ _ _ _ hq] at e
  exact e.symm
 refine wpAny_call (make_map (f:=f) I.kIn M.makes M.init (beq_iff_eq.mp M.fn) (codeAny_mono (F.run _ X.stack _ _ ⟨Value.ref (s.heap.objs.size+1)::us,[]⟩ (Value.ref (s.heap.objs.size+1)::(us++ds)) _ _ E (hr.make C us [])
  (I2.env0.make C us []) (hb _ (Value.ref (s.heap.objs.size+1)::us) I2.kIn hl) r2 hq) fun r s' hq'=>?_))
 cases r with
 | error e=>exact hx pins σ _ _ e s' I2 hq'
 | ok fl =>
  cases fl with
  | ret u =>
   obtain ⟨v,H',I3,rv,ev,q3⟩:=I2.after hq'
   subst ev
   exact ⟨rv,⟨V.ref (s.heap.objs.size+1),H',I3,rfl,q3⟩⟩
  | next=>exact False.elim hq'
  | brk=>exact False.elim hq'
  | cont=>exact False.elim hq'
theorem pe_make (M:Mk X.K C f)(F:FnOk X.prog X.w X.K X.mg X.base CX k f fd ps sp)(hr:Room (k+1) X.A)(hg:Gl X x)(hm:X.mg x=some (.ref C))(hb:Binds X.K fd ps ds)(hd:Vals dvs ds)(hx:Passes CX X E)(ha:PA X (e::es) t)(hdb:(x == ("__debug__":Str))=false:=by decide)(he:starEach (e::es) X.env=(false,eval e X.env)::starEach es X.env:=by rfl)(hpl:(backTo pos (starEach es X.env)).any (·.1)=false:=by rfl) :
  PE X (.Call (.Name x p) (e::es) [] pos) (tMake C sp dvs E t):=by
 intro pins s σ H Q I h
 refine wpAny_Call_Name_kw (ld_glob I hg hm ?_ hdb)
 refine callWith_K (h₀:=X.base) I.ok.mod.kin M.kp (thn (ha pos pins s σ H _ I h) fun us s1 ⟨vs,H1,I1,r,q⟩=>⟨I1.kIn,?_⟩) he hpl
 exact run_make M F hr hb hd hx I1 r q
end
section
variable {X:Cx}{CX:CXT}{k:Nat}{f C:Addr}{fd:FuncData}{ps ks:List Str}{sp:Sp}{E:XK}{x m:Str}{p pos apos kpos:Pos}{e o:Expr}{es:List Expr}{kws:List Keyword}{te ta:TE}{t tk:TA}{nm:Option Str}
structure KBinds (K:Frag) (fd:FuncData) (ps ks:List Str) (g:List Value→List Value→List Value) (gV:List V→List V→List V):Prop where
 to:∀ (s:Shared) (us ws:List Value),K.In s.heap→(g us ws).length=ps.length→BindsTo s fd ⟨us,ks.zip ws⟩ (ps.zip (g us ws))
 rel:∀ {vs:List V}{us:List Value}{zs:List V}{ws:List Value},Vals vs us→Vals zs ws→Vals (gV vs zs) (g us ws)
variable {g:List Value→List Value→List Value}{gV:List V→List V→List V}
end
structure FnScope (N P:List Str) (sc:Scope):Prop where
 kind:sc.kind=.function
 co:sc.isCoroutine=false
 gen:sc.isGenerator=false
 nd:N.Nodup
 pre:N.take P.length=P
 par:∀ x∈P,sc.names.lookup x=some .local∨sc.names.lookup x=some .cell
 nofree:∀ y∈sc.names,y.2≠.free
theorem bindL_out {kindOf:Str→Option NameKind}{x:Str}:∀ {binds:List (Str × Value)}{m:Str→Option Value},(∀ v,(x,v) ∉ binds)→bindL kindOf binds m x=m x
 | [],_,_=>rfl
 | (n,v)::r,m,h=>by
  unfold bindL
  rw [bindL_out fun w hw=>h w (List.mem_cons_of_mem _ hw)]
  split
  ·have:x≠n:=by rintro rfl; exact h v List.mem_cons_self
   simp [this]
  ·rfl
theorem bindC_out {kindOf:Str→Option NameKind}{x:Str}:∀ {binds:List (Str × Value)}{m:Str→Option Value},(∀ v,(x,v) ∉ binds)→bindC kindOf binds m x=m x
 | [],_,_=>rfl
 | (n,v)::r,m,h=>by
  unfold bindC
  rw [bindC_out fun w hw=>h w (List.mem_cons_of_mem _ hw)]
  split
  ·rfl
  ·have:x≠n:=by rintro rfl; exact h v List.mem_cons_self
   simp [this]
theorem bindL_get {kindOf:Str→Option NameKind}{x:Str}{v:Value}:∀ {P:List Str}{vs:List Value}{i:Nat}{m:Str→Option Value},P.Nodup→P[i]?=some x→vs[i]?=some v→kindOf x=some .local →
  bindL kindOf (P.zip vs) m x=some v
 | [],_,_,_,_,h,_,_=>by simp at h
 | _::_,[],_,_,_,_,h,_=>by simp at h
 | p::P,w::vs,0,m,nd,h1,h2,hk=>by
  simp at h1 h2; subst h1; subst h2
  show bindL kindOf ((p,w)::P.zip vs) m p=_
  unfold bindL
  rw [bindL_out fun v hv=>(List.nodup_cons.mp nd).1 (List.of_mem_zip hv).1,if_pos hk]
  simp
 | p::P,w::vs,i+1,m,nd,h1,h2,hk=>by
  show bindL kindOf ((p,w)::P.zip vs) m x=_
  unfold bindL
  exact bindL_get (i:=i) (List.nodup_cons.mp nd).2 (by simpa using h1) (by simpa using h2) hk
theorem bindC_get {kindOf:Str→Option NameKind}{x:Str}{v:Value}:∀ {P:List Str}{vs:List Value}{i:Nat}{m:Str→Option Value},P.Nodup→P[i]?=some x→vs[i]?=some v→kindOf x≠some .local →
  bindC kindOf (P.zip vs) m x=some v
 | [],_,_,_,_,h,_,_=>by simp at h
 | _::_,[],_,_,_,_,h,_=>by simp at h
 | p::P,w::vs,0,m,nd,h1,h2,hk=>by
  simp at h1 h2; subst h1; subst h2
  show bindC kindOf ((p,w)::P.zip vs) m p=_
  unfold bindC
  rw [bindC_out fun v hv=>(List.nodup_cons.mp nd).1 (List.of_mem_zip hv).1,if_neg hk]
  simp
 | p::P,w::vs,i+1,m,nd,h1,h2,hk=>by
  show bindC kindOf ((p,w)::P.zip vs) m x=_
  unfold bindC
  exact bindC_get (i:=i) (List.nodup_cons.mp nd).2 (by simpa using h1) (by simpa using h2) hk
def start (N:List Str)(vs:List V):St:=vs.map some++List.replicate (N.length - vs.length) none
def cxOf (CX:CXT)(P:Program)(w:World)(K:Frag)(mg:Str→Option Value)(base:Heap)(N:List Str)(qual:Str)(scope:Scope)(f:Addr)(cd:Value)(A:Around)(outer:List Env)(s:Shared)(H:Hp)(E:XK):Cx where
 prog:=P
 w:=w
 K:=K
 mg:=mg
 base:=base
 A:=A.deeper (envOfC qual scope s.heap.objs.size f cd)
 N:=N
 s₀:=s
 H₀:=H
 env:=envOfC qual scope s.heap.objs.size f cd
 outer:=outer
 stack:=envOfC qual scope s.heap.objs.size f cd::outer
 ex:=[]
 calm:=true
 fn:=fun _=>true
 pn:=[]
 xe:=fun e s'=>wpAny (model P w) (A.deeper (envOfC qual scope s.heap.objs.size f cd)) (leaving (envOfC qual scope s.heap.objs.size f cd) e) (fun _ s''=>CX outer H s E e s'') (fun e' s''=>CX outer H s E e' s'') s'
theorem cell_has {sc:Scope}{n:Nat}{x:Str}(h:sc.names.lookup x=some .cell):∃ c,(cellsFrom n sc.names []).lookup x=some c:=by
 have q:=cellsFrom_some sc.names n [] (.inl h)
 exact Option.isSome_iff_exists.mp q
theorem inv_start {CX:CXT}{P:Program}{w:World}{K:Frag}{mg:Str→Option Value}{base:Heap}{N ps:List Str}{qual:Str}{scope:Scope}{f:Addr}{cd:Value}{A:Around}{outer:List Env}{s s1:Shared}{H:Hp}{E:XK}{us:List Value}{vs:List V}(S:FnScope N ps scope)(hd:A.handled=none)(e0:Env0 P w K mg base A outer s H)(hl:vs.length=ps.length)(r:Vals vs us)(x:InCallC s s.heap.objs.size (bindL (envOfC qual scope s.heap.objs.size f cd).kindOf (ps.zip us) fun _=>none) (cellsFrom (s.heap.objs.size+1) scope.names []) (bindC (envOfC qual scope s.heap.objs.size f cd).kindOf (ps.zip us) fun _=>none) s1) :
  Inv (cxOf CX P w K mg base N qual scope f cd A outer s H E) [] (start N vs) H s1:=by
 have hpl:ps.length≤N.length:=by have:=congrArg List.length S.pre; rw [List.length_take] at this; omega
 obtain ⟨h1,tk,rfl,hk⟩:=x.done
 have noA:∀ b:Addr,b ∉ (cxOf CX P w K mg base N qual scope f cd A outer s H E).ex:=fun b z=>absurd (show b∈([]:List Addr) from z) (by simp)
 refine ⟨⟨e0.mod,S.kind,rfl,rfl,Nat.le_refl _,fun y z c h1 h2=>?_,fun y hy=>?_,fun y c _ h=>?_,fun _=>hd,Around.frames_deeper e0.frames,.inr ⟨rfl,rfl⟩,fun b z=>absurd z (noA b),e0.bs,e0.bsz,fun b _ _=>noA b,fun b z=>absurd z (noA b),e0.funs,e0.frf⟩,
  rfl,e0.bare,Un.kept hk,⟨_,x.toInCall.ns,fun i y v h1 h2 h3=>?_⟩,fun y c h=>⟨_,x.cell y c h⟩,e0.hok.fresh (Nat.le_refl _),fun y c h=>?_,fun p hp=>absurd (show p∈([]:List (Addr × Obj)) from hp) (by simp),e0.hok.kept hk,?_⟩
 ·exact name_of_addr x.apart (PySem.mem_of_lookup h1) (PySem.mem_of_lookup h2)
 ·have hy:scope.names.lookup y=some .cell∨scope.names.lookup y=some .free:=hy
  rcases hy with hy | hy
  ·exact cell_has hy
  ·exact absurd rfl (S.nofree _ (PySem.mem_of_lookup hy))
 ·exact Nat.le_of_lt (x.above y c (PySem.mem_of_lookup h))
 ·have hi:i < vs.length:=by
   unfold start at h2
   by_cases hi:i < vs.length
   ·exact hi
   ·rw [List.getElem?_append_right (by simpa using hi)] at h2
    rw [List.getElem?_replicate] at h2
    split at h2 <;> cases h2
  have ha:vs[i]?=some v:=by
   unfold start at h2
   rw [List.getElem?_append_left (by simpa using hi),List.getElem?_map] at h2
   cases e:vs[i]? with
   | none=>rw [e] at h2; cases h2
   | some a=>rw [e] at h2; cases h2; rfl
  obtain ⟨u,hu,rv⟩:=r.get ha
  have hp:ps[i]?=some y:=by
   rw [← S.pre,List.getElem?_take_of_lt (by omega)]; exact h1
  have ndP:ps.Nodup:=by rw [← S.pre]; exact S.nd.sublist (List.take_sublist _ _)
  refine ⟨u,rv,?_⟩
  rcases S.par y (List.mem_of_getElem? hp) with k | k
  ·exact .inl ⟨k,bindL_get ndP hp hu k⟩
  ·obtain ⟨c,e⟩:=cell_has (n:=s.heap.objs.size+1) k
   refine .inr ⟨.inl k,c,e,?_⟩
   have q:=x.cell y c e
   rw [bindC_get ndP hp hu (by show scope.names.lookup y≠_; rw [k]; decide)] at q
   exact q
 ·exact e0.hok.fresh (Nat.le_of_lt (x.above y c (PySem.mem_of_lookup h)))
 ·unfold start
  show _=N.length
  rw [List.length_append,List.length_map,List.length_replicate]
  omega
theorem fn_of {CX:CXT}{P:Program}{w:World}{K:Frag}{mg:Str→Option Value}{base:Heap}{k:Nat}{f:Addr}{name qual:Str}{params:Arguments}{body:List Stmt}{scope:Scope}{dV kV doc pm cdv ct oc:Value}{an od:Option Addr}{osl:Array (Option Value)}{N ps:List Str}{sp:Sp}(lk:K.lookup f=some ⟨oc,od,.func (fnOf name qual params body scope dV kV doc pm an cdv ct),osl⟩)(hcd:codeIn K cdv qual=true)(S:FnScope N ps scope)(len:∀ vs H Q E,sp vs H Q E→vs.length=ps.length)(hbody:∀ (A:Around) (outer:List Env) (s:Shared) (H:Hp) (vs:List V) (Q:VK) (E:XK),Room k (A.deeper (envOfC qual scope s.heap.objs.size f cdv))→sp vs H Q E →
   ∃ t,PSs (cxOf CX P w K mg base N qual scope f cdv A outer s H E) body t∧t { nx:=fun _ H'=>Q .non H',rt:=Q } (start N vs) H) :
  FnOk P w K mg base CX (k+1) f (fnOf name qual params body scope dV kV doc pm an cdv ct) ps sp:=by
 refine ⟨len,fun A outer s H args us vs Q E hr e0 hb r hsp=>?_⟩
 have hl:=len _ _ _ _ hsp
 have KX:K.In s.heap:=e0.mod.kin.keeps fun b o e=>(e0.bs b o e).1
 have lim:s.heap.NoLimit:=e0.mod.nolimit.keeps fun b o e=>(e0.bs b o e).1
 have hkind:∀ y∈ps.zip us,scope.names.lookup y.1=some .local∨(scope.names.lookup y.1=some .cell∧((cellsFrom (s.heap.objs.size+1) scope.names []).lookup y.1).isSome=true):=fun ⟨n,v⟩ hy=>by
  rcases S.par n (List.of_mem_zip hy).1 with q | q
  ·exact .inl q
  ·exact .inr ⟨q,cellsFrom_some _ _ _ (.inl q)⟩
 refine codeAny_call_function hr.depth (KX _ _ lk) rfl S.co S.gen rfl (codeRec_of KX hcd) (hb _ _ _ _ ?_)
 refine wpAny_newFunctionEnv_cells S.kind hkind fun env he s1 x=>?_
 subst he
 refine ⟨lim.keeps x.toInCall.keep,codeAny_func ?_⟩
 obtain ⟨t,ht,hq⟩:=hbody A outer s H vs Q E (hr.deeper _) hsp
 have I:Inv (cxOf CX P w K mg base N qual scope f cdv A outer s H E) [] (start N vs) H s1:=inv_start S hr.hd e0 hl r x
 refine wpAny_mono (ht [] s1 (start N vs) H _ I hq) (fun fl s' hs=>?_) fun e s' hs=>hs
 have fin:∀ {σ':St}{H':Hp}{v:V}{u:Value},Inv (cxOf CX P w K mg base N qual scope f cdv A outer s H E) [] σ' H' s'→RelV v u→Q v H'→CE outer P w H s Q u s' :=
  fun {σ' H' v u} J rv q=>⟨v,H',J.os,J.bare,J.base,J.hok,rv,q⟩
 cases fl with
 | ret u =>
  obtain ⟨v,σ',H',J,rv,q⟩:=hs
  exact fin J rv q
 | next =>
  obtain ⟨σ',H',J,q⟩:=hs
  exact fin (v:=V.non) (u:=Value.none) J rfl q
 | brk =>
  obtain ⟨_,_,_,q⟩:=hs
  exact False.elim q
 | cont =>
  obtain ⟨_,_,_,q⟩:=hs
  exact False.elim q
section
variable {X:Cx}{x:Str}{p pos:Pos}{e:Expr}{es:List Expr}{t:TA}{id T:String}{r:List V→Hp→VK→Prop}
def tCB (r:List V→Hp→VK→Prop)(t:TA):TE:=fun σ H Q=>t σ H fun vs H1=>r vs H1 Q
theorem pe_callB (hc:CallR X (.builtin id) r)(hg:Gl X x)(hm:X.mg x=none)(hv:bootBuiltins x=some (.builtin id))(ha:PA X (e::es) t)(hn:x≠"__name__":=by decide)(hdb:(x == ("__debug__":Str))=false:=by decide)(he:starEach (e::es) X.env=(false,eval e X.env)::starEach es X.env:=by rfl)(hpl:(backTo pos (starEach es X.env)).any (·.1)=false:=by rfl):PE X (.Call (.Name x p) (e::es) [] pos) (tCB r t):=by
 intro pins s σ H Q I h
 refine wpAny_Call_Name_kw (ld_blt I hg hm hv ?_ hn hdb)
 exact PyProof.Rows.callWith_builtin1 (thn (ha pos pins s σ H _ I h) fun us s1 ⟨vs,H1,I1,r1,q1⟩=>hc pins s1 σ H1 vs us Q I1 r1 q1) he hpl
theorem pe_callTy (hc:CallR X (.type T) r)(hg:Gl X x)(hm:X.mg x=none)(hv:bootBuiltins x=some (.type T))(ha:PA X (e::es) t)(hn:x≠"__name__":=by decide)(hdb:(x == ("__debug__":Str))=false:=by decide)(he:starEach (e::es) X.env=(false,eval e X.env)::starEach es X.env:=by rfl)(hpl:(backTo pos (starEach es X.env)).any (·.1)=false:=by rfl):PE X (.Call (.Name x p) (e::es) [] pos) (tCB r t):=by
 intro pins s σ H Q I h
 refine wpAny_Call_Name_kw (ld_blt I hg hm hv ?_ hn hdb)
 exact PyProof.Rows.callWith_type1 (thn (ha pos pins s σ H _ I h) fun us s1 ⟨vs,H1,I1,r1,q1⟩=>hc pins s1 σ H1 vs us Q I1 r1 q1) he hpl
end
end L2
namespace HT
open PySem PyProof.Rows PySem.W
section
open PySem.SeqAt
open PySem.AutoSeq1 (wpAny_loadPart')
open PySem.MeetsSeq PySem.MeetsSeq2 PySem.MeetsSeq3
end
section
variable {prog:Program}{w:World}{A:Around}{E:Value→Shared→Prop}{s:Shared}
end
end HT
namespace L2
open PySem PySem.Spec PyProof.Rows PySem.W
abbrev TO:=St→Hp→(Option Int→Hp→Prop)→Prop
def PO (X:Cx)(e:Option Expr)(t:TO):Prop :=
 ∀ (pins:List (Addr × Obj)) (s:Shared) (σ:St) (H:Hp) (Q:Option Int→Hp→Prop),Inv X pins σ H s→t σ H Q →
  wpAny (model X.prog X.w) X.A (evalPart e X.env) (fun u s'=>∃ o H',Inv X pins σ H' s'∧IsPart u o∧Q o H') X.xe s
def tNoPart:TO:=fun _ H Q=>Q none H
def tPart (t:TE):TO:=fun σ H Q=>t σ H fun x H1=>∃ i,x=.int i∧Q (some i) H1
theorem intsAre_of {ns:List Int}:∀ {us:List Value},Vals (ns.map V.int) us→IntsAre us ns:=by
 induction ns with
 | nil=>intro us r; rw [List.map_nil] at r; cases r; exact .nil
 | cons n ns ih =>
  intro us r
  rw [List.map_cons] at r
  cases r with
  | cons r1 r2 =>
   obtain ⟨t,e⟩:=r1
   subst e
   exact .cons n t (ih r2)
section
variable {X:Cx}{e:Expr}{te:TE}{lo hi:Option Expr}{tl th:TO}{pos p2:Pos}
theorem po_none:PO X none tNoPart:=by
 intro pins s σ H Q I h
 rw [evalPart_none]
 exact wpAny_pure ⟨none,H,I,.none,h⟩
theorem po_some (h:PE X e te):PO X (some e) (tPart te):=by
 intro pins s σ H Q I hw
 rw [evalPart_some]
 refine thn (h pins s σ H _ I hw) fun u s1 ⟨x,H1,I1,r1,q1⟩=>?_
 obtain ⟨i,rfl,q⟩:=q1
 obtain ⟨t,rfl⟩:=r1
 exact ⟨some i,H1,I1,.int i t,q⟩
def SlR (X:Cx)(r:V→Option Int→Option Int→Hp→VK→Prop):Prop :=
 ∀ (pins:List (Addr × Obj)) (s:Shared) (σ:St) (H:Hp) (x:V) (v vl vu:Value) (lo hi:Option Int) (sl:Addr) (Q:VK),Inv X pins σ H s→RelV x v→s.heap.IsSliceOf sl vl vu .none→IsPart vl lo→IsPart vu hi→r x lo hi H Q →
  ∃ T id,typeLookup (.type T) "__getitem__"=pure (some (.builtin id))∧s.TypeIs v T∧wpAny (model X.prog X.w) X.A (getItem v (.ref sl)) (EP X pins σ Q) X.xe s
theorem SlR.or {r r':V→Option Int→Option Int→Hp→VK→Prop}(h:SlR X r)(h':SlR X r'):SlR X (fun x lo hi H Q=>r x lo hi H Q∨r' x lo hi H Q):=by
 intro pins s σ H x v vl vu lo hi sl Q I rx hs pl pu q
 rcases q with q | q
 ·exact h pins s σ H x v vl vu lo hi sl Q I rx hs pl pu q
 ·exact h' pins s σ H x v vl vu lo hi sl Q I rx hs pl pu q
def tSl (r:V→Option Int→Option Int→Hp→VK→Prop)(te:TE)(tl th:TO):TE:=fun σ H Q=>te σ H fun x H1=>tl σ H1 fun l H2=>th σ H2 fun u H3=>r x l u H3 Q
theorem pe_slice {r:V→Option Int→Option Int→Hp→VK→Prop}(hr:SlR X r)(he:PE X e te)(hl:PO X lo tl)(hu:PO X hi th):PE X (.Subscript e (.Slice lo hi none p2) pos) (tSl r te tl th):=by
 intro pins s σ H Q I h
 refine Subscript_ (thn (he pins s σ H _ I h) fun v s1 ⟨x,H1,I1,r1,q1⟩=>?_)
 refine wpAny_Slice (thn (hl pins s1 σ H1 _ I1 q1) fun vl s2 ⟨l,H2,I2,pl,q2⟩=>thn (hu pins s2 σ H2 _ I2 q2) fun vu s3 ⟨u,H3,I3,pu,q3⟩=>?_)
 rw [evalPart_none]
 refine wpAny_pure ?_
 have I4:Inv X pins σ H3 { s3 with heap:=s3.heap.push { cls:=.type "slice",data:=.fields #[vl,vu,.none] } }:=I3.kept (t':=s3.toks) fun b ob q=>Heap.get?_push_of_some _ q
 obtain ⟨T,id,hT,ht,hg⟩:=hr pins { s3 with heap:=s3.heap.push { cls:=.type "slice",data:=.fields #[vl,vu,.none] } } σ H3 x v vl vu l u s3.heap.objs.size Q I4 r1 (Heap.IsSliceOf.new ..) pl pu q3
 show wpAny (model X.prog X.w) X.A (subscriptTail e (.Slice lo hi none p2) v (.ref s3.heap.objs.size)) (EP X pins σ Q) X.xe { s3 with heap:=s3.heap.push { cls:=.type "slice",data:=.fields #[vl,vu,.none] } }
 exact tail_any (ops:=[.ref s3.heap.objs.size,v]) ht hT hg (by with_unfolding_all rfl)
end
def ixN (n:Nat)(i:Int):Option Nat:=if 0≤i then (if i < n then some i.toNat else none) else if -(n:Int)≤i then some (i+n).toNat else none
def atI {α:Type}(xs:List α)(i:Int):Option α:=(ixN xs.length i).bind fun j=>xs[j]?
theorem ixN_seq {n:Nat}{i:Int}{j:Nat}(h:ixN n i=some j):seqIndex? i n=some j∧j < n∧-(n:Int)≤i∧i < n:=by
 unfold ixN at h
 by_cases h0:0≤i
 ·rw [if_pos h0] at h
  by_cases h1:i < n
  ·rw [if_pos h1] at h
   have e:i.toNat=j:=Option.some.inj h
   exact ⟨by rw [seqIndex_of h0 h1,e],by omega,by omega,h1⟩
  ·rw [if_neg h1] at h; cases h
 ·rw [if_neg h0] at h
  by_cases h1:-(n:Int)≤i
  ·rw [if_pos h1] at h
   have e:(i+n).toNat=j:=Option.some.inj h
   exact ⟨by rw [seqIndex_neg (by omega) h1,e],by omega,h1,by omega⟩
  ·rw [if_neg h1] at h; cases h
theorem atI_get {α:Type}{xs:List α}{i:Int}{v:α}(h:atI xs i=some v):∃ j,seqIndex? i xs.length=some j∧xs[j]?=some v∧j < xs.length∧-(xs.length:Int)≤i∧i < xs.length:=by
 unfold atI at h
 cases e:ixN xs.length i with
 | none=>rw [e] at h; cases h
 | some j =>
  rw [e] at h
  obtain ⟨h1,h2,h3,h4⟩:=ixN_seq e
  exact ⟨j,h1,h,h2,h3,h4⟩
theorem atI_nat {α:Type}{xs:List α}{j:Nat}{v:α}(h:xs[j]?=some v):atI xs (j:Int)=some v:=by
 have hj:j < xs.length:=(List.getElem?_eq_some_iff.mp h).1
 have e:ixN xs.length (j:Int)=some j:=by
  unfold ixN
  rw [if_pos (by omega),if_pos (by omega)]; simp
 unfold atI; rw [e]; exact h
def PlainIx (b:Expr):Prop:=∀ o i,subscripted b false o i=operate [o,i] (getItem o i)
def IxR (X:Cx)(r:R2):Prop :=
 ∀ (value slice:Expr) (pins:List (Addr × Obj)) (s:Shared) (σ:St) (H:Hp) (x y:V) (v u:Value) (Q:VK),Inv X pins σ H s→RelV x v→RelV y u→r x y H Q →
  subscripted slice false v u=operate [v,u] (getItem v u)→wpAny (model X.prog X.w) X.A (subscriptTail value slice v u) (EP X pins σ Q) X.xe s
def MtR (X:Cx)(id:String)(r:V→List V→Hp→VK→Prop):Prop :=
 ∀ (pins:List (Addr × Obj)) (s:Shared) (σ:St) (H:Hp) (x:V) (xs:List V) (v:Value) (us:List Value) (Q:VK),Inv X pins σ H s→RelV x v→Vals xs us→r x xs H Q →
  wpAny (model X.prog X.w) X.A (call (.builtin id) (v::us)) (EP X pins σ Q) X.xe s
section
variable {X:Cx}{a b:Expr}{ta tb:TE}{pos:Pos}
theorem IxR.or {r r':R2}(h:IxR X r)(h':IxR X r'):IxR X (fun x y H Q=>r x y H Q∨r' x y H Q):=by
 intro value slice pins s σ H x y v u Q I rx ry q hs
 rcases q with q | q
 ·exact h value slice pins s σ H x y v u Q I rx ry q hs
 ·exact h' value slice pins s σ H x y v u Q I rx ry q hs
theorem MtR.or {id:String}{r r':V→List V→Hp→VK→Prop}(h:MtR X id r)(h':MtR X id r'):MtR X id (fun x xs H Q=>r x xs H Q∨r' x xs H Q):=by
 intro pins s σ H x xs v us Q I rx rs q
 rcases q with q | q
 ·exact h pins s σ H x xs v us Q I rx rs q
 ·exact h' pins s σ H x xs v us Q I rx rs q
theorem pe_ix {r:R2}(hr:IxR X r)(ha:PE X a ta)(hb:PE X b tb)(hs:PlainIx b):PE X (.Subscript a b pos) (tOp r ta tb):=by
 intro pins s σ H Q I h
 exact Subscript_ (binT ha hb I h fun v u s2 x y H2 I2 rx ry q=>hr a b pins s2 σ H2 x y v u Q I2 rx ry q (hs _ _))
def rIxL (K:Frag):R2:=fun x y H Q=>∃ p xs i v,x=.ref p∧y=.int i∧SqL K H p xs∧atI xs i=some v∧Q v H
def rIxT (K:Frag):R2:=fun x y H Q=>∃ p xs i v,x=.ref p∧y=.int i∧SqT K H p xs∧atI xs i=some v∧Q v H
def rIxS:R2:=fun x y H Q=>∃ z i c,x=.str z∧y=.int i∧z.length≤sizeLine∧atI z.cps.toList i=some c∧Q (.str ⟨#[c]⟩) H
theorem ix_list:IxR X (rIxL X.K):=by
 intro value slice pins s σ H x y v u Q I rx ry h hs
 obtain ⟨p,xs,i,z,rfl,rfl,hq,he,q⟩:=h
 cases rx
 obtain ⟨t,rfl⟩:=ry
 obtain ⟨its,r,pl,hz⟩:=I.list hq
 obtain ⟨j,h1,h2,h3,h4,h5⟩:=atI_get he
 obtain ⟨w,ew,rw'⟩:=r.get h2
 have hl:=r.length
 have hn:=line63
 have fin:EP X pins σ Q w s:=⟨z,H,I,rw',q⟩
 by_cases h0:0≤i
 ·have hj:i.toNat=j:=by
   rw [seqIndex_of h0 h5] at h1
   exact Option.some.inj h1
  exact item_listR pl.isList h0 (by omega) (by rw [hj]; simpa using ew) fin hs
 ·have hj:(i+(its.toArray.size:Int)).toNat=j:=by
   rw [seqIndex_neg (by omega) h4] at h1
   rw [List.size_toArray,← hl]
   exact Option.some.inj h1
  exact subscriptTail_builtinR (x:=w) pl.isList.typeIs slot_list_getitem.lookup
   (wpAny_getItem_list_neg (Q:=fun r s'=>r=w∧EP X pins σ Q r s') pl.isList (by omega) (by rw [List.size_toArray] <;> omega) (by omega) (by rw [hj]; simpa using ew) ⟨rfl,fin⟩) hs
theorem ix_tup:IxR X (rIxT X.K):=by
 intro value slice pins s σ H x y v u Q I rx ry h hs
 obtain ⟨p,xs,i,z,rfl,rfl,hq,he,q⟩:=h
 cases rx
 obtain ⟨t,rfl⟩:=ry
 obtain ⟨its,r,pl,hz⟩:=I.tuple hq
 obtain ⟨j,h1,h2,h3,h4,h5⟩:=atI_get he
 obtain ⟨w,ew,rw'⟩:=r.get h2
 have hl:=r.length
 have hn:=line63
 have fin:EP X pins σ Q w s:=⟨z,H,I,rw',q⟩
 exact subscriptTail_builtinR (x:=w) pl.typeIs slot_tuple_getitem.lookup
  (getItem_tuple (j:=j) (Q:=fun r s'=>r=w∧EP X pins σ Q r s') pl (by omega) (by omega) (by rw [List.size_toArray,← hl]; exact h1) (by simpa using ew) ⟨rfl,fin⟩) hs
theorem ix_str:IxR X rIxS:=by
 intro value slice pins s σ H x y v u Q I rx ry h hs
 obtain ⟨z,i,c,rfl,rfl,hz,he,q⟩:=h
 obtain ⟨t,rfl⟩:=rx
 obtain ⟨t',rfl⟩:=ry
 obtain ⟨j,h1,h2,h3,h4,h5⟩:=atI_get he
 have hl:z.cps.toList.length=z.length:=by simp [Str.length]
 rw [hl] at h1 h4 h5
 have hn:=line63
 exact tail_any (typeIs_str s z t) slot_str_getitem.lookup (getItem_str (c:=c) (by
  have e1:decide (i < -(2 ^ 63:Int))=false:=decide_eq_false (by omega)
  have e2:decide (i ≥ 2 ^ 63)=false:=decide_eq_false (by omega)
  rw [e1,e2,Bool.or_false]) (by rw [h1]; simpa using h2) ⟨.str ⟨#[c]⟩,H,I.tok _,⟨_,rfl⟩,q⟩) hs
theorem mapSeq_set (its:List Value)(n j:Nat)(u:Value):Obj.mapSeq (·.setIfInBounds j u) { cls:=.type "list",data:=.seq its.toArray n }={ cls:=.type "list",data:=.seq (its.set j u).toArray n }:=by
 simp [Obj.mapSeq]
theorem Inv.lst {pins:List (Addr × Obj)}{σ:St}{H:Hp}{s:Shared}{p:Addr}{xs:List V}(I:Inv X pins σ H s)(h:H p=some (.lst xs)) :
  ∃ (its:List Value) (n:Nat),Vals xs its∧s.heap.get? p=some { cls:=.type "list",data:=.seq its.toArray n }∧xs.length≤sizeLine:=by
 obtain ⟨z,its,n,r,e⟩:=I.hok p _ h
 exact ⟨its,n,r,e,z⟩
theorem Inv.lstUpd {pins:List (Addr × Obj)}{σ:St}{H:Hp}{s:Shared}{p:Addr}{xs ys:List V}{its its':List Value}{n n':Nat}{f:Obj→Obj}(I:Inv X pins σ H s)(h:H p=some (.lst xs))(ho:s.heap.get? p=some { cls:=.type "list",data:=.seq its.toArray n })(hf:f { cls:=.type "list",data:=.seq its.toArray n }={ cls:=.type "list",data:=.seq its'.toArray n' })(r:Vals ys its')(hz:ys.length≤sizeLine)(t:Nat) :
  Inv X pins σ (upd H p (.lst ys)) { s with heap:=s.heap.update p f,toks:=t }:=by
 have e:(s.heap.update p f).get? p=some { cls:=.type "list",data:=.seq its'.toArray n' }:=by
  rw [Heap.get?_update_self f ho (by rw [hf] <;> rfl),hf]
 refine I.write (x:=p) (e:=p) (by rw [h]; trivial) (.inl rfl) (fun b u hb q=>(Heap.get?_update_other _ _ (Ne.symm hb)).trans q) ⟨_,e⟩ ?_
 exact ⟨hz,its',n',r,e⟩
def rSetL:V→V→V→Hp→(Hp→Prop)→Prop:=fun o i v H Q=>∃ p xs k j,o=.ref p∧i=.int k∧H p=some (.lst xs)∧ixN xs.length k=some j∧Q (upd H p (.lst (xs.set j v)))
theorem set_list:PSet X rSetL:=by
 intro pins s σ H o i v ov iv u Q I ro ri rv h
 obtain ⟨p,xs,k,j,rfl,rfl,hp,hj,q⟩:=h
 cases ro
 obtain ⟨t,rfl⟩:=ri
 obtain ⟨its,n,r,ho,hz⟩:=I.lst hp
 obtain ⟨h1,h2,h3,h4⟩:=ixN_seq hj
 have hl:=r.length
 have hn:=line63
 have I':Inv X pins σ (upd H p (.lst (xs.set j v))) { s with heap:=s.heap.update p (Obj.mapSeq (·.setIfInBounds j u)) } :=
  I.lstUpd hp ho (mapSeq_set its n j u) (r.set rv j) (by rw [List.length_set]; exact hz) s.toks
 by_cases h0:0≤k
 ·have hk:k.toNat=j:=by
   rw [seqIndex_of h0 h4] at h1
   exact Option.some.inj h1
  exact ki_setAt ho h0 (by omega) (by rw [List.size_toArray,← hl]; exact h4) (by rw [hk]; exact ⟨_,I',q⟩)
 ·have hk:(k+(its.toArray.size:Int)).toNat=j:=by
   rw [seqIndex_neg (by omega) h3] at h1
   rw [List.size_toArray,← hl]
   exact Option.some.inj h1
  exact ki_setBack ho (by omega) (by rw [List.size_toArray,← hl]; exact h3) (by omega) (by rw [hk]; exact ⟨_,I',q⟩)
def flatV:V→Bool
 | .non=>true
 | .bl _=>true
 | .int _=>true
 | .str _=>true
 | _=>false
def eqV:V→V→Bool
 | .non,.non=>true
 | .bl a,.bl b=>a == b
 | .bl a,.int b=>(if a then 1 else 0) == b
 | .int a,.bl b=>a == (if b then 1 else 0)
 | .int a,.int b=>a == b
 | .str a,.str b=>a == b
 | _,_=>false
theorem eqAt_V {A:Around}{s:Shared}{y x:V}{u v:Value}(ry:RelV y u)(rx:RelV x v)(fy:flatV y=true)(fx:flatV x=true):SeqAt.EqAt A s u v (eqV y x):=by
 cases y with
 | non =>
  cases ry
  cases x with
  | non=>cases rx; exact SeqAt.EqAt.same _
  | bl b=>cases rx; exact SeqAt.EqAt.none_bool b
  | int b=>obtain ⟨t,rfl⟩:=rx; exact SeqAt.EqAt.none_int b t
  | str b=>obtain ⟨t,rfl⟩:=rx; exact SeqAt.EqAt.none_str b t
  | _=>exact absurd (show false=true from fx) Bool.false_ne_true
 | bl a =>
  cases ry
  cases x with
  | non=>cases rx; exact SeqAt.EqAt.bool_none a
  | bl b=>cases rx; exact SeqAt.EqAt.bool_bool a b
  | int b=>obtain ⟨t,rfl⟩:=rx; exact SeqAt.EqAt.bool_int a b t
  | str b=>obtain ⟨t,rfl⟩:=rx; exact SeqAt.EqAt.bool_str a b t
  | _=>exact absurd (show false=true from fx) Bool.false_ne_true
 | int a =>
  obtain ⟨t',rfl⟩:=ry
  cases x with
  | non=>cases rx; exact SeqAt.EqAt.int_none a t'
  | bl b=>cases rx; exact SeqAt.EqAt.int_bool a t' b
  | int b=>obtain ⟨t,rfl⟩:=rx; exact SeqAt.EqAt.int_int a t' b t
  | str b=>obtain ⟨t,rfl⟩:=rx; exact SeqAt.EqAt.int_str a t' b t
  | _=>exact absurd (show false=true from fx) Bool.false_ne_true
 | str a =>
  obtain ⟨t',rfl⟩:=ry
  cases x with
  | non=>cases rx; exact SeqAt.EqAt.str_none a t'
  | bl b=>cases rx; exact SeqAt.EqAt.str_bool a t' b
  | int b=>obtain ⟨t,rfl⟩:=rx; exact SeqAt.EqAt.str_int a t' b t
  | str b=>obtain ⟨t,rfl⟩:=rx; exact SeqAt.EqAt.str_str a t' b t
  | _=>exact absurd (show false=true from fx) Bool.false_ne_true
 | _=>exact absurd (show false=true from fy) Bool.false_ne_true
def eqU (x:V)(u:Value):Bool:=match u with
 | .none=>eqV .non x
 | .bool b=>eqV (.bl b) x
 | .int i _=>eqV (.int i) x
 | .str z _=>eqV (.str z) x
 | _=>false
theorem eqU_of {x y:V}{u:Value}(r:RelV y u)(f:flatV y=true):eqU x u=eqV y x:=by
 cases y with
 | non=>cases r; rfl
 | bl b=>cases r; rfl
 | int i=>obtain ⟨t,rfl⟩:=r; rfl
 | str z=>obtain ⟨t,rfl⟩:=r; rfl
 | _=>exact absurd (show false=true from f) Bool.false_ne_true
theorem any_eqU {x:V}:∀ {xs:List V}{us:List Value},Vals xs us→xs.all flatV=true→us.any (eqU x)=xs.any fun y=>eqV y x
 | _,_,.nil,_=>rfl
 | y::xs,u::us,.cons r t,f=>by
  rw [List.all_cons,Bool.and_eq_true] at f
  rw [List.any_cons,List.any_cons,eqU_of r f.1,any_eqU t f.2]
theorem mem_eqAt {A:Around}{s:Shared}{x:V}{v:Value}(rx:RelV x v)(fx:flatV x=true):∀ {xs:List V}{us:List Value},Vals xs us→xs.all flatV=true→∀ u∈us,SeqAt.EqAt A s u v (eqU x u)
 | _,_,.nil,_=>fun u hu=>by cases hu
 | y::xs,u::us,.cons r t,f=>fun u' hu=>by
  rw [List.all_cons,Bool.and_eq_true] at f
  rcases List.mem_cons.mp hu with rfl | hu
  ·rw [eqU_of r f.1]; exact eqAt_V r rx f.1 fx
  ·exact mem_eqAt rx fx t f.2 u' hu
def inV (x:V)(xs:List V):Bool:=xs.any fun y=>eqV y x
def rIn (K:Frag)(neg:Bool):R2:=fun x y H Q=>∃ p xs,y=.ref p∧(SqL K H p xs∨SqT K H p xs)∧flatV x=true∧xs.all flatV=true∧Q (.bl (if neg then !inV x xs else inV x xs)) H
theorem op_in_seq:OpR X (compareOp .In) (rIn X.K false):=by
 intro pins s σ H x y v u Q I rx ry h
 obtain ⟨p,xs,rfl,hq,fx,fs,q⟩:=h
 cases ry
 rcases hq with hq | hq
 ·obtain ⟨its,r,pl,hz⟩:=I.list hq
  refine SeqAt.in_listAt (eqU x) pl.isList (fun w hw=>mem_eqAt rx fx r fs w (by simpa using hw)) ⟨.bl _,H,I,rfl,?_⟩
  rw [show its.toArray.any (eqU x)=its.any (eqU x) by simp,any_eqU r fs]
  exact q
 ·obtain ⟨its,r,pl,hz⟩:=I.tuple hq
  refine SeqAt.in_tupleAt (eqU x) pl (fun w hw=>mem_eqAt rx fx r fs w (by simpa using hw)) ⟨.bl _,H,I,rfl,?_⟩
  rw [show its.toArray.any (eqU x)=its.any (eqU x) by simp,any_eqU r fs]
  exact q
theorem op_notIn_seq:OpR X (compareOp .NotIn) (rIn X.K true):=by
 intro pins s σ H x y v u Q I rx ry h
 obtain ⟨p,xs,rfl,hq,fx,fs,q⟩:=h
 cases ry
 rcases hq with hq | hq
 ·obtain ⟨its,r,pl,hz⟩:=I.list hq
  refine SeqAt.notIn_listAt (eqU x) pl.isList (fun w hw=>mem_eqAt rx fx r fs w (by simpa using hw)) ⟨.bl _,H,I,rfl,?_⟩
  rw [show its.toArray.any (eqU x)=its.any (eqU x) by simp,any_eqU r fs]
  exact q
 ·obtain ⟨its,r,pl,hz⟩:=I.tuple hq
  refine SeqAt.notIn_tupleAt (eqU x) pl (fun w hw=>mem_eqAt rx fx r fs w (by simpa using hw)) ⟨.bl _,H,I,rfl,?_⟩
  rw [show its.toArray.any (eqU x)=its.any (eqU x) by simp,any_eqU r fs]
  exact q
theorem call_len_seq:CallR X (.builtin "len") (fun xs H Q=>∃ p ys,xs=[.ref p]∧(SqL X.K H p ys∨SqT X.K H p ys)∧Q (.int ys.length) H):=by
 intro pins s σ H xs us Q I r h
 obtain ⟨p,ys,rfl,hq,q⟩:=h
 obtain ⟨u,rfl,rx⟩:=vals1 r
 cases rx
 have hn:=line63
 rcases hq with hq | hq
 ·obtain ⟨its,r',pl,hz⟩:=I.list hq
  have hlen:=r'.length
  exact Calls.call_len_list pl.isList (by simp only [List.size_toArray] <;> omega) ⟨.int ys.length,H,I.tok _,⟨s.toks+1,by rw [List.size_toArray,hlen]⟩,q⟩
 ·obtain ⟨its,r',pl,hz⟩:=I.tuple hq
  have hlen:=r'.length
  exact len_tuple pl (by simp only [List.size_toArray] <;> omega) ⟨.int ys.length,H,I.tok _,⟨s.toks+1,by rw [List.size_toArray,hlen]⟩,q⟩
theorem call_len_str:CallR X (.builtin "len") (fun xs H Q=>∃ z,xs=[.str z]∧z.length≤sizeLine∧Q (.int z.length) H):=by
 intro pins s σ H xs us Q I r h
 obtain ⟨z,rfl,hz,q⟩:=h
 obtain ⟨u,rfl,t,rfl⟩:=vals1 r
 have hn:=line63
 exact len_str (by omega) ⟨.int z.length,H,I.tok _,⟨_,rfl⟩,q⟩
theorem CallR.or {f:Value}{r r':List V→Hp→VK→Prop}(h:CallR X f r)(h':CallR X f r'):CallR X f (fun xs H Q=>r xs H Q∨r' xs H Q):=by
 intro pins s σ H xs us Q I rs q
 rcases q with q | q
 ·exact h pins s σ H xs us Q I rs q
 ·exact h' pins s σ H xs us Q I rs q
theorem call_list_of:CallR X (.type "list") (fun xs H Q=>∃ p ys,xs=[.ref p]∧(SqL X.K H p ys∨SqT X.K H p ys)∧∀ l,H l=none→Q (.ref l) (upd H l (.lst ys))):=by
 intro pins s σ H xs us Q I r h
 obtain ⟨p,ys,rfl,hq,q⟩:=h
 obtain ⟨u,rfl,rx⟩:=vals1 r
 cases rx
 have fin:∀ (its:List Value),Vals ys its→ys.length≤sizeLine→∀ (h':Heap) (c':Nat),(∀ b o',s.heap.get? b=some o'→h'.get? b=some o') →
   h'.get? s.heap.objs.size=some { cls:=.type "list",dict:=none,data:=.seq its.toArray c',slots:=#[] }→EP X pins σ Q (.ref s.heap.objs.size) { s with heap:=h' }:=fun its r' hz h' c' kp e =>
  ⟨.ref s.heap.objs.size,_,I.laid (t':=s.toks) kp (Nat.le_refl _) (show ObjOk X.prog X.w _ h' _ (.lst ys) from ⟨hz,its,c',r',e⟩),rfl,q _ (I.hok.fresh (Nat.le_refl _))⟩
 rcases hq with hq | hq
 ·obtain ⟨its,r',pl,hz⟩:=I.list hq
  have hlen:=r'.length
  obtain ⟨o,ho,hc,n,hd⟩:=pl.isList
  exact call_list_seq p (.inl rfl) ho hc hd (fun h' c' kp e=>fin its r' hz h' c' kp e) (by simp only [List.size_toArray] <;> omega)
 ·obtain ⟨its,r',pl,hz⟩:=I.tuple hq
  have hlen:=r'.length
  obtain ⟨o,ho,hc,n,hd⟩:=pl
  exact call_list_seq p (.inr rfl) ho hc hd (fun h' c' kp e=>fin its r' hz h' c' kp e) (by simp only [List.size_toArray] <;> omega)
theorem call_tuple_of:CallR X (.type "tuple") (fun xs H Q=>∃ p ys,xs=[.ref p]∧((SqL X.K H p ys∧∀ l,H l=none→Q (.ref l) (upd H l (.tup ys)))∨(SqT X.K H p ys∧Q (.ref p) H))):=by
 intro pins s σ H xs us Q I r h
 obtain ⟨p,ys,rfl,h⟩:=h
 obtain ⟨u,rfl,rx⟩:=vals1 r
 cases rx
 rcases h with ⟨hq,q⟩ | ⟨hq,q⟩
 ·obtain ⟨its,r',pl,hz⟩:=I.list hq
  have hlen:=r'.length
  refine call_tuple_list pl.isList (fun h' kp=>?_) (by simp only [List.size_toArray] <;> omega)
  have I1:Inv X pins σ H { s with heap:=h' }:=I.kept (t':=s.toks) kp
  have I2:Inv X pins σ (upd H h'.objs.size (.tup ys)) { s with heap:=h'.push { cls:=.type "tuple",data:=.seq its.toArray } } :=
   I1.laid (t':=s.toks) (fun b o e=>Heap.get?_push_of_some _ e) (Nat.le_refl _) (show ObjOk X.prog X.w _ _ _ (.tup ys) from ⟨hz,its,r',IsTup.new _ _⟩)
  exact ⟨.ref h'.objs.size,_,I2,rfl,q _ (I1.hok.fresh (Nat.le_refl _))⟩
 ·obtain ⟨its,r',pl,hz⟩:=I.tuple hq
  exact call_tuple_same pl ⟨.ref p,H,I,rfl,q⟩
def tyV (K:Frag)(T:String)(x:V)(H:Hp):Prop:=match x with
 | .str _=>T="str"
 | .int _=>T="int"
 | .ref p=>(T="list"∧∃ xs,SqL K H p xs)∨(T="tuple"∧∃ o,K.lookup p=some o∧o.cls=.type "tuple"∧o.dict=none) ∨
   (T="dict"∧((∃ kvs,H p=some (.dK kvs))∨∃ kvs,H p=some (.dT kvs)))∨(T="set"∧∃ S n,H p=some (.set S n))
 | _=>False
theorem tyV_is {pins:List (Addr × Obj)}{σ:St}{H:Hp}{s:Shared}{T:String}{x:V}{v:Value}(I:Inv X pins σ H s)(r:RelV x v)(ty:tyV X.K T x H) :
  s.TypeIs v T∧∀ a,v=.ref a→∃ ob,s.heap.get? a=some ob∧ob.dict=none:=by
 cases x with
 | str z =>
  obtain ⟨t,rfl⟩:=r
  cases (show T="str" from ty)
  exact ⟨typeIs_str s z t,fun _ e=>nomatch e⟩
 | int i =>
  obtain ⟨t,rfl⟩:=r
  cases (show T="int" from ty)
  exact ⟨typeIs_int s i t,fun _ e=>nomatch e⟩
 | ref p =>
  cases r
  rcases ty with ⟨rfl,xs,hq⟩ | ⟨rfl,o,hk,hc,hd⟩ | ⟨rfl,hk⟩ | ⟨rfl,S,n,hk⟩
  ·obtain ⟨its,_,pl,_⟩:=I.list hq
   refine ⟨pl.isList.typeIs,fun a e=>?_⟩
   cases e
   obtain ⟨o,n,e,c,hd,_⟩:=pl
   exact ⟨o,e,hd⟩
  ·refine ⟨⟨o,I.kIn p o hk,hc⟩,fun a e=>?_⟩
   cases e
   exact ⟨o,I.kIn _ o hk,hd⟩
  ·have z:∃ o,s.heap.get? p=some o∧o.ExactDict:=by
    rcases hk with ⟨kvs,hk⟩ | ⟨kvs,hk⟩
    ·obtain ⟨_,_,_,_,o,_,_,e,ex,_⟩:=I.hok p _ hk
     exact ⟨o,e,ex⟩
    ·obtain ⟨_,_,_,_,o,_,_,e,ex,_⟩:=I.hok p _ hk
     exact ⟨o,e,ex⟩
   obtain ⟨o,e,ex⟩:=z
   refine ⟨⟨o,e,ex.1⟩,fun a e2=>?_⟩
   cases e2
   exact ⟨o,e,ex.2.1⟩
  ·obtain ⟨o,_,_,_,e,ex,_⟩:=I.hok p _ hk
   refine ⟨⟨o,e,ex.1⟩,fun a e2=>?_⟩
   cases e2
   exact ⟨o,e,ex.2.1⟩
 | _=>exact False.elim ty
def tBM0 (K:Frag)(T:String)(r:V→List V→Hp→VK→Prop)(to:TE):TE:=fun σ H Q=>to σ H fun x H1=>tyV K T x H1∧r x [] H1 Q
def tBM (K:Frag)(T:String)(r:V→List V→Hp→VK→Prop)(to:TE)(t:TA):TE:=fun σ H Q=>to σ H fun x H1=>tyV K T x H1∧t σ H1 fun xs H2=>r x xs H2 Q
variable {o e:Expr}{es:List Expr}{to:TE}{t:TA}{name:Str}{apos cpos:Pos}{T id:String}{r:V→List V→Hp→VK→Prop}
theorem pe_bm0 (pa:PlainAttrs T)(slot:Slot T name id)(hty:typeOf (.builtin id)=pure (.type "method_descriptor"))(hm:MtR X id r)(ho:PE X o to)(hbase:attributeBase o name X.env (eval o X.env)=eval o X.env:=by rfl)(hline:(apos.endLine == cpos.line)=true:=by rfl):PE X (.Call (.Attribute o name apos) [] [] cpos) (tBM0 X.K T r to):=by
 intro pins s σ H Q I h
 refine wpAny_Call_method0_late hbase hline (thn (ho pins s σ H _ I h) fun v s1 ⟨x,H1,I1,r1,ty,q1⟩=>?_)
 obtain ⟨h1,h2⟩:=tyV_is I1 r1 ty
 exact ⟨T,id,pa,slot,hty,h1,h2,Calls.callWith_builtin rfl (PySem.evalArgs_none (hm pins s1 σ H1 x [] v [] Q I1 r1 .nil q1))⟩
theorem pe_bm (pa:PlainAttrs T)(slot:Slot T name id)(hty:typeOf (.builtin id)=pure (.type "method_descriptor"))(hm:MtR X id r)(ho:PE X o to)(ha:PA X (e::es) t)(hbase:attributeBase o name X.env (eval o X.env)=eval o X.env:=by rfl)(hfew:((backTo cpos (starEach (e::es) X.env)).all (fun x=>!x.1) && (backToKw cpos (keywordEach [] X.env)).all (fun x=>x.1.isSome)
   && decide ((e::es).length+([]:List Keyword).length+(if ([]:List Keyword).isEmpty then 0 else 1) < 30))=true:=by rfl)(hline:(apos.endLine == cpos.line)=true:=by rfl)(hs:starEach (e::es) X.env=(false,eval e X.env)::starEach es X.env:=by rfl)(hplain:(backTo cpos (starEach es X.env)).any (·.1)=false:=by rfl) :
  PE X (.Call (.Attribute o name apos) (e::es) [] cpos) (tBM X.K T r to t):=by
 intro pins s σ H Q I h
 refine wpAny_Call_method_late hbase hfew hline rfl (thn (ho pins s σ H _ I h) fun v s1 ⟨x,H1,I1,r1,ty,q1⟩=>?_)
 obtain ⟨h1,h2⟩:=tyV_is I1 r1 ty
 refine ⟨T,id,pa,slot,hty,h1,h2,?_⟩
 have hA:=ha cpos pins s1 σ H1 _ I1 q1
 rw [hs] at hA ⊢
 refine Calls.callWith_builtin (by show (false || (backTo cpos (starEach es X.env)).any (·.1))=false; rw [hplain] <;> rfl) (Calls.evalArgs_plain ?_)
 exact thn hA fun us s2 ⟨vs,H2,I2,r2,q2⟩=>hm pins s2 σ H2 x vs v us Q I2 r1 r2 q2
/- xs.append(e),list.index on a module's tuple .. are MtR facts of 06m -/
end
def MtM (X:Cx)(id:String)(r:V→List V→Hp→VK→Prop):Prop :=
 ∀ (pins:List (Addr × Obj)) (s:Shared) (σ:St) (H:Hp) (x:V) (xs:List V) (v:Value) (us:List Value) (Q:VK),Inv X pins σ H s→RelV x v→Vals xs us→r x xs H Q →
  wpAny (model X.prog X.w) X.A (call (.builtin id) (v::us)) (EP X pins σ Q) X.xe s
theorem Vals.one:∀ {x:V}{us:List Value},Vals [x] us→∃ u,us=[u]∧RelV x u
 | _,_,.cons r .nil=>⟨_,rfl,r⟩
theorem Vals.two:∀ {x y:V}{us:List Value},Vals [x,y] us→∃ u v,us=[u,v]∧RelV x u∧RelV y v
 | _,_,_,.cons r (.cons q .nil)=>⟨_,_,rfl,r,q⟩
theorem Vals.zero:∀ {us:List Value},Vals [] us→us=[]
 | _,.nil=>rfl
theorem Vals.reverse {xs:List V}{us:List Value}(h:Vals xs us):Vals xs.reverse us.reverse:=by
 induction h with
 | nil=>exact .nil
 | cons r t ih=>rw [List.reverse_cons,List.reverse_cons]; exact Vals.append ih (.cons r .nil)
section
variable {X:Cx}{pins:List (Addr × Obj)}{σ:St}{H:Hp}{s:Shared}{l b:Addr}{xs ys zs:List V}
theorem Inv.lset {its its':List Value}{n:Nat}{f:Array Value→Array Value}{t':Nat}(I:Inv X pins σ H s)(hH:H l=some (.lst xs))(e:s.heap.get? l=some { cls:=.type "list",data:=.seq its.toArray n })(hf:f its.toArray=its'.toArray)(hv:Vals ys its')(hz:ys.length≤sizeLine) :
  Inv X pins σ (upd H l (.lst ys)) { s with heap:=s.heap.update l (Obj.mapSeq f),toks:=t' }:=by
 have q:=PySem.IsL.update e f
 rw [hf] at q
 refine I.write (x:=l) (e:=l) (by rw [hH]; exact trivial) (.inl rfl) (fun b' u hb hu=>(Heap.get?_update_other s.heap (Obj.mapSeq f) (Ne.symm hb)).trans hu) ⟨_,q⟩ ?_
 exact ⟨hz,its',_,hv,q⟩
theorem Inv.lnew {its:List Value}{t':Nat}(I:Inv X pins σ H s)(hv:Vals ys its)(hz:ys.length≤sizeLine) :
  Inv X pins σ (upd H s.heap.objs.size (.lst ys)) { s with heap:=s.heap.push { cls:=.type "list",data:=.seq its.toArray },toks:=t' } :=
 I.laid (fun _ _ q=>Heap.get?_push_of_some _ q) (Nat.le_refl _) ⟨hz,its,0,hv,Heap.get?_push_size _ rfl⟩
theorem Inv.fresh (I:Inv X pins σ H s):H s.heap.objs.size=none:=I.hok.fresh (Nat.le_refl _)
theorem Inv.lstM (I:Inv X pins σ H s)(hH:H l=some (.lst xs)):xs.length≤sizeLine∧∃ (its:List Value) (n:Nat),Vals xs its∧xs.length=its.length∧s.heap.get? l=some { cls:=.type "list",data:=.seq its.toArray n }:=by
 obtain ⟨z,its,n,r,e⟩:=I.hok l _ hH
 exact ⟨z,its,n,r,r.length,e⟩
end
section
variable {X:Cx}
def rAppend:V→List V→Hp→VK→Prop:=fun x vs H Q=>∃ l xs y,x=.ref l∧vs=[y]∧H l=some (.lst xs)∧xs.length < sizeLine∧Q .non (upd H l (.lst (xs++[y])))
theorem mt_append:MtM X "list.append" rAppend:=by
 intro pins s σ H x vs v us Q I rx rv h
 obtain ⟨l,xs,y,rfl,rfl,hH,hz,q⟩:=h
 cases rx
 obtain ⟨u,rfl,ru⟩:=rv.one
 obtain ⟨z,its,n,r,hl,e⟩:=I.lstM hH
 refine call_meets F.slot_list_append ⟨_,e,rfl⟩ F.entry_list_append (F.args_list_append_2 _ _) (PySem.list_append l its.toArray n u (by rw [List.size_toArray]; omega)) ⟨e,?_⟩
 refine ⟨.non,_,I.lset (its':=its++[u]) hH e (by simp) (r.append (.cons ru .nil)) ?_,rfl,q⟩
 rw [List.length_append,List.length_singleton]
 omega
def rCat:R2:=fun x y H Q=>∃ l b xs zs,x=.ref l∧y=.ref b∧H l=some (.lst xs)∧H b=some (.lst zs)∧xs.length+zs.length≤sizeLine∧∀ p,H p=none→Q (.ref p) (upd H p (.lst (xs++zs)))
theorem op_cat:OpR X (binaryOp .Add) rCat:=by
 intro pins s σ H x y v u Q I rx ry h
 obtain ⟨l,b,xs,zs,rfl,rfl,hH,hB,hz,q⟩:=h
 cases rx
 cases ry
 obtain ⟨z,its,n,r,hl,e⟩:=I.lstM hH
 obtain ⟨z2,its2,n2,r2,hl2,e2⟩:=I.lstM hB
 refine PySem.P.add_list e e2 ?_ (by rw [List.size_toArray,List.size_toArray]; omega)
 have ea:its.toArray++its2.toArray=(its++its2).toArray:=by simp
 rw [ea]
 exact ⟨.ref _,_,I.lnew (t':=s.toks) (r.append r2) (by rw [List.length_append]; omega),rfl,q _ I.fresh⟩
end
section
variable {prog:Program}{w:World}{A:Around}{E:Value→Shared→Prop}{s:Shared}
end
section
variable {X:Cx}
end
end L2
namespace Att
open PySem PySem.W PySem.Calls PyProof.Rows
theorem ints_of_wellAll {P:Params}{h:Heap}:∀ (ns:List Int) (vs:List Value),WellAll P h vs (ns.map WData.int)→IntsAre vs ns:=by
 intro ns
 induction ns with
 | nil =>
  intro vs w
  rw [List.map_nil] at w
  cases w
  exact .nil
 | cons n ns ih =>
  intro vs w
  rw [List.map_cons] at w
  cases w with
  | cons a b =>
   cases a
   exact .cons _ _ (ih _ b)
theorem script_of {l:OpenLaw}{n:Nat}(hn:l.most=some n){P:Params}{h:Heap}{args:List WData}{vals:List Value}(hpre:l.row.toRowW.claim.pre args=true)(hwl:WellAll P h vals args) :
  ∃ a vs ns,vals=[Value.ref a]∧args=[WData.list (ns.map WData.int)]∧h.get? a=some { cls:=.type "list",data:=.seq vs.toArray }∧IntsAre vs ns∧ns.length≤n:=by
 have hsh:WShape.hasAll [] args [.list .int]=true:=(pre_splitW hpre).1
 have hc:l.pre.holds [] { args:=args }=true:=(pre_splitW hpre).2
 obtain ⟨d,r,rfl,h1,h2⟩:=hasAllW_cons hsh
 obtain rfl:=hasAllW_nil h2
 obtain ⟨xs,rfl,h3⟩:=hasW_list h1
 obtain ⟨ns,rfl⟩:=items_int h3
 have hlen:ns.length≤n:=by
  unfold OpenLaw.pre at hc
  have h4:(WTm.not (.lt (.lit (.int (n:Int))) (.len (.arg 0)))).holds [] { args:=[.list (ns.map .int)] }=true:=by
   have h4:=(holds_andW hc).1
   rw [hn] at h4
   exact h4
  have h5:=condW_of h4 (w_not (w_lt w_lit (w_len_list (w_arg rfl))))
  rw [List.length_map] at h5
  refine Nat.le_of_not_lt fun q=>?_
  have q':(n:Int) < ((ns.length:Nat):Int):=by omega
  first
   | (rw [decide_eq_true q'] at h5; exact absurd h5 (by decide))
   | (simp at h5; omega)
 cases hwl with
 | cons w1 w2 =>
  cases w2
  cases w1 with
  | list ho hall=>exact ⟨_,_,ns,rfl,rfl,ho,ints_of_wellAll ns _ hall,hlen⟩
theorem post_true (l:OpenLaw)(args:List WData):l.row.toRowW.claim.post args (.bool true) args=true :=
 postW_of (r:=l.row.toRowW) (X:=(true == true))
  (show WShape.has [] (.bool true) .bool=true by first | rfl | decide | simp [WShape.has,WShape.arms,WShape.armsAll])
  (show (WTm.eq .res (.lit (.bool true))).value [] { args:=args,res:=some (.bool true),after:=args }=some (.bool (true == true)) from w_eq_bool (w_res rfl) w_lit) rfl
theorem attach_call {l:OpenLaw}{n:Nat}{q:Program}{loose:List Str}{XP:(Str→Option Value)→Heap→Prop}{YP:World→Heap→Prop}{d:DefRec}(hn:l.most=some n)(hdf:d.params.defaults=[])(call:∀ (w:World) (s₀ s₁:Shared) (mg mb:Str→Option Value) (fa:Addr) (o:Obj) (pm cd doc:Value) (a:Addr) (vs:List Value) (ns:List Int),
   Ground q loose [] XP w s₀ mg mb s₁.heap→YP w s₁.heap →
   s₁.heap.get? fa=some o→o.data=.func (docDef d.name d.params d.body d.scope pm cd doc)→s₁.heap.CodeRec cd d.name→mg d.name=some (.ref fa) →
   s₁.heap.get? a=some { cls:=.type "list",data:=.seq vs.toArray }→IntsAre vs ns→ns.length≤n→s₁.gens=#[] →
   codeAny (model l.prog w) callerA (.call (.ref fa) ⟨[.ref a],[]⟩) (fun r s'=>r=.ok (.ret (.bool true))∧OldK s₁.heap s'.heap∧s'.os=s₁.os∧AllBare s'.gens) s₁) :
  WalkO q loose XP YP l.row.toRowW d [] (fun f vs=>PySem.call f vs):=by
 intro w s₀ s₁ mg mb G Y fa o pm cd doc dV kV ho hd hcd hD hmg hg args vals as hpre hlay hrd hwl hlo
 obtain rfl:dV=.none:=Dflts.none hD hdf
 obtain rfl:kV=.none:=Dflts.noKw hD
 obtain ⟨a,vs,ns,rfl,rfl,hobj,hints,hlen⟩:=script_of hn hpre hwl
 refine enter_call (codeAny_mono (call w s₀ s₁ mg mb fa o pm cd doc a vs ns G Y ho (fd_plain hd) hcd hmg hobj hints hlen hg) fun r s' hq=>?_)
 obtain ⟨rfl,h2,h3,h4⟩:=hq
 exact ⟨.inl ⟨.bool true,.bool true,[],rfl,fun _=>rfl,.bool true,post_true l _,fun _=>⟨List.Pairwise.nil,fun _ hm=>(nomatch hm)⟩⟩,h2,h3,h4⟩
section
variable {prog:Program}{w:World}{A:Around}{E:Value→Shared→Prop}{s:Shared}{K:Frag}
def ledger (h:Heap)(L d:Addr):List (Addr × Obj):=(List.range h.objs.size).filterMap fun a=>if a=L∨a=d then none else (h.get? a).map fun o=>(a,o)
end
end Att
namespace L2
open PySem PySem.Spec PyProof.Rows PySem.W
theorem vals_ints:∀ {vs:List Value}{ns:List Int},IntsAre vs ns→Vals (ns.map V.int) vs
 | _,_,.nil=>.nil
 | _,_,.cons n t h=>.cons ⟨t,rfl⟩ (vals_ints h)
def Only (H:Hp):Prop:=∀ b,H b=none∨∃ o xs,H b=some (.frz o (.lst xs))
theorem law_call {P:Program}{w:World}{K:Frag}{mg mb:Str→Option Value}{CX:CXT}{k:Nat}{fa a:Addr}{fd:FuncData}{x:Str}{sp:Sp}{s₁:Shared}{vs:List Value}{ns:List Int}(KX:K.In s₁.heap)(hns:s₁.heap.Ns mainGlobals mg)(hb:s₁.heap.Ns builtinsNs mb)(hbb:∀ x:Str,x≠"__name__"→mb x=bootBuiltins x)(hlim:s₁.heap.NoLimit)(hg:s₁.gens=#[])(ha:s₁.heap.get? a=some { cls:=.type "list",data:=.seq vs.toArray })(hi:IntsAre vs ns)(hl:ns.length≤sizeLine)(hr:Room k callerA)(F:∀ base:Heap,K.In base→base.Ns mainGlobals mg→FnOk P w K mg base CX k fa fd [x] sp)(hbind:∀ (s:Shared) (u:Value),BindsTo s fd ⟨[u],[]⟩ [(x,u)])(hsp:∀ H:Hp,Only H→SqL K H a (ns.map V.int)→sp [.ref a] H (fun v _=>v=.bl true) fun _ _ _=>False)(hCX:∀ H e s',CX [] H s₁ (fun _ _ _=>False) e s'→False) :
  codeAny (model P w) callerA (.call (.ref fa) ⟨[.ref a],[]⟩) (fun r s'=>r=.ok (.ret (.bool true))∧OldK s₁.heap s'.heap∧s'.os=s₁.os∧AllBare s'.gens) s₁:=by
 have rv:=vals_ints hi
 have lenV:=hi.length
 -- from an abstract heap in which nothing but the script may be tracked
 have core:∀ H:Hp,Only H→SqL K H a (ns.map V.int)→HOk P w H s₁.heap→(∀ b,H b≠none→b=a)→(H a≠none→K.lookup a=none) →
   codeAny (model P w) callerA (.call (.ref fa) ⟨[.ref a],[]⟩) (fun r s'=>r=.ok (.ret (.bool true))∧OldK s₁.heap s'.heap∧s'.os=s₁.os∧AllBare s'.gens) s₁:=by
  intro H hO hS hok hA hK
  have base_of:∀ {b:Addr}{o:Obj},s₁.heap.get? b=some o→H b=none→(hidT s₁.heap H).get? b=some o:=fun e n=>hidT_get e n
  have noA:∀ {b:Addr}{o:Obj}{es:Array DictEntry}{ep:Nat},s₁.heap.get? b=some o→o.data=.dict es ep→H b=none:=fun {b o es ep} e d=>by
   cases q:H b with
   | none=>rfl
   | some u =>
    have e':b=a:=hA b (by rw [q]; simp)
    subst e'
    rw [ha] at e; cases e
    have d':Data.seq vs.toArray _=Data.dict es ep:=d
    cases d'
  have nsK:∀ {b:Addr}{m:Str→Option Value},s₁.heap.Ns b m→(hidT s₁.heap H).Ns b m:=fun {b m} ⟨o,es,ep,e,d,r⟩=>⟨o,es,ep,base_of e (noA e d),d,r⟩
  have hKb:K.In (hidT s₁.heap H):=fun b o e=>base_of (KX b o e) (by
   cases q:H b with
   | none=>rfl
   | some u =>
    have e':b=a:=hA b (by rw [q]; simp)
    subst e'
    rw [hK (by rw [q]; simp)] at e; cases e)
  have hM:Mod K mg (hidT s₁.heap H):=⟨hKb,nsK hns,⟨mb,nsK hb,hbb⟩,let ⟨mc,h1,h2⟩:=hlim; ⟨mc,nsK h1,h2⟩⟩
  have e0:Env0 P w K mg (hidT s₁.heap H) callerA [] s₁ H:=⟨rfl,hM,fun b o e=>of_hidT e,Nat.le_of_eq (hidT_size _ _),trivial,fun b hb=>absurd (show b∈([]:List Addr) from hb) (by simp),hok,.of_eq hg⟩
  refine codeAny_mono ((F _ hKb (nsK hns)).run callerA [] s₁ H ⟨[.ref a],[]⟩ [.ref a] [.ref a] _ _ hr e0 (hbind s₁ (.ref a)) (.cons rfl .nil) (hsp H hO hS)) fun r s' h=>?_
  cases r with
  | error e=>exact (hCX H e s' h).elim
  | ok fl =>
   cases fl with
   | next=>exact False.elim h
   | brk=>exact False.elim h
   | cont=>exact False.elim h
   | ret u =>
    obtain ⟨v,H',os,bare,un,hok',r',q⟩:=h
    have q':v=.bl true:=q
    subst q'
    obtain rfl:u=Value.bool true:=r'
    refine ⟨rfl,OldK.of_keep fun b o e=>?_,os,bare⟩
    cases q:H b with
    | none=>exact un.keep b o e q (by intro z; exact absurd (show b∈([]:List Addr) from z) (by simp)) (by simp)
    | some u =>
     rcases hO b with z | ⟨ob,xs,z⟩
     ·rw [q] at z; cases z
     ·have z2:=un.frzs b ob _ z
      obtain ⟨e1,_⟩:=hok b _ z
      obtain ⟨e2,_⟩:=hok' b _ z2
      rw [e] at e1; cases e1
      exact e2
 cases hk:K.lookup a with
 | some o =>
  -- the script is one of the module's own objects
  have e:=KX a o hk
  rw [ha] at e
  cases e
  refine core (fun _=>none) (fun _=>.inl rfl) (.inr ⟨_,vs.toArray,_,hk,rfl,rfl,rfl,by rw [List.size_toArray,lenV]; exact hl,by simpa using rv⟩) (fun b u z=>by have z':(none:Option HO)=some u:=z; cases z') (fun b z=>absurd rfl z) fun z=>absurd rfl z
 | none =>
  refine core (fun b=>if b=a then some (.frz { cls:=.type "list",data:=.seq vs.toArray } (.lst (ns.map V.int))) else none) (fun b=>?_) (.inl (.inr ⟨{ cls:=.type "list",data:=.seq vs.toArray },if_pos rfl⟩)) (fun b u z=>?_) (fun b z=>?_) fun _=>hk
  ·by_cases hb:b=a
   ·exact .inr ⟨_,_,if_pos hb⟩
   ·exact .inl (if_neg hb)
  ·by_cases hb:b=a
   ·have z':=(if_pos hb).symm.trans z
    cases z'
    subst hb
    exact ⟨ha,by rw [List.length_map]; exact hl,vs,_,rv,ha⟩
   ·have z':=(if_neg hb).symm.trans z
    cases z'
  ·by_cases hb:b=a
   ·exact hb
   ·exact absurd (if_neg hb) z
theorem walk_of {l:OpenLaw}{n k:Nat}{q:Program}{loose:List Str}{XP:(Str→Option Value)→Heap→Prop}{YP:World→Heap→Prop}{d:DefRec}{K:Params→Frag}{CX:World→CXT}{sp:World→Sp}{x:Str}(hn:l.most=some n)(hn2:n≤sizeLine)(hdf:d.params.defaults=[])(hr:Room k callerA)(hY:∀ (w:World) (h:Heap),YP w h→(K w.params).In h)(F:∀ (w:World) (mg:Str→Option Value) (fa:Addr) (h:Heap),(K w.params).In h→h.Ns mainGlobals mg→mg d.name=some (.ref fa) →
   ∃ fd:FuncData,(∀ (s:Shared) (u:Value),BindsTo s fd ⟨[u],[]⟩ [(x,u)]) ∧
    ∀ base:Heap,(K w.params).In base→base.Ns mainGlobals mg→FnOk l.prog w (K w.params) mg base (CX w) k fa fd [x] (sp w))(hsp:∀ (w:World) (H:Hp) (a:Addr) (ns:List Int),ns.length≤n→Only H→SqL (K w.params) H a (ns.map V.int)→sp w [.ref a] H (fun v _=>v=.bl true) fun _ _ _=>False)(hCX:∀ (w:World) (H:Hp) (s:Shared) (e:Value) (s':Shared),CX w [] H s (fun _ _ _=>False) e s'→False) :
  WalkO q loose XP YP l.row.toRowW d [] (fun f vs=>PySem.call f vs):=by
 refine Att.attach_call hn hdf fun w s₀ s₁ mg mb fa o pm cd doc a vs ns G Y ho hd hcd hmg hobj hints hlen hg=>?_
 have KX:=hY w _ Y
 obtain ⟨fd,hb,hF⟩:=F w mg fa _ KX G.T.g hmg
 exact law_call KX G.T.g G.T.b G.T.builtins G.T.nolimit hg hobj hints (Nat.le_trans hlen hn2) hr hF hb (fun H hO hS=>hsp w H a ns hlen hO hS) fun H e s'=>hCX w H s₁ e s'
def inClass (s:Stmt)(j:Nat):Stmt:=match s with
 | .ClassDef _ _ _ body _ _ _ _ _ _ _=>body.getD j (.Pass ⟨0,0,0,0⟩)
 | _=>.Pass ⟨0,0,0,0⟩
def defArgs (s:Stmt):Arguments:=match s with
 | .FunctionDef _ a _ _ _ _ _ _ _ _=>a
 | _=>{ posonlyargs:=[],args:=[],vararg:=none,kwonlyargs:=[],kw_defaults:=[],kwarg:=none,defaults:=[] }
def defBody (s:Stmt):List Stmt:=match s with
 | .FunctionDef _ _ b _ _ _ _ _ _ _=>b
 | _=>[]
def defScope (s:Stmt):Scope:=match s with
 | .FunctionDef _ _ _ _ _ _ sc _ _ _=>sc
 | _=>{ kind:=.function,names:=[],isGenerator:=false,isCoroutine:=false }
abbrev CX0:CXT:=fun _ _ _ _ _ _=>False
abbrev E0:XK:=fun _ _ _=>False
structure Fun (K:Frag) (x qual:Str) (st:Stmt) (f:Addr) (fd:FuncData):Prop where
 ex:∃ (oc:Value) (od:Option Addr) (kV doc pm:Value) (an:Option Addr) (cdv ct:Value) (osl:Array (Option Value)),
  fd=fnOf x qual (defArgs st) (defBody st) (defScope st) .none kV doc pm an cdv ct∧K.lookup f=some ⟨oc,od,.func fd,osl⟩∧codeIn K cdv qual=true
 kp:keepIn K (.ref f)=true
section
variable {P:Program}{w:World}{K:Frag}{mg:Str→Option Value}{base:Heap}
theorem Fun.ok {x qual:Str}{st:Stmt}{f:Addr}{fd:FuncData}{N ps:List Str}{k:Nat}{sp:Sp}(F:Fun K x qual st f fd)(S:FnScope N ps (defScope st))(len:∀ vs H Q E,sp vs H Q E→vs.length=ps.length)(hbody:∀ (cdv:Value) (A:Around) (outer:List Env) (s:Shared) (H:Hp) (vs:List V) (Q:VK) (E:XK),Room k (A.deeper (envOfC qual (defScope st) s.heap.objs.size f cdv))→sp vs H Q E →
   ∃ t,PSs (cxOf CX0 P w K mg base N qual (defScope st) f cdv A outer s H E).nox (defBody st) t∧t { nx:=fun _ H'=>Q .non H',rt:=Q } (start N vs) H):FnOk P w K mg base CX0 (k+1) f fd ps sp:=by
 obtain ⟨oc,od,kV,doc,pm,an,cdv,ct,osl,rfl,lk,hcd⟩:=F.ex
 refine fn_of lk hcd S len fun A outer s H vs Q E hr hsp=>?_
 obtain ⟨t,h,q⟩:=hbody cdv A outer s H vs Q E hr hsp
 exact ⟨t,h.nox,q⟩
theorem Fun.binds {x qual:Str}{st:Stmt}{f:Addr}{fd:FuncData}{ps:List Str}(F:Fun K x qual st f fd)(h:∀ (kV doc pm:Value) (an:Option Addr) (cdv ct:Value) (us:List Value),us.length=ps.length→bindArgs (fnOf x qual (defArgs st) (defBody st) (defScope st) .none kV doc pm an cdv ct) ⟨us,[]⟩=pure (ps.zip us)):Binds K fd ps []:=by
 obtain ⟨oc,od,kV,doc,pm,an,cdv,ct,osl,rfl,lk,hcd⟩:=F.ex
 exact .all (h kV doc pm an cdv ct)
theorem fun_mk {x qual:Str}{st:Stmt}{f:Addr}{oc:Value}{od an:Option Addr}{osl:Array (Option Value)}{kV doc pm cdv ct:Value}(l:K.lookup f=some ⟨oc,od,.func (fnOf x qual (defArgs st) (defBody st) (defScope st) .none kV doc pm an cdv ct),osl⟩)(c:codeIn K cdv qual=true)(k:keepIn K (.ref f)=true):Fun K x qual st f (fnOf x qual (defArgs st) (defBody st) (defScope st) .none kV doc pm an cdv ct):=⟨⟨oc,od,kV,doc,pm,an,cdv,ct,osl,rfl,l,c⟩,k⟩
end
theorem small1000 {n:Nat}(h:n≤1000):n < sizeLine:=Nat.lt_of_le_of_lt h (by decide)
section
variable {X:Cx}
theorem pv (i:Nat){x:Str}{pos:Pos}(hN:X.N[i]?=some x:=by rfl)(hv:Vis X.env.scope x:=by first | exact Or.inl rfl | exact Or.inr (Or.inl rfl) | exact Or.inr (Or.inr rfl))(hd:(x == ("__debug__":Str))=false:=by decide)(hcd:(x == ("__classdict__":Str))=false:=by decide):PE X (.Name x pos) (tVar i):=pe_var hN hv hd hcd
end
def Same (H H':Hp):Prop:=∀ b o,H b=some o→H' b=some o
theorem Same.trans {H H1 H2:Hp}(a:Same H H1)(b:Same H1 H2):Same H H2:=fun c o h=>b c o (a c o h)
theorem Same.free {H H':Hp}(e:Same H H'){l:Addr}(h:H' l=Option.none):H l=Option.none:=by
 cases q:H l with
 | none=>rfl
 | some o =>
  rw [e l o q] at h
  cases h
theorem Same.seq {K:Frag}{H H':Hp}{a:Addr}{xs:List V}(e:Same H H')(h:SqL K H a xs):SqL K H' a xs:=by
 rcases h with (h | ⟨o,h⟩) | h
 ·exact .inl (.inl (e _ _ h))
 ·exact .inl (.inr ⟨o,e _ _ h⟩)
 ·exact .inr h
end L2
namespace Bw
open PySem PySem.Spec PyProof.Rows L2 PySem.W
section
variable {X:Cx}
def CDivL (i j:Int):Prop:=0 < j∧j < 2 ^ 62
theorem op_fdivL:OpR X (binaryOp .FloorDiv) (rI CDivL fun i j=>.int (i / j)):=opI fun i j _ _ _ _ _ hc q=>by
 have h1:(0:Int) < j:=hc.1
 have h2:j < 2 ^ 62:=hc.2
 refine floordiv_int (by omega) (by rw [Int.fdiv_eq_ediv_of_nonneg i (by omega)]; exact q) (.inl (PyProof.noPylong_of_log2 ?_))
 have h0:j.natAbs≠0:=by omega
 have:j.natAbs.log2 < 62:=(Nat.log2_lt h0).mpr (by omega)
 omega
def okV (H:Hp):V→Prop
 | .non=>True
 | .bl _=>True
 | .int _=>True
 | .str _=>True
 | .ref a=>(∃ xs,H a=some (.lst xs))∨∃ xs,H a=some (.tup xs)
 | _=>False
def isIntV:V→Bool
 | .int _=>true
 | .bl _=>true
 | _=>false
def isBoolV:V→Bool
 | .bl _=>true
 | _=>false
def isTupV (H:Hp):V→Bool
 | .ref a=>match H a with
  | some (.tup _)=>true
  | _=>false
 | _=>false
theorem okV.ty {K:Frag}{H:Hp}{x:V}(h:okV H x):∃ T,TyOf K H x (.type T)∧kitOne K (.type T) (.type "int")=some (isIntV x)∧kitOne K (.type T) (.type "bool")=some (isBoolV x)∧kitOne K (.type T) (.type "tuple")=some (isTupV H x):=by
 cases x with
 | non=>exact ⟨_,.non,by kernel_rfl,by kernel_rfl,by kernel_rfl⟩
 | bl b=>exact ⟨_,.bl b,by kernel_rfl,by kernel_rfl,by kernel_rfl⟩
 | int i=>exact ⟨_,.int i,by kernel_rfl,by kernel_rfl,by kernel_rfl⟩
 | str i=>exact ⟨_,.str i,by kernel_rfl,by kernel_rfl,by kernel_rfl⟩
 | ref a =>
  rcases h with ⟨xs,e⟩ | ⟨xs,e⟩
  ·have q:isTupV H (.ref a)=false:=by simp [isTupV,e]
   rw [q]
   exact ⟨_,.lst e,by kernel_rfl,by kernel_rfl,by kernel_rfl⟩
  ·have q:isTupV H (.ref a)=true:=by simp [isTupV,e]
   rw [q]
   exact ⟨_,.tup e,by kernel_rfl,by kernel_rfl,by kernel_rfl⟩
 | _=>exact h.elim
theorem isi_gen {pins:List (Addr × Obj)}{σ:L2.St}{H:Hp}{s:Shared}{x:V}{c T:String}{b:Bool}{us:List Value}{Q:VK}(I:Inv X pins σ H s)(r:Vals [x,.ty c] us)(ty:TyOf X.K H x (.type T))(e:kitOne X.K (.type T) (.type c)=some b)(q:Q (.bl b) H) :
  wpAny (model X.prog X.w) X.A (call (.builtin "isinstance") us) (EP X pins σ Q) X.xe s:=by
 obtain ⟨u,w',rfl,rx,rc⟩:=vals2 r
 cases (show w'=Value.type c from rc)
 exact isinst_ok I rx ty e fun tk=>⟨.bl b,H,I.tok _,rfl,q⟩
end
structure Cal (P:Program) (w:World) (K:Frag) (mg:Str→Option Value) (base:Heap) (x:Str) (ps:List Str) (k:Nat) (sp:Sp):Prop where
 ex:∃ f fd,FnOk P w K mg base CX0 k f fd ps sp∧Binds K fd ps []∧keepIn K (.ref f)=true∧mg x=some (.ref f)
theorem same_new {H:Hp}{p:Addr}(h:H p=none)(o:HO):Same H (upd H p o):=fun b u q=>by rw [upd_ne (ne_of_none q h)]; exact q
def But (w:Addr)(H H':Hp):Prop:=∀ b o,b≠w→H b=some o→H' b=some o
theorem But.refl (w:Addr)(H:Hp):But w H H:=fun _ _ _ h=>h
theorem But.trans {w:Addr}{H H1 H2:Hp}(a:But w H H1)(b:But w H1 H2):But w H H2:=fun c o n h=>b c o n (a c o n h)
theorem But.upd {w:Addr}{H:Hp}(o:HO):But w H (upd H w o):=fun b u n h=>by rw [upd_ne n]; exact h
theorem Same.but {w:Addr}{H H':Hp}(h:Same H H'):But w H H':=fun b o _ e=>h b o e
def Well (H:Hp)(w:Addr):Prop:=∃ a b c d:Int,H w=some (.lst [.int a,.int b,.int c,.int d])
theorem Well.same {H H':Hp}{w:Addr}(W:Well H w)(s:Same H H'):Well H' w:=by
 obtain ⟨a,b,c,d,h⟩:=W
 exact ⟨a,b,c,d,s _ _ h⟩
theorem Well.ne {H:Hp}{w p:Addr}(W:Well H w)(h:H p=none):p≠w:=by
 obtain ⟨a,b,c,d,e⟩:=W
 exact (ne_of_none e h).symm
theorem Well.neL {H:Hp}{w p:Addr}{xs:List V}(W:Well H w)(h:H p=some (.tup xs)):p≠w:=by
 obtain ⟨a,b,c,d,e⟩:=W
 exact (ne_of e h (by intro z; cases z)).symm
theorem at_mem {ns:List Int}{i:Int}(h0:0≤i)(h:i < ns.length):∃ z∈ns,atI (ns.map V.int) i=some (.int z):=by
 have hk:i.toNat < ns.length:=by omega
 have ek:i=((i.toNat:Nat):Int):=by omega
 refine ⟨ns[i.toNat],List.getElem_mem hk,?_⟩
 have q:atI (ns.map V.int) ((i.toNat:Nat):Int)=some (.int ns[i.toNat]):=atI_nat (by rw [List.getElem?_map,List.getElem?_eq_getElem hk] <;> rfl)
 rwa [← ek] at q
theorem sz8 {n:Nat}(h:n≤1000):n≤sizeLine:=Nat.le_of_lt (small1000 h)
section
variable {K:Frag}{ta tb tc te:TE}{tA tB':TT}{t u:TS}{tr:TA}{D:Ends}{σ:L2.St}{H:Hp}{Q:VK}{QB:Bool→Hp→Prop}{QA:List V→Hp→Prop}{v x y z:V}{i j:Nat}{g:TG}{QS:L2.St→Hp→Prop}
theorem w_seq:tSeq t u D σ H=t { D with nx:=u D } σ H:=rfl
theorem w_next:tNext D σ H=D.nx σ H:=rfl
theorem w_ifS:tIfS tA t u D σ H=tA σ H (fun b H1=>if b=true then t D σ H1 else u D σ H1):=rfl
theorem w_ret:tRet te D σ H=te σ H D.rt:=rfl
theorem w_retN:tRetN D σ H=D.rt .non H:=rfl
theorem w_drop:tDrop te D σ H=te σ H (fun _ H1=>D.nx σ H1):=rfl
theorem w_asg:tAsg te g D σ H=te σ H (fun x H1=>g x σ H1 D.nx):=rfl
theorem w_gName:gName i v σ H QS=QS (σ.set i (some v)) H:=rfl
theorem w_gSub {ts:TSet}:gSub ta tb ts v σ H QS=ta σ H (fun o H1=>tb σ H1 (fun i H2=>ts o i v H2 (fun H3=>QS σ H3))):=rfl
theorem w_var:tVar i σ H Q=∃ v,σ[i]?=some (some v)∧Q v H:=rfl
theorem w_c:tC v σ H Q=Q v H:=rfl
theorem w_op {r:R2}:tOp r ta tb σ H Q=ta σ H (fun x H1=>tb σ H1 (fun y H2=>r x y H2 Q)):=rfl
theorem w_un {r:V→Hp→VK→Prop}:tUn r ta σ H Q=ta σ H (fun x H1=>r x H1 Q):=rfl
theorem w_rU {f:Int→V}:rU f x H Q=∃ i,x=.int i∧Q (f i) H:=rfl
theorem w_rI0 {f:Int→Int→V}:rI0 f x y H Q=∃ i j,x=.int i∧y=.int j∧Q (f i j) H:=rfl
theorem w_rI {C:Int→Int→Prop}{f:Int→Int→V}:rI C f x y H Q=∃ i j,x=.int i∧y=.int j∧C i j∧Q (f i j) H:=rfl
theorem w_test:tTest te σ H QB=te σ H (fun x H'=>∃ k,x=.bl k∧QB k H'):=rfl
theorem w_b:L2.tB te σ H QB=te σ H (fun x H1=>∃ c,x=.bl c∧QB c H1):=rfl
theorem w_and:tAnd tA tB' σ H QB=tA σ H (fun c H1=>if c=true then tB' σ H1 QB else QB false H1):=rfl
theorem w_or:tOr tA tB' σ H QB=tA σ H (fun c H1=>if c=true then QB true H1 else tB' σ H1 QB):=rfl
theorem w_not:tNot tA σ H QB=tA σ H (fun c H1=>QB (!c) H1):=rfl
theorem w_andV:tAndV ta tb σ H Q=ta σ H (fun x H1=>∃ c,x=.bl c∧if c=true then tb σ H1 Q else Q (.bl false) H1):=rfl
theorem w_orV:tOrV ta tb σ H Q=ta σ H (fun x H1=>∃ c,x=.bl c∧if c=true then Q (.bl true) H1 else tb σ H1 Q):=rfl
theorem w_notV:tNotV ta σ H Q=ta σ H (fun x H1=>∃ c,x=.bl c∧Q (.bl (!c)) H1):=rfl
theorem w_if:tIf tA ta tb σ H Q=tA σ H (fun c H1=>if c=true then ta σ H1 Q else tb σ H1 Q):=rfl
theorem w_cons:tCons ta tr σ H QA=ta σ H (fun x H1=>tr σ H1 (fun xs H2=>QA (x::xs) H2)):=rfl
theorem w_nil:tNil σ H QA=QA [] H:=rfl
theorem w_tup:tTup tr σ H Q=tr σ H (fun xs H1=>xs.length≤sizeLine∧∀ p,H1 p=none→Q (.ref p) (L2.upd H1 p (.tup xs))):=rfl
theorem w_lst:tLst tr σ H Q=tr σ H (fun xs H1=>xs.length≤sizeLine∧∀ p,H1 p=none→Q (.ref p) (L2.upd H1 p (.lst xs))):=rfl
theorem w_call {sp:Sp}{dvs:List V}{E:XK}:tCall sp dvs E tr σ H Q=tr σ H (fun vs H1=>sp (vs++dvs) H1 Q E):=rfl
theorem w_cB {r:List V→Hp→VK→Prop}:tCB r tr σ H Q=tr σ H (fun vs H1=>r vs H1 Q):=rfl
theorem w_eq:rEq x y H Q=(scal x y=true∧Q (.bl (decide (x=y))) H):=rfl
theorem w_ne:rNe x y H Q=(scal x y=true∧Q (.bl (!decide (x=y))) H):=rfl
theorem w_s1 {a b:Int}:scal (.int a) (.int b)=true:=rfl
theorem w_s2 {a b:Bool}:scal (.bl a) (.bl b)=true:=rfl
theorem w_s3 {a b:Str}:scal (.str a) (.str b)=true:=rfl
theorem w_s4 {a:Int}:scal (.int a) .non=true:=rfl
theorem w_s5 {a:Bool}:scal (.bl a) .non=true:=rfl
theorem w_isN:tIsN ta σ H Q=ta σ H (fun x H1=>Q (.bl (decide (x=.non))) H1):=rfl
theorem w_notN:tNotN ta σ H Q=ta σ H (fun x H1=>Q (.bl (!decide (x=.non))) H1):=rfl
theorem w_chain {r r':R2}:tChain r r' ta tb tc σ H Q=ta σ H (fun x H1=>tb σ H1 (fun y H2=>r x y H2 (fun z H3=>∃ k,z=.bl k∧(if k=true then tc σ H3 (fun w' H4=>r' y w' H4 Q) else Q (.bl false) H3)))):=rfl
theorem w_sl {r:V→Option Int→Option Int→Hp→VK→Prop}{tl th:TO}:tSl r te tl th σ H Q=te σ H (fun x H1=>tl σ H1 (fun l H2=>th σ H2 (fun u H3=>r x l u H3 Q))):=rfl
theorem w_part {QO:Option Int→Hp→Prop}:tPart te σ H QO=te σ H (fun x H1=>∃ i,x=.int i∧QO (some i) H1):=rfl
theorem w_noPart {QO:Option Int→Hp→Prop}:tNoPart σ H QO=QO none H:=rfl
theorem w_K {CX:CXT}{P:Program}{w:World}{mg:Str→Option Value}{base:Heap}{N:List Str}{qual:Str}{sc:Scope}{f:Addr}{cd:Value}{A:Around}{outer:List Env}{s:Shared}{H:Hp}{E:XK}:(cxOf CX P w K mg base N qual sc f cd A outer s H E).K=K:=rfl
def ForL (K:Frag)(a:Addr)(g:TG)(tb:TS)(D:Ends)(σ:L2.St)(H:Hp):Prop:=∃ W:Nat→Nat→L2.St→Hp→Prop,(∃ m,W 0 m σ H)∧∀ i m σ H,W i m σ H →
 ((Itl K a).stop i H∧D.nx σ H)∨((Itl K a).go i H∧∃ N:L2.St→Hp→Prop,(∀ σ' H',N σ' H'→∃ m',m' < m∧W (i+1) m' σ' H')∧∀ x H',(Itl K a).yld i H x H'→g x σ H' fun σ2 H2=>tb { D with nx:=N,ct:=N,bk:=D.nx } σ2 H2)
def ForR (lo:Int)(n:Nat)(g:TG)(tb:TS)(D:Ends)(σ:L2.St)(H:Hp):Prop:=∃ W:Nat→Nat→L2.St→Hp→Prop,(∃ m,W 0 m σ H)∧∀ i m σ H,W i m σ H →
 ((Itr lo n).stop i H∧D.nx σ H)∨((Itr lo n).go i H∧∃ N:L2.St→Hp→Prop,(∀ σ' H',N σ' H'→∃ m',m' < m∧W (i+1) m' σ' H')∧∀ x H',(Itr lo n).yld i H x H'→g x σ H' fun σ2 H2=>tb { D with nx:=N,ct:=N,bk:=D.nx } σ2 H2)
theorem w_forL:tFor (iList K ta) g t D σ H=ta σ H (fun x H1=>∃ a,x=.ref a∧(∃ xs,SqL K H1 a xs)∧ForL K a g t D σ H1):=rfl
theorem w_for1:tFor (iRng1 tr) g t D σ H=tr σ H (fun vs H1=>∃ j:Int,vs=[.int j]∧-(2 ^ 62)≤j∧j < 2 ^ 62∧ForR 0 j.toNat g t D σ H1):=rfl
theorem w_for2:tFor (iRng2 tr) g t D σ H=tr σ H (fun vs H1=>∃ i j:Int,vs=[.int i,.int j]∧(-(2 ^ 62)≤i∧i < 2 ^ 62∧-(2 ^ 62)≤j∧j < 2 ^ 62)∧ForR i (j - i).toNat g t D σ H1):=rfl
theorem ForL.by {a:Addr}{xs:List V}(Pv:Nat→L2.St→Hp→Prop)(h0:Pv 0 σ H)(hl:∀ i σ H,i≤xs.length→Pv i σ H→SqL K H a xs)(hs:∀ i x σ H,xs[i]?=some x→Pv i σ H→g x σ H fun σ2 H2=>t { D with nx:=Pv (i+1),ct:=Pv (i+1),bk:=D.nx } σ2 H2)(hd:∀ σ H,Pv xs.length σ H→D.nx σ H):ForL K a g t D σ H:=for_list Pv h0 hl hs hd
theorem ForR.by {lo:Int}{n:Nat}(Pv:Nat→L2.St→Hp→Prop)(h0:Pv 0 σ H)(hs:∀ i σ H,i < n→Pv i σ H→g (.int (lo+i)) σ H fun σ2 H2=>t { D with nx:=Pv (i+1),ct:=Pv (i+1),bk:=D.nx } σ2 H2)(hd:∀ σ H,Pv n σ H→D.nx σ H):ForR lo n g t D σ H:=for_range Pv h0 hs hd
theorem ixl {p:Addr}{xs:List V}{k:Int}(hS:SqL K H p xs)(hv:atI xs k=some v)(q:Q v H):rIxL K (.ref p) (.int k) H Q:=⟨p,xs,k,v,rfl,rfl,hS,hv,q⟩
theorem ixt {p:Addr}{xs:List V}{k:Int}(hS:SqT K H p xs)(hv:atI xs k=some v)(q:Q v H):rIxT K (.ref p) (.int k) H Q:=⟨p,xs,k,v,rfl,rfl,hS,hv,q⟩
theorem setl {p:Addr}{xs:List V}{k:Int}{QH:Hp→Prop}(h:H p=some (.lst xs))(hj:ixN xs.length k=some j)(q:QH (L2.upd H p (.lst (xs.set j v)))):rSetL (.ref p) (.int k) v H QH:=⟨p,xs,k,j,rfl,rfl,h,hj,q⟩
end
def rIsNotB:R2:=fun x y H Q=>∃ c d:Bool,x=.bl c∧y=.bl d∧Q (.bl (c != d)) H
theorem w_isnotB {x y:V}{H:Hp}{Q:VK}:rIsNotB x y H Q=∃ c d:Bool,x=.bl c∧y=.bl d∧Q (.bl (c != d)) H:=rfl
def Itr3 (lo c:Int)(n:Nat):It:=⟨fun i _=>i < n,fun i H x H'=>H'=H∧x=.int (lo+i * c),fun i _=>n≤i⟩
def rngN (i j c:Int):Nat:=if i < j then ((j - i - 1) / c+1).toNat else 0
def iRng3 (ta:TA):TI:=fun σ H R=>ta σ H fun vs H1=>∃ i j c:Int,vs=[.int i,.int j,.int c]∧(-(2 ^ 60)≤i∧i < 2 ^ 60∧-(2 ^ 60)≤j∧j < 2 ^ 60∧0 < c∧c < 2 ^ 30)∧R (Itr3 i c (rngN i j c)) H1
def ForR3 (lo c:Int)(n:Nat)(g:TG)(tb:TS)(D:Ends)(σ:L2.St)(H:Hp):Prop:=∃ W:Nat→Nat→L2.St→Hp→Prop,(∃ m,W 0 m σ H)∧∀ i m σ H,W i m σ H →
 ((Itr3 lo c n).stop i H∧D.nx σ H)∨((Itr3 lo c n).go i H∧∃ N:L2.St→Hp→Prop,(∀ σ' H',N σ' H'→∃ m',m' < m∧W (i+1) m' σ' H')∧∀ x H',(Itr3 lo c n).yld i H x H'→g x σ H' fun σ2 H2=>tb { D with nx:=N,ct:=N,bk:=D.nx } σ2 H2)
theorem w_for3 {tr:TA}{g:TG}{t:TS}{D:Ends}{σ:L2.St}{H:Hp}:tFor (iRng3 tr) g t D σ H=tr σ H (fun vs H1=>∃ i j c:Int,vs=[.int i,.int j,.int c]∧(-(2 ^ 60)≤i∧i < 2 ^ 60∧-(2 ^ 60)≤j∧j < 2 ^ 60∧0 < c∧c < 2 ^ 30)∧ForR3 i c (rngN i j c) g t D σ H1):=rfl
theorem ForR3.by {lo c:Int}{n:Nat}{g:TG}{t:TS}{D:Ends}{σ:L2.St}{H:Hp}(Pv:Nat→L2.St→Hp→Prop)(h0:Pv 0 σ H)(hs:∀ i σ H,i < n→Pv i σ H→g (.int (lo+i * c)) σ H fun σ2 H2=>t { D with nx:=Pv (i+1),ct:=Pv (i+1),bk:=D.nx } σ2 H2)(hd:∀ σ H,Pv n σ H→D.nx σ H):ForR3 lo c n g t D σ H:=by
  refine ⟨fun i m σ H=>m=n - i∧i≤n∧Pv i σ H,⟨n,by simp,Nat.zero_le _,h0⟩,?_⟩
  rintro i m σ H ⟨rfl,hi,p⟩
  by_cases hlt:i < n
  · refine .inr ⟨hlt,Pv (i+1),fun σ' H' p'=>⟨n - (i+1),by omega,rfl,hlt,p'⟩,fun x H' y=>?_⟩
    obtain ⟨e,y⟩:=y
    subst e y
    exact hs i σ _ hlt p
  · have e:i=n:=by omega
    subst e
    exact .inl ⟨Nat.le_refl _,hd σ H p⟩
structure QOk (H:Hp) (p:Addr) (s e:Int):Prop where
 at_:H p=some (.tup [.int s,.int e])
 s0:0≤s
 s1:s≤1439
 e0:0≤e
 e1:e≤1439
 ne:s≠e
theorem QOk.same {H H':Hp}{p:Addr}{s e:Int}(q:QOk H p s e)(h:Same H H'):QOk H' p s e:=⟨h _ _ q.at_,q.s0,q.s1,q.e0,q.e1,q.ne⟩
theorem QOk.but {H H':Hp}{w p:Addr}{s e:Int}(q:QOk H p s e)(W:Well H w)(h:But w H H'):QOk H' p s e:=⟨h _ _ (W.neL q.at_) q.at_,q.s0,q.s1,q.e0,q.e1,q.ne⟩
end Bw
set_option maxHeartbeats 1000000
namespace Bw
open PySem PySem.Spec PyProof.Rows L2 PySem.W
def C2 (o o':Obj):Prop:=∀ vs,o.data=.fields vs→∃ vs',o'.data=.fields vs'∧vs'[2]?=vs[2]?
def DSafe (f:Obj→Obj):Prop:=∀ o,(f o).dict=o.dict∧((f o).isFreed=o.isFreed)∧C2 o (f o)
def KD {α:Type}:Sem α→Prop
 | .pure _=>True
 | .raise _=>True
 | .unsupported _=>True
 | .finish _=>True
 | .rule _ k=>KD (k ())
 | .at _ k=>KD (k ())
 | .load _ _ k=>∀ o,KD (k o)
 | .update _ _ f k=>DSafe f∧KD (k ())
 | .alloc _ k=>∀ b,KD (k b)
 | .loadIfAlive _ k=>∀ o,KD (k o)
 | .point _ k=>KD (k ())
 | .register _ _=>True
 | .fresh k=>∀ t,KD (k t)
 | .ask k=>∀ x,KD (k x)
 | .choose _ _ k=>∀ n,KD (k n)
 | .os _ _ k=>∀ x,KD (k x)
 | .call _ _ _ _ _=>False
 | .handled _ k=>∀ x,KD (k x)
 | .newGen _ k=>∀ n,KD (k n)
 | .genState _ k=>∀ x,KD (k x)
 | .resume _ _ _ _=>False
 | .yield _ _ _ _=>True
 | .stack k=>∀ x,KD (k x)
 | .fork _ _=>True
 | .thread k=>∀ n,KD (k n)
 | .await _ _ _ _ _=>True
theorem KD.bind {α β:Type}{t:Sem α}{f:α→Sem β}(h:KD t)(k:∀ x,KD (f x)):KD (t >>= f):=by
 show KD (t.bind f)
 induction t with
 | pure x=>exact k x
 | raise _ | unsupported _ | finish _=>trivial
 | rule _ _ ih | «at» _ _ ih | point _ _ ih=>exact ih _ h
 | load _ _ _ ih | alloc _ _ ih | loadIfAlive _ _ ih | fresh _ ih | ask _ ih | choose _ _ _ ih | os _ _ _ ih | handled _ _ ih | newGen _ _ ih | genState _ _ ih | stack _ ih | thread _ ih=>exact fun x=>ih x (h x)
 | update _ _ _ _ ih=>exact ⟨h.1,ih _ h.2⟩
 | register _ _ _ | yield _ _ _ _ _ | fork _ _ _ | await _ _ _ _ _ _=>trivial
 | call _ _ _ _ _ _ | resume _ _ _ _ _=>exact h.elim
section
variable {M:Model}{A:Around}{E:Value→Shared→Prop}{env:Env}
variable {nm q:Str}{C N:Addr}{bs bm:List Value}{hdct:Bool}{sn:List Str}{sub:List Value}{ab:Bool}{col:Option Bool}{dd:Option Addr}{k0 k1 k2 k3 k5:Option Value}{newId:String}
end
section
variable {M:Model}{A:Around}{E:Value→Shared→Prop}{s:Shared}
end
def CXFc (P:Program)(w:World)(c:Bool):CXT:=fun outer H s E e s' =>
 ∃ (x:Addr) (cls a0:Value) (dx:Option Addr) (H':Hp) (B:Heap),e=.ref x∧s'.os=s.os∧AllBare s'.gens∧Un (frs outer) [] H H' s.heap s'.heap∧HOk P w H' s'.heap∧Heap.FlyingW B outer x cls a0 s'.heap ∧
  (∀ b u,H' b=some u→∃ o,B.get? b=some o)∧(∀ b o,s.heap.get? b=some o→H b=none→b ∉ frs outer→B.get? b=some o)∧(∀ b o,s.heap.get? b=some o→b ∉ frs outer→∃ o',B.get? b=some o')∧(∃ oe,s'.heap.get? x=some oe∧oe.dict=dx∧(c=true→∃ vs,oe.data=.fields vs∧vs[2]?=some .none))∧E cls dx H'
abbrev CXF (P:Program)(w:World):CXT:=CXFc P w true
section
variable {X:Cx}{pins:List (Addr × Obj)}{σ:L2.St}{H H':Hp}{s:Shared}{h2 B:Heap}
end
abbrev cxXc (c:Bool)(P:Program)(w:World)(K:Frag)(mg:Str→Option Value)(base:Heap)(N:List Str)(qual:Str)(sc:Scope)(f:Addr)(cdv:Value)(A:Around)(outer:List Env)(s:Shared)(H:Hp)(E:XK):Cx :=
 cxOf (CXFc P w c) P w K mg base N qual sc f cdv A outer s H E
abbrev cxX (P:Program)(w:World)(K:Frag)(mg:Str→Option Value)(base:Heap)(N:List Str)(qual:Str)(sc:Scope)(f:Addr)(cdv:Value)(A:Around)(outer:List Env)(s:Shared)(H:Hp)(E:XK):Cx :=
 cxOf (CXF P w) P w K mg base N qual sc f cdv A outer s H E
section
variable {P:Program}{w:World}{K:Frag}{mg:Str→Option Value}{base:Heap}{N:List Str}{qual:Str}{sc:Scope}{f:Addr}{cdv:Value}{A:Around}{outer:List Env}{s:Shared}{H:Hp}{E:XK}
theorem pass00 {X:Cx}{c:Bool}:Passes (CXFc P w c) X E0:=fun pins σ H1 s1 e s' I hx=>by
 obtain ⟨_,_,_,_,_,_,_,_,_,_,_,_,_,_,_,_,hE⟩:=hx
 exact hE.elim
theorem FnOk.up {k:Nat}{fd:FuncData}{ps:List Str}{sp:Sp}{CX:CXT}(F:FnOk P w K mg base CX0 k f fd ps sp):FnOk P w K mg base CX k f fd ps sp :=
 ⟨F.len,fun A outer s H args us vs Q E hr he hb hv hs=>codeAny_mono (F.run A outer s H args us vs Q E hr he hb hv hs) fun r s' q=>by
  cases r with
  | ok fl=>cases fl <;> exact q
  | error e=>exact (show False from q).elim⟩
theorem Fun.okW {x qual:Str}{st:Stmt}{fd:FuncData}{ps:List Str}{k:Nat}{sp:Sp}(F:Fun K x qual st f fd)(S:FnScope N ps (defScope st))(len:∀ vs H Q E,sp vs H Q E→vs.length=ps.length)(hbody:∀ (cdv:Value) (A:Around) (outer:List Env) (s:Shared) (H:Hp) (vs:List V) (Q:VK) (E:XK),Room k (A.deeper (envOfC qual (defScope st) s.heap.objs.size f cdv))→sp vs H Q E →
   ∃ t,PSs (cxXc false P w K mg base N qual (defScope st) f cdv A outer s H E) (defBody st) t∧t { nx:=fun _ H'=>Q .non H',rt:=Q } (L2.start N vs) H):FnOk P w K mg base (CXFc P w false) (k+1) f fd ps sp:=by
 obtain ⟨oc,od,kV,doc,pm,an,cdv,ct,osl,rfl,lk,hcd⟩:=F.ex
 exact fn_of lk hcd S len fun A outer s H vs Q E hr hsp=>hbody cdv A outer s H vs Q E hr hsp
end
def tRaise (R:Hp→Prop):TS:=fun _ _ H=>R H
section
variable {X:Cx}{pins:List (Addr × Obj)}{σ:L2.St}{H H':Hp}{s:Shared}
def excAt (x:Addr)(cls:Value)(h:Heap):Prop:=∃ ob,h.get? x=some ob∧ob.cls=cls
def excAtD (x:Addr)(cls:Value)(dx:Option Addr)(h:Heap):Prop:=∃ ob,h.get? x=some ob∧ob.cls=cls∧ob.dict=dx∧∃ vs,ob.data=.fields vs
def hoExcD (x:Addr)(cls:Value)(dx:Option Addr):HO:=.ext (excAtD x cls dx)
def tTry (K:Frag)(CB:Addr)(i:Nat)(sp:Sp)(t:TA)(ts:TS):TS:=fun D σ H=>t σ H fun vs H1=>sp vs H1 (fun _ H2=>D.nx σ H2) fun cls dx H2=>exmOne K cls (.ref CB)=some true ∧
 ∀ x,H2 x=none→ts { nx:=fun σ' H3=>D.nx (σ'.set i none) H3,rt:=D.rt,bk:=fun σ' H3=>D.bk (σ'.set i none) H3,ct:=fun σ' H3=>D.ct (σ'.set i none) H3 } (σ.set i (some (.ref x))) (L2.upd H2 x (hoExcD x cls dx))
end
end Bw
set_option maxHeartbeats 400000
namespace Bw
open PySem PySem.Spec PyProof.Rows L2 PySem.W
section
variable {prog:Program}{w:World}{A:Around}{E:Value→Shared→Prop}{K:Frag}{h:Heap}{g:Array GenState}{d:Drawn}{t:Nat}{os:OsState}{x C:Addr}
structure ExcK (K:Frag) (C:Addr):Prop where
 ga:findIn K (.ref C) "__getattribute__"=some (some (.builtin "BaseException.__getattribute__"))
 gt:findIn K (.ref C) "__getattr__"=some none
 cl:findIn K (.ref C) "__class__"=some (some (.builtin "object.__class__"))
 mB:mroIn K C (.type "BaseException")=some true
 mO:mroIn K C (.type "object")=some true
 cls:(clsIn K C).isSome=true
theorem excAtD.at {cls:Value}{dx:Option Addr}(p:excAtD x cls dx h):excAt x cls h:=let ⟨ob,a,b,_⟩:=p; ⟨ob,a,b⟩
end
section
variable {X:Cx}
end
structure CalX (P:Program) (w:World) (K:Frag) (mg:Str→Option Value) (base:Heap) (x:Str) (ps:List Str) (k:Nat) (sp:Sp):Prop where
 ex:∃ f fd,FnOk P w K mg base (CXF P w) k f fd ps sp∧Binds K fd ps []∧keepIn K (.ref f)=true∧mg x=some (.ref f)
theorem pe_calN {X:Cx}{x:Str}{ps:List Str}{k:Nat}{sp:Sp}{e:Expr}{es:List Expr}{t:TA}{p pos:Pos}(C:CalX X.prog X.w X.K X.mg X.base x ps k sp)(hr:Room k X.A)(hg:Gl X x)(ha:PA X (e::es) t)(hdb:(x == ("__debug__":Str))=false:=by decide)(he:starEach (e::es) X.env=(false,eval e X.env)::starEach es X.env:=by rfl)(hpl:(backTo pos (starEach es X.env)).any (·.1)=false:=by rfl) :
  PE X (.Call (.Name x p) (e::es) [] pos) (tCall sp [] E0 t):=by
 obtain ⟨f,fd,F,b,kp,m⟩:=C.ex
 exact pe_call F hr hg m kp b .nil pass00 ha hdb he hpl
structure CalW (P:Program) (w:World) (K:Frag) (mg:Str→Option Value) (base:Heap) (x:Str) (ps:List Str) (k:Nat) (sp:Sp):Prop where
 ex:∃ f fd,FnOk P w K mg base (CXFc P w false) k f fd ps sp∧Binds K fd ps []∧keepIn K (.ref f)=true∧mg x=some (.ref f)
theorem w_raise {R:Hp→Prop}{D:Ends}{σ:L2.St}{H:Hp}:tRaise R D σ H=R H:=rfl
theorem w_try {K:Frag}{CB:Addr}{i:Nat}{sp:Sp}{t:TA}{ts:TS}{D:Ends}{σ:L2.St}{H:Hp}:tTry K CB i sp t ts D σ H=t σ H (fun vs H1=>sp vs H1 (fun _ H2=>D.nx σ H2) fun cls dx H2=>exmOne K cls (.ref CB)=some true ∧
 ∀ x,H2 x=none→ts { nx:=fun σ' H3=>D.nx (σ'.set i none) H3,rt:=D.rt,bk:=fun σ' H3=>D.bk (σ'.set i none) H3,ct:=fun σ' H3=>D.ct (σ'.set i none) H3 } (σ.set i (some (.ref x))) (L2.upd H2 x (hoExcD x cls dx))):=rfl
theorem w_KX {K:Frag}{P:Program}{w:World}{mg:Str→Option Value}{base:Heap}{N:List Str}{qual:Str}{sc:Scope}{f:Addr}{cd:Value}{A:Around}{outer:List Env}{s:Shared}{H:Hp}{E:XK}:(cxX P w K mg base N qual sc f cd A outer s H E).K=K:=rfl
theorem at_memV {xs:List V}{i:Int}(h0:0≤i)(h:i < xs.length):∃ z∈xs,atI xs i=some z:=by
 have hk:i.toNat < xs.length:=by omega
 have ek:i=((i.toNat:Nat):Int):=by omega
 refine ⟨xs[i.toNat],List.getElem_mem hk,?_⟩
 have q:atI xs ((i.toNat:Nat):Int)=some xs[i.toNat]:=atI_nat (List.getElem?_eq_getElem hk)
 rwa [← ek] at q
end Bw
set_option maxHeartbeats 1000000
namespace Bw
open PySem PySem.Spec PyProof.Rows L2 PySem.W
section
variable {X:Cx}
def tBMake (C:Addr)(sp:Sp)(dvs:List V)(t:TA):XK→TE:=fun E σ H Q=>t σ H fun vs H1=>∀ x dx,H1 x=none→H1 dx=none→dx≠x →
 sp (.ref x::(vs++dvs)) (upd (upd H1 dx (.own x)) x (.ins C dx [])) (fun v H2=>v=.non∧Q (.ref x) H2) E
def tTryB (K:Frag)(CB:Addr)(i:Nat)(tb:XK→TS)(ts:TS):TS:=fun D σ H=>tb (fun cls dx H2=>exmOne K cls (.ref CB)=some true ∧
 ∀ x,H2 x=none→ts { nx:=fun σ' H3=>D.nx (σ'.set i none) H3,rt:=D.rt,bk:=fun σ' H3=>D.bk (σ'.set i none) H3,ct:=fun σ' H3=>D.ct (σ'.set i none) H3 } (σ.set i (some (.ref x))) (L2.upd H2 x (hoExcD x cls dx))) D σ H
end
theorem lookup_mem {α:Type}{x:Str}{c:α}:∀ {l:List (Str × α)},l.lookup x=some c→(x,c)∈l
 | [],h=>by simp at h
 | (n,k)::r,h=>by
  rw [List.lookup_cons] at h
  cases hx:x == n with
  | true =>
   rw [hx] at h
   have e:x=n:=by simpa using hx
   have e2:k=c:=by simpa using h
   subst e e2
   exact List.mem_cons_self
  | false =>
   rw [hx] at h
   exact List.mem_cons_of_mem _ (lookup_mem h)
theorem mem_lookup {α:Type}{x:Str}{c:α}:∀ {l:List (Str × α)},(x,c)∈l→∃ c',l.lookup x=some c'
 | [],h=>by cases h
 | (n,k)::r,h=>by
  rw [List.lookup_cons]
  cases hx:x == n with
  | true=>exact ⟨k,rfl⟩
  | false =>
   rcases List.mem_cons.mp h with e | e
   ·cases e
    simp at hx
   ·exact mem_lookup e
theorem closure_run {env:Env}:∀ (names:List (Str × NameKind)) (acc:List (Str × Addr)),(∀ y∈names,y.2=.free→∃ c,env.cells.lookup y.1=some c) →
  ∃ cl:List (Str × Addr),(forIn (m:=Sem) names acc fun (x:Str × NameKind) r =>
    if (x.2 == NameKind.free)=true then do let a ← cellOf env x.1; pure (ForInStep.yield ((x.1,a)::r)) else pure (ForInStep.yield r))=pure cl ∧
   (∀ p∈cl,p∈acc∨env.cells.lookup p.1=some p.2)∧(∀ p∈acc,p∈cl)∧∀ x,(x,NameKind.free)∈names→∃ c,(x,c)∈cl
 | [],acc,_=>⟨acc,rfl,fun p hp=>.inl hp,fun p hp=>hp,fun x hx=>by cases hx⟩
 | (n,k)::r,acc,h=>by
  by_cases hk:k=.free
  ·subst hk
   obtain ⟨c,hc⟩:=h (n,.free) List.mem_cons_self rfl
   obtain ⟨cl,e,h1,h2,h3⟩:=closure_run r ((n,c)::acc) fun y hy=>h y (List.mem_cons_of_mem _ hy)
   have hc':cellOf env n=pure c:=by unfold cellOf; rw [hc]
   refine ⟨cl,?_,fun p hp=>?_,fun p hp=>h2 p (List.mem_cons_of_mem _ hp),fun x hx=>?_⟩
   ·rw [List.forIn_cons]
    simp only [beq_self_eq_true,if_true,hc',pure_bind]
    exact e
   ·rcases h1 p hp with z | z
    ·rcases List.mem_cons.mp z with rfl | z
     ·exact .inr hc
     ·exact .inl z
    ·exact .inr z
   ·rcases List.mem_cons.mp hx with z | z
    ·cases z
     exact ⟨c,h2 _ List.mem_cons_self⟩
    ·exact h3 x z
  ·obtain ⟨cl,e,h1,h2,h3⟩:=closure_run r acc fun y hy=>h y (List.mem_cons_of_mem _ hy)
   have hb:(k == NameKind.free)=false:=by simpa using hk
   refine ⟨cl,?_,h1,h2,fun x hx=>?_⟩
   ·rw [List.forIn_cons]
    simp only [hb,Bool.false_eq_true,if_false,pure_bind]
    exact e
   ·rcases List.mem_cons.mp hx with z | z
    ·cases z
     exact absurd rfl hk
    ·exact h3 x z
theorem closure_of {env:Env}{scope:Scope}(h:∀ y∈scope.names,y.2=.free→∃ c,env.cells.lookup y.1=some c) :
  ∃ cl,closureFor scope env=pure cl∧(∀ x c,cl.lookup x=some c→env.cells.lookup x=some c)∧∀ x,(x,NameKind.free)∈scope.names→∃ c,cl.lookup x=some c:=by
 obtain ⟨cl,e,h1,h2,h3⟩:=closure_run (env:=env) scope.names [] h
 refine ⟨cl,?_,fun x c hx=>?_,fun x hx=>?_⟩
 ·unfold closureFor
  simp only [bind_pure]
  exact e
 ·rcases h1 _ (lookup_mem hx) with z | z
  ·cases z
  ·exact z
 ·obtain ⟨c,hc⟩:=h3 x hx
  exact mem_lookup hc
theorem relabel_mem {scope:Scope}{env:Env}{x:Str}{k:NameKind}(h:(relabel scope env).names.lookup x=some k):(x,k)∈scope.names∨(k=.cell∧(x,NameKind.free)∈scope.names):=by
 obtain ⟨⟨n,k'⟩,hm,e⟩:=List.mem_map.mp (lookup_mem h)
 dsimp only at e
 split at e
 ·rename_i hc
  simp only [Bool.and_eq_true,beq_iff_eq] at hc
  obtain ⟨⟨rfl,_⟩,_⟩:=hc
  cases e
  exact .inr ⟨rfl,hm⟩
 ·cases e
  exact .inl hm
abbrev blk (X:Cx)(N:List Str)(scope:Scope)(cl:List (Str × Addr))(C:Addr)(s:Shared)(H:Hp)(fp:List Addr):Cx :=
 { prog:=X.prog,w:=X.w,K:=X.K,mg:=X.mg,base:=X.base,A:=X.A,N:=N,s₀:=s,H₀:=H,env:=compEnvC scope cl C X.env,outer:=X.stack,stack:=X.stack,ex:=fp,fn:=fun _=>false,calm:=X.calm,pn:=[],xe:=fun _ _=>False }
def pick (ix:List (Option Nat))(σ:L2.St):L2.St:=ix.map fun o=>o.bind fun j=>(σ[j]?).getD none
def PTs (X:Cx)(ifs:List Expr)(t:TT):Prop :=
 ∀ (pins:List (Addr × Obj)) (s:Shared) (σ:L2.St) (H:Hp) (Q:Bool→Hp→Prop),Inv X pins σ H s→t σ H Q →
  wpAny (model X.prog X.w) X.A (forIn ifs true fun c r=>if r=true then do let ok ← isTrue c X.env (eval c X.env); pure (ForInStep.yield ok) else pure (ForInStep.yield r)) (TP X pins σ Q) X.xe s
def tYes:TT:=fun _ H Q=>Q true H
theorem pts_nil {X:Cx}:PTs X [] tYes:=fun pins s σ H Q I h=>wpAny_tests_nil ⟨H,I,h⟩
theorem pts_one {X:Cx}{c:Expr}{t:TT}(h:PT X c t):PTs X [c] t:=fun pins s σ H Q I q=>wpAny_tests_one (h pins s σ H Q I q)
def tComp (wi:TI)(ix:List (Option Nat))(g:TG)(tt:TT)(te:TE):TE:=fun σ H Q=>wi σ H fun J H1=>∃ W:Nat→Nat→List V→L2.St→Hp→Prop,(∃ m,W 0 m [] (pick ix σ) H1)∧∀ i m acc σ H,W i m acc σ H →
 (J.stop i H∧∀ D,H D=none→Q (.ref D) (upd H D (.lst acc))) ∨
 (J.go i H∧acc.length < sizeLine∧∃ N:List V→L2.St→Hp→Prop,(∀ acc' σ' H',N acc' σ' H'→∃ m',m' < m∧W (i+1) m' acc' σ' H') ∧
  ∀ x H',J.yld i H x H'→g x σ H' fun σ2 H2=>tt σ2 H2 fun b H3=>if b=true then te σ2 H3 fun y H4=>N (acc++[y]) σ2 H4 else N acc σ2 H3)
section
variable {prog:Program}{w:World}{A:Around}{R:Result→Shared→Prop}{s:Shared}
theorem codeAny_compLoopT {elt target iter:Expr}{ifs:List Expr}{scope:Scope}{pos:Pos}{it acc:Value}{env:Env}(I:Nat→Shared→Prop)(turn:∀ n s,I n s→wpAny (model prog w) A (pyNext it) (fun r s₁=>match r with
   | none=>R (.ok .next) s₁
   | some v=>wpAny (model prog w) A (letOwnedTupleGo target it v) (fun _ s₁=>wpAny (model prog w) A (assign target env v) (fun _ s₂ =>
     wpAny (model prog w) A (forIn ifs true fun c r=>if r=true then do let ok ← isTrue c env (eval c env); pure (ForInStep.yield ok) else pure (ForInStep.yield r)) (fun ok s₃ =>
      if ok=true then wpAny (model prog w) A (eval elt env) (fun x s₄ =>
       wpAny (model prog w) A (call (.builtin "list.append") [acc,x]) (fun _ s₅=>∃ m,m < n∧I m s₅) (fun _ _=>False) s₄) (fun _ _=>False) s₃
      else ∃ m,m < n∧I m s₃) (fun _ _=>False) s₂) (fun _ _=>False) s₁) (fun _ _=>False) s₁) (fun _ _=>False) s)(n:Nat)(h:I n s) :
  codeAny (model prog w) A (.compLoop (.ListComp elt [⟨target,iter,ifs,0⟩] scope pos) 0 it acc env) R s:=by
 refine codeAny_loop rfl I (fun n s hI=>?_) n h
 show wpAny _ A ((compTurn (.ListComp elt [⟨target,iter,ifs,0⟩] scope pos) 0 it acc env).onRaise (fun x=>do noteFrame x env; theTreesLotGoes x)) _ _ s
 refine wpAny_noted ?_
 rw [compTurn_list]
 refine wpAny_bind (wpAny_standAt (wpAny_bind (wpAny_mono (turn n s hI) (fun r s₁ h₁=>?_) fun _ _ h'=>h'.elim)))
 cases r with
 | none=>exact wpAny_pure h₁
 | some v =>
  refine wpAny_bind (wpAny_mono h₁ (fun _ s₁ h₁=>?_) fun _ _ h'=>h'.elim)
  refine wpAny_bind (wpAny_mono h₁ (fun _ s₂ h₂=>wpAny_bind (wpAny_mono h₂ (fun ok s₃ h₃=>?_) fun _ _ h'=>h'.elim)) fun _ _ h'=>h'.elim)
  cases ok with
  | false=>exact wpAny_pure ⟨rfl,h₃⟩
  | true =>
   exact wpAny_bind (wpAny_bind (wpAny_mono h₃ (fun x s₄ h₄=>wpAny_bind (wpAny_mono h₄ (fun _ s₅ h₅=>wpAny_pure (wpAny_pure ⟨rfl,h₅⟩)) fun _ _ h'=>h'.elim)) fun _ _ h'=>h'.elim))
end
section
variable {X:Cx}{pins:List (Addr × Obj)}{σ:L2.St}{H:Hp}{s:Shared}{N:List Str}{scope:Scope}{cl:List (Str × Addr)}{C:Addr}{fp:List Addr}
theorem blk_ok (I:Inv X pins σ H s)(hkind:scope.kind=.function)(hcell:∀ y∈scope.names,y.2≠.cell)(h1:∀ x c,cl.lookup x=some c→X.env.cells.lookup x=some c)(h2:∀ x,(x,NameKind.free)∈scope.names→∃ c,cl.lookup x=some c)(hC:s.heap.objs.size≤C)(hf:∀ b∈fp,FpOk X pins H b)(hb:∀ b∈fp,b < s.heap.objs.size):(blk X N scope cl C s H fp).Ok where
 mod:=I.ok.mod
 kind:=hkind
 glob:=I.ok.glob
 blt:=I.ok.blt
 above:=hC
 inj:=fun x y c a b=>I.ok.inj x y c (h1 x c a) (h1 y c b)
 has:=fun x hx=>by
  have:(x,NameKind.free)∈scope.names:=by
   rcases hx with z | z
   ·rcases relabel_mem z with q | ⟨_,q⟩
    ·exact absurd rfl (hcell _ q)
    ·exact q
   ·rcases relabel_mem z with q | ⟨e,q⟩
    ·exact q
    ·cases e
  exact h2 x this
 cab:=fun x c hx=>by cases hx
 hd:=I.ok.hd
 frames:=I.ok.frames
 stk:=.inl rfl
 exf:=fun b hm=>⟨Nat.ne_of_lt (Nat.lt_of_lt_of_le (hb b hm) hC),fun x c e=>(hf b hm).2.2.2.2.1 x c (h1 x c e)⟩
 bs:=I.bs
 bsz:=Nat.le_trans I.ok.bsz I.sz
 noex:=fun b o e hm=>by
  rcases (hf b hm).2.2.2.1 with z | z
  ·exact I.ok.noex b o e z
  ·exact absurd (Nat.lt_of_lt_of_le (Heap.lt_size e) (Nat.le_trans I.ok.bsz z)) (Nat.lt_irrefl _)
 exfs:=fun b hm hs=>(List.mem_cons.mp (I.stkSub b hs)).elim (hf b hm).2.1 (hf b hm).2.2.1
 funs:=I.stack
 frf:=I.stkFree
end
theorem lookup_relabel_free {env:Env}:∀ {names:List (Str × NameKind)}{x:Str},names.lookup x=some .free →
  (names.map fun (n,k)=>if (k == NameKind.free && env.scope.kind == .function && env.kindOf n == some .cell) then (n,NameKind.cell) else (n,k)).lookup x=some .cell ∨
  (names.map fun (n,k)=>if (k == NameKind.free && env.scope.kind == .function && env.kindOf n == some .cell) then (n,NameKind.cell) else (n,k)).lookup x=some .free
 | [],_,h=>by simp at h
 | (n,k)::r,x,h=>by
  have ih:=@lookup_relabel_free env r x
  rw [List.map_cons]
  cases hx:x == n with
  | true =>
   simp only [List.lookup_cons,hx] at h
   cases h
   by_cases hc:(NameKind.free == NameKind.free && env.scope.kind == .function && env.kindOf n == some .cell)=true
   ·left; simp only [hc,if_true,List.lookup_cons,hx]
   ·right; simp only [Bool.not_eq_true] at hc; simp only [hc,Bool.false_eq_true,if_false,List.lookup_cons,hx]
  | false =>
   simp only [List.lookup_cons,hx] at h
   by_cases hc:(k == NameKind.free && env.scope.kind == .function && env.kindOf n == some .cell)=true
   ·simp only [hc,if_true,List.lookup_cons,hx]; exact ih h
   ·simp only [Bool.not_eq_true] at hc; simp only [hc,Bool.false_eq_true,if_false,List.lookup_cons,hx]; exact ih h
section
variable {X:Cx}
structure Gone (X:Cx) (pins:List (Addr × Obj)) (H:Hp) (C:Addr):Prop where
 n:H C=none
 l:C≠X.env.locals
 y:X.s₀.heap.objs.size≤C
 c:∀ x c,X.env.cells.lookup x=some c→c≠C
 p:∀ p∈X.pn++pins,p.1≠C
theorem Gone.inv {pins:List (Addr × Obj)}{σ:L2.St}{H:Hp}{s:Shared}{C:Addr}{h':Heap}(G:Gone X pins H C)(I:Inv X pins σ H s)(hs:Heap.SameBut C s.heap h'):Inv X pins σ H { s with heap:=h' } :=
 I.turned (t':=s.toks) (fun b o hb e=>(hs.2 b hb).trans e) G.n G.l (.inr G.y) G.c G.p
theorem comp_run {elt iter tg:Expr}{ifs:List Expr}{scope:Scope}{pos ppos:Pos}{wi:TI}{g:TG}{tt:TT}{te:TE}{use:Option (Value→Sem Unit)}{Q':Value→Shared→Prop}{pins:List (Addr × Obj)}{s:Shared}{σ:L2.St}{H:Hp}{Q:VK}(N:List Str)(ix:List (Option Nat))(hc:X.calm=true)(hkind:scope.kind=.function)(hcell:∀ y∈scope.names,y.2≠.cell)(hnames:∀ y∈scope.names,y.2=.local→scope.names.lookup y.1=some .local)(hfree:∀ y∈scope.names,y.2=.free→X.env.kindOf y.1=some .cell∨X.env.kindOf y.1=some .free)(hlen:ix.length=N.length)(hcap:∀ (i j:Nat) (x:Str),ix[i]?=some (some j)→N[i]?=some x→X.N[j]?=some x∧scope.names.lookup x=some .free)(hi:PI X tg iter wi)(hb:∀ cl C s H fp,PG (blk X N scope cl C s H fp) tg g∧PTs (blk X N scope cl C s H fp) ifs tt∧PE (blk X N scope cl C s H fp) elt te)(hs:∀ x,foldedSetIterable iter X.env x=pure x)(I:Inv X pins σ H s)(h:tComp wi ix g tt te σ H Q)(hend:∀ (D C:Addr) (H':Hp) (s4:Shared) (mC:Str→Option Value),Inv X pins σ H' s4→s4.heap.Ns C mC→Gone X pins H' C→Q (.ref D) H'→compPost (model X.prog X.w) X.A X.xe use Q' (.ref D) C (.ok .next) s4) :
  wpAny (model X.prog X.w) X.A (comprehension (.ListComp elt [⟨tg,iter,ifs,0⟩] scope pos) scope X.env ppos (newList []) false (eval iter X.env) use) Q' X.xe s:=by
 obtain ⟨cl,hclos,hcl1,hcl2⟩:=closure_of (env:=X.env) (scope:=scope) fun y hy e=>I.ok.has _ (hfree y hy e)
 refine wpAny_comprehension_free rfl hs hclos hkind hnames (thn (hi pins s σ H _ I h) fun v s1 h1=>thn h1 fun itv s2 h2=>?_)
 obtain ⟨it,fp,tn,J,H2,e,I2,T,st2,f2,W,⟨m0,w0⟩,turn⟩:=h2
 subst e
 refine wpAny_newObj_type (wpAny_newFunctionEnv hcell (by intro y hy; simp at hy) (fun h₁ hns₁ hsb₁=>?_) hkind)
 dsimp only at hns₁ hsb₁ ⊢
 generalize hH2:s2.heap.push { cls:=.type "list",dict:=none,data:=.seq ([]:List Value).toArray }=HH at hns₁ hsb₁ ⊢
 have hC:HH.objs.size=s2.heap.objs.size+1:=by rw [← hH2,Heap.size_push]
 have hDC:s2.heap.objs.size≠HH.objs.size:=by rw [hC]; exact Nat.ne_of_lt (Nat.lt_succ_self _)
 have hCle:s2.heap.objs.size≤HH.objs.size:=by rw [hC]; exact Nat.le_succ _
 have below:∀ b,b < s2.heap.objs.size→b≠HH.objs.size∧b≠s2.heap.objs.size:=fun b hb=>⟨by rw [hC]; exact Nat.ne_of_lt (Nat.lt_succ_of_lt hb),Nat.ne_of_lt hb⟩
 have hfp:∀ b∈fp,b < s2.heap.objs.size:=fun b hm=>by
  obtain ⟨o,e,_⟩:=T.obj _ _ st2 b hm
  exact Heap.lt_size e
 have old:∀ b o,s2.heap.get? b=some o→h₁.get? b=some o:=fun b o e=>hsb₁.extBut b o (below b (Heap.lt_size e)).1 (Heap.get?_push_of_some _ (hH2 ▸ Heap.get?_push_of_some _ e))
 have hacc:h₁.get? s2.heap.objs.size=some { cls:=.type "list",data:=.seq ([]:List Value).toArray }:=hsb₁.extBut _ _ hDC (Heap.get?_push_of_some _ (hH2 ▸ Heap.get?_push_size _ rfl))
 generalize hD:s2.heap.objs.size=D at hDC hCle hacc ⊢
 generalize hCC:HH.objs.size=C at hns₁ hsb₁ hDC hCle ⊢
 have hDle:s2.heap.objs.size≤D:=by rw [hD]; exact Nat.le_refl _
 have hCle':s2.heap.objs.size≤C:=by rw [hD]; exact hCle
 obtain ⟨bg,bt,be⟩:=hb cl C s2 H2 fp
 have ok:=blk_ok (N:=N) I2 hkind hcell hcl1 hcl2 hCle' f2 hfp
 have notY:∀ b,s2.heap.objs.size≤b→b ∉ frs X.stack:=fun b hle hm=>by
  rcases List.mem_cons.mp (I2.stkSub b hm) with z | z
  ·exact absurd (Nat.lt_of_lt_of_le I2.lt (z ▸ hle)) (Nat.lt_irrefl _)
  ·exact I2.nofs hle z
 -- the block's invariant at its entry
 have I4:Inv (blk X N scope cl C s2 H2 fp) [(D,{ cls:=.type "list",data:=.seq ([]:List Value).toArray })] (pick ix σ) H2 { s2 with heap:=h₁,toks:=s2.toks+([]:List (Str × Value)).length }:=by
  refine ⟨ok,rfl,I2.bare,Un.kept old,⟨_,hns₁,fun i x v e1 e2 e3=>?_⟩,fun x c e=>?_,I2.hok.fresh hCle',fun x c e=>I2.freeC x c (hcl1 x c e),fun p hp=>?_,I2.hok.kept old,?_⟩
  ·have q:∃ j,ix[i]?=some (some j)∧σ[j]?=some (some v):=by
    unfold pick at e2
    rw [List.getElem?_map] at e2
    cases z:ix[i]? with
    | none=>rw [z] at e2; cases e2
    | some o =>
     rw [z] at e2
     cases o with
     | none=>cases e2
     | some j =>
      refine ⟨j,rfl,?_⟩
      have e2':(σ[j]?).getD none=some v:=Option.some.inj e2
      cases z2:σ[j]? with
      | none=>rw [z2] at e2'; cases e2'
      | some w'=>rw [z2] at e2'; exact congrArg some e2'
   obtain ⟨j,q1,q2⟩:=q
   obtain ⟨n1,n2⟩:=hcap i j x q1 e1
   obtain ⟨m,hn,hl⟩:=I2.loc
   have hmem:=lookup_mem n2
   have hkx:=hfree _ hmem rfl
   have hvis:Vis X.env.scope x:=by
    rcases hkx with z | z
    ·exact .inr (.inl z)
    ·exact .inr (.inr z)
   obtain ⟨u,ru,lk⟩:=hl j x v n1 q2 hvis
   refine ⟨u,ru,.inr ⟨lookup_relabel_free n2,?_⟩⟩
   obtain ⟨c,hcc⟩:=hcl2 x hmem
   rcases lk with ⟨k,_⟩ | ⟨_,c',e',z⟩
   ·rcases hkx with z | z <;> · rw [k] at z; cases z
   ·rw [hcl1 x c hcc] at e'
    cases e'
    obtain ⟨o,ho,hd⟩:=z
    exact ⟨c,hcc,o,old _ _ ho,hd⟩
  ·obtain ⟨v,o,ho,hd⟩:=I2.cell x c (hcl1 x c e)
   exact ⟨v,o,old _ _ ho,hd⟩
  ·have e:p=(D,{ cls:=.type "list",data:=.seq ([]:List Value).toArray }):=by simpa using hp
   subst e
   exact ⟨hacc,I2.hok.fresh hDle,hDC,notY D hDle,fun v z=>by cases z⟩
  ·unfold pick
   rw [List.length_map]
   exact hlen
 have stat:∀ {pl:List (Addr × Obj)}{H':Hp},(∀ p∈pl,p.1 ∉ fp)→(∀ b∈fp,H' b=none)→∀ b∈fp,FpOk (blk X N scope cl C s2 H2 fp) pl H' b:=fun {pl H'} hpl hn b hm =>
  ⟨hn b hm,(ok.exf b hm).1,ok.exfs b hm,.inl hm,(ok.exf b hm).2,fun p hp e=>hpl p (by simpa using hp) (e ▸ hm)⟩
 have nfp:D ∉ fp:=fun hm=>absurd (Nat.lt_of_lt_of_le (hfp D hm) hDle) (Nat.lt_irrefl _)
 have nfpP:∀ (o:Obj),∀ p∈[(D,o)],p.1 ∉ fp:=fun o p hp=>by
  have e:p=(D,o):=by simpa using hp
  subst e
  exact nfp
 have loop:∀ s3:Shared,s3={ s2 with heap:=h₁,toks:=s2.toks+([]:List (Str × Value)).length } →
   codeAny (model X.prog X.w) X.A (.compLoop (.ListComp elt [⟨tg,iter,ifs,0⟩] scope pos) 0 (.ref it) (.ref D) (compEnvC scope cl C X.env)) (compPost (model X.prog X.w) X.A X.xe use Q' (.ref D) C) s3:=by
  rintro s3 rfl
  refine codeAny_compLoopT (fun n s'=>∃ i σ' H' acc its nn,Inv (blk X N scope cl C s2 H2 fp) [(D,{ cls:=.type "list",data:=.seq its nn })] σ' H' s'∧Vals acc its.toList∧tn i s'.heap∧(∀ b∈fp,H' b=none)∧acc.length≤sizeLine∧W i n acc σ' H') ?_ m0
   ⟨0,pick ix σ,H2,[],#[],0,I4,.nil,T.keep _ _ _ st2 fun b _ o e=>old b o e,fun b hm=>(f2 b hm).1,Nat.zero_le _,w0⟩
  rintro n s3 ⟨i,σ3,H3,acc,its,nn,I3,rv,st3,fr3,hz,w3⟩
  rcases turn i n acc σ3 H3 w3 with ⟨stop,qn⟩ | ⟨go,hlt,NN,hN,step⟩
  ·refine thn (T.done (blk X N scope cl C s2 H2 fp) rfl rfl rfl hc i _ s3 σ3 H3 (fun _ _=>False) I3 (stat (nfpP _) fr3) st3 stop) fun r s4 ⟨hr,I5⟩=>?_
   subst hr
   obtain ⟨eD,nD,_⟩:=I5.pin (D,{ cls:=.type "list",data:=.seq its nn }) (by simp)
   obtain ⟨mC,hnC,_⟩:=I5.loc
   -- back in the def's own frame
   have hne:∀ b u,H3 b=some u→b≠D:=fun b u q z=>by rw [z,nD] at q; cases q
   have un:Un (frs X.stack) fp H2 (upd H3 D (.lst acc)) s2.heap s4.heap:=by
    have b:=I5.base
    have neD:∀ b o,s2.heap.get? b=some o→b≠D:=fun b o e=>Nat.ne_of_lt (Nat.lt_of_lt_of_le (Heap.lt_size e) hDle)
    refine ⟨b.keep,b.slot,fun b' o q n' hx=>?_,b.there,fun b' xs q=>?_,fun b' o u q=>?_,fun b' ps q=>?_⟩
    ·rw [upd_ne (neD b' o q)]
     exact b.free b' o q n' hx
    ·have q':=b.tups b' xs q
     rw [upd_ne (hne _ _ q')]
     exact q'
    ·have q':=b.frzs b' o u q
     rw [upd_ne (hne _ _ q')]
     exact q'
    ·obtain ⟨more,q'⟩:=b.tbls b' ps q
     exact ⟨more,by rw [upd_ne (hne _ _ q')]; exact q'⟩
   have hokD:HOk X.prog X.w (upd H3 D (.lst acc)) s4.heap:=fun b u e=>by
    by_cases hbD:b=D
    ·subst hbD
     rw [upd_same] at e
     cases e
     exact ⟨hz,its.toList,nn,rv,by simpa using eD⟩
    ·rw [upd_ne hbD] at e
     refine (I5.hok b u e).stay (fun _ _ _ q=>q) (fun c r=>?_) fun c xs r=>?_
     ·rw [upd_ne (fun z=>by rw [z,nD] at r; cases r)]; exact r
     ·rw [upd_ne (fun z=>by rw [z,nD] at r; cases r)]; exact r
   have IX:Inv X pins σ (upd H3 D (.lst acc)) s4:=I2.call' I5.os un hokD I5.bare fun b hm=>⟨(f2 b hm).2.2.2.1,(f2 b hm).2.1,(f2 b hm).2.2.2.2.1,(f2 b hm).2.2.2.2.2⟩
   refine hend D C _ s4 mC IX hnC ⟨?_,Nat.ne_of_gt (Nat.lt_of_lt_of_le I2.lt hCle'),Nat.le_trans I2.sz hCle',fun x c e z=>?_,fun p hp z=>?_⟩ (qn D nD)
   ·rw [upd_ne (Ne.symm hDC)]
    exact I5.free
   ·obtain ⟨v,o,ho,_⟩:=I2.cell x c e
    exact absurd (Nat.lt_of_lt_of_le (Heap.lt_size ho) (z ▸ hCle')) (Nat.lt_irrefl _)
   ·exact absurd (Nat.lt_of_lt_of_le (Heap.lt_size (I2.pin p hp).1) (z ▸ hCle')) (Nat.lt_irrefl _)
  ·refine thn (T.item (blk X N scope cl C s2 H2 fp) rfl rfl rfl hc i _ s3 σ3 H3 (fun _ _=>False) I3 (stat (nfpP _) fr3) st3 go) fun r s4 ⟨u,hr,h4⟩=>?_
   subst hr
   refine thn h4 fun _ s5 ⟨x,H5,I5,r5,y5,st5,fr5⟩=>?_
   have I5':=I5.pinned (stat (nfpP _) fr5) (T.obj _ _ st5)
   refine thn (bg _ s5 σ3 H5 x u _ I5' r5 (step x H5 y5)) fun _ s6 ⟨σ6,H6,I6,q6⟩=>?_
   refine thn (bt _ s6 σ6 H6 _ I6 q6) fun b s7 ⟨H7,I7,q7⟩=>?_
   have after:∀ {o:Obj}{σ8:L2.St}{H8:Hp}{s8:Shared},Inv (blk X N scope cl C s2 H2 fp) ([(D,o)]++pinsAt fp s5.heap) σ8 H8 s8→tn (i+1) s8.heap∧∀ b∈fp,H8 b=none:=fun {o σ8 H8 s8} I8=>by
    refine ⟨T.keep _ _ _ st5 fun b hb o e=>(I8.pin (b,o) (List.mem_append_right _ (List.mem_append_right _ (mem_pinsAt hb e)))).1,fun b hb=>?_⟩
    obtain ⟨o,e,d⟩:=T.obj _ _ st5 b hb
    exact (I8.pin (b,o) (List.mem_append_right _ (List.mem_append_right _ (mem_pinsAt hb e)))).2.1
   cases b with
   | false =>
    simp only [Bool.false_eq_true,if_false] at q7 ⊢
    obtain ⟨m',hm,w7⟩:=hN acc σ6 H7 q7
    exact ⟨m',hm,i+1,σ6,H7,acc,its,nn,I7.unpinned,rv,(after I7).1,(after I7).2,hz,w7⟩
   | true =>
    simp only [if_true] at q7 ⊢
    refine thn (be _ s7 σ6 H7 _ I7 q7) fun yv s8 ⟨y,H8,I8,r8,q8⟩=>?_
    obtain ⟨eD,nD,_⟩:=I8.pin (D,{ cls:=.type "list",data:=.seq its nn }) (by simp)
    have hl:acc.length=its.size:=by have:=rv.length; simpa using this
    refine wpAny_list_append_plain (hsz:=by omega) ⟨nn,eD⟩ fun h9 ⟨n9,e9⟩ hs9=>?_
    obtain ⟨m',hm,w9⟩:=hN _ _ _ q8
    have J1:Inv (blk X N scope cl C s2 H2 fp) (pinsAt fp s5.heap) σ6 H8 s8:=I8.pins_of fun p hp=>I8.pin p (List.mem_append_right _ (List.mem_append_right _ hp))
    have nc:∀ x c,cl.lookup x=some c→c≠D:=fun x c e z=>by
     obtain ⟨v,o,ho,_⟩:=I2.cell x c (hcl1 x c e)
     exact absurd (Nat.lt_of_lt_of_le (Heap.lt_size ho) (z ▸ hDle)) (Nat.lt_irrefl _)
    have J2:Inv (blk X N scope cl C s2 H2 fp) (pinsAt fp s5.heap) σ6 H8 { s8 with heap:=h9 }:=J1.turned (t':=s8.toks) (fun b o hb e=>hs9.extBut b o hb e) nD hDC (.inr hDle) nc fun p hp z=>by
     have hp':p∈pinsAt fp s5.heap:=by simpa using hp
     exact nfp (z ▸ (of_pinsAt hp').1)
    have J3:Inv (blk X N scope cl C s2 H2 fp) ([(D,{ cls:=.type "list",data:=.seq (its.push yv) n9 })]++pinsAt fp s5.heap) σ6 H8 { s8 with heap:=h9 }:=J2.pins_of fun p hp=>by
     rcases List.mem_append.mp hp with hp | hp
     ·have e:p=(D,{ cls:=.type "list",data:=.seq (its.push yv) n9 }):=by simpa using hp
      subst e
      exact ⟨e9,nD,hDC,notY D hDle,fun v z=>by cases z⟩
     ·exact J2.pin p (List.mem_append_right _ hp)
    refine ⟨m',hm,i+1,σ6,H8,acc++[y],its.push yv,n9,J3.unpinned,?_,(after J3).1,(after J3).2,by rw [List.length_append,List.length_singleton]; omega,w9⟩
    rw [Array.toList_push]
    exact rv.append (.cons r8 .nil)
 exact codeAny_compStart_list (loop _ rfl) (T.self _ 0 _ _ _ (T.keep _ _ _ st2 fun b _ o e=>old b o e) (loop _ rfl))
theorem pe_comp {elt iter tg:Expr}{ifs:List Expr}{scope:Scope}{pos:Pos}{wi:TI}{g:TG}{tt:TT}{te:TE}(N:List Str)(ix:List (Option Nat))(hc:X.calm=true)(hkind:scope.kind=.function)(hcell:∀ y∈scope.names,y.2≠.cell)(hnames:∀ y∈scope.names,y.2=.local→scope.names.lookup y.1=some .local)(hfree:∀ y∈scope.names,y.2=.free→X.env.kindOf y.1=some .cell∨X.env.kindOf y.1=some .free)(hlen:ix.length=N.length)(hcap:∀ (i j:Nat) (x:Str),ix[i]?=some (some j)→N[i]?=some x→X.N[j]?=some x∧scope.names.lookup x=some .free)(hi:PI X tg iter wi)(hb:∀ cl C s H fp,PG (blk X N scope cl C s H fp) tg g∧PTs (blk X N scope cl C s H fp) ifs tt∧PE (blk X N scope cl C s H fp) elt te)(hs:∀ x,foldedSetIterable iter X.env x=pure x:=by intro _; rfl):PE X (.ListComp elt [⟨tg,iter,ifs,0⟩] scope pos) (tComp wi ix g tt te):=by
 intro pins s σ H Q I h
 rw [eval_ListComp]
 exact comp_run (use:=none) N ix hc hkind hcell hnames hfree hlen hcap hi hb hs I h fun D C H' s4 mC I4 hn G q=>⟨mC,hn,fun h' hs'=>⟨.ref D,H',G.inv I4 hs',rfl,q⟩⟩
theorem ps_comp {i:Nat}{y:Str}{elt iter tg:Expr}{ifs:List Expr}{scope:Scope}{pos py spos:Pos}{wi:TI}{g:TG}{tt:TT}{te:TE}(N:List Str)(ix:List (Option Nat))(hc:X.calm=true)(hkind:scope.kind=.function)(hcell:∀ y∈scope.names,y.2≠.cell)(hnames:∀ y∈scope.names,y.2=.local→scope.names.lookup y.1=some .local)(hfree:∀ y∈scope.names,y.2=.free→X.env.kindOf y.1=some .cell∨X.env.kindOf y.1=some .free)(hlen:ix.length=N.length)(hcap:∀ (i j:Nat) (x:Str),ix[i]?=some (some j)→N[i]?=some x→X.N[j]?=some x∧scope.names.lookup x=some .free)(hN:X.N.Nodup)(hin:X.N[i]?=some y)(hy:X.env.scope.names.lookup y=some .local)(hi:PI X tg iter wi)(hb:∀ cl C s H fp,PG (blk X N scope cl C s H fp) tg g∧PTs (blk X N scope cl C s H fp) ifs tt∧PE (blk X N scope cl C s H fp) elt te)(hsw:swapsWith (.ListComp elt [⟨tg,iter,ifs,0⟩] scope pos) (some (.Name y py)) spos.line X.env=pure true:=by rfl)(hs:∀ x,foldedSetIterable iter X.env x=pure x:=by intro _; rfl):PS X (.Assign [.Name y py] (.ListComp elt [⟨tg,iter,ifs,0⟩] scope pos) spos) (tAsg (tComp wi ix g tt te) (gName i)):=by
 intro pins s σ H D I h
 rw [exec_Assign_Name_used _ _ _ _ hsw]
 refine wpAny_bind (wpAny_standAt (wpAny_bind ?_))
 show wpAny _ X.A (do let _ ← comprehension (.ListComp elt [⟨tg,iter,ifs,0⟩] scope pos) scope X.env _ (newList []) false (eval iter X.env) (some (assign (.Name y py) X.env))) _ _ s
 refine wpAny_bind (thn (comp_run (use:=some (assign (.Name y py) X.env)) (Q':=fun _ s'=>SP X pins D .next s') (Q:=fun v H'=>D.nx (σ.set i (some v)) H') N ix hc hkind hcell hnames hfree hlen hcap hi hb hs I h fun Dd C H' s4 mC I4 hn G q=>?_) fun _ s' hq=>wpAny_pure (wpAny_pure hq))
 show wpAny _ X.A (assign (.Name y py) X.env (.ref Dd)) _ _ _
 refine wpAny_assign_Name (store_ok2 (v:=.ref Dd) I4 hN hin (.inl hy) rfl (fun s5 I5 ⟨a,sb,ha⟩=>?_) (.inr hy))
 have hCa:C≠a:=by
  rcases ha with z | z
  ·rw [z]; exact G.l
  ·exact fun e=>G.c _ _ z e.symm
 exact ⟨mC,hn.sameBut sb hCa,fun h' hs'=>⟨_,H',G.inv I5 hs',q⟩⟩
end
theorem comp_list {K:Frag}{a:Addr}{xs:List V}{g:TG}{tt:TT}{te:TE}{σ:L2.St}{H:Hp}{Q:VK}(Pv:Nat→List V→L2.St→Hp→Prop)(hz:xs.length≤sizeLine)(h0:Pv 0 [] σ H)(hl:∀ i acc σ H,i≤xs.length→Pv i acc σ H→SqL K H a xs)(hs:∀ i x acc σ H,xs[i]?=some x→Pv i acc σ H→g x σ H fun σ2 H2=>tt σ2 H2 fun b H3=>if b=true then te σ2 H3 fun y H4=>Pv (i+1) (acc++[y]) σ2 H4 else Pv (i+1) acc σ2 H3)(hacc:∀ i acc σ H,Pv i acc σ H→acc.length≤i)(hd:∀ acc σ H,Pv xs.length acc σ H→∀ D,H D=none→Q (.ref D) (upd H D (.lst acc))) :
  ∃ W:Nat→Nat→List V→L2.St→Hp→Prop,(∃ m,W 0 m [] σ H)∧∀ i m acc σ H,W i m acc σ H →
   ((Itl K a).stop i H∧∀ D,H D=none→Q (.ref D) (upd H D (.lst acc))) ∨
   ((Itl K a).go i H∧acc.length < sizeLine∧∃ N:List V→L2.St→Hp→Prop,(∀ acc' σ' H',N acc' σ' H'→∃ m',m' < m∧W (i+1) m' acc' σ' H') ∧
    ∀ x H',(Itl K a).yld i H x H'→g x σ H' fun σ2 H2=>tt σ2 H2 fun b H3=>if b=true then te σ2 H3 fun y H4=>N (acc++[y]) σ2 H4 else N acc σ2 H3):=by
 refine ⟨fun i m acc σ H=>m=xs.length - i∧i≤xs.length∧Pv i acc σ H,⟨xs.length,by simp,Nat.zero_le _,h0⟩,?_⟩
 rintro i m acc σ H ⟨rfl,hi,p⟩
 have q:=hl i acc σ H hi p
 have ha:=hacc i acc σ H p
 by_cases hlt:i < xs.length
 ·refine .inr ⟨⟨xs,xs[i],q,by simp [hlt]⟩,by omega,Pv (i+1),fun acc' σ' H' p'=>⟨xs.length - (i+1),by omega,rfl,hlt,p'⟩,fun x H' y=>?_⟩
  obtain ⟨e,y⟩:=y
  subst e
  exact hs i x acc σ _ (y xs q) p
 ·have e:i=xs.length:=by omega
  subst e
  exact .inl ⟨⟨xs,q,Nat.le_refl _⟩,hd acc σ H p⟩
theorem comp_range {lo:Int}{n:Nat}{g:TG}{tt:TT}{te:TE}{σ:L2.St}{H:Hp}{Q:VK}(Pv:Nat→List V→L2.St→Hp→Prop)(hz:n≤sizeLine)(h0:Pv 0 [] σ H)(hs:∀ i acc σ H,i < n→Pv i acc σ H→g (.int (lo+i)) σ H fun σ2 H2=>tt σ2 H2 fun b H3=>if b=true then te σ2 H3 fun y H4=>Pv (i+1) (acc++[y]) σ2 H4 else Pv (i+1) acc σ2 H3)(hacc:∀ i acc σ H,Pv i acc σ H→acc.length≤i)(hd:∀ acc σ H,Pv n acc σ H→∀ D,H D=none→Q (.ref D) (upd H D (.lst acc))) :
  ∃ W:Nat→Nat→List V→L2.St→Hp→Prop,(∃ m,W 0 m [] σ H)∧∀ i m acc σ H,W i m acc σ H →
   ((Itr lo n).stop i H∧∀ D,H D=none→Q (.ref D) (upd H D (.lst acc))) ∨
   ((Itr lo n).go i H∧acc.length < sizeLine∧∃ N:List V→L2.St→Hp→Prop,(∀ acc' σ' H',N acc' σ' H'→∃ m',m' < m∧W (i+1) m' acc' σ' H') ∧
    ∀ x H',(Itr lo n).yld i H x H'→g x σ H' fun σ2 H2=>tt σ2 H2 fun b H3=>if b=true then te σ2 H3 fun y H4=>N (acc++[y]) σ2 H4 else N acc σ2 H3):=by
 refine ⟨fun i m acc σ H=>m=n - i∧i≤n∧Pv i acc σ H,⟨n,by simp,Nat.zero_le _,h0⟩,?_⟩
 rintro i m acc σ H ⟨rfl,hi,p⟩
 have ha:=hacc i acc σ H p
 by_cases hlt:i < n
 ·refine .inr ⟨hlt,by omega,Pv (i+1),fun acc' σ' H' p'=>⟨n - (i+1),by omega,rfl,hlt,p'⟩,fun x H' y=>?_⟩
  obtain ⟨e,y⟩:=y
  subst e y
  exact hs i acc σ _ hlt p
 ·have e:i=n:=by omega
  subst e
  exact .inl ⟨Nat.le_refl _,hd acc σ H p⟩
def capB (XN:List Str)(scope:Scope):List Str→List (Option Nat)→Bool
 | _,[]=>true
 | [],_=>true
 | _::r,none::s=>capB XN scope r s
 | x::r,some j::s=>decide (XN[j]?=some x) && decide (scope.names.lookup x=some .free) && capB XN scope r s
theorem capB_ok {XN:List Str}{scope:Scope}:∀ {N:List Str}{ix:List (Option Nat)},capB XN scope N ix=true→∀ (i j:Nat) (x:Str),ix[i]?=some (some j)→N[i]?=some x→XN[j]?=some x∧scope.names.lookup x=some .free
 | [],[],_,i,j,x,h1,_=>by simp at h1
 | _::_,[],_,i,j,x,h1,_=>by simp at h1
 | [],_::_,_,i,j,x,_,h2=>by simp at h2
 | y::r,none::s,h,i,j,x,h1,h2=>by
  cases i with
  | zero=>simp at h1
  | succ i=>exact capB_ok (N:=r) (ix:=s) h i j x (by simpa using h1) (by simpa using h2)
 | y::r,some k::s,h,i,j,x,h1,h2=>by
  have h':(decide (XN[k]?=some y) && decide (scope.names.lookup y=some .free) && capB XN scope r s)=true:=h
  rw [Bool.and_eq_true,Bool.and_eq_true,decide_eq_true_eq,decide_eq_true_eq] at h'
  cases i with
  | zero =>
   simp at h1 h2
   subst h1 h2
   exact h'.1
  | succ i=>exact capB_ok h'.2 i j x (by simpa using h1) (by simpa using h2)
def compOk (XN:List Str)(sc scope:Scope)(N:List Str)(ix:List (Option Nat)):Bool :=
 decide (scope.kind=.function) && decide (∀ y∈scope.names,y.2≠.cell) && decide (∀ y∈scope.names,y.2=.local→scope.names.lookup y.1=some .local) &&
  decide (∀ y∈scope.names,y.2=.free→sc.names.lookup y.1=some .cell∨sc.names.lookup y.1=some .free) && decide (ix.length=N.length) && capB XN scope N ix
section
variable {X:Cx}
theorem pe_compB {elt iter tg:Expr}{ifs:List Expr}{scope:Scope}{pos:Pos}{wi:TI}{g:TG}{tt:TT}{te:TE}(N:List Str)(ix:List (Option Nat))(hc:X.calm=true)(hk:compOk X.N X.env.scope scope N ix=true)(hi:PI X tg iter wi)(hb:∀ cl C s H fp,PG (blk X N scope cl C s H fp) tg g∧PTs (blk X N scope cl C s H fp) ifs tt∧PE (blk X N scope cl C s H fp) elt te)(hs:∀ x,foldedSetIterable iter X.env x=pure x:=by intro _; rfl):PE X (.ListComp elt [⟨tg,iter,ifs,0⟩] scope pos) (tComp wi ix g tt te):=by
 unfold compOk at hk
 simp only [Bool.and_eq_true,decide_eq_true_eq] at hk
 obtain ⟨⟨⟨⟨⟨h1,h2⟩,h3⟩,h4⟩,h5⟩,h6⟩:=hk
 exact pe_comp N ix hc h1 h2 h3 h4 h5 (capB_ok h6) hi hb hs
theorem ps_compB {i:Nat}{y:Str}{elt iter tg:Expr}{ifs:List Expr}{scope:Scope}{pos py spos:Pos}{wi:TI}{g:TG}{tt:TT}{te:TE}(N:List Str)(ix:List (Option Nat))(hc:X.calm=true)(hk:compOk X.N X.env.scope scope N ix=true)(hN:X.N.Nodup)(hin:X.N[i]?=some y)(hy:X.env.scope.names.lookup y=some .local)(hi:PI X tg iter wi)(hb:∀ cl C s H fp,PG (blk X N scope cl C s H fp) tg g∧PTs (blk X N scope cl C s H fp) ifs tt∧PE (blk X N scope cl C s H fp) elt te)(hsw:swapsWith (.ListComp elt [⟨tg,iter,ifs,0⟩] scope pos) (some (.Name y py)) spos.line X.env=pure true:=by rfl)(hs:∀ x,foldedSetIterable iter X.env x=pure x:=by intro _; rfl):PS X (.Assign [.Name y py] (.ListComp elt [⟨tg,iter,ifs,0⟩] scope pos) spos) (tAsg (tComp wi ix g tt te) (gName i)):=by
 unfold compOk at hk
 simp only [Bool.and_eq_true,decide_eq_true_eq] at hk
 obtain ⟨⟨⟨⟨⟨h1,h2⟩,h3⟩,h4⟩,h5⟩,h6⟩:=hk
 exact ps_comp N ix hc h1 h2 h3 h4 h5 (capB_ok h6) hN hin hy hi hb hsw hs
end
section
variable {X:Cx}
theorem ep_str {pins:List (Addr × Obj)}{σ:L2.St}{H:Hp}{s:Shared}{Q:VK}{u:Str}{t:Tok}{k:Nat}(I:Inv X pins σ H s)(q:Q (.str u) H):EP X pins σ Q (.str u t) { s with toks:=k }:=⟨.str u,H,I.tok k,⟨t,rfl⟩,q⟩
def rSlS:V→Option Int→Option Int→Hp→VK→Prop:=fun x lo hi H Q=>∃ u,x=.str u∧u.length≤sizeLine∧Q (.str (Txt.slice u lo hi)) H
theorem sl_str:SlR X rSlS:=by
 intro pins s σ H x v vl vu lo hi sl Q I rx hs pl pu h
 obtain ⟨u,rfl,hz,q⟩:=h
 obtain ⟨t,rfl⟩:=rx
 refine ⟨"str",_,PySem.F.slot_str_getitem.lookup,typeIs_str _ _ _,?_⟩
 obtain ⟨os,hos,hcs,hds⟩:=hs
 cases pl with
 | none =>
  cases pu with
  | none=>exact wpAny_getItem_str_slice (l:=none) (u:=none) (st:=none) ⟨os,hos,hcs,hds⟩ rfl (post_val_or_str ⟨Nat.le_trans (Txt.slice_le u _ _) hz,fun t' k=>ep_str I q⟩)
  | int j tj=>exact wpAny_getItem_str_slice (l:=none) (u:=some (j,tj)) (st:=none) ⟨os,hos,hcs,hds⟩ rfl (post_val_or_str ⟨Nat.le_trans (Txt.slice_le u _ _) hz,fun t' k=>ep_str I q⟩)
 | int i ti =>
  cases pu with
  | none=>exact wpAny_getItem_str_slice (l:=some (i,ti)) (u:=none) (st:=none) ⟨os,hos,hcs,hds⟩ rfl (post_val_or_str ⟨Nat.le_trans (Txt.slice_le u _ _) hz,fun t' k=>ep_str I q⟩)
  | int j tj=>exact wpAny_getItem_str_slice (l:=some (i,ti)) (u:=some (j,tj)) (st:=none) ⟨os,hos,hcs,hds⟩ rfl (post_val_or_str ⟨Nat.le_trans (Txt.slice_le u _ _) hz,fun t' k=>ep_str I q⟩)
def rJoin:V→List V→Hp→VK→Prop:=fun x xs H Q=>∃ u l ts,x=.str u∧xs=[.ref l]∧H l=some (.lst (ts.map V.str))∧JoinOk u ts=true∧Q (.str (Txt.join u ts)) H
theorem vals_str:∀ {ts:List Str}{us:List Value},Vals (ts.map V.str) us→∃ l:List (Str × Tok),us=strValues l∧l.map (·.1)=ts
 | [],_,r=>by
  rw [List.map_nil] at r
  cases r
  exact ⟨[],rfl,rfl⟩
 | a::ts,_,r=>by
  rw [List.map_cons] at r
  cases r with
  | cons r1 r2 =>
   obtain ⟨t,rfl⟩:=r1
   obtain ⟨l,rfl,e⟩:=vals_str r2
   exact ⟨(a,t)::l,rfl,by rw [List.map_cons,e]⟩
theorem mt_join:MtR X "str.join" rJoin:=by
 intro pins s σ H x xs v us Q I rx rv h
 obtain ⟨u,l,ts,rfl,rfl,hl,hz,q⟩:=h
 obtain ⟨t,rfl⟩:=rx
 cases rv with
 | cons r1 r2 =>
  cases r2
  cases r1
  obtain ⟨_,its,n,r,e⟩:=I.hok l _ hl
  obtain ⟨ll,rfl,e2⟩:=vals_str r
  exact SC.join (D:=l) (l:=ll) ⟨_,e,rfl,n,rfl⟩ e2 hz fun t' k=>ep_str I q
end
section
variable {K:Frag}{ta te:TE}{tr:TA}{wi:TI}{ix:List (Option Nat)}{g:TG}{tt:TT}{σ:L2.St}{H:Hp}{Q:VK}{QB:Bool→Hp→Prop}
def CompL (K:Frag)(a:Addr)(g:TG)(tt:TT)(te:TE)(Q:VK)(σ:L2.St)(H:Hp):Prop:=∃ W:Nat→Nat→List V→L2.St→Hp→Prop,(∃ m,W 0 m [] σ H)∧∀ i m acc σ H,W i m acc σ H →
 ((Itl K a).stop i H∧∀ D,H D=none→Q (.ref D) (L2.upd H D (.lst acc))) ∨
 ((Itl K a).go i H∧acc.length < sizeLine∧∃ N:List V→L2.St→Hp→Prop,(∀ acc' σ' H',N acc' σ' H'→∃ m',m' < m∧W (i+1) m' acc' σ' H') ∧
  ∀ x H',(Itl K a).yld i H x H'→g x σ H' fun σ2 H2=>tt σ2 H2 fun b H3=>if b=true then te σ2 H3 fun y H4=>N (acc++[y]) σ2 H4 else N acc σ2 H3)
def CompR (lo:Int)(n:Nat)(g:TG)(tt:TT)(te:TE)(Q:VK)(σ:L2.St)(H:Hp):Prop:=∃ W:Nat→Nat→List V→L2.St→Hp→Prop,(∃ m,W 0 m [] σ H)∧∀ i m acc σ H,W i m acc σ H →
 ((Itr lo n).stop i H∧∀ D,H D=none→Q (.ref D) (L2.upd H D (.lst acc))) ∨
 ((Itr lo n).go i H∧acc.length < sizeLine∧∃ N:List V→L2.St→Hp→Prop,(∀ acc' σ' H',N acc' σ' H'→∃ m',m' < m∧W (i+1) m' acc' σ' H') ∧
  ∀ x H',(Itr lo n).yld i H x H'→g x σ H' fun σ2 H2=>tt σ2 H2 fun b H3=>if b=true then te σ2 H3 fun y H4=>N (acc++[y]) σ2 H4 else N acc σ2 H3)
theorem w_compL:tComp (iList K ta) ix g tt te σ H Q=ta σ H (fun x H1=>∃ a,x=.ref a∧(∃ xs,SqL K H1 a xs)∧CompL K a g tt te Q (pick ix σ) H1):=rfl
theorem w_comp1:tComp (iRng1 tr) ix g tt te σ H Q=tr σ H (fun vs H1=>∃ j:Int,vs=[.int j]∧-(2 ^ 62)≤j∧j < 2 ^ 62∧CompR 0 j.toNat g tt te Q (pick ix σ) H1):=rfl
theorem w_comp2:tComp (iRng2 tr) ix g tt te σ H Q=tr σ H (fun vs H1=>∃ i j:Int,vs=[.int i,.int j]∧(-(2 ^ 62)≤i∧i < 2 ^ 62∧-(2 ^ 62)≤j∧j < 2 ^ 62)∧CompR i (j - i).toNat g tt te Q (pick ix σ) H1):=rfl
theorem w_yes:tYes σ H QB=QB true H:=rfl
theorem w_pick0:pick [] σ=[]:=rfl
theorem w_pickN:pick (none::ix) σ=none::pick ix σ:=rfl
theorem w_pickS {j:Nat}:pick (some j::ix) σ=((σ[j]?).getD none)::pick ix σ:=rfl
theorem w_bm {T:String}{r:V→List V→Hp→VK→Prop}:tBM K T r ta tr σ H Q=ta σ H (fun x H1=>tyV K T x H1∧tr σ H1 (fun xs H2=>r x xs H2 Q)):=rfl
theorem w_bm0 {T:String}{r:V→List V→Hp→VK→Prop}:tBM0 K T r ta σ H Q=ta σ H (fun x H1=>tyV K T x H1∧r x [] H1 Q):=rfl
theorem w_tyS {u:Str}:tyV K "str" (.str u) H=True:=by simp [tyV]
theorem w_addS {u v:Str}:(∃ i j,V.str u=.str i∧V.str v=.str j∧i.length+j.length≤sizeLine∧Q (.str (i++j)) H)=(u.length+v.length≤sizeLine∧Q (.str (u++v)) H):=by simp
theorem w_slS {u:Str}{lo hi:Option Int}:rSlS (.str u) lo hi H Q=(u.length≤sizeLine∧Q (.str (Txt.slice u lo hi)) H):=by simp [rSlS]
theorem w_blkK {X:Cx}{N:List Str}{scope:Scope}{cl:List (Str × Addr)}{C:Addr}{s:Shared}{fp:List Addr}:(blk X N scope cl C s H fp).K=X.K:=rfl
theorem CompL.by {a:Addr}{xs:List V}(Pv:Nat→List V→L2.St→Hp→Prop)(hz:xs.length≤sizeLine)(h0:Pv 0 [] σ H)(hl:∀ i acc σ H,i≤xs.length→Pv i acc σ H→SqL K H a xs)(hs:∀ i x acc σ H,xs[i]?=some x→Pv i acc σ H→g x σ H fun σ2 H2=>tt σ2 H2 fun b H3=>if b=true then te σ2 H3 fun y H4=>Pv (i+1) (acc++[y]) σ2 H4 else Pv (i+1) acc σ2 H3)(hacc:∀ i acc σ H,Pv i acc σ H→acc.length≤i)(hd:∀ acc σ H,Pv xs.length acc σ H→∀ D,H D=none→Q (.ref D) (L2.upd H D (.lst acc))):CompL K a g tt te Q σ H:=comp_list Pv hz h0 hl hs hacc hd
theorem CompR.by {lo:Int}{n:Nat}(Pv:Nat→List V→L2.St→Hp→Prop)(hz:n≤sizeLine)(h0:Pv 0 [] σ H)(hs:∀ i acc σ H,i < n→Pv i acc σ H→g (.int (lo+i)) σ H fun σ2 H2=>tt σ2 H2 fun b H3=>if b=true then te σ2 H3 fun y H4=>Pv (i+1) (acc++[y]) σ2 H4 else Pv (i+1) acc σ2 H3)(hacc:∀ i acc σ H,Pv i acc σ H→acc.length≤i)(hd:∀ acc σ H,Pv n acc σ H→∀ D,H D=none→Q (.ref D) (L2.upd H D (.lst acc))):CompR lo n g tt te Q σ H:=comp_range Pv hz h0 hs hacc hd
theorem ixs {u:Str}{k:Int}{c:Nat}(hz:u.length≤sizeLine)(hv:atI u.cps.toList k=some c)(q:Q (.str ⟨#[c]⟩) H):rIxS (.str u) (.int k) H Q:=⟨u,k,c,rfl,rfl,hz,hv,q⟩
end
theorem gl_of {X:Cx}{x:Str}(h:X.env.kindOf x=some .globalImplicit):Gl X x:=h
def tStrs (xs:List Str):TA:=fun _ H Q=>Q (xs.map V.str) H
theorem w_strs {xs:List Str}{σ:L2.St}{H:Hp}{Q:List V→Hp→Prop}:tStrs xs σ H Q=Q (xs.map V.str) H:=rfl
def Well3 (H:Hp)(w:Addr):Prop:=∃ a b c:Int,H w=some (.lst [.int a,.int b,.int c])
theorem Well3.same {H H':Hp}{w:Addr}(W:Well3 H w)(s:Same H H'):Well3 H' w:=by
 obtain ⟨a,b,c,h⟩:=W
 exact ⟨a,b,c,s _ _ h⟩
theorem Well3.ne {H:Hp}{w p:Addr}(W:Well3 H w)(h:H p=none):p≠w:=by
 obtain ⟨a,b,c,e⟩:=W
 exact (ne_of_none e h).symm
def goodN (u:Str):Prop:=1≤u.length∧u.length≤8∧∀ c∈u.cps.toList,97≤c∧c≤122
instance (u:Str):Decidable (goodN u):=by unfold goodN; infer_instance
def letters:Str:="abcdefghijklmnopqrstuvwxyz"
theorem letter_at {i:Int}(h0:0≤i)(h1:i < 26):∃ c,atI letters.cps.toList i=some c∧97≤c∧c≤122:=by
 have h:∀ k:Fin 26,∃ c,c < 123∧atI letters.cps.toList ((k.val:Nat):Int)=some c∧97≤c∧c≤122:=by
  intro k
  refine ⟨97+k.val,?_⟩
  revert k
  decide +kernel
 obtain ⟨c,_,e,q⟩:=h ⟨i.toNat,by omega⟩
 have e2:((i.toNat:Nat):Int)=i:=by omega
 rw [e2] at e
 exact ⟨c,e,q⟩
def w8:Str:="bcdefghi"
def axz:Str:="axz"
theorem way_len {r:Int}(h0:0≤r)(h1:r < 8):(Txt.slice w8 none (some (1+r))).length=(r+1).toNat:=by
 have h:∀ k:Fin 8,(Txt.slice w8 none (some (1+((k.val:Nat):Int)))).length=k.val+1:=by decide +kernel
 have q:=h ⟨r.toNat,by omega⟩
 have e2:((r.toNat:Nat):Int)=r:=by omega
 rw [e2] at q
 rw [q]
 show r.toNat+1=(r+1).toNat
 omega
theorem way_good {r a k:Int}(h0:0≤r)(h1:r < 8)(a0:0≤a)(a1:a < r+1)(k0:0≤k)(k1:k < 3):∃ c,atI axz.cps.toList k=some c ∧
  goodN (Txt.slice (Txt.slice w8 none (some (1+r))) none (some a)++⟨#[c]⟩++Txt.slice (Txt.slice w8 none (some (1+r))) (some (a+1)) none):=by
 have h:∀ (r a:Fin 8) (k:Fin 3),a.val < r.val+1→∃ c∈[97,120,122],atI axz.cps.toList ((k.val:Nat):Int)=some c ∧
  goodN (Txt.slice (Txt.slice w8 none (some (1+((r.val:Nat):Int)))) none (some ((a.val:Nat):Int))++⟨#[c]⟩++Txt.slice (Txt.slice w8 none (some (1+((r.val:Nat):Int)))) (some (((a.val:Nat):Int)+1)) none):=by decide +kernel
 obtain ⟨c,_,q⟩:=h ⟨r.toNat,by omega⟩ ⟨a.toNat,by omega⟩ ⟨k.toNat,by omega⟩ (by show a.toNat < r.toNat+1; omega)
 have e1:((r.toNat:Nat):Int)=r:=by omega
 have e2:((a.toNat:Nat):Int)=a:=by omega
 have e3:((k.toNat:Nat):Int)=k:=by omega
 rw [e1,e2,e3] at q
 exact ⟨c,q⟩
theorem slice_le8 (u:Str)(h:u.length≤8)(l r:Option Int):(Txt.slice u l r).length≤8:=Nat.le_trans (Txt.slice_le u l r) h
theorem join_one:∀ ts:List Str,(∀ t∈ts,∃ c,t=⟨#[c]⟩∧97≤c∧c≤122)→(Str.join Str.empty ts).length=ts.length∧∀ c∈(Str.join Str.empty ts).cps.toList,97≤c∧c≤122
 | [],_=>⟨rfl,fun c hc=>by cases hc⟩
 | [x],h=>by
  obtain ⟨c,rfl,q⟩:=h x List.mem_cons_self
  refine ⟨rfl,fun c' hc=>?_⟩
  have e:c'=c:=by simpa [Str.join] using hc
  subst e
  exact q
 | x::y::r,h=>by
  obtain ⟨i1,i2⟩:=join_one (y::r) fun t ht=>h t (List.mem_cons_of_mem _ ht)
  obtain ⟨c,rfl,q⟩:=h x List.mem_cons_self
  show ((⟨#[c]⟩:Str)++Str.empty++Str.join Str.empty (y::r)).length=_∧∀ c'∈((⟨#[c]⟩:Str)++Str.empty++Str.join Str.empty (y::r)).cps.toList,_
  refine ⟨?_,fun c' hc=>?_⟩
  ·rw [Str.length_append,Str.length_append,i1]
   show 1+0+(y::r).length=(y::r).length+1
   omega
  ·have hc':c'∈((#[c]++#[])++(Str.join Str.empty (y::r)).cps).toList:=hc
   rw [Array.toList_append] at hc'
   rcases List.mem_append.mp hc' with z | z
   ·have e:c'=c:=by simpa using z
    subst e
    exact q
   ·exact i2 c' z
theorem join_good {ts:List Str}(h:∀ t∈ts,∃ c,t=⟨#[c]⟩∧97≤c∧c≤122)(h1:1≤ts.length)(h8:ts.length≤8):JoinOk Str.empty ts=true∧goodN (Txt.join Str.empty ts):=by
 obtain ⟨i1,i2⟩:=join_one ts h
 have hj:Txt.join Str.empty ts=Str.join Str.empty ts:=StrLaws.glued_eq_join _ _
 refine ⟨?_,?_⟩
 ·unfold JoinOk Builtin.Str.tooLong
  rw [StrLaws.joinTotal]
  have hs:∀ l:List Str,(∀ t∈l,∃ c,t=⟨#[c]⟩∧97≤c∧c≤122)→(l.map (·.length)).sum=l.length:=by
   intro l
   induction l with
   | nil=>intro _; rfl
   | cons x r ih =>
    intro hl
    obtain ⟨c,rfl,_⟩:=hl x List.mem_cons_self
    rw [List.map_cons,List.sum_cons,ih fun t ht=>hl t (List.mem_cons_of_mem _ ht),List.length_cons]
    show 1+r.length=r.length+1
    omega
  rw [hs ts h]
  have e:Str.empty.length=0:=rfl
  rw [e]
  have z:(1000:Nat) < sizeLine:=by decide
  rw [Bool.not_eq_true',decide_eq_false_iff_not]
  omega
 ·rw [hj]
  exact ⟨by omega,by omega,i2⟩
structure CalC (P:Program) (w:World) (K:Frag) (mg:Str→Option Value) (base:Heap) (x:Str) (C:Addr) (ps:List Str) (k:Nat) (sp:Sp):Prop where
 ex:∃ f fd,FnOk P w K mg base (CXF P w) k f fd ps sp∧Binds K fd ps []∧Mk K C f∧mg x=some (.ref C)
structure CalM (P:Program) (w:World) (K:Frag) (mg:Str→Option Value) (base:Heap) (C:Addr) (m:Str) (ps:List Str) (k:Nat) (sp:Sp):Prop where
 ex:∃ f fd,FnOk P w K mg base (CXF P w) k f fd ps sp∧Binds K fd ps []∧Meth K C m f∧Cls K C
section
variable {X:Cx}{x m:Str}{C:Addr}{ps:List Str}{k:Nat}{sp:Sp}{e o:Expr}{es:List Expr}{ta:TE}{t:TA}{p pos apos:Pos}{E:XK}
theorem pe_mak (c:CalC X.prog X.w X.K X.mg X.base x C ps k sp)(hx:Passes (CXF X.prog X.w) X E)(hr:Room (k+1) X.A)(hg:Gl X x)(ha:PA X (e::es) t)(hdb:(x == ("__debug__":Str))=false:=by decide)(he:starEach (e::es) X.env=(false,eval e X.env)::starEach es X.env:=by rfl)(hpl:(backTo pos (starEach es X.env)).any (·.1)=false:=by rfl) :
  PE X (.Call (.Name x p) (e::es) [] pos) (tMake C sp [] E t):=by
 obtain ⟨f,fd,F,b,M,hm⟩:=c.ex
 exact pe_make M F hr hg hm b .nil hx ha hdb he hpl
def tMethD (Mm:Addr→Sp→Prop)(m:Str)(E:XK)(ta:TE)(t:TA):TE:=fun σ H Q=>ta σ H fun x H1=>∃ a C dx fs sp,x=.ref a∧H1 a=some (.ins C dx fs)∧fs.lookup m=none∧Mm C sp ∧
 t σ H1 fun vs H2=>sp (x::vs) H2 Q E
theorem w_methD {Mm:Addr→Sp→Prop}{σ:L2.St}{H:Hp}{Q:VK}:tMethD Mm m E ta t σ H Q=ta σ H (fun x H1=>∃ a C dx fs sp,x=.ref a∧H1 a=some (.ins C dx fs)∧fs.lookup m=none∧Mm C sp ∧
 t σ H1 fun vs H2=>sp (x::vs) H2 Q E):=rfl
theorem pe_methD {pl:Sem Bool}{Mm:Addr→Sp→Prop}(he:PE X o ta)(hM:∀ C sp,Mm C sp→CalM X.prog X.w X.K X.mg X.base C m ps k sp)(hx:Passes (CXF X.prog X.w) X E)(hr:Room k X.A)(ha:PA X (e::es) t)(hst:starEach (e::es) X.env=(false,eval e X.env)::starEach es X.env:=by rfl)(hpl:(backTo pos (starEach es X.env)).any (·.1)=false:=by rfl)(ht:eval (.Call (.Attribute o m apos) (e::es) [] pos) X.env=(do
   let ov ← eval o X.env
   standAt apos.atName
   let (f,first) ← holding [ov] (getMethod ov m pl)
   callWith pos f first (backTo pos (starEach (e::es) X.env)) (backToKw pos (keywordEach [] X.env))):=by rfl) :
  PE X (.Call (.Attribute o m apos) (e::es) [] pos) (tMethD Mm m E ta t):=by
 intro pins s σ H Q I h
 refine methodCall_KW (pl:=pl) (thn (he pins s σ H _ I h) fun u s1 ⟨x,H1,I1,rx,a,C,dx,fs,sp,ex,ea,l,hC,q⟩=>?_) ht
 subst ex
 obtain rfl:u=Value.ref a:=rx
 obtain ⟨f,fd,F,b,hm,c⟩:=(hM C sp hC).ex
 refine getmeth_ok I1 ea c hm l ?_
 refine callWith_K (first:=[.ref a]) (h₀:=X.base) I.ok.mod.kin hm.kp (thn (ha pos pins s1 σ H1 _ I1 q) fun us s2 ⟨vs,H2,I2,r,q2⟩=>⟨I2.kIn,?_⟩) hst hpl
 refine run_fn (us:=.ref a::us) (vs:=.ref a::vs) F hr b .nil hx I2 (.cons rfl r) ?_
 rw [List.append_nil]
 exact q2
structure MkN (K:Frag) (C:Addr):Prop where
 makes:makesIn K C=true
 init:findIn K (.ref C) "__init__"=some (some (.builtin "object.__init__"))
 kp:keepIn K (.ref C)=true
def tMakeN (C:Addr):TE:=fun _ H Q=>∀ x dx,H x=none→H dx=none→dx≠x→Q (.ref x) (L2.upd (L2.upd H dx (.own x)) x (.ins C dx []))
theorem w_makeN {σ:L2.St}{H:Hp}{Q:VK}:tMakeN C σ H Q=∀ x dx,H x=none→H dx=none→dx≠x→Q (.ref x) (L2.upd (L2.upd H dx (.own x)) x (.ins C dx [])):=rfl
theorem pe_makN (M:MkN X.K C)(hg:Gl X x)(hm:X.mg x=some (.ref C))(hdb:(x == ("__debug__":Str))=false:=by decide):PE X (.Call (.Name x p) [] [] pos) (tMakeN C):=by
 intro pins s σ H Q I h
 refine wpAny_Call_Name_kw (ld_glob I hg hm ?_ hdb)
 refine callWith_K0 I.kIn M.kp ?_
 have hq:=h (s.heap.objs.size+1) s.heap.objs.size (I.hok.fresh (Nat.le_succ _)) (I.hok.fresh (Nat.le_refl _)) (Nat.ne_of_lt (Nat.lt_succ_self _))
 have I2:=Inv.made (C:=C) I
 have Y:=makes_of (M:=model X.prog X.w) I.kIn M.makes
 refine wpAny_call (make_map0 I.kIn M.makes M.init (fun self=>Looks.of_pure (oi_bind self)) ?_)
 obtain ⟨hh,g,d,tt,os⟩:=s
 have t1:Looks (model X.prog X.w) ((hh.push emptyDict).push (instObj C hh.objs.size)) (typeOf (.ref (hh.objs.size+1))) (.ref C):=by
  obtain ⟨mA,O,_⟩:=ins_get (a:=hh.objs.size+1) (C:=C) (dx:=hh.objs.size) (fs:=[]) I2.hok upd_same
  obtain ⟨od,J,_⟩:=O.look
  exact J.type
 have t2:Looks (model X.prog X.w) ((hh.push emptyDict).push (instObj C hh.objs.size)) (isInstance (.ref (hh.objs.size+1)) (.type "object")) true :=
  t1.andThen (Y.top.keeps fun b o e=>Heap.get?_push_of_some _ (Heap.get?_push_of_some _ e))
 refine codeAny_call_builtin oi_plain entry_oi (@check_slot (model X.prog X.w) _ _ _ "object.__init__" "object" "__init__" (.ref (hh.objs.size+1)) [] [] _ oi_kind oi_split t2 (oi_args (.ref (hh.objs.size+1))) ?_)
 rw [oi_run]
 exact wpAny_pure (And.intro rfl ⟨V.ref (hh.objs.size+1),_,I2,rfl,hq⟩)
end
def rIsiV (K:Frag):List V→Hp→VK→Prop:=fun xs H Q=>∃ (x:V) (c:Addr) (t:Value) (b:Bool),xs=[x,.ref c]∧TyOf K H x t∧kitOne K t (.ref c)=some b∧Q (.bl b) H
theorem call_isiV {X:Cx}:CallR X (.builtin "isinstance") (rIsiV X.K):=by
 intro pins s σ H xs us Q I r h
 obtain ⟨x,c,t,b,rfl,ty,e,q⟩:=h
 obtain ⟨u,w',rfl,rx,rc⟩:=vals2 r
 cases (show w'=Value.ref c from rc)
 exact isinst_ok I rx ty e fun tk=>⟨.bl b,H,I.tok _,rfl,q⟩
section
variable {X:Cx}
end
section
variable {K:Frag}{C:Addr}{sp:Sp}{dvs:List V}{E:XK}{ta tv:TE}{t:TA}{f:Str}{σ:L2.St}{H:Hp}{Q:VK}{D:Ends}{n:Nat}{ts:TGs}{v:V}{QS:L2.St→Hp→Prop}{g:TG}
theorem w_make:tMake C sp dvs E t σ H Q=t σ H (fun vs H1=>∀ x dx,H1 x=none→H1 dx=none→dx≠x →
 sp (.ref x::(vs++dvs)) (L2.upd (L2.upd H1 dx (.own x)) x (.ins C dx [])) (fun v H2=>v=.non∧Q (.ref x) H2) E):=rfl
theorem w_fld:tFld K ta f σ H Q=ta σ H (fun x H1=>∃ a C dx fs v,x=.ref a∧H1 a=some (.ins C dx fs)∧Cls K C∧NoAttr K C f∧fs.lookup f=some v∧Q v H1):=rfl
theorem w_gTup:gTup K n ts v σ H QS=∃ a xs,v=.ref a∧SqT K H a xs∧xs.length=n∧ts xs σ H QS:=rfl
theorem w_gCons {vs:List V}:gCons g ts vs σ H QS=∃ v r,vs=v::r∧g v σ H (fun σ' H'=>ts r σ' H' QS):=rfl
theorem w_sFld:sFld K ta tv f D σ H=tv σ H (fun y H1=>ta σ H1 (fun x H2=>∃ a C dx fs,x=.ref a∧H2 a=some (.ins C dx fs)∧Cls K C∧NoAttr K C f∧fs.length < 1000 ∧
 D.nx σ (L2.upd H2 a (.ins C dx (putF f y fs))))):=rfl
theorem w_gNil {vs:List V}:gNil vs σ H QS=(vs=[]∧QS σ H):=rfl
end
section
variable {X:Cx}{x:Str}{ps:List Str}{k:Nat}{sp:Sp}{p pos:Pos}
end
theorem FnOk.lift {P:Program}{w:World}{K:Frag}{mg:Str→Option Value}{base:Heap}{CX:CXT}{j k:Nat}{f:Addr}{fd:FuncData}{ps:List Str}{sp:Sp}(F:FnOk P w K mg base CX j f fd ps sp)(h:j≤k):FnOk P w K mg base CX k f fd ps sp :=
 ⟨F.len,fun A outer s H args us vs Q E hr he hb hv hs=>F.run A outer s H args us vs Q E (hr.mono h) he hb hv hs⟩
theorem made_same {H:Hp}{x dx:Addr}{o o':HO}(hx:H x=none)(hd:H dx=none):Same H (L2.upd (L2.upd H dx o) x o'):=fun b u q=>by
 rw [upd_ne (ne_of_none q hx),upd_ne (ne_of_none q hd)]
 exact q
structure ClsK (K:Frag) (C:Addr):Prop where
 cl:Cls K C
 ha:findIn K (.ref C) "__class__"=some (some (.builtin "object.__class__"))
 hn:specialIn K (.builtin "object.__class__") "__get__"=some (some (.builtin "getset_descriptor.__get__"))
 ht:takesIn K (.builtin "object.__class__")=some true
 hm:mroIn K C (.type "object")=some true
theorem ClsK.ty {K:Frag}{C:Addr}(c:ClsK K C){H:Hp}{a dx:Addr}{fs:List (Str × V)}(e:H a=some (.ins C dx fs)):TyOf K H (.ref a) (.ref C):=.ins e c.cl c.ha c.hn c.ht c.hm
theorem isiV_at {X:Cx}{K:Frag}(hK:X.K=K):CallR X (.builtin "isinstance") (rIsiV K):=by
 subst hK
 exact call_isiV
def isStar:Expr→Bool
 | .Starred _ _=>true
 | _=>false
theorem star_plain:∀ (e:Expr) (es:List Expr) (env:Env),isStar e=false→starEach (e::es) env=(false,eval e env)::starEach es env:=by
 intro e es env h
 cases e <;> first | rfl | (cases h)
def noStar:List Expr→Bool
 | []=>true
 | e::r=>!isStar e && noStar r
theorem plain_any {pos:Pos}{env:Env}:∀ {es:List Expr},noStar es=true→(backTo pos (starEach es env)).any (·.1)=false
 | [],_=>rfl
 | e::r,h=>by
  have h':(!isStar e)=true∧noStar r=true:=by simpa [noStar] using h
  rw [star_plain e r env (by simpa using h'.1)]
  have ih:=plain_any (pos:=pos) (env:=env) h'.2
  have e1:backTo pos ((false,eval e env)::starEach r env)=(false,eval e env)::backTo pos (starEach r env):=rfl
  rw [e1,List.any_cons,ih]
  rfl
theorem pa_c {X:Cx}{e:Expr}{es:List Expr}{te:TE}{t:TA}(ha:PE X e te)(hr:PA X es t)(hs:isStar e=false:=by rfl):PA X (e::es) (tCons te t):=pa_cons ha hr (star_plain e es X.env hs)
structure QA (X:Cx) (es:List Expr) (t:TA):Prop where
 h:PA X es t
theorem qa_nil {X:Cx}:QA X [] tNil:=⟨pa_nil⟩
theorem qa_c {X:Cx}{e:Expr}{es:List Expr}{te:TE}{t:TA}(ha:PE X e te)(hr:QA X es t)(hs:isStar e=false:=by rfl):QA X (e::es) (tCons te t):=⟨pa_c ha hr.h hs⟩
theorem pa_of {X:Cx}{es:List Expr}{t:TA}(h:QA X es t):PA X es t:=h.h
def wholeV:V→Bool
 | .int _=>true
 | _=>false
def fromV (x:V)(lo:Int):Bool:=match x with
 | .int i=>decide (lo≤i)
 | _=>false
theorem okV.same {H H':Hp}{x:V}(h:okV H x)(s:Same H H'):okV H' x:=by
 cases x with
 | ref a =>
  rcases h with ⟨xs,e⟩ | ⟨xs,e⟩
  ·exact .inl ⟨xs,s _ _ e⟩
  ·exact .inr ⟨xs,s _ _ e⟩
 | non=>trivial
 | bl _=>trivial
 | int _=>trivial
 | str _=>trivial
 | _=>exact h.elim
theorem okV.lst {H:Hp}{p:Addr}{xs:List V}(h:H p=some (.lst xs)):okV H (.ref p):=.inl ⟨_,h⟩
theorem okV.tup {H:Hp}{p:Addr}{xs:List V}(h:H p=some (.tup xs)):okV H (.ref p):=.inr ⟨_,h⟩
def tCut (t u:TS):TS:=fun D σ H=>∃ M:L2.St→Hp→Prop,t { D with nx:=M } σ H∧∀ σ' H',M σ' H'→u D σ' H'
theorem w_cut {t u:TS}{D:Ends}{σ:L2.St}{H:Hp}:tCut t u D σ H=∃ M:L2.St→Hp→Prop,t { D with nx:=M } σ H∧∀ σ' H',M σ' H'→u D σ' H':=rfl
theorem pss_cut {X:Cx}{st:Stmt}{rest:List Stmt}{t u:TS}(h1:PS X st t)(h2:PSs X rest u):PSs X (st::rest) (tCut t u):=by
 intro pins s σ H D I h
 obtain ⟨M,ha,hb⟩:=h
 refine wpAny_execs_cons (thn (h1 pins s σ H { D with nx:=M } I ha) fun f s1 q=>?_)
 cases f with
 | next =>
  obtain ⟨σ',H',I',q⟩:=q
  exact h2 pins s1 σ' H' D I' (hb _ _ q)
 | ret v=>exact q
 | brk=>exact q
 | cont=>exact q
def plainS (u:Str):Bool:=u.cps.all (· < 128)
def Its (u:Str):It:=⟨fun i _=>i < u.cps.size,fun i H x H'=>H'=H∧∃ c,u.cps[i]?=some c∧x=.str ⟨#[c]⟩,fun i _=>u.cps.size≤i⟩
theorem turn_str {P:Program}{w:World}{K:Frag}{tg:Expr}(u:Str)(t:Tok)(it:Addr):Turn P w K tg (Its u) [it] it (fun i h=>h.IsStrIter it "str_ascii_iterator" u t i) where
 mem:=by simp
 obj:=fun i h st b hb=>by
  have e:b=it:=by simpa using hb
  subst e
  obtain ⟨o,e,c,d⟩:=st
  exact ⟨o,e,fun v z=>by rw [d] at z; cases z⟩
 keep:=fun i h h' st k=>by
  obtain ⟨o,e,c,d⟩:=st
  exact ⟨o,k it (by simp) o e,c,d⟩
 item:=by
  intro X hP hw hK hc i pins s σ H E I hf st hg
  subst hP hw hK
  have hx:u.cps[i]?=some u.cps[i]:=Array.getElem?_eq_getElem hg
  obtain ⟨f0,f1,f2,f3,f4,f5⟩:=hf it (by simp)
  refine wpAny_pyNext_ascii_item st hx fun h' st' sb=>?_
  have I1:Inv X pins σ H { s with heap:=h',toks:=s.toks+1 }:=I.turned (t':=s.toks+1) (fun b o hb e=>(sb.2 b hb).trans e) f0 f1 f3 f4 f5
  obtain ⟨o,e,c,d⟩:=id st'
  exact ⟨_,rfl,go_of (s:={ s with heap:=h',toks:=s.toks+1 }) e c d (by decide) ⟨.str ⟨#[u.cps[i]]⟩,H,I1,⟨_,rfl⟩,⟨rfl,_,hx,rfl⟩,st',fun b hb=>(hf b hb).1⟩⟩
 done:=by
  intro X hP hw hK hc i pins s σ H E I hf st hg
  subst hP hw hK
  obtain ⟨f0,f1,f2,f3,f4,f5⟩:=hf it (by simp)
  exact wpAny_pyNext_ascii_end (I.ok.hd hc) st (Array.getElem?_eq_none hg) fun h' eb=>⟨rfl,I.turned (t':=s.toks) (fun b o hb e=>eb b o hb e) f0 f1 f3 f4 f5⟩
 self:=fun _ _ _ _ _ st h=>wpAny_pyIter_striter_ascii st h
def iStr (tl:TE):TI:=fun σ H R=>tl σ H fun x H1=>∃ u,x=.str u∧plainS u=true∧R (Its u) H1
theorem pi_str {X:Cx}{tg l:Expr}{tl:TE}(hl:PE X l tl):PI X tg l (iStr tl):=by
 intro pins s σ H R I h
 refine thn (hl pins s σ H _ I h) fun v s1 ⟨x,H1,I1,r1,q1⟩=>?_
 obtain ⟨u,e,hp,q⟩:=q1
 subst e
 obtain ⟨t,rfl⟩:=r1
 refine wpAny_pyIter_ascii hp ?_
 refine ⟨s1.heap.objs.size,[s1.heap.objs.size],_,_,H1,rfl,I1.kept (t':=s1.toks) fun b o e=>Heap.get?_push_of_some _ e,turn_str u t _,⟨_,Heap.get?_push_size _ rfl,rfl,rfl⟩,fun b hb=>?_,q⟩
 have e:b=s1.heap.objs.size:=by simpa using hb
 subst e
 exact I1.fpOk (Nat.le_refl _) (I1.hok.fresh (Nat.le_refl _))
section
variable {K:Frag}{ta te:TE}{ix:List (Option Nat)}{g:TG}{tt:TT}{σ:L2.St}{H:Hp}{Q:VK}
def CompS (u:Str)(g:TG)(tt:TT)(te:TE)(Q:VK)(σ:L2.St)(H:Hp):Prop:=∃ W:Nat→Nat→List V→L2.St→Hp→Prop,(∃ m,W 0 m [] σ H)∧∀ i m acc σ H,W i m acc σ H →
 ((Its u).stop i H∧∀ D,H D=none→Q (.ref D) (L2.upd H D (.lst acc))) ∨
 ((Its u).go i H∧acc.length < sizeLine∧∃ N:List V→L2.St→Hp→Prop,(∀ acc' σ' H',N acc' σ' H'→∃ m',m' < m∧W (i+1) m' acc' σ' H') ∧
  ∀ x H',(Its u).yld i H x H'→g x σ H' fun σ2 H2=>tt σ2 H2 fun b H3=>if b=true then te σ2 H3 fun y H4=>N (acc++[y]) σ2 H4 else N acc σ2 H3)
theorem w_compS:tComp (iStr ta) ix g tt te σ H Q=ta σ H (fun x H1=>∃ u,x=.str u∧plainS u=true∧CompS u g tt te Q (pick ix σ) H1):=rfl
theorem CompS.by {u:Str}(Pv:Nat→List V→L2.St→Hp→Prop)(hz:u.cps.size≤sizeLine)(h0:Pv 0 [] σ H)(hs:∀ i c acc σ H,u.cps[i]?=some c→Pv i acc σ H→g (.str ⟨#[c]⟩) σ H fun σ2 H2=>tt σ2 H2 fun b H3=>if b=true then te σ2 H3 fun y H4=>Pv (i+1) (acc++[y]) σ2 H4 else Pv (i+1) acc σ2 H3)(hacc:∀ i acc σ H,Pv i acc σ H→acc.length≤i)(hd:∀ acc σ H,Pv u.cps.size acc σ H→∀ D,H D=none→Q (.ref D) (L2.upd H D (.lst acc))):CompS u g tt te Q σ H:=by
  refine ⟨fun i m acc σ H=>m=u.cps.size - i∧i≤u.cps.size∧Pv i acc σ H,⟨u.cps.size,by simp,Nat.zero_le _,h0⟩,?_⟩
  rintro i m acc σ H ⟨rfl,hi,p⟩
  have ha:=hacc i acc σ H p
  by_cases hlt:i < u.cps.size
  · refine .inr ⟨hlt,by omega,Pv (i+1),fun acc' σ' H' p'=>⟨u.cps.size - (i+1),by omega,rfl,hlt,p'⟩,fun x H' y=>?_⟩
    obtain ⟨e,c,hc,y⟩:=y
    subst e y
    exact hs i c acc σ _ hc p
  · have e:i=u.cps.size:=by omega
    subst e
    exact .inl ⟨Nat.le_refl _,hd acc σ H p⟩
end
theorem bools_at:∀ {bs:List Bool}{its:List Value},Vals (bs.map V.bl) its→∀ (i:Nat) (v:Value),its[i]?=some v→∃ b:Bool,bs[i]?=some b∧v=Value.bool b
 | [],_,r,i,v,h=>by
  rw [List.map_nil] at r
  cases r
  simp at h
 | b::bs,_,r,i,v,h=>by
  rw [List.map_cons] at r
  cases r with
  | cons r1 r2 =>
   cases i with
   | zero =>
    simp at h
    subst h
    exact ⟨b,rfl,r1⟩
   | succ i=>exact bools_at r2 i v (by simpa using h)
theorem call_all {X:Cx}(hc:X.calm=true):CallR X (.builtin "all") (fun xs H Q=>∃ (a:Addr) (bs:List Bool),xs=[.ref a]∧SqL X.K H a (bs.map V.bl)∧Q (.bl (bs.all id)) H):=by
 intro pins s σ H xs us Q I r h
 obtain ⟨a,bs,rfl,hS,q⟩:=h
 obtain ⟨u,rfl,ru⟩:=vals1 r
 cases ru
 obtain ⟨its,rv,pl,hz⟩:=I.list hS
 have hl:s.heap.IsList a its.toArray:=pl.isList
 have hlt:a < s.heap.objs.size:=by obtain ⟨_,e,_⟩:=hl; exact Heap.lt_size e
 refine call_all_walk (wpAny_pyIter_list hl ?_)
 refine ⟨s.heap.objs.size,[s.heap.objs.size,a],[s.heap.objs.size],its.toArray.size,_,_,fun i=>(bs[i]?).getD true,rfl,Walks.list (A:=X.A.in1) (I.ok.hd hc) _ a (Nat.ne_of_lt hlt) its.toArray,
  ⟨⟨_,Heap.get?_push_size _ rfl,rfl,rfl⟩,hl.push _⟩,fun i v s' Q' E' hP hQ=>?_,fun h' tk hk=>?_⟩
 ·obtain ⟨b,e,rfl⟩:=bools_at rv i v (by simpa using hP)
  simp only [e,Option.getD_some] at hQ
  exact wpAny_truthy_bool hQ
 ·have hn:its.toArray.size=bs.length:=by
   have:=rv.length
   rw [List.length_map] at this
   simpa using this.symm
  have e:((List.range its.toArray.size).all fun i=>(bs[i]?).getD true)=bs.all id:=by
   rw [hn,Bool.eq_iff_iff,List.all_eq_true,List.all_eq_true]
   constructor
   ·intro z b hb
    obtain ⟨i,hi,rfl⟩:=List.getElem_of_mem hb
    have:=z i (List.mem_range.mpr hi)
    simpa [List.getElem?_eq_getElem hi] using this
   ·intro z i hi
    have hi':=List.mem_range.mp hi
    simp only [List.getElem?_eq_getElem hi',Option.getD_some]
    exact z _ (List.getElem_mem hi')
  rw [e]
  refine ⟨.bl _,H,I.kept (t':=tk) fun b o eb=>hk b o (fun hm=>by rw [List.mem_singleton.mp hm] at eb; exact Nat.lt_irrefl _ (Heap.lt_size eb)) (Heap.get?_push_of_some _ eb),rfl,q⟩
def okN (H:Hp):V→Prop
 | .non=>True
 | .bl _=>True
 | .int _=>True
 | .str u=>plainS u=true∧u.length≤1000
 | .ref a=>(∃ xs,H a=some (.lst xs))∨(∃ xs,H a=some (.tup xs))∨∃ kvs,H a=some (.dK kvs)
 | _=>False
def isStrV:V→Bool
 | .str _=>true
 | _=>false
theorem okN.ty {K:Frag}{H:Hp}{x:V}(h:okN H x):∃ T,TyOf K H x (.type T)∧kitOne K (.type T) (.type "str")=some (isStrV x):=by
 cases x with
 | non=>exact ⟨_,.non,by kernel_rfl⟩
 | bl b=>exact ⟨_,.bl b,by kernel_rfl⟩
 | int i=>exact ⟨_,.int i,by kernel_rfl⟩
 | str i=>exact ⟨_,.str i,by kernel_rfl⟩
 | ref a =>
  rcases h with ⟨xs,e⟩ | ⟨xs,e⟩ | ⟨xs,e⟩
  ·exact ⟨_,.lst e,by kernel_rfl⟩
  ·exact ⟨_,.tup e,by kernel_rfl⟩
  ·exact ⟨_,.dK e,by kernel_rfl⟩
 | _=>exact h.elim
theorem call_isi_str {X:Cx}:CallR X (.builtin "isinstance") (fun xs H Q=>∃ x,xs=[x,.ty "str"]∧okN H x∧Q (.bl (isStrV x)) H):=by
 intro pins s σ H xs us Q I r h
 obtain ⟨x,rfl,ok,q⟩:=h
 obtain ⟨T,ty,e⟩:=ok.ty (K:=X.K)
 exact isi_gen I r ty e q
theorem okN.same {H H':Hp}{x:V}(h:okN H x)(s:Same H H'):okN H' x:=by
 cases x with
 | ref a =>
  rcases h with ⟨xs,e⟩ | ⟨xs,e⟩ | ⟨xs,e⟩
  ·exact .inl ⟨xs,s _ _ e⟩
  ·exact .inr (.inl ⟨xs,s _ _ e⟩)
  ·exact .inr (.inr ⟨xs,s _ _ e⟩)
 | non=>trivial
 | bl _=>trivial
 | int _=>trivial
 | str _=>exact h
 | _=>exact h.elim
theorem okN.but {H H':Hp}{x:V}{w:Addr}(h:okN H x)(W:Well3 H' w)(s:But w H H'):okN H' x:=by
 cases x with
 | ref a =>
  by_cases ha:a=w
  ·obtain ⟨b,c,d,q⟩:=W
   exact .inl ⟨_,by rw [ha]; exact q⟩
  ·rcases h with ⟨xs,e⟩ | ⟨xs,e⟩ | ⟨xs,e⟩
   ·exact .inl ⟨xs,s _ _ ha e⟩
   ·exact .inr (.inl ⟨xs,s _ _ ha e⟩)
   ·exact .inr (.inr ⟨xs,s _ _ ha e⟩)
 | non=>trivial
 | bl _=>trivial
 | int _=>trivial
 | str _=>exact h
 | _=>exact h.elim
def nameB:V→Bool
 | .str u=>decide (goodN u)
 | _=>false
theorem in_letters {c:Nat}(h:c < 128):(!(Builtin.Str.occurrences letters ⟨#[c]⟩ 0 letters.length 1).isEmpty)=decide (97≤c∧c≤122):=by
 have q:∀ k:Fin 128,(!(Builtin.Str.occurrences letters ⟨#[k.val]⟩ 0 letters.length 1).isEmpty)=decide (97≤k.val∧k.val≤122):=by decide +kernel
 exact q ⟨c,h⟩
def LetS (u:Str):Prop:=∀ c∈u.cps.toList,97≤c∧c≤122
def Sm (u:Str):Prop:=plainS u=true∧u.length≤100
theorem plain_iff {u:Str}:plainS u=true ↔ ∀ c∈u.cps.toList,c < 128:=by
 unfold plainS
 rw [Array.all_eq_true']
 constructor
 ·intro h c hc
  have:=h c (by simpa using hc)
  simpa using this
 ·intro h c hc
  have:=h c (by simpa using hc)
  simpa using this
theorem LetS.plain {u:Str}(h:LetS u):plainS u=true:=plain_iff.mpr fun c hc=>by have:=h c hc; omega
theorem good_let {u:Str}(h:goodN u):LetS u:=h.2.2
theorem good_sm {u:Str}(h:goodN u):Sm u:=⟨(good_let h).plain,by have:=h.2.1; omega⟩
theorem app_toList (u v:Str):(u++v).cps.toList=u.cps.toList++v.cps.toList:=by
 show (u.cps++v.cps).toList=_
 rw [Array.toList_append]
def badC (u:Str):Prop:=∃ c∈u.cps.toList,¬ (97≤c∧c≤122)
instance (u:Str):Decidable (badC u):=by unfold badC; infer_instance
theorem badC.no {u:Str}(h:badC u):¬ goodN u:=fun g=>by
 obtain ⟨c,hc,n⟩:=h
 exact n (g.2.2 c hc)
theorem badC.l {u:Str}(h:badC u)(v:Str):badC (u++v):=by
 obtain ⟨c,hc,n⟩:=h
 exact ⟨c,by rw [app_toList]; exact List.mem_append.mpr (.inl hc),n⟩
theorem badC.r {v:Str}(h:badC v)(u:Str):badC (u++v):=by
 obtain ⟨c,hc,n⟩:=h
 exact ⟨c,by rw [app_toList]; exact List.mem_append.mpr (.inr hc),n⟩
theorem name_all {u:Str}(h:plainS u=true):(u.cps.toList.map fun c=>!(Builtin.Str.occurrences letters ⟨#[c]⟩ 0 letters.length 1).isEmpty).all id=decide (∀ c∈u.cps.toList,97≤c∧c≤122):=by
 rw [Bool.eq_iff_iff,List.all_eq_true,decide_eq_true_eq]
 constructor
 ·intro z c hc
  have q:=z _ (List.mem_map.mpr ⟨c,hc,rfl⟩)
  rw [in_letters (plain_iff.mp h c hc)] at q
  simpa using q
 ·intro z b hb
  obtain ⟨c,hc,rfl⟩:=List.mem_map.mp hb
  rw [in_letters (plain_iff.mp h c hc)]
  simpa using z c hc
theorem good_str {u:Str}(g:goodN u):PyData.strOk u=true:=by
 unfold PyData.strOk
 rw [Array.all_eq_true']
 intro c hc
 have:=g.2.2 c (by simpa using hc)
 simp only [decide_eq_true_eq]
 omega
section
variable {X:Cx}{x:Str}{C:Addr}{ps:List Str}{k:Nat}{sp:Sp}{e:Expr}{es:List Expr}{t:TA}{p pos:Pos}
variable {K:Frag}{σ:L2.St}{H:Hp}{Q:VK}{D:Ends}{CB:Addr}{i:Nat}{tb:XK→TS}{ts:TS}{E:XK}{dvs:List V}
theorem w_tryB:tTryB K CB i tb ts D σ H=tb (fun cls dx H2=>exmOne K cls (.ref CB)=some true ∧
 ∀ x,H2 x=none→ts { nx:=fun σ' H3=>D.nx (σ'.set i none) H3,rt:=D.rt,bk:=fun σ' H3=>D.bk (σ'.set i none) H3,ct:=fun σ' H3=>D.ct (σ'.set i none) H3 } (σ.set i (some (.ref x))) (L2.upd H2 x (hoExcD x cls dx))) D σ H:=rfl
theorem w_bmake:tBMake C sp dvs t E σ H Q=t σ H (fun vs H1=>∀ x dx,H1 x=none→H1 dx=none→dx≠x →
 sp (.ref x::(vs++dvs)) (L2.upd (L2.upd H1 dx (.own x)) x (.ins C dx [])) (fun v H2=>v=.non∧Q (.ref x) H2) E):=rfl
def tNoKeys:TE:=fun _ H0 Q0=>∀ d,H0 d=none→Q0 (.ref d) (L2.upd H0 d (.dK []))
theorem w_noKeys:tNoKeys σ H Q=∀ d,H d=none→Q (.ref d) (L2.upd H d (.dK [])):=rfl
end
structure QE (X:Cx) (e:Expr) (t:TE):Prop where
 h:PE X e t
structure QS (X:Cx) (st:Stmt) (t:TS):Prop where
 h:PS X st t
structure QSs (X:Cx) (sts:List Stmt) (t:TS):Prop where
 h:PSs X sts t
section
variable {X:Cx}{e a b c:Expr}{es:List Expr}{st:Stmt}{rest sa sb:List Stmt}{te ta tb:TE}{tl:TA}{tc:TT}{t u:TS}{pos pos':Pos}{x:Str}{i:Nat}
theorem qe_of (h:PE X e te):QE X e te:=⟨h⟩
theorem qs_of (h:PS X st t):QS X st t:=⟨h⟩
theorem pss_of (h:QSs X rest t):PSs X rest t:=h.h
theorem qe_lst (h:QA X es tl):QE X (.List es pos) (tLst tl):=⟨pe_lst h.h⟩
theorem qe_op {op:Operator}{r:R2}(ho:OpR X (binaryOp op) r)(ha:QE X a ta)(hb:QE X b tb):QE X (.BinOp a op b pos) (tOp r ta tb):=⟨pe_op ho ha.h hb.h⟩
theorem qe_ix {r:R2}(hr:IxR X r)(ha:QE X a ta)(hb:QE X b tb)(hs:PlainIx b):QE X (.Subscript a b pos) (tOp r ta tb):=⟨pe_ix hr ha.h hb.h hs⟩
theorem qs_ret (he:QE X e te):QS X (.Return (some e) pos) (tRet te):=⟨ps_ret he.h⟩
theorem qs_set (hN:X.N.Nodup)(hi:X.N[i]?=some x)(hx:Loc X.env.scope x)(he:QE X e te)(hs:swapsWith e (some (.Name x pos')) pos.line X.env=pure false)(hf:X.fn x=true∨X.env.scope.names.lookup x=some .local:=by first | exact .inl rfl | exact .inr rfl | assumption) :
  QS X (.Assign [.Name x pos'] e pos) (tAsg te (gName i)):=⟨ps_set hN hi hx he.h hs hf⟩
theorem qs_if (hc:PT X c tc)(ha:QSs X sa t)(hb:QSs X sb u):QS X (.If c sa sb pos) (tIfS tc t u):=⟨ps_if hc ha.h hb.h⟩
theorem qss_nil:QSs X [] tNext:=⟨pss_nil⟩
theorem qss_one (h:QS X st t):QSs X [st] t:=⟨pss_one h.h⟩
theorem qss_cons (h1:QS X st t)(h2:QSs X rest u):QSs X (st::rest) (tSeq t u):=⟨pss_cons h1.h h2.h⟩
theorem qss_cut (h1:QS X st t)(h2:QSs X rest u):QSs X (st::rest) (tCut t u):=⟨pss_cut h1.h h2.h⟩
theorem qss_of (h:PSs X rest t):QSs X rest t:=⟨h⟩
end
mutual
inductive RD (H:Hp):V→PyData→Prop
 | non:RD H .non .none
 | bl (b:Bool):RD H (.bl b) (.bool b)
 | int (i:Int):RD H (.int i) (.int i)
 | str (x:Str):RD H (.str x) (.str x)
 | lst {p:Addr}{xs:List V}{ds:List PyData}:H p=some (.lst xs)→RDs H xs ds→RD H (.ref p) (.list ds)
 | tup {p:Addr}{xs:List V}{ds:List PyData}:H p=some (.tup xs)→RDs H xs ds→RD H (.ref p) (.tuple ds)
inductive RDs (H:Hp):List V→List PyData→Prop
 | nil:RDs H [] []
 | cons {v:V}{d:PyData}{vs:List V}{ds:List PyData}:RD H v d→RDs H vs ds→RDs H (v::vs) (d::ds)
end
section
variable {X:Cx}{pins:List (Addr × Obj)}{σ:L2.St}{H:Hp}{s:Shared}
mutual
theorem RD.reads (I:Inv X pins σ H s):∀ {v:V}{d:PyData},RD H v d→∀ {u:Value},RelV v u→∃ as,Reads s.heap u d as
 | _,_,.non,u,r=>by cases (show u=Value.none from r); exact ⟨_,.none⟩
 | _,_,.bl b,u,r=>by cases (show u=Value.bool b from r); exact ⟨_,.bool b⟩
 | _,_,.int i,u,r=>by obtain ⟨t,rfl⟩:=(show ∃ t,u=Value.int i t from r); exact ⟨_,.int i t⟩
 | _,_,.str i,u,r=>by obtain ⟨t,rfl⟩:=(show ∃ t,u=Value.str i t from r); exact ⟨_,.str i t⟩
 | _,_,.lst h hs,u,r=>by
  cases (show u=Value.ref _ from r)
  obtain ⟨its,r1,⟨o1,n1,p1,c1,_,d1⟩,_⟩:=I.list (SqL.of h)
  obtain ⟨as,ra⟩:=RDs.reads I hs r1
  exact ⟨_,Reads.list p1 c1 d1 (by simpa using ra)⟩
 | _,_,.tup h hs,u,r=>by
  cases (show u=Value.ref _ from r)
  obtain ⟨its,r1,⟨o1,p1,c1,n1,d1⟩,_⟩:=I.tuple (SqT.of h)
  obtain ⟨as,ra⟩:=RDs.reads I hs r1
  exact ⟨_,Reads.tuple p1 c1 d1 (by simpa using ra)⟩
theorem RDs.reads (I:Inv X pins σ H s):∀ {vs:List V}{ds:List PyData},RDs H vs ds→∀ {us:List Value},Vals vs us→∃ as,ReadsAll s.heap us ds as
 | _,_,.nil,_,.nil=>⟨_,.nil⟩
 | _,_,.cons h hs,_,.cons r rs=>by
  obtain ⟨as,ra⟩:=RD.reads I h r
  obtain ⟨bs,rb⟩:=RDs.reads I hs rs
  exact ⟨_,.cons ra rb⟩
end
end
section
variable {X:Cx}
def rEqD (b:Bool):R2:=fun x y H Q=>∃ (d d':PyData),RD H x d∧RD H y d'∧SeqAt.shaped d=true∧SeqAt.shaped d'=true∧Q (.bl (PyData.eqv d d' == b)) H
theorem op_eqD (hu:X.A.units+64 < cLine):OpR X (compareOp .Eq) (rEqD true):=by
 intro pins s σ H x y v u Q I rx ry h
 obtain ⟨d,d',h1,h2,s1,s2,q⟩:=h
 obtain ⟨as,r1⟩:=h1.reads I rx
 obtain ⟨bs,r2⟩:=h2.reads I ry
 refine eq_dataH r1 r2 s1 s2 hu ⟨.bl _,H,I,rfl,?_⟩
 have e:(PyData.eqv d d' == true)=PyData.eqv d d':=by cases PyData.eqv d d' <;> rfl
 rw [e] at q
 exact q
theorem op_neD (hu:X.A.units+64 < cLine):OpR X (compareOp .NotEq) (rEqD false):=by
 intro pins s σ H x y v u Q I rx ry h
 obtain ⟨d,d',h1,h2,s1,s2,q⟩:=h
 obtain ⟨as,r1⟩:=h1.reads I rx
 obtain ⟨bs,r2⟩:=h2.reads I ry
 refine ne_dataH r1 r2 s1 s2 hu ⟨.bl _,H,I,rfl,?_⟩
 have e:(PyData.eqv d d' == false)=!PyData.eqv d d':=by cases PyData.eqv d d' <;> rfl
 rw [e] at q
 exact q
end
def tNev:TE:=fun _ _ _=>False
theorem w_nev {σ:L2.St}{H:Hp}{Q:VK}:tNev σ H Q=False:=rfl
theorem w_never {D:Ends}{σ:L2.St}{H:Hp}:tNever D σ H=False:=rfl
structure CalD (P:Program) (w:World) (K:Frag) (mg:Str→Option Value) (base:Heap) (x:Str) (C:Addr) (ps:List Str) (k:Nat) (dvs:List V) (sp:Sp):Prop where
 ex:∃ f fd ds,FnOk P w K mg base (CXF P w) k f fd ps sp∧Binds K fd ps ds∧Vals dvs ds∧Mk K C f∧mg x=some (.ref C)
section
variable {X:Cx}{x m:Str}{C:Addr}{ps:List Str}{k:Nat}{sp:Sp}{e o:Expr}{es:List Expr}{ta:TE}{t:TA}{p pos apos:Pos}{E:XK}{dvs:List V}
end
structure FunA (K:Frag) (x qual:Str) (st:Stmt) (f:Addr) (fd:FuncData):Prop where
 ex:∃ (oc:Value) (od:Option Addr) (dV kV doc pm:Value) (an:Option Addr) (cdv ct:Value) (osl:Array (Option Value)),
  fd=fnOf x qual (defArgs st) (defBody st) (defScope st) dV kV doc pm an cdv ct∧K.lookup f=some ⟨oc,od,.func fd,osl⟩∧codeIn K cdv qual=true
section
variable {P:Program}{w:World}{K:Frag}{mg:Str→Option Value}{base:Heap}{N:List Str}{f:Addr}
theorem FunA.ok {x qual:Str}{st:Stmt}{fd:FuncData}{ps:List Str}{k:Nat}{sp:Sp}(F:FunA K x qual st f fd)(S:FnScope N ps (defScope st))(len:∀ vs H Q E,sp vs H Q E→vs.length=ps.length)(hbody:∀ (cdv:Value) (A:Around) (outer:List Env) (s:Shared) (H:Hp) (vs:List V) (Q:VK) (E:XK),Room k (A.deeper (envOfC qual (defScope st) s.heap.objs.size f cdv))→sp vs H Q E →
   ∃ t,PSs (cxOf CX0 P w K mg base N qual (defScope st) f cdv A outer s H E).nox (defBody st) t∧t { nx:=fun _ H'=>Q .non H',rt:=Q } (L2.start N vs) H):FnOk P w K mg base CX0 (k+1) f fd ps sp:=by
 obtain ⟨oc,od,dV,kV,doc,pm,an,cdv,ct,osl,rfl,lk,hcd⟩:=F.ex
 refine fn_of lk hcd S len fun A outer s H vs Q E hr hsp=>?_
 obtain ⟨t,h,q⟩:=hbody cdv A outer s H vs Q E hr hsp
 exact ⟨t,h.nox,q⟩
end
def below (s e t:Int):Int:=(t - s) / 1440 * ((e - s) % 1440)+(if (e - s) % 1440 < (t - s) % 1440 then (e - s) % 1440 else (t - s) % 1440)
theorem shaped_of {ds:List PyData}{n:Nat}(hn:n≤60)(h:PyData.canLayAll0 ds=true∧PyData.depthAll ds=n):SeqAt.shaped (.list ds)=true∧SeqAt.shaped (.tuple ds)=true:=by
 have h1:=h.1
 have h2:=h.2
 constructor
 ·show (PyData.canLay0 (.list ds) && decide (PyData.depth (.list ds)≤64))=true
  rw [Bool.and_eq_true]
  exact ⟨by simp only [PyData.canLay0]; exact h1,decide_eq_true (by simp only [PyData.depth]; omega)⟩
 ·show (PyData.canLay0 (.tuple ds) && decide (PyData.depth (.tuple ds)≤64))=true
  rw [Bool.and_eq_true]
  exact ⟨by simp only [PyData.canLay0]; exact h1,decide_eq_true (by simp only [PyData.depth]; omega)⟩
theorem eqv_nil (xs:List PyData):PyData.eqv (.list xs) (.list [])=xs.isEmpty:=by cases xs <;> simp [PyData.eqv,PyData.eqvAll]
def tRevL (K:Frag)(te:TE):TE:=fun σ H Q=>te σ H fun x H1=>∃ a xs,x=.ref a∧SqL K H1 a xs∧∀ p,H1 p=none→Q (.ref p) (L2.upd H1 p (.lst xs.reverse))
theorem w_revL {K:Frag}{te:TE}{σ:L2.St}{H:Hp}{Q:VK}:tRevL K te σ H Q=te σ H (fun x H1=>∃ a xs,x=.ref a∧SqL K H1 a xs∧∀ p,H1 p=none→Q (.ref p) (L2.upd H1 p (.lst xs.reverse))):=rfl
def metS (l:List Str):List Str:=l.foldl (fun a x=>if x∈a then a else a++[x]) []
theorem metS_snoc (l:List Str)(x:Str):metS (l++[x])=if x∈metS l then metS l else metS l++[x]:=by
 unfold metS; rw [List.foldl_append]; rfl
theorem metS_take {l:List Str}{i:Nat}(h:i < l.length):metS (l.take (i+1))=if l.getD i Str.empty∈metS (l.take i) then metS (l.take i) else metS (l.take i)++[l.getD i Str.empty]:=by
 rw [← metS_snoc,List.take_succ,List.getElem?_eq_getElem h]
 simp [List.getD,List.getElem?_eq_getElem h]
theorem snoc_ind {p:List Str→Prop}(h0:p [])(h1:∀ l x,p l→p (l++[x]))(l:List Str):p l:=by
 have q:∀ m:List Str,p m.reverse:=fun m=>by
  induction m with
  | nil=>exact h0
  | cons a m ih=>rw [List.reverse_cons]; exact h1 _ _ ih
 have:=q l.reverse
 rwa [List.reverse_reverse] at this
theorem mem_metS (x:Str)(l:List Str):x∈metS l ↔ x∈l:=by
 refine snoc_ind (p:=fun l=>x∈metS l ↔ x∈l) (by simp [metS]) (fun l y ih=>?_) l
 ·show x∈metS (l++[y]) ↔ x∈l++[y]
  rw [metS_snoc]
  split
  ·rename_i h
   rw [ih]
   constructor
   ·intro z; exact List.mem_append_left _ z
   ·intro z
    rcases List.mem_append.mp z with z | z
    ·exact z
    ·have e:x=y:=by simpa using z
     subst e
     exact ih.mp h
  ·simp [ih]
theorem metS_le (l:List Str):(metS l).length≤l.length:=by
 refine snoc_ind (p:=fun l=>(metS l).length≤l.length) (by simp [metS]) (fun l y ih=>?_) l
 ·show (metS (l++[y])).length≤(l++[y]).length
  rw [metS_snoc]
  split <;> simp <;> omega
theorem metS_all (l:List Str):(metS l).length=l.length ↔ l.Nodup:=by
 refine snoc_ind (p:=fun l=>(metS l).length=l.length ↔ l.Nodup) (by simp [metS]) (fun l y ih=>?_) l
 ·show (metS (l++[y])).length=(l++[y]).length ↔ (l++[y]).Nodup
  have h:=metS_le l
  rw [metS_snoc]
  by_cases m:y∈metS l
  ·rw [if_pos m,List.length_append,List.length_singleton]
   constructor
   ·intro z; omega
   ·intro z
    have:=(mem_metS y l).mp m
    rw [List.nodup_append] at z
    exact absurd rfl (z.2.2 y this y (List.mem_singleton.mpr rfl))
  ·rw [if_neg m,List.length_append,List.length_append,List.length_singleton]
   have n:y ∉ l:=fun z=>m ((mem_metS y l).mpr z)
   constructor
   ·intro z
    rw [List.nodup_append]
    refine ⟨ih.mp (by omega),by simp,fun a ha b hb e=>?_⟩
    have:b=y:=by simpa using hb
    subst this; subst e; exact n ha
   ·intro z
    rw [List.nodup_append] at z
    have:=ih.mpr z.1
    omega
abbrev memS (l:List Str):Str→Bool:=fun k=>decide (k∈metS l)
section
variable {prog:Program}{w:World}{A:Around}{R:Result→Shared→Prop}{I:Addr}{fp wr:List Addr}{G:Array GenState→Array GenState→Prop}{P:Nat→Value→Prop}{St:Nat→Shared→Prop}
theorem setLoopS {l:List Str}(W:WalksS prog w A.in1 I fp wr G l.length P St)(S:Addr)(hS0:S ∉ fp)(hv:∀ i v,P i v→∃ t,v=.str (l.getD i Str.empty) t)(hb:l.length+1 < scanBound):∀ (k i:Nat) (s:Shared) (q:∀ s',Moved (S::wr) G s s'→s'.heap.SetOf (strKind prog w) S (memS l) (metS l).length→R (.ok (.ret .none)) s'),
   l.length - i=k→i≤l.length→St i s→s.heap.SetOf (strKind prog w) S (memS (l.take i)) (metS (l.take i)).length →
   codeAny (model prog w) A (.builtin "set.update.loop" ⟨[.ref S,.ref I],[]⟩) R s:=by
 have nw:S ∉ wr:=fun h=>hS0 (W.sub _ h)
 have up:∀ b∈wr,b∈S::wr:=fun b hb=>List.mem_cons_of_mem _ hb
 have move:∀ {s s':Shared}{T:Str→Bool}{n:Nat},Moved wr G s s'→s.heap.SetOf (strKind prog w) S T n→s'.heap.SetOf (strKind prog w) S T n:=fun hm z=>by
  obtain ⟨o,es,ep,t,ho,z⟩:=z
  exact ⟨o,es,ep,t,hm.heap S _ nw ho,z⟩
 intro k
 induction k with
 | zero =>
  intro i s q hk hi hst z
  have e:i=l.length:=by omega
  subst e
  rw [List.take_length] at z
  refine codeAny_builtin PyProof.Rows.F.entry_set_update_loop ?_
  rw [Around.under_plainId PyProof.Rows.F.plain_set_update_loop _]; show wpAny _ A.in1 (pyNext (.ref I) >>= _) _ _ s
  refine wpAny_bind (W.done s _ _ hst fun s' hm=>?_)
  show wpAny _ A.in1 (ret Value.none) _ _ s'; exact wpAny_pure (q s' (hm.mono up) (move hm z))
 | succ k ih =>
  intro i s q hk hi hst z
  have lt:i < l.length:=by omega
  refine codeAny_builtin PyProof.Rows.F.entry_set_update_loop ?_
  rw [Around.under_plainId PyProof.Rows.F.plain_set_update_loop _]; show wpAny _ A.in1 (pyNext (.ref I) >>= _) _ _ s
  refine wpAny_bind (W.item i s _ _ lt hst fun v s' hP hst' hm=>?_)
  obtain ⟨t,rfl⟩:=hv i v hP
  have z':=move hm z
  show wpAny _ A.in1 (holding [Value.str (l.getD i Str.empty) t] (setAdd S (.str (l.getD i Str.empty) t)) >>= _) _ _ s'
  refine wpAny_bind (wpAny_holding ?_); unfold setAdd
  refine wpAny_holding (wpAny_bind ((strKind prog w).pyHash (k:=l.getD i Str.empty) (strKind_is _ _ _ _) ?_))
  have room:(metS (l.take i)).length+1 < scanBound:=by
   have h1:=metS_le (l.take i)
   have h2:(l.take i).length≤l.length:=by rw [List.length_take]; omega
   omega
  refine wpAny_setAddHashed_of (knd:=strKind prog w) (s:={ s' with toks:=s'.toks+1 }) (strKind_is _ _ _ _) rfl z' room fun h' sb z2=>?_
  have z3:h'.SetOf (strKind prog w) S (memS (l.take (i+1))) (metS (l.take (i+1))).length:=by
   refine SetOf_congr z2 (fun k'=>?_) ?_
   ·show (decide (k'∈metS (l.take i)) || decide (k'=l.getD i Str.empty))=decide (k'∈metS (l.take (i+1)))
    rw [metS_take lt]
    generalize l.getD i Str.empty=y
    split
    ·rename_i m
     by_cases e:k'=y
     ·subst e; simp [m]
     ·simp [e]
    ·by_cases e:k'=y
     ·subst e; simp
     ·simp [e]
   ·rw [metS_take lt]
    generalize l.getD i Str.empty=y
    by_cases m:y∈metS (l.take i)
    ·rw [if_pos m,if_pos (by simpa using m)]
    ·rw [if_neg m,if_neg (by simpa using m),List.length_append]; rfl
  refine wpAny_pure ⟨plainId_quiet PyProof.Rows.F.plain_set_update_loop _,ih (i+1) _ (fun s'' hm'' z4=>?_) (by omega) lt (W.frame _ s' _ _ hst' (Nat.le_succ _) fun b hb o e=>?_) z3⟩
  ·refine q s'' (Moved.trans W.gtrans ((hm.mono up).then_heap (Nat.le_succ _) fun b o hb e=>?_) hm'') z4
   rw [sb.2 b (fun h:b=S=>hb (by rw [h]; exact List.mem_cons_self))]; exact e
  ·rw [sb.2 b (fun h:b=S=>hS0 (by rw [← h]; exact hb))]; exact e
end
abbrev freshSet (led:Bool):Obj:={ cls:=.type "set",dict:=none,data:=.set #[] 0 (.fresh 0 0 led) }
theorem hasS {its:List Value}{l:List Str}(h:Vals (l.map V.str) its)(i:Nat)(v:Value)(e:its[i]?=some v):∃ t,v=.str (l.getD i Str.empty) t:=by
 induction l generalizing its i with
 | nil=>cases h; simp at e
 | cons x l ih =>
  cases h with
  | cons r1 r2 =>
   cases i with
   | zero =>
    obtain ⟨t,rfl⟩:=r1
    have:v=.str x t:=by simpa using e.symm
    exact ⟨t,by rw [this]; rfl⟩
   | succ i=>exact ih r2 i (by simpa using e)
section
variable {prog:Program}{w:World}{A:Around}{E:Value→Shared→Prop}{s:Shared}
set_option maxHeartbeats 4000000 in
theorem callSetS {a:Addr}{its:List Value}{l:List Str}{Q:Value→Shared→Prop}(hh:A.handled=none)(hl:s.heap.IsList a its.toArray)(hv:Vals (l.map V.str) its)(hb:l.length+1 < scanBound)(q:∀ (h':Heap) (tk:Nat),h'.SetOf (strKind prog w) s.heap.objs.size (memS l) (metS l).length→(∀ b o,s.heap.get? b=some o→h'.get? b=some o)→Q (.ref s.heap.objs.size) { s with heap:=h',toks:=tk }) :
  wpAny (model prog w) A (call (.type "set") [.ref a]) Q E s:=by
 have hn:its.toArray.size=l.length:=by have:=hv.length; rw [List.length_map] at this; simpa using this.symm
 obtain ⟨c,tl,hmro⟩:=PySem.F.called_set.mro
 have hmade:=PySem.F.called_set.made; have hsub:=PySem.F.called_set.sub
 refine wpAny_call (codeAny_of_tree ?_); show wpAny _ _ (callAny (.type "set") _) _ _ _
 refine wpAny_pure ⟨Code.quiet_builtin _ (by decide +kernel),codeAny_builtin PySem.F.entry_type_call ?_⟩
 rw [Around.under_plain (weight_type_call_type "set" [.ref a] []) rfl]
 have h1:=PySem.F.called_set.notType; have h2:=PySem.F.called_set.canCreate
 have hct:=PySem.F.typeCall_set_1 (.ref a)
 repeat (any_goals (first | assumption | wp_step))
 refine codeAny_mono (PySem.code_set_new_1 (.ref a) (E:=E) (Q₁:=fun obj s₁=>∃ led:Bool,obj=.ref s.heap.objs.size∧s₁={ s with heap:=s.heap.push (freshSet led) }) fun led=>⟨led,rfl,rfl⟩) fun r s₁ hr=>?_
 match r,hr with
 | .error e,hr=>exact hr
 | .ok (.ret obj),hr =>
  obtain ⟨led,rfl,rfl⟩:=hr
  have hS:(s.heap.push (freshSet led)).get? s.heap.objs.size=some (freshSet led):=Heap.get?_push_size _ rfl
  have hT:Shared.TypeIs { s with heap:=s.heap.push (freshSet led) } (.ref s.heap.objs.size) "set":=⟨_,hS,rfl⟩
  have hli:=PySem.F.called_set.init.lookup; have hbi:=PySem.F.called_set.init.bind (.ref s.heap.objs.size)
  repeat (any_goals (first | assumption | wp_step))
  refine codeAny_mono (codeAny_call_builtin (R:=wants (fun r s₂=>r=.none∧∃ h' tk,s₂={ s with heap:=h',toks:=tk }∧h'.SetOf (strKind prog w) s.heap.objs.size (memS l) (metS l).length ∧
    (∀ b o,s.heap.get? b=some o→h'.get? b=some o)) E) PySem.F.called_set.init.plain PySem.F.entry_set_init (PySem.check_set_init_1 hT ?_)) fun r₂ s₂ hr₂=>?_
  ·obtain ⟨⟨oc,od,odt,osl⟩,hol,hcl,nl,hdl⟩:=hl
   simp only at hcl hdl; subst hcl; subst hdl
   have hol':(s.heap.push (freshSet led)).get? a=some { cls:=.type "list",dict:=od,data:=.seq its.toArray nl,slots:=osl }:=Heap.get?_push_of_some _ hol
   have n1:=PySem.F.sub_list_set; have n2:=PySem.F.sub_list_frozenset
   have n3:(Value.type "list" == Value.type "dict")=false:=by decide
   have hl1:(s.heap.push (freshSet led)).IsList a its.toArray:=⟨_,hol',rfl,nl,rfl⟩
   unfold Builtin.«set.__init__» noKeywords Builtin.Frozenset.updateFrom
   generalize hPI:pyIter=PI
   wp_walk
   subst hPI
   refine wpAny_pyIter_list hl1 (wpAny_bind (wpAny_runValue ?_))
   have lt:a < s.heap.objs.size:=Heap.lt_size hol
   have hh3:A.in1.in1.in1.handled=none:=by simp [hh]
   have ne1:a≠(s.heap.push (freshSet led)).objs.size:=by rw [Heap.size_push]; exact Nat.ne_of_lt (Nat.lt_succ_of_lt lt)
   have ne2:s.heap.objs.size ∉ [(s.heap.push (freshSet led)).objs.size,a]:=by
    rw [Heap.size_push]; intro z
    rcases List.mem_cons.mp z with z | z
    ·exact absurd z (Nat.ne_of_lt (Nat.lt_succ_self _))
    ·exact absurd (List.mem_singleton.mp z) (Nat.ne_of_gt lt)
   have W:=(Walks.list (prog:=prog) (w:=w) hh3 _ a ne1 its.toArray).toS
   rw [hn] at W
   refine setLoopS W s.heap.objs.size ne2 (fun i v hv'=>hasS hv i v (by simpa using hv')) hb (l.length - 0) 0 _ (fun s' hm z=>?_) (by omega) (Nat.zero_le _) ⟨⟨_,Heap.get?_push_size _ rfl,rfl,rfl⟩,hl1.push _⟩ ?_
   ·obtain ⟨h',g',d',tk',os'⟩:=s'
    have eg:g'=s.gens:=hm.gens
    have ed:d'=s.drawn:=hm.drawn
    have eo:os'=s.os:=hm.os
    subst eg; subst ed; subst eo
    show wpAny _ _ _ _ _ _
    refine wpAny_pure ?_
    show wpAny _ _ (ret Value.none) _ _ _
    refine wpAny_pure ⟨rfl,h',tk',rfl,z,fun b o e=>?_⟩
    have bl:=Heap.lt_size e
    refine hm.heap b o (fun y=>?_) (Heap.get?_push_of_some _ (Heap.get?_push_of_some _ e))
    rcases List.mem_cons.mp y with y | y
    ·exact absurd y (Nat.ne_of_lt bl)
    ·have:=List.mem_singleton.mp y; rw [Heap.size_push] at this; exact absurd this (Nat.ne_of_lt (Nat.lt_succ_of_lt bl))
   ·have hg:((s.heap.push (freshSet led)).push { cls:=.type "list_iterator",data:=.fields #[.ref a,.int 0 0] }).get? s.heap.objs.size=some (freshSet led):=Heap.get?_push_of_some _ hS
    exact SetOf_congr ((setObjOf_fresh (knd:=strKind prog w) led).setOf hg (by unfold scanBound; omega)) (fun k=>by simp [memS,metS]) rfl
  ·match r₂,hr₂ with
   | .error e,hr₂=>exact hr₂
   | .ok (.ret r),hr₂ =>
    obtain ⟨rfl,h',tk,rfl,z,kp⟩:=hr₂
    repeat (any_goals (first | assumption | wp_step))
    exact q _ _ z kp
end
def hoSet (P:Program)(w:World)(a:Addr)(l:List Str):HO:=.ext fun h=>h.SetOf (strKind P w) a (memS l) (metS l).length
theorem set_ext {P:Program}{w:World}{H:Hp}{h:Heap}{a:Addr}{l:List Str}(z:h.SetOf (strKind P w) a (memS l) (metS l).length):ObjOk P w H h a (hoSet P w a l):=by
 refine ⟨z,?_,fun h1 h2 z1 k=>?_⟩
 ·obtain ⟨o,_,_,_,e,_⟩:=z; exact ⟨o,e⟩
 ·obtain ⟨o,es,ep,t,e,z1⟩:=z1; exact ⟨o,es,ep,t,k o e,z1⟩
theorem call_setS {X:Cx}(hc:X.calm=true):CallR X (.type "set") (fun xs H Q=>∃ (a:Addr) (l:List Str),xs=[.ref a]∧SqL X.K H a (l.map V.str)∧l.length≤1000∧∀ p,H p=none→Q (.ref p) (upd H p (hoSet X.prog X.w p l))):=by
 intro pins s σ H xs us Q I r h
 obtain ⟨a,l,rfl,hS,hz,q⟩:=h
 obtain ⟨u,rfl,ru⟩:=vals1 r
 cases ru
 obtain ⟨its,rv,pl,_⟩:=I.list hS
 refine callSetS (I.ok.hd hc) pl.isList rv (by unfold scanBound; omega) fun h' tk z kp=>?_
 exact ⟨.ref s.heap.objs.size,_,I.laid (t':=tk) kp (Nat.le_refl _) (set_ext z),rfl,q _ (I.hok.fresh (Nat.le_refl _))⟩
theorem call_lenS {X:Cx}:CallR X (.builtin "len") (fun xs H Q=>∃ (a:Addr) (l:List Str),xs=[.ref a]∧H a=some (hoSet X.prog X.w a l)∧Q (.int (metS l).length) H):=by
 intro pins s σ H xs us Q I r h
 obtain ⟨a,l,rfl,e,q⟩:=h
 obtain ⟨u,rfl,ru⟩:=vals1 r
 cases ru
 obtain ⟨⟨o,es,ep,t,ho,hex,hd,_,_,hb,hf,hn⟩,_⟩:=I.hok a _ e
 rw [← hn] at q
 exact call_len_set ho hex hd hf (by unfold scanBound at hb; omega) ⟨.int es.size,H,I.tok _,⟨_,rfl⟩,q⟩
theorem TyOf.same {K:Frag}{H H':Hp}{x:V}{t:Value}(h:TyOf K H x t)(s:Same H H'):TyOf K H' x t:=by
 cases h with
 | non=>exact .non
 | bl x=>exact .bl x
 | int i=>exact .int i
 | str x=>exact .str x
 | flt x=>exact .flt x
 | lst e=>exact .lst (s _ _ e)
 | frz e=>exact .frz (s _ _ e)
 | tup e=>exact .tup (s _ _ e)
 | dK e=>exact .dK (s _ _ e)
 | dT e=>exact .dT (s _ _ e)
 | ins e cl ha hn ht hm=>exact .ins (s _ _ e) cl ha hn ht hm
def rIsiG (K:Frag)(T:String):List V→Hp→VK→Prop:=fun xs H Q=>∃ (x:V) (t:Value) (b:Bool),xs=[x,.ty T]∧TyOf K H x t∧kitOne K t (.type T)=some b∧Q (.bl b) H
theorem isiG_at {X:Cx}{K:Frag}{T:String}(hK:X.K=K):CallR X (.builtin "isinstance") (rIsiG K T):=by
 subst hK
 intro pins s σ H xs us Q I r h
 obtain ⟨x,t,b,rfl,ty,e,q⟩:=h
 obtain ⟨u,w',rfl,rx,rc⟩:=vals2 r
 cases (show w'=Value.type T from rc)
 exact isinst_ok I rx ty e fun tk=>⟨.bl b,H,I.tok _,rfl,q⟩
section
variable {X:Cx}
def tBIf (c:TT)(t u:XK→TS):XK→TS:=fun E D σ H=>c σ H fun b H1=>if b=true then t E D σ H1 else u E D σ H1
theorem w_bIf {c:TT}{t u:XK→TS}{E:XK}{D:Ends}{σ:L2.St}{H:Hp}:tBIf c t u E D σ H=c σ H (fun b H1=>if b=true then t E D σ H1 else u E D σ H1):=rfl
end
end Bw
namespace L2
open PySem PySem.Spec PyProof.Rows PySem.W
section
variable {κ:Type} [DecidableEq κ]
def valV (kvs:List (κ × V))(k:κ):Option V:=(kvs.find? fun kv=>decide (kv.1=k)).map (·.2)
def putK (kvs:List (κ × V))(k:κ)(v:V):List (κ × V) :=
 if (kvs.any fun kv=>decide (kv.1=k))=true then kvs.map (fun kv=>if kv.1=k then (kv.1,v) else kv) else kvs++[(k,v)]
theorem valV_pos {p:κ × V}{r:List (κ × V)}{k:κ}(e:p.1=k):valV (p::r) k=some p.2:=by simp [valV,List.find?_cons,e]
theorem valV_neg {p:κ × V}{r:List (κ × V)}{k:κ}(e:¬ p.1=k):valV (p::r) k=valV r k:=by simp [valV,List.find?_cons,e]
theorem valV_any (k:κ):∀ kvs:List (κ × V),(kvs.any fun kv=>decide (kv.1=k))=(valV kvs k).isSome
 | []=>rfl
 | p::r=>by
  rw [List.any_cons]
  by_cases e:p.1=k
  ·simp only [valV_pos e,decide_eq_true e,Bool.true_or,Option.isSome_some]
  ·rw [valV_neg e,decide_eq_false e,Bool.false_or]; exact valV_any k r
theorem length_putK (kvs:List (κ × V))(k:κ)(v:V):(putK kvs k v).length≤kvs.length+1:=by
 unfold putK
 split
 ·rw [List.length_map]; omega
 ·rw [List.length_append,List.length_cons,List.length_nil]; omega
theorem putK_new {kvs:List (κ × V)}{k:κ}(v:V)(h:valV kvs k=none):putK kvs k v=kvs++[(k,v)]:=by
 unfold putK
 rw [valV_any,h]
 exact if_neg (by decide)
theorem RelO.isSome_eq {o:Option V}{u:Option Value}(r:RelO o u):o.isSome=u.isSome:=by
 cases o with
 | none=>cases u with
  | none=>rfl
  | some _=>exact (show False from r).elim
 | some _=>cases u with
  | none=>exact (show False from r).elim
  | some _=>rfl
theorem KV.val {kvs:List (κ × V)}{vs:List (κ × Value)}(r:KV kvs vs)(k:κ):RelO (valV kvs k) (valueAt vs k):=by
 unfold KV at r
 induction r with
 | nil=>exact True.intro
 | @cons p q ps qs h t ih =>
  obtain ⟨h1,h2⟩:=h
  by_cases e:p.1=k
  ·have e':q.1=k:=h1.symm.trans e
   have b:valueAt (q::qs) k=some q.2:=by simp [valueAt,List.find?_cons,e']
   rw [valV_pos e,b]; exact h2
  ·have e':¬ q.1=k:=fun z=>e (h1.trans z)
   have b:valueAt (q::qs) k=valueAt qs k:=by simp [valueAt,List.find?_cons,e']
   rw [valV_neg e,b]; exact ih
theorem KV.any {kvs:List (κ × V)}{vs:List (κ × Value)}(r:KV kvs vs)(k:κ):(kvs.any fun kv=>decide (kv.1=k))=vs.any fun kv=>decide (kv.1=k):=by
 unfold KV at r
 induction r with
 | nil=>rfl
 | cons h t ih=>rw [List.any_cons,List.any_cons,ih,h.1]
theorem KV.repl {kvs:List (κ × V)}{vs:List (κ × Value)}(r:KV kvs vs)(k:κ){y:V}{u:Value}(ry:RelV y u) :
  KV (kvs.map fun kv=>if kv.1=k then (kv.1,y) else kv) (vs.map fun kv=>if kv.1=k then (kv.1,u) else kv):=by
 unfold KV at r ⊢
 induction r with
 | nil=>exact .nil
 | @cons p q ps qs h t ih =>
  rw [List.map_cons,List.map_cons]
  refine .cons ?_ ih
  obtain ⟨h1,h2⟩:=h
  by_cases e:p.1=k
  ·rw [if_pos e,if_pos (h1.symm.trans e)]; exact ⟨h1,ry⟩
  ·rw [if_neg e,if_neg (fun z=>e (h1.trans z))]; exact ⟨h1,h2⟩
theorem KV.put {kvs:List (κ × V)}{vs:List (κ × Value)}(r:KV kvs vs)(k:κ){y:V}{u:Value}(ry:RelV y u):KV (putK kvs k y) (stored vs k u):=by
 unfold putK stored
 rw [r.any k]
 by_cases e:(vs.any fun kv=>decide (kv.1=k))=true
 ·rw [if_pos e,if_pos e]; exact r.repl k ry
 ·rw [if_neg e,if_neg e]; exact Paired.snoc r ⟨rfl,ry⟩
theorem KV.keys {kvs:List (κ × V)}{vs:List (κ × Value)}(r:KV kvs vs):kvs.map (·.1)=vs.map (·.1):=by
 unfold KV at r
 induction r with
 | nil=>rfl
 | cons h t ih=>rw [List.map_cons,List.map_cons,ih,h.1]
theorem KV.length {kvs:List (κ × V)}{vs:List (κ × Value)}(r:KV kvs vs):kvs.length=vs.length:=Paired.length r
end
theorem kV_is {P:Program}{w:World}{k:Key}{u:Value}(r:RelV (kV k) u):(mixKind P w).is k u=true:=by
 cases k with
 | inl i=>obtain ⟨t,e⟩:=(show ∃ t,u=Value.int i t from r); subst e; exact mixKind_int P w i t
 | inr x=>obtain ⟨t,e⟩:=(show ∃ t,u=Value.str x t from r); subst e; exact mixKind_str P w x t
section
variable {P:Program}{w:World}{H:Hp}{h:Heap}{a:Addr}
theorem rd_of {u:HO}(ok:HOk P w H h)(e:Rd H a u):ObjOk P w H h a u:=e.ok ok
theorem dk_rd {kvs:List (Key × V)}(ok:HOk P w H h)(e:Rd H a (.dK kvs)):kvs.length≤sizeLine∧(a == sysModules)=false∧∃ vs,KV kvs vs∧h.DictOf (mixKind P w) a vs :=
 show ObjOk P w H h a (.dK kvs) from rd_of ok e
theorem dk_of {kvs:List (Key × V)}(ok:HOk P w H h)(e:H a=some (.dK kvs)):kvs.length≤sizeLine∧(a == sysModules)=false∧∃ vs,KV kvs vs∧h.DictOf (mixKind P w) a vs:=dk_rd ok (.inl e)
end
section
variable {X:Cx}{pins:List (Addr × Obj)}{σ:St}{H:Hp}{s:Shared}{a:Addr}{y v:V}{u r:Value}{o:Option V}{A:Around}{E:Value→Shared→Prop}
theorem Inv.big (I:Inv X pins σ H s):sysModules < s.heap.objs.size:=by
 have h:mainGlobals < s.heap.objs.size:=(I.mod.glob.keeps I.bk).lt
 exact Nat.lt_trans (by decide) h
theorem d_write {h':Heap}{t':Nat}{ob:HO}(I:Inv X pins σ H s)(mu:Mut (H a))(hs:Heap.SameBut a s.heap h')(he:∃ q,h'.get? a=some q)(new:ObjOk X.prog X.w (upd H a ob) h' a ob) :
  Inv X pins σ (upd H a ob) { s with heap:=h',toks:=t' } :=
 I.write (x:=a) (e:=a) mu (.inl rfl) (fun b q hb z=>(hs.2 b hb).trans z) he new
theorem dk_new {P:Program}{w:World}{H':Hp}{h':Heap}{kvs:List (Key × V)}{vs:List (Key × Value)}(z:kvs.length≤sizeLine)(hd:(a == sysModules)=false)(rel:KV kvs vs)(dd:h'.DictOf (mixKind P w) a vs) :
  ObjOk P w H' h' a (.dK kvs):=⟨z,hd,vs,rel,dd⟩
end
theorem dk_empty {P:Program}{w:World}{H:Hp}(h:Heap)(hb:sysModules < h.objs.size):ObjOk P w H (h.push { cls:=.type "dict",data:=.dict #[] }) h.objs.size (.dK []) :=
 ⟨Nat.zero_le _,beq_eq_false_iff_ne.mpr (Ne.symm (Nat.ne_of_lt hb)),[],.nil,Heap.DictOf.new h⟩
def tDNewK:TE:=fun _ H Q=>∀ p,H p=none→Q (.ref p) (upd H p (.dK []))
section
variable {X:Cx}{pos:Pos}
theorem pe_dnewK:PE X (.Dict [] [] pos) tDNewK:=fun pins s σ H Q I h =>
 wpAny_Dict_empty ⟨.ref s.heap.objs.size,_,I.laid (a:=s.heap.objs.size) (o:=.dK []) (t':=s.toks) (fun _ _ q=>Heap.get?_push_of_some _ q) (Nat.le_refl _) (dk_empty s.heap I.big),rfl,h _ (I.hok.fresh (Nat.le_refl _))⟩
end
def tPairs:List (TE × TE)→St→Hp→(List (V × V)→Hp→Prop)→Prop
 | [],_,H,Q=>Q [] H
 | (tk,tv)::r,σ,H,Q=>tk σ H fun x H1=>tv σ H1 fun y H2=>tPairs r σ H2 fun ps H3=>Q ((x,y)::ps) H3
abbrev VV:List (V × V)→List (Value × Value)→Prop:=Paired fun p q=>RelV p.1 q.1∧RelV p.2 q.2
def PPs (X:Cx)(pos:Pos)(keys:List (Option Expr))(values:List Expr)(trs:List (TE × TE)):Prop :=
 ∀ (pins:List (Addr × Obj)) (s:Shared) (σ:St) (H:Hp) (Q:List (V × V)→Hp→Prop),Inv X pins σ H s→tPairs trs σ H Q →
  wpAny (model X.prog X.w) X.A (evalPairs (pairTrees keys values X.env pos)) (fun vs s'=>∃ ps H',Inv X pins σ H' s'∧VV ps vs∧Q ps H') X.xe s
theorem pps_nil {X:Cx}{pos:Pos}:PPs X pos [] [] []:=fun pins s σ H Q I h=>pairTrees_nil_walk ⟨[],H,I,.nil,h⟩
theorem pps_cons {X:Cx}{pos:Pos}{k v:Expr}{ks:List (Option Expr)}{vs:List Expr}{tk tv:TE}{trs:List (TE × TE)}(hk:PE X k tk)(hv:PE X v tv)(hr:PPs X pos ks vs trs) :
  PPs X pos (some k::ks) (v::vs) ((tk,tv)::trs):=fun pins s σ H Q I h =>
 pairTrees_cons_walk (thn (hk pins s σ H _ I h) fun u s1 ⟨x,H1,I1,rx,q1⟩=>thn (hv pins s1 σ H1 _ I1 q1) fun w2 s2 ⟨y,H2,I2,ry,q2⟩ =>
  thn (hr pins s2 σ H2 _ I2 q2) fun ws s3 ⟨ps,H3,I3,rel,q3⟩=>⟨(x,y)::ps,H3,I3,.cons ⟨rx,ry⟩ rel,q3⟩)
def mergeK (kvs more:List (Key × V)):List (Key × V):=more.foldl (fun acc kv=>putK acc kv.1 kv.2) kvs
theorem KV.merge:∀ {more:List (Key × V)}{rs:List (Key × Value)}{kvs:List (Key × V)}{vs:List (Key × Value)},KV more rs→KV kvs vs→KV (mergeK kvs more) (merged vs rs):=by
 intro more rs kvs vs r
 unfold KV at r
 induction r generalizing kvs vs with
 | nil=>intro q; exact q
 | @cons p q ps qs h t ih =>
  intro r0
  have e:KV (putK kvs p.1 p.2) (stored vs q.1 q.2):=by
   have:=r0.put p.1 h.2
   rw [← h.1]; exact this
  exact ih e
theorem length_mergeK:∀ (more kvs:List (Key × V)),(mergeK kvs more).length≤kvs.length+more.length
 | [],kvs=>by show kvs.length≤kvs.length+0; omega
 | p::r,kvs=>by
  have h1:=length_mergeK r (putK kvs p.1 p.2)
  have h2:=length_putK kvs p.1 p.2
  show (mergeK (putK kvs p.1 p.2) r).length≤_
  rw [List.length_cons]; omega
theorem carries_of {P:Program}{w:World}:∀ {kvs:List (Key × V)}{ws:List (Value × Value)},VV (kvs.map fun kv=>(kV kv.1,kv.2)) ws→∃ rs,Carries (mixKind P w) ws rs∧KV kvs rs
 | [],_,r=>by rw [List.map_nil] at r; cases r; exact ⟨[],True.intro,.nil⟩
 | p::kvs,_,r=>by
  rw [List.map_cons] at r
  cases r with
  | @cons a b as bs h t =>
   obtain ⟨rs,c,q⟩:=carries_of (P:=P) (w:=w) t
   obtain ⟨b1,b2⟩:=b
   exact ⟨(p.1,b2)::rs,⟨kV_is h.1,rfl,c⟩,.cons ⟨rfl,h.2⟩ q⟩
def tDisp (trs:List (TE × TE)):TE:=fun σ H Q=>∀ p,H p=none→tPairs trs σ (upd H p (.dK [])) fun ps H2=>H2 p=some (.dK [])∧∃ kvs:List (Key × V),ps=kvs.map (fun kv=>(kV kv.1,kv.2))∧kvs.length≤15∧Q (.ref p) (upd H2 p (.dK (mergeK [] kvs)))
theorem pe_disp {X:Cx}{pos:Pos}{keys:List (Option Expr)}{values:List Expr}{trs:List (TE × TE)}(h:PPs X pos keys values trs)(hall:keys.all (·.isSome)=true)(hl:keys.length=values.length)(h0:keys≠[])(h15:keys.length≤15):PE X (.Dict keys values pos) (tDisp trs):=by
 intro pins s σ H Q I q
 have hn:=I.hok.fresh (Nat.le_refl s.heap.objs.size)
 have I1:=I.laid (a:=s.heap.objs.size) (o:=.dK []) (h':=s.heap.push { cls:=.type "dict",data:=.dict #[] }) (t':=s.toks) (fun _ _ q=>Heap.get?_push_of_some _ q) (Nat.le_refl _) (dk_empty s.heap I.big)
 refine wpAny_Dict_walk (knd:=mixKind X.prog X.w) hall hl h0 h15 (thn (h pins _ σ _ _ I1 (q _ hn)) fun ws s2 ⟨ps,H2,I2,rel,e,kvs,ep,lk,q2⟩=>?_)
 subst ep
 obtain ⟨rs,c,rk⟩:=carries_of (P:=X.prog) (w:=X.w) rel
 obtain ⟨z,hd,vs0,r0,dd⟩:=dk_of I2.hok e
 cases r0
 refine ⟨rs,c,dd,fun h' dd' hs=>⟨.ref s.heap.objs.size,_,?_,rfl,q2⟩⟩
 have hz:(mergeK [] kvs).length≤sizeLine:=by
  have h1:=length_mergeK kvs []
  rw [List.length_nil] at h1
  rw [sizeLine_eq]; omega
 have he:∃ q,h'.get? s.heap.objs.size=some q:=let ⟨q,_,_,hq,_⟩:=dd'; ⟨q,hq⟩
 exact d_write I2 (by rw [e]; exact True.intro) hs he (dk_new hz hd (rk.merge .nil) dd')
end L2
namespace Bw
open PySem PySem.Spec PyProof.Rows L2 PySem.W
section
variable {X:Cx}
def rIxD:R2:=fun x y H Q=>∃ a kvs k v,x=.ref a∧H a=some (.dK kvs)∧y=kV k∧valV kvs k=some v∧Q v H
theorem ix_dict:IxR X rIxD:=by
 intro value slice pins s σ H x y v u Q I rx ry h hs
 obtain ⟨a,kvs,k,z,rfl,e,rfl,hv,q⟩:=h
 cases rx
 obtain ⟨hz,hd,vs,rel,dd⟩:=dk_of I.hok e
 obtain ⟨w',hw,rw'⟩:=RelO.some_of (v:=z) (o:=valueAt vs k) (by rw [← hv]; exact rel.val k)
 have hT:s.TypeIs (.ref a) "dict":=dd.typeIs
 unfold subscriptTail
 refine wpAny_bind ?_
 rw [getitemInPython_of_ne hT.not_modules]
 refine wpAny_bind (wpAny_specialOf hT PySem.F.slot_dict_getitem.lookup ?_)
 have fin:wpAny (model X.prog X.w) X.A (subscripted slice false (.ref a) u) (fun r s₃=>wpAny (model X.prog X.w) X.A (letTemporaryGo value (.ref a) r >>= fun _=>pure r) (EP X pins σ Q) X.xe s₃) X.xe s:=by
  rw [hs]
  exact wpAny_operating (wpAny_getItem_of (kV_is ry) dd.mapOf hw (wpAny_bind (wpAny_letTemporaryGo (wpAny_pure ⟨z,H,I.tok _,rw',q⟩))))
 first
  | exact wpAny_pure (wpAny_bind fin)
  | exact wpAny_bind (wpAny_pure (wpAny_bind fin))
  | exact wpAny_bind fin
def rInD:R2:=fun y x H Q=>∃ a kvs k,x=.ref a∧H a=some (.dK kvs)∧y=kV k∧Q (.bl (valV kvs k).isSome) H
theorem op_inD:OpR X (compareOp .In) rInD:=by
 intro pins s σ H x y v u Q I rx ry h
 obtain ⟨a,kvs,k,rfl,e,rfl,q⟩:=h
 cases ry
 obtain ⟨z,hd,vs,rel,dd⟩:=dk_of I.hok e
 refine wpAny_in_of (kV_is rx) hd dd.mapOf ?_
 rw [← (rel.val k).isSome_eq]
 exact ⟨.bl _,H,I.tok _,rfl,q⟩
def rSetD:TSet:=fun x y v H Q=>∃ a kvs k,x=.ref a∧y=kV k∧H a=some (.dK kvs)∧kvs.length < sizeLine∧Q (L2.upd H a (.dK (putK kvs k v)))
theorem set_dict:PSet X rSetD:=by
 intro pins s σ H o i v ov iv u Q I ro ri rv h
 obtain ⟨a,kvs,k,rfl,rfl,e,l,q⟩:=h
 cases ro
 obtain ⟨z,hd,vs,rel,dd⟩:=dk_of I.hok e
 have hz:vs.length≤sizeLine:=by rw [← rel.length]; exact z
 have hl:(putK kvs k v).length≤sizeLine:=by have:=length_putK kvs k v; omega
 refine wpAny_setItem_pairs (hsz:=hz) (kV_is ri) dd fun h' dd' hs=>⟨_,?_,q⟩
 have he:∃ q,h'.get? a=some q:=let ⟨q,_,_,hq,_⟩:=dd'; ⟨q,hq⟩
 exact d_write I (by rw [e]; exact True.intro) hs he (dk_new hl hd (rel.put k rv) dd')
end
section
variable {prog:Program}{w:World}{A:Around}{E:Value→Shared→Prop}{s:Shared}
theorem extend_of {R:Result→Shared→Prop}{T:String}{d S:Addr}{res:Value}{c₀:Nat}(hTm:T="dict"∨T="set")(hT:s.TypeIs (.ref d) T)(hSd:S≠d)(hit:wpAny (model prog w) A.in1 (pyIter (.ref d)) (fun v s1=>∃ (I:Addr) (fp wr:List Addr) (G:Array GenState→Array GenState→Prop) (n:Nat) (P:Nat→Value→Prop) (St:Nat→Shared→Prop),v=.ref I∧WalksS prog w A.in1 I fp wr G n P St∧St 0 s1∧n≤sizeLine∧S ∉ fp∧s1.TypeIs (.ref d) T ∧
   s1.heap.get? S=some { cls:=.type "list",data:=.seq #[] c₀ }∧∀ s' acc' c',Moved (S::wr) G s1 s'→s'.heap.get? S=some { cls:=.type "list",dict:=none,data:=.seq acc' c',slots:=#[] }→ItemsOf P acc' n→R (.ok (.ret res)) s') (fun e s'=>R (.error e) s') s) :
  wpAny (model prog w) A.in1 (Builtin.List.listExtendWith (.ref S) (.ref d) res)
   (fun fin s'=>match fin with | .done f=>R (.ok f) s' | .again c'=>c'.quiet=true∧codeAny (model prog w) A c' R s') (fun e s'=>R (.error e) s') s:=by
 unfold Builtin.List.listExtendWith
 refine wpAny_bind (wpAny_typeOf hT ?_)
 have h1:Builtin.List.listSameRef (.ref S) (.ref d)=false:=by simp [Builtin.List.listSameRef,hSd]
 have h2:(Value.type T == Value.type "list")=false:=by rcases hTm with rfl | rfl <;> decide
 have h3:(Value.type T == Value.type "tuple")=false:=by rcases hTm with rfl | rfl <;> decide
 simp only [h1,h2,h3,Bool.or_false,Bool.false_eq_true,if_false]
 refine wpAny_bind (wpAny_mono hit (fun v s1 h=>?_) fun _ _ z=>z)
 obtain ⟨I,fp,wr,G,n,P,St,rfl,W,st,hn,hSf,hT1,hS,hR⟩:=h
 have go:wpAny (model prog w) A.in1 (rule "list.extend.makes-room" >>= fun _=>Builtin.List.listTouch (.ref S) >>= fun _=>again (.builtin "list.extend.loop" ⟨[.ref S,.ref I,res],[]⟩))
   (fun fin s'=>match fin with | .done f=>R (.ok f) s' | .again c'=>c'.quiet=true∧codeAny (model prog w) A c' R s') (fun e s'=>R (.error e) s') s1:=by
  refine wpAny_bind (wpAny_rule ?_)
  refine wpAny_bind ?_
  show wpAny _ A.in1 (updateSeq S (·.push .none) >>= fun _=>updateSeq S (·.pop)) _ _ _
  refine wpAny_bind (wpAny_updateSeq hS rfl ?_)
  have hS₂:=Heap.get?_update_self (Obj.mapSeq (·.push Value.none)) hS rfl
  refine wpAny_updateSeq (hz:=by seq_fits) hS₂ rfl ?_
  have hS₃:=Heap.get?_update_self (Obj.mapSeq (·.pop)) hS₂ rfl
  have oth:∀ b o,b≠S→s1.heap.get? b=some o→((s1.heap.update S (Obj.mapSeq (·.push Value.none))).update S (Obj.mapSeq (·.pop))).get? b=some o :=
   fun b o hb e=>(Heap.get?_update_other _ _ (Ne.symm hb)).trans ((Heap.get?_update_other _ _ (Ne.symm hb)).trans e)
  refine wpAny_pure ⟨plainId_quiet PySem.F.plain_extend_loop _,codeAny_extend_loopS W hn _ hSf _ n 0 _ _ _ rfl (Nat.zero_le _)
   (W.frame 0 s1 _ s1.toks st (Nat.le_refl _) fun b hb o e=>oth b o (fun h=>hSf (h ▸ hb)) e) hS₃ (ItemsOf.nil P) fun s' acc' c' hm hS' hacc=>?_⟩
  exact hR s' acc' c' (Moved.trans W.gtrans ((Moved.refl W.grefl).then_heap (Nat.le_refl _) fun b o hb e=>oth b o (fun h=>hb (h ▸ List.mem_cons_self)) e) hm) hS' hacc
 refine wpAny_bind (wpAny_holding ?_)
 unfold Builtin.List.listLengthHint
 rcases hTm with rfl | rfl
 ·refine wpAny_bind (wpAny_specialOf hT1 PySem.F.slot_dict_len.lookup ?_)
  generalize hid:("dict.__len__":String)=id0
  wp_delta
  rw [show splitId id0=some ("dict","__len__") from by subst hid; decide +kernel]
  subst hid
  refine wpAny_bind (wpAny_isInstance (b:=true) hT1 (by rw [isSubtype_type]; kernel_rfl) ?_)
  refine wpAny_ite_split (fun hab=>absurd hab (by decide)) (fun _=>?_)
  refine wpAny_ite_split (fun _=>?_) (fun hab=>absurd (by decide +kernel) hab)
  refine wpAny_bind (wpAny_typeOf hT1 ?_)
  exact wpAny_pure go
 ·refine wpAny_bind (wpAny_specialOf hT1 PySem.F.slot_set_len.lookup ?_)
  generalize hid:("set.__len__":String)=id0
  wp_delta
  rw [show splitId id0=some ("set","__len__") from by subst hid; decide +kernel]
  subst hid
  refine wpAny_bind (wpAny_isInstance (b:=true) hT1 (by rw [isSubtype_type]; kernel_rfl) ?_)
  refine wpAny_ite_split (fun hab=>absurd hab (by decide)) (fun _=>?_)
  refine wpAny_ite_split (fun _=>?_) (fun hab=>absurd (by decide +kernel) hab)
  refine wpAny_bind (wpAny_typeOf hT1 ?_)
  exact wpAny_pure go
end
section
variable {prog:Program}{w:World}{A:Around}{E:Value→Shared→Prop}{s:Shared}{κ:Type} [DecidableEq κ] {knd:KeyKind prog w κ}
abbrev KyAt (knd:KeyKind prog w κ)(kvs:List (κ × Value))(i:Nat)(v:Value):Prop:=∃ k x,kvs[i]?=some (k,x)∧knd.is k v=true
def Fills (prog:Program)(w:World)(A:Around)(T:String)(d S:Addr)(c₀:Nat)(R:Shared→Array Value→Nat→Prop)(v:Value)(s1:Shared):Prop :=
 ∃ (I:Addr) (fp wr:List Addr) (G:Array GenState→Array GenState→Prop) (n:Nat) (P:Nat→Value→Prop) (St:Nat→Shared→Prop),v=.ref I∧WalksS prog w A.in1 I fp wr G n P St∧St 0 s1∧n≤sizeLine∧S ∉ fp∧s1.TypeIs (.ref d) T ∧
   s1.heap.get? S=some { cls:=.type "list",data:=.seq #[] c₀ }∧∀ s' acc' c',Moved (S::wr) G s1 s'→s'.heap.get? S=some { cls:=.type "list",dict:=none,data:=.seq acc' c',slots:=#[] }→ItemsOf P acc' n→R s' acc' c'
theorem iter_dict {d S:Addr}{c₀:Nat}{kvs:List (κ × Value)}{R:Shared→Array Value→Nat→Prop}(hh:A.handled=none)(hd:(d == sysModules)=false)(hm:s.heap.DictOf knd d kvs)(hlen:kvs.length≤sizeLine)(hS:s.heap.get? S=some { cls:=.type "list",data:=.seq #[] c₀ })(hR:∀ h' tk acc' c',(∀ b o,b≠S→s.heap.get? b=some o→h'.get? b=some o)→h'.get? S=some { cls:=.type "list",dict:=none,data:=.seq acc' c',slots:=#[] }→ItemsOf (KyAt knd kvs) acc' kvs.length→R { s with heap:=h',toks:=tk } acc' c') :
  wpAny (model prog w) A.in1 (pyIter (.ref d)) (Fills prog w A "dict" d S c₀ R) E s:=by
 obtain ⟨ep,hm⟩:=hm.dictAt
 have hSd:S≠d:=fun e=>by
  obtain ⟨o,es,ho,hex,hdat,_⟩:=hm
  rw [← e,hS] at ho; cases ho; cases hdat
 have hdI:d≠s.heap.objs.size:=Nat.ne_of_lt hm.lt_size
 have hSI:S≠s.heap.objs.size:=Nat.ne_of_lt (Heap.lt_size hS)
 refine wpAny_pyIter_dict hd hm ?_
 refine ⟨s.heap.objs.size,_,_,_,_,_,_,rfl,(Walks.dictKeys (prog:=prog) (w:=w) (knd:=knd) (A:=A.in1) hh s.heap.objs.size d hdI kvs ep).toS,⟨⟨_,Heap.get?_push_size _ rfl,rfl,rfl⟩,hm.push _⟩,hlen,?_,(hm.push _).dictOf.typeIs,Heap.get?_push_of_some _ hS,fun s' acc' c' hmv hS' hacc=>?_⟩
 ·intro z
  rcases List.mem_cons.mp z with z | z
  ·exact hSI z
  ·exact hSd (List.mem_singleton.mp z)
 ·have e:=Moved.eq_with hmv
  rw [e]
  refine hR s'.heap s'.toks acc' c' (fun b o hb e=>hmv.heap b o (fun hmem=>?_) (Heap.get?_push_of_some _ e)) hS' hacc
  rcases List.mem_cons.mp hmem with e' | hmem
  ·exact hb e'
  ·exact absurd (Heap.lt_size e) (by rw [List.mem_singleton.mp hmem]; exact Nat.lt_irrefl _)
end
section
variable {prog:Program}{w:World}{A:Around}{E:Value→Shared→Prop}{s:Shared}
theorem list_of {Q:Value→Shared→Prop}{T:String}{d:Addr}(hTm:T="dict"∨T="set")(hT:s.TypeIs (.ref d) T)(hd:d < s.heap.objs.size)(hit:∀ (c₀:Nat) (h0:Heap) (E:Value→Shared→Prop),(∀ b o,s.heap.get? b=some o→h0.get? b=some o)→h0.get? s.heap.objs.size=some { cls:=.type "list",data:=.seq #[] c₀ } →
   wpAny (model prog w) A.in1.in1 (pyIter (.ref d)) (Fills prog w A.in1 T d s.heap.objs.size c₀ fun s' acc c=>Q (.ref s.heap.objs.size) s') E { s with heap:=h0 }) :
  wpAny (model prog w) A (call (.type "list") [.ref d]) Q E s:=by
 refine callType_codes (Q₁:=fun obj s₁=>obj=.ref s.heap.objs.size∧s₁={ s with heap:=s.heap.push { cls:=.type "list",data:=.seq #[] } }) PySem.F.called_list (PySem.F.typeCall_list_1 _) PySem.F.entry_list_init
  (code_list_new _ ⟨rfl,rfl⟩) fun obj s₁ h₁=>?_
 obtain ⟨rfl,rfl⟩:=h₁
 have hS:(s.heap.push { cls:=.type "list",data:=.seq #[] }).get? s.heap.objs.size=some { cls:=.type "list",data:=.seq #[] }:=Heap.get?_push_size _ rfl
 refine ⟨⟨_,hS,rfl⟩,PySem.F.args_list_init_2 _ _,?_⟩
 show wpAny _ _ (do let old ← Builtin.List.listItems (.ref s.heap.objs.size); Builtin.List.listUpdate (.ref s.heap.objs.size) (fun _=>#[]); letGo old.toList.reverse; Builtin.List.listExtendWith (.ref s.heap.objs.size) (.ref d) .none) _ _ _
 refine wpAny_bind ?_
 unfold Builtin.List.listItems
 refine wpAny_bind (wpAny_seqItems hS rfl (wpAny_pure ?_))
 show wpAny _ _ (updateSeq s.heap.objs.size (fun _=>#[]) >>= fun _=>letGo (#[]:Array Value).toList.reverse >>= fun _=>Builtin.List.listExtendWith (.ref s.heap.objs.size) (.ref d) .none) _ _ _
 refine wpAny_bind (wpAny_updateSeq hS rfl ?_)
 have hS₂:((s.heap.push { cls:=.type "list",data:=.seq #[] }).update s.heap.objs.size (Obj.mapSeq (fun _=>(#[]:Array Value)))).get? s.heap.objs.size=some { cls:=.type "list",data:=.seq #[] 0 }:=Heap.get?_update_self (Obj.mapSeq (fun _=>(#[]:Array Value))) hS rfl
 have oth:∀ b o,s.heap.get? b=some o→((s.heap.push { cls:=.type "list",data:=.seq #[] }).update s.heap.objs.size (Obj.mapSeq (fun _=>(#[]:Array Value)))).get? b=some o :=
  fun b o e=>(Heap.get?_update_other _ _ (Ne.symm (Nat.ne_of_lt (Heap.lt_size e)))).trans (Heap.get?_push_of_some _ e)
 refine wpAny_bind (wpAny_letGo ?_)
 have hT1:Shared.TypeIs { s with heap:=(s.heap.push { cls:=.type "list",data:=.seq #[] }).update s.heap.objs.size (Obj.mapSeq (fun _=>(#[]:Array Value))) } (.ref d) T:=by
  obtain ⟨o,ho,hc⟩:=hT
  exact ⟨o,oth _ _ ho,hc⟩
 refine extend_of (A:=A.in1) (c₀:=0) hTm hT1 (Nat.ne_of_gt hd) (wpAny_mono (hit 0 _ _ oth hS₂) (fun v s1 h=>?_) fun _ _ z=>z)
 obtain ⟨I,fp,wr,G,n,P,St,e,W,st,hn,hSf,hT2,hS2,hR⟩:=h
 exact ⟨I,fp,wr,G,n,P,St,e,W,st,hn,hSf,hT2,hS2,fun s' acc' c' a b c=>⟨rfl,hR s' acc' c' a b c⟩⟩
theorem iadd_of {R:Result→Shared→Prop}{T:String}{d S:Addr}(hTm:T="dict"∨T="set")(hT:s.TypeIs (.ref d) T)(hd:S≠d)(hit:wpAny (model prog w) A.in1 (pyIter (.ref d)) (Fills prog w A T d S 0 fun s' acc c=>R (.ok (.ret (.ref S))) s') (fun e s'=>R (.error e) s') s):codeAny (model prog w) A (.builtin "list.__iadd__" ⟨[.ref S,.ref d],[]⟩) R s:=by
 refine codeAny_builtin PySem.F.entry_list_iadd ?_
 rw [Around.under_plainId PySem.F.plain_list_iadd _]
 show wpAny _ A.in1 (Builtin.List.listExtendWith (.ref S) (.ref d) (.ref S)) _ _ _
 exact extend_of (c₀:=0) hTm hT hd hit
theorem collect_of {Q:List Value→Shared→Prop}{T:String}{d:Addr}(hTm:T="dict"∨T="set")(hT:s.TypeIs (.ref d) T)(hd:d < s.heap.objs.size)(hit:wpAny (model prog w) A.in1 (pyIter (.ref d)) (Fills prog w A T d s.heap.objs.size 0 fun s' acc c=>s'.heap.get? s.heap.objs.size=some { cls:=.type "list",dict:=none,data:=.seq acc c,slots:=#[] }→Q acc.toList s') E { s with heap:=s.heap.push { cls:=.type "list",data:=.seq #[] } }) :
  wpAny (model prog w) A (collect (.ref d)) Q E s:=by
 unfold collect
 refine wpAny_bind (wpAny_runValue (codeAny_builtin PySem.F.entry_proto_collect ?_))
 rw [Around.under_plainId PySem.F.plain_proto_collect _]
 show wpAny _ A.in1 (newList [] >>= fun l=>again (.builtin "list.__iadd__" ⟨[l,.ref d],[]⟩)) _ _ s
 refine wpAny_bind (wpAny_newObj_type ?_)
 have hT1:Shared.TypeIs { s with heap:=s.heap.push { cls:=.type "list",data:=.seq #[] } } (.ref d) T:=by
  obtain ⟨o,ho,hc⟩:=hT
  exact ⟨o,Heap.get?_push_of_some _ ho,hc⟩
 refine wpAny_pure ⟨plainId_quiet PySem.F.plain_list_iadd _,iadd_of hTm hT1 (Nat.ne_of_gt hd) (wpAny_mono hit (fun v s1 h=>?_) fun _ _ z=>z)⟩
 obtain ⟨I,fp,wr,G,n,P,St,e,W,st,hn,hSf,hT2,hS2,hR⟩:=h
 refine ⟨I,fp,wr,G,n,P,St,e,W,st,hn,hSf,hT2,hS2,fun s' acc' c' a b c=>?_⟩
 show wpAny _ A (load s.heap.objs.size >>= _) _ _ s'
 refine wpAny_bind (wpAny_load b ?_)
 exact wpAny_pure (hR s' acc' c' a b c b)
theorem sorted_by {kw:List (Str × Value)}{x:Value}{ord:List Int→Prop}{Q:Value→Shared→Prop}(ha:argsOk "sorted" ⟨[x],kw⟩)(hal:∀ L:Addr,argsOk "list.sort" ⟨[.ref L],kw⟩)(hsort:∀ (A:Around) (E:Value→Shared→Prop) (s:Shared) (L:Addr) (vs:List Value) (ns:List Int) (P:PySem.Fin→Shared→Prop),s.heap.get? L=some (seqObj "list" vs.toArray 0)→IntsAre vs ns→vs.length < 64 →
   (∀ (out:Array Value) (ns':List Int),IntsAre out.toList ns'→ns'.Perm ns→ord ns'→P (.done (.ret .none)) { s with heap:=sortedHeap s.heap L vs out })→wpAny (model prog w) A (Builtin.«list.sort» ⟨[.ref L],kw⟩) P E s)(hcol:wpAny (model prog w) A.in1 (collect x) (fun vs s1=>∃ ns,IntsAre vs ns∧vs.length < 64∧∀ (L:Addr) (out:Array Value) (ns':List Int) (e:Nat) (h':Heap),s1.heap.objs.size≤L→(∀ b o,s1.heap.get? b=some o→h'.get? b=some o) →
   h'.get? L=some (seqObj "list" out e)→IntsAre out.toList ns'→ns'.Perm ns→ord ns'→Q (.ref L) { s1 with heap:=h' }) E s) :
  wpAny (model prog w) A (call (.builtin "sorted") [x] kw) Q E s:=by
 refine call_function_entry_kw kind_sorted plain_sorted entry_sorted ha ?_
 unfold Builtin.«sorted»
 refine wpAny_bind (m:=checkCount "sorted" 1 1 _) (wpAny_pure ?_)
 refine wpAny_bind (wpAny_mono hcol (fun vs s1 h=>?_) fun _ _ z=>z)
 obtain ⟨ns,hI,h64,hQ⟩:=h
 refine wpAny_bind (wpAny_newList ?_)
 have hoL:(s1.heap.push (seqObj "list" vs.toArray 0)).get? s1.heap.objs.size=some (seqObj "list" vs.toArray 0):=Heap.get?_push_size _ rfl
 refine wpAny_bind (wpAny_holding (wpAny_call_entry_kw slot_list_sort ⟨_,hoL,rfl⟩ entry_list_sort (hsort _ _ _ _ vs ns _ hoL hI h64 fun out ns' a1 a2 a3=>⟨_,rfl,?_⟩) (hal _)))
 obtain ⟨e,he⟩:=sortedHeap_at (out:=out) hoL
 refine wpAny_pure ⟨_,rfl,hQ _ out ns' e _ (Nat.le_refl _) (fun b o q=>?_) he a1 a2 a3⟩
 have lt:=Heap.lt_size q
 exact (sortedHeap_old (Nat.ne_of_lt lt) (by rw [size_push']; exact Nat.lt_succ_of_lt lt)).trans (Heap.get?_push_of_some _ q)
end
theorem rel_key {P:Program}{w:World}{k:Key}{v:Value}(h:(mixKind P w).is k v=true):RelV (kV k) v:=by
 rcases keyIs_shape (show keyIs k v=true from h) with ⟨i,t,rfl,rfl⟩ | ⟨x,t,rfl,rfl⟩
 ·exact ⟨t,rfl⟩
 ·exact ⟨t,rfl⟩
theorem vals_keys {P:Program}{w:World}{kvs:List (Key × V)}{vs:List (Key × Value)}{acc:Array Value}(rel:KV kvs vs)(hI:ItemsOf (KyAt (mixKind P w) vs) acc vs.length):Vals (kvs.map fun kv=>kV kv.1) acc.toList:=by
 have hk:kvs.map (·.1)=vs.map (·.1):=rel.keys
 have e:(kvs.map fun kv=>kV kv.1)=(vs.map (·.1)).map kV:=by rw [← hk,List.map_map]; rfl
 rw [e]
 have la:acc.toList.length=(vs.map (·.1)).length:=by rw [List.length_map,Array.length_toList]; exact hI.1
 have at_:∀ (i:Nat) (v:Value),acc.toList[i]?=some v→∃ k,(vs.map (·.1))[i]?=some k∧RelV (kV k) v:=fun i v e=>by
  obtain ⟨k,x,h1,h2⟩:=hI.2 i v (by simpa using e)
  exact ⟨k,by rw [List.getElem?_map,h1]; rfl,rel_key h2⟩
 generalize vs.map (·.1)=ks at la at_
 generalize acc.toList=us at la at_
 clear e hk
 induction ks generalizing us with
 | nil =>
  have:us=[]:=List.eq_nil_of_length_eq_zero la
  subst this
  exact .nil
 | cons k ks ih =>
  cases us with
  | nil=>simp at la
  | cons u us =>
   obtain ⟨k',h1,h2⟩:=at_ 0 u rfl
   have:k=k':=by simpa using h1
   subst this
   exact .cons h2 (ih us (by simpa using la) fun i v e=>by
    obtain ⟨k',h1,h2⟩:=at_ (i+1) v (by simpa using e)
    exact ⟨k',by simpa using h1,h2⟩)
section
variable {X:Cx}
theorem call_listD (hc:X.calm=true):CallR X (.type "list") (fun xs H Q=>∃ (p:Addr) (kvs:List (Key × V)),xs=[.ref p]∧H p=some (.dK kvs)∧∀ l,H l=none→Q (.ref l) (L2.upd H l (.lst (kvs.map fun kv=>kV kv.1)))):=by
 intro pins s σ H xs us Q I r h
 obtain ⟨p,kvs,rfl,e,q⟩:=h
 obtain ⟨u,rfl,rx⟩:=vals1 r
 cases rx
 obtain ⟨z,hd,vs,rel,dd⟩:=dk_of I.hok e
 have hl:=rel.length
 refine list_of (.inl rfl) dd.typeIs (by obtain ⟨o,_,_,ho,_⟩:=dd; exact Heap.lt_size ho) fun c₀ h0 E k hS=>?_
 have dd0:h0.DictOf (mixKind X.prog X.w) p vs:=by
  obtain ⟨o,es,ep,ho,r⟩:=dd
  exact ⟨o,es,ep,k _ _ ho,r⟩
 refine iter_dict (A:=X.A.in1) (s:={ s with heap:=h0 }) (I.ok.hd hc) hd dd0 (by omega) hS fun h' tk acc' c' hk hS' hacc=>?_
 exact ⟨.ref s.heap.objs.size,_,I.laid (t':=tk) (fun b o e=>hk b o (Nat.ne_of_lt (Heap.lt_size e)) (k b o e)) (Nat.le_refl _) (show ObjOk X.prog X.w _ h' _ (.lst (kvs.map fun kv=>kV kv.1)) from ⟨by rw [List.length_map]; exact z,acc'.toList,c',vals_keys rel hacc,by simpa using hS'⟩),rfl,q _ (I.hok.fresh (Nat.le_refl _))⟩
theorem vals_ints:∀ {ns:List Int}{us:List Value},IntsAre us ns→Vals (ns.map V.int) us:=by
 intro ns us h
 induction h with
 | nil=>exact .nil
 | cons i t h ih=>exact .cons ⟨_,rfl⟩ ih
def rSortR:List V→Hp→VK→Prop:=fun vs H Q=>∃ (a:Addr) (kvs:List (Key × V)) (ks:List Int),vs=[.ref a]∧H a=some (.dK kvs)∧kvs.map (·.1)=ks.map Sum.inl∧kvs.length < 64∧∀ (p:Addr) (ns:List Int),H p=none→ns.Perm ks→ns.Pairwise (· ≥ ·)→Q (.ref p) (L2.upd H p (.lst (ns.map V.int)))
theorem pe_sortR {e:Expr}{te:TA}{p pos kp kq:Pos}{j:Nat}(hc:X.calm=true)(hg:Gl X "sorted")(hm:X.mg "sorted"=none)(he:PA X [e] te)(hs:starEach [e] X.env=[(false,eval e X.env)]:=by rfl) :
  PE X (.Call (.Name "sorted" p) [e] [⟨some "reverse",.Constant (.bool true) j kq,kp⟩] pos) (tCB rSortR te):=by
 intro pins s σ H Q I h
 refine wpAny_Call_Name_kw (ld_blt I hg hm PyProof.Rows.boot_sorted ?_ (by decide) (by decide))
 refine callWith_kw ?_ (by rw [hs]; rfl) (by rw [hs]; rfl) rfl rfl
 refine thn (he pos pins s σ H _ I h) fun us s1 ⟨vs,H1,I1,r1,a,kvs,ks,ex,ea,ek,l64,q⟩=>?_
 subst ex
 obtain ⟨u,rfl,rx⟩:=vals1 r1
 cases rx
 refine kws_cons (Constant_bool (kws_nil ?_))
 show wpAny (model X.prog X.w) X.A (call (.builtin "sorted") [.ref a] [(Str.ofString "reverse",.bool true)]) _ _ s1
 obtain ⟨z,hd,vs,rel,dd⟩:=dk_of I1.hok ea
 have hl:=rel.length
 refine sorted_by (ord:=Ordered true) (args_sorted_rev _ _) (fun L=>args_list_sort_rev _ _) (fun A E s L vs ns P hoL hI h64 hP=>list_sort_tree_rev hoL hI h64 hP) ?_
 refine collect_of (.inl rfl) dd.typeIs (by obtain ⟨o,_,_,ho,_⟩:=dd; exact Heap.lt_size ho) ?_
 have dd0:(s1.heap.push { cls:=.type "list",data:=.seq #[] }).DictOf (mixKind X.prog X.w) a vs:=by
  obtain ⟨o,es,ep,ho,r⟩:=dd
  exact ⟨o,es,ep,Heap.get?_push_of_some _ ho,r⟩
 refine iter_dict (A:=X.A.in1) (s:={ s1 with heap:=s1.heap.push { cls:=.type "list",data:=.seq #[] } }) (I1.ok.hd hc) hd dd0 (by omega) (Heap.get?_push_size _ rfl) fun h' tk acc' c' hk hS' hacc _=>?_
 have rv:=vals_keys rel hacc
 have e1:(kvs.map fun kv=>kV kv.1)=ks.map V.int:=by
  have:(kvs.map fun kv=>kV kv.1)=(kvs.map (·.1)).map kV:=by rw [List.map_map]; rfl
  rw [this,ek,List.map_map]; rfl
 rw [e1] at rv
 have kp:∀ b o,s1.heap.get? b=some o→h'.get? b=some o:=fun b o e=>hk b o (Nat.ne_of_lt (Heap.lt_size e)) (Heap.get?_push_of_some _ e)
 have I2:Inv X pins σ H1 { s1 with heap:=h',toks:=tk }:=I1.kept kp
 refine ⟨ks,intsAre_of rv,by rw [← rv.length,← e1,List.length_map]; exact l64,fun L out ns' e h'' hL k2 hoL hI hp ho=>?_⟩
 have rv2:=vals_ints hI
 have lk:kvs.length=ks.length:=by rw [← List.length_map (f:=fun kv:Key × V=>kV kv.1),e1,List.length_map]
 have lz:(ns'.map V.int).length≤sizeLine:=by rw [List.length_map,hp.length_eq]; omega
 exact ⟨.ref L,_,I2.laid (t':=tk) k2 hL (show ObjOk X.prog X.w _ h'' _ (.lst (ns'.map V.int)) from ⟨lz,out.toList,e,rv2,by simpa using hoL⟩),rfl,q L ns' (I2.hok.fresh hL) hp ho⟩
def rBits:V→List V→Hp→VK→Prop:=fun x vs H Q=>∃ i:Int,x=.int i∧vs=[]∧Q (.int (Builtin.Int.intBits i)) H
theorem mt_bits:MtR X "int.bit_length" rBits:=by
 intro pins s σ H x vs v us Q I rx rv h
 obtain ⟨i,rfl,rfl,q⟩:=h
 obtain ⟨t,rfl⟩:=rx
 have hus:=rv.zero
 subst hus
 exact call_int_bit_length ⟨.int _,H,I.tok _,⟨_,rfl⟩,q⟩
def Ite (K:Frag)(a:Addr):It :=
 ⟨fun i H=>∃ xs x,SqL K H a xs∧xs[i]?=some x,fun i H x H'=>∃ p y,x=.ref p∧H p=none∧H'=L2.upd H p (.tup [.int i,y])∧∀ xs,SqL K H a xs→xs[i]?=some y,fun i H=>∃ xs,SqL K H a xs∧xs.length≤i⟩
theorem turn_new {pins:List (Addr × Obj)}{σ:L2.St}{H:Hp}{s:Shared}{h':Heap}{t':Nat}{e it p:Addr}{o:HO}(I:L2.Inv X pins σ H s)(k:∀ b u,b≠e→b≠it→s.heap.get? b=some u→h'.get? b=some u)(fe:FpOk X pins H e)(fi:FpOk X pins H it)(hp:s.heap.objs.size≤p)(new:ObjOk X.prog X.w (L2.upd H p o) h' p o):L2.Inv X pins σ (L2.upd H p o) { s with heap:=h',toks:=t' }:=by
 have hn:=I.hok.fresh hp
 have nch:∀ b,b ∉ [e,it]→b≠e∧b≠it:=fun b hb=>⟨fun z=>hb (by simp [z]),fun z=>hb (by simp [z])⟩
 have nn:∀ b u,H b=some u→b≠e∧b≠it:=fun b u q=>⟨fun z=>(by rw [z,fe.1] at q; cases q),fun z=>(by rw [z,fi.1] at q; cases q)⟩
 refine I.step (g':=s.gens) (d':=s.drawn) (ch:=[e,it]) (fun b hb=>?_) (fun b o _ _ hc q _=>k b o (nch b hc).1 (nch b hc).2 q) (fun b o _ _ hc q _=>⟨o.slots,k b o (nch b hc).1 (nch b hc).2 q⟩) (fun b u hc q n=>?_)
  (fun b o hc q=>⟨o,k b o (nch b hc).1 (nch b hc).2 q⟩) (fun b xs q=>by rw [upd_ne (ne_of_none q hn)]; exact q) (fun b u xs q=>by rw [upd_ne (ne_of_none q hn)]; exact q) (fun b ps q=>⟨#[],by rw [upd_ne (ne_of_none q hn),q]; simp⟩) (fun m hm=>?_) (fun b u q=>?_) I.bare
 ·rcases List.mem_cons.mp hb with z | z
  ·subst z; exact ⟨fe.2.2.2.1,fe.2.1,fe.2.2.2.2.1,fe.2.2.2.2.2⟩
  ·rw [List.mem_singleton.mp z]; exact ⟨fi.2.2.2.1,fi.2.1,fi.2.2.2.2.1,fi.2.2.2.2.2⟩
 ·rw [upd_ne (Nat.ne_of_lt (Nat.lt_of_lt_of_le (Heap.lt_size q) hp))]; exact n
 ·obtain ⟨o,es,ep,ho,r⟩:=hm
  exact ⟨o,es,ep,k _ o (Ne.symm fe.2.1) (Ne.symm fi.2.1) ho,r⟩
 ·by_cases hb:b=p
  ·subst hb; rw [upd_same] at q; cases q; exact new
  ·rw [upd_ne hb] at q
   refine (I.hok b u q).stay (fun c v hc z=>?_) (fun c z=>by rw [upd_ne (ne_of_none z hn)]; exact z) fun c xs z=>by rw [upd_ne (ne_of_none z hn)]; exact z
   rcases hc with y | y
   ·rw [y] at z ⊢; exact k _ _ (nn b u q).1 (nn b u q).2 z
   ·exact k _ _ (nn c _ y).1 (nn c _ y).2 z
theorem turn_enum {P:Program}{w:World}{K:Frag}{elts:List Expr}{x1:Nat}{pos:Pos}(a it e:Addr)(hne:e≠it) :
  Turn P w K (.Tuple elts x1 pos) (Ite K a) [e,it] e (fun i h=>(∃ old,IsEnum h e it ((i:Nat):Int) old)∧h.IsListIter it a i) where
 mem:=by simp
 obj:=fun i h st b hb=>by
  obtain ⟨⟨old,h1⟩,o,h2,c,d⟩:=st
  rcases List.mem_cons.mp hb with z | z
  ·subst z; exact ⟨_,h1,fun v z=>by cases z⟩
  ·rw [List.mem_singleton.mp z]; exact ⟨o,h2,fun v z=>by rw [d] at z; cases z⟩
 keep:=fun i h h' st k=>⟨by obtain ⟨old,h1⟩:=st.1; exact ⟨old,k e (by simp) _ h1⟩,st.2.at fun o q=>k it (by simp) o q⟩
 item:=by
  intro X hP hw hK hc i pins s σ H E I hf st hg
  subst hP hw hK
  obtain ⟨xs,x,hq,hx⟩:=hg
  obtain ⟨its,rv,p,hz⟩:=I.list hq
  obtain ⟨u,hu,ru⟩:=rv.get hx
  have fe:=hf e (by simp)
  have fi:=hf it (by simp)
  obtain ⟨⟨old,he⟩,hit⟩:=st
  have le:e < s.heap.objs.size:=Heap.lt_size he
  have li:it < s.heap.objs.size:=by obtain ⟨o,q,_⟩:=hit; exact Heap.lt_size q
  refine wpAny_pyNext_enum_item he hit p.isList (x:=u) (by simpa using hu) hne fun h1 he1 hit1 ht1 hz1 hk1=>?_
  refine ⟨_,rfl,wpAny_letOwnedTupleGo_enum he1 fun h2 he2 hs2=>?_⟩
  have hn:=I.hok.fresh (Nat.le_refl s.heap.objs.size)
  have ht2:h2.get? s.heap.objs.size=some { cls:=.type "tuple",data:=.seq #[.int i s.toks,u] }:=(hs2.2 _ (Nat.ne_of_gt le)).trans ht1
  have new:ObjOk X.prog X.w (L2.upd H s.heap.objs.size (.tup [.int i,x])) h2 s.heap.objs.size (.tup [.int i,x]) :=
   ⟨by rw [sizeLine_eq]; simp,[.int i s.toks,u],.cons ⟨_,rfl⟩ (.cons ru .nil),_,ht2,rfl,_,rfl⟩
  have I2:=turn_new (t':=s.toks+1) I (fun b o hbe hbi q=>hs2.extBut b o hbe (hk1 b o hbe hbi q)) fe fi (Nat.le_refl _) new
  refine ⟨.ref s.heap.objs.size,_,I2,rfl,⟨_,x,rfl,hn,rfl,fun ys hy=>by rw [I.list_inj hy hq]; exact hx⟩,⟨⟨u,?_⟩,?_⟩,fun b hb=>?_⟩
  ·have:((i+1:Nat):Int)=(i:Int)+1:=by push_cast; rfl
   rw [this]; exact he2
  ·exact hit1.extBut hs2.extBut (Ne.symm hne)
  ·rcases List.mem_cons.mp hb with z | z
   ·rw [z,upd_ne (Nat.ne_of_lt le)]; exact fe.1
   ·rw [List.mem_singleton.mp z,upd_ne (Nat.ne_of_lt li)]; exact fi.1
 done:=by
  intro X hP hw hK hc i pins s σ H E I hf st hg
  subst hP hw hK
  obtain ⟨xs,hq,hx⟩:=hg
  obtain ⟨its,rv,p,hz⟩:=I.list hq
  obtain ⟨f0,f1,f2,f3,f4,f5⟩:=hf it (by simp)
  have hl:=rv.length
  obtain ⟨⟨old,he⟩,hit⟩:=st
  exact wpAny_pyNext_enum_end (I.ok.hd hc) he hit p.isList (by simp; omega) fun h' eb=>⟨rfl,I.turned (t':=s.toks) (fun b o hb e=>eb b o hb e) f0 f1 f3 f4 f5⟩
 self:=fun _ _ _ _ _ st h=>by
  obtain ⟨⟨old,he⟩,_⟩:=st
  exact wpAny_pyIter_enum he h
def iEnum (K:Frag)(ta:TA):TI:=fun σ H R=>ta σ H fun vs H1=>∃ a,vs=[.ref a]∧(∃ xs,SqL K H1 a xs)∧R (Ite K a) H1
theorem pi_enum {elts:List Expr}{x1:Nat}{tp:Pos}{l:Expr}{tl:TA}{p pos:Pos}(hg:Gl X "enumerate")(hm:X.mg "enumerate"=none)(hl:PA X [l] tl)(hs:starEach [l] X.env=[(false,eval l X.env)]:=by rfl) :
  PI X (.Tuple elts x1 tp) (.Call (.Name "enumerate" p) [l] [] pos) (iEnum X.K tl):=by
 intro pins s σ H R I h
 refine Call_ (ld_blt I hg hm PyProof.Rows.boot_enumerate (PyProof.Rows.callWith_type1 (thn (hl pos pins s σ H _ I h) fun us s1 ⟨vs,H1,I1,r1,a,ev,⟨xs,hq⟩,q⟩=>?_) hs rfl))
 subst ev
 obtain ⟨u,rfl,rx⟩:=vals1 r1
 cases rx
 obtain ⟨its,rv,pl,hz⟩:=I1.list hq
 refine call_enumerate_list pl.isList fun h' he hit hsz hk=>?_
 have I2:L2.Inv X pins σ H1 { s1 with heap:=h' }:=I1.kept (t':=s1.toks) hk
 refine wpAny_pyIter_enum he ⟨s1.heap.objs.size+1,[s1.heap.objs.size+1,s1.heap.objs.size],_,_,H1,rfl,I2,turn_enum a s1.heap.objs.size (s1.heap.objs.size+1) (Nat.succ_ne_self _),⟨⟨_,he⟩,hit⟩,fun b hb=>?_,q⟩
 rcases List.mem_cons.mp hb with z | z
 ·subst z; exact I1.fpOk (Nat.le_succ _) (I1.hok.fresh (Nat.le_succ _))
 ·rw [List.mem_singleton.mp z]; exact I1.fpOk (Nat.le_refl _) (I1.hok.fresh (Nat.le_refl _))
end
def Rise (xs:Array Nat):Prop:=∀ (i k a b:Nat),i < k→xs[i]?=some a→xs[k]?=some b→a < b
theorem rise_of {xs:Array Nat}(h:xs.toList.Pairwise (· < ·)):Rise xs:=fun i k a b hik ha hb=>by
 rw [← Array.getElem?_toList] at ha hb
 obtain ⟨hi,rfl⟩:=List.getElem?_eq_some_iff.mp ha
 obtain ⟨hk,rfl⟩:=List.getElem?_eq_some_iff.mp hb
 exact List.pairwise_iff_getElem.mp h i k hi hk hik
theorem Rise.list {xs:Array Nat}(h:Rise xs):xs.toList.Pairwise (· < ·):=List.pairwise_iff_getElem.mpr fun i k hi hk hik =>
 h i k _ _ hik (by rw [← Array.getElem?_toList]; exact List.getElem?_eq_getElem hi) (by rw [← Array.getElem?_toList]; exact List.getElem?_eq_getElem hk)
theorem below_go (xs:Array Nat)(j:Nat)(R:Rise xs):∀ (fuel lo hi:Nat),hi - lo≤fuel→lo≤hi→hi≤xs.size→(∀ i y,i < lo→xs[i]?=some y→y < j)→(∀ i y,hi≤i→xs[i]?=some y→j≤y) →
  SetTable.below.go xs j fuel lo hi≤xs.size∧(∀ i y,i < SetTable.below.go xs j fuel lo hi→xs[i]?=some y→y < j)∧∀ i y,SetTable.below.go xs j fuel lo hi≤i→xs[i]?=some y→j≤y
 | 0,lo,hi,hf,hlh,hhs,h1,h2=>by
  have e:lo=hi:=by omega
  subst e
  exact ⟨hhs,h1,h2⟩
 | fuel+1,lo,hi,hf,hlh,hhs,h1,h2=>by
  unfold SetTable.below.go
  by_cases h:lo < hi
  ·rw [if_pos h]
   dsimp only
   have hm:(lo+hi) / 2 < xs.size:=by omega
   have em:xs[(lo+hi) / 2]?=some xs[(lo+hi) / 2]:=Array.getElem?_eq_getElem hm
   have eg:xs.getD ((lo+hi) / 2) j=xs[(lo+hi) / 2]:=by simp [Array.getD,hm]
   rw [eg]
   by_cases hl:xs[(lo+hi) / 2] < j
   ·rw [if_pos hl]
    refine below_go xs j R fuel _ _ (by omega) (by omega) hhs (fun i y hi' e=>?_) h2
    by_cases hi2:i=(lo+hi) / 2
    ·subst hi2; rw [em] at e; cases e; exact hl
    ·exact Nat.lt_trans (R i _ _ _ (by omega) e em) hl
   ·rw [if_neg hl]
    refine below_go xs j R fuel _ _ (by omega) (by omega) (by omega) h1 (fun i y hi' e=>?_)
    by_cases hi2:i=(lo+hi) / 2
    ·subst hi2; rw [em] at e; cases e; omega
    ·have:=R _ i _ _ (by omega) em e
     omega
  ·rw [if_neg h]
   have e:lo=hi:=by omega
   subst e
   exact ⟨hhs,h1,h2⟩
theorem below_at {xs:Array Nat}(R:Rise xs)(j:Nat):SetTable.below xs j≤xs.size∧(∀ i y,i < SetTable.below xs j→xs[i]?=some y→y < j)∧∀ i y,SetTable.below xs j≤i→xs[i]?=some y→j≤y :=
 below_go xs j R _ _ _ (by omega) (Nat.zero_le _) (Nat.le_refl _) (fun i y h=>absurd h (Nat.not_lt_zero _)) (fun i y h e=>by rw [Array.getElem?_eq_none h] at e; cases e)
theorem rise_put {xs:Array Nat}(R:Rise xs){j:Nat}(hn:xs[SetTable.below xs j]?≠some j):Rise (SetTable.insertAt xs (SetTable.below xs j) j):=by
 obtain ⟨hb,h1,h2⟩:=below_at R j
 refine rise_of ?_
 rw [SetTable.toList_insertAt]
 have P:=R.list
 have Pt:=P.sublist (List.take_sublist (SetTable.below xs j) _)
 have Pd:=P.sublist (List.drop_sublist (SetTable.below xs j) _)
 have lt1:∀ y∈xs.toList.take (SetTable.below xs j),y < j:=fun y hy=>by
  obtain ⟨i,hi⟩:=List.getElem?_of_mem hy
  rw [List.getElem?_take] at hi
  split at hi
  ·exact h1 i y (by assumption) (by rw [← Array.getElem?_toList]; exact hi)
  ·cases hi
 have lt2:∀ y∈xs.toList.drop (SetTable.below xs j),j < y:=fun y hy=>by
  obtain ⟨i,hi⟩:=List.getElem?_of_mem hy
  rw [List.getElem?_drop,Array.getElem?_toList] at hi
  have le:=h2 _ y (Nat.le_add_right _ i) hi
  rcases Nat.lt_or_eq_of_le le with h | h
  ·exact h
  ·subst h
   exfalso
   cases i with
   | zero=>exact hn hi
   | succ i =>
    have hz:xs[SetTable.below xs j]?=some (xs.getD (SetTable.below xs j) 0):=by
     have hs:=(Array.getElem?_eq_some_iff.mp hi).1
     have hs':SetTable.below xs j < xs.size:=by omega
     rw [Array.getElem?_eq_getElem hs']; simp [Array.getD,hs']
    have a1:=R _ _ _ _ (by omega) hz hi
    have a2:=h2 _ _ (Nat.le_refl _) hz
    omega
 refine List.pairwise_append.mpr ⟨Pt,List.pairwise_cons.mpr ⟨lt2,Pd⟩,fun a ha b hb=>?_⟩
 rcases List.mem_cons.mp hb with rfl | hb
 ·exact lt1 a ha
 ·exact Nat.lt_trans (lt1 a ha) (lt2 b hb)
theorem slot_not {t:SetTable}{j:Nat}(h:∀ i,t.slot j≠.live i):t.place[SetTable.below t.place j]?≠some j:=fun e=>by
 refine h (SetTable.below t.place j) ?_
 unfold SetTable.slot
 simp [e]
theorem probe_go (t:SetTable)(f:Nat→Int)(h:Int):∀ (fuel:Nat) (p:SetTable.Probe) (j:Nat) (d:Option Nat),SetTable.probe.go t f h fuel p=some (.empty j d)→t.slot j=.empty∧∀ x,d=some x→p.dummy=some x∨t.slot x=.dummy
 | 0,p,j,d,e=>by unfold SetTable.probe.go at e; cases e
 | fuel+1,p,j,d,e=>by
  unfold SetTable.probe.go at e
  have adv:∀ q:SetTable.Probe,(t.advance q).dummy=q.dummy:=fun q=>by unfold SetTable.advance; split <;> rfl
  cases hs:t.slot p.j with
  | empty =>
   rw [hs] at e
   simp only [Option.some.injEq,SetTable.Met.empty.injEq] at e
   obtain ⟨rfl,rfl⟩:=e
   exact ⟨hs,fun x z=>.inl z⟩
  | dummy =>
   rw [hs] at e
   obtain ⟨a,b⟩:=probe_go t f h fuel _ j d e
   refine ⟨a,fun x z=>?_⟩
   rcases b x z with b | b
   ·rw [adv] at b
    simp only [Option.some.injEq] at b
    subst b
    exact .inr hs
   ·exact .inr b
  | live i =>
   rw [hs] at e
   dsimp only at e
   split at e
   ·cases e
   ·obtain ⟨a,b⟩:=probe_go t f h fuel _ j d e
    exact ⟨a,fun x z=>(b x z).imp (fun q=>by rw [adv] at q; exact q) id⟩
theorem free_not {t:SetTable}{h:Int}{j:Nat}{b:Bool}(e:t.freeSlot h=some (j,b)):t.place[SetTable.below t.place j]?≠some j:=by
 unfold SetTable.freeSlot SetTable.probe at e
 split at e
 ·rename_i j' d hp
  obtain ⟨h1,h2⟩:=probe_go _ _ _ _ _ _ _ hp
  simp only [Option.some.injEq,Prod.mk.injEq] at e
  obtain ⟨e,_⟩:=e
  refine slot_not fun i z=>?_
  cases d with
  | none =>
   have:j'=j:=e
   rw [← this,h1] at z; cases z
  | some x =>
   have:x=j:=e
   rcases h2 x rfl with q | q
   ·unfold SetTable.probeStart at q; cases q
   ·rw [← this,q] at z; cases z
 ·cases e
theorem rise_range (n:Nat):Rise (Array.range n):=rise_of (by rw [Array.toList_range]; exact List.pairwise_lt_range)
def Lay (b:Bool)(t:SetTable):Prop:=t.led=b∧Rise t.place
theorem Lay.standIn {b:Bool}{t:SetTable}(h:Lay b t)(n:Nat):Lay b (t.standIn n):=⟨h.1,rise_range n⟩
theorem Lay.off {b:Bool}{t:SetTable}(h:Lay b t):Lay b { t with plain:=false }:=h
theorem Lay.or {b:Bool}{t:SetTable}(h:Lay b t)(n:Nat):Lay b (t.orStandIn n):=by
 unfold SetTable.orStandIn
 split
 ·exact h
 ·exact h.standIn _
theorem lay_new {b:Bool}{t:SetTable}(L:Lay b t)(es:Array (Int × Value))(h:Int)(x:Value):Lay b (layNew t es h x).2.1:=by
 unfold layNew
 split
 ·rename_i slot wd hf
  dsimp only [SetTable.put]
  have Lp:Lay b ⟨t.mask,SetTable.insertAt t.place (SetTable.below t.place slot) slot,if SetTable.has t.dummies slot=true then SetTable.eraseAt t.dummies (SetTable.below t.dummies slot) else t.dummies,t.finger,t.led,t.moves,t.plain⟩:=⟨L.1,rise_put L.2 (free_not hf)⟩
  exact Lp.or _
 ·exact L.standIn _
theorem lay_all {b:Bool}{t:SetTable}(L:Lay b t)(es:Array (Int × Value))(n:Nat):Lay b (relayAll t es n).2.1:=by
 unfold relayAll
 split
 ·rename_i t' order hr
  dsimp only
  split
  ·show Lay b t'
   unfold SetTable.relaid SetTable.laid at hr
   cases ho:SetTable.layClean (SetTable.sizeAbove n - 1) (es.map (·.1)) with
   | none=>rw [ho] at hr; cases hr
   | some owner =>
    rw [ho] at hr
    simp only [Option.pure_def,Option.bind_eq_bind,Option.bind_some,Option.some.injEq,Prod.mk.injEq] at hr
    obtain ⟨rfl,_⟩:=hr
    refine ⟨L.1,rise_of ?_⟩
    dsimp only
    rw [List.map_filterMap]
    have sub:∀ l:List Nat,(List.filterMap (fun x=>Option.map (·.1) (Option.map (fun y=>(x,y)) (owner.getD x none))) l).Sublist l:=fun l=>by
     induction l with
     | nil=>exact .slnil
     | cons a l ih =>
      cases hg:owner.getD a none with
      | none=>rw [List.filterMap_cons_none (by rw [hg]; rfl)]; exact ih.cons _
      | some y=>rw [List.filterMap_cons_some (by rw [hg]; rfl)]; exact ih.cons₂ _
    exact (List.pairwise_lt_range).sublist (sub _)
  ·exact L.standIn _
 ·exact L.standIn _
def ledOf (w:World):Bool:=!w.params.followText "set-order"
def SetR (P:Program)(w:World)(h:Heap)(a:Addr)(M:Int→Prop)(n:Nat):Prop :=
 ∃ o es ep t,h.get? a=some o∧o.ExactSet∧o.data=.set es ep t∧ElemsOf (intKind P w) es.toList∧(∀ e∈es.toList,∃ i tk,e.2=.int i tk∧M i)∧es.size≤n∧es.size < scanBound∧t.fits es.size=true∧Lay (ledOf w) t
theorem SetR.at {P:Program}{w:World}{h h':Heap}{a:Addr}{M:Int→Prop}{n:Nat}(z:SetR P w h a M n)(k:∀ o,h.get? a=some o→h'.get? a=some o):SetR P w h' a M n:=by
 obtain ⟨o,es,ep,t,ho,r⟩:=z
 exact ⟨o,es,ep,t,k o ho,r⟩
section
variable {prog:Program}{w:World}{A:Around}{E:Value→Shared→Prop}{s:Shared}
theorem setR_store {h:Heap}{a:Addr}{o:Obj}{es:Array (Int × Value)}{ep:Nat}{t:SetTable}(ho:h.get? a=some o)(hex:o.ExactSet)(hd:o.data=.set es ep t){es':Array (Int × Value)}{t':SetTable}{M:Int→Prop}{n:Nat}(hel:ElemsOf (intKind prog w) es'.toList)(hm:∀ e∈es'.toList,∃ i tk,e.2=.int i tk∧M i)(hn:es'.size≤n)(hb:es'.size < scanBound)(hf:t'.fits es'.size=true)(L:Lay (ledOf w) t') :
  (h.update a (Obj.putSet es' t')).get? a=some { o with data:=.set es' (ep+1) t' }∧SetR prog w (h.update a (Obj.putSet es' t')) a M n:=by
 have hg:(h.update a (Obj.putSet es' t')).get? a=some { o with data:=.set es' (ep+1) t' }:=by
  have:=Heap.get?_update_self (Obj.putSet es' t') ho (by rw [putSet_of es' t' hd]; rfl)
  rw [putSet_of es' t' hd] at this; exact this
 exact ⟨hg,_,es',ep+1,t',hg,hex,rfl,hel,hm,hn,hb,hf,L⟩
theorem add_tail {g:Bool→Sem Unit}(hg:∀ (b:Bool) (s₁:Shared) (Q':Unit→Shared→Prop),Q' () s₁→wpAny (model prog w) A (g b) Q' E s₁){a:Addr}{o:Obj}{es:Array (Int × Value)}{ep:Nat}{t:SetTable}(ho:s.heap.get? a=some o)(hex:o.ExactSet)(hd:o.data=.set es ep t){es1:Array (Int × Value)}{t2:SetTable}{M:Int→Prop}{n:Nat}(hel1:ElemsOf (intKind prog w) es1.toList)(hm1:∀ e∈es1.toList,∃ i tk,e.2=.int i tk∧M i)(hn1:es1.size≤n)(hb1:es1.size < scanBound)(hf2:t2.fits es1.size=true)(L2:Lay (ledOf w) t2){wasDummy:Bool}{R:Option Bool→Shared→Prop}(h:∀ h',Heap.SameBut a s.heap h'→SetR prog w h' a M n→R (some true) { s with heap:=h' }) :
  wpAny (model prog w) A (do
    storeSet a es1 t2
    if (!wasDummy && t2.tooFull)=true then do
      g (relayAll t2 es1 (SetTable.grown es1.size)).2.2
      storeSet a (relayAll t2 es1 (SetTable.grown es1.size)).1 (relayAll t2 es1 (SetTable.grown es1.size)).2.1
      pure (some true)
     else pure (some true)) R E s:=by
 refine wpAny_bind (wpAny_storeSet_of ho hd ?_ (fits_of_scanBound hb1))
 obtain ⟨ho1,hS1⟩:=setR_store (prog:=prog) (w:=w) ho hex hd hel1 hm1 hn1 hb1 hf2 L2
 have hsb1:=Heap.SameBut.update s.heap a (Obj.putSet es1 t2)
 split
 ·have hp:=relayAll_perm t2 es1 (SetTable.grown es1.size)
  have hfr:=relayAll_fits t2 es1 (SetTable.grown es1.size)
  have hlr:=lay_all L2 es1 (SetTable.grown es1.size)
  generalize hRl:relayAll t2 es1 (SetTable.grown es1.size)=Rl at hp hfr hlr ⊢
  obtain ⟨es2,t3,gave2⟩:=Rl
  dsimp only at hp hfr hlr ⊢
  have hel2:ElemsOf (intKind prog w) es2.toList:=hel1.perm hp
  have hm2:∀ e∈es2.toList,∃ i tk,e.2=.int i tk∧M i:=fun e he=>hm1 e (hp.mem_iff.mp he)
  have hsz:es2.size=es1.size:=by rw [← Array.length_toList,hp.length_eq,Array.length_toList]
  have hb2:es2.size < scanBound:=by rw [hsz]; exact hb1
  refine wpAny_bind (hg _ _ _ ?_)
  refine wpAny_bind (wpAny_storeSet_of ho1 rfl ?_ (fits_of_scanBound hb2))
  obtain ⟨_,hS2⟩:=setR_store (prog:=prog) (w:=w) ho1 hex rfl hel2 hm2 (by rw [hsz]; exact hn1) hb2 hfr hlr
  exact wpAny_pure (h _ (hsb1.trans (Heap.SameBut.update _ a _)) hS2)
 ·exact wpAny_pure (h _ hsb1 hS1)
theorem setR_add {a:Addr}{M:Int→Prop}{n:Nat}{k:Int}{tk:Tok}{Q:Bool→Shared→Prop}(hS:SetR prog w s.heap a M n)(hk:M k)(hroom:n+1 < scanBound)(h:∀ b h',Heap.SameBut a s.heap h'→SetR prog w h' a M (n+1)→Q b { s with heap:=h' }):wpAny (model prog w) A (setAddHashed a (.int k tk) ((intKind prog w).hash k)) Q E s:=by
 obtain ⟨o,es,ep,t,ho,hex,hd,hel,hm,hn,hb,hf,L⟩:=hS
 have hkey:(intKind prog w).is k (.int k tk)=true:=intKind_is _ _ _ _
 have hsc:(Value.int k tk).scannable=true:=rfl
 have hb1:es.size+1 < scanBound:=by omega
 unfold setAddHashed setAddHashedIn
 refine wpAny_holding (wpAny_bind (wpAny_setState_of ho hd hf ?_))
 dsimp only
 rw [byScan_of hsc hb hel]
 simp only [↓reduceIte]
 unfold setAddByScan
 refine wpAny_bind ?_
 refine wpAny_bind (wpAny_rule ?_)
 refine wpAny_bind (wpAny_setScan_of hkey ho hd hf hel ?_)
 cases hr:List.findIdx? (fun e=>(intKind prog w).is k e.2) es.toList with
 | some j =>
  dsimp only
  refine wpAny_pure (wpAny_pure ?_)
  have e:s={ s with heap:=s.heap }:=by cases s; rfl
  rw [e]
  exact h _ s.heap (Heap.SameBut.refl a s.heap) ⟨o,es,ep,t,ho,hex,hd,hel,hm,by omega,hb,hf,L⟩
 | none =>
  dsimp only
  have hgw:∀ (b:Bool) {s₁:Shared}{Q':Unit→Shared→Prop},Q' () s₁→wpAny (model prog w) A (match b with | true=>rule "set.scan.the-table-gave-way" | false=>pure ()) Q' E s₁ :=
   fun b s₁ Q' hq=>by cases b <;> first | exact wpAny_pure hq | exact wpAny_rule hq
  have hperm:=layNew_perm t es ((intKind prog w).hash k) (.int k tk)
  have hfits:=layNew_fits t es ((intKind prog w).hash k) (.int k tk)
  have hlay:=lay_new L es ((intKind prog w).hash k) (.int k tk)
  generalize hL:layNew t es ((intKind prog w).hash k) (.int k tk)=Ln at hperm hfits hlay ⊢
  obtain ⟨es1,t1,wasDummy,gave⟩:=Ln
  dsimp only at hperm hfits hlay ⊢
  rw [Array.toList_push] at hperm
  have hel1:ElemsOf (intKind prog w) es1.toList:=(hel.push hkey hsc).perm hperm
  have hm1:∀ e∈es1.toList,∃ i tk,e.2=.int i tk∧M i:=fun e he=>by
   rcases List.mem_append.mp (hperm.mem_iff.mp he) with he | he
   ·exact hm e he
   ·rw [List.mem_singleton] at he; subst he; exact ⟨k,tk,rfl,hk⟩
  have hsz1:es1.size=es.size+1:=by rw [← Array.length_toList,hperm.length_eq,List.length_append,Array.length_toList]; rfl
  have hb1':es1.size < scanBound:=by omega
  refine wpAny_bind (hgw _ ?_)
  split
  ·refine wpAny_bind ?_
   rw [hashByValue_scannable 8 hsc]
   refine wpAny_pure ?_
   refine add_tail (n:=n+1) ?_ ho hex hd hel1 hm1 (by omega) hb1' ?_ ?_ ?_
   ·intro b s₁ Q' hq; cases b <;> first | exact wpAny_pure hq | exact wpAny_rule hq
   ·split
    ·exact hfits
    ·exact SetTable.fits_plain_off hfits
   ·split
    ·exact hlay
    ·exact hlay.off
   ·intro h' hsb hS'; dsimp only; exact wpAny_pure (h _ h' hsb hS')
  ·refine wpAny_bind (wpAny_pure ?_)
   simp only [↓reduceIte]
   refine add_tail (n:=n+1) ?_ ho hex hd hel1 hm1 (by omega) hb1' hfits hlay ?_
   ·intro b s₁ Q' hq; cases b <;> first | exact wpAny_pure hq | exact wpAny_rule hq
   ·intro h' hsb hS'; dsimp only; exact wpAny_pure (h _ h' hsb hS')
end
section
variable {prog:Program}{w:World}{A:Around}{R:Result→Shared→Prop}{I:Addr}{fp wr:List Addr}{G:Array GenState→Array GenState→Prop}{P:Nat→Value→Prop}{St:Nat→Shared→Prop}
theorem setLoopR {l:List Int}{M:Int→Prop}(hM:∀ x∈l,M x)(W:WalksS prog w A.in1 I fp wr G l.length P St)(S:Addr)(hS0:S ∉ fp)(hv:∀ i v,P i v→∃ t,v=.int (l.getD i 0) t)(hb:l.length+1 < scanBound):∀ (k i:Nat) (s:Shared) (q:∀ s',Moved (S::wr) G s s'→SetR prog w s'.heap S M l.length→R (.ok (.ret .none)) s'),
   l.length - i=k→i≤l.length→St i s→SetR prog w s.heap S M i →
   codeAny (model prog w) A (.builtin "set.update.loop" ⟨[.ref S,.ref I],[]⟩) R s:=by
 have nw:S ∉ wr:=fun h=>hS0 (W.sub _ h)
 have up:∀ b∈wr,b∈S::wr:=fun b hb=>List.mem_cons_of_mem _ hb
 have move:∀ {s s':Shared}{n:Nat},Moved wr G s s'→SetR prog w s.heap S M n→SetR prog w s'.heap S M n:=fun hm z=>z.at fun o e=>hm.heap S _ nw e
 intro k
 induction k with
 | zero =>
  intro i s q hk hi hst z
  have e:i=l.length:=by omega
  subst e
  refine codeAny_builtin PyProof.Rows.F.entry_set_update_loop ?_
  rw [Around.under_plainId PyProof.Rows.F.plain_set_update_loop _]; show wpAny _ A.in1 (pyNext (.ref I) >>= _) _ _ s
  refine wpAny_bind (W.done s _ _ hst fun s' hm=>?_)
  show wpAny _ A.in1 (ret Value.none) _ _ s'; exact wpAny_pure (q s' (hm.mono up) (move hm z))
 | succ k ih =>
  intro i s q hk hi hst z
  have lt:i < l.length:=by omega
  refine codeAny_builtin PyProof.Rows.F.entry_set_update_loop ?_
  rw [Around.under_plainId PyProof.Rows.F.plain_set_update_loop _]; show wpAny _ A.in1 (pyNext (.ref I) >>= _) _ _ s
  refine wpAny_bind (W.item i s _ _ lt hst fun v s' hP hst' hm=>?_)
  obtain ⟨t,rfl⟩:=hv i v hP
  have z':=move hm z
  show wpAny _ A.in1 (holding [Value.int (l.getD i 0) t] (setAdd S (.int (l.getD i 0) t)) >>= _) _ _ s'
  refine wpAny_bind (wpAny_holding ?_); unfold setAdd
  refine wpAny_holding (wpAny_bind ((intKind prog w).pyHash (k:=l.getD i 0) (intKind_is _ _ _ _) ?_))
  have mi:M (l.getD i 0):=hM _ (by rw [List.getD_eq_getElem?_getD,List.getElem?_eq_getElem lt]; exact List.getElem_mem lt)
  refine setR_add (s:={ s' with toks:=s'.toks+1 }) z' mi (by omega) fun b h' sb z3=>?_
  refine wpAny_pure ⟨plainId_quiet PyProof.Rows.F.plain_set_update_loop _,ih (i+1) _ (fun s'' hm'' z4=>?_) (by omega) lt (W.frame _ s' _ _ hst' (Nat.le_succ _) fun b hb o e=>?_) z3⟩
  ·refine q s'' (Moved.trans W.gtrans ((hm.mono up).then_heap (Nat.le_succ _) fun b o hb e=>?_) hm'') z4
   rw [sb.2 b (fun h:b=S=>hb (by rw [h]; exact List.mem_cons_self))]; exact e
  ·rw [sb.2 b (fun h:b=S=>hS0 (by rw [← h]; exact hb))]; exact e
end
theorem hasI {its:List Value}{l:List Int}(h:Vals (l.map V.int) its)(i:Nat)(v:Value)(e:its[i]?=some v):∃ t,v=.int (l.getD i 0) t:=by
 induction l generalizing its i with
 | nil=>cases h; simp at e
 | cons x l ih =>
  cases h with
  | cons r1 r2 =>
   cases i with
   | zero =>
    obtain ⟨t,rfl⟩:=r1
    have:v=.int x t:=by simpa using e.symm
    exact ⟨t,by rw [this]; rfl⟩
   | succ i=>exact ih r2 i (by simpa using e)
section
variable {prog:Program}{w:World}{A:Around}{E:Value→Shared→Prop}{s:Shared}
theorem set_newR (a:Value){Q₁:Value→Shared→Prop}(h:Q₁ (.ref s.heap.objs.size) { s with heap:=s.heap.push (freshSet (ledOf w)) }) :
  codeAny (model prog w) A (.call (.builtin "set.__new__") ⟨[.type "set",a],[]⟩) (wants Q₁ E) s:=by
 refine codeAny_of_tree ?_
 show wpAny _ A.in1 (do checkBuiltinCall "set.__new__" ⟨[.type "set",a],[]⟩; again (.builtin "set.__new__" ⟨[.type "set",a],[]⟩)) _ _ s
 refine wpAny_bind (wpAny_of_eq (PySem.F.newCall_set_1 a) (wpAny_pure ⟨plainId_quiet PySem.F.plain_set_new _,codeAny_builtin PySem.F.entry_set_new ?_⟩))
 rw [Around.under_plainId PySem.F.plain_set_new _]
 unfold Builtin.«set.__new__» Builtin.Frozenset.newClass
 have hsub:=sub_set_self
 obtain ⟨hp,g,d,tk,os⟩:=s
 dsimp only
 wp_walk
 refine wpAny_askSetting (wpAny_pure ?_)
 dsimp only
 simp only [newObj]
 refine wpAny_bind (wpAny_alloc (wpAny_pure ?_))
 exact wpAny_pure h
end
section
variable {prog:Program}{w:World}{A:Around}{E:Value→Shared→Prop}{s:Shared}
set_option maxHeartbeats 4000000 in
theorem callSetR {a:Addr}{its:List Value}{l:List Int}{M:Int→Prop}{Q:Value→Shared→Prop}(hM:∀ x∈l,M x)(hh:A.handled=none)(hl:s.heap.IsList a its.toArray)(hv:Vals (l.map V.int) its)(hb:l.length+1 < scanBound)(q:∀ (h':Heap) (tk:Nat),SetR prog w h' s.heap.objs.size M l.length→(∀ b o,s.heap.get? b=some o→h'.get? b=some o)→Q (.ref s.heap.objs.size) { s with heap:=h',toks:=tk }) :
  wpAny (model prog w) A (call (.type "set") [.ref a]) Q E s:=by
 have hn:its.toArray.size=l.length:=by have:=hv.length; rw [List.length_map] at this; simpa using this.symm
 obtain ⟨c,tl,hmro⟩:=PySem.F.called_set.mro
 have hmade:=PySem.F.called_set.made; have hsub:=PySem.F.called_set.sub
 refine wpAny_call (codeAny_of_tree ?_); show wpAny _ _ (callAny (.type "set") _) _ _ _
 refine wpAny_pure ⟨Code.quiet_builtin _ (by decide +kernel),codeAny_builtin PySem.F.entry_type_call ?_⟩
 rw [Around.under_plain (weight_type_call_type "set" [.ref a] []) rfl]
 have h1:=PySem.F.called_set.notType; have h2:=PySem.F.called_set.canCreate
 have hct:=PySem.F.typeCall_set_1 (.ref a)
 repeat (any_goals (first | assumption | wp_step))
 refine codeAny_mono (set_newR (.ref a) (E:=E) (Q₁:=fun obj s₁=>∃ led:Bool,led=ledOf w∧obj=.ref s.heap.objs.size∧s₁={ s with heap:=s.heap.push (freshSet led) }) ⟨_,rfl,rfl,rfl⟩) fun r s₁ hr=>?_
 match r,hr with
 | .error e,hr=>exact hr
 | .ok (.ret obj),hr =>
  obtain ⟨led,hled,rfl,rfl⟩:=hr
  have hS:(s.heap.push (freshSet led)).get? s.heap.objs.size=some (freshSet led):=Heap.get?_push_size _ rfl
  have hT:Shared.TypeIs { s with heap:=s.heap.push (freshSet led) } (.ref s.heap.objs.size) "set":=⟨_,hS,rfl⟩
  have hli:=PySem.F.called_set.init.lookup; have hbi:=PySem.F.called_set.init.bind (.ref s.heap.objs.size)
  repeat (any_goals (first | assumption | wp_step))
  refine codeAny_mono (codeAny_call_builtin (R:=wants (fun r s₂=>r=.none∧∃ h' tk,s₂={ s with heap:=h',toks:=tk }∧SetR prog w h' s.heap.objs.size M l.length ∧
    (∀ b o,s.heap.get? b=some o→h'.get? b=some o)) E) PySem.F.called_set.init.plain PySem.F.entry_set_init (PySem.check_set_init_1 hT ?_)) fun r₂ s₂ hr₂=>?_
  ·obtain ⟨⟨oc,od,odt,osl⟩,hol,hcl,nl,hdl⟩:=hl
   simp only at hcl hdl; subst hcl; subst hdl
   have hol':(s.heap.push (freshSet led)).get? a=some { cls:=.type "list",dict:=od,data:=.seq its.toArray nl,slots:=osl }:=Heap.get?_push_of_some _ hol
   have n1:=PySem.F.sub_list_set; have n2:=PySem.F.sub_list_frozenset
   have n3:(Value.type "list" == Value.type "dict")=false:=by decide
   have hl1:(s.heap.push (freshSet led)).IsList a its.toArray:=⟨_,hol',rfl,nl,rfl⟩
   unfold Builtin.«set.__init__» noKeywords Builtin.Frozenset.updateFrom
   generalize hPI:pyIter=PI
   wp_walk
   subst hPI
   refine wpAny_pyIter_list hl1 (wpAny_bind (wpAny_runValue ?_))
   have lt:a < s.heap.objs.size:=Heap.lt_size hol
   have hh3:A.in1.in1.in1.handled=none:=by simp [hh]
   have ne1:a≠(s.heap.push (freshSet led)).objs.size:=by rw [Heap.size_push]; exact Nat.ne_of_lt (Nat.lt_succ_of_lt lt)
   have ne2:s.heap.objs.size ∉ [(s.heap.push (freshSet led)).objs.size,a]:=by
    rw [Heap.size_push]; intro z
    rcases List.mem_cons.mp z with z | z
    ·exact absurd z (Nat.ne_of_lt (Nat.lt_succ_self _))
    ·exact absurd (List.mem_singleton.mp z) (Nat.ne_of_gt lt)
   have W:=(Walks.list (prog:=prog) (w:=w) hh3 _ a ne1 its.toArray).toS
   rw [hn] at W
   refine setLoopR hM W s.heap.objs.size ne2 (fun i v hv'=>hasI hv i v (by simpa using hv')) hb (l.length - 0) 0 _ (fun s' hm z=>?_) (by omega) (Nat.zero_le _) ⟨⟨_,Heap.get?_push_size _ rfl,rfl,rfl⟩,hl1.push _⟩ ?_
   ·obtain ⟨h',g',d',tk',os'⟩:=s'
    have eg:g'=s.gens:=hm.gens
    have ed:d'=s.drawn:=hm.drawn
    have eo:os'=s.os:=hm.os
    subst eg; subst ed; subst eo
    show wpAny _ _ _ _ _ _
    refine wpAny_pure ?_
    show wpAny _ _ (ret Value.none) _ _ _
    refine wpAny_pure ⟨rfl,h',tk',rfl,z,fun b o e=>?_⟩
    have bl:=Heap.lt_size e
    refine hm.heap b o (fun y=>?_) (Heap.get?_push_of_some _ (Heap.get?_push_of_some _ e))
    rcases List.mem_cons.mp y with y | y
    ·exact absurd y (Nat.ne_of_lt bl)
    ·have:=List.mem_singleton.mp y; rw [Heap.size_push] at this; exact absurd this (Nat.ne_of_lt (Nat.lt_succ_of_lt bl))
   ·have hg:((s.heap.push (freshSet led)).push { cls:=.type "list_iterator",data:=.fields #[.ref a,.int 0 0] }).get? s.heap.objs.size=some (freshSet led):=Heap.get?_push_of_some _ hS
    exact ⟨_,#[],0,.fresh 0 0 led,hg,⟨rfl,rfl,rfl⟩,rfl,(fun e he=>nomatch he),(fun e he=>nomatch he),Nat.le_refl _,(by unfold scanBound; decide),rfl,hled,fun i k a b _ ha _=>nomatch ha⟩
  ·match r₂,hr₂ with
   | .error e,hr₂=>exact hr₂
   | .ok (.ret r),hr₂ =>
    obtain ⟨rfl,h',tk,rfl,z,kp⟩:=hr₂
    repeat (any_goals (first | assumption | wp_step))
    exact q _ _ z kp
end
theorem slot_si_next:Slot "set_iterator" "__next__" "set_iterator.__next__" :=
 .of (owner:="set_iterator") (n:="__next__") (by rw [typeLookup_type,builtinLookup_eq_fast]; kernel_rfl) (by decide +kernel) (by decide +kernel) (by decide +kernel)
  (by first | exact .inl (by decide +kernel) | exact .inr (by decide +kernel)) (by rw [isSubtype_type]; kernel_rfl)
theorem entry_si_next:entryFor table "set_iterator.__next__"=some Builtin.«set_iterator.__next__»:=entryFor_of_tree (by kernel_rfl)
theorem args_si_next (a:Value):argsOk "set_iterator.__next__" ⟨[a],[]⟩:=by unfold argsOk; kernel_rfl
theorem slot_si_iter:Slot "set_iterator" "__iter__" "set_iterator.__iter__" :=
 .of (owner:="set_iterator") (n:="__iter__") (by rw [typeLookup_type,builtinLookup_eq_fast]; kernel_rfl) (by decide +kernel) (by decide +kernel) (by decide +kernel)
  (by first | exact .inl (by decide +kernel) | exact .inr (by decide +kernel)) (by rw [isSubtype_type]; kernel_rfl)
theorem entry_si_iter:entryFor table "set_iterator.__iter__"=some Builtin.«dict_keyiterator.__iter__» :=
 entryFor_alias (id':="dict_keyiterator.__iter__") (by kernel_rfl) rfl (by decide +kernel) (by kernel_rfl)
theorem args_si_iter (a:Value):argsOk "set_iterator.__iter__" ⟨[a],[]⟩:=by unfold argsOk; kernel_rfl
theorem entry_set_iter:entryFor table "set.__iter__"=some Builtin.«frozenset.__iter__» :=
 entryFor_alias (id':="frozenset.__iter__") (by kernel_rfl) rfl (by decide +kernel) (by kernel_rfl)
abbrev IsSI (h:Heap)(it:Addr)(first:Value)(i:Int)(a:Value)(n ep:Int):Prop :=
 h.get? it=some { cls:=.type "set_iterator",dict:=none,data:=.fields #[first,rawInt i,a,rawInt n,rawInt ep],slots:=#[] }
section
variable {prog:Program}{w:World}{A:Around}{E:Value→Shared→Prop}{s:Shared}
theorem si_self {it a:Addr}{f:Value}{i n ep:Int}{Q:Value→Shared→Prop}(h:IsSI s.heap it f i (.ref a) n ep)(q:Q (.ref it) s):wpAny (model prog w) A (pyIter (.ref it)) Q E s:=by
 have hT:s.TypeIs (.ref it) "set_iterator":=⟨_,h,rfl⟩
 refine wpAny_pyIter_slot hT slot_si_iter (wpAny_call_entry slot_si_iter hT entry_si_iter ?_ (args_si_iter _))
 show wpAny _ _ (ret (.ref it)) _ _ s
 exact wpAny_pure ⟨_,rfl,"set_iterator",_,hT,slot_si_next.lookup,q⟩
theorem choose_of {src:Source}{n:Nat}{Q:Nat→Shared→Prop}(hn:n≠0)(h:∀ i d,i < n→Q i { s with drawn:=d }):wpAny (model prog w) A (choose src n) Q E s:=fun Γ p _=>by
 show Sem.wp _ Γ (Sem.choose src n _) _ _ p s
 rw [Sem.wp_choose]
 exact ⟨hn,h _ _ (Nat.mod_lt _ (Nat.pos_of_ne_zero hn))⟩
theorem drawOrder_of {α:Type}:∀ (n:Nat) (xs:List α) (s:Shared) (Q:List α→Shared→Prop),(∀ ys d,(∀ y∈ys,y∈xs)→ys.length≤n→Q ys { s with drawn:=d })→wpAny (model prog w) A (drawOrder n xs) Q E s
 | 0,xs,s,Q,h=>by
  unfold drawOrder
  have e:s={ s with drawn:=s.drawn }:=by cases s; rfl
  refine wpAny_pure ?_
  rw [e]
  exact h [] _ (fun y hy=>nomatch hy) (Nat.le_refl _)
 | n+1,[],s,Q,h=>by
  unfold drawOrder
  have e:s={ s with drawn:=s.drawn }:=by cases s; rfl
  refine wpAny_pure ?_
  rw [e]
  exact h [] _ (fun y hy=>nomatch hy) (Nat.zero_le _)
 | n+1,x::xs,s,Q,h=>by
  unfold drawOrder
  refine wpAny_bind (choose_of (by simp) fun i d hi=>?_)
  rw [List.getElem?_eq_getElem hi]
  dsimp only
  refine wpAny_bind (drawOrder_of n ((x::xs).eraseIdx i) _ _ fun ys d' hy hl=>wpAny_pure ?_)
  refine h _ d' (fun y hm=>?_) (by rw [List.length_cons]; omega)
  rcases List.mem_cons.mp hm with rfl | hm
  ·exact List.getElem_mem hi
  ·exact List.mem_of_mem_eraseIdx (hy y hm)
theorem pick_go {α:Type}(next:Nat→Nat):∀ (fuel k:Nat) (left:List α) (out:Array α),(pickOrder.go next fuel k left out).size≤out.size+fuel∧∀ x∈(pickOrder.go next fuel k left out).toList,x∈out.toList∨x∈left
 | 0,k,left,out=>by unfold pickOrder.go; exact ⟨Nat.le_refl _,fun x hx=>.inl hx⟩
 | fuel+1,k,left,out=>by
  unfold pickOrder.go
  split
  ·rename_i x hx
   obtain ⟨h1,h2⟩:=pick_go next fuel (k+1) (left.eraseIdx (next k % left.length)) (out.push x)
   refine ⟨by rw [Array.size_push] at h1; omega,fun y hy=>?_⟩
   rcases h2 y hy with h | h
   ·rw [Array.toList_push] at h
    rcases List.mem_append.mp h with h | h
    ·exact .inl h
    ·rw [List.mem_singleton.mp h]; exact .inr (List.mem_of_getElem? hx)
   ·exact .inr (List.mem_of_mem_eraseIdx h)
  ·exact ⟨Nat.le_add_right _ _,fun y hy=>.inl hy⟩
theorem pick_of {α:Type}(next:Nat→Nat)(xs:Array α):(pickOrder next xs).size≤xs.size∧∀ x∈(pickOrder next xs).toList,x∈xs.toList:=by
 obtain ⟨h1,h2⟩:=pick_go next xs.size 0 xs.toList #[]
 refine ⟨by simpa [pickOrder] using h1,fun x hx=>?_⟩
 rcases h2 x hx with h | h
 ·exact nomatch h
 ·exact h
end
section
variable {prog:Program}{w:World}{A:Around}{E:Value→Shared→Prop}{s:Shared}
theorem si_item {it a:Addr}{slot i ep next:Nat}{x:Value}{o:Obj}{es:Array (Int × Value)}{t:SetTable}{Q:Option Value→Shared→Prop}(h:IsSI s.heap it (rawInt slot) i (.ref a) es.size ep)(ho:s.heap.get? a=some o)(hd:o.data=.set es ep t)(hf:t.fits es.size=true)(hx:∀ (A:Around) (Q:Option (Value × Nat)→Shared→Prop) (E:Value→Shared→Prop),Q (some (x,next)) s→wpAny (model prog w) A (setNext a slot i ep) Q E s)(hQ:∀ h',IsSI h' it (rawInt next) ((i+1:Nat):Int) (.ref a) es.size ep→Heap.SameBut it s.heap h'→Q (some x) { s with heap:=h' }):wpAny (model prog w) A (pyNext (.ref it)) Q E s:=by
 have hT:s.TypeIs (.ref it) "set_iterator":=⟨_,h,rfl⟩
 unfold pyNext
 refine wpAny_bind (wpAny_attempt (wpAny_callSpecial?_slot (name:=Str.ofString "__next__") hT slot_si_next (wpAny_call_entry slot_si_next hT entry_si_next ?_ (args_si_next _))))
 unfold Builtin.«set_iterator.__next__»
 refine wpAny_bind (wpAny_pure ?_)
 refine wpAny_bind (wpAny_fieldsOf h rfl ?_)
 show wpAny _ _ (setEntries a >>= _) _ _ s
 refine wpAny_bind ?_
 unfold setEntries
 refine wpAny_bind (wpAny_setState_of ho hd hf (wpAny_pure ?_))
 dsimp only
 rw [if_neg (by simp)]
 show wpAny _ _ (setNext a (slot:Int).toNat (i:Int).toNat (ep:Int).toNat >>= _) _ _ s
 refine wpAny_bind (hx _ _ _ ?_)
 dsimp only
 refine wpAny_bind (wpAny_setField_rec h (by simp) fun h1 he1 hs1=>?_)
 replace he1:IsSI h1 it (rawInt next) i (.ref a) es.size ep:=he1
 refine wpAny_bind (wpAny_setField_rec he1 (by simp) fun h2 he2 hs2=>?_)
 have e:((i:Int)+1)=((i+1:Nat):Int):=by push_cast; rfl
 replace he2:IsSI h2 it (rawInt next) ((i:Int)+1) (.ref a) es.size ep:=he2
 rw [e] at he2
 exact wpAny_pure ⟨_,rfl,wpAny_pure (hQ h2 he2 (hs1.trans hs2))⟩
theorem si_end {it a:Addr}{slot i ep:Nat}{o:Obj}{es:Array (Int × Value)}{t:SetTable}{Q:Option Value→Shared→Prop}(hh:A.handled=none)(h:IsSI s.heap it (rawInt slot) i (.ref a) es.size ep)(ho:s.heap.get? a=some o)(hd:o.data=.set es ep t)(hf:t.fits es.size=true)(hx:∀ (A:Around) (Q:Option (Value × Nat)→Shared→Prop) (E:Value→Shared→Prop),Q none s→wpAny (model prog w) A (setNext a slot i ep) Q E s)(hQ:∀ h',Heap.ExtBut it s.heap h'→Q none { s with heap:=h' }):wpAny (model prog w) A (pyNext (.ref it)) Q E s:=by
 have hT:s.TypeIs (.ref it) "set_iterator":=⟨_,h,rfl⟩
 unfold pyNext
 refine wpAny_bind (wpAny_attempt (wpAny_callSpecial?_slot (name:=Str.ofString "__next__") hT slot_si_next (wpAny_call_entry slot_si_next hT entry_si_next ?_ (args_si_next _))))
 unfold Builtin.«set_iterator.__next__»
 refine wpAny_bind (wpAny_pure ?_)
 refine wpAny_bind (wpAny_fieldsOf h rfl ?_)
 show wpAny _ _ (setEntries a >>= _) _ _ s
 refine wpAny_bind ?_
 unfold setEntries
 refine wpAny_bind (wpAny_setState_of ho hd hf (wpAny_pure ?_))
 dsimp only
 rw [if_neg (by simp)]
 show wpAny _ _ (setNext a (slot:Int).toNat (i:Int).toNat (ep:Int).toNat >>= _) _ _ s
 refine wpAny_bind (hx _ _ _ ?_)
 dsimp only
 refine wpAny_bind (wpAny_setField_rec h (by simp) fun h1 he1 hs1=>?_)
 show wpAny _ _ (newExc (.type "StopIteration") [] >>= _) _ _ _
 refine wpAny_bind ?_
 simp only [newExc,newTuple]
 refine wpAny_bind (wpAny_newObj_type ?_ (by size_fits))
 refine wpAny_bind (m:=firstArgMember _ _) (wpAny_of_eq (a:=Value.none) (by first | rfl | (simp only [firstArgMember]; rfl)) ?_)
 refine wpAny_newObj_type ?_ (by size_fits)
 simp only [raiseNew]
 refine wpAny_bind (wpAny_handled ?_)
 rw [show A.in1.handled=none from hh]
 refine wpAny_bind (wpAny_pure (wpAny_throw ?_))
 refine wpAny_bind (wpAny_isInstance (T:="StopIteration") (b:=true) ⟨_,Heap.get?_push_size _ rfl,rfl⟩ isSubtype_stop ?_)
 exact wpAny_pure (hQ _ ((hs1.extBut.push _).push _))
theorem si_itemD {it a tp:Addr}{i ep p:Nat}{e:Int × Value}{ps:List Nat}{ot o:Obj}{es:Array (Int × Value)}{t:SetTable}{Q:Option Value→Shared→Prop}(h:IsSI s.heap it (.ref tp) i (.ref a) es.size ep)(ho:s.heap.get? a=some o)(hd:o.data=.set es ep t)(hf:t.fits es.size=true)(hot:s.heap.get? tp=some ot)(hdt:∃ c,ot.data=.seq (ps.map fun (q:Nat)=>rawInt q).toArray c)(hp:ps[i]?=some p)(he:es[p]?=some e)(hQ:∀ h',IsSI h' it (.ref tp) ((i+1:Nat):Int) (.ref a) es.size ep→Heap.SameBut it s.heap h'→Q (some e.2) { s with heap:=h' }):wpAny (model prog w) A (pyNext (.ref it)) Q E s:=by
 have hT:s.TypeIs (.ref it) "set_iterator":=⟨_,h,rfl⟩
 obtain ⟨c,hdt⟩:=hdt
 unfold pyNext
 refine wpAny_bind (wpAny_attempt (wpAny_callSpecial?_slot (name:=Str.ofString "__next__") hT slot_si_next (wpAny_call_entry slot_si_next hT entry_si_next ?_ (args_si_next _))))
 unfold Builtin.«set_iterator.__next__»
 refine wpAny_bind (wpAny_pure ?_)
 refine wpAny_bind (wpAny_fieldsOf h rfl ?_)
 show wpAny _ _ (setEntries a >>= _) _ _ s
 refine wpAny_bind ?_
 unfold setEntries
 refine wpAny_bind (wpAny_setState_of ho hd hf (wpAny_pure ?_))
 dsimp only
 rw [if_neg (by simp)]
 show wpAny _ _ (seqItems? (.ref tp) >>= _) _ _ s
 refine wpAny_bind (wpAny_seqItems hot hdt ?_)
 have e1:(ps.map fun (q:Nat)=>rawInt q).toArray[(i:Int).toNat]?=some (rawInt p):=by
  rw [Int.toNat_natCast,List.getElem?_toArray,List.getElem?_map,hp]; rfl
 dsimp only
 rw [e1]
 show wpAny _ _ (setNextDrawn a (p:Int).toNat (ep:Int).toNat >>= _) _ _ s
 refine wpAny_bind ?_
 unfold setNextDrawn
 refine wpAny_bind (wpAny_setState_of ho hd hf ?_)
 dsimp only
 rw [if_neg (by simp),Int.toNat_natCast,he]
 refine wpAny_pure ?_
 refine wpAny_bind (wpAny_setField_rec h (by simp) fun h2 he2 hs2=>?_)
 have e:((i:Int)+1)=((i+1:Nat):Int):=by push_cast; rfl
 replace he2:IsSI h2 it (.ref tp) ((i:Int)+1) (.ref a) es.size ep:=he2
 rw [e] at he2
 exact wpAny_pure ⟨_,rfl,wpAny_pure (hQ h2 he2 hs2)⟩
theorem si_endD {it a tp:Addr}{ep:Nat}{ps:List Nat}{ot o:Obj}{es:Array (Int × Value)}{t:SetTable}{Q:Option Value→Shared→Prop}(hh:A.handled=none)(h:IsSI s.heap it (.ref tp) ps.length (.ref a) es.size ep)(ho:s.heap.get? a=some o)(hd:o.data=.set es ep t)(hf:t.fits es.size=true)(hot:s.heap.get? tp=some ot)(hdt:∃ c,ot.data=.seq (ps.map fun (q:Nat)=>rawInt q).toArray c)(hQ:∀ h',Heap.ExtBut it s.heap h'→Q none { s with heap:=h' }):wpAny (model prog w) A (pyNext (.ref it)) Q E s:=by
 have hT:s.TypeIs (.ref it) "set_iterator":=⟨_,h,rfl⟩
 obtain ⟨c,hdt⟩:=hdt
 unfold pyNext
 refine wpAny_bind (wpAny_attempt (wpAny_callSpecial?_slot (name:=Str.ofString "__next__") hT slot_si_next (wpAny_call_entry slot_si_next hT entry_si_next ?_ (args_si_next _))))
 unfold Builtin.«set_iterator.__next__»
 refine wpAny_bind (wpAny_pure ?_)
 refine wpAny_bind (wpAny_fieldsOf h rfl ?_)
 show wpAny _ _ (setEntries a >>= _) _ _ s
 refine wpAny_bind ?_
 unfold setEntries
 refine wpAny_bind (wpAny_setState_of ho hd hf (wpAny_pure ?_))
 dsimp only
 rw [if_neg (by simp)]
 show wpAny _ _ (seqItems? (.ref tp) >>= _) _ _ s
 refine wpAny_bind (wpAny_seqItems hot hdt ?_)
 have e1:(ps.map fun (q:Nat)=>rawInt q).toArray[((ps.length:Nat):Int).toNat]?=none:=by
  rw [Int.toNat_natCast,List.getElem?_toArray]
  exact List.getElem?_eq_none (by rw [List.length_map]; exact Nat.le_refl _)
 dsimp only
 rw [e1]
 dsimp only
 refine wpAny_bind (wpAny_setField_rec h (by simp) fun h1 he1 hs1=>?_)
 replace he1:IsSI h1 it (rawInt 0) ps.length (.ref a) es.size ep:=he1
 refine wpAny_bind (wpAny_setField_rec he1 (by simp) fun h2 he2 hs2=>?_)
 show wpAny _ _ (newExc (.type "StopIteration") [] >>= _) _ _ _
 refine wpAny_bind ?_
 simp only [newExc,newTuple]
 refine wpAny_bind (wpAny_newObj_type ?_ (by size_fits))
 refine wpAny_bind (m:=firstArgMember _ _) (wpAny_of_eq (a:=Value.none) (by first | rfl | (simp only [firstArgMember]; rfl)) ?_)
 refine wpAny_newObj_type ?_ (by size_fits)
 simp only [raiseNew]
 refine wpAny_bind (wpAny_handled ?_)
 rw [show A.in1.handled=none from hh]
 refine wpAny_bind (wpAny_pure (wpAny_throw ?_))
 refine wpAny_bind (wpAny_isInstance (T:="StopIteration") (b:=true) ⟨_,Heap.get?_push_size _ rfl,rfl⟩ isSubtype_stop ?_)
 exact wpAny_pure (hQ _ (((hs1.trans hs2).extBut.push _).push _))
theorem walk_int {it a:Addr}{ep n:Nat}{o:Obj}{es:Array (Int × Value)}{t:SetTable}{fst:Nat→Nat}{at_:Nat→Option (Value × Nat)}(hh:A.handled=none)(hd:o.data=.set es ep t)(hf:t.fits es.size=true)(hne:a≠it)(hx:∀ (i:Nat) (s:Shared) (A:Around) (Q:Option (Value × Nat)→Shared→Prop) (E:Value→Shared→Prop),i≤n→s.heap.get? a=some o→Q (at_ i) s→wpAny (model prog w) A (setNext a (fst i) i ep) Q E s)(hi:∀ i,i < n→∃ x,at_ i=some (x,fst (i+1)))(hn:at_ n=none) :
  WalksS prog w A it [it,a] [it] (fun a b=>b=a) n (fun i v=>∃ y,at_ i=some (v,y)) (fun i s=>IsSI s.heap it (rawInt (fst i)) i (.ref a) es.size ep∧s.heap.get? a=some o) where
 sub:=fun b hb=>by simp at hb; simp [hb]
 grefl:=fun _=>rfl
 gtrans:=fun _ _ _ h1 h2=>h2.trans h1
 frame:=fun i s h' tk st _ hk=>⟨hk it (by simp) _ st.1,hk a (by simp) _ st.2⟩
 item:=fun i s Q E lt st hQ=>by
  obtain ⟨x,ex⟩:=hi i lt
  refine si_item st.1 st.2 hd hf (fun A Q E q=>hx i s A Q E (Nat.le_of_lt lt) st.2 (by rw [ex]; exact q)) fun h' h1 sb=>?_
  exact hQ x _ ⟨_,ex⟩ ⟨h1,(sb.2 a hne).trans st.2⟩ ⟨fun b o hb e=>(sb.2 b (fun z=>hb (by simp [z]))).trans e,rfl,rfl,rfl,Nat.le_refl _⟩
 done:=fun s Q E st hQ=>si_end hh st.1 st.2 hd hf (fun A Q E q=>hx n s A Q E (Nat.le_refl _) st.2 (by rw [hn]; exact q)) fun h' sb=>hQ _ ⟨fun b o hb e=>sb b o (fun z=>hb (by simp [z])) e,rfl,rfl,rfl,Nat.le_refl _⟩
 self:=fun i s Q E st q=>si_self st.1 q
theorem walk_drawn {it a tp:Addr}{ep:Nat}{ps:List Nat}{ot o:Obj}{es:Array (Int × Value)}{t:SetTable}(hh:A.handled=none)(hd:o.data=.set es ep t)(hf:t.fits es.size=true)(hne:a≠it)(hnt:tp≠it)(hdt:∃ c,ot.data=.seq (ps.map fun (q:Nat)=>rawInt q).toArray c)(hp:∀ p∈ps,p < es.size) :
  WalksS prog w A it [it,a,tp] [it] (fun a b=>b=a) ps.length (fun i v=>∃ e∈es.toList,v=e.2) (fun i s=>IsSI s.heap it (.ref tp) i (.ref a) es.size ep∧s.heap.get? a=some o∧s.heap.get? tp=some ot) where
 sub:=fun b hb=>by simp at hb; simp [hb]
 grefl:=fun _=>rfl
 gtrans:=fun _ _ _ h1 h2=>h2.trans h1
 frame:=fun i s h' tk st _ hk=>⟨hk it (by simp) _ st.1,hk a (by simp) _ st.2.1,hk tp (by simp) _ st.2.2⟩
 item:=fun i s Q E lt st hQ=>by
  have lp:=hp _ (List.getElem_mem lt)
  refine si_itemD st.1 st.2.1 hd hf st.2.2 hdt (List.getElem?_eq_getElem lt) (Array.getElem?_eq_getElem lp) fun h' h1 sb=>?_
  exact hQ _ _ ⟨_,by rw [← Array.getElem_toList]; exact List.getElem_mem _,rfl⟩ ⟨h1,(sb.2 a hne).trans st.2.1,(sb.2 tp hnt).trans st.2.2⟩ ⟨fun b o hb e=>(sb.2 b (fun z=>hb (by simp [z]))).trans e,rfl,rfl,rfl,Nat.le_refl _⟩
 done:=fun s Q E st hQ=>si_endD hh st.1 st.2.1 hd hf st.2.2 hdt fun h' sb=>hQ _ ⟨fun b o hb e=>sb b o (fun z=>hb (by simp [z])) e,rfl,rfl,rfl,Nat.le_refl _⟩
 self:=fun i s Q E st q=>si_self st.1 q
end
def slAt (t:SetTable):Nat→Nat
 | 0=>0
 | i+1=>t.place.getD i 0+1
theorem slAt_below {t:SetTable}(R:Rise t.place){i:Nat}(hi:i≤t.place.size):SetTable.below t.place (slAt t i)=i:=by
 obtain ⟨h0,h1,h2⟩:=below_at R (slAt t i)
 rcases Nat.lt_trichotomy (SetTable.below t.place (slAt t i)) i with h | h | h
 ·exfalso
  cases i with
  | zero=>omega
  | succ i =>
   have lt:i < t.place.size:=by omega
   have ei:t.place[i]?=some (t.place.getD i 0):=by rw [Array.getElem?_eq_getElem lt]; simp [Array.getD,lt]
   have:=h2 i _ (by omega) ei
   have e:slAt t (i+1)=t.place.getD i 0+1:=rfl
   omega
 ·exact h
 ·exfalso
  have lt:i < t.place.size:=by omega
  have ei:t.place[i]?=some (t.place.getD i 0):=by rw [Array.getElem?_eq_getElem lt]; simp [Array.getD,lt]
  have a1:=h1 i _ h ei
  cases i with
  | zero=>exact absurd a1 (Nat.not_lt_zero _)
  | succ i =>
   have lt':i < t.place.size:=by omega
   have ej:t.place[i]?=some (t.place.getD i 0):=by rw [Array.getElem?_eq_getElem lt']; simp [Array.getD,lt']
   have:=R i (i+1) _ _ (Nat.lt_succ_self _) ej ei
   have e:slAt t (i+1)=t.place.getD i 0+1:=rfl
   omega
section
variable {prog:Program}{w:World}{A:Around}{E:Value→Shared→Prop}{s:Shared}
theorem byText_of {Q:Bool→Shared→Prop}(h:Q (w.params.followText "set-order") s):wpAny (model prog w) A setsByText Q E s:=by
 unfold setsByText
 exact wpAny_bind (wpAny_askSetting (wpAny_pure h))
theorem next_text {a:Addr}{o:Obj}{es:Array (Int × Value)}{ep i:Nat}{t:SetTable}{Q:Option (Value × Nat)→Shared→Prop}(ht:w.params.followText "set-order"=true)(ho:s.heap.get? a=some o)(hd:o.data=.set es ep t)(hf:t.fits es.size=true)(q:Q (((pickOrder (w.params.setOrder a ep) es)[i]?).map fun e=>(e.2,0)) s):wpAny (model prog w) A (setNext a 0 i ep) Q E s:=by
 unfold setNext
 refine wpAny_bind (wpAny_setState_of ho hd hf ?_)
 dsimp only
 refine wpAny_bind (byText_of ?_)
 rw [ht]
 simp only [if_true]
 rw [if_neg (by simp)]
 refine wpAny_bind ?_
 unfold setWalk
 refine wpAny_bind (wpAny_setState_of ho hd hf ?_)
 dsimp only
 refine wpAny_bind (byText_of ?_)
 rw [ht]
 simp only [if_true]
 exact wpAny_bind (wpAny_askSetting (wpAny_pure (wpAny_pure q)))
theorem next_plain {a:Addr}{o:Obj}{es:Array (Int × Value)}{ep i:Nat}{t:SetTable}{Q:Option (Value × Nat)→Shared→Prop}(ht:w.params.followText "set-order"=false)(hp:(!t.plain && decide (es.size > 1))=false)(L:Lay true t)(ho:s.heap.get? a=some o)(hd:o.data=.set es ep t)(hf:t.fits es.size=true)(hi:i≤es.size)(q:Q (if h:i < es.size then some (es[i].2,slAt t (i+1)) else none) s):wpAny (model prog w) A (setNext a (slAt t i) i ep) Q E s:=by
 have hz:t.place.size=es.size:=by
  simp only [SetTable.fits,Bool.and_eq_true,beq_iff_eq] at hf
  exact hf.1
 unfold setNext
 refine wpAny_bind (wpAny_setState_of ho hd hf ?_)
 dsimp only
 refine wpAny_bind (byText_of ?_)
 rw [ht]
 simp only [Bool.false_eq_true,if_false]
 refine wpAny_ite_split (fun h=>absurd (hp.symm.trans h) (by decide)) (fun _=>?_)
 refine wpAny_bind ?_
 refine wpAny_ite_split (fun h=>absurd h (by rw [L.1]; simp)) (fun _=>?_)
 refine wpAny_pure (wpAny_pure ?_)
 rw [slAt_below L.2 (by omega)]
 by_cases h:i < es.size
 ·rw [dif_pos h] at q
  rw [Array.getElem?_eq_getElem h,Array.getElem?_eq_getElem (show i < t.place.size by omega)]
  have e:slAt t (i+1)=t.place[i]+1:=by
   show t.place.getD i 0+1=_
   simp [Array.getD,show i < t.place.size by omega]
  rw [e] at q
  exact q
 ·rw [dif_neg h] at q
  rw [Array.getElem?_eq_none (by omega)]
  exact q
theorem drawn_of {a:Addr}{o:Obj}{es:Array (Int × Value)}{ep:Nat}{t:SetTable}{Q:Bool→Shared→Prop}(ho:s.heap.get? a=some o)(hd:o.data=.set es ep t)(hf:t.fits es.size=true)(q:Q (!w.params.followText "set-order" && (!t.plain && decide (es.size > 1))) s):wpAny (model prog w) A (setDrawn a) Q E s:=by
 unfold setDrawn
 refine wpAny_bind (wpAny_setState_of ho hd hf ?_)
 dsimp only
 exact wpAny_bind (byText_of (wpAny_pure q))
theorem iter_set {d S:Addr}{c₀ n:Nat}{M:Int→Prop}{R:Shared→Array Value→Nat→Prop}(hh:A.handled=none)(hz:SetR prog w s.heap d M n)(hS:s.heap.get? S=some { cls:=.type "list",data:=.seq #[] c₀ })(hR:∀ h' tk d' acc' c',(∀ b o,b≠S→s.heap.get? b=some o→h'.get? b=some o)→h'.get? S=some { cls:=.type "list",dict:=none,data:=.seq acc' c',slots:=#[] }→(∀ v∈acc'.toList,∃ i tk,v=.int i tk∧M i)→acc'.size≤n→R { s with heap:=h',toks:=tk,drawn:=d' } acc' c') :
  wpAny (model prog w) A.in1 (pyIter (.ref d)) (Fills prog w A "set" d S c₀ R) E s:=by
 obtain ⟨o,es,ep,t,ho,hex,hd,hel,hm,hn,hb,hf,L⟩:=hz
 have hT:s.TypeIs (.ref d) "set":=⟨o,ho,hex.1⟩
 have hSd:S≠d:=fun e=>by rw [← e,hS] at ho; cases ho; cases hd
 have hdl:=Heap.lt_size ho
 have hSl:=Heap.lt_size hS
 have hbs:es.size≤sizeLine:=by rw [sizeLine_eq]; unfold scanBound at hb; omega
 -- the end of it all
 have fin:∀ (it:Addr) (P:Nat→Value→Prop) (m:Nat) (s1:Shared) (d1:Drawn) (fp:List Addr),s1.gens=s.gens→s1.os=s.os→(∀ b o,s.heap.get? b=some o→s1.heap.get? b=some o)→s.heap.objs.size≤it→m≤es.size →
   (∀ i v,P i v→∃ k tk,v=.int k tk∧M k)→∀ s' acc' c',Moved (S::[it]) (fun a b=>b=a) s1 s'→s'.heap.get? S=some { cls:=.type "list",dict:=none,data:=.seq acc' c',slots:=#[] }→ItemsOf P acc' m→R s' acc' c':=by
  intro it P m s1 d1 fp hg hos hk hit hm' hP s' acc' c' hmv hS' hacc
  obtain ⟨h',g',d',tk',os'⟩:=s'
  have eg:g'=s.gens:=(show g'=s1.gens from hmv.gens).trans hg
  have eo:os'=s.os:=(show os'=s1.os from hmv.os).trans hos
  subst eg; subst eo
  refine hR h' tk' d' acc' c' (fun b o hb e=>hmv.heap b o (fun hmem=>?_) (hk b o e)) hS' (fun v hv=>?_) (by rw [hacc.1]; omega)
  ·rcases List.mem_cons.mp hmem with e' | hmem
   ·exact hb e'
   ·have:=Heap.lt_size e
    rw [List.mem_singleton.mp hmem] at this
    exact absurd this (Nat.not_lt.mpr hit)
  ·obtain ⟨i,hi⟩:=List.getElem?_of_mem hv
   exact hP i v (hacc.2 i v (by simpa using hi))
 refine wpAny_pyIter_slot hT PySem.F.slot_set_iter (wpAny_call_entry PySem.F.slot_set_iter hT entry_set_iter ?_ (PySem.F.args_set_iter_1 _))
 unfold Builtin.«frozenset.__iter__»
 show wpAny _ _ (Builtin.Frozenset.sizeOf d >>= _) _ _ s
 refine wpAny_bind ?_
 unfold Builtin.Frozenset.sizeOf setEntries
 refine wpAny_bind (wpAny_bind (wpAny_setState_of ho hd hf (wpAny_pure (wpAny_pure ?_))))
 refine wpAny_bind (drawn_of ho hd hf ?_)
 cases hB:(!w.params.followText "set-order" && (!t.plain && decide (es.size > 1))) with
 | true =>
  simp only [if_true]
  refine wpAny_bind (drawOrder_of _ _ _ _ fun ps d' hps hlp=>?_)
  refine wpAny_bind (wpAny_newTuple ?_ (by rw [List.length_map]; omega))
  have eT:(s.heap.push (seqObj "tuple" (ps.map fun (q:Nat)=>rawInt q).toArray 0)).get? s.heap.objs.size=some (seqObj "tuple" (ps.map fun (q:Nat)=>rawInt q).toArray 0):=Heap.get?_push_size _ rfl
  refine wpAny_bind (wpAny_setEpoch_of (Heap.get?_push_of_some _ ho) hd hf ?_)
  refine wpAny_bind (wpAny_newObj_type (wpAny_pure ⟨_,rfl,"set_iterator",_,⟨_,Heap.get?_push_size _ rfl,rfl⟩,slot_si_next.lookup,?_⟩))
  have sz:(s.heap.push (seqObj "tuple" (ps.map fun (q:Nat)=>rawInt q).toArray 0)).objs.size=s.heap.objs.size+1:=size_push' _ _
  refine ⟨_,_,_,_,ps.length,_,_,rfl,walk_drawn (o:=o) (ot:=seqObj "tuple" (ps.map fun (q:Nat)=>rawInt q).toArray 0) (tp:=s.heap.objs.size) hh hd hf (a:=d) (by rw [sz]; exact Nat.ne_of_lt (Nat.lt_succ_of_lt hdl)) (by rw [sz]; exact Nat.ne_of_lt (Nat.lt_succ_self _)) ⟨0,rfl⟩ (fun p hp=>List.mem_range.mp (hps p hp)),
   ⟨Heap.get?_push_size _ rfl,Heap.get?_push_of_some _ (Heap.get?_push_of_some _ ho),Heap.get?_push_of_some _ eT⟩,by omega,?_,⟨o,Heap.get?_push_of_some _ (Heap.get?_push_of_some _ ho),hex.1⟩,Heap.get?_push_of_some _ (Heap.get?_push_of_some _ hS),?_⟩
  ·rw [sz]
   intro z
   simp only [List.mem_cons,List.not_mem_nil,or_false] at z
   rcases z with z | z | z
   ·rw [z] at hSl; exact absurd hSl (Nat.not_lt.mpr (Nat.le_succ _))
   ·exact hSd z
   ·rw [z] at hSl; exact absurd hSl (Nat.lt_irrefl _)
  ·exact fin _ _ _ _ d' [] rfl rfl (fun b o e=>Heap.get?_push_of_some _ (Heap.get?_push_of_some _ e)) (by rw [sz]; exact Nat.le_succ _) hlp (fun i v ⟨e,he,ev⟩=>by rw [ev]; exact hm e he)
 | false =>
  simp only [Bool.false_eq_true,if_false]
  refine wpAny_bind (wpAny_pure ?_)
  refine wpAny_bind (wpAny_setEpoch_of ho hd hf ?_)
  refine wpAny_bind (wpAny_newObj_type (wpAny_pure ⟨_,rfl,"set_iterator",_,⟨_,Heap.get?_push_size _ rfl,rfl⟩,slot_si_next.lookup,?_⟩))
  have hSf:S ∉ [s.heap.objs.size,d]:=fun z=>by
   simp only [List.mem_cons,List.not_mem_nil,or_false] at z
   rcases z with z | z
   ·rw [z] at hSl; exact absurd hSl (Nat.lt_irrefl _)
   ·exact hSd z
  cases ht:w.params.followText "set-order" with
  | true =>
   obtain ⟨p1,p2⟩:=pick_of (w.params.setOrder d ep) es
   refine ⟨_,_,_,_,(pickOrder (w.params.setOrder d ep) es).size,_,_,rfl,walk_int (o:=o) (a:=d) (it:=s.heap.objs.size) (fst:=fun _=>0) (at_:=fun i=>((pickOrder (w.params.setOrder d ep) es)[i]?).map fun e=>(e.2,0)) hh hd hf (Nat.ne_of_lt hdl) (fun i s A Q E _ ho q=>next_text ht ho hd hf q)
    (fun i lt=>⟨_,by rw [Array.getElem?_eq_getElem lt]; rfl⟩) (by rw [Array.getElem?_eq_none (Nat.le_refl _)]; rfl),⟨Heap.get?_push_size _ rfl,Heap.get?_push_of_some _ ho⟩,by omega,hSf,⟨o,Heap.get?_push_of_some _ ho,hex.1⟩,Heap.get?_push_of_some _ hS,?_⟩
   exact fin _ _ _ _ s.drawn [] rfl rfl (fun b o e=>Heap.get?_push_of_some _ e) (Nat.le_refl _) p1 (fun i v ⟨y,ev⟩=>by
    cases hg:(pickOrder (w.params.setOrder d ep) es)[i]? with
    | none=>rw [hg] at ev; cases ev
    | some e =>
     rw [hg] at ev
     have:e.2=v:=by simpa using congrArg (fun z=>z.map (·.1)) ev
     rw [← this]
     exact hm e (p2 e (by rw [← Array.getElem?_toList] at hg; exact List.mem_of_getElem? hg)))
  | false =>
   rw [ht] at hB
   have L1:Lay true t:=by
    have:ledOf w=true:=by unfold ledOf; rw [ht]; rfl
    rw [← this]; exact L
   refine ⟨_,_,_,_,es.size,_,_,rfl,walk_int (o:=o) (a:=d) (it:=s.heap.objs.size) (fst:=slAt t) (at_:=fun i=>if h:i < es.size then some (es[i].2,slAt t (i+1)) else none) hh hd hf (Nat.ne_of_lt hdl) (fun i s A Q E le ho q=>next_plain ht hB L1 ho hd hf le q)
    (fun i lt=>⟨_,by rw [dif_pos lt]⟩) (by rw [dif_neg (Nat.lt_irrefl _)]),⟨Heap.get?_push_size _ rfl,Heap.get?_push_of_some _ ho⟩,by omega,hSf,⟨o,Heap.get?_push_of_some _ ho,hex.1⟩,Heap.get?_push_of_some _ hS,?_⟩
   exact fin _ _ _ _ s.drawn [] rfl rfl (fun b o e=>Heap.get?_push_of_some _ e) (Nat.le_refl _) (Nat.le_refl _) (fun i v ⟨y,ev⟩=>by
    by_cases h:i < es.size
    ·rw [dif_pos h] at ev
     have:es[i].2=v:=by simpa using congrArg (fun z=>z.map (·.1)) ev
     rw [← this]
     exact hm _ (by rw [← Array.getElem_toList]; exact List.getElem_mem _)
    ·rw [dif_neg h] at ev; cases ev)
end
def hoSetI (P:Program)(w:World)(a:Addr)(M:Int→Prop)(n:Nat):HO:=.ext fun h=>SetR P w h a M n
theorem setI_ext {P:Program}{w:World}{H:Hp}{h:Heap}{a:Addr}{M:Int→Prop}{n:Nat}(z:SetR P w h a M n):ObjOk P w H h a (hoSetI P w a M n):=by
 refine ⟨z,?_,fun h1 h2 z1 k=>z1.at k⟩
 obtain ⟨o,_,_,_,e,_⟩:=z
 exact ⟨o,e⟩
theorem kept_drawn {X:Cx}{pins:List (Addr × Obj)}{σ:L2.St}{H:Hp}{s:Shared}{h':Heap}{t':Nat}{d':Drawn}(I:L2.Inv X pins σ H s)(k:∀ b u,s.heap.get? b=some u→h'.get? b=some u):L2.Inv X pins σ H { s with heap:=h',toks:=t',drawn:=d' } :=
 I.step (g':=s.gens) (d':=d') (ch:=[]) (fun _ z=>nomatch z) (fun b o _ _ _ e _=>k b o e) (fun b o _ _ _ e _=>⟨o.slots,k b o e⟩) (fun _ _ _ _ n=>n) (fun b o _ e=>⟨o,k b o e⟩) (fun _ _ e=>e) (fun _ _ _ e=>e) (fun b ps e=>⟨#[],by rw [e]; simp⟩)
  (fun m ⟨o,es,ep,ho,r⟩=>⟨o,es,ep,k _ _ ho,r⟩) (I.hok.kept k) I.bare
section
variable {X:Cx}
theorem call_setI (hc:X.calm=true):CallR X (.type "set") (fun xs H Q=>∃ (a:Addr) (l:List Int) (M:Int→Prop),xs=[.ref a]∧SqL X.K H a (l.map V.int)∧l.length≤1000∧(∀ x∈l,M x)∧∀ p H',H p=none→Same H H'→H' p=some (hoSetI X.prog X.w p M l.length)→Q (.ref p) H'):=by
 intro pins s σ H xs us Q I r h
 obtain ⟨a,l,M,rfl,hS,hz,hM,q⟩:=h
 obtain ⟨u,rfl,ru⟩:=vals1 r
 cases ru
 obtain ⟨its,rv,pl,_⟩:=I.list hS
 refine callSetR hM (I.ok.hd hc) pl.isList rv (by unfold scanBound; omega) fun h' tk z kp=>?_
 exact ⟨.ref s.heap.objs.size,_,I.laid (t':=tk) kp (Nat.le_refl _) (setI_ext z),rfl,q _ _ (I.hok.fresh (Nat.le_refl _)) (same_new (I.hok.fresh (Nat.le_refl _)) _) upd_same⟩
theorem ints_of {M:Int→Prop}:∀ (us:List Value),(∀ v∈us,∃ i tk,v=.int i tk∧M i)→∃ ns,IntsAre us ns∧∀ i∈ns,M i
 | [],_=>⟨[],.nil,fun i hi=>nomatch hi⟩
 | u::us,h=>by
  obtain ⟨i,tk,rfl,hi⟩:=h u (List.mem_cons_self ..)
  obtain ⟨ns,h1,h2⟩:=ints_of us fun v hv=>h v (List.mem_cons_of_mem _ hv)
  exact ⟨i::ns,.cons i tk h1,fun k hk=>(List.mem_cons.mp hk).elim (fun z=>by rw [z]; exact hi) (h2 k)⟩
theorem call_sortI (hc:X.calm=true):CallR X (.builtin "sorted") (fun xs H Q=>∃ (a:Addr) (M:Int→Prop) (n:Nat),xs=[.ref a]∧H a=some (hoSetI X.prog X.w a M n)∧n < 64∧∀ (p:Addr) (ns:List Int),H p=none→(∀ i∈ns,M i)→ns.length≤n→Q (.ref p) (L2.upd H p (.lst (ns.map V.int)))):=by
 intro pins s σ H xs us Q I r h
 obtain ⟨a,M,n,rfl,e,l64,q⟩:=h
 obtain ⟨u,rfl,ru⟩:=vals1 r
 cases ru
 obtain ⟨z,_⟩:=I.hok a _ e
 have hT:s.TypeIs (.ref a) "set":=by obtain ⟨o,_,_,_,ho,hex,_⟩:=z; exact ⟨o,ho,hex.1⟩
 have hl:a < s.heap.objs.size:=by obtain ⟨o,_,_,_,ho,_⟩:=z; exact Heap.lt_size ho
 refine sorted_by (kw:=[]) (ord:=fun ns=>ns.Pairwise (·≤·)) (args_sorted1 _) (fun L=>args_list_sort _) (fun A E s L vs ns P hoL hI h64 hP=>list_sort_tree hoL hI h64 hP) ?_
 refine collect_of (.inr rfl) hT hl ?_
 have z0:SetR X.prog X.w (s.heap.push { cls:=.type "list",data:=.seq #[] }) a M n:=z.at fun o e=>Heap.get?_push_of_some _ e
 refine iter_set (A:=X.A.in1) (s:={ s with heap:=s.heap.push { cls:=.type "list",data:=.seq #[] } }) (I.ok.hd hc) z0 (Heap.get?_push_size _ rfl) fun h' tk d' acc' c' hk hS' hv ln _=>?_
 obtain ⟨ks,hI,hM⟩:=ints_of acc'.toList hv
 have kp:∀ b o,s.heap.get? b=some o→h'.get? b=some o:=fun b o e=>hk b o (Nat.ne_of_lt (Heap.lt_size e)) (Heap.get?_push_of_some _ e)
 have I2:L2.Inv X pins σ H { s with heap:=h',toks:=tk,drawn:=d' }:=kept_drawn I kp
 have lk:=IntsAre.length hI
 rw [Array.length_toList] at lk
 refine ⟨ks,hI,by rw [Array.length_toList]; omega,fun L out ns' e h'' hL k2 hoL hI' hp ho=>?_⟩
 have rv2:=vals_ints hI'
 have ln':ns'.length≤n:=by rw [hp.length_eq]; omega
 have lz:(ns'.map V.int).length≤sizeLine:=by rw [List.length_map,sizeLine_eq]; omega
 exact ⟨.ref L,_,I2.laid (t':=tk) k2 hL (show ObjOk X.prog X.w _ h'' _ (.lst (ns'.map V.int)) from ⟨lz,out.toList,e,rv2,by simpa using hoL⟩),rfl,q L ns' (I2.hok.fresh hL) (fun i hi=>hM i (hp.mem_iff.mp hi)) ln'⟩
end
section
variable {X:Cx}{CX:CXT}{k:Nat}{f C:Addr}{fd:FuncData}{ps ks:List Str}{sp:Sp}{E:XK}{x:Str}{p pos:Pos}{e:Expr}{es:List Expr}{kws:List Keyword}{t tk:TA}
 {g:List Value→List Value→List Value}{gV:List V→List V→List V}
def tMakeK (C:Addr)(sp:Sp)(gV:List V→List V→List V)(E:XK)(t tk:TA):TE:=fun σ H Q=>t σ H fun vs H1=>tk σ H1 fun zs H2=>∀ x dx,H2 x=none→H2 dx=none→dx≠x →
 sp (gV (.ref x::vs) zs) (L2.upd (L2.upd H2 dx (.own x)) x (.ins C dx [])) (fun v H3=>v=.non∧Q (.ref x) H3) E
theorem w_makeK {σ:L2.St}{H:Hp}{Q:VK}:tMakeK C sp gV E t tk σ H Q=t σ H (fun vs H1=>tk σ H1 fun zs H2=>∀ x dx,H2 x=none→H2 dx=none→dx≠x →
 sp (gV (.ref x::vs) zs) (L2.upd (L2.upd H2 dx (.own x)) x (.ins C dx [])) (fun v H3=>v=.non∧Q (.ref x) H3) E):=rfl
end
structure CalK (P:Program) (w:World) (K:Frag) (mg:Str→Option Value) (base:Heap) (x:Str) (C:Addr) (ps ks:List Str) (k:Nat) (gV:List V→List V→List V) (sp:Sp):Prop where
 ex:∃ f fd g,FnOk P w K mg base (CXF P w) k f fd ps sp∧KBinds K fd ps ks g gV∧Mk K C f∧mg x=some (.ref C)
section
variable {X:Cx}{x:Str}{C:Addr}{ps ks:List Str}{k:Nat}{sp:Sp}{e:Expr}{es:List Expr}{t tk:TA}{p pos:Pos}{E:XK}{kws:List Keyword}{gV:List V→List V→List V}
end
section
variable {P:Program}{w:World}{K:Frag}{mg:Str→Option Value}{base:Heap}{f:Addr}{fd:FuncData}{ps:List Str}{x:Str}{CX:CXT}{k:Nat}
theorem FnOk.nev {sp:Sp}(h:∀ vs H Q E,¬ sp vs H Q E):FnOk P w K mg base CX k f fd ps sp:=⟨fun _ _ _ _ z=>(h _ _ _ _ z).elim,fun _ _ _ _ _ _ _ _ _ _ _ _ _ z=>(h _ _ _ _ z).elim⟩
theorem rec_fn {spf:Nat→Sp}{n0:Nat}(h0:∀ vs H Q E,¬ spf 0 vs H Q E)(b:Binds K fd ps [])(kp:keepIn K (.ref f)=true)(hm:mg x=some (.ref f))(step:∀ d n,n0≤n→CalX P w K mg base x ps n (spf d)→FnOk P w K mg base (CXF P w) (n+1) f fd ps (spf (d+1))):∀ d,FnOk P w K mg base (CXF P w) (n0+d) f fd ps (spf d)
 | 0=>FnOk.nev h0
 | d+1=>step d (n0+d) (Nat.le_add_right _ _) ⟨f,fd,rec_fn h0 b kp hm step d,b,kp,hm⟩
theorem rec_cal {spf:Nat→Sp}{n0:Nat}(h0:∀ vs H Q E,¬ spf 0 vs H Q E)(b:Binds K fd ps [])(kp:keepIn K (.ref f)=true)(hm:mg x=some (.ref f))(step:∀ d n,n0≤n→CalX P w K mg base x ps n (spf d)→FnOk P w K mg base (CXF P w) (n+1) f fd ps (spf (d+1)))(d:Nat){n:Nat}(hn:n0+d≤n):CalX P w K mg base x ps n (spf d) :=
 ⟨f,fd,FnOk.lift (rec_fn h0 b kp hm step d) hn,b,kp,hm⟩
end
section
variable {K:Frag}{σ:L2.St}{H:Hp}{Q:VK}{g:TG}{tt:TT}{te ta:TE}{ix:List (Option Nat)}{t:TS}{D:Ends}
theorem comp_tup {K:Frag}{a:Addr}{xs:List V}{g:TG}{tt:TT}{te:TE}{σ:L2.St}{H:Hp}{Q:VK}(Pv:Nat→List V→L2.St→Hp→Prop)(hz:xs.length≤sizeLine)(h0:Pv 0 [] σ H)(hl:∀ i acc σ H,i≤xs.length→Pv i acc σ H→SqT K H a xs)(hs:∀ i x acc σ H,xs[i]?=some x→Pv i acc σ H→g x σ H fun σ2 H2=>tt σ2 H2 fun b H3=>if b=true then te σ2 H3 fun y H4=>Pv (i+1) (acc++[y]) σ2 H4 else Pv (i+1) acc σ2 H3)(hacc:∀ i acc σ H,Pv i acc σ H→acc.length≤i)(hd:∀ acc σ H,Pv xs.length acc σ H→∀ D,H D=none→Q (.ref D) (L2.upd H D (.lst acc))) :
  ∃ W:Nat→Nat→List V→L2.St→Hp→Prop,(∃ m,W 0 m [] σ H)∧∀ i m acc σ H,W i m acc σ H →
   ((Itt K a).stop i H∧∀ D,H D=none→Q (.ref D) (L2.upd H D (.lst acc))) ∨
   ((Itt K a).go i H∧acc.length < sizeLine∧∃ N:List V→L2.St→Hp→Prop,(∀ acc' σ' H',N acc' σ' H'→∃ m',m' < m∧W (i+1) m' acc' σ' H') ∧
    ∀ x H',(Itt K a).yld i H x H'→g x σ H' fun σ2 H2=>tt σ2 H2 fun b H3=>if b=true then te σ2 H3 fun y H4=>N (acc++[y]) σ2 H4 else N acc σ2 H3):=by
 refine ⟨fun i m acc σ H=>m=xs.length - i∧i≤xs.length∧Pv i acc σ H,⟨xs.length,by simp,Nat.zero_le _,h0⟩,?_⟩
 rintro i m acc σ H ⟨rfl,hi,p⟩
 have q:=hl i acc σ H hi p
 have ha:=hacc i acc σ H p
 by_cases hlt:i < xs.length
 ·refine .inr ⟨⟨xs,xs[i],q,by simp [hlt]⟩,by omega,Pv (i+1),fun acc' σ' H' p'=>⟨xs.length - (i+1),by omega,rfl,hlt,p'⟩,fun x H' y=>?_⟩
  obtain ⟨e,y⟩:=y
  subst e
  exact hs i x acc σ _ (y xs q) p
 ·have e:i=xs.length:=by omega
  subst e
  exact .inl ⟨⟨xs,q,Nat.le_refl _⟩,hd acc σ H p⟩
def CompT (K:Frag)(a:Addr)(g:TG)(tt:TT)(te:TE)(Q:VK)(σ:L2.St)(H:Hp):Prop:=∃ W:Nat→Nat→List V→L2.St→Hp→Prop,(∃ m,W 0 m [] σ H)∧∀ i m acc σ H,W i m acc σ H →
 ((Itt K a).stop i H∧∀ D,H D=none→Q (.ref D) (L2.upd H D (.lst acc))) ∨
 ((Itt K a).go i H∧acc.length < sizeLine∧∃ N:List V→L2.St→Hp→Prop,(∀ acc' σ' H',N acc' σ' H'→∃ m',m' < m∧W (i+1) m' acc' σ' H') ∧
  ∀ x H',(Itt K a).yld i H x H'→g x σ H' fun σ2 H2=>tt σ2 H2 fun b H3=>if b=true then te σ2 H3 fun y H4=>N (acc++[y]) σ2 H4 else N acc σ2 H3)
theorem w_compT:tComp (iTup K ta) ix g tt te σ H Q=ta σ H (fun x H1=>∃ a,x=.ref a∧(∃ xs,SqT K H1 a xs)∧CompT K a g tt te Q (pick ix σ) H1):=rfl
theorem CompT.by {a:Addr}{xs:List V}(Pv:Nat→List V→L2.St→Hp→Prop)(hz:xs.length≤sizeLine)(h0:Pv 0 [] σ H)(hl:∀ i acc σ H,i≤xs.length→Pv i acc σ H→SqT K H a xs)(hs:∀ i x acc σ H,xs[i]?=some x→Pv i acc σ H→g x σ H fun σ2 H2=>tt σ2 H2 fun b H3=>if b=true then te σ2 H3 fun y H4=>Pv (i+1) (acc++[y]) σ2 H4 else Pv (i+1) acc σ2 H3)(hacc:∀ i acc σ H,Pv i acc σ H→acc.length≤i)(hd:∀ acc σ H,Pv xs.length acc σ H→∀ D,H D=none→Q (.ref D) (L2.upd H D (.lst acc))):CompT K a g tt te Q σ H:=comp_tup Pv hz h0 hl hs hacc hd
def ForT (K:Frag)(a:Addr)(g:TG)(tb:TS)(D:Ends)(σ:L2.St)(H:Hp):Prop:=∃ W:Nat→Nat→L2.St→Hp→Prop,(∃ m,W 0 m σ H)∧∀ i m σ H,W i m σ H →
   ((Itt K a).stop i H∧D.nx σ H)∨((Itt K a).go i H∧∃ N:L2.St→Hp→Prop,(∀ σ' H',N σ' H'→∃ m',m' < m∧W (i+1) m' σ' H')∧∀ x H',(Itt K a).yld i H x H'→g x σ H' fun σ2 H2=>tb { D with nx:=N,ct:=N,bk:=D.nx } σ2 H2)
theorem w_forT:tFor (iTup K ta) g t D σ H=ta σ H (fun x H1=>∃ a,x=.ref a∧(∃ xs,SqT K H1 a xs)∧ForT K a g t D σ H1):=rfl
theorem ForT.by {a:Addr}{xs:List V}(Pv:Nat→L2.St→Hp→Prop)(h0:Pv 0 σ H)(hl:∀ i σ H,i≤xs.length→Pv i σ H→SqT K H a xs)(hs:∀ i x σ H,xs[i]?=some x→Pv i σ H→g x σ H fun σ2 H2=>t { D with nx:=Pv (i+1),ct:=Pv (i+1),bk:=D.nx } σ2 H2)(hd:∀ σ H,Pv xs.length σ H→D.nx σ H):ForT K a g t D σ H:=for_tup Pv h0 hl hs hd
end
inductive All2 {α β:Type}(R:α→β→Prop):List α→List β→Prop
 | nil:All2 R [] []
 | cons {a:α}{b:β}{as:List α}{bs:List β}(h:R a b) (r:All2 R as bs):All2 R (a::as) (b::bs)
section
variable {α β:Type}{R S:α→β→Prop}{as:List α}{bs:List β}
theorem All2.len (h:All2 R as bs):as.length=bs.length:=by
 induction h with
 | nil=>rfl
 | cons _ _ ih=>rw [List.length_cons,List.length_cons,ih]
theorem All2.imp (h:All2 R as bs)(k:∀ a b,a∈as→R a b→S a b):All2 S as bs:=by
 induction h with
 | nil=>exact .nil
 | cons h _ ih=>exact .cons (k _ _ List.mem_cons_self h) (ih fun a b m=>k a b (List.mem_cons_of_mem _ m))
theorem All2.snoc {a:α}{b:β}(h:All2 R as bs)(k:R a b):All2 R (as++[a]) (bs++[b]):=by
 induction h with
 | nil=>exact .cons k .nil
 | cons h _ ih=>exact .cons h ih
theorem All2.get (h:All2 R as bs):∀ {i:Nat}{b:β},bs[i]?=some b→∃ a,as[i]?=some a∧R a b:=by
 induction h with
 | nil=>intro i b e; simp at e
 | cons h _ ih =>
  intro i b e
  cases i with
  | zero=>cases e; exact ⟨_,rfl,h⟩
  | succ i=>exact ih e
end
mutual
inductive Tr where
 | any
 | kind (us:List Str)
 | place (us:List Str)
 | weight (n:Int)
 | not (t:Tr)
 | both (ts:Trs)
 | either (ts:Trs)
inductive Trs where
 | nil
 | cons (t:Tr) (ts:Trs)
end
def Trs.ofL:List Tr→Trs
 | []=>.nil
 | t::ts=>.cons t (Trs.ofL ts)
mutual
def Tr.ev (k p:Str)(w:Int):Tr→Bool
 | .any=>true
 | .kind us=>decide (k∈us)
 | .place us=>decide (p∈us)
 | .weight n=>decide (n≤w)
 | .not t=>!Tr.ev k p w t
 | .both ts=>(Trs.ev k p w ts).all id
 | .either ts=>(Trs.ev k p w ts).any id
def Trs.ev (k p:Str)(w:Int):Trs→List Bool
 | .nil=>[]
 | .cons t ts=>Tr.ev k p w t::Trs.ev k p w ts
end
mutual
def Tr.dp:Tr→Nat
 | .any=>0
 | .kind _=>0
 | .place _=>0
 | .weight _=>0
 | .not t=>Tr.dp t+1
 | .both ts=>Trs.dp ts+1
 | .either ts=>Trs.dp ts+1
def Trs.dp:Trs→Nat
 | .nil=>0
 | .cons t ts=>max (Tr.dp t) (Trs.dp ts)
end
mutual
def Tr.cnt:Tr→Nat
 | .any=>1
 | .kind us=>us.length
 | .place us=>us.length
 | .weight _=>1
 | .not t=>Tr.cnt t
 | .both ts=>Trs.cnt ts
 | .either ts=>Trs.cnt ts
def Trs.cnt:Trs→Nat
 | .nil=>0
 | .cons t ts=>Tr.cnt t+Trs.cnt ts
end
def okNs (us:List Str):Prop:=us≠[]∧us.length≤6∧(∀ u∈us,goodN u)∧us.Nodup
def Trs.toL:Trs→List Tr
 | .nil=>[]
 | .cons t ts=>t::ts.toL
mutual
def Tr.ok:Tr→Prop
 | .any=>True
 | .kind us=>okNs us
 | .place us=>okNs us
 | .weight n=>0≤n∧n < 1000000
 | .not t=>Tr.ok t
 | .both ts=>2≤ts.toL.length∧ts.toL.length≤6∧Trs.ok ts
 | .either ts=>2≤ts.toL.length∧ts.toL.length≤6∧Trs.ok ts
def Trs.ok:Trs→Prop
 | .nil=>True
 | .cons t ts=>Tr.ok t∧Trs.ok ts
end
theorem toL_ofL:∀ ts:List Tr,(Trs.ofL ts).toL=ts
 | []=>rfl
 | t::ts=>by rw [Trs.ofL,Trs.toL,toL_ofL ts]
theorem trs_ev {k p:Str}{w:Int}:∀ ts:Trs,Trs.ev k p w ts=ts.toL.map (Tr.ev k p w)
 | .nil=>rfl
 | .cons t ts=>by rw [Trs.ev,Trs.toL,List.map_cons,trs_ev ts]
theorem trs_dp:∀ {ts:Trs}{t:Tr},t∈ts.toL→t.dp≤ts.dp
 | .nil,t,h=>by cases h
 | .cons s ts,t,h=>by
  rw [Trs.toL] at h
  rw [Trs.dp]
  rcases List.mem_cons.mp h with rfl | h
  ·exact Nat.le_max_left _ _
  ·exact Nat.le_trans (trs_dp h) (Nat.le_max_right _ _)
theorem trs_dp_le {n:Nat}:∀ {ts:Trs},(∀ t∈ts.toL,t.dp≤n)→ts.dp≤n
 | .nil,_=>Nat.zero_le _
 | .cons s ts,h=>by
  rw [Trs.toL] at h
  rw [Trs.dp]
  exact Nat.max_le.mpr ⟨h s List.mem_cons_self,trs_dp_le fun t m=>h t (List.mem_cons_of_mem _ m)⟩
theorem trs_ok:∀ {ts:Trs},ts.ok ↔ ∀ t∈ts.toL,t.ok
 | .nil=>⟨fun _ t h=>(by cases h),fun _=>trivial⟩
 | .cons s ts=>by
  rw [Trs.toL,Trs.ok,trs_ok]
  exact ⟨fun h t m=>by
   rcases List.mem_cons.mp m with rfl | m
   ·exact h.1
   ·exact h.2 t m,fun h=>⟨h s List.mem_cons_self,fun t m=>h t (List.mem_cons_of_mem _ m)⟩⟩
theorem trs_cnt {n:Nat}:∀ {ts:Trs},(∀ t∈ts.toL,t.cnt≤n)→ts.cnt≤n * ts.toL.length
 | .nil,_=>Nat.zero_le _
 | .cons s ts,h=>by
  rw [Trs.toL] at h
  rw [Trs.toL,Trs.cnt,List.length_cons,Nat.mul_succ]
  have h1:=h s List.mem_cons_self
  have h2:=trs_cnt (ts:=ts) fun t m=>h t (List.mem_cons_of_mem _ m)
  omega
def Tr.tag:Tr→Nat
 | .any=>0
 | .kind _=>1
 | .place _=>2
 | .weight _=>3
 | .not _=>4
 | .both _=>5
 | .either _=>6
mutual
def Tr.At (H:Hp):Tr→V→Prop
 | .any,v=>∃ p,v=.ref p∧H p=some (.tup [.str "any"])
 | .kind us,v=>∃ p l,v=.ref p∧H p=some (.tup [.str "kind",.ref l])∧H l=some (.tup (us.map V.str))
 | .place us,v=>∃ p l,v=.ref p∧H p=some (.tup [.str "place",.ref l])∧H l=some (.tup (us.map V.str))
 | .weight n,v=>∃ p,v=.ref p∧H p=some (.tup [.str "weight",.int n])
 | .not t,v=>∃ p y,v=.ref p∧H p=some (.tup [.str "not",y])∧Tr.At H t y
 | .both ts,v=>∃ p l xs,v=.ref p∧H p=some (.tup [.str "both",.ref l])∧H l=some (.tup xs)∧Trs.At H ts xs
 | .either ts,v=>∃ p l xs,v=.ref p∧H p=some (.tup [.str "either",.ref l])∧H l=some (.tup xs)∧Trs.At H ts xs
def Trs.At (H:Hp):Trs→List V→Prop
 | .nil,xs=>xs=[]
 | .cons t ts,xs=>∃ y ys,xs=y::ys∧Tr.At H t y∧Trs.At H ts ys
end
theorem trs_at {H:Hp}:∀ {ts:Trs}{xs:List V},Trs.At H ts xs ↔ All2 (Tr.At H) ts.toL xs
 | .nil,xs=>by
  rw [Trs.At,Trs.toL]
  exact ⟨fun h=>h ▸ .nil,fun h=>by cases h; rfl⟩
 | .cons t ts,xs=>by
  rw [Trs.At,Trs.toL]
  constructor
  ·rintro ⟨y,ys,rfl,h1,h2⟩
   exact .cons h1 (trs_at.mp h2)
  ·intro h
   cases h with
   | cons h1 h2=>exact ⟨_,_,rfl,h1,trs_at.mpr h2⟩
def TupK (H H':Hp):Prop:=∀ b xs,H b=some (.tup xs)→H' b=some (.tup xs)
theorem same_tupK {H H':Hp}(s:Same H H'):TupK H H':=fun b _ e=>s b _ e
mutual
theorem Tr.At.keep {H H':Hp}(s:TupK H H'):∀ {t:Tr}{v:V},Tr.At H t v→Tr.At H' t v
 | .any,v,h=>by rw [Tr.At] at h ⊢; obtain ⟨p,e,h⟩:=h; exact ⟨p,e,s _ _ h⟩
 | .kind us,v,h=>by rw [Tr.At] at h ⊢; obtain ⟨p,l,e,h,k⟩:=h; exact ⟨p,l,e,s _ _ h,s _ _ k⟩
 | .place us,v,h=>by rw [Tr.At] at h ⊢; obtain ⟨p,l,e,h,k⟩:=h; exact ⟨p,l,e,s _ _ h,s _ _ k⟩
 | .weight n,v,h=>by rw [Tr.At] at h ⊢; obtain ⟨p,e,h⟩:=h; exact ⟨p,e,s _ _ h⟩
 | .not t,v,h=>by rw [Tr.At] at h ⊢; obtain ⟨p,y,e,h,k⟩:=h; exact ⟨p,y,e,s _ _ h,Tr.At.keep s k⟩
 | .both ts,v,h=>by rw [Tr.At] at h ⊢; obtain ⟨p,l,xs,e,h,k,m⟩:=h; exact ⟨p,l,xs,e,s _ _ h,s _ _ k,Trs.At.keep s m⟩
 | .either ts,v,h=>by rw [Tr.At] at h ⊢; obtain ⟨p,l,xs,e,h,k,m⟩:=h; exact ⟨p,l,xs,e,s _ _ h,s _ _ k,Trs.At.keep s m⟩
theorem Trs.At.keep {H H':Hp}(s:TupK H H'):∀ {ts:Trs}{xs:List V},Trs.At H ts xs→Trs.At H' ts xs
 | .nil,xs,h=>by rw [Trs.At] at h ⊢; exact h
 | .cons t ts,xs,h=>by rw [Trs.At] at h ⊢; obtain ⟨y,ys,e,h1,h2⟩:=h; exact ⟨y,ys,e,Tr.At.keep s h1,Trs.At.keep s h2⟩
end
theorem Tr.At.same {H H':Hp}{t:Tr}{v:V}(h:Tr.At H t v)(s:Same H H'):Tr.At H' t v:=h.keep (same_tupK s)
theorem but_tupK {H H':Hp}{w:Addr}(W:Well3 H w)(s:But w H H'):TupK H H':=fun b xs e=>s b _ (fun z=>by
 obtain ⟨x,y,u,q⟩:=W
 rw [z,q] at e
 cases e) e
theorem Tr.At.but3 {H H':Hp}{w:Addr}{t:Tr}{v:V}(h:Tr.At H t v)(W:Well3 H w)(s:But w H H'):Tr.At H' t v:=h.keep (but_tupK W s)
structure FC where
 Any:Addr
 Kind:Addr
 Place:Addr
 Least:Addr
 Not:Addr
 Both:Addr
 Either:Addr
def Tr.cls (c:FC):Tr→Addr
 | .any=>c.Any
 | .kind _=>c.Kind
 | .place _=>c.Place
 | .weight _=>c.Least
 | .not _=>c.Not
 | .both _=>c.Both
 | .either _=>c.Either
mutual
def Tr.Fit (c:FC)(H:Hp):Tr→V→Prop
 | .any,v=>∃ p dx,v=.ref p∧H p=some (.ins c.Any dx [])
 | .kind us,v=>∃ p dx l,v=.ref p∧H p=some (.ins c.Kind dx [("names",.ref l)])∧H l=some (.lst (us.map V.str))
 | .place us,v=>∃ p dx l,v=.ref p∧H p=some (.ins c.Place dx [("names",.ref l)])∧H l=some (.lst (us.map V.str))
 | .weight n,v=>∃ p dx,v=.ref p∧H p=some (.ins c.Least dx [("weight",.int n)])
 | .not t,v=>∃ p dx y,v=.ref p∧H p=some (.ins c.Not dx [("fit",y)])∧Tr.Fit c H t y
 | .both ts,v=>∃ p dx l xs,v=.ref p∧H p=some (.ins c.Both dx [("fits",.ref l)])∧H l=some (.lst xs)∧Trs.Fit c H ts xs
 | .either ts,v=>∃ p dx l xs,v=.ref p∧H p=some (.ins c.Either dx [("fits",.ref l)])∧H l=some (.lst xs)∧Trs.Fit c H ts xs
def Trs.Fit (c:FC)(H:Hp):Trs→List V→Prop
 | .nil,xs=>xs=[]
 | .cons t ts,xs=>∃ y ys,xs=y::ys∧Tr.Fit c H t y∧Trs.Fit c H ts ys
end
theorem trs_fit {c:FC}{H:Hp}:∀ {ts:Trs}{xs:List V},Trs.Fit c H ts xs ↔ All2 (Tr.Fit c H) ts.toL xs
 | .nil,xs=>by
  rw [Trs.Fit,Trs.toL]
  exact ⟨fun h=>h ▸ .nil,fun h=>by cases h; rfl⟩
 | .cons t ts,xs=>by
  rw [Trs.Fit,Trs.toL]
  constructor
  ·rintro ⟨y,ys,rfl,h1,h2⟩
   exact .cons h1 (trs_fit.mp h2)
  ·intro h
   cases h with
   | cons h1 h2=>exact ⟨_,_,rfl,h1,trs_fit.mpr h2⟩
mutual
theorem Tr.Fit.same {c:FC}{H H':Hp}(s:Same H H'):∀ {t:Tr}{v:V},Tr.Fit c H t v→Tr.Fit c H' t v
 | .any,v,h=>by rw [Tr.Fit] at h ⊢; obtain ⟨p,d,e,h⟩:=h; exact ⟨p,d,e,s _ _ h⟩
 | .kind us,v,h=>by rw [Tr.Fit] at h ⊢; obtain ⟨p,d,l,e,h,k⟩:=h; exact ⟨p,d,l,e,s _ _ h,s _ _ k⟩
 | .place us,v,h=>by rw [Tr.Fit] at h ⊢; obtain ⟨p,d,l,e,h,k⟩:=h; exact ⟨p,d,l,e,s _ _ h,s _ _ k⟩
 | .weight n,v,h=>by rw [Tr.Fit] at h ⊢; obtain ⟨p,d,e,h⟩:=h; exact ⟨p,d,e,s _ _ h⟩
 | .not t,v,h=>by rw [Tr.Fit] at h ⊢; obtain ⟨p,d,y,e,h,k⟩:=h; exact ⟨p,d,y,e,s _ _ h,Tr.Fit.same s k⟩
 | .both ts,v,h=>by rw [Tr.Fit] at h ⊢; obtain ⟨p,d,l,xs,e,h,k,m⟩:=h; exact ⟨p,d,l,xs,e,s _ _ h,s _ _ k,Trs.Fit.same s m⟩
 | .either ts,v,h=>by rw [Tr.Fit] at h ⊢; obtain ⟨p,d,l,xs,e,h,k,m⟩:=h; exact ⟨p,d,l,xs,e,s _ _ h,s _ _ k,Trs.Fit.same s m⟩
theorem Trs.Fit.same {c:FC}{H H':Hp}(s:Same H H'):∀ {ts:Trs}{xs:List V},Trs.Fit c H ts xs→Trs.Fit c H' ts xs
 | .nil,xs,h=>by rw [Trs.Fit] at h ⊢; exact h
 | .cons t ts,xs,h=>by rw [Trs.Fit] at h ⊢; obtain ⟨y,ys,e,h1,h2⟩:=h; exact ⟨y,ys,e,Tr.Fit.same s h1,Trs.Fit.same s h2⟩
end
theorem Tr.Fit.ins {c:FC}{H:Hp}{t:Tr}{v:V}(h:Tr.Fit c H t v):∃ p dx fs,v=.ref p∧H p=some (.ins (t.cls c) dx fs)∧fs.lookup ("fits_it":Str)=none:=by
 cases t with
 | any=>rw [Tr.Fit] at h; obtain ⟨p,d,e,h⟩:=h; exact ⟨p,d,_,e,h,rfl⟩
 | kind us=>rw [Tr.Fit] at h; obtain ⟨p,d,l,e,h,_⟩:=h; exact ⟨p,d,_,e,h,rfl⟩
 | place us=>rw [Tr.Fit] at h; obtain ⟨p,d,l,e,h,_⟩:=h; exact ⟨p,d,_,e,h,rfl⟩
 | weight n=>rw [Tr.Fit] at h; obtain ⟨p,d,e,h⟩:=h; exact ⟨p,d,_,e,h,rfl⟩
 | not t=>rw [Tr.Fit] at h; obtain ⟨p,d,y,e,h,_⟩:=h; exact ⟨p,d,_,e,h,rfl⟩
 | both ts=>rw [Tr.Fit] at h; obtain ⟨p,d,l,xs,e,h,_⟩:=h; exact ⟨p,d,_,e,h,rfl⟩
 | either ts=>rw [Tr.Fit] at h; obtain ⟨p,d,l,xs,e,h,_⟩:=h; exact ⟨p,d,_,e,h,rfl⟩
def DtAt (H:Hp)(n:Nat)(x:V):Prop:=∃ d,RD H x d∧PyData.canLay0 d=true∧PyData.depth d≤n
theorem DtAt.mono {H:Hp}{n m:Nat}{x:V}(h:DtAt H n x)(k:n≤m):DtAt H m x:=let ⟨d,r,c,e⟩:=h; ⟨d,r,c,Nat.le_trans e k⟩
theorem dts {H:Hp}{n:Nat}:∀ {xs:List V},(∀ x∈xs,DtAt H n x)→∃ ds,RDs H xs ds∧PyData.canLayAll0 ds=true∧PyData.depthAll ds≤n∧ds.length=xs.length
 | [],_=>⟨[],.nil,by simp [PyData.canLayAll0],by simp [PyData.depthAll],rfl⟩
 | x::xs,h=>by
  obtain ⟨d,r,c,e⟩:=h x List.mem_cons_self
  obtain ⟨ds,rs,cs,es,ls⟩:=dts (xs:=xs) fun y m=>h y (List.mem_cons_of_mem _ m)
  exact ⟨d::ds,.cons r rs,by simp only [PyData.canLayAll0,c,cs,Bool.and_self],by simp only [PyData.depthAll]; exact Nat.max_le.mpr ⟨e,es⟩,by rw [List.length_cons,List.length_cons,ls]⟩
theorem dt_tup {H:Hp}{n:Nat}{p:Addr}{xs:List V}(h:H p=some (.tup xs))(hx:∀ x∈xs,DtAt H n x):DtAt H (n+1) (.ref p):=by
 obtain ⟨ds,rs,cs,es,_⟩:=dts hx
 exact ⟨.tuple ds,.tup h rs,by simp only [PyData.canLay0]; exact cs,by simp only [PyData.depth]; omega⟩
theorem dt_str {H:Hp}{n:Nat}{u:Str}(h:PyData.strOk u=true):DtAt H n (.str u):=⟨.str u,.str u,by simp only [PyData.canLay0]; exact h,by simp only [PyData.depth]; omega⟩
theorem dt_int {H:Hp}{n:Nat}{i:Int}:DtAt H n (.int i):=⟨.int i,.int i,by simp only [PyData.canLay0],by simp only [PyData.depth]; omega⟩
theorem dt_strs {H:Hp}{n:Nat}{us:List Str}(h:∀ u∈us,goodN u):∀ x∈us.map V.str,DtAt H n x:=fun x hx=>by
 obtain ⟨u,hu,rfl⟩:=List.mem_map.mp hx
 exact dt_str (good_str (h u hu))
theorem dt_two {H:Hp}{n:Nat}{x y:V}(h1:DtAt H n x)(h2:DtAt H n y):∀ z∈[x,y],DtAt H n z:=fun z hz=>by
 simp only [List.mem_cons,List.not_mem_nil,or_false] at hz
 rcases hz with rfl | rfl
 ·exact h1
 ·exact h2
mutual
theorem Tr.At.dt {H:Hp}:∀ {t:Tr}{v:V},t.ok→t.At H v→DtAt H (2 * t.dp+2) v
 | .any,v,ho,h=>by
  rw [Tr.At] at h
  rw [Tr.dp]
  obtain ⟨p,rfl,h⟩:=h
  exact dt_tup h fun x hx=>by rw [List.mem_singleton.mp hx]; exact dt_str (by decide +kernel)
 | .kind us,v,ho,h=>by
  rw [Tr.At] at h
  rw [Tr.ok] at ho
  rw [Tr.dp]
  obtain ⟨p,l,rfl,h,k⟩:=h
  exact dt_tup h (dt_two (dt_str (by decide +kernel)) (dt_tup k (dt_strs ho.2.2.1)))
 | .place us,v,ho,h=>by
  rw [Tr.At] at h
  rw [Tr.ok] at ho
  rw [Tr.dp]
  obtain ⟨p,l,rfl,h,k⟩:=h
  exact dt_tup h (dt_two (dt_str (by decide +kernel)) (dt_tup k (dt_strs ho.2.2.1)))
 | .weight n,v,ho,h=>by
  rw [Tr.At] at h
  rw [Tr.dp]
  obtain ⟨p,rfl,h⟩:=h
  exact dt_tup h (dt_two (dt_str (by decide +kernel)) dt_int)
 | .not t,v,ho,h=>by
  rw [Tr.At] at h
  rw [Tr.ok] at ho
  rw [Tr.dp]
  obtain ⟨p,y,rfl,h,k⟩:=h
  exact (dt_tup h (dt_two (dt_str (by decide +kernel)) (Tr.At.dt ho k))).mono (by omega)
 | .both ts,v,ho,h=>by
  rw [Tr.At] at h
  rw [Tr.ok] at ho
  rw [Tr.dp]
  obtain ⟨p,l,xs,rfl,h,k,m⟩:=h
  exact (dt_tup h (dt_two (dt_str (by decide +kernel)) (dt_tup k (Trs.At.dt ho.2.2 m)))).mono (by omega)
 | .either ts,v,ho,h=>by
  rw [Tr.At] at h
  rw [Tr.ok] at ho
  rw [Tr.dp]
  obtain ⟨p,l,xs,rfl,h,k,m⟩:=h
  exact (dt_tup h (dt_two (dt_str (by decide +kernel)) (dt_tup k (Trs.At.dt ho.2.2 m)))).mono (by omega)
theorem Trs.At.dt {H:Hp}:∀ {ts:Trs}{xs:List V},ts.ok→ts.At H xs→∀ x∈xs,DtAt H (2 * ts.dp+2) x
 | .nil,xs,_,h=>by
  rw [Trs.At] at h
  rw [h]
  intro x hx
  cases hx
 | .cons t ts,xs,ho,h=>by
  rw [Trs.At] at h
  rw [Trs.ok] at ho
  rw [Trs.dp]
  obtain ⟨y,ys,rfl,h1,h2⟩:=h
  intro x hx
  rcases List.mem_cons.mp hx with rfl | hx
  ·exact (Tr.At.dt ho.1 h1).mono (by omega)
  ·exact (Trs.At.dt ho.2 h2 x hx).mono (by omega)
end
theorem eqd_nil {H:Hp}{p q:Addr}{xs:List V}{n:Nat}{b:Bool}{Q:VK}(h1:H p=some (.lst xs))(h2:H q=some (.lst []))(hn:n≤60)(hx:∀ x∈xs,DtAt H n x)(k:Q (.bl (xs.isEmpty == b)) H):rEqD b (.ref p) (.ref q) H Q:=by
 obtain ⟨ds,rs,cs,es,ls⟩:=dts hx
 refine ⟨_,_,.lst h1 rs,.lst h2 .nil,(shaped_of (Nat.le_trans es hn) ⟨cs,rfl⟩).1,(shaped_of (Nat.zero_le _) ⟨by simp [PyData.canLayAll0],by simp [PyData.depthAll]⟩).1,?_⟩
 rw [eqv_nil]
 have:ds.isEmpty=xs.isEmpty:=by
  cases ds <;> cases xs <;> first | rfl | cases ls
 rw [this]
 exact k
def ThAt (H:Hp)(x:V)(k p:Str)(w:Int):Prop:=∃ tp,x=.ref tp∧H tp=some (.tup [.str k,.str p,.int w])∧goodN k∧goodN p∧0≤w∧w < 1000000
theorem ThAt.same {H H':Hp}{x:V}{k p:Str}{w:Int}(h:ThAt H x k p w)(s:Same H H'):ThAt H' x k p w:=by
 obtain ⟨tp,e,h,r⟩:=h
 exact ⟨tp,e,s _ _ h,r⟩
section
variable {prog:Program}{w:World}{A:Around}{E:Value→Shared→Prop}
end
section
variable {X:Cx}{pos:Pos}
def gLst (K:Frag)(n:Nat)(t:TGs):TG:=fun v σ H Q=>∃ a xs,v=.ref a∧SqL K H a xs∧xs.length=n∧t xs σ H Q
theorem w_gLst {K:Frag}{n:Nat}{t:TGs}{v:V}{σ:L2.St}{H:Hp}{QS:L2.St→Hp→Prop}:gLst K n t v σ H QS=∃ a xs,v=.ref a∧SqL K H a xs∧xs.length=n∧t xs σ H QS:=rfl
end
mutual
def Tr.okl:Tr→Prop
 | .any=>True
 | .kind us=>okNs us
 | .place us=>okNs us
 | .weight n=>0≤n∧n < 1000000
 | .not t=>Tr.okl t
 | .both ts=>Trs.okl ts
 | .either ts=>Trs.okl ts
def Trs.okl:Trs→Prop
 | .nil=>True
 | .cons t ts=>Tr.okl t∧Trs.okl ts
end
mutual
theorem Tr.ok.l:∀ {t:Tr},t.ok→t.okl
 | .any,_=>trivial
 | .kind us,h=>by rw [Tr.ok] at h; rw [Tr.okl]; exact h
 | .place us,h=>by rw [Tr.ok] at h; rw [Tr.okl]; exact h
 | .weight n,h=>by rw [Tr.ok] at h; rw [Tr.okl]; exact h
 | .not t,h=>by rw [Tr.ok] at h; rw [Tr.okl]; exact Tr.ok.l h
 | .both ts,h=>by rw [Tr.ok] at h; rw [Tr.okl]; exact Trs.ok.l h.2.2
 | .either ts,h=>by rw [Tr.ok] at h; rw [Tr.okl]; exact Trs.ok.l h.2.2
theorem Trs.ok.l:∀ {ts:Trs},ts.ok→ts.okl
 | .nil,_=>trivial
 | .cons t ts,h=>by rw [Trs.ok] at h; rw [Trs.okl]; exact ⟨Tr.ok.l h.1,Trs.ok.l h.2⟩
end
section
variable {K:Frag}{σ:L2.St}{H:Hp}{Q:VK}{g:TG}{te ta tk tv:TE}{tA:TA}{t:TS}{D:Ends}{i:Nat}{ti:TIp}
theorem w_aug:tAug i te ti D σ H=∃ x,σ[i]?=some (some x)∧te σ H fun y H1=>ti x y H1 fun z H2=>D.nx (σ.set i (some z)) H2:=rfl
theorem w_dnew:tDNewK σ H Q=∀ p,H p=none→Q (.ref p) (L2.upd H p (.dK [])):=rfl
theorem w_disp:tDisp [(tk,tv)] σ H Q=∀ p,H p=none→tk σ (L2.upd H p (.dK [])) fun x H1=>tv σ H1 fun y H2=>(H2 p=some (.dK [])∧∃ kvs:List (Key × V),[(x,y)]=kvs.map (fun kv=>(kV kv.1,kv.2))∧kvs.length≤15∧Q (.ref p) (L2.upd H2 p (.dK (mergeK [] kvs)))):=rfl
def ForE (K:Frag)(a:Addr)(g:TG)(tb:TS)(D:Ends)(σ:L2.St)(H:Hp):Prop:=∃ W:Nat→Nat→L2.St→Hp→Prop,(∃ m,W 0 m σ H)∧∀ i m σ H,W i m σ H →
   ((Ite K a).stop i H∧D.nx σ H)∨((Ite K a).go i H∧∃ N:L2.St→Hp→Prop,(∀ σ' H',N σ' H'→∃ m',m' < m∧W (i+1) m' σ' H')∧∀ x H',(Ite K a).yld i H x H'→g x σ H' fun σ2 H2=>tb { D with nx:=N,ct:=N,bk:=D.nx } σ2 H2)
theorem w_forE:tFor (iEnum K tA) g t D σ H=tA σ H (fun vs H1=>∃ a,vs=[.ref a]∧(∃ xs,SqL K H1 a xs)∧ForE K a g t D σ H1):=rfl
theorem ForE.by {a:Addr}{xs:List V}(Pv:Nat→L2.St→Hp→Prop)(h0:Pv 0 σ H)(hl:∀ i σ H,i≤xs.length→Pv i σ H→SqL K H a xs)(hs:∀ i x σ H p,xs[i]?=some x→Pv i σ H→H p=none→g (.ref p) σ (L2.upd H p (.tup [.int (i:Nat),x])) fun σ2 H2=>t { D with nx:=Pv (i+1),ct:=Pv (i+1),bk:=D.nx } σ2 H2)(hd:∀ σ H,Pv xs.length σ H→D.nx σ H):ForE K a g t D σ H:=by
  refine ⟨fun i m σ H=>m=xs.length - i∧i≤xs.length∧Pv i σ H,⟨xs.length,by simp,Nat.zero_le _,h0⟩,?_⟩
  rintro i m σ H ⟨rfl,hi,p⟩
  have q:=hl i σ H hi p
  by_cases hlt:i < xs.length
  · refine .inr ⟨⟨xs,xs[i],q,by simp [hlt]⟩,Pv (i+1),fun σ' H' p'=>⟨xs.length - (i+1),by omega,rfl,hlt,p'⟩,fun x H' y=>?_⟩
    obtain ⟨pt,y1,e1,hn,e2,y⟩:=y
    subst e1 e2
    exact hs i y1 σ _ pt (y xs q) p hn
  · have e:i=xs.length:=by omega
    subst e
    exact .inl ⟨⟨xs,q,Nat.le_refl _⟩,hd σ H p⟩
def ForS (u:Str)(g:TG)(tb:TS)(D:Ends)(σ:L2.St)(H:Hp):Prop:=∃ W:Nat→Nat→L2.St→Hp→Prop,(∃ m,W 0 m σ H)∧∀ i m σ H,W i m σ H →
   ((Its u).stop i H∧D.nx σ H)∨((Its u).go i H∧∃ N:L2.St→Hp→Prop,(∀ σ' H',N σ' H'→∃ m',m' < m∧W (i+1) m' σ' H')∧∀ x H',(Its u).yld i H x H'→g x σ H' fun σ2 H2=>tb { D with nx:=N,ct:=N,bk:=D.nx } σ2 H2)
theorem w_forS:tFor (iStr ta) g t D σ H=ta σ H (fun x H1=>∃ u,x=.str u∧plainS u=true∧ForS u g t D σ H1):=rfl
theorem ForS.by {u:Str}(Pv:Nat→L2.St→Hp→Prop)(h0:Pv 0 σ H)(hs:∀ i c σ H,u.cps[i]?=some c→Pv i σ H→g (.str ⟨#[c]⟩) σ H fun σ2 H2=>t { D with nx:=Pv (i+1),ct:=Pv (i+1),bk:=D.nx } σ2 H2)(hd:∀ σ H,Pv u.cps.size σ H→D.nx σ H):ForS u g t D σ H:=by
  refine ⟨fun i m σ H=>m=u.cps.size - i∧i≤u.cps.size∧Pv i σ H,⟨u.cps.size,by simp,Nat.zero_le _,h0⟩,?_⟩
  rintro i m σ H ⟨rfl,hi,p⟩
  by_cases hlt:i < u.cps.size
  · refine .inr ⟨hlt,Pv (i+1),fun σ' H' p'=>⟨u.cps.size - (i+1),by omega,rfl,hlt,p'⟩,fun x H' y=>?_⟩
    obtain ⟨e,c,hc,ex⟩:=y
    subst e ex
    exact hs i c σ _ hc p
  · have e:i=u.cps.size:=by omega
    subst e
    exact .inl ⟨Nat.le_refl _,hd σ H p⟩
end
section
variable {H:Hp}{Q:VK}{a:Addr}{kvs:List (Key × V)}{v:V}
theorem ixdI {n:Int}(h:H a=some (.dK kvs))(hv:valV kvs (Sum.inl n)=some v)(q:Q v H):rIxD (.ref a) (.int n) H Q:=⟨a,kvs,Sum.inl n,v,rfl,h,rfl,hv,q⟩
theorem indS {u:Str}(h:H a=some (.dK kvs))(q:Q (.bl (valV kvs (Sum.inr u)).isSome) H):rInD (.str u) (.ref a) H Q:=⟨a,kvs,Sum.inr u,rfl,h,rfl,q⟩
theorem setd {k:Key}{R:Hp→Prop}(h:H a=some (.dK kvs))(l:kvs.length≤1000)(q:R (L2.upd H a (.dK (putK kvs k v)))):rSetD (.ref a) (kV k) v H R:=⟨a,kvs,k,rfl,rfl,h,by rw [sizeLine_eq]; omega,q⟩
end
def maskL:List Bool→Nat
 | []=>0
 | b::bs=>2 * maskL bs+b.toNat
theorem mask_bit:∀ (bs:List Bool) (i:Nat),(maskL bs).testBit i=(bs[i]?).getD false
 | [],i=>by simp [maskL]
 | b::bs,0=>by
  rw [maskL,Nat.testBit_zero]
  cases b <;> simp <;> omega
 | b::bs,i+1=>by
  rw [maskL,Nat.testBit_succ,List.getElem?_cons_succ,← mask_bit bs i]
  congr 1
  cases b <;> simp [Bool.toNat] <;> omega
def mk (ws:List Int)(f:Int→Bool):Nat:=maskL (ws.map f)
theorem mk_bit (ws:List Int)(f:Int→Bool)(i:Nat):(mk ws f).testBit i=((ws[i]?).map f).getD false:=by
 rw [mk,mask_bit,List.getElem?_map]
theorem mk_congr {ws:List Int}{f g:Int→Bool}(h:∀ w∈ws,f w=g w):mk ws f=mk ws g:=by
 rw [mk,mk,List.map_congr_left h]
theorem mk_and (ws:List Int)(f g:Int→Bool):Builtin.bitAnd (mk ws f) (mk ws g)=(mk ws (fun w=>f w && g w):Nat):=by
 have e:mk ws f &&& mk ws g=mk ws (fun w=>f w && g w):=by
  refine Nat.eq_of_testBit_eq fun i=>?_
  rw [Nat.testBit_and,mk_bit,mk_bit,mk_bit]
  cases ws[i]? <;> rfl
 have h:Builtin.bitAnd (mk ws f) (mk ws g)=((mk ws f &&& mk ws g:Nat):Int):=by
  unfold Builtin.bitAnd
  rw [decide_eq_true (Int.natCast_nonneg _),decide_eq_true (Int.natCast_nonneg _)]
  rfl
 rw [h,e]
theorem bitOr_nat (a b:Nat):Builtin.bitOr a b=((a ||| b:Nat):Int):=by
 have n:∀ x:Nat,Builtin.bitNot (x:Int)=-(x:Int) - 1:=fun x=>by unfold Builtin.bitNot; omega
 unfold Builtin.bitOr
 rw [n,n]
 unfold Builtin.bitAnd
 rw [decide_eq_false (by omega),decide_eq_false (by omega)]
 have m:∀ x:Nat,(Builtin.bitNot (-(x:Int) - 1)).toNat=x:=fun x=>by unfold Builtin.bitNot; omega
 dsimp only
 rw [m,m]
 unfold Builtin.bitNot
 omega
theorem mk_or (ws:List Int)(f g:Int→Bool):Builtin.bitOr (mk ws f) (mk ws g)=(mk ws (fun w=>f w || g w):Nat):=by
 have e:mk ws f ||| mk ws g=mk ws (fun w=>f w || g w):=by
  refine Nat.eq_of_testBit_eq fun i=>?_
  rw [Nat.testBit_or,mk_bit,mk_bit,mk_bit]
  cases ws[i]? <;> rfl
 rw [bitOr_nat,e]
theorem mk_add:∀ (ws:List Int) (f g:Int→Bool),(∀ w∈ws,g w=true→f w=true)→mk ws (fun w=>f w && !g w)+mk ws g=mk ws f
 | [],_,_,_=>rfl
 | w::ws,f,g,h=>by
  have ih:=mk_add ws f g fun x hx=>h x (List.mem_cons_of_mem _ hx)
  have h0:=h w (List.mem_cons_self ..)
  unfold mk at ih ⊢
  rw [List.map_cons,List.map_cons,List.map_cons,maskL,maskL,maskL]
  cases hf:f w <;> cases hg:g w <;> rw [hf,hg] at h0 <;> simp [Bool.toNat] at h0 ⊢ <;> omega
theorem mk_xor (ws:List Int)(f g:Int→Bool)(h:∀ w∈ws,g w=true→f w=true):Builtin.bitXor (mk ws f) (mk ws g)=(mk ws (fun w=>f w && !g w):Nat):=by
 unfold Builtin.bitXor
 rw [mk_or,mk_and]
 have e1:mk ws (fun w=>f w || g w)=mk ws f:=mk_congr fun w hw=>by
  have:=h w hw
  cases hf:f w <;> cases hg:g w <;> rw [hf,hg] at this <;> simp at this ⊢
 have e2:mk ws (fun w=>f w && g w)=mk ws g:=mk_congr fun w hw=>by
  have:=h w hw
  cases hf:f w <;> cases hg:g w <;> rw [hf,hg] at this <;> simp at this ⊢
 have:=mk_add ws f g h
 rw [e1,e2]
 omega
theorem mk_none (ws:List Int):mk ws (fun _=>false)=0:=by
 refine Nat.eq_of_testBit_eq fun i=>?_
 rw [mk_bit,Nat.zero_testBit]
 cases ws[i]? <;> rfl
theorem mk_zero {ws:List Int}{f:Int→Bool}(h:mk ws f=0):∀ w∈ws,f w=false:=fun w hw=>by
 obtain ⟨i,hi⟩:=List.getElem?_of_mem hw
 have:=mk_bit ws f i
 rw [h,Nat.zero_testBit,hi] at this
 simpa using this.symm
theorem mk_top {ws:List Int}{f:Int→Bool}(h:mk ws f≠0):∃ w,ws[(mk ws f).log2]?=some w∧f w=true:=by
 have:=Nat.testBit_log2 h
 rw [mk_bit] at this
 cases e:ws[(mk ws f).log2]? with
 | none=>rw [e] at this; cases this
 | some w=>rw [e] at this; exact ⟨w,rfl,by simpa using this⟩
theorem bits_of {m:Nat}(h:m≠0):((Builtin.Int.intBits (m:Int):Nat):Int) - 1=((m.log2:Nat):Int):=by
 unfold Builtin.Int.intBits
 rw [if_neg (by simpa using h),Int.natAbs_natCast]
 omega
structure Falls (ws:List Int):Prop where
 lt:ws.Pairwise (· > ·)
 zero:(0:Int)∈ws
 pos:∀ w∈ws,0≤w
theorem Falls.nodup {ws:List Int}(h:Falls ws):ws.Nodup:=h.lt.imp fun h e=>by omega
theorem mk_least {ws:List Int}(h:ws.Pairwise (· > ·)){i:Nat}{n:Int}(e:ws[i]?=some n):mk ws (fun w=>decide (n≤w))=2 ^ (i+1) - 1:=by
 refine Nat.eq_of_testBit_eq fun j=>?_
 rw [mk_bit,Nat.testBit_two_pow_sub_one]
 obtain ⟨hi,rfl⟩:=List.getElem?_eq_some_iff.mp e
 by_cases hj:j < ws.length
 ·rw [List.getElem?_eq_getElem hj]
  simp only [Option.map_some,Option.getD_some]
  rw [decide_eq_decide]
  rcases Nat.lt_trichotomy i j with h1 | h1 | h1
  ·have:=List.pairwise_iff_getElem.mp h i j hi hj h1
   omega
  ·subst h1; omega
  ·have:=List.pairwise_iff_getElem.mp h j i hj hi h1
   omega
 ·rw [List.getElem?_eq_none (by omega)]
  simp only [Option.map_none,Option.getD_none]
  exact (decide_eq_false (by omega)).symm
def fwE (p:Int × Nat):Key × V:=(Sum.inl p.1,.int ((2 ^ (p.2+1) - 1:Nat):Int))
def fwK (ws:List Int):List (Key × V):=ws.zipIdx.map fwE
theorem fwK_snoc (ws:List Int)(w:Int):fwK (ws++[w])=fwK ws++[(Sum.inl w,.int ((2 ^ (ws.length+1) - 1:Nat):Int))]:=by
 unfold fwK
 rw [List.zipIdx_append,List.map_append]
 simp [fwE]
theorem fw_none:∀ (ws:List Int) (k:Nat) (w:Int),w ∉ ws→valV ((ws.zipIdx k).map fwE) (Sum.inl w)=none
 | [],_,_,_=>rfl
 | x::ws,k,w,h=>by
  rw [List.zipIdx_cons,List.map_cons,valV_neg (fun e=>h (by rw [← show x=w from Sum.inl.inj e]; exact List.mem_cons_self ..))]
  exact fw_none ws (k+1) w fun z=>h (List.mem_cons_of_mem _ z)
theorem fw_at:∀ (ws:List Int) (k i:Nat) (w:Int),ws.Nodup→ws[i]?=some w→valV ((ws.zipIdx k).map fwE) (Sum.inl w)=some (.int ((2 ^ (k+i+1) - 1:Nat):Int))
 | [],_,i,_,_,e=>by simp at e
 | x::ws,k,0,w,nd,e=>by
  have:x=w:=by simpa using e
  subst this
  rw [List.zipIdx_cons,List.map_cons,valV_pos (by rfl)]
  rfl
 | x::ws,k,i+1,w,nd,e=>by
  have e':ws[i]?=some w:=by simpa using e
  have ne:x≠w:=fun z=>(List.nodup_cons.mp nd).1 (by rw [z]; exact List.mem_of_getElem? e')
  rw [List.zipIdx_cons,List.map_cons,valV_neg (fun z=>ne (Sum.inl.inj z)),fw_at ws (k+1) i w (List.nodup_cons.mp nd).2 e']
  congr 5
  omega
theorem fw_keys (ws:List Int):(fwK ws).map (·.1)=ws.map Sum.inl:=by
 have:∀ (ws:List Int) (k:Nat),((ws.zipIdx k).map fwE).map (·.1)=ws.map Sum.inl:=fun ws=>by
  induction ws with
  | nil=>intro k; rfl
  | cons w ws ih=>intro k; rw [List.zipIdx_cons,List.map_cons,List.map_cons,List.map_cons,ih]; rfl
 exact this ws 0
theorem fw_len (ws:List Int):(fwK ws).length=ws.length:=by unfold fwK; rw [List.length_map,List.length_zipIdx]
theorem fw_get {ws:List Int}(h:Falls ws){n:Int}(hn:n∈ws):valV (fwK ws) (Sum.inl n)=some (.int (mk ws (fun w=>decide (n≤w)):Nat)):=by
 obtain ⟨i,hi⟩:=List.getElem?_of_mem hn
 have:=fw_at ws 0 i n h.nodup hi
 rw [mk_least h.lt hi]
 rw [Nat.zero_add] at this
 exact this
theorem fw_zero {ws:List Int}(h:Falls ws):valV (fwK ws) (Sum.inl 0)=some (.int (mk ws (fun _=>true):Nat)):=by
 rw [fw_get h h.zero]
 congr 3
 exact mk_congr fun w hw=>decide_eq_true (h.pos w hw)
mutual
def Tr.names (b:Bool):Tr→List Str
 | .any=>[]
 | .kind us=>if b then us else []
 | .place us=>if b then [] else us
 | .weight _=>[]
 | .not t=>Tr.names b t
 | .both ts=>Trs.names b ts
 | .either ts=>Trs.names b ts
def Trs.names (b:Bool):Trs→List Str
 | .nil=>[]
 | .cons t ts=>Tr.names b t++Trs.names b ts
end
mutual
def Tr.wts:Tr→List Int
 | .any=>[]
 | .kind _=>[]
 | .place _=>[]
 | .weight n=>[n]
 | .not t=>Tr.wts t
 | .both ts=>Trs.wts ts
 | .either ts=>Trs.wts ts
def Trs.wts:Trs→List Int
 | .nil=>[]
 | .cons t ts=>Tr.wts t++Trs.wts ts
end
theorem trs_names (b:Bool):∀ ts:Trs,ts.names b=(ts.toL.map (Tr.names b)).flatten
 | .nil=>rfl
 | .cons t ts=>by rw [Trs.names,Trs.toL,List.map_cons,List.flatten_cons,trs_names b ts]
theorem trs_wts:∀ ts:Trs,ts.wts=(ts.toL.map Tr.wts).flatten
 | .nil=>rfl
 | .cons t ts=>by rw [Trs.wts,Trs.toL,List.map_cons,List.flatten_cons,trs_wts ts]
mutual
theorem Tr.names_le (b:Bool):∀ t:Tr,(t.names b).length≤t.cnt
 | .any=>Nat.zero_le _
 | .kind us=>by rw [Tr.names,Tr.cnt]; split <;> simp
 | .place us=>by rw [Tr.names,Tr.cnt]; split <;> simp
 | .weight _=>Nat.zero_le _
 | .not t=>by rw [Tr.names,Tr.cnt]; exact Tr.names_le b t
 | .both ts=>by rw [Tr.names,Tr.cnt]; exact Trs.names_le b ts
 | .either ts=>by rw [Tr.names,Tr.cnt]; exact Trs.names_le b ts
theorem Trs.names_le (b:Bool):∀ ts:Trs,(ts.names b).length≤ts.cnt
 | .nil=>Nat.zero_le _
 | .cons t ts=>by
  rw [Trs.names,Trs.cnt,List.length_append]
  exact Nat.add_le_add (Tr.names_le b t) (Trs.names_le b ts)
end
mutual
theorem Tr.wts_le:∀ t:Tr,t.wts.length≤t.cnt
 | .any=>Nat.zero_le _
 | .kind us=>Nat.zero_le _
 | .place us=>Nat.zero_le _
 | .weight _=>Nat.le_refl _
 | .not t=>by rw [Tr.wts,Tr.cnt]; exact Tr.wts_le t
 | .both ts=>by rw [Tr.wts,Tr.cnt]; exact Trs.wts_le ts
 | .either ts=>by rw [Tr.wts,Tr.cnt]; exact Trs.wts_le ts
theorem Trs.wts_le:∀ ts:Trs,ts.wts.length≤ts.cnt
 | .nil=>Nat.zero_le _
 | .cons t ts=>by
  rw [Trs.wts,Trs.cnt,List.length_append]
  exact Nat.add_le_add (Tr.wts_le t) (Trs.wts_le ts)
end
mutual
theorem Tr.names_good (b:Bool):∀ t:Tr,t.ok→∀ u∈t.names b,goodN u
 | .any,_,u,h=>nomatch h
 | .kind us,o,u,h=>by
  rw [Tr.ok] at o; rw [Tr.names] at h
  split at h
  ·exact o.2.2.1 u h
  ·exact nomatch h
 | .place us,o,u,h=>by
  rw [Tr.ok] at o; rw [Tr.names] at h
  split at h
  ·exact nomatch h
  ·exact o.2.2.1 u h
 | .weight _,_,u,h=>nomatch h
 | .not t,o,u,h=>by rw [Tr.ok] at o; rw [Tr.names] at h; exact Tr.names_good b t o u h
 | .both ts,o,u,h=>by rw [Tr.ok] at o; rw [Tr.names] at h; exact Trs.names_good b ts o.2.2 u h
 | .either ts,o,u,h=>by rw [Tr.ok] at o; rw [Tr.names] at h; exact Trs.names_good b ts o.2.2 u h
theorem Trs.names_good (b:Bool):∀ ts:Trs,ts.ok→∀ u∈ts.names b,goodN u
 | .nil,_,u,h=>nomatch h
 | .cons t ts,o,u,h=>by
  rw [Trs.ok] at o; rw [Trs.names] at h
  rcases List.mem_append.mp h with h | h
  ·exact Tr.names_good b t o.1 u h
  ·exact Trs.names_good b ts o.2 u h
end
mutual
theorem Tr.wts_ok:∀ t:Tr,t.ok→∀ n∈t.wts,0≤n
 | .any,_,u,h=>nomatch h
 | .kind us,_,u,h=>nomatch h
 | .place us,_,u,h=>nomatch h
 | .weight n,o,u,h=>by rw [Tr.ok] at o; rw [Tr.wts] at h; rw [List.mem_singleton.mp h]; exact o.1
 | .not t,o,u,h=>by rw [Tr.ok] at o; rw [Tr.wts] at h; exact Tr.wts_ok t o u h
 | .both ts,o,u,h=>by rw [Tr.ok] at o; rw [Tr.wts] at h; exact Trs.wts_ok ts o.2.2 u h
 | .either ts,o,u,h=>by rw [Tr.ok] at o; rw [Tr.wts] at h; exact Trs.wts_ok ts o.2.2 u h
theorem Trs.wts_ok:∀ ts:Trs,ts.ok→∀ n∈ts.wts,0≤n
 | .nil,_,u,h=>nomatch h
 | .cons t ts,o,u,h=>by
  rw [Trs.ok] at o; rw [Trs.wts] at h
  rcases List.mem_append.mp h with h | h
  ·exact Tr.wts_ok t o.1 u h
  ·exact Trs.wts_ok ts o.2 u h
end
mutual
theorem Tr.wts_lt:∀ t:Tr,t.ok→∀ n∈t.wts,n < 1000000
 | .any,_,u,h=>nomatch h
 | .kind us,_,u,h=>nomatch h
 | .place us,_,u,h=>nomatch h
 | .weight n,o,u,h=>by rw [Tr.ok] at o; rw [Tr.wts] at h; rw [List.mem_singleton.mp h]; exact o.2
 | .not t,o,u,h=>by rw [Tr.ok] at o; rw [Tr.wts] at h; exact Tr.wts_lt t o u h
 | .both ts,o,u,h=>by rw [Tr.ok] at o; rw [Tr.wts] at h; exact Trs.wts_lt ts o.2.2 u h
 | .either ts,o,u,h=>by rw [Tr.ok] at o; rw [Tr.wts] at h; exact Trs.wts_lt ts o.2.2 u h
theorem Trs.wts_lt:∀ ts:Trs,ts.ok→∀ n∈ts.wts,n < 1000000
 | .nil,_,u,h=>nomatch h
 | .cons t ts,o,u,h=>by
  rw [Trs.ok] at o; rw [Trs.wts] at h
  rcases List.mem_append.mp h with h | h
  ·exact Tr.wts_lt t o.1 u h
  ·exact Trs.wts_lt ts o.2 u h
end
mutual
theorem Tr.ev_eq {k k' p p':Str}{w w':Int}:∀ t:Tr,(∀ u∈t.names true,k=u ↔ k'=u)→(∀ u∈t.names false,p=u ↔ p'=u)→(∀ n∈t.wts,n≤w ↔ n≤w')→t.ev k p w=t.ev k' p' w'
 | .any,_,_,_=>rfl
 | .kind us,h,_,_=>by
  rw [Tr.ev,Tr.ev,decide_eq_decide]
  rw [Tr.names,if_pos rfl] at h
  exact ⟨fun m=>by have:=(h k m).mp rfl; rw [this]; exact m,fun m=>by have:=(h k' m).mpr rfl; rw [this]; exact m⟩
 | .place us,_,h,_=>by
  rw [Tr.ev,Tr.ev,decide_eq_decide]
  rw [Tr.names,if_neg (by decide)] at h
  exact ⟨fun m=>by have:=(h p m).mp rfl; rw [this]; exact m,fun m=>by have:=(h p' m).mpr rfl; rw [this]; exact m⟩
 | .weight n,_,_,h=>by
  rw [Tr.ev,Tr.ev,decide_eq_decide]
  exact h n (by rw [Tr.wts]; exact List.mem_singleton.mpr rfl)
 | .not t,h1,h2,h3=>by
  rw [Tr.names] at h1 h2; rw [Tr.wts] at h3
  rw [Tr.ev,Tr.ev,Tr.ev_eq t h1 h2 h3]
 | .both ts,h1,h2,h3=>by
  rw [Tr.names] at h1 h2; rw [Tr.wts] at h3
  rw [Tr.ev,Tr.ev,Trs.ev_eq ts h1 h2 h3]
 | .either ts,h1,h2,h3=>by
  rw [Tr.names] at h1 h2; rw [Tr.wts] at h3
  rw [Tr.ev,Tr.ev,Trs.ev_eq ts h1 h2 h3]
theorem Trs.ev_eq {k k' p p':Str}{w w':Int}:∀ ts:Trs,(∀ u∈ts.names true,k=u ↔ k'=u)→(∀ u∈ts.names false,p=u ↔ p'=u)→(∀ n∈ts.wts,n≤w ↔ n≤w')→ts.ev k p w=ts.ev k' p' w'
 | .nil,_,_,_=>rfl
 | .cons t ts,h1,h2,h3=>by
  rw [Trs.names] at h1 h2; rw [Trs.wts] at h3
  rw [Trs.ev,Trs.ev,Tr.ev_eq t (fun u m=>h1 u (List.mem_append_left _ m)) (fun u m=>h2 u (List.mem_append_left _ m)) (fun u m=>h3 u (List.mem_append_left _ m)),
   Trs.ev_eq ts (fun u m=>h1 u (List.mem_append_right _ m)) (fun u m=>h2 u (List.mem_append_right _ m)) (fun u m=>h3 u (List.mem_append_right _ m))]
end
def won (ts:List Tr)(i:Nat)(k p:Str)(w:Int):Bool:=(ts[i]?.map (Tr.ev k p w)).getD false && (ts.take i).all fun t=>!t.ev k p w
def free (ts:List Tr)(i:Nat)(k p:Str)(w:Int):Bool:=(ts.take i).all fun t=>!t.ev k p w
theorem free_zero (ts:List Tr)(k p:Str):free ts 0 k p=fun _=>true:=by funext w; rfl
theorem won_at {ts:List Tr}{i:Nat}{t:Tr}(e:ts[i]?=some t)(k p:Str)(w:Int):won ts i k p w=(free ts i k p w && t.ev k p w):=by
 unfold won free
 rw [e,Bool.and_comm]
 rfl
theorem free_succ {ts:List Tr}{i:Nat}{t:Tr}(e:ts[i]?=some t)(k p:Str)(w:Int):free ts (i+1) k p w=(free ts i k p w && !won ts i k p w):=by
 rw [won_at e]
 unfold free
 rw [List.take_succ,e,Option.toList_some,List.all_append,List.all_cons,List.all_nil,Bool.and_true]
 cases (ts.take i).all (fun t=>!t.ev k p w) <;> simp
theorem won_eq {ts:List Tr}{i:Nat}{k k' p p':Str}{w w':Int}(h:∀ t∈ts,t.ev k p w=t.ev k' p' w'):won ts i k p w=won ts i k' p' w':=by
 unfold won
 have e1:(ts[i]?.map (Tr.ev k p w))=ts[i]?.map (Tr.ev k' p' w'):=by
  cases e:ts[i]? with
  | none=>rfl
  | some t=>rw [Option.map_some,Option.map_some,h t (List.mem_of_getElem? e)]
 rw [e1]
 congr 1
 rw [Bool.eq_iff_iff,List.all_eq_true,List.all_eq_true]
 exact ⟨fun q t m=>by rw [← h t (List.mem_of_mem_take m)]; exact q t m,fun q t m=>by rw [h t (List.mem_of_mem_take m)]; exact q t m⟩
theorem Falls.stand {ws:List Int}(h:Falls ws){w:Int}(w0:0≤w):∃ w'∈ws,∀ n∈ws,n≤w ↔ n≤w':=by
 have key:∀ l:List Int,l.Pairwise (· > ·)→(∃ x∈l,x≤w)→∃ w'∈l,w'≤w∧∀ n∈l,n≤w→n≤w':=by
  intro l
  induction l with
  | nil=>rintro _ ⟨x,hx,_⟩; cases hx
  | cons y l ih =>
   intro pw ⟨x,hx,hxw⟩
   by_cases hy:y≤w
   ·refine ⟨y,List.mem_cons_self ..,hy,fun n hn _=>?_⟩
    rcases List.mem_cons.mp hn with rfl | hn
    ·omega
    ·have:=(List.pairwise_cons.mp pw).1 n hn; omega
   ·obtain ⟨w',m,a,b⟩:=ih (List.pairwise_cons.mp pw).2 ⟨x,by
     rcases List.mem_cons.mp hx with rfl | hx
     ·exact absurd hxw hy
     ·exact hx,hxw⟩
    refine ⟨w',List.mem_cons_of_mem _ m,a,fun n hn hnw=>?_⟩
    rcases List.mem_cons.mp hn with rfl | hn
    ·exact absurd hnw hy
    ·exact b n hn hnw
 obtain ⟨w',m,a,b⟩:=key ws h.lt ⟨0,h.zero,w0⟩
 exact ⟨w',m,fun n hn=>⟨b n hn,fun z=>by omega⟩⟩
abbrev keysOf (kvs:List (Key × V)):List Key:=kvs.map (·.1)
theorem any_key (kvs:List (Key × V))(k:Key):((kvs.any fun kv=>decide (kv.1=k))=true) ↔ k∈keysOf kvs:=by
 rw [List.any_eq_true]
 constructor
 ·rintro ⟨x,m,h⟩
  exact List.mem_map.mpr ⟨x,m,of_decide_eq_true h⟩
 ·intro h
  obtain ⟨x,m,h⟩:=List.mem_map.mp h
  exact ⟨x,m,decide_eq_true h⟩
theorem keys_old {kvs:List (Key × V)}{k:Key}(v:V)(h:k∈keysOf kvs):keysOf (putK kvs k v)=keysOf kvs:=by
 unfold putK
 rw [if_pos ((any_key kvs k).mpr h)]
 unfold keysOf
 rw [List.map_map]
 apply List.map_congr_left
 intro x _
 show (if x.1=k then (x.1,v) else x).1=x.1
 split <;> rfl
theorem keys_new {kvs:List (Key × V)}{k:Key}(v:V)(h:k ∉ keysOf kvs):keysOf (putK kvs k v)=keysOf kvs++[k]:=by
 unfold putK
 rw [if_neg (fun z=>h ((any_key kvs k).mp z))]
 unfold keysOf
 rw [List.map_append]
 rfl
structure Grow (kvs kvs':List (Key × V)) (new:List Key):Prop where
 mem:∀ k,k∈keysOf kvs' ↔ k∈keysOf kvs∨k∈new
 len:kvs'.length≤kvs.length+new.length
 nd:(keysOf kvs).Nodup→(keysOf kvs').Nodup
theorem Grow.refl (kvs:List (Key × V)):Grow kvs kvs []:=⟨fun k=>by simp,Nat.le_refl _,id⟩
theorem Grow.trans {a b c:List (Key × V)}{n m:List Key}(h:Grow a b n)(g:Grow b c m):Grow a c (n++m) :=
 ⟨fun k=>by rw [g.mem,h.mem,List.mem_append,or_assoc],by have:=h.len; have:=g.len; rw [List.length_append]; omega,fun z=>g.nd (h.nd z)⟩
theorem Grow.put (kvs:List (Key × V))(k:Key)(v:V):Grow kvs (putK kvs k v) [k]:=by
 by_cases m:k∈keysOf kvs
 ·have e:=keys_old v m
  refine ⟨fun j=>?_,length_putK kvs k v,fun h=>by rw [e]; exact h⟩
  rw [e,List.mem_singleton]
  exact ⟨.inl,fun z=>z.elim id fun e=>by rw [e]; exact m⟩
 ·have e:=keys_new v m
  refine ⟨fun j=>by rw [e,List.mem_append],length_putK kvs k v,fun h=>?_⟩
  rw [e,List.nodup_append]
  exact ⟨h,by simp,fun a ha b hb e=>m (by rw [List.mem_singleton.mp hb] at e; rw [← e]; exact ha)⟩
theorem valV_some (k:Key)(kvs:List (Key × V)):(valV kvs k).isSome=true ↔ k∈keysOf kvs:=by
 rw [← valV_any]
 exact any_key kvs k
def letS (n:Nat):Str:=⟨#[97+n]⟩
def cn (n:Nat):Str:=if n < 26 then letS n else letS (n / 26)++letS (n % 26)
theorem cn_good:∀ n < 200,goodN (cn n):=by decide +kernel
theorem cn_inj:∀ n < 200,∀ m < n,cn m≠cn n:=by decide +kernel
theorem cn_nodup {n:Nat}(h:n≤200):((List.range n).map cn).Nodup:=by
 rw [List.Nodup,List.pairwise_map]
 refine List.pairwise_lt_range.imp_of_mem fun {a b} ha hb lt=>?_
 exact cn_inj b (by have:=List.mem_range.mp hb; omega) a lt
theorem cn_few {n:Nat}{kvs:List (Key × V)}(h:n≤200)(hk:∀ m < n,Sum.inr (cn m)∈keysOf kvs):n≤kvs.length:=by
 have nd:((List.range n).map fun m=>(Sum.inr (cn m):Key)).Nodup:=by
  have:=cn_nodup h
  rw [List.Nodup,List.pairwise_map] at this ⊢
  exact this.imp fun h e=>h (Sum.inr.inj e)
 have:=nd.length_le_of_subset (l₂:=keysOf kvs) fun k hk'=>by
  obtain ⟨m,hm,rfl⟩:=List.mem_map.mp hk'
  exact hk m (List.mem_range.mp hm)
 rw [List.length_map,List.length_range,List.length_map] at this
 exact this
theorem let_at {n:Nat}(h:n < 26):atI ("abcdefghijklmnopqrstuvwxyz":Str).cps.toList (n:Int)=some (97+n):=by
 have:∀ k < 26,atI ("abcdefghijklmnopqrstuvwxyz":Str).cps.toList ((k:Nat):Int)=some (97+k):=by decide +kernel
 exact this n h
mutual
theorem Tr.cnt_pos:∀ t:Tr,t.ok→1≤t.cnt
 | .any,_=>Nat.le_refl _
 | .kind us,o=>by rw [Tr.ok] at o; rw [Tr.cnt]; have:=o.1; cases us with | nil=>exact absurd rfl this | cons a l=>simp
 | .place us,o=>by rw [Tr.ok] at o; rw [Tr.cnt]; have:=o.1; cases us with | nil=>exact absurd rfl this | cons a l=>simp
 | .weight _,_=>Nat.le_refl _
 | .not t,o=>by rw [Tr.ok] at o; rw [Tr.cnt]; exact Tr.cnt_pos t o
 | .both ts,o=>by rw [Tr.ok] at o; rw [Tr.cnt]; exact Nat.le_trans (by omega) (Trs.cnt_pos ts o.2.2)
 | .either ts,o=>by rw [Tr.ok] at o; rw [Tr.cnt]; exact Nat.le_trans (by omega) (Trs.cnt_pos ts o.2.2)
theorem Trs.cnt_pos:∀ ts:Trs,ts.ok→ts.toL.length≤ts.cnt
 | .nil,_=>Nat.le_refl _
 | .cons t ts,o=>by
  rw [Trs.ok] at o; rw [Trs.toL,Trs.cnt,List.length_cons]
  have:=Tr.cnt_pos t o.1
  have:=Trs.cnt_pos ts o.2
  omega
end
theorem sum_len {ts:List Tr}(h:∀ t∈ts,t.ok):ts.length≤(ts.map Tr.cnt).sum:=by
 induction ts with
 | nil=>exact Nat.le_refl _
 | cons t ts ih =>
  rw [List.length_cons,List.map_cons,List.sum_cons]
  have:=Tr.cnt_pos t (h t (List.mem_cons_self ..))
  have:=ih fun x m=>h x (List.mem_cons_of_mem _ m)
  omega
end Bw
set_option maxHeartbeats 8000000
namespace Bw
open PySem L2 PySem.W
local macro_rules | `(tactic| walk_at "sc") => `(tactic| exact ⟨rfl,rfl,rfl,by decide +kernel,rfl,by decide +kernel,by decide +kernel⟩)
local macro_rules | `(tactic| nofun) => `(tactic| try simp only [w_seq, w_next, w_ifS, w_ret, w_retN, w_drop, w_asg, w_gName, w_gSub, w_var, w_c, w_op, w_un, w_rU, w_rI0, w_rI, w_test, w_b, w_and, w_or, w_not, w_andV, w_orV, w_notV, w_if, w_cons, w_nil, w_tup, w_lst, w_call, w_cB, w_eq, w_ne, w_isN, w_notN, w_chain, w_sl, w_part, w_noPart, w_forL, w_for1, w_for2, w_K, w_for3, w_isnotB, w_raise, w_try, w_KX, w_cut, w_compL, w_comp1, w_comp2, w_yes, w_pick0, w_pickN, w_pickS, w_bm, w_bm0, w_tyS, w_addS, w_slS, w_blkK, w_strs, w_methD, w_makeN, w_make, w_fld, w_gTup, w_gCons, w_gNil, w_sFld, w_compS, w_tryB, w_bmake, w_noKeys, w_aug, w_dnew, w_disp, w_forE, w_forS, w_compT, w_forT, w_revL, w_gLst, w_bIf, w_makeK, w_nev, w_never, Option.getD_some,  exists_const, false_or, or_false, exists_false, w_s1, w_s2, w_s3, w_s4, w_s5, L2.start, List.map_cons, List.map_nil, List.length_cons, List.length_nil, List.replicate, List.replicate_zero, List.replicate_succ, Nat.reduceAdd, Nat.reduceSub, Nat.reduceLeDiff, List.cons_append, List.nil_append, List.append_nil, List.set_cons_zero, List.set_cons_succ, List.getElem?_cons_zero, List.getElem?_cons_succ, Option.some.injEq, V.int.injEq, V.bl.injEq, V.ref.injEq, V.str.injEq, V.ty.injEq, List.cons.injEq, and_true, true_and, exists_eq_left, exists_eq_left', exists_and_left, exists_eq, exists_eq', and_self, decide_eq_true_eq, Bool.not_eq_true', decide_eq_false_iff_not, Bool.true_eq_false, Bool.false_eq_true, if_true, if_false, ite_true, ite_false, false_and, and_false, and_assoc, reduceCtorEq])
local macro_rules | `(tactic| exists $[$es:term],*) => `(tactic| try simp only [$[$es:term],*, w_seq, w_next, w_ifS, w_ret, w_retN, w_drop, w_asg, w_gName, w_gSub, w_var, w_c, w_op, w_un, w_rU, w_rI0, w_rI, w_test, w_b, w_and, w_or, w_not, w_andV, w_orV, w_notV, w_if, w_cons, w_nil, w_tup, w_lst, w_call, w_cB, w_eq, w_ne, w_isN, w_notN, w_chain, w_sl, w_part, w_noPart, w_forL, w_for1, w_for2, w_K, w_for3, w_isnotB, w_raise, w_try, w_KX, w_cut, w_compL, w_comp1, w_comp2, w_yes, w_pick0, w_pickN, w_pickS, w_bm, w_bm0, w_tyS, w_addS, w_slS, w_blkK, w_strs, w_methD, w_makeN, w_make, w_fld, w_gTup, w_gCons, w_gNil, w_sFld, w_compS, w_tryB, w_bmake, w_noKeys, w_aug, w_dnew, w_disp, w_forE, w_forS, w_compT, w_forT, w_revL, w_gLst, w_bIf, w_makeK, w_nev, w_never, Option.getD_some,  exists_const, false_or, or_false, exists_false, w_s1, w_s2, w_s3, w_s4, w_s5, L2.start, List.map_cons, List.map_nil, List.length_cons, List.length_nil, List.replicate, List.replicate_zero, List.replicate_succ, Nat.reduceAdd, Nat.reduceSub, Nat.reduceLeDiff, List.cons_append, List.nil_append, List.append_nil, List.set_cons_zero, List.set_cons_succ, List.getElem?_cons_zero, List.getElem?_cons_succ, Option.some.injEq, V.int.injEq, V.bl.injEq, V.ref.injEq, V.str.injEq, V.ty.injEq, List.cons.injEq, and_true, true_and, exists_eq_left, exists_eq_left', exists_and_left, exists_eq, exists_eq', and_self, decide_eq_true_eq, Bool.not_eq_true', decide_eq_false_iff_not, Bool.true_eq_false, Bool.false_eq_true, if_true, if_false, ite_true, ite_false, false_and, and_false, and_assoc, reduceCtorEq])
def top (i:Nat):Stmt:=PySem.Challenge.pw_bellsaway_k10_what_parts_two_fits.main.body.getD i (.Pass ⟨0,0,0,0⟩)
abbrev s_is_whole:Stmt:=top 6
theorem sc_is_whole:FnScope ["thing"] ["thing"] (defScope s_is_whole):=by walk_at "sc"
abbrev s_is_whole_from:Stmt:=top 7
theorem sc_is_whole_from:FnScope ["thing","least"] ["thing","least"] (defScope s_is_whole_from):=by walk_at "sc"
abbrev s_is_name:Stmt:=top 11
theorem sc_is_name:FnScope ["thing"] ["thing"] (defScope s_is_name):=by walk_at "sc"
abbrev s_Happening___init__:Stmt:=inClass (top 12) 0
theorem sc_Happening___init__:FnScope ["self","kind","place","weight"] ["self","kind","place","weight"] (defScope s_Happening___init__):=by walk_at "sc"
abbrev s_are_unlike_names:Stmt:=top 14
theorem sc_are_unlike_names:FnScope ["thing"] ["thing"] (defScope s_are_unlike_names):=by walk_at "sc"
abbrev s_counted_name:Stmt:=top 15
theorem sc_counted_name:FnScope ["number","name"] ["number"] (defScope s_counted_name):=by walk_at "sc"
abbrev s_unused_name:Stmt:=top 16
theorem sc_unused_name:FnScope ["taken","number"] ["taken"] (defScope s_unused_name):=by walk_at "sc"
abbrev s_Any_note_turns:Stmt:=inClass (top 19) 1
theorem sc_Any_note_turns:FnScope ["self","kinds","places","weights"] ["self","kinds","places","weights"] (defScope s_Any_note_turns):=by walk_at "sc"
abbrev s_Any_weight_bits:Stmt:=inClass (top 19) 2
theorem sc_Any_weight_bits:FnScope ["self","kind","place","from_weight"] ["self","kind","place","from_weight"] (defScope s_Any_weight_bits):=by walk_at "sc"
abbrev s_Kind___init__:Stmt:=inClass (top 20) 0
theorem sc_Kind___init__:FnScope ["self","names"] ["self","names"] (defScope s_Kind___init__):=by walk_at "sc"
abbrev s_Kind_note_turns:Stmt:=inClass (top 20) 2
theorem sc_Kind_note_turns:FnScope ["self","kinds","places","weights"] ["self","kinds","places","weights"] (defScope s_Kind_note_turns):=by walk_at "sc"
abbrev s_Kind_weight_bits:Stmt:=inClass (top 20) 3
theorem sc_Kind_weight_bits:FnScope ["self","kind","place","from_weight"] ["self","kind","place","from_weight"] (defScope s_Kind_weight_bits):=by walk_at "sc"
abbrev s_Place___init__:Stmt:=inClass (top 21) 0
theorem sc_Place___init__:FnScope ["self","names"] ["self","names"] (defScope s_Place___init__):=by walk_at "sc"
abbrev s_Place_note_turns:Stmt:=inClass (top 21) 2
theorem sc_Place_note_turns:FnScope ["self","kinds","places","weights"] ["self","kinds","places","weights"] (defScope s_Place_note_turns):=by walk_at "sc"
abbrev s_Place_weight_bits:Stmt:=inClass (top 21) 3
theorem sc_Place_weight_bits:FnScope ["self","kind","place","from_weight"] ["self","kind","place","from_weight"] (defScope s_Place_weight_bits):=by walk_at "sc"
abbrev s_Least___init__:Stmt:=inClass (top 22) 0
theorem sc_Least___init__:FnScope ["self","weight"] ["self","weight"] (defScope s_Least___init__):=by walk_at "sc"
abbrev s_Least_note_turns:Stmt:=inClass (top 22) 2
theorem sc_Least_note_turns:FnScope ["self","kinds","places","weights"] ["self","kinds","places","weights"] (defScope s_Least_note_turns):=by walk_at "sc"
abbrev s_Least_weight_bits:Stmt:=inClass (top 22) 3
theorem sc_Least_weight_bits:FnScope ["self","kind","place","from_weight"] ["self","kind","place","from_weight"] (defScope s_Least_weight_bits):=by walk_at "sc"
abbrev s_Not___init__:Stmt:=inClass (top 23) 0
theorem sc_Not___init__:FnScope ["self","fit"] ["self","fit"] (defScope s_Not___init__):=by walk_at "sc"
abbrev s_Not_note_turns:Stmt:=inClass (top 23) 2
theorem sc_Not_note_turns:FnScope ["self","kinds","places","weights"] ["self","kinds","places","weights"] (defScope s_Not_note_turns):=by walk_at "sc"
abbrev s_Not_weight_bits:Stmt:=inClass (top 23) 3
theorem sc_Not_weight_bits:FnScope ["self","kind","place","from_weight"] ["self","kind","place","from_weight"] (defScope s_Not_weight_bits):=by walk_at "sc"
abbrev s_Both___init__:Stmt:=inClass (top 24) 0
theorem sc_Both___init__:FnScope ["self","fits"] ["self","fits"] (defScope s_Both___init__):=by walk_at "sc"
abbrev s_Both_note_turns:Stmt:=inClass (top 24) 2
theorem sc_Both_note_turns:FnScope ["self","kinds","places","weights","fit"] ["self","kinds","places","weights"] (defScope s_Both_note_turns):=by walk_at "sc"
abbrev s_Both_weight_bits:Stmt:=inClass (top 24) 3
theorem sc_Both_weight_bits:FnScope ["self","kind","place","from_weight","fitting","fit"] ["self","kind","place","from_weight"] (defScope s_Both_weight_bits):=by walk_at "sc"
abbrev s_Either___init__:Stmt:=inClass (top 25) 0
theorem sc_Either___init__:FnScope ["self","fits"] ["self","fits"] (defScope s_Either___init__):=by walk_at "sc"
abbrev s_Either_note_turns:Stmt:=inClass (top 25) 2
theorem sc_Either_note_turns:FnScope ["self","kinds","places","weights","fit"] ["self","kinds","places","weights"] (defScope s_Either_note_turns):=by walk_at "sc"
abbrev s_Either_weight_bits:Stmt:=inClass (top 25) 3
theorem sc_Either_weight_bits:FnScope ["self","kind","place","from_weight","fitting","fit"] ["self","kind","place","from_weight"] (defScope s_Either_weight_bits):=by walk_at "sc"
abbrev s_check_names:Stmt:=top 26
theorem sc_check_names:FnScope ["names"] ["names"] (defScope s_check_names):=by walk_at "sc"
abbrev s_check_fit:Stmt:=top 27
theorem sc_check_fit:FnScope ["fit"] ["fit"] (defScope s_check_fit):=by walk_at "sc"
abbrev s_check_fits:Stmt:=top 28
theorem sc_check_fits:FnScope ["fits","fit"] ["fits"] (defScope s_check_fits):=by walk_at "sc"
abbrev s_mark:Stmt:=top 29
theorem sc_mark:FnScope ["marks","things","thing"] ["marks","things"] (defScope s_mark):=by walk_at "sc"
abbrev s_parting:Stmt:=top 30
theorem sc_parting:FnScope ["one","other"] ["one","other"] (defScope s_parting):=by walk_at "sc"
abbrev s_firsts:Stmt:=top 31
theorem sc_firsts:FnScope ["fits","kinds","places","weights","fit","from_weight","found","kind","place"] ["fits"] (defScope s_firsts):=by walk_at "sc"
abbrev s_bits_from_weights:Stmt:=top 32
theorem sc_bits_from_weights:FnScope ["falling","from_weight","bits","weight"] ["falling"] (defScope s_bits_from_weights):=by walk_at "sc"
abbrev s_find_firsts:Stmt:=top 33
theorem sc_find_firsts:FnScope ["found","fits","kind","place","from_weight","free","number","fit","won","weight"] ["found","fits","kind","place","from_weight"] (defScope s_find_firsts):=by walk_at "sc"
abbrev s_law_cell_at:Stmt:=top 35
theorem sc_law_cell_at:FnScope ["_law_script","_law_k"] ["_law_script","_law_k"] (defScope s_law_cell_at):=by walk_at "sc"
abbrev s_law_begin:Stmt:=top 36
theorem sc_law_begin:FnScope ["_law_cell"] ["_law_cell"] (defScope s_law_begin):=by walk_at "sc"
abbrev s_law_next:Stmt:=top 37
theorem sc_law_next:FnScope ["_law_state","_law_base","_law_found","_law_number"] ["_law_state","_law_base"] (defScope s_law_next):=by walk_at "sc"
abbrev s_law_name:Stmt:=top 38
theorem sc_law_name:FnScope ["_law_state","_law_letters","_law_way","_law_some","_law_word","_law_at"] ["_law_state"] (defScope s_law_name):=by walk_at "sc"
abbrev s_law_leaf:Stmt:=top 39
theorem sc_law_leaf:FnScope ["_law_state","_law_more","_law_kind","_law_names","_law_k","_law_name_here"] ["_law_state","_law_more"] (defScope s_law_leaf):=by walk_at "sc"
abbrev s_law_tree:Stmt:=top 40
theorem sc_law_tree:FnScope ["_law_state","_law_deep","_law_more","_law_kind","_law_parts"] ["_law_state","_law_deep","_law_more"] (defScope s_law_tree):=by walk_at "sc"
abbrev s_law_made:Stmt:=top 41
theorem sc_law_made:FnScope ["_law_tree_here"] ["_law_tree_here"] (defScope s_law_made):=by walk_at "sc"
abbrev s_law_fits:Stmt:=top 42
theorem sc_law_fits:FnScope ["_law_tree_here","_law_thing"] ["_law_tree_here","_law_thing"] (defScope s_law_fits):=by walk_at "sc"
abbrev s_law_gathered:Stmt:=top 43
theorem sc_law_gathered:FnScope ["_law_tree_here","_law_word","_law_found","_law_part"] ["_law_tree_here","_law_word"] (defScope s_law_gathered):=by walk_at "sc"
abbrev s_law_beside:Stmt:=top 44
theorem sc_law_beside:FnScope ["_law_names","_law_letter"] ["_law_names"] (defScope s_law_beside):=by walk_at "sc"
abbrev s_law_all:Stmt:=top 45
theorem sc_law_all:FnScope ["_law_trees","_law_whole","_law_kinds","_law_places","_law_weights","_law_found","_law_kind","_law_place"] ["_law_trees"] (defScope s_law_all):=by walk_at "sc"
abbrev s_law_right:Stmt:=top 46
theorem sc_law_right:FnScope ["_law_found","_law_one","_law_other","_law_some","_law_thing"] ["_law_found","_law_one","_law_other","_law_some"] (defScope s_law_right):=by walk_at "sc"
abbrev s_law:Stmt:=top 47
theorem sc_law:FnScope ["_law_script","_law_one","_law_state","_law_way","_law_other","_law_some","_law_first","_law_second","_law_k","_law_found","_law_word","_law_name_here","_law_tree_here"] ["_law_script"] (defScope s_law):=by walk_at "sc"
structure Ad where
 Happening:Addr
 Fit:Addr
 Any:Addr
 Kind:Addr
 Place:Addr
 Least:Addr
 Not:Addr
 Both:Addr
 Either:Addr
 t0:Tok
 t1:Tok
structure Bt (K:Frag) (mg:Str→Option Value) (a:Ad):Prop where
 len:mg "len"=none
 int:mg "int"=none
 bool:mg "bool"=none
 str:mg "str"=none
 tuple:mg "tuple"=none
 list:mg "list"=none
 all:mg "all"=none
 isinstance:mg "isinstance"=none
 range:mg "range"=none
 set:mg "set"=none
 sorted:mg "sorted"=none
 enumerate:mg "enumerate"=none
 LETTERS:mg "LETTERS"=some (.str "abcdefghijklmnopqrstuvwxyz" a.t0)
 MOST_LETTERS:mg "MOST_LETTERS"=some (.int 8 a.t1)
 Happening:mg "Happening"=some (.ref a.Happening)
 Fit:mg "Fit"=some (.ref a.Fit)
 Any:mg "Any"=some (.ref a.Any)
 Kind:mg "Kind"=some (.ref a.Kind)
 Place:mg "Place"=some (.ref a.Place)
 Least:mg "Least"=some (.ref a.Least)
 Not:mg "Not"=some (.ref a.Not)
 Both:mg "Both"=some (.ref a.Both)
 Either:mg "Either"=some (.ref a.Either)
 ck_Any:ClsK K a.Any
 ck_Kind:ClsK K a.Kind
 na_Kind_names:NoAttr K a.Kind "names"
 ck_Place:ClsK K a.Place
 na_Place_names:NoAttr K a.Place "names"
 ck_Least:ClsK K a.Least
 na_Least_weight:NoAttr K a.Least "weight"
 ck_Not:ClsK K a.Not
 na_Not_fit:NoAttr K a.Not "fit"
 ck_Both:ClsK K a.Both
 na_Both_fits:NoAttr K a.Both "fits"
 ck_Either:ClsK K a.Either
 na_Either_fits:NoAttr K a.Either "fits"
 ck_Happening:ClsK K a.Happening
 na_Happening_kind:NoAttr K a.Happening "kind"
 na_Happening_place:NoAttr K a.Happening "place"
 na_Happening_weight:NoAttr K a.Happening "weight"
 is_Any_Fit:kitOne K (.ref a.Any) (.ref a.Fit)=some true
 is_Kind_Fit:kitOne K (.ref a.Kind) (.ref a.Fit)=some true
 is_Place_Fit:kitOne K (.ref a.Place) (.ref a.Fit)=some true
 is_Least_Fit:kitOne K (.ref a.Least) (.ref a.Fit)=some true
 is_Not_Fit:kitOne K (.ref a.Not) (.ref a.Fit)=some true
 is_Both_Fit:kitOne K (.ref a.Both) (.ref a.Fit)=some true
 is_Either_Fit:kitOne K (.ref a.Either) (.ref a.Fit)=some true
 mk_Any:MkN K a.Any
 is_Happening_Happening:kitOne K (.ref a.Happening) (.ref a.Happening)=some true
def okI (K:Frag)(H:Hp)(x:V):Prop:=∃ t,TyOf K H x t∧kitOne K t (.type "int")=some (isIntV x)∧kitOne K t (.type "bool")=some (isBoolV x)
def okK (K:Frag)(c:Value)(H:Hp)(x:V)(b:Bool):Prop:=∃ t,TyOf K H x t∧kitOne K t c=some b
abbrev noL (K:Frag)(H:Hp)(x:V):Prop:=∃ t,TyOf K H x t∧kitOne K t (.type "list")=some false
theorem okI.same {K:Frag}{H H':Hp}{x:V}(h:okI K H x)(s:Same H H'):okI K H' x:=let ⟨t,y,r⟩:=h; ⟨t,TyOf.same y s,r⟩
theorem okK.same {K:Frag}{c:Value}{H H':Hp}{x:V}{b:Bool}(h:okK K c H x b)(s:Same H H'):okK K c H' x b:=let ⟨t,y,r⟩:=h; ⟨t,TyOf.same y s,r⟩
def strV:V→Str
 | .str u=>u
 | _=>Str.empty
def namesB (xs:List V):Bool:=xs.all nameB && decide ((xs.map strV).Nodup)
theorem nameB_str {x:V}(h:nameB x=true):x=.str (strV x):=by cases x <;> first | rfl | cases h
theorem all_str:∀ {xs:List V},xs.all nameB=true→xs=(xs.map strV).map V.str
 | [],_=>rfl
 | x::xs,h=>by
  simp only [List.all_cons,Bool.and_eq_true] at h
  rw [List.map_cons,List.map_cons,← nameB_str h.1,← all_str h.2]
def NmIs (K:Frag)(H:Hp)(x:V)(b:Bool):Prop:=(∃ p xs,x=.ref p∧H p=some (.lst xs)∧xs.length≤100∧(∀ y∈xs,okN H y)∧b=namesB xs)∨(b=false∧noL K H x)
theorem putF_new {k:Str}{v:V}:∀ {fs:List (Str × V)},(∀ q∈fs,q.1≠k)→putF k v fs=fs++[(k,v)]
 | [],_=>rfl
 | (k0,v0)::fs,h=>by
  show (if k0=k then _ else _:List (Str × V))=_
  rw [if_neg (h (k0,v0) List.mem_cons_self),putF_new fun q hq=>h q (List.mem_cons_of_mem _ hq)]
  rfl
theorem same_id (H:Hp):Same H H:=fun _ _ z=>z
def tHold (t:TS):TS:=t
theorem w_hold {t:TS}{D:Ends}{σ:L2.St}{H:Hp}:tHold t D σ H=t D σ H:=rfl
theorem hold_ret {t:TE}{nx:L2.St→Hp→Prop}{rt:VK}{bk ct:L2.St→Hp→Prop}{σ:L2.St}{H:Hp}(h:t σ H rt):tHold (tRet t) { nx:=nx,rt:=rt,bk:=bk,ct:=ct } σ H:=h
local macro_rules | `(tactic| walk_at "ho") => `(tactic| (first | rw [w_hold] | (dsimp only; rw [w_hold])))
theorem qss_hold {X:Cx}{b:List Stmt}{t:TS}(h:QSs X b t):QSs X b (tHold t):=h
theorem made_but {H H':Hp}{x dx:Addr}{o o':HO}(hx:H x=none)(hd:H dx=none)(b:But x (upd (upd H dx o) x o') H'):Same H H':=fun c u e=>b c u (ne_of_none e hx) (made_same hx hd c u e)
abbrev fc (a:Ad):FC:=⟨a.Any,a.Kind,a.Place,a.Least,a.Not,a.Both,a.Either⟩
def hFs (k p:Str)(w:Int):List (Str × V):=[("kind",.str k),("place",.str p),("weight",.int w)]
def gdV (wd:Str)(x:V):Prop:=(wd="weight"∧∃ n:Int,x=.int n∧0≤n∧n < 1000000)∨(wd≠"weight"∧∃ u,x=.str u∧goodN u)
def But3 (x y z:Addr)(H H':Hp):Prop:=∀ b o,b≠x→b≠y→b≠z→H b=some o→H' b=some o
structure Three (H0 H:Hp) (x y z:Addr) (ks ps ws:List (Key × V)):Prop where
 nx:H0 x=none
 ny:H0 y=none
 nz:H0 z=none
 hx:H x=some (.dK ks)
 hy:H y=some (.dK ps)
 hz:H z=some (.dK ws)
 xy:x≠y
 xz:x≠z
 yz:y≠z
theorem same_but {H0 H H':Hp}{x:Addr}(s:Same H0 H)(n:H0 x=none)(b:But x H H'):Same H0 H':=fun c o e=>b c o (ne_of_none e n) (s c o e)
theorem same_but3 {H0 H H':Hp}{x y z:Addr}(s:Same H0 H)(n1:H0 x=none)(n2:H0 y=none)(n3:H0 z=none)(b:But3 x y z H H'):Same H0 H':=fun c o e=>b c o (ne_of_none e n1) (ne_of_none e n2) (ne_of_none e n3) (s c o e)
theorem But3.refl {x y z:Addr}{H:Hp}:But3 x y z H H:=fun _ _ _ _ _ e=>e
theorem But3.trans {x y z:Addr}{H H1 H2:Hp}(s:But3 x y z H H1)(t:But3 x y z H1 H2):But3 x y z H H2:=fun b o h1 h2 h3 e=>t b o h1 h2 h3 (s b o h1 h2 h3 e)
theorem Fit_ins2 {c:FC}{H:Hp}{t:Tr}{v:V}(h:Tr.Fit c H t v):∃ p dx fs,v=.ref p∧H p=some (.ins (t.cls c) dx fs)∧fs.lookup ("note_turns":Str)=none∧fs.lookup ("weight_bits":Str)=none:=by
 cases t with
 | any=>rw [Tr.Fit] at h; obtain ⟨p,d,e,h⟩:=h; exact ⟨p,d,_,e,h,rfl,rfl⟩
 | kind us=>rw [Tr.Fit] at h; obtain ⟨p,d,l,e,h,_⟩:=h; exact ⟨p,d,_,e,h,rfl,rfl⟩
 | place us=>rw [Tr.Fit] at h; obtain ⟨p,d,l,e,h,_⟩:=h; exact ⟨p,d,_,e,h,rfl,rfl⟩
 | weight n=>rw [Tr.Fit] at h; obtain ⟨p,d,e,h⟩:=h; exact ⟨p,d,_,e,h,rfl,rfl⟩
 | not t=>rw [Tr.Fit] at h; obtain ⟨p,d,y,e,h,_⟩:=h; exact ⟨p,d,_,e,h,rfl,rfl⟩
 | both ts=>rw [Tr.Fit] at h; obtain ⟨p,d,l,xs,e,h,_⟩:=h; exact ⟨p,d,_,e,h,rfl,rfl⟩
 | either ts=>rw [Tr.Fit] at h; obtain ⟨p,d,l,xs,e,h,_⟩:=h; exact ⟨p,d,_,e,h,rfl,rfl⟩
def sp_notes (a:Ad)(i d:Nat):Sp:=fun vs H Q E=>∃ (v:V) (t:Tr) (H0:Hp) (kd pd wd:Addr) (ks ps ws:List (Key × V)),vs=[v,.ref kd,.ref pd,.ref wd]∧t.tag=i∧t.dp < d∧t.ok∧t.Fit (fc a) H0 v∧Same H0 H∧Three H0 H kd pd wd ks ps ws∧ks.length+t.cnt≤900∧ps.length+t.cnt≤900∧ws.length+t.cnt≤900 ∧
 ∀ ks' ps' ws' H',But3 kd pd wd H H'→Three H0 H' kd pd wd ks' ps' ws'→Grow ks ks' ((t.names true).map Sum.inr)→Grow ps ps' ((t.names false).map Sum.inr)→Grow ws ws' (t.wts.map Sum.inl)→Q .non H'
theorem sp0_note_turns {a:Ad}{i:Nat}:∀ vs H Q E,¬ sp_notes a i 0 vs H Q E:=by
 rintro vs H Q E ⟨v,t,H0,kd,pd,wd,ks,ps,ws,_,_,h,_⟩
 exact absurd h (Nat.not_lt_zero _)
def Mm_note_turns (_:Frag)(a:Ad)(d:Nat)(C:Addr)(sp:Sp):Prop:=∃ t:Tr,C=t.cls (fc a)∧sp=sp_notes a t.tag d
theorem nt_at {K:Frag}{a:Ad}{H H0:Hp}{t:Tr}{p kd pd wd:Addr}{ks ps ws:List (Key × V)}{d:Nat}{Q:VK}(h:t.Fit (fc a) H0 (.ref p))(hd:t.dp < d)(ho:t.ok)(S:Same H0 H)(T:Three H0 H kd pd wd ks ps ws)(l1:ks.length+t.cnt≤900)(l2:ps.length+t.cnt≤900)(l3:ws.length+t.cnt≤900)(q:∀ ks' ps' ws' H',But3 kd pd wd H H'→Three H0 H' kd pd wd ks' ps' ws'→Grow ks ks' ((t.names true).map Sum.inr)→Grow ps ps' ((t.names false).map Sum.inr)→Grow ws ws' (t.wts.map Sum.inl)→Q .non H') :
  ∃ C dx fs,H p=some (.ins C dx fs)∧fs.lookup ("note_turns":Str)=none∧∃ sp,Mm_note_turns K a d C sp∧sp [.ref p,.ref kd,.ref pd,.ref wd] H Q E0:=by
 obtain ⟨p',dx,fs,e,hp',lk,_⟩:=Fit_ins2 h
 cases e
 exact ⟨_,dx,fs,S _ _ hp',lk,_,⟨t,rfl,rfl⟩,.ref p,t,H0,kd,pd,wd,ks,ps,ws,rfl,rfl,hd,ho,h,S,T,l1,l2,l3,q⟩
def sp_bits (a:Ad)(i d:Nat):Sp:=fun vs H Q E=>∃ (v:V) (t:Tr) (k p:Str) (fd:Addr) (ws:List Int),vs=[v,.str k,.str p,.ref fd]∧t.tag=i∧t.dp < d∧t.ok∧t.Fit (fc a) H v∧H fd=some (.dK (fwK ws))∧Falls ws∧(∀ n∈t.wts,n∈ws)∧Q (.int (mk ws (fun w=>t.ev k p w):Nat)) H
theorem sp0_weight_bits {a:Ad}{i:Nat}:∀ vs H Q E,¬ sp_bits a i 0 vs H Q E:=by
 rintro vs H Q E ⟨v,t,k,p,fd,ws,_,_,h,_⟩
 exact absurd h (Nat.not_lt_zero _)
def Mm_weight_bits (_:Frag)(a:Ad)(d:Nat)(C:Addr)(sp:Sp):Prop:=∃ t:Tr,C=t.cls (fc a)∧sp=sp_bits a t.tag d
theorem wb_at {K:Frag}{a:Ad}{H:Hp}{t:Tr}{q0 fd:Addr}{k p:Str}{ws:List Int}{d:Nat}{Q:VK}(h:t.Fit (fc a) H (.ref q0))(hd:t.dp < d)(ho:t.ok)(hf:H fd=some (.dK (fwK ws)))(F:Falls ws)(hw:∀ n∈t.wts,n∈ws)(q:Q (.int (mk ws (fun w=>t.ev k p w):Nat)) H) :
  ∃ C dx fs,H q0=some (.ins C dx fs)∧fs.lookup ("weight_bits":Str)=none∧∃ sp,Mm_weight_bits K a d C sp∧sp [.ref q0,.str k,.str p,.ref fd] H Q E0:=by
 obtain ⟨p',dx,fs,e,hp',_,lk⟩:=Fit_ins2 h
 cases e
 exact ⟨_,dx,fs,hp',lk,_,⟨t,rfl,rfl⟩,.ref q0,t,k,p,fd,ws,rfl,rfl,hd,ho,h,hf,F,hw,q⟩
def HapR (a:Ad)(H:Hp)(ts:List Tr)(i:Nat)(x:V):Prop:=∃ hp dh k p w,x=.ref hp∧H hp=some (.ins a.Happening dh (hFs k p w))∧goodN k∧goodN p∧0≤w∧w < 1000000∧won ts i k p w=true
theorem HapR.ins {a:Ad}{H H':Hp}{ts:List Tr}{i:Nat}{x:V}(h:HapR a H ts i x)(s:∀ b C d fs,H b=some (.ins C d fs)→H' b=some (.ins C d fs)):HapR a H' ts i x:=by
 obtain ⟨hp,dh,k,p,w,e,h,r⟩:=h
 exact ⟨hp,dh,k,p,w,e,s _ _ _ _ h,r⟩
def FoundR (a:Ad)(H:Hp)(ws:List Int)(ts:List Tr)(done:Nat→List (Str × Str))(rs:List V):Prop:=rs.length=ts.length∧∀ i x,rs[i]?=some x→(x=.non∧∀ q∈done i,∀ w∈ws,won ts i q.1 q.2 w=false)∨HapR a H ts i x
def FirR (a:Ad)(H:Hp)(ts:List Tr)(rs:List V):Prop:=rs.length=ts.length∧∀ i x,rs[i]?=some x→(x=.non∧∀ k p w,0≤w→won ts i k p w=false)∨HapR a H ts i x
def PartR (a:Ad)(H:Hp)(t1 t2:Tr)(r:V):Prop:=(r=.non∧∀ k p w,0≤w→t1.ev k p w=true→t2.ev k p w=true)∨∃ hp dh k p w,r=.ref hp∧H hp=some (.ins a.Happening dh (hFs k p w))∧goodN k∧goodN p∧0≤w∧w < 1000000∧t1.ev k p w=true∧t2.ev k p w=false
theorem PartR.same {a:Ad}{H H':Hp}{t1 t2:Tr}{r:V}(h:PartR a H t1 t2 r)(s:Same H H'):PartR a H' t1 t2 r:=by
 rcases h with h | ⟨hp,dh,k,p,w,e,h,q⟩
 ·exact .inl h
 ·exact .inr ⟨hp,dh,k,p,w,e,s _ _ h,q⟩
theorem strs_of:∀ {xs:List V},(∀ x∈xs,∃ u,x=.str u∧goodN u)→∃ us:List Str,xs=us.map V.str∧∀ u∈us,goodN u
 | [],_=>⟨[],rfl,fun u h=>nomatch h⟩
 | x::xs,h=>by
  obtain ⟨u,rfl,g⟩:=h x (List.mem_cons_self ..)
  obtain ⟨us,rfl,gs⟩:=strs_of (xs:=xs) fun y m=>h y (List.mem_cons_of_mem _ m)
  exact ⟨u::us,rfl,fun v m=>(List.mem_cons.mp m).elim (fun e=>by rw [e]; exact g) (gs v)⟩
def sp_is_whole (K:Frag)(a:Ad):Sp:=fun vs H Q E=>∃ x,vs=[x]∧okI K H x∧Q (.bl (wholeV x)) H
def sp_is_whole_from (K:Frag)(a:Ad):Sp:=fun vs H Q E=>∃ x lo,vs=[x,.int lo]∧okI K H x∧Q (.bl (fromV x lo)) H
def sp_is_name (K:Frag)(a:Ad):Sp:=fun vs H Q E=>∃ x,vs=[x]∧okN H x∧∀ H',Same H H'→Q (.bl (nameB x)) H'
def sp_Happening___init__ (K:Frag)(a:Ad):Sp:=fun vs H Q E=>∃ (p dx:Addr) (k l:Str) (w:Int),vs=[.ref p,.str k,.str l,.int w]∧H p=some (.ins a.Happening dx [])∧goodN k∧goodN l∧0≤w∧∀ H',But p H H'→H' p=some (.ins a.Happening dx (hFs k l w))→Q .non H'
def sp_are_unlike_names (K:Frag)(a:Ad):Sp:=fun vs H Q E=>∃ (x:V) (b:Bool),vs=[x]∧NmIs K H x b∧∀ H',Same H H'→Q (.bl b) H'
def sp_counted_name (K:Frag)(a:Ad):Sp:=fun vs H Q E=>∃ n:Nat,vs=[.int n]∧n < 200∧Q (.str (cn n)) H
def sp_unused_name (K:Frag)(a:Ad):Sp:=fun vs H Q E=>∃ (d:Addr) (kvs:List (Key × V)),vs=[.ref d]∧H d=some (.dK kvs)∧kvs.length≤150∧∀ u:Str,goodN u→Sum.inr u ∉ keysOf kvs→Q (.str u) H
abbrev sp_Any_note_turns (_:Frag)(a:Ad)(d:Nat):Sp:=sp_notes a 0 d
abbrev sp_Any_weight_bits (_:Frag)(a:Ad)(d:Nat):Sp:=sp_bits a 0 d
def sp_Kind___init__ (K:Frag)(a:Ad):Sp:=fun vs H Q E=>∃ (p dx l:Addr) (us:List Str),vs=[.ref p,.ref l]∧H p=some (.ins a.Kind dx [])∧H l=some (.lst (us.map V.str))∧okNs us∧∀ l' H',But p H H'→H' l'=some (.lst (us.map V.str))→H' p=some (.ins a.Kind dx [("names",.ref l')])→Q .non H'
abbrev sp_Kind_note_turns (_:Frag)(a:Ad)(d:Nat):Sp:=sp_notes a 1 d
abbrev sp_Kind_weight_bits (_:Frag)(a:Ad)(d:Nat):Sp:=sp_bits a 1 d
def sp_Place___init__ (K:Frag)(a:Ad):Sp:=fun vs H Q E=>∃ (p dx l:Addr) (us:List Str),vs=[.ref p,.ref l]∧H p=some (.ins a.Place dx [])∧H l=some (.lst (us.map V.str))∧okNs us∧∀ l' H',But p H H'→H' l'=some (.lst (us.map V.str))→H' p=some (.ins a.Place dx [("names",.ref l')])→Q .non H'
abbrev sp_Place_note_turns (_:Frag)(a:Ad)(d:Nat):Sp:=sp_notes a 2 d
abbrev sp_Place_weight_bits (_:Frag)(a:Ad)(d:Nat):Sp:=sp_bits a 2 d
def sp_Least___init__ (K:Frag)(a:Ad):Sp:=fun vs H Q E=>∃ (p dx:Addr) (n:Int),vs=[.ref p,.int n]∧H p=some (.ins a.Least dx [])∧0≤n∧Q .non (upd H p (.ins a.Least dx [("weight",.int n)]))
abbrev sp_Least_note_turns (_:Frag)(a:Ad)(d:Nat):Sp:=sp_notes a 3 d
abbrev sp_Least_weight_bits (_:Frag)(a:Ad)(d:Nat):Sp:=sp_bits a 3 d
def sp_Not___init__ (K:Frag)(a:Ad):Sp:=fun vs H Q E=>∃ (p dx:Addr) (v:V) (t:Tr),vs=[.ref p,v]∧H p=some (.ins a.Not dx [])∧t.Fit (fc a) H v∧Q .non (upd H p (.ins a.Not dx [("fit",v)]))
abbrev sp_Not_note_turns (_:Frag)(a:Ad)(d:Nat):Sp:=sp_notes a 4 d
abbrev sp_Not_weight_bits (_:Frag)(a:Ad)(d:Nat):Sp:=sp_bits a 4 d
def sp_Both___init__ (K:Frag)(a:Ad):Sp:=fun vs H Q E=>∃ (p dx l:Addr) (xs:List V) (ts:List Tr),vs=[.ref p,.ref l]∧H p=some (.ins a.Both dx [])∧H l=some (.lst xs)∧All2 (Tr.Fit (fc a) H) ts xs∧2≤xs.length∧xs.length≤100∧∀ l' H',But p H H'→H' l'=some (.lst xs)→H' p=some (.ins a.Both dx [("fits",.ref l')])→Q .non H'
abbrev sp_Both_note_turns (_:Frag)(a:Ad)(d:Nat):Sp:=sp_notes a 5 d
abbrev sp_Both_weight_bits (_:Frag)(a:Ad)(d:Nat):Sp:=sp_bits a 5 d
def sp_Either___init__ (K:Frag)(a:Ad):Sp:=fun vs H Q E=>∃ (p dx l:Addr) (xs:List V) (ts:List Tr),vs=[.ref p,.ref l]∧H p=some (.ins a.Either dx [])∧H l=some (.lst xs)∧All2 (Tr.Fit (fc a) H) ts xs∧2≤xs.length∧xs.length≤100∧∀ l' H',But p H H'→H' l'=some (.lst xs)→H' p=some (.ins a.Either dx [("fits",.ref l')])→Q .non H'
abbrev sp_Either_note_turns (_:Frag)(a:Ad)(d:Nat):Sp:=sp_notes a 6 d
abbrev sp_Either_weight_bits (_:Frag)(a:Ad)(d:Nat):Sp:=sp_bits a 6 d
def sp_check_names (K:Frag)(a:Ad):Sp:=fun vs H Q E=>∃ (l:Addr) (us:List Str),vs=[.ref l]∧H l=some (.lst (us.map V.str))∧okNs us∧∀ H',Same H H'→Q .non H'
def sp_check_fit (K:Frag)(a:Ad):Sp:=fun vs H Q E=>∃ (v:V) (t:Tr),vs=[v]∧t.Fit (fc a) H v∧Q .non H
def sp_check_fits (K:Frag)(a:Ad):Sp:=fun vs H Q E=>∃ (l:Addr) (xs:List V) (ts:List Tr),vs=[.ref l]∧H l=some (.lst xs)∧All2 (Tr.Fit (fc a) H) ts xs∧2≤xs.length∧xs.length≤100∧Q .non H
def sp_mark (K:Frag)(a:Ad):Sp:=fun vs H Q E=>∃ (d l:Addr) (kvs:List (Key × V)) (xs:List Key),vs=[.ref d,.ref l]∧H d=some (.dK kvs)∧H l=some (.lst (xs.map kV))∧kvs.length+xs.length≤1000∧∀ kvs' H',But d H H'→H' d=some (.dK kvs')→Grow kvs kvs' xs→Q .non H'
def sp_parting (K:Frag)(a:Ad):Sp:=fun vs H Q E=>∃ (v1 v2:V) (t1 t2:Tr),vs=[v1,v2]∧t1.Fit (fc a) H v1∧t2.Fit (fc a) H v2∧t1.ok∧t2.ok∧t1.dp < 5∧t2.dp < 5∧t1.cnt+t2.cnt≤60∧∀ r H',Same H H'→PartR a H' t1 t2 r→Q r H'
def sp_firsts (K:Frag)(a:Ad):Sp:=fun vs H Q E=>∃ (fl:Addr) (xs:List V) (ts:List Tr),vs=[.ref fl]∧H fl=some (.lst xs)∧All2 (Tr.Fit (fc a) H) ts xs∧(∀ t∈ts,t.ok∧t.dp < 5)∧(ts.map Tr.cnt).sum≤60∧∀ r rs H',Same H H'→H' r=some (.lst rs)→FirR a H' ts rs→Q (.ref r) H'
def sp_bits_from_weights (K:Frag)(a:Ad):Sp:=fun vs H Q E=>∃ (l:Addr) (ws:List Int),vs=[.ref l]∧H l=some (.lst (ws.map V.int))∧ws.Nodup∧ws.length≤900∧∀ d H',Same H H'→H' d=some (.dK (fwK ws))→Q (.ref d) H'
def sp_find_firsts (K:Frag)(a:Ad):Sp:=fun vs H Q E=>∃ (H0:Hp) (fo fl fd:Addr) (k p:Str) (xs rs:List V) (ts:List Tr) (ws:List Int) (done:List (Str × Str)),vs=[.ref fo,.ref fl,.str k,.str p,.ref fd]∧Same H0 H∧H0 fo=none∧H0 fl=some (.lst xs)∧All2 (Tr.Fit (fc a) H0) ts xs∧(∀ t∈ts,t.ok∧t.dp < 5)∧H fd=some (.dK (fwK ws))∧Falls ws∧(∀ w∈ws,w < 1000000)∧(∀ t∈ts,∀ n∈t.wts,n∈ws)∧goodN k∧goodN p∧H fo=some (.lst rs)∧FoundR a H ws ts (fun _=>done) rs∧∀ rs' H',But fo H H'→H' fo=some (.lst rs')→FoundR a H' ws ts (fun _=>(k,p)::done) rs'→Q .non H'
def sp_law_cell_at (K:Frag)(a:Ad):Sp:=fun vs H Q E=>∃ (b:Addr) (ns:List Int) (k:Int),vs=[.ref b,.int k]∧SqL K H b (ns.map V.int)∧0≤k∧∀ c,Q (.int c) H
def sp_law_begin (K:Frag)(a:Ad):Sp:=fun vs H Q E=>∃ c:Int,vs=[.int c]∧∀ p a b c,H p=none→Q (.ref p) (upd H p (.lst [.int a,.int b,.int c]))
def sp_law_next (K:Frag)(a:Ad):Sp:=fun vs H Q E=>∃ (w:Addr) (m:Int),vs=[.ref w,.int m]∧Well3 H w∧0 < m∧m < 2 ^ 62∧∀ (r:Int) (H':Hp),0≤r→r < m→Well3 H' w→But w H H'→Q (.int r) H'
def sp_law_name (K:Frag)(a:Ad):Sp:=fun vs H Q E=>∃ w:Addr,vs=[.ref w]∧Well3 H w∧∀ (u:Str) (H':Hp),goodN u→Well3 H' w→But w H H'→Q (.str u) H'
def sp_law_leaf (K:Frag)(a:Ad):Sp:=fun vs H Q E=>∃ (w:Addr) (m:Int),vs=[.ref w,.int m]∧Well3 H w∧0≤m∧m≤2∧∀ (v:V) (t:Tr) (H':Hp),t.At H' v→t.ok→t.dp=0→t.cnt≤3→Well3 H' w→But w H H'→Q v H'
def sp_law_tree (K:Frag)(a:Ad)(d:Nat):Sp:=fun vs H Q E=>∃ (w:Addr) (i:Nat) (m:Int),i < d∧vs=[.ref w,.int i,.int m]∧Well3 H w∧i≤3∧0≤m∧m≤2∧∀ (v:V) (t:Tr) (H':Hp),t.At H' v→t.ok→t.dp≤i→t.cnt≤3 * 3 ^ i→Well3 H' w→But w H H'→Q v H'
def sp_law_made (K:Frag)(a:Ad)(d:Nat):Sp:=fun vs H Q E=>∃ (v:V) (t:Tr),t.dp < d∧vs=[v]∧t.At H v∧t.ok∧∀ v' H',Same H H'→t.Fit (fc a) H' v'→Q v' H'
def sp_law_fits (K:Frag)(a:Ad)(d:Nat):Sp:=fun vs H Q E=>∃ (v x:V) (t:Tr) (k l:Str) (w:Int),t.dp < d∧t.dp < 20∧vs=[v,x]∧t.At H v∧t.ok∧ThAt H x k l w∧∀ H',Same H H'→Q (.bl (t.ev k l w)) H'
def sp_law_gathered (K:Frag)(a:Ad)(d:Nat):Sp:=fun vs H Q E=>∃ (v:V) (t:Tr) (wd:Str),t.dp < d∧vs=[v,.str wd]∧t.At H v∧t.ok∧t.cnt≤200∧(wd="kind"∨wd="place"∨wd="weight")∧∀ (l:Addr) (xs:List V) (H':Hp),Same H H'→H l=none→H' l=some (.lst xs)→xs.length≤t.cnt→(∀ x∈xs,gdV wd x)→Q (.ref l) H'
def sp_law_beside (K:Frag)(a:Ad):Sp:=fun vs H Q E=>∃ (l:Addr) (us:List Str),vs=[.ref l]∧H l=some (.lst (us.map V.str))∧us.length≤100∧∀ r u H',Same H H'→goodN u→H' r=some (.lst ((us++[u]).map V.str))→Q (.ref r) H'
def sp_law_all (K:Frag)(a:Ad):Sp:=fun vs H Q E=>∃ (l:Addr) (v1 v2:V) (t1 t2:Tr),vs=[.ref l]∧H l=some (.lst [v1,v2])∧t1.At H v1∧t2.At H v2∧t1.ok∧t2.ok∧t1.dp < 5∧t2.dp < 5∧t1.cnt+t2.cnt≤60∧∀ r xs H',Same H H'→H' r=some (.lst xs)→xs.length≤1000000→(∀ x∈xs,∃ k p w,ThAt H' x k p w)→Q (.ref r) H'
def sp_law_right (K:Frag)(a:Ad):Sp:=fun vs H Q E=>∃ (r v1 v2:V) (l:Addr) (xs:List V) (t1 t2:Tr),vs=[r,v1,v2,.ref l]∧t1.At H v1∧t2.At H v2∧t1.ok∧t2.ok∧t1.dp < 5∧t2.dp < 5∧H l=some (.lst xs)∧xs.length≤1000000∧(∀ x∈xs,∃ k p w,ThAt H x k p w)∧PartR a H t1 t2 r∧∀ H',Same H H'→Q (.bl true) H'
def spL (K:Frag):Sp:=fun vs H Q _=>∃ (a:Addr) (ns:List Int),vs=[.ref a]∧SqL K H a (ns.map V.int)∧ns.length≤63∧∀ H',Q (.bl true) H'
abbrev sp_law (K:Frag)(_:Ad):Sp:=spL K
theorem sp0_law_tree {K:Frag}{a:Ad}:∀ vs H Q E,¬ sp_law_tree K a 0 vs H Q E:=by
 rintro vs H Q E ⟨w,i,m,h,_⟩
 exact absurd h (Nat.not_lt_zero _)
theorem sp0_law_made {K:Frag}{a:Ad}:∀ vs H Q E,¬ sp_law_made K a 0 vs H Q E:=by
 rintro vs H Q E ⟨v,t,h,_⟩
 exact absurd h (Nat.not_lt_zero _)
theorem sp0_law_fits {K:Frag}{a:Ad}:∀ vs H Q E,¬ sp_law_fits K a 0 vs H Q E:=by
 rintro vs H Q E ⟨v,x,t,k,l,w,h,_⟩
 exact absurd h (Nat.not_lt_zero _)
theorem sp0_law_gathered {K:Frag}{a:Ad}:∀ vs H Q E,¬ sp_law_gathered K a 0 vs H Q E:=by
 rintro vs H Q E ⟨v,t,wd,h,_⟩
 exact absurd h (Nat.not_lt_zero _)
section
variable {P:Program}{w:World}{K:Frag}{mg:Str→Option Value}{base:Heap}{f:Addr}{fd:FuncData}{a:Ad}
theorem drw3 {H:Hp}{w:Addr}{m:Int}{Q:VK}{E:XK}(W:Well3 H w)(h0:0 < m)(h1:m < 2 ^ 62)(q:∀ (r:Int) (H':Hp),0≤r→r < m→Well3 H' w→But w H H'→Q (.int r) H'):sp_law_next K a [.ref w,.int m] H Q E:=⟨w,m,rfl,W,h0,h1,q⟩
theorem ok_is_whole (B:Bt K mg a)(F:Fun K "is_whole" "is_whole" s_is_whole f fd):FnOk P w K mg base CX0 1 f fd ["thing"] (sp_is_whole K a):=by
 refine F.ok sc_is_whole (fun vs H Q E h=>?_) (fun cdv A outer s H vs Q E hr h=>?_)
 ·obtain ⟨x,rfl,_⟩:=h
  rfl
 obtain ⟨x,rfl,⟨t,ty,ki,kb⟩,q⟩:=h
 refine ⟨_,(pss_of (qss_one (qs_ret (qe_of (pe_and (pe_callB (isiG_at (K:=K) (T:="int") rfl) rfl B.isinstance PyProof.Rows.boot_isinstance (pa_of (qa_c (pv 0) (qa_c (pe_bltn (v:=.ty "int") rfl B.int PyProof.Rows.boot_int rfl) qa_nil))) (he:=star_plain _ _ _ rfl) (hpl:=plain_any rfl)) (pe_one (pe_not (pe_callB (isiG_at (K:=K) (T:="bool") rfl) rfl B.isinstance PyProof.Rows.boot_isinstance (pa_of (qa_c (pv 0) (qa_c (pe_bltn (v:=.ty "bool") rfl B.bool PyProof.Rows.boot_bool rfl) qa_nil))) (he:=star_plain _ _ _ rfl) (hpl:=plain_any rfl))))))))),?_⟩
 nofun
 refine ⟨x,t,_,rfl,ty,ki,?_⟩
 nofun
 cases x <;> try simp only [isIntV,wholeV,w_seq,w_next,w_ifS,w_ret,w_retN,w_drop,w_asg,w_gName,w_gSub,w_var,w_c,w_op,w_un,w_rU,w_rI0,w_rI,w_test,w_b,w_and,w_or,w_not,w_andV,w_orV,w_notV,w_if,w_cons,w_nil,w_tup,w_lst,w_call,w_cB,w_eq,w_ne,w_isN,w_notN,w_chain,w_sl,w_part,w_noPart,w_forL,w_for1,w_for2,w_K,w_for3,w_isnotB,w_raise,w_try,w_KX,w_cut,w_compL,w_comp1,w_comp2,w_yes,w_pick0,w_pickN,w_pickS,w_bm,w_bm0,w_tyS,w_addS,w_slS,w_blkK,w_strs,w_methD,w_makeN,w_make,w_fld,w_gTup,w_gCons,w_gNil,w_sFld,w_compS,w_tryB,w_bmake,w_noKeys,w_aug,w_dnew,w_disp,w_forE,w_forS,w_compT,w_forT,w_revL,w_gLst,w_bIf,w_makeK,w_nev,w_never,Option.getD_some, exists_const,false_or,or_false,exists_false,w_s1,w_s2,w_s3,w_s4,w_s5,L2.start,List.map_cons,List.map_nil,List.length_cons,List.length_nil,List.replicate,List.replicate_zero,List.replicate_succ,Nat.reduceAdd,Nat.reduceSub,Nat.reduceLeDiff,List.cons_append,List.nil_append,List.append_nil,List.set_cons_zero,List.set_cons_succ,List.getElem?_cons_zero,List.getElem?_cons_succ,Option.some.injEq,V.int.injEq,V.bl.injEq,V.ref.injEq,V.str.injEq,V.ty.injEq,List.cons.injEq,and_true,true_and,exists_eq_left,exists_eq_left',exists_and_left,exists_eq,exists_eq',and_self,decide_eq_true_eq,Bool.not_eq_true',decide_eq_false_iff_not,Bool.true_eq_false,Bool.false_eq_true,if_true,if_false,ite_true,ite_false,false_and,and_false,and_assoc,reduceCtorEq] at * <;> first | exact q | exact ⟨_,t,_,rfl,ty,kb,q⟩ | (refine ⟨_,t,_,rfl,ty,kb,?_⟩; simpa [isBoolV] using q)
theorem ok_is_whole_from (B:Bt K mg a)(C_is_whole:CalX P w K mg base "is_whole" ["thing"] 1 (sp_is_whole K a))(F:Fun K "is_whole_from" "is_whole_from" s_is_whole_from f fd):FnOk P w K mg base CX0 2 f fd ["thing","least"] (sp_is_whole_from K a):=by
 refine F.ok sc_is_whole_from (fun vs H Q E h=>?_) (fun cdv A outer s H vs Q E hr h=>?_)
 ·obtain ⟨x,lo,rfl,_⟩:=h
  rfl
 obtain ⟨x,lo,rfl,ox,q⟩:=h
 refine ⟨_,(pss_of (qss_one (qs_ret (qe_of (pe_and (pe_calN C_is_whole (hr.mono (by decide)) rfl (pa_of (qa_c (pv 0) qa_nil)) (he:=star_plain _ _ _ rfl) (hpl:=plain_any rfl)) (pe_one (pe_cmpR op_le (pv 1) (pv 0) (nomark _)))))))),?_⟩
 nofun
 refine ⟨x,rfl,ox,?_⟩
 cases x <;> simp_all [wholeV,fromV]
theorem ok_is_name (B:Bt K mg a)(F:Fun K "is_name" "is_name" s_is_name f fd):FnOk P w K mg base CX0 1 f fd ["thing"] (sp_is_name K a):=by
 refine F.ok sc_is_name (fun vs H Q E h=>?_) (fun cdv A outer s H vs Q E hr h=>?_)
 ·obtain ⟨x,rfl,_⟩:=h
  rfl
 obtain ⟨x,rfl,ox,q⟩:=h
 refine ⟨_,(pss_of (qss_cons (qs_if (L2.PW.pt (pw_or (pt_not (pt_val (pe_callB call_isi_str rfl B.isinstance PyProof.Rows.boot_isinstance (pa_of (qa_c (pv 0) (qa_c (pe_bltn (v:=.ty "str") rfl B.str PyProof.Rows.boot_str rfl) qa_nil))) (he:=star_plain _ _ _ rfl) (hpl:=plain_any rfl)))) (pw_or (pt_cmpR op_lt (pe_callB call_len_str rfl B.len PySem.boot_len (pa_of (qa_c (pv 0) qa_nil))) pe_int (nomark _)) (pw_or1 (pt_cmpR op_gt (pe_callB call_len_str rfl B.len PySem.boot_len (pa_of (qa_c (pv 0) qa_nil))) (pe_glob (v:=.int 8) rfl B.MOST_LETTERS ⟨_,rfl⟩) (nomark _)))))) (qss_one (qs_ret (qe_of pe_bl))) qss_nil) (qss_one (qs_ret (qe_of (pe_callB (call_all rfl) rfl B.all PyProof.Rows.boot_all (pa_of (qa_c (pe_compB ["sign"] [none] rfl (by kernel_rfl) (pi_str (pv 0)) (fun cl C s H fp=>⟨(pg_name (i:=0) (by decide:List.Nodup (["sign"]:List Str)) rfl (Or.inl (by kernel_rfl)) (Or.inr (by kernel_rfl))),pts_nil,(pe_cmpR op_in_str (pv 0 (hv:=Or.inl (by kernel_rfl))) (pe_glob (v:=.str "abcdefghijklmnopqrstuvwxyz") (gl_of (by kernel_rfl)) B.LETTERS ⟨_,rfl⟩) (by with_unfolding_all rfl))⟩)) qa_nil)) (he:=star_plain _ _ _ rfl) (hpl:=plain_any rfl))))))),?_⟩
 cases x with
 | str u =>
  obtain ⟨hp,hl⟩:=id ox
  exists isStrV
  refine ⟨ox,sz8 hl,?_⟩
  by_cases h1:((u.length:Nat):Int) < 1
  ·rw [if_pos h1]
   have e:nameB (.str u)=false:=decide_eq_false fun g=>by have:=g.1; omega
   rw [e] at q
   exact q _ fun _ _ z=>z
  rw [if_neg h1]
  refine ⟨sz8 hl,?_⟩
  by_cases h2:(8:Int) < ((u.length:Nat):Int)
  ·rw [if_pos h2]
   have e:nameB (.str u)=false:=decide_eq_false fun g=>by have:=g.2.1; omega
   rw [e] at q
   exact q _ fun _ _ z=>z
  rw [if_neg h2]
  refine ⟨hp,?_⟩
  refine CompS.by (fun i acc σ H'=>acc=(u.cps.toList.take i).map (fun c=>V.bl (!(Builtin.Str.occurrences letters ⟨#[c]⟩ 0 letters.length 1).isEmpty))∧(∃ v,σ=[v])∧H'=H) (sz8 hl) ⟨rfl,⟨_,rfl⟩,rfl⟩ ?_ ?_ ?_
  ·rintro i c acc σ H' hc ⟨rfl,⟨v,rfl⟩,rfl⟩
   have hc':u.cps.toList[i]?=some c:=by simpa using hc
   have ea:(u.cps.toList.take i).map (fun c=>V.bl (!(Builtin.Str.occurrences letters ⟨#[c]⟩ 0 letters.length 1).isEmpty))++[V.bl (!(Builtin.Str.occurrences letters ⟨#[c]⟩ 0 letters.length 1).isEmpty)]=(u.cps.toList.take (i+1)).map (fun c=>V.bl (!(Builtin.Str.occurrences letters ⟨#[c]⟩ 0 letters.length 1).isEmpty)):=by
    rw [List.take_succ,hc',List.map_append]
    rfl
   nofun
   first | exact ea | exact ⟨ea,⟨_,rfl⟩,rfl⟩
  ·rintro i acc σ H' ⟨rfl,_,_⟩
   rw [List.length_map,List.length_take]
   omega
  ·rintro acc σ H' ⟨rfl,⟨v,rfl⟩,rfl⟩ D hD
   have e:(u.cps.toList.take u.cps.size).map (fun c=>V.bl (!(Builtin.Str.occurrences letters ⟨#[c]⟩ 0 letters.length 1).isEmpty))=(u.cps.toList.map fun c=>!(Builtin.Str.occurrences letters ⟨#[c]⟩ 0 letters.length 1).isEmpty).map V.bl:=by
    rw [List.take_of_length_le (by simp),List.map_map]
    rfl
   rw [e]
   refine ⟨D,rfl,_,SqL.of upd_same,?_⟩
   have e2:nameB (.str u)=decide (∀ c∈u.cps.toList,97≤c∧c≤122):=by
    rw [Bool.eq_iff_iff]
    refine ⟨fun g=>?_,fun g=>?_⟩
    ·have g':goodN u:=of_decide_eq_true g
     exact decide_eq_true g'.2.2
    ·exact decide_eq_true (p:=goodN u) ⟨by omega,by omega,of_decide_eq_true g⟩
   rw [name_all hp,← e2]
   exact q _ (same_new hD _)
 | non =>
  exists isStrV
  exact ⟨ox,q _ fun _ _ z=>z⟩
 | bl b =>
  exists isStrV
  exact ⟨ox,q _ fun _ _ z=>z⟩
 | int b =>
  exists isStrV
  exact ⟨ox,q _ fun _ _ z=>z⟩
 | ref b =>
  exists isStrV
  exact ⟨ox,q _ fun _ _ z=>z⟩
 | _=>exact ox.elim
theorem ok_law_begin (B:Bt K mg a)(F:Fun K "_law_begin" "_law_begin" s_law_begin f fd):FnOk P w K mg base CX0 1 f fd ["_law_cell"] (sp_law_begin K a):=by
 refine F.ok sc_law_begin (fun vs H Q E h=>?_) (fun cdv A outer s H vs Q E hr h=>?_)
 ·obtain ⟨c,rfl,_⟩:=h
  rfl
 obtain ⟨c,rfl,q⟩:=h
 refine ⟨_,(pss_of (qss_one (qs_ret (qe_lst (qa_c (pe_op op_mul (pe_op op_fdivL (pv 0) pe_int) (pe_op op_sub pe_int (pe_op op_mod (pv 0) pe_int))) (qa_c (pe_op op_mod (pv 0) pe_int) (qa_c pe_int qa_nil))))))),?_⟩
 nofun
 exact ⟨⟨by decide,by decide⟩,by decide,.inr ⟨by omega,by omega⟩,by decide,by decide,fun p hp=>q p _ _ _ hp⟩
theorem ok_law_next (B:Bt K mg a)(F:Fun K "_law_next" "_law_next" s_law_next f fd):FnOk P w K mg base CX0 1 f fd ["_law_state","_law_base"] (sp_law_next K a):=by
 refine F.ok sc_law_next (fun vs H Q E h=>?_) (fun cdv A outer s H vs Q E hr h=>?_)
 ·obtain ⟨wl,m,rfl,_⟩:=h
  rfl
 obtain ⟨wl,m,rfl,⟨a,b,c,hw⟩,m0,m1,q⟩:=h
 refine ⟨_,(pss_of (qss_cons (qs_if (pt_cmpR op_gt (pe_ix ix_list (pv 0) pe_int (fun _ _=>rfl)) pe_int (nomark _)) (qss_cons (qs_set (i:=2) sc_law_next.nd rfl (Or.inl rfl) (qe_of (pe_op op_mod (pe_ix ix_list (pv 0) pe_int (fun _ _=>rfl)) (pv 1))) (by kernel_rfl)) (qss_cons (qs_of (ps_asg (pe_op op_fdivL (pe_ix ix_list (pv 0) pe_int (fun _ _=>rfl)) (pv 1)) (pg_sub (pv 0) pe_int set_list))) (qss_one (qs_ret (qe_of (pv 2)))))) qss_nil) (qss_cons (qs_of (ps_asg (pe_op op_add (pe_ix ix_list (pv 0) pe_int (fun _ _=>rfl)) pe_int) (pg_sub (pv 0) pe_int set_list))) (qss_cons (qs_set (i:=3) sc_law_next.nd rfl (Or.inl rfl) (qe_of (pe_op op_mod (pe_op op_mul (pe_op op_add (pe_op op_add (pe_ix ix_list (pv 0) pe_int (fun _ _=>rfl)) (pe_op op_mul pe_int (pe_ix ix_list (pv 0) pe_int (fun _ _=>rfl)))) pe_int) pe_int) pe_int)) (by kernel_rfl)) (qss_cons (qs_set (i:=3) sc_law_next.nd rfl (Or.inl rfl) (qe_of (pe_op op_mod (pe_op op_mul (pv 3) (pe_op op_add (pe_op op_fdivL (pv 3) pe_int) pe_int)) pe_int)) (by kernel_rfl)) (qss_cons (qs_set (i:=3) sc_law_next.nd rfl (Or.inl rfl) (qe_of (pe_op op_mod (pe_op op_mul (pv 3) (pe_op op_add (pe_op op_fdivL (pv 3) pe_int) pe_int)) pe_int)) (by kernel_rfl)) (qss_one (qs_ret (qe_of (pe_op op_mod (pe_op op_fdivL (pv 3) pe_int) (pv 1))))))))))),?_⟩
 have em:∀ x k:Int,0 < k→0≤x % k∧x % k < k:=fun x k h=>⟨Int.emod_nonneg _ (by omega),Int.emod_lt_of_pos _ h⟩
 nofun
 refine ixl (SqL.of hw) (v:=.int a) rfl ?_
 nofun
 split
 ·refine ixl (SqL.of hw) (v:=.int a) rfl ?_
  nofun
  refine ⟨m0,?_⟩
  refine ixl (SqL.of hw) (v:=.int a) rfl ?_
  nofun
  refine ⟨⟨m0,m1⟩,?_⟩
  refine setl hw (j:=0) rfl ?_
  exact q _ _ (em a m m0).1 (em a m m0).2 ⟨_,_,_,upd_same⟩ (But.upd _)
 ·refine ixl (SqL.of hw) (v:=.int c) rfl ?_
  nofun
  refine setl hw (j:=2) rfl ?_
  refine ixl (SqL.of upd_same) (v:=.int b) rfl ?_
  refine ixl (SqL.of upd_same) (v:=.int (c+1)) rfl ?_
  nofun
  generalize hn1:(b+7919 * (c+1)+1) * 48271 % 2147483647=n1
  have b1:0≤n1∧n1 < 2147483647:=hn1 ▸ em _ _ (by decide)
  generalize hn2:n1 * (n1 / 1009+69621) % 2147483647=n2
  have b2:0≤n2∧n2 < 2147483647:=hn2 ▸ em _ _ (by decide)
  refine ⟨.inl ⟨by decide,by decide⟩,.inr ⟨by decide,by decide⟩,by decide,⟨by decide,by decide⟩,.inl ⟨by omega,by omega⟩,by decide,⟨by decide,by decide⟩,.inl ⟨by omega,by omega⟩,by decide,⟨by decide,by decide⟩,m0,?_⟩
  exact q _ _ (em _ m m0).1 (em _ m m0).2 ⟨_,_,_,upd_same⟩ (But.upd _)
theorem ok_law_cell_at (B:Bt K mg a)(F:Fun K "_law_cell_at" "_law_cell_at" s_law_cell_at f fd):FnOk P w K mg base CX0 1 f fd ["_law_script","_law_k"] (sp_law_cell_at K a):=by
 refine F.ok sc_law_cell_at (fun vs H Q E h=>?_) (fun cdv A outer s H vs Q E hr h=>?_)
 ·obtain ⟨b,ns,k,rfl,_⟩:=h
  rfl
 obtain ⟨b,ns,k,rfl,hS,k0,q⟩:=h
 refine ⟨_,(pss_of (qss_cons (qs_if (pt_cmpR op_lt (pv 1) (pe_callB call_len rfl B.len PySem.boot_len (pa_of (qa_c (pv 0) qa_nil))) (nomark _)) (qss_one (qs_ret (qe_of (pe_ix ix_list (pv 0) (pv 1) (fun _ _=>rfl))))) qss_nil) (qss_one (qs_ret (qe_of pe_int))))),?_⟩
 nofun
 refine ⟨_,.inl ⟨_,hS,rfl⟩,?_⟩
 nofun
 split
 ·rename_i hk
  rw [List.length_map] at hk
  obtain ⟨z,_,ez⟩:=at_mem k0 hk
  exact ixl hS ez (q z)
 ·exact q 0
theorem ok_are_unlike_names (B:Bt K mg a)(C_is_name:CalX P w K mg base "is_name" ["thing"] 1 (sp_is_name K a))(F:Fun K "are_unlike_names" "are_unlike_names" s_are_unlike_names f fd):FnOk P w K mg base CX0 2 f fd ["thing"] (sp_are_unlike_names K a):=by
 refine F.ok sc_are_unlike_names (fun vs H Q E h=>?_) (fun cdv A outer s H vs Q E hr h=>?_)
 ·obtain ⟨x,b,rfl,_⟩:=h
  rfl
 obtain ⟨x,b,rfl,hx,q⟩:=h
 refine ⟨_,(pss_of (qss_cons (qs_if (L2.PW.pt (pw_or (pt_not (pt_val (pe_callB (isiG_at (K:=K) (T:="list") rfl) rfl B.isinstance PyProof.Rows.boot_isinstance (pa_of (qa_c (pv 0) (qa_c (pe_bltn (v:=.ty "list") rfl B.list PyProof.Rows.boot_list rfl) qa_nil))) (he:=star_plain _ _ _ rfl) (hpl:=plain_any rfl)))) (pw_or1 (pt_not (pt_val (pe_callB (call_all rfl) rfl B.all PyProof.Rows.boot_all (pa_of (qa_c (pe_compB ["name"] [none] rfl (by kernel_rfl) (pi_list (pv 0)) (fun cl C s H fp=>⟨(pg_name (i:=0) (by decide:List.Nodup (["name"]:List Str)) rfl (Or.inl (by kernel_rfl)) (Or.inr (by kernel_rfl))),pts_nil,(pe_calN C_is_name (hr.mono (by decide)) (gl_of (by kernel_rfl)) (pa_of (qa_c (pv 0 (hv:=Or.inl (by kernel_rfl))) qa_nil)) (he:=star_plain _ _ _ rfl) (hpl:=plain_any rfl))⟩)) qa_nil)) (he:=star_plain _ _ _ rfl) (hpl:=plain_any rfl))))))) (qss_one (qs_ret (qe_of pe_bl))) qss_nil) (qss_one (qs_ret (qe_of (pe_cmpR op_eq (pe_callB call_lenS rfl B.len PySem.boot_len (pa_of (qa_c (pe_callTy (call_setS rfl) rfl B.set PyProof.Rows.boot_set (pa_of (qa_c (pv 0) qa_nil))) qa_nil))) (pe_callB call_len_seq rfl B.len PySem.boot_len (pa_of (qa_c (pv 0) qa_nil))) (nomark _))))))),?_⟩
 nofun
 rcases hx with ⟨p,xs,rfl,hp,hl,hn,rfl⟩ | ⟨rfl,t,ty,e⟩
 ·refine ⟨_,_,true,rfl,.lst hp,by kernel_rfl,?_⟩
  exists Bool.not_true
  refine ⟨⟨xs,SqL.of hp⟩,?_⟩
  refine CompL.by (xs:=xs) (fun i acc σ H'=>acc=((xs.take i).map nameB).map V.bl∧(∃ v,σ=[v])∧Same H H') (sz8 (by omega)) ⟨rfl,⟨_,rfl⟩,fun _ _ z=>z⟩ (fun i acc σ H' _ h=>SqL.of (h.2.2 _ _ hp)) ?_ ?_ ?_
  ·rintro i y acc σ H' hy ⟨rfl,⟨v,rfl⟩,S1⟩
   have ea:((xs.take i).map nameB).map V.bl++[V.bl (nameB y)]=((xs.take (i+1)).map nameB).map V.bl:=by
    rw [List.take_succ,hy,List.map_append,List.map_append]
    rfl
   nofun
   refine ⟨y,rfl,(hn y (List.mem_of_getElem? hy)).same S1,fun H2 S2=>?_⟩
   first | exact ⟨ea,⟨_,rfl⟩,S1.trans S2⟩ | exact ⟨ea,S1.trans S2⟩
  ·rintro i acc σ H' ⟨rfl,_,_⟩
   rw [List.length_map,List.length_map,List.length_take]
   omega
  ·rintro acc σ H' ⟨rfl,⟨v,rfl⟩,S1⟩ D hD
   rw [List.take_length]
   have S2:=S1.trans (same_new hD (.lst ((xs.map nameB).map V.bl)))
   refine ⟨D,rfl,_,SqL.of upd_same,?_⟩
   have eall:(xs.map nameB).all id=xs.all nameB:=by rw [List.all_map]; rfl
   rw [eall]
   generalize upd H' D (.lst ((xs.map nameB).map V.bl))=H2 at *
   by_cases ha:xs.all nameB=true
   ·exists ha,Bool.not_true
    have es:=all_str ha
    have hz:(xs.map strV).length=xs.length:=List.length_map ..
    refine ⟨xs.map strV,by rw [← es]; exact SqL.of (S2 _ _ hp),by omega,fun p3 h3=>?_⟩
    have S3:=same_new h3 (hoSet P w p3 (xs.map strV))
    refine ⟨xs.map strV,upd_same,?_⟩
    nofun
    refine ⟨xs,.inl (SqL.of (S3 _ _ (S2 _ _ hp))),?_⟩
    nofun
    have hq:=q _ (S2.trans S3)
    have ed:namesB xs=decide ((((metS (xs.map strV)).length:Nat):Int)=((xs.length:Nat):Int)):=by
     unfold namesB
     rw [ha,Bool.true_and]
     have:=metS_all (xs.map strV)
     rw [hz] at this
     by_cases c:(xs.map strV).Nodup
     ·rw [decide_eq_true c,decide_eq_true (by have:=this.mpr c; omega)]
     ·rw [decide_eq_false c,decide_eq_false (fun z=>c (this.mp (by omega)))]
    rw [ed] at hq
    exact hq
   ·have ha':=Bool.eq_false_iff.mpr ha
    exists ha',Bool.not_false
    have hq:=q _ S2
    unfold namesB at hq
    rw [ha',Bool.false_and] at hq
    exact hq
 ·refine ⟨x,t,false,rfl,ty,e,?_⟩
  exists Bool.not_false
  exact q _ fun _ _ z=>z
theorem ok_law_name (B:Bt K mg a)(C_law_next:CalX P w K mg base "_law_next" ["_law_state","_law_base"] 1 (sp_law_next K a))(F:Fun K "_law_name" "_law_name" s_law_name f fd):FnOk P w K mg base CX0 2 f fd ["_law_state"] (sp_law_name K a):=by
 refine F.ok sc_law_name (fun vs H Q E h=>?_) (fun cdv A outer s H vs Q E hr h=>?_)
 ·obtain ⟨wl,rfl,_⟩:=h
  rfl
 obtain ⟨wl,rfl,W,q⟩:=h
 refine ⟨_,(pss_of (qss_cons (qs_set (i:=1) sc_law_name.nd rfl (Or.inr rfl) (qe_of pe_str) (by kernel_rfl)) (qss_cons (qs_set (i:=2) sc_law_name.nd rfl (Or.inl rfl) (qe_of (pe_calN C_law_next (hr.mono (by decide)) rfl (pa_of (qa_c (pv 0) (qa_c pe_int qa_nil))) (he:=star_plain _ _ _ rfl) (hpl:=plain_any rfl))) (by kernel_rfl)) (qss_cons (qs_if (pt_cmpR op_eq (pv 2) pe_int (nomark _)) (qss_cons (qs_set (i:=3) sc_law_name.nd rfl (Or.inl rfl) (qe_lst (qa_c pe_str (qa_c pe_str (qa_c pe_str (qa_c pe_str (qa_c pe_str (qa_c pe_str (qa_c pe_str (qa_c pe_str (qa_c pe_str (qa_c pe_str (qa_c pe_str (qa_c pe_str (qa_c pe_str qa_nil)))))))))))))) (by kernel_rfl)) (qss_one (qs_ret (qe_ix ix_list (qe_op op_cat (qe_of (pv 3)) (qe_lst (qa_c pe_str (qa_c pe_str (qa_c pe_str qa_nil))))) (qe_of (pe_calN C_law_next (hr.mono (by decide)) rfl (pa_of (qa_c (pv 0) (qa_c pe_int qa_nil))) (he:=star_plain _ _ _ rfl) (hpl:=plain_any rfl))) (fun _ _=>rfl))))) qss_nil) (qss_cons (qs_if (pt_cmpR op_eq (pv 2) pe_int (nomark _)) (qss_cons (qs_set (i:=4) sc_law_name.nd rfl (Or.inl rfl) (qe_of (pe_slice sl_str pe_str po_none (po_some (pe_op op_add pe_int (pe_calN C_law_next (hr.mono (by decide)) rfl (pa_of (qa_c (pv 0) (qa_c pe_int qa_nil))) (he:=star_plain _ _ _ rfl) (hpl:=plain_any rfl)))))) (by kernel_rfl)) (qss_cons (qs_set (i:=5) sc_law_name.nd rfl (Or.inl rfl) (qe_of (pe_calN C_law_next (hr.mono (by decide)) rfl (pa_of (qa_c (pv 0) (qa_c (pe_callB call_len_str rfl B.len PySem.boot_len (pa_of (qa_c (pv 4) qa_nil))) qa_nil))) (he:=star_plain _ _ _ rfl) (hpl:=plain_any rfl))) (by kernel_rfl)) (qss_one (qs_ret (qe_of (pe_op op_add_str (pe_op op_add_str (pe_slice sl_str (pv 4) po_none (po_some (pv 5))) (pe_ix ix_str pe_str (pe_calN C_law_next (hr.mono (by decide)) rfl (pa_of (qa_c (pv 0) (qa_c pe_int qa_nil))) (he:=star_plain _ _ _ rfl) (hpl:=plain_any rfl)) (fun _ _=>rfl))) (pe_slice sl_str (pv 4) (po_some (pe_op op_add (pv 5) pe_int)) po_none))))))) qss_nil) (qss_one (qs_ret (qe_of (pe_bm PySem.F.plainAttrs_str PySem.F.slot_str_join PySem.F.type_str_join mt_join pe_str (pa_of (qa_c (pe_compB ["_law_k","_law_letters","_law_state"] [none,some 1,some 0] rfl (by kernel_rfl) (pi_range1 rfl B.range (pa_of (qa_c (pe_op op_add pe_int (pe_calN C_law_next (hr.mono (by decide)) rfl (pa_of (qa_c (pv 0) (qa_c pe_int qa_nil))) (he:=star_plain _ _ _ rfl) (hpl:=plain_any rfl))) qa_nil))) (fun cl C s H fp=>⟨(pg_name (i:=0) (by decide:List.Nodup (["_law_k","_law_letters","_law_state"]:List Str)) rfl (Or.inl (by kernel_rfl)) (Or.inr (by kernel_rfl))),pts_nil,(pe_ix ix_str (pv 1 (hv:=Or.inr (Or.inl (by kernel_rfl)))) (pe_calN C_law_next (hr.mono (by decide)) (gl_of (by kernel_rfl)) (pa_of (qa_c (pv 2 (hv:=Or.inr (Or.inl (by kernel_rfl)))) (qa_c pe_int qa_nil))) (he:=star_plain _ _ _ rfl) (hpl:=plain_any rfl)) (fun _ _=>rfl))⟩)) qa_nil))))))))))),?_⟩
 nofun
 refine drw3 W (by decide) (by decide) fun r1 H1 a1 b1 W1 B1=>?_
 nofun
 by_cases h0:r1=0
 ·rw [if_pos h0]
  refine ⟨sz8 (by decide),fun p hp=>?_⟩
  have S1:=same_new hp (.lst [.str "any",.str "kind",.str "place",.str "weight",.str "not",.str "by",.str "now",.str "hour",.str "day",.str "never",.str "sure",.str "raise",.str "zone"])
  have e1:upd H1 p (.lst [.str "any",.str "kind",.str "place",.str "weight",.str "not",.str "by",.str "now",.str "hour",.str "day",.str "never",.str "sure",.str "raise",.str "zone"]) p=some (.lst [.str "any",.str "kind",.str "place",.str "weight",.str "not",.str "by",.str "now",.str "hour",.str "day",.str "never",.str "sure",.str "raise",.str "zone"]):=upd_same
  generalize upd H1 p (.lst [.str "any",.str "kind",.str "place",.str "weight",.str "not",.str "by",.str "now",.str "hour",.str "day",.str "never",.str "sure",.str "raise",.str "zone"])=H2 at *
  refine ⟨sz8 (by decide),fun p2 hp2=>?_⟩
  have S2:=same_new hp2 (.lst [.str "quiet",.str "a",.str "to"])
  have e2:upd H2 p2 (.lst [.str "quiet",.str "a",.str "to"]) p2=some (.lst [.str "quiet",.str "a",.str "to"]):=upd_same
  have e1':=S2 _ _ e1
  generalize upd H2 p2 (.lst [.str "quiet",.str "a",.str "to"])=H3 at *
  refine ⟨p,p2,[.str "any",.str "kind",.str "place",.str "weight",.str "not",.str "by",.str "now",.str "hour",.str "day",.str "never",.str "sure",.str "raise",.str "zone"],[.str "quiet",.str "a",.str "to"],rfl,rfl,e1',e2,sz8 (by decide),fun p3 hp3=>?_⟩
  have S3:=same_new hp3 (.lst ([.str "any",.str "kind",.str "place",.str "weight",.str "not",.str "by",.str "now",.str "hour",.str "day",.str "never",.str "sure",.str "raise",.str "zone"]++[.str "quiet",.str "a",.str "to"]))
  have e3:upd H3 p3 (.lst ([.str "any",.str "kind",.str "place",.str "weight",.str "not",.str "by",.str "now",.str "hour",.str "day",.str "never",.str "sure",.str "raise",.str "zone"]++[.str "quiet",.str "a",.str "to"])) p3=some (.lst ([.str "any",.str "kind",.str "place",.str "weight",.str "not",.str "by",.str "now",.str "hour",.str "day",.str "never",.str "sure",.str "raise",.str "zone"]++[.str "quiet",.str "a",.str "to"])):=upd_same
  have n3:=(W1.same (S1.trans S2)).ne hp3
  generalize upd H3 p3 (.lst ([.str "any",.str "kind",.str "place",.str "weight",.str "not",.str "by",.str "now",.str "hour",.str "day",.str "never",.str "sure",.str "raise",.str "zone"]++[.str "quiet",.str "a",.str "to"]))=H4 at *
  have SS:=S1.trans (S2.trans S3)
  refine drw3 (W1.same SS) (by decide) (by decide) fun r4 H5 a4 b4 W5 B5=>?_
  have e5:=B5 p3 _ n3 e3
  obtain ⟨v,hv,ev⟩:=at_memV (xs:=([.str "any",.str "kind",.str "place",.str "weight",.str "not",.str "by",.str "now",.str "hour",.str "day",.str "never",.str "sure",.str "raise",.str "zone"]:List V)++[.str "quiet",.str "a",.str "to"]) a4 (by simp only [List.length_append,List.length_cons,List.length_nil]; omega)
  refine ixl (SqL.of e5) ev ?_
  obtain ⟨u,rfl,g⟩:∃ u,v=.str u∧goodN u:=by
   simp only [List.cons_append,List.nil_append,List.mem_cons,List.not_mem_nil,or_false] at hv
   rcases hv with rfl | rfl | rfl | rfl | rfl | rfl | rfl | rfl | rfl | rfl | rfl | rfl | rfl | rfl | rfl | rfl <;> exact ⟨_,rfl,by decide +kernel⟩
  exact q u H5 g W5 (B1.trans ((Same.but SS).trans B5))
 rw [if_neg h0]
 by_cases h1:r1=1
 ·rw [if_pos h1]
  refine drw3 W1 (by decide) (by decide) fun r2 H2 a2 b2 W2 B2=>?_
  nofun
  have e8:Str.ofString "bcdefghi"=w8:=rfl
  have e3:Str.ofString "axz"=axz:=rfl
  rw [e8]
  have hw:=way_len a2 b2
  have hl:(Txt.slice w8 none (some (1+r2))).length≤8:=slice_le8 w8 (by decide) _ _
  refine ⟨sz8 (by decide),sz8 (by omega),?_⟩
  refine drw3 W2 (by rw [hw]; omega) (by rw [hw]; omega) fun r3 H3 a3 b3 W3 B3=>?_
  have b3':r3 < r2+1:=by rw [hw] at b3; omega
  nofun
  refine ⟨sz8 (by omega),?_⟩
  refine drw3 W3 (by decide) (by decide) fun r4 H4 a4 b4 W4 B4=>?_
  obtain ⟨c,ec,gd⟩:=way_good a2 b2 a3 b3' a4 b4
  refine ixs (u:=axz) (sz8 (by decide)) ec ?_
  nofun
  have l1:=slice_le8 (Txt.slice w8 none (some (1+r2))) hl none (some r3)
  have l2:=slice_le8 (Txt.slice w8 none (some (1+r2))) hl (some (r3+1)) none
  have l3:(⟨#[c]⟩:Str).length=1:=rfl
  refine ⟨sz8 (by rw [l3]; omega),sz8 (by omega),sz8 (by rw [Str.length_append,l3]; omega),?_⟩
  exact q _ H4 gd W4 (B1.trans (B2.trans (B3.trans B4)))
 ·rw [if_neg h1]
  refine drw3 W1 (by decide) (by decide) fun r2 H2 a2 b2 W2 B2=>?_
  nofun
  refine ⟨by omega,by omega,?_⟩
  refine CompR.by (fun i acc σ H'=>(∃ ts:List Str,acc=ts.map V.str∧ts.length=i∧∀ t∈ts,∃ c,t=⟨#[c]⟩∧97≤c∧c≤122)∧(∃ v,σ=[v,some (.str letters),some (.ref wl)])∧Well3 H' wl∧But wl H2 H') (sz8 (by omega)) ⟨⟨[],rfl,rfl,fun t ht=>by cases ht⟩,⟨_,rfl⟩,W2,But.refl _ _⟩ ?_ ?_ ?_
  ·rintro i acc σ H' hi ⟨⟨ts,rfl,hl,ht⟩,⟨v,rfl⟩,W3,B3⟩
   nofun
   refine drw3 W3 (by decide) (by decide) fun r3 H3 a3 b3 W4 B4=>?_
   obtain ⟨c,ec,c0,c1⟩:=letter_at a3 b3
   refine ixs (u:=letters) (sz8 (by decide)) ec ?_
   have new:∃ us:List Str,ts.map V.str++[V.str ⟨#[c]⟩]=us.map V.str∧us.length=i+1∧∀ t∈us,∃ c,t=⟨#[c]⟩∧97≤c∧c≤122:=by
    refine ⟨ts++[⟨#[c]⟩],by rw [List.map_append]; rfl,by rw [List.length_append,hl]; rfl,fun t h=>?_⟩
    rcases List.mem_append.mp h with z | z
    ·exact ht t z
    ·rw [List.mem_singleton.mp z]
     exact ⟨c,rfl,c0,c1⟩
   first | exact ⟨new,⟨_,rfl⟩,W4,B3.trans B4⟩ | exact ⟨new,W4,B3.trans B4⟩
  ·rintro i acc σ H' ⟨⟨ts,rfl,hl,_⟩,_⟩
   rw [List.length_map,hl]
   exact Nat.le_refl _
  ·rintro acc σ H' ⟨⟨ts,rfl,hl,ht⟩,⟨v,rfl⟩,W3,B3⟩ D hD
   have hn:ts.length=(1+r2).toNat:=hl
   obtain ⟨j1,j2⟩:=join_good ht (by omega) (by omega)
   have n0:=W3.ne hD
   have S9:=same_new hD (.lst (ts.map V.str))
   refine ⟨Str.empty,D,ts,rfl,rfl,upd_same,j1,?_⟩
   exact q _ _ j2 (W3.same S9) (B1.trans (B2.trans (B3.trans (Same.but S9))))
theorem hfs (k p n:V):putF ("kind":Str) k []=([("kind",k)]:List (Str × V))∧putF ("place":Str) p ([("kind",k)]:List (Str × V))=([("kind",k),("place",p)]:List (Str × V))∧putF ("weight":Str) n ([("kind",k),("place",p)]:List (Str × V))=([("kind",k),("place",p),("weight",n)]:List (Str × V)):=by
 refine ⟨rfl,putF_new fun q hq=>?_,putF_new fun q hq=>?_⟩
 ·simp only [List.mem_cons,List.not_mem_nil,or_false] at hq
  rcases hq with rfl <;> (dsimp only; decide)
 ·simp only [List.mem_cons,List.not_mem_nil,or_false] at hq
  rcases hq with rfl | rfl <;> (dsimp only; decide)
theorem ok_Happening___init__ (B:Bt K mg a)(C_is_whole_from:CalX P w K mg base "is_whole_from" ["thing","least"] 2 (sp_is_whole_from K a))(C_is_name:CalX P w K mg base "is_name" ["thing"] 1 (sp_is_name K a))(F:Fun K "__init__" "Happening.__init__" s_Happening___init__ f fd):FnOk P w K mg base CX0 3 f fd ["self","kind","place","weight"] (sp_Happening___init__ K a):=by
 refine F.ok sc_Happening___init__ (fun vs H Q E h=>?_) (fun cdv A outer s H vs Q E hr h=>?_)
 ·obtain ⟨p,dx,k,l,n,rfl,_⟩:=h
  rfl
 obtain ⟨p,dx,k,l,n,rfl,hp,gk,gl,n0,q⟩:=h
 refine ⟨_,(pss_of (qss_cons (qs_if (L2.PW.pt (pw_or (pt_not (pt_val (pe_calN C_is_name (hr.mono (by decide)) rfl (pa_of (qa_c (pv 1) qa_nil)) (he:=star_plain _ _ _ rfl) (hpl:=plain_any rfl)))) (pw_or1 (pt_not (pt_val (pe_calN C_is_name (hr.mono (by decide)) rfl (pa_of (qa_c (pv 2) qa_nil)) (he:=star_plain _ _ _ rfl) (hpl:=plain_any rfl))))))) (qss_of pss_never) qss_nil) (qss_cons (qs_if (pt_not (pt_val (pe_calN C_is_whole_from (hr.mono (by decide)) rfl (pa_of (qa_c (pv 3) (qa_c pe_int qa_nil))) (he:=star_plain _ _ _ rfl) (hpl:=plain_any rfl)))) (qss_of pss_never) qss_nil) (qss_cons (qs_of (ps_fld (pv 0) (pv 1) rfl)) (qss_cons (qs_of (ps_fld (pv 0) (pv 2) rfl)) (qss_one (qs_of (ps_fld (pv 0) (pv 3) rfl)))))))),?_⟩
 have okn:∀ {G:Hp}{u:Str},goodN u→okN G (.str u):=fun {G u} g=>⟨(good_sm g).1,by have:=(good_sm g).2; omega⟩
 have nb:∀ {u:Str},goodN u→nameB (.str u)=true:=fun {u} g=>decide_eq_true g
 have fb:fromV (.int n) 0=true:=decide_eq_true n0
 obtain ⟨e1,e2,e3⟩:=hfs (.str k) (.str l) (.int n)
 nofun
 refine ⟨_,rfl,okn gk,fun H1 S1=>?_⟩
 exists nb gk
 refine ⟨_,rfl,okn gl,fun H2 S2=>?_⟩
 exists nb gl
 refine ⟨_,_,rfl,⟨_,.int n,by kernel_rfl,by kernel_rfl⟩,?_⟩
 exists fb
 refine ⟨_,_,_,(S1.trans S2) _ _ hp,B.ck_Happening.cl,B.na_Happening_kind,by decide,_,_,_,upd_same,B.ck_Happening.cl,B.na_Happening_place,by rw [e1]; simp only [List.length_cons,List.length_nil]; decide,_,_,_,upd_same,B.ck_Happening.cl,B.na_Happening_weight,by rw [e1,e2]; simp only [List.length_cons,List.length_nil]; decide,?_⟩
 refine q _ (fun b o n e=>?_) ?_
 ·rw [upd_ne n,upd_ne n,upd_ne n]
  exact (S1.trans S2) b o e
 ·rw [upd_same,e1,e2,e3]
  rfl
theorem ok_check_names (B:Bt K mg a)(C_are_unlike_names:CalX P w K mg base "are_unlike_names" ["thing"] 2 (sp_are_unlike_names K a))(F:Fun K "check_names" "check_names" s_check_names f fd):FnOk P w K mg base CX0 3 f fd ["names"] (sp_check_names K a):=by
 refine F.ok sc_check_names (fun vs H Q E h=>?_) (fun cdv A outer s H vs Q E hr h=>?_)
 ·obtain ⟨l,us,rfl,_⟩:=h
  rfl
 obtain ⟨l,us,rfl,hl,⟨ne,l6,hg,nd⟩,q⟩:=h
 refine ⟨_,(pss_of (qss_one (qs_if (L2.PW.pt (pw_or (pt_not (pt_val (pe_calN C_are_unlike_names (hr.mono (by decide)) rfl (pa_of (qa_c (pv 0) qa_nil)) (he:=star_plain _ _ _ rfl) (hpl:=plain_any rfl)))) (pw_or1 (pt_cmpR op_eq (pe_callB call_len_seq rfl B.len PySem.boot_len (pa_of (qa_c (pv 0) qa_nil))) pe_int (nomark _))))) (qss_of pss_never) qss_nil))),?_⟩
 nofun
 have hB:namesB (us.map V.str)=true:=by
  unfold namesB
  have e1:(us.map V.str).all nameB=true:=by
   rw [List.all_map,List.all_eq_true]
   intro u hu
   exact decide_eq_true (hg u hu)
  have e2:(us.map V.str).map strV=us:=by rw [List.map_map]; exact List.map_id us
  rw [e1,e2,decide_eq_true nd]
  rfl
 have hN:∀ y∈us.map V.str,okN H y:=fun y hy=>by
  obtain ⟨u,hu,rfl⟩:=List.mem_map.mp hy
  exact ⟨(good_sm (hg u hu)).1,by have:=(good_sm (hg u hu)).2; omega⟩
 refine ⟨_,true,rfl,.inl ⟨l,_,rfl,hl,by rw [List.length_map]; omega,hN,hB.symm⟩,fun H1 S1=>?_⟩
 exists Bool.not_true
 refine ⟨_,.inl (SqL.of (S1 _ _ hl)),?_⟩
 have l0:us.length≠0:=fun z=>ne (List.eq_nil_of_length_eq_zero z)
 exists List.length_map
 rw [if_neg (by omega)]
 exact q _ S1
theorem ok_check_fit (B:Bt K mg a)(F:Fun K "check_fit" "check_fit" s_check_fit f fd):FnOk P w K mg base CX0 1 f fd ["fit"] (sp_check_fit K a):=by
 refine F.ok sc_check_fit (fun vs H Q E h=>?_) (fun cdv A outer s H vs Q E hr h=>?_)
 ·obtain ⟨v,t,rfl,_⟩:=h
  rfl
 obtain ⟨v,t,rfl,h,q⟩:=h
 refine ⟨_,(pss_of (qss_one (qs_if (pt_not (pt_val (pe_callB (isiV_at (K:=K) rfl) rfl B.isinstance PyProof.Rows.boot_isinstance (pa_of (qa_c (pv 0) (qa_c (pe_glob (v:=.ref _) rfl B.Fit rfl) qa_nil))) (he:=star_plain _ _ _ rfl) (hpl:=plain_any rfl)))) (qss_of pss_never) qss_nil))),?_⟩
 nofun
 obtain ⟨p,dx,fs,rfl,hp,_⟩:=h.ins
 have hk:ClsK K (t.cls (fc a))∧kitOne K (.ref (t.cls (fc a))) (.ref a.Fit)=some true:=by
  cases t with
  | any=>exact ⟨B.ck_Any,B.is_Any_Fit⟩
  | kind us=>exact ⟨B.ck_Kind,B.is_Kind_Fit⟩
  | place us=>exact ⟨B.ck_Place,B.is_Place_Fit⟩
  | weight n=>exact ⟨B.ck_Least,B.is_Least_Fit⟩
  | not t=>exact ⟨B.ck_Not,B.is_Not_Fit⟩
  | both ts=>exact ⟨B.ck_Both,B.is_Both_Fit⟩
  | either ts=>exact ⟨B.ck_Either,B.is_Either_Fit⟩
 refine ⟨_,_,_,true,rfl,hk.1.ty hp,hk.2,?_⟩
 exists Bool.not_true
 exact q
theorem ok_check_fits (B:Bt K mg a)(C_check_fit:CalX P w K mg base "check_fit" ["fit"] 1 (sp_check_fit K a))(F:Fun K "check_fits" "check_fits" s_check_fits f fd):FnOk P w K mg base CX0 2 f fd ["fits"] (sp_check_fits K a):=by
 refine F.ok sc_check_fits (fun vs H Q E h=>?_) (fun cdv A outer s H vs Q E hr h=>?_)
 ·obtain ⟨l,xs,ts,rfl,_⟩:=h
  rfl
 obtain ⟨l,xs,ts,rfl,hl,hf,l2,l100,q⟩:=h
 refine ⟨_,(pss_of (qss_cons (qs_if (L2.PW.pt (pw_or (pt_not (pt_val (pe_callB (isiG_at (K:=K) (T:="list") rfl) rfl B.isinstance PyProof.Rows.boot_isinstance (pa_of (qa_c (pv 0) (qa_c (pe_bltn (v:=.ty "list") rfl B.list PyProof.Rows.boot_list rfl) qa_nil))) (he:=star_plain _ _ _ rfl) (hpl:=plain_any rfl)))) (pw_or1 (pt_cmpR op_lt (pe_callB call_len_seq rfl B.len PySem.boot_len (pa_of (qa_c (pv 0) qa_nil))) pe_int (nomark _))))) (qss_of pss_never) qss_nil) (qss_one (qs_of (ps_for PassesOwn.never rfl (pi_list (pv 0)) (pg_name (i:=1) sc_check_fits.nd rfl (Or.inl rfl)) (pss_of (qss_one (qs_of (ps_expr (pe_calN C_check_fit (hr.mono (by decide)) rfl (pa_of (qa_c (pv 1) qa_nil)) (he:=star_plain _ _ _ rfl) (hpl:=plain_any rfl))))))))))),?_⟩
 nofun
 refine ⟨_,_,true,rfl,.lst hl,by kernel_rfl,?_⟩
 exists Bool.not_true
 refine ⟨_,.inl (SqL.of hl),?_⟩
 rw [if_neg (by omega)]
 refine ⟨⟨_,SqL.of hl⟩,?_⟩
 refine ForL.by (xs:=xs) (fun _ σ H1=>(∃ v,σ=[some (.ref l),v])∧H1=H) ⟨⟨_,rfl⟩,rfl⟩ (fun i σ H1 _ h=>by rw [h.2]; exact SqL.of hl) ?_ ?_
 ·rintro i y σ H1 hy ⟨⟨v,rfl⟩,rfl⟩
  obtain ⟨t,_,ht⟩:=hf.get hy
  nofun
  refine ⟨y,t,rfl,ht,?_⟩
  first | exact ⟨⟨_,rfl⟩,rfl⟩ | trivial
 ·rintro σ H1 ⟨⟨v,rfl⟩,rfl⟩
  first | exact q | (nofun; exact q)
theorem ok_Kind___init__ (B:Bt K mg a)(C_check_names:CalX P w K mg base "check_names" ["names"] 3 (sp_check_names K a))(F:Fun K "__init__" "Kind.__init__" s_Kind___init__ f fd):FnOk P w K mg base CX0 4 f fd ["self","names"] (sp_Kind___init__ K a):=by
 refine F.ok sc_Kind___init__ (fun vs H Q E h=>?_) (fun cdv A outer s H vs Q E hr h=>?_)
 ·obtain ⟨p,dx,l,us,rfl,_⟩:=h
  rfl
 obtain ⟨p,dx,l,us,rfl,hp,hl,hok,q⟩:=h
 refine ⟨_,(pss_of (qss_cons (qs_of (ps_expr (pe_calN C_check_names (hr.mono (by decide)) rfl (pa_of (qa_c (pv 1) qa_nil)) (he:=star_plain _ _ _ rfl) (hpl:=plain_any rfl)))) (qss_one (qs_of (ps_fld (pv 0) (pe_callTy call_list_of rfl B.list PyProof.Rows.boot_list (pa_of (qa_c (pv 1) qa_nil))) rfl))))),?_⟩
 nofun
 refine ⟨l,us,rfl,hl,hok,fun H1 S1=>?_⟩
 nofun
 refine ⟨_,.inl (SqL.of (S1 _ _ hl)),fun p2 h2=>?_⟩
 have S2:=same_new h2 (.lst (us.map V.str))
 refine ⟨_,_,_,S2 _ _ (S1 _ _ hp),B.ck_Kind.cl,B.na_Kind_names,by decide,?_⟩
 refine q p2 _ (fun b o n e=>?_) ?_ upd_same
 ·rw [upd_ne n]
  exact S2 _ _ (S1 _ _ e)
 ·rw [upd_ne (ne_of_none (S1 _ _ hp) h2).symm]
  exact upd_same
theorem ok_Place___init__ (B:Bt K mg a)(C_check_names:CalX P w K mg base "check_names" ["names"] 3 (sp_check_names K a))(F:Fun K "__init__" "Place.__init__" s_Place___init__ f fd):FnOk P w K mg base CX0 4 f fd ["self","names"] (sp_Place___init__ K a):=by
 refine F.ok sc_Place___init__ (fun vs H Q E h=>?_) (fun cdv A outer s H vs Q E hr h=>?_)
 ·obtain ⟨p,dx,l,us,rfl,_⟩:=h
  rfl
 obtain ⟨p,dx,l,us,rfl,hp,hl,hok,q⟩:=h
 refine ⟨_,(pss_of (qss_cons (qs_of (ps_expr (pe_calN C_check_names (hr.mono (by decide)) rfl (pa_of (qa_c (pv 1) qa_nil)) (he:=star_plain _ _ _ rfl) (hpl:=plain_any rfl)))) (qss_one (qs_of (ps_fld (pv 0) (pe_callTy call_list_of rfl B.list PyProof.Rows.boot_list (pa_of (qa_c (pv 1) qa_nil))) rfl))))),?_⟩
 nofun
 refine ⟨l,us,rfl,hl,hok,fun H1 S1=>?_⟩
 nofun
 refine ⟨_,.inl (SqL.of (S1 _ _ hl)),fun p2 h2=>?_⟩
 have S2:=same_new h2 (.lst (us.map V.str))
 refine ⟨_,_,_,S2 _ _ (S1 _ _ hp),B.ck_Place.cl,B.na_Place_names,by decide,?_⟩
 refine q p2 _ (fun b o n e=>?_) ?_ upd_same
 ·rw [upd_ne n]
  exact S2 _ _ (S1 _ _ e)
 ·rw [upd_ne (ne_of_none (S1 _ _ hp) h2).symm]
  exact upd_same
theorem ok_Least___init__ (B:Bt K mg a)(C_is_whole_from:CalX P w K mg base "is_whole_from" ["thing","least"] 2 (sp_is_whole_from K a))(F:Fun K "__init__" "Least.__init__" s_Least___init__ f fd):FnOk P w K mg base CX0 3 f fd ["self","weight"] (sp_Least___init__ K a):=by
 refine F.ok sc_Least___init__ (fun vs H Q E h=>?_) (fun cdv A outer s H vs Q E hr h=>?_)
 ·obtain ⟨p,dx,n,rfl,_⟩:=h
  rfl
 obtain ⟨p,dx,n,rfl,hp,n0,q⟩:=h
 refine ⟨_,(pss_of (qss_cons (qs_if (pt_not (pt_val (pe_calN C_is_whole_from (hr.mono (by decide)) rfl (pa_of (qa_c (pv 1) (qa_c pe_int qa_nil))) (he:=star_plain _ _ _ rfl) (hpl:=plain_any rfl)))) (qss_of pss_never) qss_nil) (qss_one (qs_of (ps_fld (pv 0) (pv 1) rfl))))),?_⟩
 nofun
 have e:fromV (.int n) 0=true:=decide_eq_true n0
 refine ⟨_,_,rfl,⟨_,.int n,by kernel_rfl,by kernel_rfl⟩,?_⟩
 exists e
 exact ⟨_,_,_,hp,B.ck_Least.cl,B.na_Least_weight,by decide,q⟩
theorem ok_Not___init__ (B:Bt K mg a)(C_check_fit:CalX P w K mg base "check_fit" ["fit"] 1 (sp_check_fit K a))(F:Fun K "__init__" "Not.__init__" s_Not___init__ f fd):FnOk P w K mg base CX0 2 f fd ["self","fit"] (sp_Not___init__ K a):=by
 refine F.ok sc_Not___init__ (fun vs H Q E h=>?_) (fun cdv A outer s H vs Q E hr h=>?_)
 ·obtain ⟨p,dx,v,t,rfl,_⟩:=h
  rfl
 obtain ⟨p,dx,v,t,rfl,hp,hf,q⟩:=h
 refine ⟨_,(pss_of (qss_cons (qs_of (ps_expr (pe_calN C_check_fit (hr.mono (by decide)) rfl (pa_of (qa_c (pv 1) qa_nil)) (he:=star_plain _ _ _ rfl) (hpl:=plain_any rfl)))) (qss_one (qs_of (ps_fld (pv 0) (pv 1) rfl))))),?_⟩
 nofun
 refine ⟨v,t,rfl,hf,?_⟩
 nofun
 exact ⟨_,_,_,hp,B.ck_Not.cl,B.na_Not_fit,by decide,q⟩
theorem ok_Both___init__ (B:Bt K mg a)(C_check_fits:CalX P w K mg base "check_fits" ["fits"] 2 (sp_check_fits K a))(F:Fun K "__init__" "Both.__init__" s_Both___init__ f fd):FnOk P w K mg base CX0 3 f fd ["self","fits"] (sp_Both___init__ K a):=by
 refine F.ok sc_Both___init__ (fun vs H Q E h=>?_) (fun cdv A outer s H vs Q E hr h=>?_)
 ·obtain ⟨p,dx,l,xs,ts,rfl,_⟩:=h
  rfl
 obtain ⟨p,dx,l,xs,ts,rfl,hp,hl,hf,l2,l100,q⟩:=h
 refine ⟨_,(pss_of (qss_cons (qs_of (ps_expr (pe_calN C_check_fits (hr.mono (by decide)) rfl (pa_of (qa_c (pv 1) qa_nil)) (he:=star_plain _ _ _ rfl) (hpl:=plain_any rfl)))) (qss_one (qs_of (ps_fld (pv 0) (pe_callTy call_list_of rfl B.list PyProof.Rows.boot_list (pa_of (qa_c (pv 1) qa_nil))) rfl))))),?_⟩
 nofun
 refine ⟨l,xs,ts,rfl,hl,hf,l2,l100,?_⟩
 nofun
 refine ⟨_,.inl (SqL.of hl),fun p2 h2=>?_⟩
 have S2:=same_new h2 (.lst xs)
 refine ⟨_,_,_,S2 _ _ hp,B.ck_Both.cl,B.na_Both_fits,by decide,?_⟩
 refine q p2 _ (fun b o n e=>?_) ?_ upd_same
 ·rw [upd_ne n]
  exact S2 _ _ e
 ·rw [upd_ne (ne_of_none hp h2).symm]
  exact upd_same
theorem ok_Either___init__ (B:Bt K mg a)(C_check_fits:CalX P w K mg base "check_fits" ["fits"] 2 (sp_check_fits K a))(F:Fun K "__init__" "Either.__init__" s_Either___init__ f fd):FnOk P w K mg base CX0 3 f fd ["self","fits"] (sp_Either___init__ K a):=by
 refine F.ok sc_Either___init__ (fun vs H Q E h=>?_) (fun cdv A outer s H vs Q E hr h=>?_)
 ·obtain ⟨p,dx,l,xs,ts,rfl,_⟩:=h
  rfl
 obtain ⟨p,dx,l,xs,ts,rfl,hp,hl,hf,l2,l100,q⟩:=h
 refine ⟨_,(pss_of (qss_cons (qs_of (ps_expr (pe_calN C_check_fits (hr.mono (by decide)) rfl (pa_of (qa_c (pv 1) qa_nil)) (he:=star_plain _ _ _ rfl) (hpl:=plain_any rfl)))) (qss_one (qs_of (ps_fld (pv 0) (pe_callTy call_list_of rfl B.list PyProof.Rows.boot_list (pa_of (qa_c (pv 1) qa_nil))) rfl))))),?_⟩
 nofun
 refine ⟨l,xs,ts,rfl,hl,hf,l2,l100,?_⟩
 nofun
 refine ⟨_,.inl (SqL.of hl),fun p2 h2=>?_⟩
 have S2:=same_new h2 (.lst xs)
 refine ⟨_,_,_,S2 _ _ hp,B.ck_Either.cl,B.na_Either_fits,by decide,?_⟩
 refine q p2 _ (fun b o n e=>?_) ?_ upd_same
 ·rw [upd_ne n]
  exact S2 _ _ e
 ·rw [upd_ne (ne_of_none hp h2).symm]
  exact upd_same
theorem inV_str (u:Str):∀ us:List Str,inV (.str u) (us.map V.str)=decide (u∈us)
 | []=>rfl
 | v::us=>by
  have e:inV (.str u) ((v::us).map V.str)=(eqV (.str v) (.str u) || inV (.str u) (us.map V.str)):=rfl
  rw [e,inV_str u us]
  have e2:eqV (.str v) (.str u)=decide (v=u):=by
   first | rfl | (unfold eqV; by_cases c:v=u <;> simp [c])
  rw [e2]
  by_cases c:v=u
  ·simp [c]
  ·have c':¬ u=v:=fun z=>c z.symm
   simp [c,c']
theorem flat_strs:∀ us:List Str,(us.map V.str).all flatV=true
 | []=>rfl
 | v::us=>by rw [List.map_cons,List.all_cons,flat_strs us]; rfl
theorem ok_law_leaf (B:Bt K mg a)(C_law_next:CalX P w K mg base "_law_next" ["_law_state","_law_base"] 1 (sp_law_next K a))(C_law_name:CalX P w K mg base "_law_name" ["_law_state"] 2 (sp_law_name K a))(F:Fun K "_law_leaf" "_law_leaf" s_law_leaf f fd):FnOk P w K mg base CX0 3 f fd ["_law_state","_law_more"] (sp_law_leaf K a):=by
 refine F.ok sc_law_leaf (fun vs H Q E h=>?_) (fun cdv A outer s H vs Q E hr h=>?_)
 ·obtain ⟨wl,m,rfl,_⟩:=h
  rfl
 obtain ⟨wl,m,rfl,W,m0,m5,q⟩:=h
 refine ⟨_,(pss_of (qss_cons (qs_set (i:=2) sc_law_leaf.nd rfl (Or.inl rfl) (qe_of (pe_calN C_law_next (hr.mono (by decide)) rfl (pa_of (qa_c (pv 0) (qa_c pe_int qa_nil))) (he:=star_plain _ _ _ rfl) (hpl:=plain_any rfl))) (by kernel_rfl)) (qss_cons (qs_if (pt_cmpR op_eq (pv 2) pe_int (nomark _)) (qss_one (qs_ret (qe_of (pe_tup (pa_of (qa_c pe_str qa_nil)))))) qss_nil) (qss_cons (qs_if (pt_cmpR op_lt (pv 2) pe_int (nomark _)) (qss_one (qs_ret (qe_of (pe_tup (pa_of (qa_c pe_str (qa_c (pe_ix ix_list (pe_lst (pa_of (qa_c (pe_calN C_law_next (hr.mono (by decide)) rfl (pa_of (qa_c (pv 0) (qa_c pe_int qa_nil))) (he:=star_plain _ _ _ rfl) (hpl:=plain_any rfl)) (qa_c (pe_calN C_law_next (hr.mono (by decide)) rfl (pa_of (qa_c (pv 0) (qa_c (pe_op op_pow pe_int pe_int) qa_nil))) (he:=star_plain _ _ _ rfl) (hpl:=plain_any rfl)) qa_nil)))) (pe_op op_fdivL (pe_calN C_law_next (hr.mono (by decide)) rfl (pa_of (qa_c (pv 0) (qa_c pe_int qa_nil))) (he:=star_plain _ _ _ rfl) (hpl:=plain_any rfl)) pe_int) (fun _ _=>rfl)) qa_nil))))))) qss_nil) (qss_cons (qs_set (i:=3) sc_law_leaf.nd rfl (Or.inl rfl) (qe_lst (qa_c (pe_calN C_law_name (hr.mono (by decide)) rfl (pa_of (qa_c (pv 0) qa_nil)) (he:=star_plain _ _ _ rfl) (hpl:=plain_any rfl)) qa_nil)) (by kernel_rfl)) (qss_cons (qs_of (ps_for PassesOwn.never rfl (pi_range1 rfl B.range (pa_of (qa_c (pe_calN C_law_next (hr.mono (by decide)) rfl (pa_of (qa_c (pv 0) (qa_c (pe_op op_add pe_int (pv 1)) qa_nil))) (he:=star_plain _ _ _ rfl) (hpl:=plain_any rfl)) qa_nil))) (pg_name (i:=4) sc_law_leaf.nd rfl (Or.inl rfl)) (pss_of (qss_cons (qs_set (i:=5) sc_law_leaf.nd rfl (Or.inl rfl) (qe_of (pe_calN C_law_name (hr.mono (by decide)) rfl (pa_of (qa_c (pv 0) qa_nil)) (he:=star_plain _ _ _ rfl) (hpl:=plain_any rfl))) (by kernel_rfl)) (qss_one (qs_if (pt_cmpR op_notIn_seq (pv 5) (pv 3) (by with_unfolding_all rfl)) (qss_one (qs_of (ps_expr (pe_bm PySem.F.plainAttrs_list PySem.F.slot_list_append PySem.F.type_list_append mt_append (pv 3) (pa_of (qa_c (pv 5) qa_nil)))))) qss_nil)))))) (qss_one (qs_ret (qe_of (pe_tup (pa_of (qa_c (pe_ix ix_list (pe_lst (pa_of (qa_c pe_str (qa_c pe_str qa_nil)))) (pe_op op_mod (pv 2) pe_int) (fun _ _=>rfl)) (qa_c (pe_callTy call_tuple_of rfl B.tuple PyProof.Rows.boot_tuple (pa_of (qa_c (pv 3) qa_nil))) qa_nil))))))))))))),?_⟩
 nofun
 refine drw3 W (by decide) (by decide) fun kd H1 k0 k1 W1 B1=>?_
 nofun
 by_cases c0:kd=0
 ·rw [if_pos c0]
  refine ⟨sz8 (by decide),fun p hp=>?_⟩
  exact q (.ref p) .any _ (by rw [Tr.At]; exact ⟨p,rfl,upd_same⟩) (by rw [Tr.ok]; trivial) (by rw [Tr.dp]) (by rw [Tr.cnt]; decide) (W1.same (same_new hp _)) (B1.trans (Same.but (same_new hp _)))
 rw [if_neg c0]
 by_cases c3:kd < 3
 ·rw [if_pos c3]
  refine drw3 W1 (by decide) (by decide) fun r1 H2 a1 b1 W2 B2=>?_
  nofun
  refine ⟨⟨by decide,by decide,by decide⟩,?_⟩
  refine drw3 W2 (by decide) (by decide) fun r2 H3 a2 b2 W3 B3=>?_
  have b2':r2 < 1000000:=by first | exact b2 | simpa using b2
  refine ⟨sz8 (by decide),fun p hp=>?_⟩
  have S4:=same_new hp (.lst [.int r1,.int r2])
  have np:=W3.ne hp
  refine drw3 (W3.same S4) (by decide) (by decide) fun r3 H5 a3 b3 W5 B5=>?_
  have e5:=B5 p _ np upd_same
  nofun
  obtain ⟨v,hv,ev⟩:=at_memV (xs:=[.int r1,.int r2]) (i:=r3 / 2) (by omega) (by simp only [List.length_cons,List.length_nil]; omega)
  obtain ⟨nn,rfl,n0,n1⟩:∃ nn:Int,v=.int nn∧0≤nn∧nn < 1000000:=by
   simp only [List.mem_cons,List.not_mem_nil,or_false] at hv
   rcases hv with rfl | rfl
   ·exact ⟨r1,rfl,a1,by omega⟩
   ·exact ⟨r2,rfl,a2,b2'⟩
  refine ⟨⟨by decide,by decide⟩,ixl (SqL.of e5) ev ?_⟩
  refine ⟨sz8 (by decide),fun p6 h6=>?_⟩
  exact q (.ref p6) (.weight nn) _ (by rw [Tr.At]; exact ⟨p6,rfl,upd_same⟩) (by rw [Tr.ok]; exact ⟨n0,n1⟩) (by rw [Tr.dp]) (by rw [Tr.cnt]; decide) (W5.same (same_new h6 _)) (B1.trans (B2.trans (B3.trans ((Same.but S4).trans (B5.trans (Same.but (same_new h6 _)))))))
 rw [if_neg c3]
 refine ⟨wl,rfl,W1,fun u0 H2 g0 W2 B2=>?_⟩
 nofun
 refine ⟨sz8 (by decide),fun pf hf=>?_⟩
 have nw:=W2.ne hf
 have S1:=same_new hf (.lst [.str u0])
 have W3:=W2.same S1
 have e1:upd H2 pf (.lst [.str u0]) pf=some (.lst ([u0].map V.str)):=upd_same
 generalize upd H2 pf (.lst [.str u0])=H3 at *
 refine drw3 W3 (by omega) (by omega) fun r H4 a2 b2 W4 B4=>?_
 have e2:=B4 pf _ nw e1
 nofun
 refine ⟨by omega,by omega,?_⟩
 refine ForR.by (fun i σ H'=>(∃ us:List Str,us.length≤i+1∧us≠[]∧(∀ u∈us,goodN u)∧us.Nodup∧H' pf=some (.lst (us.map V.str)))∧(∃ v8 v9,σ=[some (.ref wl),some (.int m),some (.int kd),some (.ref pf),v8,v9])∧Well3 H' wl∧But wl H2 H') ⟨⟨[u0],Nat.le_refl _,(by intro z; cases z),(fun u hu=>by rw [List.mem_singleton.mp hu]; exact g0),(by simp),e2⟩,⟨_,_,rfl⟩,W4,(Same.but S1).trans B4⟩ ?_ ?_
 ·rintro i σ H9 hi ⟨⟨us,ul,une,ug,un,ue⟩,⟨v8,v9,rfl⟩,W9,B9⟩
  nofun
  refine ⟨wl,rfl,W9,fun u H3 g W3 B3=>?_⟩
  have ue3:=B3 pf _ nw ue
  nofun
  refine ⟨pf,_,rfl,.inl (SqL.of ue3),rfl,flat_strs us,?_⟩
  rw [inV_str]
  by_cases c:u∈us
  ·exists decide_eq_true c,Bool.not_true
   exact ⟨⟨us,by omega,une,ug,un,ue3⟩,W3,B9.trans B3⟩
  ·exists decide_eq_false c,Bool.not_false
   refine ⟨.inl ⟨rfl,_,SqL.of ue3⟩,pf,_,_,rfl,rfl,ue3,?_,?_⟩
   ·rw [List.length_map]
    exact Nat.lt_of_le_of_lt (by omega:us.length≤1000) (by decide)
   ·have W12:Well3 (upd H3 pf (.lst (us.map V.str++[.str u]))) wl:=by
     obtain ⟨x1,x2,x3,e⟩:=W3
     exact ⟨x1,x2,x3,by rw [upd_ne (fun z=>nw z.symm)]; exact e⟩
    refine ⟨⟨us++[u],by rw [List.length_append,List.length_singleton]; omega,(by simp),fun y hy=>?_,?_,by rw [upd_same,List.map_append]; rfl⟩,W12,fun b o nb e=>?_⟩
    ·rcases List.mem_append.mp hy with z | z
     ·exact ug y z
     ·rw [List.mem_singleton.mp z]; exact g
    ·rw [List.nodup_append]
     exact ⟨un,by simp,fun x hx y hy e=>c (by rw [List.mem_singleton.mp hy] at e; rw [← e]; exact hx)⟩
    ·rw [upd_ne (ne_of_none e hf)]
     exact B3 b o nb (B9 b o nb e)
 ·rintro σ H9 ⟨⟨us,ul,une,ug,un,ue⟩,⟨v8,v9,rfl⟩,W9,B9⟩
  nofun
  refine ⟨sz8 (by decide),fun p1 h1=>?_⟩
  have T1:=same_new h1 (.lst [.str "kind",.str "place"])
  have f1:upd H9 p1 (.lst [.str "kind",.str "place"]) p1=some (.lst [.str "kind",.str "place"]):=upd_same
  have ue1:=T1 _ _ ue
  generalize upd H9 p1 (.lst [.str "kind",.str "place"])=G1 at *
  refine ⟨by decide,?_⟩
  rcases (by omega:kd % 2=0∨kd % 2=1) with hk | hk
  ·rw [hk]
   refine ixl (SqL.of f1) (v:=.str "kind") rfl ?_
   nofun
   refine ⟨_,.inl ⟨SqL.of ue1,fun p3 h3=>?_⟩⟩
   have T3:=same_new h3 (.tup (us.map V.str))
   refine ⟨sz8 (by decide),fun p4 h4=>?_⟩
   have SS:=T1.trans (T3.trans (same_new h4 (.tup [.str "kind",.ref p3])))
   refine q (.ref p4) (.kind us) _ (by rw [Tr.At]; exact ⟨p4,p3,rfl,upd_same,same_new h4 _ _ _ upd_same⟩) (by rw [Tr.ok]; exact ⟨une,by omega,ug,un⟩) (by rw [Tr.dp]) (by rw [Tr.cnt]; omega) (W9.same SS) (B1.trans (B2.trans (B9.trans (Same.but SS))))
  ·rw [hk]
   refine ixl (SqL.of f1) (v:=.str "place") rfl ?_
   nofun
   refine ⟨_,.inl ⟨SqL.of ue1,fun p3 h3=>?_⟩⟩
   have T3:=same_new h3 (.tup (us.map V.str))
   refine ⟨sz8 (by decide),fun p4 h4=>?_⟩
   have SS:=T1.trans (T3.trans (same_new h4 (.tup [.str "place",.ref p3])))
   refine q (.ref p4) (.place us) _ (by rw [Tr.At]; exact ⟨p4,p3,rfl,upd_same,same_new h4 _ _ _ upd_same⟩) (by rw [Tr.ok]; exact ⟨une,by omega,ug,un⟩) (by rw [Tr.dp]) (by rw [Tr.cnt]; omega) (W9.same SS) (B1.trans (B2.trans (B9.trans (Same.but SS))))
theorem ok_law_tree {d n:Nat}(hn:3≤n)(B:Bt K mg a)(C_law_next:CalX P w K mg base "_law_next" ["_law_state","_law_base"] 1 (sp_law_next K a))(C_law_leaf:CalX P w K mg base "_law_leaf" ["_law_state","_law_more"] 3 (sp_law_leaf K a))(C_law_tree:CalX P w K mg base "_law_tree" ["_law_state","_law_deep","_law_more"] n (sp_law_tree K a d))(F:Fun K "_law_tree" "_law_tree" s_law_tree f fd):FnOk P w K mg base CX0 (n+1) f fd ["_law_state","_law_deep","_law_more"] (sp_law_tree K a (d+1)):=by
 refine F.ok sc_law_tree (fun vs H Q E h=>?_) (fun cdv A outer s H vs Q E hr h=>?_)
 ·obtain ⟨wl,i,m,hi,rfl,_⟩:=h
  rfl
 obtain ⟨wl,i,m,hi,rfl,W,i3,m0,m5,q⟩:=h
 refine ⟨_,(pss_of (qss_cons (qs_set (i:=3) sc_law_tree.nd rfl (Or.inl rfl) (qe_of (pe_calN C_law_next (hr.mono (by omega)) rfl (pa_of (qa_c (pv 0) (qa_c pe_int qa_nil))) (he:=star_plain _ _ _ rfl) (hpl:=plain_any rfl))) (by kernel_rfl)) (qss_cons (qs_if (L2.PW.pt (pw_or (pt_cmpR op_eq (pv 1) pe_int (nomark _)) (pw_or1 (pt_cmpR op_lt (pv 3) pe_int (nomark _))))) (qss_one (qs_ret (qe_of (pe_calN C_law_leaf (hr.mono (by omega)) rfl (pa_of (qa_c (pv 0) (qa_c (pe_op op_mul (pv 2) (pe_callTy call_int1 rfl B.int PyProof.Rows.boot_int (pa_of (qa_c (pe_cmpR op_gt (pv 1) pe_int (nomark _)) qa_nil)))) qa_nil))) (he:=star_plain _ _ _ rfl) (hpl:=plain_any rfl))))) qss_nil) (qss_cons (qs_if (pt_cmpR op_eq (pv 3) pe_int (nomark _)) (qss_one (qs_ret (qe_of (pe_tup (pa_of (qa_c pe_str (qa_c (pe_calN C_law_tree (hr.mono (by omega)) rfl (pa_of (qa_c (pv 0) (qa_c (pe_op op_sub (pv 1) pe_int) (qa_c (pv 2) qa_nil)))) (he:=star_plain _ _ _ rfl) (hpl:=plain_any rfl)) qa_nil))))))) qss_nil) (qss_cons (qs_of (ps_compB (i:=4) ["_law_k","_law_state","_law_more","_law_deep"] [none,some 0,some 2,some 1] rfl (by kernel_rfl) sc_law_tree.nd rfl rfl (pi_range1 rfl B.range (pa_of (qa_c (pe_op op_add pe_int (pe_callTy call_int1 rfl B.int PyProof.Rows.boot_int (pa_of (qa_c (pe_and (pe_cmpR op_gt (pv 1) pe_int (nomark _)) (pe_one (pe_cmpR op_gt (pv 3) pe_int (nomark _)))) qa_nil)))) qa_nil))) (fun cl C s H fp=>⟨(pg_name (i:=0) (by decide:List.Nodup (["_law_k","_law_state","_law_more","_law_deep"]:List Str)) rfl (Or.inl (by kernel_rfl)) (Or.inr (by kernel_rfl))),pts_nil,(pe_calN C_law_tree (hr.mono (by omega)) (gl_of (by kernel_rfl)) (pa_of (qa_c (pv 1 (hv:=Or.inr (Or.inl (by kernel_rfl)))) (qa_c (pe_op op_sub (pv 3 (hv:=Or.inr (Or.inl (by kernel_rfl)))) pe_int) (qa_c (pv 2 (hv:=Or.inr (Or.inl (by kernel_rfl)))) qa_nil)))) (he:=star_plain _ _ _ rfl) (hpl:=plain_any rfl))⟩))) (qss_one (qs_ret (qe_of (pe_tup (pa_of (qa_c (pe_ix ix_list (pe_lst (pa_of (qa_c pe_str (qa_c pe_str qa_nil)))) (pe_op op_mod (pv 3) pe_int) (fun _ _=>rfl)) (qa_c (pe_callTy call_tuple_of rfl B.tuple PyProof.Rows.boot_tuple (pa_of (qa_c (pv 4) qa_nil))) qa_nil)))))))))))),?_⟩
 nofun
 refine drw3 W (by decide) (by decide) fun kd H1 k0 k1 W1 B1=>?_
 nofun
 by_cases c0:(i:Int)=0
 ·rw [if_pos c0]
  refine ⟨.inl ⟨by omega,by omega⟩,wl,_,rfl,W1,?_,?_,fun v t H' hA ho hd hc W' B'=>?_⟩
  ·split <;> omega
  ·split <;> omega
  have p3:1≤3 ^ i:=Nat.one_le_pow _ _ (by decide)
  exact q v t H' hA ho (by omega) (by omega) W' (B1.trans B')
 rw [if_neg c0]
 by_cases c3:kd < 3
 ·rw [if_pos c3]
  refine ⟨.inl ⟨by omega,by omega⟩,wl,_,rfl,W1,?_,?_,fun v t H' hA ho hd hc W' B'=>?_⟩
  ·split <;> omega
  ·split <;> omega
  have p3:1≤3 ^ i:=Nat.one_le_pow _ _ (by decide)
  exact q v t H' hA ho (by omega) (by omega) W' (B1.trans B')
 rw [if_neg c3]
 obtain ⟨j,rfl⟩:∃ j,i=j+1:=⟨i - 1,by omega⟩
 by_cases c4:kd=3
 ·rw [if_pos c4]
  refine ⟨wl,j,m,by omega,by rw [show ((j+1:Nat):Int) - 1=(j:Int) by omega],W1,by omega,m0,m5,fun v t H' hA ho hd hc W' B'=>?_⟩
  refine ⟨sz8 (by decide),fun p hp=>?_⟩
  have S':=same_new hp (.tup [.str "not",v])
  exact q (.ref p) (.not t) _ (by rw [Tr.At]; exact ⟨p,v,rfl,upd_same,hA.same S'⟩) (by rw [Tr.ok]; exact ho) (by rw [Tr.dp]; omega) (by rw [Tr.cnt,Nat.pow_succ]; omega) (W'.same S') (B1.trans (B'.trans (Same.but S')))
 rw [if_neg c4]
 by_cases c5:(2:Int) < ((j+1:Nat):Int)
 ·rw [if_pos c5]
  by_cases c6:5 < kd
  ·rw [if_pos c6]
   refine ⟨by decide,by decide,?_⟩
   refine CompR.by (n:=3) (fun i' acc σ H'=>∃ ts:List Tr,All2 (Tr.At H') ts acc∧ts.length=i'∧(∀ t∈ts,t.ok∧t.dp≤j∧t.cnt≤3 * 3 ^ j)∧(∃ v,σ=[v,some (.ref wl),some (.int m),some (.int ((j+1:Nat):Int))])∧Well3 H' wl∧But wl H1 H') (sz8 (by decide)) ⟨[],.nil,rfl,(fun t ht=>absurd ht List.not_mem_nil),⟨_,rfl⟩,W1,But.refl _ _⟩ ?_ ?_ ?_
   ·rintro i' acc σ H' hi' ⟨ts,hA,hl,ht,⟨v,rfl⟩,W',B'⟩
    nofun
    refine ⟨wl,j,m,by omega,by rw [show ((j+1:Nat):Int) - 1=(j:Int) by omega],W',by omega,m0,m5,fun v2 t2 H2 hA2 ho2 hd2 hc2 W2 B2=>?_⟩
    have new:∃ ts:List Tr,All2 (Tr.At H2) ts (acc++[v2])∧ts.length=i'+1∧(∀ t∈ts,t.ok∧t.dp≤j∧t.cnt≤3 * 3 ^ j):=⟨ts++[t2],(hA.imp fun t y _ h=>h.but3 W' B2).snoc hA2,by rw [List.length_append,hl]; rfl,fun t m2=>by
     rcases List.mem_append.mp m2 with m2 | m2
     ·exact ht t m2
     ·rw [List.mem_singleton.mp m2]; exact ⟨ho2,hd2,hc2⟩⟩
    obtain ⟨ts2,n1,n2,n3⟩:=new
    first | exact ⟨ts2,n1,n2,n3,⟨_,rfl⟩,W2,B'.trans B2⟩ | exact ⟨ts2,n1,n2,n3,W2,B'.trans B2⟩
   ·rintro i' acc σ H' ⟨ts,hA,hl,_⟩
    rw [← hA.len]
    omega
   rintro acc σ H2 ⟨ts,hA,hl,ht,⟨v,rfl⟩,W2,B2⟩ pl hpl
   have T0:=same_new hpl (.lst acc)
   have e0:upd H2 pl (.lst acc) pl=some (.lst acc):=upd_same
   generalize upd H2 pl (.lst acc)=G0 at *
   nofun
   refine ⟨sz8 (by decide),fun p1 h1=>?_⟩
   have T1:=same_new h1 (.lst [.str "both",.str "either"])
   have f1:upd G0 p1 (.lst [.str "both",.str "either"]) p1=some (.lst [.str "both",.str "either"]):=upd_same
   have e1:=T1 _ _ e0
   generalize upd G0 p1 (.lst [.str "both",.str "either"])=G1 at *
   refine ⟨by decide,?_⟩
   have okT:2≤(Trs.ofL ts).toL.length∧(Trs.ofL ts).toL.length≤6∧(Trs.ofL ts).ok:=by
    rw [toL_ofL]
    exact ⟨by omega,by omega,trs_ok.mpr (by rw [toL_ofL]; exact fun t h=>(ht t h).1)⟩
   have dpT:(Trs.ofL ts).dp≤j:=trs_dp_le (by rw [toL_ofL]; exact fun t h=>(ht t h).2.1)
   have cnT:(Trs.ofL ts).cnt≤3 * 3 ^ (j+1):=by
    have h:=trs_cnt (n:=3 * 3 ^ j) (ts:=Trs.ofL ts) (by rw [toL_ofL]; exact fun t h=>(ht t h).2.2)
    rw [toL_ofL,hl] at h
    refine Nat.le_trans h ?_
    rw [Nat.pow_succ,← Nat.mul_assoc]
    exact Nat.mul_le_mul_left _ (by decide)
   rcases (by omega:kd % 2=0∨kd % 2=1) with hk | hk
   ·rw [hk]
    refine ixl (SqL.of f1) (v:=.str "both") rfl ?_
    nofun
    refine ⟨_,.inl ⟨SqL.of e1,fun p3 h3=>?_⟩⟩
    have T3:=same_new h3 (.tup acc)
    refine ⟨sz8 (by decide),fun p4 h4=>?_⟩
    have SS:=T0.trans (T1.trans (T3.trans (same_new h4 (.tup [.str "both",.ref p3]))))
    exact q (.ref p4) (.both (Trs.ofL ts)) _ (by rw [Tr.At]; exact ⟨p4,p3,acc,rfl,upd_same,same_new h4 _ _ _ upd_same,trs_at.mpr (by rw [toL_ofL]; exact hA.imp fun t y _ h=>h.same SS)⟩) (by rw [Tr.ok]; exact okT) (by rw [Tr.dp]; omega) (by rw [Tr.cnt]; exact cnT) (W2.same SS) (B1.trans (B2.trans (Same.but SS)))
   ·rw [hk]
    refine ixl (SqL.of f1) (v:=.str "either") rfl ?_
    nofun
    refine ⟨_,.inl ⟨SqL.of e1,fun p3 h3=>?_⟩⟩
    have T3:=same_new h3 (.tup acc)
    refine ⟨sz8 (by decide),fun p4 h4=>?_⟩
    have SS:=T0.trans (T1.trans (T3.trans (same_new h4 (.tup [.str "either",.ref p3]))))
    exact q (.ref p4) (.either (Trs.ofL ts)) _ (by rw [Tr.At]; exact ⟨p4,p3,acc,rfl,upd_same,same_new h4 _ _ _ upd_same,trs_at.mpr (by rw [toL_ofL]; exact hA.imp fun t y _ h=>h.same SS)⟩) (by rw [Tr.ok]; exact okT) (by rw [Tr.dp]; omega) (by rw [Tr.cnt]; exact cnT) (W2.same SS) (B1.trans (B2.trans (Same.but SS)))
  ·rw [if_neg c6]
   refine ⟨by decide,by decide,?_⟩
   refine CompR.by (n:=2) (fun i' acc σ H'=>∃ ts:List Tr,All2 (Tr.At H') ts acc∧ts.length=i'∧(∀ t∈ts,t.ok∧t.dp≤j∧t.cnt≤3 * 3 ^ j)∧(∃ v,σ=[v,some (.ref wl),some (.int m),some (.int ((j+1:Nat):Int))])∧Well3 H' wl∧But wl H1 H') (sz8 (by decide)) ⟨[],.nil,rfl,(fun t ht=>absurd ht List.not_mem_nil),⟨_,rfl⟩,W1,But.refl _ _⟩ ?_ ?_ ?_
   ·rintro i' acc σ H' hi' ⟨ts,hA,hl,ht,⟨v,rfl⟩,W',B'⟩
    nofun
    refine ⟨wl,j,m,by omega,by rw [show ((j+1:Nat):Int) - 1=(j:Int) by omega],W',by omega,m0,m5,fun v2 t2 H2 hA2 ho2 hd2 hc2 W2 B2=>?_⟩
    have new:∃ ts:List Tr,All2 (Tr.At H2) ts (acc++[v2])∧ts.length=i'+1∧(∀ t∈ts,t.ok∧t.dp≤j∧t.cnt≤3 * 3 ^ j):=⟨ts++[t2],(hA.imp fun t y _ h=>h.but3 W' B2).snoc hA2,by rw [List.length_append,hl]; rfl,fun t m2=>by
     rcases List.mem_append.mp m2 with m2 | m2
     ·exact ht t m2
     ·rw [List.mem_singleton.mp m2]; exact ⟨ho2,hd2,hc2⟩⟩
    obtain ⟨ts2,n1,n2,n3⟩:=new
    first | exact ⟨ts2,n1,n2,n3,⟨_,rfl⟩,W2,B'.trans B2⟩ | exact ⟨ts2,n1,n2,n3,W2,B'.trans B2⟩
   ·rintro i' acc σ H' ⟨ts,hA,hl,_⟩
    rw [← hA.len]
    omega
   rintro acc σ H2 ⟨ts,hA,hl,ht,⟨v,rfl⟩,W2,B2⟩ pl hpl
   have T0:=same_new hpl (.lst acc)
   have e0:upd H2 pl (.lst acc) pl=some (.lst acc):=upd_same
   generalize upd H2 pl (.lst acc)=G0 at *
   nofun
   refine ⟨sz8 (by decide),fun p1 h1=>?_⟩
   have T1:=same_new h1 (.lst [.str "both",.str "either"])
   have f1:upd G0 p1 (.lst [.str "both",.str "either"]) p1=some (.lst [.str "both",.str "either"]):=upd_same
   have e1:=T1 _ _ e0
   generalize upd G0 p1 (.lst [.str "both",.str "either"])=G1 at *
   refine ⟨by decide,?_⟩
   have okT:2≤(Trs.ofL ts).toL.length∧(Trs.ofL ts).toL.length≤6∧(Trs.ofL ts).ok:=by
    rw [toL_ofL]
    exact ⟨by omega,by omega,trs_ok.mpr (by rw [toL_ofL]; exact fun t h=>(ht t h).1)⟩
   have dpT:(Trs.ofL ts).dp≤j:=trs_dp_le (by rw [toL_ofL]; exact fun t h=>(ht t h).2.1)
   have cnT:(Trs.ofL ts).cnt≤3 * 3 ^ (j+1):=by
    have h:=trs_cnt (n:=3 * 3 ^ j) (ts:=Trs.ofL ts) (by rw [toL_ofL]; exact fun t h=>(ht t h).2.2)
    rw [toL_ofL,hl] at h
    refine Nat.le_trans h ?_
    rw [Nat.pow_succ,← Nat.mul_assoc]
    exact Nat.mul_le_mul_left _ (by decide)
   rcases (by omega:kd % 2=0∨kd % 2=1) with hk | hk
   ·rw [hk]
    refine ixl (SqL.of f1) (v:=.str "both") rfl ?_
    nofun
    refine ⟨_,.inl ⟨SqL.of e1,fun p3 h3=>?_⟩⟩
    have T3:=same_new h3 (.tup acc)
    refine ⟨sz8 (by decide),fun p4 h4=>?_⟩
    have SS:=T0.trans (T1.trans (T3.trans (same_new h4 (.tup [.str "both",.ref p3]))))
    exact q (.ref p4) (.both (Trs.ofL ts)) _ (by rw [Tr.At]; exact ⟨p4,p3,acc,rfl,upd_same,same_new h4 _ _ _ upd_same,trs_at.mpr (by rw [toL_ofL]; exact hA.imp fun t y _ h=>h.same SS)⟩) (by rw [Tr.ok]; exact okT) (by rw [Tr.dp]; omega) (by rw [Tr.cnt]; exact cnT) (W2.same SS) (B1.trans (B2.trans (Same.but SS)))
   ·rw [hk]
    refine ixl (SqL.of f1) (v:=.str "either") rfl ?_
    nofun
    refine ⟨_,.inl ⟨SqL.of e1,fun p3 h3=>?_⟩⟩
    have T3:=same_new h3 (.tup acc)
    refine ⟨sz8 (by decide),fun p4 h4=>?_⟩
    have SS:=T0.trans (T1.trans (T3.trans (same_new h4 (.tup [.str "either",.ref p3]))))
    exact q (.ref p4) (.either (Trs.ofL ts)) _ (by rw [Tr.At]; exact ⟨p4,p3,acc,rfl,upd_same,same_new h4 _ _ _ upd_same,trs_at.mpr (by rw [toL_ofL]; exact hA.imp fun t y _ h=>h.same SS)⟩) (by rw [Tr.ok]; exact okT) (by rw [Tr.dp]; omega) (by rw [Tr.cnt]; exact cnT) (W2.same SS) (B1.trans (B2.trans (Same.but SS)))
 ·rw [if_neg c5]
  first | refine ⟨by decide,by decide,?_⟩ | (nofun; refine ⟨by decide,by decide,?_⟩)
  refine CompR.by (n:=2) (fun i' acc σ H'=>∃ ts:List Tr,All2 (Tr.At H') ts acc∧ts.length=i'∧(∀ t∈ts,t.ok∧t.dp≤j∧t.cnt≤3 * 3 ^ j)∧(∃ v,σ=[v,some (.ref wl),some (.int m),some (.int ((j+1:Nat):Int))])∧Well3 H' wl∧But wl H1 H') (sz8 (by decide)) ⟨[],.nil,rfl,(fun t ht=>absurd ht List.not_mem_nil),⟨_,rfl⟩,W1,But.refl _ _⟩ ?_ ?_ ?_
  ·rintro i' acc σ H' hi' ⟨ts,hA,hl,ht,⟨v,rfl⟩,W',B'⟩
   nofun
   refine ⟨wl,j,m,by omega,by rw [show ((j+1:Nat):Int) - 1=(j:Int) by omega],W',by omega,m0,m5,fun v2 t2 H2 hA2 ho2 hd2 hc2 W2 B2=>?_⟩
   have new:∃ ts:List Tr,All2 (Tr.At H2) ts (acc++[v2])∧ts.length=i'+1∧(∀ t∈ts,t.ok∧t.dp≤j∧t.cnt≤3 * 3 ^ j):=⟨ts++[t2],(hA.imp fun t y _ h=>h.but3 W' B2).snoc hA2,by rw [List.length_append,hl]; rfl,fun t m2=>by
    rcases List.mem_append.mp m2 with m2 | m2
    ·exact ht t m2
    ·rw [List.mem_singleton.mp m2]; exact ⟨ho2,hd2,hc2⟩⟩
   obtain ⟨ts2,n1,n2,n3⟩:=new
   first | exact ⟨ts2,n1,n2,n3,⟨_,rfl⟩,W2,B'.trans B2⟩ | exact ⟨ts2,n1,n2,n3,W2,B'.trans B2⟩
  ·rintro i' acc σ H' ⟨ts,hA,hl,_⟩
   rw [← hA.len]
   omega
  rintro acc σ H2 ⟨ts,hA,hl,ht,⟨v,rfl⟩,W2,B2⟩ pl hpl
  have T0:=same_new hpl (.lst acc)
  have e0:upd H2 pl (.lst acc) pl=some (.lst acc):=upd_same
  generalize upd H2 pl (.lst acc)=G0 at *
  nofun
  refine ⟨sz8 (by decide),fun p1 h1=>?_⟩
  have T1:=same_new h1 (.lst [.str "both",.str "either"])
  have f1:upd G0 p1 (.lst [.str "both",.str "either"]) p1=some (.lst [.str "both",.str "either"]):=upd_same
  have e1:=T1 _ _ e0
  generalize upd G0 p1 (.lst [.str "both",.str "either"])=G1 at *
  refine ⟨by decide,?_⟩
  have okT:2≤(Trs.ofL ts).toL.length∧(Trs.ofL ts).toL.length≤6∧(Trs.ofL ts).ok:=by
   rw [toL_ofL]
   exact ⟨by omega,by omega,trs_ok.mpr (by rw [toL_ofL]; exact fun t h=>(ht t h).1)⟩
  have dpT:(Trs.ofL ts).dp≤j:=trs_dp_le (by rw [toL_ofL]; exact fun t h=>(ht t h).2.1)
  have cnT:(Trs.ofL ts).cnt≤3 * 3 ^ (j+1):=by
   have h:=trs_cnt (n:=3 * 3 ^ j) (ts:=Trs.ofL ts) (by rw [toL_ofL]; exact fun t h=>(ht t h).2.2)
   rw [toL_ofL,hl] at h
   refine Nat.le_trans h ?_
   rw [Nat.pow_succ,← Nat.mul_assoc]
   exact Nat.mul_le_mul_left _ (by decide)
  rcases (by omega:kd % 2=0∨kd % 2=1) with hk | hk
  ·rw [hk]
   refine ixl (SqL.of f1) (v:=.str "both") rfl ?_
   nofun
   refine ⟨_,.inl ⟨SqL.of e1,fun p3 h3=>?_⟩⟩
   have T3:=same_new h3 (.tup acc)
   refine ⟨sz8 (by decide),fun p4 h4=>?_⟩
   have SS:=T0.trans (T1.trans (T3.trans (same_new h4 (.tup [.str "both",.ref p3]))))
   exact q (.ref p4) (.both (Trs.ofL ts)) _ (by rw [Tr.At]; exact ⟨p4,p3,acc,rfl,upd_same,same_new h4 _ _ _ upd_same,trs_at.mpr (by rw [toL_ofL]; exact hA.imp fun t y _ h=>h.same SS)⟩) (by rw [Tr.ok]; exact okT) (by rw [Tr.dp]; omega) (by rw [Tr.cnt]; exact cnT) (W2.same SS) (B1.trans (B2.trans (Same.but SS)))
  ·rw [hk]
   refine ixl (SqL.of f1) (v:=.str "either") rfl ?_
   nofun
   refine ⟨_,.inl ⟨SqL.of e1,fun p3 h3=>?_⟩⟩
   have T3:=same_new h3 (.tup acc)
   refine ⟨sz8 (by decide),fun p4 h4=>?_⟩
   have SS:=T0.trans (T1.trans (T3.trans (same_new h4 (.tup [.str "either",.ref p3]))))
   exact q (.ref p4) (.either (Trs.ofL ts)) _ (by rw [Tr.At]; exact ⟨p4,p3,acc,rfl,upd_same,same_new h4 _ _ _ upd_same,trs_at.mpr (by rw [toL_ofL]; exact hA.imp fun t y _ h=>h.same SS)⟩) (by rw [Tr.ok]; exact okT) (by rw [Tr.dp]; omega) (by rw [Tr.cnt]; exact cnT) (W2.same SS) (B1.trans (B2.trans (Same.but SS)))
theorem ok_law_made {d n:Nat}(hn:5≤n)(B:Bt K mg a)(CC_Either:CalC P w K mg base "Either" a.Either ["self","fits"] 3 (sp_Either___init__ K a))(CC_Kind:CalC P w K mg base "Kind" a.Kind ["self","names"] 4 (sp_Kind___init__ K a))(CC_Place:CalC P w K mg base "Place" a.Place ["self","names"] 4 (sp_Place___init__ K a))(CC_Least:CalC P w K mg base "Least" a.Least ["self","weight"] 3 (sp_Least___init__ K a))(CC_Not:CalC P w K mg base "Not" a.Not ["self","fit"] 2 (sp_Not___init__ K a))(CC_Both:CalC P w K mg base "Both" a.Both ["self","fits"] 3 (sp_Both___init__ K a))(C_law_made:CalX P w K mg base "_law_made" ["_law_tree_here"] n (sp_law_made K a d))(F:Fun K "_law_made" "_law_made" s_law_made f fd):FnOk P w K mg base CX0 (n+1) f fd ["_law_tree_here"] (sp_law_made K a (d+1)):=by
 refine F.ok sc_law_made (fun vs H Q E h=>?_) (fun cdv A outer s H vs Q E hr h=>?_)
 ·obtain ⟨v,t,hd0,rfl,_⟩:=h
  rfl
 obtain ⟨v,t,hd0,rfl,hA,ho,q⟩:=h
 refine ⟨_,(pss_of (qss_cons (qs_if (pt_cmpR op_eq (pe_ix ix_tup (pv 0) pe_int (fun _ _=>rfl)) pe_str (nomark _)) (qss_one (qs_ret (qe_of (pe_makN B.mk_Any rfl B.Any)))) qss_nil) (qss_cons (qs_if (pt_cmpR op_eq (pe_ix ix_tup (pv 0) pe_int (fun _ _=>rfl)) pe_str (nomark _)) (qss_one (qs_ret (qe_of (pe_mak CC_Kind pass00 (hr.mono (by omega)) rfl (pa_of (qa_c (pe_callTy call_list_of rfl B.list PyProof.Rows.boot_list (pa_of (qa_c (pe_ix ix_tup (pv 0) pe_int (fun _ _=>rfl)) qa_nil))) qa_nil)) (he:=star_plain _ _ _ rfl) (hpl:=plain_any rfl))))) qss_nil) (qss_cons (qs_if (pt_cmpR op_eq (pe_ix ix_tup (pv 0) pe_int (fun _ _=>rfl)) pe_str (nomark _)) (qss_one (qs_ret (qe_of (pe_mak CC_Place pass00 (hr.mono (by omega)) rfl (pa_of (qa_c (pe_callTy call_list_of rfl B.list PyProof.Rows.boot_list (pa_of (qa_c (pe_ix ix_tup (pv 0) pe_int (fun _ _=>rfl)) qa_nil))) qa_nil)) (he:=star_plain _ _ _ rfl) (hpl:=plain_any rfl))))) qss_nil) (qss_cons (qs_if (pt_cmpR op_eq (pe_ix ix_tup (pv 0) pe_int (fun _ _=>rfl)) pe_str (nomark _)) (qss_one (qs_ret (qe_of (pe_mak CC_Least pass00 (hr.mono (by omega)) rfl (pa_of (qa_c (pe_ix ix_tup (pv 0) pe_int (fun _ _=>rfl)) qa_nil)) (he:=star_plain _ _ _ rfl) (hpl:=plain_any rfl))))) qss_nil) (qss_cons (qs_if (pt_cmpR op_eq (pe_ix ix_tup (pv 0) pe_int (fun _ _=>rfl)) pe_str (nomark _)) (qss_one (qs_ret (qe_of (pe_mak CC_Not pass00 (hr.mono (by omega)) rfl (pa_of (qa_c (pe_calN C_law_made (hr.mono (by omega)) rfl (pa_of (qa_c (pe_ix ix_tup (pv 0) pe_int (fun _ _=>rfl)) qa_nil)) (he:=star_plain _ _ _ rfl) (hpl:=plain_any rfl)) qa_nil)) (he:=star_plain _ _ _ rfl) (hpl:=plain_any rfl))))) qss_nil) (qss_cons (qs_if (pt_cmpR op_eq (pe_ix ix_tup (pv 0) pe_int (fun _ _=>rfl)) pe_str (nomark _)) (qss_one (qs_ret (qe_of (pe_mak CC_Both pass00 (hr.mono (by omega)) rfl (pa_of (qa_c (pe_compB ["_law_part"] [none] rfl (by kernel_rfl) (pi_tup (pe_ix ix_tup (pv 0) pe_int (fun _ _=>rfl))) (fun cl C s H fp=>⟨(pg_name (i:=0) (by decide:List.Nodup (["_law_part"]:List Str)) rfl (Or.inl (by kernel_rfl)) (Or.inr (by kernel_rfl))),pts_nil,(pe_calN C_law_made (hr.mono (by omega)) (gl_of (by kernel_rfl)) (pa_of (qa_c (pv 0 (hv:=Or.inl (by kernel_rfl))) qa_nil)) (he:=star_plain _ _ _ rfl) (hpl:=plain_any rfl))⟩)) qa_nil)) (he:=star_plain _ _ _ rfl) (hpl:=plain_any rfl))))) qss_nil) (qss_one (qs_ret (qe_of (pe_mak CC_Either pass00 (hr.mono (by omega)) rfl (pa_of (qa_c (pe_compB ["_law_part"] [none] rfl (by kernel_rfl) (pi_tup (pe_ix ix_tup (pv 0) pe_int (fun _ _=>rfl))) (fun cl C s H fp=>⟨(pg_name (i:=0) (by decide:List.Nodup (["_law_part"]:List Str)) rfl (Or.inl (by kernel_rfl)) (Or.inr (by kernel_rfl))),pts_nil,(pe_calN C_law_made (hr.mono (by omega)) (gl_of (by kernel_rfl)) (pa_of (qa_c (pv 0 (hv:=Or.inl (by kernel_rfl))) qa_nil)) (he:=star_plain _ _ _ rfl) (hpl:=plain_any rfl))⟩)) qa_nil)) (he:=star_plain _ _ _ rfl) (hpl:=plain_any rfl)))))))))))),?_⟩
 cases t with
 | any =>
  rw [Tr.At] at hA
  obtain ⟨p,rfl,hp⟩:=hA
  nofun
  refine ixt (SqT.of hp) (v:=.str "any") rfl ?_
  nofun
  intro x dx hx hd ne
  exact q (.ref x) _ (made_same hx hd) (by rw [Tr.Fit]; exact ⟨x,dx,rfl,upd_same⟩)
 | kind us =>
  rw [Tr.At] at hA
  obtain ⟨p,l0,rfl,hp,hl⟩:=hA
  nofun
  refine ixt (SqT.of hp) (v:=.str "kind") rfl ?_
  nofun
  rw [if_neg (by decide)]
  refine ixt (SqT.of hp) (v:=.str "kind") rfl ?_
  nofun
  rw [Tr.ok] at ho
  refine ixt (SqT.of hp) (v:=.ref l0) rfl ?_
  nofun
  refine ⟨_,.inr (SqT.of hl),fun l2 h2=>?_⟩
  have S2:=same_new h2 (.lst (us.map V.str))
  intro x dx hx hd ne
  have M:=made_same (o:=.own x) (o':=.ins a.Kind dx []) hx hd
  refine ⟨x,dx,l2,us,rfl,upd_same,M _ _ upd_same,ho,fun l3 H' Bx e1 e2=>?_⟩
  nofun
  exact q (.ref x) _ (S2.trans (made_but hx hd Bx)) (by rw [Tr.Fit]; exact ⟨x,dx,l3,rfl,e2,e1⟩)
 | place us =>
  rw [Tr.At] at hA
  obtain ⟨p,l0,rfl,hp,hl⟩:=hA
  nofun
  refine ixt (SqT.of hp) (v:=.str "place") rfl ?_
  nofun
  rw [if_neg (by decide)]
  refine ixt (SqT.of hp) (v:=.str "place") rfl ?_
  nofun
  rw [if_neg (by decide)]
  refine ixt (SqT.of hp) (v:=.str "place") rfl ?_
  nofun
  rw [Tr.ok] at ho
  refine ixt (SqT.of hp) (v:=.ref l0) rfl ?_
  nofun
  refine ⟨_,.inr (SqT.of hl),fun l2 h2=>?_⟩
  have S2:=same_new h2 (.lst (us.map V.str))
  intro x dx hx hd ne
  have M:=made_same (o:=.own x) (o':=.ins a.Place dx []) hx hd
  refine ⟨x,dx,l2,us,rfl,upd_same,M _ _ upd_same,ho,fun l3 H' Bx e1 e2=>?_⟩
  nofun
  exact q (.ref x) _ (S2.trans (made_but hx hd Bx)) (by rw [Tr.Fit]; exact ⟨x,dx,l3,rfl,e2,e1⟩)
 | weight n =>
  rw [Tr.At] at hA
  obtain ⟨p,rfl,hp⟩:=hA
  nofun
  refine ixt (SqT.of hp) (v:=.str "weight") rfl ?_
  nofun
  rw [if_neg (by decide)]
  refine ixt (SqT.of hp) (v:=.str "weight") rfl ?_
  nofun
  rw [if_neg (by decide)]
  refine ixt (SqT.of hp) (v:=.str "weight") rfl ?_
  nofun
  rw [if_neg (by decide)]
  refine ixt (SqT.of hp) (v:=.str "weight") rfl ?_
  nofun
  rw [Tr.ok] at ho
  refine ixt (SqT.of hp) (v:=.int n) rfl ?_
  nofun
  intro x dx hx hd ne
  refine ⟨x,dx,n,rfl,upd_same,ho.1,?_⟩
  nofun
  exact q (.ref x) _ (fun b o e=>by rw [upd_ne (ne_of_none e hx)]; exact made_same hx hd b o e) (by rw [Tr.Fit]; exact ⟨x,dx,rfl,upd_same⟩)
 | not t =>
  rw [Tr.At] at hA
  obtain ⟨p,y,rfl,hp,hy⟩:=hA
  nofun
  refine ixt (SqT.of hp) (v:=.str "not") rfl ?_
  nofun
  rw [if_neg (by decide)]
  refine ixt (SqT.of hp) (v:=.str "not") rfl ?_
  nofun
  rw [if_neg (by decide)]
  refine ixt (SqT.of hp) (v:=.str "not") rfl ?_
  nofun
  rw [if_neg (by decide)]
  refine ixt (SqT.of hp) (v:=.str "not") rfl ?_
  nofun
  rw [if_neg (by decide)]
  refine ixt (SqT.of hp) (v:=.str "not") rfl ?_
  nofun
  rw [Tr.ok] at ho
  rw [Tr.dp] at hd0
  refine ixt (SqT.of hp) (v:=y) rfl ?_
  nofun
  refine ⟨y,t,by omega,rfl,hy,ho,fun v' H' S' hf=>?_⟩
  nofun
  intro x dx hx hd ne
  have M:=made_same (o:=.own x) (o':=.ins a.Not dx []) hx hd
  refine ⟨x,dx,v',t,rfl,upd_same,hf.same M,?_⟩
  nofun
  have SS:Same H' (upd (upd (upd H' dx (.own x)) x (.ins a.Not dx [])) x (.ins a.Not dx [("fit",v')])):=fun b o e=>by rw [upd_ne (ne_of_none e hx)]; exact M b o e
  exact q (.ref x) _ (S'.trans SS) (by rw [Tr.Fit]; exact ⟨x,dx,v',rfl,upd_same,hf.same SS⟩)
 | both ts =>
  rw [Tr.At] at hA
  obtain ⟨p,l0,xs,rfl,hp,hl,hs⟩:=hA
  nofun
  refine ixt (SqT.of hp) (v:=.str "both") rfl ?_
  nofun
  rw [if_neg (by decide)]
  refine ixt (SqT.of hp) (v:=.str "both") rfl ?_
  nofun
  rw [if_neg (by decide)]
  refine ixt (SqT.of hp) (v:=.str "both") rfl ?_
  nofun
  rw [if_neg (by decide)]
  refine ixt (SqT.of hp) (v:=.str "both") rfl ?_
  nofun
  rw [if_neg (by decide)]
  refine ixt (SqT.of hp) (v:=.str "both") rfl ?_
  nofun
  rw [if_neg (by decide)]
  refine ixt (SqT.of hp) (v:=.str "both") rfl ?_
  nofun
  rw [Tr.ok] at ho
  rw [Tr.dp] at hd0
  obtain ⟨l2,l6,ho⟩:=ho
  have hA:=trs_at.mp hs
  have ln6:=hA.len
  refine ixt (SqT.of hp) (v:=.ref l0) rfl ?_
  nofun
  refine ⟨⟨xs,SqT.of hl⟩,?_⟩
  refine CompT.by (xs:=xs) (fun i acc σ H'=>All2 (Tr.Fit (fc a) H') (ts.toL.take i) acc∧(∃ v,σ=[v])∧Same H H') (sz8 (by omega)) ⟨.nil,⟨_,rfl⟩,fun _ _ z=>z⟩ (fun i acc σ H' _ h=>SqT.of (h.2.2 _ _ hl)) ?_ ?_ ?_
  ·rintro i y acc σ H' hy ⟨hF,⟨v,rfl⟩,S1⟩
   obtain ⟨t,e,ht⟩:=hA.get hy
   have mt:=List.mem_of_getElem? e
   have dt:=trs_dp mt
   nofun
   refine ⟨y,t,by omega,rfl,ht.same S1,trs_ok.mp ho t mt,fun v' H2 S2 hf=>?_⟩
   have new:All2 (Tr.Fit (fc a) H2) (ts.toL.take (i+1)) (acc++[v']):=by
    rw [List.take_succ,e]
    exact (hF.imp fun t y _ h=>h.same S2).snoc hf
   first | exact ⟨new,⟨_,rfl⟩,S1.trans S2⟩ | exact ⟨new,S1.trans S2⟩
  ·rintro i acc σ H' ⟨hF,_,_⟩
   rw [← hF.len,List.length_take]
   omega
  rintro acc σ H' ⟨hF,⟨v,rfl⟩,S1⟩ D hD
  rw [← ln6,List.take_length] at hF
  have la:=hF.len
  have S2:=same_new hD (.lst acc)
  intro x dx hx hd ne
  have M:=made_same (o:=.own x) (o':=.ins a.Both dx []) hx hd
  refine ⟨x,dx,D,acc,ts.toL,rfl,upd_same,M _ _ upd_same,hF.imp (fun t y _ h=>(h.same S2).same M),by omega,by omega,fun l3 H3 Bx e1 e2=>?_⟩
  nofun
  have SS:=S2.trans (made_but hx hd Bx)
  exact q (.ref x) _ (S1.trans SS) (by rw [Tr.Fit]; exact ⟨x,dx,l3,acc,rfl,e2,e1,trs_fit.mpr (hF.imp fun t y _ h=>h.same SS)⟩)
 | either ts =>
  rw [Tr.At] at hA
  obtain ⟨p,l0,xs,rfl,hp,hl,hs⟩:=hA
  nofun
  refine ixt (SqT.of hp) (v:=.str "either") rfl ?_
  nofun
  rw [if_neg (by decide)]
  refine ixt (SqT.of hp) (v:=.str "either") rfl ?_
  nofun
  rw [if_neg (by decide)]
  refine ixt (SqT.of hp) (v:=.str "either") rfl ?_
  nofun
  rw [if_neg (by decide)]
  refine ixt (SqT.of hp) (v:=.str "either") rfl ?_
  nofun
  rw [if_neg (by decide)]
  refine ixt (SqT.of hp) (v:=.str "either") rfl ?_
  nofun
  rw [if_neg (by decide)]
  refine ixt (SqT.of hp) (v:=.str "either") rfl ?_
  nofun
  rw [if_neg (by decide)]
  rw [Tr.ok] at ho
  rw [Tr.dp] at hd0
  obtain ⟨l2,l6,ho⟩:=ho
  have hA:=trs_at.mp hs
  have ln6:=hA.len
  refine ixt (SqT.of hp) (v:=.ref l0) rfl ?_
  nofun
  refine ⟨⟨xs,SqT.of hl⟩,?_⟩
  refine CompT.by (xs:=xs) (fun i acc σ H'=>All2 (Tr.Fit (fc a) H') (ts.toL.take i) acc∧(∃ v,σ=[v])∧Same H H') (sz8 (by omega)) ⟨.nil,⟨_,rfl⟩,fun _ _ z=>z⟩ (fun i acc σ H' _ h=>SqT.of (h.2.2 _ _ hl)) ?_ ?_ ?_
  ·rintro i y acc σ H' hy ⟨hF,⟨v,rfl⟩,S1⟩
   obtain ⟨t,e,ht⟩:=hA.get hy
   have mt:=List.mem_of_getElem? e
   have dt:=trs_dp mt
   nofun
   refine ⟨y,t,by omega,rfl,ht.same S1,trs_ok.mp ho t mt,fun v' H2 S2 hf=>?_⟩
   have new:All2 (Tr.Fit (fc a) H2) (ts.toL.take (i+1)) (acc++[v']):=by
    rw [List.take_succ,e]
    exact (hF.imp fun t y _ h=>h.same S2).snoc hf
   first | exact ⟨new,⟨_,rfl⟩,S1.trans S2⟩ | exact ⟨new,S1.trans S2⟩
  ·rintro i acc σ H' ⟨hF,_,_⟩
   rw [← hF.len,List.length_take]
   omega
  rintro acc σ H' ⟨hF,⟨v,rfl⟩,S1⟩ D hD
  rw [← ln6,List.take_length] at hF
  have la:=hF.len
  have S2:=same_new hD (.lst acc)
  intro x dx hx hd ne
  have M:=made_same (o:=.own x) (o':=.ins a.Either dx []) hx hd
  refine ⟨x,dx,D,acc,ts.toL,rfl,upd_same,M _ _ upd_same,hF.imp (fun t y _ h=>(h.same S2).same M),by omega,by omega,fun l3 H3 Bx e1 e2=>?_⟩
  nofun
  have SS:=S2.trans (made_but hx hd Bx)
  exact q (.ref x) _ (S1.trans SS) (by rw [Tr.Fit]; exact ⟨x,dx,l3,acc,rfl,e2,e1,trs_fit.mpr (hF.imp fun t y _ h=>h.same SS)⟩)
theorem ok_law_fits {d n:Nat}(hn:0≤n)(B:Bt K mg a)(C_law_fits:CalX P w K mg base "_law_fits" ["_law_tree_here","_law_thing"] n (sp_law_fits K a d))(F:Fun K "_law_fits" "_law_fits" s_law_fits f fd):FnOk P w K mg base CX0 (n+1) f fd ["_law_tree_here","_law_thing"] (sp_law_fits K a (d+1)):=by
 refine F.ok sc_law_fits (fun vs H Q E h=>?_) (fun cdv A outer s H vs Q E hr h=>?_)
 ·obtain ⟨v,x,t,k,l,n2,hd0,hd20,rfl,_⟩:=h
  rfl
 obtain ⟨v,x,t,k,l,n2,hd0,hd20,rfl,hA,ho,hx,q⟩:=h
 refine ⟨_,(pss_of (qss_cons (qs_if (pt_cmpR op_eq (pe_ix ix_tup (pv 0) pe_int (fun _ _=>rfl)) pe_str (nomark _)) (qss_one (qs_ret (qe_of pe_bl))) qss_nil) (qss_cons (qs_if (pt_cmpR op_eq (pe_ix ix_tup (pv 0) pe_int (fun _ _=>rfl)) pe_str (nomark _)) (qss_one (qs_ret (qe_of (pe_cmpR op_in_seq (pe_ix ix_tup (pv 1) pe_int (fun _ _=>rfl)) (pe_ix ix_tup (pv 0) pe_int (fun _ _=>rfl)) (by with_unfolding_all rfl))))) qss_nil) (qss_cons (qs_if (pt_cmpR op_eq (pe_ix ix_tup (pv 0) pe_int (fun _ _=>rfl)) pe_str (nomark _)) (qss_one (qs_ret (qe_of (pe_cmpR op_in_seq (pe_ix ix_tup (pv 1) pe_int (fun _ _=>rfl)) (pe_ix ix_tup (pv 0) pe_int (fun _ _=>rfl)) (by with_unfolding_all rfl))))) qss_nil) (qss_cons (qs_if (pt_cmpR op_eq (pe_ix ix_tup (pv 0) pe_int (fun _ _=>rfl)) pe_str (nomark _)) (qss_one (qs_ret (qe_of (pe_cmpR op_ge (pe_ix ix_tup (pv 1) pe_int (fun _ _=>rfl)) (pe_ix ix_tup (pv 0) pe_int (fun _ _=>rfl)) (nomark _))))) qss_nil) (qss_cons (qs_if (pt_cmpR op_eq (pe_ix ix_tup (pv 0) pe_int (fun _ _=>rfl)) pe_str (nomark _)) (qss_one (qs_ret (qe_of (pe_not (pe_calN C_law_fits (hr.mono (by omega)) rfl (pa_of (qa_c (pe_ix ix_tup (pv 0) pe_int (fun _ _=>rfl)) (qa_c (pv 1) qa_nil))) (he:=star_plain _ _ _ rfl) (hpl:=plain_any rfl)))))) qss_nil) (qss_cons (qs_if (pt_cmpR op_eq (pe_ix ix_tup (pv 0) pe_int (fun _ _=>rfl)) pe_str (nomark _)) (qss_one (qs_ret (qe_of (pe_cmpR (op_eqD hr.units) (pe_compB ["_law_part","_law_thing"] [none,some 1] rfl (by kernel_rfl) (pi_tup (pe_ix ix_tup (pv 0) pe_int (fun _ _=>rfl))) (fun cl C s H fp=>⟨(pg_name (i:=0) (by decide:List.Nodup (["_law_part","_law_thing"]:List Str)) rfl (Or.inl (by kernel_rfl)) (Or.inr (by kernel_rfl))),(pts_one (pt_not (pt_val (pe_calN C_law_fits (hr.mono (by omega)) (gl_of (by kernel_rfl)) (pa_of (qa_c (pv 0 (hv:=Or.inl (by kernel_rfl))) (qa_c (pv 1 (hv:=Or.inr (Or.inl (by kernel_rfl)))) qa_nil))) (he:=star_plain _ _ _ rfl) (hpl:=plain_any rfl))))),(pv 0 (hv:=Or.inl (by kernel_rfl)))⟩)) (pe_lst (pa_of qa_nil)) (nomark _))))) qss_nil) (qss_one (qs_ret (qe_of (pe_cmpR (op_neD hr.units) (pe_compB ["_law_part","_law_thing"] [none,some 1] rfl (by kernel_rfl) (pi_tup (pe_ix ix_tup (pv 0) pe_int (fun _ _=>rfl))) (fun cl C s H fp=>⟨(pg_name (i:=0) (by decide:List.Nodup (["_law_part","_law_thing"]:List Str)) rfl (Or.inl (by kernel_rfl)) (Or.inr (by kernel_rfl))),(pts_one (pt_val (pe_calN C_law_fits (hr.mono (by omega)) (gl_of (by kernel_rfl)) (pa_of (qa_c (pv 0 (hv:=Or.inl (by kernel_rfl))) (qa_c (pv 1 (hv:=Or.inr (Or.inl (by kernel_rfl)))) qa_nil))) (he:=star_plain _ _ _ rfl) (hpl:=plain_any rfl)))),(pv 0 (hv:=Or.inl (by kernel_rfl)))⟩)) (pe_lst (pa_of qa_nil)) (nomark _)))))))))))),?_⟩
 obtain ⟨tp,rfl,hth,_⟩:=id hx
 cases t with
 | any =>
  rw [Tr.At] at hA
  obtain ⟨p,rfl,hp⟩:=hA
  nofun
  refine ixt (SqT.of hp) (v:=.str "any") rfl ?_
  nofun
  simp only [Tr.ev] at q
  exact q _ fun _ _ z=>z
 | kind us =>
  rw [Tr.At] at hA
  obtain ⟨p,l0,rfl,hp,hl⟩:=hA
  nofun
  refine ixt (SqT.of hp) (v:=.str "kind") rfl ?_
  nofun
  rw [if_neg (by decide)]
  refine ixt (SqT.of hp) (v:=.str "kind") rfl ?_
  nofun
  simp only [Tr.ev] at q
  refine ixt (SqT.of hth) (v:=.str k) rfl ?_
  nofun
  refine ixt (SqT.of hp) (v:=.ref l0) rfl ?_
  refine ⟨l0,_,rfl,.inr (SqT.of hl),rfl,flat_strs us,?_⟩
  rw [inV_str]
  exact q _ fun _ _ z=>z
 | place us =>
  rw [Tr.At] at hA
  obtain ⟨p,l0,rfl,hp,hl⟩:=hA
  nofun
  refine ixt (SqT.of hp) (v:=.str "place") rfl ?_
  nofun
  rw [if_neg (by decide)]
  refine ixt (SqT.of hp) (v:=.str "place") rfl ?_
  nofun
  rw [if_neg (by decide)]
  refine ixt (SqT.of hp) (v:=.str "place") rfl ?_
  nofun
  simp only [Tr.ev] at q
  refine ixt (SqT.of hth) (v:=.str l) rfl ?_
  nofun
  refine ixt (SqT.of hp) (v:=.ref l0) rfl ?_
  refine ⟨l0,_,rfl,.inr (SqT.of hl),rfl,flat_strs us,?_⟩
  rw [inV_str]
  exact q _ fun _ _ z=>z
 | weight n =>
  rw [Tr.At] at hA
  obtain ⟨p,rfl,hp⟩:=hA
  nofun
  refine ixt (SqT.of hp) (v:=.str "weight") rfl ?_
  nofun
  rw [if_neg (by decide)]
  refine ixt (SqT.of hp) (v:=.str "weight") rfl ?_
  nofun
  rw [if_neg (by decide)]
  refine ixt (SqT.of hp) (v:=.str "weight") rfl ?_
  nofun
  rw [if_neg (by decide)]
  refine ixt (SqT.of hp) (v:=.str "weight") rfl ?_
  nofun
  simp only [Tr.ev] at q
  refine ixt (SqT.of hth) (v:=.int n2) rfl ?_
  nofun
  refine ixt (SqT.of hp) (v:=.int n) rfl ?_
  nofun
  exact q _ fun _ _ z=>z
 | not t =>
  rw [Tr.At] at hA
  obtain ⟨p,y,rfl,hp,hy⟩:=hA
  nofun
  refine ixt (SqT.of hp) (v:=.str "not") rfl ?_
  nofun
  rw [if_neg (by decide)]
  refine ixt (SqT.of hp) (v:=.str "not") rfl ?_
  nofun
  rw [if_neg (by decide)]
  refine ixt (SqT.of hp) (v:=.str "not") rfl ?_
  nofun
  rw [if_neg (by decide)]
  refine ixt (SqT.of hp) (v:=.str "not") rfl ?_
  nofun
  rw [if_neg (by decide)]
  refine ixt (SqT.of hp) (v:=.str "not") rfl ?_
  nofun
  simp only [Tr.ev] at q
  rw [Tr.dp] at hd0 hd20
  rw [Tr.ok] at ho
  refine ixt (SqT.of hp) (v:=y) rfl ?_
  nofun
  refine ⟨y,.ref tp,t,k,l,n2,by omega,by omega,rfl,hy,ho,hx,fun H' S'=>?_⟩
  nofun
  exact q _ S'
 | both ts =>
  rw [Tr.At] at hA
  obtain ⟨p,l0,xs,rfl,hp,hl,hs⟩:=hA
  nofun
  refine ixt (SqT.of hp) (v:=.str "both") rfl ?_
  nofun
  rw [if_neg (by decide)]
  refine ixt (SqT.of hp) (v:=.str "both") rfl ?_
  nofun
  rw [if_neg (by decide)]
  refine ixt (SqT.of hp) (v:=.str "both") rfl ?_
  nofun
  rw [if_neg (by decide)]
  refine ixt (SqT.of hp) (v:=.str "both") rfl ?_
  nofun
  rw [if_neg (by decide)]
  refine ixt (SqT.of hp) (v:=.str "both") rfl ?_
  nofun
  rw [if_neg (by decide)]
  refine ixt (SqT.of hp) (v:=.str "both") rfl ?_
  nofun
  simp only [Tr.ev] at q
  rw [Tr.dp] at hd0 hd20
  rw [Tr.ok] at ho
  obtain ⟨l2,l6,ho⟩:=ho
  have hA:=trs_at.mp hs
  have ln6:=hA.len
  have dA:=Trs.At.dt ho hs
  refine ixt (SqT.of hp) (v:=.ref l0) rfl ?_
  nofun
  refine ⟨⟨xs,SqT.of hl⟩,?_⟩
  refine CompT.by (xs:=xs) (fun i acc σ H'=>acc.length=((ts.toL.take i).filter (fun t=>!Tr.ev k l n2 t)).length∧(∀ y∈acc,y∈xs)∧(∃ v,σ=[v,some (.ref tp)])∧Same H H') (sz8 (by omega)) ⟨rfl,(fun y hy=>absurd hy List.not_mem_nil),⟨_,rfl⟩,fun _ _ z=>z⟩ (fun i acc σ H' _ h=>SqT.of (h.2.2.2 _ _ hl)) ?_ ?_ ?_
  ·rintro i y acc σ H' hy ⟨hc,hm,⟨v,rfl⟩,S1⟩
   obtain ⟨t,e,ht⟩:=hA.get hy
   have mt:=List.mem_of_getElem? e
   have dt:=trs_dp mt
   have tk:(ts.toL.take (i+1)).filter (fun t=>!Tr.ev k l n2 t)=(ts.toL.take i).filter (fun t=>!Tr.ev k l n2 t)++[t].filter (fun t=>!Tr.ev k l n2 t):=by rw [List.take_succ,e,← List.filter_append]; rfl
   nofun
   refine ⟨y,.ref tp,t,k,l,n2,by omega,by omega,rfl,ht.same S1,trs_ok.mp ho t mt,hx.same S1,fun H2 S2=>?_⟩
   nofun
   cases hv:t.ev k l n2 with
   | false =>
    have n1:(acc++[y]).length=((ts.toL.take (i+1)).filter (fun t=>!Tr.ev k l n2 t)).length:=by
     rw [tk,List.length_append,List.length_append,hc,List.filter_cons_of_pos (by simp [hv])]
     rfl
    have n2:∀ z∈acc++[y],z∈xs:=fun z hz=>by
     rcases List.mem_append.mp hz with hz | hz
     ·exact hm z hz
     ·rw [List.mem_singleton.mp hz]; exact List.mem_of_getElem? hy
    exists Bool.not_false
    first | exact ⟨n1,n2,⟨_,rfl⟩,S1.trans S2⟩ | exact ⟨n1,n2,S1.trans S2⟩
   | true =>
    have n1:acc.length=((ts.toL.take (i+1)).filter (fun t=>!Tr.ev k l n2 t)).length:=by
     rw [tk,List.length_append,hc,List.filter_cons_of_neg (by simp [hv])]
     rfl
    exists Bool.not_true
    first | exact ⟨n1,hm,⟨_,rfl⟩,S1.trans S2⟩ | exact ⟨n1,hm,S1.trans S2⟩
  ·rintro i acc σ H' ⟨hc,_,_,_⟩
   rw [hc]
   have:=List.length_filter_le (fun t=>!Tr.ev k l n2 t) (ts.toL.take i)
   rw [List.length_take] at this
   omega
  rintro acc σ H' ⟨hc,hm,⟨v,rfl⟩,S1⟩ D hD
  rw [← ln6,List.take_length] at hc
  have S2:=same_new hD (.lst acc)
  have e1:upd H' D (.lst acc) D=some (.lst acc):=upd_same
  generalize upd H' D (.lst acc)=H2 at *
  refine ⟨Nat.zero_le _,fun p2 h2=>?_⟩
  have S3:=same_new h2 (.lst [])
  have SS:=S1.trans (S2.trans S3)
  have dB:=Trs.At.dt ho (Trs.At.keep (same_tupK SS) hs)
  have ev_:(acc.isEmpty == true)=(ts.ev k l n2).all id:=by
   rw [trs_ev]
   have h0:acc.isEmpty=(ts.toL.filter (fun t=>!Tr.ev k l n2 t)).isEmpty:=by
    cases acc <;> cases hf:ts.toL.filter (fun t=>!Tr.ev k l n2 t) <;> first | rfl | (rw [hf] at hc; cases hc)
   rw [h0]
   generalize ts.toL=L
   induction L with
   | nil=>rfl
   | cons t r ih =>
    rw [List.map_cons,List.all_cons,← ih]
    cases hv:t.ev k l n2
    ·rw [List.filter_cons_of_pos (by simp [hv])]
     first | rfl | simp
    ·rw [List.filter_cons_of_neg (by simp [hv])]
     first | rfl | simp
  refine eqd_nil (S3 _ _ e1) upd_same (n:=2 * ts.dp+2) (by omega) (fun z hz=>dB z (hm z hz)) ?_
  rw [ev_]
  exact q _ SS
 | either ts =>
  rw [Tr.At] at hA
  obtain ⟨p,l0,xs,rfl,hp,hl,hs⟩:=hA
  nofun
  refine ixt (SqT.of hp) (v:=.str "either") rfl ?_
  nofun
  rw [if_neg (by decide)]
  refine ixt (SqT.of hp) (v:=.str "either") rfl ?_
  nofun
  rw [if_neg (by decide)]
  refine ixt (SqT.of hp) (v:=.str "either") rfl ?_
  nofun
  rw [if_neg (by decide)]
  refine ixt (SqT.of hp) (v:=.str "either") rfl ?_
  nofun
  rw [if_neg (by decide)]
  refine ixt (SqT.of hp) (v:=.str "either") rfl ?_
  nofun
  rw [if_neg (by decide)]
  refine ixt (SqT.of hp) (v:=.str "either") rfl ?_
  nofun
  rw [if_neg (by decide)]
  simp only [Tr.ev] at q
  rw [Tr.dp] at hd0 hd20
  rw [Tr.ok] at ho
  obtain ⟨l2,l6,ho⟩:=ho
  have hA:=trs_at.mp hs
  have ln6:=hA.len
  have dA:=Trs.At.dt ho hs
  refine ixt (SqT.of hp) (v:=.ref l0) rfl ?_
  nofun
  refine ⟨⟨xs,SqT.of hl⟩,?_⟩
  refine CompT.by (xs:=xs) (fun i acc σ H'=>acc.length=((ts.toL.take i).filter (Tr.ev k l n2)).length∧(∀ y∈acc,y∈xs)∧(∃ v,σ=[v,some (.ref tp)])∧Same H H') (sz8 (by omega)) ⟨rfl,(fun y hy=>absurd hy List.not_mem_nil),⟨_,rfl⟩,fun _ _ z=>z⟩ (fun i acc σ H' _ h=>SqT.of (h.2.2.2 _ _ hl)) ?_ ?_ ?_
  ·rintro i y acc σ H' hy ⟨hc,hm,⟨v,rfl⟩,S1⟩
   obtain ⟨t,e,ht⟩:=hA.get hy
   have mt:=List.mem_of_getElem? e
   have dt:=trs_dp mt
   have tk:(ts.toL.take (i+1)).filter (Tr.ev k l n2)=(ts.toL.take i).filter (Tr.ev k l n2)++[t].filter (Tr.ev k l n2):=by rw [List.take_succ,e,← List.filter_append]; rfl
   nofun
   refine ⟨y,.ref tp,t,k,l,n2,by omega,by omega,rfl,ht.same S1,trs_ok.mp ho t mt,hx.same S1,fun H2 S2=>?_⟩
   nofun
   cases hv:t.ev k l n2 with
   | true =>
    have n1:(acc++[y]).length=((ts.toL.take (i+1)).filter (Tr.ev k l n2)).length:=by
     rw [tk,List.length_append,List.length_append,hc,List.filter_cons_of_pos (by simp [hv])]
     rfl
    have n2:∀ z∈acc++[y],z∈xs:=fun z hz=>by
     rcases List.mem_append.mp hz with hz | hz
     ·exact hm z hz
     ·rw [List.mem_singleton.mp hz]; exact List.mem_of_getElem? hy
    exists Bool.not_false
    first | exact ⟨n1,n2,⟨_,rfl⟩,S1.trans S2⟩ | exact ⟨n1,n2,S1.trans S2⟩
   | false =>
    have n1:acc.length=((ts.toL.take (i+1)).filter (Tr.ev k l n2)).length:=by
     rw [tk,List.length_append,hc,List.filter_cons_of_neg (by simp [hv])]
     rfl
    exists Bool.not_true
    first | exact ⟨n1,hm,⟨_,rfl⟩,S1.trans S2⟩ | exact ⟨n1,hm,S1.trans S2⟩
  ·rintro i acc σ H' ⟨hc,_,_,_⟩
   rw [hc]
   have:=List.length_filter_le (Tr.ev k l n2) (ts.toL.take i)
   rw [List.length_take] at this
   omega
  rintro acc σ H' ⟨hc,hm,⟨v,rfl⟩,S1⟩ D hD
  rw [← ln6,List.take_length] at hc
  have S2:=same_new hD (.lst acc)
  have e1:upd H' D (.lst acc) D=some (.lst acc):=upd_same
  generalize upd H' D (.lst acc)=H2 at *
  refine ⟨Nat.zero_le _,fun p2 h2=>?_⟩
  have S3:=same_new h2 (.lst [])
  have SS:=S1.trans (S2.trans S3)
  have dB:=Trs.At.dt ho (Trs.At.keep (same_tupK SS) hs)
  have ev_:(acc.isEmpty == false)=(ts.ev k l n2).any id:=by
   rw [trs_ev]
   have h0:acc.isEmpty=(ts.toL.filter (Tr.ev k l n2)).isEmpty:=by
    cases acc <;> cases hf:ts.toL.filter (Tr.ev k l n2) <;> first | rfl | (rw [hf] at hc; cases hc)
   rw [h0]
   generalize ts.toL=L
   induction L with
   | nil=>rfl
   | cons t r ih =>
    rw [List.map_cons,List.any_cons,← ih]
    cases hv:t.ev k l n2
    ·rw [List.filter_cons_of_neg (by simp [hv])]
     first | rfl | simp
    ·rw [List.filter_cons_of_pos (by simp [hv])]
     first | rfl | simp
  refine eqd_nil (S3 _ _ e1) upd_same (n:=2 * ts.dp+2) (by omega) (fun z hz=>dB z (hm z hz)) ?_
  rw [ev_]
  exact q _ SS
theorem trs_cntL:∀ ts:Trs,ts.cnt=(ts.toL.map Tr.cnt).sum
 | .nil=>rfl
 | .cons t ts=>by rw [Trs.cnt,Trs.toL,List.map_cons,List.sum_cons,trs_cntL ts]
theorem sum_take {L:List Tr}{i:Nat}{t:Tr}(h:L[i]?=some t):((L.take (i+1)).map Tr.cnt).sum=((L.take i).map Tr.cnt).sum+t.cnt:=by
 rw [List.take_succ,h,List.map_append,List.sum_append]
 simp
theorem sum_take_le:∀ (L:List Tr) (i:Nat),((L.take i).map Tr.cnt).sum≤(L.map Tr.cnt).sum
 | [],i=>by rw [List.take_nil]; exact Nat.le_refl _
 | t::L,0=>Nat.zero_le _
 | t::L,i+1=>by
  rw [List.take_succ_cons,List.map_cons,List.map_cons,List.sum_cons,List.sum_cons]
  exact Nat.add_le_add_left (sum_take_le L i) _
theorem cnt_mem {ts:Trs}{t:Tr}(h:t∈ts.toL):t.cnt≤ts.cnt:=by
 rw [trs_cntL]
 generalize ts.toL=L at h
 induction L with
 | nil=>cases h
 | cons s r ih =>
  rw [List.map_cons,List.sum_cons]
  rcases List.mem_cons.mp h with rfl | h
  ·omega
  ·have:=ih h; omega
theorem ThAt.keep {H H':Hp}{x:V}{k p:Str}{w:Int}(h:ThAt H x k p w)(s:TupK H H'):ThAt H' x k p w:=by
 obtain ⟨tp,e,h,r⟩:=h
 exact ⟨tp,e,s _ _ h,r⟩
theorem ok_law_gathered {d n:Nat}(hn:0≤n)(B:Bt K mg a)(C_law_gathered:CalX P w K mg base "_law_gathered" ["_law_tree_here","_law_word"] n (sp_law_gathered K a d))(F:Fun K "_law_gathered" "_law_gathered" s_law_gathered f fd):FnOk P w K mg base CX0 (n+1) f fd ["_law_tree_here","_law_word"] (sp_law_gathered K a (d+1)):=by
 refine F.ok sc_law_gathered (fun vs H Q E h=>?_) (fun cdv A outer s H vs Q E hr h=>?_)
 ·obtain ⟨v,t,wd,hd0,rfl,_⟩:=h
  rfl
 obtain ⟨v,t,wd,hd0,rfl,hA,ho,hc,hw,q⟩:=h
 refine ⟨_,(pss_of (qss_cons (qs_if (L2.PW.pt (pw_and (pt_cmpR op_eq (pe_ix ix_tup (pv 0) pe_int (fun _ _=>rfl)) (pv 1) (nomark _)) (pw_and1 (pt_cmpR op_eq (pv 1) pe_str (nomark _))))) (qss_one (qs_ret (qe_lst (qa_c (pe_ix ix_tup (pv 0) pe_int (fun _ _=>rfl)) qa_nil)))) qss_nil) (qss_cons (qs_if (pt_cmpR op_eq (pe_ix ix_tup (pv 0) pe_int (fun _ _=>rfl)) (pv 1) (nomark _)) (qss_one (qs_ret (qe_of (pe_callTy call_list_of rfl B.list PyProof.Rows.boot_list (pa_of (qa_c (pe_ix ix_tup (pv 0) pe_int (fun _ _=>rfl)) qa_nil)))))) qss_nil) (qss_cons (qs_if (pt_cmpR op_eq (pe_ix ix_tup (pv 0) pe_int (fun _ _=>rfl)) pe_str (nomark _)) (qss_one (qs_ret (qe_of (pe_calN C_law_gathered (hr.mono (by omega)) rfl (pa_of (qa_c (pe_ix ix_tup (pv 0) pe_int (fun _ _=>rfl)) (qa_c (pv 1) qa_nil))) (he:=star_plain _ _ _ rfl) (hpl:=plain_any rfl))))) qss_nil) (qss_cons (qs_set (i:=2) sc_law_gathered.nd rfl (Or.inl rfl) (qe_lst qa_nil) (by kernel_rfl)) (qss_cons (qs_if (L2.PW.pt (pw_or (pt_cmpR op_eq (pe_ix ix_tup (pv 0) pe_int (fun _ _=>rfl)) pe_str (nomark _)) (pw_or1 (pt_cmpR op_eq (pe_ix ix_tup (pv 0) pe_int (fun _ _=>rfl)) pe_str (nomark _))))) (qss_one (qs_of (ps_for PassesOwn.never rfl (pi_tup (pe_ix ix_tup (pv 0) pe_int (fun _ _=>rfl))) (pg_name (i:=3) sc_law_gathered.nd rfl (Or.inl rfl)) (pss_of (qss_one (qs_set (i:=2) sc_law_gathered.nd rfl (Or.inl rfl) (qe_of (pe_op op_cat (pv 2) (pe_calN C_law_gathered (hr.mono (by omega)) rfl (pa_of (qa_c (pv 3) (qa_c (pv 1) qa_nil))) (he:=star_plain _ _ _ rfl) (hpl:=plain_any rfl)))) (by kernel_rfl))))))) qss_nil) (qss_one (qs_ret (qe_of (pv 2)))))))))),?_⟩
 cases t with
 | any =>
  rw [Tr.At] at hA
  obtain ⟨p,rfl,hp⟩:=hA
  nofun
  have nT:("any":Str)≠wd:=by rcases hw with rfl | rfl | rfl <;> decide
  refine ixt (SqT.of hp) (v:=.str "any") rfl ?_
  nofun
  rw [if_neg nT]
  refine ixt (SqT.of hp) (v:=.str "any") rfl ?_
  nofun
  rw [if_neg nT]
  refine ixt (SqT.of hp) (v:=.str "any") rfl ?_
  nofun
  rw [if_neg (by decide)]
  refine ⟨Nat.zero_le _,fun l1 h1=>?_⟩
  have S1:=same_new h1 (.lst [])
  have hp:=S1 _ _ hp
  have e1:upd H l1 (.lst []) l1=some (.lst []):=upd_same
  generalize upd H l1 (.lst [])=H1 at *
  nofun
  refine ixt (SqT.of hp) (v:=.str "any") rfl ?_
  nofun
  rw [if_neg (by decide)]
  refine ixt (SqT.of hp) (v:=.str "any") rfl ?_
  nofun
  rw [if_neg (by decide)]
  exact q l1 [] _ S1 h1 e1 (Nat.zero_le _) fun x hx=>absurd hx List.not_mem_nil
 | kind us =>
  rw [Tr.At] at hA
  rw [Tr.ok] at ho
  obtain ⟨p,l0,rfl,hp,hl⟩:=hA
  nofun
  rcases hw with rfl | rfl | rfl
  ·skip
   refine ixt (SqT.of hp) (v:=.str "kind") rfl ?_
   nofun
   rw [if_neg (by decide)]
   refine ixt (SqT.of hp) (v:=.str "kind") rfl ?_
   nofun
   refine ixt (SqT.of hp) (v:=.ref l0) rfl ?_
   nofun
   refine ⟨_,.inr (SqT.of hl),fun l1 h1=>?_⟩
   refine q l1 (us.map V.str) _ (same_new h1 _) h1 upd_same (by rw [Tr.cnt,List.length_map]; exact Nat.le_refl _) fun x hx=>?_
   obtain ⟨u,hu,rfl⟩:=List.mem_map.mp hx
   exact .inr ⟨by decide,u,rfl,ho.2.2.1 u hu⟩
  ·skip
   refine ixt (SqT.of hp) (v:=.str "kind") rfl ?_
   nofun
   rw [if_neg (by decide)]
   refine ixt (SqT.of hp) (v:=.str "kind") rfl ?_
   nofun
   rw [if_neg (by decide)]
   refine ixt (SqT.of hp) (v:=.str "kind") rfl ?_
   nofun
   rw [if_neg (by decide)]
   refine ⟨Nat.zero_le _,fun l1 h1=>?_⟩
   have S1:=same_new h1 (.lst [])
   have hp:=S1 _ _ hp
   have e1:upd H l1 (.lst []) l1=some (.lst []):=upd_same
   generalize upd H l1 (.lst [])=H1 at *
   nofun
   refine ixt (SqT.of hp) (v:=.str "kind") rfl ?_
   nofun
   rw [if_neg (by decide)]
   refine ixt (SqT.of hp) (v:=.str "kind") rfl ?_
   nofun
   rw [if_neg (by decide)]
   exact q l1 [] _ S1 h1 e1 (Nat.zero_le _) fun x hx=>absurd hx List.not_mem_nil
  ·skip
   refine ixt (SqT.of hp) (v:=.str "kind") rfl ?_
   nofun
   rw [if_neg (by decide)]
   refine ixt (SqT.of hp) (v:=.str "kind") rfl ?_
   nofun
   rw [if_neg (by decide)]
   refine ixt (SqT.of hp) (v:=.str "kind") rfl ?_
   nofun
   rw [if_neg (by decide)]
   refine ⟨Nat.zero_le _,fun l1 h1=>?_⟩
   have S1:=same_new h1 (.lst [])
   have hp:=S1 _ _ hp
   have e1:upd H l1 (.lst []) l1=some (.lst []):=upd_same
   generalize upd H l1 (.lst [])=H1 at *
   nofun
   refine ixt (SqT.of hp) (v:=.str "kind") rfl ?_
   nofun
   rw [if_neg (by decide)]
   refine ixt (SqT.of hp) (v:=.str "kind") rfl ?_
   nofun
   rw [if_neg (by decide)]
   exact q l1 [] _ S1 h1 e1 (Nat.zero_le _) fun x hx=>absurd hx List.not_mem_nil
 | place us =>
  rw [Tr.At] at hA
  rw [Tr.ok] at ho
  obtain ⟨p,l0,rfl,hp,hl⟩:=hA
  nofun
  rcases hw with rfl | rfl | rfl
  ·skip
   refine ixt (SqT.of hp) (v:=.str "place") rfl ?_
   nofun
   rw [if_neg (by decide)]
   refine ixt (SqT.of hp) (v:=.str "place") rfl ?_
   nofun
   rw [if_neg (by decide)]
   refine ixt (SqT.of hp) (v:=.str "place") rfl ?_
   nofun
   rw [if_neg (by decide)]
   refine ⟨Nat.zero_le _,fun l1 h1=>?_⟩
   have S1:=same_new h1 (.lst [])
   have hp:=S1 _ _ hp
   have e1:upd H l1 (.lst []) l1=some (.lst []):=upd_same
   generalize upd H l1 (.lst [])=H1 at *
   nofun
   refine ixt (SqT.of hp) (v:=.str "place") rfl ?_
   nofun
   rw [if_neg (by decide)]
   refine ixt (SqT.of hp) (v:=.str "place") rfl ?_
   nofun
   rw [if_neg (by decide)]
   exact q l1 [] _ S1 h1 e1 (Nat.zero_le _) fun x hx=>absurd hx List.not_mem_nil
  ·skip
   refine ixt (SqT.of hp) (v:=.str "place") rfl ?_
   nofun
   rw [if_neg (by decide)]
   refine ixt (SqT.of hp) (v:=.str "place") rfl ?_
   nofun
   refine ixt (SqT.of hp) (v:=.ref l0) rfl ?_
   nofun
   refine ⟨_,.inr (SqT.of hl),fun l1 h1=>?_⟩
   refine q l1 (us.map V.str) _ (same_new h1 _) h1 upd_same (by rw [Tr.cnt,List.length_map]; exact Nat.le_refl _) fun x hx=>?_
   obtain ⟨u,hu,rfl⟩:=List.mem_map.mp hx
   exact .inr ⟨by decide,u,rfl,ho.2.2.1 u hu⟩
  ·skip
   refine ixt (SqT.of hp) (v:=.str "place") rfl ?_
   nofun
   rw [if_neg (by decide)]
   refine ixt (SqT.of hp) (v:=.str "place") rfl ?_
   nofun
   rw [if_neg (by decide)]
   refine ixt (SqT.of hp) (v:=.str "place") rfl ?_
   nofun
   rw [if_neg (by decide)]
   refine ⟨Nat.zero_le _,fun l1 h1=>?_⟩
   have S1:=same_new h1 (.lst [])
   have hp:=S1 _ _ hp
   have e1:upd H l1 (.lst []) l1=some (.lst []):=upd_same
   generalize upd H l1 (.lst [])=H1 at *
   nofun
   refine ixt (SqT.of hp) (v:=.str "place") rfl ?_
   nofun
   rw [if_neg (by decide)]
   refine ixt (SqT.of hp) (v:=.str "place") rfl ?_
   nofun
   rw [if_neg (by decide)]
   exact q l1 [] _ S1 h1 e1 (Nat.zero_le _) fun x hx=>absurd hx List.not_mem_nil
 | weight n =>
  rw [Tr.At] at hA
  rw [Tr.ok] at ho
  obtain ⟨p,rfl,hp⟩:=hA
  nofun
  rcases hw with rfl | rfl | rfl
  ·skip
   refine ixt (SqT.of hp) (v:=.str "weight") rfl ?_
   nofun
   rw [if_neg (by decide)]
   refine ixt (SqT.of hp) (v:=.str "weight") rfl ?_
   nofun
   rw [if_neg (by decide)]
   refine ixt (SqT.of hp) (v:=.str "weight") rfl ?_
   nofun
   rw [if_neg (by decide)]
   refine ⟨Nat.zero_le _,fun l1 h1=>?_⟩
   have S1:=same_new h1 (.lst [])
   have hp:=S1 _ _ hp
   have e1:upd H l1 (.lst []) l1=some (.lst []):=upd_same
   generalize upd H l1 (.lst [])=H1 at *
   nofun
   refine ixt (SqT.of hp) (v:=.str "weight") rfl ?_
   nofun
   rw [if_neg (by decide)]
   refine ixt (SqT.of hp) (v:=.str "weight") rfl ?_
   nofun
   rw [if_neg (by decide)]
   exact q l1 [] _ S1 h1 e1 (Nat.zero_le _) fun x hx=>absurd hx List.not_mem_nil
  ·skip
   refine ixt (SqT.of hp) (v:=.str "weight") rfl ?_
   nofun
   rw [if_neg (by decide)]
   refine ixt (SqT.of hp) (v:=.str "weight") rfl ?_
   nofun
   rw [if_neg (by decide)]
   refine ixt (SqT.of hp) (v:=.str "weight") rfl ?_
   nofun
   rw [if_neg (by decide)]
   refine ⟨Nat.zero_le _,fun l1 h1=>?_⟩
   have S1:=same_new h1 (.lst [])
   have hp:=S1 _ _ hp
   have e1:upd H l1 (.lst []) l1=some (.lst []):=upd_same
   generalize upd H l1 (.lst [])=H1 at *
   nofun
   refine ixt (SqT.of hp) (v:=.str "weight") rfl ?_
   nofun
   rw [if_neg (by decide)]
   refine ixt (SqT.of hp) (v:=.str "weight") rfl ?_
   nofun
   rw [if_neg (by decide)]
   exact q l1 [] _ S1 h1 e1 (Nat.zero_le _) fun x hx=>absurd hx List.not_mem_nil
  ·skip
   refine ixt (SqT.of hp) (v:=.str "weight") rfl ?_
   nofun
   refine ixt (SqT.of hp) (v:=.int n) rfl ?_
   refine ⟨sz8 (by decide),fun l1 h1=>?_⟩
   refine q l1 [.int n] _ (same_new h1 _) h1 upd_same (by rw [Tr.cnt]; exact Nat.le_refl _) fun x hx=>?_
   rw [List.mem_singleton.mp hx]
   exact .inl ⟨rfl,n,rfl,ho.1,ho.2⟩
 | not t =>
  rw [Tr.At] at hA
  rw [Tr.ok] at ho
  obtain ⟨p,y,rfl,hp,hy⟩:=hA
  nofun
  have nT:("not":Str)≠wd:=by rcases hw with rfl | rfl | rfl <;> decide
  refine ixt (SqT.of hp) (v:=.str "not") rfl ?_
  nofun
  rw [if_neg nT]
  refine ixt (SqT.of hp) (v:=.str "not") rfl ?_
  nofun
  rw [if_neg nT]
  refine ixt (SqT.of hp) (v:=.str "not") rfl ?_
  nofun
  rw [Tr.dp] at hd0
  rw [Tr.cnt] at hc q
  refine ixt (SqT.of hp) (v:=y) rfl ?_
  nofun
  exact ⟨y,t,wd,by omega,rfl,hy,ho,hc,hw,q⟩
 | both ts =>
  rw [Tr.At] at hA
  rw [Tr.ok] at ho
  obtain ⟨p,l0,xs,rfl,hp,hl,hs⟩:=hA
  nofun
  have nT:("both":Str)≠wd:=by rcases hw with rfl | rfl | rfl <;> decide
  refine ixt (SqT.of hp) (v:=.str "both") rfl ?_
  nofun
  rw [if_neg nT]
  refine ixt (SqT.of hp) (v:=.str "both") rfl ?_
  nofun
  rw [if_neg nT]
  refine ixt (SqT.of hp) (v:=.str "both") rfl ?_
  nofun
  rw [if_neg (by decide)]
  refine ⟨Nat.zero_le _,fun l1 h1=>?_⟩
  have S1:=same_new h1 (.lst [])
  have hp:=S1 _ _ hp
  have e1:upd H l1 (.lst []) l1=some (.lst []):=upd_same
  generalize upd H l1 (.lst [])=H1 at *
  nofun
  refine ixt (SqT.of hp) (v:=.str "both") rfl ?_
  nofun
  rw [Tr.dp] at hd0
  rw [Tr.cnt] at hc q
  obtain ⟨l2,l6,ho⟩:=ho
  have hA:=trs_at.mp hs
  refine ixt (SqT.of hp) (v:=.ref l0) rfl ?_
  nofun
  have hl1:=S1 _ _ hl
  refine ⟨⟨xs,SqT.of hl1⟩,?_⟩
  refine ForT.by (xs:=xs) (fun i σ H'=>(∃ pf acc pv,σ=[some (.ref p),some (.str wd),some (.ref pf),pv]∧H' pf=some (.lst acc)∧H pf=none∧acc.length≤((ts.toL.take i).map Tr.cnt).sum∧∀ x∈acc,gdV wd x)∧Same H H') ⟨⟨l1,[],_,rfl,e1,h1,Nat.zero_le _,fun x hx=>absurd hx List.not_mem_nil⟩,S1⟩ (fun i σ H' _ h=>SqT.of (h.2 _ _ hl)) ?_ ?_
  ·rintro i y σ H' hy ⟨⟨pf,acc,pv,rfl,ef,hf,la,ga⟩,S2⟩
   obtain ⟨t,e,ht⟩:=hA.get hy
   have mt:=List.mem_of_getElem? e
   have dt:=trs_dp mt
   have ct:=cnt_mem mt
   have stk:=sum_take e
   have sle:=sum_take_le ts.toL (i+1)
   rw [← trs_cntL] at sle
   nofun
   refine ⟨y,t,wd,by omega,rfl,ht.same S2,trs_ok.mp ho t mt,by omega,hw,fun l3 zs H3 S3 f3 e3 n3 g3=>?_⟩
   refine ⟨pf,l3,_,_,rfl,rfl,S3 _ _ ef,e3,sz8 (by omega),fun p4 h4=>?_⟩
   have S4:=same_new h4 (.lst (acc++zs))
   have SS:=S2.trans (S3.trans S4)
   nofun
   have gz:∀ x∈acc++zs,gdV wd x:=fun x hx=>by
    rcases List.mem_append.mp hx with hx | hx
    ·exact ga x hx
    ·exact g3 x hx
   have lz:(acc++zs).length≤((ts.toL.take (i+1)).map Tr.cnt).sum:=by rw [List.length_append]; omega
   first | exact ⟨⟨acc++zs,upd_same,(S2.trans S3).free h4,lz,gz⟩,SS⟩ | exact ⟨⟨p4,acc++zs,_,rfl,upd_same,(S2.trans S3).free h4,lz,gz⟩,SS⟩
  ·rintro σ H' ⟨⟨pf,acc,pv,rfl,ef,hf,la,ga⟩,S2⟩
   nofun
   rw [← hA.len,List.take_length,← trs_cntL] at la
   exact q pf acc _ S2 hf ef la ga
 | either ts =>
  rw [Tr.At] at hA
  rw [Tr.ok] at ho
  obtain ⟨p,l0,xs,rfl,hp,hl,hs⟩:=hA
  nofun
  have nT:("either":Str)≠wd:=by rcases hw with rfl | rfl | rfl <;> decide
  refine ixt (SqT.of hp) (v:=.str "either") rfl ?_
  nofun
  rw [if_neg nT]
  refine ixt (SqT.of hp) (v:=.str "either") rfl ?_
  nofun
  rw [if_neg nT]
  refine ixt (SqT.of hp) (v:=.str "either") rfl ?_
  nofun
  rw [if_neg (by decide)]
  refine ⟨Nat.zero_le _,fun l1 h1=>?_⟩
  have S1:=same_new h1 (.lst [])
  have hp:=S1 _ _ hp
  have e1:upd H l1 (.lst []) l1=some (.lst []):=upd_same
  generalize upd H l1 (.lst [])=H1 at *
  nofun
  refine ixt (SqT.of hp) (v:=.str "either") rfl ?_
  nofun
  rw [if_neg (by decide)]
  refine ixt (SqT.of hp) (v:=.str "either") rfl ?_
  nofun
  rw [Tr.dp] at hd0
  rw [Tr.cnt] at hc q
  obtain ⟨l2,l6,ho⟩:=ho
  have hA:=trs_at.mp hs
  refine ixt (SqT.of hp) (v:=.ref l0) rfl ?_
  nofun
  have hl1:=S1 _ _ hl
  refine ⟨⟨xs,SqT.of hl1⟩,?_⟩
  refine ForT.by (xs:=xs) (fun i σ H'=>(∃ pf acc pv,σ=[some (.ref p),some (.str wd),some (.ref pf),pv]∧H' pf=some (.lst acc)∧H pf=none∧acc.length≤((ts.toL.take i).map Tr.cnt).sum∧∀ x∈acc,gdV wd x)∧Same H H') ⟨⟨l1,[],_,rfl,e1,h1,Nat.zero_le _,fun x hx=>absurd hx List.not_mem_nil⟩,S1⟩ (fun i σ H' _ h=>SqT.of (h.2 _ _ hl)) ?_ ?_
  ·rintro i y σ H' hy ⟨⟨pf,acc,pv,rfl,ef,hf,la,ga⟩,S2⟩
   obtain ⟨t,e,ht⟩:=hA.get hy
   have mt:=List.mem_of_getElem? e
   have dt:=trs_dp mt
   have ct:=cnt_mem mt
   have stk:=sum_take e
   have sle:=sum_take_le ts.toL (i+1)
   rw [← trs_cntL] at sle
   nofun
   refine ⟨y,t,wd,by omega,rfl,ht.same S2,trs_ok.mp ho t mt,by omega,hw,fun l3 zs H3 S3 f3 e3 n3 g3=>?_⟩
   refine ⟨pf,l3,_,_,rfl,rfl,S3 _ _ ef,e3,sz8 (by omega),fun p4 h4=>?_⟩
   have S4:=same_new h4 (.lst (acc++zs))
   have SS:=S2.trans (S3.trans S4)
   nofun
   have gz:∀ x∈acc++zs,gdV wd x:=fun x hx=>by
    rcases List.mem_append.mp hx with hx | hx
    ·exact ga x hx
    ·exact g3 x hx
   have lz:(acc++zs).length≤((ts.toL.take (i+1)).map Tr.cnt).sum:=by rw [List.length_append]; omega
   first | exact ⟨⟨acc++zs,upd_same,(S2.trans S3).free h4,lz,gz⟩,SS⟩ | exact ⟨⟨p4,acc++zs,_,rfl,upd_same,(S2.trans S3).free h4,lz,gz⟩,SS⟩
  ·rintro σ H' ⟨⟨pf,acc,pv,rfl,ef,hf,la,ga⟩,S2⟩
   nofun
   rw [← hA.len,List.take_length,← trs_cntL] at la
   exact q pf acc _ S2 hf ef la ga
theorem ok_mark (B:Bt K mg a)(F:Fun K "mark" "mark" s_mark f fd):FnOk P w K mg base CX0 1 f fd ["marks","things"] (sp_mark K a):=by
 refine F.ok sc_mark (fun vs H Q E h=>?_) (fun cdv A outer s H vs Q E hr h=>?_)
 ·obtain ⟨d,l,kvs,xs,rfl,_⟩:=h
  rfl
 obtain ⟨d,l,kvs,xs,rfl,hd,hl,lz,q⟩:=h
 refine ⟨_,(pss_of (qss_one (qs_of (ps_for PassesOwn.never rfl (pi_list (pv 1)) (pg_name (i:=2) sc_mark.nd rfl (Or.inl rfl)) (pss_of (qss_one (qs_of (ps_asg pe_bl (pg_sub (pv 0) (pv 2) set_dict))))))))),?_⟩
 nofun
 refine ⟨⟨_,SqL.of hl⟩,?_⟩
 refine ForL.by (xs:=xs.map kV) (fun i σ H1=>(∃ v,σ=[some (.ref d),some (.ref l),v])∧∃ kvs1,But d H H1∧H1 d=some (.dK kvs1)∧Grow kvs kvs1 (xs.take i)) ⟨⟨_,rfl⟩,kvs,But.refl _ _,hd,Grow.refl _⟩ (fun i σ H1 _ h=>?_) ?_ ?_
 ·obtain ⟨_,kvs1,B1,_,_⟩:=h
  exact SqL.of (B1 _ _ (ne_of hl hd (by intro z; cases z)) hl)
 ·rintro i y σ H1 hy ⟨⟨v,rfl⟩,kvs1,B1,h1,G1⟩
  rw [List.getElem?_map] at hy
  obtain ⟨k,hk,rfl⟩:=Option.map_eq_some_iff.mp hy
  nofun
  have lg:=G1.len
  have lt:(xs.take i).length≤xs.length:=by rw [List.length_take]; omega
  have ek:xs.take (i+1)=xs.take i++[k]:=by rw [List.take_succ,hk]; rfl
  refine setd h1 (by omega) ?_
  have new:But d H (upd H1 d (.dK (putK kvs1 k (.bl true))))∧upd H1 d (.dK (putK kvs1 k (.bl true))) d=some (.dK (putK kvs1 k (.bl true)))∧Grow kvs (putK kvs1 k (.bl true)) (xs.take (i+1)):=⟨B1.trans (But.upd _),upd_same,by rw [ek]; exact G1.trans (Grow.put _ _ _)⟩
  first | exact ⟨⟨_,rfl⟩,_,new⟩ | exact ⟨new.1,_,new.2⟩
 ·rintro σ H1 ⟨⟨v,rfl⟩,kvs1,B1,h1,G1⟩
  rw [List.length_map,List.take_length] at G1
  first | exact q kvs1 H1 B1 h1 G1 | (nofun; exact q kvs1 H1 B1 h1 G1)
theorem ok_counted_name (B:Bt K mg a)(F:Fun K "counted_name" "counted_name" s_counted_name f fd):FnOk P w K mg base CX0 1 f fd ["number"] (sp_counted_name K a):=by
 refine F.ok sc_counted_name (fun vs H Q E h=>?_) (fun cdv A outer s H vs Q E hr h=>?_)
 ·obtain ⟨n,rfl,_⟩:=h
  rfl
 obtain ⟨n,rfl,hn,q⟩:=h
 refine ⟨_,(pss_of (qss_cons (qs_set (i:=1) sc_counted_name.nd rfl (Or.inl rfl) (qe_of (pe_ix ix_str (pe_glob (v:=.str "abcdefghijklmnopqrstuvwxyz") rfl B.LETTERS ⟨_,rfl⟩) (pe_op op_mod (pv 0) (pe_callB call_len_str rfl B.len PySem.boot_len (pa_of (qa_c (pe_glob (v:=.str "abcdefghijklmnopqrstuvwxyz") rfl B.LETTERS ⟨_,rfl⟩) qa_nil)))) (fun _ _=>rfl))) (by kernel_rfl)) (qss_cons (qs_of (ps_while PassesOwn.never (pt_cmpR op_ge (pv 0) (pe_callB call_len_str rfl B.len PySem.boot_len (pa_of (qa_c (pe_glob (v:=.str "abcdefghijklmnopqrstuvwxyz") rfl B.LETTERS ⟨_,rfl⟩) qa_nil))) (nomark _)) (pss_of (qss_cons (qs_set (i:=0) sc_counted_name.nd rfl (Or.inl rfl) (qe_of (pe_op op_fdivL (pv 0) (pe_callB call_len_str rfl B.len PySem.boot_len (pa_of (qa_c (pe_glob (v:=.str "abcdefghijklmnopqrstuvwxyz") rfl B.LETTERS ⟨_,rfl⟩) qa_nil))))) (by kernel_rfl)) (qss_one (qs_set (i:=1) sc_counted_name.nd rfl (Or.inl rfl) (qe_of (pe_op op_add_str (pe_ix ix_str (pe_glob (v:=.str "abcdefghijklmnopqrstuvwxyz") rfl B.LETTERS ⟨_,rfl⟩) (pe_op op_mod (pv 0) (pe_callB call_len_str rfl B.len PySem.boot_len (pa_of (qa_c (pe_glob (v:=.str "abcdefghijklmnopqrstuvwxyz") rfl B.LETTERS ⟨_,rfl⟩) qa_nil)))) (fun _ _=>rfl)) (pv 1))) (by kernel_rfl))))))) (qss_one (qs_ret (qe_of (pv 1))))))),?_⟩
 have LL:(("abcdefghijklmnopqrstuvwxyz":Str).length:Int)=26:=by decide +kernel
 have LZ:("abcdefghijklmnopqrstuvwxyz":Str).length≤sizeLine:=by decide +kernel
 nofun
 refine ⟨LZ,by rw [LL]; decide,?_⟩
 rw [LL,show (n:Int) % 26=((n % 26:Nat):Int) by omega]
 refine ixs LZ (let_at (by omega)) ?_
 refine ⟨fun m σ H1=>H1=H∧((m=0∧∃ k:Nat,k < 26∧σ=[some (.int k),some (.str (cn n))])∨(m=1∧26≤n∧σ=[some (.int n),some (.str (letS (n % 26)))])),?_,?_⟩
 ·by_cases h:n < 26
  ·exact ⟨0,rfl,.inl ⟨rfl,n,h,by rw [cn,if_pos h,Nat.mod_eq_of_lt h]; rfl⟩⟩
  ·exact ⟨1,rfl,.inr ⟨rfl,by omega,rfl⟩⟩
 ·rintro m σ H1 ⟨rfl,⟨rfl,k,hk,rfl⟩ | ⟨rfl,h26,rfl⟩⟩
  ·nofun
   refine ⟨LZ,?_⟩
   rw [LL,if_neg (by omega)]
   first | exact q | (nofun; exact q)
  ·nofun
   refine ⟨LZ,?_⟩
   rw [LL,if_pos (by omega)]
   refine ⟨fun σ' H'=>H'=H1∧∃ k:Nat,k < 26∧σ'=[some (.int k),some (.str (cn n))],fun σ' H' h=>⟨0,by decide,h.1,.inl ⟨rfl,h.2⟩⟩,?_⟩
   nofun
   refine ⟨LZ,⟨by decide,by decide⟩,LZ,by decide,?_⟩
   rw [show (n:Int) / 26 % 26=((n / 26:Nat):Int) by omega]
   refine ixs LZ (let_at (by omega)) ?_
   have ec:(⟨#[97+n / 26]⟩:Str)++letS (n % 26)=cn n:=by rw [cn,if_neg (by omega)]; rfl
   exact ⟨_,rfl,(by show 1+1≤sizeLine; decide),rfl,n / 26,by omega,by omega,ec⟩
theorem ok_unused_name (B:Bt K mg a)(C_counted_name:CalX P w K mg base "counted_name" ["number"] 1 (sp_counted_name K a))(F:Fun K "unused_name" "unused_name" s_unused_name f fd):FnOk P w K mg base CX0 2 f fd ["taken"] (sp_unused_name K a):=by
 refine F.ok sc_unused_name (fun vs H Q E h=>?_) (fun cdv A outer s H vs Q E hr h=>?_)
 ·obtain ⟨d,kvs,rfl,_⟩:=h
  rfl
 obtain ⟨d,kvs,rfl,hd,lz,q⟩:=h
 refine ⟨_,(pss_of (qss_cons (qs_set (i:=1) sc_unused_name.nd rfl (Or.inl rfl) (qe_of pe_int) (by kernel_rfl)) (qss_cons (qs_of (ps_while PassesOwn.never (pt_cmpR op_inD (pe_calN C_counted_name (hr.mono (by decide)) rfl (pa_of (qa_c (pv 1) qa_nil)) (he:=star_plain _ _ _ rfl) (hpl:=plain_any rfl)) (pv 0) (by with_unfolding_all rfl)) (pss_of (qss_one (qs_of (ps_aug (i:=1) sc_unused_name.nd rfl (Or.inl rfl) pe_int iop_add)))))) (qss_one (qs_ret (qe_of (pe_calN C_counted_name (hr.mono (by decide)) rfl (pa_of (qa_c (pv 1) qa_nil)) (he:=star_plain _ _ _ rfl) (hpl:=plain_any rfl)))))))),?_⟩
 nofun
 refine ⟨fun m σ H1=>H1=H∧∃ n:Nat,m=151 - n∧n≤kvs.length∧(∀ j < n,Sum.inr (cn j)∈keysOf kvs)∧σ=[some (.ref d),some (.int n)],⟨_,rfl,0,rfl,Nat.zero_le _,(fun j h=>absurd h (Nat.not_lt_zero _)),rfl⟩,?_⟩
 rintro m σ H1 ⟨rfl,n,rfl,hn,hk,rfl⟩
 nofun
 refine ⟨n,rfl,by omega,?_⟩
 refine indS hd ?_
 by_cases c:Sum.inr (cn n)∈keysOf kvs
 ·rw [(valV_some _ _).mpr c]
  nofun
  have k2:∀ j < n+1,Sum.inr (cn j)∈keysOf kvs:=fun j h=>by
   rcases Nat.lt_or_eq_of_le (Nat.le_of_lt_succ h) with h | h
   ·exact hk j h
   ·rw [h]; exact c
  have n2:=cn_few (by omega) k2
  refine ⟨fun σ' H'=>H'=H1∧σ'=[some (.ref d),some (.int ((n+1:Nat):Int))],fun σ' H' h=>⟨151 - (n+1),by omega,h.1,n+1,rfl,n2,k2,h.2⟩,?_⟩
  first | exact ⟨rfl,rfl⟩ | trivial | exact rfl
 ·rw [Bool.eq_false_iff.mpr fun z=>c ((valV_some _ _).mp z)]
  nofun
  exact ⟨n,rfl,by omega,q _ (cn_good n (by omega)) c⟩
theorem ok_bits_from_weights (B:Bt K mg a)(F:Fun K "bits_from_weights" "bits_from_weights" s_bits_from_weights f fd):FnOk P w K mg base CX0 1 f fd ["falling"] (sp_bits_from_weights K a):=by
 refine F.ok sc_bits_from_weights (fun vs H Q E h=>?_) (fun cdv A outer s H vs Q E hr h=>?_)
 ·obtain ⟨l,ws,rfl,_⟩:=h
  rfl
 obtain ⟨l,ws,rfl,hl,nd,lz,q⟩:=h
 refine ⟨_,(pss_of (qss_cons (qs_set (i:=1) sc_bits_from_weights.nd rfl (Or.inl rfl) (qe_of pe_dnewK) (by kernel_rfl)) (qss_cons (qs_set (i:=2) sc_bits_from_weights.nd rfl (Or.inl rfl) (qe_of pe_int) (by kernel_rfl)) (qss_cons (qs_of (ps_for PassesOwn.never rfl (pi_list (pv 0)) (pg_name (i:=3) sc_bits_from_weights.nd rfl (Or.inl rfl)) (pss_of (qss_cons (qs_set (i:=2) sc_bits_from_weights.nd rfl (Or.inl rfl) (qe_of (pe_op op_add (pe_op op_mul (pv 2) pe_int) pe_int)) (by kernel_rfl)) (qss_one (qs_of (ps_asg (pv 2) (pg_sub (pv 1) (pv 3) set_dict)))))))) (qss_one (qs_ret (qe_of (pv 1)))))))),?_⟩
 nofun
 intro d hd
 have S1:=same_new hd (.dK [])
 refine ⟨⟨_,SqL.of (S1 _ _ hl)⟩,?_⟩
 refine ForL.by (xs:=ws.map V.int) (fun i σ H1=>(∃ v,σ=[some (.ref l),some (.ref d),some (.int ((2 ^ i - 1:Nat):Int)),v])∧Same H H1∧H1 d=some (.dK (fwK (ws.take i)))) ⟨⟨_,rfl⟩,S1,upd_same⟩ (fun i σ H1 _ h=>SqL.of (h.2.1 _ _ hl)) ?_ ?_
 ·rintro i y σ H1 hy ⟨⟨v,rfl⟩,S2,h1⟩
  rw [List.getElem?_map] at hy
  obtain ⟨n,hn,rfl⟩:=Option.map_eq_some_iff.mp hy
  have lt:=(List.getElem?_eq_some_iff.mp hn).1
  nofun
  refine ⟨.inr ⟨by decide,by decide⟩,?_⟩
  have p2:1≤2 ^ i:=Nat.one_le_pow _ _ (by decide)
  have e2:((2 ^ i - 1:Nat):Int) * 2+1=((2 ^ (i+1) - 1:Nat):Int):=by rw [Nat.pow_succ]; omega
  have nn:n ∉ ws.take i:=fun z=>by
   obtain ⟨j,hj⟩:=List.getElem?_of_mem z
   rw [List.getElem?_take] at hj
   split at hj
   ·rename_i lj
    have:=(List.getElem?_inj (i:=j) (j:=i) (by omega) nd).mp (hj.trans hn.symm)
    omega
   ·cases hj
  have len_:(ws.take i).length=i:=by rw [List.length_take]; omega
  have ef:putK (fwK (ws.take i)) (Sum.inl n) (.int ((2 ^ (i+1) - 1:Nat):Int))=fwK (ws.take (i+1)):=by
   rw [putK_new _ (show valV (fwK (ws.take i)) (Sum.inl n)=none from fw_none _ 0 n nn),List.take_succ,hn]
   show _=fwK (ws.take i++[n])
   rw [fwK_snoc,len_]
  rw [e2]
  refine setd (k:=Sum.inl n) h1 (by rw [fw_len,len_]; omega) ?_
  rw [ef]
  have new:Same H (upd H1 d (.dK (fwK (ws.take (i+1)))))∧upd H1 d (.dK (fwK (ws.take (i+1)))) d=some (.dK (fwK (ws.take (i+1)))):=⟨same_but S2 hd (But.upd _),upd_same⟩
  first | exact ⟨⟨_,rfl⟩,new⟩ | exact ⟨rfl,new⟩ | exact new
 ·rintro σ H1 ⟨⟨v,rfl⟩,S2,h1⟩
  rw [List.length_map,List.take_length] at h1
  nofun
  exact q d H1 S2 h1
theorem ok_Any_note_turns {d n:Nat}(hn:1≤n)(B:Bt K mg a)(F:Fun K "note_turns" "Any.note_turns" s_Any_note_turns f fd):FnOk P w K mg base CX0 (n+1) f fd ["self","kinds","places","weights"] (sp_Any_note_turns K a (d+1)):=by
 refine F.ok sc_Any_note_turns (fun vs H Q E h=>?_) (fun cdv A outer s H vs Q E hr h=>?_)
 ·obtain ⟨v,t,H0,kd,pd,wd,ks,ps,ws,rfl,_⟩:=h
  rfl
 obtain ⟨v,t,H0,kd,pd,wd,ks,ps,ws,rfl,ht,hd,ho,hf,S,T,l1,l2,l3,q⟩:=h
 refine ⟨_,(pss_of (qss_one (qs_of ps_pass))),?_⟩
 cases t with
 | kind us=>cases ht
 | place us=>cases ht
 | weight n=>cases ht
 | not t=>cases ht
 | both ts=>cases ht
 | either ts=>cases ht
 | any =>
 rw [Tr.Fit] at hf
 nofun
 exact q ks ps ws _ But3.refl T (Grow.refl _) (Grow.refl _) (Grow.refl _)
theorem ok_Kind_note_turns {d n:Nat}(hn:1≤n)(B:Bt K mg a)(C_mark:CalX P w K mg base "mark" ["marks","things"] 1 (sp_mark K a))(F:Fun K "note_turns" "Kind.note_turns" s_Kind_note_turns f fd):FnOk P w K mg base CX0 (n+1) f fd ["self","kinds","places","weights"] (sp_Kind_note_turns K a (d+1)):=by
 refine F.ok sc_Kind_note_turns (fun vs H Q E h=>?_) (fun cdv A outer s H vs Q E hr h=>?_)
 ·obtain ⟨v,t,H0,kd,pd,wd,ks,ps,ws,rfl,_⟩:=h
  rfl
 obtain ⟨v,t,H0,kd,pd,wd,ks,ps,ws,rfl,ht,hd,ho,hf,S,T,l1,l2,l3,q⟩:=h
 refine ⟨_,(pss_of (qss_one (qs_of (ps_expr (pe_calN C_mark (hr.mono (by omega)) rfl (pa_of (qa_c (pv 1) (qa_c (pe_fld (pv 0) rfl) qa_nil))) (he:=star_plain _ _ _ rfl) (hpl:=plain_any rfl)))))),?_⟩
 cases t with
 | any=>cases ht
 | place us=>cases ht
 | weight n=>cases ht
 | not t=>cases ht
 | both ts=>cases ht
 | either ts=>cases ht
 | kind us =>
 rw [Tr.Fit] at hf
 obtain ⟨p,dx,ln,rfl,h1,h2⟩:=hf
 rw [Tr.cnt] at l1 l2 l3
 nofun
 refine ⟨_,_,_,S _ _ h1,B.ck_Kind.cl,B.na_Kind_names,.ref ln,rfl,?_⟩
 have eu:us.map V.str=(us.map (Sum.inr:Str→Key)).map kV:=by rw [List.map_map]; rfl
 refine ⟨kd,ln,_,us.map Sum.inr,rfl,T.hx,by rw [← eu]; exact S _ _ h2,by rw [List.length_map]; omega,fun kvs' H' B1 e1 G1=>?_⟩
 nofun
 refine q kvs' ps ws _ (fun b o b1 b2 b3 e=>B1 b o b1 e) ?_ ?_ ?_ ?_
 ·exact ⟨T.nx,T.ny,T.nz,e1,B1 _ _ T.xy.symm T.hy,B1 _ _ T.xz.symm T.hz,T.xy,T.xz,T.yz⟩
 ·rw [Tr.names]; exact G1
 ·rw [Tr.names]; exact Grow.refl _
 ·rw [Tr.wts]; exact Grow.refl _
theorem ok_Place_note_turns {d n:Nat}(hn:1≤n)(B:Bt K mg a)(C_mark:CalX P w K mg base "mark" ["marks","things"] 1 (sp_mark K a))(F:Fun K "note_turns" "Place.note_turns" s_Place_note_turns f fd):FnOk P w K mg base CX0 (n+1) f fd ["self","kinds","places","weights"] (sp_Place_note_turns K a (d+1)):=by
 refine F.ok sc_Place_note_turns (fun vs H Q E h=>?_) (fun cdv A outer s H vs Q E hr h=>?_)
 ·obtain ⟨v,t,H0,kd,pd,wd,ks,ps,ws,rfl,_⟩:=h
  rfl
 obtain ⟨v,t,H0,kd,pd,wd,ks,ps,ws,rfl,ht,hd,ho,hf,S,T,l1,l2,l3,q⟩:=h
 refine ⟨_,(pss_of (qss_one (qs_of (ps_expr (pe_calN C_mark (hr.mono (by omega)) rfl (pa_of (qa_c (pv 2) (qa_c (pe_fld (pv 0) rfl) qa_nil))) (he:=star_plain _ _ _ rfl) (hpl:=plain_any rfl)))))),?_⟩
 cases t with
 | any=>cases ht
 | kind us=>cases ht
 | weight n=>cases ht
 | not t=>cases ht
 | both ts=>cases ht
 | either ts=>cases ht
 | place us =>
 rw [Tr.Fit] at hf
 obtain ⟨p,dx,ln,rfl,h1,h2⟩:=hf
 rw [Tr.cnt] at l1 l2 l3
 nofun
 refine ⟨_,_,_,S _ _ h1,B.ck_Place.cl,B.na_Place_names,.ref ln,rfl,?_⟩
 have eu:us.map V.str=(us.map (Sum.inr:Str→Key)).map kV:=by rw [List.map_map]; rfl
 refine ⟨pd,ln,_,us.map Sum.inr,rfl,T.hy,by rw [← eu]; exact S _ _ h2,by rw [List.length_map]; omega,fun kvs' H' B1 e1 G1=>?_⟩
 nofun
 refine q ks kvs' ws _ (fun b o b1 b2 b3 e=>B1 b o b2 e) ?_ ?_ ?_ ?_
 ·exact ⟨T.nx,T.ny,T.nz,B1 _ _ T.xy T.hx,e1,B1 _ _ T.yz.symm T.hz,T.xy,T.xz,T.yz⟩
 ·rw [Tr.names]; exact Grow.refl _
 ·rw [Tr.names]; exact G1
 ·rw [Tr.wts]; exact Grow.refl _
theorem ok_Least_note_turns {d n:Nat}(hn:1≤n)(B:Bt K mg a)(C_mark:CalX P w K mg base "mark" ["marks","things"] 1 (sp_mark K a))(F:Fun K "note_turns" "Least.note_turns" s_Least_note_turns f fd):FnOk P w K mg base CX0 (n+1) f fd ["self","kinds","places","weights"] (sp_Least_note_turns K a (d+1)):=by
 refine F.ok sc_Least_note_turns (fun vs H Q E h=>?_) (fun cdv A outer s H vs Q E hr h=>?_)
 ·obtain ⟨v,t,H0,kd,pd,wd,ks,ps,ws,rfl,_⟩:=h
  rfl
 obtain ⟨v,t,H0,kd,pd,wd,ks,ps,ws,rfl,ht,hd,ho,hf,S,T,l1,l2,l3,q⟩:=h
 refine ⟨_,(pss_of (qss_one (qs_of (ps_expr (pe_calN C_mark (hr.mono (by omega)) rfl (pa_of (qa_c (pv 3) (qa_c (pe_lst (pa_of (qa_c (pe_fld (pv 0) rfl) qa_nil))) qa_nil))) (he:=star_plain _ _ _ rfl) (hpl:=plain_any rfl)))))),?_⟩
 cases t with
 | any=>cases ht
 | kind us=>cases ht
 | place us=>cases ht
 | not t=>cases ht
 | both ts=>cases ht
 | either ts=>cases ht
 | weight n =>
 rw [Tr.Fit] at hf
 obtain ⟨p,dx,rfl,h1⟩:=hf
 rw [Tr.cnt] at l1 l2 l3
 nofun
 refine ⟨_,_,_,S _ _ h1,B.ck_Least.cl,B.na_Least_weight,.int n,rfl,?_⟩
 nofun
 refine ⟨sz8 (by decide),fun l2' hl=>?_⟩
 have S1:=same_new hl (.lst [.int n])
 refine ⟨wd,l2',_,[Sum.inl n],rfl,S1 _ _ T.hz,upd_same,by rw [List.length_singleton]; omega,fun kvs' H' B1 e1 G1=>?_⟩
 nofun
 refine q ks ps kvs' _ (fun b o b1 b2 b3 e=>B1 b o b3 (S1 _ _ e)) ?_ (Grow.refl _) (Grow.refl _) ?_
 ·exact ⟨T.nx,T.ny,T.nz,B1 _ _ T.xz (S1 _ _ T.hx),B1 _ _ T.yz (S1 _ _ T.hy),e1,T.xy,T.xz,T.yz⟩
 ·rw [Tr.wts]; exact G1
theorem ok_Not_note_turns {d n:Nat}(hn:1≤n)(B:Bt K mg a)(CM_note_turns:∀ C sp,Mm_note_turns K a d C sp→CalM P w K mg base C "note_turns" ["self","kinds","places","weights"] n sp)(F:Fun K "note_turns" "Not.note_turns" s_Not_note_turns f fd):FnOk P w K mg base CX0 (n+1) f fd ["self","kinds","places","weights"] (sp_Not_note_turns K a (d+1)):=by
 refine F.ok sc_Not_note_turns (fun vs H Q E h=>?_) (fun cdv A outer s H vs Q E hr h=>?_)
 ·obtain ⟨v,t,H0,kd,pd,wd,ks,ps,ws,rfl,_⟩:=h
  rfl
 obtain ⟨v,t,H0,kd,pd,wd,ks,ps,ws,rfl,ht,hd,ho,hf,S,T,l1,l2,l3,q⟩:=h
 refine ⟨_,(pss_of (qss_one (qs_of (ps_expr (pe_methD (pe_fld (pv 0) rfl) CM_note_turns pass00 (hr.mono (by omega)) (pa_of (qa_c (pv 1) (qa_c (pv 2) (qa_c (pv 3) qa_nil)))) (hst:=star_plain _ _ _ rfl) (hpl:=plain_any rfl)))))),?_⟩
 cases t with
 | any=>cases ht
 | kind us=>cases ht
 | place us=>cases ht
 | weight n=>cases ht
 | both ts=>cases ht
 | either ts=>cases ht
 | not t =>
 rw [Tr.Fit] at hf
 obtain ⟨p,dx,y,rfl,h1,h2⟩:=hf
 rw [Tr.dp] at hd
 rw [Tr.ok] at ho
 rw [Tr.cnt] at l1 l2 l3
 simp only [Tr.names,Tr.wts] at q
 obtain ⟨p2,_,_,rfl,_⟩:=id h2.ins
 nofun
 refine ⟨_,_,_,S _ _ h1,B.ck_Not.cl,B.na_Not_fit,.ref p2,rfl,?_⟩
 nofun
 refine nt_at (K:=K) h2 (by omega) ho S T l1 l2 l3 fun ks' ps' ws' H' b T' g1 g2 g3=>?_
 nofun
 exact q ks' ps' ws' H' b T' g1 g2 g3
theorem flat_take {α β:Type}(f:α→List β){L:List α}{i:Nat}{t:α}(h:L[i]?=some t):((L.take (i+1)).map f).flatten=((L.take i).map f).flatten++f t:=by
 rw [List.take_succ,h,List.map_append,List.flatten_append]
 simp
theorem flat_len {L:List Tr}{i:Nat}{β:Type}(f:Tr→List β)(hf:∀ t,(f t).length≤t.cnt):((L.take i).map f).flatten.length≤((L.take i).map Tr.cnt).sum:=by
 generalize L.take i=M
 induction M with
 | nil=>exact Nat.le_refl _
 | cons t M ih =>
  rw [List.map_cons,List.flatten_cons,List.length_append,List.map_cons,List.sum_cons]
  exact Nat.add_le_add (hf t) ih
theorem ok_Both_note_turns {d n:Nat}(hn:1≤n)(B:Bt K mg a)(CM_note_turns:∀ C sp,Mm_note_turns K a d C sp→CalM P w K mg base C "note_turns" ["self","kinds","places","weights"] n sp)(F:Fun K "note_turns" "Both.note_turns" s_Both_note_turns f fd):FnOk P w K mg base CX0 (n+1) f fd ["self","kinds","places","weights"] (sp_Both_note_turns K a (d+1)):=by
 refine F.ok sc_Both_note_turns (fun vs H Q E h=>?_) (fun cdv A outer s H vs Q E hr h=>?_)
 ·obtain ⟨v,t,H0,kd,pd,wd,ks,ps,ws,rfl,_⟩:=h
  rfl
 obtain ⟨v,t,H0,kd,pd,wd,ks,ps,ws,rfl,ht,hd,ho,hf,S,T,l1,l2,l3,q⟩:=h
 refine ⟨_,(pss_of (qss_one (qs_of (ps_for PassesOwn.never rfl (pi_list (pe_fld (pv 0) rfl)) (pg_name (i:=4) sc_Both_note_turns.nd rfl (Or.inl rfl)) (pss_of (qss_one (qs_of (ps_expr (pe_methD (pv 4) CM_note_turns pass00 (hr.mono (by omega)) (pa_of (qa_c (pv 1) (qa_c (pv 2) (qa_c (pv 3) qa_nil)))) (hst:=star_plain _ _ _ rfl) (hpl:=plain_any rfl)))))))))),?_⟩
 cases t with
 | any=>cases ht
 | kind us=>cases ht
 | place us=>cases ht
 | weight n=>cases ht
 | not t=>cases ht
 | either ts=>cases ht
 | both ts =>
 rw [Tr.Fit] at hf
 obtain ⟨p,dx,ln,xs,rfl,h1,h2,h3⟩:=hf
 rw [Tr.dp] at hd
 rw [Tr.ok] at ho
 rw [Tr.cnt,trs_cntL] at l1 l2 l3
 simp only [Tr.names,Tr.wts,trs_names,trs_wts] at q
 obtain ⟨m2,m6,ho⟩:=ho
 have hA:=trs_fit.mp h3
 have ln6:=hA.len
 nofun
 refine ⟨_,_,_,S _ _ h1,B.ck_Both.cl,B.na_Both_fits,.ref ln,rfl,?_⟩
 nofun
 refine ⟨⟨xs,SqL.of (S _ _ h2)⟩,?_⟩
 refine ForL.by (xs:=xs) (fun i σ H1=>(∃ v,σ=[some (.ref p),some (.ref kd),some (.ref pd),some (.ref wd),v])∧∃ ks1 ps1 ws1,But3 kd pd wd H H1∧Three H0 H1 kd pd wd ks1 ps1 ws1∧Grow ks ks1 (((ts.toL.take i).map (Tr.names true)).flatten.map Sum.inr)∧Grow ps ps1 (((ts.toL.take i).map (Tr.names false)).flatten.map Sum.inr)∧Grow ws ws1 (((ts.toL.take i).map Tr.wts).flatten.map Sum.inl)) ⟨⟨_,rfl⟩,ks,ps,ws,But3.refl,T,Grow.refl _,Grow.refl _,Grow.refl _⟩ (fun i σ H1 _ h=>?_) ?_ ?_
 ·obtain ⟨_,ks1,ps1,ws1,b,T1,_⟩:=h
  exact SqL.of (same_but3 S T.nx T.ny T.nz b _ _ h2)
 ·rintro i y σ H1 hy ⟨⟨v,rfl⟩,ks1,ps1,ws1,b1,T1,g1,g2,g3⟩
  obtain ⟨t,e,ht⟩:=hA.get hy
  have mt:=List.mem_of_getElem? e
  have dt:=trs_dp mt
  have stk:=sum_take e
  have sle:=sum_take_le ts.toL (i+1)
  have n1:=g1.len; have n2:=g2.len; have n3:=g3.len
  rw [List.length_map] at n1 n2 n3
  have f1:=flat_len (L:=ts.toL) (i:=i) (Tr.names true) (Tr.names_le true)
  have f2:=flat_len (L:=ts.toL) (i:=i) (Tr.names false) (Tr.names_le false)
  have f3:=flat_len (L:=ts.toL) (i:=i) Tr.wts Tr.wts_le
  obtain ⟨p2,_,_,rfl,_⟩:=id ht.ins
  nofun
  refine nt_at (K:=K) ht (by omega) (trs_ok.mp ho t mt) (same_but3 S T.nx T.ny T.nz b1) T1 (by omega) (by omega) (by omega) fun ks' ps' ws' H' b T' g1' g2' g3'=>?_
  nofun
  have new:∃ ks1 ps1 ws1,But3 kd pd wd H H'∧Three H0 H' kd pd wd ks1 ps1 ws1∧Grow ks ks1 (((ts.toL.take (i+1)).map (Tr.names true)).flatten.map Sum.inr)∧Grow ps ps1 (((ts.toL.take (i+1)).map (Tr.names false)).flatten.map Sum.inr)∧Grow ws ws1 (((ts.toL.take (i+1)).map Tr.wts).flatten.map Sum.inl):=by
   refine ⟨ks',ps',ws',b1.trans b,T',?_,?_,?_⟩
   ·rw [flat_take _ e,List.map_append]; exact g1.trans g1'
   ·rw [flat_take _ e,List.map_append]; exact g2.trans g2'
   ·rw [flat_take _ e,List.map_append]; exact g3.trans g3'
  obtain ⟨k9,p9,w9,r1,r2,r3,r4,r5⟩:=new
  first | exact ⟨⟨_,rfl⟩,k9,p9,w9,r1,r2,r3,r4,r5⟩ | exact ⟨r1,k9,p9,w9,r2,r3,r4,r5⟩ | exact ⟨k9,p9,w9,r1,r2,r3,r4,r5⟩
 ·rintro σ H1 ⟨⟨v,rfl⟩,ks1,ps1,ws1,b1,T1,g1,g2,g3⟩
  rw [← ln6,List.take_length] at g1 g2 g3
  first | exact q ks1 ps1 ws1 H1 b1 T1 g1 g2 g3 | (nofun; exact q ks1 ps1 ws1 H1 b1 T1 g1 g2 g3)
theorem ok_Either_note_turns {d n:Nat}(hn:1≤n)(B:Bt K mg a)(CM_note_turns:∀ C sp,Mm_note_turns K a d C sp→CalM P w K mg base C "note_turns" ["self","kinds","places","weights"] n sp)(F:Fun K "note_turns" "Either.note_turns" s_Either_note_turns f fd):FnOk P w K mg base CX0 (n+1) f fd ["self","kinds","places","weights"] (sp_Either_note_turns K a (d+1)):=by
 refine F.ok sc_Either_note_turns (fun vs H Q E h=>?_) (fun cdv A outer s H vs Q E hr h=>?_)
 ·obtain ⟨v,t,H0,kd,pd,wd,ks,ps,ws,rfl,_⟩:=h
  rfl
 obtain ⟨v,t,H0,kd,pd,wd,ks,ps,ws,rfl,ht,hd,ho,hf,S,T,l1,l2,l3,q⟩:=h
 refine ⟨_,(pss_of (qss_one (qs_of (ps_for PassesOwn.never rfl (pi_list (pe_fld (pv 0) rfl)) (pg_name (i:=4) sc_Either_note_turns.nd rfl (Or.inl rfl)) (pss_of (qss_one (qs_of (ps_expr (pe_methD (pv 4) CM_note_turns pass00 (hr.mono (by omega)) (pa_of (qa_c (pv 1) (qa_c (pv 2) (qa_c (pv 3) qa_nil)))) (hst:=star_plain _ _ _ rfl) (hpl:=plain_any rfl)))))))))),?_⟩
 cases t with
 | any=>cases ht
 | kind us=>cases ht
 | place us=>cases ht
 | weight n=>cases ht
 | not t=>cases ht
 | both ts=>cases ht
 | either ts =>
 rw [Tr.Fit] at hf
 obtain ⟨p,dx,ln,xs,rfl,h1,h2,h3⟩:=hf
 rw [Tr.dp] at hd
 rw [Tr.ok] at ho
 rw [Tr.cnt,trs_cntL] at l1 l2 l3
 simp only [Tr.names,Tr.wts,trs_names,trs_wts] at q
 obtain ⟨m2,m6,ho⟩:=ho
 have hA:=trs_fit.mp h3
 have ln6:=hA.len
 nofun
 refine ⟨_,_,_,S _ _ h1,B.ck_Either.cl,B.na_Either_fits,.ref ln,rfl,?_⟩
 nofun
 refine ⟨⟨xs,SqL.of (S _ _ h2)⟩,?_⟩
 refine ForL.by (xs:=xs) (fun i σ H1=>(∃ v,σ=[some (.ref p),some (.ref kd),some (.ref pd),some (.ref wd),v])∧∃ ks1 ps1 ws1,But3 kd pd wd H H1∧Three H0 H1 kd pd wd ks1 ps1 ws1∧Grow ks ks1 (((ts.toL.take i).map (Tr.names true)).flatten.map Sum.inr)∧Grow ps ps1 (((ts.toL.take i).map (Tr.names false)).flatten.map Sum.inr)∧Grow ws ws1 (((ts.toL.take i).map Tr.wts).flatten.map Sum.inl)) ⟨⟨_,rfl⟩,ks,ps,ws,But3.refl,T,Grow.refl _,Grow.refl _,Grow.refl _⟩ (fun i σ H1 _ h=>?_) ?_ ?_
 ·obtain ⟨_,ks1,ps1,ws1,b,T1,_⟩:=h
  exact SqL.of (same_but3 S T.nx T.ny T.nz b _ _ h2)
 ·rintro i y σ H1 hy ⟨⟨v,rfl⟩,ks1,ps1,ws1,b1,T1,g1,g2,g3⟩
  obtain ⟨t,e,ht⟩:=hA.get hy
  have mt:=List.mem_of_getElem? e
  have dt:=trs_dp mt
  have stk:=sum_take e
  have sle:=sum_take_le ts.toL (i+1)
  have n1:=g1.len; have n2:=g2.len; have n3:=g3.len
  rw [List.length_map] at n1 n2 n3
  have f1:=flat_len (L:=ts.toL) (i:=i) (Tr.names true) (Tr.names_le true)
  have f2:=flat_len (L:=ts.toL) (i:=i) (Tr.names false) (Tr.names_le false)
  have f3:=flat_len (L:=ts.toL) (i:=i) Tr.wts Tr.wts_le
  obtain ⟨p2,_,_,rfl,_⟩:=id ht.ins
  nofun
  refine nt_at (K:=K) ht (by omega) (trs_ok.mp ho t mt) (same_but3 S T.nx T.ny T.nz b1) T1 (by omega) (by omega) (by omega) fun ks' ps' ws' H' b T' g1' g2' g3'=>?_
  nofun
  have new:∃ ks1 ps1 ws1,But3 kd pd wd H H'∧Three H0 H' kd pd wd ks1 ps1 ws1∧Grow ks ks1 (((ts.toL.take (i+1)).map (Tr.names true)).flatten.map Sum.inr)∧Grow ps ps1 (((ts.toL.take (i+1)).map (Tr.names false)).flatten.map Sum.inr)∧Grow ws ws1 (((ts.toL.take (i+1)).map Tr.wts).flatten.map Sum.inl):=by
   refine ⟨ks',ps',ws',b1.trans b,T',?_,?_,?_⟩
   ·rw [flat_take _ e,List.map_append]; exact g1.trans g1'
   ·rw [flat_take _ e,List.map_append]; exact g2.trans g2'
   ·rw [flat_take _ e,List.map_append]; exact g3.trans g3'
  obtain ⟨k9,p9,w9,r1,r2,r3,r4,r5⟩:=new
  first | exact ⟨⟨_,rfl⟩,k9,p9,w9,r1,r2,r3,r4,r5⟩ | exact ⟨r1,k9,p9,w9,r2,r3,r4,r5⟩ | exact ⟨k9,p9,w9,r1,r2,r3,r4,r5⟩
 ·rintro σ H1 ⟨⟨v,rfl⟩,ks1,ps1,ws1,b1,T1,g1,g2,g3⟩
  rw [← ln6,List.take_length] at g1 g2 g3
  first | exact q ks1 ps1 ws1 H1 b1 T1 g1 g2 g3 | (nofun; exact q ks1 ps1 ws1 H1 b1 T1 g1 g2 g3)
theorem ok_Any_weight_bits {d n:Nat}(hn:0≤n)(B:Bt K mg a)(F:Fun K "weight_bits" "Any.weight_bits" s_Any_weight_bits f fd):FnOk P w K mg base CX0 (n+1) f fd ["self","kind","place","from_weight"] (sp_Any_weight_bits K a (d+1)):=by
 refine F.ok sc_Any_weight_bits (fun vs H Q E h=>?_) (fun cdv A outer s H vs Q E hr h=>?_)
 ·obtain ⟨v,t,k,pl,dd,ws,rfl,_⟩:=h
  rfl
 obtain ⟨v,t,k,pl,dd,ws,rfl,ht,hd,ho,hf,hdd,FL,hw,q⟩:=h
 refine ⟨_,(pss_of (qss_one (qs_ret (qe_of (pe_ix ix_dict (pv 3) pe_int (fun _ _=>rfl)))))),?_⟩
 cases t with
 | kind us=>cases ht
 | place us=>cases ht
 | weight n=>cases ht
 | not t=>cases ht
 | both ts=>cases ht
 | either ts=>cases ht
 | any =>
 rw [Tr.Fit] at hf
 simp only [Tr.ev] at q
 nofun
 exact ixdI hdd (fw_zero FL) q
theorem ok_Kind_weight_bits {d n:Nat}(hn:0≤n)(B:Bt K mg a)(F:Fun K "weight_bits" "Kind.weight_bits" s_Kind_weight_bits f fd):FnOk P w K mg base CX0 (n+1) f fd ["self","kind","place","from_weight"] (sp_Kind_weight_bits K a (d+1)):=by
 refine F.ok sc_Kind_weight_bits (fun vs H Q E h=>?_) (fun cdv A outer s H vs Q E hr h=>?_)
 ·obtain ⟨v,t,k,pl,dd,ws,rfl,_⟩:=h
  rfl
 obtain ⟨v,t,k,pl,dd,ws,rfl,ht,hd,ho,hf,hdd,FL,hw,q⟩:=h
 refine ⟨_,(pss_of (qss_one (qs_ret (qe_of (pe_ifExp (pt_cmpR op_in_seq (pv 1) (pe_fld (pv 0) rfl) (by with_unfolding_all rfl)) (pe_ix ix_dict (pv 3) pe_int (fun _ _=>rfl)) pe_int))))),?_⟩
 cases t with
 | any=>cases ht
 | place us=>cases ht
 | weight n=>cases ht
 | not t=>cases ht
 | both ts=>cases ht
 | either ts=>cases ht
 | kind us =>
 rw [Tr.Fit] at hf
 obtain ⟨p,dx,ln,rfl,h1,h2⟩:=hf
 simp only [Tr.ev] at q
 nofun
 refine ⟨_,_,_,h1,B.ck_Kind.cl,B.na_Kind_names,.ref ln,rfl,?_⟩
 refine ⟨ln,_,rfl,.inl (SqL.of h2),rfl,flat_strs us,?_⟩
 rw [inV_str]
 by_cases c:k∈us
 ·simp only [decide_eq_true c] at q
  exists decide_eq_true c
  exact ixdI hdd (fw_zero FL) q
 ·simp only [decide_eq_false c,mk_none] at q
  exists decide_eq_false c
  exact q
theorem ok_Place_weight_bits {d n:Nat}(hn:0≤n)(B:Bt K mg a)(F:Fun K "weight_bits" "Place.weight_bits" s_Place_weight_bits f fd):FnOk P w K mg base CX0 (n+1) f fd ["self","kind","place","from_weight"] (sp_Place_weight_bits K a (d+1)):=by
 refine F.ok sc_Place_weight_bits (fun vs H Q E h=>?_) (fun cdv A outer s H vs Q E hr h=>?_)
 ·obtain ⟨v,t,k,pl,dd,ws,rfl,_⟩:=h
  rfl
 obtain ⟨v,t,k,pl,dd,ws,rfl,ht,hd,ho,hf,hdd,FL,hw,q⟩:=h
 refine ⟨_,(pss_of (qss_one (qs_ret (qe_of (pe_ifExp (pt_cmpR op_in_seq (pv 2) (pe_fld (pv 0) rfl) (by with_unfolding_all rfl)) (pe_ix ix_dict (pv 3) pe_int (fun _ _=>rfl)) pe_int))))),?_⟩
 cases t with
 | any=>cases ht
 | kind us=>cases ht
 | weight n=>cases ht
 | not t=>cases ht
 | both ts=>cases ht
 | either ts=>cases ht
 | place us =>
 rw [Tr.Fit] at hf
 obtain ⟨p,dx,ln,rfl,h1,h2⟩:=hf
 simp only [Tr.ev] at q
 nofun
 refine ⟨_,_,_,h1,B.ck_Place.cl,B.na_Place_names,.ref ln,rfl,?_⟩
 refine ⟨ln,_,rfl,.inl (SqL.of h2),rfl,flat_strs us,?_⟩
 rw [inV_str]
 by_cases c:pl∈us
 ·simp only [decide_eq_true c] at q
  exists decide_eq_true c
  exact ixdI hdd (fw_zero FL) q
 ·simp only [decide_eq_false c,mk_none] at q
  exists decide_eq_false c
  exact q
theorem ok_Least_weight_bits {d n:Nat}(hn:0≤n)(B:Bt K mg a)(F:Fun K "weight_bits" "Least.weight_bits" s_Least_weight_bits f fd):FnOk P w K mg base CX0 (n+1) f fd ["self","kind","place","from_weight"] (sp_Least_weight_bits K a (d+1)):=by
 refine F.ok sc_Least_weight_bits (fun vs H Q E h=>?_) (fun cdv A outer s H vs Q E hr h=>?_)
 ·obtain ⟨v,t,k,pl,dd,ws,rfl,_⟩:=h
  rfl
 obtain ⟨v,t,k,pl,dd,ws,rfl,ht,hd,ho,hf,hdd,FL,hw,q⟩:=h
 refine ⟨_,(pss_of (qss_one (qs_ret (qe_of (pe_ix ix_dict (pv 3) (pe_fld (pv 0) rfl) (fun _ _=>rfl)))))),?_⟩
 cases t with
 | any=>cases ht
 | kind us=>cases ht
 | place us=>cases ht
 | not t=>cases ht
 | both ts=>cases ht
 | either ts=>cases ht
 | weight n =>
 rw [Tr.Fit] at hf
 obtain ⟨p,dx,rfl,h1⟩:=hf
 simp only [Tr.ev] at q
 nofun
 refine ⟨_,_,_,h1,B.ck_Least.cl,B.na_Least_weight,.int n,rfl,?_⟩
 exact ixdI hdd (fw_get FL (hw n (by rw [Tr.wts]; exact List.mem_singleton.mpr rfl))) q
theorem ok_Not_weight_bits {d n:Nat}(hn:0≤n)(B:Bt K mg a)(CM_weight_bits:∀ C sp,Mm_weight_bits K a d C sp→CalM P w K mg base C "weight_bits" ["self","kind","place","from_weight"] n sp)(F:Fun K "weight_bits" "Not.weight_bits" s_Not_weight_bits f fd):FnOk P w K mg base CX0 (n+1) f fd ["self","kind","place","from_weight"] (sp_Not_weight_bits K a (d+1)):=by
 refine F.ok sc_Not_weight_bits (fun vs H Q E h=>?_) (fun cdv A outer s H vs Q E hr h=>?_)
 ·obtain ⟨v,t,k,pl,dd,ws,rfl,_⟩:=h
  rfl
 obtain ⟨v,t,k,pl,dd,ws,rfl,ht,hd,ho,hf,hdd,FL,hw,q⟩:=h
 refine ⟨_,(pss_of (qss_one (qs_ret (qe_of (pe_op op_xor (pe_ix ix_dict (pv 3) pe_int (fun _ _=>rfl)) (pe_methD (pe_fld (pv 0) rfl) CM_weight_bits pass00 (hr.mono (by omega)) (pa_of (qa_c (pv 1) (qa_c (pv 2) (qa_c (pv 3) qa_nil)))) (hst:=star_plain _ _ _ rfl) (hpl:=plain_any rfl))))))),?_⟩
 cases t with
 | any=>cases ht
 | kind us=>cases ht
 | place us=>cases ht
 | weight n=>cases ht
 | both ts=>cases ht
 | either ts=>cases ht
 | not t =>
 rw [Tr.Fit] at hf
 obtain ⟨p,dx,y,rfl,h1,h2⟩:=hf
 rw [Tr.dp] at hd
 rw [Tr.ok] at ho
 rw [Tr.wts] at hw
 simp only [Tr.ev] at q
 obtain ⟨p2,_,_,rfl,_⟩:=id h2.ins
 nofun
 refine ixdI hdd (fw_zero FL) ?_
 refine ⟨_,_,_,h1,B.ck_Not.cl,B.na_Not_fit,.ref p2,rfl,?_⟩
 nofun
 refine wb_at (K:=K) h2 (by omega) ho hdd FL hw ?_
 nofun
 rw [mk_xor _ _ _ fun _ _ _=>rfl]
 exact q
theorem ok_Both_weight_bits {d n:Nat}(hn:0≤n)(B:Bt K mg a)(CM_weight_bits:∀ C sp,Mm_weight_bits K a d C sp→CalM P w K mg base C "weight_bits" ["self","kind","place","from_weight"] n sp)(F:Fun K "weight_bits" "Both.weight_bits" s_Both_weight_bits f fd):FnOk P w K mg base CX0 (n+1) f fd ["self","kind","place","from_weight"] (sp_Both_weight_bits K a (d+1)):=by
 refine F.ok sc_Both_weight_bits (fun vs H Q E h=>?_) (fun cdv A outer s H vs Q E hr h=>?_)
 ·obtain ⟨v,t,k,pl,dd,ws,rfl,_⟩:=h
  rfl
 obtain ⟨v,t,k,pl,dd,ws,rfl,ht,hd,ho,hf,hdd,FL,hw,q⟩:=h
 refine ⟨_,(pss_of (qss_cons (qs_set (i:=4) sc_Both_weight_bits.nd rfl (Or.inl rfl) (qe_of (pe_ix ix_dict (pv 3) pe_int (fun _ _=>rfl))) (by kernel_rfl)) (qss_cons (qs_of (ps_for PassesOwn.never rfl (pi_list (pe_fld (pv 0) rfl)) (pg_name (i:=5) sc_Both_weight_bits.nd rfl (Or.inl rfl)) (pss_of (qss_one (qs_set (i:=4) sc_Both_weight_bits.nd rfl (Or.inl rfl) (qe_of (pe_op op_and (pv 4) (pe_methD (pv 5) CM_weight_bits pass00 (hr.mono (by omega)) (pa_of (qa_c (pv 1) (qa_c (pv 2) (qa_c (pv 3) qa_nil)))) (hst:=star_plain _ _ _ rfl) (hpl:=plain_any rfl)))) (by kernel_rfl)))))) (qss_one (qs_ret (qe_of (pv 4))))))),?_⟩
 cases t with
 | any=>cases ht
 | kind us=>cases ht
 | place us=>cases ht
 | weight n=>cases ht
 | not t=>cases ht
 | either ts=>cases ht
 | both ts =>
 rw [Tr.Fit] at hf
 obtain ⟨p,dx,ln,xs,rfl,h1,h2,h3⟩:=hf
 rw [Tr.dp] at hd
 rw [Tr.ok] at ho
 rw [Tr.wts,trs_wts] at hw
 simp only [Tr.ev,trs_ev] at q
 obtain ⟨m2,m6,ho⟩:=ho
 have hA:=trs_fit.mp h3
 have ln6:=hA.len
 nofun
 refine ixdI hdd (fw_zero FL) ?_
 refine ⟨_,_,_,h1,B.ck_Both.cl,B.na_Both_fits,.ref ln,rfl,?_⟩
 nofun
 refine ⟨⟨xs,SqL.of h2⟩,?_⟩
 refine ForL.by (xs:=xs) (fun i σ H1=>(∃ m v,σ=[some (.ref p),some (.str k),some (.str pl),some (.ref dd),some (.int m),v]∧m=((mk ws (fun w=>((ts.toL.take i).map (Tr.ev k pl w)).all id):Nat):Int))∧H1=H) ⟨⟨_,_,rfl,rfl⟩,rfl⟩ (fun i σ H1 _ h=>by rw [h.2]; exact SqL.of h2) ?_ ?_
 ·rintro i y σ H1 hy ⟨⟨m,v,rfl,em⟩,rfl⟩
  obtain ⟨t,e,ht⟩:=hA.get hy
  have mt:=List.mem_of_getElem? e
  have dt:=trs_dp mt
  obtain ⟨p2,_,_,rfl,_⟩:=id ht.ins
  nofun
  refine wb_at (K:=K) ht (by omega) (trs_ok.mp ho t mt) hdd FL (fun n hn=>hw n (List.mem_flatten.mpr ⟨_,List.mem_map.mpr ⟨t,mt,rfl⟩,hn⟩)) ?_
  nofun
  have ea:Builtin.bitAnd m ((mk ws (fun w=>t.ev k pl w):Nat):Int)=((mk ws (fun w=>((ts.toL.take (i+1)).map (Tr.ev k pl w)).all id):Nat):Int):=by
   rw [em,mk_and]
   congr 2
   funext w
   rw [List.take_succ,e,Option.toList_some,List.map_append,List.all_append]
   simp
  first | exact ⟨⟨_,_,rfl,ea⟩,rfl⟩ | exact ⟨ea,rfl⟩ | exact ea
 ·rintro σ H1 ⟨⟨m,v,rfl,em⟩,rfl⟩
  rw [← ln6,List.take_length] at em
  nofun
  rw [em]
  exact q
theorem ok_Either_weight_bits {d n:Nat}(hn:0≤n)(B:Bt K mg a)(CM_weight_bits:∀ C sp,Mm_weight_bits K a d C sp→CalM P w K mg base C "weight_bits" ["self","kind","place","from_weight"] n sp)(F:Fun K "weight_bits" "Either.weight_bits" s_Either_weight_bits f fd):FnOk P w K mg base CX0 (n+1) f fd ["self","kind","place","from_weight"] (sp_Either_weight_bits K a (d+1)):=by
 refine F.ok sc_Either_weight_bits (fun vs H Q E h=>?_) (fun cdv A outer s H vs Q E hr h=>?_)
 ·obtain ⟨v,t,k,pl,dd,ws,rfl,_⟩:=h
  rfl
 obtain ⟨v,t,k,pl,dd,ws,rfl,ht,hd,ho,hf,hdd,FL,hw,q⟩:=h
 refine ⟨_,(pss_of (qss_cons (qs_set (i:=4) sc_Either_weight_bits.nd rfl (Or.inl rfl) (qe_of pe_int) (by kernel_rfl)) (qss_cons (qs_of (ps_for PassesOwn.never rfl (pi_list (pe_fld (pv 0) rfl)) (pg_name (i:=5) sc_Either_weight_bits.nd rfl (Or.inl rfl)) (pss_of (qss_one (qs_set (i:=4) sc_Either_weight_bits.nd rfl (Or.inl rfl) (qe_of (pe_op op_or (pv 4) (pe_methD (pv 5) CM_weight_bits pass00 (hr.mono (by omega)) (pa_of (qa_c (pv 1) (qa_c (pv 2) (qa_c (pv 3) qa_nil)))) (hst:=star_plain _ _ _ rfl) (hpl:=plain_any rfl)))) (by kernel_rfl)))))) (qss_one (qs_ret (qe_of (pv 4))))))),?_⟩
 cases t with
 | any=>cases ht
 | kind us=>cases ht
 | place us=>cases ht
 | weight n=>cases ht
 | not t=>cases ht
 | both ts=>cases ht
 | either ts =>
 rw [Tr.Fit] at hf
 obtain ⟨p,dx,ln,xs,rfl,h1,h2,h3⟩:=hf
 rw [Tr.dp] at hd
 rw [Tr.ok] at ho
 rw [Tr.wts,trs_wts] at hw
 simp only [Tr.ev,trs_ev] at q
 obtain ⟨m2,m6,ho⟩:=ho
 have hA:=trs_fit.mp h3
 have ln6:=hA.len
 nofun
 refine ⟨_,_,_,h1,B.ck_Either.cl,B.na_Either_fits,.ref ln,rfl,?_⟩
 nofun
 refine ⟨⟨xs,SqL.of h2⟩,?_⟩
 refine ForL.by (xs:=xs) (fun i σ H1=>(∃ m v,σ=[some (.ref p),some (.str k),some (.str pl),some (.ref dd),some (.int m),v]∧m=((mk ws (fun w=>((ts.toL.take i).map (Tr.ev k pl w)).any id):Nat):Int))∧H1=H) ⟨⟨_,_,rfl,by show (0:Int)=_; rw [show (fun w:Int=>(((ts.toL.take 0).map (Tr.ev k pl w)).any id))=fun _=>false from rfl,mk_none]; rfl⟩,rfl⟩ (fun i σ H1 _ h=>by rw [h.2]; exact SqL.of h2) ?_ ?_
 ·rintro i y σ H1 hy ⟨⟨m,v,rfl,em⟩,rfl⟩
  obtain ⟨t,e,ht⟩:=hA.get hy
  have mt:=List.mem_of_getElem? e
  have dt:=trs_dp mt
  obtain ⟨p2,_,_,rfl,_⟩:=id ht.ins
  nofun
  refine wb_at (K:=K) ht (by omega) (trs_ok.mp ho t mt) hdd FL (fun n hn=>hw n (List.mem_flatten.mpr ⟨_,List.mem_map.mpr ⟨t,mt,rfl⟩,hn⟩)) ?_
  nofun
  have ea:Builtin.bitOr m ((mk ws (fun w=>t.ev k pl w):Nat):Int)=((mk ws (fun w=>((ts.toL.take (i+1)).map (Tr.ev k pl w)).any id):Nat):Int):=by
   rw [em,mk_or]
   congr 2
   funext w
   rw [List.take_succ,e,Option.toList_some,List.map_append,List.any_append]
   simp
  first | exact ⟨⟨_,_,rfl,ea⟩,rfl⟩ | exact ⟨ea,rfl⟩ | exact ea
 ·rintro σ H1 ⟨⟨m,v,rfl,em⟩,rfl⟩
  rw [← ln6,List.take_length] at em
  nofun
  rw [em]
  exact q
theorem ixN_of_nat {n i:Nat}:ixN n ((i:Nat):Int)=if i < n then some i else none:=by
 unfold ixN
 rw [if_pos (Int.natCast_nonneg _)]
 by_cases h:i < n
 ·rw [if_pos (by omega),if_pos h,Int.toNat_natCast]
 ·rw [if_neg (by omega),if_neg h]
theorem atI_of_nat {α:Type}{xs:List α}{i:Nat}:atI xs ((i:Nat):Int)=xs[i]?:=by
 unfold atI
 rw [ixN_of_nat]
 by_cases h:i < xs.length
 ·rw [if_pos h]; rfl
 ·rw [if_neg h,List.getElem?_eq_none (by omega)]; rfl
def FfInv (a:Ad)(H:Hp)(fo fl dd:Addr)(k pl:Str)(ws:List Int)(ts:List Tr)(done:List (Str × Str))(i:Nat)(σ:L2.St)(H1:Hp):Prop :=
 ∃ v6 v7 v8 v9 rs1,σ=[some (.ref fo),some (.ref fl),some (.str k),some (.str pl),some (.ref dd),some (.int ((mk ws (free ts i k pl):Nat):Int)),v6,v7,v8,v9]∧But fo H H1∧H1 fo=some (.lst rs1)∧FoundR a H1 ws ts (fun j=>if j < i then (k,pl)::done else done) rs1
theorem ok_find_firsts (B:Bt K mg a)(CM_weight_bits:∀ C sp,Mm_weight_bits K a 5 C sp→CalM P w K mg base C "weight_bits" ["self","kind","place","from_weight"] 5 sp)(CC_Happening:CalC P w K mg base "Happening" a.Happening ["self","kind","place","weight"] 3 (sp_Happening___init__ K a))(F:Fun K "find_firsts" "find_firsts" s_find_firsts f fd):FnOk P w K mg base CX0 6 f fd ["found","fits","kind","place","from_weight"] (sp_find_firsts K a):=by
 refine F.ok sc_find_firsts (fun vs H Q E h=>?_) (fun cdv A outer s H vs Q E hr h=>?_)
 ·obtain ⟨H0,fo,fl,dd,k,pl,xs,rs,ts,ws,done,rfl,_⟩:=h
  rfl
 obtain ⟨H0,fo,fl,dd,k,pl,xs,rs,ts,ws,done,rfl,S,nfo,hfl,hA,hok,hdd,FL,wB,hw,gk,gp,hfo,FR,q⟩:=h
 refine ⟨_,(pss_of (qss_cons (qs_set (i:=5) sc_find_firsts.nd rfl (Or.inl rfl) (qe_of (pe_ix ix_dict (pv 4) pe_int (fun _ _=>rfl))) (by kernel_rfl)) (qss_one (qs_of (ps_for PassesOwn.never rfl (pi_enum rfl B.enumerate (pa_of (qa_c (pv 1) qa_nil))) (pg_tup (n:=2) rfl (pgs_cons (pg_name (i:=6) sc_find_firsts.nd rfl (Or.inl rfl)) (pgs_cons (pg_name (i:=7) sc_find_firsts.nd rfl (Or.inl rfl)) pgs_nil))) (pss_of (qss_cons (qs_set (i:=8) sc_find_firsts.nd rfl (Or.inl rfl) (qe_of (pe_op op_and (pv 5) (pe_methD (pv 7) CM_weight_bits pass00 (hr.mono (by decide)) (pa_of (qa_c (pv 2) (qa_c (pv 3) (qa_c (pv 4) qa_nil)))) (hst:=star_plain _ _ _ rfl) (hpl:=plain_any rfl)))) (by kernel_rfl)) (qss_cons (qs_set (i:=5) sc_find_firsts.nd rfl (Or.inl rfl) (qe_of (pe_op op_xor (pv 5) (pv 8))) (by kernel_rfl)) (qss_one (qs_if (L2.PW.pt (pw_and (pt_cmpR op_ne (pv 8) pe_int (nomark _)) (pw_and1 (pt_cmp (pc_isN (pe_ix ix_list (pv 0) (pv 6) (fun _ _=>rfl))))))) (qss_cons (qs_set (i:=9) sc_find_firsts.nd rfl (Or.inl rfl) (qe_of (pe_ix ix_list (pe_callTy (call_listD rfl) rfl B.list PyProof.Rows.boot_list (pa_of (qa_c (pv 4) qa_nil))) (pe_op op_sub (pe_bm0 PySem.F.plainAttrs_int PySem.F.slot_int_bit_length PySem.F.type_int_bit_length mt_bits (pv 8)) pe_int) (fun _ _=>rfl))) (by kernel_rfl)) (qss_one (qs_of (ps_asg (pe_mak CC_Happening pass00 (hr.mono (by decide)) rfl (pa_of (qa_c (pv 2) (qa_c (pv 3) (qa_c (pv 9) qa_nil)))) (he:=star_plain _ _ _ rfl) (hpl:=plain_any rfl)) (pg_sub (pv 0) (pv 6) set_list))))) qss_nil)))))))))),?_⟩
 have ln6:=hA.len
 have nfl:fl≠fo:=ne_of_none hfl nfo
 have ndd:dd≠fo:=ne_of hdd hfo (by intro z; cases z)
 nofun
 refine ixdI hdd (fw_zero FL) ?_
 refine ⟨⟨_,SqL.of (S _ _ hfl)⟩,?_⟩
 refine ForE.by (xs:=xs) (FfInv a H fo fl dd k pl ws ts done) ?_ (fun i σ H1 _ h=>?_) ?_ ?_
 ·refine ⟨_,_,_,_,rs,by rw [free_zero],But.refl _ _,hfo,FR.1,fun i x e=>?_⟩
  simp only [Nat.not_lt_zero,if_false]
  exact FR.2 i x e
 ·obtain ⟨_,_,_,_,rs1,_,B1,_⟩:=h
  exact SqL.of (B1 _ _ nfl (S _ _ hfl))
 ·rintro i x σ H1 pt hx ⟨v6,v7,v8,v9,rs1,rfl,B1,hfo1,FR1⟩ hpt
  obtain ⟨t,e,ht0⟩:=hA.get hx
  have mt:=List.mem_of_getElem? e
  have S1:Same H0 H1:=same_but S nfo B1
  have Sp:=same_new hpt (.tup [.int (i:Nat),x])
  have ht:=ht0.same (S1.trans Sp)
  obtain ⟨p2,_,_,rfl,_⟩:=id ht.ins
  have hdd2:=Sp _ _ (B1 _ _ ndd hdd)
  have hfo2:=Sp _ _ hfo1
  have SqP:SqT K (upd H1 pt (.tup [.int (i:Nat),.ref p2])) pt [.int (i:Nat),.ref p2]:=SqT.of upd_same
  have B2:But fo H (upd H1 pt (.tup [.int (i:Nat),.ref p2])):=B1.trans (Same.but Sp)
  have FR2:FoundR a (upd H1 pt (.tup [.int (i:Nat),.ref p2])) ws ts (fun j=>if j < i then (k,pl)::done else done) rs1:=⟨FR1.1,fun j x ex=>(FR1.2 j x ex).imp id fun h=>h.ins fun b C d fs e=>Sp _ _ e⟩
  nofun
  generalize upd H1 pt (.tup [.int (i:Nat),.ref p2])=H2 at *
  refine ⟨_,SqP,rfl,_,_,rfl,_,_,rfl,rfl,_,rfl,?_⟩
  refine wb_at (K:=K) ht (hok t mt).2 (hok t mt).1 hdd2 FL (hw t mt) ?_
  refine ⟨_,rfl,?_⟩
  have ea:Builtin.bitAnd ((mk ws (free ts i k pl):Nat):Int) ((mk ws (fun w=>t.ev k pl w):Nat):Int)=((mk ws (won ts i k pl):Nat):Int):=by
   rw [mk_and]
   congr 2
   funext w
   exact (won_at e k pl w).symm
  have ex:Builtin.bitXor ((mk ws (free ts i k pl):Nat):Int) ((mk ws (won ts i k pl):Nat):Int)=((mk ws (free ts (i+1) k pl):Nat):Int):=by
   rw [mk_xor _ _ _ fun w _ h=>by rw [won_at e] at h; exact (Bool.and_eq_true _ _ ▸ h).1]
   congr 2
   funext w
   exact (free_succ e k pl w).symm
  rw [ea,ex]
  have lt:i < rs1.length:=by rw [FR1.1]; exact (List.getElem?_eq_some_iff.mp e).1
  have er:rs1[i]?=some rs1[i]:=List.getElem?_eq_getElem lt
  -- what was found stays,if it is enough
  have keep:(rs1[i]=.non→∀ w∈ws,won ts i k pl w=false)→FoundR a H2 ws ts (fun j=>if j < i+1 then (k,pl)::done else done) rs1:=fun hn=>⟨FR2.1,fun j x ej=>by
   rcases FR2.2 j x ej with ⟨rfl,h⟩ | h
   ·refine .inl ⟨rfl,fun q0 hq w0 hw0=>?_⟩
    dsimp only at h hq
    by_cases c1:j < i
    ·rw [if_pos c1] at h
     rw [if_pos (by omega)] at hq
     exact h q0 hq w0 hw0
    ·rw [if_neg c1] at h
     by_cases c2:j < i+1
     ·have ji:j=i:=by omega
      subst ji
      rw [if_pos c2] at hq
      rcases List.mem_cons.mp hq with rfl | hq
      ·exact hn (by rw [er] at ej; exact Option.some.inj ej) w0 hw0
      ·exact h q0 hq w0 hw0
     ·rw [if_neg c2] at hq
      exact h q0 hq w0 hw0
   ·exact .inr h⟩
  by_cases hz:mk ws (won ts i k pl)=0
  ·rw [if_neg (by rw [hz]; simp)]
   exact ⟨_,_,_,_,rs1,rfl,B2,hfo2,keep fun _=>mk_zero hz⟩
  ·rw [if_pos (by omega)]
   refine ixl (SqL.of hfo2) (v:=rs1[i]) (by rw [atI_of_nat]; exact er) ?_
   by_cases cn:rs1[i]=.non
   ·rw [if_pos cn]
    refine ⟨_,hdd2,fun l hl=>⟨rfl,_,rfl,rfl,_,rfl,?_⟩⟩
    rw [bits_of hz]
    obtain ⟨w0,e0,hw0⟩:=mk_top hz
    have ek:(fwK ws).map (fun kv=>kV kv.1)=ws.map V.int:=by
     have:(fwK ws).map (fun kv=>kV kv.1)=((fwK ws).map (·.1)).map kV:=by rw [List.map_map]; rfl
     rw [this,fw_keys,List.map_map]; rfl
    have m0:=List.mem_of_getElem? e0
    have Sl:=same_new hl (.lst ((fwK ws).map fun kv=>kV kv.1))
    refine ixl (SqL.of upd_same) (v:=.int w0) (by rw [atI_of_nat,ek,List.getElem?_map,e0]; rfl) ?_
    have hfo3:=Sl _ _ hfo2
    generalize upd H2 l (.lst ((fwK ws).map fun kv=>kV kv.1))=H3 at *
    nofun
    intro z dz hz1 hdz nez
    refine ⟨z,dz,k,pl,w0,rfl,upd_same,gk,gp,FL.pos w0 m0,fun H4 B4 e4=>?_⟩
    have S4:=made_but hz1 hdz B4
    nofun
    refine setl (j:=i) (S4 _ _ hfo3) (by rw [ixN_of_nat]; exact if_pos lt) ?_
    have nz:z≠fo:=(ne_of_none hfo3 hz1).symm
    refine ⟨_,_,_,_,rs1.set i (.ref z),rfl,B2.trans ((Same.but (Sl.trans S4)).trans (But.upd _)),upd_same,by rw [List.length_set]; exact FR2.1,fun j x ej=>?_⟩
    have up:∀ b C d fs,H2 b=some (.ins C d fs)→upd H4 fo (.lst (rs1.set i (.ref z))) b=some (.ins C d fs):=fun b C d fs h=>by
     rw [upd_ne (fun y=>by rw [y,hfo2] at h; cases h)]
     exact (Sl.trans S4) _ _ h
    rw [List.getElem?_set] at ej
    by_cases ji:i=j
    ·subst ji
     rw [if_pos rfl,if_pos lt] at ej
     cases ej
     exact .inr ⟨z,dz,k,pl,w0,rfl,by rw [upd_ne nz]; exact e4,gk,gp,FL.pos w0 m0,wB w0 m0,hw0⟩
    ·rw [if_neg ji] at ej
     rcases FR2.2 j x ej with ⟨rfl,h⟩ | h
     ·refine .inl ⟨rfl,fun q0 hq w1 hw1=>?_⟩
      dsimp only at h hq
      by_cases c1:j < i
      ·rw [if_pos c1] at h
       rw [if_pos (by omega)] at hq
       exact h q0 hq w1 hw1
      ·rw [if_neg c1] at h
       rw [if_neg (by omega)] at hq
       exact h q0 hq w1 hw1
     ·exact .inr (h.ins up)
   ·rw [if_neg cn]
    exact ⟨_,_,_,_,rs1,rfl,B2,hfo2,keep fun z=>absurd z cn⟩
 ·rintro σ H1 ⟨v6,v7,v8,v9,rs1,rfl,B1,hfo1,FR1⟩
  have FR2:FoundR a H1 ws ts (fun _=>(k,pl)::done) rs1:=⟨FR1.1,fun j x ej=>by
   have:=FR1.2 j x ej
   have lt:=(List.getElem?_eq_some_iff.mp ej).1
   dsimp only at this
   rw [if_pos (by rw [← ln6,← FR1.1]; exact lt)] at this
   exact this⟩
  first | exact q rs1 H1 B1 hfo1 FR2 | (nofun; exact q rs1 H1 B1 hfo1 FR2)
theorem upd_none {H:Hp}{x y:Addr}{o:HO}(h:upd H x o y=none):y≠x∧H y=none:=by
 by_cases e:y=x
 ·rw [e,upd_same] at h; cases h
 ·rw [upd_ne e] at h; exact ⟨e,h⟩
theorem all_inl:∀ {l:List Key},(∀ k∈l,∃ n,k=Sum.inl n)→∃ ns:List Int,l=ns.map Sum.inl
 | [],_=>⟨[],rfl⟩
 | k::l,h=>by
  obtain ⟨n,rfl⟩:=h k (List.mem_cons_self ..)
  obtain ⟨ns,rfl⟩:=all_inl (l:=l) fun k m=>h k (List.mem_cons_of_mem _ m)
  exact ⟨n::ns,rfl⟩
theorem all_inr:∀ {l:List Key},(∀ k∈l,∃ u,k=Sum.inr u∧goodN u)→∃ us:List Str,l=us.map Sum.inr∧∀ u∈us,goodN u
 | [],_=>⟨[],rfl,fun u h=>nomatch h⟩
 | k::l,h=>by
  obtain ⟨u,rfl,g⟩:=h k (List.mem_cons_self ..)
  obtain ⟨us,rfl,gs⟩:=all_inr (l:=l) fun k m=>h k (List.mem_cons_of_mem _ m)
  exact ⟨u::us,rfl,fun v m=>(List.mem_cons.mp m).elim (fun e=>by rw [e]; exact g) (gs v)⟩
def NtInv (H G:Hp)(fl kd pd wd:Addr)(ts:List Tr)(i:Nat)(σ:L2.St)(H1:Hp):Prop:=(∃ v,σ=[some (.ref fl),some (.ref kd),some (.ref pd),some (.ref wd),v,none,none,none,none])∧∃ ks ps ws,But3 kd pd wd G H1∧Three H H1 kd pd wd ks ps ws∧Grow [] ks (((ts.take i).map (Tr.names true)).flatten.map Sum.inr)∧Grow [] ps (((ts.take i).map (Tr.names false)).flatten.map Sum.inr)∧Grow [(Sum.inl 0,.bl true)] ws (((ts.take i).map Tr.wts).flatten.map Sum.inl)
def Cov (PN:List Str)(done:List (Str × Str))(k:Str):Prop:=∀ p:Str,∃ p',(k,p')∈done∧∀ n∈PN,(p=n ↔ p'=n)
def OutInv (a:Ad)(Hc:Hp)(fo fl kd pd wd dd:Addr)(ws:List Int)(ts:List Tr)(PN KS:List Str)(i:Nat)(σ:L2.St)(H1:Hp):Prop:=(∃ v4 v7 v8,σ=[some (.ref fl),some (.ref kd),some (.ref pd),some (.ref wd),v4,some (.ref dd),some (.ref fo),v7,v8])∧∃ rs done,But fo Hc H1∧H1 fo=some (.lst rs)∧FoundR a H1 ws ts (fun _=>done) rs∧∀ k∈KS.take i,Cov PN done k
def InInv (a:Ad)(Hc:Hp)(fo fl kd pd wd dd:Addr)(ws:List Int)(ts:List Tr)(PN KS PS:List Str)(i:Nat)(k:Str)(j:Nat)(σ:L2.St)(H1:Hp):Prop:=(∃ v4 v8,σ=[some (.ref fl),some (.ref kd),some (.ref pd),some (.ref wd),v4,some (.ref dd),some (.ref fo),some (.str k),v8])∧∃ rs done,But fo Hc H1∧H1 fo=some (.lst rs)∧FoundR a H1 ws ts (fun _=>done) rs∧(∀ k∈KS.take i,Cov PN done k)∧∀ p∈PS.take j,(k,p)∈done
theorem FoundR.same {a:Ad}{H H':Hp}{ws:List Int}{ts:List Tr}{d:Nat→List (Str × Str)}{rs:List V}(h:FoundR a H ws ts d rs)(s:Same H H'):FoundR a H' ws ts d rs:=⟨h.1,fun i x e=>(h.2 i x e).imp id fun z=>z.ins fun b C d fs q=>s _ _ q⟩
theorem flat_mem {β:Type}{f:Tr→List β}{ts:List Tr}{t:Tr}(m:t∈ts){x:β}(h:x∈f t):x∈(ts.map f).flatten:=List.mem_flatten.mpr ⟨_,List.mem_map.mpr ⟨t,m,rfl⟩,h⟩
theorem mem_flat {β:Type}{f:Tr→List β}{ts:List Tr}{x:β}(h:x∈(ts.map f).flatten):∃ t∈ts,x∈f t:=by
 obtain ⟨l,hl,hx⟩:=List.mem_flatten.mp h
 obtain ⟨t,ht,rfl⟩:=List.mem_map.mp hl
 exact ⟨t,ht,hx⟩
theorem flat_len' (ts:List Tr){β:Type}(f:Tr→List β)(hf:∀ t,(f t).length≤t.cnt):(ts.map f).flatten.length≤(ts.map Tr.cnt).sum:=by
 have:=flat_len (L:=ts) (i:=ts.length) f hf
 rw [List.take_length] at this
 exact this
theorem ok_firsts (B:Bt K mg a)(C_bits_from_weights:CalX P w K mg base "bits_from_weights" ["falling"] 1 (sp_bits_from_weights K a))(CM_note_turns:∀ C sp,Mm_note_turns K a 5 C sp→CalM P w K mg base C "note_turns" ["self","kinds","places","weights"] 6 sp)(C_unused_name:CalX P w K mg base "unused_name" ["taken"] 2 (sp_unused_name K a))(C_find_firsts:CalX P w K mg base "find_firsts" ["found","fits","kind","place","from_weight"] 6 (sp_find_firsts K a))(F:Fun K "firsts" "firsts" s_firsts f fd):FnOk P w K mg base CX0 7 f fd ["fits"] (sp_firsts K a):=by
 refine F.ok sc_firsts (fun vs H Q E h=>?_) (fun cdv A outer s H vs Q E hr h=>?_)
 ·obtain ⟨fl,xs,ts,rfl,_⟩:=h
  rfl
 obtain ⟨fl,xs,ts,rfl,hfl,hA,hok,hc,q⟩:=h
 refine ⟨_,(pss_of (qss_cons (qs_set (i:=1) sc_firsts.nd rfl (Or.inl rfl) (qe_of pe_dnewK) (by kernel_rfl)) (qss_cons (qs_set (i:=2) sc_firsts.nd rfl (Or.inl rfl) (qe_of pe_dnewK) (by kernel_rfl)) (qss_cons (qs_set (i:=3) sc_firsts.nd rfl (Or.inl rfl) (qe_of (pe_disp (pps_cons pe_int pe_bl pps_nil) rfl rfl (by intro z; cases z) (by decide))) (by kernel_rfl)) (qss_cons (qs_of (ps_for PassesOwn.never rfl (pi_list (pv 0)) (pg_name (i:=4) sc_firsts.nd rfl (Or.inl rfl)) (pss_of (qss_one (qs_of (ps_expr (pe_methD (pv 4) CM_note_turns pass00 (hr.mono (by decide)) (pa_of (qa_c (pv 1) (qa_c (pv 2) (qa_c (pv 3) qa_nil)))) (hst:=star_plain _ _ _ rfl) (hpl:=plain_any rfl)))))))) (qss_cons (qs_set (i:=5) sc_firsts.nd rfl (Or.inl rfl) (qe_of (pe_calN C_bits_from_weights (hr.mono (by decide)) rfl (pa_of (qa_c (pe_sortR rfl rfl B.sorted (pa_of (qa_c (pv 3) qa_nil))) qa_nil)) (he:=star_plain _ _ _ rfl) (hpl:=plain_any rfl))) (by kernel_rfl)) (qss_cons (qs_of (ps_compB (i:=6) ["fit"] [none] rfl (by kernel_rfl) sc_firsts.nd rfl rfl (pi_list (pv 0)) (fun cl C s H fp=>⟨(pg_name (i:=0) (by decide:List.Nodup (["fit"]:List Str)) rfl (Or.inl (by kernel_rfl)) (Or.inr (by kernel_rfl))),pts_nil,pe_non⟩))) (qss_cons (qs_of (ps_for PassesOwn.never rfl (pi_list (pe_op op_cat (pe_callTy (call_listD rfl) rfl B.list PyProof.Rows.boot_list (pa_of (qa_c (pv 1) qa_nil))) (pe_lst (pa_of (qa_c (pe_calN C_unused_name (hr.mono (by decide)) rfl (pa_of (qa_c (pv 1) qa_nil)) (he:=star_plain _ _ _ rfl) (hpl:=plain_any rfl)) qa_nil))))) (pg_name (i:=7) sc_firsts.nd rfl (Or.inl rfl)) (pss_of (qss_one (qs_of (ps_for PassesOwn.never rfl (pi_list (pe_op op_cat (pe_callTy (call_listD rfl) rfl B.list PyProof.Rows.boot_list (pa_of (qa_c (pv 2) qa_nil))) (pe_lst (pa_of (qa_c (pe_calN C_unused_name (hr.mono (by decide)) rfl (pa_of (qa_c (pv 2) qa_nil)) (he:=star_plain _ _ _ rfl) (hpl:=plain_any rfl)) qa_nil))))) (pg_name (i:=8) sc_firsts.nd rfl (Or.inl rfl)) (pss_of (qss_one (qs_of (ps_expr (pe_calN C_find_firsts (hr.mono (by decide)) rfl (pa_of (qa_c (pv 6) (qa_c (pv 0) (qa_c (pv 7) (qa_c (pv 8) (qa_c (pv 5) qa_nil)))))) (he:=star_plain _ _ _ rfl) (hpl:=plain_any rfl)))))))))))) (qss_one (qs_ret (qe_of (pv 6)))))))))))),?_⟩
 have ln6:=hA.len
 nofun
 intro kd hk pd hp wd hz
 have p1:=upd_none hp
 have z1:=upd_none hz
 have z2:=upd_none z1.2
 refine ⟨upd_same,[(Sum.inl 0,.bl true)],rfl,by decide,?_⟩
 have T0:Three H (upd (upd (upd (upd H kd (.dK [])) pd (.dK [])) wd (.dK [])) wd (.dK (mergeK [] [(Sum.inl 0,.bl true)]))) kd pd wd [] [] [(Sum.inl 0,.bl true)] :=
  ⟨hk,p1.2,z2.2,by rw [upd_ne z2.1.symm,upd_ne z2.1.symm,upd_ne p1.1.symm]; exact upd_same,by rw [upd_ne z1.1.symm,upd_ne z1.1.symm]; exact upd_same,upd_same,p1.1.symm,z2.1.symm,z1.1.symm⟩
 have S0:Same H (upd (upd (upd (upd H kd (.dK [])) pd (.dK [])) wd (.dK [])) wd (.dK (mergeK [] [(Sum.inl 0,.bl true)]))):=same_but ((same_new hk _).trans ((same_new hp _).trans (same_new hz _))) z2.2 (But.upd _)
 generalize upd (upd (upd (upd H kd (.dK [])) pd (.dK [])) wd (.dK [])) wd (.dK (mergeK [] [(Sum.inl 0,.bl true)]))=G at *
 refine ⟨⟨_,SqL.of (S0 _ _ hfl)⟩,?_⟩
 refine ForL.by (xs:=xs) (NtInv H G fl kd pd wd ts) ⟨⟨_,rfl⟩,[],[],_,But3.refl,T0,Grow.refl _,Grow.refl _,Grow.refl _⟩ (fun i σ H1 _ h=>?_) ?_ ?_
 ·obtain ⟨_,ks,ps,ws,b,T,_⟩:=h
  exact SqL.of (same_but3 S0 T0.nx T0.ny T0.nz b _ _ hfl)
 ·rintro i y σ H1 hy ⟨⟨v,rfl⟩,ks,ps,ws,b,T,g1,g2,g3⟩
  obtain ⟨t,e,ht⟩:=hA.get hy
  have mt:=List.mem_of_getElem? e
  have stk:=sum_take e
  have sle:=sum_take_le ts (i+1)
  have n1:=g1.len; have n2:=g2.len; have n3:=g3.len
  rw [List.length_map] at n1 n2 n3
  simp only [List.length_nil,List.length_cons] at n1 n2 n3
  have f1:=flat_len (L:=ts) (i:=i) (Tr.names true) (Tr.names_le true)
  have f2:=flat_len (L:=ts) (i:=i) (Tr.names false) (Tr.names_le false)
  have f3:=flat_len (L:=ts) (i:=i) Tr.wts Tr.wts_le
  obtain ⟨p2,_,_,rfl,_⟩:=id ht.ins
  nofun
  refine nt_at (K:=K) ht (hok t mt).2 (hok t mt).1 (same_but3 S0 T0.nx T0.ny T0.nz b) T (by omega) (by omega) (by omega) fun ks' ps' ws' H' b' T' g1' g2' g3'=>?_
  nofun
  refine ⟨⟨_,rfl⟩,ks',ps',ws',b.trans b',T',?_,?_,?_⟩
  ·rw [flat_take _ e,List.map_append]; exact g1.trans g1'
  ·rw [flat_take _ e,List.map_append]; exact g2.trans g2'
  ·rw [flat_take _ e,List.map_append]; exact g3.trans g3'
 rintro σ H1 ⟨⟨v,rfl⟩,ks,ps,ws,b,T,g1,g2,g3⟩
 rw [← ln6,List.take_length] at g1 g2 g3
 have S1:Same H H1:=same_but3 S0 T0.nx T0.ny T0.nz b
 -- the weights
 have fw:=flat_len' ts Tr.wts Tr.wts_le
 have fk:=flat_len' ts (Tr.names true) (Tr.names_le true)
 have fp:=flat_len' ts (Tr.names false) (Tr.names_le false)
 have n1:=g1.len; have n2:=g2.len; have n3:=g3.len
 rw [List.length_map] at n1 n2 n3
 simp only [List.length_nil,List.length_cons] at n1 n2 n3
 obtain ⟨wi,ewi⟩:=all_inl (l:=keysOf ws) fun k hk=>by
  rcases (g3.mem k).mp hk with h | h
  ·exact ⟨0,by simpa using h⟩
  ·obtain ⟨n,_,rfl⟩:=List.mem_map.mp h
   exact ⟨n,rfl⟩
 have memW:∀ n:Int,n∈wi ↔ n=0∨∃ t∈ts,n∈t.wts:=fun n=>by
  have h:=g3.mem (Sum.inl n)
  rw [ewi] at h
  have e1:(Sum.inl n:Key)∈wi.map Sum.inl ↔ n∈wi:=⟨fun z=>by obtain ⟨m,hm,e⟩:=List.mem_map.mp z; rw [← Sum.inl.inj e]; exact hm,fun z=>List.mem_map.mpr ⟨n,z,rfl⟩⟩
  have e2:(Sum.inl n:Key)∈keysOf [((Sum.inl 0:Key),V.bl true)] ↔ n=0:=⟨fun z=>by have:=List.mem_singleton.mp z; exact Sum.inl.inj this,fun z=>by rw [z]; exact List.mem_singleton.mpr rfl⟩
  have e3:(Sum.inl n:Key)∈((ts.map Tr.wts).flatten.map Sum.inl:List Key) ↔ ∃ t∈ts,n∈t.wts:=⟨fun z=>by obtain ⟨m,hm,e⟩:=List.mem_map.mp z; rw [← Sum.inl.inj e]; exact mem_flat hm,fun ⟨t,mt,z⟩=>List.mem_map.mpr ⟨n,flat_mem mt z,rfl⟩⟩
  rw [e1,e2,e3] at h
  exact h
 have lw:wi.length=ws.length:=by have:=congrArg List.length ewi; rw [List.length_map,List.length_map] at this; exact this.symm
 have ndw:wi.Nodup:=by
  have:=g3.nd (by simp)
  rw [ewi,List.Nodup,List.pairwise_map] at this
  exact this.imp fun h e=>h (by rw [e])
 nofun
 refine ⟨wd,ws,wi,rfl,T.hz,ewi,by omega,fun lp ns hlp perm pw=>?_⟩
 have FL:Falls ns:=⟨by
   have nd:=perm.nodup_iff.mpr ndw
   exact (pw.and nd).imp fun h=>by have:=h.1; have:=h.2; omega,perm.mem_iff.mpr ((memW 0).mpr (.inl rfl)),fun w hw=>by
   rcases (memW w).mp (perm.mem_iff.mp hw) with rfl | ⟨t,mt,h⟩
   ·exact Int.le_refl _
   ·exact Tr.wts_ok t (hok t mt).1 w h⟩
 have wB:∀ w∈ns,w < 1000000:=fun w hw=>by
  rcases (memW w).mp (perm.mem_iff.mp hw) with rfl | ⟨t,mt,h⟩
  ·decide
  ·exact Tr.wts_lt t (hok t mt).1 w h
 have hwT:∀ t∈ts,∀ n∈t.wts,n∈ns:=fun t mt n h=>perm.mem_iff.mpr ((memW n).mpr (.inr ⟨t,mt,h⟩))
 have Sl:=same_new hlp (.lst (ns.map V.int))
 refine ⟨lp,ns,rfl,upd_same,FL.nodup,by rw [perm.length_eq]; omega,fun dd H2 S2 e2=>?_⟩
 have SA:=S1.trans (Sl.trans S2)
 have T2:Three H H2 kd pd wd ks ps ws:=⟨T.nx,T.ny,T.nz,(Sl.trans S2) _ _ T.hx,(Sl.trans S2) _ _ T.hy,(Sl.trans S2) _ _ T.hz,T.xy,T.xz,T.yz⟩
 generalize upd H1 lp (.lst (ns.map V.int))=H1' at *
 nofun
 refine ⟨⟨_,SqL.of (SA _ _ hfl)⟩,?_⟩
 refine CompL.by (xs:=xs) (fun i acc σ H'=>acc=List.replicate i .non∧(∃ v,σ=[v])∧H'=H2) (sz8 (by have:=sum_len fun t m=>(hok t m).1; omega)) ⟨rfl,⟨_,rfl⟩,rfl⟩ (fun i acc σ H' _ h=>by rw [h.2.2]; exact SqL.of (SA _ _ hfl)) ?_ ?_ ?_
 ·rintro i y acc σ H' hy ⟨rfl,⟨v,rfl⟩,rfl⟩
  nofun
  first | exact ⟨List.replicate_succ'.symm,⟨_,rfl⟩,rfl⟩ | exact ⟨List.replicate_succ'.symm,rfl⟩ | exact List.replicate_succ'.symm
 ·rintro i acc σ H' ⟨rfl,_,_⟩
  rw [List.length_replicate]
  exact Nat.le_refl _
 rintro acc σ H' ⟨rfl,⟨v',rfl⟩,rfl⟩ fo hfo
 have nfoH:H fo=none:=SA.free hfo
 have Sf:=same_new hfo (.lst (List.replicate xs.length V.non))
 have hkd3:=Sf _ _ T2.hx
 have hpd3:=Sf _ _ T2.hy
 have hdd3:=Sf _ _ e2
 have hfo3:upd H' fo (.lst (List.replicate xs.length V.non)) fo=some (.lst (List.replicate xs.length V.non)):=upd_same
 have SB:=SA.trans Sf
 have nkd:kd≠fo:=ne_of_none T2.hx hfo
 have npd:pd≠fo:=ne_of_none T2.hy hfo
 have ndd:dd≠fo:=ne_of_none e2 hfo
 generalize upd H' fo (.lst (List.replicate xs.length V.non))=G3 at *
 obtain ⟨kn,ekn,gkn⟩:=all_inr (l:=keysOf ks) fun k hk=>by
  rcases (g1.mem k).mp hk with h | h
  ·exact nomatch h
  ·obtain ⟨u,hu,rfl⟩:=List.mem_map.mp h
   obtain ⟨t,mt,hu⟩:=mem_flat hu
   exact ⟨u,rfl,Tr.names_good true t (hok t mt).1 u hu⟩
 have ekn':ks.map (fun kv=>kV kv.1)=kn.map V.str:=by
  have:ks.map (fun kv=>kV kv.1)=(keysOf ks).map kV:=by unfold keysOf; rw [List.map_map]; rfl
  rw [this,ekn,List.map_map]; rfl
 have lkn:kn.length=ks.length:=by have:=congrArg List.length ekn; rw [List.length_map,List.length_map] at this; exact this.symm
 have mkn:∀ t∈ts,∀ n∈t.names true,n∈kn:=fun t mt n hn=>by
  have:=(g1.mem (Sum.inr n)).mpr (.inr (List.mem_map.mpr ⟨n,flat_mem mt hn,rfl⟩))
  rw [ekn] at this
  obtain ⟨m,hm,e⟩:=List.mem_map.mp this
  rw [← Sum.inr.inj e]; exact hm
 obtain ⟨pn,epn,gpn⟩:=all_inr (l:=keysOf ps) fun k hk=>by
  rcases (g2.mem k).mp hk with h | h
  ·exact nomatch h
  ·obtain ⟨u,hu,rfl⟩:=List.mem_map.mp h
   obtain ⟨t,mt,hu⟩:=mem_flat hu
   exact ⟨u,rfl,Tr.names_good false t (hok t mt).1 u hu⟩
 have epn':ps.map (fun kv=>kV kv.1)=pn.map V.str:=by
  have:ps.map (fun kv=>kV kv.1)=(keysOf ps).map kV:=by unfold keysOf; rw [List.map_map]; rfl
  rw [this,epn,List.map_map]; rfl
 have lpn:pn.length=ps.length:=by have:=congrArg List.length epn; rw [List.length_map,List.length_map] at this; exact this.symm
 have mpn:∀ t∈ts,∀ n∈t.names false,n∈pn:=fun t mt n hn=>by
  have:=(g2.mem (Sum.inr n)).mpr (.inr (List.mem_map.mpr ⟨n,flat_mem mt hn,rfl⟩))
  rw [epn] at this
  obtain ⟨m,hm,e⟩:=List.mem_map.mp this
  rw [← Sum.inr.inj e]; exact hm
 refine ⟨ks,hkd3,fun kl hkl=>?_⟩
 have Sk1:=same_new hkl (.lst (ks.map fun kv=>kV kv.1))
 refine ⟨kd,ks,rfl,Sk1 _ _ (hkd3),by omega,fun ku gku nku=>?_⟩
 have ek1:upd G3 kl (.lst (ks.map fun kv=>kV kv.1)) kl=some (.lst (kn.map V.str)):=by rw [upd_same,ekn']
 generalize upd G3 kl (.lst (ks.map fun kv=>kV kv.1))=kA at *
 refine ⟨sz8 (by decide),fun km hkm=>?_⟩
 have Sk2:=same_new hkm (.lst [.str ku])
 refine ⟨kl,km,_,_,rfl,rfl,Sk2 _ _ ek1,upd_same,sz8 (by rw [List.length_map,List.length_singleton]; omega),fun kL hkL=>?_⟩
 have Sk3:=same_new hkL (.lst (kn.map V.str++[.str ku]))
 have ek3:upd (upd kA km (.lst [.str ku])) kL (.lst (kn.map V.str++[.str ku])) kL=some (.lst ((kn++[ku]).map V.str)):=by rw [upd_same,List.map_append]; rfl
 have Sk:=Sk1.trans (Sk2.trans Sk3)
 generalize upd (upd kA km (.lst [.str ku])) kL (.lst (kn.map V.str++[.str ku]))=kH at *
 have FR0:FoundR a kH ns ts (fun _=>[]) (List.replicate xs.length V.non):=⟨by rw [List.length_replicate,ln6],fun i x e=>.inl ⟨(List.mem_replicate.mp (List.mem_of_getElem? e)).2,fun q hq=>nomatch hq⟩⟩
 have SC:=SB.trans Sk
 have hpd4:=Sk _ _ hpd3
 have hdd4:=Sk _ _ hdd3
 have hfo4:=Sk _ _ hfo3
 have nkL:kL≠fo:=fun z=>by rw [z,hfo4] at ek3; have:=congrArg List.length (HO.lst.inj (Option.some.inj ek3)); rw [List.length_replicate,List.length_map,List.length_append,List.length_singleton] at this; exact absurd hkL (by rw [z]; exact fun y=>by rw [(Sk1.trans Sk2) _ _ hfo3] at y; cases y)
 refine ⟨kL,rfl,⟨_,SqL.of ek3⟩,?_⟩
 refine ForL.by (xs:=(kn++[ku]).map V.str) (OutInv a kH fo fl kd pd wd dd ns ts pn (kn++[ku])) ⟨⟨_,_,_,rfl⟩,_,[],But.refl _ _,hfo4,FR0,fun k hk=>nomatch hk⟩ (fun i σ H5 _ h=>?_) ?_ ?_
 ·obtain ⟨_,rs,done,b,_⟩:=h
  exact SqL.of (b _ _ nkL ek3)
 ·rintro i y σ H5 hy ⟨⟨v4,v7,v8,rfl⟩,rs,done,b5,hfo5,FR5,cov⟩
  rw [List.getElem?_map] at hy
  obtain ⟨k,hk,rfl⟩:=Option.map_eq_some_iff.mp hy
  have gk:goodN k:=by
   rcases List.mem_append.mp (List.mem_of_getElem? hk) with h | h
   ·exact gkn k h
   ·rw [List.mem_singleton.mp h]; exact gku
  have hpd5:=b5 _ _ npd hpd4
  have hdd5:=b5 _ _ ndd hdd4
  nofun
  refine ⟨ps,hpd5,fun pl hpl=>?_⟩
  have Sp1:=same_new hpl (.lst (ps.map fun kv=>kV kv.1))
  refine ⟨pd,ps,rfl,Sp1 _ _ (hpd5),by omega,fun pu gpu npu=>?_⟩
  have ep1:upd H5 pl (.lst (ps.map fun kv=>kV kv.1)) pl=some (.lst (pn.map V.str)):=by rw [upd_same,epn']
  generalize upd H5 pl (.lst (ps.map fun kv=>kV kv.1))=pA at *
  refine ⟨sz8 (by decide),fun pm hpm=>?_⟩
  have Sp2:=same_new hpm (.lst [.str pu])
  refine ⟨pl,pm,_,_,rfl,rfl,Sp2 _ _ ep1,upd_same,sz8 (by rw [List.length_map,List.length_singleton]; omega),fun pL hpL=>?_⟩
  have Sp3:=same_new hpL (.lst (pn.map V.str++[.str pu]))
  have ep3:upd (upd pA pm (.lst [.str pu])) pL (.lst (pn.map V.str++[.str pu])) pL=some (.lst ((pn++[pu]).map V.str)):=by rw [upd_same,List.map_append]; rfl
  have Sp:=Sp1.trans (Sp2.trans Sp3)
  generalize upd (upd pA pm (.lst [.str pu])) pL (.lst (pn.map V.str++[.str pu]))=pH at *
  have hfo6:=Sp _ _ hfo5
  have npL:pL≠fo:=fun z=>by rw [z] at hpL; rw [(Sp1.trans Sp2) _ _ hfo5] at hpL; cases hpL
  refine ⟨pL,rfl,⟨_,SqL.of ep3⟩,?_⟩
  refine ForL.by (xs:=(pn++[pu]).map V.str) (InInv a pH fo fl kd pd wd dd ns ts pn (kn++[ku]) (pn++[pu]) i k) ⟨⟨_,_,rfl⟩,rs,done,But.refl _ _,hfo6,FR5.same Sp,cov,fun p hp=>nomatch hp⟩ (fun j σ H6 _ h=>?_) ?_ ?_
  ·obtain ⟨_,rs,done,b,_⟩:=h
   exact SqL.of (b _ _ npL ep3)
  ·rintro j y σ H6 hy ⟨⟨v4,v8,rfl⟩,rs,done,b6,hfo6,FR6,cov,dn⟩
   rw [List.getElem?_map] at hy
   obtain ⟨p,hp,rfl⟩:=Option.map_eq_some_iff.mp hy
   have gp:goodN p:=by
    rcases List.mem_append.mp (List.mem_of_getElem? hp) with h | h
    ·exact gpn p h
    ·rw [List.mem_singleton.mp h]; exact gpu
   have S6:Same H H6:=same_but SC nfoH (b5.trans ((Same.but Sp).trans b6))
   nofun
   refine ⟨H,fo,fl,dd,k,p,xs,rs,ts,ns,done,rfl,S6,nfoH,hfl,hA,hok,b6 _ _ ndd (Sp _ _ hdd5),FL,wB,hwT,gk,gp,hfo6,FR6,fun rs' H7 b7 hfo7 FR7=>?_⟩
   nofun
   refine ⟨⟨_,_,rfl⟩,rs',_,b6.trans b7,hfo7,FR7,fun k0 m0=>?_,fun p0 m0=>?_⟩
   ·intro p0
    obtain ⟨p',m,h⟩:=cov k0 m0 p0
    exact ⟨p',List.mem_cons_of_mem _ m,h⟩
   ·rw [List.take_succ,hp,Option.toList_some] at m0
    rcases List.mem_append.mp m0 with m0 | m0
    ·exact List.mem_cons_of_mem _ (dn p0 m0)
    ·rw [List.mem_singleton.mp m0]; exact List.mem_cons_self ..
  ·rintro σ H6 ⟨⟨v4,v8,rfl⟩,rs,done,b6,hfo6,FR6,cov,dn⟩
   rw [List.length_map,List.take_length] at dn
   refine ⟨⟨_,_,_,rfl⟩,rs,done,b5.trans ((Same.but Sp).trans b6),hfo6,FR6,fun k0 m0=>?_⟩
   rw [List.take_succ,hk,Option.toList_some] at m0
   rcases List.mem_append.mp m0 with m0 | m0
   ·exact cov k0 m0
   ·rw [List.mem_singleton.mp m0]
    intro p0
    by_cases c:p0∈pn
    ·exact ⟨p0,dn p0 (List.mem_append_left _ c),fun n _=>Iff.rfl⟩
    ·refine ⟨pu,dn pu (List.mem_append_right _ (List.mem_singleton.mpr rfl)),fun n hn=>⟨fun z=>absurd hn (by rw [← z]; exact c),fun z=>absurd hn (by rw [← z]; intro y; exact npu (by rw [epn]; exact List.mem_map.mpr ⟨_,y,rfl⟩))⟩⟩
 ·rintro σ H8 ⟨⟨v4,v7,v8,rfl⟩,rs,done,b8,hfo8,FR8,cov⟩
  rw [List.length_map,List.take_length] at cov
  nofun
  refine q fo rs H8 (same_but SC nfoH b8) hfo8 ⟨FR8.1,fun i x e=>(FR8.2 i x e).imp (fun ⟨hn,h⟩=>⟨hn,fun k p w w0=>?_⟩) id⟩
  obtain ⟨k',mk',hk'⟩:∃ k'∈kn++[ku],∀ n∈kn,(k=n ↔ k'=n):=by
   by_cases c:k∈kn
   ·exact ⟨k,List.mem_append_left _ c,fun n _=>Iff.rfl⟩
   ·exact ⟨ku,List.mem_append_right _ (List.mem_singleton.mpr rfl),fun n hn=>⟨fun z=>absurd hn (by rw [← z]; exact c),fun z=>absurd hn (by rw [← z]; intro y; exact nku (by rw [ekn]; exact List.mem_map.mpr ⟨_,y,rfl⟩))⟩⟩
  obtain ⟨p',mp',hp'⟩:=cov k' mk' p
  obtain ⟨w',mw',hw'⟩:=FL.stand w0
  rw [won_eq fun t mt=>Tr.ev_eq t (fun n hn=>hk' n (mkn t mt n hn)) (fun n hn=>hp' n (mpn t mt n hn)) (fun n hn=>hw' n (hwT t mt n hn))]
  exact h (k',p') mp' w' mw'
theorem ok_parting (B:Bt K mg a)(C_firsts:CalX P w K mg base "firsts" ["fits"] 7 (sp_firsts K a))(F:Fun K "parting" "parting" s_parting f fd):FnOk P w K mg base CX0 8 f fd ["one","other"] (sp_parting K a):=by
 refine F.ok sc_parting (fun vs H Q E h=>?_) (fun cdv A outer s H vs Q E hr h=>?_)
 ·obtain ⟨v1,v2,t1,t2,rfl,_⟩:=h
  rfl
 obtain ⟨v1,v2,t1,t2,rfl,h1,h2,o1,o2,d1,d2,hc,q⟩:=h
 refine ⟨_,(pss_of (qss_one (qs_ret (qe_of (pe_ix ix_list (pe_calN C_firsts (hr.mono (by decide)) rfl (pa_of (qa_c (pe_lst (pa_of (qa_c (pv 1) (qa_c (pv 0) qa_nil)))) qa_nil)) (he:=star_plain _ _ _ rfl) (hpl:=plain_any rfl)) pe_int (fun _ _=>rfl)))))),?_⟩
 nofun
 refine ⟨sz8 (by decide),fun fl hl=>?_⟩
 have S1:=same_new hl (.lst [v2,v1])
 refine ⟨fl,[v2,v1],[t2,t1],rfl,upd_same,.cons (h2.same S1) (.cons (h1.same S1) .nil),fun t m=>?_,?_,fun r rs H' S2 er FR=>?_⟩
 ·simp only [List.mem_cons,List.not_mem_nil,or_false] at m
  rcases m with rfl | rfl
  ·exact ⟨o2,d2⟩
  ·exact ⟨o1,d1⟩
 ·show t2.cnt+(t1.cnt+0)≤60
  omega
 ·have lt:1 < rs.length:=by rw [FR.1]; exact Nat.lt_succ_self 1
  have e1:rs[1]?=some rs[1]:=List.getElem?_eq_getElem lt
  nofun
  refine ixl (SqL.of er) (v:=rs[1]) (by rw [show (1:Int)=((1:Nat):Int) from rfl,atI_of_nat]; exact e1) ?_
  refine q _ H' (S1.trans S2) ?_
  rcases FR.2 1 _ e1 with ⟨hn,h⟩ | ⟨hp,dh,k,p,w,e,hh,gk,gp,w0,w1,hw⟩
  ·refine .inl ⟨hn,fun k p w w0 h1=>?_⟩
   have:=h k p w w0
   simp only [won,List.getElem?_cons_succ,List.getElem?_cons_zero,Option.map_some,Option.getD_some,h1,List.take_succ_cons,List.take_zero,List.all_cons,List.all_nil,Bool.true_and,Bool.and_true,Bool.not_eq_false'] at this
   exact this
  ·refine .inr ⟨hp,dh,k,p,w,e,hh,gk,gp,w0,w1,?_⟩
   simp only [won,List.getElem?_cons_succ,List.getElem?_cons_zero,Option.map_some,Option.getD_some,List.take_succ_cons,List.take_zero,List.all_cons,List.all_nil,Bool.and_true,Bool.and_eq_true,Bool.not_eq_true'] at hw
   exact hw
def ThS (H:Hp)(xs:List V):Prop:=∀ x∈xs,∃ k p w,ThAt H x k p w
theorem ThS.same {H H':Hp}{xs:List V}(h:ThS H xs)(s:Same H H'):ThS H' xs:=fun x m=>let ⟨k,p,w,h⟩:=h x m; ⟨k,p,w,h.same s⟩
theorem ThS.app {H:Hp}{xs ys:List V}(h:ThS H xs)(g:ThS H ys):ThS H (xs++ys):=fun x m=>(List.mem_append.mp m).elim (h x) (g x)
def AlO (J:Hp)(l q2 rk rp sl:Addr)(i:Nat)(σ:L2.St)(H1:Hp):Prop:=(∃ fp v6 v7 xs,σ=[some (.ref l),some (.ref q2),some (.ref rk),some (.ref rp),some (.ref sl),some (.ref fp),v6,v7]∧H1 fp=some (.lst xs)∧xs.length≤i * 4000∧ThS H1 xs)∧Same J H1
def AlI (J:Hp)(l q2 rk rp sl:Addr)(i:Nat)(k:Str)(j:Nat)(σ:L2.St)(H1:Hp):Prop:=(∃ fp v7 xs,σ=[some (.ref l),some (.ref q2),some (.ref rk),some (.ref rp),some (.ref sl),some (.ref fp),some (.str k),v7]∧H1 fp=some (.lst xs)∧xs.length≤i * 4000+j * 62∧ThS H1 xs)∧Same J H1
def AlC (H1:Hp)(k p:Str)(m:Nat)(acc:List V)(σ:L2.St)(H':Hp):Prop:=acc.length=m∧ThS H' acc∧(∃ v,σ=[v,some (.str k),some (.str p)])∧Same H1 H'
theorem ints_in:∀ {xs:List V},(∀ x∈xs,∃ n:Int,x=.int n∧0≤n∧n < 1000000)→∃ ns:List Int,xs=ns.map V.int∧∀ n∈ns,0≤n∧n < 1000000
 | [],_=>⟨[],rfl,fun u h=>nomatch h⟩
 | x::xs,h=>by
  obtain ⟨u,rfl,g⟩:=h x (List.mem_cons_self ..)
  obtain ⟨us,rfl,gs⟩:=ints_in (xs:=xs) fun y m=>h y (List.mem_cons_of_mem _ m)
  exact ⟨u::us,rfl,fun v m=>(List.mem_cons.mp m).elim (fun e=>by rw [e]; exact g) (gs v)⟩
theorem abc_good:∀ c∈("abcdefghijklmnopqrstuvwxyz":Str).cps.toList,goodN ⟨#[c]⟩:=by decide +kernel
theorem ok_law_beside (B:Bt K mg a)(F:Fun K "_law_beside" "_law_beside" s_law_beside f fd):FnOk P w K mg base CX0 1 f fd ["_law_names"] (sp_law_beside K a):=by
 refine F.ok sc_law_beside (fun vs H Q E h=>?_) (fun cdv A outer s H vs Q E hr h=>?_)
 ·obtain ⟨l,us,rfl,_⟩:=h
  rfl
 obtain ⟨l,us,rfl,hl,lz,q⟩:=h
 refine ⟨_,(pss_of (qss_cons (qs_of (ps_for PassesOwn.never rfl (pi_str pe_str) (pg_name (i:=1) sc_law_beside.nd rfl (Or.inl rfl)) (pss_of (qss_one (qs_if (pt_cmpR op_notIn_seq (pv 1) (pv 0) (by with_unfolding_all rfl)) (qss_one (qs_ret (qe_op op_cat (qe_of (pv 0)) (qe_lst (qa_c (pv 1) qa_nil))))) qss_nil))))) (qss_one (qs_ret (qe_op op_cat (qe_of (pv 0)) (qe_lst (qa_c pe_str qa_nil))))))),?_⟩
 have cat:∀ (G:Hp) (S:Same H G) (u:Str),goodN u→∀ (p:Addr),G p=none→∀ r,upd G p (.lst [.str u]) r=none→Q (.ref r) (upd (upd G p (.lst [.str u])) r (.lst (us.map V.str++[.str u]))):=fun G S u gu p hp r hr=>q r u _ (S.trans ((same_new hp _).trans (same_new hr _))) gu (by rw [upd_same]; simp)
 nofun
 refine ⟨by decide +kernel,?_⟩
 refine ForS.by (fun i σ H1=>(∃ v,σ=[some (.ref l),v])∧H1=H) ⟨⟨_,rfl⟩,rfl⟩ ?_ ?_
 ·rintro i c σ H1 hc ⟨⟨v,rfl⟩,rfl⟩
  have gc:goodN ⟨#[c]⟩:=abc_good c (by rw [← Array.getElem?_toList] at hc; exact List.mem_of_getElem? hc)
  nofun
  refine ⟨l,_,rfl,.inl (SqL.of hl),rfl,flat_strs us,?_⟩
  rw [inV_str]
  by_cases cm:(⟨#[c]⟩:Str)∈us
  ·exists decide_eq_true cm,Bool.not_true
   all_goals first | trivial | exact ⟨⟨_,rfl⟩,rfl⟩ | exact rfl
  ·exists decide_eq_false cm,Bool.not_false
   refine ⟨sz8 (by decide),fun p hp=>?_⟩
   refine ⟨l,p,_,_,rfl,rfl,same_new hp _ _ _ hl,upd_same,sz8 (by rw [List.length_map,List.length_singleton]; omega),fun r hr=>?_⟩
   exact cat _ (same_id _) _ gc p hp r hr
 ·rintro σ H1 ⟨⟨v,rfl⟩,rfl⟩
  nofun
  refine ⟨sz8 (by decide),fun p hp=>?_⟩
  refine ⟨l,p,_,_,rfl,rfl,same_new hp _ _ _ hl,upd_same,sz8 (by rw [List.length_map,List.length_singleton]; omega),fun r hr=>?_⟩
  exact cat _ (same_id _) _ (by decide +kernel) p hp r hr
theorem ok_law_all (B:Bt K mg a)(C_law_beside:CalX P w K mg base "_law_beside" ["_law_names"] 1 (sp_law_beside K a))(C_law_gathered:CalX P w K mg base "_law_gathered" ["_law_tree_here","_law_word"] 6 (sp_law_gathered K a 6))(F:Fun K "_law_all" "_law_all" s_law_all f fd):FnOk P w K mg base CX0 7 f fd ["_law_trees"] (sp_law_all K a):=by
 refine F.ok sc_law_all (fun vs H Q E h=>?_) (fun cdv A outer s H vs Q E hr h=>?_)
 ·obtain ⟨l,v1,v2,t1,t2,rfl,_⟩:=h
  rfl
 obtain ⟨l,v1,v2,t1,t2,rfl,hl,a1,a2,o1,o2,d1,d2,hc,q⟩:=h
 refine ⟨_,(pss_of (qss_cons (qs_set (i:=1) sc_law_all.nd rfl (Or.inl rfl) (qe_of (pe_tup (pa_of (qa_c pe_str (qa_c (pe_callTy call_tuple_of rfl B.tuple PyProof.Rows.boot_tuple (pa_of (qa_c (pv 0) qa_nil))) qa_nil))))) (by kernel_rfl)) (qss_cons (qs_set (i:=2) sc_law_all.nd rfl (Or.inl rfl) (qe_of (pe_calN C_law_beside (hr.mono (by decide)) rfl (pa_of (qa_c (pe_calN C_law_gathered (hr.mono (by decide)) rfl (pa_of (qa_c (pv 1) (qa_c pe_str qa_nil))) (he:=star_plain _ _ _ rfl) (hpl:=plain_any rfl)) qa_nil)) (he:=star_plain _ _ _ rfl) (hpl:=plain_any rfl))) (by kernel_rfl)) (qss_cons (qs_set (i:=3) sc_law_all.nd rfl (Or.inl rfl) (qe_of (pe_calN C_law_beside (hr.mono (by decide)) rfl (pa_of (qa_c (pe_calN C_law_gathered (hr.mono (by decide)) rfl (pa_of (qa_c (pv 1) (qa_c pe_str qa_nil))) (he:=star_plain _ _ _ rfl) (hpl:=plain_any rfl)) qa_nil)) (he:=star_plain _ _ _ rfl) (hpl:=plain_any rfl))) (by kernel_rfl)) (qss_cons (qs_set (i:=4) sc_law_all.nd rfl (Or.inl rfl) (qe_of (pe_callB (call_sortI rfl) rfl B.sorted PyProof.Rows.boot_sorted (pa_of (qa_c (pe_callTy (call_setI rfl) rfl B.set PyProof.Rows.boot_set (pa_of (qa_c (pe_op op_cat (pe_lst (pa_of (qa_c pe_int qa_nil))) (pe_calN C_law_gathered (hr.mono (by decide)) rfl (pa_of (qa_c (pv 1) (qa_c pe_str qa_nil))) (he:=star_plain _ _ _ rfl) (hpl:=plain_any rfl))) qa_nil))) qa_nil)) (he:=star_plain _ _ _ rfl) (hpl:=plain_any rfl))) (by kernel_rfl)) (qss_cons (qs_set (i:=5) sc_law_all.nd rfl (Or.inl rfl) (qe_lst qa_nil) (by kernel_rfl)) (qss_cons (qs_of (ps_for PassesOwn.never rfl (pi_list (pv 2)) (pg_name (i:=6) sc_law_all.nd rfl (Or.inr rfl)) (pss_of (qss_one (qs_of (ps_for PassesOwn.never rfl (pi_list (pv 3)) (pg_name (i:=7) sc_law_all.nd rfl (Or.inr rfl)) (pss_of (qss_one (qs_set (i:=5) sc_law_all.nd rfl (Or.inl rfl) (qe_op op_cat (qe_of (pv 5)) (qe_of (pe_compB ["_law_weight","_law_kind","_law_place"] [none,some 6,some 7] rfl (by kernel_rfl) (pi_list (pv 4)) (fun cl C s H fp=>⟨(pg_name (i:=0) (by decide:List.Nodup (["_law_weight","_law_kind","_law_place"]:List Str)) rfl (Or.inl (by kernel_rfl)) (Or.inr (by kernel_rfl))),pts_nil,(pe_tup (pa_of (qa_c (pv 1 (hv:=Or.inr (Or.inl (by kernel_rfl)))) (qa_c (pv 2 (hv:=Or.inr (Or.inl (by kernel_rfl)))) (qa_c (pv 0 (hv:=Or.inl (by kernel_rfl))) qa_nil)))))⟩)))) (by kernel_rfl)))))))))) (qss_one (qs_ret (qe_of (pv 5))))))))))),?_⟩
 nofun
 refine ⟨_,.inl ⟨SqL.of hl,fun q1 hq1=>⟨sz8 (by decide),fun q2 hq2=>?_⟩⟩⟩
 have S1:=same_new hq1 (.tup [v1,v2])
 have S2:=same_new hq2 (.tup [.str "both",.ref q1])
 have S0:=S1.trans S2
 have hW:(Tr.both (.cons t1 (.cons t2 .nil))).At (upd (upd H q1 (.tup [v1,v2])) q2 (.tup [.str "both",.ref q1])) (.ref q2):=by
  rw [Tr.At]
  exact ⟨q2,q1,[v1,v2],rfl,upd_same,S2 _ _ upd_same,trs_at.mpr (.cons (a1.same S0) (.cons (a2.same S0) .nil))⟩
 have okW:(Tr.both (.cons t1 (.cons t2 .nil))).ok:=by
  rw [Tr.ok]
  exact ⟨Nat.le_refl _,by show 2≤6; decide,by rw [Trs.ok,Trs.ok,Trs.ok]; exact ⟨o1,o2,trivial⟩⟩
 have dpW:(Tr.both (.cons t1 (.cons t2 .nil))).dp < 6:=by
  rw [Tr.dp,Trs.dp,Trs.dp,Trs.dp]
  omega
 have cnW:(Tr.both (.cons t1 (.cons t2 .nil))).cnt≤60:=by
  rw [Tr.cnt,Trs.cnt,Trs.cnt,Trs.cnt]
  omega
 generalize upd (upd H q1 (.tup [v1,v2])) q2 (.tup [.str "both",.ref q1])=G at *
 refine ⟨.ref q2,_,"kind",dpW,rfl,hW,okW,by omega,.inl rfl,fun lk xk Hk Sk fk ek nk gk=>?_⟩
 obtain ⟨uk,rfl,guk⟩:=strs_of fun x hx=>(gk x hx).elim (fun h=>absurd h.1 (by decide)) (fun h=>h.2)
 rw [List.length_map] at nk
 refine ⟨lk,uk,rfl,ek,by omega,fun rk u1 J1 T1 gu1 ek1=>?_⟩
 nofun
 refine ⟨.ref q2,_,"place",dpW,rfl,hW.same (Sk.trans T1),okW,by omega,.inr (.inl rfl),fun lp xp Hp Sp fp ep np gp=>?_⟩
 obtain ⟨up,rfl,gup⟩:=strs_of fun x hx=>(gp x hx).elim (fun h=>absurd h.1 (by decide)) (fun h=>h.2)
 rw [List.length_map] at np
 refine ⟨lp,up,rfl,ep,by omega,fun rp u2 J2 T2 gu2 ep2=>?_⟩
 have ek2:=(Sp.trans T2) _ _ ek1
 have SA:=S0.trans (Sk.trans (T1.trans (Sp.trans T2)))
 nofun
 refine ⟨sz8 (by decide),fun z0 hz0=>?_⟩
 have Sz:=same_new hz0 (.lst [.int 0])
 have ez:upd J2 z0 (.lst [.int 0]) z0=some (.lst [.int 0]):=upd_same
 have hW2:=hW.same (Sk.trans (T1.trans (Sp.trans (T2.trans Sz))))
 generalize upd J2 z0 (.lst [.int 0])=J3 at *
 refine ⟨.ref q2,_,"weight",dpW,rfl,hW2,okW,by omega,.inr (.inr rfl),fun lw xw Hw Sw fw ew nw gw=>?_⟩
 obtain ⟨wi,rfl,gwi⟩:=ints_in fun x hx=>(gw x hx).elim (fun h=>h.2) (fun h=>absurd rfl h.1)
 rw [List.length_map] at nw
 refine ⟨z0,lw,_,_,rfl,rfl,Sw _ _ ez,ew,sz8 (by rw [List.length_singleton,List.length_map]; omega),fun wp hwp=>?_⟩
 have Swp:=same_new hwp (.lst ([.int 0]++wi.map V.int))
 refine ⟨wp,rfl,0::wi,SqL.of upd_same,by rw [List.length_cons]; omega,fun n=>0≤n∧n < 1000000,fun n hn=>?_,fun sp J5 hsp Ssp esp=>?_⟩
 ·rcases List.mem_cons.mp hn with rfl | hn
  ·exact ⟨by decide,by decide⟩
  ·exact gwi n hn
 refine ⟨_,_,esp,by rw [List.length_cons]; omega,fun sl ns hsl hns lns=>?_⟩
 rw [List.length_cons] at lns
 have Ssl:=same_new hsl (.lst (ns.map V.int))
 refine ⟨Nat.zero_le _,fun fp hfp=>?_⟩
 have Sfp:=same_new hfp (.lst [])
 have SC:=Sz.trans (Sw.trans (Swp.trans (Ssp.trans (Ssl.trans Sfp))))
 have SB:=SA.trans SC
 have hrk:=SC _ _ ek2
 have hrp:=SC _ _ ep2
 have hsl2:=Sfp _ _ (show upd J5 sl (.lst (ns.map V.int)) sl=some (.lst (ns.map V.int)) from upd_same)
 have hfp2:upd (upd J5 sl (.lst (ns.map V.int))) fp (.lst []) fp=some (.lst []):=upd_same
 generalize upd (upd J5 sl (.lst (ns.map V.int))) fp (.lst [])=J6 at *
 refine ⟨⟨_,SqL.of hrk⟩,?_⟩
 refine ForL.by (xs:=(uk++[u1]).map V.str) (AlO J6 l q2 rk rp sl) ⟨⟨_,_,_,[],rfl,hfp2,Nat.zero_le _,fun x hx=>nomatch hx⟩,same_id _⟩ (fun i σ H1 _ h=>SqL.of (h.2 _ _ hrk)) ?_ ?_
 ·rintro i y σ H1 hy ⟨⟨fp,v6,v7,xs,rfl,hf1,lx,tx⟩,S1'⟩
  rw [List.getElem?_map] at hy
  obtain ⟨k,hk,rfl⟩:=Option.map_eq_some_iff.mp hy
  have gk:goodN k:=by
   rcases List.mem_append.mp (List.mem_of_getElem? hk) with h | h
   ·exact guk k h
   ·rw [List.mem_singleton.mp h]; exact gu1
  have li:i < 61:=by have:=(List.getElem?_eq_some_iff.mp hk).1; rw [List.length_append,List.length_singleton] at this; omega
  nofun
  refine ⟨⟨_,SqL.of (S1' _ _ hrp)⟩,?_⟩
  refine ForL.by (xs:=(up++[u2]).map V.str) (AlI J6 l q2 rk rp sl i k) ⟨⟨_,_,xs,rfl,hf1,by omega,tx⟩,S1'⟩ (fun j σ H1 _ h=>SqL.of (h.2 _ _ hrp)) ?_ ?_
  ·rintro j y σ H2 hy ⟨⟨fp,v7,xs,rfl,hf1,lx,tx⟩,S2'⟩
   rw [List.getElem?_map] at hy
   obtain ⟨p,hp,rfl⟩:=Option.map_eq_some_iff.mp hy
   have gp:goodN p:=by
    rcases List.mem_append.mp (List.mem_of_getElem? hp) with h | h
    ·exact gup p h
    ·rw [List.mem_singleton.mp h]; exact gu2
   have lj:j < 61:=by have:=(List.getElem?_eq_some_iff.mp hp).1; rw [List.length_append,List.length_singleton] at this; omega
   nofun
   refine ⟨⟨_,SqL.of (S2' _ _ hsl2)⟩,?_⟩
   refine CompL.by (xs:=ns.map V.int) (AlC H2 k p) (sz8 (by rw [List.length_map]; omega)) ⟨rfl,(fun x hx=>nomatch hx),⟨_,rfl⟩,same_id _⟩ (fun m acc σ H' _ h=>SqL.of ((S2'.trans h.2.2.2) _ _ hsl2)) ?_ (fun m acc σ H' h=>Nat.le_of_eq h.1) ?_
   ·rintro m y acc σ H' hy ⟨rfl,ta,⟨v,rfl⟩,S3'⟩
    rw [List.getElem?_map] at hy
    obtain ⟨n,hn,rfl⟩:=Option.map_eq_some_iff.mp hy
    have gn:=hns n (List.mem_of_getElem? hn)
    nofun
    refine ⟨sz8 (by decide),fun pt hpt=>?_⟩
    have St:=same_new hpt (.tup [.str k,.str p,.int n])
    refine ⟨by rw [List.length_append,List.length_singleton],(ta.same St).app fun x hx=>?_,⟨_,rfl⟩,S3'.trans St⟩
    rw [List.mem_singleton.mp hx]
    exact ⟨k,p,n,pt,rfl,upd_same,gk,gp,gn.1,gn.2⟩
   ·rintro acc σ H' ⟨la,ta,⟨v,rfl⟩,S3'⟩ D hD
    rw [List.length_map] at la
    have Sd:=same_new hD (.lst acc)
    refine ⟨fp,D,_,_,rfl,rfl,(S3'.trans Sd) _ _ hf1,upd_same,by rw [sizeLine_eq]; omega,fun r hr=>?_⟩
    have Sr:=same_new hr (.lst (xs++acc))
    nofun
    exact ⟨⟨r,_,xs++acc,rfl,upd_same,by rw [List.length_append]; omega,((tx.same (S3'.trans (Sd.trans Sr))).app (ta.same (Sd.trans Sr)))⟩,S2'.trans (S3'.trans (Sd.trans Sr))⟩
  ·rintro σ H2 ⟨⟨fp,v7,xs,rfl,hf1,lx,tx⟩,S2'⟩
   rw [List.length_map,List.length_append,List.length_singleton] at lx
   exact ⟨⟨fp,_,_,xs,rfl,hf1,by omega,tx⟩,S2'⟩
 ·rintro σ H1 ⟨⟨fp,v6,v7,xs,rfl,hf1,lx,tx⟩,S1'⟩
  rw [List.length_map,List.length_append,List.length_singleton] at lx
  nofun
  exact q fp xs H1 (SB.trans S1') hf1 (by omega) tx
theorem ok_law_right (B:Bt K mg a)(C_law_fits:CalX P w K mg base "_law_fits" ["_law_tree_here","_law_thing"] 5 (sp_law_fits K a 5))(C_is_name:CalX P w K mg base "is_name" ["thing"] 1 (sp_is_name K a))(F:Fun K "_law_right" "_law_right" s_law_right f fd):FnOk P w K mg base CX0 6 f fd ["_law_found","_law_one","_law_other","_law_some"] (sp_law_right K a):=by
 refine F.ok sc_law_right (fun vs H Q E h=>?_) (fun cdv A outer s H vs Q E hr h=>?_)
 ·obtain ⟨r,v1,v2,l,xs,t1,t2,rfl,_⟩:=h
  rfl
 obtain ⟨r,v1,v2,l,xs,t1,t2,rfl,a1,a2,o1,o2,d1,d2,hl,lz,hx,PR,q⟩:=h
 refine ⟨_,(pss_of (qss_cons (qs_if (pt_cmp (pc_isN (pv 0))) (qss_one (qs_ret (qe_of (pe_cmpR (op_eqD hr.units) (pe_compB ["_law_thing","_law_one","_law_other"] [none,some 1,some 2] rfl (by kernel_rfl) (pi_list (pv 3)) (fun cl C s H fp=>⟨(pg_name (i:=0) (by decide:List.Nodup (["_law_thing","_law_one","_law_other"]:List Str)) rfl (Or.inl (by kernel_rfl)) (Or.inr (by kernel_rfl))),(pts_one (L2.PW.pt (pw_and (pt_val (pe_calN C_law_fits (hr.mono (by decide)) (gl_of (by kernel_rfl)) (pa_of (qa_c (pv 1 (hv:=Or.inr (Or.inl (by kernel_rfl)))) (qa_c (pv 0 (hv:=Or.inl (by kernel_rfl))) qa_nil))) (he:=star_plain _ _ _ rfl) (hpl:=plain_any rfl))) (pw_and1 (pt_not (pt_val (pe_calN C_law_fits (hr.mono (by decide)) (gl_of (by kernel_rfl)) (pa_of (qa_c (pv 2 (hv:=Or.inr (Or.inl (by kernel_rfl)))) (qa_c (pv 0 (hv:=Or.inl (by kernel_rfl))) qa_nil))) (he:=star_plain _ _ _ rfl) (hpl:=plain_any rfl)))))))),(pv 0 (hv:=Or.inl (by kernel_rfl)))⟩)) (pe_lst (pa_of qa_nil)) (nomark _))))) qss_nil) (qss_cons (qs_if (L2.PW.pt (pw_or (pt_not (pt_val (pe_callB (isiV_at (K:=K) rfl) rfl B.isinstance PyProof.Rows.boot_isinstance (pa_of (qa_c (pv 0) (qa_c (pe_glob (v:=.ref _) rfl B.Happening rfl) qa_nil))) (he:=star_plain _ _ _ rfl) (hpl:=plain_any rfl)))) (pw_or (pt_not (pt_val (pe_calN C_is_name (hr.mono (by decide)) rfl (pa_of (qa_c (pe_fld (pv 0) rfl) qa_nil)) (he:=star_plain _ _ _ rfl) (hpl:=plain_any rfl)))) (pw_or1 (pt_not (pt_val (pe_calN C_is_name (hr.mono (by decide)) rfl (pa_of (qa_c (pe_fld (pv 0) rfl) qa_nil)) (he:=star_plain _ _ _ rfl) (hpl:=plain_any rfl)))))))) (qss_one (qs_ret (qe_of pe_bl))) qss_nil) (qss_cons (qs_set (i:=4) sc_law_right.nd rfl (Or.inl rfl) (qe_of (pe_tup (pa_of (qa_c (pe_fld (pv 0) rfl) (qa_c (pe_fld (pv 0) rfl) (qa_c (pe_fld (pv 0) rfl) qa_nil)))))) (by kernel_rfl)) (qss_cons (qs_if (L2.PW.pt (pw_or (pt_not (pt_val (pe_callB (isiG_at (K:=K) (T:="int") rfl) rfl B.isinstance PyProof.Rows.boot_isinstance (pa_of (qa_c (pe_fld (pv 0) rfl) (qa_c (pe_bltn (v:=.ty "int") rfl B.int PyProof.Rows.boot_int rfl) qa_nil))) (he:=star_plain _ _ _ rfl) (hpl:=plain_any rfl)))) (pw_or (pt_val (pe_callB (isiG_at (K:=K) (T:="bool") rfl) rfl B.isinstance PyProof.Rows.boot_isinstance (pa_of (qa_c (pe_fld (pv 0) rfl) (qa_c (pe_bltn (v:=.ty "bool") rfl B.bool PyProof.Rows.boot_bool rfl) qa_nil))) (he:=star_plain _ _ _ rfl) (hpl:=plain_any rfl))) (pw_or1 (pt_cmpR op_lt (pe_fld (pv 0) rfl) pe_int (nomark _)))))) (qss_one (qs_ret (qe_of pe_bl))) qss_nil) (qss_one (qs_ret (qe_of (pe_and (pe_calN C_law_fits (hr.mono (by decide)) rfl (pa_of (qa_c (pv 1) (qa_c (pv 4) qa_nil))) (he:=star_plain _ _ _ rfl) (hpl:=plain_any rfl)) (pe_one (pe_not (pe_calN C_law_fits (hr.mono (by decide)) rfl (pa_of (qa_c (pv 2) (qa_c (pv 4) qa_nil))) (he:=star_plain _ _ _ rfl) (hpl:=plain_any rfl))))))))))))),?_⟩
 nofun
 rcases PR with ⟨rfl,hn⟩ | ⟨hp,dh,k,p,w,rfl,hh,gk,gp,w0,w1,e1,e2⟩
 ·rw [if_pos rfl]
  refine ⟨⟨_,SqL.of hl⟩,?_⟩
  refine CompL.by (xs:=xs) (fun i acc σ H1=>acc=[]∧(∃ v,σ=[v,some v1,some v2])∧Same H H1) (by rw [sizeLine_eq]; omega) ⟨rfl,⟨_,rfl⟩,same_id _⟩ (fun i acc σ H1 _ h=>SqL.of (h.2.2 _ _ hl)) ?_ ?_ ?_
  ·rintro i x acc σ H1 hxi ⟨rfl,⟨v,rfl⟩,S1⟩
   obtain ⟨k,p,w,hx1⟩:=hx x (List.mem_of_getElem? hxi)
   obtain ⟨_,_,_,_,_,w0,_⟩:=id hx1
   nofun
   refine ⟨v1,x,t1,k,p,w,d1,by omega,rfl,a1.same S1,o1,hx1.same S1,fun H2 S2=>?_⟩
   nofun
   cases c1:t1.ev k p w with
   | false =>
    nofun
    first | exact S1.trans S2 | exact ⟨rfl,⟨_,rfl⟩,S1.trans S2⟩ | exact ⟨⟨_,rfl⟩,S1.trans S2⟩
   | true =>
    nofun
    refine ⟨v2,x,t2,k,p,w,d2,by omega,rfl,a2.same (S1.trans S2),o2,hx1.same (S1.trans S2),fun H3 S3=>?_⟩
    rw [hn k p w w0 c1]
    nofun
    first | exact S1.trans (S2.trans S3) | exact ⟨rfl,⟨_,rfl⟩,S1.trans (S2.trans S3)⟩ | exact ⟨⟨_,rfl⟩,S1.trans (S2.trans S3)⟩
  ·rintro i acc σ H1 ⟨rfl,_,_⟩
   exact Nat.zero_le _
  ·rintro acc σ H1 ⟨rfl,⟨v,rfl⟩,S1⟩ D hD
   have Sd:=same_new hD (.lst [])
   refine ⟨Nat.zero_le _,fun p hp=>?_⟩
   have Sp:=same_new hp (.lst [])
   refine eqd_nil (Sp _ _ upd_same) upd_same (n:=0) (by decide) (fun x hx=>nomatch hx) ?_
   exact q _ (S1.trans (Sd.trans Sp))
 ·rw [if_neg (by intro z; cases z)]
  have nb:∀ {u:Str},goodN u→nameB (.str u)=true:=fun {u} g=>decide_eq_true g
  have okn:∀ {G:Hp}{u:Str},goodN u→okN G (.str u):=fun {G u} g=>⟨(good_sm g).1,by have:=(good_sm g).2; omega⟩
  refine ⟨_,_,_,true,rfl,B.ck_Happening.ty hh,B.is_Happening_Happening,?_⟩
  nofun
  refine ⟨_,_,_,hh,B.ck_Happening.cl,B.na_Happening_kind,.str k,rfl,?_⟩
  refine ⟨_,rfl,okn gk,fun H1 S1=>?_⟩
  exists nb gk
  refine ⟨_,_,_,S1 _ _ hh,B.ck_Happening.cl,B.na_Happening_place,.str p,rfl,?_⟩
  refine ⟨_,rfl,okn gp,fun H2 S2=>?_⟩
  have hh2:=(S1.trans S2) _ _ hh
  exists nb gp
  refine ⟨_,_,_,hh2,B.ck_Happening.cl,B.na_Happening_kind,.str k,rfl,_,_,_,hh2,B.ck_Happening.cl,B.na_Happening_place,.str p,rfl,_,_,_,hh2,B.ck_Happening.cl,B.na_Happening_weight,.int w,rfl,sz8 (by decide),fun tp htp=>?_⟩
  have St:=same_new htp (.tup [.str k,.str p,.int w])
  have hth:ThAt (upd H2 tp (.tup [.str k,.str p,.int w])) (.ref tp) k p w:=⟨tp,rfl,upd_same,gk,gp,w0,w1⟩
  have hh3:=St _ _ hh2
  have S3:=S1.trans (S2.trans St)
  generalize upd H2 tp (.tup [.str k,.str p,.int w])=H3 at *
  refine ⟨_,_,_,hh3,B.ck_Happening.cl,B.na_Happening_weight,.int w,rfl,?_⟩
  nofun
  refine ⟨_,_,true,rfl,.int _,by kernel_rfl,?_⟩
  nofun
  refine ⟨_,_,_,hh3,B.ck_Happening.cl,B.na_Happening_weight,.int w,rfl,?_⟩
  refine ⟨_,_,false,rfl,.int _,by kernel_rfl,?_⟩
  nofun
  refine ⟨_,_,_,hh3,B.ck_Happening.cl,B.na_Happening_weight,.int w,rfl,_,rfl,?_⟩
  rw [if_neg (by omega)]
  refine ⟨v1,.ref tp,t1,k,p,w,d1,by omega,rfl,a1.same S3,o1,hth,fun H4 S4=>?_⟩
  exists e1
  refine ⟨v2,.ref tp,t2,k,p,w,d2,by omega,rfl,a2.same (S3.trans S4),o2,hth.same S4,fun H5 S5=>?_⟩
  exists e2,Bool.not_false
  exact q _ (S3.trans (S4.trans S5))
def LwM (H:Hp)(sc:Addr)(v1:V)(t1:Tr)(st:Addr)(way:Int)(σ:L2.St)(H':Hp):Prop:=(∃ (v2:V) (t2:Tr),σ=[some (.ref sc),some v1,some (.ref st),some (.int way),some v2,none,none,none,none,none,none,none,none]∧t2.At H' v2∧t2.ok∧t2.dp < 5∧t2.cnt≤30)∧Same H H'∧t1.At H' v1∧Well3 H' st∧H st=none
theorem ok_law (B:Bt K mg a)(C_law_tree:CalX P w K mg base "_law_tree" ["_law_state","_law_deep","_law_more"] 6 (sp_law_tree K a 3))(C_law_begin:CalX P w K mg base "_law_begin" ["_law_cell"] 1 (sp_law_begin K a))(C_law_all:CalX P w K mg base "_law_all" ["_law_trees"] 7 (sp_law_all K a))(C_law_made:CalX P w K mg base "_law_made" ["_law_tree_here"] 10 (sp_law_made K a 5))(C_parting:CalX P w K mg base "parting" ["one","other"] 8 (sp_parting K a))(C_law_cell_at:CalX P w K mg base "_law_cell_at" ["_law_script","_law_k"] 1 (sp_law_cell_at K a))(C_law_right:CalX P w K mg base "_law_right" ["_law_found","_law_one","_law_other","_law_some"] 6 (sp_law_right K a))(C_law_next:CalX P w K mg base "_law_next" ["_law_state","_law_base"] 1 (sp_law_next K a))(C_law_leaf:CalX P w K mg base "_law_leaf" ["_law_state","_law_more"] 3 (sp_law_leaf K a))(F:Fun K "law" "law" s_law f fd):FnOk P w K mg base CX0 11 f fd ["_law_script"] (sp_law K a):=by
 refine F.ok sc_law (fun vs H Q E h=>?_) (fun cdv A outer s H vs Q E hr h=>?_)
 ·obtain ⟨sc,ns,rfl,_⟩:=h
  rfl
 obtain ⟨sc,ns,rfl,hS,h63,q⟩:=h
 refine ⟨_,(pss_of (qss_hold (qss_cons (qs_set (i:=1) sc_law.nd rfl (Or.inl rfl) (qe_of (pe_calN C_law_tree (hr.mono (by decide)) rfl (pa_of (qa_c (pe_calN C_law_begin (hr.mono (by decide)) rfl (pa_of (qa_c (pe_calN C_law_cell_at (hr.mono (by decide)) rfl (pa_of (qa_c (pv 0) (qa_c pe_int qa_nil))) (he:=star_plain _ _ _ rfl) (hpl:=plain_any rfl)) qa_nil)) (he:=star_plain _ _ _ rfl) (hpl:=plain_any rfl)) (qa_c pe_int (qa_c pe_int qa_nil)))) (he:=star_plain _ _ _ rfl) (hpl:=plain_any rfl))) (by kernel_rfl)) (qss_hold (qss_cons (qs_set (i:=2) sc_law.nd rfl (Or.inl rfl) (qe_of (pe_calN C_law_begin (hr.mono (by decide)) rfl (pa_of (qa_c (pe_calN C_law_cell_at (hr.mono (by decide)) rfl (pa_of (qa_c (pv 0) (qa_c pe_int qa_nil))) (he:=star_plain _ _ _ rfl) (hpl:=plain_any rfl)) qa_nil)) (he:=star_plain _ _ _ rfl) (hpl:=plain_any rfl))) (by kernel_rfl)) (qss_hold (qss_cons (qs_set (i:=3) sc_law.nd rfl (Or.inl rfl) (qe_of (pe_op op_mod (pe_calN C_law_cell_at (hr.mono (by decide)) rfl (pa_of (qa_c (pv 0) (qa_c pe_int qa_nil))) (he:=star_plain _ _ _ rfl) (hpl:=plain_any rfl)) pe_int)) (by kernel_rfl)) (qss_hold (qss_cons (qs_set (i:=4) sc_law.nd rfl (Or.inl rfl) (qe_of (pe_calN C_law_tree (hr.mono (by decide)) rfl (pa_of (qa_c (pv 2) (qa_c pe_int (qa_c pe_int qa_nil)))) (he:=star_plain _ _ _ rfl) (hpl:=plain_any rfl))) (by kernel_rfl)) (qss_hold (qss_cut (qs_if (pt_cmpR op_eq (pv 3) pe_int (nomark _)) (qss_one (qs_set (i:=4) sc_law.nd rfl (Or.inl rfl) (qe_of (pv 1)) (by kernel_rfl))) qss_nil) (qss_hold (qss_cut (qs_if (pt_cmpR op_eq (pv 3) pe_int (nomark _)) (qss_one (qs_set (i:=4) sc_law.nd rfl (Or.inl rfl) (qe_of (pe_tup (pa_of (qa_c pe_str (qa_c (pe_tup (pa_of (qa_c pe_str (qa_c (pv 1) qa_nil)))) qa_nil))))) (by kernel_rfl))) qss_nil) (qss_hold (qss_cut (qs_if (pt_cmpR op_eq (pv 3) pe_int (nomark _)) (qss_one (qs_set (i:=4) sc_law.nd rfl (Or.inl rfl) (qe_of (pe_tup (pa_of (qa_c (pe_ix ix_list (pe_lst (pa_of (qa_c pe_str (qa_c pe_str qa_nil)))) (pe_calN C_law_next (hr.mono (by decide)) rfl (pa_of (qa_c (pv 2) (qa_c pe_int qa_nil))) (he:=star_plain _ _ _ rfl) (hpl:=plain_any rfl)) (fun _ _=>rfl)) (qa_c (pe_tup (pa_of (qa_c (pv 1) (qa_c (pe_calN C_law_leaf (hr.mono (by decide)) rfl (pa_of (qa_c (pv 2) (qa_c pe_int qa_nil))) (he:=star_plain _ _ _ rfl) (hpl:=plain_any rfl)) qa_nil)))) qa_nil))))) (by kernel_rfl))) qss_nil) (qss_hold (qss_cons (qs_set (i:=5) sc_law.nd rfl (Or.inl rfl) (qe_of (pe_calN C_law_all (hr.mono (by decide)) rfl (pa_of (qa_c (pe_lst (pa_of (qa_c (pv 1) (qa_c (pv 4) qa_nil)))) qa_nil)) (he:=star_plain _ _ _ rfl) (hpl:=plain_any rfl))) (by kernel_rfl)) (qss_hold (qss_cons (qs_set (i:=6) sc_law.nd rfl (Or.inl rfl) (qe_of (pe_calN C_law_made (hr.mono (by decide)) rfl (pa_of (qa_c (pv 1) qa_nil)) (he:=star_plain _ _ _ rfl) (hpl:=plain_any rfl))) (by kernel_rfl)) (qss_hold (qss_cons (qs_set (i:=7) sc_law.nd rfl (Or.inl rfl) (qe_of (pe_calN C_law_made (hr.mono (by decide)) rfl (pa_of (qa_c (pv 4) qa_nil)) (he:=star_plain _ _ _ rfl) (hpl:=plain_any rfl))) (by kernel_rfl)) (qss_hold (qss_cons (qs_of (ps_for PassesOwn.never rfl (pi_range1 rfl B.range (pa_of (qa_c pe_int qa_nil))) (pg_name (i:=8) sc_law.nd rfl (Or.inl rfl)) (pss_of (qss_cons (qs_if (pt_not (pt_val (pe_calN C_law_right (hr.mono (by decide)) rfl (pa_of (qa_c (pe_calN C_parting (hr.mono (by decide)) rfl (pa_of (qa_c (pv 6) (qa_c (pv 7) qa_nil))) (he:=star_plain _ _ _ rfl) (hpl:=plain_any rfl)) (qa_c (pv 1) (qa_c (pv 4) (qa_c (pv 5) qa_nil))))) (he:=star_plain _ _ _ rfl) (hpl:=plain_any rfl)))) (qss_one (qs_ret (qe_of pe_bl))) qss_nil) (qss_one (qs_if (pt_not (pt_val (pe_calN C_law_right (hr.mono (by decide)) rfl (pa_of (qa_c (pe_calN C_parting (hr.mono (by decide)) rfl (pa_of (qa_c (pv 7) (qa_c (pv 6) qa_nil))) (he:=star_plain _ _ _ rfl) (hpl:=plain_any rfl)) (qa_c (pv 4) (qa_c (pv 1) (qa_c (pv 5) qa_nil))))) (he:=star_plain _ _ _ rfl) (hpl:=plain_any rfl)))) (qss_one (qs_ret (qe_of pe_bl))) qss_nil)))))) (qss_hold (qss_cons (qs_set (i:=9) sc_law.nd rfl (Or.inl rfl) (qe_of (pe_calN C_parting (hr.mono (by decide)) rfl (pa_of (qa_c (pv 6) (qa_c (pv 7) qa_nil))) (he:=star_plain _ _ _ rfl) (hpl:=plain_any rfl))) (by kernel_rfl)) (qss_hold (qss_cons (qs_if (pt_cmp (pc_notN (pv 9))) (qss_one (qs_of (ps_for PassesOwn.never rfl (pi_list (pe_lst (pa_of (qa_c (pe_tup (pa_of (qa_c pe_str (qa_c (pe_fld (pv 9) rfl) qa_nil)))) (qa_c (pe_tup (pa_of (qa_c pe_str (qa_c (pe_fld (pv 9) rfl) qa_nil)))) qa_nil))))) (pg_tup (n:=2) rfl (pgs_cons (pg_name (i:=10) sc_law.nd rfl (Or.inl rfl)) (pgs_cons (pg_name (i:=11) sc_law.nd rfl (Or.inl rfl)) pgs_nil))) (pss_of (qss_cons (qs_set (i:=12) sc_law.nd rfl (Or.inl rfl) (qe_of (pe_tup (pa_of (qa_c pe_str (qa_c (pe_tup (pa_of (qa_c (pv 1) (qa_c (pe_tup (pa_of (qa_c pe_str (qa_c (pe_tup (pa_of (qa_c (pv 10) (qa_c (pe_tup (pa_of (qa_c (pv 11) qa_nil))) qa_nil)))) qa_nil)))) qa_nil)))) qa_nil))))) (by kernel_rfl)) (qss_one (qs_if (pt_not (pt_val (pe_calN C_law_right (hr.mono (by decide)) rfl (pa_of (qa_c (pe_calN C_parting (hr.mono (by decide)) rfl (pa_of (qa_c (pe_calN C_law_made (hr.mono (by decide)) rfl (pa_of (qa_c (pv 12) qa_nil)) (he:=star_plain _ _ _ rfl) (hpl:=plain_any rfl)) (qa_c (pv 7) qa_nil))) (he:=star_plain _ _ _ rfl) (hpl:=plain_any rfl)) (qa_c (pv 12) (qa_c (pv 4) (qa_c (pe_calN C_law_all (hr.mono (by decide)) rfl (pa_of (qa_c (pe_lst (pa_of (qa_c (pv 12) (qa_c (pv 4) qa_nil)))) qa_nil)) (he:=star_plain _ _ _ rfl) (hpl:=plain_any rfl)) qa_nil))))) (he:=star_plain _ _ _ rfl) (hpl:=plain_any rfl)))) (qss_one (qs_ret (qe_of pe_bl))) qss_nil))))))) qss_nil) (qss_hold (qss_one (qs_ret (qe_of (pe_and (pe_cmp (pc_isN (pe_calN C_parting (hr.mono (by decide)) rfl (pa_of (qa_c (pv 6) (qa_c (pv 6) qa_nil))) (he:=star_plain _ _ _ rfl) (hpl:=plain_any rfl)))) (pe_one (pe_cmp (pc_isN (pe_calN C_parting (hr.mono (by decide)) rfl (pa_of (qa_c (pv 7) (qa_c (pv 7) qa_nil))) (he:=star_plain _ _ _ rfl) (hpl:=plain_any rfl))))))))))))))))))))))))))))))))))))),?_⟩
 walk_at "ho"
 nofun
 refine ⟨sc,ns,0,rfl,hS,by decide,fun c0=>?_⟩
 nofun
 refine ⟨c0,rfl,fun pw wa wb wc hpw=>?_⟩
 refine ⟨pw,2,2,by decide,rfl,⟨_,_,_,upd_same⟩,by decide,by decide,by decide,fun v1 t1 H1 a1 o1 d1 n1 W1 B1=>?_⟩
 have S1:Same H H1:=same_but (same_new hpw _) hpw B1
 clear W1 B1
 walk_at "ho"
 nofun
 refine ⟨sc,ns,1,rfl,S1.seq hS,by decide,fun c1=>?_⟩
 nofun
 refine ⟨c1,rfl,fun st sa sb sc' hst=>?_⟩
 have gst:H st=none:=S1.free hst
 have S2:=S1.trans (same_new hst (.lst [.int sa,.int sb,.int sc']))
 have W2:Well3 (upd H1 st (.lst [.int sa,.int sb,.int sc'])) st:=⟨_,_,_,upd_same⟩
 have a12:=a1.same (same_new hst (.lst [.int sa,.int sb,.int sc']))
 generalize upd H1 st (.lst [.int sa,.int sb,.int sc'])=H2 at *
 clear a1
 walk_at "ho"
 nofun
 refine ⟨sc,ns,2,rfl,S2.seq hS,by decide,fun c2=>?_⟩
 nofun
 refine ⟨by decide,?_⟩
 generalize c2 % 6=way
 walk_at "ho"
 nofun
 refine ⟨st,2,2,by decide,rfl,W2,by decide,by decide,by decide,fun v2 t2 H3 a2 o2 d2 n2 W3 B3=>?_⟩
 have S3:Same H H3:=same_but S2 gst B3
 have a13:t1.At H3 v1:=a12.but3 W2 B3
 have n1':t1.cnt≤27:=n1
 have n2':t2.cnt≤27:=n2
 have M0:LwM H sc v1 t1 st way [some (.ref sc),some v1,some (.ref st),some (.int way),some v2,none,none,none,none,none,none,none,none] H3:=⟨⟨v2,t2,rfl,a2,o2,by omega,by omega⟩,S3,a13,W3,gst⟩
 clear a2 o2 d2 n2 n2' W3 B3 S3 a13 W2 a12
 walk_at "ho"
 nofun
 refine ⟨LwM H sc v1 t1 st way,?_,?_⟩
 ·by_cases c:way=3
  ·rw [if_pos c]
   obtain ⟨_,x2,x3,x4,x5⟩:=M0
   exact ⟨⟨v1,t1,rfl,x3,o1,by omega,by omega⟩,x2,x3,x4,x5⟩
  ·rw [if_neg c]
   exact M0
 clear M0
 rintro σ H4 ⟨⟨v2,t2,rfl,a2,o2,d2,n2⟩,S4,a14,W4,_⟩
 walk_at "ho"
 nofun
 refine ⟨LwM H sc v1 t1 st way,?_,?_⟩
 ·by_cases c:way=4
  ·rw [if_pos c]
   refine ⟨sz8 (by decide),fun q1 hq1=>⟨sz8 (by decide),fun q2 hq2=>?_⟩⟩
   have T1:=same_new hq1 (.tup [.str "not",v1])
   have T2:=same_new hq2 (.tup [.str "not",.ref q1])
   refine ⟨⟨.ref q2,.not (.not t1),rfl,?_,by rw [Tr.ok,Tr.ok]; exact o1,by rw [Tr.dp,Tr.dp]; omega,by rw [Tr.cnt,Tr.cnt]; omega⟩,S4.trans (T1.trans T2),a14.same (T1.trans T2),W4.same (T1.trans T2),gst⟩
   rw [Tr.At]
   refine ⟨q2,.ref q1,rfl,upd_same,?_⟩
   rw [Tr.At]
   exact ⟨q1,v1,rfl,T2 _ _ upd_same,a14.same (T1.trans T2)⟩
  ·rw [if_neg c]
   exact ⟨⟨v2,t2,rfl,a2,o2,d2,n2⟩,S4,a14,W4,gst⟩
 clear a2 o2 d2 n2 S4 a14 W4
 rintro σ H4 ⟨⟨v2,t2,rfl,a2,o2,d2,n2⟩,S4,a14,W4,_⟩
 walk_at "ho"
 nofun
 refine ⟨LwM H sc v1 t1 st way,?_,?_⟩
 ·by_cases c:way=5
  ·rw [if_pos c]
   refine ⟨sz8 (by decide),fun q1 hq1=>?_⟩
   have T1:=same_new hq1 (.lst [.str "both",.str "either"])
   have nq:=W4.ne hq1
   have e1:upd H4 q1 (.lst [.str "both",.str "either"]) q1=some (.lst [.str "both",.str "either"]):=upd_same
   have W5:=W4.same T1
   have a15:=a14.same T1
   have S5:=S4.trans T1
   generalize upd H4 q1 (.lst [.str "both",.str "either"])=H5 at *
   refine drw3 W5 (by decide) (by decide) fun r H6 r0 r1 W6 B6=>?_
   have e6:=B6 q1 _ nq e1
   have a16:=a15.but3 W5 B6
   have S6:Same H H6:=same_but S5 gst B6
   have fin:∀ (wd:Str) (mk2:Trs→Tr),(∀ ts (G:Hp) v,(mk2 ts).At G v ↔ ∃ p l xs,v=.ref p∧G p=some (.tup [.str wd,.ref l])∧G l=some (.tup xs)∧Trs.At G ts xs)→(∀ ts,(mk2 ts).ok ↔ (2≤ts.toL.length∧ts.toL.length≤6∧ts.ok))→(∀ ts,(mk2 ts).dp=ts.dp+1)→(∀ ts,(mk2 ts).cnt=ts.cnt) →
     sp_law_leaf K a [.ref st,.int 2] H6 (fun x G=>2≤sizeLine∧∀ p,G p=none→2≤sizeLine∧∀ p1,upd G p (.tup [v1,x]) p1=none→LwM H sc v1 t1 st way [some (.ref sc),some v1,some (.ref st),some (.int way),some (.ref p1),none,none,none,none,none,none,none,none] (upd (upd G p (.tup [v1,x])) p1 (.tup [.str wd,.ref p]))) E0:=by
    intro wd mk2 hAt hOk hDp hCn
    refine ⟨st,2,rfl,W6,by decide,by decide,fun x tl G ax ox dx nx W7 B7=>⟨sz8 (by decide),fun q2 hq2=>⟨sz8 (by decide),fun q3 hq3=>?_⟩⟩⟩
    have a17:=a16.but3 W6 B7
    have T2:=same_new hq2 (.tup [v1,x])
    have T3:=same_new hq3 (.tup [.str wd,.ref q2])
    refine ⟨⟨.ref q3,mk2 (.cons t1 (.cons tl .nil)),rfl,?_,?_,?_,?_⟩,(same_but S6 gst B7).trans (T2.trans T3),a17.same (T2.trans T3),W7.same (T2.trans T3),gst⟩
    ·rw [hAt]
     exact ⟨q3,q2,[v1,x],rfl,upd_same,T3 _ _ upd_same,trs_at.mpr (.cons (a17.same (T2.trans T3)) (.cons (ax.same (T2.trans T3)) .nil))⟩
    ·rw [hOk]
     exact ⟨Nat.le_refl _,by show 2≤6; decide,by rw [Trs.ok,Trs.ok,Trs.ok]; exact ⟨o1,ox,trivial⟩⟩
    ·rw [hDp,Trs.dp,Trs.dp,Trs.dp]; omega
    ·rw [hCn,Trs.cnt,Trs.cnt,Trs.cnt]; omega
   rcases (by omega:r=0∨r=1) with rfl | rfl
   ·refine ixl (SqL.of e6) (v:=.str "both") rfl ?_
    exact fin "both" .both (fun ts G v=>by rw [Tr.At]) (fun ts=>by rw [Tr.ok]) (fun ts=>by rw [Tr.dp]) (fun ts=>by rw [Tr.cnt])
   ·refine ixl (SqL.of e6) (v:=.str "either") rfl ?_
    exact fin "either" .either (fun ts G v=>by rw [Tr.At]) (fun ts=>by rw [Tr.ok]) (fun ts=>by rw [Tr.dp]) (fun ts=>by rw [Tr.cnt])
  ·rw [if_neg c]
   exact ⟨⟨v2,t2,rfl,a2,o2,d2,n2⟩,S4,a14,W4,gst⟩
 clear a2 o2 d2 n2 S4 a14 W4
 rintro σ H4 ⟨⟨v2,t2,rfl,a2,o2,d2,n2⟩,S4,a14,W4,_⟩
 walk_at "ho"
 nofun
 refine ⟨sz8 (by decide),fun ll hll=>?_⟩
 have T5:=same_new hll (.lst [v1,v2])
 refine ⟨ll,v1,v2,t1,t2,rfl,upd_same,a14.same T5,a2.same T5,o1,o2,by omega,d2,by omega,fun ls xs H5 S5 es lx tx=>?_⟩
 have a15:=a14.same (T5.trans S5)
 have a25:=a2.same (T5.trans S5)
 walk_at "ho"
 nofun
 refine ⟨v1,t1,by omega,rfl,a15,o1,fun f1 H6 S6 hf1=>?_⟩
 walk_at "ho"
 nofun
 refine ⟨v2,t2,d2,rfl,a25.same S6,o2,fun f2 H7 S7 hf2=>?_⟩
 have b1:=a15.same (S6.trans S7)
 have b2:=a25.same (S6.trans S7)
 have c1:=hf1.same S7
 have es7:=(S6.trans S7) _ _ es
 have tx7:=ThS.same tx (S6.trans S7)
 clear a15 a25 hf1 es tx S6 S7 S5 T5 a14 a2 W4
 walk_at "ho"
 nofun
 refine ⟨by decide,by decide,?_⟩
 refine ForR.by (fun _ σ H'=>(∃ v8,σ=[some (.ref sc),some v1,some (.ref st),some (.int way),some v2,some (.ref ls),some f1,some f2,v8,none,none,none,none])∧Same H7 H') ⟨⟨_,rfl⟩,same_id _⟩ ?_ ?_
 ·rintro i σ H8 hi ⟨⟨v8,rfl⟩,S8⟩
  nofun
  refine ⟨f1,f2,t1,t2,rfl,c1.same S8,hf2.same S8,o1,o2,by omega,d2,by omega,fun r H9 S9 P9=>?_⟩
  have SA:=S8.trans S9
  nofun
  refine ⟨r,v1,v2,ls,xs,t1,t2,rfl,b1.same SA,b2.same SA,o1,o2,by omega,d2,SA _ _ es7,lx,tx7.same SA,P9,fun HA T9=>?_⟩
  have SB:=SA.trans T9
  exists Bool.not_true
  refine ⟨f2,f1,t2,t1,rfl,hf2.same SB,c1.same SB,o2,o1,d2,by omega,by omega,fun r2 HB SB2 PB=>?_⟩
  have SC:=SB.trans SB2
  nofun
  refine ⟨r2,v2,v1,ls,xs,t2,t1,rfl,b2.same SC,b1.same SC,o2,o1,d2,by omega,SC _ _ es7,lx,tx7.same SC,PB,fun HC TC=>?_⟩
  exists Bool.not_true
  first | exact SC.trans TC | exact ⟨⟨_,rfl⟩,SC.trans TC⟩
 rintro σ H8 ⟨⟨v8,rfl⟩,S8⟩
 have b1:=b1.same S8
 have b2:=b2.same S8
 have c1:=c1.same S8
 have c2:=hf2.same S8
 clear hf2 es7 tx7 S8
 walk_at "ho"
 nofun
 refine ⟨f1,f2,t1,t2,rfl,c1,c2,o1,o2,by omega,d2,by omega,fun r H9 S9 P9=>?_⟩
 have b1:=b1.same S9
 have b2:=b2.same S9
 have c1:=c1.same S9
 have c2:=c2.same S9
 have none_of:∀ {G:Hp}{t:Tr}{r:V},PartR a G t t r→r=.non:=fun {G t r} h=>by
  rcases h with h | ⟨_,_,_,_,_,_,_,_,_,_,_,h1,h2⟩
  ·exact h.1
  ·rw [h1] at h2; cases h2
 walk_at "ho"
 nofun
 rcases P9 with ⟨rfl,_⟩ | ⟨hp,dh,k,p,w,rfl,hh,gk,gp,_⟩
 ·rw [if_neg (by intro z; exact z rfl)]
  first | refine hold_ret ?_ | (dsimp only; refine hold_ret ?_)
  nofun
  refine ⟨f1,f1,t1,t1,rfl,c1,c1,o1,o1,by omega,by omega,by omega,fun r1 G1 U1 P1=>?_⟩
  obtain rfl:=none_of P1
  nofun
  refine ⟨f2,f2,t2,t2,rfl,(c2).same U1,(c2).same U1,o2,o2,d2,d2,by omega,fun r2 G2 U2 P2=>?_⟩
  obtain rfl:=none_of P2
  nofun
  exact q _
 ·rw [if_pos (by intro z; cases z)]
  refine ⟨hp,rfl,_,_,_,hh,B.ck_Happening.cl,B.na_Happening_kind,.str k,rfl,sz8 (by decide),fun y1 hy1=>?_⟩
  have T1:=same_new hy1 (.tup [.str "kind",.str k])
  refine ⟨hp,rfl,_,_,_,T1 _ _ hh,B.ck_Happening.cl,B.na_Happening_place,.str p,rfl,sz8 (by decide),fun y2 hy2=>⟨sz8 (by decide),fun y3 hy3=>?_⟩⟩
  have T2:=same_new hy2 (.tup [.str "place",.str p])
  have T3:=same_new hy3 (.lst [.ref y1,.ref y2])
  have e1:=(T2.trans T3) _ _ (show upd H9 y1 (.tup [.str "kind",.str k]) y1=some (.tup [.str "kind",.str k]) from upd_same)
  have e2:=T3 _ _ (show upd (upd H9 y1 (.tup [.str "kind",.str k])) y2 (.tup [.str "place",.str p]) y2=some (.tup [.str "place",.str p]) from upd_same)
  have e3:upd (upd (upd H9 y1 (.tup [.str "kind",.str k])) y2 (.tup [.str "place",.str p])) y3 (.lst [.ref y1,.ref y2]) y3=some (.lst [.ref y1,.ref y2]):=upd_same
  have SG:=T1.trans (T2.trans T3)
  have b1:=b1.same SG
  have b2:=b2.same SG
  have c1:=c1.same SG
  have c2:=c2.same SG
  generalize upd (upd (upd H9 y1 (.tup [.str "kind",.str k])) y2 (.tup [.str "place",.str p])) y3 (.lst [.ref y1,.ref y2])=GA at *
  clear T1 T2 T3 hh SG
  refine ⟨⟨_,SqL.of e3⟩,?_⟩
  refine ForL.by (xs:=[.ref y1,.ref y2]) (fun _ σ G=>(∃ v8 v10 v11 v12,σ=[some (.ref sc),some v1,some (.ref st),some (.int way),some v2,some (.ref ls),some f1,some f2,v8,some (.ref hp),v10,v11,v12])∧Same GA G) ⟨⟨_,_,_,_,rfl⟩,same_id _⟩ (fun i σ G _ h=>SqL.of (h.2 _ _ e3)) ?_ ?_
  ·rintro i y σ G hy ⟨⟨v8,v10,v11,v12,rfl⟩,SG⟩
   obtain ⟨yp,wd,nm,rfl,ey,gn,hwd⟩:∃ (yp:Addr) (wd nm:Str),y=.ref yp∧GA yp=some (.tup [.str wd,.str nm])∧goodN nm∧(wd="kind"∨wd="place"):=by
    have m:=List.mem_of_getElem? hy
    simp only [List.mem_cons,List.not_mem_nil,or_false] at m
    rcases m with rfl | rfl
    ·exact ⟨y1,_,k,rfl,e1,gk,.inl rfl⟩
    ·exact ⟨y2,_,p,rfl,e2,gp,.inr rfl⟩
   have ey:=SG _ _ ey
   nofun
   refine ⟨_,SqT.of ey,rfl,_,_,rfl,_,_,rfl,rfl,?_⟩
   refine ⟨sz8 (by decide),fun z1 hz1=>⟨sz8 (by decide),fun z2 hz2=>⟨sz8 (by decide),fun z3 hz3=>⟨sz8 (by decide),fun z4 hz4=>⟨sz8 (by decide),fun z5 hz5=>?_⟩⟩⟩⟩⟩
   have U1:=same_new hz1 (.tup [.str nm])
   have U2:=same_new hz2 (.tup [.str wd,.ref z1])
   have U3:=same_new hz3 (.tup [.str "not",.ref z2])
   have U4:=same_new hz4 (.tup [v1,.ref z3])
   have U5:=same_new hz5 (.tup [.str "both",.ref z4])
   have SX:=U1.trans (U2.trans (U3.trans (U4.trans U5)))
   have x1:=(U2.trans (U3.trans (U4.trans U5))) z1 _ upd_same
   have x2:=(U3.trans (U4.trans U5)) z2 _ upd_same
   have x3:=(U4.trans U5) z3 _ upd_same
   have x4:=U5 z4 _ upd_same
   have x5:upd (upd (upd (upd (upd G z1 (.tup [.str nm])) z2 (.tup [.str wd,.ref z1])) z3 (.tup [.str "not",.ref z2])) z4 (.tup [v1,.ref z3])) z5 (.tup [.str "both",.ref z4]) z5=some (.tup [.str "both",.ref z4]):=upd_same
   generalize upd (upd (upd (upd (upd G z1 (.tup [.str nm])) z2 (.tup [.str wd,.ref z1])) z3 (.tup [.str "not",.ref z2])) z4 (.tup [v1,.ref z3])) z5 (.tup [.str "both",.ref z4])=GX at *
   have b1:=b1.same (SG.trans SX)
   have b2:=b2.same (SG.trans SX)
   have c2:=c2.same (SG.trans SX)
   obtain ⟨lf,hlf,okl,dpl,cnl⟩:∃ lf:Tr,lf.At GX (.ref z2)∧lf.ok∧lf.dp=0∧lf.cnt=1:=by
    have okn:okNs [nm]:=⟨(by intro z; cases z),(by show 1≤6; decide),fun u hu=>by rw [List.mem_singleton.mp hu]; exact gn,by simp⟩
    rcases hwd with rfl | rfl
    ·exact ⟨.kind [nm],by rw [Tr.At]; exact ⟨z2,z1,rfl,x2,x1⟩,by rw [Tr.ok]; exact okn,by rw [Tr.dp],by rw [Tr.cnt]; rfl⟩
    ·exact ⟨.place [nm],by rw [Tr.At]; exact ⟨z2,z1,rfl,x2,x1⟩,by rw [Tr.ok]; exact okn,by rw [Tr.dp],by rw [Tr.cnt]; rfl⟩
   obtain ⟨th,hth,okt,dpt,cnt_⟩:∃ th:Tr,th.At GX (.ref z5)∧th.ok∧th.dp < 5∧th.cnt≤28:=by
    refine ⟨.both (.cons t1 (.cons (.not lf) .nil)),?_,?_,?_,?_⟩
    ·rw [Tr.At]
     exact ⟨z5,z4,[v1,.ref z3],rfl,x5,x4,trs_at.mpr (.cons b1 (.cons (by rw [Tr.At]; exact ⟨z3,.ref z2,rfl,x3,hlf⟩) .nil))⟩
    ·rw [Tr.ok]
     exact ⟨Nat.le_refl _,by show 2≤6; decide,by rw [Trs.ok,Trs.ok,Trs.ok,Tr.ok]; exact ⟨o1,okl,trivial⟩⟩
    ·rw [Tr.dp,Trs.dp,Trs.dp,Trs.dp,Tr.dp]; omega
    ·rw [Tr.cnt,Trs.cnt,Trs.cnt,Trs.cnt,Tr.cnt]; omega
   refine ⟨.ref z5,th,dpt,rfl,hth,okt,fun f3 G1 S1 hf3=>?_⟩
   nofun
   refine ⟨f3,f2,th,t2,rfl,hf3,c2.same S1,okt,o2,dpt,d2,by omega,fun r3 G2 S2 P3=>?_⟩
   nofun
   refine ⟨sz8 (by decide),fun l5 hl5=>?_⟩
   have U6:=same_new hl5 (.lst [.ref z5,v2])
   have S12:=S1.trans (S2.trans U6)
   refine ⟨l5,.ref z5,v2,th,t2,rfl,upd_same,hth.same S12,b2.same S12,okt,o2,dpt,d2,by omega,fun ls3 xs3 G4 S4 es3 lx3 tx3=>?_⟩
   have S14:=S12.trans S4
   nofun
   refine ⟨r3,.ref z5,v2,ls3,xs3,th,t2,rfl,hth.same S14,b2.same S14,okt,o2,dpt,d2,es3,lx3,tx3,P3.same (U6.trans S4),fun G5 S5=>?_⟩
   have SL:=SG.trans (SX.trans (S14.trans S5))
   exists Bool.not_true
   first | exact SL | exact ⟨⟨_,_,_,_,rfl⟩,SL⟩
  ·rintro σ G ⟨⟨v8,v10,v11,v12,rfl⟩,SG⟩
   first | refine hold_ret ?_ | (dsimp only; refine hold_ret ?_)
   nofun
   refine ⟨f1,f1,t1,t1,rfl,c1.same SG,c1.same SG,o1,o1,by omega,by omega,by omega,fun r1 G1 U1 P1=>?_⟩
   obtain rfl:=none_of P1
   nofun
   refine ⟨f2,f2,t2,t2,rfl,(c2.same SG).same U1,(c2.same SG).same U1,o2,o2,d2,d2,by omega,fun r2 G2 U2 P2=>?_⟩
   obtain rfl:=none_of P2
   nofun
   exact q _
end
end Bw
namespace Hd
open PySem PySem.W L2
set_option maxRecDepth 100000
set_option maxHeartbeats 0
class AT where
 p:Program
 a:List Str
 t:List String
class CP where
 P:Params
section
variable [A:AT]
noncomputable def s (i:Nat):Str:=A.a.getD i Str.empty
noncomputable def t (i:Nat):String:=A.t.getD i ""
noncomputable def stm (i:Nat):Stmt:=A.p.main.body.getD i (.Pass ⟨0,0,0,0⟩)
noncomputable abbrev N:Obj→BT→BT→BT:=BT.node
noncomputable abbrev L:BT:=BT.nil
open PyData
noncomputable section
variable [c:CP]
noncomputable def ob (i:Nat)(x:Array Value):Obj:=Obj.mk (.type (t i)) none (.fields x) #[]
noncomputable def sq (i:Nat)(x:Array Value):Obj:=Obj.mk (.type (t i)) none (.seq x 0) #[]
noncomputable def fo (i n q:Nat)(x:Stmt)(k:Nat)(g:List Addr)(d e y:Value)(v:Nat)(u:Tok)(z:Addr):Obj:=Obj.mk (.type (t i)) none (.func (FuncData.mk (s n) (s q) (defArgs x) (FuncBody.stmts (defBody x)) (defScope x) k [] d e y (.str (s v) u) none (.ref z) .none 0)) #[]
noncomputable abbrev f (n:Nat)(k:Tok):Value:=.str (s n) k
noncomputable abbrev r (n:Addr):Value:=.ref n
noncomputable abbrev j (n:Int)(k:Tok):Value:=.int n k
noncomputable def d (i:Nat)(k:Tok)(v:Value):DictEntry:=DictEntry.mk (keyHash c.P (s i)) (f i k) v
noncomputable def di (x:Array DictEntry)(n:Nat):Obj:=Obj.mk (.type (t 18)) none (.dict x n) #[]
noncomputable def fn (n q:Nat)(x:Stmt):Obj:=Obj.mk .none none (.func (FuncData.mk (s n) (s q) (defArgs x) (FuncBody.stmts (defBody x)) (defScope x) 0 [] .none .none .none .none none .none .none 0)) #[]
noncomputable def fd (x:Array Value):Obj:=Obj.mk .none none (.fields x) #[]
noncomputable abbrev i (n:Int):Value:=.int n 0
noncomputable abbrev u:Value:=.none
noncomputable abbrev T (n:Nat):Value:=.type (t n)
noncomputable abbrev bi (n:Nat):Value:=.builtin (t n)
def o00:Obj:=sq 0 #[]
def o01:Obj:=fd #[]
def o02:Obj:=ob 1 #[(f 100 182),(f 100 183),(f 2 184),(i 1),(i 0),(i 0),(i 0),(i 0),(r 11),(.bool false),(i 181),(r 12),u,u,u,u,(i 185),(i 1),(f 2 186)]
def o03:Obj:=(Obj.mk (.type (t 9)) none .plain #[(some (r 13)),(some (r 3)),(some (r 3)),none,(some (f 133 164)),none,(some (r 0))])
def o04:Obj:=di #[(d 42 165 (f 40 194)),(d 41 166 .none),(d 43 167 .none),(d 44 168 (bi 19)),(d 45 169 .none),(d 46 170 (r 6)),(d 47 171 (r 4)),(d 48 173 (f 2 172)),(d 49 174 .none),(d 50 193 (r 21)),(d 22 213 (r 31))] 11
def o05:Obj:=fd #[(i 1),(i 0),(r 20),(i 5),(i 0),(r 27)]
def o06:Obj:=sq 0 #[(f 73 190)]
def o07:Obj:=fn 50 50 (stm 0)
def o08:Obj:=ob 1 #[(f 50 187),(f 50 188),(f 2 189),(i 1),(i 1),(i 0),(i 0),(i 3),(r 15),(.bool true),(i 181),(r 16),u,(r 17),(r 18),(r 19),(i 191),(i 1),(f 2 192)]
def o09:Obj:=fo 5 50 50 (stm 0) 3 [] .none .none .none 133 164 20
def o0a:Obj:=sq 0 #[(T 11)]
def o0b:Obj:=ob 2 #[(bi 10),(T 6)]
def o0c:Obj:=di #[(d 29 203 (f 40 194)),(d 30 205 (f 22 204)),(d 31 207 (j 5 206)),(d 33 208 (r 29))] 4
def o0d:Obj:=ob 1 #[(f 22 198),(f 22 199),(f 2 200),(i 5),(i 0),(i 0),(i 0),(i 0),(r 25),(.bool false),(i 181),(r 26),u,u,u,u,(i 201),(i 5),(f 2 202)]
def o0e:Obj:=(Obj.mk (.type (t 9)) none .plain #[(some (r 27)),(some (r 3)),(some (r 24)),none,(some (f 40 194)),none,(some (r 0))])
def o0f:Obj:=di #[(d 29 203 (f 40 194)),(d 31 207 (j 5 206)),(d 33 208 (r 29)),(d 124 210 (r 32)),(d 41 211 .none)] 3
def o0g:Obj:=(Obj.mk (.type (t 6)) none (.cls (ClassData.mk (s 22) [(T 11)] [(r 31),(T 11),(T 12),(T 13),(T 7)] 30 (s 22) true [] [] false none false)) #[(some (r 22)),none,(some (f 22 196)),(some (f 22 204)),(some (bi 14)),(some (.bool true))])
def o0h:Obj:=ob 15 #[(f 124 209),(r 31),(bi 20),u]
def o0i:Obj:=ob 4 #[(r 31),(r 31),(r 31)]
def o0j:Obj:=ob 2 #[(bi 3),(r 31)]
def o0k:Obj:=di #[(d 42 165 (f 40 194)),(d 41 166 .none),(d 43 167 .none),(d 44 168 (bi 19)),(d 45 169 .none),(d 46 170 (r 6)),(d 47 171 (r 4)),(d 48 173 (f 2 172)),(d 49 174 .none),(d 50 193 (r 21)),(d 22 213 (r 31)),(d 51 229 (r 44))] 12
def o0l:Obj:=fd #[(i 1),(i 0),(r 20),(i 5),(i 0),(r 27),(i 7),(i 0),(r 40)]
def o0m:Obj:=(Obj.mk (.type (t 6)) none (.cls (ClassData.mk (s 22) [(T 11)] [(r 31),(T 11),(T 12),(T 13),(T 7)] 30 (s 22) true [] [(r 44)] false none false)) #[(some (r 22)),none,(some (f 22 196)),(some (f 22 204)),(some (bi 14)),(some (.bool true))])
def o0n:Obj:=sq 0 #[(r 31)]
def o0o:Obj:=di #[(d 29 221 (f 40 194)),(d 30 223 (f 51 222)),(d 31 225 (j 7 224)),(d 33 226 (r 42))] 4
def o0p:Obj:=ob 1 #[(f 51 216),(f 51 217),(f 2 218),(i 7),(i 0),(i 0),(i 0),(i 0),(r 38),(.bool false),(i 181),(r 39),u,u,u,u,(i 219),(i 7),(f 2 220)]
def o0q:Obj:=(Obj.mk (.type (t 9)) none .plain #[(some (r 40)),(some (r 3)),(some (r 37)),none,(some (f 40 194)),none,(some (r 0))])
def o0r:Obj:=di #[(d 29 221 (f 40 194)),(d 31 225 (j 7 224)),(d 33 226 (r 42)),(d 41 227 .none)] 2
def o0s:Obj:=(Obj.mk (.type (t 6)) none (.cls (ClassData.mk (s 51) [(r 31)] [(r 44),(r 31),(T 11),(T 12),(T 13),(T 7)] 43 (s 51) true [] [] false none false)) #[(some (r 35)),none,(some (f 51 214)),(some (f 51 222)),(some (bi 14)),(some (.bool true))])
def o0t:Obj:=ob 4 #[(r 44),(r 44),(r 44)]
def o0u:Obj:=ob 2 #[(bi 3),(r 44)]
def o0v:Obj:=di #[(d 42 165 (f 5 263)),(d 41 166 .none),(d 43 167 .none),(d 44 168 (bi 19)),(d 45 169 .none),(d 46 170 (r 6)),(d 47 171 (r 4)),(d 48 173 (f 2 172)),(d 49 174 .none),(d 50 193 (r 21)),(d 22 213 (r 31)),(d 51 229 (r 44)),(d 52 245 (r 56)),(d 8 254 (r 65)),(d 53 262 (r 72)),(d 54 266 (f 55 265)),(d 56 268 (j 8 267)),(d 57 274 (r 77))] 18
def o0w:Obj:=fd #[(i 1),(i 0),(r 20),(i 5),(i 0),(r 27),(i 7),(i 0),(r 40),(i 9),(i 0),(r 52),(i 12),(i 0),(r 64),(i 14),(i 0),(r 71),(i 19),(i 0),(r 76)]
def o0x:Obj:=(Obj.mk (.type (t 6)) none (.cls (ClassData.mk (s 22) [(T 11)] [(r 31),(T 11),(T 12),(T 13),(T 7)] 30 (s 22) true [] [(r 44),(r 56)] false none false)) #[(some (r 22)),none,(some (f 22 196)),(some (f 22 204)),(some (bi 14)),(some (.bool true))])
def o0y:Obj:=di #[(d 29 237 (f 40 194)),(d 30 239 (f 52 238)),(d 31 241 (j 9 240)),(d 33 242 (r 54))] 4
def o0z:Obj:=ob 1 #[(f 52 232),(f 52 233),(f 2 234),(i 9),(i 0),(i 0),(i 0),(i 0),(r 50),(.bool false),(i 181),(r 51),u,u,u,u,(i 235),(i 9),(f 2 236)]
def o0A:Obj:=(Obj.mk (.type (t 9)) none .plain #[(some (r 52)),(some (r 3)),(some (r 49)),none,(some (f 40 194)),none,(some (r 0))])
def o0B:Obj:=di #[(d 29 237 (f 40 194)),(d 31 241 (j 9 240)),(d 33 242 (r 54)),(d 41 243 .none)] 2
def o0C:Obj:=(Obj.mk (.type (t 6)) none (.cls (ClassData.mk (s 52) [(r 31)] [(r 56),(r 31),(T 11),(T 12),(T 13),(T 7)] 55 (s 52) true [] [] false none false)) #[(some (r 47)),none,(some (f 52 230)),(some (f 52 238)),(some (bi 14)),(some (.bool true))])
def o0D:Obj:=ob 4 #[(r 56),(r 56),(r 56)]
def o0E:Obj:=ob 2 #[(bi 3),(r 56)]
def o0F:Obj:=sq 0 #[(f 123 251)]
def o0G:Obj:=fn 8 8 (stm 6)
def o0H:Obj:=ob 1 #[(f 8 248),(f 8 249),(f 2 250),(i 12),(i 1),(i 0),(i 0),(i 3),(r 59),(.bool true),(i 181),(r 60),u,(r 61),(r 62),(r 63),(i 252),(i 12),(f 2 253)]
def o0I:Obj:=fo 5 8 8 (stm 6) 3 [] .none .none .none 139 246 64
def o0J:Obj:=sq 0 #[(f 123 258),(f 145 259)]
def o0K:Obj:=fn 53 53 (stm 7)
def o0L:Obj:=ob 1 #[(f 53 255),(f 53 256),(f 2 257),(i 14),(i 2),(i 0),(i 0),(i 3),(r 66),(.bool true),(i 181),(r 67),u,(r 68),(r 69),(r 70),(i 260),(i 14),(f 2 261)]
def o0M:Obj:=fo 5 53 53 (stm 7) 3 [] .none .none .none 139 246 71
def o0N:Obj:=fn 57 57 (stm 11)
def o0O:Obj:=ob 1 #[(f 57 269),(f 57 270),(f 2 271),(i 19),(i 1),(i 0),(i 0),(i 3),(r 73),(.bool true),(i 181),(r 74),u,u,u,(r 75),(i 272),(i 19),(f 2 273)]
def o0P:Obj:=fo 5 57 57 (stm 11) 3 [] .none .none .none 5 263 76
def o0Q:Obj:=di #[(d 42 165 (f 10 332)),(d 41 166 .none),(d 43 167 .none),(d 44 168 (bi 19)),(d 45 169 .none),(d 46 170 (r 6)),(d 47 171 (r 4)),(d 48 173 (f 2 172)),(d 49 174 .none),(d 50 193 (r 21)),(d 22 213 (r 31)),(d 51 229 (r 44)),(d 52 245 (r 56)),(d 8 254 (r 65)),(d 53 262 (r 72)),(d 54 266 (f 55 265)),(d 56 268 (j 8 267)),(d 57 274 (r 77)),(d 58 307 (r 94)),(d 14 315 (r 103)),(d 36 323 (r 110)),(d 59 331 (r 117))] 22
def o0R:Obj:=fd #[(i 1),(i 0),(r 20),(i 5),(i 0),(r 27),(i 7),(i 0),(r 40),(i 9),(i 0),(r 52),(i 12),(i 0),(r 64),(i 14),(i 0),(r 71),(i 19),(i 0),(r 76),(i 23),(i 0),(r 83),(i 34),(i 0),(r 102),(i 38),(i 0),(r 109),(i 44),(i 0),(r 116)]
def o0S:Obj:=di #[(d 29 282 (f 5 263)),(d 30 284 (f 58 283)),(d 31 286 (j 23 285)),(d 0 296 (r 91)),(d 33 300 (r 92))] 5
def o0T:Obj:=fd #[(i 25),(i 4),(r 90)]
def o0U:Obj:=ob 1 #[(f 58 277),(f 58 278),(f 2 279),(i 23),(i 0),(i 0),(i 0),(i 0),(r 81),(.bool false),(i 181),(r 82),u,u,u,u,(i 280),(i 23),(f 2 281)]
def o0V:Obj:=(Obj.mk (.type (t 9)) none .plain #[(some (r 83)),(some (r 3)),(some (r 80)),none,(some (f 5 263)),none,(some (r 0))])
def o0W:Obj:=sq 0 #[(f 15 290),(f 74 291),(f 75 292),(f 64 293)]
def o0X:Obj:=fn 0 4 (inClass (stm 12) 0)
def o0Y:Obj:=ob 1 #[(f 0 287),(f 4 288),(f 2 289),(i 25),(i 4),(i 0),(i 0),(i 3),(r 85),(.bool true),(i 181),(r 86),u,(r 87),(r 88),(r 89),(i 294),(i 25),(f 2 295)]
def o0Z:Obj:=fo 5 0 4 (inClass (stm 12) 0) 3 [] .none .none .none 5 263 90
def o10:Obj:=sq 0 #[(f 74 297),(f 75 298),(f 64 299)]
def o11:Obj:=di #[(d 29 282 (f 5 263)),(d 31 286 (j 23 285)),(d 0 296 (r 91)),(d 33 300 (r 92)),(d 25 302 (r 95)),(d 124 304 (r 96)),(d 41 305 .none)] 4
def o12:Obj:=(Obj.mk (.type (t 6)) none (.cls (ClassData.mk (s 58) [(T 7)] [(r 94),(T 7)] 93 (s 58) true [] [] false none false)) #[none,none,(some (f 58 275)),(some (f 58 283)),(some (bi 8)),(some (.bool true))])
def o13:Obj:=ob 15 #[(f 25 301),(r 94),(bi 16),(bi 17)]
def o14:Obj:=ob 15 #[(f 124 303),(r 94),(bi 20),u]
def o15:Obj:=ob 4 #[(r 94),(r 94),(r 94)]
def o16:Obj:=ob 2 #[(bi 3),(r 94)]
def o17:Obj:=fn 14 14 (stm 14)
def o18:Obj:=ob 1 #[(f 14 310),(f 14 311),(f 2 312),(i 34),(i 1),(i 0),(i 0),(i 3),(r 99),(.bool true),(i 181),(r 100),u,u,u,(r 101),(i 313),(i 34),(f 2 314)]
def o19:Obj:=fo 5 14 14 (stm 14) 3 [] .none .none .none 37 308 102
def o1a:Obj:=sq 0 #[(f 20 319),(f 82 320)]
def o1b:Obj:=fn 36 36 (stm 15)
def o1c:Obj:=ob 1 #[(f 36 316),(f 36 317),(f 2 318),(i 38),(i 1),(i 0),(i 0),(i 3),(r 104),(.bool true),(i 181),(r 105),u,(r 106),(r 107),(r 108),(i 321),(i 38),(f 2 322)]
def o1d:Obj:=fo 5 36 36 (stm 15) 3 [] .none .none .none 37 308 109
def o1e:Obj:=sq 0 #[(f 19 327),(f 20 328)]
def o1f:Obj:=fn 59 59 (stm 16)
def o1g:Obj:=ob 1 #[(f 59 324),(f 59 325),(f 2 326),(i 44),(i 1),(i 0),(i 0),(i 3),(r 111),(.bool true),(i 181),(r 112),u,(r 113),(r 114),(r 115),(i 329),(i 44),(f 2 330)]
def o1h:Obj:=fo 5 59 59 (stm 16) 3 [] .none .none .none 37 308 116
def o1i:Obj:=di #[(d 42 165 (f 10 332)),(d 41 166 .none),(d 43 167 .none),(d 44 168 (bi 19)),(d 45 169 .none),(d 46 170 (r 6)),(d 47 171 (r 4)),(d 48 173 (f 2 172)),(d 49 174 .none),(d 50 193 (r 21)),(d 22 213 (r 31)),(d 51 229 (r 44)),(d 52 245 (r 56)),(d 8 254 (r 65)),(d 53 262 (r 72)),(d 54 266 (f 55 265)),(d 56 268 (j 8 267)),(d 57 274 (r 77)),(d 58 307 (r 94)),(d 14 315 (r 103)),(d 36 323 (r 110)),(d 59 331 (r 117)),(d 11 353 (r 127))] 23
def o1j:Obj:=fd #[(i 1),(i 0),(r 20),(i 5),(i 0),(r 27),(i 7),(i 0),(r 40),(i 9),(i 0),(r 52),(i 12),(i 0),(r 64),(i 14),(i 0),(r 71),(i 19),(i 0),(r 76),(i 23),(i 0),(r 83),(i 34),(i 0),(r 102),(i 38),(i 0),(r 109),(i 44),(i 0),(r 116),(i 50),(i 0),(r 123)]
def o1k:Obj:=di #[(d 29 341 (f 10 332)),(d 30 343 (f 11 342)),(d 31 345 (j 50 344)),(d 33 346 (r 125))] 4
def o1l:Obj:=ob 1 #[(f 11 336),(f 11 337),(f 2 338),(i 50),(i 0),(i 0),(i 0),(i 0),(r 121),(.bool false),(i 181),(r 122),u,u,u,u,(i 339),(i 50),(f 2 340)]
def o1m:Obj:=(Obj.mk (.type (t 9)) none .plain #[(some (r 123)),(some (r 3)),(some (r 120)),none,(some (f 10 332)),none,(some (r 0))])
def o1n:Obj:=di #[(d 29 341 (f 10 332)),(d 31 345 (j 50 344)),(d 33 346 (r 125)),(d 25 348 (r 128)),(d 124 350 (r 129)),(d 41 351 .none)] 4
def o1o:Obj:=(Obj.mk (.type (t 6)) none (.cls (ClassData.mk (s 11) [(T 7)] [(r 127),(T 7)] 126 (s 11) true [] [] false none false)) #[none,none,(some (f 11 334)),(some (f 11 342)),(some (bi 8)),(some (.bool true))])
def o1p:Obj:=ob 15 #[(f 25 347),(r 127),(bi 16),(bi 17)]
def o1q:Obj:=ob 15 #[(f 124 349),(r 127),(bi 20),u]
def o1r:Obj:=ob 4 #[(r 127),(r 127),(r 127)]
def o1s:Obj:=ob 2 #[(bi 3),(r 127)]
def o1t:Obj:=di #[(d 42 165 (f 10 332)),(d 41 166 .none),(d 43 167 .none),(d 44 168 (bi 19)),(d 45 169 .none),(d 46 170 (r 6)),(d 47 171 (r 4)),(d 48 173 (f 2 172)),(d 49 174 .none),(d 50 193 (r 21)),(d 22 213 (r 31)),(d 51 229 (r 44)),(d 52 245 (r 56)),(d 8 254 (r 65)),(d 53 262 (r 72)),(d 54 266 (f 55 265)),(d 56 268 (j 8 267)),(d 57 274 (r 77)),(d 58 307 (r 94)),(d 14 315 (r 103)),(d 36 323 (r 110)),(d 59 331 (r 117)),(d 11 353 (r 127)),(d 65 397 (r 162))] 24
def o1u:Obj:=fd #[(i 1),(i 0),(r 20),(i 5),(i 0),(r 27),(i 7),(i 0),(r 40),(i 9),(i 0),(r 52),(i 12),(i 0),(r 64),(i 14),(i 0),(r 71),(i 19),(i 0),(r 76),(i 23),(i 0),(r 83),(i 34),(i 0),(r 102),(i 38),(i 0),(r 109),(i 44),(i 0),(r 116),(i 50),(i 0),(r 123),(i 52),(i 0),(r 137)]
def o1v:Obj:=(Obj.mk (.type (t 6)) none (.cls (ClassData.mk (s 11) [(T 7)] [(r 127),(T 7)] 126 (s 11) true [] [(r 162)] false none false)) #[none,none,(some (f 11 334)),(some (f 11 342)),(some (bi 8)),(some (.bool true))])
def o1w:Obj:=sq 0 #[(r 127)]
def o1x:Obj:=di #[(d 29 361 (f 10 332)),(d 30 363 (f 65 362)),(d 31 365 (j 52 364)),(d 26 373 (r 145)),(d 12 383 (r 152)),(d 32 393 (r 159)),(d 33 394 (r 160))] 7
def o1y:Obj:=fd #[(i 54),(i 4),(r 144),(i 57),(i 4),(r 151),(i 60),(i 4),(r 158)]
def o1z:Obj:=ob 1 #[(f 65 356),(f 65 357),(f 2 358),(i 52),(i 0),(i 0),(i 0),(i 0),(r 135),(.bool false),(i 181),(r 136),u,u,u,u,(i 359),(i 52),(f 2 360)]
def o1A:Obj:=(Obj.mk (.type (t 9)) none .plain #[(some (r 137)),(some (r 3)),(some (r 134)),none,(some (f 10 332)),none,(some (r 0))])
def o1B:Obj:=sq 0 #[(f 15 369),(f 34 370)]
def o1C:Obj:=fn 26 117 (inClass (stm 19) 0)
def o1D:Obj:=ob 1 #[(f 26 366),(f 117 367),(f 2 368),(i 54),(i 2),(i 0),(i 0),(i 3),(r 139),(.bool true),(i 181),(r 140),u,(r 141),(r 142),(r 143),(i 371),(i 54),(f 2 372)]
def o1E:Obj:=fo 5 26 117 (inClass (stm 19) 0) 3 [] .none .none .none 10 332 144
def o1F:Obj:=sq 0 #[(f 15 377),(f 102 378),(f 103 379),(f 104 380)]
def o1G:Obj:=fn 12 142 (inClass (stm 19) 1)
def o1H:Obj:=ob 1 #[(f 12 374),(f 142 375),(f 2 376),(i 57),(i 4),(i 0),(i 0),(i 3),(r 146),(.bool true),(i 181),(r 147),u,(r 148),(r 149),(r 150),(i 381),(i 57),(f 2 382)]
def o1I:Obj:=fo 5 12 142 (inClass (stm 19) 1) 3 [] .none .none .none 10 332 151
def o1J:Obj:=sq 0 #[(f 15 387),(f 74 388),(f 75 389),(f 62 390)]
def o1K:Obj:=fn 32 118 (inClass (stm 19) 2)
def o1L:Obj:=ob 1 #[(f 32 384),(f 118 385),(f 2 386),(i 60),(i 4),(i 0),(i 0),(i 3),(r 153),(.bool true),(i 181),(r 154),u,(r 155),(r 156),(r 157),(i 391),(i 60),(f 2 392)]
def o1M:Obj:=fo 5 32 118 (inClass (stm 19) 2) 3 [] .none .none .none 10 332 158
def o1N:Obj:=di #[(d 29 361 (f 10 332)),(d 31 365 (j 52 364)),(d 26 373 (r 145)),(d 12 383 (r 152)),(d 32 393 (r 159)),(d 33 394 (r 160)),(d 41 395 .none)] 2
def o1O:Obj:=(Obj.mk (.type (t 6)) none (.cls (ClassData.mk (s 65) [(r 127)] [(r 162),(r 127),(T 7)] 161 (s 65) true [] [] false none false)) #[(some (r 132)),none,(some (f 65 354)),(some (f 65 362)),(some (bi 8)),(some (.bool true))])
def o1P:Obj:=ob 4 #[(r 162),(r 162),(r 162)]
def o1Q:Obj:=ob 2 #[(bi 3),(r 162)]
def o1R:Obj:=di #[(d 42 165 (f 10 332)),(d 41 166 .none),(d 43 167 .none),(d 44 168 (bi 19)),(d 45 169 .none),(d 46 170 (r 6)),(d 47 171 (r 4)),(d 48 173 (f 2 172)),(d 49 174 .none),(d 50 193 (r 21)),(d 22 213 (r 31)),(d 51 229 (r 44)),(d 52 245 (r 56)),(d 8 254 (r 65)),(d 53 262 (r 72)),(d 54 266 (f 55 265)),(d 56 268 (j 8 267)),(d 57 274 (r 77)),(d 58 307 (r 94)),(d 14 315 (r 103)),(d 36 323 (r 110)),(d 59 331 (r 117)),(d 11 353 (r 127)),(d 65 397 (r 162)),(d 60 450 (r 202))] 25
def o1S:Obj:=fd #[(i 1),(i 0),(r 20),(i 5),(i 0),(r 27),(i 7),(i 0),(r 40),(i 9),(i 0),(r 52),(i 12),(i 0),(r 64),(i 14),(i 0),(r 71),(i 19),(i 0),(r 76),(i 23),(i 0),(r 83),(i 34),(i 0),(r 102),(i 38),(i 0),(r 109),(i 44),(i 0),(r 116),(i 50),(i 0),(r 123),(i 52),(i 0),(r 137),(i 62),(i 0),(r 170)]
def o1T:Obj:=(Obj.mk (.type (t 6)) none (.cls (ClassData.mk (s 11) [(T 7)] [(r 127),(T 7)] 126 (s 11) true [] [(r 162),(r 202)] false none false)) #[none,none,(some (f 11 334)),(some (f 11 342)),(some (bi 8)),(some (.bool true))])
def o1U:Obj:=di #[(d 29 405 (f 10 332)),(d 30 407 (f 60 406)),(d 31 409 (j 62 408)),(d 0 417 (r 178)),(d 26 425 (r 185)),(d 12 435 (r 192)),(d 32 445 (r 199)),(d 33 447 (r 200))] 8
def o1V:Obj:=fd #[(i 64),(i 4),(r 177),(i 68),(i 4),(r 184),(i 71),(i 4),(r 191),(i 74),(i 4),(r 198)]
def o1W:Obj:=ob 1 #[(f 60 400),(f 60 401),(f 2 402),(i 62),(i 0),(i 0),(i 0),(i 0),(r 168),(.bool false),(i 181),(r 169),u,u,u,u,(i 403),(i 62),(f 2 404)]
def o1X:Obj:=(Obj.mk (.type (t 9)) none .plain #[(some (r 170)),(some (r 3)),(some (r 167)),none,(some (f 10 332)),none,(some (r 0))])
def o1Y:Obj:=sq 0 #[(f 15 413),(f 97 414)]
def o1Z:Obj:=fn 0 1 (inClass (stm 20) 0)
def o20:Obj:=ob 1 #[(f 0 410),(f 1 411),(f 2 412),(i 64),(i 2),(i 0),(i 0),(i 3),(r 172),(.bool true),(i 181),(r 173),u,(r 174),(r 175),(r 176),(i 415),(i 64),(f 2 416)]
def o21:Obj:=fo 5 0 1 (inClass (stm 20) 0) 3 [] .none .none .none 10 332 177
def o22:Obj:=sq 0 #[(f 15 421),(f 34 422)]
def o23:Obj:=fn 26 108 (inClass (stm 20) 1)
def o24:Obj:=ob 1 #[(f 26 418),(f 108 419),(f 2 420),(i 68),(i 2),(i 0),(i 0),(i 3),(r 179),(.bool true),(i 181),(r 180),u,(r 181),(r 182),(r 183),(i 423),(i 68),(f 2 424)]
def o25:Obj:=fo 5 26 108 (inClass (stm 20) 1) 3 [] .none .none .none 10 332 184
def o26:Obj:=sq 0 #[(f 15 429),(f 102 430),(f 103 431),(f 104 432)]
def o27:Obj:=fn 12 78 (inClass (stm 20) 2)
def o28:Obj:=ob 1 #[(f 12 426),(f 78 427),(f 2 428),(i 71),(i 4),(i 0),(i 0),(i 3),(r 186),(.bool true),(i 181),(r 187),u,(r 188),(r 189),(r 190),(i 433),(i 71),(f 2 434)]
def o29:Obj:=fo 5 12 78 (inClass (stm 20) 2) 3 [] .none .none .none 10 332 191
def o2a:Obj:=sq 0 #[(f 15 439),(f 74 440),(f 75 441),(f 62 442)]
def o2b:Obj:=fn 32 91 (inClass (stm 20) 3)
def o2c:Obj:=ob 1 #[(f 32 436),(f 91 437),(f 2 438),(i 74),(i 4),(i 0),(i 0),(i 3),(r 193),(.bool true),(i 181),(r 194),u,(r 195),(r 196),(r 197),(i 443),(i 74),(f 2 444)]
def o2d:Obj:=fo 5 32 91 (inClass (stm 20) 3) 3 [] .none .none .none 10 332 198
def o2e:Obj:=sq 0 #[(f 97 446)]
def o2f:Obj:=di #[(d 29 405 (f 10 332)),(d 31 409 (j 62 408)),(d 0 417 (r 178)),(d 26 425 (r 185)),(d 12 435 (r 192)),(d 32 445 (r 199)),(d 33 447 (r 200)),(d 41 448 .none)] 2
def o2g:Obj:=(Obj.mk (.type (t 6)) none (.cls (ClassData.mk (s 60) [(r 127)] [(r 202),(r 127),(T 7)] 201 (s 60) true [] [] false none false)) #[(some (r 165)),none,(some (f 60 398)),(some (f 60 406)),(some (bi 8)),(some (.bool true))])
def o2h:Obj:=ob 4 #[(r 202),(r 202),(r 202)]
def o2i:Obj:=ob 2 #[(bi 3),(r 202)]
def o2j:Obj:=di #[(d 42 165 (f 10 332)),(d 41 166 .none),(d 43 167 .none),(d 44 168 (bi 19)),(d 45 169 .none),(d 46 170 (r 6)),(d 47 171 (r 4)),(d 48 173 (f 2 172)),(d 49 174 .none),(d 50 193 (r 21)),(d 22 213 (r 31)),(d 51 229 (r 44)),(d 52 245 (r 56)),(d 8 254 (r 65)),(d 53 262 (r 72)),(d 54 266 (f 55 265)),(d 56 268 (j 8 267)),(d 57 274 (r 77)),(d 58 307 (r 94)),(d 14 315 (r 103)),(d 36 323 (r 110)),(d 59 331 (r 117)),(d 11 353 (r 127)),(d 65 397 (r 162)),(d 60 450 (r 202)),(d 87 503 (r 242))] 26
def o2k:Obj:=fd #[(i 1),(i 0),(r 20),(i 5),(i 0),(r 27),(i 7),(i 0),(r 40),(i 9),(i 0),(r 52),(i 12),(i 0),(r 64),(i 14),(i 0),(r 71),(i 19),(i 0),(r 76),(i 23),(i 0),(r 83),(i 34),(i 0),(r 102),(i 38),(i 0),(r 109),(i 44),(i 0),(r 116),(i 50),(i 0),(r 123),(i 52),(i 0),(r 137),(i 62),(i 0),(r 170),(i 76),(i 0),(r 210)]
def o2l:Obj:=(Obj.mk (.type (t 6)) none (.cls (ClassData.mk (s 11) [(T 7)] [(r 127),(T 7)] 126 (s 11) true [] [(r 162),(r 202),(r 242)] false none false)) #[none,none,(some (f 11 334)),(some (f 11 342)),(some (bi 8)),(some (.bool true))])
def o2m:Obj:=di #[(d 29 458 (f 10 332)),(d 30 460 (f 87 459)),(d 31 462 (j 76 461)),(d 0 470 (r 218)),(d 26 478 (r 225)),(d 12 488 (r 232)),(d 32 498 (r 239)),(d 33 500 (r 240))] 8
def o2n:Obj:=fd #[(i 78),(i 4),(r 217),(i 82),(i 4),(r 224),(i 85),(i 4),(r 231),(i 88),(i 4),(r 238)]
def o2o:Obj:=ob 1 #[(f 87 453),(f 87 454),(f 2 455),(i 76),(i 0),(i 0),(i 0),(i 0),(r 208),(.bool false),(i 181),(r 209),u,u,u,u,(i 456),(i 76),(f 2 457)]
def o2p:Obj:=(Obj.mk (.type (t 9)) none .plain #[(some (r 210)),(some (r 3)),(some (r 207)),none,(some (f 10 332)),none,(some (r 0))])
def o2q:Obj:=sq 0 #[(f 15 466),(f 97 467)]
def o2r:Obj:=fn 0 120 (inClass (stm 21) 0)
def o2s:Obj:=ob 1 #[(f 0 463),(f 120 464),(f 2 465),(i 78),(i 2),(i 0),(i 0),(i 3),(r 212),(.bool true),(i 181),(r 213),u,(r 214),(r 215),(r 216),(i 468),(i 78),(f 2 469)]
def o2t:Obj:=fo 5 0 120 (inClass (stm 21) 0) 3 [] .none .none .none 10 332 217
def o2u:Obj:=sq 0 #[(f 15 474),(f 34 475)]
def o2v:Obj:=fn 26 119 (inClass (stm 21) 1)
def o2w:Obj:=ob 1 #[(f 26 471),(f 119 472),(f 2 473),(i 82),(i 2),(i 0),(i 0),(i 3),(r 219),(.bool true),(i 181),(r 220),u,(r 221),(r 222),(r 223),(i 476),(i 82),(f 2 477)]
def o2x:Obj:=fo 5 26 119 (inClass (stm 21) 1) 3 [] .none .none .none 10 332 224
def o2y:Obj:=sq 0 #[(f 15 482),(f 102 483),(f 103 484),(f 104 485)]
def o2z:Obj:=fn 12 138 (inClass (stm 21) 2)
def o2A:Obj:=ob 1 #[(f 12 479),(f 138 480),(f 2 481),(i 85),(i 4),(i 0),(i 0),(i 3),(r 226),(.bool true),(i 181),(r 227),u,(r 228),(r 229),(r 230),(i 486),(i 85),(f 2 487)]
def o2B:Obj:=fo 5 12 138 (inClass (stm 21) 2) 3 [] .none .none .none 10 332 231
def o2C:Obj:=sq 0 #[(f 15 492),(f 74 493),(f 75 494),(f 62 495)]
def o2D:Obj:=fn 32 84 (inClass (stm 21) 3)
def o2E:Obj:=ob 1 #[(f 32 489),(f 84 490),(f 2 491),(i 88),(i 4),(i 0),(i 0),(i 3),(r 233),(.bool true),(i 181),(r 234),u,(r 235),(r 236),(r 237),(i 496),(i 88),(f 2 497)]
def o2F:Obj:=fo 5 32 84 (inClass (stm 21) 3) 3 [] .none .none .none 10 332 238
def o2G:Obj:=sq 0 #[(f 97 499)]
def o2H:Obj:=di #[(d 29 458 (f 10 332)),(d 31 462 (j 76 461)),(d 0 470 (r 218)),(d 26 478 (r 225)),(d 12 488 (r 232)),(d 32 498 (r 239)),(d 33 500 (r 240)),(d 41 501 .none)] 2
def o2I:Obj:=(Obj.mk (.type (t 6)) none (.cls (ClassData.mk (s 87) [(r 127)] [(r 242),(r 127),(T 7)] 241 (s 87) true [] [] false none false)) #[(some (r 205)),none,(some (f 87 451)),(some (f 87 459)),(some (bi 8)),(some (.bool true))])
def o2J:Obj:=ob 4 #[(r 242),(r 242),(r 242)]
def o2K:Obj:=ob 2 #[(bi 3),(r 242)]
def o2L:Obj:=di #[(d 42 165 (f 10 332)),(d 41 166 .none),(d 43 167 .none),(d 44 168 (bi 19)),(d 45 169 .none),(d 46 170 (r 6)),(d 47 171 (r 4)),(d 48 173 (f 2 172)),(d 49 174 .none),(d 50 193 (r 21)),(d 22 213 (r 31)),(d 51 229 (r 44)),(d 52 245 (r 56)),(d 8 254 (r 65)),(d 53 262 (r 72)),(d 54 266 (f 55 265)),(d 56 268 (j 8 267)),(d 57 274 (r 77)),(d 58 307 (r 94)),(d 14 315 (r 103)),(d 36 323 (r 110)),(d 59 331 (r 117)),(d 11 353 (r 127)),(d 65 397 (r 162)),(d 60 450 (r 202)),(d 87 503 (r 242)),(d 109 556 (r 282))] 27
def o2M:Obj:=fd #[(i 1),(i 0),(r 20),(i 5),(i 0),(r 27),(i 7),(i 0),(r 40),(i 9),(i 0),(r 52),(i 12),(i 0),(r 64),(i 14),(i 0),(r 71),(i 19),(i 0),(r 76),(i 23),(i 0),(r 83),(i 34),(i 0),(r 102),(i 38),(i 0),(r 109),(i 44),(i 0),(r 116),(i 50),(i 0),(r 123),(i 52),(i 0),(r 137),(i 62),(i 0),(r 170),(i 76),(i 0),(r 210),(i 90),(i 0),(r 250)]
def o2N:Obj:=(Obj.mk (.type (t 6)) none (.cls (ClassData.mk (s 11) [(T 7)] [(r 127),(T 7)] 126 (s 11) true [] [(r 162),(r 202),(r 242),(r 282)] false none false)) #[none,none,(some (f 11 334)),(some (f 11 342)),(some (bi 8)),(some (.bool true))])
def o2O:Obj:=di #[(d 29 511 (f 10 332)),(d 30 513 (f 109 512)),(d 31 515 (j 90 514)),(d 0 523 (r 258)),(d 26 531 (r 265)),(d 12 541 (r 272)),(d 32 551 (r 279)),(d 33 553 (r 280))] 8
def o2P:Obj:=fd #[(i 92),(i 4),(r 257),(i 97),(i 4),(r 264),(i 100),(i 4),(r 271),(i 103),(i 4),(r 278)]
def o2Q:Obj:=ob 1 #[(f 109 506),(f 109 507),(f 2 508),(i 90),(i 0),(i 0),(i 0),(i 0),(r 248),(.bool false),(i 181),(r 249),u,u,u,u,(i 509),(i 90),(f 2 510)]
def o2R:Obj:=(Obj.mk (.type (t 9)) none .plain #[(some (r 250)),(some (r 3)),(some (r 247)),none,(some (f 10 332)),none,(some (r 0))])
def o2S:Obj:=sq 0 #[(f 15 519),(f 64 520)]
def o2T:Obj:=fn 0 83 (inClass (stm 22) 0)
def o2U:Obj:=ob 1 #[(f 0 516),(f 83 517),(f 2 518),(i 92),(i 2),(i 0),(i 0),(i 3),(r 252),(.bool true),(i 181),(r 253),u,(r 254),(r 255),(r 256),(i 521),(i 92),(f 2 522)]
def o2V:Obj:=fo 5 0 83 (inClass (stm 22) 0) 3 [] .none .none .none 10 332 257
def o2W:Obj:=sq 0 #[(f 15 527),(f 34 528)]
def o2X:Obj:=fn 26 76 (inClass (stm 22) 1)
def o2Y:Obj:=ob 1 #[(f 26 524),(f 76 525),(f 2 526),(i 97),(i 2),(i 0),(i 0),(i 3),(r 259),(.bool true),(i 181),(r 260),u,(r 261),(r 262),(r 263),(i 529),(i 97),(f 2 530)]
def o2Z:Obj:=fo 5 26 76 (inClass (stm 22) 1) 3 [] .none .none .none 10 332 264
def o30:Obj:=sq 0 #[(f 15 535),(f 102 536),(f 103 537),(f 104 538)]
def o31:Obj:=fn 12 13 (inClass (stm 22) 2)
def o32:Obj:=ob 1 #[(f 12 532),(f 13 533),(f 2 534),(i 100),(i 4),(i 0),(i 0),(i 3),(r 266),(.bool true),(i 181),(r 267),u,(r 268),(r 269),(r 270),(i 539),(i 100),(f 2 540)]
def o33:Obj:=fo 5 12 13 (inClass (stm 22) 2) 3 [] .none .none .none 10 332 271
def o34:Obj:=sq 0 #[(f 15 545),(f 74 546),(f 75 547),(f 62 548)]
def o35:Obj:=fn 32 134 (inClass (stm 22) 3)
def o36:Obj:=ob 1 #[(f 32 542),(f 134 543),(f 2 544),(i 103),(i 4),(i 0),(i 0),(i 3),(r 273),(.bool true),(i 181),(r 274),u,(r 275),(r 276),(r 277),(i 549),(i 103),(f 2 550)]
def o37:Obj:=fo 5 32 134 (inClass (stm 22) 3) 3 [] .none .none .none 10 332 278
def o38:Obj:=sq 0 #[(f 64 552)]
def o39:Obj:=di #[(d 29 511 (f 10 332)),(d 31 515 (j 90 514)),(d 0 523 (r 258)),(d 26 531 (r 265)),(d 12 541 (r 272)),(d 32 551 (r 279)),(d 33 553 (r 280)),(d 41 554 .none)] 2
def o3a:Obj:=(Obj.mk (.type (t 6)) none (.cls (ClassData.mk (s 109) [(r 127)] [(r 282),(r 127),(T 7)] 281 (s 109) true [] [] false none false)) #[(some (r 245)),none,(some (f 109 504)),(some (f 109 512)),(some (bi 8)),(some (.bool true))])
def o3b:Obj:=ob 4 #[(r 282),(r 282),(r 282)]
def o3c:Obj:=ob 2 #[(bi 3),(r 282)]
def o3d:Obj:=di #[(d 42 165 (f 10 332)),(d 41 166 .none),(d 43 167 .none),(d 44 168 (bi 19)),(d 45 169 .none),(d 46 170 (r 6)),(d 47 171 (r 4)),(d 48 173 (f 2 172)),(d 49 174 .none),(d 50 193 (r 21)),(d 22 213 (r 31)),(d 51 229 (r 44)),(d 52 245 (r 56)),(d 8 254 (r 65)),(d 53 262 (r 72)),(d 54 266 (f 55 265)),(d 56 268 (j 8 267)),(d 57 274 (r 77)),(d 58 307 (r 94)),(d 14 315 (r 103)),(d 36 323 (r 110)),(d 59 331 (r 117)),(d 11 353 (r 127)),(d 65 397 (r 162)),(d 60 450 (r 202)),(d 87 503 (r 242)),(d 109 556 (r 282)),(d 101 609 (r 322))] 28
def o3e:Obj:=fd #[(i 1),(i 0),(r 20),(i 5),(i 0),(r 27),(i 7),(i 0),(r 40),(i 9),(i 0),(r 52),(i 12),(i 0),(r 64),(i 14),(i 0),(r 71),(i 19),(i 0),(r 76),(i 23),(i 0),(r 83),(i 34),(i 0),(r 102),(i 38),(i 0),(r 109),(i 44),(i 0),(r 116),(i 50),(i 0),(r 123),(i 52),(i 0),(r 137),(i 62),(i 0),(r 170),(i 76),(i 0),(r 210),(i 90),(i 0),(r 250),(i 105),(i 0),(r 290)]
def o3f:Obj:=(Obj.mk (.type (t 6)) none (.cls (ClassData.mk (s 11) [(T 7)] [(r 127),(T 7)] 126 (s 11) true [] [(r 162),(r 202),(r 242),(r 282),(r 322)] false none false)) #[none,none,(some (f 11 334)),(some (f 11 342)),(some (bi 8)),(some (.bool true))])
def o3g:Obj:=di #[(d 29 564 (f 10 332)),(d 30 566 (f 101 565)),(d 31 568 (j 105 567)),(d 0 576 (r 298)),(d 26 584 (r 305)),(d 12 594 (r 312)),(d 32 604 (r 319)),(d 33 606 (r 320))] 8
def o3h:Obj:=fd #[(i 107),(i 4),(r 297),(i 111),(i 4),(r 304),(i 114),(i 4),(r 311),(i 117),(i 4),(r 318)]
def o3i:Obj:=ob 1 #[(f 101 559),(f 101 560),(f 2 561),(i 105),(i 0),(i 0),(i 0),(i 0),(r 288),(.bool false),(i 181),(r 289),u,u,u,u,(i 562),(i 105),(f 2 563)]
def o3j:Obj:=(Obj.mk (.type (t 9)) none .plain #[(some (r 290)),(some (r 3)),(some (r 287)),none,(some (f 10 332)),none,(some (r 0))])
def o3k:Obj:=sq 0 #[(f 15 572),(f 6 573)]
def o3l:Obj:=fn 0 81 (inClass (stm 23) 0)
def o3m:Obj:=ob 1 #[(f 0 569),(f 81 570),(f 2 571),(i 107),(i 2),(i 0),(i 0),(i 3),(r 292),(.bool true),(i 181),(r 293),u,(r 294),(r 295),(r 296),(i 574),(i 107),(f 2 575)]
def o3n:Obj:=fo 5 0 81 (inClass (stm 23) 0) 3 [] .none .none .none 10 332 297
def o3o:Obj:=sq 0 #[(f 15 580),(f 34 581)]
def o3p:Obj:=fn 26 39 (inClass (stm 23) 1)
def o3q:Obj:=ob 1 #[(f 26 577),(f 39 578),(f 2 579),(i 111),(i 2),(i 0),(i 0),(i 3),(r 299),(.bool true),(i 181),(r 300),u,(r 301),(r 302),(r 303),(i 582),(i 111),(f 2 583)]
def o3r:Obj:=fo 5 26 39 (inClass (stm 23) 1) 3 [] .none .none .none 10 332 304
def o3s:Obj:=sq 0 #[(f 15 588),(f 102 589),(f 103 590),(f 104 591)]
def o3t:Obj:=fn 12 125 (inClass (stm 23) 2)
def o3u:Obj:=ob 1 #[(f 12 585),(f 125 586),(f 2 587),(i 114),(i 4),(i 0),(i 0),(i 3),(r 306),(.bool true),(i 181),(r 307),u,(r 308),(r 309),(r 310),(i 592),(i 114),(f 2 593)]
def o3v:Obj:=fo 5 12 125 (inClass (stm 23) 2) 3 [] .none .none .none 10 332 311
def o3w:Obj:=sq 0 #[(f 15 598),(f 74 599),(f 75 600),(f 62 601)]
def o3x:Obj:=fn 32 110 (inClass (stm 23) 3)
def o3y:Obj:=ob 1 #[(f 32 595),(f 110 596),(f 2 597),(i 117),(i 4),(i 0),(i 0),(i 3),(r 313),(.bool true),(i 181),(r 314),u,(r 315),(r 316),(r 317),(i 602),(i 117),(f 2 603)]
def o3z:Obj:=fo 5 32 110 (inClass (stm 23) 3) 3 [] .none .none .none 10 332 318
def o3A:Obj:=sq 0 #[(f 6 605)]
def o3B:Obj:=di #[(d 29 564 (f 10 332)),(d 31 568 (j 105 567)),(d 0 576 (r 298)),(d 26 584 (r 305)),(d 12 594 (r 312)),(d 32 604 (r 319)),(d 33 606 (r 320)),(d 41 607 .none)] 2
def o3C:Obj:=(Obj.mk (.type (t 6)) none (.cls (ClassData.mk (s 101) [(r 127)] [(r 322),(r 127),(T 7)] 321 (s 101) true [] [] false none false)) #[(some (r 285)),none,(some (f 101 557)),(some (f 101 565)),(some (bi 8)),(some (.bool true))])
def o3D:Obj:=ob 4 #[(r 322),(r 322),(r 322)]
def o3E:Obj:=ob 2 #[(bi 3),(r 322)]
def o3F:Obj:=di #[(d 42 165 (f 10 332)),(d 41 166 .none),(d 43 167 .none),(d 44 168 (bi 19)),(d 45 169 .none),(d 46 170 (r 6)),(d 47 171 (r 4)),(d 48 173 (f 2 172)),(d 49 174 .none),(d 50 193 (r 21)),(d 22 213 (r 31)),(d 51 229 (r 44)),(d 52 245 (r 56)),(d 8 254 (r 65)),(d 53 262 (r 72)),(d 54 266 (f 55 265)),(d 56 268 (j 8 267)),(d 57 274 (r 77)),(d 58 307 (r 94)),(d 14 315 (r 103)),(d 36 323 (r 110)),(d 59 331 (r 117)),(d 11 353 (r 127)),(d 65 397 (r 162)),(d 60 450 (r 202)),(d 87 503 (r 242)),(d 109 556 (r 282)),(d 101 609 (r 322)),(d 77 665 (r 362))] 29
def o3G:Obj:=fd #[(i 1),(i 0),(r 20),(i 5),(i 0),(r 27),(i 7),(i 0),(r 40),(i 9),(i 0),(r 52),(i 12),(i 0),(r 64),(i 14),(i 0),(r 71),(i 19),(i 0),(r 76),(i 23),(i 0),(r 83),(i 34),(i 0),(r 102),(i 38),(i 0),(r 109),(i 44),(i 0),(r 116),(i 50),(i 0),(r 123),(i 52),(i 0),(r 137),(i 62),(i 0),(r 170),(i 76),(i 0),(r 210),(i 90),(i 0),(r 250),(i 105),(i 0),(r 290),(i 119),(i 0),(r 330)]
def o3H:Obj:=(Obj.mk (.type (t 6)) none (.cls (ClassData.mk (s 11) [(T 7)] [(r 127),(T 7)] 126 (s 11) true [] [(r 162),(r 202),(r 242),(r 282),(r 322),(r 362)] false none false)) #[none,none,(some (f 11 334)),(some (f 11 342)),(some (bi 8)),(some (.bool true))])
def o3I:Obj:=di #[(d 29 617 (f 10 332)),(d 30 619 (f 77 618)),(d 31 621 (j 119 620)),(d 0 629 (r 338)),(d 26 637 (r 345)),(d 12 648 (r 352)),(d 32 660 (r 359)),(d 33 662 (r 360))] 8
def o3J:Obj:=fd #[(i 121),(i 4),(r 337),(i 125),(i 4),(r 344),(i 128),(i 4),(r 351),(i 132),(i 4),(r 358)]
def o3K:Obj:=ob 1 #[(f 77 612),(f 77 613),(f 2 614),(i 119),(i 0),(i 0),(i 0),(i 0),(r 328),(.bool false),(i 181),(r 329),u,u,u,u,(i 615),(i 119),(f 2 616)]
def o3L:Obj:=(Obj.mk (.type (t 9)) none .plain #[(some (r 330)),(some (r 3)),(some (r 327)),none,(some (f 10 332)),none,(some (r 0))])
def o3M:Obj:=sq 0 #[(f 15 625),(f 16 626)]
def o3N:Obj:=fn 0 38 (inClass (stm 24) 0)
def o3O:Obj:=ob 1 #[(f 0 622),(f 38 623),(f 2 624),(i 121),(i 2),(i 0),(i 0),(i 3),(r 332),(.bool true),(i 181),(r 333),u,(r 334),(r 335),(r 336),(i 627),(i 121),(f 2 628)]
def o3P:Obj:=fo 5 0 38 (inClass (stm 24) 0) 3 [] .none .none .none 10 332 337
def o3Q:Obj:=sq 0 #[(f 15 633),(f 34 634)]
def o3R:Obj:=fn 26 85 (inClass (stm 24) 1)
def o3S:Obj:=ob 1 #[(f 26 630),(f 85 631),(f 2 632),(i 125),(i 2),(i 0),(i 0),(i 3),(r 339),(.bool true),(i 181),(r 340),u,(r 341),(r 342),(r 343),(i 635),(i 125),(f 2 636)]
def o3T:Obj:=fo 5 26 85 (inClass (stm 24) 1) 3 [] .none .none .none 10 332 344
def o3U:Obj:=sq 0 #[(f 15 641),(f 102 642),(f 103 643),(f 104 644),(f 6 645)]
def o3V:Obj:=fn 12 86 (inClass (stm 24) 2)
def o3W:Obj:=ob 1 #[(f 12 638),(f 86 639),(f 2 640),(i 128),(i 4),(i 0),(i 0),(i 3),(r 346),(.bool true),(i 181),(r 347),u,(r 348),(r 349),(r 350),(i 646),(i 128),(f 2 647)]
def o3X:Obj:=fo 5 12 86 (inClass (stm 24) 2) 3 [] .none .none .none 10 332 351
def o3Y:Obj:=sq 0 #[(f 15 652),(f 74 653),(f 75 654),(f 62 655),(f 105 656),(f 6 657)]
def o3Z:Obj:=fn 32 89 (inClass (stm 24) 3)
def o40:Obj:=ob 1 #[(f 32 649),(f 89 650),(f 2 651),(i 132),(i 4),(i 0),(i 0),(i 3),(r 353),(.bool true),(i 181),(r 354),u,(r 355),(r 356),(r 357),(i 658),(i 132),(f 2 659)]
def o41:Obj:=fo 5 32 89 (inClass (stm 24) 3) 3 [] .none .none .none 10 332 358
def o42:Obj:=sq 0 #[(f 16 661)]
def o43:Obj:=di #[(d 29 617 (f 10 332)),(d 31 621 (j 119 620)),(d 0 629 (r 338)),(d 26 637 (r 345)),(d 12 648 (r 352)),(d 32 660 (r 359)),(d 33 662 (r 360)),(d 41 663 .none)] 2
def o44:Obj:=(Obj.mk (.type (t 6)) none (.cls (ClassData.mk (s 77) [(r 127)] [(r 362),(r 127),(T 7)] 361 (s 77) true [] [] false none false)) #[(some (r 325)),none,(some (f 77 610)),(some (f 77 618)),(some (bi 8)),(some (.bool true))])
def o45:Obj:=ob 4 #[(r 362),(r 362),(r 362)]
def o46:Obj:=ob 2 #[(bi 3),(r 362)]
def o47:Obj:=di #[(d 42 165 (f 10 332)),(d 41 166 .none),(d 43 167 .none),(d 44 168 (bi 19)),(d 45 169 .none),(d 46 170 (r 6)),(d 47 171 (r 4)),(d 48 173 (f 2 172)),(d 49 174 .none),(d 50 193 (r 21)),(d 22 213 (r 31)),(d 51 229 (r 44)),(d 52 245 (r 56)),(d 8 254 (r 65)),(d 53 262 (r 72)),(d 54 266 (f 55 265)),(d 56 268 (j 8 267)),(d 57 274 (r 77)),(d 58 307 (r 94)),(d 14 315 (r 103)),(d 36 323 (r 110)),(d 59 331 (r 117)),(d 11 353 (r 127)),(d 65 397 (r 162)),(d 60 450 (r 202)),(d 87 503 (r 242)),(d 109 556 (r 282)),(d 101 609 (r 322)),(d 77 665 (r 362)),(d 7 721 (r 402)),(d 80 728 (r 411))] 31
def o48:Obj:=fd #[(i 1),(i 0),(r 20),(i 5),(i 0),(r 27),(i 7),(i 0),(r 40),(i 9),(i 0),(r 52),(i 12),(i 0),(r 64),(i 14),(i 0),(r 71),(i 19),(i 0),(r 76),(i 23),(i 0),(r 83),(i 34),(i 0),(r 102),(i 38),(i 0),(r 109),(i 44),(i 0),(r 116),(i 50),(i 0),(r 123),(i 52),(i 0),(r 137),(i 62),(i 0),(r 170),(i 76),(i 0),(r 210),(i 90),(i 0),(r 250),(i 105),(i 0),(r 290),(i 119),(i 0),(r 330),(i 137),(i 0),(r 370),(i 155),(i 0),(r 410)]
def o49:Obj:=(Obj.mk (.type (t 6)) none (.cls (ClassData.mk (s 11) [(T 7)] [(r 127),(T 7)] 126 (s 11) true [] [(r 162),(r 202),(r 242),(r 282),(r 322),(r 362),(r 402)] false none false)) #[none,none,(some (f 11 334)),(some (f 11 342)),(some (bi 8)),(some (.bool true))])
def o4a:Obj:=di #[(d 29 673 (f 10 332)),(d 30 675 (f 7 674)),(d 31 677 (j 137 676)),(d 0 685 (r 378)),(d 26 693 (r 385)),(d 12 704 (r 392)),(d 32 716 (r 399)),(d 33 718 (r 400))] 8
def o4b:Obj:=fd #[(i 139),(i 4),(r 377),(i 143),(i 4),(r 384),(i 146),(i 4),(r 391),(i 150),(i 4),(r 398)]
def o4c:Obj:=ob 1 #[(f 7 668),(f 7 669),(f 2 670),(i 137),(i 0),(i 0),(i 0),(i 0),(r 368),(.bool false),(i 181),(r 369),u,u,u,u,(i 671),(i 137),(f 2 672)]
def o4d:Obj:=(Obj.mk (.type (t 9)) none .plain #[(some (r 370)),(some (r 3)),(some (r 367)),none,(some (f 10 332)),none,(some (r 0))])
def o4e:Obj:=sq 0 #[(f 15 681),(f 16 682)]
def o4f:Obj:=fn 0 93 (inClass (stm 25) 0)
def o4g:Obj:=ob 1 #[(f 0 678),(f 93 679),(f 2 680),(i 139),(i 2),(i 0),(i 0),(i 3),(r 372),(.bool true),(i 181),(r 373),u,(r 374),(r 375),(r 376),(i 683),(i 139),(f 2 684)]
def o4h:Obj:=fo 5 0 93 (inClass (stm 25) 0) 3 [] .none .none .none 10 332 377
def o4i:Obj:=sq 0 #[(f 15 689),(f 34 690)]
def o4j:Obj:=fn 26 27 (inClass (stm 25) 1)
def o4k:Obj:=ob 1 #[(f 26 686),(f 27 687),(f 2 688),(i 143),(i 2),(i 0),(i 0),(i 3),(r 379),(.bool true),(i 181),(r 380),u,(r 381),(r 382),(r 383),(i 691),(i 143),(f 2 692)]
def o4l:Obj:=fo 5 26 27 (inClass (stm 25) 1) 3 [] .none .none .none 10 332 384
def o4m:Obj:=sq 0 #[(f 15 697),(f 102 698),(f 103 699),(f 104 700),(f 6 701)]
def o4n:Obj:=fn 12 35 (inClass (stm 25) 2)
def o4o:Obj:=ob 1 #[(f 12 694),(f 35 695),(f 2 696),(i 146),(i 4),(i 0),(i 0),(i 3),(r 386),(.bool true),(i 181),(r 387),u,(r 388),(r 389),(r 390),(i 702),(i 146),(f 2 703)]
def o4p:Obj:=fo 5 12 35 (inClass (stm 25) 2) 3 [] .none .none .none 10 332 391
def o4q:Obj:=sq 0 #[(f 15 708),(f 74 709),(f 75 710),(f 62 711),(f 105 712),(f 6 713)]
def o4r:Obj:=fn 32 66 (inClass (stm 25) 3)
def o4s:Obj:=ob 1 #[(f 32 705),(f 66 706),(f 2 707),(i 150),(i 4),(i 0),(i 0),(i 3),(r 393),(.bool true),(i 181),(r 394),u,(r 395),(r 396),(r 397),(i 714),(i 150),(f 2 715)]
def o4t:Obj:=fo 5 32 66 (inClass (stm 25) 3) 3 [] .none .none .none 10 332 398
def o4u:Obj:=sq 0 #[(f 16 717)]
def o4v:Obj:=di #[(d 29 673 (f 10 332)),(d 31 677 (j 137 676)),(d 0 685 (r 378)),(d 26 693 (r 385)),(d 12 704 (r 392)),(d 32 716 (r 399)),(d 33 718 (r 400)),(d 41 719 .none)] 2
def o4w:Obj:=(Obj.mk (.type (t 6)) none (.cls (ClassData.mk (s 7) [(r 127)] [(r 402),(r 127),(T 7)] 401 (s 7) true [] [] false none false)) #[(some (r 365)),none,(some (f 7 666)),(some (f 7 674)),(some (bi 8)),(some (.bool true))])
def o4x:Obj:=ob 4 #[(r 402),(r 402),(r 402)]
def o4y:Obj:=ob 2 #[(bi 3),(r 402)]
def o4z:Obj:=sq 0 #[(f 97 725)]
def o4A:Obj:=fn 80 80 (stm 26)
def o4B:Obj:=ob 1 #[(f 80 722),(f 80 723),(f 2 724),(i 155),(i 1),(i 0),(i 0),(i 3),(r 405),(.bool true),(i 181),(r 406),u,(r 407),(r 408),(r 409),(i 726),(i 155),(f 2 727)]
def o4C:Obj:=fo 5 80 80 (stm 26) 3 [] .none .none .none 10 332 410
def o4D:Obj:=di #[(d 42 165 (f 18 793)),(d 41 166 .none),(d 43 167 .none),(d 44 168 (bi 19)),(d 45 169 .none),(d 46 170 (r 6)),(d 47 171 (r 4)),(d 48 173 (f 2 172)),(d 49 174 .none),(d 50 193 (r 21)),(d 22 213 (r 31)),(d 51 229 (r 44)),(d 52 245 (r 56)),(d 8 254 (r 65)),(d 53 262 (r 72)),(d 54 266 (f 55 265)),(d 56 268 (j 8 267)),(d 57 274 (r 77)),(d 58 307 (r 94)),(d 14 315 (r 103)),(d 36 323 (r 110)),(d 59 331 (r 117)),(d 11 353 (r 127)),(d 65 397 (r 162)),(d 60 450 (r 202)),(d 87 503 (r 242)),(d 109 556 (r 282)),(d 101 609 (r 322)),(d 77 665 (r 362)),(d 7 721 (r 402)),(d 80 728 (r 411)),(d 88 735 (r 418)),(d 9 743 (r 425)),(d 3 752 (r 432)),(d 111 760 (r 439)),(d 112 766 (r 444)),(d 113 776 (r 451)),(d 114 792 (r 458)),(d 106 802 (r 465)),(d 28 809 (r 472)),(d 98 819 (r 479)),(d 79 825 (r 484)),(d 107 837 (r 491))] 43
def o4E:Obj:=fd #[(i 1),(i 0),(r 20),(i 5),(i 0),(r 27),(i 7),(i 0),(r 40),(i 9),(i 0),(r 52),(i 12),(i 0),(r 64),(i 14),(i 0),(r 71),(i 19),(i 0),(r 76),(i 23),(i 0),(r 83),(i 34),(i 0),(r 102),(i 38),(i 0),(r 109),(i 44),(i 0),(r 116),(i 50),(i 0),(r 123),(i 52),(i 0),(r 137),(i 62),(i 0),(r 170),(i 76),(i 0),(r 210),(i 90),(i 0),(r 250),(i 105),(i 0),(r 290),(i 119),(i 0),(r 330),(i 137),(i 0),(r 370),(i 155),(i 0),(r 410),(i 158),(i 0),(r 417),(i 161),(i 0),(r 424),(i 166),(i 0),(r 431),(i 169),(i 0),(r 438),(i 171),(i 0),(r 443),(i 183),(i 0),(r 450),(i 190),(i 0),(r 457),(i 199),(i 0),(r 464),(i 203),(i 0),(r 471),(i 205),(i 0),(r 478),(i 215),(i 0),(r 483),(i 226),(i 0),(r 490)]
def o4F:Obj:=sq 0 #[(f 6 732)]
def o4G:Obj:=fn 88 88 (stm 27)
def o4H:Obj:=ob 1 #[(f 88 729),(f 88 730),(f 2 731),(i 158),(i 1),(i 0),(i 0),(i 3),(r 412),(.bool true),(i 181),(r 413),u,(r 414),(r 415),(r 416),(i 733),(i 158),(f 2 734)]
def o4I:Obj:=fo 5 88 88 (stm 27) 3 [] .none .none .none 10 332 417
def o4J:Obj:=sq 0 #[(f 16 739),(f 6 740)]
def o4K:Obj:=fn 9 9 (stm 28)
def o4L:Obj:=ob 1 #[(f 9 736),(f 9 737),(f 2 738),(i 161),(i 1),(i 0),(i 0),(i 3),(r 419),(.bool true),(i 181),(r 420),u,(r 421),(r 422),(r 423),(i 741),(i 161),(f 2 742)]
def o4M:Obj:=fo 5 9 9 (stm 28) 3 [] .none .none .none 10 332 424
def o4N:Obj:=sq 0 #[(f 121 747),(f 122 748),(f 123 749)]
def o4O:Obj:=fn 3 3 (stm 29)
def o4P:Obj:=ob 1 #[(f 3 744),(f 3 745),(f 2 746),(i 166),(i 2),(i 0),(i 0),(i 3),(r 426),(.bool true),(i 181),(r 427),u,(r 428),(r 429),(r 430),(i 750),(i 166),(f 2 751)]
def o4Q:Obj:=fo 5 3 3 (stm 29) 3 [] .none .none .none 10 332 431
def o4R:Obj:=sq 0 #[(f 146 756),(f 147 757)]
def o4S:Obj:=fn 111 111 (stm 30)
def o4T:Obj:=ob 1 #[(f 111 753),(f 111 754),(f 2 755),(i 169),(i 2),(i 0),(i 0),(i 3),(r 433),(.bool true),(i 181),(r 434),u,(r 435),(r 436),(r 437),(i 758),(i 169),(f 2 759)]
def o4U:Obj:=fo 5 111 111 (stm 30) 3 [] .none .none .none 10 332 438
def o4V:Obj:=fn 112 112 (stm 31)
def o4W:Obj:=ob 1 #[(f 112 761),(f 112 762),(f 2 763),(i 171),(i 1),(i 0),(i 0),(i 3),(r 440),(.bool true),(i 181),(r 441),u,u,u,(r 442),(i 764),(i 171),(f 2 765)]
def o4X:Obj:=fo 5 112 112 (stm 31) 3 [] .none .none .none 10 332 443
def o4Y:Obj:=sq 0 #[(f 61 770),(f 62 771),(f 63 772),(f 64 773)]
def o4Z:Obj:=fn 113 113 (stm 32)
def o50:Obj:=ob 1 #[(f 113 767),(f 113 768),(f 2 769),(i 183),(i 1),(i 0),(i 0),(i 3),(r 445),(.bool true),(i 181),(r 446),u,(r 447),(r 448),(r 449),(i 774),(i 183),(f 2 775)]
def o51:Obj:=fo 5 113 113 (stm 32) 3 [] .none .none .none 10 332 450
def o52:Obj:=sq 0 #[(f 135 780),(f 16 781),(f 74 782),(f 75 783),(f 62 784),(f 136 785),(f 20 786),(f 6 787),(f 137 788),(f 64 789)]
def o53:Obj:=fn 114 114 (stm 33)
def o54:Obj:=ob 1 #[(f 114 777),(f 114 778),(f 2 779),(i 190),(i 5),(i 0),(i 0),(i 3),(r 452),(.bool true),(i 181),(r 453),u,(r 454),(r 455),(r 456),(i 790),(i 190),(f 2 791)]
def o55:Obj:=fo 5 114 114 (stm 33) 3 [] .none .none .none 10 332 457
def o56:Obj:=sq 0 #[(f 71 798),(f 72 799)]
def o57:Obj:=fn 106 106 (stm 35)
def o58:Obj:=ob 1 #[(f 106 795),(f 106 796),(f 2 797),(i 199),(i 2),(i 0),(i 0),(i 3),(r 459),(.bool true),(i 181),(r 460),u,(r 461),(r 462),(r 463),(i 800),(i 199),(f 2 801)]
def o59:Obj:=fo 5 106 106 (stm 35) 3 [] .none .none .none 18 793 464
def o5a:Obj:=sq 0 #[(f 99 806)]
def o5b:Obj:=fn 28 28 (stm 36)
def o5c:Obj:=ob 1 #[(f 28 803),(f 28 804),(f 2 805),(i 203),(i 1),(i 0),(i 0),(i 3),(r 466),(.bool true),(i 181),(r 467),u,(r 468),(r 469),(r 470),(i 807),(i 203),(f 2 808)]
def o5d:Obj:=fo 5 28 28 (stm 36) 3 [] .none .none .none 18 793 471
def o5e:Obj:=sq 0 #[(f 94 813),(f 95 814),(f 69 815),(f 96 816)]
def o5f:Obj:=fn 98 98 (stm 37)
def o5g:Obj:=ob 1 #[(f 98 810),(f 98 811),(f 2 812),(i 205),(i 2),(i 0),(i 0),(i 3),(r 473),(.bool true),(i 181),(r 474),u,(r 475),(r 476),(r 477),(i 817),(i 205),(f 2 818)]
def o5h:Obj:=fo 5 98 98 (stm 37) 3 [] .none .none .none 18 793 478
def o5i:Obj:=fn 79 79 (stm 38)
def o5j:Obj:=ob 1 #[(f 79 820),(f 79 821),(f 2 822),(i 215),(i 1),(i 0),(i 0),(i 3),(r 480),(.bool true),(i 181),(r 481),u,u,u,(r 482),(i 823),(i 215),(f 2 824)]
def o5k:Obj:=fo 5 79 79 (stm 38) 3 [] .none .none .none 18 793 483
def o5l:Obj:=sq 0 #[(f 94 829),(f 143 830),(f 144 831),(f 140 832),(f 72 833),(f 132 834)]
def o5m:Obj:=fn 107 107 (stm 39)
def o5n:Obj:=ob 1 #[(f 107 826),(f 107 827),(f 2 828),(i 226),(i 2),(i 0),(i 0),(i 3),(r 485),(.bool true),(i 181),(r 486),u,(r 487),(r 488),(r 489),(i 835),(i 226),(f 2 836)]
def o5o:Obj:=fo 5 107 107 (stm 39) 3 [] .none .none .none 18 793 490
def o5p:Obj:=di #[(d 42 165 (f 18 793)),(d 41 166 .none),(d 43 167 .none),(d 44 168 (bi 19)),(d 45 169 .none),(d 46 170 (r 6)),(d 47 171 (r 4)),(d 48 173 (f 2 172)),(d 49 174 .none),(d 50 193 (r 21)),(d 22 213 (r 31)),(d 51 229 (r 44)),(d 52 245 (r 56)),(d 8 254 (r 65)),(d 53 262 (r 72)),(d 54 266 (f 55 265)),(d 56 268 (j 8 267)),(d 57 274 (r 77)),(d 58 307 (r 94)),(d 14 315 (r 103)),(d 36 323 (r 110)),(d 59 331 (r 117)),(d 11 353 (r 127)),(d 65 397 (r 162)),(d 60 450 (r 202)),(d 87 503 (r 242)),(d 109 556 (r 282)),(d 101 609 (r 322)),(d 77 665 (r 362)),(d 7 721 (r 402)),(d 80 728 (r 411)),(d 88 735 (r 418)),(d 9 743 (r 425)),(d 3 752 (r 432)),(d 111 760 (r 439)),(d 112 766 (r 444)),(d 113 776 (r 451)),(d 114 792 (r 458)),(d 106 802 (r 465)),(d 28 809 (r 472)),(d 98 819 (r 479)),(d 79 825 (r 484)),(d 107 837 (r 491)),(d 21 843 (r 496)),(d 23 849 (r 501)),(d 92 855 (r 506)),(d 115 865 (r 513)),(d 116 873 (r 520)),(d 24 879 (r 525)),(d 90 885 (r 530)),(d 17 904 (r 537))] 51
def o5q:Obj:=fd #[(i 1),(i 0),(r 20),(i 5),(i 0),(r 27),(i 7),(i 0),(r 40),(i 9),(i 0),(r 52),(i 12),(i 0),(r 64),(i 14),(i 0),(r 71),(i 19),(i 0),(r 76),(i 23),(i 0),(r 83),(i 34),(i 0),(r 102),(i 38),(i 0),(r 109),(i 44),(i 0),(r 116),(i 50),(i 0),(r 123),(i 52),(i 0),(r 137),(i 62),(i 0),(r 170),(i 76),(i 0),(r 210),(i 90),(i 0),(r 250),(i 105),(i 0),(r 290),(i 119),(i 0),(r 330),(i 137),(i 0),(r 370),(i 155),(i 0),(r 410),(i 158),(i 0),(r 417),(i 161),(i 0),(r 424),(i 166),(i 0),(r 431),(i 169),(i 0),(r 438),(i 171),(i 0),(r 443),(i 183),(i 0),(r 450),(i 190),(i 0),(r 457),(i 199),(i 0),(r 464),(i 203),(i 0),(r 471),(i 205),(i 0),(r 478),(i 215),(i 0),(r 483),(i 226),(i 0),(r 490),(i 238),(i 0),(r 495),(i 246),(i 0),(r 500),(i 260),(i 0),(r 505),(i 274),(i 0),(r 512),(i 286),(i 0),(r 519),(i 291),(i 0),(r 524),(i 301),(i 0),(r 529),(i 310),(i 0),(r 536)]
def o5r:Obj:=fn 21 21 (stm 40)
def o5s:Obj:=ob 1 #[(f 21 838),(f 21 839),(f 2 840),(i 238),(i 3),(i 0),(i 0),(i 3),(r 492),(.bool true),(i 181),(r 493),u,u,u,(r 494),(i 841),(i 238),(f 2 842)]
def o5t:Obj:=fo 5 21 21 (stm 40) 3 [] .none .none .none 18 793 495
def o5u:Obj:=fn 23 23 (stm 41)
def o5v:Obj:=ob 1 #[(f 23 844),(f 23 845),(f 2 846),(i 246),(i 1),(i 0),(i 0),(i 3),(r 497),(.bool true),(i 181),(r 498),u,u,u,(r 499),(i 847),(i 246),(f 2 848)]
def o5w:Obj:=fo 5 23 23 (stm 41) 3 [] .none .none .none 18 793 500
def o5x:Obj:=fn 92 92 (stm 42)
def o5y:Obj:=ob 1 #[(f 92 850),(f 92 851),(f 2 852),(i 260),(i 2),(i 0),(i 0),(i 3),(r 502),(.bool true),(i 181),(r 503),u,u,u,(r 504),(i 853),(i 260),(f 2 854)]
def o5z:Obj:=fo 5 92 92 (stm 42) 3 [] .none .none .none 18 793 505
def o5A:Obj:=sq 0 #[(f 67 859),(f 68 860),(f 69 861),(f 70 862)]
def o5B:Obj:=fn 115 115 (stm 43)
def o5C:Obj:=ob 1 #[(f 115 856),(f 115 857),(f 2 858),(i 274),(i 2),(i 0),(i 0),(i 3),(r 507),(.bool true),(i 181),(r 508),u,(r 509),(r 510),(r 511),(i 863),(i 274),(f 2 864)]
def o5D:Obj:=fo 5 115 115 (stm 43) 3 [] .none .none .none 18 793 512
def o5E:Obj:=sq 0 #[(f 140 869),(f 141 870)]
def o5F:Obj:=fn 116 116 (stm 44)
def o5G:Obj:=ob 1 #[(f 116 866),(f 116 867),(f 2 868),(i 286),(i 1),(i 0),(i 0),(i 3),(r 514),(.bool true),(i 181),(r 515),u,(r 516),(r 517),(r 518),(i 871),(i 286),(f 2 872)]
def o5H:Obj:=fo 5 116 116 (stm 44) 3 [] .none .none .none 18 793 519
def o5I:Obj:=fn 24 24 (stm 45)
def o5J:Obj:=ob 1 #[(f 24 874),(f 24 875),(f 2 876),(i 291),(i 1),(i 0),(i 0),(i 3),(r 521),(.bool true),(i 181),(r 522),u,u,u,(r 523),(i 877),(i 291),(f 2 878)]
def o5K:Obj:=fo 5 24 24 (stm 45) 3 [] .none .none .none 18 793 524
def o5L:Obj:=fn 90 90 (stm 46)
def o5M:Obj:=ob 1 #[(f 90 880),(f 90 881),(f 2 882),(i 301),(i 4),(i 0),(i 0),(i 3),(r 526),(.bool true),(i 181),(r 527),u,u,u,(r 528),(i 883),(i 301),(f 2 884)]
def o5N:Obj:=fo 5 90 90 (stm 46) 3 [] .none .none .none 18 793 529
def o5O:Obj:=sq 0 #[(f 71 889),(f 126 890),(f 94 891),(f 127 892),(f 128 893),(f 129 894),(f 130 895),(f 131 896),(f 72 897),(f 69 898),(f 68 899),(f 132 900),(f 67 901)]
def o5P:Obj:=fn 17 17 (stm 47)
def o5Q:Obj:=ob 1 #[(f 17 886),(f 17 887),(f 2 888),(i 310),(i 1),(i 0),(i 0),(i 3),(r 531),(.bool true),(i 181),(r 532),u,(r 533),(r 534),(r 535),(i 902),(i 310),(f 2 903)]
def o5R:Obj:=fo 5 17 17 (stm 47) 3 [] .none .none .none 18 793 536
def o5S:Obj:=(Obj.mk .none none (.dict #[] 0) #[])
def b0:Obj:=boot_o_0 c.P
def b1:Obj:=boot_o_1 c.P
def b2:Obj:=boot_o_2 c.P
def b3:Obj:=boot_o_3 c.P
def b4:Obj:=boot_o_4 c.P
def b5:Obj:=boot_o_5 c.P
def b6:Obj:=boot_o_6 c.P
def b7:Obj:=boot_o_7 c.P
def b8:Obj:=boot_o_8 c.P
def b9:Obj:=boot_o_9 c.P
def b10:Obj:=boot_o_10 c.P
def q00:BT:=(N o13 (N o1M L L) L)
def q01:BT:=(N o0b (N o1C L L) L)
def q02:BT:=(N o0W (N o1H L L) L)
def q03:BT:=(N o01 (N o1s L L) L)
def q04:BT:=(N o00 (N o1P L L) L)
def q05:BT:=(N o0U (N o01 L L) L)
def q06:BT:=(N o0Z (N o1J L L) L)
def q07:BT:=(N o0I (N o1q L L) L)
def q08:BT:=(N o15 (N o1N L L) L)
def q09:BT:=(N o00 (N o1E L L) L)
def q0a:BT:=(N o0X (N o00 L L) L)
def q0b:BT:=(N o00 (N o00 L L) L)
def q0c:BT:=(N o0P (N o1B L L) L)
def q0d:BT:=(N o11 (N o1K L L) L)
def q0e:BT:=(N o0H (N o1p L L) L)
def q0f:BT:=(N o14 (N o00 L L) L)
def q0g:BT:=(N o0S (N o1D L L) L)
def q0h:BT:=(N o00 (N o1I L L) L)
def q0i:BT:=(N o01 (N o1Q L L) L)
def q0j:BT:=(N o0V (N o1F L L) L)
def q0k:BT:=(N o10 (N o00 L L) L)
def q0l:BT:=(N o00 (N o1r L L) L)
def q0m:BT:=(N o16 (N o1O L L) L)
def q0n:BT:=(N o0T (N o00 L L) L)
def q0o:BT:=(N o0Y (N o01 L L) L)
def q0p:BT:=(N o01 (N o1G L L) L)
def q0q:BT:=(N o12 (N o1L L L) L)
def tree_213_:BT:=(N b0 (N b1 (N o1t (N b7 (N o00 (N o0x (N o0G (N o1v L L) L) q00) (N o0n q01 (N o00 L L))) (N o0b (N o01 (N o0L (N o00 L L) L) (N o19 L L)) (N o0B q02 (N o0b L L)))) (N o00 (N o07 (N o0n q03 q04) (N o01 q05 (N o1f L L))) (N o0d (N o0r (N o0N (N o00 L L) L) (N o00 L L)) (N o00 q06 (N o1l L L))))) (N b5 (N b9 (N o06 (N o0i q07 q08) (N o0y q09 (N o1e L L))) (N o00 (N o0q (N o00 (N o1z L L) L) (N o01 L L)) (N o0D q0a (N o00 L L)))) (N o02 (N o09 (N o0o (N o00 (N o0b L L) L) (N o17 L L)) (N o0A q0b (N o1h L L))) (N o00 (N o0t q0c (N o1c L L)) (N o0F q0d (N o00 L L)))))) (N b2 (N b4 (N b8 (N o01 (N o0h q0e q0f) (N o0b q0g (N o01 L L))) (N o0c (N o0p (N o0M (N o1y L L) L) (N o00 L L)) (N o0C q0h (N o1k L L)))) (N o1u (N o08 (N o0b (N o0J (N o1w L L) L) q0i) (N o0z q0j (N o1g L L))) (N o0e (N o0s (N o0O (N o01 L L) L) (N o1b L L)) (N o01 q0k (N o1m L L))))) (N b6 (N b10 (N o00 (N o0j q0l q0m) (N o00 q0n (N o00 L L))) (N o01 (N o00 (N o01 (N o1A L L) L) (N o1a L L)) (N o0E q0o (N o01 L L)))) (N o03 (N o0a (N o00 (N o0K (N o1x L L) L) (N o18 L L)) (N o00 q0p (N o00 L L))) (N o0f (N o0u q0b (N o1d L L)) (N o00 q0q (N o1n L L)))))))
def q0r:BT:=(N o13 (N o1M L L) (N o2v L L))
def q0s:BT:=(N o1C (N o32 L L) L)
def q0t:BT:=(N o0b q0s (N o2m L L))
def q0u:BT:=(N o00 (N o00 L L) (N o2F L L))
def q0v:BT:=(N o00 (N o2X L L) L)
def q0w:BT:=(N o0L q0v (N o2d L L))
def q0x:BT:=(N o19 (N o1U L L) (N o2A L L))
def q0y:BT:=(N o1H (N o37 L L) L)
def q0z:BT:=(N o0W q0y (N o00 L L))
def q0A:BT:=(N o1s (N o00 L L) L)
def q0B:BT:=(N o00 (N o1P L L) (N o01 L L))
def q0C:BT:=(N o01 (N o34 L L) L)
def q0D:BT:=(N o0U q0C (N o2p L L))
def q0E:BT:=(N o1f (N o00 L L) (N o2J L L))
def q0F:BT:=(N o00 (N o01 L L) L)
def q0G:BT:=(N o0N q0F (N o2h L L))
def q0H:BT:=(N o00 (N o1X L L) (N o2C L L))
def q0I:BT:=(N o1J (N o3b L L) L)
def q0J:BT:=(N o0Z q0I (N o00 L L))
def q0K:BT:=(N o1q (N o2U L L) L)
def q0L:BT:=(N o15 (N o1N L L) (N o2x L L))
def q0M:BT:=(N o1E (N o00 L L) L)
def q0N:BT:=(N o00 q0M (N o2n L L))
def q0O:BT:=(N o1e (N o20 L L) (N o2H L L))
def q0P:BT:=(N o1z (N o2Z L L) L)
def q0Q:BT:=(N o00 q0P (N o2f L L))
def q0R:BT:=(N o01 (N o1V L L) (N o00 L L))
def q0S:BT:=(N o00 (N o39 L L) L)
def q0T:BT:=(N o0X q0S (N o2s L L))
def q0U:BT:=(N o0b (N o2W L L) L)
def q0V:BT:=(N o00 q0U (N o2b L L))
def q0W:BT:=(N o17 (N o1w L L) (N o00 L L))
def q0X:BT:=(N o00 (N o35 L L) L)
def q0Y:BT:=(N o00 q0X (N o01 L L))
def q0Z:BT:=(N o1B (N o00 L L) L)
def q10:BT:=(N o0P q0Z (N o1w L L))
def q11:BT:=(N o1c (N o01 L L) (N o2D L L))
def q12:BT:=(N o11 (N o1K L L) (N o2u L L))
def q13:BT:=(N o00 (N o00 L L) (N o01 L L))
def q14:BT:=(N o1p (N o2T L L) L)
def q15:BT:=(N o14 (N o00 L L) (N o2w L L))
def q16:BT:=(N o1D (N o33 L L) L)
def q17:BT:=(N o0S q16 (N o00 L L))
def q18:BT:=(N o01 (N o1Z L L) (N o2G L L))
def q19:BT:=(N o1y (N o2Y L L) L)
def q1a:BT:=(N o0M q19 (N o2e L L))
def q1b:BT:=(N o00 (N o00 L L) (N o2B L L))
def q1c:BT:=(N o1I (N o38 L L) L)
def q1d:BT:=(N o00 q1c (N o2r L L))
def q1e:BT:=(N o1w (N o01 L L) L)
def q1f:BT:=(N o01 (N o1Q L L) (N o2y L L))
def q1g:BT:=(N o1F (N o00 L L) L)
def q1h:BT:=(N o0V q1g (N o00 L L))
def q1i:BT:=(N o1g (N o01 L L) (N o2K L L))
def q1j:BT:=(N o01 (N o30 L L) L)
def q1k:BT:=(N o0O q1j (N o2i L L))
def q1l:BT:=(N o1b (N o00 L L) (N o00 L L))
def q1m:BT:=(N o00 (N o3c L L) L)
def q1n:BT:=(N o10 q1m (N o01 L L))
def q1o:BT:=(N o1r (N o2V L L) L)
def q1p:BT:=(N o16 (N o1O L L) (N o00 L L))
def q1q:BT:=(N o0T q0F (N o2o L L))
def q1r:BT:=(N o00 (N o21 L L) (N o2I L L))
def q1s:BT:=(N o1A (N o00 L L) L)
def q1t:BT:=(N o01 q1s (N o2g L L))
def q1u:BT:=(N o1a (N o1W L L) (N o01 L L))
def q1v:BT:=(N o01 (N o3a L L) L)
def q1w:BT:=(N o0Y q1v (N o2t L L))
def q1x:BT:=(N o1x (N o00 L L) L)
def q1y:BT:=(N o0K q1x (N o2c L L))
def q1z:BT:=(N o18 (N o0b L L) (N o2z L L))
def q1A:BT:=(N o1G (N o36 L L) L)
def q1B:BT:=(N o01 q1A (N o2q L L))
def q1C:BT:=(N o00 (N o00 L L) (N o0b L L))
def q1D:BT:=(N o00 (N o31 L L) L)
def q1E:BT:=(N o00 q1D (N o0b L L))
def q1F:BT:=(N o1d (N o1Y L L) (N o2E L L))
def q1G:BT:=(N o12 (N o1L L L) (N o00 L L))
def tree_342_:BT:=(N b0 (N b1 (N o2L (N b7 (N o00 (N o0x (N o0G (N o2N (N o00 L L) L) (N o28 L L)) q0r) (N o0n q0t q0u)) (N o0b (N o01 q0w q0x) (N o0B q0z (N o0b (N o23 L L) (N o2O L L))))) (N o00 (N o07 (N o0n (N o01 q0A (N o2a L L)) q0B) (N o01 q0D q0E)) (N o0d (N o0r q0G q0H) (N o00 q0J (N o1l (N o01 L L) (N o2R L L)))))) (N b5 (N b9 (N o06 (N o0i (N o0I q0K (N o00 L L)) q0L) (N o0y q0N q0O)) (N o00 (N o0q q0Q q0R) (N o0D q0T (N o00 (N o25 L L) (N o2P L L))))) (N o02 (N o09 (N o0o q0V q0W) (N o0A q0Y (N o1h (N o22 L L) (N o1w L L)))) (N o00 (N o0t q10 q11) (N o0F q12 q13))))) (N b2 (N b4 (N b8 (N o01 (N o0h (N o0H q14 (N o29 L L)) q15) (N o0b q17 q18)) (N o0c (N o0p q1a q1b) (N o0C q1d (N o1k (N o24 L L) (N o00 L L))))) (N o2M (N o08 (N o0b (N o0J q1e (N o00 L L)) q1f) (N o0z q1h q1i)) (N o0e (N o0s q1k q1l) (N o01 q1n (N o1m (N o26 L L) (N o00 L L)))))) (N b6 (N b10 (N o00 (N o0j (N o00 q1o (N o01 L L)) q1p) (N o00 q1q q1r)) (N o01 (N o00 q1t q1u) (N o0E q1w (N o01 (N o00 L L) (N o2Q L L))))) (N o03 (N o0a (N o00 q1y q1z) (N o00 q1B q1C)) (N o0f (N o0u q1E q1F) (N o00 q1G (N o1n (N o27 L L) (N o2S L L))))))))
def q1H:BT:=(N o28 (N o3z L L) L)
def q1I:BT:=(N o1M (N o3g L L) L)
def q1J:BT:=(N o13 q1I (N o2v (N o3W L L) L))
def q1K:BT:=(N o2m (N o00 L L) L)
def q1L:BT:=(N o00 (N o3p L L) L)
def q1M:BT:=(N o00 q1L (N o2F L L))
def q1N:BT:=(N o2d (N o3I L L) L)
def q1O:BT:=(N o1U (N o00 L L) L)
def q1P:BT:=(N o19 q1O (N o2A (N o41 L L) L))
def q1Q:BT:=(N o00 (N o3R L L) L)
def q1R:BT:=(N o23 (N o3u L L) L)
def q1S:BT:=(N o0b q1R (N o2O L L))
def q1T:BT:=(N o2a (N o3D L L) L)
def q1U:BT:=(N o1P (N o3j L L) L)
def q1V:BT:=(N o00 q1U (N o01 (N o3Y L L) L))
def q1W:BT:=(N o2p (N o00 L L) L)
def q1X:BT:=(N o1f q0F (N o2J L L))
def q1Y:BT:=(N o2h (N o3L L L) L)
def q1Z:BT:=(N o1X (N o00 L L) L)
def q20:BT:=(N o00 q1Z (N o2C (N o45 L L) L))
def q21:BT:=(N o01 (N o3w L L) L)
def q22:BT:=(N o1l q21 (N o2R L L))
def q23:BT:=(N o00 (N o3B L L) L)
def q24:BT:=(N o1N (N o3h L L) L)
def q25:BT:=(N o15 q24 (N o2x (N o00 L L) L))
def q26:BT:=(N o2n (N o3O L L) L)
def q27:BT:=(N o20 (N o3r L L) L)
def q28:BT:=(N o1e q27 (N o2H L L))
def q29:BT:=(N o2f (N o3J L L) L)
def q2a:BT:=(N o1V (N o3m L L) L)
def q2b:BT:=(N o01 q2a (N o00 (N o43 L L) L))
def q2c:BT:=(N o2s (N o3T L L) L)
def q2d:BT:=(N o25 (N o00 L L) L)
def q2e:BT:=(N o00 q2d (N o2P L L))
def q2f:BT:=(N o2b (N o1w L L) L)
def q2g:BT:=(N o17 q1e (N o00 (N o3Z L L) L))
def q2h:BT:=(N o01 (N o3Q L L) L)
def q2i:BT:=(N o22 (N o00 L L) L)
def q2j:BT:=(N o1h q2i (N o1w L L))
def q2k:BT:=(N o01 (N o3o L L) L)
def q2l:BT:=(N o1c q2k (N o2D L L))
def q2m:BT:=(N o1K (N o1w L L) L)
def q2n:BT:=(N o11 q2m (N o2u (N o00 L L) L))
def q2o:BT:=(N o00 (N o3x L L) L)
def q2p:BT:=(N o00 q2o (N o01 L L))
def q2q:BT:=(N o29 (N o3A L L) L)
def q2r:BT:=(N o14 q0b (N o2w (N o3X L L) L))
def q2s:BT:=(N o00 (N o3N L L) L)
def q2t:BT:=(N o1Z (N o3q L L) L)
def q2u:BT:=(N o01 q2t (N o2G L L))
def q2v:BT:=(N o2e (N o00 L L) L)
def q2w:BT:=(N o00 (N o3l L L) L)
def q2x:BT:=(N o00 q2w (N o2B (N o42 L L) L))
def q2y:BT:=(N o2r (N o3S L L) L)
def q2z:BT:=(N o24 (N o3v L L) L)
def q2A:BT:=(N o1k q2z (N o00 L L))
def q2B:BT:=(N o00 (N o3E L L) L)
def q2C:BT:=(N o1Q (N o00 L L) L)
def q2D:BT:=(N o01 q2C (N o2y (N o00 L L) L))
def q2E:BT:=(N o01 (N o3s L L) L)
def q2F:BT:=(N o1g q2E (N o2K L L))
def q2G:BT:=(N o2i (N o00 L L) L)
def q2H:BT:=(N o00 (N o46 L L) L)
def q2I:BT:=(N o10 q1m (N o01 (N o3U L L) L))
def q2J:BT:=(N o26 (N o00 L L) L)
def q2K:BT:=(N o1m q2J (N o00 L L))
def q2L:BT:=(N o01 (N o3C L L) L)
def q2M:BT:=(N o1O (N o3i L L) L)
def q2N:BT:=(N o2o (N o3P L L) L)
def q2O:BT:=(N o21 (N o00 L L) L)
def q2P:BT:=(N o00 q2O (N o2I L L))
def q2Q:BT:=(N o2g (N o3K L L) L)
def q2R:BT:=(N o1W (N o3n L L) L)
def q2S:BT:=(N o1a q2R (N o01 (N o44 L L) L))
def q2T:BT:=(N o2t (N o00 L L) L)
def q2U:BT:=(N o01 q0F (N o2Q L L))
def q2V:BT:=(N o2c (N o0b L L) L)
def q2W:BT:=(N o0b (N o3k L L) L)
def q2X:BT:=(N o18 q2W (N o2z (N o40 L L) L))
def q2Y:BT:=(N o2q (N o00 L L) L)
def q2Z:BT:=(N o00 (N o3t L L) L)
def q30:BT:=(N o00 q2Z (N o0b L L))
def q31:BT:=(N o0b (N o3M L L) L)
def q32:BT:=(N o1Y (N o00 L L) L)
def q33:BT:=(N o1d q32 (N o2E L L))
def q34:BT:=(N o1L (N o0b L L) L)
def q35:BT:=(N o12 q34 (N o00 (N o3V L L) L))
def q36:BT:=(N o27 (N o3y L L) L)
def q37:BT:=(N o1n q36 (N o2S L L))
def tree_428_:BT:=(N b0 (N b1 (N o3F (N b7 (N o00 (N o0x (N o0G (N o3H (N o00 L L) L) q1H) q1J) (N o0n (N o0b q0s q1K) q1M)) (N o0b (N o01 (N o0L q0v q1N) q1P) (N o0B (N o0W q0y q1Q) q1S))) (N o00 (N o07 (N o0n (N o01 q0A q1T) q1V) (N o01 (N o0U q0C q1W) q1X)) (N o0d (N o0r (N o0N q0F q1Y) q20) (N o00 (N o0Z q0I q0F) q22)))) (N b5 (N b9 (N o06 (N o0i (N o0I q0K q23) q25) (N o0y (N o00 q0M q26) q28)) (N o00 (N o0q (N o00 q0P q29) q2b) (N o0D (N o0X q0S q2c) q2e))) (N o02 (N o09 (N o0o (N o00 q0U q2f) q2g) (N o0A (N o00 q0X q2h) q2j)) (N o00 (N o0t (N o0P q0Z q1e) q2l) (N o0F q2n q2p))))) (N b2 (N b4 (N b8 (N o01 (N o0h (N o0H q14 q2q) q2r) (N o0b (N o0S q16 q2s) q2u)) (N o0c (N o0p (N o0M q19 q2v) q2x) (N o0C (N o00 q1c q2y) q2A))) (N o3G (N o08 (N o0b (N o0J q1e q2B) q2D) (N o0z (N o0V q1g q0F) q2F)) (N o0e (N o0s (N o0O q1j q2G) (N o1b q0F q2H)) (N o01 q2I q2K)))) (N b6 (N b10 (N o00 (N o0j (N o00 q1o q2L) (N o16 q2M q0F)) (N o00 (N o0T q0F q2N) q2P)) (N o01 (N o00 (N o01 q1s q2Q) q2S) (N o0E (N o0Y q1v q2T) q2U))) (N o03 (N o0a (N o00 (N o0K q1x q2V) q2X) (N o00 (N o01 q1A q2Y) q30)) (N o0f (N o0u (N o00 q1D q31) q33) (N o00 q35 q37))))))
def q38:BT:=(N o28 (N o3z L L) (N o4Y L L))
def q39:BT:=(N o13 (N o1M (N o3g L L) (N o00 L L)) (N o2v (N o3W L L) (N o5h L L)))
def q3a:BT:=(N o2m (N o00 L L) (N o57 L L))
def q3b:BT:=(N o00 (N o3p L L) (N o4P L L))
def q3c:BT:=(N o2d (N o3I L L) (N o00 L L))
def q3d:BT:=(N o19 (N o1U (N o00 L L) (N o4K L L)) (N o2A (N o41 L L) (N o5l L L)))
def q3e:BT:=(N o00 (N o3R L L) (N o5c L L))
def q3f:BT:=(N o23 (N o3u L L) (N o4U L L))
def q3g:BT:=(N o2a (N o3D L L) (N o51 L L))
def q3h:BT:=(N o00 (N o1P (N o3j L L) (N o00 L L)) (N o01 (N o3Y L L) (N o5j L L)))
def q3i:BT:=(N o2p (N o00 L L) (N o01 L L))
def q3j:BT:=(N o00 (N o01 L L) (N o4R L L))
def q3k:BT:=(N o2h (N o3L L L) (N o00 L L))
def q3l:BT:=(N o00 (N o1X (N o00 L L) (N o01 L L)) (N o2C (N o45 L L) (N o5o L L)))
def q3m:BT:=(N o1J (N o3b L L) (N o4C L L))
def q3n:BT:=(N o0Z q3m (N o00 (N o01 L L) (N o5e L L)))
def q3o:BT:=(N o01 (N o3w L L) (N o4W L L))
def q3p:BT:=(N o00 (N o3B L L) (N o4Z L L))
def q3q:BT:=(N o15 (N o1N (N o3h L L) (N o4H L L)) (N o2x (N o00 L L) (N o01 L L)))
def q3r:BT:=(N o2n (N o3O L L) (N o59 L L))
def q3s:BT:=(N o20 (N o3r L L) (N o00 L L))
def q3t:BT:=(N o2f (N o3J L L) (N o54 L L))
def q3u:BT:=(N o01 (N o1V (N o3m L L) (N o4M L L)) (N o00 (N o43 L L) (N o5m L L)))
def q3v:BT:=(N o2s (N o3T L L) (N o00 L L))
def q3w:BT:=(N o25 (N o00 L L) (N o01 L L))
def q3x:BT:=(N o2b (N o1w L L) (N o01 L L))
def q3y:BT:=(N o17 (N o1w (N o01 L L) (N o4J L L)) (N o00 (N o3Z L L) (N o00 L L)))
def q3z:BT:=(N o01 (N o3Q L L) (N o00 L L))
def q3A:BT:=(N o22 (N o00 L L) (N o4S L L))
def q3B:BT:=(N o1w (N o01 L L) (N o56 L L))
def q3C:BT:=(N o01 (N o3o L L) (N o00 L L))
def q3D:BT:=(N o11 (N o1K (N o1w L L) (N o01 L L)) (N o2u (N o00 L L) (N o5f L L)))
def q3E:BT:=(N o00 (N o3x L L) (N o00 L L))
def q3F:BT:=(N o29 (N o3A L L) (N o00 L L))
def q3G:BT:=(N o14 (N o00 (N o00 L L) (N o4G L L)) (N o2w (N o3X L L) (N o00 L L)))
def q3H:BT:=(N o00 (N o3N L L) (N o58 L L))
def q3I:BT:=(N o1Z (N o3q L L) (N o4Q L L))
def q3J:BT:=(N o2e (N o00 L L) (N o53 L L))
def q3K:BT:=(N o00 (N o00 (N o3l L L) (N o4L L L)) (N o2B (N o42 L L) (N o00 L L)))
def q3L:BT:=(N o2r (N o3S L L) (N o5d L L))
def q3M:BT:=(N o24 (N o3v L L) (N o00 L L))
def q3N:BT:=(N o00 (N o3E L L) (N o00 L L))
def q3O:BT:=(N o01 (N o1Q (N o00 L L) (N o01 L L)) (N o2y (N o00 L L) (N o5k L L)))
def q3P:BT:=(N o00 (N o01 L L) (N o5a L L))
def q3Q:BT:=(N o01 (N o3s L L) (N o00 L L))
def q3R:BT:=(N o2i (N o00 L L) (N o01 L L))
def q3S:BT:=(N o00 (N o01 L L) (N o4N L L))
def q3T:BT:=(N o10 (N o00 (N o3c L L) (N o00 L L)) (N o01 (N o3U L L) (N o00 L L)))
def q3U:BT:=(N o26 (N o00 L L) (N o4X L L))
def q3V:BT:=(N o01 (N o3C L L) (N o50 L L))
def q3W:BT:=(N o16 (N o1O (N o3i L L) (N o4I L L)) (N o00 (N o01 L L) (N o5i L L)))
def q3X:BT:=(N o2o (N o3P L L) (N o00 L L))
def q3Y:BT:=(N o21 (N o00 L L) (N o01 L L))
def q3Z:BT:=(N o2g (N o3K L L) (N o55 L L))
def q40:BT:=(N o1a (N o1W (N o3n L L) (N o00 L L)) (N o01 (N o44 L L) (N o5n L L)))
def q41:BT:=(N o01 (N o3a L L) (N o4B L L))
def q42:BT:=(N o0Y q41 (N o2t (N o00 L L) (N o01 L L)))
def q43:BT:=(N o00 (N o01 L L) (N o4V L L))
def q44:BT:=(N o2c (N o0b L L) (N o52 L L))
def q45:BT:=(N o18 (N o0b (N o3k L L) (N o00 L L)) (N o2z (N o40 L L) (N o01 L L)))
def q46:BT:=(N o2q (N o00 L L) (N o5b L L))
def q47:BT:=(N o00 (N o3t L L) (N o4T L L))
def q48:BT:=(N o0b (N o3M L L) (N o00 L L))
def q49:BT:=(N o1Y (N o00 L L) (N o4O L L))
def q4a:BT:=(N o12 (N o1L (N o0b L L) (N o4F L L)) (N o00 (N o3V L L) (N o5g L L)))
def q4b:BT:=(N o27 (N o3y L L) (N o01 L L))
def tree_608_:BT:=(N b0 (N b1 (N o5p (N b7 (N o00 (N o0x (N o0G (N o49 (N o00 (N o5B L L) L) (N o4j L L)) q38) q39) (N o0n (N o0b (N o1C (N o32 (N o01 L L) L) (N o4t L L)) q3a) (N o00 q3b (N o2F (N o4a L L) (N o5s L L))))) (N o0b (N o01 (N o0L (N o00 (N o2X (N o5G L L) L) (N o4o L L)) q3c) q3d) (N o0B (N o0W (N o1H (N o37 (N o5P L L) L) (N o4z L L)) q3e) (N o0b q3f (N o2O (N o00 L L) (N o01 L L)))))) (N o00 (N o07 (N o0n (N o01 (N o1s q0F (N o01 L L)) q3g) q3h) (N o01 (N o0U (N o01 (N o34 (N o00 L L) L) (N o4x L L)) q3i) (N o1f q3j (N o2J (N o4d L L) (N o5u L L))))) (N o0d (N o0r (N o0N (N o00 (N o01 (N o5I L L) L) (N o4q L L)) q3k) q3l) (N o00 q3n (N o1l q3o (N o2R (N o00 L L) (N o00 L L))))))) (N b5 (N b9 (N o06 (N o0i (N o0I (N o1q (N o2U (N o5D L L) L) (N o4l L L)) q3p) q3q) (N o0y (N o00 (N o1E (N o00 (N o5M L L) L) (N o4v L L)) q3r) (N o1e q3s (N o2H (N o4b L L) (N o00 L L))))) (N o00 (N o0q (N o00 (N o1z (N o2Z (N o00 L L) L) (N o00 L L)) q3t) q3u) (N o0D (N o0X (N o00 (N o39 (N o5R L L) L) (N o4A L L)) q3v) (N o00 q3w (N o2P (N o4g L L) (N o5y L L)))))) (N o02 (N o09 (N o0o (N o00 (N o0b (N o2W (N o00 L L) L) (N o00 L L)) q3x) q3y) (N o0A (N o00 (N o00 (N o35 (N o5O L L) L) (N o00 L L)) q3z) (N o1h q3A (N o1w (N o01 L L) (N o5w L L))))) (N o00 (N o0t (N o0P (N o1B (N o00 (N o5K L L) L) (N o4r L L)) q3B) (N o1c q3C (N o2D (N o1w L L) (N o01 L L)))) (N o0F q3D (N o00 q3E (N o01 (N o4i L L) (N o5A L L)))))))) (N b2 (N b4 (N b8 (N o01 (N o0h (N o0H (N o1p (N o2T (N o5C L L) L) (N o4k L L)) q3F) q3G) (N o0b (N o0S (N o1D (N o33 (N o5L L L) L) (N o4u L L)) q3H) (N o01 q3I (N o2G (N o00 L L) (N o5t L L))))) (N o0c (N o0p (N o0M (N o1y (N o2Y (N o5H L L) L) (N o4p L L)) q3J) q3K) (N o0C (N o00 (N o1I (N o38 (N o5Q L L) L) (N o00 L L)) q3L) (N o1k q3M (N o00 (N o4f L L) (N o5x L L)))))) (N o5q (N o08 (N o0b (N o0J (N o1w (N o01 (N o5E L L) L) (N o4m L L)) q3N) q3O) (N o0z (N o0V (N o1F q0F (N o4y L L)) q3P) (N o1g q3Q (N o2K (N o00 L L) (N o5v L L))))) (N o0e (N o0s (N o0O (N o01 (N o30 (N o5J L L) L) (N o00 L L)) q3R) (N o1b q3S (N o00 (N o46 L L) (N o00 L L)))) (N o01 q3T (N o1m q3U (N o00 (N o01 L L) (N o01 L L))))))) (N b6 (N b10 (N o00 (N o0j (N o00 (N o1r (N o2V (N o00 L L) L) (N o00 L L)) q3V) q3W) (N o00 (N o0T (N o00 (N o01 (N o5N L L) L) (N o4w L L)) q3X) (N o00 q3Y (N o2I (N o4c L L) (N o01 L L))))) (N o01 (N o00 (N o01 (N o1A q0F (N o01 L L)) q3Z) q40) (N o0E q42 (N o01 q43 (N o2Q (N o4h L L) (N o5z L L)))))) (N o03 (N o0a (N o00 (N o0K (N o1x (N o00 (N o5F L L) L) (N o4n L L)) q44) q45) (N o00 (N o01 (N o1G (N o36 (N o00 L L) L) (N o01 L L)) q46) (N o00 q47 (N o0b (N o4e L L) (N o00 L L))))) (N o0f (N o0u (N o00 (N o00 (N o31 (N o00 L L) L) (N o4s L L)) q48) (N o1d q49 (N o2E (N o0b L L) (N o5r L L)))) (N o00 q4a (N o1n q4b (N o2S (N o00 L L) (N o00 L L)))))))))
def q4c:BT:=(N o06 (N o0i L L) L)
def q4d:BT:=(N o01 (N o0h L L) L)
def q4e:BT:=(N o00 (N o0j L L) L)
def tree_70_:BT:=(N b0 (N b1 (N o04 (N b7 (N o00 (N o0g L L) L) (N o0b L L)) (N o00 (N o07 L L) (N o0d L L))) (N b5 (N b9 q4c (N o00 L L)) (N o02 (N o09 L L) (N o00 L L)))) (N b2 (N b4 (N b8 q4d (N o0c L L)) (N o05 (N o08 L L) (N o0e L L))) (N b6 (N b10 q4e (N o01 L L)) (N o03 (N o0a L L) (N o0f L L)))))
def heap_46_:PySem.Heap:=(Heap.mk (Array.mk [b0,b1,b2,b3,b4,b5,b6,b7,b8,b9,b10,o00,o01,o02,o03]) (Life.mk [] [] [] 0 [] [] false #[] [] 0 false false false 0 [2000,10,10] false 0 true [] [] 0 false))
def q4f:BT:=(N o49 (N o00 L L) (N o4j L L))
def q4g:BT:=(N o1C (N o32 L L) (N o4t L L))
def q4h:BT:=(N o2F (N o4a L L) L)
def q4i:BT:=(N o00 (N o2X L L) (N o4o L L))
def q4j:BT:=(N o1H (N o37 L L) (N o4z L L))
def q4k:BT:=(N o2O (N o00 L L) L)
def q4l:BT:=(N o1s (N o00 L L) (N o01 L L))
def q4m:BT:=(N o01 (N o34 L L) (N o4x L L))
def q4n:BT:=(N o2J (N o4d L L) L)
def q4o:BT:=(N o00 (N o01 L L) (N o4q L L))
def q4p:BT:=(N o2R (N o00 L L) L)
def q4q:BT:=(N o1q (N o2U L L) (N o4l L L))
def q4r:BT:=(N o1E (N o00 L L) (N o4v L L))
def q4s:BT:=(N o2H (N o4b L L) L)
def q4t:BT:=(N o1z (N o2Z L L) (N o00 L L))
def q4u:BT:=(N o00 (N o39 L L) (N o4A L L))
def q4v:BT:=(N o2P (N o4g L L) L)
def q4w:BT:=(N o0b (N o2W L L) (N o00 L L))
def q4x:BT:=(N o00 (N o35 L L) (N o00 L L))
def q4y:BT:=(N o1B (N o00 L L) (N o4r L L))
def q4z:BT:=(N o2D (N o1w L L) L)
def q4A:BT:=(N o01 (N o4i L L) L)
def q4B:BT:=(N o1p (N o2T L L) (N o4k L L))
def q4C:BT:=(N o1D (N o33 L L) (N o4u L L))
def q4D:BT:=(N o2G (N o00 L L) L)
def q4E:BT:=(N o1y (N o2Y L L) (N o4p L L))
def q4F:BT:=(N o1I (N o38 L L) (N o00 L L))
def q4G:BT:=(N o00 (N o4f L L) L)
def q4H:BT:=(N o1w (N o01 L L) (N o4m L L))
def q4I:BT:=(N o1F (N o00 L L) (N o4y L L))
def q4J:BT:=(N o2K (N o00 L L) L)
def q4K:BT:=(N o01 (N o30 L L) (N o00 L L))
def q4L:BT:=(N o1r (N o2V L L) (N o00 L L))
def q4M:BT:=(N o00 (N o01 L L) (N o4w L L))
def q4N:BT:=(N o2I (N o4c L L) L)
def q4O:BT:=(N o1A (N o00 L L) (N o01 L L))
def q4P:BT:=(N o2Q (N o4h L L) L)
def q4Q:BT:=(N o1x (N o00 L L) (N o4n L L))
def q4R:BT:=(N o1G (N o36 L L) (N o01 L L))
def q4S:BT:=(N o0b (N o4e L L) L)
def q4T:BT:=(N o00 (N o31 L L) (N o4s L L))
def q4U:BT:=(N o2E (N o0b L L) L)
def q4V:BT:=(N o2S (N o00 L L) L)
def tree_478_:BT:=(N b0 (N b1 (N o47 (N b7 (N o00 (N o0x (N o0G q4f q1H) q1J) (N o0n (N o0b q4g q1K) (N o00 q1L q4h))) (N o0b (N o01 (N o0L q4i q1N) q1P) (N o0B (N o0W q4j q1Q) (N o0b q1R q4k)))) (N o00 (N o07 (N o0n (N o01 q4l q1T) q1V) (N o01 (N o0U q4m q1W) (N o1f q0F q4n))) (N o0d (N o0r (N o0N q4o q1Y) q20) (N o00 (N o0Z q3m q0F) (N o1l q21 q4p))))) (N b5 (N b9 (N o06 (N o0i (N o0I q4q q23) q25) (N o0y (N o00 q4r q26) (N o1e q27 q4s))) (N o00 (N o0q (N o00 q4t q29) q2b) (N o0D (N o0X q4u q2c) (N o00 q2d q4v)))) (N o02 (N o09 (N o0o (N o00 q4w q2f) q2g) (N o0A (N o00 q4x q2h) (N o1h q2i q1e))) (N o00 (N o0t (N o0P q4y q1e) (N o1c q2k q4z)) (N o0F q2n (N o00 q2o q4A)))))) (N b2 (N b4 (N b8 (N o01 (N o0h (N o0H q4B q2q) q2r) (N o0b (N o0S q4C q2s) (N o01 q2t q4D))) (N o0c (N o0p (N o0M q4E q2v) q2x) (N o0C (N o00 q4F q2y) (N o1k q2z q4G)))) (N o48 (N o08 (N o0b (N o0J q4H q2B) q2D) (N o0z (N o0V q4I q0F) (N o1g q2E q4J))) (N o0e (N o0s (N o0O q4K q2G) (N o1b q0F q2H)) (N o01 q2I (N o1m q2J q0F))))) (N b6 (N b10 (N o00 (N o0j (N o00 q4L q2L) (N o16 q2M q0F)) (N o00 (N o0T q4M q2N) (N o00 q2O q4N))) (N o01 (N o00 (N o01 q4O q2Q) q2S) (N o0E (N o0Y q41 q2T) (N o01 q0F q4P)))) (N o03 (N o0a (N o00 (N o0K q4Q q2V) q2X) (N o00 (N o01 q4R q2Y) (N o00 q2Z q4S))) (N o0f (N o0u (N o00 q4T q31) (N o1d q32 q4U)) (N o00 q35 (N o1n q36 q4V)))))))
def q4W:BT:=(N o0L (N o00 L L) (N o2d L L))
def q4X:BT:=(N o0b (N o23 L L) L)
def q4Y:BT:=(N o01 (N o1s L L) (N o2a L L))
def q4Z:BT:=(N o0N (N o00 L L) (N o2h L L))
def q50:BT:=(N o1l (N o01 L L) L)
def q51:BT:=(N o0I (N o1q L L) (N o00 L L))
def q52:BT:=(N o00 (N o1z L L) (N o2f L L))
def q53:BT:=(N o00 (N o25 L L) L)
def q54:BT:=(N o00 (N o0b L L) (N o2b L L))
def q55:BT:=(N o1h (N o22 L L) L)
def q56:BT:=(N o0H (N o1p L L) (N o29 L L))
def q57:BT:=(N o0M (N o1y L L) (N o2e L L))
def q58:BT:=(N o1k (N o24 L L) L)
def q59:BT:=(N o0J (N o1w L L) (N o00 L L))
def q5a:BT:=(N o0O (N o01 L L) (N o2i L L))
def q5b:BT:=(N o1m (N o26 L L) L)
def q5c:BT:=(N o00 (N o1r L L) (N o01 L L))
def q5d:BT:=(N o01 (N o1A L L) (N o2g L L))
def q5e:BT:=(N o01 (N o00 L L) L)
def q5f:BT:=(N o0K (N o1x L L) (N o2c L L))
def q5g:BT:=(N o1n (N o27 L L) L)
def tree_299_:BT:=(N b0 (N b1 (N o2j (N b7 (N o00 (N o0x (N o0G (N o2l L L) (N o28 L L)) q0r) (N o0n (N o0b (N o1C L L) (N o2m L L)) q0u)) (N o0b (N o01 q4W q0x) (N o0B (N o0W (N o1H L L) (N o00 L L)) q4X))) (N o00 (N o07 (N o0n q4Y q0B) (N o01 (N o0U (N o01 L L) (N o2p L L)) q0E)) (N o0d (N o0r q4Z q0H) (N o00 (N o0Z (N o1J L L) (N o00 L L)) q50)))) (N b5 (N b9 (N o06 (N o0i q51 q0L) (N o0y (N o00 (N o1E L L) (N o2n L L)) q0O)) (N o00 (N o0q q52 q0R) (N o0D (N o0X (N o00 L L) (N o2s L L)) q53))) (N o02 (N o09 (N o0o q54 q0W) (N o0A q13 q55)) (N o00 (N o0t (N o0P (N o1B L L) (N o1w L L)) q11) (N o0F q12 q0b))))) (N b2 (N b4 (N b8 (N o01 (N o0h q56 q15) (N o0b (N o0S (N o1D L L) (N o00 L L)) q18)) (N o0c (N o0p q57 q1b) (N o0C (N o00 (N o1I L L) (N o2r L L)) q58))) (N o2k (N o08 (N o0b q59 q1f) (N o0z (N o0V (N o1F L L) (N o00 L L)) q1i)) (N o0e (N o0s q5a q1l) (N o01 (N o10 (N o00 L L) (N o01 L L)) q5b)))) (N b6 (N b10 (N o00 (N o0j q5c q1p) (N o00 (N o0T (N o00 L L) (N o2o L L)) q1r)) (N o01 (N o00 q5d q1u) (N o0E (N o0Y (N o01 L L) (N o2t L L)) q5e))) (N o03 (N o0a (N o00 q5f q1z) (N o00 (N o01 (N o1G L L) (N o2q L L)) q0b)) (N o0f (N o0u q1C q1F) (N o00 q1G q5g))))))
def heap_609_:PySem.Heap:=(Heap.mk (Array.mk [b0,b1,b2,o5p,b4,b5,b6,b7,b8,b9,b10,o00,o5q,o02,o03,o00,o01,o06,o00,o07,o08,o09,o0a,o0b,o0c,o00,o01,o0d,o0e,o00,o0f,o0x,o0h,o0i,o0j,o0n,o0b,o0o,o00,o01,o0p,o0q,o00,o0r,o0s,o0t,o0u,o0n,o0b,o0y,o00,o01,o0z,o0A,o00,o0B,o0C,o0D,o0E,o00,o01,o0F,o00,o0G,o0H,o0I,o00,o01,o0J,o00,o0K,o0L,o0M,o00,o01,o0N,o0O,o0P,o00,o0b,o0S,o00,o0T,o0U,o0V,o00,o01,o0W,o00,o0X,o0Y,o0Z,o10,o11,o12,o13,o14,o15,o16,o00,o01,o17,o18,o19,o00,o01,o1a,o00,o1b,o1c,o1d,o00,o01,o1e,o00,o1f,o1g,o1h,o00,o0b,o1k,o00,o01,o1l,o1m,o00,o1n,o49,o1p,o1q,o1r,o1s,o1w,o0b,o1x,o00,o1y,o1z,o1A,o00,o01,o1B,o00,o1C,o1D,o1E,o00,o01,o1F,o00,o1G,o1H,o1I,o00,o01,o1J,o00,o1K,o1L,o1M,o00,o1N,o1O,o1P,o1Q,o1w,o0b,o1U,o00,o1V,o1W,o1X,o00,o01,o1Y,o00,o1Z,o20,o21,o00,o01,o22,o00,o23,o24,o25,o00,o01,o26,o00,o27,o28,o29,o00,o01,o2a,o00,o2b,o2c,o2d,o2e,o2f,o2g,o2h,o2i,o1w,o0b,o2m,o00,o2n,o2o,o2p,o00,o01,o2q,o00,o2r,o2s,o2t,o00,o01,o2u,o00,o2v,o2w,o2x,o00,o01,o2y,o00,o2z,o2A,o2B,o00,o01,o2C,o00,o2D,o2E,o2F,o2G,o2H,o2I,o2J,o2K,o1w,o0b,o2O,o00,o2P,o2Q,o2R,o00,o01,o2S,o00,o2T,o2U,o2V,o00,o01,o2W,o00,o2X,o2Y,o2Z,o00,o01,o30,o00,o31,o32,o33,o00,o01,o34,o00,o35,o36,o37,o38,o39,o3a,o3b,o3c,o1w,o0b,o3g,o00,o3h,o3i,o3j,o00,o01,o3k,o00,o3l,o3m,o3n,o00,o01,o3o,o00,o3p,o3q,o3r,o00,o01,o3s,o00,o3t,o3u,o3v,o00,o01,o3w,o00,o3x,o3y,o3z,o3A,o3B,o3C,o3D,o3E,o1w,o0b,o3I,o00,o3J,o3K,o3L,o00,o01,o3M,o00,o3N,o3O,o3P,o00,o01,o3Q,o00,o3R,o3S,o3T,o00,o01,o3U,o00,o3V,o3W,o3X,o00,o01,o3Y,o00,o3Z,o40,o41,o42,o43,o44,o45,o46,o1w,o0b,o4a,o00,o4b,o4c,o4d,o00,o01,o4e,o00,o4f,o4g,o4h,o00,o01,o4i,o00,o4j,o4k,o4l,o00,o01,o4m,o00,o4n,o4o,o4p,o00,o01,o4q,o00,o4r,o4s,o4t,o4u,o4v,o4w,o4x,o4y,o00,o01,o4z,o00,o4A,o4B,o4C,o00,o01,o4F,o00,o4G,o4H,o4I,o00,o01,o4J,o00,o4K,o4L,o4M,o00,o01,o4N,o00,o4O,o4P,o4Q,o00,o01,o4R,o00,o4S,o4T,o4U,o00,o01,o4V,o4W,o4X,o00,o01,o4Y,o00,o4Z,o50,o51,o00,o01,o52,o00,o53,o54,o55,o00,o01,o56,o00,o57,o58,o59,o00,o01,o5a,o00,o5b,o5c,o5d,o00,o01,o5e,o00,o5f,o5g,o5h,o00,o01,o5i,o5j,o5k,o00,o01,o5l,o00,o5m,o5n,o5o,o00,o01,o5r,o5s,o5t,o00,o01,o5u,o5v,o5w,o00,o01,o5x,o5y,o5z,o00,o01,o5A,o00,o5B,o5C,o5D,o00,o01,o5E,o00,o5F,o5G,o5H,o00,o01,o5I,o5J,o5K,o00,o01,o5L,o5M,o5N,o00,o01,o5O,o00,o5P,o5Q,o5R]) (Life.mk [] [] [] 0 [] [] false #[] [] 0 false false false 0 [2000,10,10] false 0 true [] [] 0 false))
def tree_119_:BT:=(N b0 (N b1 (N o0v (N b7 (N o00 (N o0x (N o0G L L) L) (N o0n L L)) (N o0b (N o01 (N o0L L L) L) (N o0B L L))) (N o00 (N o07 (N o0n (N o01 L L) L) (N o01 L L)) (N o0d (N o0r (N o0N L L) L) (N o00 L L)))) (N b5 (N b9 (N o06 (N o0i (N o0I L L) L) (N o0y L L)) (N o00 (N o0q (N o00 L L) L) (N o0D L L))) (N o02 (N o09 (N o0o (N o00 L L) L) (N o0A L L)) (N o00 (N o0t (N o0P L L) L) (N o0F L L))))) (N b2 (N b4 (N b8 (N o01 (N o0h (N o0H L L) L) (N o0b L L)) (N o0c (N o0p (N o0M L L) L) (N o0C L L))) (N o0w (N o08 (N o0b (N o0J L L) L) (N o0z L L)) (N o0e (N o0s (N o0O L L) L) (N o01 L L)))) (N b6 (N b10 (N o00 (N o0j (N o00 L L) L) (N o00 L L)) (N o01 q0F (N o0E L L))) (N o03 (N o0a (N o00 (N o0K L L) L) (N o00 L L)) (N o0f (N o0u L L) (N o00 L L))))))
def heap_39_:Frag:=[(2,o5S),(3,o5p),(15,o00),(17,o06),(18,o00),(20,o08),(21,o09),(22,o0a),(29,o00),(30,o0f),(31,o0x),(32,o0h),(35,o0n),(42,o00),(43,o0r),(44,o0s),(47,o0n),(54,o00),(55,o0B),(56,o0C),(59,o00),(61,o0F),(62,o00),(64,o0H),(65,o0I),(66,o00),(68,o0J),(69,o00),(71,o0L),(72,o0M),(73,o00),(76,o0O),(77,o0P),(85,o00),(87,o0W),(88,o00),(90,o0Y),(91,o0Z),(92,o10),(93,o11),(94,o12),(95,o13),(96,o14),(99,o00),(102,o18),(103,o19),(104,o00),(106,o1a),(107,o00),(109,o1c),(110,o1d),(111,o00),(113,o1e),(114,o00),(116,o1g),(117,o1h),(125,o00),(126,o1n),(127,o49),(128,o1p),(129,o1q),(132,o1w),(139,o00),(141,o1B),(142,o00),(144,o1D),(145,o1E),(146,o00),(148,o1F),(149,o00),(151,o1H),(152,o1I),(153,o00),(155,o1J),(156,o00),(158,o1L),(159,o1M),(160,o00),(161,o1N),(162,o1O),(165,o1w),(172,o00),(174,o1Y),(175,o00),(177,o20),(178,o21),(179,o00),(181,o22),(182,o00),(184,o24),(185,o25),(186,o00),(188,o26),(189,o00),(191,o28),(192,o29),(193,o00),(195,o2a),(196,o00),(198,o2c),(199,o2d),(200,o2e),(201,o2f),(202,o2g),(205,o1w),(212,o00),(214,o2q),(215,o00),(217,o2s),(218,o2t),(219,o00),(221,o2u),(222,o00),(224,o2w),(225,o2x),(226,o00),(228,o2y),(229,o00),(231,o2A),(232,o2B),(233,o00),(235,o2C),(236,o00),(238,o2E),(239,o2F),(240,o2G),(241,o2H),(242,o2I),(245,o1w),(252,o00),(254,o2S),(255,o00),(257,o2U),(258,o2V),(259,o00),(261,o2W),(262,o00),(264,o2Y),(265,o2Z),(266,o00),(268,o30),(269,o00),(271,o32),(272,o33),(273,o00),(275,o34),(276,o00),(278,o36),(279,o37),(280,o38),(281,o39),(282,o3a),(285,o1w),(292,o00),(294,o3k),(295,o00),(297,o3m),(298,o3n),(299,o00),(301,o3o),(302,o00),(304,o3q),(305,o3r),(306,o00),(308,o3s),(309,o00),(311,o3u),(312,o3v),(313,o00),(315,o3w),(316,o00),(318,o3y),(319,o3z),(320,o3A),(321,o3B),(322,o3C),(325,o1w),(332,o00),(334,o3M),(335,o00),(337,o3O),(338,o3P),(339,o00),(341,o3Q),(342,o00),(344,o3S),(345,o3T),(346,o00),(348,o3U),(349,o00),(351,o3W),(352,o3X),(353,o00),(355,o3Y),(356,o00),(358,o40),(359,o41),(360,o42),(361,o43),(362,o44),(365,o1w),(372,o00),(374,o4e),(375,o00),(377,o4g),(378,o4h),(379,o00),(381,o4i),(382,o00),(384,o4k),(385,o4l),(386,o00),(388,o4m),(389,o00),(391,o4o),(392,o4p),(393,o00),(395,o4q),(396,o00),(398,o4s),(399,o4t),(400,o4u),(401,o4v),(402,o4w),(405,o00),(407,o4z),(408,o00),(410,o4B),(411,o4C),(412,o00),(414,o4F),(415,o00),(417,o4H),(418,o4I),(419,o00),(421,o4J),(422,o00),(424,o4L),(425,o4M),(426,o00),(428,o4N),(429,o00),(431,o4P),(432,o4Q),(433,o00),(435,o4R),(436,o00),(438,o4T),(439,o4U),(440,o00),(443,o4W),(444,o4X),(445,o00),(447,o4Y),(448,o00),(450,o50),(451,o51),(452,o00),(454,o52),(455,o00),(457,o54),(458,o55),(459,o00),(461,o56),(462,o00),(464,o58),(465,o59),(466,o00),(468,o5a),(469,o00),(471,o5c),(472,o5d),(473,o00),(475,o5e),(476,o00),(478,o5g),(479,o5h),(480,o00),(483,o5j),(484,o5k),(485,o00),(487,o5l),(488,o00),(490,o5n),(491,o5o),(492,o00),(495,o5s),(496,o5t),(497,o00),(500,o5v),(501,o5w),(502,o00),(505,o5y),(506,o5z),(507,o00),(509,o5A),(510,o00),(512,o5C),(513,o5D),(514,o00),(516,o5E),(517,o00),(519,o5G),(520,o5H),(521,o00),(524,o5J),(525,o5K),(526,o00),(529,o5M),(530,o5N),(531,o00),(533,o5O),(534,o00),(536,o5Q),(537,o5R)]
def q5h:BT:=(N o0n (N o0b L L) (N o00 L L))
def q5i:BT:=(N o01 (N o0L L L) (N o19 L L))
def q5j:BT:=(N o01 (N o0U L L) (N o1f L L))
def q5k:BT:=(N o0r (N o0N L L) (N o00 L L))
def q5l:BT:=(N o0y (N o00 L L) (N o1e L L))
def q5m:BT:=(N o0q (N o00 L L) (N o01 L L))
def q5n:BT:=(N o09 (N o0o (N o00 L L) (N o17 L L)) (N o0A (N o00 L L) (N o1h L L)))
def q5o:BT:=(N o0t (N o0P L L) (N o1c L L))
def q5p:BT:=(N o0b (N o0S L L) (N o01 L L))
def q5q:BT:=(N o0p (N o0M L L) (N o00 L L))
def q5r:BT:=(N o08 (N o0b (N o0J L L) (N o01 L L)) (N o0z (N o0V L L) (N o1g L L)))
def q5s:BT:=(N o0s (N o0O L L) (N o1b L L))
def q5t:BT:=(N o00 (N o0T L L) (N o00 L L))
def q5u:BT:=(N o00 (N o01 L L) (N o1a L L))
def q5v:BT:=(N o00 (N o0K L L) (N o18 L L))
def q5w:BT:=(N o0u (N o00 L L) (N o1d L L))
def tree_161_:BT:=(N b0 (N b1 (N o0Q (N b7 (N o00 (N o0x (N o0G L L) (N o13 L L)) q5h) (N o0b q5i (N o0B (N o0W L L) L))) (N o00 (N o07 (N o0n (N o01 L L) (N o00 L L)) q5j) (N o0d q5k (N o00 (N o0Z L L) L)))) (N b5 (N b9 (N o06 (N o0i (N o0I L L) (N o15 L L)) q5l) (N o00 q5m (N o0D (N o0X L L) L))) (N o02 q5n (N o00 q5o (N o0F (N o11 L L) L))))) (N b2 (N b4 (N b8 (N o01 (N o0h (N o0H L L) (N o14 L L)) q5p) (N o0c q5q (N o0C (N o00 L L) L))) (N o0R q5r (N o0e q5s (N o01 (N o10 L L) L)))) (N b6 (N b10 (N o00 (N o0j (N o00 L L) (N o16 L L)) q5t) (N o01 q5u (N o0E (N o0Y L L) L))) (N o03 (N o0a q5v q0F) (N o0f q5w (N o00 (N o12 L L) L))))))
def tree_560_:BT:=(N b0 (N b1 (N o4D (N b7 (N o00 (N o0x (N o0G q4f q38) q39) (N o0n (N o0b q4g q3a) (N o00 q3b q4h))) (N o0b (N o01 (N o0L q4i q3c) q3d) (N o0B (N o0W q4j q3e) (N o0b q3f q4k)))) (N o00 (N o07 (N o0n (N o01 q4l q3g) q3h) (N o01 (N o0U q4m q3i) (N o1f q3j q4n))) (N o0d (N o0r (N o0N q4o q3k) q3l) (N o00 q3n (N o1l q3o q4p))))) (N b5 (N b9 (N o06 (N o0i (N o0I q4q q3p) q3q) (N o0y (N o00 q4r q3r) (N o1e q3s q4s))) (N o00 (N o0q (N o00 q4t q3t) q3u) (N o0D (N o0X q4u q3v) (N o00 q3w q4v)))) (N o02 (N o09 (N o0o (N o00 q4w q3x) q3y) (N o0A (N o00 q4x q3z) (N o1h q3A q1e))) (N o00 (N o0t (N o0P q4y q3B) (N o1c q3C q4z)) (N o0F q3D (N o00 q3E q4A)))))) (N b2 (N b4 (N b8 (N o01 (N o0h (N o0H q4B q3F) q3G) (N o0b (N o0S q4C q3H) (N o01 q3I q4D))) (N o0c (N o0p (N o0M q4E q3J) q3K) (N o0C (N o00 q4F q3L) (N o1k q3M q4G)))) (N o4E (N o08 (N o0b (N o0J q4H q3N) q3O) (N o0z (N o0V q4I q3P) (N o1g q3Q q4J))) (N o0e (N o0s (N o0O q4K q3R) (N o1b q3S q2H)) (N o01 q3T (N o1m q3U q0F))))) (N b6 (N b10 (N o00 (N o0j (N o00 q4L q3V) q3W) (N o00 (N o0T q4M q3X) (N o00 q3Y q4N))) (N o01 (N o00 (N o01 q4O q3Z) q40) (N o0E q42 (N o01 q43 q4P)))) (N o03 (N o0a (N o00 (N o0K q4Q q44) q45) (N o00 (N o01 q4R q46) (N o00 q47 q4S))) (N o0f (N o0u (N o00 q4T q48) (N o1d q49 q4U)) (N o00 q4a (N o1n q4b q4V)))))))
def tree_385_:BT:=(N b0 (N b1 (N o3d (N b7 (N o00 (N o0x (N o0G (N o3f (N o00 L L) L) q1H) (N o13 q1I (N o2v L L))) (N o0n q0t q1M)) (N o0b (N o01 q0w (N o19 q1O (N o2A L L))) (N o0B q0z q1S))) (N o00 (N o07 (N o0n (N o01 q0A q1T) (N o00 q1U (N o01 L L))) (N o01 q0D q1X)) (N o0d (N o0r q0G (N o00 q1Z (N o2C L L))) (N o00 q0J q22)))) (N b5 (N b9 (N o06 (N o0i (N o0I q0K q23) (N o15 q24 (N o2x L L))) (N o0y q0N q28)) (N o00 (N o0q q0Q (N o01 q2a (N o00 L L))) (N o0D q0T q2e))) (N o02 (N o09 (N o0o q0V (N o17 q1e (N o00 L L))) (N o0A q0Y q2j)) (N o00 (N o0t q10 q2l) (N o0F (N o11 q2m (N o2u L L)) q2p))))) (N b2 (N b4 (N b8 (N o01 (N o0h (N o0H q14 q2q) (N o14 q0b (N o2w L L))) (N o0b q17 q2u)) (N o0c (N o0p q1a (N o00 q2w (N o2B L L))) (N o0C q1d q2A))) (N o3e (N o08 (N o0b (N o0J q1e q2B) (N o01 q2C (N o2y L L))) (N o0z q1h q2F)) (N o0e (N o0s q1k (N o1b q0F (N o00 L L))) (N o01 q1n q2K)))) (N b6 (N b10 (N o00 (N o0j (N o00 q1o q2L) (N o16 q2M (N o00 L L))) (N o00 q1q q2P)) (N o01 (N o00 q1t (N o1a q2R (N o01 L L))) (N o0E q1w q2U))) (N o03 (N o0a (N o00 q1y (N o18 q2W (N o2z L L))) (N o00 q1B q30)) (N o0f (N o0u q1E q33) (N o00 (N o12 q34 (N o00 L L)) q37))))))
def tree_85_:BT:=(N b0 (N b1 (N o0k (N b7 (N o00 (N o0m L L) L) (N o0b (N o01 L L) L)) (N o00 (N o07 (N o0n L L) L) (N o0d (N o0r L L) L))) (N b5 (N b9 q4c (N o00 (N o0q L L) L)) (N o02 (N o09 (N o0o L L) L) (N o00 (N o0t L L) L)))) (N b2 (N b4 (N b8 q4d (N o0c (N o0p L L) L)) (N o0l (N o08 (N o0b L L) L) (N o0e (N o0s L L) L))) (N b6 (N b10 q4e q5e) (N o03 (N o0a (N o00 L L) L) (N o0f (N o0u L L) L)))))
def tree_256_:BT:=(N b0 (N b1 (N o1R (N b7 (N o00 (N o0x (N o0G (N o1T L L) (N o28 L L)) q00) (N o0n q01 q0b)) (N o0b (N o01 q4W (N o19 (N o1U L L) L)) (N o0B q02 q4X))) (N o00 (N o07 (N o0n q4Y q04) (N o01 q05 (N o1f (N o00 L L) L))) (N o0d (N o0r q4Z (N o00 (N o1X L L) L)) (N o00 q06 q50)))) (N b5 (N b9 (N o06 (N o0i q51 q08) (N o0y q09 (N o1e (N o20 L L) L))) (N o00 (N o0q q52 (N o01 (N o1V L L) L)) (N o0D q0a q53))) (N o02 (N o09 (N o0o q54 (N o17 (N o1w L L) L)) (N o0A q0b q55)) (N o00 (N o0t q0c (N o1c (N o01 L L) L)) (N o0F q0d q0b))))) (N b2 (N b4 (N b8 (N o01 (N o0h q56 q0f) (N o0b q0g (N o01 (N o1Z L L) L))) (N o0c (N o0p q57 q0b) (N o0C q0h q58))) (N o1S (N o08 (N o0b q59 q0i) (N o0z q0j (N o1g (N o01 L L) L))) (N o0e (N o0s q5a (N o1b (N o00 L L) L)) (N o01 q0k q5b)))) (N b6 (N b10 (N o00 (N o0j q5c q0m) (N o00 q0n (N o00 (N o21 L L) L))) (N o01 (N o00 q5d (N o1a (N o1W L L) L)) (N o0E q0o q5e))) (N o03 (N o0a (N o00 q5f (N o18 (N o0b L L) L)) (N o00 q0p q0b)) (N o0f (N o0u q0b (N o1d (N o1Y L L) L)) (N o00 q0q q5g))))))
def tree_47_:BT:=(N b0 (N b1 (N b3 (N b7 L L) (N o00 L L)) (N b5 (N b9 L L) (N o02 L L))) (N b2 (N b4 (N b8 L L) (N o01 L L)) (N b6 (N b10 L L) (N o03 L L))))
def tree_177_:BT:=(N b0 (N b1 (N o1i (N b7 (N o00 (N o0x (N o0G (N o1o L L) L) (N o13 L L)) q5h) (N o0b q5i (N o0B (N o0W L L) (N o0b L L)))) (N o00 (N o07 (N o0n q03 (N o00 L L)) q5j) (N o0d q5k (N o00 (N o0Z L L) (N o1l L L))))) (N b5 (N b9 (N o06 (N o0i q07 (N o15 L L)) q5l) (N o00 q5m (N o0D (N o0X L L) (N o00 L L)))) (N o02 q5n (N o00 q5o (N o0F (N o11 L L) (N o00 L L)))))) (N b2 (N b4 (N b8 (N o01 (N o0h q0e (N o14 L L)) q5p) (N o0c q5q (N o0C (N o00 L L) (N o1k L L)))) (N o1j q5r (N o0e q5s (N o01 (N o10 L L) (N o1m L L))))) (N b6 (N b10 (N o00 (N o0j q0l (N o16 L L)) q5t) (N o01 q5u (N o0E (N o0Y L L) (N o01 L L)))) (N o03 (N o0a q5v (N o00 (N o01 L L) (N o00 L L))) (N o0f q5w (N o00 (N o12 L L) (N o1n L L)))))))
end
end
noncomputable section
def tree_213 (A:AT):Params→BT:=fun P=>@tree_213_ A ⟨P⟩
def tree_342 (A:AT):Params→BT:=fun P=>@tree_342_ A ⟨P⟩
def tree_428 (A:AT):Params→BT:=fun P=>@tree_428_ A ⟨P⟩
def tree_608 (A:AT):Params→BT:=fun P=>@tree_608_ A ⟨P⟩
def tree_70 (A:AT):Params→BT:=fun P=>@tree_70_ A ⟨P⟩
def heap_46 (A:AT):Params→PySem.Heap:=fun P=>@heap_46_ A ⟨P⟩
def tree_478 (A:AT):Params→BT:=fun P=>@tree_478_ A ⟨P⟩
def tree_299 (A:AT):Params→BT:=fun P=>@tree_299_ A ⟨P⟩
def heap_609 (A:AT):Params→PySem.Heap:=fun P=>@heap_609_ A ⟨P⟩
def tree_119 (A:AT):Params→BT:=fun P=>@tree_119_ A ⟨P⟩
def heap_39 (A:AT):Params→Frag:=fun P=>@heap_39_ A ⟨P⟩
def tree_161 (A:AT):Params→BT:=fun P=>@tree_161_ A ⟨P⟩
def tree_560 (A:AT):Params→BT:=fun P=>@tree_560_ A ⟨P⟩
def tree_385 (A:AT):Params→BT:=fun P=>@tree_385_ A ⟨P⟩
def tree_85 (A:AT):Params→BT:=fun P=>@tree_85_ A ⟨P⟩
def tree_256 (A:AT):Params→BT:=fun P=>@tree_256_ A ⟨P⟩
def tree_47 (A:AT):Params→BT:=fun P=>@tree_47_ A ⟨P⟩
def tree_177 (A:AT):Params→BT:=fun P=>@tree_177_ A ⟨P⟩
end
theorem trig:(PySem.Challenge.pw_bellsaway_k10_what_parts_two_fits.main.body.length == 0)=(PySem.Challenge.pw_bellsaway_k10_what_parts_two_fits.main.body.length == 0):=rfl
theorem trig2:(!(PySem.Challenge.pw_bellsaway_k10_what_parts_two_fits.main.body.length == 0))=true:=by k_qdec
noncomputable def a0:List Str:="__init__"::"Kind.__init__"::"/claim/cut.py"::"mark"::"Happening.__init__"::"bellsaway.happenings"::"fit"::"Either"::"is_whole"::"check_fits"::"bellsaway.fits"::"Fit"::"note_turns"::"Least.note_turns"::"are_unlike_names"::"self"::"fits"::"law"::"law_bellsaway_k10_what_parts_two_fits"::"taken"::"number"::"_law_tree"::"BellError"::"_law_made"::"_law_all"::"__dict__"::"fits_it"::"Either.fits_it"::"_law_begin"::"__module__"::"__qualname__"::"__firstlineno__"::"weight_bits"::"__static_attributes__"::"happening"::"Either.note_turns"::"counted_name"::"bellsaway.words"::"Both.__init__"::"Not.fits_it"::"bellsaway.errors"::"__doc__"::"__name__"::"__package__"::"__loader__"::"__spec__"::"__annotations__"::"__builtins__"::"__file__"::"__cached__"::"_wall"::"NoHappening"::"NoFit"::"is_whole_from"::"LETTERS"::"abcdefghijklmnopqrstuvwxyz"::"MOST_LETTERS"::"is_name"::"Happening"::"unused_name"::"Kind"::"falling"::"from_weight"::"bits"::"weight"::"Any"::"Either.weight_bits"::"_law_tree_here"::"_law_word"::"_law_found"::"_law_part"::"_law_script"::"_law_k"::"k"::"kind"::"place"::"Least.fits_it"::"Both"::"Kind.note_turns"::"_law_name"::"check_names"::"Not.__init__"::"name"::"Least.__init__"::"Place.weight_bits"::"Both.fits_it"::"Both.note_turns"::"Place"::"check_fit"::"Both.weight_bits"::"_law_right"::"Kind.weight_bits"::"_law_fits"::"Either.__init__"::"_law_state"::"_law_base"::"_law_number"::"names"::"_law_next"::"_law_cell"::"<module>"::"Not"::"kinds"::"places"::"weights"::"fitting"::"_law_cell_at"::"_law_leaf"::"Kind.fits_it"::"Least"::"Not.weight_bits"::"parting"::"firsts"::"bits_from_weights"::"find_firsts"::"_law_gathered"::"_law_beside"::"Any.fits_it"::"Any.weight_bits"::"Place.fits_it"::"Place.__init__"::"marks"::"things"::"thing"::"__weakref__"::"Not.note_turns"::"_law_one"::"_law_way"::"_law_other"::"_law_some"::"_law_first"::"_law_second"::"_law_name_here"::"__main__"::"Least.weight_bits"::"found"::["free","won","Place.note_turns","bellsaway.wholes","_law_names","_law_letter","Any.note_turns","_law_more","_law_kind","least","one","other"]
noncomputable def a1:List Str:=[⟨⟨[95,95,105,110,105,116,95,95]⟩⟩,⟨⟨[75,105,110,100,46,95,95,105,110,105,116,95,95]⟩⟩,⟨⟨[47,99,108,97,105,109,47,99,117,116,46,112,121]⟩⟩,⟨⟨[109,97,114,107]⟩⟩,⟨⟨[72,97,112,112,101,110,105,110,103,46,95,95,105,110,105,116,95,95]⟩⟩,⟨⟨[98,101,108,108,115,97,119,97,121,46,104,97,112,112,101,110,105,110,103,115]⟩⟩,⟨⟨[102,105,116]⟩⟩,⟨⟨[69,105,116,104,101,114]⟩⟩,⟨⟨[105,115,95,119,104,111,108,101]⟩⟩,⟨⟨[99,104,101,99,107,95,102,105,116,115]⟩⟩,⟨⟨[98,101,108,108,115,97,119,97,121,46,102,105,116,115]⟩⟩,⟨⟨[70,105,116]⟩⟩,⟨⟨[110,111,116,101,95,116,117,114,110,115]⟩⟩,⟨⟨[76,101,97,115,116,46,110,111,116,101,95,116,117,114,110,115]⟩⟩,⟨⟨[97,114,101,95,117,110,108,105,107,101,95,110,97,109,101,115]⟩⟩,⟨⟨[115,101,108,102]⟩⟩,⟨⟨[102,105,116,115]⟩⟩,⟨⟨[108,97,119]⟩⟩,⟨⟨[108,97,119,95,98,101,108,108,115,97,119,97,121,95,107,49,48,95,119,104,97,116,95,112,97,114,116,115,95,116,119,111,95,102,105,116,115]⟩⟩,⟨⟨[116,97,107,101,110]⟩⟩,⟨⟨[110,117,109,98,101,114]⟩⟩,⟨⟨[95,108,97,119,95,116,114,101,101]⟩⟩,⟨⟨[66,101,108,108,69,114,114,111,114]⟩⟩,⟨⟨[95,108,97,119,95,109,97,100,101]⟩⟩,⟨⟨[95,108,97,119,95,97,108,108]⟩⟩,⟨⟨[95,95,100,105,99,116,95,95]⟩⟩,⟨⟨[102,105,116,115,95,105,116]⟩⟩,⟨⟨[69,105,116,104,101,114,46,102,105,116,115,95,105,116]⟩⟩,⟨⟨[95,108,97,119,95,98,101,103,105,110]⟩⟩,⟨⟨[95,95,109,111,100,117,108,101,95,95]⟩⟩,⟨⟨[95,95,113,117,97,108,110,97,109,101,95,95]⟩⟩,⟨⟨[95,95,102,105,114,115,116,108,105,110,101,110,111,95,95]⟩⟩,⟨⟨[119,101,105,103,104,116,95,98,105,116,115]⟩⟩,⟨⟨[95,95,115,116,97,116,105,99,95,97,116,116,114,105,98,117,116,101,115,95,95]⟩⟩,⟨⟨[104,97,112,112,101,110,105,110,103]⟩⟩,⟨⟨[69,105,116,104,101,114,46,110,111,116,101,95,116,117,114,110,115]⟩⟩,⟨⟨[99,111,117,110,116,101,100,95,110,97,109,101]⟩⟩,⟨⟨[98,101,108,108,115,97,119,97,121,46,119,111,114,100,115]⟩⟩,⟨⟨[66,111,116,104,46,95,95,105,110,105,116,95,95]⟩⟩,⟨⟨[78,111,116,46,102,105,116,115,95,105,116]⟩⟩,⟨⟨[98,101,108,108,115,97,119,97,121,46,101,114,114,111,114,115]⟩⟩,⟨⟨[95,95,100,111,99,95,95]⟩⟩,⟨⟨[95,95,110,97,109,101,95,95]⟩⟩,⟨⟨[95,95,112,97,99,107,97,103,101,95,95]⟩⟩,⟨⟨[95,95,108,111,97,100,101,114,95,95]⟩⟩,⟨⟨[95,95,115,112,101,99,95,95]⟩⟩,⟨⟨[95,95,97,110,110,111,116,97,116,105,111,110,115,95,95]⟩⟩,⟨⟨[95,95,98,117,105,108,116,105,110,115,95,95]⟩⟩,⟨⟨[95,95,102,105,108,101,95,95]⟩⟩,⟨⟨[95,95,99,97,99,104,101,100,95,95]⟩⟩,⟨⟨[95,119,97,108,108]⟩⟩,⟨⟨[78,111,72,97,112,112,101,110,105,110,103]⟩⟩,⟨⟨[78,111,70,105,116]⟩⟩,⟨⟨[105,115,95,119,104,111,108,101,95,102,114,111,109]⟩⟩,⟨⟨[76,69,84,84,69,82,83]⟩⟩,⟨⟨[97,98,99,100,101,102,103,104,105,106,107,108,109,110,111,112,113,114,115,116,117,118,119,120,121,122]⟩⟩,⟨⟨[77,79,83,84,95,76,69,84,84,69,82,83]⟩⟩,⟨⟨[105,115,95,110,97,109,101]⟩⟩,⟨⟨[72,97,112,112,101,110,105,110,103]⟩⟩,⟨⟨[117,110,117,115,101,100,95,110,97,109,101]⟩⟩,⟨⟨[75,105,110,100]⟩⟩,⟨⟨[102,97,108,108,105,110,103]⟩⟩,⟨⟨[102,114,111,109,95,119,101,105,103,104,116]⟩⟩,⟨⟨[98,105,116,115]⟩⟩,⟨⟨[119,101,105,103,104,116]⟩⟩,⟨⟨[65,110,121]⟩⟩,⟨⟨[69,105,116,104,101,114,46,119,101,105,103,104,116,95,98,105,116,115]⟩⟩,⟨⟨[95,108,97,119,95,116,114,101,101,95,104,101,114,101]⟩⟩,⟨⟨[95,108,97,119,95,119,111,114,100]⟩⟩,⟨⟨[95,108,97,119,95,102,111,117,110,100]⟩⟩,⟨⟨[95,108,97,119,95,112,97,114,116]⟩⟩,⟨⟨[95,108,97,119,95,115,99,114,105,112,116]⟩⟩,⟨⟨[95,108,97,119,95,107]⟩⟩,⟨⟨[107]⟩⟩,⟨⟨[107,105,110,100]⟩⟩,⟨⟨[112,108,97,99,101]⟩⟩,⟨⟨[76,101,97,115,116,46,102,105,116,115,95,105,116]⟩⟩,⟨⟨[66,111,116,104]⟩⟩,⟨⟨[75,105,110,100,46,110,111,116,101,95,116,117,114,110,115]⟩⟩,⟨⟨[95,108,97,119,95,110,97,109,101]⟩⟩,⟨⟨[99,104,101,99,107,95,110,97,109,101,115]⟩⟩,⟨⟨[78,111,116,46,95,95,105,110,105,116,95,95]⟩⟩,⟨⟨[110,97,109,101]⟩⟩,⟨⟨[76,101,97,115,116,46,95,95,105,110,105,116,95,95]⟩⟩,⟨⟨[80,108,97,99,101,46,119,101,105,103,104,116,95,98,105,116,115]⟩⟩,⟨⟨[66,111,116,104,46,102,105,116,115,95,105,116]⟩⟩,⟨⟨[66,111,116,104,46,110,111,116,101,95,116,117,114,110,115]⟩⟩,⟨⟨[80,108,97,99,101]⟩⟩,⟨⟨[99,104,101,99,107,95,102,105,116]⟩⟩,⟨⟨[66,111,116,104,46,119,101,105,103,104,116,95,98,105,116,115]⟩⟩,⟨⟨[95,108,97,119,95,114,105,103,104,116]⟩⟩,⟨⟨[75,105,110,100,46,119,101,105,103,104,116,95,98,105,116,115]⟩⟩,⟨⟨[95,108,97,119,95,102,105,116,115]⟩⟩,⟨⟨[69,105,116,104,101,114,46,95,95,105,110,105,116,95,95]⟩⟩,⟨⟨[95,108,97,119,95,115,116,97,116,101]⟩⟩,⟨⟨[95,108,97,119,95,98,97,115,101]⟩⟩,⟨⟨[95,108,97,119,95,110,117,109,98,101,114]⟩⟩,⟨⟨[110,97,109,101,115]⟩⟩,⟨⟨[95,108,97,119,95,110,101,120,116]⟩⟩,⟨⟨[95,108,97,119,95,99,101,108,108]⟩⟩,⟨⟨[60,109,111,100,117,108,101,62]⟩⟩,⟨⟨[78,111,116]⟩⟩,⟨⟨[107,105,110,100,115]⟩⟩,⟨⟨[112,108,97,99,101,115]⟩⟩,⟨⟨[119,101,105,103,104,116,115]⟩⟩,⟨⟨[102,105,116,116,105,110,103]⟩⟩,⟨⟨[95,108,97,119,95,99,101,108,108,95,97,116]⟩⟩,⟨⟨[95,108,97,119,95,108,101,97,102]⟩⟩,⟨⟨[75,105,110,100,46,102,105,116,115,95,105,116]⟩⟩,⟨⟨[76,101,97,115,116]⟩⟩,⟨⟨[78,111,116,46,119,101,105,103,104,116,95,98,105,116,115]⟩⟩,⟨⟨[112,97,114,116,105,110,103]⟩⟩,⟨⟨[102,105,114,115,116,115]⟩⟩,⟨⟨[98,105,116,115,95,102,114,111,109,95,119,101,105,103,104,116,115]⟩⟩,⟨⟨[102,105,110,100,95,102,105,114,115,116,115]⟩⟩,⟨⟨[95,108,97,119,95,103,97,116,104,101,114,101,100]⟩⟩,⟨⟨[95,108,97,119,95,98,101,115,105,100,101]⟩⟩,⟨⟨[65,110,121,46,102,105,116,115,95,105,116]⟩⟩,⟨⟨[65,110,121,46,119,101,105,103,104,116,95,98,105,116,115]⟩⟩,⟨⟨[80,108,97,99,101,46,102,105,116,115,95,105,116]⟩⟩,⟨⟨[80,108,97,99,101,46,95,95,105,110,105,116,95,95]⟩⟩,⟨⟨[109,97,114,107,115]⟩⟩,⟨⟨[116,104,105,110,103,115]⟩⟩,⟨⟨[116,104,105,110,103]⟩⟩,⟨⟨[95,95,119,101,97,107,114,101,102,95,95]⟩⟩,⟨⟨[78,111,116,46,110,111,116,101,95,116,117,114,110,115]⟩⟩,⟨⟨[95,108,97,119,95,111,110,101]⟩⟩,⟨⟨[95,108,97,119,95,119,97,121]⟩⟩,⟨⟨[95,108,97,119,95,111,116,104,101,114]⟩⟩,⟨⟨[95,108,97,119,95,115,111,109,101]⟩⟩,⟨⟨[95,108,97,119,95,102,105,114,115,116]⟩⟩,⟨⟨[95,108,97,119,95,115,101,99,111,110,100]⟩⟩,⟨⟨[95,108,97,119,95,110,97,109,101,95,104,101,114,101]⟩⟩,⟨⟨[95,95,109,97,105,110,95,95]⟩⟩,⟨⟨[76,101,97,115,116,46,119,101,105,103,104,116,95,98,105,116,115]⟩⟩,⟨⟨[102,111,117,110,100]⟩⟩,⟨⟨[102,114,101,101]⟩⟩,⟨⟨[119,111,110]⟩⟩,⟨⟨[80,108,97,99,101,46,110,111,116,101,95,116,117,114,110,115]⟩⟩,⟨⟨[98,101,108,108,115,97,119,97,121,46,119,104,111,108,101,115]⟩⟩,⟨⟨[95,108,97,119,95,110,97,109,101,115]⟩⟩,⟨⟨[95,108,97,119,95,108,101,116,116,101,114]⟩⟩,⟨⟨[65,110,121,46,110,111,116,101,95,116,117,114,110,115]⟩⟩,⟨⟨[95,108,97,119,95,109,111,114,101]⟩⟩,⟨⟨[95,108,97,119,95,107,105,110,100]⟩⟩,⟨⟨[108,101,97,115,116]⟩⟩,⟨⟨[111,110,101]⟩⟩,⟨⟨[111,116,104,101,114]⟩⟩]
noncomputable def t0:List String:=["tuple","code","builtin_function_or_method","object.__init_subclass__","super","function","type","object","object.__new__","frame","type.__prepare__","ValueError","Exception","BaseException","ValueError.__new__","getset_descriptor","function.__dict__","function.__dict__#set","dict","__main__.__loader__#opaque","ExceptionGroup.__weakref__"]
noncomputable def t1:List String:=[SL.s2766695959194262286x5,SL.s5856160107412720595x4,SL.s11030030927630378310x26,SL.s4860613602091757760x24,SL.s4290257624100764138x5,SL.s7174869446012820540x8,SL.s17162191345867700912x4,SL.s2742458400755230247x6,SL.s11443829558043349243x14,SL.s658472552662922059x5,SL.s10062305145149207511x16,SL.s6070975301684473832x10,SL.s5946037652744460706x9,SL.s4278001404047624695x13,SL.s4209523147560561109x18,SL.s14755015743595814543x17,SL.s6511155373996960695x17,SL.s12411053484034534018x21,SL.s14018661285674007319x4,SL.s7097527257260152453x26,SL.s10220274742760427390x26]
theorem cc {α:Type}{x y:α}{l m:List α}(h:x=y)(k:l=m):x::l=y::m:=by rw [h,k]
theorem ea:a0=a1:=by
 iterate 148 refine cc (by kernel_rfl) ?_
 exact rfl
theorem et:t0=t1:=(cc SL.e2766695959194262286x5 (cc SL.e5856160107412720595x4 (cc SL.e11030030927630378310x26 (cc SL.e4860613602091757760x24 (cc SL.e4290257624100764138x5 (cc SL.e7174869446012820540x8 (cc SL.e17162191345867700912x4 (cc SL.e2742458400755230247x6 (cc SL.e11443829558043349243x14 (cc SL.e658472552662922059x5 (cc SL.e10062305145149207511x16 (cc SL.e6070975301684473832x10 (cc SL.e5946037652744460706x9 (cc SL.e4278001404047624695x13 (cc SL.e4209523147560561109x18 (cc SL.e14755015743595814543x17 (cc SL.e6511155373996960695x17 (cc SL.e12411053484034534018x21 (cc SL.e14018661285674007319x4 (cc SL.e7097527257260152453x26 (cc SL.e10220274742760427390x26 rfl)))))))))))))))))))))
noncomputable def A0:AT:=⟨PySem.Challenge.pw_bellsaway_k10_what_parts_two_fits,a0,t0⟩
noncomputable def B0:AT:=⟨Fast.tw5401816063946675205,a1,t1⟩
theorem ab:A0=B0:=by
 unfold A0 B0
 rw [ea,et,Fast.te5401816063946675205]
end Hd
namespace PySem.W.Fast
open Hd
noncomputable def vw (l:List Nat)(A:AT):Program:={ A.p with main:={ A.p.main with body:=l.map (@stm A) } }
noncomputable def sl (i n:Nat)(A:AT):List Stmt:=(A.p.main.body.drop i).take n
noncomputable def tw9037396575905119700:=sl 4 8 B0
theorem te9037396575905119700:sl 4 8 A0=tw9037396575905119700:=congrArg _ ab
noncomputable def tw12796709437526741593:=sl 40 8 B0
theorem te12796709437526741593:sl 40 8 A0=tw12796709437526741593:=congrArg _ ab
noncomputable def tw14324380495030727125:=vw [0,2,3,4,6,7,9,10,11,12,14,15,16,18,19,20,21,22,23,24,25,26,27,28,29,30,31,32,33,35,36,37,38,39,40,41,42,43,44,45,46,47] B0
theorem te14324380495030727125:vw [0,2,3,4,6,7,9,10,11,12,14,15,16,18,19,20,21,22,23,24,25,26,27,28,29,30,31,32,33,35,36,37,38,39,40,41,42,43,44,45,46,47] A0=tw14324380495030727125:=congrArg _ ab
noncomputable def tw1201771188399977753:=sl 12 6 B0
theorem te1201771188399977753:sl 12 6 A0=tw1201771188399977753:=congrArg _ ab
noncomputable def tw539495646773509055:=sl 27 13 B0
theorem te539495646773509055:sl 27 13 A0=tw539495646773509055:=congrArg _ ab
noncomputable def tw162576255140076576:=tree_213 B0
theorem te162576255140076576:tree_213 A0=tw162576255140076576:=congrArg tree_213 ab
noncomputable def tw3753301511473983745:=tree_342 B0
theorem te3753301511473983745:tree_342 A0=tw3753301511473983745:=congrArg tree_342 ab
noncomputable def tw326847104721072705:=tree_428 B0
theorem te326847104721072705:tree_428 A0=tw326847104721072705:=congrArg tree_428 ab
noncomputable def tw6683611594909539780:=tree_608 B0
theorem te6683611594909539780:tree_608 A0=tw6683611594909539780:=congrArg tree_608 ab
noncomputable def tw3990218776617440740:=tree_70 B0
theorem te3990218776617440740:tree_70 A0=tw3990218776617440740:=congrArg tree_70 ab
noncomputable def tw17555018061313004872:=heap_46 B0
theorem te17555018061313004872:heap_46 A0=tw17555018061313004872:=congrArg heap_46 ab
noncomputable def tw4702701860401836106:=tree_478 B0
theorem te4702701860401836106:tree_478 A0=tw4702701860401836106:=congrArg tree_478 ab
noncomputable def tw3863773472597065866:=tree_299 B0
theorem te3863773472597065866:tree_299 A0=tw3863773472597065866:=congrArg tree_299 ab
noncomputable def tw6318642610584911566:=heap_609 B0
theorem te6318642610584911566:heap_609 A0=tw6318642610584911566:=congrArg heap_609 ab
noncomputable def tw15095503351208168334:=tree_119 B0
theorem te15095503351208168334:tree_119 A0=tw15095503351208168334:=congrArg tree_119 ab
noncomputable def tw10704483757199728944:=heap_39 B0
theorem te10704483757199728944:heap_39 A0=tw10704483757199728944:=congrArg heap_39 ab
noncomputable def tw16140930035948463921:=tree_161 B0
theorem te16140930035948463921:tree_161 A0=tw16140930035948463921:=congrArg tree_161 ab
noncomputable def tw350556736408932535:=tree_560 B0
theorem te350556736408932535:tree_560 A0=tw350556736408932535:=congrArg tree_560 ab
noncomputable def tw8374215552308525399:=tree_385 B0
theorem te8374215552308525399:tree_385 A0=tw8374215552308525399:=congrArg tree_385 ab
noncomputable def tw18437682186122426073:=tree_85 B0
theorem te18437682186122426073:tree_85 A0=tw18437682186122426073:=congrArg tree_85 ab
noncomputable def tw13040448891147750874:=tree_256 B0
theorem te13040448891147750874:tree_256 A0=tw13040448891147750874:=congrArg tree_256 ab
noncomputable def tw16743245456143993594:=tree_47 B0
theorem te16743245456143993594:tree_47 A0=tw16743245456143993594:=congrArg tree_47 ab
noncomputable def tw1648844415183562652:=tree_177 B0
theorem te1648844415183562652:tree_177 A0=tw1648844415183562652:=congrArg tree_177 ab
end PySem.W.Fast
namespace Bw
open PySem L2 PySem.W
theorem all_mk {l:OpenLaw}{w:World}{K:Frag}{h:Heap}{mg:Str→Option Value}{fa f0 f1 f2 f3 f4 f5 f6 f7 f8 f9 f10 f11 f12 f13 f14 f15 f16 f17 f18 f19 f20 f21 f22 f23 f24 f25 f26 f27 f28 f29 f30 f31 f32 f33 f34 f35 f36 f37 f38 f39 f40 f41 f42 f43 f44 f45 f46 f47 z0 z1 z2 z3 z4 z5 z6 z7 z8:Addr}{t0 t1:Tok}(X:K.In h)(G:h.Ns mainGlobals mg)(hfa:mg "law"=some (.ref fa)){od0 an0:Option Addr}{sl0:Array (Option Value)}{oc0 kV0 dc0 pm0 cd0 ct0:Value}(a0:nsIn K mainGlobals "is_whole"=some (some (.ref f0)))(l0:K.lookup f0=some ⟨oc0,od0,.func (fnOf "is_whole" "is_whole" (defArgs s_is_whole) (defBody s_is_whole) (defScope s_is_whole) .none kV0 dc0 pm0 an0 cd0 ct0),sl0⟩)(c0:codeIn K cd0 "is_whole"=true)(k0:keepIn K (.ref f0)=true){od1 an1:Option Addr}{sl1:Array (Option Value)}{oc1 kV1 dc1 pm1 cd1 ct1:Value}(a1:nsIn K mainGlobals "is_whole_from"=some (some (.ref f1)))(l1:K.lookup f1=some ⟨oc1,od1,.func (fnOf "is_whole_from" "is_whole_from" (defArgs s_is_whole_from) (defBody s_is_whole_from) (defScope s_is_whole_from) .none kV1 dc1 pm1 an1 cd1 ct1),sl1⟩)(c1:codeIn K cd1 "is_whole_from"=true)(k1:keepIn K (.ref f1)=true){od2 an2:Option Addr}{sl2:Array (Option Value)}{oc2 kV2 dc2 pm2 cd2 ct2:Value}(a2:nsIn K mainGlobals "is_name"=some (some (.ref f2)))(l2:K.lookup f2=some ⟨oc2,od2,.func (fnOf "is_name" "is_name" (defArgs s_is_name) (defBody s_is_name) (defScope s_is_name) .none kV2 dc2 pm2 an2 cd2 ct2),sl2⟩)(c2:codeIn K cd2 "is_name"=true)(k2:keepIn K (.ref f2)=true){od3 an3:Option Addr}{sl3:Array (Option Value)}{oc3 kV3 dc3 pm3 cd3 ct3:Value}(a3:findIn K (.ref z0) "__init__"=some (some (.ref f3)))(i3:isFn K (.ref f3)=true)(l3:K.lookup f3=some ⟨oc3,od3,.func (fnOf "__init__" "Happening.__init__" (defArgs s_Happening___init__) (defBody s_Happening___init__) (defScope s_Happening___init__) .none kV3 dc3 pm3 an3 cd3 ct3),sl3⟩)(c3:codeIn K cd3 "Happening.__init__"=true)(k3:keepIn K (.ref f3)=true){od4 an4:Option Addr}{sl4:Array (Option Value)}{oc4 kV4 dc4 pm4 cd4 ct4:Value}(a4:nsIn K mainGlobals "are_unlike_names"=some (some (.ref f4)))(l4:K.lookup f4=some ⟨oc4,od4,.func (fnOf "are_unlike_names" "are_unlike_names" (defArgs s_are_unlike_names) (defBody s_are_unlike_names) (defScope s_are_unlike_names) .none kV4 dc4 pm4 an4 cd4 ct4),sl4⟩)(c4:codeIn K cd4 "are_unlike_names"=true)(k4:keepIn K (.ref f4)=true){od5 an5:Option Addr}{sl5:Array (Option Value)}{oc5 kV5 dc5 pm5 cd5 ct5:Value}(a5:nsIn K mainGlobals "counted_name"=some (some (.ref f5)))(l5:K.lookup f5=some ⟨oc5,od5,.func (fnOf "counted_name" "counted_name" (defArgs s_counted_name) (defBody s_counted_name) (defScope s_counted_name) .none kV5 dc5 pm5 an5 cd5 ct5),sl5⟩)(c5:codeIn K cd5 "counted_name"=true)(k5:keepIn K (.ref f5)=true){od6 an6:Option Addr}{sl6:Array (Option Value)}{oc6 kV6 dc6 pm6 cd6 ct6:Value}(a6:nsIn K mainGlobals "unused_name"=some (some (.ref f6)))(l6:K.lookup f6=some ⟨oc6,od6,.func (fnOf "unused_name" "unused_name" (defArgs s_unused_name) (defBody s_unused_name) (defScope s_unused_name) .none kV6 dc6 pm6 an6 cd6 ct6),sl6⟩)(c6:codeIn K cd6 "unused_name"=true)(k6:keepIn K (.ref f6)=true){od7 an7:Option Addr}{sl7:Array (Option Value)}{oc7 kV7 dc7 pm7 cd7 ct7:Value}(a7:findIn K (.ref z2) "note_turns"=some (some (.ref f7)))(i7:isFn K (.ref f7)=true)(l7:K.lookup f7=some ⟨oc7,od7,.func (fnOf "note_turns" "Any.note_turns" (defArgs s_Any_note_turns) (defBody s_Any_note_turns) (defScope s_Any_note_turns) .none kV7 dc7 pm7 an7 cd7 ct7),sl7⟩)(c7:codeIn K cd7 "Any.note_turns"=true)(k7:keepIn K (.ref f7)=true){od8 an8:Option Addr}{sl8:Array (Option Value)}{oc8 kV8 dc8 pm8 cd8 ct8:Value}(a8:findIn K (.ref z2) "weight_bits"=some (some (.ref f8)))(i8:isFn K (.ref f8)=true)(l8:K.lookup f8=some ⟨oc8,od8,.func (fnOf "weight_bits" "Any.weight_bits" (defArgs s_Any_weight_bits) (defBody s_Any_weight_bits) (defScope s_Any_weight_bits) .none kV8 dc8 pm8 an8 cd8 ct8),sl8⟩)(c8:codeIn K cd8 "Any.weight_bits"=true)(k8:keepIn K (.ref f8)=true){od9 an9:Option Addr}{sl9:Array (Option Value)}{oc9 kV9 dc9 pm9 cd9 ct9:Value}(a9:findIn K (.ref z3) "__init__"=some (some (.ref f9)))(i9:isFn K (.ref f9)=true)(l9:K.lookup f9=some ⟨oc9,od9,.func (fnOf "__init__" "Kind.__init__" (defArgs s_Kind___init__) (defBody s_Kind___init__) (defScope s_Kind___init__) .none kV9 dc9 pm9 an9 cd9 ct9),sl9⟩)(c9:codeIn K cd9 "Kind.__init__"=true)(k9:keepIn K (.ref f9)=true){od10 an10:Option Addr}{sl10:Array (Option Value)}{oc10 kV10 dc10 pm10 cd10 ct10:Value}(a10:findIn K (.ref z3) "note_turns"=some (some (.ref f10)))(i10:isFn K (.ref f10)=true)(l10:K.lookup f10=some ⟨oc10,od10,.func (fnOf "note_turns" "Kind.note_turns" (defArgs s_Kind_note_turns) (defBody s_Kind_note_turns) (defScope s_Kind_note_turns) .none kV10 dc10 pm10 an10 cd10 ct10),sl10⟩)(c10:codeIn K cd10 "Kind.note_turns"=true)(k10:keepIn K (.ref f10)=true){od11 an11:Option Addr}{sl11:Array (Option Value)}{oc11 kV11 dc11 pm11 cd11 ct11:Value}(a11:findIn K (.ref z3) "weight_bits"=some (some (.ref f11)))(i11:isFn K (.ref f11)=true)(l11:K.lookup f11=some ⟨oc11,od11,.func (fnOf "weight_bits" "Kind.weight_bits" (defArgs s_Kind_weight_bits) (defBody s_Kind_weight_bits) (defScope s_Kind_weight_bits) .none kV11 dc11 pm11 an11 cd11 ct11),sl11⟩)(c11:codeIn K cd11 "Kind.weight_bits"=true)(k11:keepIn K (.ref f11)=true){od12 an12:Option Addr}{sl12:Array (Option Value)}{oc12 kV12 dc12 pm12 cd12 ct12:Value}(a12:findIn K (.ref z4) "__init__"=some (some (.ref f12)))(i12:isFn K (.ref f12)=true)(l12:K.lookup f12=some ⟨oc12,od12,.func (fnOf "__init__" "Place.__init__" (defArgs s_Place___init__) (defBody s_Place___init__) (defScope s_Place___init__) .none kV12 dc12 pm12 an12 cd12 ct12),sl12⟩)(c12:codeIn K cd12 "Place.__init__"=true)(k12:keepIn K (.ref f12)=true){od13 an13:Option Addr}{sl13:Array (Option Value)}{oc13 kV13 dc13 pm13 cd13 ct13:Value}(a13:findIn K (.ref z4) "note_turns"=some (some (.ref f13)))(i13:isFn K (.ref f13)=true)(l13:K.lookup f13=some ⟨oc13,od13,.func (fnOf "note_turns" "Place.note_turns" (defArgs s_Place_note_turns) (defBody s_Place_note_turns) (defScope s_Place_note_turns) .none kV13 dc13 pm13 an13 cd13 ct13),sl13⟩)(c13:codeIn K cd13 "Place.note_turns"=true)(k13:keepIn K (.ref f13)=true){od14 an14:Option Addr}{sl14:Array (Option Value)}{oc14 kV14 dc14 pm14 cd14 ct14:Value}(a14:findIn K (.ref z4) "weight_bits"=some (some (.ref f14)))(i14:isFn K (.ref f14)=true)(l14:K.lookup f14=some ⟨oc14,od14,.func (fnOf "weight_bits" "Place.weight_bits" (defArgs s_Place_weight_bits) (defBody s_Place_weight_bits) (defScope s_Place_weight_bits) .none kV14 dc14 pm14 an14 cd14 ct14),sl14⟩)(c14:codeIn K cd14 "Place.weight_bits"=true)(k14:keepIn K (.ref f14)=true){od15 an15:Option Addr}{sl15:Array (Option Value)}{oc15 kV15 dc15 pm15 cd15 ct15:Value}(a15:findIn K (.ref z5) "__init__"=some (some (.ref f15)))(i15:isFn K (.ref f15)=true)(l15:K.lookup f15=some ⟨oc15,od15,.func (fnOf "__init__" "Least.__init__" (defArgs s_Least___init__) (defBody s_Least___init__) (defScope s_Least___init__) .none kV15 dc15 pm15 an15 cd15 ct15),sl15⟩)(c15:codeIn K cd15 "Least.__init__"=true)(k15:keepIn K (.ref f15)=true){od16 an16:Option Addr}{sl16:Array (Option Value)}{oc16 kV16 dc16 pm16 cd16 ct16:Value}(a16:findIn K (.ref z5) "note_turns"=some (some (.ref f16)))(i16:isFn K (.ref f16)=true)(l16:K.lookup f16=some ⟨oc16,od16,.func (fnOf "note_turns" "Least.note_turns" (defArgs s_Least_note_turns) (defBody s_Least_note_turns) (defScope s_Least_note_turns) .none kV16 dc16 pm16 an16 cd16 ct16),sl16⟩)(c16:codeIn K cd16 "Least.note_turns"=true)(k16:keepIn K (.ref f16)=true){od17 an17:Option Addr}{sl17:Array (Option Value)}{oc17 kV17 dc17 pm17 cd17 ct17:Value}(a17:findIn K (.ref z5) "weight_bits"=some (some (.ref f17)))(i17:isFn K (.ref f17)=true)(l17:K.lookup f17=some ⟨oc17,od17,.func (fnOf "weight_bits" "Least.weight_bits" (defArgs s_Least_weight_bits) (defBody s_Least_weight_bits) (defScope s_Least_weight_bits) .none kV17 dc17 pm17 an17 cd17 ct17),sl17⟩)(c17:codeIn K cd17 "Least.weight_bits"=true)(k17:keepIn K (.ref f17)=true){od18 an18:Option Addr}{sl18:Array (Option Value)}{oc18 kV18 dc18 pm18 cd18 ct18:Value}(a18:findIn K (.ref z6) "__init__"=some (some (.ref f18)))(i18:isFn K (.ref f18)=true)(l18:K.lookup f18=some ⟨oc18,od18,.func (fnOf "__init__" "Not.__init__" (defArgs s_Not___init__) (defBody s_Not___init__) (defScope s_Not___init__) .none kV18 dc18 pm18 an18 cd18 ct18),sl18⟩)(c18:codeIn K cd18 "Not.__init__"=true)(k18:keepIn K (.ref f18)=true){od19 an19:Option Addr}{sl19:Array (Option Value)}{oc19 kV19 dc19 pm19 cd19 ct19:Value}(a19:findIn K (.ref z6) "note_turns"=some (some (.ref f19)))(i19:isFn K (.ref f19)=true)(l19:K.lookup f19=some ⟨oc19,od19,.func (fnOf "note_turns" "Not.note_turns" (defArgs s_Not_note_turns) (defBody s_Not_note_turns) (defScope s_Not_note_turns) .none kV19 dc19 pm19 an19 cd19 ct19),sl19⟩)(c19:codeIn K cd19 "Not.note_turns"=true)(k19:keepIn K (.ref f19)=true){od20 an20:Option Addr}{sl20:Array (Option Value)}{oc20 kV20 dc20 pm20 cd20 ct20:Value}(a20:findIn K (.ref z6) "weight_bits"=some (some (.ref f20)))(i20:isFn K (.ref f20)=true)(l20:K.lookup f20=some ⟨oc20,od20,.func (fnOf "weight_bits" "Not.weight_bits" (defArgs s_Not_weight_bits) (defBody s_Not_weight_bits) (defScope s_Not_weight_bits) .none kV20 dc20 pm20 an20 cd20 ct20),sl20⟩)(c20:codeIn K cd20 "Not.weight_bits"=true)(k20:keepIn K (.ref f20)=true){od21 an21:Option Addr}{sl21:Array (Option Value)}{oc21 kV21 dc21 pm21 cd21 ct21:Value}(a21:findIn K (.ref z7) "__init__"=some (some (.ref f21)))(i21:isFn K (.ref f21)=true)(l21:K.lookup f21=some ⟨oc21,od21,.func (fnOf "__init__" "Both.__init__" (defArgs s_Both___init__) (defBody s_Both___init__) (defScope s_Both___init__) .none kV21 dc21 pm21 an21 cd21 ct21),sl21⟩)(c21:codeIn K cd21 "Both.__init__"=true)(k21:keepIn K (.ref f21)=true){od22 an22:Option Addr}{sl22:Array (Option Value)}{oc22 kV22 dc22 pm22 cd22 ct22:Value}(a22:findIn K (.ref z7) "note_turns"=some (some (.ref f22)))(i22:isFn K (.ref f22)=true)(l22:K.lookup f22=some ⟨oc22,od22,.func (fnOf "note_turns" "Both.note_turns" (defArgs s_Both_note_turns) (defBody s_Both_note_turns) (defScope s_Both_note_turns) .none kV22 dc22 pm22 an22 cd22 ct22),sl22⟩)(c22:codeIn K cd22 "Both.note_turns"=true)(k22:keepIn K (.ref f22)=true){od23 an23:Option Addr}{sl23:Array (Option Value)}{oc23 kV23 dc23 pm23 cd23 ct23:Value}(a23:findIn K (.ref z7) "weight_bits"=some (some (.ref f23)))(i23:isFn K (.ref f23)=true)(l23:K.lookup f23=some ⟨oc23,od23,.func (fnOf "weight_bits" "Both.weight_bits" (defArgs s_Both_weight_bits) (defBody s_Both_weight_bits) (defScope s_Both_weight_bits) .none kV23 dc23 pm23 an23 cd23 ct23),sl23⟩)(c23:codeIn K cd23 "Both.weight_bits"=true)(k23:keepIn K (.ref f23)=true){od24 an24:Option Addr}{sl24:Array (Option Value)}{oc24 kV24 dc24 pm24 cd24 ct24:Value}(a24:findIn K (.ref z8) "__init__"=some (some (.ref f24)))(i24:isFn K (.ref f24)=true)(l24:K.lookup f24=some ⟨oc24,od24,.func (fnOf "__init__" "Either.__init__" (defArgs s_Either___init__) (defBody s_Either___init__) (defScope s_Either___init__) .none kV24 dc24 pm24 an24 cd24 ct24),sl24⟩)(c24:codeIn K cd24 "Either.__init__"=true)(k24:keepIn K (.ref f24)=true){od25 an25:Option Addr}{sl25:Array (Option Value)}{oc25 kV25 dc25 pm25 cd25 ct25:Value}(a25:findIn K (.ref z8) "note_turns"=some (some (.ref f25)))(i25:isFn K (.ref f25)=true)(l25:K.lookup f25=some ⟨oc25,od25,.func (fnOf "note_turns" "Either.note_turns" (defArgs s_Either_note_turns) (defBody s_Either_note_turns) (defScope s_Either_note_turns) .none kV25 dc25 pm25 an25 cd25 ct25),sl25⟩)(c25:codeIn K cd25 "Either.note_turns"=true)(k25:keepIn K (.ref f25)=true){od26 an26:Option Addr}{sl26:Array (Option Value)}{oc26 kV26 dc26 pm26 cd26 ct26:Value}(a26:findIn K (.ref z8) "weight_bits"=some (some (.ref f26)))(i26:isFn K (.ref f26)=true)(l26:K.lookup f26=some ⟨oc26,od26,.func (fnOf "weight_bits" "Either.weight_bits" (defArgs s_Either_weight_bits) (defBody s_Either_weight_bits) (defScope s_Either_weight_bits) .none kV26 dc26 pm26 an26 cd26 ct26),sl26⟩)(c26:codeIn K cd26 "Either.weight_bits"=true)(k26:keepIn K (.ref f26)=true){od27 an27:Option Addr}{sl27:Array (Option Value)}{oc27 kV27 dc27 pm27 cd27 ct27:Value}(a27:nsIn K mainGlobals "check_names"=some (some (.ref f27)))(l27:K.lookup f27=some ⟨oc27,od27,.func (fnOf "check_names" "check_names" (defArgs s_check_names) (defBody s_check_names) (defScope s_check_names) .none kV27 dc27 pm27 an27 cd27 ct27),sl27⟩)(c27:codeIn K cd27 "check_names"=true)(k27:keepIn K (.ref f27)=true){od28 an28:Option Addr}{sl28:Array (Option Value)}{oc28 kV28 dc28 pm28 cd28 ct28:Value}(a28:nsIn K mainGlobals "check_fit"=some (some (.ref f28)))(l28:K.lookup f28=some ⟨oc28,od28,.func (fnOf "check_fit" "check_fit" (defArgs s_check_fit) (defBody s_check_fit) (defScope s_check_fit) .none kV28 dc28 pm28 an28 cd28 ct28),sl28⟩)(c28:codeIn K cd28 "check_fit"=true)(k28:keepIn K (.ref f28)=true){od29 an29:Option Addr}{sl29:Array (Option Value)}{oc29 kV29 dc29 pm29 cd29 ct29:Value}(a29:nsIn K mainGlobals "check_fits"=some (some (.ref f29)))(l29:K.lookup f29=some ⟨oc29,od29,.func (fnOf "check_fits" "check_fits" (defArgs s_check_fits) (defBody s_check_fits) (defScope s_check_fits) .none kV29 dc29 pm29 an29 cd29 ct29),sl29⟩)(c29:codeIn K cd29 "check_fits"=true)(k29:keepIn K (.ref f29)=true){od30 an30:Option Addr}{sl30:Array (Option Value)}{oc30 kV30 dc30 pm30 cd30 ct30:Value}(a30:nsIn K mainGlobals "mark"=some (some (.ref f30)))(l30:K.lookup f30=some ⟨oc30,od30,.func (fnOf "mark" "mark" (defArgs s_mark) (defBody s_mark) (defScope s_mark) .none kV30 dc30 pm30 an30 cd30 ct30),sl30⟩)(c30:codeIn K cd30 "mark"=true)(k30:keepIn K (.ref f30)=true){od31 an31:Option Addr}{sl31:Array (Option Value)}{oc31 kV31 dc31 pm31 cd31 ct31:Value}(a31:nsIn K mainGlobals "parting"=some (some (.ref f31)))(l31:K.lookup f31=some ⟨oc31,od31,.func (fnOf "parting" "parting" (defArgs s_parting) (defBody s_parting) (defScope s_parting) .none kV31 dc31 pm31 an31 cd31 ct31),sl31⟩)(c31:codeIn K cd31 "parting"=true)(k31:keepIn K (.ref f31)=true){od32 an32:Option Addr}{sl32:Array (Option Value)}{oc32 kV32 dc32 pm32 cd32 ct32:Value}(a32:nsIn K mainGlobals "firsts"=some (some (.ref f32)))(l32:K.lookup f32=some ⟨oc32,od32,.func (fnOf "firsts" "firsts" (defArgs s_firsts) (defBody s_firsts) (defScope s_firsts) .none kV32 dc32 pm32 an32 cd32 ct32),sl32⟩)(c32:codeIn K cd32 "firsts"=true)(k32:keepIn K (.ref f32)=true){od33 an33:Option Addr}{sl33:Array (Option Value)}{oc33 kV33 dc33 pm33 cd33 ct33:Value}(a33:nsIn K mainGlobals "bits_from_weights"=some (some (.ref f33)))(l33:K.lookup f33=some ⟨oc33,od33,.func (fnOf "bits_from_weights" "bits_from_weights" (defArgs s_bits_from_weights) (defBody s_bits_from_weights) (defScope s_bits_from_weights) .none kV33 dc33 pm33 an33 cd33 ct33),sl33⟩)(c33:codeIn K cd33 "bits_from_weights"=true)(k33:keepIn K (.ref f33)=true){od34 an34:Option Addr}{sl34:Array (Option Value)}{oc34 kV34 dc34 pm34 cd34 ct34:Value}(a34:nsIn K mainGlobals "find_firsts"=some (some (.ref f34)))(l34:K.lookup f34=some ⟨oc34,od34,.func (fnOf "find_firsts" "find_firsts" (defArgs s_find_firsts) (defBody s_find_firsts) (defScope s_find_firsts) .none kV34 dc34 pm34 an34 cd34 ct34),sl34⟩)(c34:codeIn K cd34 "find_firsts"=true)(k34:keepIn K (.ref f34)=true){od35 an35:Option Addr}{sl35:Array (Option Value)}{oc35 kV35 dc35 pm35 cd35 ct35:Value}(a35:nsIn K mainGlobals "_law_cell_at"=some (some (.ref f35)))(l35:K.lookup f35=some ⟨oc35,od35,.func (fnOf "_law_cell_at" "_law_cell_at" (defArgs s_law_cell_at) (defBody s_law_cell_at) (defScope s_law_cell_at) .none kV35 dc35 pm35 an35 cd35 ct35),sl35⟩)(c35:codeIn K cd35 "_law_cell_at"=true)(k35:keepIn K (.ref f35)=true){od36 an36:Option Addr}{sl36:Array (Option Value)}{oc36 kV36 dc36 pm36 cd36 ct36:Value}(a36:nsIn K mainGlobals "_law_begin"=some (some (.ref f36)))(l36:K.lookup f36=some ⟨oc36,od36,.func (fnOf "_law_begin" "_law_begin" (defArgs s_law_begin) (defBody s_law_begin) (defScope s_law_begin) .none kV36 dc36 pm36 an36 cd36 ct36),sl36⟩)(c36:codeIn K cd36 "_law_begin"=true)(k36:keepIn K (.ref f36)=true){od37 an37:Option Addr}{sl37:Array (Option Value)}{oc37 kV37 dc37 pm37 cd37 ct37:Value}(a37:nsIn K mainGlobals "_law_next"=some (some (.ref f37)))(l37:K.lookup f37=some ⟨oc37,od37,.func (fnOf "_law_next" "_law_next" (defArgs s_law_next) (defBody s_law_next) (defScope s_law_next) .none kV37 dc37 pm37 an37 cd37 ct37),sl37⟩)(c37:codeIn K cd37 "_law_next"=true)(k37:keepIn K (.ref f37)=true){od38 an38:Option Addr}{sl38:Array (Option Value)}{oc38 kV38 dc38 pm38 cd38 ct38:Value}(a38:nsIn K mainGlobals "_law_name"=some (some (.ref f38)))(l38:K.lookup f38=some ⟨oc38,od38,.func (fnOf "_law_name" "_law_name" (defArgs s_law_name) (defBody s_law_name) (defScope s_law_name) .none kV38 dc38 pm38 an38 cd38 ct38),sl38⟩)(c38:codeIn K cd38 "_law_name"=true)(k38:keepIn K (.ref f38)=true){od39 an39:Option Addr}{sl39:Array (Option Value)}{oc39 kV39 dc39 pm39 cd39 ct39:Value}(a39:nsIn K mainGlobals "_law_leaf"=some (some (.ref f39)))(l39:K.lookup f39=some ⟨oc39,od39,.func (fnOf "_law_leaf" "_law_leaf" (defArgs s_law_leaf) (defBody s_law_leaf) (defScope s_law_leaf) .none kV39 dc39 pm39 an39 cd39 ct39),sl39⟩)(c39:codeIn K cd39 "_law_leaf"=true)(k39:keepIn K (.ref f39)=true){od40 an40:Option Addr}{sl40:Array (Option Value)}{oc40 kV40 dc40 pm40 cd40 ct40:Value}(a40:nsIn K mainGlobals "_law_tree"=some (some (.ref f40)))(l40:K.lookup f40=some ⟨oc40,od40,.func (fnOf "_law_tree" "_law_tree" (defArgs s_law_tree) (defBody s_law_tree) (defScope s_law_tree) .none kV40 dc40 pm40 an40 cd40 ct40),sl40⟩)(c40:codeIn K cd40 "_law_tree"=true)(k40:keepIn K (.ref f40)=true){od41 an41:Option Addr}{sl41:Array (Option Value)}{oc41 kV41 dc41 pm41 cd41 ct41:Value}(a41:nsIn K mainGlobals "_law_made"=some (some (.ref f41)))(l41:K.lookup f41=some ⟨oc41,od41,.func (fnOf "_law_made" "_law_made" (defArgs s_law_made) (defBody s_law_made) (defScope s_law_made) .none kV41 dc41 pm41 an41 cd41 ct41),sl41⟩)(c41:codeIn K cd41 "_law_made"=true)(k41:keepIn K (.ref f41)=true){od42 an42:Option Addr}{sl42:Array (Option Value)}{oc42 kV42 dc42 pm42 cd42 ct42:Value}(a42:nsIn K mainGlobals "_law_fits"=some (some (.ref f42)))(l42:K.lookup f42=some ⟨oc42,od42,.func (fnOf "_law_fits" "_law_fits" (defArgs s_law_fits) (defBody s_law_fits) (defScope s_law_fits) .none kV42 dc42 pm42 an42 cd42 ct42),sl42⟩)(c42:codeIn K cd42 "_law_fits"=true)(k42:keepIn K (.ref f42)=true){od43 an43:Option Addr}{sl43:Array (Option Value)}{oc43 kV43 dc43 pm43 cd43 ct43:Value}(a43:nsIn K mainGlobals "_law_gathered"=some (some (.ref f43)))(l43:K.lookup f43=some ⟨oc43,od43,.func (fnOf "_law_gathered" "_law_gathered" (defArgs s_law_gathered) (defBody s_law_gathered) (defScope s_law_gathered) .none kV43 dc43 pm43 an43 cd43 ct43),sl43⟩)(c43:codeIn K cd43 "_law_gathered"=true)(k43:keepIn K (.ref f43)=true){od44 an44:Option Addr}{sl44:Array (Option Value)}{oc44 kV44 dc44 pm44 cd44 ct44:Value}(a44:nsIn K mainGlobals "_law_beside"=some (some (.ref f44)))(l44:K.lookup f44=some ⟨oc44,od44,.func (fnOf "_law_beside" "_law_beside" (defArgs s_law_beside) (defBody s_law_beside) (defScope s_law_beside) .none kV44 dc44 pm44 an44 cd44 ct44),sl44⟩)(c44:codeIn K cd44 "_law_beside"=true)(k44:keepIn K (.ref f44)=true){od45 an45:Option Addr}{sl45:Array (Option Value)}{oc45 kV45 dc45 pm45 cd45 ct45:Value}(a45:nsIn K mainGlobals "_law_all"=some (some (.ref f45)))(l45:K.lookup f45=some ⟨oc45,od45,.func (fnOf "_law_all" "_law_all" (defArgs s_law_all) (defBody s_law_all) (defScope s_law_all) .none kV45 dc45 pm45 an45 cd45 ct45),sl45⟩)(c45:codeIn K cd45 "_law_all"=true)(k45:keepIn K (.ref f45)=true){od46 an46:Option Addr}{sl46:Array (Option Value)}{oc46 kV46 dc46 pm46 cd46 ct46:Value}(a46:nsIn K mainGlobals "_law_right"=some (some (.ref f46)))(l46:K.lookup f46=some ⟨oc46,od46,.func (fnOf "_law_right" "_law_right" (defArgs s_law_right) (defBody s_law_right) (defScope s_law_right) .none kV46 dc46 pm46 an46 cd46 ct46),sl46⟩)(c46:codeIn K cd46 "_law_right"=true)(k46:keepIn K (.ref f46)=true){od47 an47:Option Addr}{sl47:Array (Option Value)}{oc47 kV47 dc47 pm47 cd47 ct47:Value}(a47:nsIn K mainGlobals "law"=some (some (.ref f47)))(l47:K.lookup f47=some ⟨oc47,od47,.func (fnOf "law" "law" (defArgs s_law) (defBody s_law) (defScope s_law) .none kV47 dc47 pm47 an47 cd47 ct47),sl47⟩)(c47:codeIn K cd47 "law"=true)(k47:keepIn K (.ref f47)=true)(y0:nsIn K mainGlobals "len"=some none)(y1:nsIn K mainGlobals "int"=some none)(y2:nsIn K mainGlobals "bool"=some none)(y3:nsIn K mainGlobals "str"=some none)(y4:nsIn K mainGlobals "tuple"=some none)(y5:nsIn K mainGlobals "list"=some none)(y6:nsIn K mainGlobals "all"=some none)(y7:nsIn K mainGlobals "isinstance"=some none)(y8:nsIn K mainGlobals "range"=some none)(y9:nsIn K mainGlobals "set"=some none)(y10:nsIn K mainGlobals "sorted"=some none)(y11:nsIn K mainGlobals "enumerate"=some none)(y12:nsIn K mainGlobals "LETTERS"=some (some (.str "abcdefghijklmnopqrstuvwxyz" t0)))(y13:nsIn K mainGlobals "MOST_LETTERS"=some (some (.int 8 t1)))(y14:nsIn K mainGlobals "Happening"=some (some (.ref z0)))(y15:nsIn K mainGlobals "Fit"=some (some (.ref z1)))(y16:nsIn K mainGlobals "Any"=some (some (.ref z2)))(y17:nsIn K mainGlobals "Kind"=some (some (.ref z3)))(y18:nsIn K mainGlobals "Place"=some (some (.ref z4)))(y19:nsIn K mainGlobals "Least"=some (some (.ref z5)))(y20:nsIn K mainGlobals "Not"=some (some (.ref z6)))(y21:nsIn K mainGlobals "Both"=some (some (.ref z7)))(y22:nsIn K mainGlobals "Either"=some (some (.ref z8)))(y23_0:plainGet K z2 Str.empty=true)(y23_1:hasDictIn K z2=true)(y23_2:plainOver K z2=true)(y23_3:findIn K (.ref z2) "__setattr__"=some (some (.builtin "object.__setattr__")))(y23_4:findIn K (.ref z2) "__class__"=some (some (.builtin "object.__class__")))(y23_5:specialIn K (.builtin "object.__class__") "__get__"=some (some (.builtin "getset_descriptor.__get__")))(y23_6:takesIn K (.builtin "object.__class__")=some true)(y23_7:mroIn K z2 (.type "object")=some true)(y24_0:plainGet K z3 Str.empty=true)(y24_1:hasDictIn K z3=true)(y24_2:plainOver K z3=true)(y24_3:findIn K (.ref z3) "__setattr__"=some (some (.builtin "object.__setattr__")))(y24_4:findIn K (.ref z3) "__class__"=some (some (.builtin "object.__class__")))(y24_5:specialIn K (.builtin "object.__class__") "__get__"=some (some (.builtin "getset_descriptor.__get__")))(y24_6:takesIn K (.builtin "object.__class__")=some true)(y24_7:mroIn K z3 (.type "object")=some true)(y25:findIn K (.ref z3) "names"=some none)(y26_0:plainGet K z4 Str.empty=true)(y26_1:hasDictIn K z4=true)(y26_2:plainOver K z4=true)(y26_3:findIn K (.ref z4) "__setattr__"=some (some (.builtin "object.__setattr__")))(y26_4:findIn K (.ref z4) "__class__"=some (some (.builtin "object.__class__")))(y26_5:specialIn K (.builtin "object.__class__") "__get__"=some (some (.builtin "getset_descriptor.__get__")))(y26_6:takesIn K (.builtin "object.__class__")=some true)(y26_7:mroIn K z4 (.type "object")=some true)(y27:findIn K (.ref z4) "names"=some none)(y28_0:plainGet K z5 Str.empty=true)(y28_1:hasDictIn K z5=true)(y28_2:plainOver K z5=true)(y28_3:findIn K (.ref z5) "__setattr__"=some (some (.builtin "object.__setattr__")))(y28_4:findIn K (.ref z5) "__class__"=some (some (.builtin "object.__class__")))(y28_5:specialIn K (.builtin "object.__class__") "__get__"=some (some (.builtin "getset_descriptor.__get__")))(y28_6:takesIn K (.builtin "object.__class__")=some true)(y28_7:mroIn K z5 (.type "object")=some true)(y29:findIn K (.ref z5) "weight"=some none)(y30_0:plainGet K z6 Str.empty=true)(y30_1:hasDictIn K z6=true)(y30_2:plainOver K z6=true)(y30_3:findIn K (.ref z6) "__setattr__"=some (some (.builtin "object.__setattr__")))(y30_4:findIn K (.ref z6) "__class__"=some (some (.builtin "object.__class__")))(y30_5:specialIn K (.builtin "object.__class__") "__get__"=some (some (.builtin "getset_descriptor.__get__")))(y30_6:takesIn K (.builtin "object.__class__")=some true)(y30_7:mroIn K z6 (.type "object")=some true)(y31:findIn K (.ref z6) "fit"=some none)(y32_0:plainGet K z7 Str.empty=true)(y32_1:hasDictIn K z7=true)(y32_2:plainOver K z7=true)(y32_3:findIn K (.ref z7) "__setattr__"=some (some (.builtin "object.__setattr__")))(y32_4:findIn K (.ref z7) "__class__"=some (some (.builtin "object.__class__")))(y32_5:specialIn K (.builtin "object.__class__") "__get__"=some (some (.builtin "getset_descriptor.__get__")))(y32_6:takesIn K (.builtin "object.__class__")=some true)(y32_7:mroIn K z7 (.type "object")=some true)(y33:findIn K (.ref z7) "fits"=some none)(y34_0:plainGet K z8 Str.empty=true)(y34_1:hasDictIn K z8=true)(y34_2:plainOver K z8=true)(y34_3:findIn K (.ref z8) "__setattr__"=some (some (.builtin "object.__setattr__")))(y34_4:findIn K (.ref z8) "__class__"=some (some (.builtin "object.__class__")))(y34_5:specialIn K (.builtin "object.__class__") "__get__"=some (some (.builtin "getset_descriptor.__get__")))(y34_6:takesIn K (.builtin "object.__class__")=some true)(y34_7:mroIn K z8 (.type "object")=some true)(y35:findIn K (.ref z8) "fits"=some none)(y36_0:plainGet K z0 Str.empty=true)(y36_1:hasDictIn K z0=true)(y36_2:plainOver K z0=true)(y36_3:findIn K (.ref z0) "__setattr__"=some (some (.builtin "object.__setattr__")))(y36_4:findIn K (.ref z0) "__class__"=some (some (.builtin "object.__class__")))(y36_5:specialIn K (.builtin "object.__class__") "__get__"=some (some (.builtin "getset_descriptor.__get__")))(y36_6:takesIn K (.builtin "object.__class__")=some true)(y36_7:mroIn K z0 (.type "object")=some true)(y37:findIn K (.ref z0) "kind"=some none)(y38:findIn K (.ref z0) "place"=some none)(y39:findIn K (.ref z0) "weight"=some none)(y40:kitOne K (.ref z2) (.ref z1)=some true)(y41:kitOne K (.ref z3) (.ref z1)=some true)(y42:kitOne K (.ref z4) (.ref z1)=some true)(y43:kitOne K (.ref z5) (.ref z1)=some true)(y44:kitOne K (.ref z6) (.ref z1)=some true)(y45:kitOne K (.ref z7) (.ref z1)=some true)(y46:kitOne K (.ref z8) (.ref z1)=some true)(y47_0:makesIn K z2=true)(y47_1:findIn K (.ref z2) "__init__"=some (some (.builtin "object.__init__")))(y47_2:keepIn K (.ref z2)=true)(y48:kitOne K (.ref z0) (.ref z0)=some true)(mkHappening:makesIn K z0=true)(kcHappening:keepIn K (.ref z0)=true)(mkKind:makesIn K z3=true)(kcKind:keepIn K (.ref z3)=true)(mkPlace:makesIn K z4=true)(kcPlace:keepIn K (.ref z4)=true)(mkLeast:makesIn K z5=true)(kcLeast:keepIn K (.ref z5)=true)(mkNot:makesIn K z6=true)(kcNot:keepIn K (.ref z6)=true)(mkBoth:makesIn K z7=true)(kcBoth:keepIn K (.ref z7)=true)(mkEither:makesIn K z8=true)(kcEither:keepIn K (.ref z8)=true) :
  ∃ (a:Ad) (fd:FuncData),(∀ (s:Shared) (v:Value),BindsTo s fd ⟨[v],[]⟩ [("_law_script",v)])∧∀ base:Heap,K.In base→base.Ns mainGlobals mg→FnOk l.prog w K mg base CX0 11 fa fd ["_law_script"] (sp_law K a):=by
 have e:=hfa.symm.trans (mg_of X G a47)
 cases e
 have B:Bt K mg ⟨z0,z1,z2,z3,z4,z5,z6,z7,z8,t0,t1⟩:=⟨mg_none_of X G y0,mg_none_of X G y1,mg_none_of X G y2,mg_none_of X G y3,mg_none_of X G y4,mg_none_of X G y5,mg_none_of X G y6,mg_none_of X G y7,mg_none_of X G y8,mg_none_of X G y9,mg_none_of X G y10,mg_none_of X G y11,mg_of X G y12,mg_of X G y13,mg_of X G y14,mg_of X G y15,mg_of X G y16,mg_of X G y17,mg_of X G y18,mg_of X G y19,mg_of X G y20,mg_of X G y21,mg_of X G y22,⟨⟨y23_0,y23_1,y23_2,y23_3⟩,y23_4,y23_5,y23_6,y23_7⟩,⟨⟨y24_0,y24_1,y24_2,y24_3⟩,y24_4,y24_5,y24_6,y24_7⟩,y25,⟨⟨y26_0,y26_1,y26_2,y26_3⟩,y26_4,y26_5,y26_6,y26_7⟩,y27,⟨⟨y28_0,y28_1,y28_2,y28_3⟩,y28_4,y28_5,y28_6,y28_7⟩,y29,⟨⟨y30_0,y30_1,y30_2,y30_3⟩,y30_4,y30_5,y30_6,y30_7⟩,y31,⟨⟨y32_0,y32_1,y32_2,y32_3⟩,y32_4,y32_5,y32_6,y32_7⟩,y33,⟨⟨y34_0,y34_1,y34_2,y34_3⟩,y34_4,y34_5,y34_6,y34_7⟩,y35,⟨⟨y36_0,y36_1,y36_2,y36_3⟩,y36_4,y36_5,y36_6,y36_7⟩,y37,y38,y39,y40,y41,y42,y43,y44,y45,y46,⟨y47_0,y47_1,y47_2⟩,y48⟩
 have F0:=fun_mk (st:=s_is_whole) l0 c0 k0
 have b0:=F0.binds (ps:=["thing"]) fun _ _ _ _ _ _ us hl=>match us,hl with | [_],_=>rfl
 have F1:=fun_mk (st:=s_is_whole_from) l1 c1 k1
 have b1:=F1.binds (ps:=["thing","least"]) fun _ _ _ _ _ _ us hl=>match us,hl with | [_,_],_=>rfl
 have F2:=fun_mk (st:=s_is_name) l2 c2 k2
 have b2:=F2.binds (ps:=["thing"]) fun _ _ _ _ _ _ us hl=>match us,hl with | [_],_=>rfl
 have F3:=fun_mk (st:=s_Happening___init__) l3 c3 k3
 have b3:=F3.binds (ps:=["self","kind","place","weight"]) fun _ _ _ _ _ _ us hl=>match us,hl with | [_,_,_,_],_=>rfl
 have F4:=fun_mk (st:=s_are_unlike_names) l4 c4 k4
 have b4:=F4.binds (ps:=["thing"]) fun _ _ _ _ _ _ us hl=>match us,hl with | [_],_=>rfl
 have F5:=fun_mk (st:=s_counted_name) l5 c5 k5
 have b5:=F5.binds (ps:=["number"]) fun _ _ _ _ _ _ us hl=>match us,hl with | [_],_=>rfl
 have F6:=fun_mk (st:=s_unused_name) l6 c6 k6
 have b6:=F6.binds (ps:=["taken"]) fun _ _ _ _ _ _ us hl=>match us,hl with | [_],_=>rfl
 have F7:=fun_mk (st:=s_Any_note_turns) l7 c7 k7
 have b7:=F7.binds (ps:=["self","kinds","places","weights"]) fun _ _ _ _ _ _ us hl=>match us,hl with | [_,_,_,_],_=>rfl
 have F8:=fun_mk (st:=s_Any_weight_bits) l8 c8 k8
 have b8:=F8.binds (ps:=["self","kind","place","from_weight"]) fun _ _ _ _ _ _ us hl=>match us,hl with | [_,_,_,_],_=>rfl
 have F9:=fun_mk (st:=s_Kind___init__) l9 c9 k9
 have b9:=F9.binds (ps:=["self","names"]) fun _ _ _ _ _ _ us hl=>match us,hl with | [_,_],_=>rfl
 have F10:=fun_mk (st:=s_Kind_note_turns) l10 c10 k10
 have b10:=F10.binds (ps:=["self","kinds","places","weights"]) fun _ _ _ _ _ _ us hl=>match us,hl with | [_,_,_,_],_=>rfl
 have F11:=fun_mk (st:=s_Kind_weight_bits) l11 c11 k11
 have b11:=F11.binds (ps:=["self","kind","place","from_weight"]) fun _ _ _ _ _ _ us hl=>match us,hl with | [_,_,_,_],_=>rfl
 have F12:=fun_mk (st:=s_Place___init__) l12 c12 k12
 have b12:=F12.binds (ps:=["self","names"]) fun _ _ _ _ _ _ us hl=>match us,hl with | [_,_],_=>rfl
 have F13:=fun_mk (st:=s_Place_note_turns) l13 c13 k13
 have b13:=F13.binds (ps:=["self","kinds","places","weights"]) fun _ _ _ _ _ _ us hl=>match us,hl with | [_,_,_,_],_=>rfl
 have F14:=fun_mk (st:=s_Place_weight_bits) l14 c14 k14
 have b14:=F14.binds (ps:=["self","kind","place","from_weight"]) fun _ _ _ _ _ _ us hl=>match us,hl with | [_,_,_,_],_=>rfl
 have F15:=fun_mk (st:=s_Least___init__) l15 c15 k15
 have b15:=F15.binds (ps:=["self","weight"]) fun _ _ _ _ _ _ us hl=>match us,hl with | [_,_],_=>rfl
 have F16:=fun_mk (st:=s_Least_note_turns) l16 c16 k16
 have b16:=F16.binds (ps:=["self","kinds","places","weights"]) fun _ _ _ _ _ _ us hl=>match us,hl with | [_,_,_,_],_=>rfl
 have F17:=fun_mk (st:=s_Least_weight_bits) l17 c17 k17
 have b17:=F17.binds (ps:=["self","kind","place","from_weight"]) fun _ _ _ _ _ _ us hl=>match us,hl with | [_,_,_,_],_=>rfl
 have F18:=fun_mk (st:=s_Not___init__) l18 c18 k18
 have b18:=F18.binds (ps:=["self","fit"]) fun _ _ _ _ _ _ us hl=>match us,hl with | [_,_],_=>rfl
 have F19:=fun_mk (st:=s_Not_note_turns) l19 c19 k19
 have b19:=F19.binds (ps:=["self","kinds","places","weights"]) fun _ _ _ _ _ _ us hl=>match us,hl with | [_,_,_,_],_=>rfl
 have F20:=fun_mk (st:=s_Not_weight_bits) l20 c20 k20
 have b20:=F20.binds (ps:=["self","kind","place","from_weight"]) fun _ _ _ _ _ _ us hl=>match us,hl with | [_,_,_,_],_=>rfl
 have F21:=fun_mk (st:=s_Both___init__) l21 c21 k21
 have b21:=F21.binds (ps:=["self","fits"]) fun _ _ _ _ _ _ us hl=>match us,hl with | [_,_],_=>rfl
 have F22:=fun_mk (st:=s_Both_note_turns) l22 c22 k22
 have b22:=F22.binds (ps:=["self","kinds","places","weights"]) fun _ _ _ _ _ _ us hl=>match us,hl with | [_,_,_,_],_=>rfl
 have F23:=fun_mk (st:=s_Both_weight_bits) l23 c23 k23
 have b23:=F23.binds (ps:=["self","kind","place","from_weight"]) fun _ _ _ _ _ _ us hl=>match us,hl with | [_,_,_,_],_=>rfl
 have F24:=fun_mk (st:=s_Either___init__) l24 c24 k24
 have b24:=F24.binds (ps:=["self","fits"]) fun _ _ _ _ _ _ us hl=>match us,hl with | [_,_],_=>rfl
 have F25:=fun_mk (st:=s_Either_note_turns) l25 c25 k25
 have b25:=F25.binds (ps:=["self","kinds","places","weights"]) fun _ _ _ _ _ _ us hl=>match us,hl with | [_,_,_,_],_=>rfl
 have F26:=fun_mk (st:=s_Either_weight_bits) l26 c26 k26
 have b26:=F26.binds (ps:=["self","kind","place","from_weight"]) fun _ _ _ _ _ _ us hl=>match us,hl with | [_,_,_,_],_=>rfl
 have F27:=fun_mk (st:=s_check_names) l27 c27 k27
 have b27:=F27.binds (ps:=["names"]) fun _ _ _ _ _ _ us hl=>match us,hl with | [_],_=>rfl
 have F28:=fun_mk (st:=s_check_fit) l28 c28 k28
 have b28:=F28.binds (ps:=["fit"]) fun _ _ _ _ _ _ us hl=>match us,hl with | [_],_=>rfl
 have F29:=fun_mk (st:=s_check_fits) l29 c29 k29
 have b29:=F29.binds (ps:=["fits"]) fun _ _ _ _ _ _ us hl=>match us,hl with | [_],_=>rfl
 have F30:=fun_mk (st:=s_mark) l30 c30 k30
 have b30:=F30.binds (ps:=["marks","things"]) fun _ _ _ _ _ _ us hl=>match us,hl with | [_,_],_=>rfl
 have F31:=fun_mk (st:=s_parting) l31 c31 k31
 have b31:=F31.binds (ps:=["one","other"]) fun _ _ _ _ _ _ us hl=>match us,hl with | [_,_],_=>rfl
 have F32:=fun_mk (st:=s_firsts) l32 c32 k32
 have b32:=F32.binds (ps:=["fits"]) fun _ _ _ _ _ _ us hl=>match us,hl with | [_],_=>rfl
 have F33:=fun_mk (st:=s_bits_from_weights) l33 c33 k33
 have b33:=F33.binds (ps:=["falling"]) fun _ _ _ _ _ _ us hl=>match us,hl with | [_],_=>rfl
 have F34:=fun_mk (st:=s_find_firsts) l34 c34 k34
 have b34:=F34.binds (ps:=["found","fits","kind","place","from_weight"]) fun _ _ _ _ _ _ us hl=>match us,hl with | [_,_,_,_,_],_=>rfl
 have F35:=fun_mk (st:=s_law_cell_at) l35 c35 k35
 have b35:=F35.binds (ps:=["_law_script","_law_k"]) fun _ _ _ _ _ _ us hl=>match us,hl with | [_,_],_=>rfl
 have F36:=fun_mk (st:=s_law_begin) l36 c36 k36
 have b36:=F36.binds (ps:=["_law_cell"]) fun _ _ _ _ _ _ us hl=>match us,hl with | [_],_=>rfl
 have F37:=fun_mk (st:=s_law_next) l37 c37 k37
 have b37:=F37.binds (ps:=["_law_state","_law_base"]) fun _ _ _ _ _ _ us hl=>match us,hl with | [_,_],_=>rfl
 have F38:=fun_mk (st:=s_law_name) l38 c38 k38
 have b38:=F38.binds (ps:=["_law_state"]) fun _ _ _ _ _ _ us hl=>match us,hl with | [_],_=>rfl
 have F39:=fun_mk (st:=s_law_leaf) l39 c39 k39
 have b39:=F39.binds (ps:=["_law_state","_law_more"]) fun _ _ _ _ _ _ us hl=>match us,hl with | [_,_],_=>rfl
 have F40:=fun_mk (st:=s_law_tree) l40 c40 k40
 have b40:=F40.binds (ps:=["_law_state","_law_deep","_law_more"]) fun _ _ _ _ _ _ us hl=>match us,hl with | [_,_,_],_=>rfl
 have F41:=fun_mk (st:=s_law_made) l41 c41 k41
 have b41:=F41.binds (ps:=["_law_tree_here"]) fun _ _ _ _ _ _ us hl=>match us,hl with | [_],_=>rfl
 have F42:=fun_mk (st:=s_law_fits) l42 c42 k42
 have b42:=F42.binds (ps:=["_law_tree_here","_law_thing"]) fun _ _ _ _ _ _ us hl=>match us,hl with | [_,_],_=>rfl
 have F43:=fun_mk (st:=s_law_gathered) l43 c43 k43
 have b43:=F43.binds (ps:=["_law_tree_here","_law_word"]) fun _ _ _ _ _ _ us hl=>match us,hl with | [_,_],_=>rfl
 have F44:=fun_mk (st:=s_law_beside) l44 c44 k44
 have b44:=F44.binds (ps:=["_law_names"]) fun _ _ _ _ _ _ us hl=>match us,hl with | [_],_=>rfl
 have F45:=fun_mk (st:=s_law_all) l45 c45 k45
 have b45:=F45.binds (ps:=["_law_trees"]) fun _ _ _ _ _ _ us hl=>match us,hl with | [_],_=>rfl
 have F46:=fun_mk (st:=s_law_right) l46 c46 k46
 have b46:=F46.binds (ps:=["_law_found","_law_one","_law_other","_law_some"]) fun _ _ _ _ _ _ us hl=>match us,hl with | [_,_,_,_],_=>rfl
 have F47:=fun_mk (st:=s_law) l47 c47 k47
 have b47:=F47.binds (ps:=["_law_script"]) fun _ _ _ _ _ _ us hl=>match us,hl with | [_],_=>rfl
 refine ⟨(⟨z0,z1,z2,z3,z4,z5,z6,z7,z8,t0,t1⟩:Ad),fnOf "law" "law" (defArgs s_law) (defBody s_law) (defScope s_law) .none kV47 dc47 pm47 an47 cd47 ct47,fun s v=>.of_eq rfl,fun base _ _=>?_⟩
 have G_is_whole:FnOk l.prog w K mg base (CXF l.prog w) 1 _ _ _ _:=FnOk.up (ok_is_whole B  F0)
 have C_is_whole:CalX l.prog w K mg base _ _ 1 _:=⟨_,_,G_is_whole,b0,k0,mg_of X G a0⟩
 have G_is_name:FnOk l.prog w K mg base (CXF l.prog w) 1 _ _ _ _:=FnOk.up (ok_is_name B  F2)
 have C_is_name:CalX l.prog w K mg base _ _ 1 _:=⟨_,_,G_is_name,b2,k2,mg_of X G a2⟩
 have G_counted_name:FnOk l.prog w K mg base (CXF l.prog w) 1 _ _ _ _:=FnOk.up (ok_counted_name B  F5)
 have C_counted_name:CalX l.prog w K mg base _ _ 1 _:=⟨_,_,G_counted_name,b5,k5,mg_of X G a5⟩
 have G_check_fit:FnOk l.prog w K mg base (CXF l.prog w) 1 _ _ _ _:=FnOk.up (ok_check_fit B  F28)
 have C_check_fit:CalX l.prog w K mg base _ _ 1 _:=⟨_,_,G_check_fit,b28,k28,mg_of X G a28⟩
 have G_mark:FnOk l.prog w K mg base (CXF l.prog w) 1 _ _ _ _:=FnOk.up (ok_mark B  F30)
 have C_mark:CalX l.prog w K mg base _ _ 1 _:=⟨_,_,G_mark,b30,k30,mg_of X G a30⟩
 have G_bits_from_weights:FnOk l.prog w K mg base (CXF l.prog w) 1 _ _ _ _:=FnOk.up (ok_bits_from_weights B  F33)
 have C_bits_from_weights:CalX l.prog w K mg base _ _ 1 _:=⟨_,_,G_bits_from_weights,b33,k33,mg_of X G a33⟩
 have G_law_cell_at:FnOk l.prog w K mg base (CXF l.prog w) 1 _ _ _ _:=FnOk.up (ok_law_cell_at B  F35)
 have C_law_cell_at:CalX l.prog w K mg base _ _ 1 _:=⟨_,_,G_law_cell_at,b35,k35,mg_of X G a35⟩
 have G_law_begin:FnOk l.prog w K mg base (CXF l.prog w) 1 _ _ _ _:=FnOk.up (ok_law_begin B  F36)
 have C_law_begin:CalX l.prog w K mg base _ _ 1 _:=⟨_,_,G_law_begin,b36,k36,mg_of X G a36⟩
 have G_law_next:FnOk l.prog w K mg base (CXF l.prog w) 1 _ _ _ _:=FnOk.up (ok_law_next B  F37)
 have C_law_next:CalX l.prog w K mg base _ _ 1 _:=⟨_,_,G_law_next,b37,k37,mg_of X G a37⟩
 have G_law_beside:FnOk l.prog w K mg base (CXF l.prog w) 1 _ _ _ _:=FnOk.up (ok_law_beside B  F44)
 have C_law_beside:CalX l.prog w K mg base _ _ 1 _:=⟨_,_,G_law_beside,b44,k44,mg_of X G a44⟩
 have G_is_whole_from:FnOk l.prog w K mg base (CXF l.prog w) 2 _ _ _ _:=FnOk.up (ok_is_whole_from B C_is_whole F1)
 have C_is_whole_from:CalX l.prog w K mg base _ _ 2 _:=⟨_,_,G_is_whole_from,b1,k1,mg_of X G a1⟩
 have G_are_unlike_names:FnOk l.prog w K mg base (CXF l.prog w) 2 _ _ _ _:=FnOk.up (ok_are_unlike_names B C_is_name F4)
 have C_are_unlike_names:CalX l.prog w K mg base _ _ 2 _:=⟨_,_,G_are_unlike_names,b4,k4,mg_of X G a4⟩
 have G_unused_name:FnOk l.prog w K mg base (CXF l.prog w) 2 _ _ _ _:=FnOk.up (ok_unused_name B C_counted_name F6)
 have C_unused_name:CalX l.prog w K mg base _ _ 2 _:=⟨_,_,G_unused_name,b6,k6,mg_of X G a6⟩
 have G_Not___init__:FnOk l.prog w K mg base (CXF l.prog w) 2 _ _ _ _:=FnOk.up (ok_Not___init__ B C_check_fit F18)
 have CC_Not:CalC l.prog w K mg base "Not" z6 ["self","fit"] 2 (sp_Not___init__ K _):=⟨_,_,G_Not___init__,b18,⟨mkNot,a18,i18,kcNot⟩,B.Not⟩
 have G_check_fits:FnOk l.prog w K mg base (CXF l.prog w) 2 _ _ _ _:=FnOk.up (ok_check_fits B C_check_fit F29)
 have C_check_fits:CalX l.prog w K mg base _ _ 2 _:=⟨_,_,G_check_fits,b29,k29,mg_of X G a29⟩
 have G_law_name:FnOk l.prog w K mg base (CXF l.prog w) 2 _ _ _ _:=FnOk.up (ok_law_name B C_law_next F38)
 have C_law_name:CalX l.prog w K mg base _ _ 2 _:=⟨_,_,G_law_name,b38,k38,mg_of X G a38⟩
 have G_Happening___init__:FnOk l.prog w K mg base (CXF l.prog w) 3 _ _ _ _:=FnOk.up (ok_Happening___init__ B C_is_whole_from C_is_name F3)
 have CC_Happening:CalC l.prog w K mg base "Happening" z0 ["self","kind","place","weight"] 3 (sp_Happening___init__ K _):=⟨_,_,G_Happening___init__,b3,⟨mkHappening,a3,i3,kcHappening⟩,B.Happening⟩
 have G_Least___init__:FnOk l.prog w K mg base (CXF l.prog w) 3 _ _ _ _:=FnOk.up (ok_Least___init__ B C_is_whole_from F15)
 have CC_Least:CalC l.prog w K mg base "Least" z5 ["self","weight"] 3 (sp_Least___init__ K _):=⟨_,_,G_Least___init__,b15,⟨mkLeast,a15,i15,kcLeast⟩,B.Least⟩
 have G_Both___init__:FnOk l.prog w K mg base (CXF l.prog w) 3 _ _ _ _:=FnOk.up (ok_Both___init__ B C_check_fits F21)
 have CC_Both:CalC l.prog w K mg base "Both" z7 ["self","fits"] 3 (sp_Both___init__ K _):=⟨_,_,G_Both___init__,b21,⟨mkBoth,a21,i21,kcBoth⟩,B.Both⟩
 have G_Either___init__:FnOk l.prog w K mg base (CXF l.prog w) 3 _ _ _ _:=FnOk.up (ok_Either___init__ B C_check_fits F24)
 have CC_Either:CalC l.prog w K mg base "Either" z8 ["self","fits"] 3 (sp_Either___init__ K _):=⟨_,_,G_Either___init__,b24,⟨mkEither,a24,i24,kcEither⟩,B.Either⟩
 have G_check_names:FnOk l.prog w K mg base (CXF l.prog w) 3 _ _ _ _:=FnOk.up (ok_check_names B C_are_unlike_names F27)
 have C_check_names:CalX l.prog w K mg base _ _ 3 _:=⟨_,_,G_check_names,b27,k27,mg_of X G a27⟩
 have G_law_leaf:FnOk l.prog w K mg base (CXF l.prog w) 3 _ _ _ _:=FnOk.up (ok_law_leaf B C_law_next C_law_name F39)
 have C_law_leaf:CalX l.prog w K mg base _ _ 3 _:=⟨_,_,G_law_leaf,b39,k39,mg_of X G a39⟩
 have G_Kind___init__:FnOk l.prog w K mg base (CXF l.prog w) 4 _ _ _ _:=FnOk.up (ok_Kind___init__ B C_check_names F9)
 have CC_Kind:CalC l.prog w K mg base "Kind" z3 ["self","names"] 4 (sp_Kind___init__ K _):=⟨_,_,G_Kind___init__,b9,⟨mkKind,a9,i9,kcKind⟩,B.Kind⟩
 have G_Place___init__:FnOk l.prog w K mg base (CXF l.prog w) 4 _ _ _ _:=FnOk.up (ok_Place___init__ B C_check_names F12)
 have CC_Place:CalC l.prog w K mg base "Place" z4 ["self","names"] 4 (sp_Place___init__ K _):=⟨_,_,G_Place___init__,b12,⟨mkPlace,a12,i12,kcPlace⟩,B.Place⟩
 have CMr_weight_bits:∀ d C sp,Mm_weight_bits K (⟨z0,z1,z2,z3,z4,z5,z6,z7,z8,t0,t1⟩:Ad) d C sp→CalM l.prog w K mg base C "weight_bits" ["self","kind","place","from_weight"] (0+d) sp:=by
  intro d
  induction d with
  | zero =>
   rintro C sp ⟨t,rfl,rfl⟩
   cases t with
   | any=>exact ⟨⟨_,_,FnOk.nev sp0_weight_bits,b8,⟨a8,i8,k8⟩,B.ck_Any.cl⟩⟩
   | kind us=>exact ⟨⟨_,_,FnOk.nev sp0_weight_bits,b11,⟨a11,i11,k11⟩,B.ck_Kind.cl⟩⟩
   | place us=>exact ⟨⟨_,_,FnOk.nev sp0_weight_bits,b14,⟨a14,i14,k14⟩,B.ck_Place.cl⟩⟩
   | weight n=>exact ⟨⟨_,_,FnOk.nev sp0_weight_bits,b17,⟨a17,i17,k17⟩,B.ck_Least.cl⟩⟩
   | not t=>exact ⟨⟨_,_,FnOk.nev sp0_weight_bits,b20,⟨a20,i20,k20⟩,B.ck_Not.cl⟩⟩
   | both ts=>exact ⟨⟨_,_,FnOk.nev sp0_weight_bits,b23,⟨a23,i23,k23⟩,B.ck_Both.cl⟩⟩
   | either ts=>exact ⟨⟨_,_,FnOk.nev sp0_weight_bits,b26,⟨a26,i26,k26⟩,B.ck_Either.cl⟩⟩
  | succ d ih =>
   rintro C sp ⟨t,rfl,rfl⟩
   cases t with
   | any=>exact ⟨⟨_,_,FnOk.up (ok_Any_weight_bits (P:=l.prog) (w:=w) (base:=base) (Nat.le_add_right _ _) B  F8),b8,⟨a8,i8,k8⟩,B.ck_Any.cl⟩⟩
   | kind us=>exact ⟨⟨_,_,FnOk.up (ok_Kind_weight_bits (P:=l.prog) (w:=w) (base:=base) (Nat.le_add_right _ _) B  F11),b11,⟨a11,i11,k11⟩,B.ck_Kind.cl⟩⟩
   | place us=>exact ⟨⟨_,_,FnOk.up (ok_Place_weight_bits (P:=l.prog) (w:=w) (base:=base) (Nat.le_add_right _ _) B  F14),b14,⟨a14,i14,k14⟩,B.ck_Place.cl⟩⟩
   | weight n=>exact ⟨⟨_,_,FnOk.up (ok_Least_weight_bits (P:=l.prog) (w:=w) (base:=base) (Nat.le_add_right _ _) B  F17),b17,⟨a17,i17,k17⟩,B.ck_Least.cl⟩⟩
   | not t=>exact ⟨⟨_,_,FnOk.up (ok_Not_weight_bits (P:=l.prog) (w:=w) (base:=base) (Nat.le_add_right _ _) B ih F20),b20,⟨a20,i20,k20⟩,B.ck_Not.cl⟩⟩
   | both ts=>exact ⟨⟨_,_,FnOk.up (ok_Both_weight_bits (P:=l.prog) (w:=w) (base:=base) (Nat.le_add_right _ _) B ih F23),b23,⟨a23,i23,k23⟩,B.ck_Both.cl⟩⟩
   | either ts=>exact ⟨⟨_,_,FnOk.up (ok_Either_weight_bits (P:=l.prog) (w:=w) (base:=base) (Nat.le_add_right _ _) B ih F26),b26,⟨a26,i26,k26⟩,B.ck_Either.cl⟩⟩
 have CM_weight_bits:∀ C sp,Mm_weight_bits K (⟨z0,z1,z2,z3,z4,z5,z6,z7,z8,t0,t1⟩:Ad) 5 C sp→CalM l.prog w K mg base C "weight_bits" ["self","kind","place","from_weight"] 5 sp:=fun C sp h=>CMr_weight_bits 5 C sp h
 have C_law_fits:CalX l.prog w K mg base "_law_fits" ["_law_tree_here","_law_thing"] 5 (sp_law_fits K _ 5):=rec_cal (spf:=sp_law_fits K _) (n0:=0) sp0_law_fits b42 k42 (mg_of X G a42) (fun d n hn C=>FnOk.up (ok_law_fits (P:=l.prog) (w:=w) (base:=base) hn B C F42)) 5 (by decide)
 have CMr_note_turns:∀ d C sp,Mm_note_turns K (⟨z0,z1,z2,z3,z4,z5,z6,z7,z8,t0,t1⟩:Ad) d C sp→CalM l.prog w K mg base C "note_turns" ["self","kinds","places","weights"] (1+d) sp:=by
  intro d
  induction d with
  | zero =>
   rintro C sp ⟨t,rfl,rfl⟩
   cases t with
   | any=>exact ⟨⟨_,_,FnOk.nev sp0_note_turns,b7,⟨a7,i7,k7⟩,B.ck_Any.cl⟩⟩
   | kind us=>exact ⟨⟨_,_,FnOk.nev sp0_note_turns,b10,⟨a10,i10,k10⟩,B.ck_Kind.cl⟩⟩
   | place us=>exact ⟨⟨_,_,FnOk.nev sp0_note_turns,b13,⟨a13,i13,k13⟩,B.ck_Place.cl⟩⟩
   | weight n=>exact ⟨⟨_,_,FnOk.nev sp0_note_turns,b16,⟨a16,i16,k16⟩,B.ck_Least.cl⟩⟩
   | not t=>exact ⟨⟨_,_,FnOk.nev sp0_note_turns,b19,⟨a19,i19,k19⟩,B.ck_Not.cl⟩⟩
   | both ts=>exact ⟨⟨_,_,FnOk.nev sp0_note_turns,b22,⟨a22,i22,k22⟩,B.ck_Both.cl⟩⟩
   | either ts=>exact ⟨⟨_,_,FnOk.nev sp0_note_turns,b25,⟨a25,i25,k25⟩,B.ck_Either.cl⟩⟩
  | succ d ih =>
   rintro C sp ⟨t,rfl,rfl⟩
   cases t with
   | any=>exact ⟨⟨_,_,FnOk.up (ok_Any_note_turns (P:=l.prog) (w:=w) (base:=base) (Nat.le_add_right _ _) B  F7),b7,⟨a7,i7,k7⟩,B.ck_Any.cl⟩⟩
   | kind us=>exact ⟨⟨_,_,FnOk.up (ok_Kind_note_turns (P:=l.prog) (w:=w) (base:=base) (Nat.le_add_right _ _) B C_mark F10),b10,⟨a10,i10,k10⟩,B.ck_Kind.cl⟩⟩
   | place us=>exact ⟨⟨_,_,FnOk.up (ok_Place_note_turns (P:=l.prog) (w:=w) (base:=base) (Nat.le_add_right _ _) B C_mark F13),b13,⟨a13,i13,k13⟩,B.ck_Place.cl⟩⟩
   | weight n=>exact ⟨⟨_,_,FnOk.up (ok_Least_note_turns (P:=l.prog) (w:=w) (base:=base) (Nat.le_add_right _ _) B C_mark F16),b16,⟨a16,i16,k16⟩,B.ck_Least.cl⟩⟩
   | not t=>exact ⟨⟨_,_,FnOk.up (ok_Not_note_turns (P:=l.prog) (w:=w) (base:=base) (Nat.le_add_right _ _) B ih F19),b19,⟨a19,i19,k19⟩,B.ck_Not.cl⟩⟩
   | both ts=>exact ⟨⟨_,_,FnOk.up (ok_Both_note_turns (P:=l.prog) (w:=w) (base:=base) (Nat.le_add_right _ _) B ih F22),b22,⟨a22,i22,k22⟩,B.ck_Both.cl⟩⟩
   | either ts=>exact ⟨⟨_,_,FnOk.up (ok_Either_note_turns (P:=l.prog) (w:=w) (base:=base) (Nat.le_add_right _ _) B ih F25),b25,⟨a25,i25,k25⟩,B.ck_Either.cl⟩⟩
 have CM_note_turns:∀ C sp,Mm_note_turns K (⟨z0,z1,z2,z3,z4,z5,z6,z7,z8,t0,t1⟩:Ad) 5 C sp→CalM l.prog w K mg base C "note_turns" ["self","kinds","places","weights"] 6 sp:=fun C sp h=>CMr_note_turns 5 C sp h
 have G_find_firsts:FnOk l.prog w K mg base (CXF l.prog w) 6 _ _ _ _:=FnOk.up (ok_find_firsts B CM_weight_bits CC_Happening F34)
 have C_find_firsts:CalX l.prog w K mg base _ _ 6 _:=⟨_,_,G_find_firsts,b34,k34,mg_of X G a34⟩
 have C_law_tree:CalX l.prog w K mg base "_law_tree" ["_law_state","_law_deep","_law_more"] 6 (sp_law_tree K _ 3):=rec_cal (spf:=sp_law_tree K _) (n0:=3) sp0_law_tree b40 k40 (mg_of X G a40) (fun d n hn C=>FnOk.up (ok_law_tree (P:=l.prog) (w:=w) (base:=base) hn B C_law_next C_law_leaf C F40)) 3 (by decide)
 have C_law_gathered:CalX l.prog w K mg base "_law_gathered" ["_law_tree_here","_law_word"] 6 (sp_law_gathered K _ 6):=rec_cal (spf:=sp_law_gathered K _) (n0:=0) sp0_law_gathered b43 k43 (mg_of X G a43) (fun d n hn C=>FnOk.up (ok_law_gathered (P:=l.prog) (w:=w) (base:=base) hn B C F43)) 6 (by decide)
 have G_law_right:FnOk l.prog w K mg base (CXF l.prog w) 6 _ _ _ _:=FnOk.up (ok_law_right B C_law_fits C_is_name F46)
 have C_law_right:CalX l.prog w K mg base _ _ 6 _:=⟨_,_,G_law_right,b46,k46,mg_of X G a46⟩
 have G_firsts:FnOk l.prog w K mg base (CXF l.prog w) 7 _ _ _ _:=FnOk.up (ok_firsts B C_bits_from_weights CM_note_turns C_unused_name C_find_firsts F32)
 have C_firsts:CalX l.prog w K mg base _ _ 7 _:=⟨_,_,G_firsts,b32,k32,mg_of X G a32⟩
 have G_law_all:FnOk l.prog w K mg base (CXF l.prog w) 7 _ _ _ _:=FnOk.up (ok_law_all B C_law_beside C_law_gathered F45)
 have C_law_all:CalX l.prog w K mg base _ _ 7 _:=⟨_,_,G_law_all,b45,k45,mg_of X G a45⟩
 have G_parting:FnOk l.prog w K mg base (CXF l.prog w) 8 _ _ _ _:=FnOk.up (ok_parting B C_firsts F31)
 have C_parting:CalX l.prog w K mg base _ _ 8 _:=⟨_,_,G_parting,b31,k31,mg_of X G a31⟩
 have C_law_made:CalX l.prog w K mg base "_law_made" ["_law_tree_here"] 10 (sp_law_made K _ 5):=rec_cal (spf:=sp_law_made K _) (n0:=5) sp0_law_made b41 k41 (mg_of X G a41) (fun d n hn C=>FnOk.up (ok_law_made (P:=l.prog) (w:=w) (base:=base) hn B CC_Either CC_Kind CC_Place CC_Least CC_Not CC_Both C F41)) 5 (by decide)
 exact ok_law (P:=l.prog) (w:=w) (base:=base) B C_law_tree C_law_begin C_law_all C_law_made C_parting C_law_cell_at C_law_right C_law_next C_law_leaf F47
theorem walk {l:OpenLaw}{q:Program}{loose:List Str}{XP:(Str→Option Value)→Heap→Prop}{YP:World→Heap→Prop}{d:DefRec}{K:Params→Frag}(hn:l.most=some 63)(hdf:d.params.defaults=[])(hY:∀ (w:World) (h:Heap),YP w h→(K w.params).In h)(F:∀ (w:World) (mg:Str→Option Value) (fa:Addr) (h:Heap),(K w.params).In h→h.Ns mainGlobals mg→mg d.name=some (.ref fa) →
   ∃ fd:FuncData,(∀ (s:Shared) (u:Value),BindsTo s fd ⟨[u],[]⟩ [("_law_script",u)])∧∀ base:Heap,(K w.params).In base→base.Ns mainGlobals mg→FnOk l.prog w (K w.params) mg base CX0 11 fa fd ["_law_script"] (spL (K w.params))) :
  WalkO q loose XP YP l.row.toRowW d [] (fun f vs=>PySem.call f vs) :=
 L2.walk_of (n:=63) (k:=11) (x:="_law_script") (CX:=fun _=>CX0) (sp:=fun w=>spL (K w.params)) hn (by decide) hdf ⟨rfl,by decide,by decide⟩ hY F (fun _ _ a ns hl _ hS=>⟨a,ns,rfl,hS,hl,fun _=>rfl⟩) fun _ _ _ _ _ z=>z
theorem all_mk2 {P:Program}{w:World}{K:Frag}{mg:Str→Option Value}{fa:Addr}(h:∃ (a:Ad) (fd:FuncData),(∀ (s:Shared) (v:Value),BindsTo s fd ⟨[v],[]⟩ [("_law_script",v)])∧∀ base:Heap,K.In base→base.Ns mainGlobals mg→FnOk P w K mg base CX0 11 fa fd ["_law_script"] (sp_law K a)) :
  ∃ fd:FuncData,(∀ (s:Shared) (v:Value),BindsTo s fd ⟨[v],[]⟩ [("_law_script",v)])∧∀ base:Heap,K.In base→base.Ns mainGlobals mg→FnOk P w K mg base CX0 11 fa fd ["_law_script"] (spL K):=by
 obtain ⟨a,fd,b,q⟩:=h
 exact ⟨fd,b,fun base x y=>q base x y⟩
end Bw
open PySem PySem.W PyProof.Rows
set_option maxRecDepth 100000 in
set_option maxHeartbeats 0 in
theorem PySem.Challenge.cw_bellsaway_k10_what_parts_two_fits_holds : PySem.Challenge.rw_bellsaway_k10_what_parts_two_fits.Holds := by
 w_on; o_law; k_head; (case hw=>w_witness2)
 k_fill
 refine Bw.walk (l:=PySem.Challenge.rw_bellsaway_k10_what_parts_two_fits) rfl rfl (fun w h Y=>PySem.W.kIn_of Y) ?F
 case F =>
  intro w mg fa h KX G hmg
  refine Bw.all_mk2 ?Z
  refine' Bw.all_mk KX G hmg ?a0 ?l0 ?c0 ?k0 ?a1 ?l1 ?c1 ?k1 ?a2 ?l2 ?c2 ?k2 ?a3 ?i3 ?l3 ?c3 ?k3 ?a4 ?l4 ?c4 ?k4 ?a5 ?l5 ?c5 ?k5 ?a6 ?l6 ?c6 ?k6 ?a7 ?i7 ?l7 ?c7 ?k7 ?a8 ?i8 ?l8 ?c8 ?k8 ?a9 ?i9 ?l9 ?c9 ?k9 ?a10 ?i10 ?l10 ?c10 ?k10 ?a11 ?i11 ?l11 ?c11 ?k11 ?a12 ?i12 ?l12 ?c12 ?k12 ?a13 ?i13 ?l13 ?c13 ?k13 ?a14 ?i14 ?l14 ?c14 ?k14 ?a15 ?i15 ?l15 ?c15 ?k15 ?a16 ?i16 ?l16 ?c16 ?k16 ?a17 ?i17 ?l17 ?c17 ?k17 ?a18 ?i18 ?l18 ?c18 ?k18 ?a19 ?i19 ?l19 ?c19 ?k19 ?a20 ?i20 ?l20 ?c20 ?k20 ?a21 ?i21 ?l21 ?c21 ?k21 ?a22 ?i22 ?l22 ?c22 ?k22 ?a23 ?i23 ?l23 ?c23 ?k23 ?a24 ?i24 ?l24 ?c24 ?k24 ?a25 ?i25 ?l25 ?c25 ?k25 ?a26 ?i26 ?l26 ?c26 ?k26 ?a27 ?l27 ?c27 ?k27 ?a28 ?l28 ?c28 ?k28 ?a29 ?l29 ?c29 ?k29 ?a30 ?l30 ?c30 ?k30 ?a31 ?l31 ?c31 ?k31 ?a32 ?l32 ?c32 ?k32 ?a33 ?l33 ?c33 ?k33 ?a34 ?l34 ?c34 ?k34 ?a35 ?l35 ?c35 ?k35 ?a36 ?l36 ?c36 ?k36 ?a37 ?l37 ?c37 ?k37 ?a38 ?l38 ?c38 ?k38 ?a39 ?l39 ?c39 ?k39 ?a40 ?l40 ?c40 ?k40 ?a41 ?l41 ?c41 ?k41 ?a42 ?l42 ?c42 ?k42 ?a43 ?l43 ?c43 ?k43 ?a44 ?l44 ?c44 ?k44 ?a45 ?l45 ?c45 ?k45 ?a46 ?l46 ?c46 ?k46 ?a47 ?l47 ?c47 ?k47 ?y0 ?y1 ?y2 ?y3 ?y4 ?y5 ?y6 ?y7 ?y8 ?y9 ?y10 ?y11 ?y12 ?y13 ?y14 ?y15 ?y16 ?y17 ?y18 ?y19 ?y20 ?y21 ?y22 ?y23_0 ?y23_1 ?y23_2 ?y23_3 ?y23_4 ?y23_5 ?y23_6 ?y23_7 ?y24_0 ?y24_1 ?y24_2 ?y24_3 ?y24_4 ?y24_5 ?y24_6 ?y24_7 ?y25 ?y26_0 ?y26_1 ?y26_2 ?y26_3 ?y26_4 ?y26_5 ?y26_6 ?y26_7 ?y27 ?y28_0 ?y28_1 ?y28_2 ?y28_3 ?y28_4 ?y28_5 ?y28_6 ?y28_7 ?y29 ?y30_0 ?y30_1 ?y30_2 ?y30_3 ?y30_4 ?y30_5 ?y30_6 ?y30_7 ?y31 ?y32_0 ?y32_1 ?y32_2 ?y32_3 ?y32_4 ?y32_5 ?y32_6 ?y32_7 ?y33 ?y34_0 ?y34_1 ?y34_2 ?y34_3 ?y34_4 ?y34_5 ?y34_6 ?y34_7 ?y35 ?y36_0 ?y36_1 ?y36_2 ?y36_3 ?y36_4 ?y36_5 ?y36_6 ?y36_7 ?y37 ?y38 ?y39 ?y40 ?y41 ?y42 ?y43 ?y44 ?y45 ?y46 ?y47_0 ?y47_1 ?y47_2 ?y48 ?mkHappening ?kcHappening ?mkKind ?kcKind ?mkPlace ?kcPlace ?mkLeast ?kcLeast ?mkNot ?kcNot ?mkBoth ?kcBoth ?mkEither ?kcEither
  (case y0=>k_is)
  (case y1=>k_is)
  (case y2=>k_is)
  (case y3=>k_is)
  (case y4=>k_is)
  (case y5=>k_is)
  (case y6=>k_is)
  (case y7=>k_is)
  (case y8=>k_is)
  (case y9=>k_is)
  (case y10=>k_is)
  (case y11=>k_is)
  (case y12=>k_is)
  (case y13=>k_is)
  (case y14=>k_is)
  (case y15=>k_is)
  (case y16=>k_is)
  (case y17=>k_is)
  (case y18=>k_is)
  (case y19=>k_is)
  (case y20=>k_is)
  (case y21=>k_is)
  (case y22=>k_is)
  (case a0=>k_is)
  (case l0=>k_is)
  (case c0=>k_is)
  (case k0=>k_is)
  (case a1=>k_is)
  (case l1=>k_is)
  (case c1=>k_is)
  (case k1=>k_is)
  (case a2=>k_is)
  (case l2=>k_is)
  (case c2=>k_is)
  (case k2=>k_is)
  (case a3=>k_is)
  (case i3=>k_is)
  (case l3=>k_is)
  (case c3=>k_is)
  (case k3=>k_is)
  (case a4=>k_is)
  (case l4=>k_is)
  (case c4=>k_is)
  (case k4=>k_is)
  (case a5=>k_is)
  (case l5=>k_is)
  (case c5=>k_is)
  (case k5=>k_is)
  (case a6=>k_is)
  (case l6=>k_is)
  (case c6=>k_is)
  (case k6=>k_is)
  (case a7=>k_is)
  (case i7=>k_is)
  (case l7=>k_is)
  (case c7=>k_is)
  (case k7=>k_is)
  (case a8=>k_is)
  (case i8=>k_is)
  (case l8=>k_is)
  (case c8=>k_is)
  (case k8=>k_is)
  (case a9=>k_is)
  (case i9=>k_is)
  (case l9=>k_is)
  (case c9=>k_is)
  (case k9=>k_is)
  (case a10=>k_is)
  (case i10=>k_is)
  (case l10=>k_is)
  (case c10=>k_is)
  (case k10=>k_is)
  (case a11=>k_is)
  (case i11=>k_is)
  (case l11=>k_is)
  (case c11=>k_is)
  (case k11=>k_is)
  (case a12=>k_is)
  (case i12=>k_is)
  (case l12=>k_is)
  (case c12=>k_is)
  (case k12=>k_is)
  (case a13=>k_is)
  (case i13=>k_is)
  (case l13=>k_is)
  (case c13=>k_is)
  (case k13=>k_is)
  (case a14=>k_is)
  (case i14=>k_is)
  (case l14=>k_is)
  (case c14=>k_is)
  (case k14=>k_is)
  (case a15=>k_is)
  (case i15=>k_is)
  (case l15=>k_is)
  (case c15=>k_is)
  (case k15=>k_is)
  (case a16=>k_is)
  (case i16=>k_is)
  (case l16=>k_is)
  (case c16=>k_is)
  (case k16=>k_is)
  (case a17=>k_is)
  (case i17=>k_is)
  (case l17=>k_is)
  (case c17=>k_is)
  (case k17=>k_is)
  (case a18=>k_is)
  (case i18=>k_is)
  (case l18=>k_is)
  (case c18=>k_is)
  (case k18=>k_is)
  (case a19=>k_is)
  (case i19=>k_is)
  (case l19=>k_is)
  (case c19=>k_is)
  (case k19=>k_is)
  (case a20=>k_is)
  (case i20=>k_is)
  (case l20=>k_is)
  (case c20=>k_is)
  (case k20=>k_is)
  (case a21=>k_is)
  (case i21=>k_is)
  (case l21=>k_is)
  (case c21=>k_is)
  (case k21=>k_is)
  (case a22=>k_is)
  (case i22=>k_is)
  (case l22=>k_is)
  (case c22=>k_is)
  (case k22=>k_is)
  (case a23=>k_is)
  (case i23=>k_is)
  (case l23=>k_is)
  (case c23=>k_is)
  (case k23=>k_is)
  (case a24=>k_is)
  (case i24=>k_is)
  (case l24=>k_is)
  (case c24=>k_is)
  (case k24=>k_is)
  (case a25=>k_is)
  (case i25=>k_is)
  (case l25=>k_is)
  (case c25=>k_is)
  (case k25=>k_is)
  (case a26=>k_is)
  (case i26=>k_is)
  (case l26=>k_is)
  (case c26=>k_is)
  (case k26=>k_is)
  (case a27=>k_is)
  (case l27=>k_is)
  (case c27=>k_is)
  (case k27=>k_is)
  (case a28=>k_is)
  (case l28=>k_is)
  (case c28=>k_is)
  (case k28=>k_is)
  (case a29=>k_is)
  (case l29=>k_is)
  (case c29=>k_is)
  (case k29=>k_is)
  (case a30=>k_is)
  (case l30=>k_is)
  (case c30=>k_is)
  (case k30=>k_is)
  (case a31=>k_is)
  (case l31=>k_is)
  (case c31=>k_is)
  (case k31=>k_is)
  (case a32=>k_is)
  (case l32=>k_is)
  (case c32=>k_is)
  (case k32=>k_is)
  (case a33=>k_is)
  (case l33=>k_is)
  (case c33=>k_is)
  (case k33=>k_is)
  (case a34=>k_is)
  (case l34=>k_is)
  (case c34=>k_is)
  (case k34=>k_is)
  (case a35=>k_is)
  (case l35=>k_is)
  (case c35=>k_is)
  (case k35=>k_is)
  (case a36=>k_is)
  (case l36=>k_is)
  (case c36=>k_is)
  (case k36=>k_is)
  (case a37=>k_is)
  (case l37=>k_is)
  (case c37=>k_is)
  (case k37=>k_is)
  (case a38=>k_is)
  (case l38=>k_is)
  (case c38=>k_is)
  (case k38=>k_is)
  (case a39=>k_is)
  (case l39=>k_is)
  (case c39=>k_is)
  (case k39=>k_is)
  (case a40=>k_is)
  (case l40=>k_is)
  (case c40=>k_is)
  (case k40=>k_is)
  (case a41=>k_is)
  (case l41=>k_is)
  (case c41=>k_is)
  (case k41=>k_is)
  (case a42=>k_is)
  (case l42=>k_is)
  (case c42=>k_is)
  (case k42=>k_is)
  (case a43=>k_is)
  (case l43=>k_is)
  (case c43=>k_is)
  (case k43=>k_is)
  (case a44=>k_is)
  (case l44=>k_is)
  (case c44=>k_is)
  (case k44=>k_is)
  (case a45=>k_is)
  (case l45=>k_is)
  (case c45=>k_is)
  (case k45=>k_is)
  (case a46=>k_is)
  (case l46=>k_is)
  (case c46=>k_is)
  (case k46=>k_is)
  (case a47=>k_is)
  (case l47=>k_is)
  (case c47=>k_is)
  (case k47=>k_is)
  (case y23_0=>k_is)
  (case y23_1=>k_is)
  (case y23_2=>k_is)
  (case y23_3=>k_is)
  (case y23_4=>k_is)
  (case y23_5=>k_is)
  (case y23_6=>k_is)
  (case y23_7=>k_is)
  (case y24_0=>k_is)
  (case y24_1=>k_is)
  (case y24_2=>k_is)
  (case y24_3=>k_is)
  (case y24_4=>k_is)
  (case y24_5=>k_is)
  (case y24_6=>k_is)
  (case y24_7=>k_is)
  (case y25=>k_is)
  (case y26_0=>k_is)
  (case y26_1=>k_is)
  (case y26_2=>k_is)
  (case y26_3=>k_is)
  (case y26_4=>k_is)
  (case y26_5=>k_is)
  (case y26_6=>k_is)
  (case y26_7=>k_is)
  (case y27=>k_is)
  (case y28_0=>k_is)
  (case y28_1=>k_is)
  (case y28_2=>k_is)
  (case y28_3=>k_is)
  (case y28_4=>k_is)
  (case y28_5=>k_is)
  (case y28_6=>k_is)
  (case y28_7=>k_is)
  (case y29=>k_is)
  (case y30_0=>k_is)
  (case y30_1=>k_is)
  (case y30_2=>k_is)
  (case y30_3=>k_is)
  (case y30_4=>k_is)
  (case y30_5=>k_is)
  (case y30_6=>k_is)
  (case y30_7=>k_is)
  (case y31=>k_is)
  (case y32_0=>k_is)
  (case y32_1=>k_is)
  (case y32_2=>k_is)
  (case y32_3=>k_is)
  (case y32_4=>k_is)
  (case y32_5=>k_is)
  (case y32_6=>k_is)
  (case y32_7=>k_is)
  (case y33=>k_is)
  (case y34_0=>k_is)
  (case y34_1=>k_is)
  (case y34_2=>k_is)
  (case y34_3=>k_is)
  (case y34_4=>k_is)
  (case y34_5=>k_is)
  (case y34_6=>k_is)
  (case y34_7=>k_is)
  (case y35=>k_is)
  (case y36_0=>k_is)
  (case y36_1=>k_is)
  (case y36_2=>k_is)
  (case y36_3=>k_is)
  (case y36_4=>k_is)
  (case y36_5=>k_is)
  (case y36_6=>k_is)
  (case y36_7=>k_is)
  (case y37=>k_is)
  (case y38=>k_is)
  (case y39=>k_is)
  (case y40=>kit_is)
  (case y41=>kit_is)
  (case y42=>kit_is)
  (case y43=>kit_is)
  (case y44=>kit_is)
  (case y45=>kit_is)
  (case y46=>kit_is)
  (case y47_0=>k_is)
  (case y47_1=>k_is)
  (case y47_2=>k_is)
  (case y48=>kit_is)
  (case mkHappening=>k_is)
  (case kcHappening=>k_is)
  (case mkKind=>k_is)
  (case kcKind=>k_is)
  (case mkPlace=>k_is)
  (case kcPlace=>k_is)
  (case mkLeast=>k_is)
  (case kcLeast=>k_is)
  (case mkNot=>k_is)
  (case kcNot=>k_is)
  (case mkBoth=>k_is)
  (case kcBoth=>k_is)
  (case mkEither=>k_is)
  (case kcEither=>k_is)
